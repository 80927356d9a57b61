import PyProof.Rows.All
import Wide.All
import OpenK.AllK
import Wide.FinOn
import Lean
import PyProof.EqAt
import PyProof.EqKinds
import PyProof.TupleCall
import PyProof.StrLawsChain
import PyProof.StrLawsOccR
import PyProof.StrLawsReplace
import PyProof.NeKinds
import PyProof.EnumStmt
import PyProof.EnumMake
import PyProof.ListRange
import PyProof.StationsW
import PyProof.ExcClass2
import PyProof.ExcInit
import PyProof.InstStoreFacts
import OpenK.KRaise
import PyProof.NsDelKeeps
import PyProof.RulesAs
import PyProof.Rows.Catch
import OpenK.KOwn
import PyProof.ExcArgsOwn
import PyProof.ExcAttrAll.ValueError
import PyProof.IsiBase
import PyProof.MaxThree
import PyProof.SeqI3
import KE.KIsAll
import KE.IntTextLaws
import PyProof.StrLawsIdx
import PyProof.FitsInt
import PySem.Challenge.RW_holdlane_k67_rings_by_hand
set_option Elab.async false
set_option linter.all false
set_option maxRecDepth 100000
namespace L2
open PySem PySem.Spec PyProof.Rows
noncomputable abbrev Key:=Sum Int Str
noncomputable def HJ:Key->Value->Bool
 | .inl k,v=>Value.isInt k v
 | .inr x,v=>Value.isStrOf x v
noncomputable def abg (w:World):Key->Int
 | .inl k=>hashInt k
 | .inr x=>hashStr w x
theorem d9:∀{k:Key} {v:Value},HJ k v=true->(∃i t,k=Sum.inl i/\v=Value.int i t)∨(∃x t,k=Sum.inr x/\v=Value.str x t)
 | .inl i,v,h=>by
  obtain⟨t,e⟩:=Value.isInt_shape (k:=i) (v:=v) h
  exact .inl ⟨i,t,rfl,e⟩
 | .inr x,v,h=>by
  obtain⟨t,e⟩:=Value.isStrOf_shape (x:=x) (v:=v) h
  exact .inr ⟨x,t,rfl,e⟩
theorem QM (i:Int) (t:Tok):HJ (.inl i) (.int i t)=true:=by simp [HJ,Value.isInt]
theorem Qo (x:Str) (t:Tok):HJ (.inr x) (.str x t)=true:=by simp [HJ,Value.isStrOf]
theorem YL (a b:Int):decide ((Sum.inl a:Key)=Sum.inl b)=(a == b):=by
 by_cases e:a=b
 ·subst e;simp
 ·have h:¬(Sum.inl a:Key)=Sum.inl b:=λq=>e (Sum.inl.inj q)
  rw [decide_eq_false h]
  exact(beq_eq_false_iff_ne.mpr e).symm
theorem Zi (a b:Str):decide ((Sum.inr a:Key)=Sum.inr b)=decide (a=b):=by
 by_cases e:a=b
 ·subst e;simp
 ·have h:¬(Sum.inr a:Key)=Sum.inr b:=λq=>e (Sum.inr.inj q)
  rw [decide_eq_false h,decide_eq_false e]
theorem Zm (a:Int) (b:Str):decide ((Sum.inl a:Key)=Sum.inr b)=false:=decide_eq_false (λq=>nomatch q)
theorem Yx (a:Str) (b:Int):decide ((Sum.inr a:Key)=Sum.inl b)=false:=decide_eq_false (λq=>nomatch q)
noncomputable def cD (prog:Program) (w:World):PySem.KeyKind prog w Key where
 is:=HJ
 hash:=abg w
 inj:=λv a b ha hb=>by
  rcases d9 ha with ⟨i,t,rfl,rfl⟩ | ⟨x,t,rfl,rfl⟩
  ·rcases d9 hb with ⟨j,u,rfl,e⟩ | ⟨y,u,rfl,e⟩
   ·injection e with e1 _;rw [e1]
   ·exact nomatch e
  ·rcases d9 hb with ⟨j,u,rfl,e⟩ | ⟨y,u,rfl,e⟩
   ·exact nomatch e
   ·injection e with e1 _;rw [e1]
 byValue:=λk v h=>by
  rcases d9 h with ⟨i,t,rfl,rfl⟩ | ⟨x,t,rfl,rfl⟩ <;> rfl
 pyHash:=λhv h=>by
  rcases d9 hv with ⟨i,t,rfl,rfl⟩ | ⟨x,t,rfl,rfl⟩
  ·exact wpAny_pyHash_int h
  ·exact wpAny_pyHash_str h
 eqBool:=λhu hv h=>by
  rcases d9 hu with ⟨i,t,rfl,rfl⟩ | ⟨x,t,rfl,rfl⟩
  ·rcases d9 hv with ⟨j,u,rfl,rfl⟩ | ⟨y,u,rfl,rfl⟩
   ·rw [YL] at h;exact wpAny_eqBool_int h
   ·rw [Zm] at h;exact SeqAt.EqAt.int_str i t y u _ _ _ _ h
  ·rcases d9 hv with ⟨j,u,rfl,rfl⟩ | ⟨y,u,rfl,rfl⟩
   ·rw [Yx] at h;exact SeqAt.EqAt.str_int x t j u _ _ _ _ h
   ·rw [Zi] at h;exact wpAny_eqBool_str h
 «strs» :=λk x t v h=>by
  rcases d9 h with ⟨i,u,rfl,e⟩ | ⟨y,u,rfl,e⟩
  ·exact nomatch e
  ·injection e with e1 _
   subst e1
   cases v <;> rfl
theorem Mt (prog:Program) (w:World) (i:Int) (t:Tok):(cD prog w).is (.inl i) (.int i t)=true:=QM i t
theorem lB (prog:Program) (w:World) (x:Str) (t:Tok):(cD prog w).is (.inr x) (.str x t)=true:=Qo x t
inductive V where
 | non | bl (b:Bool) | int (i:Int) | str (x:Str) | byt (b:Array UInt8) | flt (b:UInt64) | ref (a:Addr) | ty (n:String)
 deriving DecidableEq
noncomputable def RelV:V->Value->Prop
 | .non,u=>u=Value.none
 | .bl b,u=>u=Value.bool b
 | .int i,u=>∃t,u=Value.int i t
 | .str x,u=>∃t,u=Value.str x t
 | .byt b,u=>∃t,u=Value.bytes b t
 | .flt b,u=>∃t,u=Value.float b t
 | .ref a,u=>u=Value.ref a
 | .ty n,u=>u=Value.type n
noncomputable abbrev Vals:List V->List Value->Prop:=Paired RelV
theorem Vals.length {xs:List V} {us:List Value} (r:Vals xs us):xs.length=us.length:=Paired.length r
theorem Vals.get:∀{xs:List V} {us:List Value} {i:Nat} {x:V},Vals xs us->xs[i]?=some x->∃u,us[i]?=some u/\RelV x u
 | _,_,_,_,.nil,e=>by simp at e
 | _,_,0,_,.cons r _,e=>by simp at e;subst e;exact⟨_,rfl,r⟩
 | _,_,i+1,x,.cons _ t,e=>by
  obtain⟨u,h1,h2⟩:=Vals.get (i:=i) (x:=x) t (by simpa using e)
  exact⟨u,by simpa using h1,h2⟩
theorem Vals.append:∀{xs ys:List V} {us ws:List Value},Vals xs us->Vals ys ws->Vals (xs ++ ys) (us ++ ws)
 | _,_,_,_,.nil,s=>s
 | _,_,_,_,.cons r t,s=>.cons r (Vals.append t s)
theorem Vals.take:∀{xs:List V} {us:List Value} (n:Nat),Vals xs us->Vals (xs.take n) (us.take n)
 | _,_,0,_=>.nil
 | _,_,_+1,.nil=>.nil
 | _,_,n+1,.cons r t=>.cons r (Vals.take n t)
theorem Vals.drop:∀{xs:List V} {us:List Value} (n:Nat),Vals xs us->Vals (xs.drop n) (us.drop n)
 | _,_,0,r=>r
 | _,_,_+1,.nil=>.nil
 | _,_,n+1,.cons _ t=>Vals.drop n t
noncomputable def uC:Option V->Option Value->Prop
 | some v,some u=>RelV v u
 | none,none=>True
 | _,_=>False
noncomputable def KV {κ:Type}:List (κ×V)->List (κ×Value)->Prop:=Paired fun(p:κ×V) (q:κ×Value)=>p.1=q.1/\RelV p.2 q.2
noncomputable def kV:Key->V
 | .inl i=>.int i
 | .inr x=>.str x
inductive HO where
  | lst (xs:List V)
  | tup (xs:List V)
  | dK (kvs:List (Key×V)) | dT (kvs:List (List Key×V))
  | set (S:Int->Bool) (n:Nat)
  | ins (C dx:Addr) (fs:List (Str×V))
  | own (x:Addr)
  | xd (fs:List (Str×V))
  | met (f x:Addr)
  | rng (lo hi:Int)
  | frz (o:Obj) (u:HO)
  | tbl (ps:Array Value)
  | ext (φ:Heap->Prop)
noncomputable abbrev Hp:=Addr->Option HO
noncomputable def upd (H:Hp) (a:Addr) (o:HO):Hp:=λb=>if b=a then some o else H b
theorem ak {H:Hp} {a:Addr} {o:HO}:upd H a o a=some o:=by unfold upd;rw [if_pos rfl]
theorem aJ {H:Hp} {a b:Addr} {o:HO} (h:b≠a):upd H a o b=H b:=by unfold upd;rw [if_neg h]
theorem kI {H:Hp} {a:Addr} {o u:HO}:upd (upd H a o) a u=upd H a u:=by
 funext b;unfold upd;split <;> rfl
theorem qY {H:Hp} {a b:Addr} {o u:HO} (h:H a=some o) (h':H b=some u) (d:o≠u):a≠b:=by
 intro e;subst e;rw [h] at h';exact d (Option.some.inj h')
theorem aC {H:Hp} {a b:Addr} {o:HO} (h:H a=some o) (h':H b=none):a≠b:=by
 intro e;subst e;rw [h] at h';cases h'
section
variable (P:Program) (w:World)
noncomputable def fV (H:Hp) (h:Heap) (a:Addr):HO->Prop
 | .lst xs=>xs.length<=sizeLine/\∃(its:List Value) (n:Nat),Vals xs its/\h.get? a=some { cls:=.type "list",data:=.seq its.toArray n }
 | .tup xs=>xs.length<=sizeLine/\∃its:List Value,Vals xs its/\IsTup h a its.toArray
 | .dK kvs=>kvs.length<=sizeLine/\(a == sysModules)=false/\∃vs,KV kvs vs/\h.DictOf (cD P w) a vs
 | .dT kvs=>kvs.length<=sizeLine/\(a == sysModules)=false/\∃xs:List (List Key×Addr×Value),
   Paired (fun(p:List Key×V) (q:List Key×Addr×Value)=>p.1=q.1/\H q.2.1=some (.tup (p.1.map kV))/\RelV p.2 q.2.2) kvs xs/\
   ∃o es ep,h.get? a=some o/\o.ExactDict/\o.data=.dict es ep/\es.toList=xs.map (entryOfKey (tupleKind (cD P w)))/\(xs.map (·.1)).Nodup
 | .set S n=>h.SetOf (intKind P w) a S n
 | .ins C dx fs=>H dx=some (.own a)/\fs.length<=1000/\dx≠a/\h.get? a=some (PySem.W.instObj C dx)/\
   ∃mA,h.Ns1 dx mA/\(∀f,uC (fs.lookup f) (mA f))/\PySem.Within mA (fs.map (·.1))
 | .own _=>∃o,h.get? a=some o
 | .xd fs=>∃mA,h.Ns1 a mA/\∀f,uC (fs.lookup f) (mA f)
 | .rng lo hi=>∃t u v,h.get? a=some { cls:=.type "range",data:=.fields #[.int lo t,.int hi u,.int 1 v] }
 | .frz o u=>h.get? a=some o/\fV H h a u
 | .tbl ps=>h.get? a=some { cls:=.none,data:=.fields ps }
 | .met f x=>h.get? a=some (PySem.W.methodObj (.ref f) (.ref x))
 | .ext φ=>φ h/\(∃o,h.get? a=some o)/\∀h1 h2:Heap,φ h1->(∀o,h1.get? a=some o->h2.get? a=some o)->φ h2
noncomputable def xg (H:Hp) (h:Heap):Prop:=∀a o,H a=some o->fV P w H h a o
end
section
variable {P:Program} {w:World} {H H':Hp} {h h':Heap} {a:Addr} {o:HO}
theorem fV.lt (x:fV P w H h a o):a <h.objs.size:=by
 cases o with
 | lst xs=>obtain⟨_,_,_,_,e⟩:=x;exact Heap.lt_size e
 | tup xs=>obtain⟨_,_,_,p⟩:=x;exact p.lt
 | dK kvs=>obtain⟨_,_,_,_,o,_,_,e,_⟩:=x;exact Heap.lt_size e
 | dT kvs=>obtain⟨_,_,_,_,o,_,_,e,_⟩:=x;exact Heap.lt_size e
 | set S n=>obtain⟨o,_,_,_,e,_⟩:=x;exact Heap.lt_size e
 | ins C dx fs=>obtain⟨_,_,_,e,_⟩:=x;exact Heap.lt_size e
 | own y=>obtain⟨_,e⟩:=x;exact Heap.lt_size e
 | xd fs=>obtain⟨_,⟨_,_,_,e,_⟩,_⟩:=x;exact Heap.lt_size e
 | rng lo hi=>obtain⟨_,_,_,e⟩:=x;exact Heap.lt_size e
 | frz ob u=>obtain⟨e,_⟩:=x;exact Heap.lt_size e
 | tbl ps=>exact Heap.lt_size (show h.get? a=some _ from x)
 | met f y=>exact Heap.lt_size (show h.get? a=some _ from x)
 | ext φ=>obtain⟨_,⟨_,e⟩,_⟩:=x;exact Heap.lt_size e
theorem Paired.mapP {α β:Type} {F G:α->β->Prop}:∀{l₁:List α} {l₂:List β},Paired F l₁ l₂->(∀a b,F a b->G a b)->Paired G l₁ l₂
 | _,_,.nil,_=>.nil
 | _,_,.cons r t,f=>.cons (f _ _ r) (Paired.mapP t f)
theorem fV.stay (x:fV P w H h a o) (k:∀b u,(b=a∨H b=some (.own a))->h.get? b=some u->h'.get? b=some u)
  (ho:∀b,H b=some (.own a)->H' b=some (.own a)) (ht:∀b xs,H b=some (.tup xs)->H' b=some (.tup xs)):fV P w H' h' a o:=by
 induction o with
 | lst xs=>obtain⟨z,its,n,r,e⟩:=x;exact⟨z,its,n,r,k _ _ (.inl rfl) e⟩
 | tup xs=>obtain⟨z,its,r,ob,e,c⟩:=x;exact⟨z,its,r,ob,k _ _ (.inl rfl) e,c⟩
 | dK kvs=>obtain⟨z,y,vs,r,ob,es,ep,e,c⟩:=x;exact⟨z,y,vs,r,ob,es,ep,k _ _ (.inl rfl) e,c⟩
 | dT kvs=>
  obtain⟨z,y,xs,r,ob,es,ep,e,c⟩:=x
  exact⟨z,y,xs,Paired.mapP r λp q z=>⟨z.1,ht _ _ z.2.1,z.2.2⟩,ob,es,ep,k _ _ (.inl rfl) e,c⟩
 | set S n=>obtain⟨ob,es,ep,t,e,c⟩:=x;exact⟨ob,es,ep,t,k _ _ (.inl rfl) e,c⟩
 | ins C dx fs=>
  obtain⟨d,z,ne,e,mA,⟨od,es,ep,e2,c⟩,r⟩:=x
  exact⟨ho _ d,z,ne,k _ _ (.inl rfl) e,mA,⟨od,es,ep,k _ _ (.inr d) e2,c⟩,r⟩
 | own y=>obtain⟨ob,e⟩:=x;exact⟨ob,k _ _ (.inl rfl) e⟩
 | xd fs=>obtain⟨mA,⟨od,es,ep,e,c⟩,r⟩:=x;exact⟨mA,⟨od,es,ep,k _ _ (.inl rfl) e,c⟩,r⟩
 | rng lo hi=>obtain⟨t,u,v,e⟩:=x;exact⟨t,u,v,k _ _ (.inl rfl) e⟩
 | frz ob u ih=>obtain⟨e,q⟩:=x;exact⟨k _ _ (.inl rfl) e,ih q⟩
 | tbl ps=>
  have e:h.get? a=some { cls:=.none,data:=.fields ps }:=x
  show h'.get? a=some { cls:=.none,data:=.fields ps }
  exact k a _ (.inl rfl) e
 | met f y=>
  have e:h.get? a=some (PySem.W.methodObj (.ref f) (.ref y)):=x
  show h'.get? a=some (PySem.W.methodObj (.ref f) (.ref y))
  exact k a _ (.inl rfl) e
 | ext φ=>obtain⟨p,⟨o,e⟩,st⟩:=x;exact⟨st _ _ p λo q=>k _ _ (.inl rfl) q,⟨o,k _ _ (.inl rfl) e⟩,st⟩
theorem xg.lt (x:xg P w H h) (e:H a=some o):a <h.objs.size:=(x a o e).lt
theorem xg.fresh (x:xg P w H h) (e:h.objs.size<=a):H a=none:=by
 cases q:H a with
 | none=>rfl
 | some u=>exact absurd (Nat.lt_of_lt_of_le (x.lt q) e) (Nat.lt_irrefl _)
theorem xg.kept (x:xg P w H h) (k:∀b u,h.get? b=some u->h'.get? b=some u):xg P w H h':=λa o e=>
 (x a o e).stay (λb u _ q=>k b u q) (λ_ q=>q) λ_ _ q=>q
theorem xg.laid (x:xg P w H h) (k:∀b u,h.get? b=some u->h'.get? b=some u) (hp:h.objs.size<=a) (new:fV P w (upd H a o) h' a o):xg P w (upd H a o) h':=λb u e=>by
 have hn:=x.fresh hp
 by_cases hb:b=a
 ·subst hb;rw [ak] at e;cases e;exact new
 ·rw [aJ hb] at e
  exact(x b u e).stay (λc v _ q=>k c v q) (λc q=>by rw [aJ (aC q hn)];exact q) λc xs q=>by rw [aJ (aC q hn)];exact q
end
noncomputable def Rd (H:Hp) (a:Addr) (u:HO):Prop:=H a=some u∨∃o,H a=some (.frz o u)
theorem Rd.ok {P:Program} {w:World} {H:Hp} {h:Heap} {a:Addr} {u:HO} (r:Rd H a u) (x:xg P w H h):fV P w H h a u:=by
 rcases r with r | ⟨o,r⟩
 ·exact x a u r
 ·obtain⟨_,q⟩:=x a _ r
  exact q
noncomputable def Mut:Option HO->Prop
 | some (.lst _)=>True
 | some (.dK _)=>True
 | some (.dT _)=>True
 | some (.set _ _)=>True
 | some (.ins _ _ _)=>True
 | some (.ext _)=>True
 | _=>False
section
variable {P:Program} {w:World} {H:Hp} {h h':Heap} {x e:Addr} {o':HO}
theorem xg.write (ok:xg P w H h) (mu:Mut (H x)) (he:e=x∨H e=some (.own x)) (k:∀b u,b≠e->h.get? b=some u->h'.get? b=some u) (heo:∃u,h'.get? e=some u)
  (new:fV P w (upd H x o') h' x o'):xg P w (upd H x o') h':=λb u q=>by
 have nown:∀c y,H c=some (.own y)->c≠x:=λc y r z=>by subst z;rw [r] at mu;exact mu
 have ntup:∀c xs,H c=some (.tup xs)->c≠x:=λc xs r z=>by subst z;rw [r] at mu;exact mu
 by_cases hb:b=x
 ·subst hb;rw [ak] at q;cases q;exact new
 ·rw [aJ hb] at q
  by_cases hbe:b=e
  ·have q':H b=some (.own x):=by
    rcases he with z | z
    ·exact absurd (hbe.trans z) hb
    ·rw [hbe];exact z
   rw [q] at q';cases q'
   obtain⟨v,hv⟩:=heo
   exact⟨v,by rw [hbe];exact hv⟩
  ·refine(ok b u q).stay (λc v hc r=>k c v ?_ r) (λc r=>by rw [aJ (nown c b r)];exact r) λc xs r=>by rw [aJ (ntup c xs r)];exact r
   rcases hc with rfl | hc
   ·exact hbe
   ·rintro rfl
    rcases he with z | z
    ·exact nown c b hc z
    ·rw [hc] at z;cases z;exact hb rfl
end
structure Un (fs ex:List Addr) (H H':Hp) (h h':Heap):Prop where
 keep:∀b o,h.get? b=some o->H b=none->b∉fs->b∉ex->h'.get? b=some o
 slot:∀b o,h.get? b=some o->H b=none->b∈fs->b∉ex->∃sl,h'.get? b=some { o with slots:=sl }
 free:∀b o,h.get? b=some o->H b=none->b∉ex->H' b=none
 there:∀b o,h.get? b=some o->b∉ex->∃o',h'.get? b=some o'
 tups:∀b xs,H b=some (.tup xs)->H' b=some (.tup xs)
 frzs:∀b o u,H b=some (.frz o u)->H' b=some (.frz o u)
 tbls:∀b ps,H b=some (.tbl ps)->∃more,H' b=some (.tbl (ps ++ more))
section
variable {fs fs' ex ex':List Addr} {H H1 H2:Hp} {h h1 h2 h':Heap} {a x e:Addr} {o:HO}
theorem Un.any (u:Un fs ex H H1 h h1) {b:Addr} {ob:Obj} (q:h.get? b=some ob) (n:H b=none) (hx:b∉ex):∃sl,h1.get? b=some { ob with slots:=sl }:=by
 by_cases hb:b∈fs
 ·exact u.slot b ob q n hb hx
 ·exact⟨ob.slots,u.keep b ob q n hb hx⟩
theorem Un.kept (k:∀b u,h.get? b=some u->h'.get? b=some u):Un fs ex H H h h':=
 ⟨λb ob q _ _ _=>k b ob q,λb ob q _ _ _=>⟨ob.slots,k b ob q⟩,λ_ _ _ n _=>n,λb ob q _=>⟨ob,k b ob q⟩,λ_ _ q=>q,λ_ _ _ q=>q,λ_ ps q=>⟨#[],by rw [q];simp⟩⟩
theorem Un.refl:Un fs ex H H h h:=Un.kept λ_ _ q=>q
theorem Un.laid (k:∀b u,h.get? b=some u->h'.get? b=some u) (hp:h.objs.size<=a) (hn:H a=none):Un fs ex H (upd H a o) h h' where
 keep:=λb u q _ _ _=>k b u q
 slot:=λb u q _ _ _=>⟨u.slots,k b u q⟩
 free:=λb u q n _=>by rw [aJ (Nat.ne_of_lt (Nat.lt_of_lt_of_le (Heap.lt_size q) hp))];exact n
 there:=λb u q _=>⟨u,k b u q⟩
 tups:=λb xs q=>by rw [aJ (aC q hn)];exact q
 frzs:=λb u xs q=>by rw [aJ (aC q hn)];exact q
 tbls:=λb ps q=>⟨#[],by rw [aJ (aC q hn),q];simp⟩
theorem Un.write (mu:Mut (H x)) (he:e=x∨H e=some (.own x)) (k:∀b u,b≠e->h.get? b=some u->h'.get? b=some u) (heo:∃u,h'.get? e=some u):Un fs ex H (upd H x o) h h':=by
 have hx:∀b,H b=none->b≠x:=λb n z=>by subst z;rw [n] at mu;exact mu
 have hb:∀b,H b=none->b≠e:=λb n z=>by
  subst z
  rcases he with r | r
  ·exact hx b n r
  ·rw [n] at r;cases r
 have hm:∀b u,H b=some u->¬Mut (some u)->b≠x:=λb u q nm z=>by subst z;rw [q] at mu;exact nm mu
 refine⟨λb u q n _ _=>k b u (hb b n) q,λb u q n _ _=>⟨u.slots,k b u (hb b n) q⟩,λb u q n _=>by rw [aJ (hx b n)];exact n,λb u q _=>?_,
  λb xs q=>by rw [aJ (hm b _ q λz=>z)];exact q,λb u xs q=>by rw [aJ (hm b _ q λz=>z)];exact q,λb ps q=>⟨#[],by rw [aJ (hm b _ q λz=>z),q];simp⟩⟩
 by_cases hbe:b=e
 ·subst hbe;exact heo
 ·exact⟨u,k b u hbe q⟩
end
noncomputable def trk (h:Heap) (H:Hp):List Addr:=(List.range h.objs.size).filter λa=>(H a).isSome
noncomputable def Jf (h:Heap) (H:Hp):Heap:=PySem.W.hideAll h (trk h H)
theorem Qi (h:Heap) (H:Hp):(Jf h H).objs.size=h.objs.size:=PySem.W.hideAll_size _ _
theorem UT {h:Heap} {H:Hp} {b:Addr} {o:Obj} (e:h.get? b=some o) (n:H b=none):(Jf h H).get? b=some o:=
 PySem.W.hideAll_get _ e λhm=>by
  have q:(H b).isSome=true:=(List.mem_filter.mp hm).2
  rw [n] at q;simp at q
theorem Wm {h:Heap} {H:Hp} {b:Addr} {o:Obj} (e:(Jf h H).get? b=some o):h.get? b=some o/\H b=none:=by
 have e':h.get? b=some o:=PySem.W.of_hideAll (trk h H) e
 refine⟨e',?_⟩
 cases q:H b with
 | none=>rfl
 | some x=>
  have hm:b∈trk h H:=List.mem_filter.mpr ⟨List.mem_range.mpr (Heap.lt_size e'),by simp [q]⟩
  have z:(Jf h H).get? b=none:=PySem.W.hideAll_none (trk h H) hm
  rw [z] at e;cases e
structure Mod (K:PySem.W.Frag) (mg:Str->Option Value) (base:Heap):Prop where
 kin:K.In base
 glob:base.Ns mainGlobals mg
 blt:∃mb,base.Ns builtinsNs mb/\∀x:Str,x≠ "__name__" ->mb x=bootBuiltins x
 nolimit:base.NoLimit
structure Cx where
 prog:Program
 w:World
 K:PySem.W.Frag
 mg:Str->Option Value
 base:Heap
 A:Around
 N:List Str
 s₀:Shared
 H₀:Hp
 env:Env
 outer:List Env
 stack:List Env
 ex:List Addr
 fn:Str->Bool
 calm:Bool
 pn:List (Addr×Obj)
 xe:Value->Shared->Prop
noncomputable def frs (l:List Env):List Addr:=l.filterMap (·.frame)
noncomputable abbrev Cx.fs (X:Cx):List Addr:=frs X.outer
noncomputable def Vis (sc:Scope) (x:Str):Prop:=sc.names.lookup x=some .local∨sc.names.lookup x=some .cell∨sc.names.lookup x=some .free
noncomputable def Loc (sc:Scope) (x:Str):Prop:=sc.names.lookup x=some .local∨sc.names.lookup x=some .cell
noncomputable def Look (env:Env) (h:Heap) (m:Str->Option Value) (x:Str) (u:Value):Prop:=
 (env.kindOf x=some .local/\m x=some u)∨((env.kindOf x=some .cell∨env.kindOf x=some .free)/\∃c,env.cells.lookup x=some c/\h.IsCell c (some u))
structure Cx.Ok (X:Cx):Prop where
 mod:Mod X.K X.mg X.base
 kind:X.env.scope.kind=.function
 glob:X.env.globals=mainGlobals
 blt:X.env.builtins=builtinsNs
 above:X.s₀.heap.objs.size<=X.env.locals
 inj:∀x y c,X.env.cells.lookup x=some c->X.env.cells.lookup y=some c->x=y
 has:∀x,(X.env.kindOf x=some .cell∨X.env.kindOf x=some .free)->∃c,X.env.cells.lookup x=some c
 cab:∀x c,X.fn x=true->X.env.cells.lookup x=some c->X.s₀.heap.objs.size<=c
 hd:X.calm=true->X.A.handled=none
 frames:X.A.frames=some X.stack
 stk:X.stack=X.outer∨(X.stack=X.env:: X.outer/\X.env.frame=some X.env.locals)
 exf:∀b∈X.ex,b≠X.env.locals/\∀x c,X.env.cells.lookup x=some c->c≠b
 bs:∀b o,X.base.get? b=some o->X.s₀.heap.get? b=some o/\X.H₀ b=none
 bsz:X.base.objs.size<=X.s₀.heap.objs.size
 noex:∀b o,X.base.get? b=some o->b∉X.ex
 exfs:∀b∈X.ex,b∉X.fs
 funs:X.s₀.heap.FunFrames X.base X.outer
 frf:∀b∈X.fs,X.H₀ b=none
structure Inv (X:Cx) (pins:List (Addr×Obj)) (σ:List (Option V)) (H:Hp) (s:Shared):Prop where
 ok:X.Ok
 os:s.os=X.s₀.os
 bare:AllBare s.gens
 base:Un X.fs X.ex X.H₀ H X.s₀.heap s.heap
 loc:∃m,s.heap.Ns X.env.locals m/\∀(i:Nat) (x:Str) (v:V),X.N[i]?=some x->σ[i]?=some (some v)->Vis X.env.scope x->∃u,RelV v u/\Look X.env s.heap m x u
 cell:∀x c,X.env.cells.lookup x=some c->∃v,s.heap.IsCell c v
 free:H X.env.locals=none
 freeC:∀x c,X.env.cells.lookup x=some c->H c=none
 pin:∀p∈X.pn ++ pins,s.heap.get? p.1=some p.2/\H p.1=none/\p.1≠X.env.locals/\p.1∉X.fs/\∀v,p.2.data≠.cell v
 hok:xg X.prog X.w H s.heap
 len:σ.length=X.N.length
section
variable {X:Cx} {pins:List (Addr×Obj)} {σ:List (Option V)} {H H':Hp} {s:Shared} {h':Heap}
theorem Cx.Ok.nofr (ok:X.Ok) {b:Addr} {o:Obj} (e:X.base.get? b=some o):b∉X.fs:=λhb=>by
 have:=(ok.funs.mem hb).1
 rw [e] at this;cases this
theorem Inv.bs (I:Inv X pins σ H s):∀b o,X.base.get? b=some o->s.heap.get? b=some o/\H b=none:=λb o e=>
 ⟨I.base.keep b o (I.ok.bs b o e).1 (I.ok.bs b o e).2 (I.ok.nofr e) (I.ok.noex b o e),I.base.free b o (I.ok.bs b o e).1 (I.ok.bs b o e).2 (I.ok.noex b o e)⟩
theorem Inv.bk (I:Inv X pins σ H s):∀b o,X.base.get? b=some o->s.heap.get? b=some o:=λb o e=>(I.bs b o e).1
theorem Inv.mod (I:Inv X pins σ H s):Mod X.K X.mg X.base:=I.ok.mod
theorem Inv.kIn (I:Inv X pins σ H s):X.K.In s.heap:=I.ok.mod.kin.keeps I.bk
theorem Inv.lt (I:Inv X pins σ H s):X.env.locals <s.heap.objs.size:=let ⟨_,hn,_⟩:=I.loc;hn.lt
theorem Inv.sz (I:Inv X pins σ H s):X.s₀.heap.objs.size<=s.heap.objs.size:=Nat.le_trans I.ok.above (Nat.le_of_lt I.lt)
theorem Inv.nofs (I:Inv X pins σ H s) {a:Addr} (h:s.heap.objs.size<=a):a∉X.fs:=λhb=>by
 obtain⟨_,o,ho,_⟩:=I.ok.funs.mem hb
 exact absurd (Nat.lt_of_lt_of_le (Heap.lt_size ho) (Nat.le_trans I.sz h)) (Nat.lt_irrefl _)
theorem Inv.cne (I:Inv X pins σ H s):∀x c,X.env.cells.lookup x=some c->c≠X.env.locals:=λx c e z=>by
 obtain⟨v,o,ho,hd⟩:=I.cell x c e
 obtain⟨m,⟨o',es,ep,ho',hd',_⟩,_⟩:=I.loc
 rw [z,ho'] at ho;cases ho;rw [hd'] at hd;cases hd
theorem Inv.funs (I:Inv X pins σ H s):s.heap.FunFrames X.base X.outer:=by
 have all:∀(l:List Env),(∀b∈frs l,b∈X.fs)->X.s₀.heap.FunFrames X.base l->s.heap.FunFrames X.base l:=by
  intro l
  induction l with
  | nil=>intro _ _;trivial
  | cons env r ih=>
   intro hs hl
   obtain⟨hk,⟨L,o,hf,hn,ho,hd⟩,hr⟩:=hl
   have hL:L∈X.fs:=hs L (by unfold frs;rw [List.filterMap_cons,hf];exact List.mem_cons_self)
   obtain⟨sl,e⟩:=I.base.slot L o ho (I.ok.frf L hL) hL λz=>I.ok.exfs L z hL
   exact⟨hk,⟨L,_,hf,hn,e,hd⟩,ih (λb hb=>hs b (by unfold frs;rw [List.filterMap_cons,hf];exact List.mem_cons_of_mem _ hb)) hr⟩
 exact all X.outer (λ_ hb=>hb) I.ok.funs
theorem Inv.stack (I:Inv X pins σ H s):s.heap.FunFrames X.base X.stack:=by
 rcases I.ok.stk with e | ⟨e,hf⟩
 ·rw [e];exact I.funs
 ·rw [e]
  obtain⟨m,hn,_⟩:=I.loc
  refine .cons (by rw [I.ok.kind];decide) hf hn ?_ I.funs
  exact Heap.get?_none_of_le (Nat.le_trans I.ok.bsz I.ok.above)
theorem Inv.stkSub (I:Inv X pins σ H s):∀b∈frs X.stack,b∈X.env.locals:: X.fs:=λb hb=>by
 rcases I.ok.stk with e | ⟨e,hf⟩
 ·rw [e] at hb;exact List.mem_cons_of_mem _ hb
 ·rw [e] at hb
  unfold frs at hb
  rw [List.filterMap_cons,hf] at hb
  exact hb
theorem Inv.stkFree (I:Inv X pins σ H s):∀b∈frs X.stack,H b=none:=λb hb=>by
 rcases List.mem_cons.mp (I.stkSub b hb) with e | hb
 ·rw [e];exact I.free
 ·obtain⟨_,o,ho,_⟩:=I.ok.funs.mem hb
  exact I.base.free b o ho (I.ok.frf b hb) λz=>I.ok.exfs b z hb
theorem Inv.step {g':Array GenState} {t':Nat} {d':Drawn} {ch:List Addr} (I:Inv X pins σ H s)
  (hch:∀b∈ch,(b∈X.ex∨X.s₀.heap.objs.size<=b)/\b≠X.env.locals/\(∀x c,X.env.cells.lookup x=some c->c≠b)/\∀p∈X.pn ++ pins,p.1≠b)
  (keep:∀b o,b≠X.env.locals->b∉X.fs->b∉ch->s.heap.get? b=some o->H b=none->h'.get? b=some o)
  (slot:∀b o,b≠X.env.locals->b∈X.fs->b∉ch->s.heap.get? b=some o->H b=none->∃sl,h'.get? b=some { o with slots:=sl }) (free:∀b o,b∉ch->s.heap.get? b=some o->H b=none->H' b=none)
  (there:∀b o,b∉ch->s.heap.get? b=some o->∃o',h'.get? b=some o')
  (tups:∀b xs,H b=some (.tup xs)->H' b=some (.tup xs)) (frzs:∀b o u,H b=some (.frz o u)->H' b=some (.frz o u)) (tbls:∀b ps,H b=some (.tbl ps)->∃more,H' b=some (.tbl (ps ++ more)))
  (ns:∀m,s.heap.Ns X.env.locals m->h'.Ns X.env.locals m) (hok:xg X.prog X.w H' h') (hg:AllBare g'):
  Inv X pins σ H' { s with heap:=h',gens:=g',drawn:=d',toks:=t' }:=by
 have neL:∀b o,X.s₀.heap.get? b=some o->b≠X.env.locals:=λb o e=>Nat.ne_of_lt (Nat.lt_of_lt_of_le (Heap.lt_size e) I.ok.above)
 have neC:∀b o,X.s₀.heap.get? b=some o->b∉X.ex->b∉ch:=λb o e hx hb=>by
  rcases(hch b hb).1 with z | z
  ·exact hx z
  ·exact absurd (Nat.lt_of_lt_of_le (Heap.lt_size e) z) (Nat.lt_irrefl _)
 have cellK:∀x c,X.env.cells.lookup x=some c->∀v,s.heap.IsCell c v->h'.IsCell c v:=λx c e v ⟨o,ho,hd⟩=>by
  have nch:c∉ch:=λz=>(hch c z).2.2.1 x c e rfl
  by_cases hc:c∈X.fs
  ·obtain⟨sl,q⟩:=slot c o (I.cne x c e) hc nch ho (I.freeC x c e)
   exact⟨_,q,hd⟩
  ·exact⟨o,keep c o (I.cne x c e) hc nch ho (I.freeC x c e),hd⟩
 refine⟨I.ok,I.os,hg,⟨λb o e n hb hx=>?_,λb o e n hb hx=>?_,λb o e n hx=>?_,λb o e hx=>?_,λb xs e=>tups b xs (I.base.tups b xs e),λb o xs e=>frzs b o xs (I.base.frzs b o xs e),λb ps e=>?_⟩,?_,λx c e=>?_,?_,λx c e=>?_,λp hp=>?_,hok,I.len⟩
 ·exact keep b o (neL b o e) hb (neC b o e hx) (I.base.keep b o e n hb hx) (I.base.free b o e n hx)
 ·obtain⟨sl,e1⟩:=I.base.slot b o e n hb hx
  obtain⟨sl',e2⟩:=slot b _ (neL b o e) hb (neC b o e hx) e1 (I.base.free b o e n hx)
  exact⟨sl',e2⟩
 ·obtain⟨o',e1⟩:=I.base.there b o e hx
  exact free b o' (neC b o e hx) e1 (I.base.free b o e n hx)
 ·obtain⟨o',e1⟩:=I.base.there b o e hx
  exact there b o' (neC b o e hx) e1
 ·obtain⟨m1,e1⟩:=I.base.tbls b ps e
  obtain⟨m2,e2⟩:=tbls b _ e1
  exact⟨m1 ++ m2,by rw [e2,Array.append_assoc]⟩
 ·obtain⟨m,hn,hl⟩:=I.loc
  refine⟨m,ns m hn,λi x v e1 e2 e3=>?_⟩
  obtain⟨u,r,l⟩:=hl i x v e1 e2 e3
  refine⟨u,r,?_⟩
  rcases l with l | ⟨k,c,e,z⟩
  ·exact .inl l
  ·exact .inr ⟨k,c,e,cellK x c e _ z⟩
 ·obtain⟨v,z⟩:=I.cell x c e
  exact⟨v,cellK x c e v z⟩
 ·obtain⟨m,⟨o,_,_,ho,_⟩,_⟩:=I.loc
  exact free _ o (λz=>(hch _ z).2.1 rfl) ho I.free
 ·obtain⟨v,o,ho,hd⟩:=I.cell x c e
  exact free c o (λz=>(hch c z).2.2.1 x c e rfl) ho (I.freeC x c e)
 ·obtain⟨e,n,ne,nf,d⟩:=I.pin p hp
  have nch:p.1∉ch:=λz=>(hch p.1 z).2.2.2 p hp rfl
  exact⟨keep p.1 p.2 ne nf nch e n,free p.1 p.2 nch e n,ne,nf,d⟩
theorem Inv.un {t':Nat} (I:Inv X pins σ H s) (u:Un X.fs [] H H' s.heap h') (hok:xg X.prog X.w H' h'):Inv X pins σ H' { s with heap:=h',toks:=t' }:=by
 obtain⟨m,⟨o,es,ep,ho,r⟩,_⟩:=id I.loc
 obtain⟨sl,hL⟩:=u.any ho I.free (by simp)
 exact I.step (g':=s.gens) (d':=s.drawn) (ch:=[]) (λ_ z=>nomatch z) (λb o _ hb _ e n=>u.keep b o e n hb (by simp)) (λb o _ hb _ e n=>u.slot b o e n hb (by simp)) (λb o _ e n=>u.free b o e n (by simp)) (λb o _ e=>u.there b o e (by simp)) u.tups u.frzs u.tbls (λm' hm=>by
  obtain⟨o',es',ep',ho',r'⟩:=hm
  rw [ho] at ho';cases ho'
  exact⟨_,es',ep',hL,r'⟩) hok I.bare
theorem Inv.call {g':Array GenState} {t':Nat} {d':Drawn} {ch:List Addr} (I:Inv X pins σ H s) (u:Un (frs X.stack) ch H H' s.heap h') (hok:xg X.prog X.w H' h') (hg:AllBare g')
  (hch:∀b∈ch,(b∈X.ex∨X.s₀.heap.objs.size<=b)/\b≠X.env.locals/\(∀x c,X.env.cells.lookup x=some c->c≠b)/\∀p∈X.pn ++ pins,p.1≠b):
  Inv X pins σ H' { s with heap:=h',gens:=g',drawn:=d',toks:=t' }:=by
 obtain⟨m,⟨o,es,ep,ho,r⟩,_⟩:=id I.loc
 obtain⟨sl,hL⟩:=u.any ho I.free λz=>(hch _ z).2.1 rfl
 exact I.step (ch:=ch) hch (λb o hL hb hc e n=>u.keep b o e n (λz=>(List.mem_cons.mp (I.stkSub b z)).elim hL hb) hc) (λb o _ _ hc e n=>u.any e n hc) (λb o hc e n=>u.free b o e n hc) (λb o hc e=>u.there b o e hc) u.tups u.frzs u.tbls (λm' hm=>by
  obtain⟨o',es',ep',ho',r'⟩:=hm
  rw [ho] at ho';cases ho'
  exact⟨_,es',ep',hL,r'⟩) hok hg
theorem Inv.turned {t':Nat} {it:Addr} (I:Inv X pins σ H s) (k:∀b o,b≠it->s.heap.get? b=some o->h'.get? b=some o) (hn:H it=none) (hL:it≠X.env.locals)
  (h1:it∈X.ex∨X.s₀.heap.objs.size<=it) (h2:∀x c,X.env.cells.lookup x=some c->c≠it) (h3:∀p∈X.pn ++ pins,p.1≠it):Inv X pins σ H { s with heap:=h',toks:=t' }:=by
 have nit:∀b u,H b=some u->b≠it:=λb u e z=>by rw [z,hn] at e;cases e
 refine I.step (g':=s.gens) (d':=s.drawn) (ch:=[it]) (λb hb=>?_) (λb o _ _ hc e _=>k b o (λz=>hc (by simp [z])) e) (λb o _ _ hc e _=>⟨o.slots,k b o (λz=>hc (by simp [z])) e⟩) (λ_ _ _ _ n=>n)
  (λb o hc e=>⟨o,k b o (λz=>hc (by simp [z])) e⟩) (λ_ _ e=>e) (λ_ _ _ e=>e) (λb ps e=>⟨#[],by rw [e];simp⟩) (λm hm=>?_) (λb u e=>?_) I.bare
 ·have e:b=it:=by simpa using hb
  subst e
  exact⟨h1,hL,h2,h3⟩
 ·obtain⟨o,es,ep,ho,r⟩:=hm
  exact⟨o,es,ep,k _ o (Ne.symm hL) ho,r⟩
 ·refine(I.hok b u e).stay (λc v hc q=>k c v ?_ q) (λ_ q=>q) λ_ _ q=>q
  rcases hc with z | z
  ·rw [z];exact nit b u e
  ·exact nit c _ z
theorem Inv.tok (I:Inv X pins σ H s) (t:Nat):Inv X pins σ H { s with toks:=t }:=I.un (h':=s.heap) (t':=t) Un.refl I.hok
theorem Inv.kept {t':Nat} (I:Inv X pins σ H s) (k:∀b u,s.heap.get? b=some u->h'.get? b=some u):Inv X pins σ H { s with heap:=h',toks:=t' }:=I.un (Un.kept k) (I.hok.kept k)
theorem Inv.laid {a:Addr} {o:HO} {t':Nat} (I:Inv X pins σ H s) (k:∀b u,s.heap.get? b=some u->h'.get? b=some u) (hp:s.heap.objs.size<=a) (new:fV X.prog X.w (upd H a o) h' a o):
  Inv X pins σ (upd H a o) { s with heap:=h',toks:=t' }:=I.un (Un.laid k hp (I.hok.fresh hp)) (I.hok.laid k hp new)
theorem Inv.write {x e:Addr} {o:HO} {t':Nat} (I:Inv X pins σ H s) (mu:Mut (H x)) (he:e=x∨H e=some (.own x)) (k:∀b u,b≠e->s.heap.get? b=some u->h'.get? b=some u) (heo:∃u,h'.get? e=some u)
  (new:fV X.prog X.w (upd H x o) h' x o):Inv X pins σ (upd H x o) { s with heap:=h',toks:=t' }:=I.un (Un.write mu he k heo) (I.hok.write mu he k heo new)
theorem Inv.weak {σ':List (Option V)} (I:Inv X pins σ H s) (hl:σ'.length=σ.length) (w:∀(i:Nat) v,σ'[i]?=some (some v)->σ[i]?=some (some v)):Inv X pins σ' H s:=
 ⟨I.ok,I.os,I.bare,I.base,let ⟨m,hn,hl'⟩:=I.loc;⟨m,hn,λi x v e1 e2 e3=>hl' i x v e1 (w i v e2) e3⟩,I.cell,I.free,I.freeC,I.pin,I.hok,hl.trans I.len⟩
theorem Inv.pins_of {pins':List (Addr×Obj)} (I:Inv X pins σ H s) (h:∀p∈pins',s.heap.get? p.1=some p.2/\H p.1=none/\p.1≠X.env.locals/\p.1∉X.fs/\∀v,p.2.data≠.cell v):Inv X pins' σ H s:=
 ⟨I.ok,I.os,I.bare,I.base,I.loc,I.cell,I.free,I.freeC,λp hp=>(List.mem_append.mp hp).elim (λz=>I.pin p (List.mem_append_left _ z)) (h p),I.hok,I.len⟩
theorem Lw {N:List Str} (hN:N.Nodup) {i j:Nat} {x:Str} (a:N[i]?=some x) (b:N[j]?=some x):i=j:=by
 obtain⟨h1,e1⟩:=List.getElem?_eq_some_iff.mp a
 obtain⟨h2,e2⟩:=List.getElem?_eq_some_iff.mp b
 exact(List.getElem_inj hN).mp (e1.trans e2.symm)
theorem Af {M:Model} {A:Around} {E:Value->Shared->Prop} {i:Nat} {x:Str} {v:V} {u:Value} {Q:Unit->Shared->Prop} (I:Inv X pins σ H s) (hN:X.N.Nodup) (hi:X.N[i]?=some x) (hx:Loc X.env.scope x) (r:RelV v u)
  (h:∀s',Inv X pins (σ.set i (some v)) H s'->(∃a,Heap.SameBut a s.heap s'.heap/\(a=X.env.locals∨X.env.cells.lookup x=some a))->Q () s') (hf:X.fn x=true∨X.env.scope.names.lookup x=some .local:=by first | exact .inl rfl | exact .inr rfl | assumption):wpAny M A (storeName X.env x u) Q E s:=by
 obtain⟨m,hn,hl⟩:=id I.loc
 have hcls:(X.env.scope.kind == .class || (X.env.scope.kind == .module && X.env.locals != X.env.globals))=false:=by rw [I.ok.kind];rfl
 have hiσ:i <σ.length:=by rw [I.len];exact(List.getElem?_eq_some_iff.mp hi).1
 have cne:=I.cne
 have tracked:∀{a:Addr} {h':Heap},(∃o,s.heap.get? a=some o/\H a=none)->Heap.SameBut a s.heap h'->xg X.prog X.w H h':=λ{a h'} ha hs b ob e=>by
  obtain⟨_,_,hfree⟩:=ha
  refine(I.hok b ob e).stay (λc w' hc q=>(hs.2 c ?_).trans q) (λ_ q=>q) λ_ _ q=>q
  rintro rfl
  rcases hc with rfl | hc
  ·rw [hfree] at e;cases e
  ·rw [hfree] at hc;cases hc
 rcases hx with hk | hk
 ·refine wpAny_storeName_local hk hn (λh' hn' hs=>?_) hcls
  obtain⟨oL,_,_,hoL,_⟩:=id hn
  refine h _ ⟨I.ok,I.os,I.bare,⟨λb o e n hb hx=>?_,λb o e n hb hx=>?_,I.base.free,λb o e hx=>?_,I.base.tups,I.base.frzs,I.base.tbls⟩,⟨_,hn',λj y v' e1 e2 e3=>?_⟩,λy c e=>?_,I.free,I.freeC,λp hp=>?_,tracked ⟨oL,hoL,I.free⟩ hs,by simpa using I.len⟩ ⟨_,hs,.inl rfl⟩
  ·exact(hs.2 b (Nat.ne_of_lt (Nat.lt_of_lt_of_le (Heap.lt_size e) I.ok.above))).trans (I.base.keep b o e n hb hx)
  ·obtain⟨sl,e1⟩:=I.base.slot b o e n hb hx
   exact⟨sl,(hs.2 b (Nat.ne_of_lt (Nat.lt_of_lt_of_le (Heap.lt_size e) I.ok.above))).trans e1⟩
  ·obtain⟨o',e1⟩:=I.base.there b o e hx
   exact⟨o',(hs.2 b (Nat.ne_of_lt (Nat.lt_of_lt_of_le (Heap.lt_size e) I.ok.above))).trans e1⟩
  ·by_cases hj:j=i
   ·subst hj
    rw [hi] at e1;cases e1
    rw [List.getElem?_set_self hiσ] at e2
    cases e2
    exact⟨u,r,.inl ⟨hk,by simp⟩⟩
   ·rw [List.getElem?_set_ne (Ne.symm hj)] at e2
    obtain⟨u',r',q⟩:=hl j y v' e1 e2 e3
    refine⟨u',r',?_⟩
    rcases q with ⟨k,e⟩ | ⟨k,c,e,z⟩
    ·refine .inl ⟨k,?_⟩
     have:y≠x:=λe=>hj (Lw hN e1 (e ▸ hi))
     simp [this,e]
    ·exact .inr ⟨k,c,e,z.sameBut hs (cne y c e)⟩
  ·obtain⟨w',z⟩:=I.cell y c e
   exact⟨w',z.sameBut hs (cne y c e)⟩
  ·obtain⟨e,n,ne,nf,d⟩:=I.pin p hp
   exact⟨(hs.2 p.1 ne).trans e,n,ne,nf,d⟩
 ·have hfn:X.fn x=true:=by
   rcases hf with z | z
   ·exact z
   ·rw [z] at hk;cases hk
  obtain⟨c,hc⟩:=I.ok.has x (.inl hk)
  obtain⟨w',z⟩:=I.cell x c hc
  refine wpAny_storeName_cell I.ok.kind hk hc z (λh' hc' hs=>?_)
  obtain⟨oc,hoc,hocd⟩:=id z
  refine h { s with heap:=h' } ⟨I.ok,I.os,I.bare,⟨λb o e n hb hx=>?_,λb o e n hb hx=>?_,I.base.free,λb o e hx=>?_,I.base.tups,I.base.frzs,I.base.tbls⟩,⟨m,hn.sameBut hs (Ne.symm (cne x c hc)),λj y v' e1 e2 e3=>?_⟩,λy c' e=>?_,I.free,I.freeC,λp hp=>?_,tracked ⟨oc,hoc,I.freeC x c hc⟩ hs,by simpa using I.len⟩ ⟨c,hs,.inr hc⟩
  ·exact(hs.2 b (Nat.ne_of_lt (Nat.lt_of_lt_of_le (Heap.lt_size e) (I.ok.cab x c hfn hc)))).trans (I.base.keep b o e n hb hx)
  ·obtain⟨sl,e1⟩:=I.base.slot b o e n hb hx
   exact⟨sl,(hs.2 b (Nat.ne_of_lt (Nat.lt_of_lt_of_le (Heap.lt_size e) (I.ok.cab x c hfn hc)))).trans e1⟩
  ·obtain⟨o',e1⟩:=I.base.there b o e hx
   exact⟨o',(hs.2 b (Nat.ne_of_lt (Nat.lt_of_lt_of_le (Heap.lt_size e) (I.ok.cab x c hfn hc)))).trans e1⟩
  ·by_cases hj:j=i
   ·subst hj
    rw [hi] at e1;cases e1
    rw [List.getElem?_set_self hiσ] at e2
    cases e2
    exact⟨u,r,.inr ⟨.inl hk,c,hc,hc'⟩⟩
   ·rw [List.getElem?_set_ne (Ne.symm hj)] at e2
    obtain⟨u',r',q⟩:=hl j y v' e1 e2 e3
    refine⟨u',r',?_⟩
    rcases q with q | ⟨k,c',e,z'⟩
    ·exact .inl q
    ·refine .inr ⟨k,c',e,z'.sameBut hs ?_⟩
     rintro rfl
     exact hj (Lw hN e1 (I.ok.inj _ _ _ e hc ▸ hi))
  ·by_cases hcc:c'=c
   ·subst hcc;exact⟨_,hc'⟩
   ·obtain⟨w2,z2⟩:=I.cell y c' e
    exact⟨w2,z2.sameBut hs hcc⟩
  ·obtain⟨e,n,ne,nf,d⟩:=I.pin p hp
   refine⟨(hs.2 p.1 ?_).trans e,n,ne,nf,d⟩
   intro q
   rw [q,hoc] at e
   have q':oc=p.2:=Option.some.inj e
   exact d w' (by rw [<-q'];exact hocd)
theorem Kw {M:Model} {A:Around} {E:Value->Shared->Prop} {i:Nat} {x:Str} {v:V} {u:Value} {Q:Unit->Shared->Prop} (I:Inv X pins σ H s) (hN:X.N.Nodup) (hi:X.N[i]?=some x) (hx:Loc X.env.scope x) (r:RelV v u)
  (h:∀s',Inv X pins (σ.set i (some v)) H s'->Q () s') (hf:X.fn x=true∨X.env.scope.names.lookup x=some .local:=by first | exact .inl rfl | exact .inr rfl | assumption):wpAny M A (storeName X.env x u) Q E s:=
 Af I hN hi hx r (λs' I' _=>h s' I') hf
theorem Inv.call' {s':Shared} {ch:List Addr} (I:Inv X pins σ H s) (ho:s'.os=s.os) (u:Un (frs X.stack) ch H H' s.heap s'.heap) (hok:xg X.prog X.w H' s'.heap) (hg:AllBare s'.gens)
  (hch:∀b∈ch,(b∈X.ex∨X.s₀.heap.objs.size<=b)/\b≠X.env.locals/\(∀x c,X.env.cells.lookup x=some c->c≠b)/\∀p∈X.pn ++ pins,p.1≠b):Inv X pins σ H' s':=by
 obtain⟨h',g',d',t',o'⟩:=s'
 have e:o'=s.os:=ho
 subst e
 exact I.call (g':=g') (t':=t') (d':=d') u hok hg hch
end
noncomputable abbrev XK:=Value->Option Addr->Hp->Prop
noncomputable abbrev St:=List (Option V)
noncomputable abbrev VK:=V->Hp->Prop
noncomputable abbrev TE:=St->Hp->VK->Prop
noncomputable abbrev TT:=St->Hp->(Bool->Hp->Prop)->Prop
noncomputable abbrev TA:=St->Hp->(List V->Hp->Prop)->Prop
structure Ends where
 nx:St->Hp->Prop
 rt:VK
 bk:St->Hp->Prop:=λ_ _=>False
 ct:St->Hp->Prop:=λ_ _=>False
noncomputable abbrev TS:=Ends->St->Hp->Prop
noncomputable def EP (X:Cx) (pins:List (Addr×Obj)) (σ:St) (Q:VK) (u:Value) (s':Shared):Prop:=∃v H',Inv X pins σ H' s'/\RelV v u/\Q v H'
noncomputable def TP (X:Cx) (pins:List (Addr×Obj)) (σ:St) (Q:Bool->Hp->Prop) (b:Bool) (s':Shared):Prop:=∃H',Inv X pins σ H' s'/\Q b H'
noncomputable def AP (X:Cx) (pins:List (Addr×Obj)) (σ:St) (Q:List V->Hp->Prop) (us:List Value) (s':Shared):Prop:=∃vs H',Inv X pins σ H' s'/\Vals vs us/\Q vs H'
noncomputable def SP (X:Cx) (pins:List (Addr×Obj)) (D:Ends) (f:Flow) (s':Shared):Prop:=
 match f with
 | .next=>∃σ' H',Inv X pins σ' H' s'/\D.nx σ' H'
 | .brk=>∃σ' H',Inv X pins σ' H' s'/\D.bk σ' H'
 | .cont=>∃σ' H',Inv X pins σ' H' s'/\D.ct σ' H'
 | .ret u=>∃v σ' H',Inv X pins σ' H' s'/\RelV v u/\D.rt v H'
noncomputable def PE (X:Cx) (e:Expr) (t:TE):Prop:=
 ∀(pins:List (Addr×Obj)) (s:Shared) (σ:St) (H:Hp) (Q:VK),Inv X pins σ H s->t σ H Q->wpAny (model X.prog X.w) X.A (eval e X.env) (EP X pins σ Q) X.xe s
noncomputable def PT (X:Cx) (e:Expr) (t:TT):Prop:=
 ∀(pins:List (Addr×Obj)) (s:Shared) (σ:St) (H:Hp) (Q:Bool->Hp->Prop),Inv X pins σ H s->t σ H Q->wpAny (model X.prog X.w) X.A (isTrue e X.env (eval e X.env)) (TP X pins σ Q) X.xe s
noncomputable def PW (X:Cx) (e:Expr) (t:TT):Prop:=
 ∀(whole:Sem Value) (pins:List (Addr×Obj)) (s:Shared) (σ:St) (H:Hp) (Q:Bool->Hp->Prop),Inv X pins σ H s->t σ H Q->wpAny (model X.prog X.w) X.A (isTrue e X.env whole) (TP X pins σ Q) X.xe s
theorem PW.pt {X:Cx} {e:Expr} {t:TT} (h:PW X e t):PT X e t:=h _
noncomputable def PA (X:Cx) (es:List Expr) (t:TA):Prop:=
 ∀(pos:Pos) (pins:List (Addr×Obj)) (s:Shared) (σ:St) (H:Hp) (Q:List V->Hp->Prop),Inv X pins σ H s->t σ H Q->wpAny (model X.prog X.w) X.A (spliced (backTo pos (starEach es X.env))) (AP X pins σ Q) X.xe s
noncomputable def PS (X:Cx) (st:Stmt) (t:TS):Prop:=
 ∀(pins:List (Addr×Obj)) (s:Shared) (σ:St) (H:Hp) (D:Ends),Inv X pins σ H s->t D σ H->wpAny (model X.prog X.w) X.A (exec st X.env) (SP X pins D) X.xe s
noncomputable def PN (X:Cx) (st:List Stmt) (t:TS):Prop:=
 ∀(pins:List (Addr×Obj)) (s:Shared) (σ:St) (H:Hp) (D:Ends),Inv X pins σ H s->t D σ H->wpAny (model X.prog X.w) X.A (execs st X.env) (SP X pins D) X.xe s
theorem dG {α:Type} {t:Sem α} {Q Q':α->Shared->Prop} {M:Model} {A:Around} {E:Value->Shared->Prop} {s:Shared} (h:wpAny M A t Q E s) (hQ:∀a s,Q a s->Q' a s):wpAny M A t Q' E s:=wpAny_mono h hQ λ_ _ x=>x
section
variable {X:Cx}
inductive Xm (i:Nat) (σ:St) (H:Hp) (Q:VK):Prop where
 | mk:∀v,σ[i]?=some (some v)->Q v H->Xm i σ H Q
noncomputable def aad (i:Nat):TE:=λσ H Q=>Xm i σ H Q
noncomputable def tC (v:V):TE:=λ_ H Q=>Q v H
theorem YQ {i:Nat} {x:Str} {pos:Pos} (hN:X.N[i]?=some x) (hv:Vis X.env.scope x) (hd:(x == ("__debug__" :Str))=false:=by decide) (hcd:(x == ("__classdict__" :Str))=false:=by decide):PE X (.Name x pos) (aad i):=by
 intro pins s σ H Q I h
 obtain⟨v,e,h⟩:=h
 obtain⟨m,hn,hl⟩:=I.loc
 obtain⟨u,r,l⟩:=hl i x v hN e hv
 have fin:EP X pins σ Q u s:=⟨v,H,I,r,h⟩
 rcases l with ⟨hk,hm⟩ | ⟨hk,c,hc,hcell⟩
 ·exact wpAny_Name (wpAny_loadName_local I.ok.kind hk hn hm fin) hd
 ·rcases hk with hk | hk
  ·exact wpAny_Name (wpAny_loadName_cell I.ok.kind hk hc hcell fin) hd
  ·exact wpAny_Name (wpAny_loadName_free I.ok.kind hk hc hcell fin hcd) hd
theorem aB {i j pos}:PE X (.Constant (.int i) j pos) (tC (.int i)):=λ_ _ _ H _ I h=>wpAny_Constant_int ⟨.int i,H,I.tok _,⟨_,rfl⟩,h⟩
theorem qT {b j pos}:PE X (.Constant (.bool b) j pos) (tC (.bl b)):=λ_ _ _ H _ I h=>Constant_bool ⟨.bl b,H,I,rfl,h⟩
theorem yo {j pos}:PE X (.Constant .none j pos) (tC .non):=λ_ _ _ H _ I h=>Constant_none ⟨.non,H,I,rfl,h⟩
theorem bT {x j pos}:PE X (.Constant (.str x) j pos) (tC (.str x)):=λ_ _ _ H _ I h=>Calls.Constant_str ⟨.str x,H,I.tok _,⟨_,rfl⟩,h⟩
noncomputable def Gl (X:Cx) (x:Str):Prop:=X.env.kindOf x=some .globalImplicit
theorem Ja {E:Value->Shared->Prop} {pins:List (Addr×Obj)} {s:Shared} {σ:St} {H:Hp} {x:Str} {u:Value} {pos:Pos} {Q:Value->Shared->Prop} (I:Inv X pins σ H s) (hg:Gl X x) (hm:X.mg x=some u) (h:Q u s)
  (hd:(x == ("__debug__" :Str))=false:=by decide):wpAny (model X.prog X.w) X.A (eval (.Name x pos) X.env) Q E s:=
 Calls.Name_function_global I.ok.kind hg (Calls.loadGlobal_global (by rw [I.ok.glob];exact I.mod.glob.keeps I.bk) hm h) hd
theorem DR {E:Value->Shared->Prop} {pins:List (Addr×Obj)} {s:Shared} {σ:St} {H:Hp} {x:Str} {u:Value} {pos:Pos} {Q:Value->Shared->Prop} (I:Inv X pins σ H s) (hg:Gl X x) (hm:X.mg x=none) (hv:bootBuiltins x=some u) (h:Q u s)
  (hn:x≠ "__name__" :=by decide) (hd:(x == ("__debug__" :Str))=false:=by decide):wpAny (model X.prog X.w) X.A (eval (.Name x pos) X.env) Q E s:=by
 obtain⟨mb,h1,h2⟩:=I.mod.blt
 exact Calls.Name_function_global I.ok.kind hg (Calls.loadGlobal_builtin (by rw [I.ok.glob];exact I.mod.glob.keeps I.bk) hm (by rw [I.ok.blt];exact h1.keeps I.bk) ((h2 x hn).trans hv) h) hd
theorem Ip {x:Str} {v:V} {u:Value} {pos:Pos} (hg:Gl X x) (hm:X.mg x=some u) (r:RelV v u) (hd:(x == ("__debug__" :Str))=false:=by decide):PE X (.Name x pos) (tC v):=
 λ_ _ _ H _ I h=>Ja I hg hm ⟨v,H,I,r,h⟩ hd
theorem Wz {x:Str} {v:V} {u:Value} {pos:Pos} (hg:Gl X x) (hm:X.mg x=none) (hv:bootBuiltins x=some u) (r:RelV v u) (hn:x≠ "__name__" :=by decide) (hd:(x == ("__debug__" :Str))=false:=by decide):PE X (.Name x pos) (tC v):=
 λ_ _ _ H _ I h=>DR I hg hm hv ⟨v,H,I,r,h⟩ hn hd
variable {a b:Expr} {ta tb:TE} {pos:Pos}
noncomputable def PC (X:Cx) (op:CmpOp) (a b:Expr) (t:TE):Prop:=
 ∀(pins:List (Addr×Obj)) (s:Shared) (σ:St) (H:Hp) (Q:VK),Inv X pins σ H s->t σ H Q->
  wpAny (model X.prog X.w) X.A (eval a X.env) (λv s₁=>wpAny (model X.prog X.w) X.A (eval b X.env) (λu s₂=>wpAny (model X.prog X.w) X.A (compareOp op v u) (EP X pins σ Q) X.xe s₂) X.xe s₁) X.xe s
theorem K6 (b:Expr) {op:CmpOp} (h:op≠.In) (h2:op≠.NotIn):behindInMarks op b=false:=by
 have e1:(op == CmpOp.In)=false:=by cases op <;> first | rfl | exact absurd rfl h
 have e2:(op == CmpOp.NotIn)=false:=by cases op <;> first | rfl | exact absurd rfl h2
 cases b <;> simp [behindInMarks,e1,e2]
noncomputable def aa4 (ta:TE):TE:=λσ H Q=>ta σ H λx H1=>Q (.bl (decide (x=.non))) H1
noncomputable def aax (ta:TE):TE:=λσ H Q=>ta σ H λx H1=>Q (.bl (!decide (x=.non))) H1
theorem RelV.none_iff {x:V} {v:Value} (r:RelV x v):(v == Value.none)=decide (x=.non):=by
 cases x with
 | non=>cases r;rfl
 | bl _=>cases r;rfl
 | int _=>obtain⟨t,rfl⟩:=r;rfl
 | str _=>obtain⟨t,rfl⟩:=r;rfl
 | byt _=>obtain⟨t,rfl⟩:=r;rfl
 | flt _=>obtain⟨t,rfl⟩:=r;rfl
 | ref _=>cases r;rfl
 | ty _=>cases r;rfl
theorem FZ {j pos'} (ha:PE X a ta):PC X .Is a (.Constant .none j pos') (aa4 ta):=by
 intro pins s σ H Q I h
 refine dG (ha pins s σ H _ I h) λv s1 hpt=>?_
 obtain⟨x,H1,I1,r1,q1⟩:=hpt
 exact Constant_none (is_none_gen ⟨.bl _,H1,I1,by rw [r1.none_iff];rfl,q1⟩)
theorem CT {j pos'} (ha:PE X a ta):PC X .IsNot a (.Constant .none j pos') (aax ta):=by
 intro pins s σ H Q I h
 refine dG (ha pins s σ H _ I h) λv s1 hpt=>?_
 obtain⟨x,H1,I1,r1,q1⟩:=hpt
 exact Constant_none (isnot_none_gen ⟨.bl _,H1,I1,by rw [r1.none_iff];rfl,q1⟩)
inductive tBI (Q:Bool->Hp->Prop) (x:V) (H1:Hp):Prop where
 | mk:∀c,x=.bl c->Q c H1->tBI Q x H1
noncomputable def tB (t:TE):TT:=λσ H Q=>t σ H λx H1=>tBI Q x H1
theorem JC {op:CmpOp} {t:TE} (h:PC X op a b t) (h1:behindInMarks op b=false:=by first | exact K6 _ (by decide) (by decide) | rfl):PE X (.Compare a [op] [b] pos) t:=λpins s σ H Q I hw=>wpAny_Compare1 (h pins s σ H Q I hw) h1
theorem fP {op:CmpOp} {t:TE} (h:PC X op a b t) (h1:behindInMarks op b=false:=by first | exact K6 _ (by decide) (by decide) | rfl):PT X (.Compare a [op] [b] pos) (tB t):=by
 intro pins s σ H Q I hw
 refine wpAny_isTrue_Compare1 (dG (h pins s σ H _ I hw) λv s1 h1=>dG h1 λu s2 h2=>dG h2 λc s3 hpt=>?_) h1
 obtain⟨x,H1,I1,r1,q1⟩:=hpt
 obtain⟨d,rfl,q⟩:=q1
 cases r1
 exact wpAny_truthy_bool ⟨H1,I1,q⟩
theorem lW {e:Expr} {t:TE} (h:PE X e t) (he:∀whole,isTrue e X.env whole=(do let v <-whole;standAt e.pos;holding [v] (truthy v)):=by intro _;rfl):PT X e (tB t):=by
 intro pins s σ H Q I hw
 refine isTrue_plain (dG (h pins s σ H _ I hw) λv s1 ⟨x,H1,I1,r1,q1⟩=>?_) (he _)
 obtain⟨d,rfl,q⟩:=q1
 cases r1
 exact wpAny_truthy_bool ⟨H1,I1,q⟩
variable {tA tB':TT} {rest:List Expr}
noncomputable def abw (t u:TT):TT:=λσ H Q=>t σ H λc H1=>if c=true then u σ H1 Q else Q false H1
noncomputable def tOr (t u:TT):TT:=λσ H Q=>t σ H λc H1=>if c=true then Q true H1 else u σ H1 Q
noncomputable def abv (t:TT):TT:=λσ H Q=>t σ H λc H1=>Q (!c) H1
theorem Jt (ha:PT X a tA):PW X (.BoolOp .And [a] pos) tA:=by
 intro wh pins s σ H Q I h
 refine isTrue_and (dG (ha pins s σ H Q I h) λc s1 e=>?_)
 cases c with
 | true=>exact isTrue_and_nil e
 | false=>exact e
theorem qg (ha:PT X a tA):PW X (.BoolOp .Or [a] pos) tA:=by
 intro wh pins s σ H Q I h
 refine isTrue_or (dG (ha pins s σ H Q I h) λc s1 e=>?_)
 cases c with
 | false=>exact isTrue_or_nil e
 | true=>exact e
theorem Nq (ha:PT X a tA) (hb:PW X (.BoolOp .And (b:: rest) pos) tB'):PW X (.BoolOp .And (a:: b:: rest) pos) (abw tA tB'):=by
 intro wh pins s σ H Q I h
 refine isTrue_and (dG (ha pins s σ H _ I h) λc s1 hpt=>?_)
 obtain⟨H1,I1,q1⟩:=hpt
 cases c with
 | true=>exact hb wh pins s1 σ H1 Q I1 q1
 | false=>exact⟨H1,I1,q1⟩
theorem xn (ha:PT X a tA) (hb:PW X (.BoolOp .Or (b:: rest) pos) tB'):PW X (.BoolOp .Or (a:: b:: rest) pos) (tOr tA tB'):=by
 intro wh pins s σ H Q I h
 refine isTrue_or (dG (ha pins s σ H _ I h) λc s1 hpt=>?_)
 obtain⟨H1,I1,q1⟩:=hpt
 cases c with
 | true=>exact⟨H1,I1,q1⟩
 | false=>exact hb wh pins s1 σ H1 Q I1 q1
theorem jj (ha:PT X a tA):PT X (.UnaryOp .Not a pos) (abv tA):=by
 intro pins s σ H Q I h
 exact isTrue_not (ha pins s σ H (λc H1=>Q (!c) H1) I h)
inductive Ud (tb:TE) (σ:St) (Q:VK) (x:V) (H1:Hp):Prop where
 | mk:∀c,x=.bl c->(if c=true then tb σ H1 Q else Q (.bl false) H1)->Ud tb σ Q x H1
noncomputable def aat (ta tb:TE):TE:=λσ H Q=>ta σ H λx H1=>Ud tb σ Q x H1
inductive XS (tb:TE) (σ:St) (Q:VK) (x:V) (H1:Hp):Prop where
 | mk:∀c,x=.bl c->(if c=true then Q (.bl true) H1 else tb σ H1 Q)->XS tb σ Q x H1
noncomputable def aa6 (ta tb:TE):TE:=λσ H Q=>ta σ H λx H1=>XS tb σ Q x H1
inductive Tc (Q:VK) (x:V) (H1:Hp):Prop where
 | mk:∀c,x=.bl c->Q (.bl (!c)) H1->Tc Q x H1
noncomputable def Zx (ta:TE):TE:=λσ H Q=>ta σ H λx H1=>Tc Q x H1
theorem zW {op} {t:TE} (h:PE X a t):PE X (.BoolOp op [a] pos) t:=λpins s σ H Q I hw=>BoolOp_one (h pins s σ H Q I hw)
theorem zX (ha:PE X a ta) (hb:PE X (.BoolOp .And (b:: rest) pos) tb):PE X (.BoolOp .And (a:: b:: rest) pos) (aat ta tb):=by
 intro pins s σ H Q I h
 refine BoolOp_and (dG (ha pins s σ H _ I h) λv s1 hpt=>?_)
 obtain⟨x,H1,I1,r1,q1⟩:=hpt
 obtain⟨c,rfl,q1⟩:=q1
 cases r1
 refine wpAny_truthy_bool ?_
 cases c with
 | true=>exact hb pins s1 σ H1 Q I1 q1
 | false=>exact⟨.bl false,H1,I1,rfl,q1⟩
theorem ZZ (ha:PE X a ta) (hb:PE X (.BoolOp .Or (b:: rest) pos) tb):PE X (.BoolOp .Or (a:: b:: rest) pos) (aa6 ta tb):=by
 intro pins s σ H Q I h
 refine BoolOp_or (dG (ha pins s σ H _ I h) λv s1 hpt=>?_)
 obtain⟨x,H1,I1,r1,q1⟩:=hpt
 obtain⟨c,rfl,q1⟩:=q1
 cases r1
 refine wpAny_truthy_bool ?_
 cases c with
 | false=>exact hb pins s1 σ H1 Q I1 q1
 | true=>exact⟨.bl true,H1,I1,rfl,q1⟩
theorem Yl (ha:PE X a ta):PE X (.UnaryOp .Not a pos) (Zx ta):=by
 intro pins s σ H Q I h
 refine UnaryOp_ (dG (ha pins s σ H _ I h) λv s1 hpt=>?_)
 obtain⟨x,H1,I1,r1,q1⟩:=hpt
 obtain⟨c,rfl,q1⟩:=q1
 cases r1
 exact not_of (wpAny_truthy_bool ⟨.bl (!c),H1,I1,rfl,q1⟩)
noncomputable def tIf (t:TT) (ta tb:TE):TE:=λσ H Q=>t σ H λc H1=>if c=true then ta σ H1 Q else tb σ H1 Q
theorem n6 {c:Expr} (hc:PT X c tA) (ha:PE X a ta) (hb:PE X b tb):PE X (.IfExp c a b pos) (tIf tA ta tb):=by
 intro pins s σ H Q I h
 refine wpAny_IfExp (dG (hc pins s σ H _ I h) λd s1 hpt=>?_)
 obtain⟨H1,I1,q1⟩:=hpt
 cases d with
 | true=>exact ha pins s1 σ H1 Q I1 q1
 | false=>exact hb pins s1 σ H1 Q I1 q1
end
noncomputable def bI (K:PySem.W.Frag) (H:Hp) (a:Addr) (xs:List V):Prop:=
 Rd H a (.lst xs)∨
  ∃(o:Obj) (its:Array Value) (n:Nat),K.lookup a=some o/\o.cls=.type "list" /\o.dict=none/\o.data=.seq its n/\its.size<=sizeLine/\Vals xs its.toList
noncomputable def cP (K:PySem.W.Frag) (H:Hp) (a:Addr) (xs:List V):Prop:=
 Rd H a (.tup xs)∨
  ∃(o:Obj) (its:Array Value) (n:Nat),K.lookup a=some o/\o.cls=.type "tuple" /\o.data=.seq its n/\its.size<=sizeLine/\Vals xs its.toList
noncomputable def aa3:Value->Option V
 | .none=>some .non
 | .bool b=>some (.bl b)
 | .int i _=>some (.int i)
 | .str x _=>some (.str x)
 | .bytes b _=>some (.byt b)
 | .float b _=>some (.flt b)
 | .ref a=>some (.ref a)
 | .type n=>some (.ty n)
 | _=>none
theorem RelV.abs {x:V} {u:Value} (r:RelV x u):aa3 u=some x:=by
 cases x with
 | non=>cases r;rfl
 | bl _=>cases r;rfl
 | int _=>obtain⟨t,rfl⟩:=r;rfl
 | str _=>obtain⟨t,rfl⟩:=r;rfl
 | byt _=>obtain⟨t,rfl⟩:=r;rfl
 | flt _=>obtain⟨t,rfl⟩:=r;rfl
 | ref _=>cases r;rfl
 | ty _=>cases r;rfl
theorem RelV.inj {x y:V} {u:Value} (r:RelV x u) (q:RelV y u):x=y:=Option.some.inj (r.abs.symm.trans q.abs)
theorem Vals.inj:∀{xs ys:List V} {us:List Value},Vals xs us->Vals ys us->xs=ys
 | _,_,_,.nil,.nil=>rfl
 | _,_,_,.cons r t,.cons r' t'=>by rw [r.inj r',Vals.inj t t']
section
variable {X:Cx} {pins:List (Addr×Obj)} {σ:St} {H:Hp} {s:Shared} {a:Addr} {xs ys:List V}
theorem bI.of {K:PySem.W.Frag} (h:H a=some (.lst xs)):bI K H a xs:=.inl (.inl h)
theorem cP.of {K:PySem.W.Frag} (h:H a=some (.tup xs)):cP K H a xs:=.inl (.inl h)
theorem Inv.list (I:Inv X pins σ H s) (h:bI X.K H a xs):∃its:List Value,Vals xs its/\PlainL s.heap a its.toArray/\xs.length<=sizeLine:=by
 rcases h with h | ⟨o,its,n,hk,hc,hd,hs,hz,r⟩
 ·obtain⟨z,its,n,r,e⟩:=h.ok I.hok
  exact⟨its,r,⟨_,n,e,rfl,rfl,rfl⟩,z⟩
 ·refine⟨its.toList,r,⟨o,n,I.kIn a o hk,hc,hd,by simpa using hs⟩,?_⟩
  have e:=r.length
  simp only [Array.length_toList] at e
  omega
theorem Inv.tuple (I:Inv X pins σ H s) (h:cP X.K H a xs):∃its:List Value,Vals xs its/\IsTup s.heap a its.toArray/\xs.length<=sizeLine:=by
 rcases h with h | ⟨o,its,n,hk,hc,hs,hz,r⟩
 ·obtain⟨z,its,r,p⟩:=h.ok I.hok
  exact⟨its,r,p,z⟩
 ·refine⟨its.toList,r,⟨o,I.kIn a o hk,hc,n,by simpa using hs⟩,?_⟩
  have e:=r.length
  simp only [Array.length_toList] at e
  omega
theorem Inv.list_inj (I:Inv X pins σ H s) (h:bI X.K H a xs) (h':bI X.K H a ys):xs=ys:=by
 obtain⟨its,r,⟨o,n,e,_,_,d⟩,_⟩:=I.list h
 obtain⟨its',r',⟨o',n',e',_,_,d'⟩,_⟩:=I.list h'
 rw [e] at e';cases e'
 rw [d] at d'
 injection d' with d1 _
 have:its=its':=by simpa using congrArg Array.toList d1
 subst this
 exact r.inj r'
theorem Inv.tuple_inj (I:Inv X pins σ H s) (h:cP X.K H a xs) (h':cP X.K H a ys):xs=ys:=by
 obtain⟨its,r,⟨o,e,_,n,d⟩,_⟩:=I.tuple h
 obtain⟨its',r',⟨o',e',_,n',d'⟩,_⟩:=I.tuple h'
 rw [e] at e';cases e'
 rw [d] at d'
 injection d' with d1 _
 have:its=its':=by simpa using congrArg Array.toList d1
 subst this
 exact r.inj r'
end
noncomputable abbrev Cx.wish (X:Cx) (E:Value->Shared->Prop):Cx:={ X with xe:=E }
noncomputable abbrev Cx.nox (X:Cx):Cx:=X.wish λ_ _=>False
theorem Cx.Ok.wish {X:Cx} (ok:X.Ok) (E:Value->Shared->Prop):(X.wish E).Ok:=
 ⟨ok.mod,ok.kind,ok.glob,ok.blt,ok.above,ok.inj,ok.has,ok.cab,ok.hd,ok.frames,ok.stk,ok.exf,ok.bs,ok.bsz,ok.noex,ok.exfs,ok.funs,ok.frf⟩
theorem Cx.Ok.unwish {X:Cx} {E:Value->Shared->Prop} (ok:(X.wish E).Ok):X.Ok:=
 ⟨ok.mod,ok.kind,ok.glob,ok.blt,ok.above,ok.inj,ok.has,ok.cab,ok.hd,ok.frames,ok.stk,ok.exf,ok.bs,ok.bsz,ok.noex,ok.exfs,ok.funs,ok.frf⟩
section
variable {X:Cx} {pins:List (Addr×Obj)} {σ:St} {H:Hp} {s:Shared} {E:Value->Shared->Prop}
theorem Inv.wish (I:Inv X pins σ H s) (E:Value->Shared->Prop):Inv (X.wish E) pins σ H s:=⟨I.ok.wish E,I.os,I.bare,I.base,I.loc,I.cell,I.free,I.freeC,I.pin,I.hok,I.len⟩
theorem Inv.unwish (I:Inv (X.wish E) pins σ H s):Inv X pins σ H s:=⟨I.ok.unwish,I.os,I.bare,I.base,I.loc,I.cell,I.free,I.freeC,I.pin,I.hok,I.len⟩
theorem SP.unwish {D:Ends} {f:Flow} {s':Shared} (h:SP (X.wish E) pins D f s'):SP X pins D f s':=by
 cases f with
 | next=>obtain⟨σ',H',I,q⟩:=h;exact⟨σ',H',I.unwish,q⟩
 | brk=>obtain⟨σ',H',I,q⟩:=h;exact⟨σ',H',I.unwish,q⟩
 | cont=>obtain⟨σ',H',I,q⟩:=h;exact⟨σ',H',I.unwish,q⟩
 | ret u=>obtain⟨v,σ',H',I,r,q⟩:=h;exact⟨v,σ',H',I.unwish,r,q⟩
theorem PN.nox {st:List Stmt} {t:TS} (h:PN X.nox st t):PN X st t:=λpins s σ H D I hw=>
 wpAny_mono (h pins s σ H D (I.wish _) hw) (λ_ _ q=>q.unwish) λ_ _ z=>False.elim z
end
section
variable {X:Cx} {st:Stmt} {rest:List Stmt} {t u:TS} {e:Expr} {te:TE} {pos:Pos}
noncomputable def ZF:TS:=λD σ H=>D.nx σ H
noncomputable def Ge (t u:TS):TS:=λD σ H=>t { D with nx:=u D } σ H
theorem bu:PN X [] ZF:=λ_ _ σ H _ I h=>wpAny_execs_nil ⟨σ,H,I,h⟩
theorem ao (h1:PS X st t) (h2:PN X rest u):PN X (st:: rest) (Ge t u):=by
 intro pins s σ H D I h
 refine wpAny_execs_cons (dG (h1 pins s σ H { D with nx:=u D } I h) λf s1 q=>?_)
 cases f with
 | next=>
  obtain⟨σ',H',I',q⟩:=q
  exact h2 pins s1 σ' H' D I' q
 | ret v=>exact q
 | brk=>exact q
 | cont=>exact q
theorem au (h1:PS X st t):PN X [st] t:=by
 intro pins s σ H D I h
 refine wpAny_execs_cons (dG (h1 pins s σ H D I h) λf s1 q=>?_)
 cases f with
 | next=>exact wpAny_execs_nil q
 | ret v=>exact q
 | brk=>exact q
 | cont=>exact q
theorem Inv.quiet {pins:List (Addr×Obj)} {σ:St} {H:Hp} {s:Shared} (I:Inv X pins σ H s):interactive X.env=false:=by simp [interactive,I.ok.kind]
noncomputable def aaI (te:TE):TS:=λD σ H=>te σ H λ_ H1=>D.nx σ H1
theorem dh (he:PE X e te) (hs:swapsWith e none pos.line X.env=pure false:=by rfl):PS X (.Expr e pos) (aaI te):=by
 intro pins s σ H D I h
 exact wpAny_Expr_any (dG (he pins s σ H _ I h) λv s1 ⟨x,H1,I1,r1,q1⟩=>⟨σ,H1,I1,q1⟩) I.quiet hs
noncomputable def abn (te:TE):TS:=λD σ H=>te σ H D.rt
theorem aQ (he:PE X e te):PS X (.Return (some e) pos) (abn te):=by
 intro pins s σ H D I h
 exact wpAny_Return_some (dG (he pins s σ H _ I h) λv s1 ⟨x,H1,I1,r1,q1⟩=>⟨x,σ,H1,I1,r1,q1⟩)
noncomputable def aaZ (c:TT) (t u:TS):TS:=λD σ H=>c σ H λb H1=>if b=true then t D σ H1 else u D σ H1
theorem b7 {c:Expr} {a b:List Stmt} {tc:TT} (hc:PT X c tc) (ha:PN X a t) (hb:PN X b u):PS X (.If c a b pos) (aaZ tc t u):=by
 intro pins s σ H D I h
 refine wpAny_If (dG (hc pins s σ H _ I h) λd s1 hpt=>?_)
 obtain⟨H1,I1,q1⟩:=hpt
 cases d with
 | true=>exact ha pins s1 σ H1 D I1 q1
 | false=>exact hb pins s1 σ H1 D I1 q1
noncomputable def Za:TS:=λ_ _ _=>False
theorem cH:PS X st Za:=λ_ _ _ _ _ _ h=>h.elim
end
noncomputable abbrev TG:=V->St->Hp->(St->Hp->Prop)->Prop
noncomputable abbrev Vo:=List V->St->Hp->(St->Hp->Prop)->Prop
noncomputable def PG (X:Cx) (target:Expr) (t:TG):Prop:=
 ∀(pins:List (Addr×Obj)) (s:Shared) (σ:St) (H:Hp) (v:V) (u:Value) (Q:St->Hp->Prop),Inv X pins σ H s->RelV v u->t v σ H Q->
  wpAny (model X.prog X.w) X.A (assign target X.env u) (λ_ s'=>∃σ' H',Inv X pins σ' H' s'/\Q σ' H') X.xe s
noncomputable def PGs (X:Cx) (ts:List Expr) (t:Vo):Prop:=
 ∀(pins:List (Addr×Obj)) (s:Shared) (σ:St) (H:Hp) (vs:List V) (us:List Value) (Q:St->Hp->Prop),Inv X pins σ H s->Vals vs us->t vs σ H Q->
  wpAny (model X.prog X.w) X.A (assignInOrder ((assignEach ts X.env).map (·.2)) us) (λ_ s'=>∃σ' H',Inv X pins σ' H' s'/\Q σ' H') X.xe s
section
variable {X:Cx} {pos:Pos}
noncomputable def Bk (i:Nat):TG:=λv σ H Q=>Q (σ.set i (some v)) H
theorem wU {i:Nat} {x:Str} (hN:X.N.Nodup) (hi:X.N[i]?=some x) (hx:Loc X.env.scope x) (hf:X.fn x=true∨X.env.scope.names.lookup x=some .local:=by first | exact .inl rfl | exact .inr rfl | assumption):PG X (.Name x pos) (Bk i):=by
 intro pins s σ H v u Q I r h
 exact wpAny_assign_Name (Kw I hN hi hx r (λs' I'=>⟨_,H,I',h⟩) hf)
noncomputable def abp:Vo:=λvs σ H Q=>vs=[]/\Q σ H
inductive Vd (t:TG) (u:Vo) (vs:List V) (σ:St) (H:Hp) (Q:St->Hp->Prop):Prop where
 | mk:∀v r,vs=v:: r->(t v σ H λσ' H'=>u r σ' H' Q)->Vd t u vs σ H Q
noncomputable def ZM (t:TG) (u:Vo):Vo:=λvs σ H Q=>Vd t u vs σ H Q
theorem sJ:PGs X [] abp:=by
 intro pins s σ H vs us Q I r h
 obtain⟨e,h⟩:=h
 subst e
 cases r
 exact assignInOrder_nil ⟨σ,H,I,h⟩
theorem fH {e:Expr} {es:List Expr} {t:TG} {u:Vo} (h1:PG X e t) (h2:PGs X es u)
  (hs:(assignEach (e:: es) X.env).map (·.2)=assign e X.env:: (assignEach es X.env).map (·.2):=by rfl):PGs X (e:: es) (ZM t u):=by
 intro pins s σ H vs us Q I r h
 obtain⟨v,vr,e1,h⟩:=h
 subst e1
 cases r with
 | cons r rr=>
  rw [hs]
  refine assignInOrder_cons (dG (h1 pins s σ H _ _ _ I r h) λ_ s1 hpt=>?_)
  obtain⟨σ1,H1,I1,q1⟩:=hpt
  exact h2 pins s1 σ1 H1 _ _ Q I1 rr q1
inductive Yc (K:PySem.W.Frag) (n:Nat) (t:Vo) (v:V) (σ:St) (H:Hp) (Q:St->Hp->Prop):Prop where
 | mk:∀a xs,v=.ref a->cP K H a xs->xs.length=n->t xs σ H Q->Yc K n t v σ H Q
noncomputable def aao (K:PySem.W.Frag) (n:Nat) (t:Vo):TG:=λv σ H Q=>Yc K n t v σ H Q
theorem Ay {es:List Expr} {k:Nat} {t:Vo} {n:Nat} (hc:X.calm=true) (h:PGs X es t)
  (hn:(assignEach es X.env).length=n:=by rfl) (hst:(assignEach es X.env).findIdx? (·.1)=none:=by rfl):PG X (.Tuple es k pos) (aao X.K n t):=by
 intro pins s σ H v u Q I r hw
 obtain⟨a,xs,e1,hq,hl,hw⟩:=hw
 subst e1
 cases r
 obtain⟨its,rv,ht,hz⟩:=I.tuple hq
 refine assign_Tuple_tuple (I.ok.hd hc) ht (by simp [hn,<-hl,rv.length]) hst λh' hx=>?_
 have I1:Inv X pins σ H { s with heap:=h' }:=I.kept (t':=s.toks) λb o e=>hx b o (Nat.ne_of_lt (Heap.lt_size e)) e
 exact h pins _ σ H xs _ Q I1 (by simpa using rv) hw
noncomputable def Sq (te:TE) (g:TG):TS:=λD σ H=>te σ H λx H1=>g x σ H1 D.nx
theorem Uc {tg e:Expr} {te:TE} {g:TG} (he:PE X e te) (hg:PG X tg g) (hs:swapsWithSole [tg] e pos.line X.env=pure false:=by rfl) (hw:swappedStores [tg] e X.env=pure none:=by rfl)
  (h1:(assignEach [tg] X.env).map (·.2)=[assign tg X.env]:=by rfl):PS X (.Assign [tg] e pos) (Sq te g):=by
 intro pins s σ H D I h
 refine wpAny_Assign_stores (dG (he pins s σ H _ I h) λv s1 hpt=>?_) hs hw
 obtain⟨x,H1,I1,r1,q1⟩:=hpt
 rw [h1]
 exact dG (hg pins s1 σ H1 x v _ I1 r1 q1) λ_ s2 q=>q
theorem Y7 {i:Nat} {x:Str} {e:Expr} {te:TE} {pos':Pos} (hN:X.N.Nodup) (hi:X.N[i]?=some x) (hx:Loc X.env.scope x) (he:PE X e te) (hs:swapsWith e (some (.Name x pos')) pos.line X.env=pure false:=by rfl) (hf:X.fn x=true∨X.env.scope.names.lookup x=some .local:=by first | exact .inl rfl | exact .inr rfl | assumption):
  PS X (.Assign [.Name x pos'] e pos) (Sq te (Bk i)):=by
 intro pins s σ H D I h
 refine wpAny_Assign_Name (dG (he pins s σ H _ I h) λv s1 hpt=>?_) hs
 obtain⟨y,H1,I1,r1,q1⟩:=hpt
 exact Kw I1 hN hi hx r1 (λs2 I2=>⟨_,H1,I2,q1⟩) hf
end
section
variable {X:Cx} {pos:Pos}
inductive O4 (c:TT) (tb:TS) (D:Ends) (σ:St) (H:Hp):Prop where
 | mk:∀W:Nat->St->Hp->Prop,((∃m,W m σ H))->(∀m σ H,W m σ H->
 c σ H λb H1=>if b=true then ∃N:St->Hp->Prop,(∀σ' H',N σ' H'->∃m',m' <m/\W m' σ' H')/\tb { D with nx:=N,ct:=N,bk:=D.nx } σ H1 else D.nx σ H1)->O4 c tb D σ H
noncomputable def Ux (c:TT) (tb:TS):TS:=λD σ H=>O4 c tb D σ H
theorem vC {c:Expr} {body:List Stmt} {tc:TT} {tb:TS} (hp:PassesOwn (model X.prog X.w) X.A X.env X.xe) (hc:PT X c tc) (hb:PN X body tb):PS X (.While c body [] pos) (Ux tc tb):=by
 intro pins s σ H D I h
 obtain⟨W,⟨m0,w0⟩,turn⟩:=h
 refine wpAny_While (codeAny_whileLoop (λn s'=>∃σ' H',Inv X pins σ' H' s'/\W n σ' H') ?_ m0 ⟨σ,H,I,w0⟩)
 rintro n s1 ⟨σ1,H1,I1,w1⟩
 refine wpAny_passesOwn hp (dG (hc pins s1 σ1 H1 _ I1 (turn n σ1 H1 w1)) λb s2 hpt=>?_)
 obtain⟨H2,I2,q2⟩:=hpt
 cases b with
 | true=>
  obtain⟨N,hN,q2⟩:=q2
  rw [if_pos rfl]
  refine wpAny_passesOwn hp (dG (hb pins s2 σ1 H2 _ I2 q2) λf s3 q3=>?_)
  cases f with
  | next=>
   obtain⟨σ3,H3,I3,n3⟩:=q3
   obtain⟨m',hm,w3⟩:=hN σ3 H3 n3
   exact⟨m',hm,σ3,H3,I3,w3⟩
  | cont=>
   obtain⟨σ3,H3,I3,n3⟩:=q3
   obtain⟨m',hm,w3⟩:=hN σ3 H3 n3
   exact⟨m',hm,σ3,H3,I3,w3⟩
  | brk=>exact q3
  | ret v=>exact q3
 | false=>
  rw [if_neg Bool.false_ne_true]
  exact wpAny_execs_nil ⟨σ1,H2,I2,q2⟩
end
structure It where
 go:Nat->Hp->Prop
 yld:Nat->Hp->V->Hp->Prop
 stop:Nat->Hp->Prop
noncomputable def Js (X:Cx) (pins:List (Addr×Obj)) (H:Hp) (b:Addr):Prop:=
 H b=none/\b≠X.env.locals/\b∉X.fs/\(b∈X.ex∨X.s₀.heap.objs.size<=b)/\(∀x c,X.env.cells.lookup x=some c->c≠b)/\∀p∈X.pn ++ pins,p.1≠b
theorem Inv.fpOk {X:Cx} {pins:List (Addr×Obj)} {σ:St} {H H':Hp} {s:Shared} {b:Addr} (I:Inv X pins σ H s) (hb:s.heap.objs.size<=b) (hn:H' b=none):Js X pins H' b:=by
 refine⟨hn,Nat.ne_of_gt (Nat.lt_of_lt_of_le I.lt hb),I.nofs hb,.inr (Nat.le_trans I.sz hb),λx c e z=>?_,λp hp z=>?_⟩
 ·obtain⟨v,q⟩:=I.cell x c e
  exact absurd (Nat.lt_of_lt_of_le q.lt (by rw [z];exact hb)) (Nat.lt_irrefl _)
 ·exact absurd (Nat.lt_of_lt_of_le (Heap.lt_size (I.pin p hp).1) (by rw [z];exact hb)) (Nat.lt_irrefl _)
structure Turn (P:Program) (w:World) (K:PySem.W.Frag) (tg:Expr) (J:It) (fp:List Addr) (it:Addr) (tn:Nat->Heap->Prop):Prop where
 mem:it∈fp
 obj:∀i h,tn i h->∀b∈fp,∃o,h.get? b=some o/\∀v,o.data≠.cell v
 keep:∀i h h',tn i h->(∀b∈fp,∀o,h.get? b=some o->h'.get? b=some o)->tn i h'
 item:∀(X:Cx),X.prog=P->X.w=w->X.K=K->X.calm=true->∀(i:Nat) (pins:List (Addr×Obj)) (s:Shared) (σ:St) (H:Hp) (E:Value->Shared->Prop),Inv X pins σ H s->(∀b∈fp,Js X pins H b)->tn i s.heap->J.go i H->
  wpAny (model P w) X.A (pyNext (.ref it)) (λr s1=>∃u,r=some u/\
   wpAny (model P w) X.A (letOwnedTupleGo tg (.ref it) u) (λ_ s2=>∃x H',Inv X pins σ H' s2/\RelV x u/\J.yld i H x H'/\tn (i+1) s2.heap/\∀b∈fp,H' b=none) E s1) E s
 done:∀(X:Cx),X.prog=P->X.w=w->X.K=K->X.calm=true->∀(i:Nat) (pins:List (Addr×Obj)) (s:Shared) (σ:St) (H:Hp) (E:Value->Shared->Prop),Inv X pins σ H s->(∀b∈fp,Js X pins H b)->tn i s.heap->J.stop i H->
  wpAny (model P w) X.A (pyNext (.ref it)) (λr s1=>r=none/\Inv X pins σ H s1) E s
 self:∀(A:Around) (i:Nat) (s:Shared) (Q:Value->Shared->Prop) (E:Value->Shared->Prop),tn i s.heap->Q (.ref it) s->wpAny (model P w) A (pyIter (.ref it)) Q E s
noncomputable abbrev TI:=St->Hp->(It->Hp->Prop)->Prop
noncomputable def PIE (X:Cx) (pins:List (Addr×Obj)) (σ:St) (tg:Expr) (R:It->Hp->Prop) (itv:Value) (s2:Shared):Prop:=
 ∃(it:Addr) (fp:List Addr) (tn:Nat->Heap->Prop) (J:It) (H':Hp),itv=.ref it/\Inv X pins σ H' s2/\Turn X.prog X.w X.K tg J fp it tn/\tn 0 s2.heap/\(∀b∈fp,Js X pins H' b)/\R J H'
noncomputable def PI (X:Cx) (tg iter:Expr) (wi:TI):Prop:=
 ∀(pins:List (Addr×Obj)) (s:Shared) (σ:St) (H:Hp) (R:It->Hp->Prop),Inv X pins σ H s->wi σ H R->
  wpAny (model X.prog X.w) X.A (eval iter X.env) (λv s1=>wpAny (model X.prog X.w) X.A (pyIter v) (PIE X pins σ tg R) X.xe s1) X.xe s
theorem Ht {M:Model} {A:Around} {E:Value->Shared->Prop} {s:Shared} {tg:Expr} {it:Addr} {u:Value} {o:Obj} {n:String} {vs:Array Value} {Q:Unit->Shared->Prop} (ho:s.heap.get? it=some o) (hc:o.cls=.type n) (hd:o.data=.fields vs)
  (hn:["enumerate", "zip", "dict_itemiterator", "dict_reverseitemiterator", "odict_iterator", "itertools.zip_longest", "itertools.pairwise"].contains n=false) (hQ:Q () s):wpAny M A (letOwnedTupleGo tg (.ref it) u) Q E s:=by
 unfold letOwnedTupleGo
 cases tg <;> first
  | exact wpAny_pure hQ
  | (cases u <;> first
    | exact wpAny_pure hQ
    | (refine wpAny_bind (wpAny_load ho ?_)
       rw [hc,hd]
       show wpAny M A (if (["enumerate", "zip", "dict_itemiterator", "dict_reverseitemiterator", "odict_iterator", "itertools.zip_longest", "itertools.pairwise"].contains n && vs[0]? == some (rawInt _))=true then _ else _) Q E s
       rw [if_neg (by intro h;rw [hn,Bool.false_and] at h;cases h)]
       exact wpAny_pure hQ))
noncomputable def Zd (K:PySem.W.Frag) (a:Addr):It:=
 ⟨λi H=>∃xs x,bI K H a xs/\xs[i]?=some x,λi H x H'=>H'=H/\∀xs,bI K H a xs->xs[i]?=some x,λi H=>∃xs,bI K H a xs/\xs.length<=i⟩
noncomputable def Zr (K:PySem.W.Frag) (a:Addr):It:=
 ⟨λi H=>∃xs x,cP K H a xs/\xs[i]?=some x,λi H x H'=>H'=H/\∀xs,cP K H a xs->xs[i]?=some x,λi H=>∃xs,cP K H a xs/\xs.length<=i⟩
noncomputable def YX (lo:Int) (n:Nat):It:=⟨λi _=>i <n,λi H x H'=>H'=H/\x=.int (lo+i),λi _=>n<=i⟩
theorem QD {P:Program} {w:World} {K:PySem.W.Frag} {tg:Expr} (a it:Addr):Turn P w K tg (Zd K a) [it] it (λi h=>h.IsListIter it a i) where
 mem:=by simp
 obj:=λi h st b hb=>by
  have e:b=it:=by simpa using hb
  subst e
  obtain⟨o,e,c,d⟩:=st
  exact⟨o,e,λv z=>by rw [d] at z;cases z⟩
 keep:=λi h h' st k=>st.at λo e=>k it (by simp) o e
 item:=by
  intro X hP hw hK hc i pins s σ H E I hf st hg
  subst hP hw hK
  obtain⟨xs,x,hq,hx⟩:=hg
  obtain⟨its,rv,p,hz⟩:=I.list hq
  obtain⟨u,hu,ru⟩:=rv.get hx
  obtain⟨f0,f1,f2,f3,f4,f5⟩:=hf it (by simp)
  refine wpAny_pyNext_list_item st p.isList (x:=u) (by simpa using hu) λh' st' sb=>?_
  have I1:Inv X pins σ H { s with heap:=h' }:=I.turned (t':=s.toks) (λb o hb e=>(sb.2 b hb).trans e) f0 f1 f3 f4 f5
  obtain⟨o,e,c,d⟩:=id st'
  exact⟨u,rfl,Ht (s:={ s with heap:=h' }) e c d (by decide) ⟨x,H,I1,ru,⟨rfl,λys hy=>by rw [I.list_inj hy hq];exact hx⟩,st',λb hb=>(hf b hb).1⟩⟩
 done:=by
  intro X hP hw hK hc i pins s σ H E I hf st hg
  subst hP hw hK
  obtain⟨xs,hq,hx⟩:=hg
  obtain⟨its,rv,p,hz⟩:=I.list hq
  obtain⟨f0,f1,f2,f3,f4,f5⟩:=hf it (by simp)
  have hl:=rv.length
  exact wpAny_pyNext_list_end (I.ok.hd hc) st p.isList (by simp;omega) λh' eb=>⟨rfl,I.turned (t':=s.toks) (λb o hb e=>eb b o hb e) f0 f1 f3 f4 f5⟩
 self:=λ_ _ _ _ _ st h=>wpAny_pyIter_listiter st h
theorem Nj {P:Program} {w:World} {K:PySem.W.Frag} {tg:Expr} (a it:Addr):Turn P w K tg (Zr K a) [it] it (λi h=>h.IsTupleIter it a i) where
 mem:=by simp
 obj:=λi h st b hb=>by
  have e:b=it:=by simpa using hb
  subst e
  obtain⟨o,e,c,d⟩:=st
  exact⟨o,e,λv z=>by rw [d] at z;cases z⟩
 keep:=λi h h' st k=>st.at λo e=>k it (by simp) o e
 item:=by
  intro X hP hw hK hc i pins s σ H E I hf st hg
  subst hP hw hK
  obtain⟨xs,x,hq,hx⟩:=hg
  obtain⟨its,rv,p,hz⟩:=I.tuple hq
  obtain⟨u,hu,ru⟩:=rv.get hx
  obtain⟨f0,f1,f2,f3,f4,f5⟩:=hf it (by simp)
  refine wpAny_pyNext_tuple_item st (show s.heap.IsTuple a its.toArray from p) (x:=u) (by simpa using hu) λh' st' sb=>?_
  have I1:Inv X pins σ H { s with heap:=h' }:=I.turned (t':=s.toks) (λb o hb e=>(sb.2 b hb).trans e) f0 f1 f3 f4 f5
  obtain⟨o,e,c,d⟩:=id st'
  exact⟨u,rfl,Ht (s:={ s with heap:=h' }) e c d (by decide) ⟨x,H,I1,ru,⟨rfl,λys hy=>by rw [I.tuple_inj hy hq];exact hx⟩,st',λb hb=>(hf b hb).1⟩⟩
 done:=by
  intro X hP hw hK hc i pins s σ H E I hf st hg
  subst hP hw hK
  obtain⟨xs,hq,hx⟩:=hg
  obtain⟨its,rv,p,hz⟩:=I.tuple hq
  obtain⟨f0,f1,f2,f3,f4,f5⟩:=hf it (by simp)
  have hl:=rv.length
  exact wpAny_pyNext_tuple_end (I.ok.hd hc) st (show s.heap.IsTuple a its.toArray from p) (by simp;omega) λh' eb=>⟨rfl,I.turned (t':=s.toks) (λb o hb e=>eb b o hb e) f0 f1 f3 f4 f5⟩
 self:=λ_ _ _ _ _ st h=>wpAny_pyIter_tupleiter st h
theorem Od {P:Program} {w:World} {K:PySem.W.Frag} {tg:Expr} (it:Addr) (lo:Int) (n:Nat):Turn P w K tg (YX lo n) [it] it (λi h=>IsRangeIter h it (lo+(i:Nat) * 1) ((n:Int) - (i:Nat)) 1) where
 mem:=by simp
 obj:=λi h st b hb=>by
  have e:b=it:=by simpa using hb
  subst e
  exact⟨_,st,λv z=>by
   have z':Data.fields _=Data.cell v:=z
   cases z'⟩
 keep:=λi h h' st k=>k it (by simp) _ st
 item:=by
  intro X hP hw hK hc i pins s σ H E I hf st hg
  subst hP hw hK
  obtain⟨f0,f1,f2,f3,f4,f5⟩:=hf it (by simp)
  have W:=Walks.range (prog:=X.prog) (w:=X.w) (I.ok.hd hc) it lo 1 n
  refine W.item i s _ _ hg st λv h' tk hv st' kk=>?_
  obtain⟨t,rfl⟩:=hv
  have I1:Inv X pins σ H { s with heap:=h',toks:=tk }:=I.turned (λb o hb e=>kk b o (by simpa using hb) e) f0 f1 f3 f4 f5
  refine⟨_,rfl,Ht (s:={ s with heap:=h',toks:=tk }) (n:= "range_iterator") st' rfl rfl (by decide) ⟨.int (lo+i),H,I1,⟨t,?_⟩,⟨rfl,rfl⟩,st',λb hb=>(hf b hb).1⟩⟩
  rw [Int.mul_one]
 done:=by
  intro X hP hw hK hc i pins s σ H E I hf st hg
  subst hP hw hK
  obtain⟨f0,f1,f2,f3,f4,f5⟩:=hf it (by simp)
  exact wpAny_pyNext_range_end (I.ok.hd hc) st (by have:n<=i:=hg;omega) λh' eb=>⟨rfl,I.turned (t':=s.toks) (λb o hb e=>eb b o hb e) f0 f1 f3 f4 f5⟩
 self:=λ_ _ _ _ _ st h=>wpAny_pyIter_rangeiter st h
section
variable {X:Cx} {tg:Expr}
inductive Tv (K:PySem.W.Frag) (R:It->Hp->Prop) (x:V) (H1:Hp):Prop where
 | mk:∀a,x=.ref a->((∃xs,bI K H1 a xs))->R (Zd K a) H1->Tv K R x H1
noncomputable def Xe (K:PySem.W.Frag) (tl:TE):TI:=λσ H R=>tl σ H λx H1=>Tv K R x H1
inductive Xd (K:PySem.W.Frag) (R:It->Hp->Prop) (x:V) (H1:Hp):Prop where
 | mk:∀a,x=.ref a->((∃xs,cP K H1 a xs))->R (Zr K a) H1->Xd K R x H1
noncomputable def aah (K:PySem.W.Frag) (tl:TE):TI:=λσ H R=>tl σ H λx H1=>Xd K R x H1
theorem bH {l:Expr} {tl:TE} (hl:PE X l tl):PI X tg l (Xe X.K tl):=by
 intro pins s σ H R I h
 refine dG (hl pins s σ H _ I h) λv s1 hpt=>?_
 obtain⟨x,H1,I1,r1,q1⟩:=hpt
 obtain⟨a,e,⟨xs,hq⟩,q⟩:=q1
 subst e
 cases r1
 obtain⟨its,rv,p,hz⟩:=I1.list hq
 refine wpAny_pyIter_list p.isList ?_
 refine⟨s1.heap.objs.size,[s1.heap.objs.size],_,_,H1,rfl,I1.kept (t':=s1.toks) λb o e=>Heap.get?_push_of_some _ e,QD a _,⟨_,Heap.get?_push_size _ rfl,rfl,rfl⟩,λb hb=>?_,q⟩
 have e:b=s1.heap.objs.size:=by simpa using hb
 subst e
 exact I1.fpOk (Nat.le_refl _) (I1.hok.fresh (Nat.le_refl _))
theorem JT {l:Expr} {tl:TE} (hl:PE X l tl):PI X tg l (aah X.K tl):=by
 intro pins s σ H R I h
 refine dG (hl pins s σ H _ I h) λv s1 hpt=>?_
 obtain⟨x,H1,I1,r1,q1⟩:=hpt
 obtain⟨a,e,⟨xs,hq⟩,q⟩:=q1
 subst e
 cases r1
 obtain⟨its,rv,p,hz⟩:=I1.tuple hq
 refine wpAny_pyIter_tuple (show s1.heap.IsTuple a its.toArray from p) ?_
 refine⟨s1.heap.objs.size,[s1.heap.objs.size],_,_,H1,rfl,I1.kept (t':=s1.toks) λb o e=>Heap.get?_push_of_some _ e,Nj a _,⟨_,Heap.get?_push_size _ rfl,rfl,rfl⟩,λb hb=>?_,q⟩
 have e:b=s1.heap.objs.size:=by simpa using hb
 subst e
 exact I1.fpOk (Nat.le_refl _) (I1.hok.fresh (Nat.le_refl _))
theorem S7 {pins:List (Addr×Obj)} {σ:St} {H:Hp} {s:Shared} {R:It->Hp->Prop} {E:Value->Shared->Prop} {lo hi:Int} {t u v:Tok} {tk:Nat} (I:Inv X pins σ H s) (h1: -(2 ^ 62)<=lo) (h2:lo <2 ^ 62) (h3: -(2 ^ 62)<=hi) (h4:hi <2 ^ 62)
  (q:R (YX lo (hi - lo).toNat) H):wpAny (model X.prog X.w) X.A (pyIter (.ref s.heap.objs.size)) (PIE X pins σ tg R) E { s with heap:=s.heap.push { cls:=.type "range",data:=.fields #[.int lo t,.int hi u,.int 1 v] },toks:=tk }:=by
 refine wpAny_pyIter_range (IsRange.new ..) (small_one h1 h2 h3 h4) ?_
 have I1:Inv X pins σ H { s with heap:=s.heap.push { cls:=.type "range",data:=.fields #[.int lo t,.int hi u,.int 1 v] },toks:=tk }:=I.kept λb o e=>Heap.get?_push_of_some _ e
 refine⟨(s.heap.push { cls:=.type "range",data:=.fields #[.int lo t,.int hi u,.int 1 v] }).objs.size,[(s.heap.push { cls:=.type "range",data:=.fields #[.int lo t,.int hi u,.int 1 v] }).objs.size],_,_,H,rfl,
  I1.kept (t':=tk) λb o e=>Heap.get?_push_of_some _ e,Od _ lo (hi - lo).toNat,?_,λb hb=>?_,q⟩
 ·have e1:lo+((0:Nat):Int) * 1=lo:=by simp
  have e2:(((hi - lo).toNat:Nat):Int) - ((0:Nat):Int)=Builtin.Range.rangeSize lo hi 1:=by rw [rangeSize_one];split <;> omega
  show IsRangeIter _ _ (lo+((0:Nat):Int) * 1) ((((hi - lo).toNat:Nat):Int) - ((0:Nat):Int)) 1
  rw [e1,e2]
  exact Heap.get?_push_size _ rfl
 ·have e:b=(s.heap.push { cls:=.type "range",data:=.fields #[.int lo t,.int hi u,.int 1 v] }).objs.size:=by simpa using hb
  subst e
  exact I1.fpOk (Nat.le_refl _) (I1.hok.fresh (Nat.le_refl _))
inductive Th (R:It->Hp->Prop) (vs:List V) (H1:Hp):Prop where
 | mk:∀j:Int,vs=[.int j]-> -(2 ^ 62)<=j->j <2 ^ 62->R (YX 0 j.toNat) H1->Th R vs H1
noncomputable def aaN (ta:TA):TI:=λσ H R=>ta σ H λvs H1=>Th R vs H1
theorem qO {a:Expr} {ta:TA} {p pos:Pos} (hg:Gl X "range") (hm:X.mg "range" =none) (ha:PA X [a] ta) (hs:starEach [a] X.env=[(false,eval a X.env)]:=by rfl):PI X tg (.Call (.Name "range" p) [a] [] pos) (aaN ta):=by
 intro pins s σ H R I h
 refine Call_ (DR I hg hm boot_range (PyProof.Rows.callWith_type1 (dG (ha pos pins s σ H _ I h) λus s1 ⟨vs,H1,I1,r1,q1⟩=>?_) hs rfl))
 obtain⟨j,e,q1,q2,q⟩:=q1
 subst e
 cases r1 with
 | cons r rr=>
  cases rr
  obtain⟨t,rfl⟩:=r
  exact call_range_1 (S7 I1 (by omega) (by omega) q1 q2 (by simpa using q))
noncomputable def abd (wi:TI) (g:TG) (tb:TS):TS:=λD σ H=>wi σ H λJ H1=>∃W:Nat->Nat->St->Hp->Prop,(∃m,W 0 m σ H1)/\∀i m σ H,W i m σ H->
 (J.stop i H/\D.nx σ H)∨(J.go i H/\∃N:St->Hp->Prop,(∀σ' H',N σ' H'->∃m',m' <m/\W (i+1) m' σ' H')/\∀x H',J.yld i H x H'->g x σ H' λσ2 H2=>tb { D with nx:=N,ct:=N,bk:=D.nx } σ2 H2)
noncomputable def Je (fp:List Addr) (h:Heap):List (Addr×Obj):=fp.filterMap λb=>(h.get? b).map λo=>(b,o)
theorem rT {fp:List Addr} {h:Heap} {b:Addr} {o:Obj} (hb:b∈fp) (e:h.get? b=some o):(b,o)∈Je fp h:=List.mem_filterMap.mpr ⟨b,hb,by rw [e];rfl⟩
theorem Qx {fp:List Addr} {h:Heap} {p:Addr×Obj} (hp:p∈Je fp h):p.1∈fp/\h.get? p.1=some p.2:=by
 obtain⟨b,hb,e⟩:=List.mem_filterMap.mp hp
 cases q:h.get? b with
 | none=>rw [q] at e;cases e
 | some o=>
  rw [q] at e
  have e':(b,o)=p:=Option.some.inj e
  subst e'
  exact⟨hb,q⟩
theorem Inv.pinned {pins:List (Addr×Obj)} {σ:St} {H:Hp} {s:Shared} {fp:List Addr} (I:Inv X pins σ H s) (hf:∀b∈fp,Js X pins H b) (ho:∀b∈fp,∃o,s.heap.get? b=some o/\∀v,o.data≠.cell v):Inv X (pins ++ Je fp s.heap) σ H s:=
 I.pins_of λp hp=>(List.mem_append.mp hp).elim (λz=>I.pin p (List.mem_append_right _ z)) λz=>by
  obtain⟨hb,e⟩:=Qx z
  obtain⟨f0,f1,f2,_⟩:=hf p.1 hb
  obtain⟨o,e',d⟩:=ho p.1 hb
  rw [e] at e';cases e'
  exact⟨e,f0,f1,f2,d⟩
theorem Inv.unpinned {pins pl:List (Addr×Obj)} {σ:St} {H:Hp} {s:Shared} (I:Inv X (pins ++ pl) σ H s):Inv X pins σ H s:=I.pins_of λp hp=>I.pin p (List.mem_append_right _ (List.mem_append_left _ hp))
theorem cX {iter:Expr} {body:List Stmt} {wi:TI} {g:TG} {tb:TS} {pos:Pos} (hp:PassesOwn (model X.prog X.w) X.A X.env X.xe) (hc:X.calm=true) (hi:PI X tg iter wi) (hg:PG X tg g) (hb:PN X body tb)
  (hs:∀x,foldedSetIterable iter X.env x=pure x:=by intro _;rfl):PS X (.For tg iter body [] pos) (abd wi g tb):=by
 intro pins s σ H D I h
 refine wpAny_For (dG (hi pins s σ H _ I h) λv s1 h1=>dG h1 λitv s2 h2=>?_) hs
 obtain⟨it,fp,tn,J,H2,e,I2,T,st2,f2,W,⟨m0,w0⟩,turn⟩:=h2
 subst e
 have stat:∀{H':Hp},(∀b∈fp,H' b=none)->∀b∈fp,Js X pins H' b:=λhn b hb=>⟨hn b hb,(f2 b hb).2⟩
 refine codeAny_forLoop_any (λn s'=>∃i σ' H',Inv X pins σ' H' s'/\tn i s'.heap/\(∀b∈fp,H' b=none)/\W i n σ' H') ?_ m0 ⟨0,σ,H2,I2,st2,λb hb=>(f2 b hb).1,w0⟩
 rintro n s3 ⟨i,σ3,H3,I3,st3,fr3,w3⟩
 rcases turn i n σ3 H3 w3 with ⟨stop,qn⟩ | ⟨go,N,hN,step⟩
 ·refine wpAny_passesOwn hp (dG (T.done X rfl rfl rfl hc i pins s3 σ3 H3 X.xe I3 (stat fr3) st3 stop) λr s4 hpt=>?_)
  obtain⟨hr,I4⟩:=hpt
  subst hr
  exact wpAny_execs_nil ⟨σ3,H3,I4,qn⟩
 ·refine wpAny_passesOwn hp (dG (T.item X rfl rfl rfl hc i pins s3 σ3 H3 X.xe I3 (stat fr3) st3 go) λr s4 hpt=>?_)
  obtain⟨u,hr,h4⟩:=hpt
  subst hr
  refine wpAny_passesOwn hp (dG h4 λ_ s5 hpt=>?_)
  obtain⟨x,H5,I5,r5,y5,st5,fr5⟩:=hpt
  have I5':=I5.pinned (stat fr5) (T.obj _ _ st5)
  refine wpAny_passesOwn hp (dG (hg _ s5 σ3 H5 x u _ I5' r5 (step x H5 y5)) λ_ s6 hpt=>?_)
  obtain⟨σ6,H6,I6,q6⟩:=hpt
  refine wpAny_passesOwn hp (dG (hb _ s6 σ6 H6 _ I6 q6) λf s7 q7=>?_)
  have again:∀{σ7:St} {H7:Hp},Inv X (pins ++ Je fp s5.heap) σ7 H7 s7->N σ7 H7->∃m,m <n/\∃i σ' H',Inv X pins σ' H' s7/\tn i s7.heap/\(∀b∈fp,H' b=none)/\W i m σ' H':=λ{σ7 H7} I7 n7=>by
   obtain⟨m',hm,w7⟩:=hN σ7 H7 n7
   refine⟨m',hm,i+1,σ7,H7,I7.unpinned,T.keep _ _ _ st5 λb hb o e=>(I7.pin (b,o) (List.mem_append_right _ (List.mem_append_right _ (rT hb e)))).1,λb hb=>?_,w7⟩
   obtain⟨o,e,d⟩:=T.obj _ _ st5 b hb
   exact(I7.pin (b,o) (List.mem_append_right _ (List.mem_append_right _ (rT hb e)))).2.1
  cases f with
  | next=>obtain⟨σ7,H7,I7,n7⟩:=q7;exact again I7 n7
  | cont=>obtain⟨σ7,H7,I7,n7⟩:=q7;exact again I7 n7
  | brk=>obtain⟨σ7,H7,I7,q7⟩:=q7;exact⟨σ7,H7,I7.unpinned,q7⟩
  | ret v=>obtain⟨x7,σ7,H7,I7,r7,q7⟩:=q7;exact⟨x7,σ7,H7,I7.unpinned,r7,q7⟩
end
theorem cY {K:PySem.W.Frag} {a:Addr} {xs:List V} {g:TG} {tb:TS} {D:Ends} {σ:St} {H:Hp} (Pv:Nat->St->Hp->Prop) (h0:Pv 0 σ H) (hl:∀i σ H,i<=xs.length->Pv i σ H->bI K H a xs)
  (hs:∀i x σ H,xs[i]?=some x->Pv i σ H->g x σ H λσ2 H2=>tb { D with nx:=Pv (i+1),ct:=Pv (i+1),bk:=D.nx } σ2 H2) (hd:∀σ H,Pv xs.length σ H->D.nx σ H):
  ∃W:Nat->Nat->St->Hp->Prop,(∃m,W 0 m σ H)/\∀i m σ H,W i m σ H->
   ((Zd K a).stop i H/\D.nx σ H)∨((Zd K a).go i H/\∃N:St->Hp->Prop,(∀σ' H',N σ' H'->∃m',m' <m/\W (i+1) m' σ' H')/\∀x H',(Zd K a).yld i H x H'->g x σ H' λσ2 H2=>tb { D with nx:=N,ct:=N,bk:=D.nx } σ2 H2):=by
 refine⟨λi m σ H=>m=xs.length - i/\i<=xs.length/\Pv i σ H,⟨xs.length,by simp,Nat.zero_le _,h0⟩,?_⟩
 rintro i m σ H ⟨rfl,hi,p⟩
 have q:=hl i σ H hi p
 by_cases hlt:i <xs.length
 ·refine .inr ⟨⟨xs,xs[i],q,by simp [hlt]⟩,Pv (i+1),λσ' H' p'=>⟨xs.length - (i+1),by omega,rfl,hlt,p'⟩,λx H' y=>?_⟩
  obtain⟨e,y⟩:=y
  subst e
  exact hs i x σ _ (y xs q) p
 ·have e:i=xs.length:=by omega
  subst e
  exact .inl ⟨⟨xs,q,Nat.le_refl _⟩,hd σ H p⟩
theorem VM {K:PySem.W.Frag} {a:Addr} {xs:List V} {g:TG} {tb:TS} {D:Ends} {σ:St} {H:Hp} (Pv:Nat->St->Hp->Prop) (h0:Pv 0 σ H) (hl:∀i σ H,i<=xs.length->Pv i σ H->cP K H a xs)
  (hs:∀i x σ H,xs[i]?=some x->Pv i σ H->g x σ H λσ2 H2=>tb { D with nx:=Pv (i+1),ct:=Pv (i+1),bk:=D.nx } σ2 H2) (hd:∀σ H,Pv xs.length σ H->D.nx σ H):
  ∃W:Nat->Nat->St->Hp->Prop,(∃m,W 0 m σ H)/\∀i m σ H,W i m σ H->
   ((Zr K a).stop i H/\D.nx σ H)∨((Zr K a).go i H/\∃N:St->Hp->Prop,(∀σ' H',N σ' H'->∃m',m' <m/\W (i+1) m' σ' H')/\∀x H',(Zr K a).yld i H x H'->g x σ H' λσ2 H2=>tb { D with nx:=N,ct:=N,bk:=D.nx } σ2 H2):=by
 refine⟨λi m σ H=>m=xs.length - i/\i<=xs.length/\Pv i σ H,⟨xs.length,by simp,Nat.zero_le _,h0⟩,?_⟩
 rintro i m σ H ⟨rfl,hi,p⟩
 have q:=hl i σ H hi p
 by_cases hlt:i <xs.length
 ·refine .inr ⟨⟨xs,xs[i],q,by simp [hlt]⟩,Pv (i+1),λσ' H' p'=>⟨xs.length - (i+1),by omega,rfl,hlt,p'⟩,λx H' y=>?_⟩
  obtain⟨e,y⟩:=y
  subst e
  exact hs i x σ _ (y xs q) p
 ·have e:i=xs.length:=by omega
  subst e
  exact .inl ⟨⟨xs,q,Nat.le_refl _⟩,hd σ H p⟩
theorem wJ {lo:Int} {n:Nat} {g:TG} {tb:TS} {D:Ends} {σ:St} {H:Hp} (Pv:Nat->St->Hp->Prop) (h0:Pv 0 σ H)
  (hs:∀i σ H,i <n->Pv i σ H->g (.int (lo+i)) σ H λσ2 H2=>tb { D with nx:=Pv (i+1),ct:=Pv (i+1),bk:=D.nx } σ2 H2) (hd:∀σ H,Pv n σ H->D.nx σ H):
  ∃W:Nat->Nat->St->Hp->Prop,(∃m,W 0 m σ H)/\∀i m σ H,W i m σ H->
   ((YX lo n).stop i H/\D.nx σ H)∨((YX lo n).go i H/\∃N:St->Hp->Prop,(∀σ' H',N σ' H'->∃m',m' <m/\W (i+1) m' σ' H')/\∀x H',(YX lo n).yld i H x H'->g x σ H' λσ2 H2=>tb { D with nx:=N,ct:=N,bk:=D.nx } σ2 H2):=by
 refine⟨λi m σ H=>m=n - i/\i<=n/\Pv i σ H,⟨n,by simp,Nat.zero_le _,h0⟩,?_⟩
 rintro i m σ H ⟨rfl,hi,p⟩
 by_cases hlt:i <n
 ·refine .inr ⟨hlt,Pv (i+1),λσ' H' p'=>⟨n - (i+1),by omega,rfl,hlt,p'⟩,λx H' y=>?_⟩
  obtain⟨e,y⟩:=y
  subst e y
  exact hs i σ _ hlt p
 ·have e:i=n:=by omega
  subst e
  exact .inl ⟨Nat.le_refl _,hd σ H p⟩
theorem vy {c:TT} {tb:TS} {D:Ends} {σ:St} {H:Hp} (Pv:St->Hp->Prop) (μ:St->Hp->Nat) (h0:Pv σ H)
  (hs:∀σ H,Pv σ H->c σ H λb H1=>if b=true then tb { D with nx:=λσ' H'=>Pv σ' H'/\μ σ' H' <μ σ H,ct:=λσ' H'=>Pv σ' H'/\μ σ' H' <μ σ H,bk:=D.nx } σ H1 else D.nx σ H1)
  (mono:∀σ H Q Q',(∀b H1,Q b H1->Q' b H1)->c σ H Q->c σ H Q'):Ux c tb D σ H:=by
 refine⟨λm σ H=>m=μ σ H/\Pv σ H,⟨_,rfl,h0⟩,?_⟩
 rintro m σ H ⟨rfl,p⟩
 refine mono σ H _ _ (λb H1 q=>?_) (hs σ H p)
 cases b with
 | true=>exact⟨_,λσ' H' ⟨p',l⟩=>⟨_,l,rfl,p'⟩,q⟩
 | false=>exact q
noncomputable abbrev R2:=V->V->Hp->VK->Prop
noncomputable def yJ (X:Cx) (f:Value->Value->Sem Value) (r:R2):Prop:=
 ∀(pins:List (Addr×Obj)) (s:Shared) (σ:St) (H:Hp) (x y:V) (v u:Value) (Q:VK),Inv X pins σ H s->RelV x v->RelV y u->r x y H Q->
  wpAny (model X.prog X.w) X.A (f v u) (EP X pins σ Q) X.xe s
noncomputable def UnR (X:Cx) (f:Value->Sem Value) (r:V->Hp->VK->Prop):Prop:=
 ∀(pins:List (Addr×Obj)) (s:Shared) (σ:St) (H:Hp) (x:V) (v:Value) (Q:VK),Inv X pins σ H s->RelV x v->r x H Q->
  wpAny (model X.prog X.w) X.A (f v) (EP X pins σ Q) X.xe s
noncomputable def lK (X:Cx) (f:Value) (r:List V->Hp->VK->Prop):Prop:=
 ∀(pins:List (Addr×Obj)) (s:Shared) (σ:St) (H:Hp) (xs:List V) (us:List Value) (Q:VK),Inv X pins σ H s->Vals xs us->r xs H Q->
  wpAny (model X.prog X.w) X.A (call f us) (EP X pins σ Q) X.xe s
noncomputable def Z8 (r:R2) (ta tb:TE):TE:=λσ H Q=>ta σ H λx H1=>tb σ H1 λy H2=>r x y H2 Q
noncomputable def tUn (r:V->Hp->VK->Prop) (ta:TE):TE:=λσ H Q=>ta σ H λx H1=>r x H1 Q
inductive rII (C:Int->Int->Prop) (g:Int->Int->V) (x:V) (y:V) (H:Hp) (Q:VK):Prop where
 | mk:∀i j,x=.int i->y=.int j->C i j->Q (g i j) H->rII C g x y H Q
noncomputable def rI (C:Int->Int->Prop) (g:Int->Int->V):R2:=λx y H Q=>rII C g x y H Q
inductive aaL (g:Int->Int->V) (x:V) (y:V) (H:Hp) (Q:VK):Prop where
 | mk:∀i j,x=.int i->y=.int j->Q (g i j) H->aaL g x y H Q
noncomputable def VH (g:Int->Int->V):R2:=λx y H Q=>aaL g x y H Q
noncomputable def rU (g:Int->V):V->Hp->VK->Prop:=λx H Q=>∃i,x=.int i/\Q (g i) H
section
variable {X:Cx} {a b c:Expr} {ta tb tc:TE} {pos:Pos}
theorem Yi (ha:PE X a ta) (hb:PE X b tb) {pins:List (Addr×Obj)} {s:Shared} {σ:St} {H:Hp} {R:V->V->Hp->Prop} (I:Inv X pins σ H s)
  (h:ta σ H λx H1=>tb σ H1 λy H2=>R x y H2) {Q:Value->Shared->Prop} {f:Value->Value->Sem Value}
  (hf:∀v u s2 x y H2,Inv X pins σ H2 s2->RelV x v->RelV y u->R x y H2->wpAny (model X.prog X.w) X.A (f v u) Q X.xe s2):
  wpAny (model X.prog X.w) X.A (eval a X.env) (λv s₁=>wpAny (model X.prog X.w) X.A (eval b X.env) (λu s₂=>wpAny (model X.prog X.w) X.A (f v u) Q X.xe s₂) X.xe s₁) X.xe s:=by
 refine dG (ha pins s σ H _ I h) λv s1 hpt=>?_
 obtain⟨x,H1,I1,r1,q1⟩:=hpt
 refine dG (hb pins s1 σ H1 _ I1 q1) λu s2 hpt=>?_
 obtain⟨y,H2,I2,r2,q2⟩:=hpt
 exact hf v u s2 x y H2 I2 r1 r2 q2
theorem bB {op:Operator} {r:R2} (ho:yJ X (binaryOp op) r) (ha:PE X a ta) (hb:PE X b tb):PE X (.BinOp a op b pos) (Z8 r ta tb):=by
 intro pins s σ H Q I h
 exact wpAny_BinOp (Yi ha hb I h λv u s2 x y H2 I2 rx ry q=>ho pins s2 σ H2 x y v u Q I2 rx ry q)
theorem aay {op:UnaryOp} {r:V->Hp->VK->Prop} (ho:UnR X (unaryOp op) r) (ha:PE X a ta):PE X (.UnaryOp op a pos) (tUn r ta):=by
 intro pins s σ H Q I h
 exact UnaryOp_ (dG (ha pins s σ H _ I h) λv s1 ⟨x,H1,I1,r1,q1⟩=>ho pins s1 σ H1 x v Q I1 r1 q1)
theorem opI {f:Value->Value->Sem Value} {C:Int->Int->Prop} {g:Int->Int->Int}
  (rule:∀(i j:Int) (t u:Tok) (s:Shared) (Q:Value->Shared->Prop) (E:Value->Shared->Prop),C i j->Q (.int (g i j) s.toks) { s with toks:=s.toks+1 }->wpAny (model X.prog X.w) X.A (f (.int i t) (.int j u)) Q E s):
  yJ X f (rI C λi j=>.int (g i j)):=by
 intro pins s σ H x y v u Q I rx ry h
 obtain⟨i,j,rfl,rfl,hc,q⟩:=h
 obtain⟨t,rfl⟩:=rx
 obtain⟨t',rfl⟩:=ry
 exact rule i j t t' s _ _ hc ⟨.int (g i j),H,I.tok _,⟨_,rfl⟩,q⟩
theorem Yd {f:Value->Value->Sem Value} {g:Int->Int->Int}
  (rule:∀(i j:Int) (t u:Tok) (s:Shared) (Q:Value->Shared->Prop) (E:Value->Shared->Prop),Q (.int (g i j) s.toks) { s with toks:=s.toks+1 }->wpAny (model X.prog X.w) X.A (f (.int i t) (.int j u)) Q E s):
  yJ X f (VH λi j=>.int (g i j)):=by
 intro pins s σ H x y v u Q I rx ry h
 obtain⟨i,j,rfl,rfl,q⟩:=h
 obtain⟨t,rfl⟩:=rx
 obtain⟨t',rfl⟩:=ry
 exact rule i j t t' s _ _ ⟨.int (g i j),H,I.tok _,⟨_,rfl⟩,q⟩
theorem Wl {f:Value->Value->Sem Value} {g:Int->Int->Bool}
  (rule:∀(i j:Int) (t u:Tok) (s:Shared) (Q:Value->Shared->Prop) (E:Value->Shared->Prop),Q (.bool (g i j)) s->wpAny (model X.prog X.w) X.A (f (.int i t) (.int j u)) Q E s):
  yJ X f (VH λi j=>.bl (g i j)):=by
 intro pins s σ H x y v u Q I rx ry h
 obtain⟨i,j,rfl,rfl,q⟩:=h
 obtain⟨t,rfl⟩:=rx
 obtain⟨t',rfl⟩:=ry
 exact rule i j t t' s _ _ ⟨.bl (g i j),H,I,rfl,q⟩
noncomputable def aaW (i j:Int):Prop:=0<=j/\j<=1000000/\i.natAbs <2 ^ 64
theorem fu:yJ X (binaryOp .Add) (VH λi j=>.int (i+j)):=Yd λ_ _ _ _ _ _ _ q=>add_int q
theorem yt:yJ X (binaryOp .Sub) (VH λi j=>.int (i - j)):=Yd λ_ _ _ _ _ _ _ q=>sub_int q
theorem jo:yJ X (binaryOp .Mod) (rI (λ_ j=>0 <j) λi j=>.int (i % j)):=opI λi j _ _ _ _ _ hc q=>by
 have h1:(0:Int) <j:=hc
 exact mod_int' (by omega) (by rw [Int.fmod_eq_emod_of_nonneg i (by omega)];exact q)
theorem Zo:yJ X (binaryOp .Pow) (rI aaW λi j=>.int (i ^ j.toNat)):=opI λ_ _ _ _ _ _ _ hc q=>pow_int_small hc.1 hc.2.1 hc.2.2 q
theorem JK:yJ X (inplaceOp .Add) (VH λi j=>.int (i+j)):=Yd λ_ _ _ _ _ _ _ q=>iadd_int q
theorem unI {f:Value->Sem Value} {g:Int->Int}
  (rule:∀(i:Int) (t:Tok) (s:Shared) (Q:Value->Shared->Prop) (E:Value->Shared->Prop),Q (.int (g i) s.toks) { s with toks:=s.toks+1 }->wpAny (model X.prog X.w) X.A (f (.int i t)) Q E s):
  UnR X f (rU λi=>.int (g i)):=by
 intro pins s σ H x v Q I rx h
 obtain⟨i,rfl,q⟩:=h
 obtain⟨t,rfl⟩:=rx
 exact rule i t s _ _ ⟨.int (g i),H,I.tok _,⟨_,rfl⟩,q⟩
theorem Yh:UnR X (unaryOp .USub) (rU λi=>.int (-i)):=unI λ_ _ _ _ _ q=>neg_int q
end
noncomputable def Z7:V->V->Bool
 | .non,.non=>true | .non,.int _=>true | .int _,.non=>true | .non,.bl _=>true | .bl _,.non=>true | .non,.str _=>true | .str _,.non=>true
 | .int _,.int _=>true | .bl _,.bl _=>true | .str _,.str _=>true | .byt _,.byt _=>true
 | .int _,.str _=>true | .str _,.int _=>true | .bl _,.str _=>true | .str _,.bl _=>true
 | _,_=>false
noncomputable def rEq:R2:=λx y H Q=>Z7 x y=true/\Q (.bl (decide (x=y))) H
noncomputable def rNe:R2:=λx y H Q=>Z7 x y=true/\Q (.bl (!decide (x=y))) H
theorem O5 {i j:Int}:decide (V.int i=V.int j)=(i == j):=by
 rw [Bool.eq_iff_iff]
 simp
theorem Uk {i j:Bool}:decide (V.bl i=V.bl j)=(i == j):=by
 rw [Bool.eq_iff_iff]
 simp
theorem Qe {i j:Str}:decide (V.str i=V.str j)=(i == j):=by
 rw [Bool.eq_iff_iff]
 simp
theorem Pg {i j:Array UInt8}:decide (V.byt i=V.byt j)=(i.toList == j.toList):=by
 rw [Bool.eq_iff_iff]
 cases i
 cases j
 simp
section
variable {X:Cx} {a b c:Expr} {ta tb tc:TE} {pos:Pos}
theorem cU {pins:List (Addr×Obj)} {σ:St} {H:Hp} {s:Shared} {Q:VK} {k k':Bool} (I:Inv X pins σ H s) (q:Q (.bl k) H) (e:k=k'):EP X pins σ Q (.bool k') s:=by
 subst e
 exact⟨.bl k,H,I,rfl,q⟩
theorem jO:yJ X (compareOp .Eq) rEq:=by
 intro pins s σ H x y v u Q I rx ry h
 obtain⟨hs,q⟩:=h
 cases x with
 | non=>
  cases rx
  cases y with
  | non=>cases ry;exact PySem.EqNone.eq_none_none (cU I q (by simp))
  | bl j=>cases ry;exact PySem.EqNone.eq_none_bool (cU I q (by simp))
  | int j=>obtain⟨t',rfl⟩:=ry;exact PySem.EqNone.eq_none_int (cU I q (by simp))
  | str j=>obtain⟨t',rfl⟩:=ry;exact PySem.EqNone.eq_none_str (cU I q (by simp))
  | _=>exact absurd (show false=true from hs) Bool.false_ne_true
 | bl i=>
  cases rx
  cases y with
  | non=>cases ry;exact PySem.EqNone.eq_bool_none (cU I q (by simp))
  | bl j=>cases ry;exact eq_bool (cU I q Uk)
  | str j=>obtain⟨t',rfl⟩:=ry;exact PySem.EqMixed.eq_bool_str (cU I q (by simp))
  | _=>exact absurd (show false=true from hs) Bool.false_ne_true
 | int i=>
  obtain⟨t,rfl⟩:=rx
  cases y with
  | non=>cases ry;exact PySem.EqNone.eq_int_none (cU I q (by simp))
  | int j=>obtain⟨t',rfl⟩:=ry;exact eq_int (cU I q O5)
  | str j=>obtain⟨t',rfl⟩:=ry;exact PySem.EqMixed.eq_int_str (cU I q (by simp))
  | _=>exact absurd (show false=true from hs) Bool.false_ne_true
 | str i=>
  obtain⟨t,rfl⟩:=rx
  cases y with
  | non=>cases ry;exact PySem.EqNone.eq_str_none (cU I q (by simp))
  | bl j=>cases ry;exact PySem.EqMixed.eq_str_bool (cU I q (by simp))
  | int j=>obtain⟨t',rfl⟩:=ry;exact PySem.EqMixed.eq_str_int (cU I q (by simp))
  | str j=>obtain⟨t',rfl⟩:=ry;exact eq_str (cU I q Qe)
  | _=>exact absurd (show false=true from hs) Bool.false_ne_true
 | byt i=>
  obtain⟨t,rfl⟩:=rx
  cases y with
  | byt j=>obtain⟨t',rfl⟩:=ry;exact PySem.W.eq_bytes (cU I q Pg)
  | _=>exact absurd (show false=true from hs) Bool.false_ne_true
 | _=>cases y <;> exact absurd (show false=true from hs) Bool.false_ne_true
theorem GP:yJ X (compareOp .NotEq) rNe:=by
 intro pins s σ H x y v u Q I rx ry h
 obtain⟨hs,q⟩:=h
 cases x with
 | non=>
  cases rx
  cases y with
  | non=>cases ry;exact PySem.EqNone.ne_none_none (cU I q (by simp))
  | bl j=>cases ry;exact PySem.EqNone.ne_none_bool (cU I q (by simp))
  | int j=>obtain⟨t',rfl⟩:=ry;exact PySem.EqNone.ne_none_int (cU I q (by simp))
  | str j=>obtain⟨t',rfl⟩:=ry;exact PySem.EqNone.ne_none_str (cU I q (by simp))
  | _=>exact absurd (show false=true from hs) Bool.false_ne_true
 | bl i=>
  cases rx
  cases y with
  | non=>cases ry;exact PySem.EqNone.ne_bool_none (cU I q (by simp))
  | bl j=>cases ry;exact ne_bool (cU I q (congrArg not Uk))
  | str j=>obtain⟨t',rfl⟩:=ry;exact PySem.EqMixed.ne_bool_str (cU I q (by simp))
  | _=>exact absurd (show false=true from hs) Bool.false_ne_true
 | int i=>
  obtain⟨t,rfl⟩:=rx
  cases y with
  | non=>cases ry;exact PySem.EqNone.ne_int_none (cU I q (by simp))
  | int j=>obtain⟨t',rfl⟩:=ry;exact ne_int (cU I q (congrArg not O5))
  | str j=>obtain⟨t',rfl⟩:=ry;exact PySem.EqMixed.ne_int_str (cU I q (by simp))
  | _=>exact absurd (show false=true from hs) Bool.false_ne_true
 | str i=>
  obtain⟨t,rfl⟩:=rx
  cases y with
  | non=>cases ry;exact PySem.EqNone.ne_str_none (cU I q (by simp))
  | bl j=>cases ry;exact PySem.EqMixed.ne_str_bool (cU I q (by simp))
  | int j=>obtain⟨t',rfl⟩:=ry;exact PySem.EqMixed.ne_str_int (cU I q (by simp))
  | str j=>obtain⟨t',rfl⟩:=ry;exact ne_str (cU I q (congrArg not Qe))
  | _=>exact absurd (show false=true from hs) Bool.false_ne_true
 | byt i=>
  obtain⟨t,rfl⟩:=rx
  cases y with
  | byt j=>obtain⟨t',rfl⟩:=ry;exact PySem.W.ne_bytes (cU I q (congrArg not Pg))
  | _=>exact absurd (show false=true from hs) Bool.false_ne_true
 | _=>cases y <;> exact absurd (show false=true from hs) Bool.false_ne_true
theorem G7:yJ X (compareOp .Lt) (VH λi j=>.bl (decide (i <j))):=Wl λ_ _ _ _ _ _ _ q=>lt_int q
theorem pW:yJ X (compareOp .LtE) (VH λi j=>.bl (decide (i<=j))):=Wl λ_ _ _ _ _ _ _ q=>le_int q
theorem Vb:yJ X (compareOp .Gt) (VH λi j=>.bl (decide (j <i))):=Wl λ_ _ _ _ _ _ _ q=>gt_int q
theorem ZK:yJ X (compareOp .GtE) (VH λi j=>.bl (decide (j<=i))):=Wl λ_ _ _ _ _ _ _ q=>ge_int q
theorem Ad:yJ X (compareOp .In) (λx y H Q=>∃i j,x=.str i/\y=.str j/\Q (.bl (!(Builtin.Str.occurrences j i 0 j.length 1).isEmpty)) H):=by
 intro pins s σ H x y v u Q I rx ry h
 obtain⟨i,j,rfl,rfl,q⟩:=h
 obtain⟨t,rfl⟩:=rx
 obtain⟨t',rfl⟩:=ry
 exact in_str (cU I q rfl)
theorem cz (b:Expr) {op:CmpOp} (h:op≠.In:=by decide) (h2:op≠.NotIn:=by decide):behindInMarks op b=false:=by
 have e1:(op == CmpOp.In)=false:=by cases op <;> first | rfl | exact absurd rfl h
 have e2:(op == CmpOp.NotIn)=false:=by cases op <;> first | rfl | exact absurd rfl h2
 cases b <;> simp [behindInMarks,e1,e2]
theorem tQ {op:CmpOp} {r:R2} (ho:yJ X (compareOp op) r) (ha:PE X a ta) (hb:PE X b tb) (hm:behindInMarks op b=false):PE X (.Compare a [op] [b] pos) (Z8 r ta tb):=by
 intro pins s σ H Q I h
 exact wpAny_Compare1 (Yi ha hb I h λv u s2 x y H2 I2 rx ry q=>ho pins s2 σ H2 x y v u Q I2 rx ry q) hm
inductive U9 (Q:Bool->Hp->Prop) (x:V) (H':Hp):Prop where
 | mk:∀k,x=.bl k->Q k H'->U9 Q x H'
noncomputable def Xh (t:TE):TT:=λσ H Q=>t σ H λx H'=>U9 Q x H'
theorem bD {op:CmpOp} {r:R2} (ho:yJ X (compareOp op) r) (ha:PE X a ta) (hb:PE X b tb) (hm:behindInMarks op b=false):PT X (.Compare a [op] [b] pos) (Xh (Z8 r ta tb)):=by
 intro pins s σ H Q I h
 refine wpAny_isTrue_Compare1 (dG (ha pins s σ H _ I h) λv s1 ⟨x,H1,I1,r1,q1⟩=>dG (hb pins s1 σ H1 _ I1 q1) λu s2 ⟨y,H2,I2,r2,q2⟩=>
  dG (ho pins s2 σ H2 x y v u _ I2 r1 r2 q2) λc s3 ⟨z,H3,I3,r3,k,e,q3⟩=>?_) hm
 subst e
 cases r3
 exact wpAny_truthy_bool ⟨H3,I3,q3⟩
inductive Qc (r':R2) (tc:TE) (σ:St) (Q:VK) (y:V) (z:V) (H3:Hp):Prop where
 | mk:∀k,z=.bl k->((if k=true then tc σ H3 λw' H4=>r' y w' H4 Q else Q (.bl false) H3))->Qc r' tc σ Q y z H3
noncomputable def SN (r r':R2) (ta tb tc:TE):TE:=λσ H Q=>ta σ H λx H1=>tb σ H1 λy H2=>r x y H2 λz H3=>Qc r' tc σ Q y z H3
theorem TQ {op op':CmpOp} {r r':R2} (ho:yJ X (compareOp op) r) (ho':yJ X (compareOp op') r') (ha:PE X a ta) (hb:PE X b tb) (hc:PE X c tc)
  (hm:lastMarks [op,op'] [b,c]=false:=by with_unfolding_all rfl):PE X (.Compare a [op,op'] [b,c] pos) (SN r r' ta tb tc):=by
 intro pins s σ H Q I h
 refine Compare_chain (dG (ha pins s σ H _ I h) λv s1 ⟨x,H1,I1,r1,q1⟩=>chain_link (dG (hb pins s1 σ H1 _ I1 q1) λu s2 ⟨y,H2,I2,r2,q2⟩=>
  dG (ho pins s2 σ H2 x y v u _ I2 r1 r2 q2) λd s3 ⟨z,H3,I3,r3,k,e,q3⟩=>?_)) hm
 subst e
 cases r3
 refine wpAny_truthy_bool ?_
 cases k with
 | false=>exact ite_ff ⟨.bl false,H3,I3,rfl,q3⟩
 | true=>exact ite_tt (chain_last (dG (hc pins s3 σ H3 _ I3 q3) λw' s4 ⟨z',H4,I4,r4,q4⟩=>ho' pins s4 σ H4 y z' u w' Q I4 r2 r4 q4))
theorem qR {op op':CmpOp} {r r':R2} (ho:yJ X (compareOp op) r) (ho':yJ X (compareOp op') r') (ha:PE X a ta) (hb:PE X b tb) (hc:PE X c tc)
  (hm:lastMarks [op,op'] [b,c]=false:=by with_unfolding_all rfl):PT X (.Compare a [op,op'] [b,c] pos) (Xh (SN r r' ta tb tc)):=by
 intro pins s σ H Q I h
 refine isTrue_chain (dG (ha pins s σ H _ I h) λv s1 ⟨x,H1,I1,r1,q1⟩=>test_link (dG (hb pins s1 σ H1 _ I1 q1) λu s2 ⟨y,H2,I2,r2,q2⟩=>
  dG (ho pins s2 σ H2 x y v u _ I2 r1 r2 q2) λd s3 ⟨z,H3,I3,r3,k,e,q3⟩=>?_)) hm
 subst e
 cases r3
 refine wpAny_truthy_bool ?_
 cases k with
 | false=>
  obtain⟨k',e',q'⟩:=q3
  cases e'
  exact ite_ff ⟨H3,I3,q'⟩
 | true=>
  refine ite_tt (test_last (dG (hc pins s3 σ H3 _ I3 q3) λw' s4 ⟨z',H4,I4,r4,q4⟩=>dG (ho' pins s4 σ H4 y z' u w' _ I4 r2 r4 q4) λd' s5 hpt=>?_))
  obtain⟨z2,H5,I5,r5,k2,e2,q5⟩:=hpt
  subst e2
  cases r5
  exact wpAny_truthy_bool ⟨H5,I5,q5⟩
theorem J4:(sizeLine:Nat) <2 ^ 63:=by rw [sizeLine_eq];decide
theorem sG:yJ X (binaryOp .Add) (λx y H Q=>∃i j,x=.str i/\y=.str j/\i.length+j.length<=sizeLine/\Q (.str (i ++ j)) H):=by
 intro pins s σ H x y v u Q I rx ry h
 obtain⟨i,j,rfl,rfl,hz,q⟩:=h
 obtain⟨t,rfl⟩:=rx
 obtain⟨t',rfl⟩:=ry
 exact add_str (λt' tk=>⟨.str (i ++ j),H,I.tok _,⟨_,rfl⟩,q⟩) hz
theorem vals1 {x:V} {us:List Value} (r:Vals [x] us):∃u,us=[u]/\RelV x u:=by
 cases r with
 | cons r1 r2=>cases r2;exact⟨_,rfl,r1⟩
theorem vals2 {x y:V} {us:List Value} (r:Vals [x,y] us):∃u w',us=[u,w']/\RelV x u/\RelV y w':=by
 cases r with
 | cons r1 r2=>
  cases r2 with
  | cons r3 r4=>cases r4;exact⟨_,_,rfl,r1,r3⟩
theorem Hz (hc:X.calm=true):lK X (.builtin "max") (λxs H Q=>∃i j,xs=[.int i,.int j]/\Q (.int (if j >i then j else i)) H):=by
 intro pins s σ H xs us Q I r h
 obtain⟨i,j,rfl,q⟩:=h
 obtain⟨u,w',rfl,⟨t,rfl⟩,⟨t',rfl⟩⟩:=vals2 r
 refine max_two_ints (I.ok.hd hc) λh' tk k=>⟨_,H,I.kept k,?_,q⟩
 by_cases hj:j >i
 ·rw [if_pos hj,if_pos hj];exact⟨_,rfl⟩
 ·rw [if_neg hj,if_neg hj];exact⟨_,rfl⟩
theorem mQ:lK X (.type "str") (λxs H Q=>∃i,xs=[.int i]/\i.natAbs.log2 <1920/\Q (.str (toString i)) H):=by
 intro pins s σ H xs us Q I r h
 obtain⟨i,rfl,hz,q⟩:=h
 obtain⟨u,rfl,t,rfl⟩:=vals1 r
 exact PySem.P.str_of_int hz ⟨.str _,H,I.tok _,⟨_,rfl⟩,q⟩
noncomputable def YW (K:PySem.W.Frag) (x:V) (H:Hp) (n:Nat):Prop:=
 match x with
 | .str y=>y.length<=sizeLine/\n=y.length
 | .byt y=>y.size<=sizeLine/\n=y.size
 | .ref p=>(∃xs,bI K H p xs/\n=xs.length)∨∃xs,cP K H p xs/\n=xs.length
 | _=>False
theorem b8:lK X (.builtin "len") (λxs H Q=>∃x n,xs=[x]/\YW X.K x H n/\Q (.int n) H):=by
 intro pins s σ H xs us Q I r h
 obtain⟨x,n,rfl,e,q⟩:=h
 obtain⟨u,rfl,rx⟩:=vals1 r
 have hl:=J4
 have hs:sizeLine=16777216:=sizeLine_eq
 cases x with
 | str y=>
  obtain⟨t,rfl⟩:=rx
  obtain⟨hy,e'⟩:y.length<=sizeLine/\n=y.length:=e
  subst e'
  exact len_str (by omega) ⟨.int _,H,I.tok _,⟨_,rfl⟩,q⟩
 | byt y=>
  obtain⟨t,rfl⟩:=rx
  obtain⟨hy,e'⟩:y.size<=sizeLine/\n=y.size:=e
  subst e'
  exact PySem.W.len_bytes (by omega) ⟨.int _,H,I.tok _,⟨_,rfl⟩,q⟩
 | ref p=>
  cases rx
  have e':(∃xs,bI X.K H p xs/\n=xs.length)∨∃xs,cP X.K H p xs/\n=xs.length:=e
  rcases e' with ⟨xs,hx,e'⟩ | ⟨xs,hx,e'⟩
  ·subst e'
   obtain⟨its,r',pl,hz⟩:=I.list hx
   have hlen:=r'.length
   exact Calls.call_len_list pl.isList (by simp only [List.size_toArray];omega) ⟨.int xs.length,H,I.tok _,⟨_,by simp only [List.size_toArray];rw [hlen]⟩,q⟩
  ·subst e'
   obtain⟨its,r',pl,hz⟩:=I.tuple hx
   have hlen:=r'.length
   exact len_tuple pl (by simp only [List.size_toArray];omega) ⟨.int xs.length,H,I.tok _,⟨_,by simp only [List.size_toArray];rw [hlen]⟩,q⟩
 | _=>exact(show False from e).elim
end
structure NP (h:Heap) (x dx C:Addr) (mA:Str->Option Value):Prop where
 obj:h.get? x=some (PySem.W.instObj C dx)
 ns:h.Ns1 dx mA
 ne:dx≠x
theorem Q9 {h:Heap} {dx:Addr} {mA:Str->Option Value} (n:h.Ns1 dx mA):∃od,h.get? dx=some od/\∀name,PySem.W.lookIn name od=some (mA name):=by
 obtain⟨o,es,ep,ho,hd,hk,_,hm⟩:=n
 refine⟨o,ho,λname=>?_⟩
 have e:=hm name
 unfold nsFind findBy at e
 rw [<-Array.find?_toList] at e
 unfold PySem.W.lookIn
 rw [hd]
 dsimp only
 split
 ·rename_i y q
  rw [q] at e
  exact congrArg some e
 ·rename_i q
  rw [q] at e
  have a:es.toList.any (·.refKey)=false:=by
   rw [List.any_eq_false]
   intro y hy
   obtain⟨z,t,hkey⟩:=hk y (Array.mem_toList_iff.mp hy)
   simp [DictEntry.refKey,hkey]
  have a':¬es.toList.any (·.refKey)=true:=by rw [a];exact Bool.false_ne_true
  rw [if_neg a']
  exact congrArg some e
theorem NP.look {h:Heap} {x dx C:Addr} {mA:Str->Option Value} (I:NP h x dx C mA):∃od,PySem.W.InstAt h x (PySem.W.instObj C dx) C (some od)/\∀name,PySem.W.lookIn name od=some (mA name):=
 let ⟨od,ho,hl⟩:=Q9 I.ns
 ⟨od,⟨I.obj,rfl,rfl,ho⟩,hl⟩
section
variable {prog:Program} {w:World} {A:Around} {E:Value->Shared->Prop} {s:Shared} {K:PySem.W.Frag} {x dx C f:Addr} {mA:Str->Option Value} {name:Str} {v:Value}
theorem W8 {expr:Bool} {Q:Value->Shared->Prop} (X:K.In s.heap) (I:NP s.heap x dx C mA) (hg:PySem.W.plainGet K C name=true) (hh:PySem.W.hasDictIn K C=true)
  (ha:PySem.W.findIn K (.ref C) name=some none) (hv:mA name=some v) (hv':PySem.W.handedIn v=true) (h:Q v { s with toks:=s.toks+1 }):
  wpAny (model prog w) A (getAttr (.ref x) name expr) Q E s:=by
 obtain⟨od,J,hl⟩:=I.look
 exact PySem.W.get_value X J (PySem.W.plainGet_of hg).1 (PySem.W.findObj_own hh ha rfl (by rw [hl,hv])) hv' h
theorem Uu {pl:Sem Bool} {Q:Value×List Value->Shared->Prop} (X:K.In s.heap) (I:NP s.heap x dx C mA) (hg:PySem.W.plainGet K C name=true)
  (hf:PySem.W.findIn K (.ref C) name=some (some (.ref f))) (ht:PySem.W.isFn K (.ref f)=true) (hv:mA name=none) (h:Q (.ref f,[.ref x]) s):
  wpAny (model prog w) A (getMethod (.ref x) name pl) Q E s:=by
 obtain⟨od,J,hl⟩:=I.look
 exact PySem.W.method_fn X J (PySem.W.plainGet_of hg).1 (PySem.W.plainGet_of hg).2 hf (beq_iff_eq.mp ht) (by show(PySem.W.lookIn name od).map (·.isSome)=some false;rw [hl,hv];rfl) h
theorem VN {ns:List Str} {Q:Unit->Shared->Prop} (X:K.In s.heap) (I:NP s.heap x dx C mA)
  (hs:PySem.W.findIn K (.ref C) "__setattr__" =some (some (.builtin "object.__setattr__"))) (hp:PySem.W.plainOver K C=true) (ht:PySem.W.takerIn K C name=some none) (hh:PySem.W.hasDictIn K C=true)
  (hw:PySem.Within mA ns) (hsz:ns.length<=sizeLine)
  (h:∀h',NP h' x dx C (λy=>if y=name then some v else mA y)->Heap.SameBut dx s.heap h'->Q () { s with heap:=h',toks:=s.toks+2 }):
  wpAny (model prog w) A (setAttr (.ref x) name v) Q E s:=by
 obtain⟨od,J,hl⟩:=I.look
 refine PySem.W.set_plain X J hs (PySem.W.osa_open (s:={ s with toks:=s.toks+1 }) (r:=none) X J hp ht λb=>?_)
 obtain⟨cd,hc,hd'⟩:=PySem.W.any_some hh
 have hx:s.heap.get? x=some ⟨.ref C,some dx,.plain,#[]⟩:=I.obj
 refine wpAny_bind (wpAny_pure (wpAny_bind (wpAny_bind (wpAny_loadPart hx (wpAny_bind (PySem.W.Looks.here (s:={ s with toks:=s.toks+1 }) (PySem.W.looks_clsIn X hc) ?_))))))
 rw [hd']
 refine wpAny_pure (a:=some dx) (wpAny_bind (wpAny_pure (wpAny_bind ?_)))
 refine wpAny_nsSet1 (s:={ s with toks:=s.toks+1 }) I.ns λh' hn2 hs2=>?_
 obtain⟨oD,esD,epD,hoD,hdD,hcD⟩:=hn2.count (PySem.Within.cons name v hw)
 refine wpAny_bind (wpAny_lookBehind hoD (by rw [hdD];exact pastItsLine_dict (Nat.le_trans hcD (by rw [List.length_cons];omega))) ?_)
 exact wpAny_pure (h _ ⟨(hs2.2 _ (Ne.symm I.ne)).trans I.obj,hn2,I.ne⟩ hs2)
theorem RZ {R:Result->Shared->Prop} {vs:List Value} {kw:List (Str×Value)} (X:K.In s.heap) (hm:PySem.W.makesIn K C=true)
  (hi:PySem.W.findIn K (.ref C) "__init__" =some (some (.ref f))) (hf:PySem.W.typeIn K (.ref f)=some (.type "function"))
  (h:codeAny (model prog w) (A.under (.builtin "type.__call__" ⟨.ref C:: vs,kw⟩)) (.call (.ref f) ⟨.ref (s.heap.objs.size+1):: vs,kw⟩) (PySem.W.InitBack (s.heap.objs.size+1) R)
   { s with heap:=(s.heap.push PySem.W.emptyDict).push (PySem.W.instObj C s.heap.objs.size) }):
  codeAny (model prog w) A (.call (.ref C) ⟨vs,kw⟩) R s:=by
 obtain⟨hh,g,d,t,os⟩:=s
 exact PySem.W.make_core (PySem.W.makes_of X hm) (PySem.W.looks_findIn X hi) (λself=>PySem.W.bind_fn X self hf) (.inl rfl) h
end
noncomputable def aD (f:Str) (v:V):List (Str×V)->List (Str×V)
 | []=>[(f,v)]
 | (g,x):: r=>if g=f then(g,v):: r else(g,x):: aD f v r
theorem aA (f g:Str) (v:V):∀fs:List (Str×V),(aD f v fs).lookup g=if g=f then some v else fs.lookup g
 | []=>by
  show List.lookup g [(f,v)]=_
  by_cases h:g=f
  ·have hb:(g == f)=true:=beq_iff_eq.mpr h
   simp only [List.lookup,hb,if_pos h]
  ·have hb:(g == f)=false:=beq_eq_false_iff_ne.mpr h
   simp only [List.lookup,hb,if_neg h]
 | (k,x):: r=>by
  have ih:=aA f g v r
  rw [show aD f v ((k,x):: r)=(if k=f then(k,v):: r else(k,x):: aD f v r) from rfl]
  by_cases hk:k=f
  ·rw [if_pos hk]
   by_cases h:g=k
   ·have hb:(g == k)=true:=beq_iff_eq.mpr h
    simp only [List.lookup,hb,if_pos (h.trans hk)]
   ·have hb:(g == k)=false:=beq_eq_false_iff_ne.mpr h
    simp only [List.lookup,hb,if_neg (λe:g=f=>h (e.trans hk.symm))]
  ·rw [if_neg hk]
   by_cases h:g=k
   ·have hb:(g == k)=true:=beq_iff_eq.mpr h
    simp only [List.lookup,hb,if_neg (λe:g=f=>hk (h.symm.trans e))]
   ·have hb:(g == k)=false:=beq_eq_false_iff_ne.mpr h
    simp only [List.lookup,hb]
    exact ih
theorem Ar (f:Str) (v:V):∀fs:List (Str×V),f∈(aD f v fs).map (·.1)/\∀g,g∈fs.map (·.1)->g∈(aD f v fs).map (·.1)
 | []=>⟨by simp [aD],λg h=>by simp at h⟩
 | (k,x):: r=>by
  obtain⟨i1,i2⟩:=Ar f v r
  rw [show aD f v ((k,x):: r)=(if k=f then(k,v):: r else(k,x):: aD f v r) from rfl]
  by_cases hk:k=f
  ·rw [if_pos hk]
   subst hk
   exact⟨by simp,λg h=>by simpa using h⟩
  ·rw [if_neg hk]
   refine⟨?_,λg h=>?_⟩
   ·rw [List.map_cons]
    exact List.mem_cons_of_mem _ i1
   ·rw [List.map_cons] at h ⊢
    rcases List.mem_cons.mp h with e | e
    ·exact List.mem_cons.mpr (.inl e)
    ·exact List.mem_cons_of_mem _ (i2 g e)
theorem vX (f:Str) (v:V):∀fs:List (Str×V),(aD f v fs).length<=fs.length+1
 | []=>by simp [aD]
 | (k,x):: r=>by
  have ih:=vX f v r
  rw [show aD f v ((k,x):: r)=(if k=f then(k,v):: r else(k,x):: aD f v r) from rfl]
  by_cases hk:k=f
  ·rw [if_pos hk,List.length_cons,List.length_cons];omega
  ·rw [if_neg hk,List.length_cons,List.length_cons];omega
theorem uC.some_of {v:V} {o:Option Value} (r:uC (some v) o):∃u,o=some u/\RelV v u:=by
 cases o with
 | none=>exact(show False from r).elim
 | some u=>exact⟨u,rfl,r⟩
theorem uC.none_of {o:Option Value} (r:uC none o):o=none:=by
 cases o with
 | none=>rfl
 | some u=>exact(show False from r).elim
theorem Qp {v:V} {u:Value} (r:RelV v u):PySem.W.handedIn u=true:=by
 cases v with
 | non=>cases (show u=Value.none from r);rfl
 | bl b=>cases (show u=Value.bool b from r);rfl
 | int i=>obtain⟨t,e⟩:=(show ∃t,u=Value.int i t from r);cases e;rfl
 | str x=>obtain⟨t,e⟩:=(show ∃t,u=Value.str x t from r);cases e;rfl
 | byt b=>obtain⟨t,e⟩:=(show ∃t,u=Value.bytes b t from r);cases e;rfl
 | flt b=>obtain⟨t,e⟩:=(show ∃t,u=Value.float b t from r);cases e;rfl
 | ref a=>cases (show u=Value.ref a from r);rfl
 | ty n=>cases (show u=Value.type n from r);rfl
section
variable {P:Program} {w:World} {H H':Hp} {h h':Heap} {a C dx:Addr} {fs fs':List (Str×V)}
theorem Jz (hok:xg P w H h) (e:H a=some (.ins C dx fs)):∃mA,NP h a dx C mA/\(∀f,uC (fs.lookup f) (mA f))/\PySem.Within mA (fs.map (·.1))/\fs.length<=1000/\H dx=some (.own a):=by
 obtain⟨d,z,ne,ob,mA,n,r,q⟩:=(show fV P w H h a (.ins C dx fs) from hok a _ e)
 exact⟨mA,⟨ob,n,ne⟩,r,q,z,d⟩
end
structure Qj (K:PySem.W.Frag) (C:Addr):Prop where
 pg:PySem.W.plainGet K C Str.empty=true
 hd:PySem.W.hasDictIn K C=true
 po:PySem.W.plainOver K C=true
 sa:PySem.W.findIn K (.ref C) "__setattr__" =some (some (.builtin "object.__setattr__"))
theorem Qj.get {K:PySem.W.Frag} {C:Addr} (c:Qj K C) (f:Str):PySem.W.plainGet K C f=true:=c.pg
noncomputable def oO (K:PySem.W.Frag) (C:Addr) (f:Str):Prop:=PySem.W.findIn K (.ref C) f=some none
theorem oO.taker {K:PySem.W.Frag} {C:Addr} {f:Str} (n:oO K C f):PySem.W.takerIn K C f=some none:=by
 unfold PySem.W.takerIn
 rw [show PySem.W.findIn K (.ref C) f=some none from n]
 rfl
structure Meth (K:PySem.W.Frag) (C:Addr) (m:Str) (f:Addr):Prop where
 at_:PySem.W.findIn K (.ref C) m=some (some (.ref f))
 fn:PySem.W.isFn K (.ref f)=true
 kp:PySem.W.keepIn K (.ref f)=true
section
variable {X:Cx} {pins:List (Addr×Obj)} {σ:St} {H:Hp} {s:Shared} {a C dx:Addr} {fs:List (Str×V)} {f:Str} {v:V} {A:Around} {E:Value->Shared->Prop}
theorem DP {b:Bool} {Q:Value->Shared->Prop} (I:Inv X pins σ H s) (e:H a=some (.ins C dx fs)) (c:Qj X.K C) (n:oO X.K C f) (l:fs.lookup f=some v)
  (h:∀u s',Inv X pins σ H s'->RelV v u->Q u s'):wpAny (model X.prog X.w) A (getAttr (.ref a) f b) Q E s:=by
 obtain⟨mA,O,r,_,_,_⟩:=Jz I.hok e
 obtain⟨u,hu,ru⟩:=uC.some_of (v:=v) (o:=mA f) (by rw [<-l];exact r f)
 exact W8 I.kIn O (c.get f) c.hd n hu (Qp ru) (h u _ (I.tok _) ru)
theorem sI {m:Str} {g:Addr} {pl:Sem Bool} {Q:Value×List Value->Shared->Prop} (I:Inv X pins σ H s) (e:H a=some (.ins C dx fs)) (c:Qj X.K C) (k:Meth X.K C m g) (l:fs.lookup m=none)
  (h:Q (.ref g,[.ref a]) s):wpAny (model X.prog X.w) A (getMethod (.ref a) m pl) Q E s:=by
 obtain⟨mA,O,r,_,_,_⟩:=Jz I.hok e
 have hn:mA m=none:=uC.none_of (by rw [<-l];exact r m)
 exact Uu I.kIn O (c.get m) k.at_ k.fn hn h
theorem Dj {y:V} {u:Value} {Q:Unit->Shared->Prop} (I:Inv X pins σ H s) (e:H a=some (.ins C dx fs)) (c:Qj X.K C) (n:oO X.K C f) (hl:fs.length <1000) (ry:RelV y u)
  (h:∀s',Inv X pins σ (upd H a (.ins C dx (aD f y fs))) s'->Q () s'):wpAny (model X.prog X.w) A (setAttr (.ref a) f u) Q E s:=by
 obtain⟨mA,O,r,wi,_,ho⟩:=Jz I.hok e
 have hz:(fs.map (·.1)).length<=sizeLine:=by rw [List.length_map,sizeLine_eq];omega
 refine VN I.kIn O c.sa c.po n.taker c.hd wi hz λh' O' sb=>h _ ?_
 have hd:∃o,h'.get? dx=some o:=let ⟨o,_,_,e',_⟩:=O'.ns;⟨o,e'⟩
 refine I.write (x:=a) (e:=dx) (by rw [e];exact True.intro) (.inr ho) (λb q hb z=>(sb.2 b hb).trans z) hd ?_
 refine⟨by rw [aJ O.ne];exact ho,?_,O.ne,O'.obj,_,O'.ns,λg=>?_,λg hg=>?_⟩
 ·have:=vX f y fs;omega
 ·show uC ((aD f y fs).lookup g) (if g=f then some u else mA g)
  rw [aA]
  by_cases q:g=f
  ·rw [if_pos q,if_pos q];exact ry
  ·rw [if_neg q,if_neg q];exact r g
 ·by_cases q:g=f
  ·rw [q];exact(Ar f y fs).1
  ·refine(Ar f y fs).2 g (wi g λz=>hg ?_)
   show(if g=f then some u else mA g)=none
   rw [if_neg q];exact z
theorem Inv.made (I:Inv X pins σ H s):Inv X pins σ (upd (upd H s.heap.objs.size (.own (s.heap.objs.size+1))) (s.heap.objs.size+1) (.ins C s.heap.objs.size []))
  { s with heap:=(s.heap.push PySem.W.emptyDict).push (PySem.W.instObj C s.heap.objs.size) }:=by
 have e1:(s.heap.push PySem.W.emptyDict).get? s.heap.objs.size=some PySem.W.emptyDict:=Heap.get?_push_size s.heap rfl
 have e2:((s.heap.push PySem.W.emptyDict).push (PySem.W.instObj C s.heap.objs.size)).get? (s.heap.objs.size+1)=some (PySem.W.instObj C s.heap.objs.size):=by
  have:=Heap.get?_push_size (s.heap.push PySem.W.emptyDict) (o:=PySem.W.instObj C s.heap.objs.size) rfl
  rwa [Heap.size_push] at this
 have e3:(s.heap.push PySem.W.emptyDict).Ns s.heap.objs.size (λ_=>none):=⟨PySem.W.emptyDict,#[],_,e1,rfl,(λe he=>absurd he (by simp)),λ_=>rfl⟩
 have I1:=I.laid (a:=s.heap.objs.size) (o:=.own (s.heap.objs.size+1)) (h':=s.heap.push PySem.W.emptyDict) (t':=s.toks) (λb u q=>Heap.get?_push_of_some _ q) (Nat.le_refl _) ⟨_,e1⟩
 refine I1.laid (a:=s.heap.objs.size+1) (o:=.ins C s.heap.objs.size []) (t':=s.toks) (λb u q=>Heap.get?_push_of_some _ q) (Nat.le_of_eq (Heap.size_push _ _)) ?_
 have ne:s.heap.objs.size≠s.heap.objs.size+1:=Nat.ne_of_lt (Nat.lt_succ_self _)
 refine⟨by rw [aJ ne,ak],Nat.zero_le _,ne,e2,λ_=>none,(Heap.Ns1.of_empty e3).at λo q=>Heap.get?_push_of_some _ q,λ_=>True.intro,λy hy=>absurd rfl hy⟩
theorem WQ {prog:Program} {w:World} {env:Env} {e:Expr} {f:Str} {pos:Pos} {s:Shared} {Q:Value->Shared->Prop} (hb:attributeBase e f env (eval e env)=eval e env)
  (h:wpAny (model prog w) A (eval e env) (λo s₁=>wpAny (model prog w) A (getAttr o f true) Q E s₁) E s):wpAny (model prog w) A (eval (.Attribute e f pos) env) Q E s:=
 Attribute_any_ h (by rw [arm_eval_Attribute,hb])
end
inductive Xn (K:PySem.W.Frag) (f:Str) (Q:VK) (x:V) (H1:Hp):Prop where
 | mk:∀a C dx fs v,x=.ref a->H1 a=some (.ins C dx fs)->Qj K C->oO K C f->fs.lookup f=some v->Q v H1->Xn K f Q x H1
noncomputable def ZV (K:PySem.W.Frag) (ta:TE) (f:Str):TE:=λσ H Q=>ta σ H λx H1=>Xn K f Q x H1
inductive XM (K:PySem.W.Frag) (f:Str) (D:Ends) (σ:St) (y:V) (x:V) (H2:Hp):Prop where
 | mk:∀a C dx fs,x=.ref a->H2 a=some (.ins C dx fs)->Qj K C->oO K C f->fs.length <1000->D.nx σ (upd H2 a (.ins C dx (aD f y fs)))->XM K f D σ y x H2
noncomputable def abj (K:PySem.W.Frag) (ta tv:TE) (f:Str):TS:=λD σ H=>tv σ H λy H1=>ta σ H1 λx H2=>XM K f D σ y x H2
noncomputable def Z9 (X:Cx) (op:Operator) (rd:V->V->Hp->VK->Prop):Prop:=
 ∀(pins:List (Addr×Obj)) (s:Shared) (σ:St) (H:Hp) (x y:V) (u v:Value) (Q:VK),Inv X pins σ H s->RelV x u->RelV y v->rd x y H Q->wpAny (model X.prog X.w) X.A (inplaceOp op u v) (EP X pins σ Q) X.xe s
inductive Kr (K:PySem.W.Frag) (tv:TE) (rd:V->V->Hp->VK->Prop) (f:Str) (D:Ends) (σ:St) (x:V) (H1:Hp):Prop where
 | mk:∀a C dx fs v,x=.ref a->H1 a=some (.ins C dx fs)->Qj K C->oO K C f->fs.lookup f=some v->(tv σ H1 λy H2=>rd v y H2 λz H3=>∃dx' fs',H3 a=some (.ins C dx' fs')/\fs'.length <1000/\D.nx σ (upd H3 a (.ins C dx' (aD f z fs'))))->Kr K tv rd f D σ x H1
noncomputable def Wv (K:PySem.W.Frag) (ta tv:TE) (rd:V->V->Hp->VK->Prop) (f:Str):TS:=λD σ H=>ta σ H λx H1=>Kr K tv rd f D σ x H1
section
variable {X:Cx} {o e value:Expr} {f:Str} {pos pos' tpos:Pos} {ta tv:TE}
theorem aZ (he:PE X e ta) (hb:attributeBase e f X.env (eval e X.env)=eval e X.env):PE X (.Attribute e f pos) (ZV X.K ta f):=by
 intro pins s σ H Q I h
 refine WQ hb (dG (he pins s σ H _ I h) λu s1 hpt=>?_)
 obtain⟨x,H1,I1,rx,a,C,dx,fs,v,ex,ea,c,n,l,q⟩:=hpt
 subst ex
 obtain rfl:u=Value.ref a:=rx
 exact DP I1 ea c n l λu' s2 I2 ru=>⟨v,H1,I2,ru,q⟩
theorem gU (ha:PE X o ta) (hv:PE X value tv) (hs:swapsWith value (some (.Attribute o f pos')) pos.line X.env=pure false):PS X (.Assign [.Attribute o f pos'] value pos) (abj X.K ta tv f):=by
 intro pins s σ H D I h
 refine plainObj_wpAny_Assign_Attribute (dG (hv pins s σ H _ I h) λu s1 ⟨y,H1,I1,ry,q⟩=>dG (ha pins s1 σ H1 _ I1 q) λov s2 hpt=>?_) hs
 obtain⟨x,H2,I2,rx,a,C,dx,fs,ex,ea,c,n,l,q2⟩:=hpt
 subst ex
 obtain rfl:ov=Value.ref a:=rx
 exact Dj I2 ea c n l ry λs3 I3=>⟨σ,_,I3,q2⟩
theorem Rh {op:Operator} {rd:V->V->Hp->VK->Prop} (ha:PE X o ta) (hv:PE X value tv) (hop:Z9 X op rd):PS X (.AugAssign (.Attribute o f tpos) op value pos) (Wv X.K ta tv rd f):=by
 intro pins s σ H D I h
 refine wpAny_AugAssign_AttributeAny (dG (ha pins s σ H _ I h) λov s1 hpt=>?_)
 obtain⟨x,H1,I1,rx,a,C,dx,fs,v,ex,ea,c,n,l,q⟩:=hpt
 subst ex
 obtain rfl:ov=Value.ref a:=rx
 refine DP I1 ea c n l λu s2 I2 ru=>dG (hv pins s2 σ H1 _ I2 q) λw3 s3 ⟨y,H2,I3,ry,q3⟩=>dG (hop pins s3 σ H2 v y u w3 _ I3 ru ry q3) λw4 s4 hpt=>?_
 obtain⟨z,H3,I4,rz,dx',fs',ea',l',q4⟩:=hpt
 exact Dj I4 ea' c n l' rz λs5 I5=>⟨σ,_,I5,q4⟩
end
section
variable {X:Cx} {pins:List (Addr×Obj)} {σ:St} {H:Hp} {s:Shared} {A:Around} {E:Value->Shared->Prop} {Q:Value->Shared->Prop} {c:Value} {b:Bool}
end
structure iU (k:Nat) (A:Around):Prop where
 hd:A.handled=none
 dp:A.depth+3 * k+5 <recursionLimit
 un:A.units+16 * k+200 <cLine
theorem iU.mono {j k:Nat} {A:Around} (r:iU k A) (h:j<=k):iU j A:=⟨r.hd,by have:=r.dp;omega,by have:=r.un;omega⟩
theorem iU.deeper {k:Nat} {A:Around} (r:iU (k+1) A) (env:Env):iU k (A.deeper env):=
 ⟨r.hd,by have:=r.dp;show A.depth+1+3 * k+5 <_;omega,by have:=r.un;show A.units+3+16 * k+200 <_;omega⟩
theorem NK {A:Around} {C:Addr} {us:List Value} {kw:List (Str×Value)}:(A.under (.builtin "type.__call__" ⟨.ref C:: us,kw⟩)).depth=A.depth+1:=by
 first | rfl | simp [Around.under,Code.weight,Code.isCreation,Code.isGuard,Code.isCaller,Code.frames,Code.isFrame,guardIds]
theorem Nf {A:Around} {C:Addr} {us:List Value} {kw:List (Str×Value)}:(A.under (.builtin "type.__call__" ⟨.ref C:: us,kw⟩)).units=A.units+1:=by
 first | rfl | simp [Around.under,Code.cUnits,Code.frames,Code.isFrame]
theorem iU.make {k:Nat} {A:Around} (r:iU (k+1) A) (C:Addr) (us:List Value) (kw:List (Str×Value)):iU k (A.under (.builtin "type.__call__" ⟨.ref C:: us,kw⟩)):=
 ⟨r.hd,by have:=r.dp;rw [NK];omega,by have:=r.un;rw [Nf];omega⟩
theorem iU.depth {k:Nat} {A:Around} (r:iU k A):A.depth <recursionLimit:=by have:=r.dp;omega
theorem iU.units {k:Nat} {A:Around} (r:iU k A):A.units+64 <cLine:=by have:=r.un;omega
noncomputable def Vl:TA:=λ_ H Q=>Q [] H
noncomputable def ZL (ta:TE) (tr:TA):TA:=λσ H Q=>ta σ H λx H1=>tr σ H1 λxs H2=>Q (x:: xs) H2
section
variable {X:Cx} {e:Expr} {es:List Expr} {te:TE} {t:TA} {pos:Pos}
theorem aq:PA X [] Vl:=λ_ _ _ _ H Q I h=>Calls.spliced_nil ⟨[],H,I,.nil,h⟩
theorem aa (ha:PE X e te) (hr:PA X es t) (hs:starEach (e:: es) X.env=(false,eval e X.env):: starEach es X.env:=by rfl):PA X (e:: es) (ZL te t):=by
 intro pos pins s σ H Q I h
 rw [hs]
 show wpAny _ _ (spliced ((false,eval e X.env):: backTo pos (starEach es X.env))) _ _ s
 refine Calls.spliced_cons (dG (ha pins s σ H _ I h) λu s1 hpt=>?_)
 obtain⟨x,H1,I1,r1,q1⟩:=hpt
 exact dG (hr pos pins s1 σ H1 _ I1 q1) λus s2 ⟨xs,H2,I2,r2,q2⟩=>⟨x:: xs,H2,I2,.cons r1 r2,q2⟩
noncomputable def abx (t:TA):TE:=λσ H Q=>t σ H λxs H1=>xs.length<=sizeLine/\∀p,H1 p=none->Q (.ref p) (upd H1 p (.tup xs))
noncomputable def aa1 (t:TA):TE:=λσ H Q=>t σ H λxs H1=>xs.length<=sizeLine/\∀p,H1 p=none->Q (.ref p) (upd H1 p (.lst xs))
theorem bL {x1} (h:PA X es t):PE X (.Tuple es x1 pos) (abx t):=by
 intro pins s σ H Q I hq
 refine wpAny_Tuple_spliced (dG (h pos pins s σ H _ I hq) λus s1 ⟨xs,H1,I1,r,z,q⟩=>⟨by rw [<-r.length];exact z,?_⟩)
 have hf:H1 s1.heap.objs.size=none:=I1.hok.fresh (Nat.le_refl _)
 refine⟨.ref s1.heap.objs.size,upd H1 s1.heap.objs.size (.tup xs),I1.laid (t':=s1.toks) (λb u e=>Heap.get?_push_of_some _ e) (Nat.le_refl _) ?_,rfl,q _ hf⟩
 exact⟨z,us,r,⟨_,Heap.get?_push_size _ rfl,rfl,_,rfl⟩⟩
theorem dm (h:PA X es t):PE X (.List es pos) (aa1 t):=by
 intro pins s σ H Q I hq
 refine wpAny_List_spliced (dG (h pos pins s σ H _ I hq) λus s1 ⟨xs,H1,I1,r,z,q⟩=>⟨by rw [<-r.length];exact z,?_⟩)
 have hf:H1 s1.heap.objs.size=none:=I1.hok.fresh (Nat.le_refl _)
 refine⟨.ref s1.heap.objs.size,upd H1 s1.heap.objs.size (.lst xs),I1.laid (t':=s1.toks) (λb u e=>Heap.get?_push_of_some _ e) (Nat.le_refl _) ?_,rfl,q _ hf⟩
 exact⟨z,us,0,r,Heap.get?_push_size _ rfl⟩
end
noncomputable abbrev Sp:=List V->Hp->VK->XK->Prop
noncomputable abbrev Hu:=List Env->Hp->Shared->XK->Value->Shared->Prop
structure Oa (P:Program) (w:World) (K:PySem.W.Frag) (mg:Str->Option Value) (base:Heap) (A:Around) (outer:List Env) (s:Shared) (H:Hp):Prop where
 frames:A.frames=some outer
 mod:Mod K mg base
 bs:∀b o,base.get? b=some o->s.heap.get? b=some o/\H b=none
 bsz:base.objs.size<=s.heap.objs.size
 funs:s.heap.FunFrames base outer
 frf:∀b∈frs outer,H b=none
 hok:xg P w H s.heap
 bare:AllBare s.gens
noncomputable def CE (outer:List Env) (P:Program) (w:World) (H:Hp) (s:Shared) (Q:VK) (u:Value) (s':Shared):Prop:=
 ∃v H',s'.os=s.os/\AllBare s'.gens/\Un (frs outer) [] H H' s.heap s'.heap/\xg P w H' s'.heap/\RelV v u/\Q v H'
noncomputable def CR (CX:Hu) (outer:List Env) (P:Program) (w:World) (H:Hp) (s:Shared) (Q:VK) (E:XK) (r:Result) (s':Shared):Prop:=
 match r with
 | .ok (.ret u)=>CE outer P w H s Q u s'
 | .ok _=>False
 | .error e=>CX outer H s E e s'
structure iK (P:Program) (w:World) (K:PySem.W.Frag) (mg:Str->Option Value) (base:Heap) (CX:Hu) (k:Nat) (f:Addr) (fd:FuncData) (ps:List Str) (sp:Sp):Prop where
 len:∀vs H Q E,sp vs H Q E->vs.length=ps.length
 run:∀(A:Around) (outer:List Env) (s:Shared) (H:Hp) (args:Args) (us:List Value) (vs:List V) (Q:VK) (E:XK),iU k A->Oa P w K mg base A outer s H->BindsTo s fd args (ps.zip us)->Vals vs us->sp vs H Q E->
  codeAny (model P w) A (.call (.ref f) args) (CR CX outer P w H s Q E) s
theorem iK.mono {P:Program} {w:World} {K:PySem.W.Frag} {mg:Str->Option Value} {base:Heap} {CX:Hu} {j k:Nat} {f:Addr} {fd:FuncData} {ps:List Str} {sp:Sp} (F:iK P w K mg base CX j f fd ps sp) (h:j<=k):
  iK P w K mg base CX k f fd ps sp:=⟨F.len,λA outer s H args us vs Q E hr=>F.run A outer s H args us vs Q E (hr.mono h)⟩
theorem iK.imp {P:Program} {w:World} {K:PySem.W.Frag} {mg:Str->Option Value} {base:Heap} {CX:Hu} {k:Nat} {f:Addr} {fd:FuncData} {ps:List Str} {sp sp':Sp} (F:iK P w K mg base CX k f fd ps sp)
  (h:∀vs H Q E,sp' vs H Q E->sp vs H Q E):iK P w K mg base CX k f fd ps sp':=
 ⟨λvs H Q E q=>F.len vs H Q E (h _ _ _ _ q),λA outer s H args us vs Q E hr he hb hv hs=>F.run A outer s H args us vs Q E hr he hb hv (h _ _ _ _ hs)⟩
theorem Oa.make {P:Program} {w:World} {K:PySem.W.Frag} {mg:Str->Option Value} {base:Heap} {A:Around} {outer:List Env} {s:Shared} {H:Hp} (e:Oa P w K mg base A outer s H) (C:Addr) (us:List Value) (kw:List (Str×Value)):
  Oa P w K mg base (A.under (.builtin "type.__call__" ⟨.ref C:: us,kw⟩)) outer s H:=⟨by first | exact e.frames | (simpa [Around.under,Code.envs,Code.isFrame,pushEnvs] using e.frames),e.mod,e.bs,e.bsz,e.funs,e.frf,e.hok,e.bare⟩
section
variable {X:Cx} {pins:List (Addr×Obj)} {σ:St} {H:Hp} {s s':Shared}
theorem Inv.env0 (I:Inv X pins σ H s):Oa X.prog X.w X.K X.mg X.base X.A X.stack s H:=
 ⟨I.ok.frames,I.ok.mod,I.bs,Nat.le_trans I.ok.bsz I.sz,I.stack,I.stkFree,I.hok,I.bare⟩
theorem Inv.after {Q:VK} {u:Value} (I:Inv X pins σ H s) (h:CE X.stack X.prog X.w H s Q u s'):EP X pins σ Q u s':=by
 obtain⟨v,H',os,bare,un,hok,r,q⟩:=h
 obtain⟨hh,g,d,t,os'⟩:=s'
 obtain rfl:os'=s.os:=os
 exact⟨v,H',I.call (h':=hh) (g':=g) (d':=d) (t':=t) (ch:=[]) un hok bare (λb z=>absurd z (by simp)),r,q⟩
end
noncomputable def Xk (sp:Sp) (dvs:List V) (E:XK) (t:TA):TE:=λσ H Q=>t σ H λvs H1=>sp (vs ++ dvs) H1 Q E
inductive UJ (C:Addr) (m:Str) (sp:Sp) (dvs:List V) (E:XK) (t:TA) (σ:St) (Q:VK) (x:V) (H1:Hp):Prop where
 | mk:∀a dx fs,x=.ref a->H1 a=some (.ins C dx fs)->fs.lookup m=none->(t σ H1 λvs H2=>sp (x:: (vs ++ dvs)) H2 Q E)->UJ C m sp dvs E t σ Q x H1
noncomputable def O1 (C:Addr) (m:Str) (sp:Sp) (dvs:List V) (E:XK) (ta:TE) (t:TA):TE:=λσ H Q=>ta σ H λx H1=>UJ C m sp dvs E t σ Q x H1
noncomputable def Z3 (C:Addr) (sp:Sp) (dvs:List V) (E:XK) (t:TA):TE:=λσ H Q=>t σ H λvs H1=>∀x dx,H1 x=none->H1 dx=none->dx≠x->
 sp (.ref x:: (vs ++ dvs)) (upd (upd H1 dx (.own x)) x (.ins C dx [])) (λv H2=>v=.non/\Q (.ref x) H2) E
noncomputable def Binds (K:PySem.W.Frag) (fd:FuncData) (ps:List Str) (ds:List Value):Prop:=
 ∀(s:Shared) (us:List Value),K.In s.heap->(us ++ ds).length=ps.length->BindsTo s fd ⟨us,[]⟩ (ps.zip (us ++ ds))
theorem Binds.all {K:PySem.W.Frag} {fd:FuncData} {ps:List Str} (h:∀us:List Value,us.length=ps.length->bindArgs fd ⟨us,[]⟩=pure (ps.zip us)):Binds K fd ps []:=λs us _ hl=>by
 rw [List.append_nil] at hl ⊢
 exact .of_eq (h us hl)
noncomputable def qz (CX:Hu) (X:Cx) (E:XK):Prop:=∀(pins:List (Addr×Obj)) (σ:St) (H:Hp) (s:Shared) (e:Value) (s':Shared),Inv X pins σ H s->CX X.stack H s E e s'->X.xe e s'
section
variable {X:Cx} {CX:Hu} {k:Nat} {f C:Addr} {fd:FuncData} {ps:List Str} {sp:Sp} {dvs:List V} {ds:List Value} {E:XK} {x m:Str} {p pos apos:Pos} {e o:Expr} {es:List Expr} {ta:TE} {t:TA}
theorem Dn {pins:List (Addr×Obj)} {σ:St} {H:Hp} {s:Shared} {Q:VK} {us:List Value} {vs:List V} (F:iK X.prog X.w X.K X.mg X.base CX k f fd ps sp) (hr:iU k X.A) (hb:Binds X.K fd ps ds) (hd:Vals dvs ds) (hx:qz CX X E)
  (I:Inv X pins σ H s) (r:Vals vs us) (h:sp (vs ++ dvs) H Q E):wpAny (model X.prog X.w) X.A (call (.ref f) us) (EP X pins σ Q) X.xe s:=by
 have r2:Vals (vs ++ dvs) (us ++ ds):=r.append hd
 have hl:(us ++ ds).length=ps.length:=by rw [<-r2.length];exact F.len _ _ _ _ h
 refine wpAny_call (codeAny_mono (F.run X.A X.stack s H ⟨us,[]⟩ (us ++ ds) (vs ++ dvs) Q E hr I.env0 (hb s us I.kIn hl) r2 h) λr s' hq=>?_)
 cases r with
 | error e=>exact hx pins σ H s e s' I hq
 | ok fl=>
  cases fl with
  | ret u=>exact I.after hq
  | next=>exact False.elim hq
  | brk=>exact False.elim hq
  | cont=>exact False.elim hq
theorem W0 (F:iK X.prog X.w X.K X.mg X.base CX k f fd ps sp) (hr:iU k X.A) (hg:Gl X x) (hm:X.mg x=some (.ref f)) (hk:PySem.W.keepIn X.K (.ref f)=true) (hb:Binds X.K fd ps ds) (hd:Vals dvs ds) (hx:qz CX X E)
  (ha:PA X (e:: es) t) (hdb:(x == ("__debug__" :Str))=false:=by decide) (he:starEach (e:: es) X.env=(false,eval e X.env):: starEach es X.env:=by rfl) (hpl:(backTo pos (starEach es X.env)).any (·.1)=false:=by rfl):
  PE X (.Call (.Name x p) (e:: es) [] pos) (Xk sp dvs E t):=by
 intro pins s σ H Q I h
 refine wpAny_Call_Name_kw (Ja I hg hm ?_ hdb)
 refine PySem.W.callWith_K (h₀:=X.base) I.ok.mod.kin hk (dG (ha pos pins s σ H _ I h) λus s1 ⟨vs,H1,I1,r,q⟩=>⟨I1.kIn,?_⟩) he hpl
 exact Dn F hr hb hd hx I1 r q
theorem VP {pl:Sem Bool} (he:PE X o ta) (c:Qj X.K C) (hm:Meth X.K C m f) (F:iK X.prog X.w X.K X.mg X.base CX k f fd ps sp) (hr:iU k X.A) (hb:Binds X.K fd ps ds) (hd:Vals dvs ds) (hx:qz CX X E) (ha:PA X (e:: es) t)
  (hst:starEach (e:: es) X.env=(false,eval e X.env):: starEach es X.env:=by rfl) (hpl:(backTo pos (starEach es X.env)).any (·.1)=false:=by rfl)
  (ht:eval (.Call (.Attribute o m apos) (e:: es) [] pos) X.env=(do
   let ov <-eval o X.env
   standAt apos.atName
   let (f,first) <-holding [ov] (getMethod ov m pl)
   callWith pos f first (backTo pos (starEach (e:: es) X.env)) (backToKw pos (keywordEach [] X.env))):=by rfl):
  PE X (.Call (.Attribute o m apos) (e:: es) [] pos) (O1 C m sp dvs E ta t):=by
 intro pins s σ H Q I h
 refine PySem.W.methodCall_KW (pl:=pl) (dG (he pins s σ H _ I h) λu s1 hpt=>?_) ht
 obtain⟨x,H1,I1,rx,a,dx,fs,ex,ea,l,q⟩:=hpt
 subst ex
 obtain rfl:u=Value.ref a:=rx
 refine sI I1 ea c hm l ?_
 refine PySem.W.callWith_K (first:=[.ref a]) (h₀:=X.base) I.ok.mod.kin hm.kp (dG (ha pos pins s1 σ H1 _ I1 q) λus s2 ⟨vs,H2,I2,r,q2⟩=>⟨I2.kIn,?_⟩) hst hpl
 exact Dn (us:=.ref a:: us) (vs:=.ref a:: vs) F hr hb hd hx I2 (.cons rfl r) q2
theorem Mf {pl:Sem Bool} (he:PE X o ta) (c:Qj X.K C) (hm:Meth X.K C m f) (F:iK X.prog X.w X.K X.mg X.base CX k f fd ps sp) (hr:iU k X.A) (hb:Binds X.K fd ps ds) (hd:Vals dvs ds) (hx:qz CX X E)
  (ht:eval (.Call (.Attribute o m apos) [] [] pos) X.env=(do
   let ov <-eval o X.env
   standAt apos.atName
   let (f,first) <-holding [ov] (getMethod ov m pl)
   callWith pos f first (backTo pos (starEach [] X.env)) (backToKw pos (keywordEach [] X.env))):=by rfl):
  PE X (.Call (.Attribute o m apos) [] [] pos) (O1 C m sp dvs E ta Vl):=by
 intro pins s σ H Q I h
 refine PySem.W.methodCall_KW (pl:=pl) (dG (he pins s σ H _ I h) λu s1 hpt=>?_) ht
 obtain⟨x,H1,I1,rx,a,dx,fs,ex,ea,l,q⟩:=hpt
 subst ex
 obtain rfl:u=Value.ref a:=rx
 refine sI I1 ea c hm l ?_
 exact PySem.W.callWith_K0 (first:=[.ref a]) I1.kIn hm.kp (Dn (us:=[.ref a]) (vs:=[.ref a]) F hr hb hd hx I1 (.cons rfl .nil) q)
structure Mk (K:PySem.W.Frag) (C f:Addr):Prop where
 makes:PySem.W.makesIn K C=true
 init:PySem.W.findIn K (.ref C) "__init__" =some (some (.ref f))
 fn:PySem.W.isFn K (.ref f)=true
 kp:PySem.W.keepIn K (.ref C)=true
theorem U5 {pins:List (Addr×Obj)} {σ:St} {H:Hp} {s:Shared} {Q:VK} {us:List Value} {vs:List V} (M:Mk X.K C f) (F:iK X.prog X.w X.K X.mg X.base CX k f fd ps sp) (hr:iU (k+1) X.A) (hb:Binds X.K fd ps ds) (hd:Vals dvs ds)
  (hx:qz CX X E) (I:Inv X pins σ H s) (r:Vals vs us)
  (h:∀x dx,H x=none->H dx=none->dx≠x->sp (.ref x:: (vs ++ dvs)) (upd (upd H dx (.own x)) x (.ins C dx [])) (λv H2=>v=.non/\Q (.ref x) H2) E):
  wpAny (model X.prog X.w) X.A (call (.ref C) us) (EP X pins σ Q) X.xe s:=by
 have hq:=h (s.heap.objs.size+1) s.heap.objs.size (I.hok.fresh (Nat.le_succ _)) (I.hok.fresh (Nat.le_refl _)) (Nat.ne_of_lt (Nat.lt_succ_self _))
 have I2:=Inv.made (C:=C) I
 have r2:Vals (V.ref (s.heap.objs.size+1):: (vs ++ dvs)) (Value.ref (s.heap.objs.size+1):: (us ++ ds)):=.cons rfl (r.append hd)
 have hl:(Value.ref (s.heap.objs.size+1):: us ++ ds).length=ps.length:=by
  have e:=r2.length
  rw [F.len _ _ _ _ hq] at e
  exact e.symm
 refine wpAny_call (RZ (f:=f) I.kIn M.makes M.init (beq_iff_eq.mp M.fn) (codeAny_mono (F.run _ X.stack _ _ ⟨Value.ref (s.heap.objs.size+1):: us,[]⟩ (Value.ref (s.heap.objs.size+1):: (us ++ ds)) _ _ E (hr.make C us [])
  (I2.env0.make C us []) (hb _ (Value.ref (s.heap.objs.size+1):: us) I2.kIn hl) r2 hq) λr s' hq'=>?_))
 cases r with
 | error e=>exact hx pins σ _ _ e s' I2 hq'
 | ok fl=>
  cases fl with
  | ret u=>
   obtain⟨v,H',I3,rv,ev,q3⟩:=I2.after hq'
   subst ev
   exact⟨rv,⟨V.ref (s.heap.objs.size+1),H',I3,rfl,q3⟩⟩
  | next=>exact False.elim hq'
  | brk=>exact False.elim hq'
  | cont=>exact False.elim hq'
theorem gZ (M:Mk X.K C f) (F:iK X.prog X.w X.K X.mg X.base CX k f fd ps sp) (hr:iU (k+1) X.A) (hg:Gl X x) (hm:X.mg x=some (.ref C)) (hb:Binds X.K fd ps ds) (hd:Vals dvs ds) (hx:qz CX X E)
  (ha:PA X (e:: es) t) (hdb:(x == ("__debug__" :Str))=false:=by decide) (he:starEach (e:: es) X.env=(false,eval e X.env):: starEach es X.env:=by rfl) (hpl:(backTo pos (starEach es X.env)).any (·.1)=false:=by rfl):
  PE X (.Call (.Name x p) (e:: es) [] pos) (Z3 C sp dvs E t):=by
 intro pins s σ H Q I h
 refine wpAny_Call_Name_kw (Ja I hg hm ?_ hdb)
 refine PySem.W.callWith_K (h₀:=X.base) I.ok.mod.kin M.kp (dG (ha pos pins s σ H _ I h) λus s1 ⟨vs,H1,I1,r,q⟩=>⟨I1.kIn,?_⟩) he hpl
 exact U5 M F hr hb hd hx I1 r q
end
section
variable {X:Cx} {CX:Hu} {k:Nat} {f C:Addr} {fd:FuncData} {ps ks:List Str} {sp:Sp} {E:XK} {x m:Str} {p pos apos kpos:Pos} {e o:Expr} {es:List Expr} {kws:List Keyword} {te ta:TE} {t tk:TA} {nm:Option Str}
variable {g:List Value->List Value->List Value} {gV:List V->List V->List V}
end
structure fY (N P:List Str) (sc:Scope):Prop where
 kind:sc.kind=.function
 co:sc.isCoroutine=false
 gen:sc.isGenerator=false
 nd:N.Nodup
 pre:N.take P.length=P
 par:∀x∈P,sc.names.lookup x=some .local∨sc.names.lookup x=some .cell
 nofree:∀y∈sc.names,y.2≠.free
theorem Hh {kindOf:Str->Option NameKind} {x:Str}:∀{binds:List (Str×Value)} {m:Str->Option Value},(∀v,(x,v)∉binds)->bindL kindOf binds m x=m x
 | [],_,_=>rfl
 | (n,v):: r,m,h=>by
  unfold bindL
  rw [Hh λw hw=>h w (List.mem_cons_of_mem _ hw)]
  split
  ·have:x≠n:=by rintro rfl;exact h v List.mem_cons_self
   simp [this]
  ·rfl
theorem Ho {kindOf:Str->Option NameKind} {x:Str}:∀{binds:List (Str×Value)} {m:Str->Option Value},(∀v,(x,v)∉binds)->bindC kindOf binds m x=m x
 | [],_,_=>rfl
 | (n,v):: r,m,h=>by
  unfold bindC
  rw [Ho λw hw=>h w (List.mem_cons_of_mem _ hw)]
  split
  ·rfl
  ·have:x≠n:=by rintro rfl;exact h v List.mem_cons_self
   simp [this]
theorem GJ {kindOf:Str->Option NameKind} {x:Str} {v:Value}:∀{P:List Str} {vs:List Value} {i:Nat} {m:Str->Option Value},P.Nodup->P[i]?=some x->vs[i]?=some v->kindOf x=some .local->
  bindL kindOf (P.zip vs) m x=some v
 | [],_,_,_,_,h,_,_=>by simp at h
 | _:: _,[],_,_,_,_,h,_=>by simp at h
 | p:: P,w:: vs,0,m,nd,h1,h2,hk=>by
  simp at h1 h2;subst h1;subst h2
  show bindL kindOf ((p,w):: P.zip vs) m p=_
  unfold bindL
  rw [Hh λv hv=>(List.nodup_cons.mp nd).1 (List.of_mem_zip hv).1,if_pos hk]
  simp
 | p:: P,w:: vs,i+1,m,nd,h1,h2,hk=>by
  show bindL kindOf ((p,w):: P.zip vs) m x=_
  unfold bindL
  exact GJ (i:=i) (List.nodup_cons.mp nd).2 (by simpa using h1) (by simpa using h2) hk
theorem Hs {kindOf:Str->Option NameKind} {x:Str} {v:Value}:∀{P:List Str} {vs:List Value} {i:Nat} {m:Str->Option Value},P.Nodup->P[i]?=some x->vs[i]?=some v->kindOf x≠some .local->
  bindC kindOf (P.zip vs) m x=some v
 | [],_,_,_,_,h,_,_=>by simp at h
 | _:: _,[],_,_,_,_,h,_=>by simp at h
 | p:: P,w:: vs,0,m,nd,h1,h2,hk=>by
  simp at h1 h2;subst h1;subst h2
  show bindC kindOf ((p,w):: P.zip vs) m p=_
  unfold bindC
  rw [Ho λv hv=>(List.nodup_cons.mp nd).1 (List.of_mem_zip hv).1,if_neg hk]
  simp
 | p:: P,w:: vs,i+1,m,nd,h1,h2,hk=>by
  show bindC kindOf ((p,w):: P.zip vs) m x=_
  unfold bindC
  exact Hs (i:=i) (List.nodup_cons.mp nd).2 (by simpa using h1) (by simpa using h2) hk
noncomputable def start (N:List Str) (vs:List V):St:=vs.map some ++ List.replicate (N.length - vs.length) none
noncomputable def N8 (CX:Hu) (P:Program) (w:World) (K:PySem.W.Frag) (mg:Str->Option Value) (base:Heap) (N:List Str) (qual:Str) (scope:Scope) (f:Addr) (cd:Value) (A:Around) (outer:List Env) (s:Shared) (H:Hp) (E:XK):Cx where
 prog:=P
 w:=w
 K:=K
 mg:=mg
 base:=base
 A:=A.deeper (envOfC qual scope s.heap.objs.size f cd)
 N:=N
 s₀:=s
 H₀:=H
 env:=envOfC qual scope s.heap.objs.size f cd
 outer:=outer
 stack:=envOfC qual scope s.heap.objs.size f cd:: outer
 ex:=[]
 calm:=true
 fn:=λ_=>true
 pn:=[]
 xe:=λe s'=>wpAny (model P w) (A.deeper (envOfC qual scope s.heap.objs.size f cd)) (leaving (envOfC qual scope s.heap.objs.size f cd) e) (λ_ s''=>CX outer H s E e s'') (λe' s''=>CX outer H s E e' s'') s'
theorem KZ {sc:Scope} {n:Nat} {x:Str} (h:sc.names.lookup x=some .cell):∃c,(cellsFrom n sc.names []).lookup x=some c:=by
 have q:=PySem.W.cellsFrom_some sc.names n [] (.inl h)
 exact Option.isSome_iff_exists.mp q
theorem Qz {CX:Hu} {P:Program} {w:World} {K:PySem.W.Frag} {mg:Str->Option Value} {base:Heap} {N ps:List Str} {qual:Str} {scope:Scope} {f:Addr} {cd:Value} {A:Around} {outer:List Env} {s s1:Shared} {H:Hp} {E:XK} {us:List Value} {vs:List V}
  (S:fY N ps scope) (hd:A.handled=none) (e0:Oa P w K mg base A outer s H) (hl:vs.length=ps.length) (r:Vals vs us)
  (x:InCallC s s.heap.objs.size (bindL (envOfC qual scope s.heap.objs.size f cd).kindOf (ps.zip us) λ_=>none) (cellsFrom (s.heap.objs.size+1) scope.names []) (bindC (envOfC qual scope s.heap.objs.size f cd).kindOf (ps.zip us) λ_=>none) s1):
  Inv (N8 CX P w K mg base N qual scope f cd A outer s H E) [] (start N vs) H s1:=by
 have hpl:ps.length<=N.length:=by have:=congrArg List.length S.pre;rw [List.length_take] at this;omega
 obtain⟨h1,tk,rfl,hk⟩:=x.done
 have noA:∀b:Addr,b∉(N8 CX P w K mg base N qual scope f cd A outer s H E).ex:=λb z=>absurd (show b∈([]:List Addr) from z) (by simp)
 refine⟨⟨e0.mod,S.kind,rfl,rfl,Nat.le_refl _,λy z c h1 h2=>?_,λy hy=>?_,λy c _ h=>?_,λ_=>hd,Around.frames_deeper e0.frames,.inr ⟨rfl,rfl⟩,λb z=>absurd z (noA b),e0.bs,e0.bsz,λb _ _=>noA b,λb z=>absurd z (noA b),e0.funs,e0.frf⟩,
  rfl,e0.bare,Un.kept hk,⟨_,x.toInCall.ns,λi y v h1 h2 h3=>?_⟩,λy c h=>⟨_,x.cell y c h⟩,e0.hok.fresh (Nat.le_refl _),λy c h=>?_,λp hp=>absurd (show p∈([]:List (Addr×Obj)) from hp) (by simp),e0.hok.kept hk,?_⟩
 ·exact name_of_addr x.apart (PySem.mem_of_lookup h1) (PySem.mem_of_lookup h2)
 ·have hy:scope.names.lookup y=some .cell∨scope.names.lookup y=some .free:=hy
  rcases hy with hy | hy
  ·exact KZ hy
  ·exact absurd rfl (S.nofree _ (PySem.mem_of_lookup hy))
 ·exact Nat.le_of_lt (x.above y c (PySem.mem_of_lookup h))
 ·have hi:i <vs.length:=by
   unfold start at h2
   by_cases hi:i <vs.length
   ·exact hi
   ·rw [List.getElem?_append_right (by simpa using hi)] at h2
    rw [List.getElem?_replicate] at h2
    split at h2 <;> cases h2
  have ha:vs[i]?=some v:=by
   unfold start at h2
   rw [List.getElem?_append_left (by simpa using hi),List.getElem?_map] at h2
   cases e:vs[i]? with
   | none=>rw [e] at h2;cases h2
   | some a=>rw [e] at h2;cases h2;rfl
  obtain⟨u,hu,rv⟩:=r.get ha
  have hp:ps[i]?=some y:=by
   rw [<-S.pre,List.getElem?_take_of_lt (by omega)];exact h1
  have ndP:ps.Nodup:=by rw [<-S.pre];exact S.nd.sublist (List.take_sublist _ _)
  refine⟨u,rv,?_⟩
  rcases S.par y (List.mem_of_getElem? hp) with k | k
  ·exact .inl ⟨k,GJ ndP hp hu k⟩
  ·obtain⟨c,e⟩:=KZ (n:=s.heap.objs.size+1) k
   refine .inr ⟨.inl k,c,e,?_⟩
   have q:=x.cell y c e
   rw [Hs ndP hp hu (by show scope.names.lookup y≠_;rw [k];decide)] at q
   exact q
 ·exact e0.hok.fresh (Nat.le_of_lt (x.above y c (PySem.mem_of_lookup h)))
 ·unfold start
  show _=N.length
  rw [List.length_append,List.length_map,List.length_replicate]
  omega
theorem Xl {CX:Hu} {P:Program} {w:World} {K:PySem.W.Frag} {mg:Str->Option Value} {base:Heap} {k:Nat} {f:Addr} {name qual:Str} {params:Arguments} {body:List Stmt} {scope:Scope} {dV kV doc pm cdv ct oc:Value} {an od:Option Addr}
  {osl:Array (Option Value)} {N ps:List Str} {sp:Sp} (lk:K.lookup f=some ⟨oc,od,.func (PySem.W.fnOf name qual params body scope dV kV doc pm an cdv ct),osl⟩) (hcd:PySem.W.codeIn K cdv qual=true) (S:fY N ps scope)
  (len:∀vs H Q E,sp vs H Q E->vs.length=ps.length)
  (hbody:∀(A:Around) (outer:List Env) (s:Shared) (H:Hp) (vs:List V) (Q:VK) (E:XK),iU k (A.deeper (envOfC qual scope s.heap.objs.size f cdv))->sp vs H Q E->
   ∃t,PN (N8 CX P w K mg base N qual scope f cdv A outer s H E) body t/\t { nx:=λ_ H'=>Q .non H',rt:=Q } (start N vs) H):
  iK P w K mg base CX (k+1) f (PySem.W.fnOf name qual params body scope dV kV doc pm an cdv ct) ps sp:=by
 refine⟨len,λA outer s H args us vs Q E hr e0 hb r hsp=>?_⟩
 have hl:=len _ _ _ _ hsp
 have KX:K.In s.heap:=e0.mod.kin.keeps λb o e=>(e0.bs b o e).1
 have lim:s.heap.NoLimit:=e0.mod.nolimit.keeps λb o e=>(e0.bs b o e).1
 have hkind:∀y∈ps.zip us,scope.names.lookup y.1=some .local∨(scope.names.lookup y.1=some .cell/\((cellsFrom (s.heap.objs.size+1) scope.names []).lookup y.1).isSome=true):=λ⟨n,v⟩ hy=>by
  rcases S.par n (List.of_mem_zip hy).1 with q | q
  ·exact .inl q
  ·exact .inr ⟨q,PySem.W.cellsFrom_some _ _ _ (.inl q)⟩
 refine codeAny_call_function hr.depth (KX _ _ lk) rfl S.co S.gen rfl (PySem.W.codeRec_of KX hcd) (hb _ _ _ _ ?_)
 refine wpAny_newFunctionEnv_cells S.kind hkind λenv he s1 x=>?_
 subst he
 refine⟨lim.keeps x.toInCall.keep,codeAny_func ?_⟩
 obtain⟨t,ht,hq⟩:=hbody A outer s H vs Q E (hr.deeper _) hsp
 have I:Inv (N8 CX P w K mg base N qual scope f cdv A outer s H E) [] (start N vs) H s1:=Qz S hr.hd e0 hl r x
 refine wpAny_mono (ht [] s1 (start N vs) H _ I hq) (λfl s' hs=>?_) λe s' hs=>hs
 have fin:∀{σ':St} {H':Hp} {v:V} {u:Value},Inv (N8 CX P w K mg base N qual scope f cdv A outer s H E) [] σ' H' s'->RelV v u->Q v H'->CE outer P w H s Q u s':=
  λ{σ' H' v u} J rv q=>⟨v,H',J.os,J.bare,J.base,J.hok,rv,q⟩
 cases fl with
 | ret u=>
  obtain⟨v,σ',H',J,rv,q⟩:=hs
  exact fin J rv q
 | next=>
  obtain⟨σ',H',J,q⟩:=hs
  exact fin (v:=V.non) (u:=Value.none) J rfl q
 | brk=>
  obtain⟨_,_,_,q⟩:=hs
  exact False.elim q
 | cont=>
  obtain⟨_,_,_,q⟩:=hs
  exact False.elim q
section
variable {X:Cx} {x:Str} {p pos:Pos} {e:Expr} {es:List Expr} {t:TA} {id T:String} {r:List V->Hp->VK->Prop}
noncomputable def tCB (r:List V->Hp->VK->Prop) (t:TA):TE:=λσ H Q=>t σ H λvs H1=>r vs H1 Q
theorem bx (hc:lK X (.builtin id) r) (hg:Gl X x) (hm:X.mg x=none) (hv:bootBuiltins x=some (.builtin id)) (ha:PA X (e:: es) t) (hn:x≠ "__name__" :=by decide) (hdb:(x == ("__debug__" :Str))=false:=by decide)
  (he:starEach (e:: es) X.env=(false,eval e X.env):: starEach es X.env:=by rfl) (hpl:(backTo pos (starEach es X.env)).any (·.1)=false:=by rfl):PE X (.Call (.Name x p) (e:: es) [] pos) (tCB r t):=by
 intro pins s σ H Q I h
 refine wpAny_Call_Name_kw (DR I hg hm hv ?_ hn hdb)
 exact PyProof.Rows.callWith_builtin1 (dG (ha pos pins s σ H _ I h) λus s1 ⟨vs,H1,I1,r1,q1⟩=>hc pins s1 σ H1 vs us Q I1 r1 q1) he hpl
theorem dC (hc:lK X (.type T) r) (hg:Gl X x) (hm:X.mg x=none) (hv:bootBuiltins x=some (.type T)) (ha:PA X (e:: es) t) (hn:x≠ "__name__" :=by decide) (hdb:(x == ("__debug__" :Str))=false:=by decide)
  (he:starEach (e:: es) X.env=(false,eval e X.env):: starEach es X.env:=by rfl) (hpl:(backTo pos (starEach es X.env)).any (·.1)=false:=by rfl):PE X (.Call (.Name x p) (e:: es) [] pos) (tCB r t):=by
 intro pins s σ H Q I h
 refine wpAny_Call_Name_kw (DR I hg hm hv ?_ hn hdb)
 exact PyProof.Rows.callWith_type1 (dG (ha pos pins s σ H _ I h) λus s1 ⟨vs,H1,I1,r1,q1⟩=>hc pins s1 σ H1 vs us Q I1 r1 q1) he hpl
end
end L2
namespace HT
open PySem PyProof.Rows
section
open PySem.SeqAt
open PySem.AutoSeq1 (wpAny_loadPart')
open PySem.MeetsSeq PySem.MeetsSeq2 PySem.MeetsSeq3
end
section
variable {prog:Program} {w:World} {A:Around} {E:Value->Shared->Prop} {s:Shared}
noncomputable def Kd (n d:Nat):Option Int->Nat
 | none=>d
 | some v=>if v <0 then(v+(n:Int)).toNat else min v.toNat n
theorem KN (n d:Nat):Kd n d none=d:=rfl
theorem CJ (n d k:Nat):Kd n d (some (k:Int))=min k n:=by
 show(if (k:Int) <0 then((k:Int)+(n:Int)).toNat else min (k:Int).toNat n)=min k n
 rw [if_neg (by omega),Int.toNat_natCast]
end
end HT
namespace L2
open PySem PySem.Spec PyProof.Rows
noncomputable abbrev TO:=St->Hp->(Option Int->Hp->Prop)->Prop
noncomputable def PO (X:Cx) (e:Option Expr) (t:TO):Prop:=
 ∀(pins:List (Addr×Obj)) (s:Shared) (σ:St) (H:Hp) (Q:Option Int->Hp->Prop),Inv X pins σ H s->t σ H Q->
  wpAny (model X.prog X.w) X.A (evalPart e X.env) (λu s'=>∃o H',Inv X pins σ H' s'/\IsPart u o/\Q o H') X.xe s
noncomputable def Wr:TO:=λ_ H Q=>Q none H
inductive Sg (Q:Option Int->Hp->Prop) (x:V) (H1:Hp):Prop where
 | mk:∀i,x=.int i->Q (some i) H1->Sg Q x H1
noncomputable def aaA (t:TE):TO:=λσ H Q=>t σ H λx H1=>Sg Q x H1
section
variable {X:Cx} {e:Expr} {te:TE} {lo hi:Option Expr} {tl th:TO} {pos p2:Pos}
theorem J2:PO X none Wr:=by
 intro pins s σ H Q I h
 rw [evalPart_none]
 exact wpAny_pure ⟨none,H,I,.none,h⟩
theorem zK (h:PE X e te):PO X (some e) (aaA te):=by
 intro pins s σ H Q I hw
 rw [evalPart_some]
 refine dG (h pins s σ H _ I hw) λu s1 hpt=>?_
 obtain⟨x,H1,I1,r1,q1⟩:=hpt
 obtain⟨i,rfl,q⟩:=q1
 obtain⟨t,rfl⟩:=r1
 exact⟨some i,H1,I1,.int i t,q⟩
noncomputable def SlR (X:Cx) (r:V->Option Int->Option Int->Hp->VK->Prop):Prop:=
 ∀(pins:List (Addr×Obj)) (s:Shared) (σ:St) (H:Hp) (x:V) (v vl vu:Value) (lo hi:Option Int) (sl:Addr) (Q:VK),Inv X pins σ H s->RelV x v->s.heap.IsSliceOf sl vl vu .none->IsPart vl lo->IsPart vu hi->r x lo hi H Q->
  ∃T id,typeLookup (.type T) "__getitem__" =pure (some (.builtin id))/\s.TypeIs v T/\wpAny (model X.prog X.w) X.A (getItem v (.ref sl)) (EP X pins σ Q) X.xe s
noncomputable def tSl (r:V->Option Int->Option Int->Hp->VK->Prop) (te:TE) (tl th:TO):TE:=λσ H Q=>te σ H λx H1=>tl σ H1 λl H2=>th σ H2 λu H3=>r x l u H3 Q
theorem zz {r:V->Option Int->Option Int->Hp->VK->Prop} (hr:SlR X r) (he:PE X e te) (hl:PO X lo tl) (hu:PO X hi th):PE X (.Subscript e (.Slice lo hi none p2) pos) (tSl r te tl th):=by
 intro pins s σ H Q I h
 refine Subscript_ (dG (he pins s σ H _ I h) λv s1 hpt=>?_)
 obtain⟨x,H1,I1,r1,q1⟩:=hpt
 refine wpAny_Slice (dG (hl pins s1 σ H1 _ I1 q1) λvl s2 ⟨l,H2,I2,pl,q2⟩=>dG (hu pins s2 σ H2 _ I2 q2) λvu s3 hpt=>?_)
 obtain⟨u,H3,I3,pu,q3⟩:=hpt
 rw [evalPart_none]
 refine wpAny_pure ?_
 have I4:Inv X pins σ H3 { s3 with heap:=s3.heap.push { cls:=.type "slice",data:=.fields #[vl,vu,.none] } }:=I3.kept (t':=s3.toks) λb ob q=>Heap.get?_push_of_some _ q
 obtain⟨T,id,hT,ht,hg⟩:=hr pins { s3 with heap:=s3.heap.push { cls:=.type "slice",data:=.fields #[vl,vu,.none] } } σ H3 x v vl vu l u s3.heap.objs.size Q I4 r1 (Heap.IsSliceOf.new ..) pl pu q3
 show wpAny (model X.prog X.w) X.A (subscriptTail e (.Slice lo hi none p2) v (.ref s3.heap.objs.size)) (EP X pins σ Q) X.xe { s3 with heap:=s3.heap.push { cls:=.type "slice",data:=.fields #[vl,vu,.none] } }
 exact tail_any (ops:=[.ref s3.heap.objs.size,v]) ht hT hg (by with_unfolding_all rfl)
noncomputable def Dl (xs:List V) (lo hi:Option Int):List V:=(xs.drop (HT.Kd xs.length 0 lo)).take (HT.Kd xs.length xs.length hi - HT.Kd xs.length 0 lo)
theorem Lq (xs:List V) (lo hi:Option Int):(Dl xs lo hi).length<=xs.length:=by
 unfold Dl
 rw [List.length_take,List.length_drop]
 omega
end
noncomputable def XR (n:Nat) (i:Int):Option Nat:=if 0<=i then(if i <n then some i.toNat else none) else if -(n:Int)<=i then some (i+n).toNat else none
noncomputable def Rp {α:Type} (xs:List α) (i:Int):Option α:=(XR xs.length i).bind λj=>xs[j]?
theorem Vy {n:Nat} {i:Int} {j:Nat} (h:XR n i=some j):seqIndex? i n=some j/\j <n/\ -(n:Int)<=i/\i <n:=by
 unfold XR at h
 by_cases h0:0<=i
 ·rw [if_pos h0] at h
  by_cases h1:i <n
  ·rw [if_pos h1] at h
   have e:i.toNat=j:=Option.some.inj h
   exact⟨by rw [seqIndex_of h0 h1,e],by omega,by omega,h1⟩
  ·rw [if_neg h1] at h;cases h
 ·rw [if_neg h0] at h
  by_cases h1: -(n:Int)<=i
  ·rw [if_pos h1] at h
   have e:(i+n).toNat=j:=Option.some.inj h
   exact⟨by rw [seqIndex_neg (by omega) h1,e],by omega,h1,by omega⟩
  ·rw [if_neg h1] at h;cases h
theorem J3 {α:Type} {xs:List α} {i:Int} {v:α} (h:Rp xs i=some v):∃j,seqIndex? i xs.length=some j/\xs[j]?=some v/\j <xs.length/\ -(xs.length:Int)<=i/\i <xs.length:=by
 unfold Rp at h
 cases e:XR xs.length i with
 | none=>rw [e] at h;cases h
 | some j=>
  rw [e] at h
  obtain⟨h1,h2,h3,h4⟩:=Vy e
  exact⟨j,h1,h,h2,h3,h4⟩
theorem aM {α:Type} {xs:List α} {j:Nat} {v:α} (h:xs[j]?=some v):Rp xs (j:Int)=some v:=by
 have hj:j <xs.length:=(List.getElem?_eq_some_iff.mp h).1
 have e:XR xs.length (j:Int)=some j:=by
  unfold XR
  rw [if_pos (by omega),if_pos (by omega)];simp
 unfold Rp;rw [e];exact h
theorem RQ {α:Type} (xs:List α) (v:α):Rp (xs ++ [v]) (-1)=some v:=by
 have hl:(xs ++ [v]).length=xs.length+1:=by simp
 have e:XR (xs ++ [v]).length (-1)=some xs.length:=by
  unfold XR
  rw [hl,if_neg (by decide),if_pos (by omega)]
  congr 1
  omega
 unfold Rp
 rw [e]
 show(xs ++ [v])[xs.length]?=some v
 simp
noncomputable def Ou (b:Expr):Prop:=∀o i,subscripted b false o i=operate [o,i] (getItem o i)
noncomputable def Rt (X:Cx) (r:R2):Prop:=
 ∀(value slice:Expr) (pins:List (Addr×Obj)) (s:Shared) (σ:St) (H:Hp) (x y:V) (v u:Value) (Q:VK),Inv X pins σ H s->RelV x v->RelV y u->r x y H Q->
  subscripted slice false v u=operate [v,u] (getItem v u)->wpAny (model X.prog X.w) X.A (subscriptTail value slice v u) (EP X pins σ Q) X.xe s
noncomputable def MtR (X:Cx) (id:String) (r:V->List V->Hp->VK->Prop):Prop:=
 ∀(pins:List (Addr×Obj)) (s:Shared) (σ:St) (H:Hp) (x:V) (xs:List V) (v:Value) (us:List Value) (Q:VK),Inv X pins σ H s->RelV x v->Vals xs us->r x xs H Q->
  wpAny (model X.prog X.w) X.A (call (.builtin id) (v:: us)) (EP X pins σ Q) X.xe s
section
variable {X:Cx} {a b:Expr} {ta tb:TE} {pos:Pos}
theorem Rt.or {r r':R2} (h:Rt X r) (h':Rt X r'):Rt X (λx y H Q=>r x y H Q∨r' x y H Q):=by
 intro value slice pins s σ H x y v u Q I rx ry q hs
 rcases q with q | q
 ·exact h value slice pins s σ H x y v u Q I rx ry q hs
 ·exact h' value slice pins s σ H x y v u Q I rx ry q hs
theorem aU {r:R2} (hr:Rt X r) (ha:PE X a ta) (hb:PE X b tb) (hs:Ou b):PE X (.Subscript a b pos) (Z8 r ta tb):=by
 intro pins s σ H Q I h
 exact Subscript_ (Yi ha hb I h λv u s2 x y H2 I2 rx ry q=>hr a b pins s2 σ H2 x y v u Q I2 rx ry q (hs _ _))
inductive XQ (K:PySem.W.Frag) (x:V) (y:V) (H:Hp) (Q:VK):Prop where
 | mk:∀p xs i v,x=.ref p->y=.int i->bI K H p xs->Rp xs i=some v->Q v H->XQ K x y H Q
noncomputable def YM (K:PySem.W.Frag):R2:=λx y H Q=>XQ K x y H Q
inductive X5 (K:PySem.W.Frag) (x:V) (y:V) (H:Hp) (Q:VK):Prop where
 | mk:∀p xs i v,x=.ref p->y=.int i->cP K H p xs->Rp xs i=some v->Q v H->X5 K x y H Q
noncomputable def Zj (K:PySem.W.Frag):R2:=λx y H Q=>X5 K x y H Q
inductive Xy (x:V) (y:V) (H:Hp) (Q:VK):Prop where
 | mk:∀z i c,x=.str z->y=.int i->z.length<=sizeLine->Rp z.cps.toList i=some c->Q (.str ⟨#[c]⟩) H->Xy x y H Q
noncomputable def aaz:R2:=λx y H Q=>Xy x y H Q
theorem cC:Rt X (YM X.K):=by
 intro value slice pins s σ H x y v u Q I rx ry h hs
 obtain⟨p,xs,i,z,rfl,rfl,hq,he,q⟩:=h
 cases rx
 obtain⟨t,rfl⟩:=ry
 obtain⟨its,r,pl,hz⟩:=I.list hq
 obtain⟨j,h1,h2,h3,h4,h5⟩:=J3 he
 obtain⟨w,ew,rw'⟩:=r.get h2
 have hl:=r.length
 have hn:=J4
 have fin:EP X pins σ Q w s:=⟨z,H,I,rw',q⟩
 by_cases h0:0<=i
 ·have hj:i.toNat=j:=by
   rw [seqIndex_of h0 h5] at h1
   exact Option.some.inj h1
  exact item_listR pl.isList h0 (by omega) (by rw [hj];simpa using ew) fin hs
 ·have hj:(i+(its.toArray.size:Int)).toNat=j:=by
   rw [seqIndex_neg (by omega) h4] at h1
   rw [List.size_toArray,<-hl]
   exact Option.some.inj h1
  exact subscriptTail_builtinR (x:=w) pl.isList.typeIs slot_list_getitem.lookup
   (wpAny_getItem_list_neg (Q:=λr s'=>r=w/\EP X pins σ Q r s') pl.isList (by omega) (by rw [List.size_toArray] <;> omega) (by omega) (by rw [hj];simpa using ew) ⟨rfl,fin⟩) hs
theorem aY:Rt X (Zj X.K):=by
 intro value slice pins s σ H x y v u Q I rx ry h hs
 obtain⟨p,xs,i,z,rfl,rfl,hq,he,q⟩:=h
 cases rx
 obtain⟨t,rfl⟩:=ry
 obtain⟨its,r,pl,hz⟩:=I.tuple hq
 obtain⟨j,h1,h2,h3,h4,h5⟩:=J3 he
 obtain⟨w,ew,rw'⟩:=r.get h2
 have hl:=r.length
 have hn:=J4
 have fin:EP X pins σ Q w s:=⟨z,H,I,rw',q⟩
 exact subscriptTail_builtinR (x:=w) pl.typeIs slot_tuple_getitem.lookup
  (getItem_tuple (j:=j) (Q:=λr s'=>r=w/\EP X pins σ Q r s') pl (by omega) (by omega) (by rw [List.size_toArray,<-hl];exact h1) (by simpa using ew) ⟨rfl,fin⟩) hs
theorem Ss:Rt X aaz:=by
 intro value slice pins s σ H x y v u Q I rx ry h hs
 obtain⟨z,i,c,rfl,rfl,hz,he,q⟩:=h
 obtain⟨t,rfl⟩:=rx
 obtain⟨t',rfl⟩:=ry
 obtain⟨j,h1,h2,h3,h4,h5⟩:=J3 he
 have hl:z.cps.toList.length=z.length:=by simp [Str.length]
 rw [hl] at h1 h4 h5
 have hn:=J4
 exact tail_any (typeIs_str s z t) slot_str_getitem.lookup (getItem_str (c:=c) (by
  have e1:decide (i < -(2 ^ 63:Int))=false:=decide_eq_false (by omega)
  have e2:decide (i≥2 ^ 63)=false:=decide_eq_false (by omega)
  rw [e1,e2,Bool.or_false]) (by rw [h1];simpa using h2) ⟨.str ⟨#[c]⟩,H,I.tok _,⟨_,rfl⟩,q⟩) hs
noncomputable def rIx (K:PySem.W.Frag):R2:=λx y H Q=>YM K x y H Q∨Zj K x y H Q∨aaz x y H Q
theorem Nu:Rt X (rIx X.K):=cC.or (aY.or Ss)
theorem Jo (lo hi:Option Int) (n:Nat):(sliceBounds lo hi none n).1=((HT.Kd n 0 lo:Nat):Int)/\(sliceBounds lo hi none n).2.1=((HT.Kd n n hi:Nat):Int)/\(sliceBounds lo hi none n).2.2=1:=by
 refine⟨?_,?_,rfl⟩
 ·cases lo with
  | none=>simp [sliceBounds,HT.Kd]
  | some i=>
   simp only [sliceBounds,HT.Kd,Option.getD_none,show(1:Int) >0 by decide,if_true]
   by_cases h:i <0
   ·simp only [h,if_true] <;> omega
   ·simp only [h,if_false] <;> omega
 ·cases hi with
  | none=>simp [sliceBounds,HT.Kd]
  | some i=>
   simp only [sliceBounds,HT.Kd,Option.getD_none,show(1:Int) >0 by decide,if_true]
   by_cases h:i <0
   ·simp only [h,if_true] <;> omega
   ·simp only [h,if_false] <;> omega
theorem Gk (its:List Value) (lo hi:Option Int):slicePick its.toArray lo hi none=((its.drop (HT.Kd its.length 0 lo)).take (HT.Kd its.length its.length hi - HT.Kd its.length 0 lo)).toArray:=by
 obtain⟨h1,h2,h3⟩:=Jo lo hi its.toArray.size
 unfold slicePick
 rw [h1,h2,h3]
 simp only [sliceRange_one,pick_run,List.size_toArray] <;> rfl
inductive X6 (K:PySem.W.Frag) (x:V) (lo:Option Int) (hi:Option Int) (H:Hp) (Q:VK):Prop where
 | mk:∀a xs,x=.ref a->bI K H a xs->(∀p,H p=none->Q (.ref p) (upd H p (.lst (Dl xs lo hi))))->X6 K x lo hi H Q
noncomputable def abt (K:PySem.W.Frag):V->Option Int->Option Int->Hp->VK->Prop:=λx lo hi H Q=>X6 K x lo hi H Q
theorem Cy:SlR X (abt X.K):=by
 intro pins s σ H x v vl vu lo hi sl Q I rx hs pl pu h
 obtain⟨a,xs,rfl,hx,q⟩:=h
 cases rx
 obtain⟨its,r,ht,hz⟩:=I.list hx
 have hlen:=r.length
 refine⟨"list",_,slot_list_getitem.lookup,ht.isList.typeIs,?_⟩
 refine wpAny_getItem_list_slice ht.isList hs pl pu .none (by simp) ?_ (by rw [List.size_toArray] <;> omega)
 rw [Gk,<-hlen]
 refine⟨.ref s.heap.objs.size,_,I.laid (t':=s.toks) (o:=.lst (Dl xs lo hi)) (λb ob q=>Heap.get?_push_of_some _ q) (Nat.le_refl _) ?_,rfl,q _ (I.hok.fresh (Nat.le_refl _))⟩
 exact⟨Nat.le_trans (Lq xs lo hi) hz,_,0,(r.drop (HT.Kd xs.length 0 lo)).take (HT.Kd xs.length xs.length hi - HT.Kd xs.length 0 lo),Heap.get?_push_size _ rfl⟩
noncomputable def lD:V->Bool
 | .non=>true
 | .bl _=>true
 | .int _=>true
 | .str _=>true
 | _=>false
noncomputable def J8:V->V->Bool
 | .non,.non=>true
 | .bl a,.bl b=>a == b
 | .bl a,.int b=>(if a then 1 else 0) == b
 | .int a,.bl b=>a == (if b then 1 else 0)
 | .int a,.int b=>a == b
 | .str a,.str b=>a == b
 | _,_=>false
theorem Zh {A:Around} {s:Shared} {y x:V} {u v:Value} (ry:RelV y u) (rx:RelV x v) (fy:lD y=true) (fx:lD x=true):SeqAt.EqAt A s u v (J8 y x):=by
 cases y with
 | non=>
  cases ry
  cases x with
  | non=>cases rx;exact SeqAt.EqAt.same _
  | bl b=>cases rx;exact SeqAt.EqAt.none_bool b
  | int b=>obtain⟨t,rfl⟩:=rx;exact SeqAt.EqAt.none_int b t
  | str b=>obtain⟨t,rfl⟩:=rx;exact SeqAt.EqAt.none_str b t
  | _=>exact absurd (show false=true from fx) Bool.false_ne_true
 | bl a=>
  cases ry
  cases x with
  | non=>cases rx;exact SeqAt.EqAt.bool_none a
  | bl b=>cases rx;exact SeqAt.EqAt.bool_bool a b
  | int b=>obtain⟨t,rfl⟩:=rx;exact SeqAt.EqAt.bool_int a b t
  | str b=>obtain⟨t,rfl⟩:=rx;exact SeqAt.EqAt.bool_str a b t
  | _=>exact absurd (show false=true from fx) Bool.false_ne_true
 | int a=>
  obtain⟨t',rfl⟩:=ry
  cases x with
  | non=>cases rx;exact SeqAt.EqAt.int_none a t'
  | bl b=>cases rx;exact SeqAt.EqAt.int_bool a t' b
  | int b=>obtain⟨t,rfl⟩:=rx;exact SeqAt.EqAt.int_int a t' b t
  | str b=>obtain⟨t,rfl⟩:=rx;exact SeqAt.EqAt.int_str a t' b t
  | _=>exact absurd (show false=true from fx) Bool.false_ne_true
 | str a=>
  obtain⟨t',rfl⟩:=ry
  cases x with
  | non=>cases rx;exact SeqAt.EqAt.str_none a t'
  | bl b=>cases rx;exact SeqAt.EqAt.str_bool a t' b
  | int b=>obtain⟨t,rfl⟩:=rx;exact SeqAt.EqAt.str_int a t' b t
  | str b=>obtain⟨t,rfl⟩:=rx;exact SeqAt.EqAt.str_str a t' b t
  | _=>exact absurd (show false=true from fx) Bool.false_ne_true
 | _=>exact absurd (show false=true from fy) Bool.false_ne_true
noncomputable def MN (x:V) (u:Value):Bool:=match u with
 | .none=>J8 .non x
 | .bool b=>J8 (.bl b) x
 | .int i _=>J8 (.int i) x
 | .str z _=>J8 (.str z) x
 | _=>false
theorem Tw {x y:V} {u:Value} (r:RelV y u) (f:lD y=true):MN x u=J8 y x:=by
 cases y with
 | non=>cases r;rfl
 | bl b=>cases r;rfl
 | int i=>obtain⟨t,rfl⟩:=r;rfl
 | str z=>obtain⟨t,rfl⟩:=r;rfl
 | _=>exact absurd (show false=true from f) Bool.false_ne_true
theorem zF {x:V}:∀{xs:List V} {us:List Value},Vals xs us->xs.all lD=true->us.any (MN x)=xs.any λy=>J8 y x
 | _,_,.nil,_=>rfl
 | y:: xs,u:: us,.cons r t,f=>by
  rw [List.all_cons,Bool.and_eq_true] at f
  rw [List.any_cons,List.any_cons,Tw r f.1,zF t f.2]
theorem vZ {A:Around} {s:Shared} {x:V} {v:Value} (rx:RelV x v) (fx:lD x=true):∀{xs:List V} {us:List Value},Vals xs us->xs.all lD=true->∀u∈us,SeqAt.EqAt A s u v (MN x u)
 | _,_,.nil,_=>λu hu=>by cases hu
 | y:: xs,u:: us,.cons r t,f=>λu' hu=>by
  rw [List.all_cons,Bool.and_eq_true] at f
  rcases List.mem_cons.mp hu with rfl | hu
  ·rw [Tw r f.1];exact Zh r rx f.1 fx
  ·exact vZ rx fx t f.2 u' hu
noncomputable def inV (x:V) (xs:List V):Bool:=xs.any λy=>J8 y x
inductive Z6 (K:PySem.W.Frag) (neg:Bool) (x:V) (y:V) (H:Hp) (Q:VK):Prop where
 | mk:∀p xs,y=.ref p->((bI K H p xs∨cP K H p xs))->lD x=true->xs.all lD=true->(Q (.bl (if neg then !inV x xs else inV x xs)) H)->Z6 K neg x y H Q
noncomputable def rIn (K:PySem.W.Frag) (neg:Bool):R2:=λx y H Q=>Z6 K neg x y H Q
theorem Be:yJ X (compareOp .In) (rIn X.K false):=by
 intro pins s σ H x y v u Q I rx ry h
 obtain⟨p,xs,rfl,hq,fx,fs,q⟩:=h
 cases ry
 rcases hq with hq | hq
 ·obtain⟨its,r,pl,hz⟩:=I.list hq
  refine SeqAt.in_listAt (MN x) pl.isList (λw hw=>vZ rx fx r fs w (by simpa using hw)) ⟨.bl _,H,I,rfl,?_⟩
  rw [show its.toArray.any (MN x)=its.any (MN x) by simp,zF r fs]
  exact q
 ·obtain⟨its,r,pl,hz⟩:=I.tuple hq
  refine SeqAt.in_tupleAt (MN x) pl (λw hw=>vZ rx fx r fs w (by simpa using hw)) ⟨.bl _,H,I,rfl,?_⟩
  rw [show its.toArray.any (MN x)=its.any (MN x) by simp,zF r fs]
  exact q
theorem gA:yJ X (compareOp .NotIn) (rIn X.K true):=by
 intro pins s σ H x y v u Q I rx ry h
 obtain⟨p,xs,rfl,hq,fx,fs,q⟩:=h
 cases ry
 rcases hq with hq | hq
 ·obtain⟨its,r,pl,hz⟩:=I.list hq
  refine SeqAt.notIn_listAt (MN x) pl.isList (λw hw=>vZ rx fx r fs w (by simpa using hw)) ⟨.bl _,H,I,rfl,?_⟩
  rw [show its.toArray.any (MN x)=its.any (MN x) by simp,zF r fs]
  exact q
 ·obtain⟨its,r,pl,hz⟩:=I.tuple hq
  refine SeqAt.notIn_tupleAt (MN x) pl (λw hw=>vZ rx fx r fs w (by simpa using hw)) ⟨.bl _,H,I,rfl,?_⟩
  rw [show its.toArray.any (MN x)=its.any (MN x) by simp,zF r fs]
  exact q
theorem yC:lK X (.type "list") (λxs H Q=>∃p ys,xs=[.ref p]/\(bI X.K H p ys∨cP X.K H p ys)/\∀l,H l=none->Q (.ref l) (upd H l (.lst ys))):=by
 intro pins s σ H xs us Q I r h
 obtain⟨p,ys,rfl,hq,q⟩:=h
 obtain⟨u,rfl,rx⟩:=vals1 r
 cases rx
 have fin:∀(its:List Value),Vals ys its->ys.length<=sizeLine->∀(h':Heap) (c':Nat),(∀b o',s.heap.get? b=some o'->h'.get? b=some o')->
   h'.get? s.heap.objs.size=some { cls:=.type "list",dict:=none,data:=.seq its.toArray c',slots:=#[] }->EP X pins σ Q (.ref s.heap.objs.size) { s with heap:=h' }:=λits r' hz h' c' kp e=>
  ⟨.ref s.heap.objs.size,_,I.laid (t':=s.toks) kp (Nat.le_refl _) (show fV X.prog X.w _ h' _ (.lst ys) from⟨hz,its,c',r',e⟩),rfl,q _ (I.hok.fresh (Nat.le_refl _))⟩
 rcases hq with hq | hq
 ·obtain⟨its,r',pl,hz⟩:=I.list hq
  have hlen:=r'.length
  obtain⟨o,ho,hc,n,hd⟩:=pl.isList
  exact call_list_seq p (.inl rfl) ho hc hd (λh' c' kp e=>fin its r' hz h' c' kp e) (by simp only [List.size_toArray] <;> omega)
 ·obtain⟨its,r',pl,hz⟩:=I.tuple hq
  have hlen:=r'.length
  obtain⟨o,ho,hc,n,hd⟩:=pl
  exact call_list_seq p (.inr rfl) ho hc hd (λh' c' kp e=>fin its r' hz h' c' kp e) (by simp only [List.size_toArray] <;> omega)
theorem Gh:lK X (.type "tuple") (λxs H Q=>∃p ys,xs=[.ref p]/\((bI X.K H p ys/\∀l,H l=none->Q (.ref l) (upd H l (.tup ys)))∨(cP X.K H p ys/\Q (.ref p) H))):=by
 intro pins s σ H xs us Q I r h
 obtain⟨p,ys,rfl,h⟩:=h
 obtain⟨u,rfl,rx⟩:=vals1 r
 cases rx
 rcases h with ⟨hq,q⟩ | ⟨hq,q⟩
 ·obtain⟨its,r',pl,hz⟩:=I.list hq
  have hlen:=r'.length
  refine call_tuple_list pl.isList (λh' kp=>?_) (by simp only [List.size_toArray] <;> omega)
  have I1:Inv X pins σ H { s with heap:=h' }:=I.kept (t':=s.toks) kp
  have I2:Inv X pins σ (upd H h'.objs.size (.tup ys)) { s with heap:=h'.push { cls:=.type "tuple",data:=.seq its.toArray } }:=
   I1.laid (t':=s.toks) (λb o e=>Heap.get?_push_of_some _ e) (Nat.le_refl _) (show fV X.prog X.w _ _ _ (.tup ys) from⟨hz,its,r',IsTup.new _ _⟩)
  exact⟨.ref h'.objs.size,_,I2,rfl,q _ (I1.hok.fresh (Nat.le_refl _))⟩
 ·obtain⟨its,r',pl,hz⟩:=I.tuple hq
  exact call_tuple_same pl ⟨.ref p,H,I,rfl,q⟩
noncomputable def tyV (K:PySem.W.Frag) (T:String) (x:V) (H:Hp):Prop:=match x with
 | .str _=>T= "str"
 | .int _=>T= "int"
 | .ref p=>(T= "list" /\∃xs,bI K H p xs)∨(T= "tuple" /\∃o,K.lookup p=some o/\o.cls=.type "tuple" /\o.dict=none)∨
   (T= "dict" /\((∃kvs,H p=some (.dK kvs))∨∃kvs,H p=some (.dT kvs)))∨(T= "set" /\∃S n,H p=some (.set S n))
 | _=>False
theorem Yy {pins:List (Addr×Obj)} {σ:St} {H:Hp} {s:Shared} {T:String} {x:V} {v:Value} (I:Inv X pins σ H s) (r:RelV x v) (ty:tyV X.K T x H):
  s.TypeIs v T/\∀a,v=.ref a->∃ob,s.heap.get? a=some ob/\ob.dict=none:=by
 cases x with
 | str z=>
  obtain⟨t,rfl⟩:=r
  cases (show T= "str" from ty)
  exact⟨typeIs_str s z t,λ_ e=>nomatch e⟩
 | int i=>
  obtain⟨t,rfl⟩:=r
  cases (show T= "int" from ty)
  exact⟨typeIs_int s i t,λ_ e=>nomatch e⟩
 | ref p=>
  cases r
  rcases ty with ⟨rfl,xs,hq⟩ | ⟨rfl,o,hk,hc,hd⟩ | ⟨rfl,hk⟩ | ⟨rfl,S,n,hk⟩
  ·obtain⟨its,_,pl,_⟩:=I.list hq
   refine⟨pl.isList.typeIs,λa e=>?_⟩
   cases e
   obtain⟨o,n,e,c,hd,_⟩:=pl
   exact⟨o,e,hd⟩
  ·refine⟨⟨o,I.kIn p o hk,hc⟩,λa e=>?_⟩
   cases e
   exact⟨o,I.kIn _ o hk,hd⟩
  ·have z:∃o,s.heap.get? p=some o/\o.ExactDict:=by
    rcases hk with ⟨kvs,hk⟩ | ⟨kvs,hk⟩
    ·obtain⟨_,_,_,_,o,_,_,e,ex,_⟩:=I.hok p _ hk
     exact⟨o,e,ex⟩
    ·obtain⟨_,_,_,_,o,_,_,e,ex,_⟩:=I.hok p _ hk
     exact⟨o,e,ex⟩
   obtain⟨o,e,ex⟩:=z
   refine⟨⟨o,e,ex.1⟩,λa e2=>?_⟩
   cases e2
   exact⟨o,e,ex.2.1⟩
  ·obtain⟨o,_,_,_,e,ex,_⟩:=I.hok p _ hk
   refine⟨⟨o,e,ex.1⟩,λa e2=>?_⟩
   cases e2
   exact⟨o,e,ex.2.1⟩
 | _=>exact False.elim ty
noncomputable def tBM (K:PySem.W.Frag) (T:String) (r:V->List V->Hp->VK->Prop) (to:TE) (t:TA):TE:=λσ H Q=>to σ H λx H1=>tyV K T x H1/\t σ H1 λxs H2=>r x xs H2 Q
variable {o e:Expr} {es:List Expr} {to:TE} {t:TA} {name:Str} {apos cpos:Pos} {T id:String} {r:V->List V->Hp->VK->Prop}
theorem Rz (pa:PlainAttrs T) (slot:Slot T name id) (hty:typeOf (.builtin id)=pure (.type "method_descriptor")) (hm:MtR X id r) (ho:PE X o to) (ha:PA X (e:: es) t)
  (hbase:attributeBase o name X.env (eval o X.env)=eval o X.env:=by rfl)
  (hfew:((backTo cpos (starEach (e:: es) X.env)).all (λx=>!x.1) && (backToKw cpos (keywordEach [] X.env)).all (λx=>x.1.isSome)
   && decide ((e:: es).length+([]:List Keyword).length+(if ([]:List Keyword).isEmpty then 0 else 1) <30))=true:=by rfl)
  (hline:(apos.endLine == cpos.line)=true:=by rfl) (hs:starEach (e:: es) X.env=(false,eval e X.env):: starEach es X.env:=by rfl) (hplain:(backTo cpos (starEach es X.env)).any (·.1)=false:=by rfl):
  PE X (.Call (.Attribute o name apos) (e:: es) [] cpos) (tBM X.K T r to t):=by
 intro pins s σ H Q I h
 refine wpAny_Call_method_late hbase hfew hline rfl (dG (ho pins s σ H _ I h) λv s1 hpt=>?_)
 obtain⟨x,H1,I1,r1,ty,q1⟩:=hpt
 obtain⟨h1,h2⟩:=Yy I1 r1 ty
 refine⟨T,id,pa,slot,hty,h1,h2,?_⟩
 have hA:=ha cpos pins s1 σ H1 _ I1 q1
 rw [hs] at hA ⊢
 refine Calls.callWith_builtin (by show(false || (backTo cpos (starEach es X.env)).any (·.1))=false;rw [hplain] <;> rfl) (Calls.evalArgs_plain ?_)
 exact dG hA λus s2 ⟨vs,H2,I2,r2,q2⟩=>hm pins s2 σ H2 x vs v us Q I2 r1 r2 q2
end
noncomputable def MtM (X:Cx) (id:String) (r:V->List V->Hp->VK->Prop):Prop:=
 ∀(pins:List (Addr×Obj)) (s:Shared) (σ:St) (H:Hp) (x:V) (xs:List V) (v:Value) (us:List Value) (Q:VK),Inv X pins σ H s->RelV x v->Vals xs us->r x xs H Q->
  wpAny (model X.prog X.w) X.A (call (.builtin id) (v:: us)) (EP X pins σ Q) X.xe s
theorem Vals.one:∀{x:V} {us:List Value},Vals [x] us->∃u,us=[u]/\RelV x u
 | _,_,.cons r .nil=>⟨_,rfl,r⟩
section
variable {X:Cx} {pins:List (Addr×Obj)} {σ:St} {H:Hp} {s:Shared} {l b:Addr} {xs ys zs:List V}
theorem Inv.lset {its its':List Value} {n:Nat} {f:Array Value->Array Value} {t':Nat} (I:Inv X pins σ H s) (hH:H l=some (.lst xs))
  (e:s.heap.get? l=some { cls:=.type "list",data:=.seq its.toArray n }) (hf:f its.toArray=its'.toArray) (hv:Vals ys its') (hz:ys.length<=sizeLine):
  Inv X pins σ (upd H l (.lst ys)) { s with heap:=s.heap.update l (Obj.mapSeq f),toks:=t' }:=by
 have q:=PySem.IsL.update e f
 rw [hf] at q
 refine I.write (x:=l) (e:=l) (by rw [hH];exact trivial) (.inl rfl) (λb' u hb hu=>(Heap.get?_update_other s.heap (Obj.mapSeq f) (Ne.symm hb)).trans hu) ⟨_,q⟩ ?_
 exact⟨hz,its',_,hv,q⟩
theorem Inv.lnew {its:List Value} {t':Nat} (I:Inv X pins σ H s) (hv:Vals ys its) (hz:ys.length<=sizeLine):
  Inv X pins σ (upd H s.heap.objs.size (.lst ys)) { s with heap:=s.heap.push { cls:=.type "list",data:=.seq its.toArray },toks:=t' }:=
 I.laid (λ_ _ q=>Heap.get?_push_of_some _ q) (Nat.le_refl _) ⟨hz,its,0,hv,Heap.get?_push_size _ rfl⟩
theorem Inv.fresh (I:Inv X pins σ H s):H s.heap.objs.size=none:=I.hok.fresh (Nat.le_refl _)
theorem Inv.lstM (I:Inv X pins σ H s) (hH:H l=some (.lst xs)):xs.length<=sizeLine/\∃(its:List Value) (n:Nat),Vals xs its/\xs.length=its.length/\s.heap.get? l=some { cls:=.type "list",data:=.seq its.toArray n }:=by
 obtain⟨z,its,n,r,e⟩:=I.hok l _ hH
 exact⟨z,its,n,r,r.length,e⟩
theorem Ua {n:Nat} (h:n<=sizeLine):Builtin.List.listTooLong n=false:=by
 unfold Builtin.List.listTooLong
 exact decide_eq_false (by omega)
end
section
variable {X:Cx}
inductive KH (x:V) (vs:List V) (H:Hp) (Q:VK):Prop where
 | mk:∀l xs y,x=.ref l->vs=[y]->H l=some (.lst xs)->xs.length <sizeLine->Q .non (upd H l (.lst (xs ++ [y])))->KH x vs H Q
noncomputable def Pz:V->List V->Hp->VK->Prop:=λx vs H Q=>KH x vs H Q
theorem Qq:MtM X "list.append" Pz:=by
 intro pins s σ H x vs v us Q I rx rv h
 obtain⟨l,xs,y,rfl,rfl,hH,hz,q⟩:=h
 cases rx
 obtain⟨u,rfl,ru⟩:=rv.one
 obtain⟨z,its,n,r,hl,e⟩:=I.lstM hH
 refine call_meets F.slot_list_append ⟨_,e,rfl⟩ F.entry_list_append (F.args_list_append_2 _ _) (PySem.list_append l its.toArray n u (by rw [List.size_toArray];omega)) ⟨e,?_⟩
 refine⟨.non,_,I.lset (its':=its ++ [u]) hH e (by simp) (r.append (.cons ru .nil)) ?_,rfl,q⟩
 rw [List.length_append,List.length_singleton]
 omega
inductive Mq (x:V) (vs:List V) (H:Hp) (Q:VK):Prop where
 | mk:∀l b xs zs,x=.ref l->vs=[.ref b]->H l=some (.lst xs)->H b=some (.lst zs)->xs.length+zs.length<=sizeLine->Q .non (upd H l (.lst (xs ++ zs)))->Mq x vs H Q
noncomputable def WR:V->List V->Hp->VK->Prop:=λx vs H Q=>Mq x vs H Q
theorem Q3:MtM X "list.extend" WR:=by
 intro pins s σ H x vs v us Q I rx rv h
 obtain⟨l,b,xs,zs,rfl,rfl,hH,hB,hz,q⟩:=h
 cases rx
 obtain⟨u,rfl,ru⟩:=rv.one
 cases ru
 obtain⟨z,its,n,r,hl,e⟩:=I.lstM hH
 obtain⟨z2,its2,n2,r2,hl2,e2⟩:=I.lstM hB
 have hsz:its.toArray.size+its2.toArray.size<=sizeLine:=by rw [List.size_toArray,List.size_toArray];omega
 have hlong:¬(!its.toArray.isEmpty && Builtin.List.listTooLong (its.toArray.size+its2.toArray.size))=true:=by
  rw [Ua hsz,Bool.and_false]
  exact Bool.false_ne_true
 refine call_meets F.slot_list_extend ⟨_,e,rfl⟩ F.entry_list_extend (F.args_list_extend_2 _ _)
  (AutoSeq1.list_extend_list_list_0 l its.toArray n b its2.toArray n2 hlong (by rw [List.size_toArray];omega) (by omega)) ⟨e,e2,?_⟩
 refine⟨.non,_,I.lset (its':=its ++ its2) hH e (by simp) (r.append r2) ?_,rfl,q⟩
 rw [List.length_append]
 omega
inductive XN (x:V) (y:V) (H:Hp) (Q:VK):Prop where
 | mk:∀l b xs zs,x=.ref l->y=.ref b->H l=some (.lst xs)->H b=some (.lst zs)->xs.length+zs.length<=sizeLine->(∀p,H p=none->Q (.ref p) (upd H p (.lst (xs ++ zs))))->XN x y H Q
noncomputable def abi:R2:=λx y H Q=>XN x y H Q
theorem Nv:yJ X (binaryOp .Add) abi:=by
 intro pins s σ H x y v u Q I rx ry h
 obtain⟨l,b,xs,zs,rfl,rfl,hH,hB,hz,q⟩:=h
 cases rx
 cases ry
 obtain⟨z,its,n,r,hl,e⟩:=I.lstM hH
 obtain⟨z2,its2,n2,r2,hl2,e2⟩:=I.lstM hB
 refine PySem.P.add_list e e2 ?_ (by rw [List.size_toArray,List.size_toArray];omega)
 have ea:its.toArray ++ its2.toArray=(its ++ its2).toArray:=by simp
 rw [ea]
 exact⟨.ref _,_,I.lnew (t':=s.toks) (r.append r2) (by rw [List.length_append];omega),rfl,q _ I.fresh⟩
end
section
variable {prog:Program} {w:World} {A:Around} {E:Value->Shared->Prop} {s:Shared}
end
section
variable {X:Cx}
end
end L2
namespace Att
open PySem PySem.W PySem.Calls PyProof.Rows
theorem Cw {P:Params} {h:Heap}:∀(ns:List Int) (vs:List Value),WellAll P h vs (ns.map WData.int)->IntsAre vs ns:=by
 intro ns
 induction ns with
 | nil=>
  intro vs w
  rw [List.map_nil] at w
  cases w
  exact .nil
 | cons n ns ih=>
  intro vs w
  rw [List.map_cons] at w
  cases w with
  | cons a b=>
   cases a
   exact .cons _ _ (ih _ b)
theorem QT {l:OpenLaw} {n:Nat} (hn:l.most=some n) {P:Params} {h:Heap} {args:List WData} {vals:List Value}
  (hpre:l.row.toRowW.claim.pre args=true) (hwl:WellAll P h vals args):
  ∃a vs ns,vals=[Value.ref a]/\args=[WData.list (ns.map WData.int)]/\h.get? a=some { cls:=.type "list",data:=.seq vs.toArray }/\IntsAre vs ns/\ns.length<=n:=by
 have hsh:WShape.hasAll [] args [.list .int]=true:=(pre_splitW hpre).1
 have hc:l.pre.holds [] { args:=args }=true:=(pre_splitW hpre).2
 obtain⟨d,r,rfl,h1,h2⟩:=hasAllW_cons hsh
 obtain rfl:=hasAllW_nil h2
 obtain⟨xs,rfl,h3⟩:=hasW_list h1
 obtain⟨ns,rfl⟩:=items_int h3
 have hlen:ns.length<=n:=by
  unfold OpenLaw.pre at hc
  have h4:(WTm.not (.lt (.lit (.int (n:Int))) (.len (.arg 0)))).holds [] { args:=[.list (ns.map .int)] }=true:=by
   have h4:=(holds_andW hc).1
   rw [hn] at h4
   exact h4
  have h5:=condW_of h4 (w_not (w_lt w_lit (w_len_list (w_arg rfl))))
  rw [List.length_map] at h5
  refine Nat.le_of_not_lt λq=>?_
  have q':(n:Int) <((ns.length:Nat):Int):=by omega
  first
   | (rw [decide_eq_true q'] at h5;exact absurd h5 (by decide))
   | (simp at h5;omega)
 cases hwl with
 | cons w1 w2=>
  cases w2
  cases w1 with
  | list ho hall=>exact⟨_,_,ns,rfl,rfl,ho,Cw ns _ hall,hlen⟩
theorem Q6 (l:OpenLaw) (args:List WData):l.row.toRowW.claim.post args (.bool true) args=true:=
 postW_of (r:=l.row.toRowW) (X:=(true == true))
  (show WShape.has [] (.bool true) .bool=true by first | rfl | decide | simp [WShape.has,WShape.arms,WShape.armsAll])
  (show(WTm.eq .res (.lit (.bool true))).value [] { args:=args,res:=some (.bool true),after:=args }=some (.bool (true == true)) from w_eq_bool (w_res rfl) w_lit) rfl
theorem K1 {l:OpenLaw} {n:Nat} {q:Program} {loose:List Str} {XP:(Str->Option Value)->Heap->Prop} {YP:World->Heap->Prop} {d:DefRec}
  (hn:l.most=some n) (hdf:d.params.defaults=[])
  (call:∀(w:World) (s₀ s₁:Shared) (mg mb:Str->Option Value) (fa:Addr) (o:Obj) (pm cd doc:Value) (a:Addr) (vs:List Value) (ns:List Int),
   Ground q loose [] XP w s₀ mg mb s₁.heap->YP w s₁.heap->
   s₁.heap.get? fa=some o->o.data=.func (docDef d.name d.params d.body d.scope pm cd doc)->s₁.heap.CodeRec cd d.name->mg d.name=some (.ref fa)->
   s₁.heap.get? a=some { cls:=.type "list",data:=.seq vs.toArray }->IntsAre vs ns->ns.length<=n->s₁.gens= #[]->
   codeAny (model l.prog w) callerA (.call (.ref fa) ⟨[.ref a],[]⟩) (λr s'=>r=.ok (.ret (.bool true))/\OldK s₁.heap s'.heap/\s'.os=s₁.os/\AllBare s'.gens) s₁):
  WalkO q loose XP YP l.row.toRowW d [] (λf vs=>PySem.call f vs):=by
 intro w s₀ s₁ mg mb G Y fa o pm cd doc dV kV ho hd hcd hD hmg hg args vals as hpre hlay hrd hwl hlo
 obtain rfl:dV=.none:=Dflts.none hD hdf
 obtain rfl:kV=.none:=Dflts.noKw hD
 obtain⟨a,vs,ns,rfl,rfl,hobj,hints,hlen⟩:=QT hn hpre hwl
 refine enter_call (codeAny_mono (call w s₀ s₁ mg mb fa o pm cd doc a vs ns G Y ho (fd_plain hd) hcd hmg hobj hints hlen hg) λr s' hq=>?_)
 obtain⟨rfl,h2,h3,h4⟩:=hq
 exact⟨.inl ⟨.bool true,.bool true,[],rfl,λ_=>rfl,.bool true,Q6 l _,λ_=>⟨List.Pairwise.nil,λ_ hm=>(nomatch hm)⟩⟩,h2,h3,h4⟩
section
variable {prog:Program} {w:World} {A:Around} {E:Value->Shared->Prop} {s:Shared} {K:Frag}
end
end Att
namespace L2
open PySem PySem.Spec PyProof.Rows
theorem G3:∀{vs:List Value} {ns:List Int},IntsAre vs ns->Vals (ns.map V.int) vs
 | _,_,.nil=>.nil
 | _,_,.cons n t h=>.cons ⟨t,rfl⟩ (G3 h)
noncomputable def Only (H:Hp):Prop:=∀b,H b=none∨∃o xs,H b=some (.frz o (.lst xs))
theorem R6 {P:Program} {w:World} {K:PySem.W.Frag} {mg mb:Str->Option Value} {CX:Hu} {k:Nat} {fa a:Addr} {fd:FuncData} {x:Str} {sp:Sp} {s₁:Shared} {vs:List Value} {ns:List Int}
  (KX:K.In s₁.heap) (hns:s₁.heap.Ns mainGlobals mg) (hb:s₁.heap.Ns builtinsNs mb) (hbb:∀x:Str,x≠ "__name__" ->mb x=bootBuiltins x) (hlim:s₁.heap.NoLimit) (hg:s₁.gens= #[])
  (ha:s₁.heap.get? a=some { cls:=.type "list",data:=.seq vs.toArray }) (hi:IntsAre vs ns) (hl:ns.length<=sizeLine) (hr:iU k callerA)
  (F:∀base:Heap,K.In base->base.Ns mainGlobals mg->iK P w K mg base CX k fa fd [x] sp) (hbind:∀(s:Shared) (u:Value),BindsTo s fd ⟨[u],[]⟩ [(x,u)])
  (hsp:∀H:Hp,Only H->bI K H a (ns.map V.int)->sp [.ref a] H (λv _=>v=.bl true) λ_ _ _=>False)
  (hCX:∀H e s',CX [] H s₁ (λ_ _ _=>False) e s'->False):
  codeAny (model P w) callerA (.call (.ref fa) ⟨[.ref a],[]⟩) (λr s'=>r=.ok (.ret (.bool true))/\OldK s₁.heap s'.heap/\s'.os=s₁.os/\AllBare s'.gens) s₁:=by
 have rv:=G3 hi
 have lenV:=hi.length
 have core:∀H:Hp,Only H->bI K H a (ns.map V.int)->xg P w H s₁.heap->(∀b,H b≠none->b=a)->(H a≠none->K.lookup a=none)->
   codeAny (model P w) callerA (.call (.ref fa) ⟨[.ref a],[]⟩) (λr s'=>r=.ok (.ret (.bool true))/\OldK s₁.heap s'.heap/\s'.os=s₁.os/\AllBare s'.gens) s₁:=by
  intro H hO hS hok hA hK
  have base_of:∀{b:Addr} {o:Obj},s₁.heap.get? b=some o->H b=none->(Jf s₁.heap H).get? b=some o:=λe n=>UT e n
  have noA:∀{b:Addr} {o:Obj} {es:Array DictEntry} {ep:Nat},s₁.heap.get? b=some o->o.data=.dict es ep->H b=none:=λ{b o es ep} e d=>by
   cases q:H b with
   | none=>rfl
   | some u=>
    have e':b=a:=hA b (by rw [q];simp)
    subst e'
    rw [ha] at e;cases e
    have d':Data.seq vs.toArray _=Data.dict es ep:=d
    cases d'
  have Ru:∀{b:Addr} {m:Str->Option Value},s₁.heap.Ns b m->(Jf s₁.heap H).Ns b m:=λ{b m} ⟨o,es,ep,e,d,r⟩=>⟨o,es,ep,base_of e (noA e d),d,r⟩
  have hKb:K.In (Jf s₁.heap H):=λb o e=>base_of (KX b o e) (by
   cases q:H b with
   | none=>rfl
   | some u=>
    have e':b=a:=hA b (by rw [q];simp)
    subst e'
    rw [hK (by rw [q];simp)] at e;cases e)
  have hM:Mod K mg (Jf s₁.heap H):=⟨hKb,Ru hns,⟨mb,Ru hb,hbb⟩,let ⟨mc,h1,h2⟩:=hlim;⟨mc,Ru h1,h2⟩⟩
  have e0:Oa P w K mg (Jf s₁.heap H) callerA [] s₁ H:=⟨rfl,hM,λb o e=>Wm e,Nat.le_of_eq (Qi _ _),trivial,λb hb=>absurd (show b∈([]:List Addr) from hb) (by simp),hok,.of_eq hg⟩
  refine codeAny_mono ((F _ hKb (Ru hns)).run callerA [] s₁ H ⟨[.ref a],[]⟩ [.ref a] [.ref a] _ _ hr e0 (hbind s₁ (.ref a)) (.cons rfl .nil) (hsp H hO hS)) λr s' h=>?_
  cases r with
  | error e=>exact(hCX H e s' h).elim
  | ok fl=>
   cases fl with
   | next=>exact False.elim h
   | brk=>exact False.elim h
   | cont=>exact False.elim h
   | ret u=>
    obtain⟨v,H',os,bare,un,hok',r',q⟩:=h
    have q':v=.bl true:=q
    subst q'
    obtain rfl:u=Value.bool true:=r'
    refine⟨rfl,OldK.of_keep λb o e=>?_,os,bare⟩
    cases q:H b with
    | none=>exact un.keep b o e q (by intro z;exact absurd (show b∈([]:List Addr) from z) (by simp)) (by simp)
    | some u=>
     rcases hO b with z | ⟨ob,xs,z⟩
     ·rw [q] at z;cases z
     ·have z2:=un.frzs b ob _ z
      obtain⟨e1,_⟩:=hok b _ z
      obtain⟨e2,_⟩:=hok' b _ z2
      rw [e] at e1;cases e1
      exact e2
 cases hk:K.lookup a with
 | some o=>
  have e:=KX a o hk
  rw [ha] at e
  cases e
  refine core (λ_=>none) (λ_=>.inl rfl) (.inr ⟨_,vs.toArray,_,hk,rfl,rfl,rfl,by rw [List.size_toArray,lenV];exact hl,by simpa using rv⟩) (λb u z=>by have z':(none:Option HO)=some u:=z;cases z') (λb z=>absurd rfl z) λz=>absurd rfl z
 | none=>
  refine core (λb=>if b=a then some (.frz { cls:=.type "list",data:=.seq vs.toArray } (.lst (ns.map V.int))) else none) (λb=>?_) (.inl (.inr ⟨{ cls:=.type "list",data:=.seq vs.toArray },if_pos rfl⟩)) (λb u z=>?_) (λb z=>?_) λ_=>hk
  ·by_cases hb:b=a
   ·exact .inr ⟨_,_,if_pos hb⟩
   ·exact .inl (if_neg hb)
  ·by_cases hb:b=a
   ·have z':=(if_pos hb).symm.trans z
    cases z'
    subst hb
    exact⟨ha,by rw [List.length_map];exact hl,vs,_,rv,ha⟩
   ·have z':=(if_neg hb).symm.trans z
    cases z'
  ·by_cases hb:b=a
   ·exact hb
   ·exact absurd (if_neg hb) z
theorem Wy {l:PySem.W.OpenLaw} {n k:Nat} {q:Program} {loose:List Str} {XP:(Str->Option Value)->Heap->Prop} {YP:World->Heap->Prop} {d:DefRec} {K:Params->PySem.W.Frag} {CX:World->Hu} {sp:World->Sp} {x:Str}
  (hn:l.most=some n) (hn2:n<=sizeLine) (hdf:d.params.defaults=[]) (hr:iU k callerA)
  (hY:∀(w:World) (h:Heap),YP w h->(K w.params).In h)
  (F:∀(w:World) (mg:Str->Option Value) (fa:Addr) (h:Heap),(K w.params).In h->h.Ns mainGlobals mg->mg d.name=some (.ref fa)->
   ∃fd:FuncData,(∀(s:Shared) (u:Value),BindsTo s fd ⟨[u],[]⟩ [(x,u)])/\
    ∀base:Heap,(K w.params).In base->base.Ns mainGlobals mg->iK l.prog w (K w.params) mg base (CX w) k fa fd [x] (sp w))
  (hsp:∀(w:World) (H:Hp) (a:Addr) (ns:List Int),ns.length<=n->Only H->bI (K w.params) H a (ns.map V.int)->sp w [.ref a] H (λv _=>v=.bl true) λ_ _ _=>False)
  (hCX:∀(w:World) (H:Hp) (s:Shared) (e:Value) (s':Shared),CX w [] H s (λ_ _ _=>False) e s'->False):
  PySem.W.WalkO q loose XP YP l.row.toRowW d [] (λf vs=>PySem.call f vs):=by
 refine Att.K1 hn hdf λw s₀ s₁ mg mb fa o pm cd doc a vs ns G Y ho hd hcd hmg hobj hints hlen hg=>?_
 have KX:=hY w _ Y
 obtain⟨fd,hb,hF⟩:=F w mg fa _ KX G.T.g hmg
 exact R6 KX G.T.g G.T.b G.T.builtins G.T.nolimit hg hobj hints (Nat.le_trans hlen hn2) hr hF hb (λH hO hS=>hsp w H a ns hlen hO hS) λH e s'=>hCX w H s₁ e s'
noncomputable def inClass (s:Stmt) (j:Nat):Stmt:=match s with
 | .ClassDef _ _ _ body _ _ _ _ _ _ _=>body.getD j (.Pass ⟨0,0,0,0⟩)
 | _=>.Pass ⟨0,0,0,0⟩
noncomputable def gw (s:Stmt):Arguments:=match s with
 | .FunctionDef _ a _ _ _ _ _ _ _ _=>a
 | _=>{ posonlyargs:=[],args:=[],vararg:=none,kwonlyargs:=[],kw_defaults:=[],kwarg:=none,defaults:=[] }
noncomputable def fJ (s:Stmt):List Stmt:=match s with
 | .FunctionDef _ _ b _ _ _ _ _ _ _=>b
 | _=>[]
noncomputable def aX (s:Stmt):Scope:=match s with
 | .FunctionDef _ _ _ _ _ _ sc _ _ _=>sc
 | _=>{ kind:=.function,names:=[],isGenerator:=false,isCoroutine:=false }
noncomputable abbrev Dd:Hu:=λ_ _ _ _ _ _=>False
noncomputable abbrev E0:XK:=λ_ _ _=>False
theorem gB {X:Cx}:qz Dd X E0:=λ_ _ _ _ _ _ _ h=>h.elim
structure XX (K:PySem.W.Frag) (x qual:Str) (st:Stmt) (f:Addr) (fd:FuncData):Prop where
 ex:∃(oc:Value) (od:Option Addr) (kV doc pm:Value) (an:Option Addr) (cdv ct:Value) (osl:Array (Option Value)),
  fd=PySem.W.fnOf x qual (gw st) (fJ st) (aX st) .none kV doc pm an cdv ct/\K.lookup f=some ⟨oc,od,.func fd,osl⟩/\PySem.W.codeIn K cdv qual=true
 kp:PySem.W.keepIn K (.ref f)=true
section
variable {P:Program} {w:World} {K:PySem.W.Frag} {mg:Str->Option Value} {base:Heap}
theorem XX.ok {x qual:Str} {st:Stmt} {f:Addr} {fd:FuncData} {N ps:List Str} {k:Nat} {sp:Sp} (F:XX K x qual st f fd) (S:fY N ps (aX st)) (len:∀vs H Q E,sp vs H Q E->vs.length=ps.length)
  (hbody:∀(cdv:Value) (A:Around) (outer:List Env) (s:Shared) (H:Hp) (vs:List V) (Q:VK) (E:XK),iU k (A.deeper (envOfC qual (aX st) s.heap.objs.size f cdv))->sp vs H Q E->
   ∃t,PN (N8 Dd P w K mg base N qual (aX st) f cdv A outer s H E).nox (fJ st) t/\t { nx:=λ_ H'=>Q .non H',rt:=Q } (start N vs) H):iK P w K mg base Dd (k+1) f fd ps sp:=by
 obtain⟨oc,od,kV,doc,pm,an,cdv,ct,osl,rfl,lk,hcd⟩:=F.ex
 refine Xl lk hcd S len λA outer s H vs Q E hr hsp=>?_
 obtain⟨t,h,q⟩:=hbody cdv A outer s H vs Q E hr hsp
 exact⟨t,h.nox,q⟩
theorem XX.binds {x qual:Str} {st:Stmt} {f:Addr} {fd:FuncData} {ps:List Str} (F:XX K x qual st f fd)
  (h:∀(kV doc pm:Value) (an:Option Addr) (cdv ct:Value) (us:List Value),us.length=ps.length->bindArgs (PySem.W.fnOf x qual (gw st) (fJ st) (aX st) .none kV doc pm an cdv ct) ⟨us,[]⟩=pure (ps.zip us)):Binds K fd ps []:=by
 obtain⟨oc,od,kV,doc,pm,an,cdv,ct,osl,rfl,lk,hcd⟩:=F.ex
 exact .all (h kV doc pm an cdv ct)
theorem YT {x qual:Str} {st:Stmt} {f:Addr} {oc:Value} {od an:Option Addr} {osl:Array (Option Value)} {kV doc pm cdv ct:Value} (l:K.lookup f=some ⟨oc,od,.func (PySem.W.fnOf x qual (gw st) (fJ st) (aX st) .none kV doc pm an cdv ct),osl⟩)
  (c:PySem.W.codeIn K cdv qual=true) (k:PySem.W.keepIn K (.ref f)=true):XX K x qual st f (PySem.W.fnOf x qual (gw st) (fJ st) (aX st) .none kV doc pm an cdv ct):=⟨⟨oc,od,kV,doc,pm,an,cdv,ct,osl,rfl,l,c⟩,k⟩
end
section
variable {X:Cx}
theorem pv (i:Nat) {x:Str} {pos:Pos} (hN:X.N[i]?=some x:=by rfl) (hv:Vis X.env.scope x:=by first | exact Or.inl rfl | exact Or.inr (Or.inl rfl) | exact Or.inr (Or.inr rfl)) (hd:(x == ("__debug__" :Str))=false:=by decide)
  (hcd:(x == ("__classdict__" :Str))=false:=by decide):PE X (.Name x pos) (aad i):=YQ hN hv hd hcd
end
theorem dq {A B:Prop} (h:B):if false=true then A else B:=by
 rw [if_neg Bool.false_ne_true]
 exact h
theorem iT {A B:Prop} (h:A):if true=true then A else B:=by
 rw [if_pos rfl]
 exact h
theorem uB {c A B:Prop} [Decidable c] (h1:c->A) (h2:¬c->B):if c then A else B:=by
 by_cases h:c
 ·rw [if_pos h]
  exact h1 h
 ·rw [if_neg h]
  exact h2 h
noncomputable def aO (H H':Hp):Prop:=∀b o,H b=some o->H' b=some o
theorem aO.refl (H:Hp):aO H H:=λ_ _ h=>h
theorem aO.trans {H H1 H2:Hp} (a:aO H H1) (b:aO H1 H2):aO H H2:=λc o h=>b c o (a c o h)
theorem aO.free {H H':Hp} (e:aO H H') {l:Addr} (h:H' l=Option.none):H l=Option.none:=by
 cases q:H l with
 | none=>rfl
 | some o=>
  rw [e l o q] at h
  cases h
theorem aO.seq {K:PySem.W.Frag} {H H':Hp} {a:Addr} {xs:List V} (e:aO H H') (h:bI K H a xs):bI K H' a xs:=by
 rcases h with (h | ⟨o,h⟩) | h
 ·exact .inl (.inl (e _ _ h))
 ·exact .inl (.inr ⟨o,e _ _ h⟩)
 ·exact .inr h
end L2
set_option maxHeartbeats 4000000
namespace L2
open PySem PySem.Spec PyProof.Rows
theorem Qm {P:Program} {w:World} {H:Hp} {h:Heap} {a:Addr} {o:HO} (x:xg P w H h) (hn:H a=none) (new:fV P w (upd H a o) h a o):xg P w (upd H a o) h:=λb u e=>by
 by_cases hb:b=a
 ·subst hb;rw [ak] at e;cases e;exact new
 ·rw [aJ hb] at e
  exact(x b u e).stay (λc v _ q=>q) (λc q=>by rw [aJ (aC q hn)];exact q) λc xs q=>by rw [aJ (aC q hn)];exact q
theorem Er {α β:Type} {f:α->β->Sem (ForInStep β)} (g:α->β->β):∀(l:List α) (c:β),(∀x∈l,∀c,f x c=pure (.yield (g x c)))->forIn l c f=pure (l.foldl (λc x=>g x c) c)
 | [],_,_=>rfl
 | x:: l,c,h=>by
  rw [List.forIn_cons,h x List.mem_cons_self,pure_bind]
  exact Er g l (g x c) λy hy=>h y (List.mem_cons_of_mem _ hy)
noncomputable def xN (env:Env) (x:Str×NameKind) (cs:List (Str×Addr)):List (Str×Addr):=
 if x.2=.free then(match env.cells.lookup x.1 with | some c=>(x.1,c):: cs | none=>cs) else cs
noncomputable def clos (env:Env) (l:List (Str×NameKind)) (c:List (Str×Addr)):List (Str×Addr):=l.foldl (λc x=>xN env x c) c
theorem kj {env:Env} {scope:Scope} (h:∀y∈scope.names,y.2=.free->∃c,env.cells.lookup y.1=some c):closureFor scope env=pure (clos env scope.names []):=by
 simp only [closureFor]
 rw [Er (xN env) scope.names [] λx hx c=>?_]
 ·rfl
 ·obtain⟨n,k⟩:=x
  by_cases hk:k=.free
  ·subst hk
   obtain⟨a,ha⟩:=h _ hx rfl
   have ha':env.cells.lookup n=some a:=ha
   simp [cellOf,ha',xN]
  ·have:(k == NameKind.free)=false:=by simpa using hk
   simp [this,xN,hk]
theorem Km {env:Env}:∀(l:List (Str×NameKind)) (c:List (Str×Addr)),(∀y a,c.lookup y=some a->env.cells.lookup y=some a)->∀y a,(clos env l c).lookup y=some a->env.cells.lookup y=some a
 | [],_,h=>h
 | x:: l,c,h=>by
  refine Km l (xN env x c) λy a e=>?_
  unfold xN at e
  by_cases hk:x.2=.free
  ·rw [if_pos hk] at e
   cases q:env.cells.lookup x.1 with
   | none=>rw [q] at e;exact h y a e
   | some b=>
    rw [q] at e
    by_cases hy:(y == x.1)=true
    ·have:y=x.1:=by simpa using hy
     subst this
     have e':((x.1,b):: c).lookup x.1=some a:=e
     simp [List.lookup_cons] at e'
     rw [q,e']
    ·have hy':(y == x.1)=false:=by simpa using hy
     have e':((x.1,b):: c).lookup y=some a:=e
     rw [List.lookup_cons,hy'] at e'
     exact h y a e'
  ·rw [if_neg hk] at e;exact h y a e
theorem DY {env:Env}:∀(l:List (Str×NameKind)) (c:List (Str×Addr)) (y:Str),((∃a,c.lookup y=some a)∨∃k∈l,k.1=y/\k.2=.free/\∃a,env.cells.lookup y=some a)->∃a,(clos env l c).lookup y=some a
 | [],_,_,h=>by
  rcases h with h | ⟨k,hk,_⟩
  ·exact h
  ·cases hk
 | x:: l,c,y,h=>by
  refine DY l (xN env x c) y ?_
  have up:(∃a,c.lookup y=some a)->∃a,(xN env x c).lookup y=some a:=λ⟨a,e⟩=>by
   unfold xN
   split
   ·split
    ·rename_i b q
     by_cases hy:(y == x.1)=true
     ·exact⟨b,by rw [List.lookup_cons,hy]⟩
     ·have hy':(y == x.1)=false:=by simpa using hy
      exact⟨a,by rw [List.lookup_cons,hy'];exact e⟩
    ·exact⟨a,e⟩
   ·exact⟨a,e⟩
  rcases h with h | ⟨k,hk,h1,h2,a,h3⟩
  ·exact .inl (up h)
  ·rcases List.mem_cons.mp hk with e | hk
   ·subst e
    left
    unfold xN
    rw [if_pos h2,h1,h3]
    exact⟨a,by simp [List.lookup_cons]⟩
   ·exact .inr ⟨k,hk,h1,h2,a,h3⟩
theorem uP (scope:Scope) (env:Env) (y:Str):(relabel scope env).names.lookup y=(scope.names.lookup y).map λk=>if (k == NameKind.free && env.scope.kind == .function && env.kindOf y == some .cell)=true then .cell else k:=by
 show(scope.names.map _).lookup y=_
 induction scope.names with
 | nil=>rfl
 | cons p l ih=>
  obtain⟨n,k⟩:=p
  rw [List.map_cons]
  show List.lookup y ((if (k == NameKind.free && env.scope.kind == .function && env.kindOf n == some .cell)=true then(n,NameKind.cell) else(n,k)):: _)=_
  by_cases hy:(y == n)=true
  ·have:y=n:=by simpa using hy
   subst this
   by_cases hc:(k == NameKind.free && env.scope.kind == .function && env.kindOf y == some .cell)=true
   ·rw [if_pos hc]
    simp only [List.lookup_cons,beq_self_eq_true,Option.map_some]
    rw [if_pos hc]
   ·rw [if_neg hc]
    simp only [List.lookup_cons,beq_self_eq_true,Option.map_some]
    rw [if_neg hc]
  ·have hy':(y == n)=false:=by simpa using hy
   by_cases hc:(k == NameKind.free && env.scope.kind == .function && env.kindOf n == some .cell)=true
   ·rw [if_pos hc]
    simp only [List.lookup_cons,hy']
    exact ih
   ·rw [if_neg hc]
    simp only [List.lookup_cons,hy']
    exact ih
noncomputable def dg (N:List Str) (js:List Nat):List Str:=js.map λj=>(N[j]?).getD Str.empty
noncomputable def dB (σ:St) (js:List Nat):St:=js.map λj=>(σ[j]?).join
noncomputable def Ai (X:Cx) (scope:Scope) (x:Str) (js:List Nat) (cl:List (Str×Addr)) (C:Addr) (s:Shared) (H:Hp) (ex:List Addr):Cx where
 prog:=X.prog
 w:=X.w
 K:=X.K
 mg:=X.mg
 base:=X.base
 A:=X.A
 N:=x:: dg X.N js
 s₀:=s
 H₀:=H
 env:=compEnvC scope cl C X.env
 outer:=X.stack
 stack:=X.stack
 ex:=ex
 fn:=λ_=>false
 calm:=X.calm
 pn:=[]
 xe:=λ_ _=>False
noncomputable def PF (X:Cx) (ifs:List Expr) (t:TT):Prop:=
 ∀(pins:List (Addr×Obj)) (s:Shared) (σ:St) (H:Hp) (Q:Bool->Hp->Prop),Inv X pins σ H s->t σ H Q->
  wpAny (model X.prog X.w) X.A (forIn ifs true λc r=>if r=true then do let ok <-isTrue c X.env (eval c X.env);pure (ForInStep.yield ok) else pure (ForInStep.yield r)) (TP X pins σ Q) X.xe s
noncomputable def aaC:TT:=λ_ H Q=>Q true H
theorem jl {X:Cx}:PF X [] aaC:=λ_ _ _ H _ I h=>wpAny_pure ⟨H,I,h⟩
theorem yf {X:Cx} {c:Expr} {t:TT} (hc:PT X c t):PF X [c] t:=by
 intro pins s σ H Q I h
 rw [List.forIn_cons,if_pos rfl]
 refine wpAny_bind (wpAny_bind (dG (hc pins s σ H Q I h) λb s1 q=>wpAny_pure ?_))
 show wpAny (model X.prog X.w) X.A (pure b) (TP X pins σ Q) X.xe s1
 exact wpAny_pure q
inductive CompEnd (js:List Nat) (tt:TT) (te:TE) (σ:St) (Qd:List V->Hp->Prop) (J:It) (H1:Hp):Prop where
 | mk:∀W:Nat->Nat->List V->Hp->Prop,((∃m,W 0 m [] H1))->(∀i m ys H2,W i m ys H2->
 (J.stop i H2/\ys.length<=sizeLine/\Qd ys H2)∨
 (J.go i H2/\ys.length <sizeLine/\∃N:List V->Hp->Prop,(∀ys' H',N ys' H'->∃m',m' <m/\W (i+1) m' ys' H')/\∀x H3,J.yld i H2 x H3->tt (some x:: dB σ js) H3 λb H4=>
  if b=true then te (some x:: dB σ js) H4 λy H5=>N (ys ++ [y]) H5 else N ys H4))->CompEnd js tt te σ Qd J H1
noncomputable def Xj (js:List Nat) (wi:TI) (tt:TT) (te:TE):TE:=λσ H Q=>wi σ H (CompEnd js tt te σ λys H2=>∀D,H2 D=none->Q (.ref D) (upd H2 D (.lst ys)))
section
variable {X:Cx} {x:Str} {px pos:Pos} {iter elt:Expr} {ifs:List Expr} {scope:Scope} {wi:TI} {tt:TT} {te:TE}
end
section
variable {X:Cx}
theorem gW:yJ X (binaryOp .Mult) (rI IntMulOk λi j=>.int (i * j)):=opI λ_ _ _ _ _ _ _ hc q=>mul_int q hc
noncomputable def O6 (_ j:Int):Prop:=0 <j/\j.natAbs.log2 <9000
theorem qX:yJ X (binaryOp .FloorDiv) (rI O6 λi j=>.int (i / j)):=opI λi j _ _ _ _ _ hc q=>by
 have h1:(0:Int) <j:=hc.1
 exact floordiv_int (by omega) (by rw [Int.fdiv_eq_ediv_of_nonneg i (by omega)];exact q) (.inl (PyProof.noPylong_of_log2 hc.2))
theorem XC {i j:Int} (h0:0 <j) (h:j.natAbs <2 ^ 9000):O6 i j:=⟨h0,(Nat.log2_lt (by omega)).mpr h⟩
noncomputable def tyN (K:PySem.W.Frag) (H:Hp) (x:V) (T:String):Prop:=match x with
 | .non=>T= "NoneType"
 | .bl _=>T= "bool"
 | .int _=>T= "int"
 | .str _=>T= "str"
 | .ref p=>(T= "list" /\∃xs,bI K H p xs)∨(T= "tuple" /\∃xs,cP K H p xs)∨(T= "dict" /\∃kvs,H p=some (.dK kvs))
 | _=>False
noncomputable def Mg (a b:String):Bool:=a == b || (a == "bool" && b == "int")
noncomputable def Qa:List String:=["int", "bool", "str", "list", "tuple", "dict"]
noncomputable def pJ:List String:=["NoneType", "bool", "int", "str", "list", "tuple", "dict"]
theorem RX:∀T∈Qa,PySem.W.kitMeta T=true:=by decide +kernel
theorem Wd:∀a∈pJ,∀b∈Qa,(PySem.fastBuiltinMro a).map (·.contains (.type b))=some (Mg a b):=by decide +kernel
theorem Ww (K:PySem.W.Frag) {a b:String} (ha:a∈pJ) (hb:b∈Qa):PySem.W.kitOne K (.type a) (.type b)=some (Mg a b):=by
 unfold PySem.W.kitOne
 by_cases h:(Value.type a == Value.type b)=true
 ·rw [if_pos h]
  have e:a=b:=by
   have:=beq_iff_eq.mp h
   injection this
  subst e
  simp [Mg]
 ·rw [if_neg h]
  show(if PySem.W.kitMeta b=true then PySem.W.subIn K (.type a) (.type b) else none)=_
  rw [if_pos (RX b hb)]
  exact Wd a ha b hb
theorem zO:lK X (.builtin "isinstance") (λxs H Q=>∃x Tx T b,xs=[x,.ty T]/\tyN X.K H x Tx/\T∈Qa/\Mg Tx T=b/\Q (.bl b) H):=by
 intro pins s σ H xs us Q I r h
 obtain⟨x,Tx,T,b,rfl,ty,hT,rfl,q⟩:=h
 obtain⟨u,w',rfl,rx,ry⟩:=vals2 r
 cases ry
 have fin:∀{b:Bool},b=Mg Tx T->∀tk,EP X pins σ Q (.bool b) { s with toks:=tk }:=λe tk=>⟨.bl (Mg Tx T),H,I.tok tk,by rw [e];rfl,q⟩
 have go:∀{P:Heap->Prop},PySem.W.KitX X.K u (.type Tx) P->P s.heap->Tx∈pJ->u≠.builtin "__main__.__loader__#opaque" ->wpAny (model X.prog X.w) X.A (call (.builtin "isinstance") [u,.type T]) (EP X pins σ Q) X.xe s:=λZ p hm hx=>
  PySem.W.kia_one Z I.kIn p (Ww X.K hm hT) hx λtk=>fin rfl tk
 cases x with
 | non=>cases rx;cases (show Tx= "NoneType" from ty);exact go PySem.W.kitx_none trivial (by decide) (by intro e;cases e)
 | bl b=>cases rx;cases (show Tx= "bool" from ty);exact go PySem.W.kitx_bool trivial (by decide) (by intro e;cases e)
 | int i=>obtain⟨t,rfl⟩:=rx;cases (show Tx= "int" from ty);exact go PySem.W.kitx_int trivial (by decide) (by intro e;cases e)
 | str z=>obtain⟨t,rfl⟩:=rx;cases (show Tx= "str" from ty);exact go PySem.W.kitx_str trivial (by decide) (by intro e;cases e)
 | ref p=>
  cases rx
  rcases ty with ⟨rfl,ys,hq⟩ | ⟨rfl,ys,hq⟩ | ⟨rfl,kvs,hq⟩
  ·obtain⟨its,_,pl,_⟩:=I.list hq
   obtain⟨o,n,e,c,_,_⟩:=pl
   exact go PySem.W.kitx_list ⟨o,e,c⟩ (by decide) (by intro e;cases e)
  ·obtain⟨its,_,⟨o,e,c,_⟩,_⟩:=I.tuple hq
   exact go PySem.W.kitx_tuple ⟨o,e,c⟩ (by decide) (by intro e;cases e)
  ·obtain⟨_,_,_,_,o,_,_,e,ex,_⟩:=I.hok p _ hq
   exact go PySem.W.kitx_dict ⟨o,e,ex.1⟩ (by decide) (by intro e;cases e)
 | _=>exact(show False from ty).elim
end
theorem YB:bootBuiltins "int" =some (.type "int"):=by decide +kernel
theorem Wc:bootBuiltins "bool" =some (.type "bool"):=by decide +kernel
theorem En:bootBuiltins "str" =some (.type "str"):=by decide +kernel
theorem pC:bootBuiltins "list" =some (.type "list"):=by decide +kernel
theorem yI:bootBuiltins "tuple" =some (.type "tuple"):=by decide +kernel
theorem eQ:bootBuiltins "len" =some (.builtin "len"):=by decide +kernel
theorem j6:bootBuiltins "isinstance" =some (.builtin "isinstance"):=by decide +kernel
theorem YC:bootBuiltins "min" =some (.builtin "min"):=by decide +kernel
theorem Ni:bootBuiltins "max" =some (.builtin "max"):=by decide +kernel
theorem Jp:bootBuiltins "all" =some (.builtin "all"):=by decide +kernel
section
variable {X:Cx} {pos:Pos}
theorem iC {x:Str} {v:V} (hg:Gl X x) (hm:∃u,X.mg x=some u/\RelV v u) (hd:(x == ("__debug__" :Str))=false:=by decide):PE X (.Name x pos) (tC v):=by
 obtain⟨u,h1,h2⟩:=hm
 exact Ip hg h1 h2 hd
theorem CQ {x:Str} {T:String} (hg:Gl X x) (hm:X.mg x=none) (hv:bootBuiltins x=some (.type T)) (hn:x≠ "__name__" :=by decide) (hd:(x == ("__debug__" :Str))=false:=by decide):PE X (.Name x pos) (tC (.ty T)):=
 Wz hg hm hv rfl hn hd
end
theorem vp {a b:Int} (h: -(2 ^ 64) <a/\a <2 ^ 64:=by decide):IntMulOk a b:=.of_left (intBits_le_64 h.1 h.2)
theorem Jh {a b:Int} (h: -(2 ^ 64) <b/\b <2 ^ 64:=by decide):IntMulOk a b:=.of_right (intBits_le_64 h.1 h.2)
inductive Tn (t:TS) (D:Ends) (σ:St) (H:Hp):Prop where
 | mk:∀J:St->Hp->Prop,t { D with nx:=J } σ H->(∀σ' H',J σ' H'->D.nx σ' H')->Tn t D σ H
noncomputable def ZR (t:TS):TS:=λD σ H=>Tn t D σ H
theorem wH {X:Cx} {st:Stmt} {t:TS} (h:PS X st t):PS X st (ZR t):=by
 intro pins s σ H D I hw
 obtain⟨J,h1,h2⟩:=hw
 refine dG (h pins s σ H { D with nx:=J } I h1) λf s1 q=>?_
 cases f with
 | next=>obtain⟨σ',H',I',q⟩:=q;exact⟨σ',H',I',h2 _ _ q⟩
 | ret v=>exact q
 | brk=>exact q
 | cont=>exact q
theorem dz {c A B:Prop} [Decidable c] (hc:¬c) (h:B):if decide c=true then A else B:=by rw [decide_eq_false hc];exact dq h
theorem rG {c A B:Prop} [Decidable c] (hc:c) (h:A):if decide c=true then A else B:=by rw [decide_eq_true hc];exact iT h
section
variable {X:Cx} {pins:List (Addr×Obj)} {σ:St} {H:Hp} {s:Shared}
end
noncomputable def Its (x:Str):It:=⟨λi _=>i <x.cps.size,λi H v H'=>H'=H/\∃c,x.cps[i]?=some c/\v=.str ⟨#[c]⟩,λi _=>x.cps.size<=i⟩
theorem Kl {P:Program} {w:World} {K:PySem.W.Frag} {tg:Expr} (it:Addr) (x:Str) (t:Tok) {ty:String} (hty:ty= "str_ascii_iterator" ∨ty= "str_iterator"):Turn P w K tg (Its x) [it] it (λi h=>h.IsStrIter it ty x t i) where
 mem:=by simp
 obj:=λi h st b hb=>by
  have e:b=it:=by simpa using hb
  subst e
  obtain⟨o,e,c,d⟩:=st
  exact⟨o,e,λv z=>by rw [d] at z;cases z⟩
 keep:=λi h h' st k=>by
  obtain⟨o,e,r⟩:=st
  exact⟨o,k it (by simp) o e,r⟩
 item:=by
  intro X hP hw hK hc i pins s σ H E I hf st hg
  subst hP hw hK
  obtain⟨f0,f1,f2,f3,f4,f5⟩:=hf it (by simp)
  have fin:∀(v:Value) (h':Heap) (tk:Nat),SignAt x i v->h'.IsStrIter it ty x t (i+1)->(∀b o,b∉[it]->s.heap.get? b=some o->h'.get? b=some o)->
    ∃u,some v=some u/\wpAny (model X.prog X.w) X.A (letOwnedTupleGo tg (.ref it) u) (λ_ s2=>∃x' H',Inv X pins σ H' s2/\RelV x' u/\(Its x).yld i H x' H'/\s2.heap.IsStrIter it ty x t (i+1)/\∀b∈[it],H' b=none) E { s with heap:=h',toks:=tk }:=by
   intro v h' tk hv st' kk
   obtain⟨c,u,hcc,rfl⟩:=hv
   have I1:Inv X pins σ H { s with heap:=h',toks:=tk }:=I.turned (λb o hb e=>kk b o (by simpa using hb) e) f0 f1 f3 f4 f5
   obtain⟨o,e,c',d⟩:=id st'
   refine⟨_,rfl,Ht (s:={ s with heap:=h',toks:=tk }) (n:=ty) e c' d (by rcases hty with rfl | rfl <;> decide) ⟨.str ⟨#[c]⟩,H,I1,⟨u,rfl⟩,⟨rfl,c,hcc,rfl⟩,st',λb hb=>(hf b hb).1⟩⟩
  rcases hty with rfl | rfl
  ·exact(Walks.strAscii (prog:=X.prog) (w:=X.w) (I.ok.hd hc) it x t).item i s _ _ hg st λv h' tk hv st' kk=>fin v h' tk hv st' kk
  ·exact(Walks.strWide (prog:=X.prog) (w:=X.w) (I.ok.hd hc) it x t).item i s _ _ hg st λv h' tk hv st' kk=>fin v h' tk hv st' kk
 done:=by
  intro X hP hw hK hc i pins s σ H E I hf st hg
  subst hP hw hK
  obtain⟨f0,f1,f2,f3,f4,f5⟩:=hf it (by simp)
  have hx:x.cps[i]?=none:=by
   have hg':x.cps.size<=i:=hg
   simp;omega
  rcases hty with rfl | rfl
  ·exact wpAny_pyNext_ascii_end (I.ok.hd hc) st hx λh' eb=>⟨rfl,I.turned (t':=s.toks) (λb o hb e=>eb b o hb e) f0 f1 f3 f4 f5⟩
  ·exact wpAny_pyNext_wide_end (I.ok.hd hc) st hx λh' eb=>⟨rfl,I.turned (t':=s.toks) (λb o hb e=>eb b o hb e) f0 f1 f3 f4 f5⟩
 self:=λ_ _ _ _ _ st h=>by
  rcases hty with rfl | rfl
  ·exact wpAny_pyIter_striter_ascii st h
  ·exact wpAny_pyIter_striter_wide st h
section
variable {X:Cx} {tg:Expr}
inductive Xc (R:It->Hp->Prop) (x:V) (H1:Hp):Prop where
 | mk:∀z,x=.str z->R (Its z) H1->Xc R x H1
noncomputable def abr (tl:TE):TI:=λσ H R=>tl σ H λx H1=>Xc R x H1
theorem Zb {l:Expr} {tl:TE} (hl:PE X l tl):PI X tg l (abr tl):=by
 intro pins s σ H R I h
 refine dG (hl pins s σ H _ I h) λv s1 hpt=>?_
 obtain⟨x,H1,I1,r1,q1⟩:=hpt
 obtain⟨z,e,q⟩:=q1
 subst e
 obtain⟨t,rfl⟩:=r1
 cases ha:z.cps.all (· <128)
 ·refine wpAny_pyIter_wide ha ?_
  refine⟨s1.heap.objs.size,[s1.heap.objs.size],_,_,H1,rfl,I1.kept (t':=s1.toks) λb o e=>Heap.get?_push_of_some _ e,Kl _ z t (ty:= "str_iterator") (.inr rfl),⟨_,Heap.get?_push_size _ rfl,rfl,rfl⟩,λb hb=>?_,q⟩
  have e:b=s1.heap.objs.size:=by simpa using hb
  subst e
  exact I1.fpOk (Nat.le_refl _) (I1.hok.fresh (Nat.le_refl _))
 ·refine wpAny_pyIter_ascii ha ?_
  refine⟨s1.heap.objs.size,[s1.heap.objs.size],_,_,H1,rfl,I1.kept (t':=s1.toks) λb o e=>Heap.get?_push_of_some _ e,Kl _ z t (ty:= "str_ascii_iterator") (.inl rfl),⟨_,Heap.get?_push_size _ rfl,rfl,rfl⟩,λb hb=>?_,q⟩
  have e:b=s1.heap.objs.size:=by simpa using hb
  subst e
  exact I1.fpOk (Nat.le_refl _) (I1.hok.fresh (Nat.le_refl _))
end
theorem yes {A B:Hp->Prop} {σ:St} {H:Hp} (h:A H):aaC σ H (λb H4=>if b=true then A H4 else B H4):=by
 show if true=true then A H else B H
 exact iT h
section
variable {js:List Nat} {tt:TT} {te:TE} {σ:St} {Qd:List V->Hp->Prop}
theorem Mx {lo:Int} {n:Nat} {H:Hp} (Pv:Nat->List V->Hp->Prop) (hn:n<=sizeLine) (h0:Pv 0 [] H) (hl:∀i ys H,Pv i ys H->ys.length<=i)
  (hs:∀i ys H,i <n->Pv i ys H->tt (some (.int (lo+i)):: dB σ js) H λb H4=>if b=true then te (some (.int (lo+i)):: dB σ js) H4 λy H5=>Pv (i+1) (ys ++ [y]) H5 else Pv (i+1) ys H4)
  (hd:∀ys H,Pv n ys H->Qd ys H):CompEnd js tt te σ Qd (YX lo n) H:=by
 refine⟨λi m ys H=>m=n - i/\i<=n/\Pv i ys H,⟨n,by simp,Nat.zero_le _,h0⟩,?_⟩
 rintro i m ys H ⟨rfl,hi,p⟩
 have hlen:=hl i ys H p
 by_cases hlt:i <n
 ·refine .inr ⟨hlt,by omega,Pv (i+1),λys' H' p'=>⟨n - (i+1),by omega,rfl,hlt,p'⟩,λx H' y=>?_⟩
  obtain⟨e,y⟩:=y
  subst e y
  exact hs i ys _ hlt p
 ·have e:i=n:=by omega
  subst e
  exact .inl ⟨Nat.le_refl _,by omega,hd ys H p⟩
theorem dN {K:PySem.W.Frag} {a:Addr} {xs:List V} {H:Hp} (Pv:Nat->List V->Hp->Prop) (hn:xs.length<=sizeLine) (h0:Pv 0 [] H) (hl:∀i ys H,Pv i ys H->ys.length<=i) (hq:∀i ys H,i<=xs.length->Pv i ys H->bI K H a xs)
  (hs:∀i x ys H,xs[i]?=some x->Pv i ys H->tt (some x:: dB σ js) H λb H4=>if b=true then te (some x:: dB σ js) H4 λy H5=>Pv (i+1) (ys ++ [y]) H5 else Pv (i+1) ys H4)
  (hd:∀ys H,Pv xs.length ys H->Qd ys H):CompEnd js tt te σ Qd (Zd K a) H:=by
 refine⟨λi m ys H=>m=xs.length - i/\i<=xs.length/\Pv i ys H,⟨xs.length,by simp,Nat.zero_le _,h0⟩,?_⟩
 rintro i m ys H ⟨rfl,hi,p⟩
 have hlen:=hl i ys H p
 have q:=hq i ys H hi p
 by_cases hlt:i <xs.length
 ·refine .inr ⟨⟨xs,xs[i],q,by simp [hlt]⟩,by omega,Pv (i+1),λys' H' p'=>⟨xs.length - (i+1),by omega,rfl,hlt,p'⟩,λx H' y=>?_⟩
  obtain⟨e,y⟩:=y
  subst e
  exact hs i x ys _ (y xs q) p
 ·have e:i=xs.length:=by omega
  subst e
  exact .inl ⟨⟨xs,q,Nat.le_refl _⟩,by omega,hd ys H p⟩
theorem SQ {z:Str} {H:Hp} (Pv:Nat->List V->Hp->Prop) (hn:z.cps.size<=sizeLine) (h0:Pv 0 [] H) (hl:∀i ys H,Pv i ys H->ys.length<=i)
  (hs:∀i c ys H,z.cps[i]?=some c->Pv i ys H->tt (some (.str ⟨#[c]⟩):: dB σ js) H λb H4=>if b=true then te (some (.str ⟨#[c]⟩):: dB σ js) H4 λy H5=>Pv (i+1) (ys ++ [y]) H5 else Pv (i+1) ys H4)
  (hd:∀ys H,Pv z.cps.size ys H->Qd ys H):CompEnd js tt te σ Qd (Its z) H:=by
 refine⟨λi m ys H=>m=z.cps.size - i/\i<=z.cps.size/\Pv i ys H,⟨z.cps.size,by simp,Nat.zero_le _,h0⟩,?_⟩
 rintro i m ys H ⟨rfl,hi,p⟩
 have hlen:=hl i ys H p
 by_cases hlt:i <z.cps.size
 ·refine .inr ⟨hlt,by omega,Pv (i+1),λys' H' p'=>⟨z.cps.size - (i+1),by omega,rfl,hlt,p'⟩,λx H' y=>?_⟩
  obtain⟨e,c,hc,y⟩:=y
  subst e y
  exact hs i c ys _ hc p
 ·have e:i=z.cps.size:=by omega
  subst e
  exact .inl ⟨Nat.le_refl _,by omega,hd ys H p⟩
end
section
variable {X:Cx}
theorem zQ (hc:X.calm=true):lK X (.builtin "all") (λxs H Q=>∃(p:Addr) (bs:List Bool),xs=[.ref p]/\bI X.K H p (bs.map V.bl)/\Q (.bl (bs.all id)) H):=by
 intro pins s σ H xs us Q I r h
 obtain⟨p,bs,rfl,hq,q⟩:=h
 obtain⟨u,rfl,rx⟩:=vals1 r
 cases rx
 obtain⟨its,rv,pl,_⟩:=I.list hq
 have hl:=pl.isList
 have hlt:p <s.heap.objs.size:=by obtain⟨_,e,_⟩:=hl;exact Heap.lt_size e
 have hb:∀i v,its[i]?=some v->∃b,bs[i]?=some b/\v=Value.bool b:=λi v e=>by
  have hi:i <its.length:=(List.getElem?_eq_some_iff.mp e).1
  have hi':i <bs.length:=by have:=rv.length;rw [List.length_map] at this;omega
  obtain⟨u,e',r'⟩:=rv.get (i:=i) (x:=.bl bs[i]) (by rw [List.getElem?_map,List.getElem?_eq_getElem hi'];rfl)
  rw [e] at e'
  cases e'
  exact⟨bs[i],List.getElem?_eq_getElem hi',r'⟩
 refine call_all_walk (wpAny_pyIter_list hl ?_)
 refine⟨s.heap.objs.size,[s.heap.objs.size,p],[s.heap.objs.size],its.toArray.size,_,_,λi=>(bs[i]?).getD true,rfl,Walks.list (A:=X.A.in1) (I.ok.hd hc) _ p (Nat.ne_of_lt hlt) its.toArray,
  ⟨⟨_,Heap.get?_push_size _ rfl,rfl,rfl⟩,hl.push _⟩,λi v s' Q' E' hP hQ=>?_,λh' tk hk=>?_⟩
 ·obtain⟨b,e,rfl⟩:=hb i v (by simpa using hP)
  simp only [e,Option.getD_some] at hQ
  exact wpAny_truthy_bool hQ
 ·have e:((List.range its.toArray.size).all λi=>(bs[i]?).getD true)=bs.all id:=by
   have hlen:=rv.length
   rw [List.length_map] at hlen
   rw [List.size_toArray,<-hlen];exact LSm.range_all bs
  rw [e]
  exact⟨.bl _,H,I.kept (LSm.kept_iter hk),rfl,q⟩
end
end L2
namespace L2
open PySem PySem.StrLaws PySem.Builtin PySem.Builtin.Str
end L2
namespace L2
open PySem
theorem az {H:L2.Hp} {p:Addr} {o:L2.HO} (hp:H p=none):L2.aO H (L2.upd H p o):=λb o' e=>by rw [L2.aJ (L2.aC e hp)];exact e
end L2
namespace L2
open PySem PySem.SeqAt
open AutoSeq1 (wpAny_loadPart')
open MeetsSeq MeetsSeq2 MeetsSeq3 SeqRoads2
section
variable {A:Around} {s:Shared}
end
open PySem.Spec PyProof.Rows
end L2
namespace L2
open PySem PySem.Spec PyProof.Rows
structure MethAt (P:Program) (w:World) (K:PySem.W.Frag) (mg:Str->Option Value) (base:Heap) (CX:Hu) (k:Nat) (C:Addr) (m:Str) (sp:Sp):Prop where
 ex:∃(f:Addr) (fd:FuncData) (ps:List Str),Qj K C/\Meth K C m f/\Binds K fd ps []/\iK P w K mg base CX k f fd ps sp
inductive O2 (P:Program) (w:World) (K:PySem.W.Frag) (mg:Str->Option Value) (base:Heap) (CX:Hu) (k:Nat) (m:Str) (E:XK) (t:TA) (σ:St) (Q:VK) (x:V) (H1:Hp):Prop where
 | mk:∀a C dx fs sp,x=.ref a->H1 a=some (.ins C dx fs)->fs.lookup m=none->MethAt P w K mg base CX k C m sp->(t σ H1 λvs H2=>sp (x:: vs) H2 Q E)->O2 P w K mg base CX k m E t σ Q x H1
noncomputable def Mu (P:Program) (w:World) (K:PySem.W.Frag) (mg:Str->Option Value) (base:Heap) (CX:Hu) (k:Nat) (m:Str) (E:XK) (ta:TE) (t:TA):TE:=λσ H Q=>ta σ H λx H1=>O2 P w K mg base CX k m E t σ Q x H1
section
variable {X:Cx} {CX:Hu} {k:Nat} {E:XK} {m:Str} {pos apos:Pos} {e o:Expr} {es:List Expr} {ta:TE} {t:TA}
theorem yw {pl:Sem Bool} (he:PE X o ta) (hr:iU k X.A) (hx:qz CX X E) (ha:PA X (e:: es) t)
  (hst:starEach (e:: es) X.env=(false,eval e X.env):: starEach es X.env:=by rfl) (hpl:(backTo pos (starEach es X.env)).any (·.1)=false:=by rfl)
  (ht:eval (.Call (.Attribute o m apos) (e:: es) [] pos) X.env=(do
   let ov <-eval o X.env
   standAt apos.atName
   let (f,first) <-holding [ov] (getMethod ov m pl)
   callWith pos f first (backTo pos (starEach (e:: es) X.env)) (backToKw pos (keywordEach [] X.env))):=by rfl):
  PE X (.Call (.Attribute o m apos) (e:: es) [] pos) (Mu X.prog X.w X.K X.mg X.base CX k m E ta t):=by
 intro pins s σ H Q I h
 refine PySem.W.methodCall_KW (pl:=pl) (dG (he pins s σ H _ I h) λu s1 hpt=>?_) ht
 obtain⟨x,H1,I1,rx,a,C,dx,fs,sp,ex,ea,l,⟨f,fd,ps,c,hm,hb,F⟩,q⟩:=hpt
 subst ex
 obtain rfl:u=Value.ref a:=rx
 refine sI I1 ea c hm l ?_
 refine PySem.W.callWith_K (first:=[.ref a]) (h₀:=X.base) I.ok.mod.kin hm.kp (dG (ha pos pins s1 σ H1 _ I1 q) λus s2 ⟨vs,H2,I2,r,q2⟩=>⟨I2.kIn,?_⟩) hst hpl
 exact Dn (us:=.ref a:: us) (vs:=.ref a:: vs) (ds:=[]) (dvs:=[]) F hr hb .nil hx I2 (.cons rfl r) (by rw [List.append_nil];exact q2)
theorem Aj {pl:Sem Bool} (he:PE X o ta) (hr:iU k X.A) (hx:qz CX X E)
  (ht:eval (.Call (.Attribute o m apos) [] [] pos) X.env=(do
   let ov <-eval o X.env
   standAt apos.atName
   let (f,first) <-holding [ov] (getMethod ov m pl)
   callWith pos f first (backTo pos (starEach [] X.env)) (backToKw pos (keywordEach [] X.env))):=by rfl):
  PE X (.Call (.Attribute o m apos) [] [] pos) (Mu X.prog X.w X.K X.mg X.base CX k m E ta Vl):=by
 intro pins s σ H Q I h
 refine PySem.W.methodCall_KW (pl:=pl) (dG (he pins s σ H _ I h) λu s1 hpt=>?_) ht
 obtain⟨x,H1,I1,rx,a,C,dx,fs,sp,ex,ea,l,⟨f,fd,ps,c,hm,hb,F⟩,q⟩:=hpt
 subst ex
 obtain rfl:u=Value.ref a:=rx
 refine sI I1 ea c hm l ?_
 exact PySem.W.callWith_K0 (first:=[.ref a]) I1.kIn hm.kp (Dn (us:=[.ref a]) (vs:=[.ref a]) (ds:=[]) (dvs:=[]) F hr hb .nil hx I1 (.cons rfl .nil) (by rw [List.append_nil];exact q))
end
section
variable {X:Cx}
theorem Tq:bootBuiltins "range" =some (.type "range"):=by decide +kernel
theorem Lj:lK X (.type "range") (λxs H Q=>∃j:Int,xs=[.int j]/\∀r,H r=none->Q (.ref r) (upd H r (.rng 0 j))):=by
 intro pins s σ H xs us Q I r h
 obtain⟨j,rfl,q⟩:=h
 obtain⟨u,rfl,t,rfl⟩:=vals1 r
 refine call_range_1 ⟨.ref s.heap.objs.size,upd H s.heap.objs.size (.rng 0 j),I.laid (λb o e=>Heap.get?_push_of_some _ e) (Nat.le_refl _) ?_,rfl,q _ (I.hok.fresh (Nat.le_refl _))⟩
 exact⟨_,_,_,Heap.get?_push_size _ rfl⟩
noncomputable def Vr (n:Nat):List V:=(List.range n).map λi=>V.int (i:Nat)
theorem Ws (n:Nat):(Vr n).length=n:=by simp [Vr]
theorem Uh:∀(n:Nat) (us:List Value),us.length=n->(∀(j:Nat) (v:Value),us[j]?=some v->∃t,v=.int (j:Nat) t)->Vals (Vr n) us:=by
 intro n
 induction n with
 | zero=>intro us hl _;cases us with | nil=>exact .nil | cons _ _=>cases hl
 | succ n ih=>
  intro us hl h
  have e1:Vr (n+1)=Vr n ++ [V.int (n:Nat)]:=by simp [Vr,List.range_succ]
  have hn:n <us.length:=by omega
  have e2:us=us.take n ++ [us[n]]:=by
   have:=List.take_append_drop n us
   rw [List.drop_eq_getElem_cons hn] at this
   rw [List.drop_eq_nil_of_le (by omega)] at this
   exact this.symm
  rw [e1,e2]
  refine Vals.append (ih _ (by simp;omega) λj v e=>?_) (.cons ?_ .nil)
  ·rw [List.getElem?_take] at e
   split at e
   ·exact h j v e
   ·cases e
  ·obtain⟨t,e⟩:=h n us[n] (by simp [hn])
   exact⟨t,e⟩
theorem Gy (hc:X.calm=true):lK X (.type "list") (λxs H Q=>∃(r:Addr) (n:Nat),xs=[.ref r]/\H r=some (.rng 0 n)/\n<=1000000/\∀l,H l=none->Q (.ref l) (upd H l (.lst (Vr n)))):=by
 intro pins s σ H xs us Q I rx h
 obtain⟨r,n,rfl,hr,hn,q⟩:=h
 obtain⟨u,rfl,ru⟩:=vals1 rx
 cases ru
 have hl:sizeLine=16777216:=sizeLine_eq
 obtain⟨t,u,v,e⟩:=(show fV X.prog X.w H s.heap r (.rng 0 n) from I.hok r _ hr)
 refine call_list_range (n:=n) (I.ok.hd hc) e (small_one (by omega) (by omega) (by omega) (by omega)) (by rw [rangeSize_one];split <;> omega) (by omega) λh' tk acc' c' kp e' hi=>?_
 refine⟨.ref s.heap.objs.size,_,I.laid (t':=tk) kp (Nat.le_refl _) (show fV X.prog X.w _ h' _ (.lst (Vr n)) from⟨by rw [Ws];omega,acc'.toList,c',Uh n _ (by simpa using hi.1) λj v ej=>?_,by simpa using e'⟩),rfl,q _ (I.hok.fresh (Nat.le_refl _))⟩
 obtain⟨t,ev⟩:=hi.2 j v (by simpa using ej)
 exact⟨t,by rw [ev];congr 1;omega⟩
end
inductive jt (w:World) (K:PySem.W.Frag):List DictEntry->List (Str×List Int)->Prop
 | nil:jt w K [] []
 | cons {x:Str} {t:Tok} {ad:Addr} {ns:List Int} {es:List DictEntry} {rows:List (Str×List Int)} {h:Int} {its:Array Value} {n:Nat} {o:Obj}:
   h=hashStr w x->K.lookup ad=some o->o.cls=.type "tuple" ->o.data=.seq its n->Vals (ns.map V.int) its.toList->ns.length<=1000->jt w K es rows->jt w K (⟨h,.str x t,.ref ad⟩:: es) ((x,ns):: rows)
inductive KTab (w:World) (K:PySem.W.Frag) (a:Addr) (rows:List (Str×List Int)):Prop where
 | mk:∀(o:Obj) (es:Array DictEntry) (ep:Nat),K.lookup a=some o->o.cls=.type "dict" ->o.dict=none->o.slots= #[]->o.data=.dict es ep->(a == sysModules)=false->jt w K es.toList rows->(rows.map (·.1)).Nodup->KTab w K a rows
theorem KTab.mk' {w:World} {K:PySem.W.Frag} {a:Addr} {rows:List (Str×List Int)} {o:Obj} {es:Array DictEntry} {ep:Nat} (lk:K.lookup a=some o) (c1:o.cls=.type "dict") (c2:o.dict=none) (c3:o.slots= #[]) (c4:o.data=.dict es ep) (sm:(a == sysModules)=false)
  (rw':jt w K es.toList rows) (nd:(rows.map (·.1)).Nodup):KTab w K a rows:=⟨o,es,ep,lk,c1,c2,c3,c4,sm,rw',nd⟩
noncomputable def rowOf (rows:List (Str×List Int)) (z:Str):Option (List Int):=(rows.find? λr=>decide (r.1=z)).map (·.2)
section
variable {P:Program} {w:World} {K:PySem.W.Frag}
theorem jt.kvs:∀{es:List DictEntry} {rows:List (Str×List Int)},jt w K es rows->∃kvs:List (Key×Value),Pairs (cD P w) es kvs/\kvs.map (·.1)=rows.map (λr=>(Sum.inr r.1:Key))/\
  (∀e∈es,∃k,(cD P w).is k e.key=true/\e.hash=(cD P w).hash k)/\
  ∀z,(rowOf rows z=none->valueAt kvs (Sum.inr z)=none)/\∀ns,rowOf rows z=some ns->∃ad,valueAt kvs (Sum.inr z)=some (.ref ad)/\∀H,cP K H ad (ns.map V.int)
 | _,_,.nil=>⟨[],.nil,rfl,λe he=>(by cases he),λz=>⟨λ_=>rfl,λns e=>by cases e⟩⟩
 | _,_,@jt.cons _ _ x t ad ns es rows h its n o hh hl hc hdt hv hz hr=>by
  obtain⟨kvs,p,hk,ho,hf⟩:=jt.kvs hr
  refine⟨(Sum.inr x,.ref ad):: kvs,.cons (lB P w x t) rfl p,by rw [List.map_cons,List.map_cons,hk],λe he=>?_,λz=>?_⟩
  ·rcases List.mem_cons.mp he with e1 | he
   ·subst e1
    exact⟨Sum.inr x,lB P w x t,hh⟩
   ·exact ho e he
  ·by_cases hx:x=z
   ·subst hx
    have e1:rowOf ((x,ns):: rows) x=some ns:=by simp [rowOf]
    have e2:valueAt ((Sum.inr x,Value.ref ad):: kvs) (Sum.inr x:Key)=some (.ref ad):=by simp [valueAt]
    rw [e1,e2]
    refine⟨λe=>by (cases e),λms e=>⟨ad,rfl,λH=>.inr ⟨_,its,n,hl,hc,hdt,?_,?_⟩⟩⟩
    ·have:=hv.length
     have hs:sizeLine=16777216:=sizeLine_eq
     simp at this
     omega
    ·cases e;exact hv
   ·have e1:rowOf ((x,ns):: rows) z=rowOf rows z:=by simp [rowOf,hx]
    have hx':¬(Sum.inr x:Key)=Sum.inr z:=λq=>hx (Sum.inr.inj q)
    have e2:valueAt ((Sum.inr x,Value.ref ad):: kvs) (Sum.inr z:Key)=valueAt kvs (Sum.inr z):=by simp [valueAt,hx']
    rw [e1,e2]
    exact hf z
theorem KTab.map {a:Addr} {rows:List (Str×List Int)} {h:Heap} (T:KTab w K a rows) (hk:K.In h):∃f:Key->Option Value,h.MapOf (cD P w) a f/\(a == sysModules)=false/\
  ∀z,(rowOf rows z=none->f (Sum.inr z)=none)/\∀ns,rowOf rows z=some ns->∃ad,f (Sum.inr z)=some (.ref ad)/\∀H,cP K H ad (ns.map V.int):=by
 obtain⟨o,es,ep,hl,c1,c2,c3,c4,hs,hr,nd⟩:=T
 obtain⟨kvs,p,hkk,ho,hf⟩:=hr.kvs (P:=P)
 have D:h.DictOf (cD P w) a kvs:=⟨o,es,ep,hk a _ hl,⟨c1,c2,c3⟩,c4,λe he=>ho e (by simpa using he),p,?_⟩
 ·exact⟨_,D.mapOf,hs,hf⟩
 ·rw [hkk]
  have:rows.map (λr=>(Sum.inr r.1:Key))=(rows.map (·.1)).map Sum.inr:=by rw [List.map_map];rfl
  rw [this]
  exact List.Pairwise.map _ (λa b hab e=>hab (Sum.inr.inj e)) nd
end
section
variable {X:Cx} {i o:Expr} {ty td:TE} {pos:Pos}
inductive X4 (w:World) (K:PySem.W.Frag) (Q:VK) (y:V) (x:V) (H2:Hp):Prop where
 | mk:∀a rows z,x=.ref a->KTab w K a rows->y=.str z->Q (.bl (rowOf rows z).isSome) H2->X4 w K Q y x H2
noncomputable def aa7 (w:World) (K:PySem.W.Frag) (ty td:TE):TE:=λσ H Q=>ty σ H λy H1=>td σ H1 λx H2=>X4 w K Q y x H2
theorem Zc (hi:PE X i ty) (ho:PE X o td):PC X .In i o (aa7 X.w X.K ty td):=by
 intro pins s σ H Q I h
 refine dG (hi pins s σ H _ I h) λiv s1 ⟨y,H1,I1,ry,q1⟩=>dG (ho pins s1 σ H1 _ I1 q1) λu s2 hpt=>?_
 obtain⟨x,H2,I2,rx,a,rows,z,ex,T,ey,q2⟩:=hpt
 subst ex
 subst ey
 obtain rfl:u=Value.ref a:=rx
 obtain⟨t,rfl⟩:=ry
 obtain⟨f,M,hs,hf⟩:=T.map (P:=X.prog) I2.kIn
 refine wpAny_in_of (k:=(Sum.inr z:Key)) (lB X.prog X.w z t) hs M ?_
 refine⟨.bl (rowOf rows z).isSome,H2,I2.tok _,?_,q2⟩
 cases e:rowOf rows z with
 | none=>rw [(hf z).1 e];rfl
 | some ns=>obtain⟨ad,e1,_⟩:=(hf z).2 ns e;rw [e1];rfl
inductive Xx (w:World) (K:PySem.W.Frag) (x:V) (y:V) (H:Hp) (Q:VK):Prop where
 | mk:∀a rows z ns,x=.ref a->KTab w K a rows->y=.str z->rowOf rows z=some ns->(∀ad,cP K H ad (ns.map V.int)->Q (.ref ad) H)->Xx w K x y H Q
noncomputable def Z5 (w:World) (K:PySem.W.Frag):R2:=λx y H Q=>Xx w K x y H Q
theorem aba:Rt X (Z5 X.w X.K):=by
 intro value slice pins s σ H x y v u Q I rx ry h hs
 obtain⟨a,rows,z,ns,rfl,T,rfl,e,q⟩:=h
 cases rx
 obtain⟨t,rfl⟩:=ry
 obtain⟨f,M,hsm,hf⟩:=T.map (P:=X.prog) I.kIn
 obtain⟨ad,e1,e2⟩:=(hf z).2 ns e
 exact tail_any M.typeIs PySem.F.slot_dict_getitem.lookup (wpAny_getItem_of (k:=(Sum.inr z:Key)) (lB X.prog X.w z t) M e1 ⟨.ref ad,H,I.tok _,rfl,q ad (e2 H)⟩) hs
theorem V9 (ho:PE X o td) (hi:PE X i ty) (hs:Ou i):PE X (.Subscript o i pos) (Z8 (Z5 X.w X.K) td ty):=aU aba ho hi hs
end
noncomputable def zg (K:PySem.W.Frag) (H:Hp) (a:Addr) (xs:List V):Prop:=bI K H a xs∨cP K H a xs
theorem aO.seqT {K:PySem.W.Frag} {H H':Hp} {a:Addr} {xs:List V} (e:aO H H') (h:cP K H a xs):cP K H' a xs:=by
 rcases h with (h | ⟨o,h⟩) | h
 ·exact .inl (.inl (e _ _ h))
 ·exact .inl (.inr ⟨o,e _ _ h⟩)
 ·exact .inr h
theorem aO.seqA {K:PySem.W.Frag} {H H':Hp} {a:Addr} {xs:List V} (e:aO H H') (h:zg K H a xs):zg K H' a xs:=h.elim (λh=>.inl (e.seq h)) λh=>.inr (e.seqT h)
noncomputable def jK (p:Addr) (H H':Hp):Prop:=∀b o,b≠p->H b=some o->H' b=some o
theorem jK.refl {p:Addr} (H:Hp):jK p H H:=λ_ _ _ e=>e
theorem jK.trans {p:Addr} {H H1 H2:Hp} (a:jK p H H1) (b:jK p H1 H2):jK p H H2:=λc o n e=>b c o n (a c o n e)
theorem jK.of_same {p:Addr} {H H1:Hp} (a:aO H H1):jK p H H1:=λc o _ e=>a c o e
theorem jK.write {p:Addr} {H:Hp} {o:HO}:jK p H (upd H p o):=λb u n e=>by rw [aJ n];exact e
theorem jK.seqT {K:PySem.W.Frag} {H H':Hp} {p a C dx:Addr} {fs:List (Str×V)} {xs:List V} (e:jK p H H') (hp:H p=some (.ins C dx fs)) (h:cP K H a xs):cP K H' a xs:=by
 rcases h with (h | ⟨o,h⟩) | h
 ·exact .inl (.inl (e _ _ (qY h hp (by intro z;cases z)) h))
 ·exact .inl (.inr ⟨o,e _ _ (qY h hp (by intro z;cases z)) h⟩)
 ·exact .inr h
theorem jK.seqL {K:PySem.W.Frag} {H H':Hp} {p a C dx:Addr} {fs:List (Str×V)} {xs:List V} (e:jK p H H') (hp:H p=some (.ins C dx fs)) (h:bI K H a xs):bI K H' a xs:=by
 rcases h with (h | ⟨o,h⟩) | h
 ·exact .inl (.inl (e _ _ (qY h hp (by intro z;cases z)) h))
 ·exact .inl (.inr ⟨o,e _ _ (qY h hp (by intro z;cases z)) h⟩)
 ·exact .inr h
theorem jK.seqA {K:PySem.W.Frag} {H H':Hp} {p a C dx:Addr} {fs:List (Str×V)} {xs:List V} (e:jK p H H') (hp:H p=some (.ins C dx fs)) (h:zg K H a xs):zg K H' a xs:=h.elim (λh=>.inl (e.seqL hp h)) λh=>.inr (e.seqT hp h)
theorem Vg {K:PySem.W.Frag} {H:Hp} {a:Addr} {xs:List V} {Q:VK} (h:zg K H a xs) (k:∀H' u,aO H H'->cP K H' u xs->Q (.ref u) H'):
  ∃p ys,[V.ref a]=[.ref p]/\((bI K H p ys/\∀l,H l=none->Q (.ref l) (upd H l (.tup ys)))∨(cP K H p ys/\Q (.ref p) H)):=by
 rcases h with h | h
 ·exact⟨a,xs,rfl,.inl ⟨h,λl hl=>k _ _ (az hl) (cP.of ak)⟩⟩
 ·exact⟨a,xs,rfl,.inr ⟨h,k _ _ (aO.refl _) h⟩⟩
theorem wC {X:Cx}:lK X (.type "tuple") (λxs H Q=>∃a ys,xs=[.ref a]/\zg X.K H a ys/\∀H' u,aO H H'->cP X.K H' u ys->Q (.ref u) H'):=by
 intro pins s σ H xs us Q I r h
 obtain⟨a,ys,rfl,hq,q⟩:=h
 exact Gh pins s σ H _ us Q I r (Vg hq q)
section
variable {es:List Expr} {env:Env}
theorem bQ {a b c}:starEach (.Tuple a b c:: es) env=(false,eval (.Tuple a b c) env):: starEach es env:=rfl
theorem dR {a b}:starEach (.List a b:: es) env=(false,eval (.List a b) env):: starEach es env:=rfl
theorem aK {a b c}:starEach (.Constant a b c:: es) env=(false,eval (.Constant a b c) env):: starEach es env:=rfl
theorem aj {a b}:starEach (.Name a b:: es) env=(false,eval (.Name a b) env):: starEach es env:=rfl
theorem bz {a b c d}:starEach (.Call a b c d:: es) env=(false,eval (.Call a b c d) env):: starEach es env:=rfl
theorem bZ {a b c d}:starEach (.BinOp a b c d:: es) env=(false,eval (.BinOp a b c d) env):: starEach es env:=rfl
theorem bw {a b c}:starEach (.Attribute a b c:: es) env=(false,eval (.Attribute a b c) env):: starEach es env:=rfl
theorem aH {a b c}:starEach (.Subscript a b c:: es) env=(false,eval (.Subscript a b c) env):: starEach es env:=rfl
theorem d8 {a b c d}:starEach (.ListComp a b c d:: es) env=(false,eval (.ListComp a b c d) env):: starEach es env:=rfl
theorem N5 {a b c d}:starEach (.IfExp a b c d:: es) env=(false,eval (.IfExp a b c d) env):: starEach es env:=rfl
end
section
variable {X:Cx} {scope:Scope} {x:Str} {js:List Nat} {cl:List (Str×Addr)} {C:Addr} {s:Shared} {H:Hp} {ex:List Addr}
end
noncomputable def iW (H:Hp):List Addr->List (List V)->Prop:=Paired λr vs=>H r=some (.tup vs)
theorem iW.same {H H':Hp} (s:aO H H'):∀{rs:List Addr} {vss:List (List V)},iW H rs vss->iW H' rs vss
 | _,_,.nil=>.nil
 | _,_,.cons h t=>.cons (s _ _ h) (iW.same s t)
theorem iW.append {H:Hp}:∀{rs rs':List Addr} {vss vss':List (List V)},iW H rs vss->iW H rs' vss'->iW H (rs ++ rs') (vss ++ vss')
 | _,_,_,_,.nil,q=>q
 | _,_,_,_,.cons h t,q=>.cons h (iW.append t q)
section
variable {X:Cx}
end
section
variable {X:Cx}
end
section
variable {P:Program} {w:World} {K:PySem.W.Frag} {mg:Str->Option Value} {base:Heap} {N:List Str} {qual:Str} {scope:Scope} {f:Addr} {cd:Value} {A:Around} {outer:List Env} {s:Shared} {H:Hp} {E:XK}
end
structure U6 (K:PySem.W.Frag) (C:Addr):Prop where
 ex:∃(nm q:Str) (Nn:Addr) (bs bm bmB:List Value) (hdct:Bool) (sn:List Str) (sub:List Value) (ab:Bool) (col:Option Bool) (dd:Option Addr) (k0 k1 k2 k3 k5:Option Value) (B newId initId:String) (mN:Str->Option Value),
  ExcBaseFacts B newId initId bmB/\bm.contains (.type "BaseException")=true/\mN "__init__" =none/\
  ∀h:Heap,K.In h->h.get? C=some (excClassObj nm q C Nn bs bm hdct sn sub ab col dd k0 k1 k2 k3 k5 newId)/\h.Ns Nn mN/\OwnTail h bmB bm
section
variable {P:Program} {w:World} {K:PySem.W.Frag} {mg:Str->Option Value} {base:Heap} {N:List Str} {qual:Str} {scope:Scope} {f:Addr} {cd:Value} {A:Around} {outer:List Env} {s:Shared} {H:Hp} {E:XK}
end
section
variable {X:Cx} {pins:List (Addr×Obj)} {σ:St} {H:Hp} {s:Shared} {E:Value->Shared->Prop}
end
section
variable {X:Cx} {pins:List (Addr×Obj)} {σ:St} {H:Hp} {s:Shared}
end
structure ExcAt (K:PySem.W.Frag) (C:Addr):Prop where
 ex:∃(nm q:Str) (Nn:Addr) (bs bm:List Value) (hdct:Bool) (sn:List Str) (sub:List Value) (ab:Bool) (col:Option Bool) (dd:Option Addr) (k0 k1 k2 k3 k5:Option Value) (newId:String),bm.contains (.type "BaseException")=true/\
  ∀h:Heap,K.In h->h.get? C=some (excClassObj nm q C Nn bs bm hdct sn sub ab col dd k0 k1 k2 k3 k5 newId)
section
variable {prog:Program} {w:World} {A:Around} {E:Value->Shared->Prop} {h:Heap} {g:Array GenState} {d:Drawn} {t:Nat} {os:OsState} {a:Addr} {o:Obj} {C:Addr}
end
noncomputable abbrev Nk:List Value:=[.type "ValueError",.type "Exception",.type "BaseException",.type "object"]
noncomputable def Ru (K:PySem.W.Frag) (N:Addr) (x:Str):Option Value:=match K.lookup N with
 | some o=>(match o.data with | .dict es _=>nsFind es x | _=>none)
 | none=>none
theorem Uz {K:PySem.W.Frag} {h:Heap} {N:Addr} (X:K.In h) (ok:PySem.W.nsOkIn K N=true):h.nsMap N=Ru K N:=by
 funext x
 unfold PySem.W.nsOkIn at ok
 split at ok
 ·rename_i look
  unfold Heap.nsMap Ru
  rw [X _ _ look,look]
 ·cases ok
theorem Uj {K:PySem.W.Frag} {N:Addr} {x:Str} (e:PySem.W.nsIn K N x=some none):Ru K N x=none:=by
 unfold PySem.W.nsIn at e
 split at e
 ·rename_i look
  split at e
  ·cases e
  ·rename_i f
   unfold Ru
   rw [look]
   show nsFind _ _=none
   unfold nsFind findBy
   rw [<-Array.find?_toList,f]
   rfl
 ·cases e
theorem G4 {K:PySem.W.Frag}:∀{l:List Value},PySem.W.tailIn K Nk l=true->l.contains (.type "BaseException")=true
 | [],e=>by simp [PySem.W.tailIn,Nk] at e
 | v:: r,e=>by
  unfold PySem.W.tailIn at e
  rcases Bool.or_eq_true_iff.mp e with z | z
  ·rw [beq_iff_eq.mp z];decide +kernel
  ·split at z
   ·split at z
    ·simp only [Bool.and_eq_true] at z
     rw [List.contains_cons,G4 z.2,Bool.or_true]
    ·cases z
   ·cases z
theorem U6.ofIn {K:PySem.W.Frag} {C:Addr} (z:PySem.W.excIn K C Nk "ValueError.__new__" =true):U6 K C:=by
 unfold PySem.W.excIn at z
 split at z
 ·rename_i od kd slo look
  split at z
  ·rename_i C1 up a0 a1 a2 a3 nid a5 em es
   simp only [Bool.and_eq_true,beq_iff_eq,Bool.not_eq_true'] at z
   obtain⟨⟨⟨⟨⟨x1,x2⟩,x3⟩,x4⟩,x5⟩,x6⟩:=z
   subst x1 x2
   obtain⟨g1,g2,g3,g4,g5,g6,g7,g8,g9,g10,g11⟩:=kd
   dsimp only at em x3 x5 x6
   subst em x3
   have hs:slo= #[a0,a1,a2,a3,some (.builtin "ValueError.__new__"),a5]:=by
    obtain⟨l⟩:=slo
    simp only at es
    rw [es]
   subst hs
   refine⟨⟨g1,g5,g4,g2,up,Nk,g6,g7,g8,g9,g10,od,a0,a1,a2,a3,a5, "ValueError", "ValueError.__new__", "ValueError.__init__",Ru K g4,PySem.F.excBase_ValueError,G4 x4,Uj x6,λh X=>⟨X _ _ look,?_,PySem.W.tail_of_in X x4⟩⟩⟩
   rw [<-Uz X x5]
   exact .of_isNs (PySem.W.isNs_of_in X x5)
  ·cases z
 ·cases z
structure XcK (K:PySem.W.Frag) (C:Addr):Prop where
 cls:(PySem.W.clsIn K C).isSome=true
 ga:PySem.W.findIn K (.ref C) "__getattribute__" =some (some (.builtin "BaseException.__getattribute__"))
 gn:PySem.W.findIn K (.ref C) "__getattr__" =some none
 cl:PySem.W.findIn K (.ref C) "__class__" =some (some (.builtin "object.__class__"))
 ob:PySem.W.subIn K (.ref C) (.type "object")=some true
 be:PySem.W.subIn K (.ref C) (.type "BaseException")=some true
section
variable {P:Program} {w:World} {K:PySem.W.Frag} {mg:Str->Option Value} {base:Heap}
end
end L2
namespace L2
open PySem
section
variable {prog:Program} {w:World} {A:Around} {E:Value->Shared->Prop} {h:Heap} {g:Array GenState} {d:Drawn} {t:Nat} {os:OsState}
variable {nm q:Str} {C N:Addr} {bs bm bmB:List Value} {hdct:Bool} {sn:List Str} {sub:List Value} {ab:Bool} {col:Option Bool} {dd:Option Addr} {k0 k1 k2 k3 k5:Option Value} {B newId initId:String}
end
section
variable {prog:Program} {w:World} {A:Around} {E:Value->Shared->Prop} {h:Heap} {g:Array GenState} {d:Drawn} {t:Nat} {os:OsState}
variable {nm q:Str} {C N:Addr} {bs bm bmB:List Value} {hdct:Bool} {sn:List Str} {sub:List Value} {ab:Bool} {col:Option Bool} {dd:Option Addr} {k0 k1 k2 k3 k5:Option Value} {B newId initId:String}
end
end L2
namespace L2
open PySem Builtin Builtin.ObjectAttr
noncomputable def JG:List Value->Bool
 | .ref _:: r=>JG r
 | l=>l == Nk
structure XfK (K:PySem.W.Frag) (C:Addr):Prop where
 xc:XcK K C
 sa:PySem.W.findIn K (.ref C) "__setattr__" =some (some (.builtin "object.__setattr__"))
 ov:(PySem.W.clsIn K C).any (λcd=>JG cd.mro && cd.hasDict)=true
section
variable {prog:Program} {w:World} {A:Around} {E:Value->Shared->Prop} {h:Heap} {g:Array GenState} {d:Drawn} {t:Nat} {os:OsState} {x C:Addr} {K:PySem.W.Frag} {mA:Str->Option Value} {name:Str} {v:Value}
end
end L2
namespace L2
open PySem PySem.Spec PyProof.Rows
section
variable {X:Cx} {pins:List (Addr×Obj)} {σ:St} {H:Hp} {s:Shared} {a C dx:Addr} {fs:List (Str×V)} {f:Str} {v:V} {A:Around} {E:Value->Shared->Prop}
end
section
variable {X:Cx} {e o value:Expr} {f:Str} {pos pos':Pos} {ta tv:TE}
end
noncomputable def Uv (K:PySem.W.Frag) (C f:Addr):Bool:=match K.lookup C with
 | some o=>(match o.data with
  | .cls kd=>o.cls == .type "type" && kd.mro.head? == some (.ref C) && PySem.W.tailIn K Nk kd.mro.tail && !kd.hasDel && PySem.W.nsOkIn K kd.ns && Ru K kd.ns "__init__" == some (.ref f) && o.slots.size == 6 && o.slots[4]? == some (some (.builtin "ValueError.__new__"))
  | _=>false)
 | none=>false
structure Dk (K:PySem.W.Frag) (C f:Addr):Prop where
 ex:∃(nm q:Str) (Nn:Addr) (bs bm:List Value) (hdct:Bool) (sn:List Str) (sub:List Value) (ab:Bool) (col:Option Bool) (dd:Option Addr) (k0 k1 k2 k3 k5:Option Value) (mN:Str->Option Value),
  mN "__init__" =some (.ref f)/\∀h:Heap,K.In h->h.get? C=some (excClassObj nm q C Nn bs bm hdct sn sub ab col dd k0 k1 k2 k3 k5 "ValueError.__new__")/\h.Ns Nn mN/\OwnTail h Nk bm
theorem aa0 {α:Type}:∀{l:List α},l.length=6->∃a b c d e f,l=[a,b,c,d,e,f]
 | [a,b,c,d,e,f],_=>⟨a,b,c,d,e,f,rfl⟩
theorem Dk.ofIn {K:PySem.W.Frag} {C f:Addr} (z:Uv K C f=true):Dk K C f:=by
 unfold Uv at z
 split at z
 ·rename_i o look
  obtain⟨oc,od,dt,slo⟩:=o
  dsimp only at z
  split at z
  ·rename_i kd
   simp only [Bool.and_eq_true,beq_iff_eq,Bool.not_eq_true'] at z
   obtain⟨⟨⟨⟨⟨⟨⟨x1,x2⟩,x3⟩,x4⟩,x5⟩,x6⟩,x7⟩,x8⟩:=z
   subst x1
   obtain⟨g1,g2,g3,g4,g5,g6,g7,g8,g9,g10,g11⟩:=kd
   dsimp only at x2 x3 x4 x5 x6
   obtain⟨sl⟩:=slo
   obtain⟨a0,a1,a2,a3,a5,rfl⟩:∃a0 a1 a2 a3 a5,sl=[a0,a1,a2,a3,some (.builtin "ValueError.__new__"),a5]:=by
    obtain⟨a0,a1,a2,a3,a4,a5,rfl⟩:=aa0 (show sl.length=6 from x7)
    have e:a4=some (.builtin "ValueError.__new__"):=Option.some.inj (show some a4=_ from x8)
    subst e
    exact⟨a0,a1,a2,a3,a5,rfl⟩
   obtain⟨up,rfl⟩:∃up,g3=.ref C:: up:=by
    cases g3 with
    | nil=>cases x2
    | cons v r=>cases (show some v=some (Value.ref C) from x2);exact⟨r,rfl⟩
   subst x4
   refine⟨⟨g1,g5,g4,g2,up,g6,g7,g8,g9,g10,od,a0,a1,a2,a3,a5,Ru K g4,x6,λh X=>⟨X _ _ look,?_,PySem.W.tail_of_in X x3⟩⟩⟩
   rw [<-Uz X x5]
   exact .of_isNs (PySem.W.isNs_of_in X x5)
  ·cases z
 ·cases z
section
variable {X:Cx} {CX:Hu} {k:Nat} {C B f:Addr} {fd:FuncData} {ps:List Str} {sp:Sp} {E:XK} {x:Str} {p pos apos:Pos} {e:Expr} {es:List Expr} {t:TA}
end
section
variable {X:Cx} {CX:Hu} {k:Nat} {C f:Addr} {fd:FuncData} {ps:List Str} {sp:Sp} {E:XK} {x:Str} {p pos:Pos} {e:Expr} {es:List Expr} {t:TA}
end
section
variable {X:Cx} {C:Addr} {x:Str} {p pos:Pos} {e:Expr} {es:List Expr} {t:TA}
end
end L2
namespace L2
open PySem
noncomputable def Ze (K:PySem.W.Frag) (C:Addr):Bool:=(PySem.W.clsIn K C).isSome && PySem.W.findIn K (.ref C) "__getattribute__" == some (some (.builtin "BaseException.__getattribute__")) && PySem.W.findIn K (.ref C) "__getattr__" == some none &&
 PySem.W.findIn K (.ref C) "__class__" == some (some (.builtin "object.__class__")) && PySem.W.subIn K (.ref C) (.type "object") == some true && PySem.W.subIn K (.ref C) (.type "BaseException") == some true
theorem XcK.ofIn {K:PySem.W.Frag} {C:Addr} (h:Ze K C=true):XcK K C:=by
 simp only [Ze,Bool.and_eq_true,beq_iff_eq] at h
 obtain⟨⟨⟨⟨⟨a,b⟩,c⟩,d⟩,e⟩,f⟩:=h
 exact⟨a,b,c,d,e,f⟩
noncomputable def ZD (K:PySem.W.Frag) (C:Addr):Bool:=Ze K C && PySem.W.findIn K (.ref C) "__setattr__" == some (some (.builtin "object.__setattr__")) && (PySem.W.clsIn K C).any (λcd=>JG cd.mro && cd.hasDict)
theorem XfK.ofIn {K:PySem.W.Frag} {C:Addr} (h:ZD K C=true):XfK K C:=by
 simp only [ZD,Bool.and_eq_true,beq_iff_eq] at h
 obtain⟨⟨a,b⟩,c⟩:=h
 exact⟨.ofIn a,b,c⟩
end L2
namespace L2
open PySem PySem.Spec PyProof.Rows
section
variable {P:Program} {w:World} {K:PySem.W.Frag} {mg:Str->Option Value} {base:Heap} {N:List Str} {qual:Str} {scope:Scope} {f:Addr} {cd:Value} {A:Around} {outer:List Env} {s:Shared} {H:Hp} {E:XK}
end
section
variable {M:Model} {A:Around} {E:Value->Shared->Prop} {s:Shared} {env:Env} {nm q:Str} {C N:Addr} {bs bm:List Value} {hdct:Bool} {sn:List Str} {sub:List Value} {ab:Bool} {col:Option Bool} {dd:Option Addr} {k0 k1 k2 k3 k5:Option Value} {newId:String}
end
section
variable {P:Program} {w:World} {K:PySem.W.Frag} {mg:Str->Option Value} {base:Heap} {N:List Str} {qual:Str} {scope:Scope} {f:Addr} {cd:Value} {A:Around} {outer:List Env} {s:Shared} {H:Hp} {E:XK}
end
section
variable {M:Model} {A:Around} {E:Value->Shared->Prop} {nm q:Str} {C N:Addr} {bs bm:List Value} {hdct:Bool} {sn:List Str} {sub:List Value} {ab:Bool} {col:Option Bool} {dd:Option Addr} {k0 k1 k2 k3 k5:Option Value} {newId:String}
end
section
variable {P:Program} {w:World} {K:PySem.W.Frag} {mg:Str->Option Value} {base:Heap}
end
theorem Dk.at {K:PySem.W.Frag} {C f:Addr} (c:Dk K C f) {h:Heap} (X:K.In h):ExcAt K C:=by
 obtain⟨nm,q,Nn,bs,bm,hdct,sn,sub,ab,col,dd,k0,k1,k2,k3,k5,mN,_,hf⟩:=c.ex
 exact⟨⟨nm,q,Nn,bs,bm,hdct,sn,sub,ab,col,dd,k0,k1,k2,k3,k5,_,(hf h X).2.2.hasType (X:= "BaseException") (b:=true) (by decide +kernel),λh X=>(hf h X).1⟩⟩
noncomputable def iOr (a b:TI):TI:=λσ H R=>a σ H R∨b σ H R
theorem XH {X:Cx} {tg it:Expr} {a b:TI} (h1:PI X tg it a) (h2:PI X tg it b):PI X tg it (iOr a b):=λpins s σ H R I h=>h.elim (h1 pins s σ H R I) (h2 pins s σ H R I)
theorem Kf {js:List Nat} {tt:TT} {te:TE} {σ:St} {Qd:List V->Hp->Prop} {K:PySem.W.Frag} {a:Addr} {xs:List V} {H:Hp} (Pv:Nat->List V->Hp->Prop) (hn:xs.length<=sizeLine) (h0:Pv 0 [] H) (hl:∀i ys H,Pv i ys H->ys.length<=i) (hq:∀i ys H,i<=xs.length->Pv i ys H->cP K H a xs)
  (hs:∀i x ys H,xs[i]?=some x->Pv i ys H->tt (some x:: dB σ js) H λb H4=>if b=true then te (some x:: dB σ js) H4 λy H5=>Pv (i+1) (ys ++ [y]) H5 else Pv (i+1) ys H4)
  (hd:∀ys H,Pv xs.length ys H->Qd ys H):CompEnd js tt te σ Qd (Zr K a) H:=by
 refine⟨λi m ys H=>m=xs.length - i/\i<=xs.length/\Pv i ys H,⟨xs.length,by simp,Nat.zero_le _,h0⟩,?_⟩
 rintro i m ys H ⟨rfl,hi,p⟩
 have hlen:=hl i ys H p
 have q:=hq i ys H hi p
 by_cases hlt:i <xs.length
 ·refine .inr ⟨⟨xs,xs[i],q,by simp [hlt]⟩,by omega,Pv (i+1),λys' H' p'=>⟨xs.length - (i+1),by omega,rfl,hlt,p'⟩,λx H' y=>?_⟩
  obtain⟨e,y⟩:=y
  subst e
  exact hs i x ys _ (y xs q) p
 ·have e:i=xs.length:=by omega
  subst e
  exact .inl ⟨⟨xs,q,Nat.le_refl _⟩,by omega,hd ys H p⟩
theorem TY {js:List Nat} {tt:TT} {te:TE} {σ σ0:St} {Qd:List V->Hp->Prop} {K:PySem.W.Frag} {a:Addr} {xs:List V} {H:Hp} {tl:TE} (ht:∀R:V->Hp->Prop,R (.ref a) H->tl σ0 H R) (ha:zg K H a xs) (Pv:Nat->List V->Prop) (hn:xs.length<=sizeLine) (h0:Pv 0 []) (hl:∀i ys,Pv i ys->ys.length<=i)
  (hs:∀i x ys,xs[i]?=some x->Pv i ys->tt (some x:: dB σ js) H λb H4=>if b=true then te (some x:: dB σ js) H4 λy H5=>H5=H/\Pv (i+1) (ys ++ [y]) else H4=H/\Pv (i+1) ys)
  (hd:∀ys,Pv xs.length ys->Qd ys H):iOr (Xe K tl) (aah K tl) σ0 H (CompEnd js tt te σ Qd):=by
 rcases ha with ha | ha
 ·refine .inl (ht _ ⟨a,rfl,⟨xs,ha⟩,dN (K:=K) (a:=a) (xs:=xs) (λi ys H'=>H'=H/\Pv i ys) hn ⟨rfl,h0⟩ (λi ys _ z=>hl i ys z.2) (λi ys H' _ z=>by rw [z.1];exact ha) (λi x ys H' hx z=>?_) λys H' z=>?_⟩)
  ·obtain⟨rfl,z⟩:=z;exact hs i x ys hx z
  ·obtain⟨rfl,z⟩:=z;exact hd ys z
 ·refine .inr (ht _ ⟨a,rfl,⟨xs,ha⟩,Kf (K:=K) (a:=a) (xs:=xs) (λi ys H'=>H'=H/\Pv i ys) hn ⟨rfl,h0⟩ (λi ys _ z=>hl i ys z.2) (λi ys H' _ z=>by rw [z.1];exact ha) (λi x ys H' hx z=>?_) λys H' z=>?_⟩)
  ·obtain⟨rfl,z⟩:=z;exact hs i x ys hx z
  ·obtain⟨rfl,z⟩:=z;exact hd ys z
theorem zg.len {K:PySem.W.Frag} {H:Hp} {a:Addr} {xs:List V} (h:zg K H a xs):YW K (.ref a) H xs.length:=h.elim (λh=>.inl ⟨xs,h,rfl⟩) λh=>.inr ⟨xs,h,rfl⟩
theorem Sv {X:Cx} {K:PySem.W.Frag} (hK:X.K=K):Rt X (YM K):=by subst hK;exact cC
theorem mL {X:Cx} {K:PySem.W.Frag} (hK:X.K=K):Rt X (Zj K):=by subst hK;exact aY
section
variable {P:Program} {w:World} {K:PySem.W.Frag} {mg:Str->Option Value} {base:Heap} {N:List Str} {qual:Str} {scope:Scope} {f:Addr} {cd:Value} {A:Around} {outer:List Env} {s:Shared} {H:Hp} {E:XK}
end
section
variable {κ:Type} [DecidableEq κ]
noncomputable def bW (kvs:List (κ×V)) (k:κ):Option V:=(kvs.find? λkv=>decide (kv.1=k)).map (·.2)
noncomputable def putK (kvs:List (κ×V)) (k:κ) (v:V):List (κ×V):=
 if (kvs.any λkv=>decide (kv.1=k))=true then kvs.map (λkv=>if kv.1=k then(kv.1,v) else kv) else kvs ++ [(k,v)]
theorem gh {p:κ×V} {r:List (κ×V)} {k:κ} (e:p.1=k):bW (p:: r) k=some p.2:=by simp [bW,List.find?_cons,e]
theorem fL {p:κ×V} {r:List (κ×V)} {k:κ} (e:¬p.1=k):bW (p:: r) k=bW r k:=by simp [bW,List.find?_cons,e]
theorem qP (k:κ):∀kvs:List (κ×V),(kvs.any λkv=>decide (kv.1=k))=(bW kvs k).isSome
 | []=>rfl
 | p:: r=>by
  rw [List.any_cons]
  by_cases e:p.1=k
  ·simp only [gh e,decide_eq_true e,Bool.true_or,Option.isSome_some]
  ·rw [fL e,decide_eq_false e,Bool.false_or];exact qP k r
theorem Lk (k j:κ) (y:V):∀kvs:List (κ×V),bW (kvs.map λkv=>if kv.1=k then(kv.1,y) else kv) j=(bW kvs j).map λx=>if j=k then y else x
 | []=>rfl
 | p:: r=>by
  have ih:=Lk k j y r
  rw [List.map_cons]
  by_cases h:p.1=k
  ·rw [if_pos h]
   by_cases e:p.1=j
   ·rw [gh (p:=(p.1,y)) e,gh e,Option.map_some,if_pos (e.symm.trans h)]
   ·rw [fL (p:=(p.1,y)) e,fL e,ih]
  ·rw [if_neg h]
   by_cases e:p.1=j
   ·rw [gh (p:=p) e,gh e,Option.map_some,if_neg (λz=>h (e.trans z))]
   ·rw [fL (p:=p) e,fL e,ih]
theorem GK (k j:κ) (y:V):∀kvs:List (κ×V),bW kvs k=none->bW (kvs ++ [(k,y)]) j=if j=k then some y else bW kvs j
 | [],_=>by
  by_cases e:k=j
  ·rw [if_pos e.symm];exact gh (p:=(k,y)) e
  ·rw [if_neg (λz=>e z.symm)];exact fL (p:=(k,y)) e
 | p:: r,hn=>by
  rw [List.cons_append]
  have hk:¬p.1=k:=λz=>by rw [gh z] at hn;cases hn
  rw [fL hk] at hn
  have ih:=GK k j y r hn
  by_cases e:p.1=j
  ·rw [gh e,gh e,if_neg (λz=>hk (e.trans z))]
  ·rw [fL e,fL e,ih]
theorem RG (kvs:List (κ×V)) (k j:κ) (y:V):bW (putK kvs k y) j=if j=k then some y else bW kvs j:=by
 unfold putK
 by_cases a:(kvs.any λkv=>decide (kv.1=k))=true
 ·rw [if_pos a,Lk]
  rw [qP] at a
  by_cases e:j=k
  ·obtain⟨x,hx⟩:=Option.isSome_iff_exists.mp a
   rw [if_pos e,e,hx,Option.map_some,if_pos rfl]
  ·rw [if_neg e]
   cases bW kvs j with
   | none=>rfl
   | some x=>rw [Option.map_some,if_neg e]
 ·rw [if_neg a]
  refine GK k j y kvs ?_
  rw [qP] at a
  cases q:bW kvs k with
  | none=>rfl
  | some x=>rw [q] at a;exact(a rfl).elim
theorem lg (kvs:List (κ×V)) (k:κ) (v:V):(putK kvs k v).length<=kvs.length+1:=by
 unfold putK
 split
 ·rw [List.length_map];omega
 ·rw [List.length_append,List.length_cons,List.length_nil];omega
theorem kO {kvs:List (κ×V)} {k:κ} (v:V) (h:bW kvs k=none):putK kvs k v=kvs ++ [(k,v)]:=by
 unfold putK
 rw [qP,h]
 exact if_neg (by decide)
theorem uC.isSome_eq {o:Option V} {u:Option Value} (r:uC o u):o.isSome=u.isSome:=by
 cases o with
 | none=>cases u with
  | none=>rfl
  | some _=>exact(show False from r).elim
 | some _=>cases u with
  | none=>exact(show False from r).elim
  | some _=>rfl
theorem uC.getD {o:Option V} {u:Option Value} {d:V} {d':Value} (r:uC o u) (rd:RelV d d'):RelV (o.getD d) (u.getD d'):=by
 cases o with
 | none=>cases u with
  | none=>exact rd
  | some _=>exact(show False from r).elim
 | some _=>cases u with
  | none=>exact(show False from r).elim
  | some _=>exact r
theorem KV.val {kvs:List (κ×V)} {vs:List (κ×Value)} (r:KV kvs vs) (k:κ):uC (bW kvs k) (valueAt vs k):=by
 unfold KV at r
 induction r with
 | nil=>exact True.intro
 | @cons p q ps qs h t ih=>
  obtain⟨h1,h2⟩:=h
  by_cases e:p.1=k
  ·have e':q.1=k:=h1.symm.trans e
   have b:valueAt (q:: qs) k=some q.2:=by simp [valueAt,List.find?_cons,e']
   rw [gh e,b];exact h2
  ·have e':¬q.1=k:=λz=>e (h1.trans z)
   have b:valueAt (q:: qs) k=valueAt qs k:=by simp [valueAt,List.find?_cons,e']
   rw [fL e,b];exact ih
theorem KV.any {kvs:List (κ×V)} {vs:List (κ×Value)} (r:KV kvs vs) (k:κ):(kvs.any λkv=>decide (kv.1=k))=vs.any λkv=>decide (kv.1=k):=by
 unfold KV at r
 induction r with
 | nil=>rfl
 | cons h t ih=>rw [List.any_cons,List.any_cons,ih,h.1]
theorem KV.repl {kvs:List (κ×V)} {vs:List (κ×Value)} (r:KV kvs vs) (k:κ) {y:V} {u:Value} (ry:RelV y u):
  KV (kvs.map λkv=>if kv.1=k then(kv.1,y) else kv) (vs.map λkv=>if kv.1=k then(kv.1,u) else kv):=by
 unfold KV at r ⊢
 induction r with
 | nil=>exact .nil
 | @cons p q ps qs h t ih=>
  rw [List.map_cons,List.map_cons]
  refine .cons ?_ ih
  obtain⟨h1,h2⟩:=h
  by_cases e:p.1=k
  ·rw [if_pos e,if_pos (h1.symm.trans e)];exact⟨h1,ry⟩
  ·rw [if_neg e,if_neg (λz=>e (h1.trans z))];exact⟨h1,h2⟩
theorem KV.put {kvs:List (κ×V)} {vs:List (κ×Value)} (r:KV kvs vs) (k:κ) {y:V} {u:Value} (ry:RelV y u):KV (putK kvs k y) (stored vs k u):=by
 unfold putK stored
 rw [r.any k]
 by_cases e:(vs.any λkv=>decide (kv.1=k))=true
 ·rw [if_pos e,if_pos e];exact r.repl k ry
 ·rw [if_neg e,if_neg e];exact Paired.snoc r ⟨rfl,ry⟩
theorem KV.length {kvs:List (κ×V)} {vs:List (κ×Value)} (r:KV kvs vs):kvs.length=vs.length:=Paired.length r
end
theorem Dp {P:Program} {w:World} {k:Key} {u:Value} (r:RelV (kV k) u):(cD P w).is k u=true:=by
 cases k with
 | inl i=>obtain⟨t,e⟩:=(show ∃t,u=Value.int i t from r);subst e;exact Mt P w i t
 | inr x=>obtain⟨t,e⟩:=(show ∃t,u=Value.str x t from r);subst e;exact lB P w x t
theorem HY {P:Program} {w:World}:∀{ks:List Key} {us:List Value},Vals (ks.map kV) us->ItemsAre (cD P w) ks us
 | [],_,r=>by rw [List.map_nil] at r;cases r;exact .nil
 | k:: ks,_,r=>by
  rw [List.map_cons] at r
  cases r with
  | cons h t=>exact .cons (Dp h) (HY t)
noncomputable abbrev KT (H:Hp):List (List Key×V)->List (List Key×Addr×Value)->Prop:=Paired λp q=>p.1=q.1/\H q.2.1=some (.tup (p.1.map kV))/\RelV p.2 q.2.2
theorem KT.val {H:Hp} {kvs:List (List Key×V)} {xs:List (List Key×Addr×Value)} (r:KT H kvs xs) (k:List Key):uC (bW kvs k) ((atKey xs k).map (·.2)):=by
 induction r with
 | nil=>exact True.intro
 | @cons p q ps qs h t ih=>
  obtain⟨h1,_,h2⟩:=h
  by_cases e:p.1=k
  ·have e':q.1=k:=h1.symm.trans e
   have b:atKey (q:: qs) k=some q.2:=by simp [atKey,List.find?_cons,e']
   rw [gh e,b];exact h2
  ·have e':¬q.1=k:=λz=>e (h1.trans z)
   have b:atKey (q:: qs) k=atKey qs k:=by simp [atKey,List.find?_cons,e']
   rw [fL e,b];exact ih
theorem KT.repl {H:Hp} {kvs:List (List Key×V)} {xs:List (List Key×Addr×Value)} (r:KT H kvs xs) (k:List Key) {y:V} {u:Value} (ry:RelV y u):
  KT H (kvs.map λkv=>if kv.1=k then(kv.1,y) else kv) (xs.map (putAt k u)):=by
 induction r with
 | nil=>exact .nil
 | @cons p q ps qs h t ih=>
  rw [List.map_cons,List.map_cons]
  refine .cons ?_ ih
  obtain⟨h1,h2,h3⟩:=h
  unfold putAt
  by_cases e:p.1=k
  ·rw [if_pos e,if_pos (h1.symm.trans e)];exact⟨h1,h2,ry⟩
  ·rw [if_neg e,if_neg (λz=>e (h1.trans z))];exact⟨h1,h2,h3⟩
theorem KT.put {H:Hp} {kvs:List (List Key×V)} {xs:List (List Key×Addr×Value)} (r:KT H kvs xs) (k:List Key) {b:Addr} {y:V} {u:Value} (hb:H b=some (.tup (k.map kV))) (ry:RelV y u):
  KT H (putK kvs k y) (storedH xs k b u):=by
 have e:(kvs.any λkv=>decide (kv.1=k))=(atKey xs k).isSome:=by
  rw [qP,(r.val k).isSome_eq,Option.isSome_map]
 unfold putK storedH
 rw [e]
 by_cases q:(atKey xs k).isSome=true
 ·rw [if_pos q,if_pos q];exact r.repl k ry
 ·rw [if_neg q,if_neg q];exact Paired.snoc r ⟨rfl,hb,ry⟩
theorem KT.keeps {H H':Hp} {kvs:List (List Key×V)} {xs:List (List Key×Addr×Value)} (r:KT H kvs xs) (ht:∀b ys,H b=some (.tup ys)->H' b=some (.tup ys)):KT H' kvs xs:=
 Paired.mapP r λ_ _ z=>⟨z.1,ht _ _ z.2.1,z.2.2⟩
section
variable {P:Program} {w:World} {H:Hp} {h:Heap} {a:Addr}
theorem Xu {u:HO} (ok:xg P w H h) (e:Rd H a u):fV P w H h a u:=e.ok ok
theorem BK {kvs:List (Key×V)} (ok:xg P w H h) (e:Rd H a (.dK kvs)):kvs.length<=sizeLine/\(a == sysModules)=false/\∃vs,KV kvs vs/\h.DictOf (cD P w) a vs:=
 show fV P w H h a (.dK kvs) from Xu ok e
theorem Xo {kvs:List (Key×V)} (ok:xg P w H h) (e:H a=some (.dK kvs)):kvs.length<=sizeLine/\(a == sysModules)=false/\∃vs,KV kvs vs/\h.DictOf (cD P w) a vs:=BK ok (.inl e)
theorem Bb {ks:List Key} (ok:xg P w H h) (e:H a=some (.tup (ks.map kV))):(tupleKind (cD P w)).is h ks a:=by
 obtain⟨_,its,r,o,h1,h2,n,h3⟩:=(show fV P w H h a (.tup (ks.map kV)) from ok a _ e)
 exact⟨o,its.toArray,n,h1,h2,h3,by simpa using HY r⟩
theorem FW {kvs:List (List Key×V)} (ok:xg P w H h) (e:Rd H a (.dT kvs)):kvs.length<=sizeLine/\(a == sysModules)=false/\
  ∃xs,KT H kvs xs/\h.DictOfH (tupleKind (cD P w)) a xs:=by
 obtain⟨z,y,xs,r,o,es,ep,h1,h2,h3,h4,h5⟩:=(show fV P w H h a (.dT kvs) from Xu ok e)
 refine⟨z,y,xs,r,o,es,ep,h1,h2,h3,h4,λx hx=>?_,h5⟩
 have all:∀{l:List (List Key×V)} {m:List (List Key×Addr×Value)},KT H l m->∀x∈m,(tupleKind (cD P w)).is h x.1 x.2.1:=by
  intro l m q
  induction q with
  | nil=>intro x hx;exact nomatch hx
  | @cons p q ps qs hq t ih=>
   intro x hx
   rcases List.mem_cons.mp hx with e | hx
   ·subst e
    exact Bb ok (by rw [<-hq.1];exact hq.2.1)
   ·exact ih x hx
 exact all r x hx
theorem aaa {kvs:List (List Key×V)} (ok:xg P w H h) (e:H a=some (.dT kvs)):kvs.length<=sizeLine/\(a == sysModules)=false/\
  ∃xs,KT H kvs xs/\h.DictOfH (tupleKind (cD P w)) a xs:=FW ok (.inl e)
end
noncomputable def dW (H:Hp) (a:Addr) (y:V) (r:Option V):Prop:=
 (∃kvs k,Rd H a (.dK kvs)/\y=kV k/\r=bW kvs k)∨∃kvs k b,Rd H a (.dT kvs)/\y=.ref b/\H b=some (.tup (k.map kV))/\r=bW kvs k
noncomputable def lJ (H:Hp) (a:Addr) (y v:V) (H':Hp):Prop:=
 (∃kvs k,H a=some (.dK kvs)/\y=kV k/\kvs.length <sizeLine/\H'=upd H a (.dK (putK kvs k v)))∨
 ∃kvs k b,H a=some (.dT kvs)/\y=.ref b/\H b=some (.tup (k.map kV))/\kvs.length <sizeLine/\H'=upd H a (.dT (putK kvs k v))
theorem dW.k {H:Hp} {a:Addr} {kvs:List (Key×V)} {k:Key} (e:H a=some (.dK kvs)):dW H a (kV k) (bW kvs k):=.inl ⟨kvs,k,.inl e,rfl,rfl⟩
theorem lJ.k {H:Hp} {a:Addr} {kvs:List (Key×V)} {k:Key} {v:V} (e:H a=some (.dK kvs)) (hl:kvs.length <sizeLine):lJ H a (kV k) v (upd H a (.dK (putK kvs k v))):=.inl ⟨kvs,k,e,rfl,hl,rfl⟩
section
variable {X:Cx} {pins:List (Addr×Obj)} {σ:St} {H:Hp} {s:Shared} {a:Addr} {y v:V} {u r:Value} {o:Option V} {A:Around} {E:Value->Shared->Prop}
theorem Inv.big (I:Inv X pins σ H s):sysModules <s.heap.objs.size:=by
 have h:mainGlobals <s.heap.objs.size:=(I.mod.glob.keeps I.bk).lt
 exact Nat.lt_trans (by decide) h
theorem G6 {Q:Value->Shared->Prop} (hu:A.units+1 <cLine) (I:Inv X pins σ H s) (g:dW H a y (some v)) (ry:RelV y u) (h:∀w' s',Inv X pins σ H s'->RelV v w'->Q w' s'):
  wpAny (model X.prog X.w) A (getItem (.ref a) u) Q E s:=by
 rcases g with ⟨kvs,k,e,ey,l⟩ | ⟨kvs,k,b,e,ey,eb,l⟩
 ·subst ey
  obtain⟨z,hd,vs,rel,dd⟩:=BK I.hok e
  obtain⟨w',hw,rw'⟩:=uC.some_of (v:=v) (o:=valueAt vs k) (by rw [l];exact rel.val k)
  exact wpAny_getItem_of (Dp ry) dd.mapOf hw (h w' _ (I.tok _) rw')
 ·subst ey
  cases (show u=Value.ref b from ry)
  obtain⟨z,hd,xs,rel,dd⟩:=FW I.hok e
  obtain⟨w',hw,rw'⟩:=uC.some_of (v:=v) (o:=(atKey xs k).map (·.2)) (by rw [l];exact rel.val k)
  obtain⟨p,hp,hp2⟩:=Option.map_eq_some_iff.mp hw
  refine wpAny_getItem_heap (tupleKind_room_in1 hu) (Bb I.hok eb) dd hp ?_
  rw [hp2]
  exact h w' _ (I.tok _) rw'
theorem aa2 {Q:Value->Shared->Prop} (hu:A.units+1 <cLine) (I:Inv X pins σ H s) (g:dW H a y o) (ry:RelV y u) (h:∀s',Inv X pins σ H s'->Q (.bool o.isSome) s'):
  wpAny (model X.prog X.w) A (compareOp .In u (.ref a)) Q E s:=by
 rcases g with ⟨kvs,k,e,ey,l⟩ | ⟨kvs,k,b,e,ey,eb,l⟩
 ·subst ey
  obtain⟨z,hd,vs,rel,dd⟩:=BK I.hok e
  refine wpAny_in_of (Dp ry) hd dd.mapOf ?_
  rw [<-(rel.val k).isSome_eq,<-l]
  exact h _ (I.tok _)
 ·subst ey
  cases (show u=Value.ref b from ry)
  obtain⟨z,hd,xs,rel,dd⟩:=FW I.hok e
  refine wpAny_in_heap (tupleKind_room_in1 hu) (Bb I.hok eb) hd dd ?_
  have q:=(rel.val k).isSome_eq
  rw [Option.isSome_map] at q
  rw [<-q,<-l]
  exact h _ (I.tok _)
theorem WT {Q:Value->Shared->Prop} (hu:A.units+1 <cLine) (I:Inv X pins σ H s) (g:dW H a y o) (ry:RelV y u) (h:∀s',Inv X pins σ H s'->Q (.bool (!o.isSome)) s'):
  wpAny (model X.prog X.w) A (compareOp .NotIn u (.ref a)) Q E s:=by
 rcases g with ⟨kvs,k,e,ey,l⟩ | ⟨kvs,k,b,e,ey,eb,l⟩
 ·subst ey
  obtain⟨z,hd,vs,rel,dd⟩:=BK I.hok e
  refine wpAny_notIn_of (Dp ry) hd dd.mapOf ?_
  rw [<-(rel.val k).isSome_eq,<-l]
  exact h _ (I.tok _)
 ·subst ey
  cases (show u=Value.ref b from ry)
  obtain⟨z,hd,xs,rel,dd⟩:=FW I.hok e
  refine wpAny_notIn_heap (tupleKind_room_in1 hu) (Bb I.hok eb) hd dd ?_
  have q:=(rel.val k).isSome_eq
  rw [Option.isSome_map] at q
  rw [<-q,<-l]
  exact h _ (I.tok _)
theorem Iw {h':Heap} {t':Nat} {ob:HO} (I:Inv X pins σ H s) (mu:Mut (H a)) (hs:Heap.SameBut a s.heap h') (he:∃q,h'.get? a=some q) (new:fV X.prog X.w (upd H a ob) h' a ob):
  Inv X pins σ (upd H a ob) { s with heap:=h',toks:=t' }:=
 I.write (x:=a) (e:=a) mu (.inl rfl) (λb q hb z=>(hs.2 b hb).trans z) he new
theorem Tp {P:Program} {w:World} {H':Hp} {h':Heap} {kvs:List (Key×V)} {vs:List (Key×Value)} (z:kvs.length<=sizeLine) (hd:(a == sysModules)=false) (rel:KV kvs vs) (dd:h'.DictOf (cD P w) a vs):
  fV P w H' h' a (.dK kvs):=⟨z,hd,vs,rel,dd⟩
theorem Hi {H':Hp} {Q:Unit->Shared->Prop} (hu:A.units+1 <cLine) (I:Inv X pins σ H s) (g:lJ H a y v H') (ry:RelV y u) (rv:RelV v r) (h:∀s',Inv X pins σ H' s'->Q () s'):
  wpAny (model X.prog X.w) A (setItem (.ref a) u r) Q E s:=by
 rcases g with ⟨kvs,k,e,ey,l,eH⟩ | ⟨kvs,k,b,e,ey,eb,l,eH⟩
 ·subst ey eH
  obtain⟨z,hd,vs,rel,dd⟩:=Xo I.hok e
  have hz:vs.length<=sizeLine:=by rw [<-rel.length];exact z
  have hl:(putK kvs k v).length<=sizeLine:=by have:=lg kvs k v;omega
  refine wpAny_setItem_pairs (hsz:=hz) (Dp ry) dd λh' dd' hs=>h _ ?_
  have he:∃q,h'.get? a=some q:=let ⟨q,_,_,hq,_⟩:=dd';⟨q,hq⟩
  exact Iw I (by rw [e];exact True.intro) hs he (Tp hl hd (rel.put k rv) dd')
 ·subst ey eH
  cases (show u=Value.ref b from ry)
  obtain⟨z,hd,xs,rel,dd⟩:=aaa I.hok e
  have hz:xs.length<=sizeLine:=by rw [<-Paired.length rel];exact z
  have hl:(putK kvs k v).length<=sizeLine:=by have:=lg kvs k v;omega
  refine wpAny_setItem_heap (hsz:=hz) (tupleKind_room_in1 hu) (Bb I.hok eb) dd λh' dd' hs=>h _ ?_
  obtain⟨q,es,ep,hq,h2,h3,h4,_,h5⟩:=dd'
  refine Iw I (by rw [e];exact True.intro) hs ⟨q,hq⟩ ⟨hl,hd,_,(rel.put k eb rv).keeps λc ys ec=>?_,q,es,ep,hq,h2,h3,h4,h5⟩
  rw [aJ (qY ec e (λz=>nomatch z))]
  exact ec
end
section
variable {X:Cx} {pins:List (Addr×Obj)} {σ:St} {H:Hp} {s:Shared} {a:Addr} {kvs:List (Key×V)} {k:Key} {u:Value} {A:Around} {E:Value->Shared->Prop}
end
noncomputable def aab (i:Expr):Prop:=∀ov iv,subscripted i false ov iv=operate [ov,iv] (getItem ov iv)
theorem Vz {prog:Program} {w:World} {A:Around} {E:Value->Shared->Prop} {s:Shared} {env:Env} {value slice:Expr} {pos:Pos} {T id:String} {Q:Value->Shared->Prop}
  (hl:typeLookup (.type T) "__getitem__" =pure (some (.builtin id))) (hs:aab slice)
  (h:wpAny (model prog w) A (eval value env) (λo s₁=>wpAny (model prog w) A (eval slice env) (λi s₂=>s₂.TypeIs o T/\wpAny (model prog w) A (getItem o i) Q E s₂) E s₁) E s):
  wpAny (model prog w) A (eval (.Subscript value slice pos) env) Q E s:=by
 refine Subscript_ (wpAny_mono h (λo s₁ h₁=>wpAny_mono h₁ (λi s₂ h₂=>?_) λ_ _ x=>x) λ_ _ x=>x)
 obtain⟨hT,h₂⟩:=h₂
 unfold subscriptTail
 refine wpAny_bind ?_
 rw [getitemInPython_of_ne hT.not_modules]
 refine wpAny_bind (wpAny_specialOf hT hl ?_)
 have fin:wpAny (model prog w) A (subscripted slice false o i) (λr s₃=>wpAny (model prog w) A (letTemporaryGo value o r >>= λ_=>pure r) Q E s₃) E s₂:=by
  rw [hs o i]
  exact wpAny_operating (wpAny_mono h₂ (λr s₃ h₃=>wpAny_bind (wpAny_letTemporaryGo (wpAny_pure h₃))) λ_ _ x=>x)
 first
  | exact wpAny_pure (wpAny_bind fin)
  | exact wpAny_bind (wpAny_pure (wpAny_bind fin))
  | exact wpAny_bind fin
theorem LC {X:Cx} {pins:List (Addr×Obj)} {σ:St} {H:Hp} {s:Shared} {a:Addr} {y:V} {o:Option V} (I:Inv X pins σ H s) (g:dW H a y o):s.TypeIs (.ref a) "dict" :=by
 rcases g with ⟨kvs,k,e,_,_⟩ | ⟨kvs,k,b,e,_,_,_⟩
 ·obtain⟨_,_,vs,_,dd⟩:=BK I.hok e
  exact dd.typeIs
 ·obtain⟨_,_,xs,_,dd⟩:=FW I.hok e
  exact dd.typeIs
inductive U8 (Q:VK) (x:V) (y:V) (H2:Hp):Prop where
 | mk:∀a v,x=.ref a->dW H2 a y (some v)->Q v H2->U8 Q x y H2
noncomputable def aac (td ty:TE):TE:=λσ H Q=>td σ H λx H1=>ty σ H1 λy H2=>U8 Q x y H2
inductive X8 (Q:VK) (y:V) (x:V) (H2:Hp):Prop where
 | mk:∀a o,x=.ref a->dW H2 a y o->Q (.bl o.isSome) H2->X8 Q y x H2
noncomputable def abh (ty td:TE):TE:=λσ H Q=>ty σ H λy H1=>td σ H1 λx H2=>X8 Q y x H2
inductive LQ (Q:VK) (y:V) (x:V) (H2:Hp):Prop where
 | mk:∀a o,x=.ref a->dW H2 a y o->Q (.bl (!o.isSome)) H2->LQ Q y x H2
noncomputable def VF (ty td:TE):TE:=λσ H Q=>ty σ H λy H1=>td σ H1 λx H2=>LQ Q y x H2
inductive TV (D:Ends) (σ:St) (v:V) (x:V) (y:V) (H3:Hp):Prop where
 | mk:∀a H4,x=.ref a->lJ H3 a y v H4->D.nx σ H4->TV D σ v x y H3
noncomputable def ZC (td ty tv:TE):TS:=λD σ H=>tv σ H λv H1=>td σ H1 λx H2=>ty σ H2 λy H3=>TV D σ v x y H3
inductive Um (tv:TE) (rd:V->V->Hp->VK->Prop) (D:Ends) (σ:St) (x:V) (y:V) (H2:Hp):Prop where
 | mk:∀a v,x=.ref a->dW H2 a y (some v)->(tv σ H2 λy2 H3=>rd v y2 H3 λz H4=>∃H5,lJ H4 a y z H5/\D.nx σ H5)->Um tv rd D σ x y H2
noncomputable def aap (td ty tv:TE) (rd:V->V->Hp->VK->Prop):TS:=λD σ H=>td σ H λx H1=>ty σ H1 λy H2=>Um tv rd D σ x y H2
section
variable {X:Cx} {o i e value:Expr} {pos pos' tpos:Pos} {td ty tv:TE}
theorem bM (hu:X.A.units+1 <cLine) (ho:PE X o td) (hi:PE X i ty) (hs:aab i):PE X (.Subscript o i pos) (aac td ty):=by
 intro pins s σ H Q I h
 refine Vz PySem.F.slot_dict_getitem.lookup hs (dG (ho pins s σ H _ I h) λu s1 ⟨x,H1,I1,rx,q1⟩=>dG (hi pins s1 σ H1 _ I1 q1) λiv s2 hpt=>?_)
 obtain⟨y,H2,I2,ry,a,v,ex,g,q2⟩:=hpt
 subst ex
 obtain rfl:u=Value.ref a:=rx
 exact⟨LC I2 g,G6 hu I2 g ry λw' s3 I3 rw'=>⟨v,H2,I3,rw',q2⟩⟩
theorem uM (hu:X.A.units+1 <cLine) (hi:PE X i ty) (ho:PE X o td):PC X .In i o (abh ty td):=by
 intro pins s σ H Q I h
 refine dG (hi pins s σ H _ I h) λiv s1 ⟨y,H1,I1,ry,q1⟩=>dG (ho pins s1 σ H1 _ I1 q1) λu s2 hpt=>?_
 obtain⟨x,H2,I2,rx,a,ov,ex,g,q2⟩:=hpt
 subst ex
 obtain rfl:u=Value.ref a:=rx
 exact aa2 hu I2 g ry λs3 I3=>⟨.bl ov.isSome,H2,I3,rfl,q2⟩
theorem jP (hu:X.A.units+1 <cLine) (hi:PE X i ty) (ho:PE X o td):PC X .NotIn i o (VF ty td):=by
 intro pins s σ H Q I h
 refine dG (hi pins s σ H _ I h) λiv s1 ⟨y,H1,I1,ry,q1⟩=>dG (ho pins s1 σ H1 _ I1 q1) λu s2 hpt=>?_
 obtain⟨x,H2,I2,rx,a,ov,ex,g,q2⟩:=hpt
 subst ex
 obtain rfl:u=Value.ref a:=rx
 exact WT hu I2 g ry λs3 I3=>⟨.bl (!ov.isSome),H2,I3,rfl,q2⟩
theorem d7 (hu:X.A.units+1 <cLine) (ho:PE X o td) (hi:PE X i ty) (hv:PE X value tv) (hs:swapsWith value (some (.Subscript o i pos')) pos.line X.env=pure false):
  PS X (.Assign [.Subscript o i pos'] value pos) (ZC td ty tv):=by
 intro pins s σ H D I h
 refine wpAny_Assign_Subscript (dG (hv pins s σ H _ I h) λr s1 ⟨v,H1,I1,rv,q1⟩=>dG (ho pins s1 σ H1 _ I1 q1) λu s2 ⟨x,H2,I2,rx,q2⟩=>dG (hi pins s2 σ H2 _ I2 q2) λiv s3 hpt=>?_) hs
 obtain⟨y,H3,I3,ry,a,H4,ex,g,q3⟩:=hpt
 subst ex
 obtain rfl:u=Value.ref a:=rx
 exact Hi hu I3 g ry rv λs4 I4=>⟨σ,H4,I4,q3⟩
theorem Ot {op:Operator} {rd:V->V->Hp->VK->Prop} (hu:X.A.units+1 <cLine) (ho:PE X o td) (hi:PE X i ty) (hv:PE X value tv) (hop:Z9 X op rd)
  (ha:∀ov iv new,augStore i ov iv new=(do holding [new,ov,iv] (setItem ov iv new);release [new,ov,iv] [];pure .next)):PS X (.AugAssign (.Subscript o i tpos) op value pos) (aap td ty tv rd):=by
 intro pins s σ H D I h
 refine wpAny_AugAssign_SubscriptAny (dG (ho pins s σ H _ I h) λu s1 ⟨x,H1,I1,rx,q1⟩=>dG (hi pins s1 σ H1 _ I1 q1) λiv s2 hpt=>?_) ha
 obtain⟨y,H2,I2,ry,a,v,ex,g,q2⟩:=hpt
 subst ex
 obtain rfl:u=Value.ref a:=rx
 refine G6 hu I2 g ry λw' s3 I3 rw'=>dG (hv pins s3 σ H2 _ I3 q2) λw2 s4 ⟨y2,H3,I4,ry2,q3⟩=>dG (hop pins s4 σ H3 v y2 w' w2 _ I4 rw' ry2 q3) λw3 s5 hpt=>?_
 obtain⟨z,H4,I5,rz,H5,g5,q4⟩:=hpt
 exact Hi hu I5 g5 ry rz λs6 I6=>⟨σ,H5,I6,q4⟩
end
theorem Lz {P:Program} {w:World} {H:Hp} (h:Heap) (hb:sysModules <h.objs.size):fV P w H (h.push { cls:=.type "dict",data:=.dict #[] }) h.objs.size (.dK []):=
 ⟨Nat.zero_le _,beq_eq_false_iff_ne.mpr (Ne.symm (Nat.ne_of_lt hb)),[],.nil,Heap.DictOf.new h⟩
noncomputable def Yo:TE:=λ_ H Q=>∀p,H p=none->Q (.ref p) (upd H p (.dK []))
section
variable {X:Cx} {pos:Pos}
theorem dY:PE X (.Dict [] [] pos) Yo:=λpins s σ H Q I h=>
 wpAny_Dict_empty ⟨.ref s.heap.objs.size,_,I.laid (a:=s.heap.objs.size) (o:=.dK []) (t':=s.toks) (λ_ _ q=>Heap.get?_push_of_some _ q) (Nat.le_refl _) (Lz s.heap I.big),rfl,h _ (I.hok.fresh (Nat.le_refl _))⟩
end
noncomputable def Oc:List (TE×TE)->St->Hp->(List (V×V)->Hp->Prop)->Prop
 | [],_,H,Q=>Q [] H
 | (tk,tv):: r,σ,H,Q=>tk σ H λx H1=>tv σ H1 λy H2=>Oc r σ H2 λps H3=>Q ((x,y):: ps) H3
noncomputable abbrev VV:List (V×V)->List (Value×Value)->Prop:=Paired λp q=>RelV p.1 q.1/\RelV p.2 q.2
noncomputable def PPs (X:Cx) (pos:Pos) (keys:List (Option Expr)) (values:List Expr) (trs:List (TE×TE)):Prop:=
 ∀(pins:List (Addr×Obj)) (s:Shared) (σ:St) (H:Hp) (Q:List (V×V)->Hp->Prop),Inv X pins σ H s->Oc trs σ H Q->
  wpAny (model X.prog X.w) X.A (evalPairs (pairTrees keys values X.env pos)) (λvs s'=>∃ps H',Inv X pins σ H' s'/\VV ps vs/\Q ps H') X.xe s
theorem Pq {X:Cx} {pos:Pos}:PPs X pos [] [] []:=λpins s σ H Q I h=>pairTrees_nil_walk ⟨[],H,I,.nil,h⟩
theorem Ld {X:Cx} {pos:Pos} {k v:Expr} {ks:List (Option Expr)} {vs:List Expr} {tk tv:TE} {trs:List (TE×TE)} (hk:PE X k tk) (hv:PE X v tv) (hr:PPs X pos ks vs trs):
  PPs X pos (some k:: ks) (v:: vs) ((tk,tv):: trs):=λpins s σ H Q I h=>
 pairTrees_cons_walk (dG (hk pins s σ H _ I h) λu s1 ⟨x,H1,I1,rx,q1⟩=>dG (hv pins s1 σ H1 _ I1 q1) λw2 s2 ⟨y,H2,I2,ry,q2⟩=>
  dG (hr pins s2 σ H2 _ I2 q2) λws s3 ⟨ps,H3,I3,rel,q3⟩=>⟨(x,y):: ps,H3,I3,.cons ⟨rx,ry⟩ rel,q3⟩)
noncomputable def oM (kvs more:List (Key×V)):List (Key×V):=more.foldl (λacc kv=>putK acc kv.1 kv.2) kvs
theorem KV.merge:∀{more:List (Key×V)} {rs:List (Key×Value)} {kvs:List (Key×V)} {vs:List (Key×Value)},KV more rs->KV kvs vs->KV (oM kvs more) (merged vs rs):=by
 intro more rs kvs vs r
 unfold KV at r
 induction r generalizing kvs vs with
 | nil=>intro q;exact q
 | @cons p q ps qs h t ih=>
  intro r0
  have e:KV (putK kvs p.1 p.2) (stored vs q.1 q.2):=by
   have:=r0.put p.1 h.2
   rw [<-h.1];exact this
  exact ih e
theorem xr:∀(more kvs:List (Key×V)),(oM kvs more).length<=kvs.length+more.length
 | [],kvs=>by show kvs.length<=kvs.length+0;omega
 | p:: r,kvs=>by
  have h1:=xr r (putK kvs p.1 p.2)
  have h2:=lg kvs p.1 p.2
  show(oM (putK kvs p.1 p.2) r).length<=_
  rw [List.length_cons];omega
theorem Ez {P:Program} {w:World}:∀{kvs:List (Key×V)} {ws:List (Value×Value)},VV (kvs.map λkv=>(kV kv.1,kv.2)) ws->∃rs,Carries (cD P w) ws rs/\KV kvs rs
 | [],_,r=>by rw [List.map_nil] at r;cases r;exact⟨[],True.intro,.nil⟩
 | p:: kvs,_,r=>by
  rw [List.map_cons] at r
  cases r with
  | @cons a b as bs h t=>
   obtain⟨rs,c,q⟩:=Ez (P:=P) (w:=w) t
   obtain⟨b1,b2⟩:=b
   exact⟨(p.1,b2):: rs,⟨Dp h.1,rfl,c⟩,.cons ⟨rfl,h.2⟩ q⟩
noncomputable def Z0 (trs:List (TE×TE)):TE:=λσ H Q=>∀p,H p=none->Oc trs σ (upd H p (.dK [])) λps H2=>H2 p=some (.dK [])/\∃kvs:List (Key×V),ps=kvs.map (λkv=>(kV kv.1,kv.2))/\kvs.length<=15/\Q (.ref p) (upd H2 p (.dK (oM [] kvs)))
theorem Oq {X:Cx} {pos:Pos} {keys:List (Option Expr)} {values:List Expr} {trs:List (TE×TE)} (h:PPs X pos keys values trs) (hall:keys.all (·.isSome)=true) (hl:keys.length=values.length) (h0:keys≠[])
  (h15:keys.length<=15):PE X (.Dict keys values pos) (Z0 trs):=by
 intro pins s σ H Q I q
 have hn:=I.hok.fresh (Nat.le_refl s.heap.objs.size)
 have I1:=I.laid (a:=s.heap.objs.size) (o:=.dK []) (h':=s.heap.push { cls:=.type "dict",data:=.dict #[] }) (t':=s.toks) (λ_ _ q=>Heap.get?_push_of_some _ q) (Nat.le_refl _) (Lz s.heap I.big)
 refine wpAny_Dict_walk (knd:=cD X.prog X.w) hall hl h0 h15 (dG (h pins _ σ _ _ I1 (q _ hn)) λws s2 hpt=>?_)
 obtain⟨ps,H2,I2,rel,e,kvs,ep,lk,q2⟩:=hpt
 subst ep
 obtain⟨rs,c,rk⟩:=Ez (P:=X.prog) (w:=X.w) rel
 obtain⟨z,hd,vs0,r0,dd⟩:=Xo I2.hok e
 cases r0
 refine⟨rs,c,dd,λh' dd' hs=>⟨.ref s.heap.objs.size,_,?_,rfl,q2⟩⟩
 have hz:(oM [] kvs).length<=sizeLine:=by
  have h1:=xr kvs []
  rw [List.length_nil] at h1
  rw [sizeLine_eq];omega
 have he:∃q,h'.get? s.heap.objs.size=some q:=let ⟨q,_,_,hq,_⟩:=dd';⟨q,hq⟩
 exact Iw I2 (by rw [e];exact True.intro) hs he (Tp hz hd (rk.merge .nil) dd')
structure M2 (X:Cx) (o:Expr) (m:Str) (apos:Pos) (e f:Expr) (cpos:Pos):Prop where
 base:attributeBase o m X.env (eval o X.env)=eval o X.env
 few:((backTo cpos (starEach [e,f] X.env)).all (λx=>!x.1) && (backToKw cpos (keywordEach [] X.env)).all (λx=>x.1.isSome)
  && decide (([e,f]:List Expr).length+([]:List Keyword).length+(if ([]:List Keyword).isEmpty then 0 else 1) <30))=true
 line:(apos.endLine == cpos.line)=true
 trees:backTo cpos (starEach [e,f] X.env)=[(false,eval e X.env),(false,eval f X.env)]
noncomputable def IsD (H:Hp) (a:Addr):Prop:=(∃kvs,Rd H a (.dK kvs))∨∃kvs,Rd H a (.dT kvs)
theorem Y5 {X:Cx} {pins:List (Addr×Obj)} {σ:St} {H:Hp} {s:Shared} {a:Addr} (I:Inv X pins σ H s) (d:IsD H a):
  s.TypeIs (.ref a) "dict" /\(∀b,Value.ref a=.ref b->∃ob,s.heap.get? b=some ob/\ob.dict=none)/\(a == sysModules)=false:=by
 rcases d with ⟨kvs,e⟩ | ⟨kvs,e⟩
 ·obtain⟨_,hd,vs,_,dd⟩:=BK I.hok e
  refine⟨dd.typeIs,λb q=>?_,hd⟩
  cases q
  obtain⟨ob,_,_,h1,h2,_⟩:=dd
  exact⟨ob,h1,h2.2.1⟩
 ·obtain⟨_,hd,xs,_,dd⟩:=FW I.hok e
  refine⟨dd.typeIs,λb q=>?_,hd⟩
  cases q
  obtain⟨ob,_,_,h1,h2,_⟩:=dd
  exact⟨ob,h1,h2.2.1⟩
section
variable {X:Cx} {pins:List (Addr×Obj)} {σ:St} {H:Hp} {s:Shared} {a:Addr} {y d:V} {u r:Value} {o:Option V} {A:Around} {E:Value->Shared->Prop}
theorem Yz {Q:Value->Shared->Prop} (hu:A.units+1 <cLine) (I:Inv X pins σ H s) (g:dW H a y o) (ry:RelV y u) (rd:RelV d r) (h:∀w' s',Inv X pins σ H s'->RelV (o.getD d) w'->Q w' s'):
  wpAny (model X.prog X.w) A (call (.builtin "dict.get") [.ref a,u,r]) Q E s:=by
 rcases g with ⟨kvs,k,e,ey,l⟩ | ⟨kvs,k,b,e,ey,eb,l⟩
 ·subst ey
  obtain⟨z,hd,vs,rel,dd⟩:=BK I.hok e
  refine call_meetsIn PySem.F.slot_dict_get dd.typeIs PySem.F.entry_dict_get (PySem.F.args_dict_get_3 _ _ _) (meets_dict_get_default (cD X.prog X.w) a (Dp ry) hd r) ⟨_,dd.mapOf,h _ _ (I.tok _) ?_⟩
  rw [l]
  exact(rel.val k).getD rd
 ·subst ey
  cases (show u=Value.ref b from ry)
  obtain⟨z,hd,xs,rel,dd⟩:=FW I.hok e
  refine call_meetsIn PySem.F.slot_dict_get dd.typeIs PySem.F.entry_dict_get (PySem.F.args_dict_get_3 _ _ _) (meetsH_dict_get_default (tupleKind (cD X.prog X.w)) a b hd r) ⟨tupleKind_room_in1 hu,k,xs,Bb I.hok eb,dd,h _ _ (I.tok _) ?_⟩
  rw [l]
  exact(rel.val k).getD rd
end
inductive PX (ty:TE) (tx:TE) (σ:St) (Q:VK) (x:V) (H1:Hp):Prop where
 | mk:∀a,x=.ref a->IsD H1 a->(ty σ H1 λy H2=>tx σ H2 λz H3=>∃o,dW H3 a y o/\Q (o.getD z) H3)->PX ty tx σ Q x H1
noncomputable def Yk (td ty tx:TE):TE:=λσ H Q=>td σ H λx H1=>PX ty tx σ Q x H1
section
variable {X:Cx} {o e f:Expr} {apos cpos:Pos} {td ty tx:TE}
theorem Mp (hu:X.A.units+1 <cLine) (ho:PE X o td) (he:PE X e ty) (hf:PE X f tx) (m:M2 X o "get" apos e f cpos):PE X (.Call (.Attribute o "get" apos) [e,f] [] cpos) (Yk td ty tx):=by
 intro pins s σ H Q I h
 refine wpAny_Call_method m.base m.few m.line PySem.F.plainAttrs_dict PySem.F.slot_dict_get PySem.F.type_dict_get (dG (ho pins s σ H _ I h) λu s1 hpt=>?_)
 obtain⟨x,H1,I1,rx,a,ex,d,q1⟩:=hpt
 subst ex
 obtain rfl:u=Value.ref a:=rx
 obtain⟨t1,t2,_⟩:=Y5 I1 d
 refine⟨t1,t2,?_⟩
 rw [m.trees]
 refine Calls.callWith_builtin rfl (Calls.evalArgs_plain (Calls.spliced_cons (dG (he pins s1 σ H1 _ I1 q1) λiv s2 ⟨y,H2,I2,ry,q2⟩=>
  Calls.spliced_cons (dG (hf pins s2 σ H2 _ I2 q2) λfv s3 ⟨z,H3,I3,rz,ov,g,q3⟩=>Calls.spliced_nil ?_))))
 exact Yz hu I3 g ry rz λw' s4 I4 rw'=>⟨_,H3,I4,rw',q3⟩
end
section
variable {X:Cx} {pins:List (Addr×Obj)} {σ:St} {H:Hp} {s:Shared} {a:Addr} {kvs:List (Key×V)} {A:Around} {E:Value->Shared->Prop}
end
section
variable {X:Cx} {pins:List (Addr×Obj)} {σ:St} {H:Hp} {s:Shared} {a:Addr} {y:V} {u:Value} {A:Around} {E:Value->Shared->Prop}
end
section
variable {X:Cx} {pins:List (Addr×Obj)} {σ:St} {H:Hp} {s:Shared} {d:Addr} {kvs:List (Key×V)}
theorem Inv.chill (I:Inv X pins σ H s) (e:H d=some (.dK kvs)):∃o,s.heap.get? d=some o/\Inv X pins σ (upd H d (.frz o (.dK kvs))) s:=by
 obtain⟨z,hd,vs,rel,o,es,ep,ho,r⟩:=(show fV X.prog X.w H s.heap d (.dK kvs) from I.hok d _ e)
 refine⟨o,ho,?_⟩
 have:=I.write (x:=d) (e:=d) (o:=.frz o (.dK kvs)) (h':=s.heap) (t':=s.toks) (by rw [e];exact True.intro) (.inl rfl) (λb u _ q=>q) ⟨o,ho⟩ ⟨ho,z,hd,vs,rel,o,es,ep,ho,r⟩
 exact this
theorem Inv.melt {o:Obj} (I:Inv X pins σ H s) (e:H d=some (.frz o (.dK kvs))) (h0:∀o u,X.H₀ d≠some (.frz o u)):Inv X pins σ (upd H d (.dK kvs)) s:=by
 have ne:∀b u,H b=some u->(∀o v,u≠.frz o v)->b≠d:=λb u q n z=>by
  rw [z,e] at q
  exact n _ _ (Option.some.inj q).symm
 have no:∀b,H b=none->b≠d:=λb q z=>by rw [z,e] at q;cases q
 refine⟨I.ok,I.os,I.bare,⟨I.base.keep,I.base.slot,λb u q n hx=>?_,I.base.there,λb xs q=>?_,λb u v q=>?_,λb ps q=>?_⟩,I.loc,I.cell,?_,λy c q=>?_,λp h=>?_,λb u q=>?_,I.len⟩
 ·have z:=I.base.free b u q n hx
  rw [aJ (no b z)];exact z
 ·have z:=I.base.tups b xs q
  rw [aJ (ne b _ z (by intro _ _ w;cases w))];exact z
 ·have z:=I.base.frzs b u v q
  rw [aJ (λw=>by rw [w] at q;exact h0 _ _ q)];exact z
 ·obtain⟨m,z⟩:=I.base.tbls b ps q
  exact⟨m,by rw [aJ (ne b _ z (by intro _ _ w;cases w))];exact z⟩
 ·rw [aJ (no _ I.free)];exact I.free
 ·rw [aJ (no _ (I.freeC y c q))];exact I.freeC y c q
 ·obtain⟨z1,z2,r⟩:=I.pin p h
  exact⟨z1,by rw [aJ (no _ z2)];exact z2,r⟩
 ·by_cases w:b=d
  ·subst w
   rw [ak] at q
   cases q
   exact(I.hok b _ e).2
  ·rw [aJ w] at q
   exact(I.hok b u q).stay (λ_ _ _ z=>z) (λc z=>by rw [aJ (ne c _ z (by intro _ _ w;cases w))];exact z) λc xs z=>by rw [aJ (ne c _ z (by intro _ _ w;cases w))];exact z
end
inductive VR (H0 H H':Hp):Prop where
 | mk:∀d o kvs,H d=some (.frz o (.dK kvs))->((∀o u,H0 d≠some (.frz o u)))->H'=upd H d (.dK kvs)->VR H0 H H'
section
variable {X:Cx} {H0:Hp} {st:Stmt} {sts:List Stmt} {e:Expr} {t:TS} {te:TE}
theorem V3 (hH:X.H₀=H0) (h:PS X st t):PS X st (λD σ H=>∃H',VR H0 H H'/\t D σ H'):=by
 subst hH
 intro pins s σ H D I hh
 obtain⟨H',⟨d,o,kvs,e,n,rfl⟩,q⟩:=hh
 exact h pins s σ _ D (I.melt e n) q
theorem rD (hH:X.H₀=H0) (h:PS X st t):PS X st (λD σ H=>t { D with nx:=λσ' H'=>∃H'',VR H0 H' H''/\D.nx σ' H'' } σ H):=by
 subst hH
 intro pins s σ H D I hh
 refine dG (h pins s σ H _ I hh) λf s1 q=>?_
 cases f with
 | next=>obtain⟨σ',H',I',H'',⟨d,o,kvs,e,n,rfl⟩,q⟩:=q;exact⟨σ',_,I'.melt e n,q⟩
 | ret v=>exact q
 | brk=>exact q
 | cont=>exact q
theorem V0 (hH:X.H₀=H0) (h:PE X e te):PE X e (λσ H Q=>te σ H λv H1=>∃H2,VR H0 H1 H2/\Q v H2):=by
 subst hH
 intro pins s σ H Q I hh
 refine dG (h pins s σ H _ I hh) λu s1 q=>?_
 obtain⟨v,H1,I1,r,H2,⟨d,o,kvs,e,n,rfl⟩,q⟩:=q
 exact⟨v,_,I1.melt e n,r,q⟩
end
noncomputable def Zu (d:Addr) (o:Obj) (kvs:List (Key×V)):It:=
 ⟨λi H=>H d=some (.frz o (.dK kvs))/\i <kvs.length,λi H x H'=>H'=H/\∃k v,kvs[i]?=some (k,v)/\x=kV k,λi H=>H d=some (.frz o (.dK kvs))/\kvs.length<=i⟩
theorem Te {P:Program} {w:World} {k:Key} {u:Value} (h:(cD P w).is k u=true):RelV (kV k) u:=by
 rcases d9 (k:=k) (v:=u) h with ⟨i,t,rfl,rfl⟩ | ⟨x,t,rfl,rfl⟩
 ·exact⟨t,rfl⟩
 ·exact⟨t,rfl⟩
theorem M6:∀{kvs:List (Key×V)} {vs:List (Key×Value)} {i:Nat} {k:Key} {v:V},KV kvs vs->kvs[i]?=some (k,v)->∃v',vs[i]?=some (k,v')
 | _,_,0,k,v,.cons h _,e=>by
  cases (Option.some.inj e)
  exact⟨_,by rw [List.getElem?_cons_zero,show k=_ from h.1]⟩
 | _,_,i+1,k,v,.cons _ t,e=>by
  obtain⟨v',z⟩:=M6 (i:=i) (k:=k) (v:=v) t (by simpa using e)
  exact⟨v',by simpa using z⟩
theorem Rb {P:Program} {w:World} {K:PySem.W.Frag} {tg:Expr} {d it:Addr} {o:Obj} {kvs:List (Key×V)} {vs:List (Key×Value)} {ep:Nat} (rel:KV kvs vs) (hD:∀h:Heap,h.get? d=some o->h.DictAt (cD P w) d vs ep):
  Turn P w K tg (Zu d o kvs) [it] it (λi h=>h.IsKeyIter it d i vs.length ep) where
 mem:=by simp
 obj:=λi h st b hb=>by
  have e:b=it:=by simpa using hb
  subst e
  obtain⟨o,e,c,d⟩:=st
  exact⟨o,e,λv z=>by rw [d] at z;cases z⟩
 keep:=λi h h' st k=>st.at λo e=>k it (by simp) o e
 item:=by
  intro X hP hw hK hc i pins s σ H E I hf st hg
  subst hP hw hK
  obtain⟨hq,hi⟩:=hg
  obtain⟨f0,f1,f2,f3,f4,f5⟩:=hf it (by simp)
  have ho:s.heap.get? d=some o:=(I.hok d _ hq).1
  have hl:kvs.length=vs.length:=Paired.length rel
  obtain⟨k,v,ek⟩:∃k v,kvs[i]?=some (k,v):=⟨_,_,List.getElem?_eq_getElem hi⟩
  obtain⟨v',ev⟩:=M6 rel ek
  refine wpAny_pyNext_dict_item st (hD _ ho) ev λkey h' hk st' sb=>?_
  have I1:Inv X pins σ H { s with heap:=h' }:=I.turned (t':=s.toks) (λb o hb e=>(sb.2 b hb).trans e) f0 f1 f3 f4 f5
  obtain⟨o',e,c,dd⟩:=id st'
  exact⟨key,rfl,Ht (s:={ s with heap:=h' }) e c dd (by decide) ⟨kV k,H,I1,Te hk,⟨rfl,k,v,ek,rfl⟩,st',λb hb=>(hf b hb).1⟩⟩
 done:=by
  intro X hP hw hK hc i pins s σ H E I hf st hg
  subst hP hw hK
  obtain⟨hq,hi⟩:=hg
  obtain⟨f0,f1,f2,f3,f4,f5⟩:=hf it (by simp)
  have ho:s.heap.get? d=some o:=(I.hok d _ hq).1
  have hl:kvs.length=vs.length:=Paired.length rel
  exact wpAny_pyNext_dict_end (I.ok.hd hc) st (hD _ ho) (List.getElem?_eq_none (by omega)) λh' eb=>⟨rfl,I.turned (t':=s.toks) (λb o hb e=>eb b o hb e) f0 f1 f3 f4 f5⟩
 self:=λ_ _ _ _ _ st h=>wpAny_pyIter_keyiter st h
inductive U4 (R:It->Hp->Prop) (x:V) (H1:Hp):Prop where
 | mk:∀d kvs,x=.ref d->H1 d=some (.dK kvs)->(∀o,R (Zu d o kvs) (upd H1 d (.frz o (.dK kvs))))->U4 R x H1
noncomputable def ZP (td:TE):TI:=λσ H R=>td σ H λx H1=>U4 R x H1
theorem tY {X:Cx} {tg l:Expr} {td:TE} (hl:PE X l td):PI X tg l (ZP td):=by
 intro pins s σ H R I h
 refine dG (hl pins s σ H _ I h) λv s1 hpt=>?_
 obtain⟨x,H1,I1,r1,q1⟩:=hpt
 obtain⟨d,kvs,e,ed,q⟩:=q1
 subst e
 cases r1
 obtain⟨_,hd,vs,rel,o0,es,ep,ho0,r⟩:=(show fV X.prog X.w H1 s1.heap d (.dK kvs) from I1.hok d _ ed)
 obtain⟨o,ho,I2⟩:=I1.chill ed
 obtain rfl:o0=o:=Option.some.inj (ho0.symm.trans ho)
 have hD:∀h:Heap,h.get? d=some o0->h.DictAt (cD X.prog X.w) d vs ep:=λh z=>⟨o0,es,z,r⟩
 refine wpAny_pyIter_dict hd (hD _ ho) ?_
 refine⟨s1.heap.objs.size,[s1.heap.objs.size],_,_,_,rfl,I2.kept (t':=s1.toks) λb o e=>Heap.get?_push_of_some _ e,Rb rel hD,⟨_,Heap.get?_push_size _ rfl,rfl,rfl⟩,λb hb=>?_,q o0⟩
 have e:b=s1.heap.objs.size:=by simpa using hb
 subst e
 exact I2.fpOk (Nat.le_refl _) (I2.hok.fresh (Nat.le_refl _))
theorem qM {d:Addr} {o:Obj} {kvs:List (Key×V)} {g:TG} {tb:TS} {D:Ends} {σ:St} {H:Hp} (Pv:Nat->St->Hp->Prop) (h0:Pv 0 σ H) (hl:∀i σ H,i<=kvs.length->Pv i σ H->H d=some (.frz o (.dK kvs)))
  (hs:∀i k v σ H,kvs[i]?=some (k,v)->Pv i σ H->g (kV k) σ H λσ2 H2=>tb { D with nx:=Pv (i+1),ct:=Pv (i+1),bk:=D.nx } σ2 H2) (hd:∀σ H,Pv kvs.length σ H->D.nx σ H):
  ∃W:Nat->Nat->St->Hp->Prop,(∃m,W 0 m σ H)/\∀i m σ H,W i m σ H->
   ((Zu d o kvs).stop i H/\D.nx σ H)∨((Zu d o kvs).go i H/\∃N:St->Hp->Prop,(∀σ' H',N σ' H'->∃m',m' <m/\W (i+1) m' σ' H')/\∀x H',(Zu d o kvs).yld i H x H'->g x σ H' λσ2 H2=>tb { D with nx:=N,ct:=N,bk:=D.nx } σ2 H2):=by
 refine⟨λi m σ H=>m=kvs.length - i/\i<=kvs.length/\Pv i σ H,⟨kvs.length,by simp,Nat.zero_le _,h0⟩,?_⟩
 rintro i m σ H ⟨rfl,hi,p⟩
 have q:=hl i σ H hi p
 by_cases hlt:i <kvs.length
 ·refine .inr ⟨⟨q,hlt⟩,Pv (i+1),λσ' H' p'=>⟨kvs.length - (i+1),by omega,rfl,hlt,p'⟩,λx H' y=>?_⟩
  obtain⟨rfl,k,v,ek,rfl⟩:=y
  exact hs i k v σ _ ek p
 ·obtain rfl:i=kvs.length:=by omega
  exact .inl ⟨⟨q,Nat.le_refl _⟩,hd σ H p⟩
theorem Rf {js:List Nat} {tt:TT} {te:TE} {σ:St} {Qd:List V->Hp->Prop} {d:Addr} {o:Obj} {kvs:List (Key×V)} {H:Hp} (Pv:Nat->List V->Hp->Prop) (hn:kvs.length<=sizeLine) (h0:Pv 0 [] H) (hl:∀i ys H,Pv i ys H->ys.length<=i) (hq:∀i ys H,i<=kvs.length->Pv i ys H->H d=some (.frz o (.dK kvs)))
  (hs:∀i k v ys H,kvs[i]?=some (k,v)->Pv i ys H->tt (some (kV k):: dB σ js) H λb H4=>if b=true then te (some (kV k):: dB σ js) H4 λy H5=>Pv (i+1) (ys ++ [y]) H5 else Pv (i+1) ys H4)
  (hd:∀ys H,Pv kvs.length ys H->Qd ys H):CompEnd js tt te σ Qd (Zu d o kvs) H:=by
 refine⟨λi m ys H=>m=kvs.length - i/\i<=kvs.length/\Pv i ys H,⟨kvs.length,by simp,Nat.zero_le _,h0⟩,?_⟩
 rintro i m ys H ⟨rfl,hi,p⟩
 have hlen:=hl i ys H p
 have q:=hq i ys H hi p
 by_cases hlt:i <kvs.length
 ·refine .inr ⟨⟨q,hlt⟩,by omega,Pv (i+1),λys' H' p'=>⟨kvs.length - (i+1),by omega,rfl,hlt,p'⟩,λx H' y=>?_⟩
  obtain⟨rfl,k,v,ek,rfl⟩:=y
  exact hs i k v ys _ ek p
 ·obtain rfl:i=kvs.length:=by omega
  exact .inl ⟨⟨q,Nat.le_refl _⟩,by omega,hd ys H p⟩
theorem Bw:∀{xs:List V} {us:List Value},us.length=xs.length->(∀(j:Nat) x u,xs[j]?=some x->us[j]?=some u->RelV x u)->Vals xs us
 | [],[],_,_=>.nil
 | [],_:: _,h,_=>by simp at h
 | _:: _,[],h,_=>by simp at h
 | x:: xs,u:: us,h,r=>.cons (r 0 x u rfl rfl) (Bw (by simpa using h) λj y v h1 h2=>r (j+1) y v (by simpa using h1) (by simpa using h2))
theorem jx {X:Cx} (hc:X.calm=true):lK X (.type "list") (λxs H Q=>∃d kvs,xs=[.ref d]/\Rd H d (.dK kvs)/\∀l,H l=none->Q (.ref l) (upd H l (.lst (kvs.map λp=>kV p.1)))):=by
 intro pins s σ H xs us Q I rx h
 obtain⟨d,kvs,rfl,hr,q⟩:=h
 obtain⟨u,rfl,ru⟩:=vals1 rx
 cases ru
 obtain⟨z,hd,vs,rel,dd⟩:=BK I.hok hr
 obtain⟨ep,da⟩:=dd.dictAt
 have hl:kvs.length=vs.length:=Paired.length rel
 refine PySem.W.kdl_call (PySem.W.kdl_dict (knd:=cD X.prog X.w) (kvs:=vs) (ep:=ep) hd) (I.ok.hd hc) da (by omega) λh' tk acc' c' kp e' hi=>?_
 refine⟨.ref s.heap.objs.size,_,I.laid (t':=tk) kp (Nat.le_refl _) (show fV X.prog X.w _ h' _ (.lst (kvs.map λp=>kV p.1)) from⟨by rw [List.length_map];exact z,acc'.toList,c',Bw (by rw [Array.length_toList,hi.1,List.length_map,hl]) λj x u hx hu=>?_,by simpa using e'⟩),rfl,q _ (I.hok.fresh (Nat.le_refl _))⟩
 obtain⟨k,v,hkv,hk⟩:=hi.2 j u (by rw [<-Array.getElem?_toList];exact hu)
 rw [List.getElem?_map] at hx
 obtain⟨p,hp,rfl⟩:=Option.map_eq_some_iff.mp hx
 obtain⟨v',hv'⟩:=M6 rel (k:=p.1) (v:=p.2) hp
 rw [hkv] at hv'
 cases hv'
 exact Te hk
section
variable {X:Cx} {pins:List (Addr×Obj)} {σ:St} {H:Hp} {s:Shared}
end
section
variable {X:Cx} {tg:Expr}
end
theorem Bq (ns:List Int):∀n,n<=ns.length->preSum (λi=>ns.getD i 0) n=(ns.take n).sum
 | 0,_=>by simp [preSum]
 | n+1,h=>by
  have ih:=Bq ns n (by omega)
  have hn:n <ns.length:=by omega
  show preSum _ n+ns.getD n 0=_
  rw [ih,List.getD_eq_getElem?_getD,List.getElem?_eq_getElem hn,List.take_succ,List.getElem?_eq_getElem hn,List.sum_append]
  simp
theorem Fl {X:Cx} (hc:X.calm=true):lK X (.builtin "sum") (λxs H Q=>∃(p:Addr) (ns:List Int),xs=[.ref p]/\bI X.K H p (ns.map V.int)/\(∀n∈ns,0<=n/\n<=1000000)/\ns.length<=1000000/\Q (.int ns.sum) H):=by
 intro pins s σ H xs us Q I r h
 obtain⟨p,ns,rfl,hq,hb,hz,q⟩:=h
 obtain⟨u,rfl,rx⟩:=vals1 r
 cases rx
 obtain⟨its,rv,pl,_⟩:=I.list hq
 have hl:=pl.isList
 have hlen:ns.length=its.length:=by have:=rv.length;rw [List.length_map] at this;exact this
 have hlt:p <s.heap.objs.size:=by obtain⟨_,e,_⟩:=hl;exact Heap.lt_size e
 have hv:∀i v,its[i]?=some v->∃t,v=Value.int (ns.getD i 0) t:=λi v e=>by
  have hi:i <its.length:=(List.getElem?_eq_some_iff.mp e).1
  have hi':i <ns.length:=by omega
  obtain⟨u,e',r'⟩:=rv.get (i:=i) (x:=.int ns[i]) (by rw [List.getElem?_map,List.getElem?_eq_getElem hi'];rfl)
  rw [e] at e'
  cases e'
  obtain⟨t,rfl⟩:=r'
  exact⟨t,by rw [List.getD_eq_getElem?_getD,List.getElem?_eq_getElem hi'];rfl⟩
 have bound:∀n,n<=ns.length->0<=preSum (λi=>ns.getD i 0) n/\preSum (λi=>ns.getD i 0) n<=(n:Int) * 1000000:=by
  intro n
  induction n with
  | zero=>intro _;simp [preSum]
  | succ n ih=>
   intro h
   obtain⟨h1,h2⟩:=ih (by omega)
   have hn:n <ns.length:=by omega
   have e:ns.getD n 0=ns[n]:=by rw [List.getD_eq_getElem?_getD,List.getElem?_eq_getElem hn];rfl
   obtain⟨b1,b2⟩:=hb ns[n] (List.getElem_mem hn)
   show 0<=preSum _ n+ns.getD n 0/\preSum _ n+ns.getD n 0<=_
   rw [e]
   have:((n+1:Nat):Int) * 1000000=(n:Int) * 1000000+1000000:=by rw [Int.natCast_add,Int.add_mul];rfl
   omega
 refine call_sum_walk (wpAny_pyIter_list hl ?_)
 refine⟨s.heap.objs.size,[s.heap.objs.size,p],[s.heap.objs.size],its.toArray.size,_,_,λi=>ns.getD i 0,rfl,Walks.list (A:=X.A.in1) (I.ok.hd hc) _ p (Nat.ne_of_lt hlt) its.toArray,
  ⟨⟨_,Heap.get?_push_size _ rfl,rfl,rfl⟩,hl.push _⟩,λb hb=>?_,λi v hP=>hv i v (by simpa using hP),λj hj=>?_,λh' tk t' hk=>?_⟩
 ·rw [Heap.size_push]
  rcases List.mem_cons.mp hb with rfl | hb
  ·exact Nat.lt_succ_self _
  ·have:b=p:=by simpa using hb
   subst this
   exact Nat.lt_succ_of_lt hlt
 ·have hj':j <ns.length:=by rw [List.size_toArray] at hj;omega
  have e:ns.getD j 0=ns[j]:=by rw [List.getD_eq_getElem?_getD,List.getElem?_eq_getElem hj'];rfl
  obtain⟨b1,b2⟩:=hb ns[j] (List.getElem_mem hj')
  obtain⟨c1,c2⟩:=bound (j+1) (by omega)
  have c3:((j+1:Nat):Int) * 1000000<=1000000 * 1000000:=Int.mul_le_mul_of_nonneg_right (by omega) (by decide)
  refine⟨?_,?_⟩
  ·show InLong (ns.getD j 0)
   rw [e]
   unfold InLong
   omega
  ·unfold InLong
   omega
 ·rw [List.size_toArray,<-hlen,Bq ns _ (Nat.le_refl _),List.take_length]
  exact⟨.int _,H,I.kept (LSm.kept_iter hk),⟨_,rfl⟩,q⟩
theorem iU.u1 {k:Nat} {A:Around} (r:iU k A):A.units+1 <cLine:=by have:=r.units;omega
theorem MJ:bootBuiltins "sum" =some (.builtin "sum"):=by decide +kernel
section
variable {prog:Program} {w:World} {A:Around} {E:Value->Shared->Prop} {s:Shared}
end
theorem JL {X:Cx} {K:PySem.W.Frag} {e:Expr} {f:Str} {pos:Pos} {ta:TE} (hK:X.K=K) (he:PE X e ta) (hb:attributeBase e f X.env (eval e X.env)=eval e X.env):PE X (.Attribute e f pos) (ZV K ta f):=by subst hK;exact aZ he hb
theorem xK {X:Cx} {K:PySem.W.Frag} (hK:X.K=K):yJ X (compareOp .NotIn) (rIn K true):=by subst hK;exact gA
section
variable {X:Cx} {P:Program} {w:World} {K:PySem.W.Frag} {mg:Str->Option Value} {base:Heap} {CX:Hu} {k:Nat} {E:XK} {m:Str} {pos apos:Pos} {e o:Expr} {es:List Expr} {ta:TE} {t:TA}
theorem M4 {pl:Sem Bool} (hP:X.prog=P) (hw:X.w=w) (hK:X.K=K) (hm:X.mg=mg) (hb:X.base=base) (he:PE X o ta) (hr:iU k X.A) (hx:qz CX X E)
  (ht:eval (.Call (.Attribute o m apos) [] [] pos) X.env=(do
   let ov <-eval o X.env
   standAt apos.atName
   let (f,first) <-holding [ov] (getMethod ov m pl)
   callWith pos f first (backTo pos (starEach [] X.env)) (backToKw pos (keywordEach [] X.env))):=by rfl):
  PE X (.Call (.Attribute o m apos) [] [] pos) (Mu P w K mg base CX k m E ta Vl):=by
 subst hP hw hK hm hb
 exact Aj he hr hx ht
end
section
variable {prog:Program} {w:World} {A:Around} {R:Result->Shared->Prop} {s:Shared}
theorem Z1 {elt tg iter:Expr} {ifs:List Expr} {scope:Scope} {pos:Pos} {it acc:Value} {env:Env} (J:Nat->Shared->Prop)
  (turn:∀k s1,J k s1->wpAny (model prog w) A (pyNext it) (λr s2=>match r with
   | none=>R (.ok .next) s2
   | some v=>wpAny (model prog w) A (letOwnedTupleGo tg it v) (λ_ s3=>wpAny (model prog w) A (assign tg env v) (λ_ s4=>
     wpAny (model prog w) A (forIn ifs true λc r=>if r=true then do let ok <-isTrue c env (eval c env);pure (ForInStep.yield ok) else pure (ForInStep.yield r)) (λok s5=>
      if ok=true then wpAny (model prog w) A (eval elt env) (λy s6=>wpAny (model prog w) A (call (.builtin "list.append") [acc,y]) (λ_ s7=>∃m,m <k/\J m s7) (notedBy (model prog w) A env λe s'=>R (.error e) s') s6)
       (notedBy (model prog w) A env λe s'=>R (.error e) s') s5
      else ∃m,m <k/\J m s5) (notedBy (model prog w) A env λe s'=>R (.error e) s') s4) (notedBy (model prog w) A env λe s'=>R (.error e) s') s3) (notedBy (model prog w) A env λe s'=>R (.error e) s') s2)
   (notedBy (model prog w) A env λe s'=>R (.error e) s') s1)
  (k:Nat) (h:J k s):codeAny (model prog w) A (.compLoop (.ListComp elt [⟨tg,iter,ifs,0⟩] scope pos) 0 it acc env) R s:=by
 refine codeAny_loop rfl J (λk s1 hJ=>?_) k h
 show wpAny _ A ((compTurn (.ListComp elt [⟨tg,iter,ifs,0⟩] scope pos) 0 it acc env).onRaise (λe=>do noteFrame e env;theTreesLotGoes e)) _ _ s1
 refine wpAny_noted ?_
 rw [compTurn_list]
 refine wpAny_bind (wpAny_standAt (wpAny_bind (wpAny_mono (turn k s1 hJ) (λr s2 h2=>?_) λ_ _ z=>z)))
 cases r with
 | none=>exact wpAny_pure h2
 | some v=>
  refine wpAny_bind (wpAny_mono h2 (λ_ s3 h3=>wpAny_bind (wpAny_mono h3 (λ_ s4 h4=>wpAny_bind (wpAny_mono h4 (λok s5 h5=>?_) λ_ _ z=>z)) λ_ _ z=>z)) λ_ _ z=>z)
  cases ok with
  | false=>exact wpAny_pure ⟨rfl,h5⟩
  | true=>exact wpAny_bind (wpAny_bind (wpAny_mono h5 (λy s6 h6=>wpAny_bind (wpAny_mono h6 (λ_ s7 h7=>wpAny_pure (wpAny_pure ⟨rfl,h7⟩)) λ_ _ z=>z)) λ_ _ z=>z))
end
section
variable {X:Cx} {tg:Expr} {g:TG} {pos:Pos} {iter elt:Expr} {ifs:List Expr} {scope:Scope} {wi:TI} {tt:TT} {te:TE}
end
theorem Rm {X:Cx} (hc:X.calm=true):lK X (.builtin "min") (λxs H Q=>∃(p:Addr) (a b:Int),xs=[.ref p]/\bI X.K H p [.int a,.int b]/\Q (.int (if b <a then b else a)) H):=by
 intro pins s σ H xs us Q I r h
 obtain⟨p,a,b,rfl,hq,q⟩:=h
 obtain⟨u,rfl,rx⟩:=vals1 r
 cases rx
 obtain⟨its,rv,pl,_⟩:=I.list hq
 obtain⟨v1,v2,rfl,⟨t1,rfl⟩,⟨t2,rfl⟩⟩:=vals2 rv
 have hl:s.heap.IsList p (intItems #[(a,t1),(b,t2)]):=by simpa [intItems] using pl.isList
 refine min_intList (I.ok.hd hc) hl (by simp) λv h' tk hv hk=>?_
 obtain⟨t,rfl⟩:=intItems_at hv
 obtain⟨h1,h2⟩:=argBest_lt (numAt #[(a,t1),(b,t2)]) (#[(a,t1),(b,t2)].size - 1)
 have h1':argBest (λi j=>decide (numAt #[(a,t1),(b,t2)] i <numAt #[(a,t1),(b,t2)] j)) (#[(a,t1),(b,t2)].size - 1)<=1:=h1
 have ha:_<=a:=h2 0 (Nat.zero_le _)
 have hb:_<=b:=h2 1 (by simp)
 generalize argBest (λi j=>decide (numAt #[(a,t1),(b,t2)] i <numAt #[(a,t1),(b,t2)] j)) (#[(a,t1),(b,t2)].size - 1)=k at h1' ha hb ⊢
 refine⟨.int (numAt #[(a,t1),(b,t2)] k),H,I.kept hk,⟨_,rfl⟩,?_⟩
 have e:numAt #[(a,t1),(b,t2)] k=if b <a then b else a:=by
  match k,h1',ha,hb with
  | 0,_,_,hb=>
   have hb':a<=b:=hb
   rw [if_neg (by omega)];rfl
  | 1,_,ha,_=>
   have ha':b<=a:=ha
   show b=_
   by_cases z:b <a
   ·rw [if_pos z]
   ·rw [if_neg z];omega
 rw [e]
 exact q
theorem QS {X:Cx} (hc:X.calm=true):lK X (.builtin "max") (λxs H Q=>∃(p:Addr) (a b:Int),xs=[.ref p]/\bI X.K H p [.int a,.int b]/\Q (.int (if b <a then a else b)) H):=by
 intro pins s σ H xs us Q I r h
 obtain⟨p,a,b,rfl,hq,q⟩:=h
 obtain⟨u,rfl,rx⟩:=vals1 r
 cases rx
 obtain⟨its,rv,pl,_⟩:=I.list hq
 obtain⟨v1,v2,rfl,⟨t1,rfl⟩,⟨t2,rfl⟩⟩:=vals2 rv
 have hl:s.heap.IsList p (intItems #[(a,t1),(b,t2)]):=by simpa [intItems] using pl.isList
 refine max_intList (I.ok.hd hc) hl (by simp) λv h' tk hv hk=>?_
 obtain⟨t,rfl⟩:=intItems_at hv
 obtain⟨h1,h2⟩:=argBest_gt (numAt #[(a,t1),(b,t2)]) (#[(a,t1),(b,t2)].size - 1)
 have h1':argBest (λi j=>decide (numAt #[(a,t1),(b,t2)] i >numAt #[(a,t1),(b,t2)] j)) (#[(a,t1),(b,t2)].size - 1)<=1:=h1
 have ha:a<=_:=h2 0 (Nat.zero_le _)
 have hb:b<=_:=h2 1 (by simp)
 generalize argBest (λi j=>decide (numAt #[(a,t1),(b,t2)] i >numAt #[(a,t1),(b,t2)] j)) (#[(a,t1),(b,t2)].size - 1)=k at h1' ha hb ⊢
 refine⟨.int (numAt #[(a,t1),(b,t2)] k),H,I.kept hk,⟨_,rfl⟩,?_⟩
 have e:numAt #[(a,t1),(b,t2)] k=if b <a then a else b:=by
  match k,h1',ha,hb with
  | 0,_,_,hb=>
   have hb':b<=a:=hb
   show a=_
   by_cases z:b <a
   ·rw [if_pos z]
   ·rw [if_neg z];omega
  | 1,_,ha,_=>
   have ha':a<=b:=ha
   rw [if_neg (by omega)];rfl
 rw [e]
 exact q
theorem Px {X:Cx} {K:PySem.W.Frag} {es:List Expr} {k:Nat} {pos:Pos} {t:Vo} {n:Nat} (hK:X.K=K) (hc:X.calm=true) (h:PGs X es t)
  (hn:(assignEach es X.env).length=n:=by rfl) (hst:(assignEach es X.env).findIdx? (·.1)=none:=by rfl):PG X (.Tuple es k pos) (aao K n t):=by
 subst hK
 exact Ay hc h hn hst
noncomputable def j8 (X:Cx) (scope:Scope) (xs:List Str) (js:List Nat) (cl:List (Str×Addr)) (C:Addr) (s:Shared) (H:Hp) (ex:List Addr):Cx where
 prog:=X.prog
 w:=X.w
 K:=X.K
 mg:=X.mg
 base:=X.base
 A:=X.A
 N:=xs ++ dg X.N js
 s₀:=s
 H₀:=H
 env:=compEnvC scope cl C X.env
 outer:=X.stack
 stack:=X.stack
 ex:=ex
 fn:=λ_=>false
 calm:=X.calm
 pn:=[]
 xe:=λ_ _=>False
noncomputable def Ep (xs:List Str) (js:List Nat) (σ:St) (g:TG) (tt:TT) (te:TE) (Qd:List V->Hp->Prop) (J:It) (H1:Hp):Prop:=∃W:Nat->Nat->List V->Hp->Prop,(∃m,W 0 m [] H1)/\∀i m ys H2,W i m ys H2->
 (J.stop i H2/\ys.length<=sizeLine/\Qd ys H2)∨
 (J.go i H2/\ys.length <sizeLine/\∃N:List V->Hp->Prop,(∀ys' H',N ys' H'->∃m',m' <m/\W (i+1) m' ys' H')/\∀x H3,J.yld i H2 x H3->g x ((xs.map λ_=>none) ++ dB σ js) H3 λσ2 H4=>σ2.drop xs.length=dB σ js/\tt σ2 H4 λb H5=>
  if b=true then te σ2 H5 λy H6=>N (ys ++ [y]) H6 else N ys H5)
noncomputable def Ur (xs:List Str) (js:List Nat) (wi:TI) (g:TG) (tt:TT) (te:TE):TE:=λσ H Q=>wi σ H (Ep xs js σ g tt te λys H2=>∀D,H2 D=none->Q (.ref D) (upd H2 D (.lst ys)))
section
variable {X:Cx} {tg:Expr} {g:TG} {pos:Pos} {iter elt:Expr} {ifs:List Expr} {scope:Scope} {wi:TI} {tt:TT} {te:TE}
theorem uU (xs:List Str) (js:List Nat) {pins:List (Addr×Obj)} {σ:St} {s:Shared} {itv:Value} {Q:List V->Hp->Prop} {RR:Value->Addr->Result->Shared->Prop} {E:Value->Shared->Prop}
  (hc:X.calm=true) (hk:scope.kind=.function) (hcell:∀y∈scope.names,y.2≠.cell)
  (hfree:∀y∈scope.names,y.2=.free->X.env.kindOf y.1=some .cell∨X.env.kindOf y.1=some .free)
  (hg:∀cl C s H ex,PG (j8 X scope xs js cl C s H ex) tg g)
  (hif:∀cl C s H ex,PF (j8 X scope xs js cl C s H ex) ifs tt) (he:∀cl C s H ex,PE (j8 X scope xs js cl C s H ex) elt te)
  (hjs:∀y∈dg X.N js,scope.names.lookup y=some .free) (hit:PIE X pins σ tg (Ep xs js σ g tt te Q) itv s)
  (hR:∀D C s' H2 ys m,Inv X pins σ (upd H2 D (.lst ys)) s'->H2 D=none->s'.heap.Ns C m->(∀h',Heap.SameBut C s'.heap h'->Inv X pins σ (upd H2 D (.lst ys)) { s' with heap:=h' })->Js X pins (upd H2 D (.lst ys)) C->C≠D->Q ys H2->RR (.ref D) C (.ok .next) s'):
  wpAny (model X.prog X.w) X.A (newList []) (λacc s₃=>wpAny (model X.prog X.w) X.A (newFunctionEnv scope X.env.globals (clos X.env scope.names []) [] X.env.qual none .none (some X.env)) (λcenv s₄=>
   codeAny (model X.prog X.w) X.A (.compStart (.ListComp elt [⟨tg,iter,ifs,0⟩] scope pos) 0 itv acc { cenv with scope:=relabel scope X.env }) (RR acc cenv.locals) s₄) E s₃) E s:=by
 obtain⟨it,fp,tn,J,H1,rfl,I1,T,st1,f1,W,⟨m0,w0⟩,turn⟩:=hit
 refine wpAny_newObj_type (wpAny_newFunctionEnv hcell (by intro y hy;simp at hy) (λh₁ hns₁ hsb₁=>?_) hk)
 dsimp only at hns₁ hsb₁ ⊢
 generalize hH2:s.heap.push { cls:=.type "list",dict:=none,data:=.seq ([]:List Value).toArray }=Hl at hns₁ hsb₁ ⊢
 generalize hDe:s.heap.objs.size=D
 have hCe:Hl.objs.size=D+1:=by rw [<-hH2,Heap.size_push,hDe]
 generalize hC:Hl.objs.size=C at hns₁ hsb₁ hCe ⊢
 subst hCe
 have hDC:D≠D+1:=Nat.ne_of_lt (Nat.lt_succ_self _)
 have lt:∀b o,s.heap.get? b=some o->b <D:=λb o e=>hDe ▸ Heap.lt_size e
 have old:∀b o,s.heap.get? b=some o->h₁.get? b=some o:=λb o e=>by
  have hb:=lt b o e
  refine hsb₁.extBut b o (Nat.ne_of_lt (Nat.lt_succ_of_lt hb)) (Heap.get?_push_of_some _ ?_)
  rw [<-hH2];exact Heap.get?_push_of_some _ e
 have accD:h₁.get? D=some { cls:=.type "list",dict:=none,data:=.seq ([]:List Value).toArray }:=by
  refine hsb₁.extBut _ _ hDC (Heap.get?_push_of_some _ ?_)
  rw [<-hH2,<-hDe];exact Heap.get?_push_size _ rfl
 have fresh:∀a,D<=a->H1 a=none:=λa ha=>I1.hok.fresh (by rw [hDe];exact ha)
 have fpD:∀b∈fp,b <D:=λb hb=>by
  obtain⟨o,e,_⟩:=T.obj 0 s.heap st1 b hb
  exact lt b o e
 have cellD:∀y c,X.env.cells.lookup y=some c->c <D:=λy c e=>by
  obtain⟨v,q⟩:=I1.cell y c e
  exact hDe ▸ q.lt
 generalize hcl:clos X.env scope.names []=cl
 have clsub:∀y c,cl.lookup y=some c->X.env.cells.lookup y=some c:=by
  rw [<-hcl];exact Km scope.names [] λy a e=>by simp at e
 have frD:∀b∈frs X.stack,b <D:=λb hb=>by
  obtain⟨_,o,ho,_⟩:=I1.stack.mem hb
  exact lt b o ho
 let Y:Cx:=j8 X scope xs js cl (D+1) s H1 fp
 have kinds:∀y,Y.env.kindOf y=some .cell∨Y.env.kindOf y=some .free->∃k∈scope.names,k.1=y/\k.2=.free:=λy hy=>by
  have hy':(relabel scope X.env).names.lookup y=some .cell∨(relabel scope X.env).names.lookup y=some .free:=hy
  rw [uP] at hy'
  cases q:scope.names.lookup y with
  | none=>rw [q] at hy';simp at hy'
  | some k=>
   have hm:=PySem.mem_of_lookup q
   refine⟨(y,k),hm,rfl,?_⟩
   have h1:k≠.cell:=hcell _ hm
   rw [q] at hy'
   simp only [Option.map_some,Option.some.injEq] at hy'
   by_cases hkf:k=.free
   ·exact hkf
   ·have:(k == NameKind.free)=false:=by simpa using hkf
    simp only [this,Bool.false_and,Bool.false_eq_true,if_false] at hy'
    rcases hy' with e | e
    ·exact absurd e h1
    ·exact absurd e hkf
 have okY:Y.Ok:=by
  refine⟨I1.ok.mod,hk,I1.ok.glob,I1.ok.blt,(by show s.heap.objs.size<=D+1;rw [hDe];exact Nat.le_succ _),λy z c h1 h2=>I1.ok.inj y z c (clsub y c h1) (clsub z c h2),λy hy=>?_,λy c h _=>absurd h (by show ¬(false=true);decide),I1.ok.hd,I1.ok.frames,.inl rfl,λb hb=>⟨Nat.ne_of_lt (Nat.lt_succ_of_lt (fpD b hb)),λy c e z=>(f1 b hb).2.2.2.2.1 y c (clsub y c e) z⟩,
   λb o e=>I1.bs b o e,Nat.le_trans I1.ok.bsz I1.sz,λb o e hb=>?_,λb hb hf=>?_,I1.stack,I1.stkFree⟩
  ·obtain⟨k,hm,e1,e2⟩:=kinds y hy
   show ∃c,cl.lookup y=some c
   rw [<-hcl]
   refine DY scope.names [] y (.inr ⟨k,hm,e1,e2,?_⟩)
   have:=hfree k hm e2
   rw [e1] at this
   exact I1.ok.has y this
  ·obtain⟨_,_,_,h4,_,_⟩:=f1 b hb
   rcases h4 with z | z
   ·exact I1.ok.noex b o e z
   ·exact absurd (Nat.lt_of_lt_of_le (Heap.lt_size e) (Nat.le_trans I1.ok.bsz z)) (Nat.lt_irrefl _)
  ·rcases List.mem_cons.mp (I1.stkSub b hf) with z | z
   ·exact(f1 b hb).2.1 z
   ·exact(f1 b hb).2.2.1 z
 let σ0:St:=(xs.map λ_=>none) ++ dB σ js
 have IY:Inv Y [] σ0 H1 { s with heap:=h₁,toks:=s.toks+([]:List (Str×Value)).length }:=by
  refine⟨okY,rfl,I1.bare,Un.kept old,⟨_,hns₁,λi y v e1 e2 e3=>?_⟩,λy c e=>?_,fresh _ (Nat.le_succ _),λy c e=>I1.freeC y c (clsub y c e),λp hp=>absurd (show p∈([]:List (Addr×Obj)) from hp) (by simp),I1.hok.kept old,?_⟩
  ·by_cases hi:i <xs.length
   ·exfalso
    have e2':((xs.map λ_=>(none:Option V)) ++ dB σ js)[i]?=some (some v):=e2
    rw [List.getElem?_append_left (by rw [List.length_map];exact hi),List.getElem?_map,List.getElem?_eq_getElem hi] at e2'
    cases e2'
   ·have e1':(xs ++ dg X.N js)[i]?=some y:=e1
    have e2':((xs.map λ_=>(none:Option V)) ++ dB σ js)[i]?=some (some v):=e2
    rw [List.getElem?_append_right (by omega)] at e1'
    rw [List.getElem?_append_right (by rw [List.length_map];omega),List.length_map] at e2'
    generalize i - xs.length=i at e1' e2'
    unfold dg at e1'
    unfold dB at e2'
    rw [List.getElem?_map] at e1' e2'
    cases q:js[i]? with
    | none=>rw [q] at e1';cases e1'
    | some j=>
     rw [q] at e1' e2'
     simp only [Option.map_some,Option.some.injEq] at e1' e2'
     have hv:σ[j]?=some (some v):=by
      cases z:σ[j]? with
      | none=>rw [z] at e2';cases e2'
      | some w=>rw [z] at e2';simpa using e2'
     have hj:j <X.N.length:=by
      rw [<-I1.len];exact(List.getElem?_eq_some_iff.mp hv).1
     have hy:X.N[j]?=some y:=by
      rw [List.getElem?_eq_getElem hj] at e1' ⊢
      rw [<-e1'];rfl
     obtain⟨m,hn,hl⟩:=I1.loc
     have hmem:y∈dg X.N js:=List.mem_map.mpr ⟨j,List.mem_of_getElem? q,by rw [hy];rfl⟩
     have hfr:=hjs y hmem
     have hkx:=hfree _ (PySem.mem_of_lookup hfr) rfl
     have hvis:Vis X.env.scope y:=hkx.elim (λz=>.inr (.inl z)) λz=>.inr (.inr z)
     obtain⟨u,r,l⟩:=hl j y v hy hv hvis
     refine⟨u,r,?_⟩
     rcases l with ⟨kl,_⟩ | ⟨_,c,hc1,z⟩
     ·exfalso
      have kl':X.env.kindOf y=some .local:=kl
      rcases hkx with w | w <;> · rw [show X.env.kindOf y=_ from w] at kl';cases kl'
     ·obtain⟨c',hc'⟩:=DY (env:=X.env) scope.names [] y (.inr ⟨_,PySem.mem_of_lookup hfr,rfl,rfl,c,hc1⟩)
      rw [hcl] at hc'
      have e4:=clsub y c' hc'
      rw [hc1] at e4
      cases e4
      obtain⟨o,ho,hd⟩:=z
      refine .inr ⟨?_,c,hc',o,old c o ho,hd⟩
      rcases e3 with e3 | e3 | e3
      ·exfalso
       have e3':(relabel scope X.env).names.lookup y=some .local:=e3
       rw [uP,hfr] at e3'
       simp only [Option.map_some,Option.some.injEq] at e3'
       split at e3' <;> cases e3'
      ·exact .inl e3
      ·exact .inr e3
  ·obtain⟨v,q⟩:=I1.cell y c (clsub y c e)
   obtain⟨o,ho,hd⟩:=q
   exact⟨v,o,old c o ho,hd⟩
  ·show((xs.map λ_=>(none:Option V)) ++ dB σ js).length=(xs ++ dg X.N js).length
   unfold dB dg
   rw [List.length_append,List.length_append,List.length_map,List.length_map,List.length_map]
 have mkR:∀(s':Shared) (H2:Hp) (ys:List V) (its:List Value) (σ':St),Inv Y [] σ' H2 s'->s'.heap.PlainList D its.toArray->Vals ys its->ys.length<=sizeLine->H2 D=none->Q ys H2->RR (.ref D) (D+1) (.ok .next) s':=by
  intro s' H2 ys its σ' I' pl rv hz hD hq
  obtain⟨m,hn,_⟩:=I'.loc
  have hn':s'.heap.Ns (D+1) m:=hn
  have hCn:H2 (D+1)=none:=I'.free
  have hch:∀b∈fp,(b∈X.ex∨X.s₀.heap.objs.size<=b)/\b≠X.env.locals/\(∀x c,X.env.cells.lookup x=some c->c≠b)/\∀p∈X.pn ++ pins,p.1≠b:=λb hb=>by
   obtain⟨_,h2,_,h4,h5,h6⟩:=f1 b hb
   exact⟨h4,h2,h5,h6⟩
  have bs:Un (frs X.stack) fp H1 H2 s.heap s'.heap:=I'.base
  have all:∀h',Heap.SameBut (D+1) s'.heap h'->Inv X pins σ (upd H2 D (.lst ys)) { s' with heap:=h' }:=λh' sb=>by
   have neD:∀b o,s.heap.get? b=some o->b≠D:=λb o e=>Nat.ne_of_lt (lt b o e)
   have neC:∀b o,s.heap.get? b=some o->b≠D+1:=λb o e=>Nat.ne_of_lt (Nat.lt_succ_of_lt (lt b o e))
   refine I1.call' (s':={ s' with heap:=h' }) (ch:=fp) I'.os ⟨λb o e n hb hx=>?_,λb o e n hb hx=>?_,λb o e n hx=>?_,λb o e hx=>?_,λb xs e=>?_,λb o u e=>?_,λb ps e=>?_⟩ ?_ I'.bare hch
   ·exact(sb.2 b (neC b o e)).trans (bs.keep b o e n hb hx)
   ·obtain⟨sl,q⟩:=bs.slot b o e n hb hx
    exact⟨sl,(sb.2 b (neC b o e)).trans q⟩
   ·rw [aJ (neD b o e)];exact bs.free b o e n hx
   ·obtain⟨o',q⟩:=bs.there b o e hx
    exact⟨o',(sb.2 b (neC b o e)).trans q⟩
   ·have:=bs.tups b xs e
    rw [aJ (aC this hD)];exact this
   ·have:=bs.frzs b o u e
    rw [aJ (aC this hD)];exact this
   ·obtain⟨more,q⟩:=bs.tbls b ps e
    exact⟨more,by rw [aJ (aC q hD)];exact q⟩
   ·have h0:xg X.prog X.w H2 h':=λb u e=>(I'.hok b u e).stay (λc v hc q=>(sb.2 c (by
     rintro rfl
     rcases hc with z | z
     ·rw [z,e] at hCn;cases hCn
     ·rw [z] at hCn;cases hCn)).trans q) (λ_ q=>q) λ_ _ q=>q
    refine Qm h0 hD ?_
    obtain⟨n,e⟩:=pl
    exact⟨hz,its,n,rv,(sb.2 D hDC).trans e⟩
  have hall:=all s'.heap (.refl ..)
  refine hR D (D+1) s' H2 ys m hall hD hn' all ?_ hDC.symm hq
  refine⟨by rw [aJ hDC.symm];exact hCn,?_,?_,.inr (Nat.le_trans I1.sz (by rw [hDe];exact Nat.le_succ _)),λy c e z=>?_,λp hp z=>?_⟩
  ·exact Nat.ne_of_gt (Nat.lt_trans (hDe ▸ I1.lt) (Nat.lt_succ_self _))
  ·exact I1.nofs (by rw [hDe];exact Nat.le_succ _)
  ·exact absurd z (Nat.ne_of_lt (Nat.lt_succ_of_lt (cellD y c e)))
  ·exact absurd z (Nat.ne_of_lt (Nat.lt_succ_of_lt (lt _ _ (I1.pin p hp).1)))
 have loop:∀s₃:Shared,s₃={ s with heap:=h₁,toks:=s.toks+([]:List (Str×Value)).length }->
   codeAny (model X.prog X.w) X.A (.compLoop (.ListComp elt [⟨tg,iter,ifs,0⟩] scope pos) 0 (.ref it) (.ref D) Y.env) (RR (.ref D) (D+1)) s₃:=by
  rintro s₃ rfl
  have stat:∀{H':Hp} {ob:Obj},(∀b∈fp,H' b=none)->∀b∈fp,Js Y [(D,ob)] H' b:=λ{H'} {ob} hn b hb=>by
   refine⟨hn b hb,Nat.ne_of_lt (Nat.lt_succ_of_lt (fpD b hb)),λhf=>okY.exfs b hb hf,.inl hb,λy c e=>(okY.exf b hb).2 y c e,λp hp z=>?_⟩
   have hp':p∈[(D,ob)]:=hp
   have e:p=(D,ob):=by simpa using hp'
   rw [e] at z
   exact absurd z (Ne.symm (Nat.ne_of_lt (fpD b hb)))
  refine Z1 (λn s'=>∃i ys its H',∃ob:Obj,Inv Y [(D,ob)] σ0 H' s'/\(∃n,ob={ cls:=.type "list",data:=.seq its.toArray n })/\Vals ys its/\H' D=none/\tn i s'.heap/\(∀b∈fp,H' b=none)/\W i n ys H') ?_ m0
   ⟨0,[],[],H1,{ cls:=.type "list",dict:=none,data:=.seq ([]:List Value).toArray },?_,⟨_,rfl⟩,.nil,fresh _ (Nat.le_refl _),T.keep _ _ _ st1 λb _ o e=>old b o e,λb hb=>(f1 b hb).1,w0⟩
  ·rintro n s3 ⟨i,ys,its,H3,ob,I3,⟨cap,rfl⟩,rv,hD,st3,fr3,w3⟩
   rcases turn i n ys H3 w3 with ⟨stop,hz,hq⟩ | ⟨go,hz,N,hN7,step⟩
   ·refine wpAny_mono (T.done Y rfl rfl rfl hc i _ s3 σ0 H3 (λ_ _=>False) I3 (stat fr3) st3 stop) (λr s4 ⟨hr,I4⟩=>?_) λ_ _ f=>f.elim
    subst hr
    exact mkR s4 H3 ys its σ0 (I4.pins_of λp hp=>absurd hp (by simp)) ⟨cap,(I4.pin _ (List.mem_append_right _ List.mem_cons_self)).1⟩ rv hz hD hq
   ·refine wpAny_mono (T.item Y rfl rfl rfl hc i _ s3 σ0 H3 (λ_ _=>False) I3 (stat fr3) st3 go) (λr s4 ⟨u,hr,h4⟩=>?_) λ_ _ f=>f.elim
    subst hr
    refine wpAny_mono h4 (λ_ s4 ⟨xv,H5,I5,r5,y5,st5,fr5⟩=>?_) λ_ _ f=>f.elim
    have I5':=I5.pinned (stat fr5) (T.obj _ _ st5)
    refine wpAny_mono (hg cl (D+1) s H1 fp _ _ σ0 H5 xv u _ I5' r5 (step xv H5 y5)) (λ_ s6 ⟨σ6,H6,I6,hσ6,q6⟩=>?_) λ_ _ f=>False.elim f
    have again:∀{s7:Shared} {H7:Hp} {ys7:List V} {its7:List Value} {cap7:Nat} {pl:List (Addr×Obj)},Inv Y ([(D,{ cls:=.type "list",data:=.seq its7.toArray cap7 })] ++ pl) σ6 H7 s7->(∀b∈fp,∀o,s4.heap.get? b=some o->s7.heap.get? b=some o/\H7 b=none)->Vals ys7 its7->(∃m',m' <n/\W (i+1) m' ys7 H7)->
      ∃m,m <n/\∃i ys its H',∃ob:Obj,Inv Y [(D,ob)] σ0 H' s7/\(∃n,ob={ cls:=.type "list",data:=.seq its.toArray n })/\Vals ys its/\H' D=none/\tn i s7.heap/\(∀b∈fp,H' b=none)/\W i m ys H':=by
     intro s7 H7 ys7 its7 cap7 pl I7 kf rv7 ⟨m',hm,w7⟩
     refine⟨m',hm,i+1,ys7,its7,H7,_,I7.unpinned.weak (by rw [I7.len];show((xs.map λ_=>(none:Option V)) ++ dB σ js).length=(xs ++ dg X.N js).length;unfold dB dg;rw [List.length_append,List.length_append,List.length_map,List.length_map,List.length_map]) λj v e=>?_,⟨cap7,rfl⟩,rv7,(I7.pin _ (List.mem_append_right _ (List.mem_append_left _ List.mem_cons_self))).2.1,T.keep _ _ _ st5 λb hb o e=>(kf b hb o e).1,λb hb=>?_,w7⟩
     ·have e':((xs.map λ_=>(none:Option V)) ++ dB σ js)[j]?=some (some v):=e
      by_cases hj:j <xs.length
      ·exfalso
       rw [List.getElem?_append_left (by rw [List.length_map];exact hj),List.getElem?_map,List.getElem?_eq_getElem hj] at e'
       cases e'
      ·rw [List.getElem?_append_right (by rw [List.length_map];omega),List.length_map,<-hσ6,List.getElem?_drop] at e'
       rw [show xs.length+(j - xs.length)=j by omega] at e'
       exact e'
     ·obtain⟨o,e,_⟩:=T.obj _ _ st5 b hb
      exact(kf b hb o e).2
    refine wpAny_mono (hif cl (D+1) s H1 fp _ s6 _ H6 _ I6 q6) (λok s7 ⟨H7,I7,q7⟩=>?_) λ_ _ f=>False.elim f
    have kf7:∀b∈fp,∀o,s4.heap.get? b=some o->s7.heap.get? b=some o/\H7 b=none:=λb hb o e=>
     have z:=I7.pin (b,o) (List.mem_append_right _ (List.mem_append_right _ (rT hb e)))
     ⟨z.1,z.2.1⟩
    cases ok with
    | false=>
     rw [if_neg Bool.false_ne_true] at q7 ⊢
     exact again I7 kf7 rv (hN7 _ _ q7)
    | true=>
     rw [if_pos rfl] at q7 ⊢
     refine wpAny_mono (he cl (D+1) s H1 fp _ s7 _ H7 _ I7 q7) (λyv s8 ⟨y,H8,I8,r8,q8⟩=>?_) λ_ _ f=>False.elim f
     have pD:=I8.pin _ (List.mem_append_right _ (List.mem_append_left _ List.mem_cons_self))
     have hlen:=rv.length
     refine wpAny_list_append_plain (items:=its.toArray) ⟨cap,pD.1⟩ (λh9 pl9 sb9=>?_) (by rw [List.size_toArray];omega)
     obtain⟨cap9,e9⟩:=pl9
     have I9:Inv Y [] σ6 H8 { s8 with heap:=h9 }:=(I8.pins_of (pins':=[]) λp hp=>absurd hp (by simp)).turned (t':=s8.toks) (it:=D) (λb o hb e=>(sb9.2 b hb).trans e) pD.2.1 hDC
      (.inr (Nat.le_of_eq hDe)) (λy c e z=>absurd z (Nat.ne_of_lt (cellD y c (clsub y c e)))) λp hp=>absurd (show p∈([]:List (Addr×Obj)) from hp) (by simp)
     have kf9:∀b∈fp,∀o,s4.heap.get? b=some o->h9.get? b=some o/\H8 b=none:=λb hb o e=>by
      have z:=I8.pin (b,o) (List.mem_append_right _ (List.mem_append_right _ (rT hb e)))
      exact⟨(sb9.2 b (Nat.ne_of_lt (fpD b hb))).trans z.1,z.2.1⟩
     refine again (s7:={ s8 with heap:=h9 }) (its7:=its ++ [yv]) (cap7:=cap9) (pl:=[]) (I9.pins_of λp hp=>?_) kf9 (rv.append (.cons r8 .nil)) (hN7 _ _ q8)
     have hp':p=(D,{ cls:=.type "list",data:=.seq (its ++ [yv]).toArray cap9 }):=by simpa using hp
     subst hp'
     refine⟨?_,pD.2.1,pD.2.2.1,pD.2.2.2.1,λv z=>by cases z⟩
     rw [e9]
     simp
  ·refine IY.pins_of λp hp=>?_
   have hp':p=(D,{ cls:=.type "list",dict:=none,data:=.seq ([]:List Value).toArray }):=by simpa using hp
   subst hp'
   exact⟨accD,fresh _ (Nat.le_refl _),hDC,λhf=>Nat.lt_irrefl _ (frD _ hf),λv z=>by cases z⟩
 exact codeAny_compStart_list (loop _ rfl) (wpAny_mono (T.self X.A 0 _ (λv s'=>v=.ref it/\s'={ s with heap:=h₁,toks:=s.toks+([]:List (Str×Value)).length }) (λ_ _=>False) (T.keep _ _ _ st1 λb _ o e=>old b o e) ⟨rfl,rfl⟩) (λv s' ⟨e1,e2⟩=>by subst e1 e2;exact loop _ rfl) λ_ _ f=>f.elim)
theorem Su (xs:List Str) (js:List Nat) (N0:List Str) (sc0:Scope) (hc:X.calm=true) (hi:PI X tg iter wi) (hg:∀cl C s H ex,PG (j8 X scope xs js cl C s H ex) tg g)
  (hif:∀cl C s H ex,PF (j8 X scope xs js cl C s H ex) ifs tt) (he:∀cl C s H ex,PE (j8 X scope xs js cl C s H ex) elt te)
  (hk:scope.kind=.function:=by rfl) (hcell:∀y∈scope.names,y.2≠.cell:=by decide +kernel)
  (hnames:∀y∈scope.names,y.2=.local->scope.names.lookup y.1=some .local:=by decide +kernel)
  (hsc:X.env.scope=sc0:=by rfl) (hfree0:∀y∈scope.names,y.2=.free->sc0.names.lookup y.1=some .cell∨sc0.names.lookup y.1=some .free:=by decide +kernel)
  (hNN:X.N=N0:=by rfl) (hj0:∀y∈dg N0 js,scope.names.lookup y=some .free:=by decide +kernel)
  (hs:∀x,foldedSetIterable iter X.env x=pure x:=by intro _;rfl):
  PE X (.ListComp elt [⟨tg,iter,ifs,0⟩] scope pos) (Ur xs js wi g tt te):=by
 intro pins s σ H Q I h
 have hfree:∀y∈scope.names,y.2=.free->X.env.kindOf y.1=some .cell∨X.env.kindOf y.1=some .free:=λy hy e=>by
  show X.env.scope.names.lookup y.1=some .cell∨X.env.scope.names.lookup y.1=some .free
  rw [hsc];exact hfree0 y hy e
 rw [eval_ListComp]
 have hcl:closureFor scope X.env=pure (clos X.env scope.names []):=kj λy hy e=>I.ok.has y.1 (hfree y hy e)
 refine wpAny_comprehension_free (use:=none) rfl hs hcl hk hnames (dG (hi pins s σ H _ I h) λxv s1 h1=>dG h1 λit s2 h2=>?_)
 have hjs:∀y∈dg X.N js,scope.names.lookup y=some .free:=by rw [hNN];exact hj0
 refine uU xs js (RR:=λacc C=>compPost (model X.prog X.w) X.A X.xe none (EP X pins σ Q) acc C) (Q:=λys H2=>∀D,H2 D=none->Q (.ref D) (upd H2 D (.lst ys))) hc hk hcell hfree hg hif he hjs h2 ?_
 intro D C s' H2 ys m I' hD hn all fpC hCD hq
 exact⟨m,hn,λh' sb=>⟨.ref D,_,all h' sb,rfl,hq D hD⟩⟩
theorem RC {i:Nat} {y:Str} {py spos:Pos} (xs:List Str) (js:List Nat) (N0:List Str) (sc0:Scope) (hc:X.calm=true) (hNX:X.N.Nodup) (hiy:X.N[i]?=some y) (hi:PI X tg iter wi) (hg:∀cl C s H ex,PG (j8 X scope xs js cl C s H ex) tg g)
  (hif:∀cl C s H ex,PF (j8 X scope xs js cl C s H ex) ifs tt) (he:∀cl C s H ex,PE (j8 X scope xs js cl C s H ex) elt te)
  (hsw:swapsWith (.ListComp elt [⟨tg,iter,ifs,0⟩] scope pos) (some (.Name y py)) spos.line X.env=pure true:=by rfl) (hy:X.env.scope.names.lookup y=some .local:=by rfl)
  (hk:scope.kind=.function:=by rfl) (hcell:∀y∈scope.names,y.2≠.cell:=by decide +kernel)
  (hnames:∀y∈scope.names,y.2=.local->scope.names.lookup y.1=some .local:=by decide +kernel)
  (hsc:X.env.scope=sc0:=by rfl) (hfree0:∀y∈scope.names,y.2=.free->sc0.names.lookup y.1=some .cell∨sc0.names.lookup y.1=some .free:=by decide +kernel)
  (hNN:X.N=N0:=by rfl) (hj0:∀y∈dg N0 js,scope.names.lookup y=some .free:=by decide +kernel)
  (hs:∀x,foldedSetIterable iter X.env x=pure x:=by intro _;rfl):
  PS X (.Assign [.Name y py] (.ListComp elt [⟨tg,iter,ifs,0⟩] scope pos) spos) (Sq (Ur xs js wi g tt te) (Bk i)):=by
 intro pins s σ H D I h
 have hfree:∀y∈scope.names,y.2=.free->X.env.kindOf y.1=some .cell∨X.env.kindOf y.1=some .free:=λy hy e=>by
  show X.env.scope.names.lookup y.1=some .cell∨X.env.scope.names.lookup y.1=some .free
  rw [hsc];exact hfree0 y hy e
 have hjs:∀y∈dg X.N js,scope.names.lookup y=some .free:=by rw [hNN];exact hj0
 rw [exec_Assign_Name_used _ _ _ _ hsw]
 refine wpAny_bind (wpAny_standAt (wpAny_bind ?_))
 show wpAny _ X.A (do let _ <-comprehension (.ListComp elt [⟨tg,iter,ifs,0⟩] scope pos) scope X.env _ (newList []) false (eval iter X.env) (some (assign (.Name y py) X.env))) _ _ s
 have hcl:closureFor scope X.env=pure (clos X.env scope.names []):=kj λy hy e=>I.ok.has y.1 (hfree y hy e)
 refine wpAny_bind (wpAny_mono (wpAny_comprehension_free (use:=some (assign (.Name y py) X.env)) (Q:=λ_ s'=>SP X pins D .next s') rfl hs hcl hk hnames
  (dG (hi pins s σ H _ I h) λxv s1 h1=>dG h1 λit s2 h2=>?_)) (λ_ s' hq=>wpAny_pure (wpAny_pure hq)) λ_ _ e=>e)
 refine uU xs js (RR:=λacc C=>compPost (model X.prog X.w) X.A X.xe (some (assign (.Name y py) X.env)) (λ_ s'=>SP X pins D .next s') acc C) (Q:=λys H2=>∀D',H2 D'=none->D.nx (σ.set i (some (.ref D'))) (upd H2 D' (.lst ys))) hc hk hcell hfree hg hif he hjs h2 ?_
 intro D' C s' H2 ys m I' hD hn all fpC hCD hq
 show wpAny _ X.A (assign (.Name y py) X.env (.ref D')) _ _ _
 refine wpAny_assign_Name (Af I' hNX hiy (.inl hy) (v:=.ref D') rfl (λs'' I'' ⟨a,sb,ha⟩=>?_) (.inr hy))
 obtain⟨f1,f2,f3,f4,f5,f6⟩:=fpC
 have hCa:C≠a:=by
  rcases ha with z | z
  ·rw [z];exact f2
  ·exact λw=>f5 _ _ z w.symm
 exact⟨m,hn.sameBut sb hCa,λh' sb'=>⟨_,_,I''.turned (t':=s''.toks) (it:=C) (λb o hb e=>(sb'.2 b hb).trans e) f1 f2 f4 f5 f6,hq D' hD⟩⟩
end
theorem Eo {ts:List Str} {js:List Nat} {σ:St} {g:TG} {tt:TT} {te:TE} {Qd:List V->Hp->Prop} {K:PySem.W.Frag} {a:Addr} {xs:List V} {H:Hp} (Pv:Nat->List V->Hp->Prop) (hn:xs.length<=sizeLine) (h0:Pv 0 [] H) (hl:∀i ys H,Pv i ys H->ys.length<=i) (hq:∀i ys H,i<=xs.length->Pv i ys H->bI K H a xs)
  (hs:∀i x ys H,xs[i]?=some x->Pv i ys H->g x ((ts.map λ_=>none) ++ dB σ js) H λσ2 H3=>σ2.drop ts.length=dB σ js/\tt σ2 H3 λb H4=>if b=true then te σ2 H4 λy H5=>Pv (i+1) (ys ++ [y]) H5 else Pv (i+1) ys H4)
  (hd:∀ys H,Pv xs.length ys H->Qd ys H):Ep ts js σ g tt te Qd (Zd K a) H:=by
 refine⟨λi m ys H=>m=xs.length - i/\i<=xs.length/\Pv i ys H,⟨xs.length,by simp,Nat.zero_le _,h0⟩,?_⟩
 rintro i m ys H ⟨rfl,hi,p⟩
 have hlen:=hl i ys H p
 have q:=hq i ys H hi p
 by_cases hlt:i <xs.length
 ·refine .inr ⟨⟨xs,xs[i],q,by simp [hlt]⟩,by omega,Pv (i+1),λys' H' p'=>⟨xs.length - (i+1),by omega,rfl,hlt,p'⟩,λx H' y=>?_⟩
  obtain⟨e,y⟩:=y
  subst e
  exact hs i x ys _ (y xs q) p
 ·have e:i=xs.length:=by omega
  subst e
  exact .inl ⟨⟨xs,q,Nat.le_refl _⟩,by omega,hd ys H p⟩
structure Jb (K:PySem.W.Frag) (x qual:Str) (st:Stmt) (f:Addr) (fd:FuncData) (its:Array Value):Prop where
 ex:∃(oc:Value) (od:Option Addr) (T:Addr) (kV doc pm:Value) (an:Option Addr) (cdv ct:Value) (osl:Array (Option Value)) (o:Obj) (n:Nat),
  fd=PySem.W.fnOf x qual (gw st) (fJ st) (aX st) (.ref T) kV doc pm an cdv ct/\K.lookup f=some ⟨oc,od,.func fd,osl⟩/\PySem.W.codeIn K cdv qual=true/\K.lookup T=some o/\o.data=.seq its n
 kp:PySem.W.keepIn K (.ref f)=true
section
variable {P:Program} {w:World} {K:PySem.W.Frag} {mg:Str->Option Value} {base:Heap} {its:Array Value}
theorem Jb.ok {x qual:Str} {st:Stmt} {f:Addr} {fd:FuncData} {N ps:List Str} {k:Nat} {sp:Sp} (F:Jb K x qual st f fd its) (S:fY N ps (aX st)) (len:∀vs H Q E,sp vs H Q E->vs.length=ps.length)
  (hbody:∀(cdv:Value) (A:Around) (outer:List Env) (s:Shared) (H:Hp) (vs:List V) (Q:VK) (E:XK),iU k (A.deeper (envOfC qual (aX st) s.heap.objs.size f cdv))->sp vs H Q E->
   ∃t,PN (N8 Dd P w K mg base N qual (aX st) f cdv A outer s H E).nox (fJ st) t/\t { nx:=λ_ H'=>Q .non H',rt:=Q } (start N vs) H):iK P w K mg base Dd (k+1) f fd ps sp:=by
 obtain⟨oc,od,T,kV,doc,pm,an,cdv,ct,osl,o,n,rfl,lk,hcd,_⟩:=F.ex
 refine Xl lk hcd S len λA outer s H vs Q E hr hsp=>?_
 obtain⟨t,h,q⟩:=hbody cdv A outer s H vs Q E hr hsp
 exact⟨t,h.nox,q⟩
theorem Jb.binds {x qual:Str} {st:Stmt} {f:Addr} {fd:FuncData} {ps:List Str} (F:Jb K x qual st f fd its)
  (h:∀(T:Addr) (kV doc pm:Value) (an:Option Addr) (cdv ct:Value) (us:List Value),us.length=ps.length->∃k,bindArgs (PySem.W.fnOf x qual (gw st) (fJ st) (aX st) (.ref T) kV doc pm an cdv ct) ⟨us,[]⟩=seqItems? (.ref T) >>= k/\k (some its)=pure (ps.zip us)):Binds K fd ps []:=by
 obtain⟨oc,od,T,kV,doc,pm,an,cdv,ct,osl,o,n,rfl,lk,hcd,hT,ho⟩:=F.ex
 intro s us X hl
 rw [List.append_nil] at hl ⊢
 obtain⟨k,h1,h2⟩:=h T kV doc pm an cdv ct us hl
 exact .of_defaults rfl (X _ _ hT) ho h1 h2
theorem Vv {x qual:Str} {st:Stmt} {f T:Addr} {oc:Value} {od an:Option Addr} {osl:Array (Option Value)} {kV doc pm cdv ct:Value} {o:Obj} {n:Nat} (l:K.lookup f=some ⟨oc,od,.func (PySem.W.fnOf x qual (gw st) (fJ st) (aX st) (.ref T) kV doc pm an cdv ct),osl⟩)
  (c:PySem.W.codeIn K cdv qual=true) (k:PySem.W.keepIn K (.ref f)=true) (d:K.lookup T=some o) (e:o.data=.seq its n):Jb K x qual st f (PySem.W.fnOf x qual (gw st) (fJ st) (aX st) (.ref T) kV doc pm an cdv ct) its:=⟨⟨oc,od,T,kV,doc,pm,an,cdv,ct,osl,o,n,rfl,l,c,d,e⟩,k⟩
end
section
variable {X:Cx} {e:Expr} {es:List Expr} {te:TE} {t:TA} {pos:Pos} {st:Stmt} {rest:List Stmt} {ts us:TS}
end
section
variable {X:Cx}
noncomputable def Uy (z:Str):Value->Bool
 | .str y _=>y.cps.toList == z.cps.toList
 | _=>false
theorem G8 {z:Str} {t:Tok}:∀{ys:List Str} {us:List Value},Vals (ys.map V.str) us->(∀u∈us,PySem.MeetsSeq.EqGives u (.str z t) (Uy z u))/\us.countP (Uy z)=ys.countP (λy=>decide (y=z))/\∀(m:Nat) (u:Value),us[m]?=some u->∃y,ys[m]?=some y/\Uy z u=decide (y=z)
 | [],us,r=>by
  rw [List.map_nil] at r
  cases r
  exact⟨(λ_ h=>by cases h),rfl,λm u h=>by simp at h⟩
 | y:: ys,us,r=>by
  rw [List.map_cons] at r
  cases r with
  | cons r1 r2=>
   obtain⟨t',e⟩:=r1
   subst e
   obtain⟨h1,h2,h3⟩:=G8 (z:=z) (t:=t) r2
   have he:Uy z (.str y t')=decide (y=z):=by
    show(y.cps.toList == z.cps.toList)=decide (y=z)
    rw [Bool.eq_iff_iff,beq_iff_eq,decide_eq_true_eq]
    exact⟨λh=>ext_toList h,λh=>by rw [h]⟩
   refine⟨λu hu=>?_,?_,λm u hm=>?_⟩
   ·rcases List.mem_cons.mp hu with rfl | hu
    ·exact PySem.SeqRoads2.EqGives.str y z t' t
    ·exact h1 u hu
   ·rw [List.countP_cons,List.countP_cons,h2,he]
   ·cases m with
    | zero=>
     simp only [List.getElem?_cons_zero,Option.some.injEq] at hm
     subst hm
     exact⟨y,rfl,he⟩
    | succ m=>exact h3 m u (by simpa using hm)
inductive LK (x:V) (vs:List V) (H:Hp) (Q:VK):Prop where
 | mk:∀(l:Addr) (xs:List Str) (z:Str) (j:Nat),x=.ref l->vs=[.str z]->H l=some (.lst (xs.map V.str))->xs[j]?=some z->((∀m y,m <j->xs[m]?=some y->y≠z))->Q (.int (j:Nat)) H->LK x vs H Q
noncomputable def Wb:V->List V->Hp->VK->Prop:=λx vs H Q=>LK x vs H Q
theorem Q4:MtM X "list.index" Wb:=by
 intro pins s σ H x vs v us Q I rx rv h
 obtain⟨l,xs,z,j,rfl,rfl,hH,hj,hno,q⟩:=h
 cases rx
 obtain⟨u,rfl,ru⟩:=rv.one
 obtain⟨t,rfl⟩:=ru
 obtain⟨hz,its,n,r,hl,e⟩:=I.lstM hH
 have hsz:sizeLine=16777216:=sizeLine_eq
 obtain⟨h1,_,h3⟩:=G8 (z:=z) (t:=t) r
 have hjx:=(List.getElem?_eq_some_iff.mp hj).1
 rw [List.length_map] at hl hz
 have hji:j <its.length:=by omega
 refine call_meets F.slot_list_index ⟨_,e,rfl⟩ F.entry_list_index (F.args_list_index_2 _ _) (MeetsSeq.list_index l its.toArray n (.str z t) (Uy z) (λy hy=>h1 y (by simpa using hy)) j (by simpa using hji) (by omega) ?_ ?_) ⟨e,?_⟩
 ·obtain⟨y,hy,e2⟩:=h3 j its[j] (List.getElem?_eq_getElem hji)
  rw [hj] at hy
  cases hy
  simpa using e2
 ·intro m hm hlt
  have hm':m <its.length:=by simpa using hm
  obtain⟨y,hy,e2⟩:=h3 m its[m] (List.getElem?_eq_getElem hm')
  have:=hno m y hlt hy
  simp only [List.getElem_toArray]
  rw [e2]
  exact decide_eq_false this
 ·exact⟨.int (j:Nat),H,I.tok _,⟨s.toks,rfl⟩,q⟩
end
section
variable {X:Cx}
end
section
variable {prog:Program} {w:World} {A:Around} {E:Value->Shared->Prop}
end
noncomputable def Yg (K:PySem.W.Frag) (a:Addr) (xs:List V):It:=
 ⟨λi H=>bI K H a xs/\i <xs.length,λi H x H'=>H'=H/\xs.reverse[i]?=some x,λi H=>bI K H a xs/\xs.length<=i⟩
theorem Us {P:Program} {w:World} {K:PySem.W.Frag} {tg:Expr} (a it:Addr) (xs:List V):Turn P w K tg (Yg K a xs) [it] it (λi h=>i<=xs.length/\h.IsRevIter it a ((xs.length:Int) - 1 - (i:Int))) where
 mem:=by simp
 obj:=λi h st b hb=>by
  have e:b=it:=by simpa using hb
  subst e
  obtain⟨_,o,e,c,d⟩:=st
  exact⟨o,e,λv z=>by rw [d] at z;cases z⟩
 keep:=λi h h' st k=>⟨st.1,st.2.at λo e=>k it (by simp) o e⟩
 item:=by
  intro X hP hw hK hc i pins s σ H E I hf st hg
  subst hP hw hK
  obtain⟨hq,hi⟩:=hg
  obtain⟨its,rv,p,hz⟩:=I.list hq
  have hl:=rv.length
  obtain⟨f0,f1,f2,f3,f4,f5⟩:=hf it (by simp)
  have e1:(xs.length:Int) - 1 - (i:Int)=((xs.length - 1 - i:Nat):Int):=by omega
  have hit:=st.2
  rw [e1] at hit
  have hx:xs.reverse[i]?=some (xs[xs.length - 1 - i]'(by omega)):=by rw [List.getElem?_reverse hi];exact List.getElem?_eq_getElem _
  obtain⟨u,hu,ru⟩:=rv.get (List.getElem?_eq_getElem (show xs.length - 1 - i <xs.length by omega))
  refine wpAny_pyNext_rev_item hit p.isList (x:=u) (by simpa using hu) λh' st' sb=>?_
  have e2:((xs.length - 1 - i:Nat):Int) - 1=(xs.length:Int) - 1 - ((i+1:Nat):Int):=by omega
  rw [e2] at st'
  have I1:Inv X pins σ H { s with heap:=h' }:=I.turned (t':=s.toks) (λb o hb e=>(sb.2 b hb).trans e) f0 f1 f3 f4 f5
  obtain⟨o,e,c,d⟩:=id st'
  exact⟨u,rfl,Ht (s:={ s with heap:=h' }) e c d (by decide) ⟨_,H,I1,ru,⟨rfl,hx⟩,⟨hi,st'⟩,λb hb=>(hf b hb).1⟩⟩
 done:=by
  intro X hP hw hK hc i pins s σ H E I hf st hg
  subst hP hw hK
  obtain⟨hq,hi⟩:=hg
  obtain⟨f0,f1,f2,f3,f4,f5⟩:=hf it (by simp)
  have hit:=st.2
  rw [show(xs.length:Int) - 1 - (i:Int)= -1 by have:=st.1;omega] at hit
  exact wpAny_pyNext_rev_end (I.ok.hd hc) hit λh' eb=>⟨rfl,I.turned (t':=s.toks) (λb o hb e=>eb b o hb e) f0 f1 f3 f4 f5⟩
 self:=λ_ _ _ _ _ st h=>wpAny_pyIter_revIter st.2 h
section
variable {X:Cx} {tg:Expr}
theorem K8:bootBuiltins "reversed" =some (.type "reversed"):=by decide +kernel
inductive Xr (K:PySem.W.Frag) (R:It->Hp->Prop) (vs:List V) (H1:Hp):Prop where
 | mk:∀a xs,vs=[.ref a]->bI K H1 a xs->R (Yg K a xs) H1->Xr K R vs H1
noncomputable def abb (K:PySem.W.Frag) (ta:TA):TI:=λσ H R=>ta σ H λvs H1=>Xr K R vs H1
theorem Ye {l:Expr} {ta:TA} {p pos:Pos} (hg:Gl X "reversed") (hm:X.mg "reversed" =none) (ha:PA X [l] ta) (hs:starEach [l] X.env=[(false,eval l X.env)]:=by rfl):
  PI X tg (.Call (.Name "reversed" p) [l] [] pos) (abb X.K ta):=by
 intro pins s σ H R I h
 refine Call_ (DR I hg hm K8 (PyProof.Rows.callWith_type1 (dG (ha pos pins s σ H _ I h) λus s1 ⟨vs,H1,I1,r1,q1⟩=>?_) hs rfl))
 obtain⟨a,xs,e,hq,q⟩:=q1
 subst e
 obtain⟨u,rfl,ru⟩:=vals1 r1
 cases ru
 obtain⟨its,rv,pl,hz⟩:=I1.list hq
 have hl:=rv.length
 refine call_reversed_list pl.isList (wpAny_pyIter_revIter (it:=s1.heap.objs.size) (l:=a) (i:=(xs.length:Int) - 1) ⟨_,Heap.get?_push_size _ rfl,rfl,by simp [revObj,hl]⟩ ?_)
 refine⟨s1.heap.objs.size,[s1.heap.objs.size],_,_,H1,rfl,I1.kept (t':=s1.toks) λb o e=>Heap.get?_push_of_some _ e,Us a _ xs,⟨Nat.zero_le _,⟨_,Heap.get?_push_size _ rfl,rfl,by simp [revObj,hl]⟩⟩,λb hb=>?_,q⟩
 have e:b=s1.heap.objs.size:=by simpa using hb
 subst e
 exact I1.fpOk (Nat.le_refl _) (I1.hok.fresh (Nat.le_refl _))
end
theorem UL {js:List Nat} {tt:TT} {te:TE} {σ:St} {Qd:List V->Hp->Prop} {K:PySem.W.Frag} {a:Addr} {xs:List V} {H:Hp} (Pv:Nat->List V->Hp->Prop) (hn:xs.length<=sizeLine) (h0:Pv 0 [] H) (hl:∀i ys H,Pv i ys H->ys.length<=i) (hq:∀i ys H,i<=xs.length->Pv i ys H->bI K H a xs)
  (hs:∀i x ys H,xs.reverse[i]?=some x->Pv i ys H->tt (some x:: dB σ js) H λb H4=>if b=true then te (some x:: dB σ js) H4 λy H5=>Pv (i+1) (ys ++ [y]) H5 else Pv (i+1) ys H4)
  (hd:∀ys H,Pv xs.length ys H->Qd ys H):CompEnd js tt te σ Qd (Yg K a xs) H:=by
 refine⟨λi m ys H=>m=xs.length - i/\i<=xs.length/\Pv i ys H,⟨xs.length,by simp,Nat.zero_le _,h0⟩,?_⟩
 rintro i m ys H ⟨rfl,hi,p⟩
 have hlen:=hl i ys H p
 have q:=hq i ys H hi p
 by_cases hlt:i <xs.length
 ·refine .inr ⟨⟨q,hlt⟩,by omega,Pv (i+1),λys' H' p'=>⟨xs.length - (i+1),by omega,rfl,hlt,p'⟩,λx H' y=>?_⟩
  obtain⟨rfl,y⟩:=y
  exact hs i x ys _ y p
 ·obtain rfl:i=xs.length:=by omega
  exact .inl ⟨⟨q,Nat.le_refl _⟩,by omega,hd ys H p⟩
section
variable {X:Cx} {e:Expr}
end
section
variable {X:Cx}
end
section
variable {M:Model} {A:Around} {E:Value->Shared->Prop} {nm q:Str} {C N:Addr} {bs bm:List Value} {hdct:Bool} {sn:List Str} {sub:List Value} {ab:Bool} {col:Option Bool} {dd:Option Addr} {k0 k1 k2 k3 k5:Option Value} {newId:String}
end
end L2
namespace L2
open PySem PyProof
theorem Q7 {es:List Expr} {env:Env} {a b c}:starEach (.Dict a b c:: es) env=(false,eval (.Dict a b c) env):: starEach es env:=rfl
section
variable {X:Cx} {x:Str} {px pos:Pos} {iter elt:Expr} {ifs:List Expr} {scope:Scope} {wi:TI} {tt:TT} {te:TE}
theorem Ce (js:List Nat) {pins:List (Addr×Obj)} {σ:St} {s:Shared} {itv:Value} {Q:List V->Hp->Prop} {RR:Value->Addr->Result->Shared->Prop} {E:Value->Shared->Prop}
  (hc:X.calm=true) (hk:scope.kind=.function) (hx:scope.names.lookup x=some .local) (hcell:∀y∈scope.names,y.2≠.cell)
  (hfree:∀y∈scope.names,y.2=.free->X.env.kindOf y.1=some .cell∨X.env.kindOf y.1=some .free)
  (hN:(x:: dg X.N js).Nodup) (hjs:∀y∈dg X.N js,scope.names.lookup y=some .free)
  (hif:∀cl C s H ex,PF (Ai X scope x js cl C s H ex) ifs tt) (he:∀cl C s H ex,PE (Ai X scope x js cl C s H ex) elt te)
  (hit:PIE X pins σ (.Name x px) (CompEnd js tt te σ Q) itv s)
  (hR:∀D C s' H2 ys m,Inv X pins σ (upd H2 D (.lst ys)) s'->H2 D=none->s'.heap.Ns C m->(∀h',Heap.SameBut C s'.heap h'->Inv X pins σ (upd H2 D (.lst ys)) { s' with heap:=h' })->Js X pins (upd H2 D (.lst ys)) C->C≠D->Q ys H2->RR (.ref D) C (.ok .next) s'):
  wpAny (model X.prog X.w) X.A (newList []) (λacc s₃=>wpAny (model X.prog X.w) X.A (newFunctionEnv scope X.env.globals (clos X.env scope.names []) [] X.env.qual none .none (some X.env)) (λcenv s₄=>
   codeAny (model X.prog X.w) X.A (.compStart (.ListComp elt [⟨.Name x px,iter,ifs,0⟩] scope pos) 0 itv acc { cenv with scope:=relabel scope X.env }) (RR acc cenv.locals) s₄) E s₃) E s:=
 uU (tg:=.Name x px) (g:=Bk 0) [x] js hc hk hcell hfree (λcl C s H ex=>wU (i:=0) hN rfl (.inl (lookup_relabel_local hx)) (.inr (lookup_relabel_local hx))) hif he hjs
  (by
   obtain⟨it,fp,tn,J,H',e,I,T,t0,hf,W,h0,hW⟩:=hit
   exact⟨it,fp,tn,J,H',e,I,T,t0,hf,W,h0,λi m ys H2 w=>(hW i m ys H2 w).imp_right λ⟨a,b,N,c,d⟩=>⟨a,b,N,c,λy H3 z=>⟨rfl,d y H3 z⟩⟩⟩) hR
theorem gf (js:List Nat) (N0:List Str) (sc0:Scope) (hc:X.calm=true) (hi:PI X (.Name x px) iter wi)
  (hif:∀cl C s H ex,PF (Ai X scope x js cl C s H ex) ifs tt) (he:∀cl C s H ex,PE (Ai X scope x js cl C s H ex) elt te)
  (hk:scope.kind=.function:=by rfl) (hx:scope.names.lookup x=some .local:=by rfl) (hcell:∀y∈scope.names,y.2≠.cell:=by decide +kernel)
  (hnames:∀y∈scope.names,y.2=.local->scope.names.lookup y.1=some .local:=by decide +kernel)
  (hsc:X.env.scope=sc0:=by rfl) (hfree0:∀y∈scope.names,y.2=.free->sc0.names.lookup y.1=some .cell∨sc0.names.lookup y.1=some .free:=by decide +kernel)
  (hNN:X.N=N0:=by rfl) (hN0:(x:: dg N0 js).Nodup:=by decide +kernel) (hj0:∀y∈dg N0 js,scope.names.lookup y=some .free:=by decide +kernel)
  (hs:∀x,foldedSetIterable iter X.env x=pure x:=by intro _;rfl):
  PE X (.ListComp elt [⟨.Name x px,iter,ifs,0⟩] scope pos) (Xj js wi tt te):=by
 intro pins s σ H Q I h
 have hN:(x:: dg X.N js).Nodup:=by rw [hNN];exact hN0
 have hfree:∀y∈scope.names,y.2=.free->X.env.kindOf y.1=some .cell∨X.env.kindOf y.1=some .free:=λy hy e=>by
  show X.env.scope.names.lookup y.1=some .cell∨X.env.scope.names.lookup y.1=some .free
  rw [hsc];exact hfree0 y hy e
 have hjs:∀y∈dg X.N js,scope.names.lookup y=some .free:=by rw [hNN];exact hj0
 rw [eval_ListComp]
 have hcl:closureFor scope X.env=pure (clos X.env scope.names []):=kj λy hy e=>I.ok.has y.1 (hfree y hy e)
 refine wpAny_comprehension_free (use:=none) rfl hs hcl hk hnames (dG (hi pins s σ H _ I h) λxv s1 h1=>dG h1 λit s2 h2=>?_)
 refine Ce js (RR:=λacc C=>compPost (model X.prog X.w) X.A X.xe none (EP X pins σ Q) acc C) (Q:=λys H2=>∀D,H2 D=none->Q (.ref D) (upd H2 D (.lst ys))) hc hk hx hcell hfree hN hjs hif he h2 ?_
 intro D C s' H2 ys m I' hD hn all fpC hCD hq
 exact⟨m,hn,λh' sb=>⟨.ref D,_,all h' sb,rfl,hq D hD⟩⟩
theorem oW {i:Nat} {y:Str} {py spos:Pos} (js:List Nat) (N0:List Str) (sc0:Scope) (hc:X.calm=true) (hNX:X.N.Nodup) (hiy:X.N[i]?=some y) (hi:PI X (.Name x px) iter wi)
  (hif:∀cl C s H ex,PF (Ai X scope x js cl C s H ex) ifs tt) (he:∀cl C s H ex,PE (Ai X scope x js cl C s H ex) elt te)
  (hsw:swapsWith (.ListComp elt [⟨.Name x px,iter,ifs,0⟩] scope pos) (some (.Name y py)) spos.line X.env=pure true:=by rfl) (hy:X.env.scope.names.lookup y=some .local:=by rfl)
  (hk:scope.kind=.function:=by rfl) (hx:scope.names.lookup x=some .local:=by rfl) (hcell:∀y∈scope.names,y.2≠.cell:=by decide +kernel)
  (hnames:∀y∈scope.names,y.2=.local->scope.names.lookup y.1=some .local:=by decide +kernel)
  (hsc:X.env.scope=sc0:=by rfl) (hfree0:∀y∈scope.names,y.2=.free->sc0.names.lookup y.1=some .cell∨sc0.names.lookup y.1=some .free:=by decide +kernel)
  (hNN:X.N=N0:=by rfl) (hN0:(x:: dg N0 js).Nodup:=by decide +kernel) (hj0:∀y∈dg N0 js,scope.names.lookup y=some .free:=by decide +kernel)
  (hs:∀x,foldedSetIterable iter X.env x=pure x:=by intro _;rfl):
  PS X (.Assign [.Name y py] (.ListComp elt [⟨.Name x px,iter,ifs,0⟩] scope pos) spos) (Sq (Xj js wi tt te) (Bk i)):=by
 intro pins s σ H D I h
 have hN:(x:: dg X.N js).Nodup:=by rw [hNN];exact hN0
 have hfree:∀y∈scope.names,y.2=.free->X.env.kindOf y.1=some .cell∨X.env.kindOf y.1=some .free:=λy hy e=>by
  show X.env.scope.names.lookup y.1=some .cell∨X.env.scope.names.lookup y.1=some .free
  rw [hsc];exact hfree0 y hy e
 have hjs:∀y∈dg X.N js,scope.names.lookup y=some .free:=by rw [hNN];exact hj0
 rw [exec_Assign_Name_used _ _ _ _ hsw]
 refine wpAny_bind (wpAny_standAt (wpAny_bind ?_))
 show wpAny _ X.A (do let _ <-comprehension (.ListComp elt [⟨.Name x px,iter,ifs,0⟩] scope pos) scope X.env _ (newList []) false (eval iter X.env) (some (assign (.Name y py) X.env))) _ _ s
 have hcl:closureFor scope X.env=pure (clos X.env scope.names []):=kj λy hy e=>I.ok.has y.1 (hfree y hy e)
 refine wpAny_bind (wpAny_mono (wpAny_comprehension_free (use:=some (assign (.Name y py) X.env)) (Q:=λ_ s'=>SP X pins D .next s') rfl hs hcl hk hnames
  (dG (hi pins s σ H _ I h) λxv s1 h1=>dG h1 λit s2 h2=>?_)) (λ_ s' hq=>wpAny_pure (wpAny_pure hq)) λ_ _ e=>e)
 refine Ce js (RR:=λacc C=>compPost (model X.prog X.w) X.A X.xe (some (assign (.Name y py) X.env)) (λ_ s'=>SP X pins D .next s') acc C) (Q:=λys H2=>∀D',H2 D'=none->D.nx (σ.set i (some (.ref D'))) (upd H2 D' (.lst ys))) hc hk hx hcell hfree hN hjs hif he h2 ?_
 intro D' C s' H2 ys m I' hD hn all fpC hCD hq
 show wpAny _ X.A (assign (.Name y py) X.env (.ref D')) _ _ _
 refine wpAny_assign_Name (Af I' hNX hiy (.inl hy) (v:=.ref D') rfl (λs'' I'' ⟨a,sb,ha⟩=>?_) (.inr hy))
 obtain⟨f1,f2,f3,f4,f5,f6⟩:=fpC
 have hCa:C≠a:=by
  rcases ha with z | z
  ·rw [z];exact f2
  ·exact λw=>f5 _ _ z w.symm
 exact⟨m,hn.sameBut sb hCa,λh' sb'=>⟨_,_,I''.turned (t':=s''.toks) (it:=C) (λb o hb e=>(sb'.2 b hb).trans e) f1 f2 f4 f5 f6,hq D' hD⟩⟩
end
end L2
namespace L2
open PySem PySem.Spec PyProof.Rows
noncomputable def fdOf (K:PySem.W.Frag) (f:Addr):FuncData:=match K.lookup f with
 | some ⟨_,_,.func d,_⟩=>d
 | _=>default
theorem WL {K:PySem.W.Frag} {f:Addr} {oc:Value} {od:Option Addr} {fd:FuncData} {osl:Array (Option Value)} (l:K.lookup f=some ⟨oc,od,.func fd,osl⟩):fdOf K f=fd:=by
 unfold fdOf
 rw [l]
structure dI (K:PySem.W.Frag) (nm qn:Str) (s:Stmt) (f:Addr) (ps:List Str):Prop where
 F:XX K nm qn s f (fdOf K f)
 b:Binds K (fdOf K f) ps []
 i:PySem.W.isFn K (.ref f)=true
theorem dI.me {K:PySem.W.Frag} {nm qn m:Str} {s:Stmt} {f C:Addr} {ps:List Str} (x:dI K nm qn s f ps) (h:PySem.W.findIn K (.ref C) m=some (some (.ref f))):Meth K C m f:=⟨h,x.i,x.F.kp⟩
theorem dI.of {K:PySem.W.Frag} {nm qn:Str} {s:Stmt} {f:Addr} {ps:List Str} {oc:Value} {od an:Option Addr} {osl:Array (Option Value)} {kV doc pm cdv ct:Value}
  (l:K.lookup f=some ⟨oc,od,.func (PySem.W.fnOf nm qn (gw s) (fJ s) (aX s) .none kV doc pm an cdv ct),osl⟩) (c:PySem.W.codeIn K cdv qn=true) (k:PySem.W.keepIn K (.ref f)=true) (i:PySem.W.isFn K (.ref f)=true)
  (h:∀(kV doc pm:Value) (an:Option Addr) (cdv ct:Value) (us:List Value),us.length=ps.length->bindArgs (PySem.W.fnOf nm qn (gw s) (fJ s) (aX s) .none kV doc pm an cdv ct) ⟨us,[]⟩=pure (ps.zip us)):dI K nm qn s f ps:=by
 have e:fdOf K f=PySem.W.fnOf nm qn (gw s) (fJ s) (aX s) .none kV doc pm an cdv ct:=by
  unfold fdOf
  rw [l]
 have F:=YT l c k
 have b:=F.binds h
 rw [<-e] at F b
 exact⟨F,b,i⟩
structure XJ (K:PySem.W.Frag) (nm qn:Str) (s:Stmt) (f:Addr) (ps:List Str):Prop where
 F:Jb K nm qn s f (fdOf K f) #[.none]
 b:Binds K (fdOf K f) ps []
 i:PySem.W.isFn K (.ref f)=true
theorem XJ.me {K:PySem.W.Frag} {nm qn m:Str} {s:Stmt} {f C:Addr} {ps:List Str} (x:XJ K nm qn s f ps) (h:PySem.W.findIn K (.ref C) m=some (some (.ref f))):Meth K C m f:=⟨h,x.i,x.F.kp⟩
theorem XJ.of {K:PySem.W.Frag} {nm qn:Str} {s:Stmt} {f T:Addr} {ps:List Str} {oc oe:Value} {od an oh:Option Addr} {osl osm:Array (Option Value)} {kV doc pm cdv ct:Value} {n:Nat}
  (l:K.lookup f=some ⟨oc,od,.func (PySem.W.fnOf nm qn (gw s) (fJ s) (aX s) (.ref T) kV doc pm an cdv ct),osl⟩) (d:K.lookup T=some ⟨oe,oh,.seq #[.none] n,osm⟩) (c:PySem.W.codeIn K cdv qn=true) (k:PySem.W.keepIn K (.ref f)=true) (i:PySem.W.isFn K (.ref f)=true)
  (h:∀fd:FuncData,Jb K nm qn s f fd #[.none]->Binds K fd ps []):XJ K nm qn s f ps:=by
 have F:=Vv (its:=#[.none]) l c k d rfl
 have b:=h _ F
 rw [<-WL l] at F b
 exact⟨F,b,i⟩
structure lR (K:PySem.W.Frag) (mg:Str->Option Value) (nm:Str) (s:Stmt) (f:Addr) (ps:List Str):Prop where
 x:dI K nm nm s f ps
 m:mg nm=some (.ref f)
theorem lR.of {K:PySem.W.Frag} {mg:Str->Option Value} {nm:Str} {s:Stmt} {f:Addr} {ps:List Str} (m:mg nm=some (.ref f)) (x:dI K nm nm s f ps):lR K mg nm s f ps:=⟨x,m⟩
theorem gC {mg:Str->Option Value} {nm:Str} {u:Value} {v:V} (m:mg nm=some u) (r:RelV v u):∃u,mg nm=some u/\RelV v u:=⟨u,m,r⟩
theorem lR.F {K:PySem.W.Frag} {mg:Str->Option Value} {nm:Str} {s:Stmt} {f:Addr} {ps:List Str} (h:lR K mg nm s f ps):XX K nm nm s f (fdOf K f):=h.x.F
theorem lR.b {K:PySem.W.Frag} {mg:Str->Option Value} {nm:Str} {s:Stmt} {f:Addr} {ps:List Str} (h:lR K mg nm s f ps):Binds K (fdOf K f) ps []:=h.x.b
noncomputable def MB (K:PySem.W.Frag) (C:Addr):List (Str×Addr)->Prop
 | []=>True
 | (m,f):: r=>PySem.W.findIn K (.ref C) m=some (some (.ref f))/\MB K C r
noncomputable def NB (K:PySem.W.Frag) (C:Addr):List Str->Prop
 | []=>True
 | f:: r=>PySem.W.findIn K (.ref C) f=some none/\NB K C r
structure J9 (K:PySem.W.Frag) (mg:Str->Option Value) (nm:Str) (C:Addr) (ms:List (Str×Addr)) (as:List Str):Prop where
 m:mg nm=some (.ref C)
 c:Qj K C
 mks:PySem.W.makesIn K C=true
 kp:PySem.W.keepIn K (.ref C)=true
 me:MB K C ms
 na:NB K C as
theorem J9.M {K:PySem.W.Frag} {mg:Str->Option Value} {nm:Str} {C f:Addr} {ms:List (Str×Addr)} {as ps:List Str} {n q:Str} {s:Stmt} (h:J9 K mg nm C (("__init__",f):: ms) as) (x:dI K n q s f ps):Mk K C f:=⟨h.mks,h.me.1,x.i,h.kp⟩
theorem YK {K:PySem.W.Frag} {nm qn:Str} {st:Stmt} {f:Addr} {x:Str} (F:XX K nm qn st f (fdOf K f))
  (h:∀(kV doc pm:Value) (an:Option Addr) (cdv ct v:Value),bindArgs (PySem.W.fnOf nm qn (gw st) (fJ st) (aX st) .none kV doc pm an cdv ct) ⟨[v],[]⟩=pure [(x,v)]) (s:Shared) (v:Value):BindsTo s (fdOf K f) ⟨[v],[]⟩ [(x,v)]:=by
 obtain⟨oc,od,kV,doc,pm,an,cdv,ct,osl,e,lk,hcd⟩:=F.ex
 rw [e]
 exact .of_eq (h kV doc pm an cdv ct v)
theorem abA {K:PySem.W.Frag} {h:Heap} {C f:Addr} (X:K.In h) (_:PySem.W.findIn K (.ref C) "__init__" =some (some (.ref f))) (b:Uv K C f=true):ExcAt K C:=(Dk.ofIn b).at X
theorem us_0 {α:Type} {P:List α->Prop} (h:P []):∀us:List α,us.length=0->P us
 | [],_=>h
theorem uF {α:Type} {P:List α->Prop} (h:∀a,P [a]):∀us:List α,us.length=1->P us
 | [a],_=>h a
theorem wY {α:Type} {P:List α->Prop} (h:∀a b,P [a,b]):∀us:List α,us.length=2->P us
 | [a,b],_=>h a b
theorem KY {α:Type} {P:List α->Prop} (h:∀a b c,P [a,b,c]):∀us:List α,us.length=3->P us
 | [a,b,c],_=>h a b c
theorem aaH {α:Type} {P:List α->Prop} (h:∀a b c d,P [a,b,c,d]):∀us:List α,us.length=4->P us
 | [a,b,c,d],_=>h a b c d
theorem aai {α:Type} {P:List α->Prop} (h:∀a b c d e,P [a,b,c,d,e]):∀us:List α,us.length=5->P us
 | [a,b,c,d,e],_=>h a b c d e
theorem us_6 {α:Type} {P:List α->Prop} (h:∀a b c d e f,P [a,b,c,d,e,f]):∀us:List α,us.length=6->P us
 | [a,b,c,d,e,f],_=>h a b c d e f
theorem us_7 {α:Type} {P:List α->Prop} (h:∀a b c d e f g,P [a,b,c,d,e,f,g]):∀us:List α,us.length=7->P us
 | [a,b,c,d,e,f,g],_=>h a b c d e f g
theorem dI.sc {K:PySem.W.Frag} {nm qn:Str} {s:Stmt} {f:Addr} {ps:List Str} (_:dI K nm qn s f ps) (N:List Str) (h:fY N ps (aX s):=by exact⟨rfl,rfl,rfl,by decide +kernel,rfl,by decide +kernel,by decide +kernel⟩):fY N ps (aX s):=h
theorem lR.sc {K:PySem.W.Frag} {mg:Str->Option Value} {nm:Str} {s:Stmt} {f:Addr} {ps:List Str} (_:lR K mg nm s f ps) (N:List Str) (h:fY N ps (aX s):=by exact⟨rfl,rfl,rfl,by decide +kernel,rfl,by decide +kernel,by decide +kernel⟩):fY N ps (aX s):=h
noncomputable abbrev FO (P:Program) (w:World) (K:PySem.W.Frag) (mg:Str->Option Value) (base:Heap) (k:Nat) (f:Addr) (ps:List Str) (sp:Sp):Prop:=iK P w K mg base Dd k f (fdOf K f) ps sp
theorem Pk {N ps:List Str} {sc:Scope} (h:fY N ps sc:=by exact⟨rfl,rfl,rfl,by decide +kernel,rfl,by decide +kernel,by decide +kernel⟩):fY N ps sc:=h
section
variable {X:Cx} {k k' i:Nat} {f C:Addr} {ps as:List Str} {ms:List (Str×Addr)} {sp:Sp} {x m nm qn n:Str} {p pos apos pos':Pos} {e o:Expr} {es:List Expr} {ta te:TE} {t:TA} {s:Stmt} {N:List Str}
theorem jd (F:iK X.prog X.w X.K X.mg X.base Dd k f (fdOf X.K f) ps sp) (g:lR X.K X.mg x s f ps) (hr:iU k' X.A) (ha:PA X (e:: es) t) (hk:k<=k':=by decide) (hg:Gl X x:=by rfl)
  (hdb:(x == ("__debug__" :Str))=false:=by decide) (he:starEach (e:: es) X.env=(false,eval e X.env):: starEach es X.env:=by rfl) (hpl:(backTo pos (starEach es X.env)).any (·.1)=false:=by rfl):
  PE X (.Call (.Name x p) (e:: es) [] pos) (Xk sp [] E0 t):=W0 F (hr.mono hk) hg g.m g.F.kp g.b .nil gB ha hdb he hpl
theorem zx {pl:Sem Bool} (he:PE X o ta) (c:J9 X.K X.mg n C ms as) (hm:PySem.W.findIn X.K (.ref C) m=some (some (.ref f))) (F:iK X.prog X.w X.K X.mg X.base Dd k f (fdOf X.K f) ps sp) (g:dI X.K nm qn s f ps) (hr:iU k' X.A) (ha:PA X (e:: es) t)
  (hk:k<=k':=by decide) (hst:starEach (e:: es) X.env=(false,eval e X.env):: starEach es X.env:=by rfl) (hpl:(backTo pos (starEach es X.env)).any (·.1)=false:=by rfl)
  (ht:eval (.Call (.Attribute o m apos) (e:: es) [] pos) X.env=(do
   let ov <-eval o X.env
   standAt apos.atName
   let (f,first) <-holding [ov] (getMethod ov m pl)
   callWith pos f first (backTo pos (starEach (e:: es) X.env)) (backToKw pos (keywordEach [] X.env))):=by rfl):
  PE X (.Call (.Attribute o m apos) (e:: es) [] pos) (O1 C m sp [] E0 ta t):=VP he c.c (g.me hm) F (hr.mono hk) g.b .nil gB ha hst hpl ht
theorem Nz {pl:Sem Bool} (he:PE X o ta) (c:J9 X.K X.mg n C ms as) (hm:PySem.W.findIn X.K (.ref C) m=some (some (.ref f))) (F:iK X.prog X.w X.K X.mg X.base Dd k f (fdOf X.K f) ps sp) (g:dI X.K nm qn s f ps) (hr:iU k' X.A)
  (hk:k<=k':=by decide) (ht:eval (.Call (.Attribute o m apos) [] [] pos) X.env=(do
   let ov <-eval o X.env
   standAt apos.atName
   let (f,first) <-holding [ov] (getMethod ov m pl)
   callWith pos f first (backTo pos (starEach [] X.env)) (backToKw pos (keywordEach [] X.env))):=by rfl):
  PE X (.Call (.Attribute o m apos) [] [] pos) (O1 C m sp [] E0 ta Vl):=Mf he c.c (g.me hm) F (hr.mono hk) g.b .nil gB ht
theorem gN {sc:Scope} (S:fY X.N ps sc) (i:Nat) (hi:X.N[i]?=some x:=by rfl) (hx:Loc X.env.scope x:=by first | exact Or.inl rfl | exact Or.inr rfl) (hf:X.fn x=true∨X.env.scope.names.lookup x=some .local:=by first | exact .inl rfl | exact .inr rfl | assumption):PG X (.Name x pos) (Bk i):=wU S.nd hi hx hf
theorem sN {sc:Scope} (S:fY X.N ps sc) (i:Nat) (he:PE X e te) (hi:X.N[i]?=some x:=by rfl) (hx:Loc X.env.scope x:=by first | exact Or.inl rfl | exact Or.inr rfl) (hs:swapsWith e (some (.Name x pos')) pos.line X.env=pure false:=by rfl) (hf:X.fn x=true∨X.env.scope.names.lookup x=some .local:=by first | exact .inl rfl | exact .inr rfl | assumption):
  PS X (.Assign [.Name x pos'] e pos) (Sq te (Bk i)):=Y7 S.nd hi hx he hs hf
theorem Ut (h1:PE X o ta) (h2:PA X (e:: es) t) (hbase:attributeBase o "append" X.env (eval o X.env)=eval o X.env:=by rfl)
  (hfew:((backTo pos (starEach (e:: es) X.env)).all (λx=>!x.1) && (backToKw pos (keywordEach [] X.env)).all (λx=>x.1.isSome) && decide ((e:: es).length+([]:List Keyword).length+(if ([]:List Keyword).isEmpty then 0 else 1) <30))=true:=by rfl)
  (hline:(apos.endLine == pos.line)=true:=by rfl) (hs:starEach (e:: es) X.env=(false,eval e X.env):: starEach es X.env:=by rfl) (hplain:(backTo pos (starEach es X.env)).any (·.1)=false:=by rfl):
  PE X (.Call (.Attribute o "append" apos) (e:: es) [] pos) (tBM X.K "list" Pz ta t):=Rz PySem.F.plainAttrs_list PySem.F.slot_list_append PySem.F.type_list_append Qq h1 h2 hbase hfew hline hs hplain
end
theorem ln {sp:Sp} {ps:List Str} (h:∀vs H Q E,sp vs H Q E->vs.length=ps.length:=by
 intro _ _ _ _ h
 first
 | (cases h;subst_vars;rfl)
 | (cases h;rename_i h;cases h;subst_vars;rfl)
 | (obtain⟨_,rfl,_⟩:=h;rfl)
 | (obtain⟨_,_,rfl,_⟩:=h;rfl)
 | (obtain⟨_,_,_,rfl,_⟩:=h;rfl)):∀vs H Q E,sp vs H Q E->vs.length=ps.length:=h
theorem QV {X:Cx} {K:PySem.W.Frag} (hK:X.K=K):lK X (.builtin "len") (λxs H Q=>∃x n,xs=[x]/\YW K x H n/\Q (V.int (n:Nat)) H):=by subst hK;exact b8
end L2
namespace PySem
open PyProof.Rows
section
variable {prog:Program} {w:World} {A:Around} {R:Result->Shared->Prop} {I:Addr} {fp wr:List Addr} {G:Array GenState->Array GenState->Prop} {n:Nat} {P:Nat->Value->Prop} {St:Nat->Shared->Prop} {KK:Type} [DecidableEq KK] {knd:KeyKind prog w KK}
end
section
variable {prog:Program} {w:World} {A:Around} {E:Value->Shared->Prop} {s:Shared} {KK:Type} [DecidableEq KK] {knd:KeyKind prog w KK}
end
end PySem
namespace L2
open PySem PySem.Spec PyProof.Rows
section
variable {prog:Program} {w:World} {A:Around}
end
theorem Jb.binds1 {K:PySem.W.Frag} {x qual:Str} {st:Stmt} {f:Addr} {fd:FuncData} {ps:List Str} {n:Nat} (F:Jb K x qual st f fd #[.none]) (hn:n+1=ps.length)
  (h:∀(T:Addr) (kV doc pm:Value) (an:Option Addr) (cdv ct:Value) (us:List Value),us.length=n->∃k,bindArgs (PySem.W.fnOf x qual (gw st) (fJ st) (aX st) (.ref T) kV doc pm an cdv ct) ⟨us,[]⟩=seqItems? (.ref T) >>= k/\k (some #[.none])=pure (ps.zip (us ++ [.none]))):Binds K fd ps [.none]:=by
 obtain⟨oc,od,T,kV,doc,pm,an,cdv,ct,osl,o,m,rfl,lk,hcd,hT,ho⟩:=F.ex
 intro s us X hl
 rw [List.length_append,List.length_singleton] at hl
 obtain⟨k,h1,h2⟩:=h T kV doc pm an cdv ct us (by omega)
 exact .of_defaults rfl (X _ _ hT) ho h1 h2
theorem XJ.b1 {K:PySem.W.Frag} {nm qn:Str} {s:Stmt} {f:Addr} {ps:List Str} {n:Nat} (x:XJ K nm qn s f ps)
  (h:∀(T:Addr) (kV doc pm:Value) (an:Option Addr) (cdv ct:Value) (us:List Value),us.length=n->∃k,bindArgs (PySem.W.fnOf nm qn (gw s) (fJ s) (aX s) (.ref T) kV doc pm an cdv ct) ⟨us,[]⟩=seqItems? (.ref T) >>= k/\k (some #[.none])=pure (ps.zip (us ++ [.none]))) (hn:n+1=ps.length:=by rfl):Binds K (fdOf K f) ps [.none]:=x.F.binds1 hn h
end L2
namespace One
open PySem PySem.W PySem.Calls PyProof.Rows
def G9:Nat->BT->List Obj->BT
 | _,t,[]=>t
 | n,t,o:: r=>G9 (n+1) (t.ins n o) r
def Jq:Nat->BT->List Obj->Bool
 | _,_,[]=>true
 | n,t,o:: r=>((t.ins n o).get n).isSome && Jq (n+1) (t.ins n o) r
theorem Ih {life:Life}:∀(l:List Obj) (n:Nat) (t:BT) (as:List Obj),absHeap t n life=⟨as.toArray,life⟩->Jq n t l=true->absHeap (G9 n t l) (n+l.length) life=⟨(as ++ l).toArray,life⟩
 | [],n,t,as,h,_=>by simpa [G9] using h
 | o:: r,n,t,as,h,k=>by
  simp only [Jq,Bool.and_eq_true] at k
  have e:=absHeap_ins (life:=life) k.1
  rw [h] at e
  have:=Ih r (n+1) (t.ins n o) (as ++ [o]) (by rw [e];simp [Heap.push]) k.2
  rw [List.append_assoc] at this
  rw [List.length_cons,show n+(r.length+1)=n+1+r.length by omega]
  exact this
def goT (tb:String->Option Builtin) (p:Program) (w:World) (m:Nat) (an:Option Value):Nat->SharedT->Thread->Option (SharedT×Thread)
 | 0,s,t=>some (s,t)
 | n+1,s,t=>match through t with
  | true=>some (s,t)
  | false=>match stepOk m an t with
   | false=>none
   | true=>match stepT (denote tb) p w s t with
    | some (s',t')=>goT tb p w m an n s' t'
    | none=>none
theorem RP {tb:String->Option Builtin} {p:Program} {w:World} {m:Nat} {an:Option Value}:∀{n:Nat} {s s':SharedT} {t t':Thread},goT tb p w m an n s t=some (s',t')->through t'=true->topRun tb p w m an (n+1) s.abs t=some s'.abs
 | 0,s,s',t,t',h,z=>by
  obtain⟨rfl,rfl⟩:=Prod.mk.inj (Option.some.inj h)
  unfold topRun
  rw [z]
 | n+1,s,s',t,t',h,z=>by
  unfold goT at h
  unfold topRun
  cases e1:through t with
  | true=>
   rw [e1] at h
   obtain⟨rfl,rfl⟩:=Prod.mk.inj (Option.some.inj h)
   rfl
  | false=>
   rw [e1] at h
   cases e2:stepOk m an t with
   | false=>rw [e2] at h;cases h
   | true=>
    rw [e2] at h
    cases e3:stepT (denote tb) p w s t with
    | none=>rw [e3] at h;cases h
    | some r=>
     obtain⟨s2,t2⟩:=r
     rw [e3] at h
     rw [stepT_spec e3]
     exact RP h z
def ends (r:SharedT×Thread):Option SharedT:=match through r.2 with
 | true=>some r.1
 | false=>none
theorem Wf {tb:String->Option Builtin} {p:Program} {w:World} {m:Nat} {an:Option Value} {n:Nat} {s s':SharedT} {t:Thread} (h:(goT tb p w m an n s t).bind ends=some s'):topRun tb p w m an (n+1) s.abs t=some s'.abs:=by
 obtain⟨⟨s2,t2⟩,e1,e2⟩:=Option.bind_eq_some_iff.mp h
 unfold ends at e2
 cases z:through t2 with
 | false=>simp only [z] at e2;cases e2
 | true=>
  simp only [z] at e2
  cases e2
  exact RP e1 z
noncomputable def aam (P:Params):Option Value:=(boot_heap P).nsMap mainGlobals "__annotations__"
noncomputable def S0 (w:World) (os:OsState):SharedT:=⟨G9 0 .nil (boot_heap w.params).objs.toList,11,{},Array.mk [],boot_drawn,boot_toks,os⟩
theorem Yu (w:World) (os:OsState):(S0 w os).abs=⟨boot_heap w.params,Array.mk [],boot_drawn,boot_toks,os⟩:=by
 have e:=Ih (life:={}) (boot_heap w.params).objs.toList 0 .nil [] rfl (by rfl)
 have e2:absHeap (G9 0 .nil (boot_heap w.params).objs.toList) 11 {}=boot_heap w.params:=e
 show(⟨absHeap (G9 0 .nil (boot_heap w.params).objs.toList) 11 {},_,_,_,_⟩:Shared)=_
 rw [e2]
 rfl
noncomputable def Zk (p:Program) (M:Nat) (w:World) (os:OsState):Option SharedT:=(goT treeTable p w 11 (aam w.params) M (S0 w os) (topStub p)).bind ends
noncomputable def RK (p q:Program) (loose:List Str) (Xt:Shared->Bool) (M:Nat) (w:World) (os:OsState):=
 (Zk p M w os).map λs=>(staticsOk (importedModules p.main.body) (boot_heap w.params) s.abs.heap && namesBound p s.abs.heap && gensDone s.abs && laidKept (boot_heap w.params) s.abs.heap,openSeen q loose (importedModules p.main.body) Xt true s.abs)
theorem WN {p q:Program} {loose:List Str} {Xt:Shared->Bool} {α:Type} {Yf:Shared->α} {Ya:World->α} {N M:Nat} (e:opening p=plainProg p.main.scope.names) (hN:Nat.ble 600 N=true) (f:∀s,fenceModules? p s=some s) (le:Nat.ble (M+1) N=true)
  (A:∀w os,RK p q loose Xt M w os=some (true,openGood q loose)) (B:∀w os,(Zk p M w os).map (λs=>Yf s.abs)=some (Ya w)):LeftO p q loose Xt Yf Ya N:=λw=>by
 obtain⟨⟨h,gs,d,k,os⟩,e1,e2⟩:=Option.map_eq_some_iff.mp (boot_open e hN f w)
 obtain⟨rfl,rfl,rfl,rfl⟩:h=boot_heap w.params/\gs=Array.mk []/\d=boot_drawn/\k=boot_toks:=by simpa using e2
 obtain⟨s1,r1,l1⟩:=Option.map_eq_some_iff.mp (A w os)
 obtain⟨s2,r2,l2⟩:=Option.map_eq_some_iff.mp (B w os)
 rw [r1] at r2
 cases r2
 obtain⟨l3,l4⟩:=Prod.mk.inj l1
 have r3:=Wf r1
 rw [Yu] at r3
 have r4:=topRun_mono (N - (M+1)) _ _ _ _ r3
 rw [show M+1+(N - (M+1))=N by have:=Nat.le_of_ble_eq_true le;omega] at r4
 have t:topFrom treeTable p w N ⟨boot_heap w.params,Array.mk [],boot_drawn,boot_toks,os⟩=some s1.abs:=by
  unfold topFrom
  have z1:((boot_heap w.params).isNs mainGlobals && (Array.mk []:Array GenState).size == 0)=true:=by kernel_rfl
  dsimp only
  rw [z1]
  show((topRun treeTable p w 11 (aam w.params) N _ _).bind _)=_
  rw [r4]
  show(match staticsOk (importedModules p.main.body) (boot_heap w.params) s1.abs.heap && namesBound p s1.abs.heap && gensDone s1.abs && laidKept (boot_heap w.params) s1.abs.heap with | true=>_ | false=>_)=_
  rw [l3]
 unfold openEnds
 rw [e1]
 show(topFrom treeTable p w N _).map _=_
 rw [t]
 exact congrArg some (Prod.ext l4 l2)
def zA (s:SharedT) (a:Addr):Option Obj:=match Nat.blt a s.n with
 | true=>(match s.tree.get a with | some o=>alive o | none=>none)
 | false=>none
theorem Rx {s:SharedT} {a:Addr} {o:Obj} (h:zA s a=some o):s.abs.heap.get? a=some o:=by
 unfold zA at h
 cases e:Nat.blt a s.n with
 | false=>rw [e] at h;cases h
 | true=>
  rw [e] at h
  cases g:s.tree.get a with
  | none=>rw [g] at h;cases h
  | some x=>
   rw [g] at h
   exact(abs_get (Nat.le_of_ble_eq_true e) g).trans h
theorem Qg {s:SharedT}:∀{as:List Addr} {l:List (Addr×Obj)},as.map (zA s)=l.map (λp=>some p.2)->as.map s.abs.heap.get?=l.map λp=>some p.2
 | [],[],_=>rfl
 | [],_:: _,h=>by cases h
 | _:: _,[],h=>by cases h
 | a:: as,x:: l,h=>by
  have h1:=List.cons.inj h
  show s.abs.heap.get? a:: as.map _=_
  rw [Rx h1.1,Qg h1.2]
  rfl
theorem chunk {o:Option SharedT} {as:List Addr} {l:List (Addr×Obj)} (n:Nat) (h1:o.map (λs=>(as.take n).map (zA s))=some ((l.take n).map λp=>some p.2)) (h2:o.map (λs=>(as.drop n).map (zA s))=some ((l.drop n).map λp=>some p.2)):
  o.map (λs=>as.map (zA s))=some (l.map λp=>some p.2):=by
 obtain⟨s,e1,e2⟩:=Option.map_eq_some_iff.mp h1
 subst e1
 have e3:=Option.some.inj h2
 show some (as.map (zA s))=_
 rw [<-List.take_append_drop n as,<-List.take_append_drop n l,List.map_append,List.map_append]
 exact congrArg some (congr (congrArg _ e2) e3)
theorem WP {o:Option SharedT} {w:World} {K:Params->Frag} {as:List Addr} {e:∀P,as=(K P).map (·.1)} (h:o.map (λs=>as.map (zA s))=some ((K w.params).map λp=>some p.2)):
  o.map (λs=>Hook.obs (kHook K as e) s.abs)=some (Hook.val (kHook K as e) w):=by
 obtain⟨s,h1,h2⟩:=Option.map_eq_some_iff.mp h
 rw [h1]
 exact congrArg some (Qg h2)
end One
namespace HD
open PySem PySem.W PySem.Calls PyProof.Rows
abbrev rr:OpenRow:=OpenLaw.row PySem.Challenge.rw_holdlane_k67_rings_by_hand
def q:Program:=view PySem.Challenge.pw_holdlane_k67_rings_by_hand [95]
def loose:List PySem.Str:=(["_wall", "LaneError", "BadWord", "TooMany", "NoKind", "BadName", "Doubled", "NoSuch", "BadNumbers", "BadLanes", "BadRoom", "Open", "Loose", "NotCalm", "BadRow", "arcs_of"]:List PySem.Str) ++ (["arcs_of_lane", "gone_round", "ring_into", "times_or_ring", "grow_times", "VALUES", "FIGURES", "LETTERS", "LONGEST_NAME", "is_whole", "is_value", "is_name", "rest", "greatest_divisor", "least_terms", "MOST_TURNS"]:List PySem.Str) ++ (["share", "tokens_of", "fraction_of", "least_tokens", "limits", "fewest_works", "most_works", "COUNTS", "Part", "Give", "Take", "Pass", "Copy", "Turn", "Heap", "Add"]:List PySem.Str) ++ (["Less", "Order", "Choose", "Split", "is_kind", "need_fit", "made_of", "part_made", "MOST_LANES", "MOST_PARTS", "MOST_ROOM", "need_counts", "need_fresh", "need_lane", "fresh_part", "tie_lanes"]:List PySem.Str) ++ (["need_ends", "joined_with", "need_joined", "row_of", "Net", "ranks_or_ring", "ranks_by", "ring_among", "Flow", "LONGEST_ROW", "is_row", "need_rows", "Run", "_law_cell", "_law_mix", "_law_ring"]:List PySem.Str) ++ (["_law_less", "_law_share"]:List PySem.Str)
def Xt (s:Shared):Bool:=xlAt q [] s && recOk (RowW.records (OpenRow.toRowW (OpenLaw.row PySem.Challenge.rw_holdlane_k67_rings_by_hand))) s
structure KA where
 K:Params->Frag
 as:List Addr
def pickK {r:OpenRow} {K:Params->Frag} {as:List Addr} (_:(∀H:Hook,(∃e,H=kHook K as e)->r.Holds)->r.Holds):KA:=⟨K,as⟩
local macro_rules | `(tactic| o_head $H)=>`(tactic| (rename_i hh;exact hh $H ⟨_,rfl⟩))
noncomputable def ka:KA:=pickK (r:=rr) (λ_=>by k_head)
theorem WY (P:Params):KA.as ka=(ka.heap_1 P).map (·.1):=by kernel_rfl
noncomputable def runC:World->OsState->Option SharedT:=λw os=>One.Zk PySem.Challenge.pw_holdlane_k67_rings_by_hand 14060 w os
noncomputable def JX:=fun(w:World) (os:OsState)=>One.RK PySem.Challenge.pw_holdlane_k67_rings_by_hand q loose Xt 14060 w os
noncomputable def Py:=some (true,openGood q loose)
theorem YD:runC=runC:=rfl
name_quick runQ for HD.runC by HD.YD
theorem Sh:JX=JX:=rfl
name_quick looksQ for HD.JX by HD.Sh
theorem Vt:Py=Py:=rfl
name_quick goodQ for HD.Py by HD.Vt
theorem A0 (w:World) (os:OsState):PySem.W.Fast.looksQ (w.withFollow "special-get-raises" false) os=PySem.W.Fast.goodQ:=by kernel_rfl
theorem abo (w:World) (os:OsState):(PySem.W.Fast.runQ (w.withFollow "special-get-raises" false) os).map (λs=>(KA.as ka).map (One.zA s))=some ((ka.heap_1 (w.withFollow "special-get-raises" false).params).map λp=>some p.2):=by kernel_rfl
theorem B0 (w:World) (os:OsState):(PySem.W.Fast.runQ (w.withFollow "special-get-raises" false) os).map (λs=>(KA.as ka).map (One.zA s))=some ((ka.heap_1 (w.withFollow "special-get-raises" false).params).map λp=>some p.2):=abo w os
theorem A1 (w:World) (os:OsState):PySem.W.Fast.looksQ (w.withFollow "special-get-raises" true) os=PySem.W.Fast.goodQ:=by kernel_rfl
theorem abl (w:World) (os:OsState):(PySem.W.Fast.runQ (w.withFollow "special-get-raises" true) os).map (λs=>(KA.as ka).map (One.zA s))=some ((ka.heap_1 (w.withFollow "special-get-raises" true).params).map λp=>some p.2):=by kernel_rfl
theorem B1 (w:World) (os:OsState):(PySem.W.Fast.runQ (w.withFollow "special-get-raises" true) os).map (λs=>(KA.as ka).map (One.zA s))=some ((ka.heap_1 (w.withFollow "special-get-raises" true).params).map λp=>some p.2):=abl w os
theorem A (w:World):∀os,JX w os=Py:=by
 rw [PySem.W.Fast.looksQ_eq,PySem.W.Fast.goodQ_eq]
 exact byRow2 "special-get-raises" (P:=λw=>∀os,PySem.W.Fast.looksQ w os=PySem.W.Fast.goodQ) A0 A1 w
theorem B (w:World):∀os,(runC w os).map (λs=>(KA.as ka).map (One.zA s))=some ((ka.heap_1 w.params).map λp=>some p.2):=by
 rw [PySem.W.Fast.runQ_eq]
 exact byRow2 "special-get-raises" (P:=λw=>∀os,(PySem.W.Fast.runQ w os).map (λs=>(KA.as ka).map (One.zA s))=some ((ka.heap_1 w.params).map λp=>some p.2)) B0 B1 w
theorem head {d:DefRec} {kwd:List (PySem.Str×Expr)}
  (hdef:defOf q rr.name=some (d,kwd)) (hp:rr.prog.theDef rr.name=some (d.params,d.body,d.scope)) (hk:kwWritten? d.params.kwonlyargs d.params.kw_defaults=some kwd) (hwr:(!rr.writes || rr.records.isEmpty)=true)
  (k1:rr.wellSaid=true) (ok:(chainsOk q && opensWell rr.prog && (frees rr.toRowW && rr.within.isEmpty))=true) (hb:rr.prog.bare) (ho:opening PySem.Challenge.pw_holdlane_k67_rings_by_hand=plainProg (PySem.Challenge.pw_holdlane_k67_rings_by_hand).main.scope.names) (f:∀s,fenceModules? PySem.Challenge.pw_holdlane_k67_rings_by_hand s=some s)
  (hw:rr.toRowW.promised) (hc:WalkO q loose (XL q []) (Hook.says (kHook ka.heap_1 (KA.as ka) WY)) rr.toRowW d kwd λf vs=>PySem.call f vs):rr.Holds:=by
 have left:LeftO PySem.Challenge.pw_holdlane_k67_rings_by_hand q loose Xt (Hook.obs (kHook ka.heap_1 (KA.as ka) WY)) (Hook.val (kHook ka.heap_1 (KA.as ka) WY)) 28700:=One.WN (M:=14060) ho rfl f rfl A λw os=>One.WP (B w os)
 exact holds_open (XP:=XL q []) (YP:=Hook.says (kHook ka.heap_1 (KA.as ka) WY)) left (Hook.of _) (Hook.keeps _) (λs z=>xl_of s (Bool.and_eq_true_iff.mp z).1) XL.keeps hdef hp hk (λs z=>recFacts_of (Bool.and_eq_true_iff.mp z).2) hwr k1 ok hb hw hc
end HD
namespace K67
open PySem L2
theorem lM {α β:Type} {f:α->β} {l:List α}:(l.map f).length=l.length:=List.length_map ..
theorem lP {α:Type} {l m:List α}:(l ++ m).length=l.length+m.length:=List.length_append ..
theorem rJ {n:Nat} (h:Nat.ble n 16777216=true:=by rfl):n<=sizeLine:=by rw [sizeLine_eq];exact Nat.le_of_ble_eq_true h
noncomputable def top (i:Nat):Stmt:=PySem.Challenge.pw_holdlane_k67_rings_by_hand.main.body.getD i (.Pass ⟨0,0,0,0⟩)
set_option genInjectivity false in
structure jw where
 (Ej Ec bJ u5 uQ uX vf vO vH yg uV tV qi sX Ik El Hj BL RD cg lV cu cQ uc qF qu qy qj sr qJ oE mq oU qt qx Ga Bt Ib xT zy BJ yW Bg Bv xj xG jX jW iV vA u0 iw qC nQ n8 oA qI z7 oJ uK Hw zp Bo yM uy oZ xY Bs xZ vo Om Ef zc uz sZ vW jV sy nW u9 Ba lZ my mj wA jR yj Kv BP oH wk zP Kc BX Bl yX XD NT M7 NZ Nr Nb MF UW M5 JP EY Jv dD bU ou yR:Addr)
noncomputable abbrev ROWS:List (Str×List Int):=[("give",[0,0,1]),("take",[0,1,0]),("pass",[0,1,1]),("copy",[0,1,2]),("turn",[2,1,1]),("heap",[1,1,1]),("add",[0,2,1]),("less",[0,2,1]),("order",[0,2,2]),("choose",[0,3,1]),("split",[0,2,2])]
structure Txt (w:World) (K:PySem.W.Frag) (mg:Str->Option Value) (t:jw):Prop where
 ig:J9 K mg "Give" t.NT [("__init__",t.bJ),("kind",t.u5),("taking",t.cg),("lacks",t.cu),("worked",t.qt),("start",t.cQ)] ["name", "numbers", "ins", "outs"]
 iG:J9 K mg "Take" t.M7 [("__init__",t.bJ),("kind",t.uQ),("taking",t.cg),("lacks",t.cu),("worked",t.qx),("start",t.cQ)] ["name", "numbers", "ins", "outs"]
 iH:J9 K mg "Pass" t.NZ [("__init__",t.bJ),("kind",t.uX),("taking",t.cg),("lacks",t.cu),("worked",t.qF),("start",t.cQ)] ["name", "numbers", "ins", "outs"]
 iJ:J9 K mg "Copy" t.Nr [("__init__",t.bJ),("kind",t.vf),("taking",t.cg),("lacks",t.cu),("worked",t.qu),("start",t.cQ)] ["name", "numbers", "ins", "outs"]
 iI:J9 K mg "Turn" t.Nb [("__init__",t.bJ),("kind",t.vO),("taking",t.cg),("lacks",t.cu),("worked",t.qy),("start",t.cQ)] ["name", "numbers", "ins", "outs"]
 iD:J9 K mg "Heap" t.MF [("__init__",t.bJ),("kind",t.vH),("taking",t.cg),("lacks",t.cu),("worked",t.qj),("start",t.uc)] ["name", "numbers", "ins", "outs"]
 lO:J9 K mg "Add" t.UW [("__init__",t.bJ),("kind",t.yg),("taking",t.cg),("lacks",t.cu),("worked",t.sr),("start",t.cQ)] ["name", "numbers", "ins", "outs"]
 iB:J9 K mg "Less" t.M5 [("__init__",t.bJ),("kind",t.uV),("taking",t.cg),("lacks",t.cu),("worked",t.qJ),("start",t.cQ)] ["name", "numbers", "ins", "outs"]
 fK:J9 K mg "Order" t.JP [("__init__",t.bJ),("kind",t.tV),("taking",t.cg),("lacks",t.cu),("worked",t.oE),("start",t.cQ)] ["name", "numbers", "ins", "outs"]
 dM:J9 K mg "Choose" t.EY [("__init__",t.bJ),("kind",t.qi),("taking",t.lV),("lacks",t.cu),("worked",t.mq),("start",t.cQ)] ["name", "numbers", "ins", "outs"]
 fD:J9 K mg "Split" t.Jv [("__init__",t.bJ),("kind",t.sX),("taking",t.cg),("lacks",t.cu),("worked",t.oU),("start",t.cQ)] ["name", "numbers", "ins", "outs"]
 aR:J9 K mg "Net" t.dD [("__init__",t.oJ),("lane_names",t.jX),("part_names",t.jW),("odd",t.z7),("names_of_kind",t.iV),("gives",t.vA),("takes",t.u0),("need_lane_name",t.iw),("room_of",t.qC),("first_of",t.nQ),("giver_of",t.n8),("taker_of",t.oA),("part_of",t.qI)] ["rooms", "firsts", "parts", "givers", "takers"]
 aV:J9 K mg "Flow" t.bU [("__init__",t.lZ),("holds",t.sZ),("head",t.vW),("row_ended",t.jV),("heads",t.sy),("lacking",t.nW),("deed",t.u9),("do",t.Ba)] ["net", "ever", "gone", "kept", "done", "rows"]
 dF:J9 K mg "Run" t.ou [("__init__",t.oH),("full_lane",t.my),("next_deed",t.mj),("need_doors",t.jR),("step",t.yj),("works",t.wA)] ["net", "flow", "turns"]
 oN:lR K mg "is_whole" (top 30) t.Ej ["thing"]
 nC:lR K mg "is_value" (top 31) t.Ec ["thing"]
 aW:dI K "__init__" "Part.__init__" (inClass (top 47) 0) t.bJ ["self", "name", "numbers", "ins", "outs"]
 p6:dI K "kind" "Give.kind" (inClass (top 48) 0) t.u5 ["self"]
 pZ:dI K "kind" "Take.kind" (inClass (top 49) 0) t.uQ ["self"]
 pP:dI K "kind" "Pass.kind" (inClass (top 50) 0) t.uX ["self"]
 pQ:dI K "kind" "Copy.kind" (inClass (top 51) 0) t.vf ["self"]
 pG:dI K "kind" "Turn.kind" (inClass (top 52) 0) t.vO ["self"]
 qb:dI K "kind" "Heap.kind" (inClass (top 53) 0) t.vH ["self"]
 sY:dI K "kind" "Add.kind" (inClass (top 54) 0) t.yg ["self"]
 pR:dI K "kind" "Less.kind" (inClass (top 55) 0) t.uV ["self"]
 mV:dI K "kind" "Order.kind" (inClass (top 56) 0) t.tV ["self"]
 j9:dI K "kind" "Choose.kind" (inClass (top 57) 0) t.qi ["self"]
 mX:dI K "kind" "Split.kind" (inClass (top 58) 0) t.sX ["self"]
 wX:lR K mg "is_kind" (top 59) t.Ik ["word"]
 yu:lR K mg "need_fit" (top 60) t.El ["kind", "name", "numbers", "ins", "outs"]
 Hg:lR K mg "made_of" (top 61) t.Hj ["kind", "name", "numbers", "ins", "outs"]
 Ca:lR K mg "part_made" (top 62) t.BL ["kind", "name", "numbers", "ins", "outs"]
 Ft:lR K mg "rest" (top 33) t.RD ["number"]
 bh:dI K "taking" "Part.taking" (inClass (top 47) 4) t.cg ["self", "heads"]
 jf:dI K "taking" "Choose.taking" (inClass (top 57) 1) t.lV ["self", "heads"]
 bj:dI K "lacks" "Part.lacks" (inClass (top 47) 3) t.cu ["self", "heads"]
 bA:dI K "start" "Part.start" (inClass (top 47) 2) t.cQ ["self"]
 mY:dI K "start" "Heap.start" (inClass (top 53) 1) t.uc ["self"]
 j5:dI K "worked" "Pass.worked" (inClass (top 50) 1) t.qF ["self", "values", "kept"]
 km:dI K "worked" "Copy.worked" (inClass (top 51) 1) t.qu ["self", "values", "kept"]
 j4:dI K "worked" "Turn.worked" (inClass (top 52) 1) t.qy ["self", "values", "kept"]
 jZ:dI K "worked" "Heap.worked" (inClass (top 53) 2) t.qj ["self", "values", "kept"]
 m5:dI K "worked" "Add.worked" (inClass (top 54) 1) t.sr ["self", "values", "kept"]
 kh:dI K "worked" "Less.worked" (inClass (top 55) 1) t.qJ ["self", "values", "kept"]
 jD:dI K "worked" "Order.worked" (inClass (top 56) 1) t.oE ["self", "values", "kept"]
 jh:dI K "worked" "Choose.worked" (inClass (top 57) 2) t.mq ["self", "values", "kept"]
 jF:dI K "worked" "Split.worked" (inClass (top 58) 1) t.oU ["self", "values", "kept"]
 j7:dI K "worked" "Give.worked" (inClass (top 48) 1) t.qt ["self", "values", "kept"]
 kJ:dI K "worked" "Take.worked" (inClass (top 49) 1) t.qx ["self", "values", "kept"]
 jq:lR K mg "_law_mix" (top 91) t.Ga ["_law_cell_here", "_law_k"]
 kW:lR K mg "_law_cell" (top 90) t.Bt ["_law_script", "_law_k"]
 Ac:lR K mg "is_name" (top 32) t.Ib ["thing"]
 qd:lR K mg "need_counts" (top 67) t.xT ["lanes", "parts"]
 mW:lR K mg "need_fresh" (top 68) t.zy ["name", "known"]
 uO:lR K mg "need_lane" (top 69) t.BJ ["name", "room", "first"]
 sO:lR K mg "fresh_part" (top 70) t.yW ["row", "known"]
 pU:lR K mg "tie_lanes" (top 71) t.Bg ["part", "lanes", "rooms", "ends"]
 vz:lR K mg "need_ends" (top 72) t.Bv ["rooms", "givers", "takers"]
 ql:lR K mg "joined_with" (top 73) t.xj ["part", "givers", "takers"]
 qe:lR K mg "need_joined" (top 74) t.xG ["names", "givers", "takers"]
 gj:dI K "lane_names" "Net.lane_names" (inClass (top 76) 1) t.jX ["self"]
 cj:dI K "part_names" "Net.part_names" (inClass (top 76) 2) t.jW ["self"]
 fW:dI K "names_of_kind" "Net.names_of_kind" (inClass (top 76) 5) t.iV ["self", "kind"]
 lA:dI K "gives" "Net.gives" (inClass (top 76) 3) t.vA ["self"]
 vD:dI K "takes" "Net.takes" (inClass (top 76) 4) t.u0 ["self"]
 cZ:dI K "need_lane_name" "Net.need_lane_name" (inClass (top 76) 12) t.iw ["self", "name"]
 j0:dI K "room_of" "Net.room_of" (inClass (top 76) 7) t.qC ["self", "name"]
 jC:dI K "first_of" "Net.first_of" (inClass (top 76) 8) t.nQ ["self", "name"]
 oK:dI K "giver_of" "Net.giver_of" (inClass (top 76) 9) t.n8 ["self", "name"]
 oF:dI K "taker_of" "Net.taker_of" (inClass (top 76) 10) t.oA ["self", "name"]
 gQ:dI K "part_of" "Net.part_of" (inClass (top 76) 11) t.qI ["self", "name"]
 Ao:dI K "odd" "Net.odd" (inClass (top 76) 6) t.z7 ["self"]
 jE:dI K "__init__" "Net.__init__" (inClass (top 76) 0) t.oJ ["self", "lanes", "parts"]
 oX:lR K mg "arcs_of_lane" (top 18) t.uK ["net", "lane"]
 wQ:lR K mg "arcs_of" (top 17) t.Hw ["net"]
 rW:lR K mg "gone_round" (top 20) t.zp ["start", "leads"]
 pI:lR K mg "ring_into" (top 21) t.Bo ["start", "into"]
 tO:lR K mg "grow_times" (top 24) t.yM ["times", "into", "arcs", "wish"]
 jc:lR K mg "times_or_ring" (top 23) t.uy ["names", "arcs", "wish"]
 ji:lR K mg "greatest_divisor" (top 34) t.oZ ["one", "other"]
 qw:lR K mg "least_terms" (top 35) t.xY ["top", "bottom"]
 pK:lR K mg "tokens_of" (top 39) t.Bs ["ring"]
 iY:lR K mg "fraction_of" (top 40) t.xZ ["ring"]
 o7:lR K mg "least_tokens" (top 41) t.vo ["arcs", "start"]
 Jw:lR K mg "share" (top 38) t.Om ["net"]
 yr:lR K mg "ranks_by" (top 79) t.Ef ["names", "bare"]
 tX:lR K mg "ring_among" (top 80) t.zc ["names", "bare"]
 lY:lR K mg "ranks_or_ring" (top 78) t.uz ["net"]
 mO:dI K "holds" "Flow.holds" (inClass (top 82) 1) t.sZ ["self", "lane"]
 vU:dI K "head" "Flow.head" (inClass (top 82) 5) t.vW ["self", "lane"]
 jU:dI K "row_ended" "Flow.row_ended" (inClass (top 82) 8) t.jV ["self", "name"]
 mU:dI K "heads" "Flow.heads" (inClass (top 82) 6) t.sy ["self", "part"]
 o6:dI K "lacking" "Flow.lacking" (inClass (top 82) 7) t.nW ["self", "name"]
 uR:dI K "deed" "Flow.deed" (inClass (top 82) 9) t.u9 ["self", "name"]
 Bf:dI K "do" "Flow.do" (inClass (top 82) 10) t.Ba ["self", "name", "deed"]
 je:dI K "__init__" "Flow.__init__" (inClass (top 82) 0) t.lZ ["self", "net", "rows"]
 mz:dI K "full_lane" "Run.full_lane" (inClass (top 88) 4) t.my ["self", "deed"]
 lU:dI K "next_deed" "Run.next_deed" (inClass (top 88) 3) t.mj ["self", "name"]
 ww:dI K "works" "Run.works" (inClass (top 88) 6) t.wA ["self", "name"]
 jQ:dI K "need_doors" "Run.need_doors" (inClass (top 88) 2) t.jR ["self", "names"]
 yq:XJ K "step" "Run.step" (inClass (top 88) 1) t.yj ["self", "held"]
 DW:lR K mg "is_row" (top 85) t.Kv ["thing"]
 uI:lR K mg "need_rows" (top 86) t.BP ["net", "rows"]
 jJ:dI K "__init__" "Run.__init__" (inClass (top 88) 0) t.oH ["self", "net", "rows"]
 oR:lR K mg "fewest_works" (top 43) t.wk ["paper", "part", "turns"]
 tZ:lR K mg "most_works" (top 44) t.zP ["paper", "part", "turns"]
 Et:lR K mg "limits" (top 42) t.Kc ["paper", "part", "turns"]
 vh:lR K mg "_law_ring" (top 92) t.BX ["_law_script"]
 lz:lR K mg "_law_less" (top 93) t.Bl ["_law_one", "_law_other"]
 tE:lR K mg "_law_share" (top 94) t.yX ["_law_lanes"]
 Ox:lR K mg "law" (top 95) t.XD ["_law_script"]
 HR:mg "COUNTS" =some (.ref t.yR)
 Ks:KTab w K t.yR ROWS
 PJ:mg "all" =none
 Zf:mg "bool" =none
 Z2:mg "int" =none
 mK:mg "isinstance" =none
 iy:mg "len" =none
 uY:mg "list" =none
 Sd:mg "max" =none
 aaD:mg "min" =none
 wM:mg "range" =none
 Nm:mg "reversed" =none
 Ma:mg "str" =none
 S9:mg "sum" =none
 CW:mg "tuple" =none
 Ms:∃u,mg "VALUES" =some u/\RelV (.int 1000000000) u
 Hm:∃u,mg "LETTERS" =some u/\RelV (.str "abcdefghijklmnopqrstuvwxyz") u
 FT:∃u,mg "LONGEST_NAME" =some u/\RelV (.int 8) u
 QQ:∃u,mg "FIGURES" =some u/\RelV (.str "0123456789") u
 JQ:∃u,mg "MOST_LANES" =some u/\RelV (.int 24) u
 Iv:∃u,mg "MOST_PARTS" =some u/\RelV (.int 16) u
 Kh:∃u,mg "MOST_ROOM" =some u/\RelV (.int 199) u
 Gs:∃u,mg "LONGEST_ROW" =some u/\RelV (.int 300) u
 Im:∃u,mg "MOST_TURNS" =some u/\RelV (.int 300) u
section
variable {P:Program} {w:World} {K:PySem.W.Frag} {mg:Str->Option Value} {base:Heap} {t:jw}
noncomputable def fQ (i:Nat):Str:=match i with
 | 0=> "give"
 | 1=> "take"
 | 2=> "pass"
 | 3=> "copy"
 | 4=> "turn"
 | 5=> "heap"
 | 6=> "add"
 | 7=> "less"
 | 8=> "order"
 | 9=> "choose"
 | _=> "split"
noncomputable def cN (i:Nat):Nat:=match i with
 | 0=>0
 | 1=>0
 | 2=>0
 | 3=>0
 | 4=>2
 | 5=>1
 | 6=>0
 | 7=>0
 | 8=>0
 | 9=>0
 | _=>0
noncomputable def cI (i:Nat):Nat:=match i with
 | 0=>0
 | 1=>1
 | 2=>1
 | 3=>1
 | 4=>1
 | 5=>1
 | 6=>2
 | 7=>2
 | 8=>2
 | 9=>3
 | _=>2
noncomputable def cO (i:Nat):Nat:=match i with
 | 0=>1
 | 1=>0
 | 2=>1
 | 3=>2
 | 4=>1
 | 5=>1
 | 6=>1
 | 7=>1
 | 8=>2
 | 9=>1
 | _=>2
noncomputable def cls (t:jw) (i:Nat):Addr:=match i with
 | 0=>t.NT
 | 1=>t.M7
 | 2=>t.NZ
 | 3=>t.Nr
 | 4=>t.Nb
 | 5=>t.MF
 | 6=>t.UW
 | 7=>t.M5
 | 8=>t.JP
 | 9=>t.EY
 | _=>t.Jv
theorem row_of (i:Nat):rowOf ROWS (fQ i)=some [((cN i:Nat):Int),((cI i:Nat):Int),((cO i:Nat):Int)]:=match i with
 | 0=>by show rowOf ROWS "give" =some [0,0,1];decide +kernel
 | 1=>by show rowOf ROWS "take" =some [0,1,0];decide +kernel
 | 2=>by show rowOf ROWS "pass" =some [0,1,1];decide +kernel
 | 3=>by show rowOf ROWS "copy" =some [0,1,2];decide +kernel
 | 4=>by show rowOf ROWS "turn" =some [2,1,1];decide +kernel
 | 5=>by show rowOf ROWS "heap" =some [1,1,1];decide +kernel
 | 6=>by show rowOf ROWS "add" =some [0,2,1];decide +kernel
 | 7=>by show rowOf ROWS "less" =some [0,2,1];decide +kernel
 | 8=>by show rowOf ROWS "order" =some [0,2,2];decide +kernel
 | 9=>by show rowOf ROWS "choose" =some [0,3,1];decide +kernel
 | n+10=>by show rowOf ROWS "split" =some [0,2,2];decide +kernel
theorem ir (T:Txt w K mg t) (i:Nat):Qj K (cls t i):=match i with
 | 0=>T.ig.c
 | 1=>T.iG.c
 | 2=>T.iH.c
 | 3=>T.iJ.c
 | 4=>T.iI.c
 | 5=>T.iD.c
 | 6=>T.lO.c
 | 7=>T.iB.c
 | 8=>T.fK.c
 | 9=>T.dM.c
 | n+10=>T.fD.c
theorem CG (T:Txt w K mg t) (i:Nat):oO K (cls t i) "name" :=match i with
 | 0=>T.ig.na.1
 | 1=>T.iG.na.1
 | 2=>T.iH.na.1
 | 3=>T.iJ.na.1
 | 4=>T.iI.na.1
 | 5=>T.iD.na.1
 | 6=>T.lO.na.1
 | 7=>T.iB.na.1
 | 8=>T.fK.na.1
 | 9=>T.dM.na.1
 | n+10=>T.fD.na.1
theorem rQ (T:Txt w K mg t) (i:Nat):oO K (cls t i) "numbers" :=match i with
 | 0=>T.ig.na.2.1
 | 1=>T.iG.na.2.1
 | 2=>T.iH.na.2.1
 | 3=>T.iJ.na.2.1
 | 4=>T.iI.na.2.1
 | 5=>T.iD.na.2.1
 | 6=>T.lO.na.2.1
 | 7=>T.iB.na.2.1
 | 8=>T.fK.na.2.1
 | 9=>T.dM.na.2.1
 | n+10=>T.fD.na.2.1
theorem Bc (T:Txt w K mg t) (i:Nat):oO K (cls t i) "ins" :=match i with
 | 0=>T.ig.na.2.2.1
 | 1=>T.iG.na.2.2.1
 | 2=>T.iH.na.2.2.1
 | 3=>T.iJ.na.2.2.1
 | 4=>T.iI.na.2.2.1
 | 5=>T.iD.na.2.2.1
 | 6=>T.lO.na.2.2.1
 | 7=>T.iB.na.2.2.1
 | 8=>T.fK.na.2.2.1
 | 9=>T.dM.na.2.2.1
 | n+10=>T.fD.na.2.2.1
theorem JN (T:Txt w K mg t) (i:Nat):oO K (cls t i) "outs" :=match i with
 | 0=>T.ig.na.2.2.2.1
 | 1=>T.iG.na.2.2.2.1
 | 2=>T.iH.na.2.2.2.1
 | 3=>T.iJ.na.2.2.2.1
 | 4=>T.iI.na.2.2.2.1
 | 5=>T.iD.na.2.2.2.1
 | 6=>T.lO.na.2.2.2.1
 | 7=>T.iB.na.2.2.2.1
 | 8=>T.fK.na.2.2.2.1
 | 9=>T.dM.na.2.2.2.1
 | n+10=>T.fD.na.2.2.2.1
theorem aak (i:Nat):cN i<=2:=match i with
 | 0=>by show 0<=2;decide
 | 1=>by show 0<=2;decide
 | 2=>by show 0<=2;decide
 | 3=>by show 0<=2;decide
 | 4=>by show 2<=2;decide
 | 5=>by show 1<=2;decide
 | 6=>by show 0<=2;decide
 | 7=>by show 0<=2;decide
 | 8=>by show 0<=2;decide
 | 9=>by show 0<=2;decide
 | n+10=>by show 0<=2;decide
theorem GD (i:Nat):cI i<=3:=match i with
 | 0=>by show 0<=3;decide
 | 1=>by show 1<=3;decide
 | 2=>by show 1<=3;decide
 | 3=>by show 1<=3;decide
 | 4=>by show 1<=3;decide
 | 5=>by show 1<=3;decide
 | 6=>by show 2<=3;decide
 | 7=>by show 2<=3;decide
 | 8=>by show 2<=3;decide
 | 9=>by show 3<=3;decide
 | n+10=>by show 2<=3;decide
theorem X3 (i:Nat):cO i<=2:=match i with
 | 0=>by show 1<=2;decide
 | 1=>by show 0<=2;decide
 | 2=>by show 1<=2;decide
 | 3=>by show 2<=2;decide
 | 4=>by show 1<=2;decide
 | 5=>by show 1<=2;decide
 | 6=>by show 1<=2;decide
 | 7=>by show 1<=2;decide
 | 8=>by show 2<=2;decide
 | 9=>by show 1<=2;decide
 | n+10=>by show 2<=2;decide
theorem gH {f:Str} {y:V} {fs:List (Str×V)} {n:Nat} (h:fs.length<=n):(aD f y fs).length<=n+1:=Nat.le_trans (vX f y fs) (Nat.succ_le_succ h)
noncomputable def Eh (nm:V) (tn ti to:Addr):List (Str×V):=aD "outs" (.ref to) (aD "ins" (.ref ti) (aD "numbers" (.ref tn) (aD "name" nm [])))
theorem Aa (nm:V) (tn ti to:Addr):(Eh nm tn ti to).lookup ("name" :Str)=some nm:=by
 unfold Eh
 rw [aA,if_neg (by decide +kernel),aA,if_neg (by decide +kernel),aA,if_neg (by decide +kernel),aA,if_pos rfl]
theorem rZ (nm:V) (tn ti to:Addr):(Eh nm tn ti to).lookup ("numbers" :Str)=some (.ref tn):=by
 unfold Eh
 rw [aA,if_neg (by decide +kernel),aA,if_neg (by decide +kernel),aA,if_pos rfl]
theorem vV (nm:V) (tn ti to:Addr):(Eh nm tn ti to).lookup ("ins" :Str)=some (.ref ti):=by
 unfold Eh
 rw [aA,if_neg (by decide +kernel),aA,if_pos rfl]
theorem Hv (nm:V) (tn ti to:Addr):(Eh nm tn ti to).lookup ("outs" :Str)=some (.ref to):=by
 unfold Eh
 rw [aA,if_pos rfl]
theorem sW (nm:V) (tn ti to:Addr) {m:Str} (h1:¬m= "outs") (h2:¬m= "ins") (h3:¬m= "numbers") (h4:¬m= "name"):(Eh nm tn ti to).lookup m=none:=by
 unfold Eh
 rw [aA,if_neg h1,aA,if_neg h2,aA,if_neg h3,aA,if_neg h4]
 all_goals rfl
structure dX (K:PySem.W.Frag) (t:jw) (H:Hp) (p:Addr) (i:Nat) (nm:V) (ns is os:List V):Prop where
 ex:∃dx tn ti to,H p=some (.ins (cls t i) dx (Eh nm tn ti to))/\cP K H tn ns/\cP K H ti is/\cP K H to os
theorem dX.same {H H':Hp} {p:Addr} {i:Nat} {nm:V} {ns is os:List V} (h:dX K t H p i nm ns is os) (s:aO H H'):dX K t H' p i nm ns is os:=by
 obtain⟨dx,tn,ti,to,h1,h2,h3,h4⟩:=h
 exact⟨dx,tn,ti,to,s _ _ h1,s.seqT h2,s.seqT h3,s.seqT h4⟩
noncomputable def gY (i:Nat):Sp:=λvs H Q _=>∃x,vs=[x]/\Q (.str (fQ i)) H
noncomputable def nV (j:Nat):V:=.int (j:Nat)
inductive Val (v:V):Prop where
 | mk:∀n:Int,v=.int n->0<=n->n <1000000000->Val v
inductive Flat:PyData->Prop
 | non:Flat .none
 | int (i:Int):Flat (.int i)
noncomputable def places (i:Nat) (hs:List V):List Nat:=if i=9 then(match hs with | .int n:: _=>[0,1+(n % 2).toNat] | _=>[0]) else List.range hs.length
noncomputable def yZ (i:Nat) (hs:List V):Prop:=hs.length=cI i/\∀h∈hs,h=.non∨∃n:Int,h=.int n
noncomputable def uZ (hs:List V) (q:Nat):Bool:=decide (hs[q]?=some V.non)
noncomputable def Oz (i:Nat) (hs:List V):V:=match (places i hs).find? (uZ hs) with
 | some q=>nV q
 | none=>.non
theorem jr {i:Nat} {hs:List V} (h:yZ i hs):∀q∈places i hs,q <hs.length:=by
 intro q hq
 unfold places at hq
 by_cases hi:i=9
 ·rw [if_pos hi] at hq
  have hl:hs.length=3:=by rw [h.1,hi];rfl
  rw [hl]
  split at hq
  ·rename_i n r
   have h0:=Int.emod_nonneg n (show(2:Int)≠0 by decide)
   have h1:=Int.emod_lt_of_pos n (show(0:Int) <2 by decide)
   simp at hq
   omega
  ·simp at hq
   omega
 ·rw [if_neg hi] at hq
  simpa using hq
theorem Ph {f:Nat->Bool}:∀{l:List Nat} {j q:Nat},l[j]?=some q->(∀x∈l.take j,f x=false)->f q=true->l.find? f=some q
 | [],_,_,e,_,_=>by simp at e
 | x:: r,0,q,e,_,hq=>by
  simp at e
  subst e
  rw [List.find?_cons,hq]
 | x:: r,j+1,q,e,h,hq=>by
  have hx:f x=false:=h x (by simp)
  rw [List.find?_cons,hx]
  exact Ph (l:=r) (j:=j) (by simpa using e) (λy hy=>h y (by simp [hy])) hq
theorem Wu {f:Nat->Bool} {l:List Nat} (h:∀x∈l,f x=false):l.find? f=none:=by
 rw [List.find?_eq_none]
 intro x hx
 rw [h x hx]
 decide
inductive m9 (K:PySem.W.Frag) (t:jw) (i:Nat) (vs:List V) (H:Hp) (Q:VK) (E:XK):Prop where
 | mk:∀(p a:Addr) (nm:V) (ns is os hs:List V),vs=[.ref p,.ref a]->dX K t H p i nm ns is os->is.length=cI i->bI K H a hs->yZ i hs->(∀H' L,aO H H'->H L=none->H' L=some (.lst ((places i hs).map nV))->Q (.ref L) H')->m9 K t i vs H Q E
inductive zb (K:PySem.W.Frag) (t:jw) (i:Nat) (vs:List V) (H:Hp) (Q:VK) (E:XK):Prop where
 | mk:∀(p a:Addr) (nm:V) (ns is os hs:List V),vs=[.ref p,.ref a]->dX K t H p i nm ns is os->is.length=cI i->bI K H a hs->yZ i hs->(∀H',aO H H'->Q (Oz i hs) H')->zb K t i vs H Q E
noncomputable def g0 (l:List Int):Int:=l.getD 0 0
noncomputable def g1 (l:List Int):Int:=l.getD 1 0
noncomputable def cV (i:Nat):Nat:=match i with
 | 0=>1
 | 1=>1
 | 2=>1
 | 3=>1
 | 4=>1
 | 5=>1
 | 6=>2
 | 7=>2
 | 8=>2
 | 9=>2
 | _=>2
noncomputable def cA (i:Nat) (ns ws:List Int) (kp:Int):List (Int×Int):=match i with
 | 0=>[(0,g0 ws)]
 | 1=>[]
 | 2=>[(0,g0 ws)]
 | 3=>[(0,g0 ws),(1,g0 ws)]
 | 4=>[(0,(g0 ns * g0 ws+g1 ns) % 1000000000)]
 | 5=>[(0,(kp+g0 ws) % 1000000000)]
 | 6=>[(0,(g0 ws+g1 ws) % 1000000000)]
 | 7=>[(0,if g0 ws <g1 ws then 1 else 0)]
 | 8=>[(0,if g1 ws <g0 ws then g1 ws else g0 ws),(1,if g1 ws <g0 ws then g0 ws else g1 ws)]
 | 9=>[(0,g1 ws)]
 | _=>[(g0 ws % 2,g1 ws)]
noncomputable def gK (i:Nat) (ws:List Int) (kp:Int):Int:=if i=5 then(kp+g0 ws) % 1000000000 else kp
noncomputable def Ka (ps:List (Int×Int)):List (List V):=ps.map λp=>[.int p.1,.int p.2]
noncomputable def Zv (ws:List Int):Prop:=∀w∈ws,0<=w/\w <1000000000
inductive dU (K:PySem.W.Frag) (t:jw) (i:Nat) (vs:List V) (H:Hp) (Q:VK) (E:XK):Prop where
 | mk:∀(p a:Addr) (nm:V) (ns:List Int) (is os:List V) (ws:List Int) (kp:Int),vs=[.ref p,.ref a,.int kp]->dX K t H p i nm (ns.map V.int) is os->ns.length=cN i->bI K H a (ws.map V.int)->ws.length=cV i->Zv ws->(∀H' U L rs,aO H H'->H L=none->H' U=some (.tup [.ref L,.int (gK i ws kp)])->H' L=some (.lst (rs.map V.ref))->iW H' rs (Ka (cA i ns ws kp))->Q (.ref U) H')->dU K t i vs H Q E
theorem yS {H:Hp} {Q:VK} {a b x y:Int} (hx:x=a) (hy:y=b) (k:∀H' L rs,aO H H'->H L=none->H' L=some (.lst (rs.map V.ref))->iW H' rs (Ka [(a,b)])->Q (.ref L) H') {t0 L:Addr} (n0:H t0=none)
  (nL:(upd H t0 (.tup [.int x,.int y])) L=none):Q (.ref L) (upd (upd H t0 (.tup [.int x,.int y])) L (.lst [.ref t0])):=by
 subst hx hy
 have s0:=az (o:=.tup [.int x,.int y]) n0
 have s1:=az (o:=.lst [.ref t0]) nL
 exact k _ L [t0] (s0.trans s1) (s0.free nL) ak (.cons (s1 _ _ ak) .nil)
theorem Xv {H:Hp} {Q:VK} {a b c d x y u v:Int} (hx:x=a) (hy:y=b) (hu:u=c) (hv:v=d) (k:∀H' L rs,aO H H'->H L=none->H' L=some (.lst (rs.map V.ref))->iW H' rs (Ka [(a,b),(c,d)])->Q (.ref L) H') {t0 t1 L:Addr} (n0:H t0=none)
  (n1:(upd H t0 (.tup [.int x,.int y])) t1=none) (nL:(upd (upd H t0 (.tup [.int x,.int y])) t1 (.tup [.int u,.int v])) L=none):Q (.ref L) (upd (upd (upd H t0 (.tup [.int x,.int y])) t1 (.tup [.int u,.int v])) L (.lst [.ref t0,.ref t1])):=by
 subst hx hy hu hv
 have s0:=az (o:=.tup [.int x,.int y]) n0
 have s1:=az (o:=.tup [.int u,.int v]) n1
 have s2:=az (o:=.lst [.ref t0,.ref t1]) nL
 exact k _ L [t0,t1] (s0.trans (s1.trans s2)) (s0.free (s1.free nL)) ak (.cons (s2 _ _ (s1 _ _ ak)) (.cons (s2 _ _ ak) .nil))
theorem Fx {H:Hp} {Q:VK} {c:Int} {ps:List (Int×Int)} (k:∀H' U L rs,aO H H'->H L=none->H' U=some (.tup [.ref L,.int c])->H' L=some (.lst (rs.map V.ref))->iW H' rs (Ka ps)->Q (.ref U) H'):
  ∀H' L rs,aO H H'->H L=none->H' L=some (.lst (rs.map V.ref))->iW H' rs (Ka ps)->∀U,H' U=none->Q (.ref U) (upd H' U (.tup [.ref L,.int c])):=λH' L rs s nL eL tL U nU=>
 have s2:=az (o:=.tup [.ref L,.int c]) nU
 k _ U L rs (s.trans s2) nL ak (s2 _ _ eL) (tL.same s2)
theorem dH:(2:Nat)<=sizeLine:=by decide
theorem one_le:(1:Nat)<=sizeLine:=by decide
theorem abk {a b:Int} {ws:List Int} (h:Zv ws) (hb:b∈ws):IntMulOk a b:=.of_right (intBits_le_64 (by have:=(h b hb).1;omega) (by have:=(h b hb).2;omega))
noncomputable def IW (i:Nat) (ns:List V):V:=if i=5 then ns.headD .non else .int 0
inductive vN (K:PySem.W.Frag) (t:jw) (i:Nat) (vs:List V) (H:Hp) (Q:VK) (E:XK):Prop where
 | mk:∀(p:Addr) (nm:V) (ns is os:List V),vs=[.ref p]->dX K t H p i nm ns is os->ns.length=cN i->Q (IW i ns) H->vN K t i vs H Q E
noncomputable def YH (i:Nat) (kv:V) (ns:List V):List V:=if i=5 then [kv] else ns
inductive Eg (K:PySem.W.Frag) (t:jw) (i:Nat) (vs:List V) (H:Hp) (Q:VK) (E:XK):Prop where
 | mk:∀(p:Addr) (kv nm:V) (ns is os:List V),vs=[.ref p,kv]->i<=10->dX K t H p i nm ns is os->(∀H' q,aO H H'->H q=none->dX K t H' q i nm (YH i kv ns) is os->Q (.ref q) H')->Eg K t i vs H Q E
noncomputable def du (a b:Int):Int:=((((a % 2147483647 * 48271+7919 * b+11) % 2147483647) * ((a % 2147483647 * 48271+7919 * b+11) % 2147483647) % 2147483629+613 * b) * (((a % 2147483647 * 48271+7919 * b+11) % 2147483647) * ((a % 2147483647 * 48271+7919 * b+11) % 2147483647) % 2147483629)) % 2147483587
noncomputable def K3 (ns:List Int) (j:Nat):Int:=(ns[j]?).getD (41 * (j:Int)+3)
noncomputable def abq (a b:Int):Int:=if du a b / 7 % 3=0 then du a b % 5 else if du a b / 7 % 3=1 then du a b % 10 ^ 9 else 10 ^ 9 - 1 - du a b % 3
noncomputable def low (c:Nat):Bool:=decide (97<=c) && decide (c<=122)
noncomputable def Oj (c:Nat):Bool:=decide (48<=c) && decide (c<=57)
noncomputable def nameB (x:Str):Bool:=match x.cps.toList with
 | []=>false
 | c:: r=>decide (r.length<=7) && (low c && (c:: r).all λd=>low d || Oj d)
theorem Ag (x:Str):x.cps.toList.length=x.length:=by simp [Str.length]
noncomputable def Vp (n:Int):Nat:=97+(n % 26).toNat
theorem Jm (n:Int):low (Vp n)=true:=by
 unfold low Vp
 have h0:=Int.emod_nonneg n (show(26:Int)≠0 by decide)
 have h1:=Int.emod_lt_of_pos n (show(0:Int) <26 by decide)
 simp
 omega
noncomputable abbrev LT:Str:= "abcdefghijklmnopqrstuvwxyz"
noncomputable def mG (a:Int):List Nat:=(List.range (du a 50 % 7).toNat).map λj=>Vp (du a (60+(j:Nat)))
noncomputable def ut (a:Int):Nat:=(du a 51 % (du a 50 % 7+1)).toNat
noncomputable def Mv (n:Nat):List Nat:=(toString (Int.ofNat n):Str).cps.toList
noncomputable def Ig (a:Int) (k:Nat):List Nat:=if du a 52 % 3=0 then Vp (du a 53):: Mv (du a 54 % 1000+37 * (k:Int)).toNat else(mG a).take (ut a) ++ Vp (du a 55+k):: (mG a).drop (ut a)
noncomputable def mD (a:Int) (k:Nat):Str:=⟨(Ig a k).toArray⟩
noncomputable def TX (l:List Nat):Nat:=l.foldl (λr c=>10 * r+(c - 48)) 0
theorem V8:(List.range 2000).all (λi=>(Mv i).all Oj && decide ((Mv i).length<=4) && decide (TX (Mv i)=i))=true:=by decide +kernel
theorem z6 {n:Nat} (h:n <2000):(Mv n).all Oj=true/\(Mv n).length<=4/\TX (Mv n)=n:=by
 have z:=List.all_eq_true.mp V8 n (List.mem_range.mpr h)
 simp only [Bool.and_eq_true,decide_eq_true_eq] at z
 exact⟨z.1.1,z.1.2,z.2⟩
theorem Mi (a:Int):(mG a).length<=6/\((mG a).length:Int)=du a 50 % 7:=by
 unfold mG
 have h0:=Int.emod_nonneg (du a 50) (show(7:Int)≠0 by decide)
 have h1:=Int.emod_lt_of_pos (du a 50) (show(0:Int) <7 by decide)
 rw [lM,List.length_range]
 omega
theorem V7 (a:Int):ut a<=(mG a).length:=by
 have h:=(Mi a).2
 unfold ut
 have h0:=Int.emod_nonneg (du a 50) (show(7:Int)≠0 by decide)
 have h1:=Int.emod_lt_of_pos (du a 51) (show(0:Int) <du a 50 % 7+1 by omega)
 have h2:=Int.emod_nonneg (du a 51) (show du a 50 % 7+1≠0 by omega)
 omega
theorem DX {x:Str} {c:Nat} {r:List Nat} (e:x.cps.toList=c:: r) (h:r.length<=7) (hc:low c=true) (ha:∀d∈r,low d=true∨Oj d=true):nameB x=true:=by
 unfold nameB
 rw [e]
 simp only [Bool.and_eq_true,decide_eq_true_eq,List.all_eq_true,Bool.or_eq_true]
 refine⟨h,hc,λd hd=>?_⟩
 rcases List.mem_cons.mp hd with rfl | hd
 ·exact .inl hc
 ·exact ha d hd
theorem M9 (a:Int) (k:Nat):(mD a k).cps.toList=Ig a k:=by simp [mD]
theorem Ow (a:Int) {k:Nat} (hk:k <26):nameB (mD a k)=true:=by
 have h0:=Int.emod_nonneg (du a 54) (show(1000:Int)≠0 by decide)
 have h1:=Int.emod_lt_of_pos (du a 54) (show(0:Int) <1000 by decide)
 have e:=M9 a k
 unfold Ig at e
 split at e
 ·obtain⟨n1,n2,_⟩:=z6 (n:=(du a 54 % 1000+37 * (k:Int)).toNat) (by omega)
  exact DX e (by omega) (Jm _) λc hc=>.inr (List.all_eq_true.mp n1 c hc)
 ·have b1:=(Mi a).1
  have b2:=V7 a
  have all:∀c∈(mG a).take (ut a) ++ Vp (du a 55+k):: (mG a).drop (ut a),low c=true:=λc hc=>by
   have hb:∀c∈mG a,low c=true:=λc hc=>by
    unfold mG at hc
    obtain⟨j,_,rfl⟩:=List.mem_map.mp hc
    exact Jm _
   rcases List.mem_append.mp hc with h | h
   ·exact hb c (List.mem_of_mem_take h)
   ·rcases List.mem_cons.mp h with rfl | h
    ·exact Jm _
    ·exact hb c (List.mem_of_mem_drop h)
  have len:((mG a).take (ut a) ++ Vp (du a 55+k):: (mG a).drop (ut a)).length<=7:=by
   rw [lP,List.length_take,List.length_cons,List.length_drop]
   omega
  have ne:(mG a).take (ut a) ++ Vp (du a 55+k):: (mG a).drop (ut a)≠[]:=by simp
  generalize (mG a).take (ut a) ++ Vp (du a 55+k):: (mG a).drop (ut a)=l at all len ne e
  obtain⟨c,r,rfl⟩:=List.exists_cons_of_ne_nil ne
  rw [List.length_cons] at len
  exact DX e (by omega) (all c List.mem_cons_self) λd hd=>.inl (all d (List.mem_cons_of_mem _ hd))
theorem K9 (a:Int) {j k:Nat} (hj:j <26) (hk:k <26) (h:mD a j=mD a k):j=k:=by
 have e:Ig a j=Ig a k:=by
  have:=congrArg (λs:Str=>s.cps.toList) h
  simpa [mD] using this
 unfold Ig at e
 split at e
 ·have h0:=Int.emod_nonneg (du a 54) (show(1000:Int)≠0 by decide)
  have h1:=Int.emod_lt_of_pos (du a 54) (show(0:Int) <1000 by decide)
  have e2:=congrArg TX (List.cons.inj e).2
  rw [(z6 (by omega)).2.2,(z6 (by omega)).2.2] at e2
  omega
 ·have e2:=(List.cons.inj (List.append_cancel_left e)).1
  unfold Vp at e2
  omega
namespace Drawn
variable {S:Type}
structure il (S:Type) where
 kind:Nat
 name:S
 nums:List Int
 ins:List S
 outs:List S
structure NS (S:Type) where
 lanes:List S
 parts:List (il S)
 opens:List S
 back:List S
inductive iZ (ps:List (il S)):S->S->Prop
 | refl (x:S):iZ ps x x
 | step {x y z:S} {p:il S}:p∈ps->x∈p.ins ++ p.outs->y∈p.ins ++ p.outs->iZ ps y z->iZ ps x z
theorem iZ.trans {ps:List (il S)} {x y z:S} (h:iZ ps x y) (k:iZ ps y z):iZ ps x z:=by
 induction h with
 | refl _=>exact k
 | step hp hx hy _ ih=>exact .step hp hx hy (ih k)
theorem iZ.symm {ps:List (il S)} {x y:S} (h:iZ ps x y):iZ ps y x:=by
 induction h with
 | refl _=>exact .refl _
 | step hp hx hy _ ih=>exact ih.trans (.step hp hy hx (.refl _))
theorem iZ.mono {ps qs:List (il S)} (hs:∀p∈ps,p∈qs) {x y:S} (h:iZ ps x y):iZ qs x y:=by
 induction h with
 | refl _=>exact .refl _
 | step hp hx hy _ ih=>exact .step (hs _ hp) hx hy ih
theorem iZ.part {ps:List (il S)} {p:il S} (hp:p∈ps) {x y:S} (hx:x∈p.ins ++ p.outs) (hy:y∈p.ins ++ p.outs):iZ ps x y:=.step hp hx hy (.refl _)
structure WF (ns:NS S):Prop where
 nod:ns.lanes.Nodup
 outs:((ns.parts.flatMap (·.outs)) ++ ns.back).Perm ns.lanes
 ins:((ns.parts.flatMap (·.ins)) ++ ns.opens).Perm ns.lanes
 hang:∀p∈ns.parts,∃x∈p.ins ++ p.outs,∃o∈ns.opens,iZ ns.parts x o
 touch:∀p∈ns.parts,p.ins ++ p.outs≠[]
theorem WF.add {ns:NS S} (w:WF ns) {p:il S} {newl opens' back':List S} (hn:(ns.lanes ++ newl).Nodup) (ho:(p.outs ++ back').Perm (ns.back ++ newl)) (hi:(p.ins ++ opens').Perm (ns.opens ++ newl))
  (hg:∀o∈ns.opens,∃o'∈opens',iZ (ns.parts ++ [p]) o o') (hp:∃x∈p.ins ++ p.outs,∃o∈opens',iZ (ns.parts ++ [p]) x o):
  WF { lanes:=ns.lanes ++ newl,parts:=ns.parts ++ [p],opens:=opens',back:=back' }:=by
 have mono:∀q∈ns.parts,q∈ns.parts ++ [p]:=λq hq=>List.mem_append.mpr (.inl hq)
 refine⟨hn,?_,?_,?_,?_⟩
 ·have e:(ns.parts ++ [p]).flatMap (·.outs)=ns.parts.flatMap (·.outs) ++ p.outs:=by simp
  show(((ns.parts ++ [p]).flatMap (·.outs)) ++ back').Perm _
  rw [e,List.append_assoc]
  exact(ho.append_left _).trans (by rw [<-List.append_assoc];exact w.outs.append_right _)
 ·have e:(ns.parts ++ [p]).flatMap (·.ins)=ns.parts.flatMap (·.ins) ++ p.ins:=by simp
  show(((ns.parts ++ [p]).flatMap (·.ins)) ++ opens').Perm _
  rw [e,List.append_assoc]
  exact(hi.append_left _).trans (by rw [<-List.append_assoc];exact w.ins.append_right _)
 ·intro q hq
  rcases List.mem_append.mp hq with h | h
  ·obtain⟨x,hx,o,hoq,c⟩:=w.hang q h
   obtain⟨o',ho',c'⟩:=hg o hoq
   exact⟨x,hx,o',ho',(c.mono mono).trans c'⟩
  ·rw [List.mem_singleton] at h
   subst h
   exact hp
 ·intro q hq
  rcases List.mem_append.mp hq with h | h
  ·exact w.touch q h
  ·rw [List.mem_singleton] at h
   subst h
   obtain⟨x,hx,_⟩:=hp
   intro z
   rw [z] at hx
   cases hx
theorem WF.start:WF (⟨[],[],[],[]⟩:NS S):=⟨List.nodup_nil,.refl _,.refl _,λp hp=>(by cases hp),λp hp=>(by cases hp)⟩
theorem WF.backLane {ns:NS S} (w:WF ns) {b:S} (hn:(ns.lanes ++ [b]).Nodup):WF { ns with lanes:=ns.lanes ++ [b],opens:=ns.opens ++ [b],back:=ns.back ++ [b] }:=by
 refine⟨hn,?_,?_,λp hp=>?_,w.touch⟩
 ·show(_ ++ (ns.back ++ [b])).Perm _
  rw [<-List.append_assoc]
  exact w.outs.append_right _
 ·show(_ ++ (ns.opens ++ [b])).Perm _
  rw [<-List.append_assoc]
  exact w.ins.append_right _
 ·obtain⟨x,hx,o,ho,c⟩:=w.hang p hp
  exact⟨x,hx,o,List.mem_append.mpr (.inl ho),c⟩
theorem WF.part {ns:NS S} (w:WF ns) {p:il S} {rest:List S} (hi:ns.opens.Perm (p.ins ++ rest)) (hf:(ns.lanes ++ p.outs).Nodup) (ho:p.outs≠[]):
  WF { ns with lanes:=ns.lanes ++ p.outs,parts:=ns.parts ++ [p],opens:=rest ++ p.outs }:=by
 have hp:p∈ns.parts ++ [p]:=by simp
 obtain⟨o1,hoo⟩:∃o1,o1∈p.outs:=List.exists_mem_of_ne_nil _ ho
 have h1:o1∈rest ++ p.outs:=List.mem_append.mpr (.inr hoo)
 refine w.add hf List.perm_append_comm ?_ (λo h=>?_) ⟨o1,List.mem_append.mpr (.inr hoo),o1,h1,.refl _⟩
 ·rw [<-List.append_assoc]
  exact hi.symm.append_right _
 ·rcases List.mem_append.mp (hi.mem_iff.mp h) with h | h
  ·exact⟨o1,h1,iZ.part hp (List.mem_append.mpr (.inl h)) (List.mem_append.mpr (.inr hoo))⟩
  ·exact⟨o,List.mem_append.mpr (.inl h),.refl _⟩
theorem WF.take {ns:NS S} (w:WF ns) {p:il S} {rest:List S} {y x:S} (hi:p.ins=[y]) (ho:p.outs=[]) (hr:ns.opens.Perm (y:: rest)) (hx:x∈rest) (c:iZ ns.parts y x):
  WF { ns with parts:=ns.parts ++ [p],opens:=rest }:=by
 have mono:∀q∈ns.parts,q∈ns.parts ++ [p]:=λq hq=>List.mem_append.mpr (.inl hq)
 have:=w.add (p:=p) (newl:=[]) (opens':=rest) (back':=ns.back) (by rw [List.append_nil];exact w.nod) (by rw [ho,List.append_nil];exact .refl _) (by rw [hi,List.append_nil];exact hr.symm)
  (λo h=>by
   rcases List.mem_cons.mp (hr.mem_iff.mp h) with rfl | h
   ·exact⟨x,hx,c.mono mono⟩
   ·exact⟨o,h,.refl _⟩) ⟨y,by simp [hi],x,hx,c.mono mono⟩
 rw [List.append_nil] at this
 exact this
theorem WF.loop {ns:NS S} (w:WF ns) {p:il S} {rest:List S} {one own fresh:S} (hi:p.ins=[one,own]) (ho:p.outs=[own,fresh]) (hr:ns.opens.Perm (one:: rest)) (hn:(ns.lanes ++ [own,fresh]).Nodup):
  WF { ns with lanes:=ns.lanes ++ [own,fresh],parts:=ns.parts ++ [p],opens:=rest ++ [fresh] }:=by
 have hp:p∈ns.parts ++ [p]:=by simp
 have hf:fresh∈rest ++ [fresh]:=by simp
 refine w.add hn (by rw [ho];exact List.perm_append_comm) ?_ (λo h=>?_) ⟨fresh,by simp [ho],fresh,hf,.refl _⟩
 ·rw [hi]
  show(one:: own:: (rest ++ [fresh])).Perm (ns.opens ++ [own,fresh])
  refine .trans ?_ (hr.symm.append_right _)
  refine .cons _ ?_
  show(own:: (rest ++ [fresh])).Perm (rest ++ ([own] ++ [fresh]))
  rw [<-List.append_assoc]
  exact(List.perm_append_comm (l₁:=[own]) (l₂:=rest)).append_right [fresh]
 ·rcases List.mem_cons.mp (hr.mem_iff.mp h) with rfl | h
  ·exact⟨fresh,hf,iZ.part hp (by simp [hi]) (by simp [ho])⟩
  ·exact⟨o,List.mem_append.mpr (.inl h),.refl _⟩
theorem WF.closeBack {ns:NS S} (w:WF ns) {p:il S} {rest:List S} {one b fresh:S} (hi:p.ins=[one]) (ho:p.outs=[b,fresh]) (hb:ns.back.Perm (b:: rest)) (h1:ns.opens=[one]) (hn:(ns.lanes ++ [fresh]).Nodup):
  WF { lanes:=ns.lanes ++ [fresh],parts:=ns.parts ++ [p],opens:=[fresh],back:=rest }:=by
 have hp:p∈ns.parts ++ [p]:=by simp
 refine w.add hn ?_ (by rw [hi,h1]) (λo h=>?_) ⟨fresh,by simp [ho],fresh,by simp,.refl _⟩
 ·rw [ho]
  show(b:: fresh:: rest).Perm (ns.back ++ [fresh])
  refine .trans ?_ (hb.symm.append_right _)
  exact .cons _ (List.perm_append_comm (l₁:=[fresh]) (l₂:=rest))
 ·rw [h1,List.mem_singleton] at h
  subst h
  exact⟨fresh,by simp,iZ.part hp (by simp [hi]) (by simp [ho])⟩
theorem WF.last {ns:NS S} (w:WF ns) {p:il S} {y:S} (hb:ns.back=[]) (h1:ns.opens=[y]) (hi:p.ins=[y]) (ho:p.outs=[]):
  ((ns.parts ++ [p]).flatMap (·.outs)).Perm ns.lanes/\((ns.parts ++ [p]).flatMap (·.ins)).Perm ns.lanes/\∀q∈ns.parts ++ [p],∃x∈q.ins ++ q.outs,iZ (ns.parts ++ [p]) x y:=by
 have mono:∀q∈ns.parts,q∈ns.parts ++ [p]:=λq hq=>List.mem_append.mpr (.inl hq)
 refine⟨?_,?_,?_⟩
 ·have e:(ns.parts ++ [p]).flatMap (·.outs)=ns.parts.flatMap (·.outs):=by simp [ho]
  rw [e]
  have:=w.outs
  rw [hb,List.append_nil] at this
  exact this
 ·have e:(ns.parts ++ [p]).flatMap (·.ins)=ns.parts.flatMap (·.ins) ++ [y]:=by simp [hi]
  rw [e]
  have:=w.ins
  rw [h1] at this
  exact this
 ·intro q hq
  rcases List.mem_append.mp hq with h | h
  ·obtain⟨x,hx,o,hoq,c⟩:=w.hang q h
   rw [h1,List.mem_singleton] at hoq
   subst hoq
   exact⟨x,hx,c.mono mono⟩
  ·rw [List.mem_singleton] at h
   subst h
   exact⟨y,by simp [hi],.refl _⟩
theorem Mz {ps:List (il S)} {J:il S->Prop} (closed:∀(l:S) (p q:il S),p∈ps->q∈ps->l∈p.ins ++ p.outs->l∈q.ins ++ q.outs->J p->J q) {y:S} (hang:∀q∈ps,∃x∈q.ins ++ q.outs,iZ ps x y)
  {p0:il S} (hp0:p0∈ps) (h0:J p0):∀q∈ps,J q:=by
 have go:∀{x z:S},iZ ps x z->(∃p∈ps,x∈p.ins ++ p.outs/\J p)->∃p∈ps,z∈p.ins ++ p.outs/\J p:=by
  intro x z c
  induction c with
  | refl _=>exact id
  | step hp hx hy _ ih=>
   rintro⟨p',hp',hx',hJ⟩
   exact ih ⟨_,hp,hy,closed _ _ _ hp' hp hx' hx hJ⟩
 obtain⟨x0,hx0,c0⟩:=hang p0 hp0
 have hy:=go c0 ⟨p0,hp0,hx0,h0⟩
 intro q hq
 obtain⟨x,hx,c⟩:=hang q hq
 obtain⟨p',hp',hx',hJ⟩:=go c.symm hy
 exact closed _ _ _ hp' hq hx' hx hJ
theorem QF {ps:List (il S)} (f:il S->List S) (h:(ps.flatMap f).Nodup) {i j:Nat} {p q:il S} {l:S} (hi:ps[i]?=some p) (hj:ps[j]?=some q) (hp:l∈f p) (hq:l∈f q):i=j:=by
 induction ps generalizing i j with
 | nil=>cases hi
 | cons r rs ih=>
  rw [List.flatMap_cons,List.nodup_append] at h
  obtain⟨h1,h2,h3⟩:=h
  have far:∀{k:Nat} {s:il S},rs[k]?=some s->l∈f s->l∈rs.flatMap f:=λe hs=>List.mem_flatMap.mpr ⟨_,List.mem_of_getElem? e,hs⟩
  match i,j with
  | 0,0=>rfl
  | 0,j+1=>
   simp only [List.getElem?_cons_zero,Option.some.injEq] at hi
   subst hi
   exact absurd rfl (h3 l hp l (far (by simpa using hj) hq))
  | i+1,0=>
   simp only [List.getElem?_cons_zero,Option.some.injEq] at hj
   subst hj
   exact absurd rfl (h3 l hq l (far (by simpa using hi) hp))
  | i+1,j+1=>exact congrArg (· +1) (ih h2 (by simpa using hi) (by simpa using hj))
end Drawn
structure aF where
 name:Str
 room:Int
 first:List Int
noncomputable def aF.ok (l:aF):Prop:=1<=l.room/\l.room<=10/\(l.first.length:Int)<=l.room/\∀v∈l.first,0<=v/\v <1000000000
noncomputable abbrev PD:=Drawn.il Str
noncomputable def nY (p:PD):Prop:=p.kind <11/\p.nums.length=cN p.kind/\p.ins.length=cI p.kind/\p.outs.length=cO p.kind/\∀v∈p.nums,0<=v/\v <1000000000
noncomputable def bf (E:List Addr) (H:Hp):Hp:=λb=>if b∈E then none else H b
theorem bY {E:List Addr} {H:Hp}:aO (bf E H) H:=λb o e=>by
 unfold bf at e
 split at e
 ·cases e
 ·exact e
theorem jY {E:List Addr} {H:Hp} {p:Addr} {o:HO} (h:H p=none):aO (bf E H) (bf E (upd H p o)):=λb u e=>by
 have e':=bY b u e
 unfold bf at e ⊢
 split at e
 ·cases e
 ·rename_i n
  rw [if_neg n,aJ (aC e' h)]
  exact e
theorem fB {E:List Addr} {H:Hp} {p:Addr} {o:HO} (h:H p=some o) (n:p∉E):bf E H p=some o:=by
 unfold bf
 rw [if_neg n]
 exact h
theorem iQ {E:List Addr} {H:Hp} {a:Addr} {o:HO} (h:a∈E):bf E (upd H a o)=bf E H:=by
 funext b
 unfold bf
 split
 ·rfl
 ·rename_i n
  rw [aJ (λz=>n (by rw [z];exact h))]
theorem FN {E:List Addr} {H H':Hp} (s:aO H H') (hE:∀a∈E,∃o,H a=some o):aO (bf E H) (bf E H'):=λb o e=>by
 have e':=bY b o e
 unfold bf at e ⊢
 split at e
 ·cases e
 ·rename_i n
  rw [if_neg n]
  exact s _ _ e'
inductive jn {α β:Type} (R:α->β->Prop):List α->List β->Prop
 | nil:jn R [] []
 | cons {a:α} {b:β} {l:List α} {m:List β}:R a b->jn R l m->jn R (a:: l) (b:: m)
theorem jn.imp {α β:Type} {R R':α->β->Prop} (h:∀a b,R a b->R' a b):∀{l:List α} {m:List β},jn R l m->jn R' l m
 | _,_,.nil=>.nil
 | _,_,.cons r t=>.cons (h _ _ r) (t.imp h)
theorem jn.length {α β:Type} {R:α->β->Prop}:∀{l:List α} {m:List β},jn R l m->l.length=m.length
 | _,_,.nil=>rfl
 | _,_,.cons _ t=>by rw [List.length_cons,List.length_cons,t.length]
theorem jn.app {α β:Type} {R:α->β->Prop}:∀{l l':List α} {m m':List β},jn R l m->jn R l' m'->jn R (l ++ l') (m ++ m')
 | _,_,_,_,.nil,h=>h
 | _,_,_,_,.cons r t,h=>.cons r (t.app h)
theorem jn.get {α β:Type} {R:α->β->Prop}:∀{l:List α} {m:List β},jn R l m->∀{i:Nat} {a:α},l[i]?=some a->∃b,m[i]?=some b/\R a b
 | _,_,.nil,_,_,h=>by simp at h
 | _,_,.cons r t,0,_,h=>by
  simp only [List.getElem?_cons_zero,Option.some.injEq] at h
  subst h
  exact⟨_,rfl,r⟩
 | _,_,.cons r t,i+1,_,h=>t.get (i:=i) (by simpa using h)
theorem jn.take {α β:Type} {R:α->β->Prop}:∀{l:List α} {m:List β},jn R l m->∀n:Nat,jn R (l.take n) (m.take n)
 | _,_,.nil,_=>by simp;exact .nil
 | _,_,.cons r t,0=>by simp;exact .nil
 | _,_,.cons r t,n+1=>by simp;exact .cons r (t.take n)
theorem jn.drop {α β:Type} {R:α->β->Prop}:∀{l:List α} {m:List β},jn R l m->∀n:Nat,jn R (l.drop n) (m.drop n)
 | _,_,.nil,_=>by simp;exact .nil
 | _,_,.cons r t,0=>.cons r t
 | _,_,.cons r t,n+1=>by simp;exact t.drop n
inductive rN (G:Hp) (v:V) (l:aF):Prop where
 | mk:∀q f,v=.ref q->G q=some (.tup [.str l.name,.int l.room,.ref f])->G f=some (.lst (l.first.map V.int))->rN G v l
inductive Br (G:Hp) (v:V) (p:PD):Prop where
 | mk:∀q a1 a2 a3,v=.ref q->G q=some (.tup [.str (fQ p.kind),.str p.name,.ref a1,.ref a2,.ref a3])->G a1=some (.lst (p.nums.map V.int))->G a2=some (.lst (p.ins.map V.str))->G a3=some (.lst (p.outs.map V.str))->Br G v p
theorem rN.same {G G':Hp} {v:V} {l:aF} (h:rN G v l) (s:aO G G'):rN G' v l:=by
 obtain⟨q,f,e,h1,h2⟩:=h
 exact⟨q,f,e,s _ _ h1,s _ _ h2⟩
theorem Br.same {G G':Hp} {v:V} {p:PD} (h:Br G v p) (s:aO G G'):Br G' v p:=by
 obtain⟨q,a1,a2,a3,e,h1,h2,h3,h4⟩:=h
 exact⟨q,a1,a2,a3,e,s _ _ h1,s _ _ h2,s _ _ h3,s _ _ h4⟩
structure Dw where
 S:Addr
 L:Addr
 P:Addr
 O:Addr
 c3:Int
 c4:Int
noncomputable abbrev Dw.E (d:Dw):List Addr:=[d.L,d.P,d.O]
structure Bm (d:Dw) (H:Hp) (ls:List aF) (ps:List PD) (os:List Str):Prop where
 top:bf d.E H d.S=some (.lst [.ref d.L,.ref d.P,.ref d.O,.int d.c3,.int d.c4])
 lanes:∃xs,H d.L=some (.lst xs)/\jn (rN (bf d.E H)) xs ls
 parts:∃xs,H d.P=some (.lst xs)/\jn (Br (bf d.E H)) xs ps
 opens:H d.O=some (.lst (os.map V.str))
 ne:d.L≠d.P/\d.L≠d.O/\d.P≠d.O
 lok:∀l∈ls,l.ok
 pok:∀p∈ps,nY p
 ln:ls.map (·.name)=(List.range ls.length).map (mD d.c3)
 pn:ps.map (·.name)=(List.range ps.length).map (mD d.c4)
theorem Bm.has {d:Dw} {H:Hp} {ls:List aF} {ps:List PD} {os:List Str} (D:Bm d H ls ps os) {a:Addr} (h:a∈d.E):∃o,H a=some o:=by
 obtain⟨_,e1,_⟩:=D.lanes
 obtain⟨_,e2,_⟩:=D.parts
 rcases List.mem_cons.mp h with rfl | h
 ·exact⟨_,e1⟩
 ·rcases List.mem_cons.mp h with rfl | h
  ·exact⟨_,e2⟩
  ·rw [List.mem_singleton] at h
   subst h
   exact⟨_,D.opens⟩
theorem Bm.out {d:Dw} {H:Hp} {ls:List aF} {ps:List PD} {os:List Str} (D:Bm d H ls ps os) {p:Addr} (h:H p=none):p∉d.E:=λz=>by
 obtain⟨o,e⟩:=D.has z
 rw [h] at e
 cases e
theorem Bm.keep {d:Dw} {H H':Hp} {ls:List aF} {ps:List PD} {os:List Str} (D:Bm d H ls ps os) (s:aO H H'):Bm d H' ls ps os:=by
 obtain⟨xs,e1,a1⟩:=D.lanes
 obtain⟨ys,e2,a2⟩:=D.parts
 have c:=FN (E:=d.E) s (λa h=>D.has h)
 exact⟨c _ _ D.top,⟨xs,s _ _ e1,a1.imp λ_ _ h=>h.same c⟩,⟨ys,s _ _ e2,a2.imp λ_ _ h=>h.same c⟩,s _ _ D.opens,D.ne,D.lok,D.pok,D.ln,D.pn⟩
theorem Bm.cut {d:Dw} {H H':Hp} {ls:List aF} {ps:List PD} {os:List Str} (D:Bm d H ls ps os) (s:aO H H'):aO (bf d.E H) (bf d.E H'):=FN s (λ_ h=>D.has h)
theorem Ia {α:Type} {f:α->Str} {w:Nat->Str} {l:List α} {x:α} (h:l.map f=(List.range l.length).map w) (hx:f x=w l.length):(l ++ [x]).map f=(List.range (l ++ [x]).length).map w:=by
 rw [List.map_append,lP,List.length_singleton,List.range_succ,List.map_append,h,List.map_singleton,List.map_singleton,hx]
theorem Bm.lane {d:Dw} {H:Hp} {ls:List aF} {ps:List PD} {os:List Str} (D:Bm d H ls ps os) {v:V} {l:aF} (h:rN (bf d.E H) v l) (hl:l.ok) (hn:l.name=mD d.c3 ls.length) {xs:List V} (e:H d.L=some (.lst xs)):
  Bm d (upd H d.L (.lst (xs ++ [v]))) (ls ++ [l]) ps os:=by
 obtain⟨xs',e1,a1⟩:=D.lanes
 obtain⟨ys,e2,a2⟩:=D.parts
 rw [e] at e1
 cases e1
 have c:bf d.E (upd H d.L (.lst (xs ++ [v])))=bf d.E H:=iQ (by simp)
 refine⟨by rw [c];exact D.top,⟨_,ak,by rw [c];exact a1.app (.cons h .nil)⟩,⟨ys,by rw [aJ (Ne.symm D.ne.1)];exact e2,by rw [c];exact a2⟩,by rw [aJ (Ne.symm D.ne.2.1)];exact D.opens,D.ne,λx hx=>?_,D.pok,Ia D.ln hn,D.pn⟩
 rcases List.mem_append.mp hx with hx | hx
 ·exact D.lok x hx
 ·rw [List.mem_singleton] at hx
  subst hx
  exact hl
theorem Bm.part {d:Dw} {H:Hp} {ls:List aF} {ps:List PD} {os:List Str} (D:Bm d H ls ps os) {v:V} {p:PD} (h:Br (bf d.E H) v p) (hl:nY p) (hn:p.name=mD d.c4 ps.length) {xs:List V} (e:H d.P=some (.lst xs)):
  Bm d (upd H d.P (.lst (xs ++ [v]))) ls (ps ++ [p]) os:=by
 obtain⟨xs',e1,a1⟩:=D.lanes
 obtain⟨ys,e2,a2⟩:=D.parts
 rw [e] at e2
 cases e2
 have c:bf d.E (upd H d.P (.lst (xs ++ [v])))=bf d.E H:=iQ (by simp)
 refine⟨by rw [c];exact D.top,⟨_,by rw [aJ D.ne.1];exact e1,by rw [c];exact a1⟩,⟨_,ak,by rw [c];exact a2.app (.cons h .nil)⟩,by rw [aJ (Ne.symm D.ne.2.2)];exact D.opens,D.ne,D.lok,λx hx=>?_,D.ln,Ia D.pn hn⟩
 rcases List.mem_append.mp hx with hx | hx
 ·exact D.pok x hx
 ·rw [List.mem_singleton] at hx
  subst hx
  exact hl
theorem Bm.open {d:Dw} {H:Hp} {ls:List aF} {ps:List PD} {os os':List Str} (D:Bm d H ls ps os):Bm d (upd H d.O (.lst (os'.map V.str))) ls ps os':=by
 obtain⟨xs,e1,a1⟩:=D.lanes
 obtain⟨ys,e2,a2⟩:=D.parts
 have c:bf d.E (upd H d.O (.lst (os'.map V.str)))=bf d.E H:=iQ (by simp)
 exact⟨by rw [c];exact D.top,⟨xs,by rw [aJ D.ne.2.1];exact e1,by rw [c];exact a1⟩,⟨ys,by rw [aJ D.ne.2.2];exact e2,by rw [c];exact a2⟩,ak,D.ne,D.lok,D.pok,D.ln,D.pn⟩
theorem Bu (a:Int) {n:Nat} (h:n<=26):((List.range n).map (mD a)).Nodup:=by
 induction n with
 | zero=>exact List.nodup_nil
 | succ n ih=>
  rw [List.range_succ,List.map_append,List.nodup_append]
  refine⟨ih (by omega),by simp,λx hx y hy=>?_⟩
  obtain⟨j,hj,rfl⟩:=List.mem_map.mp hx
  rw [List.map_singleton,List.mem_singleton] at hy
  subst hy
  have hj':=List.mem_range.mp hj
  intro z
  have:=K9 a (by omega) (by omega) z
  omega
noncomputable abbrev aa9 (ls:List aF) (ps:List PD) (os back:List Str):Drawn.NS Str:=⟨ls.map (·.name),ps,os,back⟩
theorem Bm.nod {d:Dw} {H:Hp} {ls:List aF} {ps:List PD} {os:List Str} (D:Bm d H ls ps os) (h:ls.length<=26):(ls.map (·.name)).Nodup:=by
 rw [D.ln]
 exact Bu _ h
noncomputable def Calm (ps:List PD):Prop:=∀p∈ps,p.kind <9
theorem Calm.app {ps:List PD} {p:PD} (h:Calm ps) (hp:p.kind <9):Calm (ps ++ [p]):=λq hq=>by
 rcases List.mem_append.mp hq with z | z
 ·exact h q z
 ·rw [List.mem_singleton] at z
  rw [z]
  exact hp
structure Nxt (d:Dw) (H H':Hp) (ls:List aF) (ps:List PD) (back:List Str) (ls':List aF) (ps':List PD) (os':List Str):Prop where
 cut:aO (bf d.E H) (bf d.E H')
 at':Bm d H' ls' ps' os'
 wf:Drawn.WF (aa9 ls' ps' os' back)
 o1:1<=os'.length
 o4:os'.length<=4
 l2:ls'.length<=ls.length+2
 p2:ps'.length<=ps.length+2
 cm:Calm ps->Calm ps'
theorem hide {t u:TS} {D:Ends} {σ:St} {H:Hp} (h:∀v,v=u->Ge t v D σ H):Ge t u D σ H:=h u rfl
theorem Ov {i:Nat} {x:V} {t u:TS} {D:Ends} {σ:St} {H:Hp} (h:∀E,E=D->∀v,v=u->Ge t v E (σ.set i (some x)) H):Bk i x σ H λσ2 H2=>Ge t u D σ2 H2:=h D rfl u rfl
theorem Xq {t u:TS} {D:Ends} {σ:St} {H:Hp} (h:∀E,E=D->∀v,v=u->Ge t v E σ H):Ge t u D σ H:=h D rfl u rfl
theorem iR {t u v:TS} {D:Ends} {σ:St} {H:Hp} (hv:v=Ge t u) (h:∀w,w=u->Ge t w D σ H):v D σ H:=by
 subst hv
 exact h u rfl
theorem Bm.two {d:Dw} {H:Hp} {ls:List aF} {ps:List PD} {os:List Str} (D:Bm d H ls ps os) {a1 a2:Addr} {x y:HO} (n1:H a1=none) (n2:upd H a1 x a2=none):
  Bm d (upd (upd H a1 x) a2 y) ls ps os/\bf d.E (upd (upd H a1 x) a2 y) a1=some x/\bf d.E (upd (upd H a1 x) a2 y) a2=some y/\aO (bf d.E H) (bf d.E (upd (upd H a1 x) a2 y)):=by
 have s1:=az (o:=x) n1
 have s2:=az (o:=y) n2
 have s:=s1.trans s2
 exact⟨D.keep s,fB (s2 _ _ ak) (D.out n1),fB ak (D.out (s1.free n2)),D.cut s⟩
structure HS (lanes:List Str) (ps:List PD):Prop where
 nod:lanes.Nodup
 outs:(ps.flatMap (·.outs)).Perm lanes
 ins:(ps.flatMap (·.ins)).Perm lanes
 hang:∃y,∀q∈ps,∃x∈q.ins ++ q.outs,Drawn.iZ ps x y
noncomputable def K4 (H:Hp) (a:Addr):Nat:=match H a with
 | some (.lst xs)=>xs.length
 | _=>0
theorem Ku {H:Hp} {a:Addr} {xs:List V} (h:H a=some (.lst xs)):K4 H a=xs.length:=by
 unfold K4
 rw [h]
structure Vx (c3 c4:Int) (ls:List aF) (ps:List PD):Prop where
 lok:∀l∈ls,l.ok
 pok:∀p∈ps,nY p
 ln:ls.map (·.name)=(List.range ls.length).map (mD c3)
 pn:((List.range ps.length).map (mD c4)).Perm (ps.map (·.name))
 whole:HS (ls.map (·.name)) ps
 l1:1<=ls.length
 l17:ls.length<=17
 p1:1<=ps.length
 p16:ps.length<=16
 calm:Calm ps
structure DN (H:Hp) (L P:Addr) (ls:List aF) (ps:List PD):Prop where
 lanes:∃xs,H L=some (.lst xs)/\jn (rN H) xs ls
 parts:∃xs,H P=some (.lst xs)/\jn (Br H) xs ps
theorem DN.same {H H':Hp} {L P:Addr} {ls:List aF} {ps:List PD} (h:DN H L P ls ps) (s:aO H H'):DN H' L P ls ps:=by
 obtain⟨⟨xs,e1,a1⟩,⟨ys,e2,a2⟩⟩:=h
 exact⟨⟨xs,s _ _ e1,a1.imp λ_ _ h=>h.same s⟩,⟨ys,s _ _ e2,a2.imp λ_ _ h=>h.same s⟩⟩
theorem Qk {ps qs:List PD} (h:ps.Perm qs) {x y:Str} (c:Drawn.iZ ps x y):Drawn.iZ qs x y:=c.mono λ_ hp=>h.mem_iff.mp hp
theorem HS.perm {ns:List Str} {ps qs:List PD} (w:HS ns ps) (h:ps.Perm qs):HS ns qs:=by
 obtain⟨y,hy⟩:=w.hang
 exact⟨w.nod,(h.symm.flatMap_right _).trans w.outs,(h.symm.flatMap_right _).trans w.ins,y,λq hq=>by
  obtain⟨x,hx,c⟩:=hy q (h.mem_iff.mpr hq)
  exact⟨x,hx,Qk h c⟩⟩
theorem Hr (xs:List V) (g:Nat):Dl xs (some (g:Int)) none=xs.drop g:=by
 unfold Dl
 rw [HT.KN,HT.CJ,<-List.length_drop,List.take_length]
 rcases Nat.le_total g xs.length with h | h
 ·rw [Nat.min_eq_left h]
 ·rw [Nat.min_eq_right h,List.drop_length,List.drop_eq_nil_of_le h]
theorem Bm.init {H:Hp} {S L P O:Addr} (c3 c4:Int) (nL:H L=none) (nP:upd H L (.lst []) P=none) (nO:upd (upd H L (.lst [])) P (.lst []) O=none) (nS:upd (upd (upd H L (.lst [])) P (.lst [])) O (.lst []) S=none):
  Bm ⟨S,L,P,O,c3,c4⟩ (upd (upd (upd (upd H L (.lst [])) P (.lst [])) O (.lst [])) S (.lst [.ref L,.ref P,.ref O,.int c3,.int c4])) [] [] []/\aO H (bf [L,P,O] (upd (upd (upd (upd H L (.lst [])) P (.lst [])) O (.lst [])) S (.lst [.ref L,.ref P,.ref O,.int c3,.int c4])))/\H P=none:=by
 have s1:=az (o:=.lst []) nL
 have s2:=az (o:=.lst []) nP
 have s3:=az (o:=.lst []) nO
 have s4:=az (o:=.lst [.ref L,.ref P,.ref O,.int c3,.int c4]) nS
 have e1:=s4 _ _ (s3 _ _ (s2 L (.lst []) ak))
 have e2:=s4 _ _ (s3 P (.lst []) ak)
 have e3:=s4 O (.lst []) ak
 have n1:L≠P:=aC (ak (H:=H) (o:=.lst [])) nP
 have n2:L≠O:=aC (s2 L (.lst []) ak) nO
 have n3:P≠O:=aC (ak (H:=upd H L (.lst [])) (o:=.lst [])) nO
 have m1:L≠S:=aC (s3 _ _ (s2 L (.lst []) ak)) nS
 have m2:P≠S:=aC (s3 P (.lst []) ak) nS
 have m3:O≠S:=aC (ak (H:=upd (upd H L (.lst [])) P (.lst [])) (o:=.lst [])) nS
 refine⟨⟨fB ak ?_,⟨[],e1,.nil⟩,⟨[],e2,.nil⟩,e3,⟨n1,n2,n3⟩,(λ_ h=>by cases h),(λ_ h=>by cases h),rfl,rfl⟩,λb o e=>fB (s4 _ _ (s3 _ _ (s2 _ _ (s1 _ _ e)))) ?_,s1.free nP⟩
 ·show S∉[L,P,O]
  simp [m1.symm,m2.symm,m3.symm]
 ·have q1:=aC e nL
  have q2:=aC (s1 _ _ e) nP
  have q3:=aC (s2 _ _ (s1 _ _ e)) nO
  simp [q1,q2,q3]
noncomputable abbrev LET:Str:= "abcdefghijklmnopqrstuvwxyz"
noncomputable abbrev FIG:Str:= "0123456789"
theorem Q5:LET.cps.toList=List.range' 97 26:=by decide +kernel
theorem QZ:FIG.cps.toList=List.range' 48 10:=by decide +kernel
theorem Tj (c:Nat):(!(Builtin.Str.occurrences LET ⟨#[c]⟩ 0 LET.length 1).isEmpty)=low c:=by
 rw [StrLaws.found_one,Q5]
 unfold low
 rw [Bool.eq_iff_iff]
 simp [List.mem_range'_1]
 omega
theorem YZ (c:Nat):(!(Builtin.Str.occurrences FIG ⟨#[c]⟩ 0 FIG.length 1).isEmpty)=Oj c:=by
 rw [StrLaws.found_one,QZ]
 unfold Oj
 rw [Bool.eq_iff_iff]
 simp [List.mem_range'_1]
 omega
structure VG (ms:List Str) (want:List (Str×V)) (fs:List (Str×V)):Prop where
 has:∀p∈want,fs.lookup p.1=some p.2
 no:∀m∈ms,fs.lookup m=none
theorem gP {H:Hp} {d:Addr} {kvs:List (Key×V)} {v:HO} (e:H d=some (.dK kvs)) {b:Addr} {u:HO} (h:H b=some u) (hu:∀ks,u≠.dK ks):upd H d v b=some u:=by
 rw [aJ]
 ·exact h
 ·rintro rfl
  rw [e] at h
  exact hu _ (Option.some.inj h).symm
theorem fO {H:Hp} {d a:Addr} {kvs:List (Key×V)} {v:HO} {xs:List V} (e:H d=some (.dK kvs)) (h:cP K H a xs):cP K (upd H d v) a xs:=by
 rcases h with (h | ⟨o,h⟩) | h
 ·exact .inl (.inl (gP e h (by intro _ z;cases z)))
 ·exact .inl (.inr ⟨o,gP e h (by intro _ z;cases z)⟩)
 ·exact .inr h
theorem dX.chill {H:Hp} {d p:Addr} {kvs:List (Key×V)} {v:HO} {i:Nat} {nm:V} {ns is os:List V} (e:H d=some (.dK kvs)) (h:dX K t H p i nm ns is os):dX K t (upd H d v) p i nm ns is os:=by
 obtain⟨dx,tn,ti,to,h1,h2,h3,h4⟩:=h
 exact⟨dx,tn,ti,to,gP e h1 (by intro _ z;cases z),fO e h2,fO e h3,fO e h4⟩
theorem Qy {H:Hp} {d D:Addr} {kvs:List (Key×V)} {o:Obj} {u:HO} (e:H d=some (.dK kvs)) (hD:(upd H d (.frz o (.dK kvs))) D=none):upd (upd (upd H d (.frz o (.dK kvs))) D u) d (.dK kvs)=upd H D u:=by
 have n:D≠d:=by rintro rfl;rw [ak] at hD;cases hD
 funext b
 by_cases h:b=d
 ·subst h
  rw [ak,aJ (Ne.symm n)]
  exact e.symm
 ·rw [aJ h]
  unfold upd
  rw [if_neg h]
theorem Nt {H:Hp} {d D:Addr} {v:HO} (hD:(upd H d v) D=none):H D=none:=by
 by_cases h:D=d
 ·subst h;rw [ak] at hD;cases hD
 ·rw [aJ h] at hD;exact hD
theorem Ir {H:Hp} {a:Addr} {o:HO} (e:H a=some o):upd H a o=H:=by
 funext b
 unfold upd
 split
 ·rename_i h;rw [h];exact e.symm
 ·rfl
theorem iu {κ:Type} [DecidableEq κ] {kvs:List (κ×V)} {k:κ} (h:k∉kvs.map (·.1)):bW kvs k=none:=by
 induction kvs with
 | nil=>rfl
 | cons p r ih=>
  simp only [List.map_cons,List.mem_cons,not_or] at h
  rw [fL (Ne.symm h.1)]
  exact ih h.2
theorem iz {κ:Type} [DecidableEq κ] {kvs:List (κ×V)} {k:κ} {v:V} (nd:(kvs.map (·.1)).Nodup) (h:(k,v)∈kvs):bW kvs k=some v:=by
 induction kvs with
 | nil=>cases h
 | cons p r ih=>
  simp only [List.map_cons,List.nodup_cons] at nd
  rcases List.mem_cons.mp h with h | h
  ·subst h
   exact gh rfl
  ·have:¬p.1=k:=λz=>nd.1 (List.mem_map.mpr ⟨_,h,z.symm⟩)
   rw [fL this]
   exact ih nd.2 h
noncomputable def cG (f:PD->List Str) (ps:List PD):List (Key×V):=ps.flatMap λp=>(f p).map λl=>((Sum.inr l:Key),V.str p.name)
theorem yp (f:PD->List Str) (ps:List PD):(cG f ps).map (·.1)=(ps.flatMap f).map (λl=>(Sum.inr l:Key)):=by
 induction ps with
 | nil=>rfl
 | cons p r ih=>
  unfold cG at ih ⊢
  simp only [List.flatMap_cons,List.map_append,ih,List.map_map]
  rfl
theorem gm {l:List Str} (h:l.Nodup):(l.map (λx=>(Sum.inr x:Key))).Nodup:=by
 induction l with
 | nil=>exact List.nodup_nil
 | cons a r ih=>
  simp only [List.map_cons,List.nodup_cons,List.mem_map] at h ⊢
  refine⟨?_,ih h.2⟩
  rintro⟨b,hb,e⟩
  cases e
  exact h.1 hb
theorem eE {f:PD->List Str} {ps:List PD} (nd:(ps.flatMap f).Nodup) {p:PD} (hp:p∈ps) {l:Str} (hl:l∈f p):bW (cG f ps) (Sum.inr l)=some (.str p.name):=
 iz (by rw [yp];exact gm nd) (List.mem_flatMap.mpr ⟨p,hp,List.mem_map.mpr ⟨l,hl,rfl⟩⟩)
theorem Fw {f:PD->List Str} {ps:List PD} {l:Str} (h:l∉ps.flatMap f):bW (cG f ps) (Sum.inr l)=none:=iu (by
 rw [yp]
 intro z
 obtain⟨b,hb,e⟩:=List.mem_map.mp z
 cases e
 exact h hb)
theorem Qt (f:PD->List Str) (ps:List PD):(cG f ps).length=(ps.flatMap f).length:=by
 have:=congrArg List.length (yp f ps)
 simpa using this
theorem Fv (f:PD->List Str) (ps:List PD) (p:PD):cG f (ps ++ [p])=cG f ps ++ (f p).map λl=>((Sum.inr l:Key),V.str p.name):=by
 unfold cG
 rw [List.flatMap_append]
 simp
theorem PK {α:Type} {f g:α->Bool}:∀{l:List α},(∀a∈l,g a=true->f a=true)->(∃a∈l,f a=true/\g a=false)->(l.filter g).length <(l.filter f).length
 | [],_,h=>by obtain⟨a,ha,_⟩:=h;cases ha
 | x:: r,h,h2=>by
  have le:∀r:List α,(∀a∈r,g a=true->f a=true)->(r.filter g).length<=(r.filter f).length:=λr=>by
   induction r with
   | nil=>intro _;exact Nat.le_refl _
   | cons y t ih=>
    intro q
    have:=ih λa ha=>q a (List.mem_cons_of_mem _ ha)
    have q0:=q y List.mem_cons_self
    rw [List.filter_cons,List.filter_cons]
    cases hg:g y
    ·simp only [Bool.false_eq_true,if_false]
     split
     ·rw [List.length_cons];omega
     ·exact this
    ·rw [q0 hg]
     simp only [if_true,List.length_cons]
     omega
  obtain⟨a,ha,hf,hg⟩:=h2
  have hr:=λa ha=>h a (List.mem_cons_of_mem x ha)
  rw [List.filter_cons,List.filter_cons]
  rcases List.mem_cons.mp ha with rfl | ha
  ·rw [hf,hg]
   have:=le r hr
   simp
   omega
  ·have ih:=PK hr ⟨a,ha,hf,hg⟩
   have q0:=h x List.mem_cons_self
   cases hx:g x
   ·simp only [Bool.false_eq_true,if_false]
    split
    ·rw [List.length_cons];omega
    ·exact ih
   ·rw [q0 hx]
    simp only [if_true,List.length_cons]
    omega
noncomputable def gq (jk:List (Key×V)) (x:Str):Bool:=(bW jk (Sum.inr x)).isSome
noncomputable def oV (ps:List PD) (jk:List (Key×V)):Nat:=(ps.filter λp=>!gq jk p.name).length
theorem Ko (jk:List (Key×V)) (x y:Str) (v:V):gq (putK jk (Sum.inr x) v) y=(decide (y=x) || gq jk y):=by
 unfold gq
 rw [RG]
 by_cases h:y=x
 ·subst h;simp
 ·have:¬(Sum.inr y:Key)=Sum.inr x:=λz=>h (Sum.inr.inj z)
  rw [if_neg this]
  simp [h]
theorem KD {ps:List PD} {jk jk':List (Key×V)} (h:∀x,gq jk x=true->gq jk' x=true) {p:PD} (hp:p∈ps) (h1:gq jk p.name=false) (h2:gq jk' p.name=true):oV ps jk' <oV ps jk:=by
 refine PK (λa _ q=>?_) ⟨p,hp,by simp [h1],by simp [h2]⟩
 cases hj:gq jk a.name
 ·rfl
 ·rw [h _ hj] at q;cases q
theorem Qn {ps:List PD} (pm:(ps.flatMap (·.outs)).Perm (ps.flatMap (·.ins))) {l:Str} (h:l∈ps.flatMap (·.outs)):∃a∈ps,∃b∈ps,l∈a.outs/\l∈b.ins:=by
 obtain⟨a,ha,hl⟩:=List.mem_flatMap.mp h
 obtain⟨b,hb,hl2⟩:=List.mem_flatMap.mp (pm.mem_iff.mp h)
 exact⟨a,ha,b,hb,hl,hl2⟩
theorem Yj {ps:List PD} (no:(ps.flatMap (·.outs)).Nodup) (ni:(ps.flatMap (·.ins)).Nodup) (pm:(ps.flatMap (·.outs)).Perm (ps.flatMap (·.ins))) {jk:List (Key×V)} (hang:∃y,∀q∈ps,∃x∈q.ins ++ q.outs,Drawn.iZ ps x y)
  (cl:∀a∈ps,∀b∈ps,∀l,l∈a.outs->l∈b.ins->gq jk a.name=gq jk b.name) {p0:PD} (hp0:p0∈ps) (h0:gq jk p0.name=true):∀q∈ps,gq jk q.name=true:=by
 obtain⟨y,hy⟩:=hang
 refine Drawn.Mz (J:=λp=>gq jk p.name=true) (λl p q hp hq hlp hlq hJ=>?_) hy hp0 h0
 have same:∀{f:PD->List Str},(ps.flatMap f).Nodup->∀{a b:PD},a∈ps->b∈ps->l∈f a->l∈f b->a.name=b.name:=λ{f} nd {a b} ha hb h1 h2=>by
  obtain⟨i,hi,ei⟩:=List.mem_iff_getElem.mp ha
  obtain⟨j,hj,ej⟩:=List.mem_iff_getElem.mp hb
  have:=Drawn.QF f nd (i:=i) (j:=j) (p:=a) (q:=b) (l:=l) (by rw [List.getElem?_eq_getElem hi,ei]) (by rw [List.getElem?_eq_getElem hj,ej]) h1 h2
  subst this
  rw [<-ei,<-ej]
 have hl:l∈ps.flatMap (·.outs):=by
  rcases List.mem_append.mp hlp with h | h
  ·exact pm.mem_iff.mpr (List.mem_flatMap.mpr ⟨p,hp,h⟩)
  ·exact List.mem_flatMap.mpr ⟨p,hp,h⟩
 obtain⟨a,ha,b,hb,la,lb⟩:=Qn pm hl
 have e:=cl a ha b hb l la lb
 have np:p.name=a.name∨p.name=b.name:=(List.mem_append.mp hlp).elim (λh=>.inr (same ni hp hb h lb)) λh=>.inl (same no hp ha h la)
 have nq:q.name=a.name∨q.name=b.name:=(List.mem_append.mp hlq).elim (λh=>.inr (same ni hq hb h lb)) λh=>.inl (same no hq ha h la)
 show gq jk q.name=true
 change gq jk p.name=true at hJ
 rcases np with np | np <;> rcases nq with nq | nq <;> rw [np] at hJ <;> rw [nq]
 ·exact hJ
 ·rw [<-e];exact hJ
 ·rw [e];exact hJ
 ·exact hJ
theorem Hq {z:Str} (h:nameB z=true):z.length<=100:=by
 unfold nameB at h
 rw [<-Ag]
 split at h
 ·simp_all
 ·rename_i e
  rw [e]
  simp only [Bool.and_eq_true,decide_eq_true_eq] at h
  rw [List.length_cons]
  omega
structure uD (ls:List aF) (ps:List PD):Prop where
 lok:∀l∈ls,1<=l.room/\l.room<=199/\(l.first.length:Int)<=l.room/\∀v∈l.first,0<=v/\v <1000000000
 pok:∀p∈ps,nY p
 lnm:∀l∈ls,nameB l.name=true
 pnm:∀p∈ps,nameB p.name=true
 pnd:(ps.map (·.name)).Nodup
 whole:HS (ls.map (·.name)) ps
 l1:1<=ls.length
 l24:ls.length<=24
 p1:1<=ps.length
 p16:ps.length<=16
theorem Jd {c:Int} {n:Nat} (hn:n<=26) {x:Str} (h:x∈(List.range n).map (mD c)):∃k,k <n/\x=mD c k:=by
 obtain⟨k,hk,rfl⟩:=List.mem_map.mp h
 exact⟨k,List.mem_range.mp hk,rfl⟩
theorem Vx.fit {c3 c4:Int} {ls:List aF} {ps:List PD} (h:Vx c3 c4 ls ps):uD ls ps:=by
 have a:=h.l17
 have b:=h.p16
 refine⟨λl hl=>?_,h.pok,λl hl=>?_,λp hp=>?_,?_,h.whole,h.l1,by omega,h.p1,h.p16⟩
 ·obtain⟨x1,x2,x3,x4⟩:=h.lok l hl
  exact⟨x1,by omega,x3,x4⟩
 ·obtain⟨k,hk,e⟩:=Jd (c:=c3) (n:=ls.length) (by omega) (by rw [<-h.ln];exact List.mem_map.mpr ⟨l,hl,rfl⟩)
  rw [e]
  exact Ow _ (by omega)
 ·obtain⟨k,hk,e⟩:=Jd (c:=c4) (n:=ps.length) (by omega) (h.pn.mem_iff.mpr (List.mem_map.mpr ⟨p,hp,rfl⟩))
  rw [e]
  exact Ow _ (by omega)
 ·exact h.pn.nodup_iff.mp (Bu _ (by omega))
theorem Vx.lane20 {c3 c4:Int} {ls:List aF} {ps:List PD} (h:Vx c3 c4 ls ps):mD c3 20∉ls.map (·.name):=λz=>by
 have a:=h.l17
 rw [h.ln] at z
 obtain⟨k,hk,e⟩:=Jd (by omega) z
 have:=K9 _ (by omega) (by omega) e
 omega
noncomputable def eO (ls:List aF):List (Key×V):=ls.map λl=>((Sum.inr l.name:Key),V.int l.room)
noncomputable def bC (FL:List (aF×Addr)):List (Key×V):=FL.map λq=>((Sum.inr q.1.name:Key),V.ref q.2)
noncomputable def cJ (PL:List (PD×Addr)):List (Key×V):=PL.map λq=>((Sum.inr q.1.name:Key),V.ref q.2)
theorem vJ (ls:List aF):(eO ls).map (·.1)=(ls.map (·.name)).map (λx=>(Sum.inr x:Key)):=by unfold eO;rw [List.map_map,List.map_map];rfl
theorem tK (FL:List (aF×Addr)):(bC FL).map (·.1)=((FL.map (·.1)).map (·.name)).map (λx=>(Sum.inr x:Key)):=by unfold bC;rw [List.map_map,List.map_map,List.map_map];rfl
theorem Cd (PL:List (PD×Addr)):(cJ PL).map (·.1)=((PL.map (·.1)).map (·.name)).map (λx=>(Sum.inr x:Key)):=by unfold cJ;rw [List.map_map,List.map_map,List.map_map];rfl
structure ue (K:PySem.W.Frag) (t:jw) (H:Hp) (n:Addr) (ls:List aF) (ps:List PD) (dx:Addr) (fs:List (Str×V)) (R F Pd G Tk:Addr) (FL:List (aF×Addr)) (PL:List (PD×Addr)):Prop where
 obj:H n=some (.ins t.dD dx fs)
 fl:VG ["lane_names", "part_names", "odd", "names_of_kind", "gives", "takes", "need_lane_name", "room_of", "first_of", "giver_of", "taker_of", "part_of", "__init__"] [("rooms",.ref R),("firsts",.ref F),("parts",.ref Pd),("givers",.ref G),("takers",.ref Tk)] fs
 rooms:H R=some (.dK (eO ls))
 firsts:H F=some (.dK (bC FL))
 parts:H Pd=some (.dK (cJ PL))
 givers:H G=some (.dK (cG (·.outs) ps))
 takers:H Tk=some (.dK (cG (·.ins) ps))
 fls:FL.map (·.1)=ls
 pls:PL.map (·.1)=ps
 tups:∀q∈FL,cP K H q.2 (q.1.first.map V.int)
 pats:∀q∈PL,dX K t H q.2 q.1.kind (.str q.1.name) (q.1.nums.map V.int) (q.1.ins.map V.str) (q.1.outs.map V.str)
 fit:uD ls ps
 neRF:R≠F
inductive gJ (K:PySem.W.Frag) (t:jw) (H:Hp) (n:Addr) (ls:List aF) (ps:List PD):Prop where
 | mk:∀dx fs R F Pd G Tk FL PL,ue K t H n ls ps dx fs R F Pd G Tk FL PL->gJ K t H n ls ps
section
variable {H H':Hp} {n dx R F Pd G Tk:Addr} {ls:List aF} {ps:List PD} {fs:List (Str×V)} {FL:List (aF×Addr)} {PL:List (PD×Addr)}
theorem ue.same (N:ue K t H n ls ps dx fs R F Pd G Tk FL PL) (s:aO H H'):ue K t H' n ls ps dx fs R F Pd G Tk FL PL:=
 ⟨s _ _ N.obj,N.fl,s _ _ N.rooms,s _ _ N.firsts,s _ _ N.parts,s _ _ N.givers,s _ _ N.takers,N.fls,N.pls,λq hq=>s.seqT (N.tups q hq),λq hq=>(N.pats q hq).same s,N.fit,N.neRF⟩
theorem gJ.same (N:gJ K t H n ls ps) (s:aO H H'):gJ K t H' n ls ps:=by
 obtain⟨dx,fs,R,F,Pd,G,Tk,FL,PL,N⟩:=N
 exact⟨dx,fs,R,F,Pd,G,Tk,FL,PL,N.same s⟩
theorem ue.s (N:ue K t H n ls ps dx fs R F Pd G Tk FL PL):gJ K t H n ls ps:=⟨dx,fs,R,F,Pd,G,Tk,FL,PL,N⟩
theorem ue.room (N:ue K t H n ls ps dx fs R F Pd G Tk FL PL) {l:aF} (hl:l∈ls):bW (eO ls) (Sum.inr l.name)=some (.int l.room):=
 iz (by rw [vJ];exact gm N.fit.whole.nod) (List.mem_map.mpr ⟨l,hl,rfl⟩)
theorem ue.firstV (N:ue K t H n ls ps dx fs R F Pd G Tk FL PL) {q:aF×Addr} (hq:q∈FL):bW (bC FL) (Sum.inr q.1.name)=some (.ref q.2):=
 iz (by rw [tK,N.fls];exact gm N.fit.whole.nod) (List.mem_map.mpr ⟨q,hq,rfl⟩)
theorem ue.partV (N:ue K t H n ls ps dx fs R F Pd G Tk FL PL) {q:PD×Addr} (hq:q∈PL):bW (cJ PL) (Sum.inr q.1.name)=some (.ref q.2):=
 iz (by rw [Cd,N.pls];exact gm N.fit.pnd) (List.mem_map.mpr ⟨q,hq,rfl⟩)
theorem ue.ono (N:ue K t H n ls ps dx fs R F Pd G Tk FL PL):(ps.flatMap (·.outs)).Nodup:=N.fit.whole.outs.nodup_iff.mpr N.fit.whole.nod
theorem ue.ini (N:ue K t H n ls ps dx fs R F Pd G Tk FL PL):(ps.flatMap (·.ins)).Nodup:=N.fit.whole.ins.nodup_iff.mpr N.fit.whole.nod
end
theorem DG {α:Type} {f:α->Str} {xs:List α} {x:Str}:inV (.str x) (xs.map λp=>V.str (f p))=decide (x∈xs.map f):=by
 rw [Bool.eq_iff_iff]
 unfold inV
 rw [List.any_eq_true,decide_eq_true_eq]
 constructor
 ·rintro⟨v,hv,e⟩
  obtain⟨p,hp,rfl⟩:=List.mem_map.mp hv
  exact List.mem_map.mpr ⟨p,hp,by simpa [J8] using e⟩
 ·intro h
  obtain⟨p,hp,rfl⟩:=List.mem_map.mp h
  exact⟨.str (f p),List.mem_map.mpr ⟨p,hp,rfl⟩,by simp [J8]⟩
noncomputable def fc (ps:List PD) (x:Str):List V:=(ps.filter λp=>decide (fQ p.kind=x)).map λp=>V.str p.name
theorem QC (ps:List PD) (x:Str) (p:PD):fc (ps ++ [p]) x=if fQ p.kind=x then fc ps x ++ [V.str p.name] else fc ps x:=by
 unfold fc
 rw [List.filter_append,List.map_append]
 by_cases h:fQ p.kind=x
 ·rw [if_pos h];simp [h]
 ·rw [if_neg h];simp [h]
theorem yV (ps:List PD) (x:Str):(fc ps x).length<=ps.length:=by
 unfold fc
 rw [lM]
 exact List.length_filter_le _ _
noncomputable def Jj (p:PD):Bool:=decide (fQ p.kind= "choose") || decide (fQ p.kind= "split")
noncomputable def Gq (ps:List PD):V:=match ps.find? Jj with
 | some p=>.str p.name
 | none=>.non
theorem Wh (p:PD):inV (.str (fQ p.kind)) [.str "choose",.str "split"]=Jj p:=by
 have n1:¬("choose" :Str)= "split" :=by decide +kernel
 by_cases h1:fQ p.kind= "choose"
 ·simp [inV,J8,Jj,h1]
 ·by_cases h2:fQ p.kind= "split"
  ·simp [inV,J8,Jj,h2]
  ·simp [inV,J8,Jj,h1,h2,Ne.symm h1,Ne.symm h2]
inductive Ml (K:PySem.W.Frag) (H:Hp) (v:V) (l:aF):Prop where
 | mk:∀q f,v=.ref q->H q=some (.tup [.str l.name,.int l.room,.ref f])->cP K H f (l.first.map V.int)->Ml K H v l
inductive Vh (K:PySem.W.Frag) (H:Hp) (v:V) (p:PD):Prop where
 | mk:∀q a1 a2 a3,v=.ref q->H q=some (.tup [.str (fQ p.kind),.str p.name,.ref a1,.ref a2,.ref a3])->cP K H a1 (p.nums.map V.int)->cP K H a2 (p.ins.map V.str)->cP K H a3 (p.outs.map V.str)->Vh K H v p
theorem Ml.same {H H':Hp} {v:V} {l:aF} (h:Ml K H v l) (s:aO H H'):Ml K H' v l:=by
 obtain⟨q,f,e,h1,h2⟩:=h
 exact⟨q,f,e,s _ _ h1,s.seqT h2⟩
theorem Vh.same {H H':Hp} {v:V} {p:PD} (h:Vh K H v p) (s:aO H H'):Vh K H' v p:=by
 obtain⟨q,a1,a2,a3,e,h1,h2,h3,h4⟩:=h
 exact⟨q,a1,a2,a3,e,s _ _ h1,s.seqT h2,s.seqT h3,s.seqT h4⟩
structure MT (K:PySem.W.Frag) (H:Hp) (T a b:Addr) (ls:List aF) (ps:List PD):Prop where
 tup:H T=some (.tup [.ref a,.ref b])
 lanes:∃xs,H a=some (.lst xs)/\jn (Ml K H) xs ls
 parts:∃xs,H b=some (.lst xs)/\jn (Vh K H) xs ps
theorem MT.same {H H':Hp} {T a b:Addr} {ls:List aF} {ps:List PD} (h:MT K H T a b ls ps) (s:aO H H'):MT K H' T a b ls ps:=by
 obtain⟨h1,⟨xs,e1,a1⟩,⟨ys,e2,a2⟩⟩:=h
 exact⟨s _ _ h1,⟨xs,s _ _ e1,a1.imp λ_ _ h=>h.same s⟩,⟨ys,s _ _ e2,a2.imp λ_ _ h=>h.same s⟩⟩
structure Tr (H:Hp) (f:Addr) (L:List (Addr×HO)) (Hk:Hp):Prop where
 but:jK f H Hk
 all:∀p∈L,Hk p.1=some p.2
 fre:∀p∈L,p.1=f∨H p.1=none
 nod:(L.map Prod.fst).Nodup
 obj:∃o,(f,o)∈L
theorem Tr.free {H Hk:Hp} {f x:Addr} {L:List (Addr×HO)} (T:Tr H f L Hk) (nx:Hk x=none):H x=none:=by
 cases e:H x with
 | none=>rfl
 | some o=>
  by_cases h:x=f
  ·obtain⟨u,hu⟩:=T.obj
   have:=T.all _ hu
   rw [h] at nx
   rw [nx] at this
   cases this
  ·rw [T.but x o h e] at nx
   cases nx
theorem Tr.new {H Hk:Hp} {f x:Addr} {L:List (Addr×HO)} {o:HO} (T:Tr H f L Hk) (nx:Hk x=none):Tr H f (L ++ [(x,o)]) (upd Hk x o):=by
 have hne:∀p∈L,p.1≠x:=λp hp z=>by have:=T.all p hp;rw [z,nx] at this;cases this
 have hx:=T.free nx
 refine⟨λb u n e=>by rw [aJ (aC e hx)];exact T.but b u n e,λp hp=>?_,λp hp=>?_,?_,?_⟩
 ·rcases List.mem_append.mp hp with h | h
  ·rw [aJ (hne p h)];exact T.all p h
  ·rw [List.mem_singleton] at h;subst h;exact ak
 ·rcases List.mem_append.mp hp with h | h
  ·exact T.fre p h
  ·rw [List.mem_singleton] at h;subst h;exact .inr hx
 ·rw [List.map_append,List.nodup_append]
  refine⟨T.nod,by simp,λa ha b hb=>?_⟩
  obtain⟨p,hp,rfl⟩:=List.mem_map.mp ha
  simp at hb
  subst hb
  exact hne p hp
 ·obtain⟨u,hu⟩:=T.obj
  exact⟨u,List.mem_append.mpr (.inl hu)⟩
theorem Tr.same {H Hk Hk':Hp} {f:Addr} {L:List (Addr×HO)} (T:Tr H f L Hk) (s:aO Hk Hk'):Tr H f L Hk':=
 ⟨λb u n e=>s _ _ (T.but b u n e),λp hp=>s _ _ (T.all p hp),T.fre,T.nod,T.obj⟩
theorem Tr.put {H Hk:Hp} {f x:Addr} {o o':HO} {L1 L2:List (Addr×HO)} (T:Tr H f (L1 ++ (x,o):: L2) Hk):Tr H f (L1 ++ (x,o'):: L2) (upd Hk x o'):=by
 have hx:x=f∨H x=none:=T.fre (x,o) (by simp)
 have nd:=T.nod
 rw [List.map_append,List.map_cons,List.nodup_append] at nd
 obtain⟨n1,n2,n3⟩:=nd
 rw [List.nodup_cons] at n2
 refine⟨λb u n e=>?_,λp hp=>?_,λp hp=>?_,?_,?_⟩
 ·have:b≠x:=by
   rcases hx with rfl | hx
   ·exact n
   ·exact aC e hx
  rw [aJ this];exact T.but b u n e
 ·rcases List.mem_append.mp hp with h | h
  ·have:p.1≠x:=n3 p.1 (List.mem_map.mpr ⟨p,h,rfl⟩) x (by simp)
   rw [aJ this];exact T.all p (by simp [h])
  ·rcases List.mem_cons.mp h with rfl | h
   ·exact ak
   ·have:p.1≠x:=λz=>n2.1 (by rw [<-z];exact List.mem_map.mpr ⟨p,h,rfl⟩)
    rw [aJ this];exact T.all p (by simp [h])
 ·rcases List.mem_append.mp hp with h | h
  ·exact T.fre p (by simp [h])
  ·rcases List.mem_cons.mp h with rfl | h
   ·exact hx
   ·exact T.fre p (by simp [h])
 ·have:=T.nod
  rw [List.map_append,List.map_cons] at this ⊢
  exact this
 ·obtain⟨u,hu⟩:=T.obj
  rcases List.mem_append.mp hu with h | h
  ·exact⟨u,by simp [h]⟩
  ·rcases List.mem_cons.mp h with h | h
   ·cases h;exact⟨o',by simp⟩
   ·exact⟨u,by simp [h]⟩
theorem Tr.start {H:Hp} {f:Addr} {o:HO} (e:H f=some o):Tr H f [(f,o)] H:=⟨jK.refl _,λp hp=>by rw [List.mem_singleton] at hp;subst hp;exact e,λp hp=>by rw [List.mem_singleton] at hp;subst hp;exact .inl rfl,by simp,o,by simp⟩
inductive Xf (K:PySem.W.Frag) (H:Hp) (v:V) (l:aF):Prop where
 | mk:∀q f,v=.ref q->H q=some (.tup [.str l.name,.int l.room,.ref f])->zg K H f (l.first.map V.int)->Xf K H v l
inductive aaG (K:PySem.W.Frag) (H:Hp) (v:V) (p:PD):Prop where
 | mk:∀q a1 a2 a3,v=.ref q->H q=some (.tup [.str (fQ p.kind),.str p.name,.ref a1,.ref a2,.ref a3])->zg K H a1 (p.nums.map V.int)->zg K H a2 (p.ins.map V.str)->zg K H a3 (p.outs.map V.str)->aaG K H v p
structure Hand (K:PySem.W.Frag) (H:Hp) (Ll Lp:Addr) (ls:List aF) (ps:List PD):Prop where
 ll:∃xs,bI K H Ll xs/\jn (Xf K H) xs ls
 lp:∃xs,bI K H Lp xs/\jn (aaG K H) xs ps
theorem jG {α:Type} {f:α->Str} {xs:List α} (nd:(xs.map f).Nodup) {j:Nat} {x:α} (h:xs[j]?=some x):f x∉(xs.take j).map f:=λhm=>by
 have hj:=(List.getElem?_eq_some_iff.mp h).1
 have e:xs[j]=x:=(List.getElem?_eq_some_iff.mp h).2
 rw [List.map_take] at hm
 obtain⟨i,hi,ei⟩:=List.mem_iff_getElem.mp hm
 rw [List.length_take,lM] at hi
 rw [List.getElem_take] at ei
 have e2:(xs.map f)[j]'(by rw [lM];exact hj)=f x:=by rw [List.getElem_map,e]
 have:=(List.getElem_inj nd).mp (ei.trans e2.symm)
 omega
theorem O8 {f:PD->List Str} {ps:List PD} (nd:(ps.flatMap f).Nodup) {j:Nat} {p:PD} (h:ps[j]?=some p):(f p).Nodup/\∀z∈f p,z∉(ps.take j).flatMap f:=by
 have hj:=(List.getElem?_eq_some_iff.mp h).1
 have e:ps[j]=p:=(List.getElem?_eq_some_iff.mp h).2
 have e2:ps=ps.take j ++ p:: ps.drop (j+1):=by rw [<-e,<-List.drop_eq_getElem_cons hj,List.take_append_drop]
 rw [e2,List.flatMap_append,List.flatMap_cons,List.nodup_append] at nd
 obtain⟨n1,n2,n3⟩:=nd
 rw [List.nodup_append] at n2
 exact⟨n2.1,λz hz hm=>n3 z hm z (List.mem_append.mpr (.inl hz)) rfl⟩
theorem zj {H:Hp} {d:Addr} {kvs:List (Key×V)} (e:H d=some (.dK kvs)) {b:Addr} {u:HO} (h:H b=some u) (hu:∀ks,u≠.dK ks):bf [d] H b=some u:=fB h (by
 rw [List.mem_singleton]
 rintro rfl
 rw [e] at h
 exact hu _ (Option.some.inj h).symm)
theorem yL {H:Hp} {d a:Addr} {kvs:List (Key×V)} {xs:List V} (e:H d=some (.dK kvs)) (h:cP K H a xs):cP K (bf [d] H) a xs:=by
 rcases h with (h | ⟨o,h⟩) | h
 ·exact .inl (.inl (zj e h (by intro _ z;cases z)))
 ·exact .inl (.inr ⟨o,zj e h (by intro _ z;cases z)⟩)
 ·exact .inr h
theorem dX.off {H:Hp} {d p:Addr} {kvs:List (Key×V)} {i:Nat} {nm:V} {ns is os:List V} (e:H d=some (.dK kvs)) (h:dX K t H p i nm ns is os):dX K t (bf [d] H) p i nm ns is os:=by
 obtain⟨dx,tn,ti,to,h1,h2,h3,h4⟩:=h
 exact⟨dx,tn,ti,to,zj e h1 (by intro _ z;cases z),yL e h2,yL e h3,yL e h4⟩
theorem ue.off {H:Hp} {n dx R F Pd G Tk d:Addr} {ls:List aF} {ps:List PD} {fs:List (Str×V)} {FL:List (aF×Addr)} {PL:List (PD×Addr)} {kvs:List (Key×V)} (N:ue K t H n ls ps dx fs R F Pd G Tk FL PL) (e:H d=some (.dK kvs)) (ne:d≠R/\d≠F/\d≠Pd/\d≠G/\d≠Tk):ue K t (bf [d] H) n ls ps dx fs R F Pd G Tk FL PL:=by
 obtain⟨n1,n2,n3,n4,n5⟩:=ne
 have c:∀{x:Addr} {o:HO},d≠x->H x=some o->bf [d] H x=some o:=λhx h=>fB h (by rw [List.mem_singleton];exact Ne.symm hx)
 exact⟨zj e N.obj (by intro _ z;cases z),N.fl,c n1 N.rooms,c n2 N.firsts,c n3 N.parts,c n4 N.givers,c n5 N.takers,N.fls,N.pls,λq hq=>yL e (N.tups q hq),λq hq=>(N.pats q hq).off e,N.fit,N.neRF⟩
theorem DN.off {H:Hp} {L P d:Addr} {ls:List aF} {ps:List PD} {kvs:List (Key×V)} (e:H d=some (.dK kvs)) (h:DN H L P ls ps):DN (bf [d] H) L P ls ps:=by
 obtain⟨⟨xs,e1,a1⟩,⟨ys,e2,a2⟩⟩:=h
 have g:∀{b:Addr} {u:HO},H b=some u->(∀ks,u≠.dK ks)->bf [d] H b=some u:=λh hu=>zj e h hu
 refine⟨⟨xs,g e1 (by intro _ z;cases z),a1.imp λ_ _ h=>?_⟩,⟨ys,g e2 (by intro _ z;cases z),a2.imp λ_ _ h=>?_⟩⟩
 ·obtain⟨q,f,e0,h1,h2⟩:=h
  exact⟨q,f,e0,g h1 (by intro _ z;cases z),g h2 (by intro _ z;cases z)⟩
 ·obtain⟨q,b1,b2,b3,e0,h1,h2,h3,h4⟩:=h
  exact⟨q,b1,b2,b3,e0,g h1 (by intro _ z;cases z),g h2 (by intro _ z;cases z),g h3 (by intro _ z;cases z),g h4 (by intro _ z;cases z)⟩
theorem zG {H H':Hp} {d:Addr} (s:aO H H') (n:H d=none):aO H (bf [d] H'):=λb o e=>fB (s _ _ e) (by
 rw [List.mem_singleton]
 exact aC e n)
theorem yx {H H':Hp} {d:Addr} {o:HO} (s:aO H H') (h:H d=some o):aO (bf [d] H) (bf [d] H'):=FN s (λa ha=>by rw [List.mem_singleton] at ha;subst ha;exact⟨o,h⟩)
noncomputable def fC {β:Type} (g:β->V) (m:List (Str×β)):List (Key×V):=m.map λq=>((Sum.inr q.1:Key),g q.2)
noncomputable def cB {β:Type} (m:List (Str×β)) (x:Str):Option β:=(m.find? λq=>decide (q.1=x)).map (·.2)
noncomputable def eX {β:Type} (m:List (Str×β)) (x:Str) (b:β):List (Str×β):=if (m.any λq=>decide (q.1=x))=true then m.map (λq=>if q.1=x then(q.1,b) else q) else m ++ [(x,b)]
section
variable {β:Type} {g:β->V}
theorem pX (g:β->V) (m:List (Str×β)):(fC g m).length=m.length:=by unfold fC;rw [lM]
theorem YS {m:List (Str×β)} {j:Nat} {k:Key} {v:V} (h:(fC g m)[j]?=some (k,v)):∃q,m[j]?=some q/\k=Sum.inr q.1/\v=g q.2:=by
 unfold fC at h
 rw [List.getElem?_map] at h
 obtain⟨q,hq,e⟩:=Option.map_eq_some_iff.mp h
 cases e
 exact⟨q,hq,rfl,rfl⟩
theorem tW (g:β->V) (x:Str):∀m:List (Str×β),bW (fC g m) (Sum.inr x)=(cB m x).map g
 | []=>rfl
 | q:: r=>by
  unfold fC cB
  rw [List.map_cons]
  by_cases h:q.1=x
  ·rw [gh (by rw [h]),List.find?_cons_of_pos (by simp [h])]
   rfl
  ·rw [fL (λz=>h (Sum.inr.inj z)),List.find?_cons_of_neg (by simp [h])]
   exact tW g x r
theorem jg {H:Hp} {d:Addr} {m:List (Str×β)} (h:H d=some (.dK (fC g m))) (x:Str):dW H d (.str x) ((cB m x).map g):=by
 rw [<-tW]
 exact dW.k (k:=Sum.inr x) h
theorem Ue {H:Hp} {d:Addr} {o:Obj} {m:List (Str×β)} (h:H d=some (.frz o (.dK (fC g m)))) (x:Str):dW H d (.str x) ((cB m x).map g):=.inl ⟨_,Sum.inr x,.inr ⟨o,h⟩,rfl,(tW g x m).symm⟩
theorem wV (m:List (Str×β)) (x:Str):(m.any λq=>decide (q.1=x))=(cB m x).isSome:=by
 unfold cB
 induction m with
 | nil=>rfl
 | cons q r ih=>
  rw [List.any_cons,ih]
  by_cases h:q.1=x
  ·rw [List.find?_cons_of_pos (by simp [h])];simp [h]
  ·rw [List.find?_cons_of_neg (by simp [h])];simp [h]
theorem rK (g:β->V) (m:List (Str×β)) (x:Str) (b:β):putK (fC g m) (Sum.inr x) (g b)=fC g (eX m x b):=by
 have e:(fC g m).any (λkv=>decide (kv.1=(Sum.inr x:Key)))=m.any (λq=>decide (q.1=x)):=by
  unfold fC
  rw [List.any_map]
  congr 1
  funext q
  simp
 unfold putK eX
 rw [e]
 split
 ·unfold fC
  rw [List.map_map,List.map_map]
  refine List.map_congr_left λq _=>?_
  by_cases hq:q.1=x
  ·simp [hq]
  ·simp [hq]
 ·unfold fC
  rw [List.map_append]
  rfl
theorem fM (q:Str×β) (r:List (Str×β)) (y:Str):cB (q:: r) y=if q.1=y then some q.2 else cB r y:=by
 unfold cB
 by_cases h:q.1=y
 ·rw [List.find?_cons_of_pos (by simp [h]),if_pos h];rfl
 ·rw [List.find?_cons_of_neg (by simp [h]),if_neg h]
theorem V6 (l r:List (Str×β)) (y:Str):cB (l ++ r) y=(cB l y).or (cB r y):=by
 unfold cB
 rw [List.find?_append]
 cases l.find? (λq=>decide (q.1=y)) <;> simp
theorem pL (m:List (Str×β)) (x:Str) (b:β) (y:Str):cB (eX m x b) y=if y=x then some b else cB m y:=by
 have ha:=wV m x
 unfold eX
 split
 ·rename_i h
  rw [h] at ha
  clear h
  induction m with
  | nil=>simp [cB] at ha
  | cons q r ih=>
   rw [List.map_cons,fM,fM]
   by_cases hq:q.1=x
   ·rw [if_pos hq]
    dsimp only
    by_cases hy:y=x
    ·rw [if_pos (hq.trans hy.symm),if_pos hy]
    ·rw [if_neg (λz=>hy (z.symm.trans hq)),if_neg hy,if_neg (λz=>hy (z.symm.trans hq))]
     have:∀r:List (Str×β),cB (r.map λq=>if q.1=x then(q.1,b) else q) y=cB r y:=λr=>by
      induction r with
      | nil=>rfl
      | cons p t ih2=>
       rw [List.map_cons,fM,fM,ih2]
       by_cases hp:p.1=x
       ·rw [if_pos hp]
        dsimp only
        have:¬p.1=y:=λz=>hy (z.symm.trans hp)
        rw [if_neg this,if_neg this]
       ·rw [if_neg hp]
     exact this r
   ·rw [if_neg hq]
    have ih:=ih (by rw [fM,if_neg hq] at ha;exact ha)
    rw [ih]
    by_cases hy:q.1=y
    ·rw [if_pos hy,if_pos hy,if_neg (λz=>hq (hy.trans z))]
    ·rw [if_neg hy,if_neg hy]
 ·rename_i h
  rw [V6,fM]
  have hn:cB m x=none:=by
   cases e:cB m x with
   | none=>rfl
   | some b=>rw [e] at ha;exact absurd ha h
  by_cases hy:y=x
  ·subst hy
   rw [hn,if_pos rfl,if_pos rfl]
   rfl
  ·rw [if_neg (λz=>hy z.symm),if_neg hy]
   cases cB m y <;> rfl
theorem o9 {m:List (Str×β)} {x:Str} {b:β} (h:cB m x=some b):(x,b)∈m:=by
 unfold cB at h
 obtain⟨q,hq,rfl⟩:=Option.map_eq_some_iff.mp h
 have h1:=List.mem_of_find?_eq_some hq
 have h2:=List.find?_some hq
 simp only [decide_eq_true_eq] at h2
 rw [<-h2]
 exact h1
theorem Uq {m:List (Str×β)} {x:Str} (h:x∉m.map (·.1)):cB m x=none:=by
 cases e:cB m x with
 | none=>rfl
 | some b=>exact absurd (List.mem_map.mpr ⟨_,o9 e,rfl⟩) h
theorem jA {m:List (Str×β)} {x:Str}:(cB m x).isSome=true↔x∈m.map (·.1):=by
 constructor
 ·intro h
  obtain⟨b,e⟩:=Option.isSome_iff_exists.mp h
  exact List.mem_map.mpr ⟨_,o9 e,rfl⟩
 ·intro h
  rw [<-wV]
  obtain⟨q,hq,rfl⟩:=List.mem_map.mp h
  exact List.any_eq_true.mpr ⟨q,hq,by simp⟩
theorem Ui:∀{m:List (Str×β)} (_:(m.map (·.1)).Nodup) {q:Str×β} (_:q∈m),cB m q.1=some q.2
 | p:: r,nd,q,hq=>by
  rw [List.map_cons,List.nodup_cons] at nd
  rw [fM]
  rcases List.mem_cons.mp hq with rfl | h
  ·rw [if_pos rfl]
  ·rw [if_neg (λz=>nd.1 (by rw [z];exact List.mem_map.mpr ⟨q,h,rfl⟩))]
   exact Ui nd.2 h
theorem Fp {m:List (Str×β)} {x:Str} {b:β} {q:Str×β} (h:q∈eX m x b):q∈m∨q=(x,b):=by
 unfold eX at h
 split at h
 ·obtain⟨p,hp,rfl⟩:=List.mem_map.mp h
  split
  ·rename_i e;exact .inr (by rw [e])
  ·exact .inl hp
 ·rcases List.mem_append.mp h with h | h
  ·exact .inl h
  ·rw [List.mem_singleton] at h;exact .inr h
theorem qN {m:List (Str×β)} {x:Str} (b:β) (h:x∉m.map (·.1)):eX m x b=m ++ [(x,b)]:=by
 unfold eX
 rw [wV,Uq h]
 exact if_neg (by simp)
theorem Aq {m:List (Str×β)} {x:Str} {b:β} (h:x∈m.map (·.1)):(eX m x b).map (·.1)=m.map (·.1):=by
 unfold eX
 rw [if_pos (by rw [wV];exact jA.mpr h),List.map_map]
 refine List.map_congr_left λq _=>?_
 dsimp only [Function.comp]
 split <;> rfl
theorem Ol {m:List (Str×β)} {x:Str} {b:β} (nd:(m.map (·.1)).Nodup):((eX m x b).map (·.1)).Nodup:=by
 by_cases h:x∈m.map (·.1)
 ·rw [Aq h];exact nd
 ·rw [qN b h,List.map_append,List.nodup_append]
  refine⟨nd,by simp,λa ha c hc e=>h ?_⟩
  rw [List.map_singleton,List.mem_singleton] at hc
  have hc:c=x:=hc
  rw [<-hc,<-e]
  exact ha
end
theorem f1T {α:Type} {p:α->Bool} {x:α} (h:p x=true):[x].filter p=[x]:=by simp [h]
theorem ZS {α:Type} {p:α->Bool} {x:α} (h:p x=false):[x].filter p=[]:=by simp [h]
theorem wB (x:Str) (xs:List Str):inV (.str x) (xs.map V.str)=decide (x∈xs):=by
 have:=DG (f:=λy:Str=>y) (xs:=xs) (x:=x)
 simpa using this
theorem nj (xs:List Str):(xs.map V.str).all lD=true:=by simp [lD]
structure iM where
 fr:Str
 to:Str
 tk:Int
 ln:Str
 wy:Str
noncomputable def N7 (a:iM):List V:=[.str a.fr,.str a.to,.int a.tk,.str a.ln,.str a.wy]
noncomputable abbrev AA:=iM×Addr
structure fU (H:Hp) (L:Addr) (ra:List AA):Prop where
 lst:H L=some (.lst (ra.map λq=>V.ref q.2))
 at_:∀q∈ra,H q.2=some (.tup (N7 q.1))
theorem fU.same {H H':Hp} {L:Addr} {ra:List AA} (h:fU H L ra) (s:aO H H'):fU H' L ra:=⟨s _ _ h.lst,λq hq=>s _ _ (h.at_ q hq)⟩
theorem fU.get {H:Hp} {L:Addr} {ra:List AA} (h:fU H L ra) {j:Nat} {x:V} (hx:(ra.map λq=>V.ref q.2)[j]?=some x):∃q,ra[j]?=some q/\x=.ref q.2/\H q.2=some (.tup (N7 q.1)):=by
 rw [List.getElem?_map] at hx
 obtain⟨q,hq,e⟩:=Option.map_eq_some_iff.mp hx
 exact⟨q,hq,e.symm,h.at_ q (List.mem_of_getElem? hq)⟩
noncomputable def qG (f:PD->List Str) (ps:List PD) (x:Str):Str:=match ps.find? (λp=>decide (x∈f p)) with
 | some p=>p.name
 | none=> ""
theorem ph {f:PD->List Str} {ps:List PD} (nd:(ps.flatMap f).Nodup) {p:PD} (hp:p∈ps) {x:Str} (hx:x∈f p):qG f ps x=p.name:=by
 obtain⟨q,hq⟩:∃q,ps.find? (λp=>decide (x∈f p))=some q:=Option.isSome_iff_exists.mp (by
  rw [List.find?_isSome]
  exact⟨p,hp,by simpa using hx⟩)
 unfold qG
 rw [hq]
 have h1:=List.mem_of_find?_eq_some hq
 have h2:=List.find?_some hq
 simp only [decide_eq_true_eq] at h2
 have e1:=eE nd h1 h2
 rw [eE nd hp hx] at e1
 simp only [Option.some.injEq,V.str.injEq] at e1
 exact e1.symm
noncomputable def lH (ps:List PD) (l:aF):List iM:=[⟨qG (·.outs) ps l.name,qG (·.ins) ps l.name,(l.first.length:Nat),l.name, "along"⟩,⟨qG (·.ins) ps l.name,qG (·.outs) ps l.name,l.room - (l.first.length:Nat),l.name, "against"⟩]
noncomputable def Bj (p:PD):iM:=⟨p.name,p.name,1, "", "again"⟩
noncomputable def bG (ls:List aF) (ps:List PD):List iM:=ls.flatMap (lH ps) ++ ps.map Bj
theorem Al (ps:List PD) (ls:List aF):(ls.flatMap (lH ps)).length=2 * ls.length:=by
 induction ls with
 | nil=>rfl
 | cons l r ih=>rw [List.flatMap_cons,lP,ih,List.length_cons];show 2+_=_;omega
theorem WK {H:Hp} {A b:Addr} {xs:List V} {o:HO} (e:H A=some (.lst xs)) (h:H b=some o) (hu:∀ys,o≠.lst ys):bf [A] H b=some o:=fB h (by
 rw [List.mem_singleton]
 rintro rfl
 rw [e] at h
 exact hu _ (Option.some.inj h).symm)
namespace Rg
section
variable {α:Type} [DecidableEq α]
theorem oY:∀{l m:List α},l.Nodup->(∀x∈l,x∈m)->l.length<=m.length
 | [],_,_,_=>Nat.zero_le _
 | a:: r,m,nd,h=>by
  rw [List.nodup_cons] at nd
  have ha:=h a List.mem_cons_self
  have:=oY (l:=r) (m:=m.erase a) nd.2 λx hx=>(List.mem_erase_of_ne (λz=>nd.1 (by rw [<-z];exact hx))).mpr (h x (List.mem_cons_of_mem _ hx))
  rw [List.length_erase_of_mem ha] at this
  have h1:=List.length_pos_of_mem ha
  rw [List.length_cons]
  omega
noncomputable def Way (f:α->Option α):List α->Prop
 | a:: b:: r=>f a=some b/\Way f (b:: r)
 | _=>True
theorem Way.tail {f:α->Option α} {a:α} {r:List α} (h:Way f (a:: r)):Way f r:=by
 cases r with
 | nil=>exact True.intro
 | cons b r=>exact h.2
theorem Way.drop {f:α->Option α}:∀{l:List α} (n:Nat),Way f l->Way f (l.drop n)
 | _,0,h=>h
 | [],n+1,_=>by simp [Way]
 | _:: _,n+1,h=>by rw [List.drop_succ_cons];exact Way.drop n h.tail
theorem Way.init {f:α->Option α}:∀{l:List α} {x:α},Way f (l ++ [x])->Way f l
 | [],_,_=>True.intro
 | [_],_,_=>True.intro
 | a:: b:: r,x,h=>⟨h.1,Way.init (l:=b:: r) h.2⟩
theorem Way.last {f:α->Option α}:∀{l:List α} {y x:α},Way f (l ++ [y] ++ [x])->f y=some x
 | [],_,_,h=>h.1
 | [_],_,_,h=>h.2.1
 | a:: b:: r,y,x,h=>Way.last (l:=b:: r) h.2
theorem Way.snoc {f:α->Option α}:∀{l:List α} {y x:α},Way f (l ++ [y])->f y=some x->Way f (l ++ [y] ++ [x])
 | [],_,_,_,h=>⟨h,True.intro⟩
 | [a],_,_,w,h=>⟨w.1,h,True.intro⟩
 | a:: b:: r,y,x,w,h=>⟨w.1,Way.snoc (l:=b:: r) w.2 h⟩
theorem Way.congr {f g:α->Option α}:∀{l:List α},(∀x∈l,f x=g x)->Way f l->Way g l
 | [],_,_=>True.intro
 | [_],_,_=>True.intro
 | a:: b:: r,h,w=>⟨by rw [<-h a List.mem_cons_self];exact w.1,Way.congr (λx hx=>h x (List.mem_cons_of_mem _ hx)) w.2⟩
theorem Way.app {f:α->Option α}:∀{l m:List α},Way f l->Way f m->(∀a b,l.getLast?=some a->m.head?=some b->f a=some b)->Way f (l ++ m)
 | [],_,_,w,_=>w
 | [a],[],_,_,_=>True.intro
 | [a],b:: m,_,w,h=>⟨h a b rfl rfl,w⟩
 | a:: b:: r,m,w,w2,h=>⟨w.1,Way.app (l:=b:: r) w.2 w2 λx y e e2=>h x y (by rw [List.getLast?_cons_cons];exact e) e2⟩
theorem Way.takeL {f:α->Option α}:∀{l m:List α},Way f (l ++ m)->Way f l
 | [],_,_=>True.intro
 | [_],_,_=>True.intro
 | a:: b:: r,m,h=>⟨h.1,Way.takeL (l:=b:: r) h.2⟩
theorem Way.dropL {f:α->Option α}:∀{l m:List α},Way f (l ++ m)->Way f m
 | [],_,h=>h
 | a:: r,m,h=>Way.dropL (l:=r) (Way.tail h)
theorem Way.joint {f:α->Option α}:∀{l m:List α} {a b:α},Way f (l ++ m)->l.getLast?=some a->m.head?=some b->f a=some b
 | [],_,_,_,_,e,_=>by cases e
 | [x],[],_,_,_,_,e=>by cases e
 | [x],y:: m,a,b,w,e,e2=>by
  cases e
  cases e2
  exact w.1
 | x:: y:: r,m,a,b,w,e,e2=>Way.joint (l:=y:: r) w.2 (by rw [List.getLast?_cons_cons] at e;exact e) e2
structure Round (f:α->Option α) (r:List α):Prop where
 way:Way f r
 shut:∀a b,r.getLast?=some a->r.head?=some b->f a=some b
 nd:r.Nodup
theorem Round.rot {f:α->Option α} {l m:List α} (h:Round f (l ++ m)):Round f (m ++ l):=by
 by_cases hl:l=[]
 ·subst hl;simpa using h
 by_cases hm:m=[]
 ·subst hm;simpa using h
 refine⟨h.way.dropL.app h.way.takeL λa b e e2=>?_,λa b e e2=>?_,?_⟩
 ·exact h.shut a b (by rw [List.getLast?_append,e];rfl) (by rw [List.head?_append,e2];rfl)
 ·obtain⟨x,hx⟩:∃x,l.getLast?=some x:=⟨l.getLast hl,List.getLast?_eq_some_getLast hl⟩
  obtain⟨y,hy⟩:∃y,m.head?=some y:=⟨m.head hm,List.head?_eq_some_head hm⟩
  rw [List.getLast?_append,hx] at e
  rw [List.head?_append,hy] at e2
  cases e
  cases e2
  exact h.way.joint hx hy
 ·have:=h.nd
  rw [List.nodup_append] at this ⊢
  exact⟨this.2.1,this.1,λa ha b hb e=>this.2.2 b hb a ha e.symm⟩
structure Good (T:α->Int) (f:α->Option α) (w:α->Int):Prop where
 slack:∀x y,f x=some y->T x<=T y+w x
 pos:∀r,r≠[]->Round f r->0 <(r.map w).sum
theorem aau {T:α->Int} {f:α->Option α} {w:α->Int}:∀{l:List α} {a e:α},Way f (a:: l ++ [e])->(∀x∈a:: l,∀y,f x=some y->T x<=T y+w x)->T a<=T e+((a:: l).map w).sum
 | [],a,e,h,s=>by
  have:=s a List.mem_cons_self e h.1
  simpa using this
 | b:: r,a,e,h,s=>by
  have h1:=s a List.mem_cons_self b h.1
  have h2:=aau (l:=r) (a:=b) (e:=e) h.2 λx hx=>s x (List.mem_cons_of_mem _ hx)
  rw [List.map_cons,List.sum_cons]
  omega
theorem Good.grow {T:α->Int} {f:α->Option α} {w:α->Int} (g:Good T f w) {u v:α} {c:Int} (h:T v <T u+c):
  Good (λx=>if x=v then T u+c else T x) (λx=>if x=v then some u else f x) (λx=>if x=v then c else w x):=by
 have up:∀x,T x<=if x=v then T u+c else T x:=λx=>by
  split
  ·rename_i e;subst e;omega
  ·exact Int.le_refl _
 refine⟨λx y e=>?_,λr hr R=>?_⟩
 ·by_cases hx:x=v
  ·subst hx
   rw [if_pos rfl] at e
   cases e
   rw [if_pos rfl,if_pos rfl]
   split
   ·rename_i e;subst e;omega
   ·exact Int.le_refl _
  ·rw [if_neg hx] at e
   rw [if_neg hx,if_neg hx]
   have:=g.slack x y e
   have:=up y
   omega
 ·by_cases hv:v∈r
  ·obtain⟨l,m,rfl⟩:=List.append_of_mem hv
   have R2:=R.rot
   have es:((l ++ v:: m).map λx=>if x=v then c else w x).sum=(((v:: m) ++ l).map λx=>if x=v then c else w x).sum:=by
    rw [List.map_append,List.map_append,List.sum_append,List.sum_append]
    omega
   rw [es]
   have nd:=R2.nd
   rw [List.cons_append,List.nodup_cons] at nd
   rw [List.cons_append,List.map_cons,List.sum_cons,if_pos rfl]
   have ew:((m ++ l).map λx=>if x=v then c else w x)=(m ++ l).map w:=List.map_congr_left λx hx=>if_neg λz=>nd.1 (by rw [<-z];exact hx)
   rw [ew]
   have way:=R2.way
   have shut:=R2.shut
   rw [List.cons_append] at way shut
   generalize m ++ l=q at nd way shut
   cases q with
   | nil=>
    have:=shut v v rfl rfl
    rw [if_pos rfl] at this
    cases this
    simp
    omega
   | cons b t=>
    have e1:(if v=v then some u else f v)=some b:=way.1
    rw [if_pos rfl] at e1
    cases e1
    have eq:∀x∈u:: t,(if x=v then some u else f x)=f x:=λx hx=>if_neg λz=>nd.1 (by rw [<-z];exact hx)
    have w2:Way f (u:: t):=(Way.tail way).congr eq
    have w3:Way f ((u:: t) ++ [v]):=w2.app True.intro λa b ea eb=>by
     have hb:b=v:=by simpa using eb.symm
     subst hb
     have:=shut a b (by rw [List.getLast?_cons_cons];exact ea) rfl
     rw [eq a (List.mem_of_getLast? ea)] at this
     exact this
    have:=aau (T:=T) (w:=w) (l:=t) (a:=u) (e:=v) w3 λx _ y e=>g.slack x y e
    omega
  ·have eq:∀x∈r,(if x=v then some u else f x)=f x:=λx hx=>if_neg λz=>hv (by rw [<-z];exact hx)
   have ew:(r.map λx=>if x=v then c else w x)=r.map w:=List.map_congr_left λx hx=>if_neg λz=>hv (by rw [<-z];exact hx)
   rw [ew]
   refine g.pos r hr ⟨R.way.congr eq,λa b ea eb=>?_,R.nd⟩
   rw [<-eq a (List.mem_of_getLast? ea)]
   exact R.shut a b ea eb
theorem Good.start (T:α->Int) (w:α->Int):Good T (λ_=>none) w:=by
 refine⟨λ_ _ e=>(by cases e),λr hr R=>?_⟩
 cases r with
 | nil=>exact absurd rfl hr
 | cons a r=>
  obtain⟨b,hb⟩:∃b,(a:: r).getLast?=some b:=⟨(a:: r).getLast (by simp),List.getLast?_eq_some_getLast (by simp)⟩
  have:=R.shut b a hb rfl
  cases this
structure Rq {A:Type} (fr to:A->α) (c:A->Int) (arcs:List A) (N:List α) (k j:Nat) (T:α->Int) (f:α->Option α) (w:α->Int) (R:α->Nat):Prop where
 good:Good T f w
 dom:∀v u,f v=some u->v∈N/\u∈N
 src:∀v,1<=R v->∃u,f v=some u/\R v<=R u+1
 le:∀v,R v<=k
 sat1:∀i a,i <j->arcs[i]?=some a->R (fr a) <k->T (fr a)+c a<=T (to a)
 sat2:2<=k->∀i a,j<=i->arcs[i]?=some a->R (fr a)+1 <k->T (fr a)+c a<=T (to a)
section
variable {A:Type} {fr to:A->α} {c:A->Int} {arcs:List A} {N:List α} {k j:Nat} {T:α->Int} {f:α->Option α} {w:α->Int} {R:α->Nat}
theorem Rq.stay (r:Rq fr to c arcs N k j T f w R) {a:A} (ha:arcs[j]?=some a) (h:T (fr a)+c a<=T (to a)):Rq fr to c arcs N k (j+1) T f w R:=by
 refine⟨r.good,r.dom,r.src,r.le,λi b hi hb hr=>?_,λhk i b hi hb hr=>r.sat2 hk i b (by omega) hb hr⟩
 by_cases e:i=j
 ·subst e
  rw [ha] at hb
  cases hb
  exact h
 ·exact r.sat1 i b (by omega) hb hr
theorem Rq.grow (r:Rq fr to c arcs N k j T f w R) (hk:1<=k) {a:A} (ha:arcs[j]?=some a) (h:T (to a) <T (fr a)+c a) (h1:fr a∈N) (h2:to a∈N):
  Rq fr to c arcs N k (j+1) (λx=>if x=to a then T (fr a)+c a else T x) (λx=>if x=to a then some (fr a) else f x) (λx=>if x=to a then c a else w x) (λx=>if x=to a then k else R x):=by
 have up:∀x,T x<=if x=to a then T (fr a)+c a else T x:=λx=>by
  split
  ·rename_i e;rw [e];omega
  ·exact Int.le_refl _
 have rup:∀x,R x<=if x=to a then k else R x:=λx=>by
  split
  ·exact r.le x
  ·exact Nat.le_refl _
 refine⟨r.good.grow h,λv u e=>?_,λv hv=>?_,λv=>?_,λi b hi hb hr=>?_,λk2 i b hi hb hr=>?_⟩
 ·by_cases hx:v=to a
  ·subst hx
   rw [if_pos rfl] at e
   cases e
   exact⟨h2,h1⟩
  ·rw [if_neg hx] at e
   exact r.dom v u e
 ·by_cases hx:v=to a
  ·subst hx
   refine⟨fr a,if_pos rfl,?_⟩
   rw [if_pos rfl]
   split
   ·omega
   ·rcases Nat.lt_or_ge (R (fr a)+1) k with z | z
    ·have:=r.sat2 (by omega) j a (Nat.le_refl _) ha z
     omega
    ·exact z
  ·rw [if_neg hx] at hv
   obtain⟨u,e,hu⟩:=r.src v hv
   refine⟨u,by rw [if_neg hx];exact e,?_⟩
   rw [if_neg hx]
   have:=rup u
   omega
 ·split
  ·exact Nat.le_refl _
  ·exact r.le v
 ·have hne:fr b≠to a:=λz=>by rw [if_pos z] at hr;omega
  rw [if_neg hne] at hr ⊢
  by_cases e:i=j
  ·subst e
   rw [ha] at hb
   cases hb
   rw [if_pos rfl]
   exact Int.le_refl _
  ·have:=r.sat1 i b (by omega) hb hr
   have:=up (to b)
   omega
 ·have hne:fr b≠to a:=λz=>by rw [if_pos z] at hr;omega
  rw [if_neg hne] at hr ⊢
  have:=r.sat2 k2 i b (by omega) hb hr
  have:=up (to b)
  omega
theorem Rq.next (r:Rq fr to c arcs N k arcs.length T f w R):Rq fr to c arcs N (k+1) 0 T f w R:=
 ⟨r.good,r.dom,r.src,λv=>Nat.le_succ_of_le (r.le v),λi a hi=>absurd hi (Nat.not_lt_zero _),λ_ i a _ ha hr=>r.sat1 i a (List.getElem?_eq_some_iff.mp ha).1 ha (by omega)⟩
theorem Rq.start:Rq fr to c arcs N 1 0 (λ_=>0) (λ_=>none) (λ_=>0) (λ_=>0):=
 ⟨.start _ _,λ_ _ e=>(by cases e),λ_ h=>absurd h (by omega),λ_=>Nat.zero_le _,λi a hi=>absurd hi (Nat.not_lt_zero _),λh=>absurd h (by omega)⟩
end
structure lG (f:α->Option α) (x:α) (seen:List α) (a:α):Prop where
 way:Way f (seen ++ [a])
 nd:seen.Nodup
 hd:(seen ++ [a]).head?=some x
theorem lG.start (f:α->Option α) (x:α):lG f x [] x:=⟨True.intro,List.nodup_nil,rfl⟩
theorem lG.step {f:α->Option α} {x a b:α} {seen:List α} (g:lG f x seen a) (e:f a=some b) (h:a∉seen):lG f x (seen ++ [a]) b:=by
 refine⟨g.way.snoc e,?_,?_⟩
 ·rw [List.nodup_append]
  exact⟨g.nd,by simp,λy hy z hz q=>h (by rw [List.mem_singleton] at hz;rw [<-hz,<-q];exact hy)⟩
 ·have:=g.hd
  cases seen <;> simpa using this
theorem lG.mem {f:α->Option α} {x a:α} {seen:List α} (g:lG f x seen a):∀y∈seen,∃z,f y=some z:=λy hy=>by
 obtain⟨l,m,rfl⟩:=List.append_of_mem hy
 have w:=g.way
 rw [List.append_assoc] at w
 have w:=w.dropL
 cases m with
 | nil=>exact⟨_,w.1⟩
 | cons b m=>exact⟨_,w.1⟩
theorem lG.round {f:α->Option α} {x a:α} {seen:List α} (g:lG f x seen a) {j:Nat} (h:seen[j]?=some a):Round f (seen.drop j)/\seen.drop j≠[]:=by
 have hj:=(List.getElem?_eq_some_iff.mp h).1
 have hne:seen.drop j≠[]:=λz=>by have:=congrArg List.length z;rw [List.length_drop,List.length_nil] at this;omega
 have w:=g.way.drop j
 rw [List.drop_append_of_le_length (by omega)] at w
 refine⟨⟨w.init,λy b ey eb=>?_,g.nd.sublist (List.drop_sublist _ _)⟩,hne⟩
 have hb:b=a:=by
  rw [List.head?_drop,h] at eb
  exact(Option.some.inj eb).symm
 subst hb
 exact w.joint ey rfl
theorem lG.deep {f:α->Option α} {x a:α} {seen N:List α} {R:α->Nat} (g:lG f x seen a) (src:∀v,1<=R v->∃u,f v=some u/\R v<=R u+1) (dom:∀v u,f v=some u->v∈N/\u∈N) (hx:x∈N) (hR:N.length<=R x) (stop:a∈seen∨f a=none):a∈seen:=by
 rcases stop with h | h
 ·exact h
 refine Classical.byContradiction λhn=>?_
 have ra:R a=0:=by
  cases e:R a with
  | zero=>rfl
  | succ n=>
   obtain⟨u,eu,_⟩:=src a (by omega)
   rw [h] at eu
   cases eu
 have key:∀(l:List α) (y:α),Way f (l ++ [a])->(l ++ [a]).head?=some y->R y<=R a+l.length:=by
  intro l
  induction l with
  | nil=>
   intro y _ e
   have:a=y:=by simpa using e
   subst this
   exact Nat.le_refl _
  | cons b r ih=>
   intro y w e
   have:b=y:=by simpa using e
   subst this
   rcases Nat.eq_zero_or_pos (R b) with z | z
   ·omega
   ·obtain⟨u,eu,hu⟩:=src b z
    have w2:Way f (r ++ [a]):=Way.tail w
    have:(r ++ [a]).head?=some u:=by
     cases r with
     | nil=>have:=w.1;rw [eu] at this;simpa using this.symm
     | cons d r=>have:=w.1;rw [eu] at this;simpa using this.symm
    have:=ih u w2 this
    rw [List.length_cons]
    omega
 have h1:=key seen x g.way g.hd
 have hin:∀y∈seen ++ [a],y∈N:=λy hy=>by
  rcases List.mem_append.mp hy with hs | hs
  ·obtain⟨z,ez⟩:=g.mem y hs
   exact(dom y z ez).1
  ·rw [List.mem_singleton] at hs
   subst hs
   cases hq:seen.getLast? with
   | none=>
    have:seen=[]:=by simpa using hq
    subst this
    have:=g.hd
    have:y=x:=by simpa using this
    subst this
    exact hx
   | some l=>exact(dom _ _ (g.way.joint hq rfl)).2
 have nd:(seen ++ [a]).Nodup:=by
  rw [List.nodup_append]
  exact⟨g.nd,by simp,λy hy z hz q=>hn (by rw [List.mem_singleton] at hz;rw [<-hz,<-q];exact hy)⟩
 have:=oY nd hin
 rw [lP,List.length_singleton] at this
 omega
end
end Rg
structure sV (K:PySem.W.Frag) (t:jw) (H:Hp) (f n E G Kp D Rw:Addr):Prop where
 ex:∃dx fs,H f=some (.ins t.bU dx fs)/\VG ["holds", "held_now", "gone_by", "row_left", "head", "heads", "lacking", "row_ended", "deed", "do"] [("net",.ref n),("ever",.ref E),("gone",.ref G),("kept",.ref Kp),("done",.ref D),("rows",.ref Rw)] fs
theorem sV.same {H H':Hp} {f n E G Kp D Rw:Addr} (h:sV K t H f n E G Kp D Rw) (s:aO H H'):sV K t H' f n E G Kp D Rw:=by
 obtain⟨dx,fs,h1,h2⟩:=h
 exact⟨dx,fs,s _ _ h1,h2⟩
noncomputable def fG (i:Nat) (xs:List Str) (hs:List V):V:=match (places i hs).find? (uZ hs) with
 | some q=>((xs[q]?).map V.str).getD .non
 | none=>.non
theorem zH {H:Hp}:∀{rs:List Addr} {vss:List (List V)} {j:Nat} {r:Addr},iW H rs vss->rs[j]?=some r->∃vs,vss[j]?=some vs/\H r=some (.tup vs)
 | _,_,_,_,.nil,e=>by simp at e
 | _,_,0,_,.cons h _,e=>by simp at e;subst e;exact⟨_,rfl,h⟩
 | _,_,j+1,_,.cons _ t,e=>by
  obtain⟨vs,h1,h2⟩:=zH (j:=j) t (by simpa using e)
  exact⟨vs,by simpa using h1,h2⟩
theorem places_len {i:Nat} {hs:List V} (h:yZ i hs):(places i hs).length<=3:=by
 have h3:=GD i
 have h1:=h.1
 unfold places
 by_cases hi:i=9
 ·rw [if_pos hi]
  split <;> simp
 ·rw [if_neg hi,List.length_range]
  omega
theorem Tr.got {H Hk Hk':Hp} {f x:Addr} {L:List (Addr×HO)} {o:HO} (T:Tr H f L Hk) (s:aO Hk Hk') (nx:Hk x=none) (ex:Hk' x=some o):Tr H f (L ++ [(x,o)]) Hk':=by
 have T':=T.same s
 have hx:=T.free nx
 refine⟨T'.but,λp hp=>?_,λp hp=>?_,?_,?_⟩
 ·rcases List.mem_append.mp hp with h | h
  ·exact T'.all p h
  ·rw [List.mem_singleton] at h;subst h;exact ex
 ·rcases List.mem_append.mp hp with h | h
  ·exact T.fre p h
  ·rw [List.mem_singleton] at h;subst h;exact .inr hx
 ·rw [List.map_append,List.nodup_append]
  refine⟨T.nod,by simp,λa ha b hb z=>?_⟩
  obtain⟨p,hp,rfl⟩:=List.mem_map.mp ha
  simp at hb
  have:=T.all p hp
  rw [z,hb,nx] at this
  cases this
 ·obtain⟨u,hu⟩:=T.obj
  exact⟨u,List.mem_append.mpr (.inl hu)⟩
theorem Ij {α:Type} {a b c d e f g x:α} {M:List α} (h:x∈M):x∈a:: b:: c:: d:: e:: f:: g:: M:=by simp [h]
theorem Tr.perm {H Hk:Hp} {f:Addr} {L L':List (Addr×HO)} (T:Tr H f L Hk) (h:L.Perm L'):Tr H f L' Hk:=
 ⟨T.but,λp hp=>T.all p (h.mem_iff.mpr hp),λp hp=>T.fre p (h.mem_iff.mpr hp),(h.map _).nodup_iff.mp T.nod,by obtain⟨o,ho⟩:=T.obj;exact⟨o,h.mem_iff.mp ho⟩⟩
theorem Tr.sub {H Hk:Hp} {f:Addr} {L L':List (Addr×HO)} (T:Tr H f L Hk) (h:L'.Sublist L) (hf:∃o,(f,o)∈L'):Tr H f L' Hk:=
 ⟨T.but,λp hp=>T.all p (h.subset hp),λp hp=>T.fre p (h.subset hp),T.nod.sublist (h.map _),hf⟩
noncomputable def jN (EL:List (aF×Addr)):List (Addr×HO):=EL.map λq=>(q.2,HO.lst (q.1.first.map V.int))
noncomputable def cT (g:Str->Nat) (ls:List aF):List (Key×V):=ls.map λl=>((Sum.inr l.name:Key),V.int (g l.name:Nat))
noncomputable def bV (k:Str->Int) (ps:List PD):List (Key×V):=ps.map λp=>((Sum.inr p.name:Key),V.int (k p.name))
theorem Dq (g:Str->Nat) (ls:List aF):(cT g ls).map (·.1)=(ls.map (·.name)).map (λx=>(Sum.inr x:Key)):=by unfold cT;rw [List.map_map,List.map_map];rfl
theorem Dv (k:Str->Int) (ps:List PD):(bV k ps).map (·.1)=(ps.map (·.name)).map (λx=>(Sum.inr x:Key)):=by unfold bV;rw [List.map_map,List.map_map];rfl
noncomputable def fX (ps:List PD) (x:Str):Int:=((ps.find? λp=>decide (p.name=x)).map λp=>if p.kind=5 then p.nums.headD 0 else 0).getD 0
noncomputable def Jl (p:PD):Int:=if p.kind=5 then p.nums.headD 0 else 0
theorem find_name {α:Type} {f:α->Str}:∀{ls:List α} (_:(ls.map f).Nodup) {l:α} (_:l∈ls),ls.find? (λx=>decide (f x=f l))=some l
 | a:: r,nd,l,hl=>by
  rw [List.map_cons,List.nodup_cons] at nd
  rcases List.mem_cons.mp hl with rfl | h
  ·rw [List.find?_cons_of_pos (by simp)]
  ·have:¬f a=f l:=λz=>nd.1 (by rw [z];exact List.mem_map.mpr ⟨l,h,rfl⟩)
   rw [List.find?_cons_of_neg (by simp [this])]
   exact find_name nd.2 h
theorem uD.inL {ls:List aF} {ps:List PD} (F:uD ls ps) {p:PD} (hp:p∈ps) {x:Str} (hx:x∈p.ins ++ p.outs):∃l∈ls,l.name=x:=by
 rcases List.mem_append.mp hx with h | h
 ·exact List.mem_map.mp (F.whole.ins.mem_iff.mp (List.mem_flatMap.mpr ⟨p,hp,h⟩))
 ·exact List.mem_map.mp (F.whole.outs.mem_iff.mp (List.mem_flatMap.mpr ⟨p,hp,h⟩))
theorem DQ {α β:Type} {f:α->β}:∀{l:List α},(l.map f).Nodup->∀{a b:α},a∈l->b∈l->f a=f b->a=b
 | x:: r,nd,a,b,ha,hb,e=>by
  rw [List.map_cons,List.nodup_cons] at nd
  rcases List.mem_cons.mp ha with h1 | h1
  ·rcases List.mem_cons.mp hb with h2 | h2
   ·rw [h1,h2]
   ·exact absurd (List.mem_map.mpr ⟨b,h2,by rw [<-e,h1]⟩) nd.1
  ·rcases List.mem_cons.mp hb with h2 | h2
   ·exact absurd (List.mem_map.mpr ⟨a,h1,by rw [e,h2]⟩) nd.1
   ·exact DQ nd.2 h1 h2 e
noncomputable def Yq:V->Int
 | .int n=>n
 | _=>0
structure FS where
 ev:Str->List Int
 g:Str->Nat
 k:Str->Int
 d:Str->Nat
 r:Str->List Int
structure qK where
 (f n E G Kp D Rw:Addr)
 (ea ra:Str->Addr)
noncomputable def qD (ps:List PD):List PD:=ps.filter λp=>decide (p.kind=0)
noncomputable def Vn (ea:Str->Addr) (ls:List aF):List (Key×V):=ls.map λl=>((Sum.inr l.name:Key),V.ref (ea l.name))
noncomputable def Ng (ra:Str->Addr) (ps:List PD):List (Key×V):=(qD ps).map λp=>((Sum.inr p.name:Key),V.ref (ra p.name))
noncomputable def qK.cells (A:qK) (ls:List aF) (ps:List PD):List Addr:=A.E:: A.G:: A.Kp:: A.D:: A.Rw:: (ls.map (λl=>A.ea l.name) ++ (qD ps).map (λp=>A.ra p.name))
structure fj (K:PySem.W.Frag) (t:jw) (H:Hp) (A:qK) (ls:List aF) (ps:List PD) (S:FS):Prop where
 at':sV K t H A.f A.n A.E A.G A.Kp A.D A.Rw
 ever:H A.E=some (.dK (Vn A.ea ls))
 lists:∀l∈ls,H (A.ea l.name)=some (.lst ((S.ev l.name).map V.int))
 gone:H A.G=some (.dK (cT S.g ls))
 kept:H A.Kp=some (.dK (bV S.k ps))
 done:H A.D=some (.dK (bV (λx=>(S.d x:Int)) ps))
 rows:H A.Rw=some (.dK (Ng A.ra ps))
 rlst:∀p∈ps,p.kind=0->H (A.ra p.name)=some (.lst ((S.r p.name).map V.int))
 nod:(A.cells ls ps).Nodup
theorem fj.same {H H':Hp} {A:qK} {ls:List aF} {ps:List PD} {S:FS} (h:fj K t H A ls ps S) (s:aO H H'):fj K t H' A ls ps S:=
 ⟨h.at'.same s,s _ _ h.ever,λl hl=>s _ _ (h.lists l hl),s _ _ h.gone,s _ _ h.kept,s _ _ h.done,s _ _ h.rows,λp hp h0=>s _ _ (h.rlst p hp h0),h.nod⟩
structure Rv (b:Nat) (ls:List aF) (ps:List PD) (S:FS):Prop where
 vb:∀l∈ls,∀v∈S.ev l.name,0<=v/\v <1000000000
 rb:∀p∈ps,p.kind=0->∀v∈S.r p.name,0<=v/\v <1000000000
 dl:∀p∈ps,p.kind=0->S.d p.name<=(S.r p.name).length
 len:∀l∈ls,(S.ev l.name).length<=b
 rl:∀p∈ps,p.kind=0->(S.r p.name).length<=300
theorem Vf (ea:Str->Addr) (ls:List aF):(Vn ea ls).map (·.1)=(ls.map (·.name)).map (λx=>(Sum.inr x:Key)):=by unfold Vn;rw [List.map_map,List.map_map];rfl
theorem Dc {ea:Str->Addr} {ls:List aF} (nd:(ls.map (·.name)).Nodup) {l:aF} (hl:l∈ls):bW (Vn ea ls) (Sum.inr l.name)=some (.ref (ea l.name)):=
 iz (by rw [Vf];exact gm nd) (List.mem_map.mpr ⟨l,hl,rfl⟩)
theorem wD {g:Str->Nat} {ls:List aF} (nd:(ls.map (·.name)).Nodup) {l:aF} (hl:l∈ls):bW (cT g ls) (Sum.inr l.name)=some (.int (g l.name:Nat)):=
 iz (by rw [Dq];exact gm nd) (List.mem_map.mpr ⟨l,hl,rfl⟩)
theorem wN {k:Str->Int} {ps:List PD} (nd:(ps.map (·.name)).Nodup) {p:PD} (hp:p∈ps):bW (bV k ps) (Sum.inr p.name)=some (.int (k p.name)):=
 iz (by rw [Dv];exact gm nd) (List.mem_map.mpr ⟨p,hp,rfl⟩)
theorem GX (ra:Str->Addr) (ps:List PD):(Ng ra ps).map (·.1)=((qD ps).map (·.name)).map (λx=>(Sum.inr x:Key)):=by unfold Ng;rw [List.map_map,List.map_map];rfl
theorem WW {ps:List PD} (nd:(ps.map (·.name)).Nodup):((qD ps).map (·.name)).Nodup:=nd.sublist (List.filter_sublist.map _)
theorem Fy {ra:Str->Addr} {ps:List PD} (nd:(ps.map (·.name)).Nodup) {p:PD} (hp:p∈ps) (h0:p.kind=0):bW (Ng ra ps) (Sum.inr p.name)=some (.ref (ra p.name)):=
 iz (by rw [GX];exact gm (WW nd)) (List.mem_map.mpr ⟨p,List.mem_filter.mpr ⟨hp,by simp [h0]⟩,rfl⟩)
theorem PP {ra:Str->Addr} {ps:List PD} (nd:(ps.map (·.name)).Nodup) {p:PD} (hp:p∈ps) (h0:p.kind≠0):bW (Ng ra ps) (Sum.inr p.name)=none:=by
 refine iu ?_
 rw [GX]
 intro z
 obtain⟨b,hb,e⟩:=List.mem_map.mp z
 cases e
 obtain⟨p',hp',en⟩:=List.mem_map.mp hb
 have hf:=List.mem_filter.mp hp'
 have a1:=find_name nd hf.1
 have a2:=find_name nd hp
 rw [en] at a1
 rw [a1] at a2
 cases a2
 exact h0 (by simpa using hf.2)
noncomputable def kY (S:FS) (x:Str):V:=(((S.ev x)[S.g x]?).map V.int).getD .non
noncomputable def bc (S:FS) (p:PD):List V:=p.ins.map (kY S)
structure ju where
 tk:List Str
 gv:List (Str×Int)
 kv:Int
noncomputable def strAt (xs:List Str) (q:Nat):Str:=(xs[q]?).getD Str.empty
noncomputable def Fq (S:FS) (p:PD):List Int:=if p.kind=0 then((S.r p.name)[S.d p.name]?).toList else(places p.kind (bc S p)).map λq=>Yq (((bc S p)[q]?).getD .non)
noncomputable def z9 (S:FS) (p:PD):Bool:=decide (p.kind=0) && decide (S.d p.name=(S.r p.name).length)
noncomputable def lC (S:FS) (p:PD):Option ju:=if fG p.kind p.ins (bc S p)≠.non then none else if z9 S p=true then none else
 some ⟨(places p.kind (bc S p)).map (strAt p.ins),(cA p.kind p.nums (Fq S p) (S.k p.name)).map λpv=>(strAt p.outs pv.1.toNat,pv.2),gK p.kind (Fq S p) (S.k p.name)⟩
inductive mH (M:List Addr) (H:Hp) (U:Addr) (dd:ju):Prop where
 | mk:∀La Lg rs,H U=some (.tup [.ref La,.ref Lg,.int dd.kv])->H La=some (.lst (dd.tk.map V.str))->H Lg=some (.lst (rs.map V.ref))->(iW H rs (dd.gv.map λq=>[.str q.1,.int q.2]))->La∉M->Lg∉M->mH M H U dd
theorem mH.same {M:List Addr} {H H':Hp} {U:Addr} {dd:ju} (h:mH M H U dd) (s:aO H H'):mH M H' U dd:=by
 obtain⟨La,Lg,rs,a,b,c,d,e,f⟩:=h
 exact⟨La,Lg,rs,s _ _ a,s _ _ b,s _ _ c,iW.same s d,e,f⟩
theorem qU (S:FS) (p:PD) (h:nY p):yZ p.kind (bc S p):=by
 refine⟨by unfold bc;rw [lM];exact h.2.2.1,λv hv=>?_⟩
 obtain⟨x,_,rfl⟩:=List.mem_map.mp hv
 unfold kY
 cases (S.ev x)[S.g x]? with
 | none=>exact .inl rfl
 | some n=>exact .inr ⟨n,rfl⟩
theorem fj.cell {H:Hp} {A:qK} {ls:List aF} {ps:List PD} {S:FS} (h:fj K t H A ls ps S) {a:Addr} (ha:H a=none):a∉A.cells ls ps:=by
 intro z
 have no:∀{b:Addr} {u:HO},H b=some u->a=b->False:=λe q=>by rw [<-q,ha] at e;cases e
 unfold qK.cells at z
 simp only [List.mem_cons,List.mem_append,List.mem_map] at z
 rcases z with z | z | z | z | z | ⟨l,hl,z⟩ | ⟨p,hp,z⟩
 ·exact no h.ever z
 ·exact no h.gone z
 ·exact no h.kept z
 ·exact no h.done z
 ·exact no h.rows z
 ·exact no (h.lists l hl) z.symm
 ·have hf:=List.mem_filter.mp hp
  exact no (h.rlst p hf.1 (by simpa using hf.2)) z.symm
noncomputable def vY (t:jw) (H:Hp) (r n f:Addr) (k:Nat):Prop:=∃dx fs,(H r=some (.ins t.ou dx fs)/\fs.length<=k+3)/\VG ["step", "need_doors", "next_deed", "full_lane", "can_work", "works", "lane_now", "turn"] [("net",.ref n),("flow",.ref f),("turns",.int (k:Nat))] fs
theorem vY.same {H H':Hp} {r n f:Addr} {k:Nat} (h:vY t H r n f k) (s:aO H H'):vY t H' r n f k:=by
 obtain⟨dx,fs,h1,h2⟩:=h
 exact⟨dx,fs,⟨s _ _ h1.1,h1.2⟩,h2⟩
inductive BW (K:PySem.W.Frag) (vs:List V) (H:Hp) (Q:VK) (E:XK):Prop where
 | mk:∀x Tx b,vs=[x]->tyN K H x Tx->Tx∈pJ->decide (Tx= "int")=b->Q (.bl b) H->BW K vs H Q E
theorem wg (T:Txt w K mg t):FO P w K mg base 1 t.Ej ["thing"] (BW K):=by
 have sc:=T.oN.sc ["thing"]
 refine T.oN.F.ok sc ln (λ_ _ _ _ H vs Q E hr h=>?_)
 obtain⟨x,Tx,b,rfl,ty,hm,rfl,k⟩:=h
 refine⟨_,(au (aQ (zX (bx zO (by rfl) T.mK j6 (aa (pv 0) (aa (CQ (by rfl) T.Z2 YB) aq aj) aj)) (zW (Yl (bx zO (by rfl) T.mK j6 (aa (pv 0) (aa (CQ (by rfl) T.Zf Wc) aq aj) aj))))))),?_⟩
 have hm':Tx= "int" ∨Tx= "bool" ∨(Mg Tx "int" =false/\Tx≠ "int"):=by
  simp only [pJ,List.mem_cons,List.not_mem_nil,or_false] at hm
  rcases hm with rfl | rfl | rfl | rfl | rfl | rfl | rfl
  ·exact .inr (.inr (by decide))
  ·exact .inr (.inl rfl)
  ·exact .inl rfl
  ·exact .inr (.inr (by decide))
  ·exact .inr (.inr (by decide))
  ·exact .inr (.inr (by decide))
  ·exact .inr (.inr (by decide))
 rcases hm' with rfl | rfl | ⟨h1,h2⟩
 ·exact⟨_,rfl,x, "int", "int",true,rfl,ty,by decide,by decide,true,rfl,iT ⟨_,rfl,x, "int", "bool",false,rfl,ty,by decide,by decide,_,rfl,k⟩⟩
 ·exact⟨_,rfl,x, "bool", "int",true,rfl,ty,by decide,by decide,true,rfl,iT ⟨_,rfl,x, "bool", "bool",true,rfl,ty,by decide,by decide,_,rfl,k⟩⟩
 ·rw [decide_eq_false h2] at k
  exact⟨_,rfl,x,Tx, "int",false,rfl,ty,by decide,h1,false,rfl,dq k⟩
inductive BV (K:PySem.W.Frag) (vs:List V) (H:Hp) (Q:VK) (E:XK):Prop where
 | mk:∀x,vs=[x]->(((∃i:Int,x=.int i/\Q (.bl (decide (0<=i) && decide (i <1000000000))) H)∨∃Tx,tyN K H x Tx/\Tx∈pJ/\Tx≠ "int" /\Q (.bl false) H))->BV K vs H Q E
theorem vM (T:Txt w K mg t):FO P w K mg base 2 t.Ec ["thing"] (BV K):=by
 have sc:=T.nC.sc ["thing"]
 refine T.nC.F.ok sc ln (λ_ _ _ _ H vs Q E hr h=>?_)
 obtain⟨x,rfl,h⟩:=h
 refine⟨_,(au (aQ (zX (jd (wg T) T.oN hr (aa (pv 0) aq aj)) (zW (TQ pW G7 aB (pv 0) (iC (by rfl) T.Ms)))))),?_⟩
 rcases h with ⟨i,rfl,k⟩ | ⟨Tx,ty,hm,hne,k⟩
 ·refine⟨_,rfl,.int i, "int",true,rfl,rfl,by decide,by decide,true,rfl,iT ⟨_,rfl,_,_,rfl,rfl,_,rfl,uB (λh=>?_) (λh=>?_)⟩⟩
  ·have h':0<=i:=of_decide_eq_true h
   rw [decide_eq_true h',Bool.true_and] at k
   exact⟨_,_,rfl,rfl,k⟩
  ·have h':¬0<=i:=λz=>h (decide_eq_true z)
   rw [decide_eq_false h',Bool.false_and] at k
   exact k
 ·exact⟨_,rfl,x,Tx,false,rfl,ty,hm,decide_eq_false hne,false,rfl,dq k⟩
inductive qZ (K:PySem.W.Frag) (t:jw) (vs:List V) (H:Hp) (Q:VK) (E:XK):Prop where
 | mk:∀(i:Nat) (p dx a1 a2 a3:Addr) (nm:V) (ns is os:List V),vs=[.ref p,nm,.ref a1,.ref a2,.ref a3]->H p=some (.ins (cls t i) dx [])->zg K H a1 ns->zg K H a2 is->zg K H a3 os->(∀H',jK p H H'->dX K t H' p i nm ns is os->Q .non H')->qZ K t vs H Q E
noncomputable abbrev lX:List Str:=["self", "name", "numbers", "ins", "outs"]
theorem bO (T:Txt w K mg t):FO P w K mg base 1 t.bJ lX (qZ K t):=by
 have sc:fY lX lX (aX (inClass (top 47) 0)):=Pk
 refine T.aW.F.ok sc ln (λ_ _ _ _ H vs Q E hr h=>?_)
 obtain⟨i,p,dx,a1,a2,a3,nm,ns,is,os,rfl,hp,q1,q2,q3,k⟩:=h
 refine⟨_,(ao (gU (pv 0) (pv 1) rfl)
  (ao (gU (pv 0) (dC wC (by rfl) T.CW yI (aa (pv 2) aq aj)) rfl)
  (ao (gU (pv 0) (dC wC (by rfl) T.CW yI (aa (pv 3) aq aj)) rfl)
  (au (gU (pv 0) (dC wC (by rfl) T.CW yI (aa (pv 4) aq aj)) rfl))))),?_⟩
 refine⟨_,rfl,_,rfl,p,cls t i,dx,[],rfl,hp,ir T i,CG T i,by show 0 <1000;decide,?_⟩
 have b1:jK p H (upd H p (.ins (cls t i) dx (aD "name" nm []))):=jK.write
 have e1:(upd H p (.ins (cls t i) dx (aD "name" nm []))) p=some (.ins (cls t i) dx (aD "name" nm [])):=ak
 generalize upd H p (.ins (cls t i) dx (aD "name" nm []))=H1 at b1 e1 ⊢
 have r2:=b1.seqA hp q2
 have r3:=b1.seqA hp q3
 refine⟨_,rfl,a1,ns,rfl,b1.seqA hp q1,λH2 u2 s2 t2=>⟨_,rfl,p,cls t i,dx,_,rfl,s2 _ _ e1,ir T i,rQ T i,Nat.lt_of_le_of_lt (gH (Nat.zero_le 0)) (by decide),?_⟩⟩
 have e2:=s2 _ _ e1
 have b2:jK p H2 (upd H2 p (.ins (cls t i) dx (aD "numbers" (.ref u2) (aD "name" nm [])))):=jK.write
 have e3:(upd H2 p (.ins (cls t i) dx (aD "numbers" (.ref u2) (aD "name" nm [])))) p=some (.ins (cls t i) dx (aD "numbers" (.ref u2) (aD "name" nm []))):=ak
 generalize upd H2 p (.ins (cls t i) dx (aD "numbers" (.ref u2) (aD "name" nm [])))=H3 at b2 e3 ⊢
 have r2':=b2.seqA e2 (s2.seqA r2)
 have r3':=b2.seqA e2 (s2.seqA r3)
 have t2':=b2.seqT e2 t2
 refine⟨_,rfl,a2,is,rfl,r2',λH4 u4 s4 t4=>⟨_,rfl,p,cls t i,dx,_,rfl,s4 _ _ e3,ir T i,Bc T i,Nat.lt_of_le_of_lt (gH (gH (Nat.zero_le 0))) (by decide),?_⟩⟩
 have e4:=s4 _ _ e3
 have b4:jK p H4 (upd H4 p (.ins (cls t i) dx (aD "ins" (.ref u4) (aD "numbers" (.ref u2) (aD "name" nm []))))):=jK.write
 have e5:(upd H4 p (.ins (cls t i) dx (aD "ins" (.ref u4) (aD "numbers" (.ref u2) (aD "name" nm []))))) p=some (.ins (cls t i) dx (aD "ins" (.ref u4) (aD "numbers" (.ref u2) (aD "name" nm [])))):=ak
 generalize upd H4 p (.ins (cls t i) dx (aD "ins" (.ref u4) (aD "numbers" (.ref u2) (aD "name" nm []))))=H5 at b4 e5 ⊢
 have r3'':=b4.seqA e4 (s4.seqA r3')
 have t2'':=b4.seqT e4 (s4.seqT t2')
 have t4':=b4.seqT e4 t4
 refine⟨_,rfl,a3,os,rfl,r3'',λH6 u6 s6 t6=>⟨_,rfl,p,cls t i,dx,_,rfl,s6 _ _ e5,ir T i,JN T i,Nat.lt_of_le_of_lt (gH (gH (gH (Nat.zero_le 0)))) (by decide),?_⟩⟩
 have e6:=s6 _ _ e5
 refine k _ (b1.trans ((jK.of_same s2).trans (b2.trans ((jK.of_same s4).trans (b4.trans ((jK.of_same s6).trans jK.write)))))) ⟨dx,u2,u4,u6,ak,?_,?_,?_⟩
 ·exact jK.write.seqT e6 (s6.seqT t2'')
 ·exact jK.write.seqT e6 (s6.seqT t4')
 ·exact jK.write.seqT e6 t6
theorem J5 (T:Txt w K mg t):FO P w K mg base 1 t.u5 ["self"] (gY 0):=by
 have sc:=T.p6.sc ["self"]
 refine T.p6.F.ok sc ln (λ_ _ _ _ H vs Q E hr h=>?_)
 obtain⟨x,rfl,k⟩:=h
 refine⟨_,(au (aQ bT)),?_⟩
 exact k
theorem J1 (T:Txt w K mg t):FO P w K mg base 1 t.uQ ["self"] (gY 1):=by
 have sc:=T.pZ.sc ["self"]
 refine T.pZ.F.ok sc ln (λ_ _ _ _ H vs Q E hr h=>?_)
 obtain⟨x,rfl,k⟩:=h
 refine⟨_,(au (aQ bT)),?_⟩
 exact k
theorem Jx (T:Txt w K mg t):FO P w K mg base 1 t.uX ["self"] (gY 2):=by
 have sc:=T.pP.sc ["self"]
 refine T.pP.F.ok sc ln (λ_ _ _ _ H vs Q E hr h=>?_)
 obtain⟨x,rfl,k⟩:=h
 refine⟨_,(au (aQ bT)),?_⟩
 exact k
theorem Jr (T:Txt w K mg t):FO P w K mg base 1 t.vf ["self"] (gY 3):=by
 have sc:=T.pQ.sc ["self"]
 refine T.pQ.F.ok sc ln (λ_ _ _ _ H vs Q E hr h=>?_)
 obtain⟨x,rfl,k⟩:=h
 refine⟨_,(au (aQ bT)),?_⟩
 exact k
theorem JW (T:Txt w K mg t):FO P w K mg base 1 t.vO ["self"] (gY 4):=by
 have sc:=T.pG.sc ["self"]
 refine T.pG.F.ok sc ln (λ_ _ _ _ H vs Q E hr h=>?_)
 obtain⟨x,rfl,k⟩:=h
 refine⟨_,(au (aQ bT)),?_⟩
 exact k
theorem Io (T:Txt w K mg t):FO P w K mg base 1 t.vH ["self"] (gY 5):=by
 have sc:=T.qb.sc ["self"]
 refine T.qb.F.ok sc ln (λ_ _ _ _ H vs Q E hr h=>?_)
 obtain⟨x,rfl,k⟩:=h
 refine⟨_,(au (aQ bT)),?_⟩
 exact k
theorem KJ (T:Txt w K mg t):FO P w K mg base 1 t.yg ["self"] (gY 6):=by
 have sc:=T.sY.sc ["self"]
 refine T.sY.F.ok sc ln (λ_ _ _ _ H vs Q E hr h=>?_)
 obtain⟨x,rfl,k⟩:=h
 refine⟨_,(au (aQ bT)),?_⟩
 exact k
theorem IV (T:Txt w K mg t):FO P w K mg base 1 t.uV ["self"] (gY 7):=by
 have sc:=T.pR.sc ["self"]
 refine T.pR.F.ok sc ln (λ_ _ _ _ H vs Q E hr h=>?_)
 obtain⟨x,rfl,k⟩:=h
 refine⟨_,(au (aQ bT)),?_⟩
 exact k
theorem Gx (T:Txt w K mg t):FO P w K mg base 1 t.tV ["self"] (gY 8):=by
 have sc:=T.mV.sc ["self"]
 refine T.mV.F.ok sc ln (λ_ _ _ _ H vs Q E hr h=>?_)
 obtain⟨x,rfl,k⟩:=h
 refine⟨_,(au (aQ bT)),?_⟩
 exact k
theorem Eb (T:Txt w K mg t):FO P w K mg base 1 t.qi ["self"] (gY 9):=by
 have sc:=T.j9.sc ["self"]
 refine T.j9.F.ok sc ln (λ_ _ _ _ H vs Q E hr h=>?_)
 obtain⟨x,rfl,k⟩:=h
 refine⟨_,(au (aQ bT)),?_⟩
 exact k
theorem Gi (T:Txt w K mg t):FO P w K mg base 1 t.sX ["self"] (gY 10):=by
 have sc:=T.mX.sc ["self"]
 refine T.mX.F.ok sc ln (λ_ _ _ _ H vs Q E hr h=>?_)
 obtain⟨x,rfl,k⟩:=h
 refine⟨_,(au (aQ bT)),?_⟩
 exact k
inductive FQ (vs:List V) (H:Hp) (Q:VK) (E:XK):Prop where
 | mk:∀z:Str,vs=[.str z]->Q (.bl (rowOf ROWS z).isSome) H->FQ vs H Q E
theorem Fj (T:Txt w K mg t):FO P w K mg base 1 t.Ik ["word"] (FQ):=by
 have sc:=T.wX.sc ["word"]
 refine T.wX.F.ok sc ln (λ_ _ _ _ H vs Q E hr h=>?_)
 obtain⟨z,rfl,k⟩:=h
 refine⟨_,(au (aQ (JC (Zc (pv 0) (Ip (v:=.ref _) (by rfl) T.HR rfl)) (by with_unfolding_all rfl)))),?_⟩
 exact⟨_,rfl,t.yR,ROWS,z,rfl,T.Ks,rfl,k⟩
inductive BR (K:PySem.W.Frag) (vs:List V) (H:Hp) (Q:VK) (E:XK):Prop where
 | mk:∀(i:Nat) (nm:V) (a1 a2 a3:Addr) (ns is os:List V),vs=[.str (fQ i),nm,.ref a1,.ref a2,.ref a3]->zg K H a1 ns->zg K H a2 is->zg K H a3 os->ns.length=cN i->is.length=cI i->os.length=cO i->((∀v∈ns,Val v))->(∀H',aO H H'->Q .non H')->BR K vs H Q E
noncomputable abbrev Ey:List Str:=["kind", "name", "numbers", "ins", "outs", "counts"]
theorem Ls (T:Txt w K mg t):FO P w K mg base 3 t.El ["kind", "name", "numbers", "ins", "outs"] (BR K):=by
 have sc:=T.yu.sc Ey
 refine T.yu.F.ok sc ln (λ_ _ _ _ H vs Q E hr h=>?_)
 obtain⟨i,nm,a1,a2,a3,ns,is,os,rfl,h1,h2,h3,l1,l2,l3,hv,k⟩:=h
 refine⟨_,(ao (b7 (jj (lW (jd (Fj T) T.wX hr (aa (pv 0) aq aj))))
   (au cH)
   bu)
  (ao (sN sc 5 (V9 (Ip (v:=.ref _) (by rfl) T.HR rfl) (pv 0) (λ_ _=>rfl)))
  (ao (b7 (PW.pt (xn (bD GP (bx b8 (by rfl) T.iy eQ (aa (pv 2) aq aj)) (aU aY (pv 5) aB (λ_ _=>rfl)) (cz _)) (qg (jj (lW (bx (zQ rfl) (by rfl) T.PJ Jp (aa (gf [] Ey (aX (top 60)) rfl (XH (bH (pv 2)) (JT (pv 2))) (λ_ _ _ _ _=>jl) (λ_ _ _ _ _=>(jd (vM T) T.nC hr (aa (pv 0) aq aj)))) aq d8)))))))
   (au cH)
   bu)
  (au (b7 (PW.pt (xn (bD GP (bx b8 (by rfl) T.iy eQ (aa (pv 3) aq aj)) (aU aY (pv 5) aB (λ_ _=>rfl)) (cz _)) (qg (bD GP (bx b8 (by rfl) T.iy eQ (aa (pv 4) aq aj)) (aU aY (pv 5) aB (λ_ _=>rfl)) (cz _)))))
   (au cH)
   bu))))),?_⟩
 have hl:sizeLine=16777216:=sizeLine_eq
 have hN:=aak i
 have hI:=GD i
 have hO:=X3 i
 refine⟨_,rfl,fQ i,rfl,true,by rw [row_of];rfl,dq ?_⟩
 refine⟨_,rfl,t.yR,ROWS,fQ i,_,rfl,T.Ks,rfl,row_of i,λad had=>?_⟩
 refine⟨_,rfl,.ref a1,ns.length,rfl,h1.len,_,rfl,ad,_,0,_,rfl,rfl,had,aM (j:=0) rfl,rfl,_,rfl,?_⟩
 rw [show(!decide (V.int ((ns.length:Nat):Int)=V.int ((cN i:Nat):Int)))=false by rw [l1];simp]
 refine dq ?_
 refine TY (a:=a1) (xs:=ns) ?_ h1 (λj ys=>ys=(List.replicate j true).map V.bl) (by omega) rfl (λj ys e=>by rw [e];simp) (λj x ys hx e=>?_) (λys e D hD=>?_)
 ·exact λR r=>⟨_,rfl,r⟩
 ·subst e
  obtain⟨n,rfl,n0,n1⟩:=hv x (List.mem_of_getElem? hx)
  refine yes ⟨_,rfl,.int n,rfl,.inl ⟨n,rfl,rfl,?_⟩⟩
  rw [decide_eq_true n0,decide_eq_true n1,List.replicate_succ']
  simp
 ·subst e
  refine⟨D,_,rfl,bI.of ak,_,rfl,?_⟩
  rw [show((List.replicate ns.length true).all id)=true by simp]
  refine dq ?_
  have s1:aO H (upd H D (.lst ((List.replicate ns.length true).map V.bl))):=az hD
  refine⟨_,rfl,.ref a2,is.length,rfl,(s1.seqA h2).len,_,rfl,ad,_,1,_,rfl,rfl,s1.seqT had,aM (j:=1) rfl,rfl,_,rfl,?_⟩
  rw [show(!decide (V.int ((is.length:Nat):Int)=V.int ((cI i:Nat):Int)))=false by rw [l2];simp]
  refine dq ?_
  refine⟨_,rfl,.ref a3,os.length,rfl,(s1.seqA h3).len,_,rfl,ad,_,2,_,rfl,rfl,s1.seqT had,aM (j:=2) rfl,rfl,_,rfl,?_⟩
  rw [show(!decide (V.int ((os.length:Nat):Int)=V.int ((cO i:Nat):Int)))=false by rw [l3];simp]
  exact dq (k _ s1)
inductive Fz (K:PySem.W.Frag) (t:jw) (vs:List V) (H:Hp) (Q:VK) (E:XK):Prop where
 | mk:∀(i:Nat) (nm:V) (a1 a2 a3:Addr) (ns is os:List V),vs=[.str (fQ i),nm,.ref a1,.ref a2,.ref a3]->i<=10->zg K H a1 ns->zg K H a2 is->zg K H a3 os->(∀H' p,aO H H'->H p=none->dX K t H' p i nm ns is os->Q (.ref p) H')->Fz K t vs H Q E
noncomputable abbrev zV:List Str:=["kind", "name", "numbers", "ins", "outs"]
theorem Mw (T:Txt w K mg t):FO P w K mg base 3 t.Hj zV (Fz K t):=by
 have sc:fY zV zV (aX (top 61)):=Pk
 refine T.Hg.F.ok sc ln (λ_ _ _ _ H vs Q E hr h=>?_)
 obtain⟨i,nm,a1,a2,a3,ns,is,os,rfl,hi,h1,h2,h3,k⟩:=h
 refine⟨_,(ao (b7 (bD jO (pv 0) bT (cz _))
   (au (aQ (gZ (T.ig.M T.aW) (bO T) (hr.mono (by decide)) (by rfl) T.ig.m T.aW.b .nil gB (aa (pv 1) (aa (pv 2) (aa (pv 3) (aa (pv 4) aq aj) aj) aj) aj))))
   bu)
  (ao (b7 (bD jO (pv 0) bT (cz _))
   (au (aQ (gZ (T.iG.M T.aW) (bO T) (hr.mono (by decide)) (by rfl) T.iG.m T.aW.b .nil gB (aa (pv 1) (aa (pv 2) (aa (pv 3) (aa (pv 4) aq aj) aj) aj) aj))))
   bu)
  (ao (b7 (bD jO (pv 0) bT (cz _))
   (au (aQ (gZ (T.iH.M T.aW) (bO T) (hr.mono (by decide)) (by rfl) T.iH.m T.aW.b .nil gB (aa (pv 1) (aa (pv 2) (aa (pv 3) (aa (pv 4) aq aj) aj) aj) aj))))
   bu)
  (ao (b7 (bD jO (pv 0) bT (cz _))
   (au (aQ (gZ (T.iJ.M T.aW) (bO T) (hr.mono (by decide)) (by rfl) T.iJ.m T.aW.b .nil gB (aa (pv 1) (aa (pv 2) (aa (pv 3) (aa (pv 4) aq aj) aj) aj) aj))))
   bu)
  (ao (b7 (bD jO (pv 0) bT (cz _))
   (au (aQ (gZ (T.iI.M T.aW) (bO T) (hr.mono (by decide)) (by rfl) T.iI.m T.aW.b .nil gB (aa (pv 1) (aa (pv 2) (aa (pv 3) (aa (pv 4) aq aj) aj) aj) aj))))
   bu)
  (ao (b7 (bD jO (pv 0) bT (cz _))
   (au (aQ (gZ (T.iD.M T.aW) (bO T) (hr.mono (by decide)) (by rfl) T.iD.m T.aW.b .nil gB (aa (pv 1) (aa (pv 2) (aa (pv 3) (aa (pv 4) aq aj) aj) aj) aj))))
   bu)
  (ao (b7 (bD jO (pv 0) bT (cz _))
   (au (aQ (gZ (T.lO.M T.aW) (bO T) (hr.mono (by decide)) (by rfl) T.lO.m T.aW.b .nil gB (aa (pv 1) (aa (pv 2) (aa (pv 3) (aa (pv 4) aq aj) aj) aj) aj))))
   bu)
  (ao (b7 (bD jO (pv 0) bT (cz _))
   (au (aQ (gZ (T.iB.M T.aW) (bO T) (hr.mono (by decide)) (by rfl) T.iB.m T.aW.b .nil gB (aa (pv 1) (aa (pv 2) (aa (pv 3) (aa (pv 4) aq aj) aj) aj) aj))))
   bu)
  (ao (b7 (bD jO (pv 0) bT (cz _))
   (au (aQ (gZ (T.fK.M T.aW) (bO T) (hr.mono (by decide)) (by rfl) T.fK.m T.aW.b .nil gB (aa (pv 1) (aa (pv 2) (aa (pv 3) (aa (pv 4) aq aj) aj) aj) aj))))
   bu)
  (ao (b7 (bD jO (pv 0) bT (cz _))
   (au (aQ (gZ (T.dM.M T.aW) (bO T) (hr.mono (by decide)) (by rfl) T.dM.m T.aW.b .nil gB (aa (pv 1) (aa (pv 2) (aa (pv 3) (aa (pv 4) aq aj) aj) aj) aj))))
   bu)
  (au (aQ (gZ (T.fD.M T.aW) (bO T) (hr.mono (by decide)) (by rfl) T.fD.m T.aW.b .nil gB (aa (pv 1) (aa (pv 2) (aa (pv 3) (aa (pv 4) aq aj) aj) aj) aj)))))))))))))),?_⟩
 match i,hi with
 | 0,_=>
  refine⟨_,rfl,rfl,_,rfl,rG rfl ?_⟩
  refine⟨_,rfl,_,rfl,_,rfl,_,rfl,λx dx nx ndx nex=>?_⟩
  have s0:aO H (upd (upd H dx (.own x)) x (.ins t.NT dx [])):=λb o e=>by rw [aJ (aC e nx),aJ (aC e ndx)];exact e
  exact⟨0,x,dx,a1,a2,a3,nm,ns,is,os,rfl,ak,s0.seqA h1,s0.seqA h2,s0.seqA h3,λH' b P=>⟨rfl,k H' x (λc o e=>b c o (aC e nx) (s0 c o e)) nx P⟩⟩
 | 1,_=>
  refine⟨_,rfl,rfl,_,rfl,dz (by decide +kernel) ?_⟩
  refine⟨_,rfl,rfl,_,rfl,rG rfl ?_⟩
  refine⟨_,rfl,_,rfl,_,rfl,_,rfl,λx dx nx ndx nex=>?_⟩
  have s0:aO H (upd (upd H dx (.own x)) x (.ins t.M7 dx [])):=λb o e=>by rw [aJ (aC e nx),aJ (aC e ndx)];exact e
  exact⟨1,x,dx,a1,a2,a3,nm,ns,is,os,rfl,ak,s0.seqA h1,s0.seqA h2,s0.seqA h3,λH' b P=>⟨rfl,k H' x (λc o e=>b c o (aC e nx) (s0 c o e)) nx P⟩⟩
 | 2,_=>
  refine⟨_,rfl,rfl,_,rfl,dz (by decide +kernel) ?_⟩
  refine⟨_,rfl,rfl,_,rfl,dz (by decide +kernel) ?_⟩
  refine⟨_,rfl,rfl,_,rfl,rG rfl ?_⟩
  refine⟨_,rfl,_,rfl,_,rfl,_,rfl,λx dx nx ndx nex=>?_⟩
  have s0:aO H (upd (upd H dx (.own x)) x (.ins t.NZ dx [])):=λb o e=>by rw [aJ (aC e nx),aJ (aC e ndx)];exact e
  exact⟨2,x,dx,a1,a2,a3,nm,ns,is,os,rfl,ak,s0.seqA h1,s0.seqA h2,s0.seqA h3,λH' b P=>⟨rfl,k H' x (λc o e=>b c o (aC e nx) (s0 c o e)) nx P⟩⟩
 | 3,_=>
  refine⟨_,rfl,rfl,_,rfl,dz (by decide +kernel) ?_⟩
  refine⟨_,rfl,rfl,_,rfl,dz (by decide +kernel) ?_⟩
  refine⟨_,rfl,rfl,_,rfl,dz (by decide +kernel) ?_⟩
  refine⟨_,rfl,rfl,_,rfl,rG rfl ?_⟩
  refine⟨_,rfl,_,rfl,_,rfl,_,rfl,λx dx nx ndx nex=>?_⟩
  have s0:aO H (upd (upd H dx (.own x)) x (.ins t.Nr dx [])):=λb o e=>by rw [aJ (aC e nx),aJ (aC e ndx)];exact e
  exact⟨3,x,dx,a1,a2,a3,nm,ns,is,os,rfl,ak,s0.seqA h1,s0.seqA h2,s0.seqA h3,λH' b P=>⟨rfl,k H' x (λc o e=>b c o (aC e nx) (s0 c o e)) nx P⟩⟩
 | 4,_=>
  refine⟨_,rfl,rfl,_,rfl,dz (by decide +kernel) ?_⟩
  refine⟨_,rfl,rfl,_,rfl,dz (by decide +kernel) ?_⟩
  refine⟨_,rfl,rfl,_,rfl,dz (by decide +kernel) ?_⟩
  refine⟨_,rfl,rfl,_,rfl,dz (by decide +kernel) ?_⟩
  refine⟨_,rfl,rfl,_,rfl,rG rfl ?_⟩
  refine⟨_,rfl,_,rfl,_,rfl,_,rfl,λx dx nx ndx nex=>?_⟩
  have s0:aO H (upd (upd H dx (.own x)) x (.ins t.Nb dx [])):=λb o e=>by rw [aJ (aC e nx),aJ (aC e ndx)];exact e
  exact⟨4,x,dx,a1,a2,a3,nm,ns,is,os,rfl,ak,s0.seqA h1,s0.seqA h2,s0.seqA h3,λH' b P=>⟨rfl,k H' x (λc o e=>b c o (aC e nx) (s0 c o e)) nx P⟩⟩
 | 5,_=>
  refine⟨_,rfl,rfl,_,rfl,dz (by decide +kernel) ?_⟩
  refine⟨_,rfl,rfl,_,rfl,dz (by decide +kernel) ?_⟩
  refine⟨_,rfl,rfl,_,rfl,dz (by decide +kernel) ?_⟩
  refine⟨_,rfl,rfl,_,rfl,dz (by decide +kernel) ?_⟩
  refine⟨_,rfl,rfl,_,rfl,dz (by decide +kernel) ?_⟩
  refine⟨_,rfl,rfl,_,rfl,rG rfl ?_⟩
  refine⟨_,rfl,_,rfl,_,rfl,_,rfl,λx dx nx ndx nex=>?_⟩
  have s0:aO H (upd (upd H dx (.own x)) x (.ins t.MF dx [])):=λb o e=>by rw [aJ (aC e nx),aJ (aC e ndx)];exact e
  exact⟨5,x,dx,a1,a2,a3,nm,ns,is,os,rfl,ak,s0.seqA h1,s0.seqA h2,s0.seqA h3,λH' b P=>⟨rfl,k H' x (λc o e=>b c o (aC e nx) (s0 c o e)) nx P⟩⟩
 | 6,_=>
  refine⟨_,rfl,rfl,_,rfl,dz (by decide +kernel) ?_⟩
  refine⟨_,rfl,rfl,_,rfl,dz (by decide +kernel) ?_⟩
  refine⟨_,rfl,rfl,_,rfl,dz (by decide +kernel) ?_⟩
  refine⟨_,rfl,rfl,_,rfl,dz (by decide +kernel) ?_⟩
  refine⟨_,rfl,rfl,_,rfl,dz (by decide +kernel) ?_⟩
  refine⟨_,rfl,rfl,_,rfl,dz (by decide +kernel) ?_⟩
  refine⟨_,rfl,rfl,_,rfl,rG rfl ?_⟩
  refine⟨_,rfl,_,rfl,_,rfl,_,rfl,λx dx nx ndx nex=>?_⟩
  have s0:aO H (upd (upd H dx (.own x)) x (.ins t.UW dx [])):=λb o e=>by rw [aJ (aC e nx),aJ (aC e ndx)];exact e
  exact⟨6,x,dx,a1,a2,a3,nm,ns,is,os,rfl,ak,s0.seqA h1,s0.seqA h2,s0.seqA h3,λH' b P=>⟨rfl,k H' x (λc o e=>b c o (aC e nx) (s0 c o e)) nx P⟩⟩
 | 7,_=>
  refine⟨_,rfl,rfl,_,rfl,dz (by decide +kernel) ?_⟩
  refine⟨_,rfl,rfl,_,rfl,dz (by decide +kernel) ?_⟩
  refine⟨_,rfl,rfl,_,rfl,dz (by decide +kernel) ?_⟩
  refine⟨_,rfl,rfl,_,rfl,dz (by decide +kernel) ?_⟩
  refine⟨_,rfl,rfl,_,rfl,dz (by decide +kernel) ?_⟩
  refine⟨_,rfl,rfl,_,rfl,dz (by decide +kernel) ?_⟩
  refine⟨_,rfl,rfl,_,rfl,dz (by decide +kernel) ?_⟩
  refine⟨_,rfl,rfl,_,rfl,rG rfl ?_⟩
  refine⟨_,rfl,_,rfl,_,rfl,_,rfl,λx dx nx ndx nex=>?_⟩
  have s0:aO H (upd (upd H dx (.own x)) x (.ins t.M5 dx [])):=λb o e=>by rw [aJ (aC e nx),aJ (aC e ndx)];exact e
  exact⟨7,x,dx,a1,a2,a3,nm,ns,is,os,rfl,ak,s0.seqA h1,s0.seqA h2,s0.seqA h3,λH' b P=>⟨rfl,k H' x (λc o e=>b c o (aC e nx) (s0 c o e)) nx P⟩⟩
 | 8,_=>
  refine⟨_,rfl,rfl,_,rfl,dz (by decide +kernel) ?_⟩
  refine⟨_,rfl,rfl,_,rfl,dz (by decide +kernel) ?_⟩
  refine⟨_,rfl,rfl,_,rfl,dz (by decide +kernel) ?_⟩
  refine⟨_,rfl,rfl,_,rfl,dz (by decide +kernel) ?_⟩
  refine⟨_,rfl,rfl,_,rfl,dz (by decide +kernel) ?_⟩
  refine⟨_,rfl,rfl,_,rfl,dz (by decide +kernel) ?_⟩
  refine⟨_,rfl,rfl,_,rfl,dz (by decide +kernel) ?_⟩
  refine⟨_,rfl,rfl,_,rfl,dz (by decide +kernel) ?_⟩
  refine⟨_,rfl,rfl,_,rfl,rG rfl ?_⟩
  refine⟨_,rfl,_,rfl,_,rfl,_,rfl,λx dx nx ndx nex=>?_⟩
  have s0:aO H (upd (upd H dx (.own x)) x (.ins t.JP dx [])):=λb o e=>by rw [aJ (aC e nx),aJ (aC e ndx)];exact e
  exact⟨8,x,dx,a1,a2,a3,nm,ns,is,os,rfl,ak,s0.seqA h1,s0.seqA h2,s0.seqA h3,λH' b P=>⟨rfl,k H' x (λc o e=>b c o (aC e nx) (s0 c o e)) nx P⟩⟩
 | 9,_=>
  refine⟨_,rfl,rfl,_,rfl,dz (by decide +kernel) ?_⟩
  refine⟨_,rfl,rfl,_,rfl,dz (by decide +kernel) ?_⟩
  refine⟨_,rfl,rfl,_,rfl,dz (by decide +kernel) ?_⟩
  refine⟨_,rfl,rfl,_,rfl,dz (by decide +kernel) ?_⟩
  refine⟨_,rfl,rfl,_,rfl,dz (by decide +kernel) ?_⟩
  refine⟨_,rfl,rfl,_,rfl,dz (by decide +kernel) ?_⟩
  refine⟨_,rfl,rfl,_,rfl,dz (by decide +kernel) ?_⟩
  refine⟨_,rfl,rfl,_,rfl,dz (by decide +kernel) ?_⟩
  refine⟨_,rfl,rfl,_,rfl,dz (by decide +kernel) ?_⟩
  refine⟨_,rfl,rfl,_,rfl,rG rfl ?_⟩
  refine⟨_,rfl,_,rfl,_,rfl,_,rfl,λx dx nx ndx nex=>?_⟩
  have s0:aO H (upd (upd H dx (.own x)) x (.ins t.EY dx [])):=λb o e=>by rw [aJ (aC e nx),aJ (aC e ndx)];exact e
  exact⟨9,x,dx,a1,a2,a3,nm,ns,is,os,rfl,ak,s0.seqA h1,s0.seqA h2,s0.seqA h3,λH' b P=>⟨rfl,k H' x (λc o e=>b c o (aC e nx) (s0 c o e)) nx P⟩⟩
 | 10,_=>
  refine⟨_,rfl,rfl,_,rfl,dz (by decide +kernel) ?_⟩
  refine⟨_,rfl,rfl,_,rfl,dz (by decide +kernel) ?_⟩
  refine⟨_,rfl,rfl,_,rfl,dz (by decide +kernel) ?_⟩
  refine⟨_,rfl,rfl,_,rfl,dz (by decide +kernel) ?_⟩
  refine⟨_,rfl,rfl,_,rfl,dz (by decide +kernel) ?_⟩
  refine⟨_,rfl,rfl,_,rfl,dz (by decide +kernel) ?_⟩
  refine⟨_,rfl,rfl,_,rfl,dz (by decide +kernel) ?_⟩
  refine⟨_,rfl,rfl,_,rfl,dz (by decide +kernel) ?_⟩
  refine⟨_,rfl,rfl,_,rfl,dz (by decide +kernel) ?_⟩
  refine⟨_,rfl,rfl,_,rfl,dz (by decide +kernel) ?_⟩
  refine⟨_,rfl,_,rfl,_,rfl,_,rfl,λx dx nx ndx nex=>?_⟩
  have s0:aO H (upd (upd H dx (.own x)) x (.ins t.Jv dx [])):=λb o e=>by rw [aJ (aC e nx),aJ (aC e ndx)];exact e
  exact⟨10,x,dx,a1,a2,a3,nm,ns,is,os,rfl,ak,s0.seqA h1,s0.seqA h2,s0.seqA h3,λH' b P=>⟨rfl,k H' x (λc o e=>b c o (aC e nx) (s0 c o e)) nx P⟩⟩
 | (n+11),h=>exact absurd h (by omega)
inductive zf (K:PySem.W.Frag) (t:jw) (vs:List V) (H:Hp) (Q:VK) (E:XK):Prop where
 | mk:∀(i:Nat) (nm:V) (a1 a2 a3:Addr) (ns is os:List V),vs=[.str (fQ i),nm,.ref a1,.ref a2,.ref a3]->i<=10->zg K H a1 ns->zg K H a2 is->zg K H a3 os->ns.length=cN i->is.length=cI i->os.length=cO i->((∀v∈ns,Val v))->(∀H' p,aO H H'->H p=none->dX K t H' p i nm ns is os->Q (.ref p) H')->zf K t vs H Q E
noncomputable abbrev uN:List Str:=["kind", "name", "numbers", "ins", "outs"]
theorem JS (T:Txt w K mg t):FO P w K mg base 4 t.BL uN (zf K t):=by
 have sc:fY uN uN (aX (top 62)):=Pk
 refine T.Ca.F.ok sc ln (λ_ _ _ _ H vs Q E hr h=>?_)
 obtain⟨i,nm,a1,a2,a3,ns,is,os,rfl,hi,h1,h2,h3,l1,l2,l3,hv,k⟩:=h
 refine⟨_,(ao (dh (jd (Ls T) T.yu hr (aa (pv 0) (aa (pv 1) (aa (pv 2) (aa (pv 3) (aa (pv 4) aq aj) aj) aj) aj) aj)))
  (au (aQ (jd (Mw T) T.Hg hr (aa (pv 0) (aa (pv 1) (aa (pv 2) (aa (pv 3) (aa (pv 4) aq aj) aj) aj) aj) aj))))),?_⟩
 refine⟨_,rfl,_,rfl,_,rfl,_,rfl,_,rfl,i,nm,a1,a2,a3,ns,is,os,rfl,h1,h2,h3,l1,l2,l3,hv,λH1 s1=>?_⟩
 exact⟨_,rfl,_,rfl,_,rfl,_,rfl,_,rfl,i,nm,a1,a2,a3,ns,is,os,rfl,hi,s1.seqA h1,s1.seqA h2,s1.seqA h3,λH2 p s2 np P=>k H2 p (s1.trans s2) (s1.free np) P⟩
inductive Oe (vs:List V) (H:Hp) (Q:VK) (E:XK):Prop where
 | mk:∀a:Int,vs=[.int a]->Q (.int (a % 1000000000)) H->Oe vs H Q E
theorem Jg (T:Txt w K mg t):FO P w K mg base 1 t.RD ["number"] (Oe):=by
 have sc:=T.Ft.sc ["number"]
 refine T.Ft.F.ok sc ln (λ_ _ _ _ H vs Q E hr h=>?_)
 obtain⟨a,rfl,k⟩:=h
 refine⟨_,(au (aQ (bB jo (pv 0) (iC (by rfl) T.Ms)))),?_⟩
 exact⟨_,rfl,_,_,rfl,rfl,by show(0:Int) <1000000000;decide,k⟩
inductive uT (K:PySem.W.Frag) (t:jw) (vs:List V) (H:Hp) (Q:VK) (E:XK):Prop where
 | mk:∀i,i≠9->m9 K t i vs H Q E->uT K t vs H Q E
theorem cL (T:Txt w K mg t):FO P w K mg base 1 t.cg ["self", "heads"] (uT K t):=by
 have sc:=T.bh.sc ["self", "heads"]
 refine T.bh.F.ok sc ln (λ_ _ _ _ H vs Q E hr h=>?_)
 obtain⟨i,hi,p,a,nm,ns,is,os,hs,rfl,hP,hI,hS,hH,k⟩:=h
 refine⟨_,(au (aQ (dC (Gy rfl) (by rfl) T.uY pC (aa (dC Lj (by rfl) T.wM Tq (aa (bx b8 (by rfl) T.iy eQ (aa (aZ (pv 0) rfl) aq bw)) aq bz)) aq bz)))),?_⟩
 obtain⟨dx,tn,ti,to,hp,h2,h3,h4⟩:=id hP.ex
 have h3':=GD i
 refine⟨_,rfl,p,cls t i,dx,_,.ref ti,rfl,hp,ir T i,Bc T i,vV _ _ _ _,.ref ti,is.length,rfl,.inr ⟨is,h3,rfl⟩,_,rfl,λr hr=>⟨r,is.length,rfl,ak,by omega,λl hl=>?_⟩⟩
 have e:(places i hs).map nV=Vr is.length:=by
  unfold places Vr
  rw [if_neg hi,hH.1,hI]
  rfl
 refine k _ l ((az hr).trans (az hl)) ((az hr).free hl) ?_
 rw [e]
 exact ak
theorem Ak (T:Txt w K mg t):FO P w K mg base 1 t.lV ["self", "heads"] (m9 K t 9):=by
 have sc:=T.jf.sc ["self", "heads"]
 refine T.jf.F.ok sc ln (λ_ _ _ _ H vs Q E hr h=>?_)
 obtain⟨p,a,nm,ns,is,os,hs,rfl,hP,hI,hS,hH,k⟩:=h
 refine⟨_,(ao (b7 (fP (FZ (aU cC (pv 1) aB (λ_ _=>rfl))))
   (au (aQ (dm (aa aB aq aK))))
   bu)
  (au (aQ (dm (aa aB (aa (bB fu aB (bB jo (aU cC (pv 1) aB (λ_ _=>rfl)) aB)) aq bZ) aK))))),?_⟩
 have hl:sizeLine=16777216:=sizeLine_eq
 have hlen:hs.length=3:=hH.1
 match hs,hlen,hH with
 | h0:: r,hlen,hH=>
  have ea:Rp (h0:: r) 0=some h0:=aM (xs:=h0:: r) (j:=0) rfl
  rcases hH.2 h0 List.mem_cons_self with e | ⟨n,e⟩
  ·subst e
   refine⟨_,rfl,a,_,0,_,rfl,rfl,hS,ea,_,rfl,rG rfl ?_⟩
   exact⟨rJ,λL hL=>k _ L (az hL) hL ak⟩
  ·subst e
   refine⟨_,rfl,a,_,0,_,rfl,rfl,hS,ea,_,rfl,dz (by intro z;cases z) ?_⟩
   refine⟨_,rfl,a,_,0,_,rfl,rfl,hS,ea,_,_,rfl,rfl,by show(0:Int) <2;decide,_,_,rfl,rfl,rJ,λL hL=>k _ L (az hL) hL ?_⟩
   have h0:=Int.emod_nonneg n (show(2:Int)≠0 by decide)
   have e1:(1:Int)+n % 2=((1+(n % 2).toNat:Nat):Int):=by omega
   rw [ak]
   show some (HO.lst [.int 0,.int (1+n % 2)])=some (HO.lst [.int ((0:Nat):Int),.int ((1+(n % 2).toNat:Nat):Int)])
   rw [e1]
   rfl
theorem Ie (T:Txt w K mg t) (i:Nat):MethAt P w K mg base Dd 1 (cls t i) "taking" (m9 K t i):=match i with
 | 0=>⟨_,_,_,T.ig.c,(T.bh.me T.ig.me.2.2.1),T.bh.b,(cL T).imp λ_ _ _ _ h=>⟨_,by omega,h⟩⟩
 | 1=>⟨_,_,_,T.iG.c,(T.bh.me T.iG.me.2.2.1),T.bh.b,(cL T).imp λ_ _ _ _ h=>⟨_,by omega,h⟩⟩
 | 2=>⟨_,_,_,T.iH.c,(T.bh.me T.iH.me.2.2.1),T.bh.b,(cL T).imp λ_ _ _ _ h=>⟨_,by omega,h⟩⟩
 | 3=>⟨_,_,_,T.iJ.c,(T.bh.me T.iJ.me.2.2.1),T.bh.b,(cL T).imp λ_ _ _ _ h=>⟨_,by omega,h⟩⟩
 | 4=>⟨_,_,_,T.iI.c,(T.bh.me T.iI.me.2.2.1),T.bh.b,(cL T).imp λ_ _ _ _ h=>⟨_,by omega,h⟩⟩
 | 5=>⟨_,_,_,T.iD.c,(T.bh.me T.iD.me.2.2.1),T.bh.b,(cL T).imp λ_ _ _ _ h=>⟨_,by omega,h⟩⟩
 | 6=>⟨_,_,_,T.lO.c,(T.bh.me T.lO.me.2.2.1),T.bh.b,(cL T).imp λ_ _ _ _ h=>⟨_,by omega,h⟩⟩
 | 7=>⟨_,_,_,T.iB.c,(T.bh.me T.iB.me.2.2.1),T.bh.b,(cL T).imp λ_ _ _ _ h=>⟨_,by omega,h⟩⟩
 | 8=>⟨_,_,_,T.fK.c,(T.bh.me T.fK.me.2.2.1),T.bh.b,(cL T).imp λ_ _ _ _ h=>⟨_,by omega,h⟩⟩
 | 9=>⟨_,_,_,T.dM.c,(T.jf.me T.dM.me.2.2.1),T.jf.b,Ak T⟩
 | n+10=>⟨_,_,_,T.fD.c,(T.bh.me T.fD.me.2.2.1),T.bh.b,(cL T).imp λ_ _ _ _ h=>⟨_,by omega,h⟩⟩
inductive yc (K:PySem.W.Frag) (t:jw) (vs:List V) (H:Hp) (Q:VK) (E:XK):Prop where
 | mk:∀i,zb K t i vs H Q E->yc K t vs H Q E
theorem cM (T:Txt w K mg t):FO P w K mg base 2 t.cu ["self", "heads"] (yc K t):=by
 have sc:=T.bj.sc ["self", "heads", "place"]
 refine T.bj.F.ok sc ln (λ_ _ _ _ H vs Q E hr h=>?_)
 obtain⟨i,p,a,nm,ns,is,os,hs,rfl,hP,hI,hS,hH,k⟩:=h
 refine⟨_,(ao (cX PassesOwn.never rfl (bH (yw (CX:=Dd) (k:=1) (E:=E0) (pv 0) (hr.mono (by decide)) gB (aa (pv 1) aq aj))) (gN sc 2)
   (au (b7 (fP (FZ (aU cC (pv 1) (pv 2) (λ_ _=>rfl))))
    (au (aQ (pv 2)))
    bu)))
  (au (aQ yo))),?_⟩
 obtain⟨dx,tn,ti,to,hp,h2,h3,h4⟩:=id hP.ex
 refine⟨_,rfl,p,cls t i,dx,_,m9 K t i,rfl,hp,sW _ _ _ _ (by decide +kernel) (by decide +kernel) (by decide +kernel) (by decide +kernel),Ie T i,_,rfl,p,a,nm,ns,is,os,hs,rfl,hP,hI,hS,hH,λH1 L s1 nL eL=>⟨L,rfl,⟨_,bI.of eL⟩,?_⟩⟩
 refine cY (K:=K) (a:=L) (xs:=(places i hs).map nV) (λj σ H2=>H2=H1/\∃v,σ=[some (.ref p),some (.ref a),v]/\∀q∈(places i hs).take j,uZ hs q=false)
  ⟨rfl,none,rfl,by simp⟩ (λj σ H2 _ ⟨e,_⟩=>by rw [e];exact bI.of eL) ?_ ?_
 ·rintro j x σ H2 hx ⟨rfl,v,rfl,hno⟩
  rw [List.getElem?_map] at hx
  obtain⟨q,hq,rfl⟩:=Option.map_eq_some_iff.mp hx
  have hlt:=jr hH q (List.mem_of_getElem? hq)
  obtain⟨hv,ev⟩:∃hv,hs[q]?=some hv:=⟨hs[q],List.getElem?_eq_getElem hlt⟩
  refine⟨_,rfl,_,rfl,a,hs,_,hv,rfl,rfl,s1.seq hS,aM ev,_,rfl,uB (λhn=>?_) (λhn=>?_)⟩
  ·have hn':hv=.non:=of_decide_eq_true hn
   refine⟨_,rfl,?_⟩
   have:=k H2 s1
   unfold Oz at this
   rw [Ph hq hno (by unfold uZ;rw [ev,hn'];simp)] at this
   exact this
  ·have hn':¬hv=.non:=λz=>hn (decide_eq_true z)
   refine⟨rfl,_,rfl,λy hy=>?_⟩
   rw [List.take_add_one,hq] at hy
   rcases List.mem_append.mp hy with hy | hy
   ·exact hno y hy
   ·have e:y=q:=by simpa using hy
    subst e
    unfold uZ
    rw [ev]
    simpa using hn'
 ·rintro σ H2 ⟨rfl,v,rfl,hno⟩
  have:=k H2 s1
  unfold Oz at this
  rw [lM,List.take_of_length_le (Nat.le_refl _)] at hno
  rw [Wu hno] at this
  exact this
inductive yd (K:PySem.W.Frag) (t:jw) (vs:List V) (H:Hp) (Q:VK) (E:XK):Prop where
 | mk:∀i,i≠5->vN K t i vs H Q E->yd K t vs H Q E
theorem dj (T:Txt w K mg t):FO P w K mg base 1 t.cQ ["self"] (yd K t):=by
 have sc:=T.bA.sc ["self"]
 refine T.bA.F.ok sc ln (λ_ _ _ _ H vs Q E hr h=>?_)
 obtain⟨i,hi,p,nm,ns,is,os,rfl,hP,hn,k⟩:=h
 refine⟨_,(au (aQ aB)),?_⟩
 unfold IW at k
 rw [if_neg hi] at k
 exact k
theorem Gp (T:Txt w K mg t):FO P w K mg base 1 t.uc ["self"] (vN K t 5):=by
 have sc:=T.mY.sc ["self"]
 refine T.mY.F.ok sc ln (λ_ _ _ _ H vs Q E hr h=>?_)
 obtain⟨p,nm,ns,is,os,rfl,hP,hn,k⟩:=h
 refine⟨_,(au (aQ (aU Nu (aZ (pv 0) rfl) aB (λ_ _=>rfl)))),?_⟩
 obtain⟨dx,tn,ti,to,hp,h2,h3,h4⟩:=id hP.ex
 match ns,hn with
 | v:: r,hn=>
  exact⟨_,rfl,p,cls t 5,dx,_,.ref tn,rfl,hp,ir T 5,rQ T 5,rZ _ _ _ _,.inr (.inl ⟨tn,_,0,v,rfl,rfl,h2,aM (xs:=v:: r) (j:=0) rfl,k⟩)⟩
theorem Fg (T:Txt w K mg t):FO P w K mg base 1 t.qF ["self", "values", "kept"] (dU K t 2):=by
 have sc:=T.j5.sc ["self", "values", "kept"]
 refine T.j5.F.ok sc ln (λ_ _ _ _ H vs Q E hr h=>?_)
 obtain⟨p,a,nm,ns,is,os,ws,kp,rfl,hP,ln,hS,lw,hB,k⟩:=h
 refine⟨_,(au (aQ (bL (aa (dm (aa (bL (aa aB (aa (aU cC (pv 1) aB (λ_ _=>rfl)) aq aH) aK)) aq bQ)) (aa (pv 2) aq aj) dR)))),?_⟩
 obtain⟨dx,tn,ti,to,hp,h2,h3,h4⟩:=id hP.ex
 match ws,lw with
 | [v],_=>
  have fin:∀H' L rs,aO H H'->H L=none->H' L=some (.lst (rs.map V.ref))->iW H' rs (Ka (cA 2 ns [v] kp))->∀U,H' U=none->Q (.ref U) (upd H' U (.tup [.ref L,.int (gK 2 [v] kp)])):=Fx k
  exact⟨_,rfl,a,_,0,_,rfl,rfl,hS,rfl,dH,λt0 n0=>⟨one_le,λL nL=>⟨_,rfl,dH,λU nU=>yS (Q:=λx H'=>∀U,H' U=none->Q (.ref U) (upd H' U (.tup [x,.int (gK 2 [v] kp)]))) rfl rfl fin n0 nL U nU⟩⟩⟩
theorem Gb (T:Txt w K mg t):FO P w K mg base 1 t.qu ["self", "values", "kept"] (dU K t 3):=by
 have sc:=T.km.sc ["self", "values", "kept"]
 refine T.km.F.ok sc ln (λ_ _ _ _ H vs Q E hr h=>?_)
 obtain⟨p,a,nm,ns,is,os,ws,kp,rfl,hP,ln,hS,lw,hB,k⟩:=h
 refine⟨_,(au (aQ (bL (aa (dm (aa (bL (aa aB (aa (aU cC (pv 1) aB (λ_ _=>rfl)) aq aH) aK)) (aa (bL (aa aB (aa (aU cC (pv 1) aB (λ_ _=>rfl)) aq aH) aK)) aq bQ) bQ)) (aa (pv 2) aq aj) dR)))),?_⟩
 obtain⟨dx,tn,ti,to,hp,h2,h3,h4⟩:=id hP.ex
 match ws,lw with
 | [v],_=>
  have fin:∀H' L rs,aO H H'->H L=none->H' L=some (.lst (rs.map V.ref))->iW H' rs (Ka (cA 3 ns [v] kp))->∀U,H' U=none->Q (.ref U) (upd H' U (.tup [.ref L,.int (gK 3 [v] kp)])):=Fx k
  exact⟨_,rfl,a,_,0,_,rfl,rfl,hS,rfl,dH,λt0 n0=>⟨_,rfl,a,_,0,_,rfl,rfl,((az n0).seq hS),rfl,dH,λt1 n1=>⟨dH,λL nL=>⟨_,rfl,dH,λU nU=>Xv (Q:=λx H'=>∀U,H' U=none->Q (.ref U) (upd H' U (.tup [x,.int (gK 3 [v] kp)]))) rfl rfl rfl rfl fin n0 n1 nL U nU⟩⟩⟩⟩
theorem Ea (T:Txt w K mg t):FO P w K mg base 2 t.qy ["self", "values", "kept"] (dU K t 4):=by
 have sc:=T.j4.sc ["self", "values", "kept"]
 refine T.j4.F.ok sc ln (λ_ _ _ _ H vs Q E hr h=>?_)
 obtain⟨p,a,nm,ns,is,os,ws,kp,rfl,hP,ln,hS,lw,hB,k⟩:=h
 refine⟨_,(au (aQ (bL (aa (dm (aa (bL (aa aB (aa (jd (Jg T) T.Ft hr (aa (bB fu (bB gW (aU Nu (aZ (pv 0) rfl) aB (λ_ _=>rfl)) (aU cC (pv 1) aB (λ_ _=>rfl))) (aU Nu (aZ (pv 0) rfl) aB (λ_ _=>rfl))) aq bZ)) aq bz) aK)) aq bQ)) (aa (pv 2) aq aj) dR)))),?_⟩
 obtain⟨dx,tn,ti,to,hp,h2,h3,h4⟩:=id hP.ex
 match ws,lw,ns,ln with
 | [v],_,[m,m1],_=>
  have fin:∀H' L rs,aO H H'->H L=none->H' L=some (.lst (rs.map V.ref))->iW H' rs (Ka (cA 4 [m,m1] [v] kp))->∀U,H' U=none->Q (.ref U) (upd H' U (.tup [.ref L,.int (gK 4 [v] kp)])):=Fx k
  exact⟨_,rfl,p,cls t 4,dx,_,.ref tn,rfl,hp,ir T 4,rQ T 4,rZ _ _ _ _,.inr (.inl ⟨tn,_,0,_,rfl,rfl,h2,rfl,_,rfl,a,_,0,_,rfl,rfl,hS,rfl,_,_,rfl,rfl,abk hB (by simp),_,rfl,p,cls t 4,dx,_,.ref tn,rfl,hp,ir T 4,rQ T 4,rZ _ _ _ _,.inr (.inl ⟨tn,_,1,_,rfl,rfl,h2,rfl,_,_,rfl,rfl,_,rfl,dH,λt0 n0=>⟨one_le,λL nL=>⟨_,rfl,dH,λU nU=>yS (Q:=λx H'=>∀U,H' U=none->Q (.ref U) (upd H' U (.tup [x,.int (gK 4 [v] kp)]))) rfl rfl fin n0 nL U nU⟩⟩⟩)⟩)⟩
theorem Dy (T:Txt w K mg t):FO P w K mg base 2 t.qj ["self", "values", "kept"] (dU K t 5):=by
 have sc:=T.jZ.sc ["self", "values", "kept", "together"]
 refine T.jZ.F.ok sc ln (λ_ _ _ _ H vs Q E hr h=>?_)
 obtain⟨p,a,nm,ns,is,os,ws,kp,rfl,hP,ln,hS,lw,hB,k⟩:=h
 refine⟨_,(ao (sN sc 3 (jd (Jg T) T.Ft hr (aa (bB fu (pv 2) (aU cC (pv 1) aB (λ_ _=>rfl))) aq bZ)))
  (au (aQ (bL (aa (dm (aa (bL (aa aB (aa (pv 3) aq aj) aK)) aq bQ)) (aa (pv 3) aq aj) dR))))),?_⟩
 obtain⟨dx,tn,ti,to,hp,h2,h3,h4⟩:=id hP.ex
 match ws,lw with
 | [v],_=>
  have fin:∀H' L rs,aO H H'->H L=none->H' L=some (.lst (rs.map V.ref))->iW H' rs (Ka (cA 5 ns [v] kp))->∀U,H' U=none->Q (.ref U) (upd H' U (.tup [.ref L,.int (gK 5 [v] kp)])):=Fx k
  exact⟨_,rfl,_,rfl,a,_,0,_,rfl,rfl,hS,rfl,_,_,rfl,rfl,_,rfl,_,rfl,dH,λt0 n0=>⟨one_le,λL nL=>⟨_,rfl,dH,λU nU=>yS (Q:=λx H'=>∀U,H' U=none->Q (.ref U) (upd H' U (.tup [x,.int (gK 5 [v] kp)]))) rfl rfl fin n0 nL U nU⟩⟩⟩
theorem Gr (T:Txt w K mg t):FO P w K mg base 2 t.sr ["self", "values", "kept"] (dU K t 6):=by
 have sc:=T.m5.sc ["self", "values", "kept"]
 refine T.m5.F.ok sc ln (λ_ _ _ _ H vs Q E hr h=>?_)
 obtain⟨p,a,nm,ns,is,os,ws,kp,rfl,hP,ln,hS,lw,hB,k⟩:=h
 refine⟨_,(au (aQ (bL (aa (dm (aa (bL (aa aB (aa (jd (Jg T) T.Ft hr (aa (bB fu (aU cC (pv 1) aB (λ_ _=>rfl)) (aU cC (pv 1) aB (λ_ _=>rfl))) aq bZ)) aq bz) aK)) aq bQ)) (aa (pv 2) aq aj) dR)))),?_⟩
 obtain⟨dx,tn,ti,to,hp,h2,h3,h4⟩:=id hP.ex
 match ws,lw with
 | [v,v1],_=>
  have fin:∀H' L rs,aO H H'->H L=none->H' L=some (.lst (rs.map V.ref))->iW H' rs (Ka (cA 6 ns [v,v1] kp))->∀U,H' U=none->Q (.ref U) (upd H' U (.tup [.ref L,.int (gK 6 [v,v1] kp)])):=Fx k
  exact⟨_,rfl,a,_,0,_,rfl,rfl,hS,rfl,_,rfl,a,_,1,_,rfl,rfl,hS,rfl,_,_,rfl,rfl,_,rfl,dH,λt0 n0=>⟨one_le,λL nL=>⟨_,rfl,dH,λU nU=>yS (Q:=λx H'=>∀U,H' U=none->Q (.ref U) (upd H' U (.tup [x,.int (gK 6 [v,v1] kp)]))) rfl rfl fin n0 nL U nU⟩⟩⟩
theorem Ff (T:Txt w K mg t):FO P w K mg base 1 t.qJ ["self", "values", "kept"] (dU K t 7):=by
 have sc:=T.kh.sc ["self", "values", "kept"]
 refine T.kh.F.ok sc ln (λ_ _ _ _ H vs Q E hr h=>?_)
 obtain⟨p,a,nm,ns,is,os,ws,kp,rfl,hP,ln,hS,lw,hB,k⟩:=h
 refine⟨_,(au (aQ (bL (aa (dm (aa (bL (aa aB (aa (n6 (bD G7 (aU cC (pv 1) aB (λ_ _=>rfl)) (aU cC (pv 1) aB (λ_ _=>rfl)) (cz _)) aB aB) aq N5) aK)) aq bQ)) (aa (pv 2) aq aj) dR)))),?_⟩
 obtain⟨dx,tn,ti,to,hp,h2,h3,h4⟩:=id hP.ex
 match ws,lw with
 | [v,v1],_=>
  have fin:∀H' L rs,aO H H'->H L=none->H' L=some (.lst (rs.map V.ref))->iW H' rs (Ka (cA 7 ns [v,v1] kp))->∀U,H' U=none->Q (.ref U) (upd H' U (.tup [.ref L,.int (gK 7 [v,v1] kp)])):=Fx k
  refine⟨_,rfl,a,_,0,_,rfl,rfl,hS,rfl,_,rfl,a,_,1,_,rfl,rfl,hS,rfl,_,_,rfl,rfl,_,rfl,uB (λh=>?_) (λh=>?_)⟩
  ·have h':v <v1:=of_decide_eq_true h
   exact⟨dH,λt0 n0=>⟨one_le,λL nL=>⟨_,rfl,dH,λU nU=>yS (Q:=λx H'=>∀U,H' U=none->Q (.ref U) (upd H' U (.tup [x,.int (gK 7 [v,v1] kp)]))) rfl (by show(1:Int)=if v <v1 then 1 else 0;rw [if_pos h']) fin n0 nL U nU⟩⟩⟩
  ·have h':¬v <v1:=λz=>h (decide_eq_true z)
   exact⟨dH,λt0 n0=>⟨one_le,λL nL=>⟨_,rfl,dH,λU nU=>yS (Q:=λx H'=>∀U,H' U=none->Q (.ref U) (upd H' U (.tup [x,.int (gK 7 [v,v1] kp)]))) rfl (by show(0:Int)=if v <v1 then 1 else 0;rw [if_neg h']) fin n0 nL U nU⟩⟩⟩
theorem Cg (T:Txt w K mg t):FO P w K mg base 1 t.oE ["self", "values", "kept"] (dU K t 8):=by
 have sc:=T.jD.sc ["self", "values", "kept"]
 refine T.jD.F.ok sc ln (λ_ _ _ _ H vs Q E hr h=>?_)
 obtain⟨p,a,nm,ns,is,os,ws,kp,rfl,hP,ln,hS,lw,hB,k⟩:=h
 refine⟨_,(au (aQ (bL (aa (dm (aa (bL (aa aB (aa (bx (Rm rfl) (by rfl) T.aaD YC (aa (pv 1) aq aj)) aq bz) aK)) (aa (bL (aa aB (aa (bx (QS rfl) (by rfl) T.Sd Ni (aa (pv 1) aq aj)) aq bz) aK)) aq bQ) bQ)) (aa (pv 2) aq aj) dR)))),?_⟩
 obtain⟨dx,tn,ti,to,hp,h2,h3,h4⟩:=id hP.ex
 match ws,lw with
 | [v,v1],_=>
  have fin:∀H' L rs,aO H H'->H L=none->H' L=some (.lst (rs.map V.ref))->iW H' rs (Ka (cA 8 ns [v,v1] kp))->∀U,H' U=none->Q (.ref U) (upd H' U (.tup [.ref L,.int (gK 8 [v,v1] kp)])):=Fx k
  exact⟨_,rfl,a,v,v1,rfl,hS,dH,λt0 n0=>⟨_,rfl,a,v,v1,rfl,(az n0).seq hS,dH,λt1 n1=>⟨dH,λL nL=>⟨_,rfl,dH,λU nU=>Xv (Q:=λx H'=>∀U,H' U=none->Q (.ref U) (upd H' U (.tup [x,.int (gK 8 [v,v1] kp)]))) rfl rfl rfl rfl fin n0 n1 nL U nU⟩⟩⟩⟩
theorem z8 (T:Txt w K mg t):FO P w K mg base 1 t.mq ["self", "values", "kept"] (dU K t 9):=by
 have sc:=T.jh.sc ["self", "values", "kept"]
 refine T.jh.F.ok sc ln (λ_ _ _ _ H vs Q E hr h=>?_)
 obtain⟨p,a,nm,ns,is,os,ws,kp,rfl,hP,ln,hS,lw,hB,k⟩:=h
 refine⟨_,(au (aQ (bL (aa (dm (aa (bL (aa aB (aa (aU cC (pv 1) aB (λ_ _=>rfl)) aq aH) aK)) aq bQ)) (aa (pv 2) aq aj) dR)))),?_⟩
 obtain⟨dx,tn,ti,to,hp,h2,h3,h4⟩:=id hP.ex
 match ws,lw with
 | [v,v1],_=>
  have fin:∀H' L rs,aO H H'->H L=none->H' L=some (.lst (rs.map V.ref))->iW H' rs (Ka (cA 9 ns [v,v1] kp))->∀U,H' U=none->Q (.ref U) (upd H' U (.tup [.ref L,.int (gK 9 [v,v1] kp)])):=Fx k
  exact⟨_,rfl,a,_,1,_,rfl,rfl,hS,rfl,dH,λt0 n0=>⟨one_le,λL nL=>⟨_,rfl,dH,λU nU=>yS (Q:=λx H'=>∀U,H' U=none->Q (.ref U) (upd H' U (.tup [x,.int (gK 9 [v,v1] kp)]))) rfl rfl fin n0 nL U nU⟩⟩⟩
theorem Cr (T:Txt w K mg t):FO P w K mg base 1 t.oU ["self", "values", "kept"] (dU K t 10):=by
 have sc:=T.jF.sc ["self", "values", "kept"]
 refine T.jF.F.ok sc ln (λ_ _ _ _ H vs Q E hr h=>?_)
 obtain⟨p,a,nm,ns,is,os,ws,kp,rfl,hP,ln,hS,lw,hB,k⟩:=h
 refine⟨_,(au (aQ (bL (aa (dm (aa (bL (aa (bB jo (aU cC (pv 1) aB (λ_ _=>rfl)) aB) (aa (aU cC (pv 1) aB (λ_ _=>rfl)) aq aH) bZ)) aq bQ)) (aa (pv 2) aq aj) dR)))),?_⟩
 obtain⟨dx,tn,ti,to,hp,h2,h3,h4⟩:=id hP.ex
 match ws,lw with
 | [v,v1],_=>
  have fin:∀H' L rs,aO H H'->H L=none->H' L=some (.lst (rs.map V.ref))->iW H' rs (Ka (cA 10 ns [v,v1] kp))->∀U,H' U=none->Q (.ref U) (upd H' U (.tup [.ref L,.int (gK 10 [v,v1] kp)])):=Fx k
  exact⟨_,rfl,a,_,0,_,rfl,rfl,hS,rfl,_,_,rfl,rfl,by show(0:Int) <2;decide,_,rfl,a,_,1,_,rfl,rfl,hS,rfl,dH,λt0 n0=>⟨one_le,λL nL=>⟨_,rfl,dH,λU nU=>yS (Q:=λx H'=>∀U,H' U=none->Q (.ref U) (upd H' U (.tup [x,.int (gK 10 [v,v1] kp)]))) rfl rfl fin n0 nL U nU⟩⟩⟩
theorem Fo (T:Txt w K mg t):FO P w K mg base 1 t.qt ["self", "values", "kept"] (dU K t 0):=by
 have sc:=T.j7.sc ["self", "values", "kept"]
 refine T.j7.F.ok sc ln (λ_ _ _ _ H vs Q E hr h=>?_)
 obtain⟨p,a,nm,ns,is,os,ws,kp,rfl,hP,ln,hS,lw,hB,k⟩:=h
 refine⟨_,(au (aQ (bL (aa (dm (aa (bL (aa aB (aa (aU cC (pv 1) aB (λ_ _=>rfl)) aq aH) aK)) aq bQ)) (aa (pv 2) aq aj) dR)))),?_⟩
 obtain⟨dx,tn,ti,to,hp,h2,h3,h4⟩:=id hP.ex
 match ws,lw with
 | [v],_=>
  have fin:∀H' L rs,aO H H'->H L=none->H' L=some (.lst (rs.map V.ref))->iW H' rs (Ka (cA 0 ns [v] kp))->∀U,H' U=none->Q (.ref U) (upd H' U (.tup [.ref L,.int (gK 0 [v] kp)])):=Fx k
  exact⟨_,rfl,a,_,0,_,rfl,rfl,hS,rfl,dH,λt0 n0=>⟨one_le,λL nL=>⟨_,rfl,dH,λU nU=>yS (Q:=λx H'=>∀U,H' U=none->Q (.ref U) (upd H' U (.tup [x,.int (gK 0 [v] kp)]))) rfl rfl fin n0 nL U nU⟩⟩⟩
theorem Do (T:Txt w K mg t):FO P w K mg base 1 t.qx ["self", "values", "kept"] (dU K t 1):=by
 have sc:=T.kJ.sc ["self", "values", "kept"]
 refine T.kJ.F.ok sc ln (λ_ _ _ _ H vs Q E hr h=>?_)
 obtain⟨p,a,nm,ns,is,os,ws,kp,rfl,hP,ln,hS,lw,hB,k⟩:=h
 refine⟨_,(au (aQ (bL (aa (dm aq) (aa (pv 2) aq aj) dR)))),?_⟩
 obtain⟨dx,tn,ti,to,hp,h2,h3,h4⟩:=id hP.ex
 match ws,lw with
 | [v],_=>
  have fin:∀H' L rs,aO H H'->H L=none->H' L=some (.lst (rs.map V.ref))->iW H' rs (Ka (cA 1 ns [v] kp))->∀U,H' U=none->Q (.ref U) (upd H' U (.tup [.ref L,.int (gK 1 [v] kp)])):=Fx k
  exact⟨by show 0<=sizeLine;decide,λL nL=>⟨_,rfl,dH,λU nU=>fin _ L [] (az nL) nL ak .nil U nU⟩⟩
inductive Bx (vs:List V) (H:Hp) (Q:VK) (E:XK):Prop where
 | mk:∀a b:Int,vs=[.int a,.int b]->Q (.int (du a b)) H->Bx vs H Q E
theorem lu (T:Txt w K mg t):FO P w K mg base 1 t.Ga ["_law_cell_here", "_law_k"] (Bx):=by
 have sc:=T.jq.sc ["_law_cell_here", "_law_k", "_law_number"]
 refine T.jq.F.ok sc ln (λ_ _ _ _ H vs Q E hr h=>?_)
 obtain⟨a,b,rfl,k⟩:=h
 refine⟨_,(ao (sN sc 2 (bB jo (bB fu (bB fu (bB gW (bB jo (pv 0) aB) aB) (bB gW aB (pv 1))) aB) aB))
  (ao (sN sc 2 (bB jo (bB gW (pv 2) (pv 2)) aB))
  (au (aQ (bB jo (bB gW (bB fu (pv 2) (bB gW aB (pv 1))) (pv 2)) aB))))),?_⟩
 refine⟨_,rfl,_,_,rfl,rfl,by show(0:Int) <2147483647;decide,_,_,rfl,rfl,Jh,_,rfl,_,_,rfl,rfl,vp,_,_,rfl,rfl,_,_,rfl,rfl,_,_,rfl,rfl,by show(0:Int) <2147483647;decide,?_⟩
 unfold du at k
 have y0:0<=(a % 2147483647 * 48271+7919 * b+11) % 2147483647:=Int.emod_nonneg _ (by decide)
 have y1:(a % 2147483647 * 48271+7919 * b+11) % 2147483647 <2147483647:=Int.emod_lt_of_pos _ (by decide)
 refine⟨_,rfl,_,rfl,_,_,rfl,rfl,.of_right (intBits_le_64 (Int.lt_of_lt_of_le (show -(2 ^ 64) <(0:Int) by decide) y0) (Int.lt_trans y1 (by decide))),_,_,rfl,rfl,by show(0:Int) <2147483629;decide,?_⟩
 have z0:0<=((a % 2147483647 * 48271+7919 * b+11) % 2147483647) * ((a % 2147483647 * 48271+7919 * b+11) % 2147483647) % 2147483629:=Int.emod_nonneg _ (by decide)
 have z1:((a % 2147483647 * 48271+7919 * b+11) % 2147483647) * ((a % 2147483647 * 48271+7919 * b+11) % 2147483647) % 2147483629 <2147483629:=Int.emod_lt_of_pos _ (by decide)
 exact⟨_,rfl,_,rfl,_,_,rfl,rfl,vp,_,_,rfl,rfl,_,rfl,_,_,rfl,rfl,.of_right (intBits_le_64 (Int.lt_of_lt_of_le (show -(2 ^ 64) <(0:Int) by decide) z0) (Int.lt_trans z1 (by decide))),_,_,rfl,rfl,by show(0:Int) <2147483587;decide,k⟩
inductive zM (K:PySem.W.Frag) (vs:List V) (H:Hp) (Q:VK) (E:XK):Prop where
 | mk:∀(a:Addr) (ns:List Int) (j:Nat),vs=[.ref a,.int (j:Nat)]->bI K H a (ns.map V.int)->Q (.int (K3 ns j)) H->zM K vs H Q E
theorem rM (T:Txt w K mg t):FO P w K mg base 1 t.Bt ["_law_script", "_law_k"] (zM K):=by
 have sc:=T.kW.sc ["_law_script", "_law_k"]
 refine T.kW.F.ok sc ln (λ_ _ _ _ H vs Q E hr h=>?_)
 obtain⟨a,ns,j,rfl,hS,k⟩:=h
 refine⟨_,(ao (b7 (bD G7 (pv 1) (bx b8 (by rfl) T.iy eQ (aa (pv 0) aq aj)) (cz _))
   (au (aQ (aU cC (pv 0) (pv 1) (λ_ _=>rfl))))
   bu)
  (au (aQ (bB fu (bB gW aB (pv 1)) aB)))),?_⟩
 unfold K3 at k
 refine⟨_,rfl,_,rfl,.ref a,ns.length,rfl,.inl ⟨_,hS,by simp⟩,_,_,rfl,rfl,_,rfl,uB (λh=>?_) (λh=>?_)⟩
 ·have h':j <ns.length:=by have:=of_decide_eq_true h;omega
  rw [List.getElem?_eq_getElem h'] at k
  exact⟨_,rfl,_,rfl,a,_,j,_,rfl,rfl,hS,aM (by rw [List.getElem?_map,List.getElem?_eq_getElem h'];rfl),k⟩
 ·have h':¬j <ns.length:=λz=>h (decide_eq_true (by omega))
  rw [List.getElem?_eq_none (by omega)] at k
  exact⟨_,rfl,_,_,rfl,rfl,vp,_,_,rfl,rfl,k⟩
inductive Fe (K:PySem.W.Frag) (vs:List V) (H:Hp) (Q:VK) (E:XK):Prop where
 | mk:∀x,vs=[x]->(((∃z:Str,x=.str z/\z.length<=100/\∀H',aO H H'->Q (.bl (nameB z)) H')∨∃Tx,tyN K H x Tx/\Tx∈pJ/\Tx≠ "str" /\Q (.bl false) H))->Fe K vs H Q E
theorem My (T:Txt w K mg t):FO P w K mg base 1 t.Ib ["thing"] (Fe K):=by
 have sc:=T.Ac.sc ["thing"]
 refine T.Ac.F.ok sc ln (λ_ _ _ _ H vs Q E hr h=>?_)
 obtain⟨x,rfl,h⟩:=h
 refine⟨_,(ao (b7 (PW.pt (xn (jj (lW (bx zO (by rfl) T.mK j6 (aa (pv 0) (aa (CQ (by rfl) T.Ma En) aq aj) aj)))) (qg (jj (qR pW pW aB (bx b8 (by rfl) T.iy eQ (aa (pv 0) aq aj)) (iC (by rfl) T.FT))))))
   (au (aQ qT))
   bu)
  (au (aQ (zX (tQ Ad (aU Ss (pv 0) aB (λ_ _=>rfl)) (iC (by rfl) T.Hm) (by with_unfolding_all rfl)) (zW (bx (zQ rfl) (by rfl) T.PJ Jp (aa (gf [] ["thing"] (aX (top 32)) rfl (Zb (pv 0)) (λ_ _ _ _ _=>jl) (λ_ _ _ _ _=>(ZZ (tQ Ad (pv 0) (iC (by rfl) T.Hm) (by with_unfolding_all rfl)) (zW (tQ Ad (pv 0) (iC (by rfl) T.QQ) (by with_unfolding_all rfl)))))) aq d8))))))),?_⟩
 have hl:sizeLine=16777216:=sizeLine_eq
 rcases h with ⟨z,rfl,hz,k⟩ | ⟨Tx,ty,hm,hne,k⟩
 ·refine⟨_,rfl,.str z, "str", "str",true,rfl,rfl,by decide,by decide,_,rfl,dq ?_⟩
  refine⟨_,rfl,.str z,z.length,rfl,⟨by omega,rfl⟩,_,_,rfl,rfl,_,rfl,?_⟩
  cases e:z.cps.toList with
  | nil=>
   have h0:z.length=0:=by rw [<-Ag,e];rfl
   rw [h0]
   refine dq ⟨_,rfl,iT ?_⟩
   have:=k H (aO.refl _)
   unfold nameB at this
   rw [e] at this
   exact this
  | cons c r=>
   have hlen:z.length=r.length+1:=by rw [<-Ag,e];rfl
   refine rG (by omega) ⟨_,_,rfl,rfl,_,rfl,uB (λh=>?_) (λh=>?_)⟩
   ·have h8:¬(z.length:Int)<=8:=by simpa using h
    have:=k H (aO.refl _)
    unfold nameB at this
    rw [e] at this
    simp only [show ¬r.length<=7 by omega,decide_false,Bool.false_and] at this
    exact this
   ·have h8:(z.length:Int)<=8:=by simpa using h
    have hc0:Rp z.cps.toList 0=some c:=by rw [e];exact aM (xs:=c:: r) (j:=0) rfl
    refine⟨_,rfl,z,_,c,rfl,rfl,by omega,hc0,_,_,rfl,rfl,_,rfl,?_⟩
    have kk:∀H',aO H H'->Q (.bl (low c && z.cps.toList.all λd=>low d || Oj d)) H':=λH' s'=>by
     have:=k H' s'
     unfold nameB at this
     rw [e] at this ⊢
     simp only [show r.length<=7 by omega,decide_true,Bool.true_and] at this
     exact this
    rw [Tj]
    refine uB (λhc=>?_) (λhc=>?_)
    ·rw [hc,Bool.true_and] at kk
     refine⟨_,rfl,z,rfl,SQ (λi ys H'=>H'=H/\ys=((z.cps.toList.take i).map λd=>low d || Oj d).map V.bl) (by simp only [Str.length] at hz;omega) ⟨rfl,by simp⟩ (λi ys H' ⟨_,e⟩=>by rw [e];simp only [lM,List.length_take];omega) ?_ ?_⟩
     ·rintro i d ys H' hd ⟨rfl,rfl⟩
      refine yes ⟨_,rfl,_,_,rfl,rfl,_,rfl,?_⟩
      have hd':z.cps.toList[i]?=some d:=by simpa using hd
      have next:∀b,b=(low d || Oj d)->(((z.cps.toList.take i).map λd=>low d || Oj d).map V.bl) ++ [V.bl b]=((z.cps.toList.take (i+1)).map λd=>low d || Oj d).map V.bl:=λb hb=>by
       rw [List.take_add_one,hd',hb]
       simp
      rw [Tj]
      refine uB (λhl'=>?_) (λhl'=>?_)
      ·exact⟨rfl,next true (by rw [hl'];rfl)⟩
      ·have hl2:low d=false:=by simpa using hl'
       refine⟨_,rfl,_,_,rfl,rfl,rfl,next _ ?_⟩
       rw [YZ,hl2,Bool.false_or]
     ·rintro ys H' ⟨rfl,rfl⟩ D hD
      refine⟨D,(z.cps.toList.take z.cps.size).map λd=>low d || Oj d,rfl,bI.of ak,?_⟩
      have hall:((z.cps.toList.take z.cps.size).map λd=>low d || Oj d).all id=z.cps.toList.all λd=>low d || Oj d:=by
       rw [List.take_of_length_le (by simp),List.all_map]
       rfl
      rw [hall]
      exact kk _ (az hD)
    ·have hc':low c=false:=by simpa using hc
     rw [hc',Bool.false_and] at kk
     exact kk H (aO.refl _)
 ·have hb:Mg Tx "str" =false:=by
   simp only [pJ,List.mem_cons,List.not_mem_nil,or_false] at hm
   rcases hm with rfl | rfl | rfl | rfl | rfl | rfl | rfl <;> first | decide | exact absurd rfl hne
  exact⟨_,rfl,x,Tx, "str",false,rfl,ty,by decide,hb,_,rfl,iT (iT k)⟩
inductive uJ (K:PySem.W.Frag) (vs:List V) (H:Hp) (Q:VK) (E:XK):Prop where
 | mk:∀(a b:Addr) (xs ys:List V),vs=[.ref a,.ref b]->bI K H a xs->bI K H b ys->1<=xs.length->xs.length<=24->1<=ys.length->ys.length<=16->Q .non H->uJ K vs H Q E
theorem Dm (T:Txt w K mg t):FO P w K mg base 1 t.xT ["lanes", "parts"] (uJ K):=by
 have sc:=T.qd.sc ["lanes", "parts"]
 refine T.qd.F.ok sc ln (λ_ _ _ _ H vs Q E hr h=>?_)
 obtain⟨a,b,xs,ys,rfl,h1,h2,c1,c2,c3,c4,k⟩:=h
 refine⟨_,(ao (b7 (jj (qR pW pW aB (bx b8 (by rfl) T.iy eQ (aa (pv 0) aq aj)) (iC (by rfl) T.JQ)))
   (au cH)
   bu)
  (au (b7 (jj (qR pW pW aB (bx b8 (by rfl) T.iy eQ (aa (pv 1) aq aj)) (iC (by rfl) T.Iv)))
   (au cH)
   bu))),?_⟩
 have hl:sizeLine=16777216:=sizeLine_eq
 refine⟨_,rfl,.ref a,xs.length,rfl,.inl ⟨_,h1,rfl⟩,_,_,rfl,rfl,_,rfl,rG (by omega) ⟨_,_,rfl,rfl,_,rfl,?_⟩⟩
 rw [show decide ((xs.length:Int)<=24)=true from decide_eq_true (by omega)]
 refine dq ?_
 refine⟨_,rfl,.ref b,ys.length,rfl,.inl ⟨_,h2,rfl⟩,_,_,rfl,rfl,_,rfl,rG (by omega) ⟨_,_,rfl,rfl,_,rfl,?_⟩⟩
 rw [show decide ((ys.length:Int)<=16)=true from decide_eq_true (by omega)]
 exact dq k
inductive xX (K:PySem.W.Frag) (vs:List V) (H:Hp) (Q:VK) (E:XK):Prop where
 | mk:∀(z:Str) (d:Addr) (kvs:List (Key×V)),vs=[.str z,.ref d]->H d=some (.dK kvs)->nameB z=true->z.length<=100->bW kvs (Sum.inr z)=none->(∀H',aO H H'->Q .non H')->xX K vs H Q E
theorem xQ (T:Txt w K mg t):FO P w K mg base 2 t.zy ["name", "known"] (xX K):=by
 have sc:=T.mW.sc ["name", "known"]
 refine T.mW.F.ok sc ln (λ_ _ _ _ H vs Q E hr h=>?_)
 obtain⟨z,d,kvs,rfl,hd,hz,hl,hv,k⟩:=h
 refine⟨_,(ao (b7 (jj (lW (jd (My T) T.Ac hr (aa (pv 0) aq aj))))
   (au cH)
   bu)
  (au (b7 (fP (uM hr.u1 (pv 0) (pv 1)))
   (au cH)
   bu))),?_⟩
 refine⟨_,rfl,.str z,rfl,.inl ⟨z,rfl,hl,λH1 s1=>?_⟩⟩
 rw [hz]
 refine⟨_,rfl,dq ?_⟩
 refine⟨_,rfl,_,rfl,d,_,rfl,dW.k (k:=Sum.inr z) (s1 _ _ hd),?_⟩
 rw [hv]
 exact⟨_,rfl,dq (k _ s1)⟩
inductive za (K:PySem.W.Frag) (vs:List V) (H:Hp) (Q:VK) (E:XK):Prop where
 | mk:∀(nm:V) (room:Int) (L:Addr) (ws:List Int),vs=[nm,.int room,.ref L]->zg K H L (ws.map V.int)->ws.length<=1000->((∀v∈ws,0<=v/\v <1000000000))->1<=room->(ws.length:Int)<=room->room<=199->(∀H',aO H H'->Q .non H')->za K vs H Q E
theorem Jk (T:Txt w K mg t):FO P w K mg base 3 t.BJ ["name", "room", "first"] (za K):=by
 have sc:=T.uO.sc ["name", "room", "first"]
 refine T.uO.F.ok sc ln (λ_ _ _ _ H vs Q E hr h=>?_)
 obtain⟨nm,room,L,ws,rfl,hL,hw,hB,c1,c2,c3,k⟩:=h
 refine⟨_,(ao (b7 (PW.pt (xn (jj (lW (jd (wg T) T.oN hr (aa (pv 1) aq aj)))) (qg (jj (qR pW pW (bx (Hz rfl) (by rfl) T.Sd Ni (aa aB (aa (bx b8 (by rfl) T.iy eQ (aa (pv 2) aq aj)) aq bz) aK)) (pv 1) (iC (by rfl) T.Kh))))))
   (au cH)
   bu)
  (au (b7 (jj (lW (bx (zQ rfl) (by rfl) T.PJ Jp (aa (gf [] ["name", "room", "first"] (aX (top 69)) rfl (XH (bH (pv 2)) (JT (pv 2))) (λ_ _ _ _ _=>jl) (λ_ _ _ _ _=>(jd (vM T) T.nC hr (aa (pv 0) aq aj)))) aq d8))))
   (au cH)
   bu))),?_⟩
 have hl:sizeLine=16777216:=sizeLine_eq
 have hlw:(ws.map V.int).length=ws.length:=lM ..
 refine⟨_,rfl,.int room, "int",true,rfl,rfl,by decide,by decide,true,rfl,dq ?_⟩
 refine⟨_,rfl,.ref L,(ws.map V.int).length,rfl,hL.len,_,_,rfl,_,rfl,_,_,rfl,rfl,_,rfl,rG ?_ ⟨_,_,rfl,rfl,_,rfl,?_⟩⟩
 ·split <;> omega
 rw [show decide (room<=199)=true from decide_eq_true c3]
 refine dq ?_
 refine TY (a:=L) (xs:=ws.map V.int) ?_ hL (λj ys=>ys=(List.replicate j true).map V.bl) (by rw [lM];omega) rfl (λj ys e=>by rw [e];simp) (λj x ys hx e=>?_) (λys e D hD=>?_)
 ·exact λR r=>⟨_,rfl,r⟩
 ·subst e
  rw [List.getElem?_map] at hx
  obtain⟨n,hn,rfl⟩:=Option.map_eq_some_iff.mp hx
  obtain⟨n0,n1⟩:=hB n (List.mem_of_getElem? hn)
  refine yes ⟨_,rfl,.int n,rfl,.inl ⟨n,rfl,rfl,?_⟩⟩
  rw [decide_eq_true n0,decide_eq_true n1,List.replicate_succ']
  simp
 ·subst e
  refine⟨D,_,rfl,bI.of ak,_,rfl,?_⟩
  rw [show((List.replicate (ws.map V.int).length true).all id)=true by simp]
  exact dq (k _ (az hD))
inductive xq (K:PySem.W.Frag) (t:jw) (vs:List V) (H:Hp) (Q:VK) (E:XK):Prop where
 | mk:∀(i:Nat) (nm:Str) (r d a1 a2 a3:Addr) (ns is os:List V) (kvs:List (Key×V)),vs=[.ref r,.ref d]->H r=some (.tup [.str (fQ i),.str nm,.ref a1,.ref a2,.ref a3])->i<=10->H d=some (.dK kvs)->nameB nm=true->nm.length<=100->bW kvs (Sum.inr nm)=none->zg K H a1 ns->zg K H a2 is->zg K H a3 os->ns.length=cN i->is.length=cI i->os.length=cO i->((∀v∈ns,Val v))->(∀H' p,aO H H'->H p=none->dX K t H' p i (.str nm) ns is os->Q (.ref p) H')->xq K t vs H Q E
theorem Gf (T:Txt w K mg t):FO P w K mg base 5 t.yW ["row", "known"] (xq K t):=by
 have sc:=T.sO.sc ["row", "known"]
 refine T.sO.F.ok sc ln (λ_ _ _ _ H vs Q E hr h=>?_)
 obtain⟨i,nm,r,d,a1,a2,a3,ns,is,os,kvs,rfl,hr1,hi,hd,hz,hl,hv,q1,q2,q3,l1,l2,l3,hV,k⟩:=h
 refine⟨_,(ao (b7 (jj (lW (jd (Fj T) T.wX hr (aa (aU aY (pv 0) aB (λ_ _=>rfl)) aq aH))))
   (au cH)
   bu)
  (ao (dh (jd (xQ T) T.mW hr (aa (aU aY (pv 0) aB (λ_ _=>rfl)) (aa (pv 1) aq aj) aH)))
  (au (aQ (jd (JS T) T.Ca hr (aa (aU aY (pv 0) aB (λ_ _=>rfl)) (aa (aU aY (pv 0) aB (λ_ _=>rfl)) (aa (aU aY (pv 0) aB (λ_ _=>rfl)) (aa (aU aY (pv 0) aB (λ_ _=>rfl)) (aa (aU aY (pv 0) aB (λ_ _=>rfl)) aq aH) aH) aH) aH) aH)))))),?_⟩
 refine⟨_,rfl,r,_,0,_,rfl,rfl,cP.of hr1,aM (j:=0) rfl,fQ i,rfl,?_⟩
 rw [row_of]
 refine⟨_,rfl,dq ?_⟩
 refine⟨_,rfl,r,_,1,_,rfl,rfl,cP.of hr1,aM (j:=1) rfl,_,rfl,nm,d,kvs,rfl,hd,hz,hl,hv,λH1 s1=>?_⟩
 have e1:=cP.of (K:=K) (s1 _ _ hr1)
 exact⟨_,rfl,r,_,0,_,rfl,rfl,e1,aM (j:=0) rfl,_,rfl,r,_,1,_,rfl,rfl,e1,aM (j:=1) rfl,_,rfl,r,_,2,_,rfl,rfl,e1,aM (j:=2) rfl,_,rfl,r,_,3,_,rfl,rfl,e1,aM (j:=3) rfl,_,rfl,r,_,4,_,rfl,rfl,e1,aM (j:=4) rfl,i,.str nm,a1,a2,a3,ns,is,os,rfl,hi,s1.seqA q1,s1.seqA q2,s1.seqA q3,l1,l2,l3,hV,λH2 p s2 np P=>k _ p (s1.trans s2) (s1.free np) P⟩
inductive yD (K:PySem.W.Frag) (vs:List V) (H:Hp) (Q:VK) (E:XK):Prop where
 | mk:∀(y:Str) (a rd d:Addr) (zs:List Str) (rk kvs:List (Key×V)),vs=[.str y,.ref a,.ref rd,.ref d]->cP K H a (zs.map V.str)->H rd=some (.dK rk)->rd≠d->H d=some (.dK kvs)->zs.Nodup->((∀z∈zs,(bW rk (Sum.inr z)).isSome=true/\bW kvs (Sum.inr z)=none))->kvs.length+zs.length<=1000->(Q .non (upd H d (.dK (kvs ++ zs.map λl=>((Sum.inr l:Key),V.str y)))))->yD K vs H Q E
theorem yH (T:Txt w K mg t):FO P w K mg base 1 t.Bg ["part", "lanes", "rooms", "ends"] (yD K):=by
 have sc:=T.pU.sc ["part", "lanes", "rooms", "ends", "lane"]
 refine T.pU.F.ok sc ln (λ_ _ _ _ H vs Q E hr h=>?_)
 obtain⟨y,a,rd,d,zs,rk,kvs,rfl,hT,hrd,hne,hd,nd,hz,hlen,k⟩:=h
 refine⟨_,(au (cX PassesOwn.never rfl (JT (pv 1)) (gN sc 4)
   (ao (b7 (PW.pt (xn (fP (jP hr.u1 (pv 4) (pv 2))) (qg (fP (uM hr.u1 (pv 4) (pv 3))))))
    (au cH)
    bu)
   (au (d7 hr.u1 (pv 3) (pv 4) (pv 0) rfl))))),?_⟩
 have hl:sizeLine=16777216:=sizeLine_eq
 refine⟨_,rfl,a,rfl,⟨_,hT⟩,VM (K:=K) (a:=a) (xs:=zs.map V.str) (λj σ H'=>H'=upd H d (.dK (kvs ++ (zs.take j).map λl=>((Sum.inr l:Key),V.str y)))/\∃v4,σ=[some (.str y),some (.ref a),some (.ref rd),some (.ref d),v4]) ⟨by rw [List.take_zero,List.map_nil,List.append_nil,Ir hd],none,rfl⟩ (λj σ H' _ ⟨e,_⟩=>by rw [e];exact fO hd hT) ?_ ?_⟩
 ·rintro j x σ H' hx ⟨rfl,v4,rfl⟩
  rw [List.getElem?_map] at hx
  obtain⟨z,hzj,rfl⟩:=Option.map_eq_some_iff.mp hx
  have hj:j <zs.length:=(List.getElem?_eq_some_iff.mp hzj).1
  obtain⟨r1,r2⟩:=hz z (List.mem_of_getElem? hzj)
  obtain⟨rv,hrv⟩:=Option.isSome_iff_exists.mp r1
  have erd:upd H d (.dK (kvs ++ (zs.take j).map λl=>((Sum.inr l:Key),V.str y))) rd=some (.dK rk):=by rw [aJ hne];exact hrd
  have nin:z∉zs.take j:=λhm=>by
   obtain⟨i,hi,ei⟩:=List.mem_iff_getElem.mp hm
   rw [List.length_take] at hi
   rw [List.getElem_take] at ei
   have e2:zs[j]=z:=by rw [List.getElem?_eq_getElem hj] at hzj;exact Option.some.inj hzj
   have:=(List.getElem_inj nd).mp (ei.trans e2.symm)
   omega
  have none':bW (kvs ++ (zs.take j).map λl=>((Sum.inr l:Key),V.str y)) (Sum.inr z)=none:=iu (by
   rw [List.map_append,List.mem_append,not_or]
   refine⟨λhm=>?_,λhm=>?_⟩
   ·have:(bW kvs (Sum.inr z)).isSome=true:=by rw [<-qP];obtain⟨p,hp,e⟩:=List.mem_map.mp hm;exact List.any_eq_true.mpr ⟨p,hp,decide_eq_true e⟩
    rw [r2] at this
    cases this
   ·rw [List.map_map] at hm
    obtain⟨b,hb,e⟩:=List.mem_map.mp hm
    cases e
    exact nin hb)
  refine⟨_,rfl,_,rfl,rd,some rv,rfl,(by rw [<-hrv];exact dW.k (k:=Sum.inr z) erd),_,rfl,dq ?_⟩
  refine⟨_,rfl,_,rfl,d,none,rfl,(by rw [<-none'];exact dW.k (k:=Sum.inr z) ak),_,rfl,dq ?_⟩
  refine⟨_,rfl,_,rfl,_,rfl,d,_,rfl,lJ.k (k:=Sum.inr z) ak (by rw [lP,lM,List.length_take];omega),?_,_,rfl⟩
  rw [kI,kO _ none',List.append_assoc,List.take_succ,hzj,Option.toList_some,List.map_append]
  rfl
 ·rintro σ H' ⟨rfl,v4,rfl⟩
  rw [lM,List.take_length]
  exact k
inductive zB (K:PySem.W.Frag) (vs:List V) (H:Hp) (Q:VK) (E:XK):Prop where
 | mk:∀(r g d:Addr) (rk gk tk:List (Key×V)),vs=[.ref r,.ref g,.ref d]->H r=some (.dK rk)->H g=some (.dK gk)->H d=some (.dK tk)->r≠g->r≠d->((∀q∈rk,(bW gk q.1).isSome=true/\(bW tk q.1).isSome=true))->Q .non H->zB K vs H Q E
theorem JH (T:Txt w K mg t):FO P w K mg base 1 t.Bv ["rooms", "givers", "takers"] (zB K):=by
 have sc:=T.vz.sc ["rooms", "givers", "takers", "lane"]
 refine T.vz.F.ok sc ln (λ_ _ _ _ H vs Q E hr h=>?_)
 obtain⟨r,g,d,rk,gk,tk,rfl,h1,h2,h3,n1,n2,hA,k⟩:=h
 refine⟨_,(au (rD (H0:=H) rfl (cX PassesOwn.never rfl (tY (pv 0)) (gN sc 3)
   (au (b7 (PW.pt (xn (fP (jP hr.u1 (pv 3) (pv 1))) (qg (fP (jP hr.u1 (pv 3) (pv 2))))))
    (au cH)
    bu))))),?_⟩
 refine⟨_,rfl,r,_,rfl,h1,λo=>qM (λj σ H'=>H'=upd H r (.frz o (.dK rk))/\∃v3,σ=[some (.ref r),some (.ref g),some (.ref d),v3]) ⟨rfl,none,rfl⟩ (λj σ H' _ ⟨e,_⟩=>by rw [e];exact ak) ?_ ?_⟩
 ·rintro j kk w σ H' hj ⟨rfl,v3,rfl⟩
  obtain⟨a1,a2⟩:=hA _ (List.mem_of_getElem? hj)
  obtain⟨u1,b1⟩:=Option.isSome_iff_exists.mp a1
  obtain⟨u2,b2⟩:=Option.isSome_iff_exists.mp a2
  have e2:upd H r (.frz o (.dK rk)) g=some (.dK gk):=by rw [aJ (Ne.symm n1)];exact h2
  have e3:upd H r (.frz o (.dK rk)) d=some (.dK tk):=by rw [aJ (Ne.symm n2)];exact h3
  exact⟨_,rfl,_,rfl,g,some u1,rfl,(by rw [<-b1];exact dW.k e2),_,rfl,dq ⟨_,rfl,_,rfl,d,some u2,rfl,(by rw [<-b2];exact dW.k e3),_,rfl,dq ⟨rfl,_,rfl⟩⟩⟩
 ·rintro σ H' ⟨rfl,v3,rfl⟩
  refine⟨_,⟨r,o,_,ak,?_,rfl⟩,?_⟩
  ·intro o' u' z
   rw [show H r=_ from h1] at z
   cases z
  ·rw [kI,Ir h1]
   exact k
noncomputable def Kz (H:Hp) (J:Addr):List (Key×V):=match H J with
 | some (.dK jk)=>jk
 | _=>[]
theorem Df {H:Hp} {J:Addr} {jk:List (Key×V)} (h:H J=some (.dK jk)):Kz H J=jk:=by
 unfold Kz
 rw [h]
theorem Uo {f:PD->List Str} {ps:List PD} {j:Nat} {k:Key} {v:V} (h:(cG f ps)[j]?=some (k,v)):∃p∈ps,∃l∈f p,k=Sum.inr l/\v=.str p.name:=by
 have:=List.mem_of_getElem? h
 unfold cG at this
 obtain⟨p,hp,hm⟩:=List.mem_flatMap.mp this
 obtain⟨l,hl,e⟩:=List.mem_map.mp hm
 cases e
 exact⟨p,hp,l,hl,rfl,rfl⟩
noncomputable def RT (ps:List PD) (jk:List (Key×V)) (j:Nat):Prop:=∀i k v,i <j->(cG (·.outs) ps)[i]?=some (k,v)->∀a∈ps,∀b∈ps,∀l,k=Sum.inr l->l∈a.outs->l∈b.ins->gq jk a.name=gq jk b.name
theorem RT.all {ps:List PD} {jk:List (Key×V)} (h:RT ps jk (cG (·.outs) ps).length):∀a∈ps,∀b∈ps,∀l,l∈a.outs->l∈b.ins->gq jk a.name=gq jk b.name:=λa ha b hb l la lb=>by
 have hm:((Sum.inr l:Key),V.str a.name)∈cG (·.outs) ps:=List.mem_flatMap.mpr ⟨a,ha,List.mem_map.mpr ⟨l,la,rfl⟩⟩
 obtain⟨i,hi,ei⟩:=List.mem_iff_getElem.mp hm
 exact h i _ _ hi (by rw [List.getElem?_eq_getElem hi,ei]) a ha b hb l rfl la lb
inductive vm (K:PySem.W.Frag) (vs:List V) (H:Hp) (Q:VK) (E:XK):Prop where
 | mk:∀(p0:PD) (g d:Addr) (ps:List PD),vs=[.str p0.name,.ref g,.ref d]->p0∈ps->ps.length<=16->H g=some (.dK (cG (·.outs) ps))->H d=some (.dK (cG (·.ins) ps))->g≠d->(ps.flatMap (·.outs)).Nodup->(ps.flatMap (·.ins)).Nodup->(ps.flatMap (·.outs)).Perm (ps.flatMap (·.ins))->((∃y,∀q∈ps,∃x∈q.ins ++ q.outs,Drawn.iZ ps x y))->(∀H' J jk,aO H H'->H' J=some (.dK jk)->(∀p∈ps,gq jk p.name=true)->Q (.ref J) H')->vm K vs H Q E
theorem Ed (T:Txt w K mg t):FO P w K mg base 1 t.xj ["part", "givers", "takers"] (vm K):=by
 have sc:=T.ql.sc ["part", "givers", "takers", "joined", "grown", "lane"]
 refine T.ql.F.ok sc ln (λ_ _ _ _ H vs Q E hr h=>?_)
 obtain⟨p0,g,d,ps,rfl,hp0,hps,h1,h2,n1,no,ni,pm,hang,k⟩:=h
 refine⟨_,(ao (sN sc 3 (Oq (Ld (pv 0) qT Pq) rfl rfl (by simp) (by decide)))
  (ao (sN sc 4 qT)
  (ao (vC PassesOwn.never (lW (pv 4))
   (ao (sN sc 4 qT)
   (au (rD (H0:=H) rfl (cX PassesOwn.never rfl (tY (pv 1)) (gN sc 5)
    (au (wH (b7 (bD GP (JC (uM hr.u1 (bM hr.u1 (pv 1) (pv 5) (λ_ _=>rfl)) (pv 3))) (JC (uM hr.u1 (bM hr.u1 (pv 2) (pv 5) (λ_ _=>rfl)) (pv 3))) (cz _))
     (ao (d7 hr.u1 (pv 3) (bM hr.u1 (pv 1) (pv 5) (λ_ _=>rfl)) qT rfl)
     (ao (d7 hr.u1 (pv 3) (bM hr.u1 (pv 2) (pv 5) (λ_ _=>rfl)) qT rfl)
     (au (sN sc 4 qT))))
     bu))))))))
  (au (aQ (pv 3)))))),?_⟩
 have hl:sizeLine=16777216:=sizeLine_eq
 refine λJ nJ=>⟨_,rfl,ak,[((Sum.inr p0.name:Key),V.bl true)],rfl,by show 1<=15;decide,?_⟩
 rw [kI]
 have s0:aO H (upd H J (.dK (oM [] [((Sum.inr p0.name:Key),V.bl true)]))):=az nJ
 have e0:(upd H J (.dK (oM [] [((Sum.inr p0.name:Key),V.bl true)]))) J=some (.dK [((Sum.inr p0.name:Key),V.bl true)]):=ak
 generalize upd H J (.dK (oM [] [((Sum.inr p0.name:Key),V.bl true)]))=H0 at s0 e0 ⊢
 have ngJ:J≠g:=Ne.symm (aC h1 nJ)
 have ndJ:J≠d:=Ne.symm (aC h2 nJ)
 have melt:∀{H':Hp} {o:Obj},jK g H H'->H' g=some (.frz o (.dK (cG (·.outs) ps)))->aO H (upd H' g (.dK (cG (·.outs) ps))):=λhb hg b u e=>by
  by_cases h:b=g
  ·subst h;rw [ak];rw [h1] at e;exact e
  ·rw [aJ h];exact hb b u h e
 have m0:oV ps [((Sum.inr p0.name:Key),V.bl true)]<=16:=Nat.le_trans (List.length_filter_le _ _) hps
 refine vy (λσ H'=>aO H H'/\∃b v5 jk,σ=[some (.str p0.name),some (.ref g),some (.ref d),some (.ref J),some (.bl b),v5]/\H' J=some (.dK jk)/\gq jk p0.name=true/\jk.length+2 * oV ps jk<=40/\(b=false->RT ps jk (cG (·.outs) ps).length))
  (λσ H'=>match σ with | [_,_,_,_,some (.bl b),_]=>(if b then 1 else 0)+2 * oV ps (Kz H' J) | _=>0) ⟨s0,true,none,_,rfl,e0,by simp [gq,bW],by rw [List.length_singleton];omega,by intro z;cases z⟩ ?_ ?_
 ·rintro σ H1 ⟨s1,b,v5,jk,rfl,hJ,hp,hlen,hev⟩
  cases b with
  | false=>exact⟨_,rfl,_,rfl,dq ⟨_,rfl,k _ J jk s1 hJ (Yj no ni pm hang (hev rfl).all hp0 hp)⟩⟩
  | true=>
   refine⟨_,rfl,_,rfl,iT ?_⟩
   refine⟨_,rfl,g,_,rfl,s1 _ _ h1,λo=>?_⟩
   have gD:∀{H':Hp},jK g H H'->H' d=some (.dK (cG (·.ins) ps)):=λhb=>hb d _ (Ne.symm n1) h2
   refine qM (λj σ H'=>jK g H H'/\H' g=some (.frz o (.dK (cG (·.outs) ps)))/\∃b v5 jk',σ=[some (.str p0.name),some (.ref g),some (.ref d),some (.ref J),some (.bl b),v5]/\H' J=some (.dK jk')/\gq jk' p0.name=true/\jk'.length+2 * oV ps jk'<=40/\((b=false/\jk'=jk/\RT ps jk j)∨(b=true/\oV ps jk' <oV ps jk)))
    ⟨λb u hn e=>by rw [aJ hn];exact s1 b u e,ak,false,v5,jk,rfl,by rw [aJ ngJ];exact hJ,hp,hlen,.inl ⟨rfl,rfl,λi _ _ hi=>absurd hi (by omega)⟩⟩ (λj σ H' _ h=>h.2.1) ?_ ?_
   ·rintro j kk w σ H' hj ⟨hb,hg,b,v5,jk',rfl,hJ',hp',hlen',hv⟩
    obtain⟨a,ha,l,la,rfl,rfl⟩:=Uo hj
    obtain⟨b',hb',lb⟩:=List.mem_flatMap.mp (pm.mem_iff.mp (List.mem_flatMap.mpr ⟨a,ha,la⟩))
    have ga:dW H' g (.str l) (some (.str a.name)):=.inl ⟨_,Sum.inr l,.inr ⟨o,hg⟩,rfl,(eE no ha la).symm⟩
    have gb:dW H' d (.str l) (some (.str b'.name)):=by rw [<-eE ni hb' lb];exact dW.k (k:=Sum.inr l) (gD hb)
    have ja:dW H' J (.str a.name) (bW jk' (Sum.inr a.name)):=dW.k (k:=Sum.inr a.name) hJ'
    have jb:dW H' J (.str b'.name) (bW jk' (Sum.inr b'.name)):=dW.k (k:=Sum.inr b'.name) hJ'
    have nm:∀a2∈ps,∀b2∈ps,l∈a2.outs->l∈b2.ins->a2.name=a.name/\b2.name=b'.name:=λa2 ha2 b2 hb2 q1 q2=>by
     have e1:=eE no ha2 q1
     rw [eE no ha la] at e1
     have e2:=eE ni hb2 q2
     rw [eE ni hb' lb] at e2
     simp only [Option.some.injEq,V.str.injEq] at e1 e2
     exact⟨e1.symm,e2.symm⟩
    refine⟨λσ H''=>jK g H H''/\H'' g=some (.frz o (.dK (cG (·.outs) ps)))/\∃b jk'',σ=[some (.str p0.name),some (.ref g),some (.ref d),some (.ref J),some (.bl b),some (.str l)]/\H'' J=some (.dK jk'')/\gq jk'' p0.name=true/\jk''.length+2 * oV ps jk''<=40/\((b=false/\jk''=jk/\RT ps jk (j+1))∨(b=true/\oV ps jk'' <oV ps jk)),?_,?_⟩
    ·refine⟨_,rfl,_,rfl,g,_,rfl,ga,_,rfl,J,_,rfl,ja,?_⟩
     refine⟨_,rfl,_,rfl,d,_,rfl,gb,_,rfl,J,_,rfl,jb,rfl,_,rfl,?_⟩
     change if (!decide (V.bl (gq jk' a.name)=V.bl (gq jk' b'.name)))=true then _ else _
     refine uB (λhne=>?_) (λheq=>?_)
     ·have hne':gq jk' a.name≠gq jk' b'.name:=λz=>by rw [z] at hne;simp at hne
      refine⟨_,rfl,_,rfl,_,rfl,g,_,rfl,ga,J,_,rfl,lJ.k (k:=Sum.inr a.name) hJ' (by omega),?_⟩
      have b2:jK g H (upd H' J (.dK (putK jk' (Sum.inr a.name) (.bl true)))):=λx u hn e=>by rw [aJ (aC e nJ)];exact hb x u hn e
      have g2:(upd H' J (.dK (putK jk' (Sum.inr a.name) (.bl true)))) g=some (.frz o (.dK (cG (·.outs) ps))):=by rw [aJ (Ne.symm ngJ)];exact hg
      have gb2:dW (upd H' J (.dK (putK jk' (Sum.inr a.name) (.bl true)))) d (.str l) (some (.str b'.name)):=by rw [<-eE ni hb' lb];exact dW.k (k:=Sum.inr l) (gD b2)
      have len1:=lg jk' (Sum.inr a.name:Key) (.bl true)
      have len2:=lg (putK jk' (Sum.inr a.name) (.bl true)) (Sum.inr b'.name:Key) (.bl true)
      refine⟨_,rfl,_,rfl,_,rfl,d,_,rfl,gb2,J,_,rfl,lJ.k (k:=Sum.inr b'.name) ak (by omega),?_⟩
      rw [kI]
      have has2:∀x,gq (putK (putK jk' (Sum.inr a.name) (.bl true)) (Sum.inr b'.name) (.bl true)) x=(decide (x=b'.name) || (decide (x=a.name) || gq jk' x)):=λx=>by rw [Ko,Ko]
      have mono:∀x,gq jk' x=true->gq (putK (putK jk' (Sum.inr a.name) (.bl true)) (Sum.inr b'.name) (.bl true)) x=true:=λx hx=>by rw [has2,hx];simp
      have lt:oV ps (putK (putK jk' (Sum.inr a.name) (.bl true)) (Sum.inr b'.name) (.bl true)) <oV ps jk':=by
       cases hA:gq jk' a.name
       ·exact KD mono ha hA (by rw [has2];simp)
       ·cases hB:gq jk' b'.name
        ·exact KD mono hb' hB (by rw [has2];simp)
        ·rw [hA,hB] at hne';exact absurd rfl hne'
      refine⟨λx u hn e=>by rw [aJ (aC e nJ)];exact hb x u hn e,by rw [aJ (Ne.symm ngJ)];exact hg,true,_,rfl,ak,mono _ hp',by omega,.inr ⟨rfl,?_⟩⟩
      rcases hv with ⟨_,rfl,_⟩ | ⟨_,hv⟩
      ·exact lt
      ·omega
     ·have heq':gq jk' a.name=gq jk' b'.name:=by
       cases hA:gq jk' a.name <;> cases hB:gq jk' b'.name <;> rw [hA,hB] at heq <;> simp_all
      refine⟨hb,hg,b,jk',rfl,hJ',hp',hlen',?_⟩
      rcases hv with ⟨rfl,rfl,hE⟩ | hv
      ·refine .inl ⟨rfl,rfl,λi k2 v2 hi e2 a2 ha2 b2 hb2 l2 ek q1 q2=>?_⟩
       rcases Nat.lt_or_ge i j with h | h
       ·exact hE i k2 v2 h e2 a2 ha2 b2 hb2 l2 ek q1 q2
       ·have:i=j:=by omega
        subst this
        rw [hj] at e2
        cases e2
        cases ek
        obtain⟨x1,x2⟩:=nm a2 ha2 b2 hb2 q1 q2
        rw [x1,x2]
        exact heq'
      ·exact .inr hv
    ·rintro σ H'' ⟨hb,hg,b,jk'',rfl,r⟩
     exact⟨hb,hg,b,_,jk'',rfl,r⟩
   ·rintro σ H' ⟨hb,hg,b,v5',jk',rfl,hJ',hp',hlen',hv⟩
    refine⟨_,⟨g,o,_,hg,(λo' u' z=>by rw [show H g=_ from h1] at z;cases z),rfl⟩,?_⟩
    have eJ:(upd H' g (.dK (cG (·.outs) ps))) J=some (.dK jk'):=by rw [aJ ngJ];exact hJ'
    refine⟨⟨melt hb hg,b,v5',jk',rfl,eJ,hp',hlen',λz=>?_⟩,?_⟩
    ·rcases hv with ⟨_,rfl,hE⟩ | ⟨h,_⟩
     ·exact hE
     ·rw [h] at z;cases z
    ·show(if b=true then 1 else 0)+2 * oV ps (Kz _ J) <(if true=true then 1 else 0)+2 * oV ps (Kz _ J)
     rw [Df eJ,Df hJ]
     rcases hv with ⟨rfl,rfl,_⟩ | ⟨rfl,h⟩
     ·simp
     ·simp;omega
 ·intro σ H' Q' Q'' hm hq
  obtain⟨v,e,b,e2,q⟩:=hq
  exact⟨v,e,b,e2,hm _ _ q⟩
inductive uH (K:PySem.W.Frag) (vs:List V) (H:Hp) (Q:VK) (E:XK):Prop where
 | mk:∀(L g d:Addr) (ps:List PD),vs=[.ref L,.ref g,.ref d]->(bI K H L (ps.map λp=>V.str p.name))->1<=ps.length->ps.length<=16->H g=some (.dK (cG (·.outs) ps))->H d=some (.dK (cG (·.ins) ps))->g≠d->(ps.flatMap (·.outs)).Nodup->(ps.flatMap (·.ins)).Nodup->(ps.flatMap (·.outs)).Perm (ps.flatMap (·.ins))->((∃y,∀q∈ps,∃x∈q.ins ++ q.outs,Drawn.iZ ps x y))->(∀H',aO H H'->Q .non H')->uH K vs H Q E
theorem Fi (T:Txt w K mg t):FO P w K mg base 2 t.xG ["names", "givers", "takers"] (uH K):=by
 have sc:=T.qe.sc ["names", "givers", "takers", "joined", "name"]
 refine T.qe.F.ok sc ln (λ_ _ _ _ H vs Q E hr h=>?_)
 obtain⟨L,g,d,ps,rfl,hL,hp1,hps,h1,h2,n1,no,ni,pm,hang,k⟩:=h
 refine⟨_,(ao (sN sc 3 (jd (Ed T) T.ql hr (aa (aU cC (pv 0) aB (λ_ _=>rfl)) (aa (pv 1) (aa (pv 2) aq aj) aj) aH)))
  (au (cX PassesOwn.never rfl (bH (pv 0)) (gN sc 4)
   (au (b7 (fP (jP hr.u1 (pv 4) (pv 3)))
    (au cH)
    bu))))),?_⟩
 obtain⟨p0,pr,rfl⟩:∃p0 pr,ps=p0:: pr:=by
  cases ps with
  | nil=>simp at hp1
  | cons a r=>exact⟨a,r,rfl⟩
 refine⟨_,rfl,L,_,0,_,rfl,rfl,hL,aM (j:=0) rfl,_,rfl,_,rfl,p0,g,d,_,rfl,List.mem_cons_self,hps,h1,h2,n1,no,ni,pm,hang,λH1 J jk s1 eJ hA=>?_⟩
 refine⟨_,rfl,L,rfl,⟨_,s1.seq hL⟩,cY (K:=K) (a:=L) (xs:=(p0:: pr).map λp=>V.str p.name) (λj σ H'=>H'=H1/\∃v4,σ=[some (.ref L),some (.ref g),some (.ref d),some (.ref J),v4]) ⟨rfl,none,rfl⟩ (λj σ H' _ ⟨e,_⟩=>by rw [e];exact s1.seq hL) ?_ ?_⟩
 ·rintro j x σ H' hx ⟨rfl,v4,rfl⟩
  rw [List.getElem?_map] at hx
  obtain⟨p,hp,rfl⟩:=Option.map_eq_some_iff.mp hx
  obtain⟨u,hu⟩:=Option.isSome_iff_exists.mp (hA p (List.mem_of_getElem? hp))
  exact⟨_,rfl,_,rfl,J,some u,rfl,(by rw [<-hu];exact dW.k (k:=Sum.inr p.name) eJ),_,rfl,dq ⟨rfl,_,rfl⟩⟩
 ·rintro σ H' ⟨rfl,v4,rfl⟩
  exact k _ s1
inductive pH (K:PySem.W.Frag) (t:jw) (vs:List V) (H:Hp) (Q:VK) (E:XK):Prop where
 | mk:∀(n:Addr) (ls:List aF) (ps:List PD),vs=[.ref n]->gJ K t H n ls ps->(∀l,H l=none->Q (.ref l) (upd H l (.lst (ls.map λx=>V.str x.name))))->pH K t vs H Q E
theorem jB (T:Txt w K mg t):FO P w K mg base 1 t.jX ["self"] (pH K t):=by
 have sc:=T.gj.sc ["self"]
 refine T.gj.F.ok sc ln (λ_ _ _ _ H vs Q E hr h=>?_)
 obtain⟨n,ls,ps,rfl,N,k⟩:=h
 refine⟨_,(au (aQ (dC (jx rfl) (by rfl) T.uY pC (aa (aZ (pv 0) rfl) aq bw)))),?_⟩
 obtain⟨dx,fs,R,F,Pd,G,Tk,FL,PL,W⟩:=id N
 refine⟨_,rfl,n,_,dx,fs,_,rfl,W.obj,T.aR.c,T.aR.na.1,W.fl.has ("rooms",.ref R) (by simp),R,_,rfl,.inl W.rooms,λl hl=>?_⟩
 unfold eO
 rw [List.map_map]
 exact k l hl
inductive pN (K:PySem.W.Frag) (t:jw) (vs:List V) (H:Hp) (Q:VK) (E:XK):Prop where
 | mk:∀(n:Addr) (ls:List aF) (ps:List PD),vs=[.ref n]->gJ K t H n ls ps->(∀l,H l=none->Q (.ref l) (upd H l (.lst (ps.map λx=>V.str x.name))))->pN K t vs H Q E
theorem dw (T:Txt w K mg t):FO P w K mg base 1 t.jW ["self"] (pN K t):=by
 have sc:=T.cj.sc ["self"]
 refine T.cj.F.ok sc ln (λ_ _ _ _ H vs Q E hr h=>?_)
 obtain⟨n,ls,ps,rfl,N,k⟩:=h
 refine⟨_,(au (aQ (dC (jx rfl) (by rfl) T.uY pC (aa (aZ (pv 0) rfl) aq bw)))),?_⟩
 obtain⟨dx,fs,R,F,Pd,G,Tk,FL,PL,W⟩:=id N
 refine⟨_,rfl,n,_,dx,fs,_,rfl,W.obj,T.aR.c,T.aR.na.2.2.1,W.fl.has ("parts",.ref Pd) (by simp),Pd,_,rfl,.inl W.parts,λl hl=>?_⟩
 unfold cJ
 rw [List.map_map]
 have e:ps.map (λx=>V.str x.name)=PL.map (λq=>V.str q.1.name):=by rw [<-W.pls,List.map_map];rfl
 rw [e] at k
 exact k l hl
theorem Og (T:Txt w K mg t) (i:Nat):MethAt P w K mg base Dd 1 (cls t i) "kind" (gY i):=match i with
 | 0=>⟨_,_,_,T.ig.c,(T.p6.me T.ig.me.2.1),T.p6.b,J5 T⟩
 | 1=>⟨_,_,_,T.iG.c,(T.pZ.me T.iG.me.2.1),T.pZ.b,J1 T⟩
 | 2=>⟨_,_,_,T.iH.c,(T.pP.me T.iH.me.2.1),T.pP.b,Jx T⟩
 | 3=>⟨_,_,_,T.iJ.c,(T.pQ.me T.iJ.me.2.1),T.pQ.b,Jr T⟩
 | 4=>⟨_,_,_,T.iI.c,(T.pG.me T.iI.me.2.1),T.pG.b,JW T⟩
 | 5=>⟨_,_,_,T.iD.c,(T.qb.me T.iD.me.2.1),T.qb.b,Io T⟩
 | 6=>⟨_,_,_,T.lO.c,(T.sY.me T.lO.me.2.1),T.sY.b,KJ T⟩
 | 7=>⟨_,_,_,T.iB.c,(T.pR.me T.iB.me.2.1),T.pR.b,IV T⟩
 | 8=>⟨_,_,_,T.fK.c,(T.mV.me T.fK.me.2.1),T.mV.b,Gx T⟩
 | 9=>⟨_,_,_,T.dM.c,(T.j9.me T.dM.me.2.1),T.j9.b,Eb T⟩
 | n+10=>⟨_,_,_,T.fD.c,(T.mX.me T.fD.me.2.1),T.mX.b,Gi T⟩
inductive lE (K:PySem.W.Frag) (t:jw) (vs:List V) (H:Hp) (Q:VK) (E:XK):Prop where
 | mk:∀(n:Addr) (ls:List aF) (ps:List PD) (x:Str),vs=[.ref n,.str x]->gJ K t H n ls ps->(∀p,H p=none->Q (.ref p) (upd H p (.lst (fc ps x))))->lE K t vs H Q E
theorem kZ (T:Txt w K mg t):FO P w K mg base 2 t.iV ["self", "kind"] (lE K t):=by
 have sc:=T.fW.sc ["self", "kind"]
 refine T.fW.F.ok sc ln (λ_ _ _ _ H vs Q E hr h=>?_)
 obtain⟨n,ls,ps,x,rfl,N,k⟩:=h
 refine⟨_,(au (aQ (V0 (H0:=H) rfl (gf [0,1] ["self", "kind"] (aX (inClass (top 76) 5)) rfl (tY (aZ (pv 0) rfl)) (λ_ _ _ _ _=>(yf (bD jO (M4 (P:=P) (w:=w) (K:=K) (mg:=mg) (base:=base) (CX:=Dd) (k:=1) (E:=E0) rfl rfl rfl rfl rfl (bM hr.u1 (JL (K:=K) rfl (pv 1) rfl) (pv 0) (λ_ _=>rfl)) (hr.mono (by decide)) gB) (pv 2) (cz _)))) (λ_ _ _ _ _=>(pv 0)))))),?_⟩
 obtain⟨dx,fs,R,F,Pd,G,Tk,FL,PL,W⟩:=id N
 have hz:sizeLine=16777216:=sizeLine_eq
 have hp:=W.fit.p16
 have h5:=W.parts
 have lpl:PL.length=ps.length:=by rw [<-W.pls,lM]
 refine⟨_,rfl,n,_,dx,fs,_,rfl,W.obj,T.aR.c,T.aR.na.2.2.1,W.fl.has ("parts",.ref Pd) (by simp),Pd,_,rfl,h5,λo=>?_⟩
 refine Rf (λj ys H'=>H'=upd H Pd (.frz o (.dK (cJ PL)))/\ys=fc ((PL.take j).map (·.1)) x) (by unfold cJ;rw [lM];omega) ⟨rfl,by simp [fc]⟩ ?_ ?_ ?_ ?_
 ·rintro j ys H' ⟨_,rfl⟩
  have:=yV ((PL.take j).map (·.1)) x
  rw [lM,List.length_take] at this
  omega
 ·rintro j ys H' _ ⟨rfl,_⟩
  exact ak
 ·rintro j kk v ys H' hj ⟨rfl,rfl⟩
  unfold cJ at hj
  rw [List.getElem?_map] at hj
  obtain⟨q,hq,e⟩:=Option.map_eq_some_iff.mp hj
  cases e
  have hm:=List.mem_of_getElem? hq
  obtain⟨dxp,tn,ti,to,p1,p2,p3,p4⟩:=((W.pats q hm).chill (v:=.frz o (.dK (cJ PL))) h5).ex
  refine⟨_,rfl,n,_,dx,fs,_,rfl,gP h5 W.obj (by intro _ z;cases z),T.aR.c,T.aR.na.2.2.1,W.fl.has ("parts",.ref Pd) (by simp),_,rfl,Pd,_,rfl,(by rw [<-W.partV hm];exact .inl ⟨_,Sum.inr q.1.name,.inr ⟨o,ak⟩,rfl,rfl⟩),?_⟩
  refine⟨q.2,cls t q.1.kind,dxp,_,gY q.1.kind,rfl,p1,sW _ _ _ _ (by decide +kernel) (by decide +kernel) (by decide +kernel) (by decide +kernel),Og T q.1.kind,_,rfl,_,rfl,rfl,_,rfl,?_⟩
  rw [List.take_succ,hq,Option.toList_some,List.map_append,List.map_singleton,QC]
  refine uB (λe=>?_) (λe=>?_)
  ·have e':fQ q.1.kind=x:=by simpa using e
   rw [if_pos e']
   exact⟨_,rfl,rfl,rfl⟩
  ·have e':¬fQ q.1.kind=x:=by simpa using e
   rw [if_neg e']
   exact⟨rfl,rfl⟩
 ·rintro ys H' ⟨rfl,rfl⟩ D hD
  refine⟨_,⟨Pd,o,cJ PL,?_,?_,rfl⟩,?_⟩
  ·rw [aJ (by rintro rfl;rw [ak] at hD;cases hD)]
   exact ak
  ·intro o' u z
   rw [show H Pd=_ from h5] at z
   cases z
  ·rw [Qy h5 hD]
   have:=k D (Nt hD)
   rw [show(cJ PL).length=PL.length by unfold cJ;rw [lM],List.take_length,W.pls]
   exact this
inductive yQ (K:PySem.W.Frag) (t:jw) (vs:List V) (H:Hp) (Q:VK) (E:XK):Prop where
 | mk:∀(n:Addr) (ls:List aF) (ps:List PD),vs=[.ref n]->gJ K t H n ls ps->(∀p,H p=none->Q (.ref p) (upd H p (.lst (fc ps "give"))))->yQ K t vs H Q E
theorem tH (T:Txt w K mg t):FO P w K mg base 3 t.vA ["self"] (yQ K t):=by
 have sc:=T.lA.sc ["self"]
 refine T.lA.F.ok sc ln (λ_ _ _ _ H vs Q E hr h=>?_)
 obtain⟨n,ls,ps,rfl,N,k⟩:=h
 refine⟨_,(au (aQ (zx (pv 0) T.aR T.aR.me.2.2.2.2.1 (kZ T) T.fW hr (aa bT aq aK)))),?_⟩
 obtain⟨dx,fs,R,F,Pd,G,Tk,FL,PL,W⟩:=id N
 exact⟨_,rfl,n,dx,fs,rfl,W.obj,W.fl.no _ (by decide +kernel),n,ls,ps,_,rfl,N,k⟩
inductive yK (K:PySem.W.Frag) (t:jw) (vs:List V) (H:Hp) (Q:VK) (E:XK):Prop where
 | mk:∀(n:Addr) (ls:List aF) (ps:List PD),vs=[.ref n]->gJ K t H n ls ps->(∀p,H p=none->Q (.ref p) (upd H p (.lst (fc ps "take"))))->yK K t vs H Q E
theorem Ji (T:Txt w K mg t):FO P w K mg base 3 t.u0 ["self"] (yK K t):=by
 have sc:=T.vD.sc ["self"]
 refine T.vD.F.ok sc ln (λ_ _ _ _ H vs Q E hr h=>?_)
 obtain⟨n,ls,ps,rfl,N,k⟩:=h
 refine⟨_,(au (aQ (zx (pv 0) T.aR T.aR.me.2.2.2.2.1 (kZ T) T.fW hr (aa bT aq aK)))),?_⟩
 obtain⟨dx,fs,R,F,Pd,G,Tk,FL,PL,W⟩:=id N
 exact⟨_,rfl,n,dx,fs,rfl,W.obj,W.fl.no _ (by decide +kernel),n,ls,ps,_,rfl,N,k⟩
inductive jM (K:PySem.W.Frag) (t:jw) (vs:List V) (H:Hp) (Q:VK) (E:XK):Prop where
 | mk:∀(n:Addr) (ls:List aF) (ps:List PD) (x:Str),vs=[.ref n,.str x]->gJ K t H n ls ps->(((x∈ls.map (·.name)/\∀H',aO H H'->Q .non H')∨False))->jM K t vs H Q E
theorem eU (T:Txt w K mg t):FO P w K mg base 2 t.iw ["self", "name"] (jM K t):=by
 have sc:=T.cZ.sc ["self", "name"]
 refine T.cZ.F.ok sc ln (λ_ _ _ _ H vs Q E hr h=>?_)
 obtain⟨n,ls,ps,x,rfl,N,h⟩:=h
 refine⟨_,(au (b7 (bD gA (pv 1) (Nz (pv 0) T.aR T.aR.me.2.1 (jB T) T.gj hr) (by with_unfolding_all rfl))
   (au cH)
   bu)),?_⟩
 obtain⟨dx,fs,R,F,Pd,G,Tk,FL,PL,W⟩:=id N
 refine⟨_,rfl,_,rfl,n,dx,fs,rfl,W.obj,W.fl.no _ (by decide +kernel),n,ls,ps,rfl,N,λl hl=>?_⟩
 have s1:=az (o:=.lst (ls.map λx=>V.str x.name)) hl
 refine⟨l,_,rfl,.inl (bI.of ak),rfl,by simp [lD],_,rfl,?_⟩
 rw [DG (f:=λx:aF=>x.name)]
 rcases h with ⟨hx,k⟩ | h
 ·rw [decide_eq_true hx]
  exact dq (k _ s1)
 ·exact h.elim
inductive uG (K:PySem.W.Frag) (t:jw) (vs:List V) (H:Hp) (Q:VK) (E:XK):Prop where
 | mk:∀(n:Addr) (ls:List aF) (ps:List PD) (x:Str),vs=[.ref n,.str x]->gJ K t H n ls ps->(((∃l∈ls,l.name=x/\∀H',aO H H'->Q (.int l.room) H')∨False))->uG K t vs H Q E
theorem wu (T:Txt w K mg t):FO P w K mg base 3 t.qC ["self", "name"] (uG K t):=by
 have sc:=T.j0.sc ["self", "name"]
 refine T.j0.F.ok sc ln (λ_ _ _ _ H vs Q E hr h=>?_)
 obtain⟨n,ls,ps,x,rfl,N,h⟩:=h
 refine⟨_,(ao (dh (zx (pv 0) T.aR T.aR.me.2.2.2.2.2.2.2.1 (eU T) T.cZ hr (aa (pv 1) aq aj)))
  (au (aQ (bM hr.u1 (aZ (pv 0) rfl) (pv 1) (λ_ _=>rfl))))),?_⟩
 obtain⟨dx,fs,R,F,Pd,G,Tk,FL,PL,W⟩:=id N
 refine⟨_,rfl,n,dx,fs,rfl,W.obj,W.fl.no _ (by decide +kernel),_,rfl,n,ls,ps,x,rfl,N,?_⟩
 rcases h with ⟨l,hl,rfl,k⟩ | h
 ·refine .inl ⟨List.mem_map.mpr ⟨l,hl,rfl⟩,λH1 s1=>?_⟩
  have W1:=W.same s1
  have hv:=W1.room hl
  refine⟨_,rfl,n,_,dx,fs,_,rfl,W1.obj,T.aR.c,T.aR.na.1,W1.fl.has ("rooms",.ref R) (by simp),_,rfl,R,_,rfl,(by rw [<-hv];exact dW.k (k:=Sum.inr l.name) W1.rooms),?_⟩
  exact k _ s1
 ·exact .inr h
inductive uw (K:PySem.W.Frag) (t:jw) (vs:List V) (H:Hp) (Q:VK) (E:XK):Prop where
 | mk:∀(n:Addr) (ls:List aF) (ps:List PD) (x:Str),vs=[.ref n,.str x]->gJ K t H n ls ps->(((∃l∈ls,l.name=x/\∀H' p,aO H H'->H p=none->H' p=some (.lst (l.first.map V.int))->Q (.ref p) H')∨False))->uw K t vs H Q E
theorem uf (T:Txt w K mg t):FO P w K mg base 3 t.nQ ["self", "name"] (uw K t):=by
 have sc:=T.jC.sc ["self", "name"]
 refine T.jC.F.ok sc ln (λ_ _ _ _ H vs Q E hr h=>?_)
 obtain⟨n,ls,ps,x,rfl,N,h⟩:=h
 refine⟨_,(ao (dh (zx (pv 0) T.aR T.aR.me.2.2.2.2.2.2.2.1 (eU T) T.cZ hr (aa (pv 1) aq aj)))
  (au (aQ (dC yC (by rfl) T.uY pC (aa (bM hr.u1 (aZ (pv 0) rfl) (pv 1) (λ_ _=>rfl)) aq aH))))),?_⟩
 obtain⟨dx,fs,R,F,Pd,G,Tk,FL,PL,W⟩:=id N
 refine⟨_,rfl,n,dx,fs,rfl,W.obj,W.fl.no _ (by decide +kernel),_,rfl,n,ls,ps,x,rfl,N,?_⟩
 rcases h with ⟨l,hl,rfl,k⟩ | h
 ·refine .inl ⟨List.mem_map.mpr ⟨l,hl,rfl⟩,λH1 s1=>?_⟩
  have W1:=W.same s1
  obtain⟨q,hq,eq⟩:∃q∈FL,q.1=l:=by
   rw [<-W.fls] at hl
   obtain⟨q,hq,e⟩:=List.mem_map.mp hl
   exact⟨q,hq,e⟩
  subst eq
  have hv:=W1.firstV hq
  refine⟨_,rfl,n,_,dx,fs,_,rfl,W1.obj,T.aR.c,T.aR.na.2.1,W1.fl.has ("firsts",.ref F) (by simp),_,rfl,F,_,rfl,(by rw [<-hv];exact dW.k (k:=Sum.inr q.1.name) W1.firsts),?_⟩
  exact⟨q.2,_,rfl,.inr (W1.tups q hq),λp hp=>k _ p (s1.trans (az hp)) (s1.free hp) ak⟩
 ·exact .inr h
inductive ul (K:PySem.W.Frag) (t:jw) (vs:List V) (H:Hp) (Q:VK) (E:XK):Prop where
 | mk:∀(n:Addr) (ls:List aF) (ps:List PD) (x:Str),vs=[.ref n,.str x]->gJ K t H n ls ps->(((∃l∈ls,l.name=x/\∀p∈ps,l.name∈p.outs->∀H',aO H H'->Q (.str p.name) H')∨False))->ul K t vs H Q E
theorem Cu (T:Txt w K mg t):FO P w K mg base 3 t.n8 ["self", "name"] (ul K t):=by
 have sc:=T.oK.sc ["self", "name"]
 refine T.oK.F.ok sc ln (λ_ _ _ _ H vs Q E hr h=>?_)
 obtain⟨n,ls,ps,x,rfl,N,h⟩:=h
 refine⟨_,(ao (dh (zx (pv 0) T.aR T.aR.me.2.2.2.2.2.2.2.1 (eU T) T.cZ hr (aa (pv 1) aq aj)))
  (au (aQ (bM hr.u1 (aZ (pv 0) rfl) (pv 1) (λ_ _=>rfl))))),?_⟩
 obtain⟨dx,fs,R,F,Pd,G,Tk,FL,PL,W⟩:=id N
 refine⟨_,rfl,n,dx,fs,rfl,W.obj,W.fl.no _ (by decide +kernel),_,rfl,n,ls,ps,x,rfl,N,?_⟩
 rcases h with ⟨l,hl,rfl,k⟩ | h
 ·refine .inl ⟨List.mem_map.mpr ⟨l,hl,rfl⟩,λH1 s1=>?_⟩
  have W1:=W.same s1
  obtain⟨p,hp,hlp⟩:∃p∈ps,l.name∈p.outs:=List.mem_flatMap.mp (W.fit.whole.outs.mem_iff.mpr (List.mem_map.mpr ⟨l,hl,rfl⟩))
  have hv:=eE (f:=(·.outs)) W.ono hp hlp
  refine⟨_,rfl,n,_,dx,fs,_,rfl,W1.obj,T.aR.c,T.aR.na.2.2.2.1,W1.fl.has ("givers",.ref G) (by simp),_,rfl,G,_,rfl,(by rw [<-hv];exact dW.k (k:=Sum.inr l.name) W1.givers),?_⟩
  exact k p hp hlp _ s1
 ·exact .inr h
inductive uA (K:PySem.W.Frag) (t:jw) (vs:List V) (H:Hp) (Q:VK) (E:XK):Prop where
 | mk:∀(n:Addr) (ls:List aF) (ps:List PD) (x:Str),vs=[.ref n,.str x]->gJ K t H n ls ps->(((∃l∈ls,l.name=x/\∀p∈ps,l.name∈p.ins->∀H',aO H H'->Q (.str p.name) H')∨False))->uA K t vs H Q E
theorem Ci (T:Txt w K mg t):FO P w K mg base 3 t.oA ["self", "name"] (uA K t):=by
 have sc:=T.oF.sc ["self", "name"]
 refine T.oF.F.ok sc ln (λ_ _ _ _ H vs Q E hr h=>?_)
 obtain⟨n,ls,ps,x,rfl,N,h⟩:=h
 refine⟨_,(ao (dh (zx (pv 0) T.aR T.aR.me.2.2.2.2.2.2.2.1 (eU T) T.cZ hr (aa (pv 1) aq aj)))
  (au (aQ (bM hr.u1 (aZ (pv 0) rfl) (pv 1) (λ_ _=>rfl))))),?_⟩
 obtain⟨dx,fs,R,F,Pd,G,Tk,FL,PL,W⟩:=id N
 refine⟨_,rfl,n,dx,fs,rfl,W.obj,W.fl.no _ (by decide +kernel),_,rfl,n,ls,ps,x,rfl,N,?_⟩
 rcases h with ⟨l,hl,rfl,k⟩ | h
 ·refine .inl ⟨List.mem_map.mpr ⟨l,hl,rfl⟩,λH1 s1=>?_⟩
  have W1:=W.same s1
  obtain⟨p,hp,hlp⟩:∃p∈ps,l.name∈p.ins:=List.mem_flatMap.mp (W.fit.whole.ins.mem_iff.mpr (List.mem_map.mpr ⟨l,hl,rfl⟩))
  have hv:=eE (f:=(·.ins)) W.ini hp hlp
  refine⟨_,rfl,n,_,dx,fs,_,rfl,W1.obj,T.aR.c,T.aR.na.2.2.2.2.1,W1.fl.has ("takers",.ref Tk) (by simp),_,rfl,Tk,_,rfl,(by rw [<-hv];exact dW.k (k:=Sum.inr l.name) W1.takers),?_⟩
  exact k p hp hlp _ s1
 ·exact .inr h
inductive uL (K:PySem.W.Frag) (t:jw) (vs:List V) (H:Hp) (Q:VK) (E:XK):Prop where
 | mk:∀(n:Addr) (ls:List aF) (ps:List PD) (x:Str),vs=[.ref n,.str x]->gJ K t H n ls ps->(((∃p∈ps,p.name=x/\∀H' q,aO H H'->dX K t H' q p.kind (.str p.name) (p.nums.map V.int) (p.ins.map V.str) (p.outs.map V.str)->Q (.ref q) H')∨False))->uL K t vs H Q E
theorem jy (T:Txt w K mg t):FO P w K mg base 2 t.qI ["self", "name"] (uL K t):=by
 have sc:=T.gQ.sc ["self", "name"]
 refine T.gQ.F.ok sc ln (λ_ _ _ _ H vs Q E hr h=>?_)
 obtain⟨n,ls,ps,x,rfl,N,h⟩:=h
 refine⟨_,(ao (b7 (bD gA (pv 1) (Nz (pv 0) T.aR T.aR.me.2.2.1 (dw T) T.cj hr) (by with_unfolding_all rfl))
   (au cH)
   bu)
  (au (aQ (bM hr.u1 (aZ (pv 0) rfl) (pv 1) (λ_ _=>rfl))))),?_⟩
 obtain⟨dx,fs,R,F,Pd,G,Tk,FL,PL,W⟩:=id N
 refine⟨_,rfl,_,rfl,n,dx,fs,rfl,W.obj,W.fl.no _ (by decide +kernel),n,ls,ps,rfl,N,λl hl=>?_⟩
 have s1:=az (o:=.lst (ps.map λx=>V.str x.name)) hl
 refine⟨l,_,rfl,.inl (bI.of ak),rfl,by simp [lD],_,rfl,?_⟩
 rw [DG (f:=λx:PD=>x.name)]
 rcases h with ⟨p,hp,rfl,k⟩ | h
 ·rw [decide_eq_true (List.mem_map.mpr ⟨p,hp,rfl⟩)]
  refine dq ?_
  obtain⟨q,hq,eq⟩:∃q∈PL,q.1=p:=by
   rw [<-W.pls] at hp
   obtain⟨q,hq,e⟩:=List.mem_map.mp hp
   exact⟨q,hq,e⟩
  subst eq
  have W1:=W.same s1
  have hv:=W1.partV hq
  exact⟨_,rfl,n,_,dx,fs,_,rfl,W1.obj,T.aR.c,T.aR.na.2.2.1,W1.fl.has ("parts",.ref Pd) (by simp),_,rfl,Pd,_,rfl,(by rw [<-hv];exact dW.k (k:=Sum.inr q.1.name) W1.parts),k _ q.2 s1 (W1.pats q hq)⟩
 ·exact h.elim
inductive FJ (K:PySem.W.Frag) (t:jw) (vs:List V) (H:Hp) (Q:VK) (E:XK):Prop where
 | mk:∀(n:Addr) (ls:List aF) (ps:List PD),vs=[.ref n]->gJ K t H n ls ps->(∀H',aO H H'->Q (Gq ps) H')->FJ K t vs H Q E
theorem Np (T:Txt w K mg t):FO P w K mg base 2 t.z7 ["self"] (FJ K t):=by
 have sc:=T.Ao.sc ["self", "name"]
 refine T.Ao.F.ok sc ln (λ_ _ _ _ H vs Q E hr h=>?_)
 obtain⟨n,ls,ps,rfl,N,k⟩:=h
 refine⟨_,(ao (rD (H0:=H) rfl (cX PassesOwn.never rfl (tY (aZ (pv 0) rfl)) (gN sc 1)
   (au (b7 (bD Be (Aj (CX:=Dd) (k:=1) (E:=E0) (bM hr.u1 (aZ (pv 0) rfl) (pv 1) (λ_ _=>rfl)) (hr.mono (by decide)) gB) (bL (aa bT (aa bT aq aK) aK)) (by with_unfolding_all rfl))
    (au (V3 (H0:=H) rfl (aQ (pv 1))))
    bu))))
  (au (aQ yo))),?_⟩
 obtain⟨dx,fs,R,F,Pd,G,Tk,FL,PL,W⟩:=id N
 have hz:sizeLine=16777216:=sizeLine_eq
 have h5:=W.parts
 have melt:∀{H':Hp} {o:Obj},jK Pd H H'->H' Pd=some (.frz o (.dK (cJ PL)))->aO H (upd H' Pd (.dK (cJ PL))):=λhb hg b u e=>by
  by_cases h:b=Pd
  ·subst h;rw [ak];rw [h5] at e;exact e
  ·rw [aJ h];exact hb b u h e
 refine⟨_,rfl,n,_,dx,fs,_,rfl,W.obj,T.aR.c,T.aR.na.2.2.1,W.fl.has ("parts",.ref Pd) (by simp),Pd,_,rfl,h5,λo=>?_⟩
 refine qM (λj σ H'=>jK Pd H H'/\H' Pd=some (.frz o (.dK (cJ PL)))/\(∃v1,σ=[some (.ref n),v1])/\((PL.take j).map (·.1)).find? Jj=none) ⟨λb u hn e=>by rw [aJ hn];exact e,ak,⟨none,rfl⟩,rfl⟩ (λj σ H' _ h=>h.2.1) ?_ ?_
 ·rintro j kk w σ H' hj ⟨hb,hg,⟨v1,rfl⟩,hf⟩
  unfold cJ at hj
  rw [List.getElem?_map] at hj
  obtain⟨q,hq,e⟩:=Option.map_eq_some_iff.mp hj
  cases e
  have hm:=List.mem_of_getElem? hq
  have nPd:n≠Pd:=qY W.obj h5 (by intro z;cases z)
  obtain⟨dxp,tn,ti,to,p1,p2,p3,p4⟩:=id (W.pats q hm).ex
  have nq:q.2≠Pd:=qY p1 h5 (by intro z;cases z)
  refine⟨_,rfl,n,_,dx,fs,_,rfl,hb _ _ nPd W.obj,T.aR.c,T.aR.na.2.2.1,W.fl.has ("parts",.ref Pd) (by simp),_,rfl,Pd,_,rfl,(by rw [<-W.partV hm];exact .inl ⟨_,Sum.inr q.1.name,.inr ⟨o,hg⟩,rfl,rfl⟩),?_⟩
  refine⟨q.2,cls t q.1.kind,dxp,_,gY q.1.kind,rfl,hb _ _ nq p1,sW _ _ _ _ (by decide +kernel) (by decide +kernel) (by decide +kernel) (by decide +kernel),Og T q.1.kind,_,rfl,rJ,λu nu=>?_⟩
  have nuP:Pd≠u:=aC hg nu
  have b2:jK Pd H (upd H' u (.tup [.str "choose",.str "split"])):=λb x hn e=>az nu _ _ (hb b x hn e)
  have g2:upd H' u (.tup [.str "choose",.str "split"]) Pd=some (.frz o (.dK (cJ PL))):=az nu _ _ hg
  refine⟨u,_,rfl,.inr (cP.of ak),rfl,by simp [lD],_,rfl,?_⟩
  rw [Wh]
  refine uB (λe=>?_) (λe=>?_)
  ·have e:Jj q.1=true:=by simpa using e
   refine⟨_,⟨Pd,o,_,g2,(λo' u' z=>by rw [show H Pd=_ from h5] at z;cases z),rfl⟩,_,rfl,?_⟩
   have:Gq ps=.str q.1.name:=by
    unfold Gq
    have e2:ps=((PL.take j).map (·.1)) ++ q.1:: ((PL.drop (j+1)).map (·.1)):=by
     have hj':=(List.getElem?_eq_some_iff.mp hq).1
     have e3:PL[j]=q:=by rw [List.getElem?_eq_getElem hj'] at hq;exact Option.some.inj hq
     rw [<-W.pls,<-List.map_cons,<-List.map_append,<-e3,<-List.drop_eq_getElem_cons hj',List.take_append_drop]
    rw [e2,List.find?_append,hf,List.find?_cons,e]
    rfl
   have kk:=k _ (melt b2 g2)
   rw [this] at kk
   exact kk
  ·have e:Jj q.1=false:=by simpa using e
   refine⟨b2,g2,⟨_,rfl⟩,?_⟩
   rw [List.take_succ,hq,Option.toList_some,List.map_append,List.find?_append,hf]
   simp [e]
 ·rintro σ H' ⟨hb,hg,⟨v1,rfl⟩,hf⟩
  refine⟨_,⟨Pd,o,_,hg,(λo' u' z=>by rw [show H Pd=_ from h5] at z;cases z),rfl⟩,?_⟩
  have:Gq ps=.non:=by
   unfold Gq
   rw [show(cJ PL).length=PL.length by unfold cJ;rw [lM],List.take_length,W.pls] at hf
   rw [hf]
  have kk:=k _ (melt hb hg)
  rw [this] at kk
  exact kk
inductive ug (K:PySem.W.Frag) (t:jw) (vs:List V) (H:Hp) (Q:VK) (E:XK):Prop where
 | mk:∀(n dx Ll Lp:Addr) (ls:List aF) (ps:List PD),vs=[.ref n,.ref Ll,.ref Lp]->H n=some (.ins t.dD dx [])->Hand K H Ll Lp ls ps->uD ls ps->(∀H',jK n H H'->gJ K t H' n ls ps->Q .non H')->ug K t vs H Q E
theorem Ck (T:Txt w K mg t):FO P w K mg base 6 t.oJ ["self", "lanes", "parts"] (ug K t):=by
 have sc:=T.jE.sc ["self", "lanes", "parts", "lane", "row", "part"]
 refine T.jE.F.ok sc ln (λ_ _ _ _ H vs Q E hr h=>?_)
 obtain⟨n,dx,Ll,Lp,ls,ps,rfl,hn,hH,hF,k⟩:=h
 refine⟨_,(ao (dh (jd (Dm T) T.qd hr (aa (pv 1) (aa (pv 2) aq aj) aj)))
  (ao (gU (pv 0) dY rfl)
  (ao (gU (pv 0) dY rfl)
  (ao (cX PassesOwn.never rfl (bH (pv 1)) (gN sc 3)
   (ao (dh (jd (xQ T) T.mW hr (aa (aU aY (pv 3) aB (λ_ _=>rfl)) (aa (aZ (pv 0) rfl) aq bw) aH)))
   (ao (dh (jd (Jk T) T.uO hr (aa (aU aY (pv 3) aB (λ_ _=>rfl)) (aa (aU aY (pv 3) aB (λ_ _=>rfl)) (aa (aU aY (pv 3) aB (λ_ _=>rfl)) aq aH) aH) aH)))
   (ao (d7 hr.u1 (aZ (pv 0) rfl) (aU aY (pv 3) aB (λ_ _=>rfl)) (aU aY (pv 3) aB (λ_ _=>rfl)) rfl)
   (au (d7 hr.u1 (aZ (pv 0) rfl) (aU aY (pv 3) aB (λ_ _=>rfl)) (dC wC (by rfl) T.CW yI (aa (aU aY (pv 3) aB (λ_ _=>rfl)) aq aH)) rfl))))))
  (ao (gU (pv 0) dY rfl)
  (ao (gU (pv 0) dY rfl)
  (ao (gU (pv 0) dY rfl)
  (ao (cX PassesOwn.never rfl (bH (pv 2)) (gN sc 4)
   (ao (sN sc 5 (jd (Gf T) T.sO hr (aa (pv 4) (aa (aZ (pv 0) rfl) aq bw) aj)))
   (ao (dh (jd (yH T) T.pU hr (aa (aZ (pv 5) rfl) (aa (aZ (pv 5) rfl) (aa (aZ (pv 0) rfl) (aa (aZ (pv 0) rfl) aq bw) bw) bw) bw)))
   (ao (dh (jd (yH T) T.pU hr (aa (aZ (pv 5) rfl) (aa (aZ (pv 5) rfl) (aa (aZ (pv 0) rfl) (aa (aZ (pv 0) rfl) aq bw) bw) bw) bw)))
   (au (d7 hr.u1 (aZ (pv 0) rfl) (aZ (pv 5) rfl) (pv 5) rfl))))))
  (ao (dh (jd (JH T) T.vz hr (aa (aZ (pv 0) rfl) (aa (aZ (pv 0) rfl) (aa (aZ (pv 0) rfl) aq bw) bw) bw)))
  (au (dh (jd (Fi T) T.qe hr (aa (dC (jx rfl) (by rfl) T.uY pC (aa (aZ (pv 0) rfl) aq bw)) (aa (aZ (pv 0) rfl) (aa (aZ (pv 0) rfl) aq bw) bw) bz))))))))))))),?_⟩
 have hl:sizeLine=16777216:=sizeLine_eq
 obtain⟨xs,hLl,aL⟩:=hH.ll
 obtain⟨ys,hLp,aP⟩:=hH.lp
 have lx:=aL.length
 have ly:=aP.length
 have l1:=hF.l1
 have l24:=hF.l24
 have p1:=hF.p1
 have p16:=hF.p16
 refine⟨_,rfl,_,rfl,Ll,Lp,_,_,rfl,hLl,hLp,by omega,by omega,by omega,by omega,?_⟩
 have T0:=Tr.start hn
 refine λR nR=>?_
 have T1:=T0.new (o:=.dK []) nR
 have gR:=az (o:=.dK []) nR
 generalize upd H R (.dK [])=H1 at T1 gR ⊢
 have cR:=T1.all (n,.ins t.dD dx []) (.head _)
 refine⟨_,rfl,n,_,dx,_,rfl,cR,T.aR.c,T.aR.na.1,Nat.lt_of_le_of_lt (show 0<=0 from Nat.le_refl 0) (by decide),?_⟩
 have T2:=T1.put (L1:=[]) (o':=.ins t.dD dx (aD "rooms" (.ref R) []))
 have wR:jK n H1 (upd H1 n (.ins t.dD dx (aD "rooms" (.ref R) []))):=jK.write
 generalize upd H1 n (.ins t.dD dx (aD "rooms" (.ref R) []))=H2 at T2 wR ⊢
 refine λF nF=>?_
 have T3:=T2.new (o:=.dK []) nF
 have gF:=az (o:=.dK []) nF
 generalize upd H2 F (.dK [])=H3 at T3 gF ⊢
 have cF:=T3.all (n,.ins t.dD dx (aD "rooms" (.ref R) [])) (.head _)
 refine⟨_,rfl,n,_,dx,_,rfl,cF,T.aR.c,T.aR.na.2.1,Nat.lt_of_le_of_lt (gH (Nat.zero_le 0)) (by decide),?_⟩
 have T4:=T3.put (L1:=[]) (o':=.ins t.dD dx (aD "firsts" (.ref F) (aD "rooms" (.ref R) [])))
 have wF:jK n H3 (upd H3 n (.ins t.dD dx (aD "firsts" (.ref F) (aD "rooms" (.ref R) [])))):=jK.write
 generalize upd H3 n (.ins t.dD dx (aD "firsts" (.ref F) (aD "rooms" (.ref R) [])))=H4 at T4 wF ⊢
 have kb:∀{Hk:Hp} {q:Addr} {u:HO},jK n H Hk->H q=some u->(∀C d f,u≠.ins C d f)->Hk q=some u:=λb h hu=>b _ _ (qY h hn (by intro z;exact hu _ _ _ z)) h
 refine⟨_,rfl,Ll,rfl,⟨_,T4.but.seqL hn hLl⟩,cY (K:=K) (a:=Ll) (xs:=xs) (λj σ H'=>(∃x3,σ=[some (.ref n),some (.ref Ll),some (.ref Lp),x3,none,none])/\∃FL:List (aF×Addr),FL.map (·.1)=ls.take j/\Tr H n [(n,.ins t.dD dx (aD "firsts" (.ref F) (aD "rooms" (.ref R) []))),(R,.dK (eO (ls.take j))),(F,.dK (bC FL))] H'/\∀q∈FL,cP K H' q.2 (q.1.first.map V.int)) ⟨⟨none,rfl⟩,[],rfl,T4,by simp⟩ (λj σ H' _ ⟨_,_,_,T',_⟩=>T'.but.seqL hn hLl) ?_ ?_⟩
 ·rintro j x σ H' hx ⟨⟨x3,rfl⟩,FL,eFL,T4,hS⟩
  obtain⟨l,hlj,q,f,rfl,hq,hf⟩:=aL.get hx
  have hm:=List.mem_of_getElem? hlj
  obtain⟨v1,v2,v3,v4⟩:=hF.lok l hm
  have hnm:=hF.lnm l hm
  have hj:=(List.getElem?_eq_some_iff.mp hlj).1
  have kq:∀{Hk:Hp},jK n H Hk->Hk q=some (.tup [.str l.name,.int l.room,.ref f]):=λb=>kb b hq (by intro _ _ _ z;cases z)
  have nin:=jG hF.whole.nod hlj
  have vR:bW (eO (ls.take j)) (Sum.inr l.name)=none:=iu (by rw [vJ];intro z;obtain⟨b,hb,e⟩:=List.mem_map.mp z;cases e;exact nin hb)
  have vF:bW (bC FL) (Sum.inr l.name)=none:=iu (by rw [tK,eFL];intro z;obtain⟨b,hb,e⟩:=List.mem_map.mp z;cases e;exact nin hb)
  have tk:ls.take (j+1)=ls.take j ++ [l]:=by rw [List.take_succ,hlj];rfl
  have e4:=T4.all (n,.ins t.dD dx (aD "firsts" (.ref F) (aD "rooms" (.ref R) []))) (.head _)
  refine Ov λDe hD u hu=>?_
  refine⟨_,rfl,q,_,0,_,rfl,rfl,cP.of (kq T4.but),aM (j:=0) rfl,_,rfl,n,_,dx,_,_,rfl,e4,T.aR.c,T.aR.na.1,(by (repeat first | (rw [aA,if_pos rfl];done) | rw [aA,if_neg (by decide +kernel)])),l.name,R,_,rfl,T4.all (R,.dK (eO (ls.take j))) (by simp),hnm,Hq hnm,vR,λH5 s5=>?_⟩
  have T5:=T4.same s5
  refine iR (v:=u) hu λu hu=>?_
  refine⟨_,rfl,q,_,0,_,rfl,rfl,cP.of (kq T5.but),aM (j:=0) rfl,_,rfl,q,_,1,_,rfl,rfl,cP.of (kq T5.but),aM (j:=1) rfl,_,rfl,q,_,2,_,rfl,rfl,cP.of (kq T5.but),aM (j:=2) rfl,.str l.name,l.room,f,l.first,rfl,T5.but.seqA hn hf,by omega,v4,v1,v3,v2,λH6 s6=>?_⟩
  have T6:=T5.same s6
  have e6:=T6.all (n,.ins t.dD dx (aD "firsts" (.ref F) (aD "rooms" (.ref R) []))) (.head _)
  have eR6:=T6.all (R,.dK (eO (ls.take j))) (by simp)
  refine iR (v:=u) hu λu hu=>?_
  refine⟨_,rfl,q,_,1,_,rfl,rfl,cP.of (kq T6.but),aM (j:=1) rfl,_,rfl,n,_,dx,_,_,rfl,e6,T.aR.c,T.aR.na.1,(by (repeat first | (rw [aA,if_pos rfl];done) | rw [aA,if_neg (by decide +kernel)])),_,rfl,q,_,0,_,rfl,rfl,cP.of (kq T6.but),aM (j:=0) rfl,R,_,rfl,lJ.k (k:=Sum.inr l.name) eR6 (by unfold eO;rw [lM,List.length_take];omega),?_⟩
  have e7:putK (eO (ls.take j)) (Sum.inr l.name) (.int l.room)=eO (ls.take (j+1)):=by rw [kO _ vR,tk];unfold eO;rw [List.map_append];rfl
  have T7:=T6.put (L1:=[_]) (o':=.dK (eO (ls.take (j+1))))
  rw [e7]
  have hS7:∀q∈FL,cP K (upd H6 R (.dK (eO (ls.take (j+1))))) q.2 (q.1.first.map V.int):=λq hq=>fO eR6 (s6.seqT (s5.seqT (hS q hq)))
  generalize upd H6 R (.dK (eO (ls.take (j+1))))=H7 at T7 hS7 ⊢
  subst hu
  refine⟨_,rfl,q,_,2,_,rfl,rfl,cP.of (kq T7.but),aM (j:=2) rfl,f,_,rfl,T7.but.seqA hn hf,λH8 F0 s8 t8=>?_⟩
  have T8:=T7.same s8
  have e8:=T8.all (n,.ins t.dD dx (aD "firsts" (.ref F) (aD "rooms" (.ref R) []))) (.head _)
  have eF8:=T8.all (F,.dK (bC FL)) (by simp)
  have lFL:FL.length<=24:=by have:=congrArg List.length eFL;rw [lM,List.length_take] at this;omega
  refine⟨_,rfl,n,_,dx,_,_,rfl,e8,T.aR.c,T.aR.na.2.1,(by (repeat first | (rw [aA,if_pos rfl];done) | rw [aA,if_neg (by decide +kernel)])),_,rfl,q,_,0,_,rfl,rfl,cP.of (kq T8.but),aM (j:=0) rfl,F,_,rfl,lJ.k (k:=Sum.inr l.name) eF8 (by unfold bC;rw [lM];omega),?_⟩
  have e9:putK (bC FL) (Sum.inr l.name) (.ref F0)=bC (FL ++ [(l,F0)]):=by rw [kO _ vF];unfold bC;rw [List.map_append];rfl
  have T9:=T8.put (L1:=[_,_]) (o':=.dK (bC (FL ++ [(l,F0)])))
  rw [e9]
  subst hD
  refine⟨⟨_,rfl⟩,FL ++ [(l,F0)],by rw [List.map_append,eFL,tk];rfl,T9,λq hq=>?_⟩
  rcases List.mem_append.mp hq with h | h
  ·exact fO eF8 (s8.seqT (hS7 q h))
  ·rw [List.mem_singleton] at h
   subst h
   exact fO eF8 t8
 rintro σ H9 ⟨⟨x3,rfl⟩,FL,eFL,T9,t9⟩
 rw [lx,List.take_length] at eFL T9
 clear T0 T1 T2 T3 T4
 refine λPd nPd=>?_
 have T10:=T9.new (o:=.dK []) nPd
 have gPd:=az (o:=.dK []) nPd
 generalize upd H9 Pd (.dK [])=H10 at T10 gPd ⊢
 have cPd:=T10.all (n,.ins t.dD dx (aD "firsts" (.ref F) (aD "rooms" (.ref R) []))) (.head _)
 refine⟨_,rfl,n,_,dx,_,rfl,cPd,T.aR.c,T.aR.na.2.2.1,Nat.lt_of_le_of_lt (gH (gH (Nat.zero_le 0))) (by decide),?_⟩
 have T11:=T10.put (L1:=[]) (o':=.ins t.dD dx (aD "parts" (.ref Pd) (aD "firsts" (.ref F) (aD "rooms" (.ref R) []))))
 have wPd:jK n H10 (upd H10 n (.ins t.dD dx (aD "parts" (.ref Pd) (aD "firsts" (.ref F) (aD "rooms" (.ref R) []))))):=jK.write
 generalize upd H10 n (.ins t.dD dx (aD "parts" (.ref Pd) (aD "firsts" (.ref F) (aD "rooms" (.ref R) []))))=H11 at T11 wPd ⊢
 refine λGv nGv=>?_
 have T12:=T11.new (o:=.dK []) nGv
 have gGv:=az (o:=.dK []) nGv
 generalize upd H11 Gv (.dK [])=H12 at T12 gGv ⊢
 have cGv:=T12.all (n,.ins t.dD dx (aD "parts" (.ref Pd) (aD "firsts" (.ref F) (aD "rooms" (.ref R) [])))) (.head _)
 refine⟨_,rfl,n,_,dx,_,rfl,cGv,T.aR.c,T.aR.na.2.2.2.1,Nat.lt_of_le_of_lt (gH (gH (gH (Nat.zero_le 0)))) (by decide),?_⟩
 have T13:=T12.put (L1:=[]) (o':=.ins t.dD dx (aD "givers" (.ref Gv) (aD "parts" (.ref Pd) (aD "firsts" (.ref F) (aD "rooms" (.ref R) [])))))
 have wGv:jK n H12 (upd H12 n (.ins t.dD dx (aD "givers" (.ref Gv) (aD "parts" (.ref Pd) (aD "firsts" (.ref F) (aD "rooms" (.ref R) [])))))):=jK.write
 generalize upd H12 n (.ins t.dD dx (aD "givers" (.ref Gv) (aD "parts" (.ref Pd) (aD "firsts" (.ref F) (aD "rooms" (.ref R) [])))))=H13 at T13 wGv ⊢
 refine λTk nTk=>?_
 have T14:=T13.new (o:=.dK []) nTk
 have gTk:=az (o:=.dK []) nTk
 generalize upd H13 Tk (.dK [])=H14 at T14 gTk ⊢
 have cTk:=T14.all (n,.ins t.dD dx (aD "givers" (.ref Gv) (aD "parts" (.ref Pd) (aD "firsts" (.ref F) (aD "rooms" (.ref R) []))))) (.head _)
 refine⟨_,rfl,n,_,dx,_,rfl,cTk,T.aR.c,T.aR.na.2.2.2.2.1,Nat.lt_of_le_of_lt (gH (gH (gH (gH (Nat.zero_le 0))))) (by decide),?_⟩
 have T15:=T14.put (L1:=[]) (o':=.ins t.dD dx (aD "takers" (.ref Tk) (aD "givers" (.ref Gv) (aD "parts" (.ref Pd) (aD "firsts" (.ref F) (aD "rooms" (.ref R) []))))))
 have wTk:jK n H14 (upd H14 n (.ins t.dD dx (aD "takers" (.ref Tk) (aD "givers" (.ref Gv) (aD "parts" (.ref Pd) (aD "firsts" (.ref F) (aD "rooms" (.ref R) []))))))):=jK.write
 generalize upd H14 n (.ins t.dD dx (aD "takers" (.ref Tk) (aD "givers" (.ref Gv) (aD "parts" (.ref Pd) (aD "firsts" (.ref F) (aD "rooms" (.ref R) []))))))=H15 at T15 wTk ⊢
 have T15:Tr H n [(n,.ins t.dD dx (aD "takers" (.ref Tk) (aD "givers" (.ref Gv) (aD "parts" (.ref Pd) (aD "firsts" (.ref F) (aD "rooms" (.ref R) [])))))),(R,.dK (eO ls)),(F,.dK (bC FL)),(Pd,.dK []),(Gv,.dK []),(Tk,.dK [])] H15:=T15
 have t15:∀q∈FL,cP K H15 q.2 (q.1.first.map V.int):=λq hq=>wTk.seqT cTk (gTk.seqT (wGv.seqT cGv (gGv.seqT (wPd.seqT cPd (gPd.seqT (t9 q hq))))))
 have nod:=T15.nod
 simp only [List.map_append,List.map_cons,List.map_nil,List.nil_append,List.cons_append,List.nodup_cons,List.mem_cons,List.not_mem_nil,or_false,not_or] at nod
 have nRF:R≠F:=nod.2.1.1
 have nRT:R≠Tk:=nod.2.1.2.2.2
 have nRG:R≠Gv:=nod.2.1.2.2.1
 have nGT:Gv≠Tk:=nod.2.2.2.2.1
 clear nod
 have ono:(ps.flatMap (·.outs)).Nodup:=hF.whole.outs.nodup_iff.mpr hF.whole.nod
 have ini:(ps.flatMap (·.ins)).Nodup:=hF.whole.ins.nodup_iff.mpr hF.whole.nod
 have inR:∀z∈ls.map (·.name),(bW (eO ls) (Sum.inr z)).isSome=true:=λz hz=>by
  obtain⟨l,hl,rfl⟩:=List.mem_map.mp hz
  have e:bW (eO ls) (Sum.inr l.name)=some (.int l.room):=iz (by rw [vJ];exact gm hF.whole.nod) (List.mem_map.mpr ⟨l,hl,rfl⟩)
  rw [e]
  rfl
 have lenE:∀(f:PD->List Str) (j:Nat),(ps.flatMap f).Perm (ls.map (·.name))->(cG f (ps.take j)).length<=24:=λf j pm=>by
  rw [Qt]
  have e1:((ps.take j).flatMap f).length+((ps.drop j).flatMap f).length=(ps.flatMap f).length:=by rw [<-lP,<-List.flatMap_append,List.take_append_drop]
  have e2:=pm.length_eq
  rw [lM] at e2
  omega
 refine⟨_,rfl,Lp,rfl,⟨_,T15.but.seqL hn hLp⟩,cY (K:=K) (a:=Lp) (xs:=ys) (λj σ H'=>(∃x3 x4 x5,σ=[some (.ref n),some (.ref Ll),some (.ref Lp),x3,x4,x5])/\∃PL:List (PD×Addr),PL.map (·.1)=ps.take j/\Tr H n [(n,.ins t.dD dx (aD "takers" (.ref Tk) (aD "givers" (.ref Gv) (aD "parts" (.ref Pd) (aD "firsts" (.ref F) (aD "rooms" (.ref R) [])))))),(R,.dK (eO ls)),(F,.dK (bC FL)),(Pd,.dK (cJ PL)),(Gv,.dK (cG (·.outs) (ps.take j))),(Tk,.dK (cG (·.ins) (ps.take j)))] H'/\(∀q∈FL,cP K H' q.2 (q.1.first.map V.int))/\∀q∈PL,dX K t H' q.2 q.1.kind (.str q.1.name) (q.1.nums.map V.int) (q.1.ins.map V.str) (q.1.outs.map V.str)) ⟨⟨x3,none,none,rfl⟩,[],rfl,T15,t15,by simp⟩ (λj σ H' _ ⟨_,_,_,T',_⟩=>T'.but.seqL hn hLp) ?_ ?_⟩
 ·rintro j x σ H' hx ⟨⟨x3,x4,x5,rfl⟩,PL,ePL,T15,hS,hP⟩
  obtain⟨p,hpj,r,a1,a2,a3,rfl,hr,q1,q2,q3⟩:=aP.get hx
  have hm:=List.mem_of_getElem? hpj
  have hj:=(List.getElem?_eq_some_iff.mp hpj).1
  obtain⟨o1,o2,o3,o4,o5⟩:=hF.pok p hm
  have hnm:=hF.pnm p hm
  have nin:=jG hF.pnd hpj
  have tk:ps.take (j+1)=ps.take j ++ [p]:=by rw [List.take_succ,hpj];rfl
  have vP:bW (cJ PL) (Sum.inr p.name)=none:=iu (by rw [Cd,ePL];intro z;obtain⟨b,hb,e⟩:=List.mem_map.mp z;cases e;exact nin hb)
  obtain⟨di,fi⟩:=O8 ini hpj
  obtain⟨do',fo⟩:=O8 ono hpj
  have e15:=T15.all (n,.ins t.dD dx (aD "takers" (.ref Tk) (aD "givers" (.ref Gv) (aD "parts" (.ref Pd) (aD "firsts" (.ref F) (aD "rooms" (.ref R) [])))))) (.head _)
  refine Ov λDe hD u hu=>?_
  refine⟨_,rfl,_,rfl,n,_,dx,_,_,rfl,e15,T.aR.c,T.aR.na.2.2.1,(by (repeat first | (rw [aA,if_pos rfl];done) | rw [aA,if_neg (by decide +kernel)])),p.kind,p.name,r,Pd,a1,a2,a3,_,_,_,_,rfl,kb T15.but hr (by intro _ _ _ z;cases z),by omega,T15.all (Pd,.dK (cJ PL)) (by simp),hnm,Hq hnm,vP,T15.but.seqA hn q1,T15.but.seqA hn q2,T15.but.seqA hn q3,by rw [lM];exact o2,by rw [lM];exact o3,by rw [lM];exact o4,?_,λH16 pp s16 npp Pp=>?_⟩
  ·intro v hv
   obtain⟨i,hi,rfl⟩:=List.mem_map.mp hv
   exact⟨i,rfl,(o5 i hi).1,(o5 i hi).2⟩
  have T16:=T15.same s16
  obtain⟨dxp,tn,ti,to,z1,z2,z3,z4⟩:=id Pp.ex
  have e16:=T16.all (n,.ins t.dD dx (aD "takers" (.ref Tk) (aD "givers" (.ref Gv) (aD "parts" (.ref Pd) (aD "firsts" (.ref F) (aD "rooms" (.ref R) [])))))) (.head _)
  have eTk:=T16.all (Tk,.dK (cG (·.ins) (ps.take j))) (by simp)
  have li:=lenE (·.ins) j hF.whole.ins
  have lo:=lenE (·.outs) j hF.whole.outs
  have h3I:p.ins.length<=3:=by rw [o3];exact GD _
  have h3O:p.outs.length<=2:=by rw [o4];exact X3 _
  refine iR (v:=u) hu λu hu=>?_
  refine⟨_,rfl,pp,_,dxp,_,_,rfl,z1,ir T p.kind,CG T p.kind,Aa _ _ _ _,_,rfl,pp,_,dxp,_,_,rfl,z1,ir T p.kind,Bc T p.kind,vV _ _ _ _,_,rfl,n,_,dx,_,_,rfl,e16,T.aR.c,T.aR.na.1,(by (repeat first | (rw [aA,if_pos rfl];done) | rw [aA,if_neg (by decide +kernel)])),_,rfl,n,_,dx,_,_,rfl,e16,T.aR.c,T.aR.na.2.2.2.2.1,(by (repeat first | (rw [aA,if_pos rfl];done) | rw [aA,if_neg (by decide +kernel)])),p.name,ti,R,Tk,p.ins,_,_,rfl,z3,T16.all (R,.dK (eO ls)) (by simp),nRT,eTk,di,λz hz=>⟨inR z (hF.whole.ins.mem_iff.mp (List.mem_flatMap.mpr ⟨p,hm,hz⟩)),Fw (fi z hz)⟩,by omega,?_⟩
  rw [<-Fv (·.ins) (ps.take j) p,<-tk]
  have T17:=T16.put (L1:=[_,_,_,_,_]) (o':=.dK (cG (·.ins) (ps.take (j+1))))
  have Pp17:=Pp.chill (v:=.dK (cG (·.ins) (ps.take (j+1)))) eTk
  have hS17:∀q∈FL,cP K (upd H16 Tk (.dK (cG (·.ins) (ps.take (j+1))))) q.2 (q.1.first.map V.int):=λq hq=>fO eTk (s16.seqT (hS q hq))
  have hP17:∀q∈PL,dX K t (upd H16 Tk (.dK (cG (·.ins) (ps.take (j+1))))) q.2 q.1.kind (.str q.1.name) (q.1.nums.map V.int) (q.1.ins.map V.str) (q.1.outs.map V.str):=λq hq=>((hP q hq).same s16).chill eTk
  generalize upd H16 Tk (.dK (cG (·.ins) (ps.take (j+1))))=H17 at T17 Pp17 hS17 hP17 ⊢
  clear z1 z2 z3 z4 e16
  obtain⟨dxp,tn,ti,to,z1,z2,z3,z4⟩:=id Pp17.ex
  have e17:=T17.all (n,.ins t.dD dx (aD "takers" (.ref Tk) (aD "givers" (.ref Gv) (aD "parts" (.ref Pd) (aD "firsts" (.ref F) (aD "rooms" (.ref R) [])))))) (.head _)
  have eGv:=T17.all (Gv,.dK (cG (·.outs) (ps.take j))) (by simp)
  refine iR (v:=u) hu λu hu=>?_
  refine⟨_,rfl,pp,_,dxp,_,_,rfl,z1,ir T p.kind,CG T p.kind,Aa _ _ _ _,_,rfl,pp,_,dxp,_,_,rfl,z1,ir T p.kind,JN T p.kind,Hv _ _ _ _,_,rfl,n,_,dx,_,_,rfl,e17,T.aR.c,T.aR.na.1,(by (repeat first | (rw [aA,if_pos rfl];done) | rw [aA,if_neg (by decide +kernel)])),_,rfl,n,_,dx,_,_,rfl,e17,T.aR.c,T.aR.na.2.2.2.1,(by (repeat first | (rw [aA,if_pos rfl];done) | rw [aA,if_neg (by decide +kernel)])),p.name,to,R,Gv,p.outs,_,_,rfl,z4,T17.all (R,.dK (eO ls)) (by simp),nRG,eGv,do',λz hz=>⟨inR z (hF.whole.outs.mem_iff.mp (List.mem_flatMap.mpr ⟨p,hm,hz⟩)),Fw (fo z hz)⟩,by omega,?_⟩
  rw [<-Fv (·.outs) (ps.take j) p,<-tk]
  have T18:=T17.put (L1:=[_,_,_,_]) (o':=.dK (cG (·.outs) (ps.take (j+1))))
  have Pp18:=Pp17.chill (v:=.dK (cG (·.outs) (ps.take (j+1)))) eGv
  have hS18:∀q∈FL,cP K (upd H17 Gv (.dK (cG (·.outs) (ps.take (j+1))))) q.2 (q.1.first.map V.int):=λq hq=>fO eGv (hS17 q hq)
  have hP18:∀q∈PL,dX K t (upd H17 Gv (.dK (cG (·.outs) (ps.take (j+1))))) q.2 q.1.kind (.str q.1.name) (q.1.nums.map V.int) (q.1.ins.map V.str) (q.1.outs.map V.str):=λq hq=>(hP17 q hq).chill eGv
  generalize upd H17 Gv (.dK (cG (·.outs) (ps.take (j+1))))=H18 at T18 Pp18 hS18 hP18 ⊢
  clear z1 z2 z3 z4 e17
  obtain⟨dxp,tn,ti,to,z1,z2,z3,z4⟩:=id Pp18.ex
  have e18:=T18.all (n,.ins t.dD dx (aD "takers" (.ref Tk) (aD "givers" (.ref Gv) (aD "parts" (.ref Pd) (aD "firsts" (.ref F) (aD "rooms" (.ref R) [])))))) (.head _)
  have ePd:=T18.all (Pd,.dK (cJ PL)) (by simp)
  have lPL:PL.length<=16:=by have:=congrArg List.length ePL;rw [lM,List.length_take] at this;omega
  subst hu
  refine⟨_,rfl,_,rfl,n,_,dx,_,_,rfl,e18,T.aR.c,T.aR.na.2.2.1,(by (repeat first | (rw [aA,if_pos rfl];done) | rw [aA,if_neg (by decide +kernel)])),_,rfl,pp,_,dxp,_,_,rfl,z1,ir T p.kind,CG T p.kind,Aa _ _ _ _,Pd,_,rfl,lJ.k (k:=Sum.inr p.name) ePd (by unfold cJ;rw [lM];omega),?_⟩
  have e19:putK (cJ PL) (Sum.inr p.name) (.ref pp)=cJ (PL ++ [(p,pp)]):=by rw [kO _ vP];unfold cJ;rw [List.map_append];rfl
  have T19:=T18.put (L1:=[_,_,_]) (o':=.dK (cJ (PL ++ [(p,pp)])))
  rw [e19]
  subst hD
  refine⟨⟨_,_,_,rfl⟩,PL ++ [(p,pp)],by rw [List.map_append,ePL,tk];rfl,T19,λq hq=>fO ePd (hS18 q hq),λq hq=>?_⟩
  rcases List.mem_append.mp hq with h | h
  ·exact(hP18 q h).chill ePd
  ·rw [List.mem_singleton] at h
   subst h
   exact Pp18.chill ePd
 rintro σ H18 ⟨⟨x3,x4,x5,rfl⟩,PL,ePL,T18,hS,hP⟩
 rw [ly,List.take_length] at ePL T18
 have e18:=T18.all (n,.ins t.dD dx (aD "takers" (.ref Tk) (aD "givers" (.ref Gv) (aD "parts" (.ref Pd) (aD "firsts" (.ref F) (aD "rooms" (.ref R) [])))))) (.head _)
 have eR:=T18.all (R,.dK (eO ls)) (by simp)
 have eF:=T18.all (F,.dK (bC FL)) (by simp)
 have ePd:=T18.all (Pd,.dK (cJ PL)) (by simp)
 have eGv:=T18.all (Gv,.dK (cG (·.outs) ps)) (by simp)
 have eTk:=T18.all (Tk,.dK (cG (·.ins) ps)) (by simp)
 refine⟨_,rfl,n,_,dx,_,_,rfl,e18,T.aR.c,T.aR.na.1,(by (repeat first | (rw [aA,if_pos rfl];done) | rw [aA,if_neg (by decide +kernel)])),_,rfl,n,_,dx,_,_,rfl,e18,T.aR.c,T.aR.na.2.2.2.1,(by (repeat first | (rw [aA,if_pos rfl];done) | rw [aA,if_neg (by decide +kernel)])),_,rfl,n,_,dx,_,_,rfl,e18,T.aR.c,T.aR.na.2.2.2.2.1,(by (repeat first | (rw [aA,if_pos rfl];done) | rw [aA,if_neg (by decide +kernel)])),R,Gv,Tk,_,_,_,rfl,eR,eGv,eTk,nRG,nRT,?_,?_⟩
 ·intro q hq
  obtain⟨l,hl,rfl⟩:=List.mem_map.mp hq
  have hln:l.name∈ls.map (·.name):=List.mem_map.mpr ⟨l,hl,rfl⟩
  obtain⟨pa,ha,la⟩:=List.mem_flatMap.mp (hF.whole.outs.mem_iff.mpr hln)
  obtain⟨pb,hb,lb⟩:=List.mem_flatMap.mp (hF.whole.ins.mem_iff.mpr hln)
  exact⟨by rw [eE ono ha la];rfl,by rw [eE ini hb lb];rfl⟩
 refine⟨_,rfl,n,_,dx,_,_,rfl,e18,T.aR.c,T.aR.na.2.2.1,(by (repeat first | (rw [aA,if_pos rfl];done) | rw [aA,if_neg (by decide +kernel)])),Pd,_,rfl,.inl ePd,λl nl=>?_⟩
 have s19:=az (o:=.lst ((cJ PL).map λp=>kV p.1)) nl
 have eL:(cJ PL).map (λp=>kV p.1)=ps.map λp=>V.str p.name:=by unfold cJ;rw [List.map_map,<-ePL,List.map_map];rfl
 refine⟨_,rfl,n,_,dx,_,_,rfl,(s19 _ _ e18),T.aR.c,T.aR.na.2.2.2.1,(by (repeat first | (rw [aA,if_pos rfl];done) | rw [aA,if_neg (by decide +kernel)])),_,rfl,n,_,dx,_,_,rfl,(s19 _ _ e18),T.aR.c,T.aR.na.2.2.2.2.1,(by (repeat first | (rw [aA,if_pos rfl];done) | rw [aA,if_neg (by decide +kernel)])),l,Gv,Tk,ps,rfl,bI.of (by rw [<-eL];exact ak),by omega,by omega,s19 _ _ eGv,s19 _ _ eTk,nGT,ono,ini,hF.whole.outs.trans hF.whole.ins.symm,hF.whole.hang,λH20 s20=>?_⟩
 have s:=s19.trans s20
 refine k _ (λb u hb e=>s _ _ (T18.but b u hb e)) ⟨dx,_,R,F,Pd,Gv,Tk,FL,PL,s _ _ e18,⟨?_,?_⟩,s _ _ eR,s _ _ eF,s _ _ ePd,s _ _ eGv,s _ _ eTk,eFL,ePL,λq hq=>s.seqT (hS q hq),λq hq=>(hP q hq).same s,hF,nRF⟩
 ·intro q hq
  simp only [List.mem_cons,List.not_mem_nil,or_false] at hq
  rcases hq with rfl | rfl | rfl | rfl | rfl <;> (dsimp only;(repeat first | (rw [aA,if_pos rfl];done) | rw [aA,if_neg (by decide +kernel)]))
 ·intro m hm
  have hne:∀m∈(["lane_names", "part_names", "odd", "names_of_kind", "gives", "takes", "need_lane_name", "room_of", "first_of", "giver_of", "taker_of", "part_of", "__init__"]:List Str),∀g∈(["takers", "givers", "parts", "firsts", "rooms"]:List Str),¬m=g:=by decide +kernel
  have h:=hne m hm
  rw [aA,if_neg (h _ (by simp)),aA,if_neg (h _ (by simp)),aA,if_neg (h _ (by simp)),aA,if_neg (h _ (by simp)),aA,if_neg (h _ (by simp))]
  rfl
inductive ur (K:PySem.W.Frag) (t:jw) (vs:List V) (H:Hp) (Q:VK) (E:XK):Prop where
 | mk:∀(n:Addr) (ls:List aF) (ps:List PD) (l:aF),vs=[.ref n,.str l.name]->gJ K t H n ls ps->l∈ls->(∀H' L ra,aO H H'->H L=none->fU H' L ra->ra.map (·.1)=lH ps l->Q (.ref L) H')->ur K t vs H Q E
theorem Cq (T:Txt w K mg t):FO P w K mg base 4 t.uK ["net", "lane"] (ur K t):=by
 have sc:=T.oX.sc ["net", "lane", "giver", "taker", "many"]
 refine T.oX.F.ok sc ln (λ_ _ _ _ H vs Q E hr h=>?_)
 obtain⟨n,ls,ps,l,rfl,N,hl,k⟩:=h
 refine⟨_,(ao (sN sc 2 (zx (pv 0) T.aR T.aR.me.2.2.2.2.2.2.2.2.2.2.1 (Cu T) T.oK hr (aa (pv 1) aq aj)))
  (ao (sN sc 3 (zx (pv 0) T.aR T.aR.me.2.2.2.2.2.2.2.2.2.2.2.1 (Ci T) T.oF hr (aa (pv 1) aq aj)))
  (ao (sN sc 4 (bx b8 (by rfl) T.iy eQ (aa (zx (pv 0) T.aR T.aR.me.2.2.2.2.2.2.2.2.2.1 (uf T) T.jC hr (aa (pv 1) aq aj)) aq bz)))
  (au (aQ (dm (aa (bL (aa (pv 2) (aa (pv 3) (aa (pv 4) (aa (pv 1) (aa bT aq aK) aj) aj) aj) aj)) (aa (bL (aa (pv 3) (aa (pv 2) (aa (bB yt (zx (pv 0) T.aR T.aR.me.2.2.2.2.2.2.2.2.1 (wu T) T.j0 hr (aa (pv 1) aq aj)) (pv 4)) (aa (pv 1) (aa bT aq aK) aj) bZ) aj) aj)) aq bQ) bQ))))))),?_⟩
 obtain⟨dx,fs,R,F,Pd,G,Tk,FL,PL,W⟩:=id N
 have hz:sizeLine=16777216:=sizeLine_eq
 refine⟨_,rfl,n,dx,fs,rfl,W.obj,W.fl.no _ (by decide +kernel),_,rfl,n,ls,ps,l.name,rfl,N,.inl ⟨l,hl,rfl,λp1 hp1 lp1 H1 s1=>?_⟩⟩
 have W1:=W.same s1
 refine⟨_,rfl,n,dx,fs,rfl,W1.obj,W1.fl.no _ (by decide +kernel),_,rfl,n,ls,ps,l.name,rfl,W1.s,.inl ⟨l,hl,rfl,λp2 hp2 lp2 H2 s2=>?_⟩⟩
 have W2:=W1.same s2
 refine⟨_,rfl,n,dx,fs,rfl,W2.obj,W2.fl.no _ (by decide +kernel),_,rfl,n,ls,ps,l.name,rfl,W2.s,.inl ⟨l,hl,rfl,λH3 u s3 nu eu=>?_⟩⟩
 have W3:=W2.same s3
 refine⟨.ref u,l.first.length,rfl,.inl ⟨_,bI.of eu,by simp⟩,?_⟩
 refine⟨_,rfl,_,rfl,_,rfl,_,rfl,rJ,λq1 n1=>?_⟩
 have t1:=az (o:=.tup [.str p1.name,.str p2.name,.int (l.first.length:Nat),.str l.name,.str "along"]) n1
 have e1:upd H3 q1 (.tup [.str p1.name,.str p2.name,.int (l.first.length:Nat),.str l.name,.str "along"]) q1=some (.tup [.str p1.name,.str p2.name,.int (l.first.length:Nat),.str l.name,.str "along"]):=ak
 have s4:=s1.trans (s2.trans (s3.trans t1))
 have W4:=W3.same t1
 generalize upd H3 q1 (.tup [.str p1.name,.str p2.name,.int (l.first.length:Nat),.str l.name,.str "along"])=H4 at t1 e1 s4 W4 ⊢
 refine⟨_,rfl,_,rfl,_,rfl,n,dx,fs,rfl,W4.obj,W4.fl.no _ (by decide +kernel),_,rfl,n,ls,ps,l.name,rfl,W4.s,.inl ⟨l,hl,rfl,λH5 s5=>?_⟩⟩
 refine⟨_,rfl,_,_,rfl,rfl,_,rfl,rJ,λq2 n2=>?_⟩
 have t2:=az (o:=.tup [.str p2.name,.str p1.name,.int (l.room - (l.first.length:Nat)),.str l.name,.str "against"]) n2
 have e2:upd H5 q2 (.tup [.str p2.name,.str p1.name,.int (l.room - (l.first.length:Nat)),.str l.name,.str "against"]) q2=some (.tup [.str p2.name,.str p1.name,.int (l.room - (l.first.length:Nat)),.str l.name,.str "against"]):=ak
 have s6:=s4.trans (s5.trans t2)
 have e1':=t2 _ _ (s5 _ _ e1)
 refine⟨rJ,λL nL=>?_⟩
 have nL0:=s6.free nL
 have t3:=az (o:=.lst [.ref q1,.ref q2]) nL
 have g1:=ph W.ono hp1 lp1
 have g2:=ph W.ini hp2 lp2
 refine k _ L [(⟨p1.name,p2.name,(l.first.length:Nat),l.name, "along"⟩,q1),(⟨p2.name,p1.name,l.room - (l.first.length:Nat),l.name, "against"⟩,q2)] (s6.trans t3) nL0 ⟨ak,λq hq=>?_⟩ ?_
 ·simp only [List.mem_cons,List.not_mem_nil,or_false] at hq
  rcases hq with rfl | rfl
  ·exact t3 _ _ e1'
  ·exact t3 _ _ e2
 ·unfold lH
  rw [g1,g2]
  rfl
inductive Ek (K:PySem.W.Frag) (t:jw) (vs:List V) (H:Hp) (Q:VK) (E:XK):Prop where
 | mk:∀(n:Addr) (ls:List aF) (ps:List PD),vs=[.ref n]->gJ K t H n ls ps->(((Gq ps=.non/\∀H' L ra,aO H H'->H L=none->fU H' L ra->ra.map (·.1)=bG ls ps->Q (.ref L) H')∨False))->Ek K t vs H Q E
theorem Ds (T:Txt w K mg t):FO P w K mg base 5 t.Hw ["net"] (Ek K t):=by
 have sc:=T.wQ.sc ["net", "arcs", "lane"]
 refine T.wQ.F.ok sc ln (λ_ _ _ _ H vs Q E hr h=>?_)
 obtain⟨n,ls,ps,rfl,N,h⟩:=h
 refine⟨_,(ao (b7 (fP (CT (Nz (pv 0) T.aR T.aR.me.2.2.2.1 (Np T) T.Ao hr)))
   (au cH)
   bu)
  (ao (sN sc 1 (dm aq))
  (ao (cX PassesOwn.never rfl (bH (Nz (pv 0) T.aR T.aR.me.2.1 (jB T) T.gj hr)) (gN sc 2)
   (au (dh (Rz PySem.F.plainAttrs_list PySem.F.slot_list_extend PySem.F.type_list_extend Q3 (pv 1) (aa (jd (Cq T) T.oX hr (aa (pv 0) (aa (pv 2) aq aj) aj)) aq bz)))))
  (au (aQ (bB Nv (pv 1) (gf [] ["net", "arcs", "lane"] (aX (top 17)) rfl (bH (Nz (pv 0) T.aR T.aR.me.2.2.1 (dw T) T.cj hr)) (λ_ _ _ _ _=>jl) (λ_ _ _ _ _=>(bL (aa (pv 0) (aa (pv 0) (aa aB (aa bT (aa bT aq aK) aK) aK) aj) aj)))))))))),?_⟩
 obtain⟨dx,fs,R,F,Pd,G,Tk,FL,PL,W⟩:=id N
 have hz:sizeLine=16777216:=sizeLine_eq
 have l24:=W.fit.l24
 have p16:=W.fit.p16
 refine⟨_,rfl,n,dx,fs,rfl,W.obj,W.fl.no _ (by decide +kernel),n,ls,ps,rfl,N,λH1 s1=>?_⟩
 have W1:=W.same s1
 rcases h with ⟨ho,k⟩ | h
 ·rw [ho]
  refine⟨_,rfl,dq ?_⟩
  refine⟨rJ,λA nA=>?_⟩
  have tA:=az (o:=.lst []) nA
  have eA:upd H1 A (.lst []) A=some (.lst []):=ak
  have W2:=W1.same tA
  have nA0:=s1.free nA
  generalize upd H1 A (.lst [])=H2 at tA eA W2 ⊢
  refine⟨_,rfl,n,dx,fs,rfl,W2.obj,W2.fl.no _ (by decide +kernel),n,ls,ps,rfl,W2.s,λLn nLn=>⟨Ln,rfl,⟨_,bI.of ak⟩,?_⟩⟩
  have tN:=az (o:=.lst (ls.map λx=>V.str x.name)) nLn
  have eN:upd H2 Ln (.lst (ls.map λx=>V.str x.name)) Ln=some (.lst (ls.map λx=>V.str x.name)):=ak
  have eA2:=tN _ _ eA
  have nLA:Ln≠A:=Ne.symm (aC eA nLn)
  have s3:=zG (tA.trans tN) nA
  generalize upd H2 Ln (.lst (ls.map λx=>V.str x.name))=B at tN eN eA2 s3 ⊢
  have eNB:bf [A] B Ln=some (.lst (ls.map λx=>V.str x.name)):=fB eN (by rw [List.mem_singleton];exact nLA)
  have WB:=W1.same s3
  refine cY (K:=K) (a:=Ln) (xs:=ls.map λx=>V.str x.name) (λj σ H'=>(∃v2,σ=[some (.ref n),some (.ref A),v2])/\aO (bf [A] B) (bf [A] H')/\∃ra:List AA,H' A=some (.lst (ra.map λq=>V.ref q.2))/\(∀q∈ra,bf [A] H' q.2=some (.tup (N7 q.1)))/\ra.map (·.1)=(ls.take j).flatMap (lH ps)) ⟨⟨_,rfl⟩,aO.refl _,[],eA2,by simp,rfl⟩ (λj σ H' _ h=>bI.of (bY _ _ (h.2.1 _ _ eNB))) ?_ ?_
  ·rintro j x σ H' hx ⟨⟨v2,rfl⟩,s',ra,eA',hra,era⟩
   rw [List.getElem?_map] at hx
   obtain⟨l,hlj,rfl⟩:=Option.map_eq_some_iff.mp hx
   have hj:=(List.getElem?_eq_some_iff.mp hlj).1
   have lra:ra.length<=48:=by
    have:=congrArg List.length era
    rw [lM,Al,List.length_take] at this
    omega
   refine⟨_,rfl,.inl ⟨rfl,_,bI.of eA'⟩,_,rfl,_,rfl,n,ls,ps,l,rfl,(WB.same s').same bY |>.s,List.mem_of_getElem? hlj,λH3 L3 r3 t3 n3 A3 e3=>?_⟩
   have l3:r3.length=2:=by have:=congrArg List.length e3;rw [lM] at this;exact this
   have eA3:=t3 _ _ eA'
   refine⟨A,L3,_,_,rfl,rfl,eA3,A3.lst,by rw [lM,lM];omega,⟨_,rfl⟩,?_,ra ++ r3,by rw [<-List.map_append];exact ak,λq hq=>?_,?_⟩
   ·rw [iQ (by simp)]
    exact s'.trans (yx t3 eA')
   ·rw [iQ (by simp)]
    rcases List.mem_append.mp hq with h | h
    ·exact yx t3 eA' _ _ (hra q h)
    ·exact WK eA3 (A3.at_ q h) (by intro _ z;cases z)
   ·rw [List.map_append,era,e3,List.take_succ,hlj,Option.toList_some,List.flatMap_append]
    simp
  rintro σ H3 ⟨⟨v2,rfl⟩,s',ra,eA',hra,era⟩
  rw [lM,List.take_length] at era
  have lra:ra.length<=48:=by
   have:=congrArg List.length era
   rw [lM,Al] at this
   omega
  have W3:=(WB.same s').same bY
  refine⟨_,rfl,_,rfl,n,dx,fs,rfl,W3.obj,W3.fl.no _ (by decide +kernel),n,ls,ps,rfl,W3.s,λLp nLp=>⟨Lp,rfl,⟨_,bI.of ak⟩,?_⟩⟩
  have tP:=az (o:=.lst (ps.map λx=>V.str x.name)) nLp
  have eP:upd H3 Lp (.lst (ps.map λx=>V.str x.name)) Lp=some (.lst (ps.map λx=>V.str x.name)):=ak
  generalize upd H3 Lp (.lst (ps.map λx=>V.str x.name))=H4 at tP eP ⊢
  refine dN (K:=K) (a:=Lp) (xs:=ps.map λx=>V.str x.name) (λj zs H'=>aO H4 H'/\∃rb:List AA,zs=rb.map (λq=>V.ref q.2)/\rb.length=j/\(∀q∈rb,H' q.2=some (.tup (N7 q.1)))/\rb.map (·.1)=(ps.take j).map Bj) (by rw [lM];omega) ⟨aO.refl _,[],rfl,rfl,by simp,rfl⟩ (λj zs H' ⟨_,rb,e,e2,_⟩=>by rw [e,lM];omega) (λj zs H' _ h=>h.1.seq (bI.of eP)) ?_ ?_
  ·rintro j x zs H' hx ⟨s5,rb,rfl,hlen,hrb,erb⟩
   rw [List.getElem?_map] at hx
   obtain⟨p,hpj,rfl⟩:=Option.map_eq_some_iff.mp hx
   refine yes ⟨_,rfl,_,rfl,rJ,λq nq=>?_⟩
   have tq:=az (o:=.tup [.str p.name,.str p.name,.int 1,.str "",.str "again"]) nq
   refine⟨s5.trans tq,rb ++ [(Bj p,q)],by rw [List.map_append];rfl,by rw [lP,List.length_singleton];omega,λz hz'=>?_,?_⟩
   ·rcases List.mem_append.mp hz' with h | h
    ·exact tq _ _ (hrb z h)
    ·rw [List.mem_singleton] at h;subst h;exact ak
   ·rw [List.map_append,erb,List.take_succ,hpj,Option.toList_some,List.map_append]
    rfl
  rintro zs H5 ⟨s5,rb,rfl,hlen,hrb,erb⟩ D nD
  rw [lM,List.take_length] at erb
  rw [lM] at hlen
  have tD:=az (o:=.lst (rb.map λq=>V.ref q.2)) nD
  have s35:=tP.trans (s5.trans tD)
  refine⟨A,D,_,_,rfl,rfl,s35 _ _ eA',ak,by rw [lM,lM];omega,λL nL=>?_⟩
  rw [<-List.map_append]
  have tL:=az (o:=.lst ((ra ++ rb).map λq=>V.ref q.2)) nL
  have sAll:aO H1 H3:=λb o e=>bY _ _ (s' _ _ (s3 _ _ e))
  refine k _ L (ra ++ rb) (s1.trans (sAll.trans (s35.trans tL))) ?_ ⟨ak,λq hq=>?_⟩ ?_
  ·exact(s1.trans (sAll.trans s35)).free nL
  ·rcases List.mem_append.mp hq with h | h
   ·exact tL _ _ (s35 _ _ (bY _ _ (hra q h)))
   ·exact tL _ _ (tD _ _ (hrb q h))
  ·rw [List.map_append,era,erb]
   rfl
 ·exact h.elim
inductive xP (K:PySem.W.Frag) (vs:List V) (H:Hp) (Q:VK) (E:XK):Prop where
 | mk:∀(x:Str) (d:Addr) (m:List (Str×Str)),vs=[.str x,.ref d]->H d=some (.dK (fC V.str m))->m.length<=1000->(∀H' L r a seen,aO H H'->H' L=some (.lst (r.map V.str))->Rg.lG (cB m) x seen a->(∀y∈r,y∈seen)->((∃j:Nat,seen[j]?=some a/\r=seen.drop j)∨(a∉seen/\cB m a=none/\r=[]))->Q (.ref L) H')->xP K vs H Q E
theorem Gj (T:Txt w K mg t):FO P w K mg base 1 t.zp ["start", "leads"] (xP K):=by
 have sc:=T.rW.sc ["start", "leads", "seen", "at"]
 refine T.rW.F.ok sc ln (λ_ _ _ _ H vs Q E hr h=>?_)
 obtain⟨x,d,m,rfl,hd,hlen,k⟩:=h
 refine⟨_,(ao (sN sc 2 (dm aq))
  (ao (sN sc 3 (pv 0))
  (ao (vC PassesOwn.never (PW.pt (Nq (fP (uM hr.u1 (pv 3) (pv 1))) (Jt (bD gA (pv 3) (pv 2) (by with_unfolding_all rfl)))))
   (ao (dh (Ut (pv 2) (aa (pv 3) aq aj)))
   (au (sN sc 3 (bM hr.u1 (pv 1) (pv 3) (λ_ _=>rfl))))))
  (au (aQ (n6 (bD Be (pv 3) (pv 2) (by with_unfolding_all rfl)) (zz Cy (pv 2) (zK (Rz PySem.F.plainAttrs_list PySem.F.slot_list_index PySem.F.type_list_index Q4 (pv 2) (aa (pv 3) aq aj))) J2) (dm aq))))))),?_⟩
 have hz:sizeLine=16777216:=sizeLine_eq
 refine⟨rJ,λS nS=>⟨_,rfl,?_⟩⟩
 refine vy (λσ H'=>∃seen a,σ=[some (.str x),some (.ref d),some (.ref S),some (.str a)]/\H'=upd H S (.lst (seen.map V.str))/\Rg.lG (cB m) x seen a) (λσ H'=>m.length+1 - K4 H' S) ⟨[],x,rfl,rfl,.start _ _⟩ ?_ ?_
 ·rintro σ H' ⟨seen,a,rfl,rfl,g⟩
  have ed:upd H S (.lst (seen.map V.str)) d=some (.dK (fC V.str m)):=by rw [aJ (aC hd nS)];exact hd
  have eS:upd H S (.lst (seen.map V.str)) S=some (.lst (seen.map V.str)):=ak
  have sS:aO H (upd H S (.lst (seen.map V.str))):=az nS
  have sl:seen.length<=m.length:=by
   have:=Rg.oY g.nd (m:=m.map (·.1)) λy hy=>by
    obtain⟨z,ez⟩:=g.mem y hy
    exact jA.mp (by rw [ez];rfl)
   rwa [lM] at this
  refine⟨_,rfl,_,rfl,d,_,rfl,jg ed a,?_⟩
  cases e:cB m a with
  | none=>
   have hm:a∉seen:=λz=>by
    obtain⟨b,eb⟩:=g.mem a z
    rw [e] at eb
    cases eb
   refine⟨_,rfl,dq (dq ?_)⟩
   refine⟨_,rfl,_,rfl,S,_,rfl,.inl (bI.of eS),rfl,nj _,_,rfl,?_⟩
   rw [wB,decide_eq_false hm]
   refine dq ⟨rJ,λL nL=>?_⟩
   exact k _ L [] a seen (sS.trans (az nL)) ak g (by simp) (.inr ⟨hm,e,rfl⟩)
  | some b=>
   refine⟨_,rfl,iT ?_⟩
   refine⟨_,rfl,_,rfl,S,_,rfl,.inl (bI.of eS),rfl,nj _,_,rfl,?_⟩
   rw [wB]
   by_cases hm:a∈seen
   ·rw [decide_eq_true hm]
    refine dq ?_
    refine⟨_,rfl,_,rfl,S,_,rfl,.inl (bI.of eS),rfl,nj _,_,rfl,?_⟩
    rw [wB,decide_eq_true hm]
    refine iT ?_
    obtain⟨j,hj,ej⟩:=List.mem_iff_getElem.mp hm
    have hja:seen[j]?=some a:=by rw [List.getElem?_eq_getElem hj,ej]
    refine⟨_,rfl,_,rfl,.inl ⟨rfl,_,bI.of eS⟩,_,rfl,S,seen,a,j,rfl,rfl,eS,hja,λi y hi ey z=>?_,_,rfl,S,_,rfl,bI.of eS,λL nL=>?_⟩
    ·subst z
     have h1:=(List.getElem?_eq_some_iff.mp ey)
     have:=(List.getElem_inj g.nd).mp (h1.2.trans ej.symm)
     omega
    ·rw [Hr,<-List.map_drop]
     exact k _ L (seen.drop j) a seen (sS.trans (az nL)) ak g (λy hy=>List.mem_of_mem_drop hy) (.inl ⟨j,hja,rfl⟩)
   ·rw [decide_eq_false hm]
    refine iT ?_
    refine⟨_,rfl,.inl ⟨rfl,_,bI.of eS⟩,_,rfl,S,_,_,rfl,rfl,eS,by rw [lM];omega,?_⟩
    rw [kI]
    have ed2:upd H S (.lst (seen.map V.str ++ [.str a])) d=some (.dK (fC V.str m)):=by rw [aJ (aC hd nS)];exact hd
    have g2:=jg ed2 a
    rw [e] at g2
    refine⟨_,rfl,_,rfl,d,_,rfl,g2,?_⟩
    have G:=g.step e hm
    have es:seen.map V.str ++ [V.str a]=(seen ++ [a]).map V.str:=by rw [List.map_append];rfl
    rw [es]
    refine⟨⟨seen ++ [a],b,rfl,rfl,G⟩,?_⟩
    show m.length+1 - K4 _ S <m.length+1 - K4 _ S
    rw [Ku (ak (H:=H) (a:=S) (o:=.lst ((seen ++ [a]).map V.str))),Ku eS,lM,lM,lP,List.length_singleton]
    omega
 ·intro σ H' Q' Q'' hm hq
  obtain⟨v,e,u,e2,d',o',e3,g,b,e4,hq⟩:=hq
  refine⟨v,e,u,e2,d',o',e3,g,b,e4,?_⟩
  split at hq
  ·rename_i hb
   rw [if_pos hb]
   obtain⟨v,e,u,e2,p',xs,e3,h1,h2,h3,b',e5,hq⟩:=hq
   exact⟨v,e,u,e2,p',xs,e3,h1,h2,h3,b',e5,hm _ _ hq⟩
  ·rename_i hb
   rw [if_neg hb]
   exact hm _ _ hq
noncomputable def aG (q:AA):V:=.ref q.2
noncomputable def fI (ik:List (Str×AA)) (x:Str):Option Str:=(cB ik x).map λq=>q.1.fr
noncomputable def pF (ik:List (Str×AA)):List (Str×Str):=ik.map λq=>(q.1,q.2.1.fr)
theorem VB (ik:List (Str×AA)):cB (pF ik)=fI ik:=by
 funext x
 unfold fI
 induction ik with
 | nil=>rfl
 | cons q r ih=>
  show cB ((q.1,q.2.1.fr):: pF r) x=_
  rw [fM,fM]
  by_cases h:q.1=x
  ·rw [if_pos h,if_pos h];rfl
  ·rw [if_neg h,if_neg h];exact ih
theorem QJ (ik:List (Str×AA)):(pF ik).map (·.1)=ik.map (·.1):=by unfold pF;rw [List.map_map];rfl
inductive zm (K:PySem.W.Frag) (vs:List V) (H:Hp) (Q:VK) (E:XK):Prop where
 | mk:∀(x:Str) (d:Addr) (ik:List (Str×AA)),vs=[.str x,.ref d]->H d=some (.dK (fC aG ik))->(ik.map (·.1)).Nodup->ik.length<=100->((∀q∈ik,H q.2.2=some (.tup (N7 q.2.1))))->(∀H' L r a seen,aO H H'->H L=none->fU H' L (r.reverse.filterMap (cB ik))->Rg.lG (fI ik) x seen a->(∀y∈r,∃q,cB ik y=some q)->((∃j:Nat,seen[j]?=some a/\r=seen.drop j)∨(a∉seen/\fI ik a=none/\r=[]))->Q (.ref L) H')->zm K vs H Q E
theorem zN (T:Txt w K mg t):FO P w K mg base 2 t.Bo ["start", "into"] (zm K):=by
 have sc:=T.pI.sc ["start", "into", "leads", "name"]
 refine T.pI.F.ok sc ln (λ_ _ _ _ H vs Q E hr h=>?_)
 obtain⟨x,d,ik,rfl,hd,nd,hlen,hat,k⟩:=h
 refine⟨_,(ao (sN sc 2 dY)
  (ao (rD (H0:=H) rfl (cX PassesOwn.never rfl (tY (pv 1)) (gN sc 3)
   (au (d7 hr.u1 (pv 2) (pv 3) (aU aY (bM hr.u1 (pv 1) (pv 3) (λ_ _=>rfl)) aB (λ_ _=>rfl)) rfl))))
  (au (aQ (gf [1] ["start", "into", "leads", "name"] (aX (top 21)) rfl (Ye rfl T.Nm (aa (jd (Gj T) T.rW hr (aa (pv 0) (aa (pv 2) aq aj) aj)) aq bz)) (λ_ _ _ _ _=>jl) (λ_ _ _ _ _=>(bM hr.u1 (pv 1) (pv 0) (λ_ _=>rfl)))))))),?_⟩
 have hz:sizeLine=16777216:=sizeLine_eq
 refine λD nD=>?_
 have tD:=az (o:=.dK []) nD
 have eD:upd H D (.dK []) D=some (.dK (fC V.str (pF (ik.take 0)))):=ak
 generalize upd H D (.dK [])=H0 at tD eD ⊢
 have hd0:=tD _ _ hd
 have nDd:D≠d:=Ne.symm (aC hd nD)
 refine⟨_,rfl,d,_,rfl,hd0,λo=>qM (λj σ H'=>(∃v3,σ=[some (.str x),some (.ref d),some (.ref D),v3])/\jK d H H'/\H' d=some (.frz o (.dK (fC aG ik)))/\H' D=some (.dK (fC V.str (pF (ik.take j))))) ⟨⟨_,rfl⟩,λb u hn e=>by rw [aJ hn];exact tD _ _ e,ak,by rw [aJ nDd];exact eD⟩ (λj σ H' _ h=>h.2.2.1) ?_ ?_⟩
 ·rintro j kk v σ H' hj ⟨⟨v3,rfl⟩,hb,hg,eD'⟩
  obtain⟨q,hq,rfl,rfl⟩:=YS hj
  have hqm:=List.mem_of_getElem? hq
  have g1:=Ue hg q.1
  rw [Ui nd hqm] at g1
  have nin:q.1∉(pF (ik.take j)).map (·.1):=by rw [QJ];exact jG nd hq
  have ne:q.2.2≠d:=qY (hat q hqm) hd (by intro z;cases z)
  refine⟨_,rfl,_,rfl,d,_,rfl,g1,q.2.2,_,0,_,rfl,rfl,cP.of (hb _ _ ne (hat q hqm)),aM (j:=0) rfl,_,rfl,_,rfl,D,_,rfl,lJ.k (k:=Sum.inr q.1) eD' (by rw [pX];unfold pF;rw [lM,List.length_take];omega),⟨_,rfl⟩,λb u hn e=>?_,?_,?_⟩
  ·rw [aJ (aC e nD)];exact hb b u hn e
  ·rw [aJ (Ne.symm nDd)];exact hg
  ·rw [ak]
   have:putK (fC V.str (pF (ik.take j))) (Sum.inr q.1) (.str q.2.1.fr)=fC V.str (eX (pF (ik.take j)) q.1 q.2.1.fr):=rK _ _ _ _
   rw [this,qN _ nin,List.take_succ,hq,Option.toList_some]
   unfold pF
   rw [List.map_append]
   rfl
 rintro σ H' ⟨⟨v3,rfl⟩,hb,hg,eD'⟩
 rw [pX,List.take_length] at eD'
 refine⟨_,⟨d,o,_,hg,(λo' u' z=>by rw [show H d=_ from hd] at z;cases z),rfl⟩,?_⟩
 have s1:aO H (upd H' d (.dK (fC aG ik))):=λb u e=>by
  by_cases h:b=d
  ·subst h;rw [ak];rw [hd] at e;exact e
  ·rw [aJ h];exact hb b u h e
 have eD1:upd H' d (.dK (fC aG ik)) D=some (.dK (fC V.str (pF ik))):=by rw [aJ nDd];exact eD'
 generalize upd H' d (.dK (fC aG ik))=H1 at s1 eD1 ⊢
 refine⟨_,rfl,_,rfl,x,D,pF ik,rfl,eD1,by unfold pF;rw [lM];omega,λH2 L r a seen s2 eL g hr hc=>⟨L,r.map V.str,rfl,bI.of eL,?_⟩⟩
 rw [VB] at g hc
 have s12:=s1.trans s2
 have hd2:=s12 _ _ hd
 have get:∀y∈r,∃q,cB ik y=some q:=λy hy=>by
  obtain⟨z,ez⟩:=g.mem y (hr y hy)
  obtain⟨q,hq,_⟩:=Option.map_eq_some_iff.mp ez
  exact⟨q,hq⟩
 have lr:r.length<=100:=by
  have h1:=Rg.oY g.nd (m:=ik.map (·.1)) λy hy=>by
   obtain⟨z,ez⟩:=g.mem y hy
   obtain⟨q,hq,_⟩:=Option.map_eq_some_iff.mp ez
   exact jA.mp (by rw [hq];rfl)
  rw [lM] at h1
  rcases hc with ⟨j,_,rfl⟩ | ⟨_,_,rfl⟩
  ·rw [List.length_drop]
   omega
  ·exact Nat.zero_le _
 refine UL (K:=K) (a:=L) (xs:=r.map V.str) (λi ys H'=>H'=H2/\ys=((r.reverse.take i).filterMap (cB ik)).map (λq=>V.ref q.2)) (by rw [lM];omega) ⟨rfl,rfl⟩ (λi ys H' ⟨_,e⟩=>by rw [e,lM];exact Nat.le_trans (List.length_filterMap_le _ _) (by rw [List.length_take];omega)) (λi ys H' _ ⟨e,_⟩=>by rw [e];exact bI.of eL) ?_ ?_
 ·rintro i y ys H' hy ⟨rfl,rfl⟩
  rw [<-List.map_reverse,List.getElem?_map] at hy
  obtain⟨z,hz',rfl⟩:=Option.map_eq_some_iff.mp hy
  obtain⟨q,hq⟩:=get z (List.mem_reverse.mp (List.mem_of_getElem? hz'))
  have g2:=jg hd2 z
  rw [hq] at g2
  refine yes ⟨_,rfl,_,rfl,d,_,rfl,g2,rfl,?_⟩
  rw [List.take_succ,hz',Option.toList_some,List.filterMap_append,List.map_append]
  simp [hq,aG]
 rintro ys H9 ⟨rfl,rfl⟩ D2 nD2
 have t3:=az (o:=.lst (((r.reverse.take (r.map V.str).length).filterMap (cB ik)).map (λq=>V.ref q.2))) nD2
 rw [show r.reverse.take (r.map V.str).length=r.reverse from List.take_of_length_le (by rw [lM,List.length_reverse];exact Nat.le_refl _)] at t3 ⊢
 refine k _ D2 r a seen (s12.trans t3) (s12.free nD2) ⟨ak,λq hq=>?_⟩ g get hc
 obtain⟨y,_,e⟩:=List.mem_filterMap.mp hq
 exact t3 _ _ (s12 _ _ (hat _ (o9 e)))
structure jz (ra:List AA) (ik:List (Str×AA)):Prop where
 nd:(ik.map (·.1)).Nodup
 ok:∀e∈ik,e.2∈ra/\e.2.1.to=e.1
theorem jz.put {ra:List AA} {ik:List (Str×AA)} (h:jz ra ik) {q:AA} (hq:q∈ra):jz ra (eX ik q.1.to q):=⟨Ol h.nd,λe he=>by
 rcases Fp he with h1 | h1
 ·exact h.ok e h1
 ·subst h1;exact⟨hq,rfl⟩⟩
theorem jz.len {ra:List AA} {ik:List (Str×AA)} (h:jz ra ik):ik.length<=ra.length:=by
 have:=Rg.oY h.nd (m:=ra.map λq=>q.1.to) λx hx=>by
  obtain⟨e,he,rfl⟩:=List.mem_map.mp hx
  obtain⟨h1,h2⟩:=h.ok e he
  exact List.mem_map.mpr ⟨e.2,h1,h2⟩
 rwa [lM,lM] at this
noncomputable def w6 {β γ:Type} (h:β->γ) (m:List (Str×β)):List (Str×γ):=m.map λe=>(e.1,h e.2)
theorem zq {β γ:Type} (h:β->γ) (x:Str):∀m:List (Str×β),cB (w6 h m) x=(cB m x).map h
 | []=>rfl
 | q:: r=>by
  show cB ((q.1,h q.2):: w6 h r) x=_
  rw [fM,fM,zq h x r]
  split <;> rfl
theorem Ti {β γ:Type} (h:β->γ) (m:List (Str×β)) (x:Str) (b:β):w6 h (eX m x b)=eX (w6 h m) x (h b):=by
 unfold eX
 rw [wV,wV,zq,Option.isSome_map]
 split
 ·unfold w6
  rw [List.map_map,List.map_map]
  refine List.map_congr_left λq _=>?_
  dsimp only [Function.comp]
  split <;> rfl
 ·unfold w6
  rw [List.map_append]
  rfl
noncomputable def fA (ia:List (Str×iM)) (x:Str):Option Str:=(cB ia x).map (·.fr)
theorem Wg (ik:List (Str×AA)):fI ik=fA (w6 (·.1) ik):=by
 funext x
 unfold fI fA
 rw [zq,Option.map_map]
 rfl
section
open Rg
variable {α:Type} [DecidableEq α] {f:α->Option α}
theorem Pa:∀(l m:List α) (x:α),Way f l->Way f m->l.head?=some x->m.head?=some x->l.length<=m.length->∃t,m=l ++ t
 | [],_,_,_,_,e,_,_=>by cases e
 | [a],m,x,_,_,e,e2,_=>by
  cases e
  cases m with
  | nil=>cases e2
  | cons b t=>cases e2;exact⟨t,rfl⟩
 | a:: b:: r,m,x,w,w2,e,e2,h=>by
  cases e
  cases m with
  | nil=>cases e2
  | cons c t=>
   cases e2
   cases t with
   | nil=>simp at h
   | cons d t=>
    have:some d=some b:=w2.1.symm.trans w.1
    cases this
    obtain⟨u,hu⟩:=Pa (b:: r) (b:: t) b w.2 w2.2 rfl rfl (by simpa using h)
    exact⟨u,by rw [hu];rfl⟩
theorem lG.le {x a a':α} {seen seen':List α} (g:lG f x seen a) (g':lG f x seen' a') (s:a∈seen) (h:seen.length<=seen'.length):seen=seen'/\a=a':=by
 obtain⟨t,e⟩:=Pa _ _ x g.way g'.way g.hd g'.hd (by rw [lP,lP];simpa using h)
 rcases Nat.eq_or_lt_of_le h with hl | hl
 ·have ht:t=[]:=List.length_eq_zero_iff.mp (by
   have:=congrArg List.length e
   rw [lP,lP,lP] at this
   simp at this
   omega)
  subst ht
  rw [List.append_nil] at e
  obtain⟨h1,h2⟩:=List.append_inj' e.symm rfl
  exact⟨h1,by simpa using h2⟩
 ·have nd:=g'.nd
  have:∃u,seen'=seen ++ [a] ++ u:=by
   have ht:t≠[]:=λz=>by
    subst z
    have:=congrArg List.length e
    rw [lP,lP,lP] at this
    simp at this
    omega
   refine⟨t.dropLast,?_⟩
   have h3:=congrArg List.dropLast e
   rw [List.dropLast_concat,List.dropLast_append_of_ne_nil ht] at h3
   exact h3
  obtain⟨u,hu⟩:=this
  rw [hu,List.append_assoc,List.nodup_append] at nd
  exact absurd rfl (nd.2.2 a s a (by simp))
theorem lG.one {x a a':α} {seen seen':List α} (g:lG f x seen a) (g':lG f x seen' a') (s:a∈seen) (s':a'∈seen'):seen=seen'/\a=a':=by
 rcases Nat.le_total seen.length seen'.length with h | h
 ·exact lG.le g g' s h
 ·obtain⟨h1,h2⟩:=lG.le g' g s' h
  exact⟨h1.symm,h2.symm⟩
theorem Tz:∀{l:List α} {i:Nat} {a b:α},Way f l->l[i]?=some a->l[i+1]?=some b->f a=some b
 | [],_,_,_,_,h,_=>by cases h
 | [_],0,_,_,_,_,h=>by cases h
 | [_],i+1,_,_,_,h,_=>by cases h
 | a:: b:: r,0,_,_,w,h,h2=>by
  cases h
  cases h2
  exact w.1
 | a:: b:: r,i+1,_,_,w,h,h2=>Tz (l:=b:: r) w.2 h h2
end
theorem Xp {β:Type} (g:Str->Option β):∀(l:List Str) (i:Nat),(∀y∈l,∃q,g y=some q)->(l.filterMap g)[i]?=(l[i]?).bind g
 | [],_,_=>rfl
 | y:: r,i,h=>by
  obtain⟨q,hq⟩:=h y List.mem_cons_self
  rw [List.filterMap_cons_some hq]
  cases i with
  | zero=>simp [hq]
  | succ i=>simpa using Xp g r i λz hz=>h z (List.mem_cons_of_mem _ hz)
inductive wz (ia:List (Str×iM)) (x:Str) (cs:List iM):Prop where
 | mk:∀(r:List Str) (a:Str) (seen:List Str) (j:Nat),Rg.lG (fA ia) x seen a->seen[j]?=some a->r=seen.drop j->cs=r.reverse.filterMap (cB ia)->wz ia x cs
theorem wz.one {ia:List (Str×iM)} {x:Str} {cs cs':List iM} (h:wz ia x cs) (h':wz ia x cs'):cs=cs':=by
 obtain⟨r,a,seen,j,g,ej,rfl,rfl⟩:=h
 obtain⟨r',a',seen',j',g',ej',rfl,rfl⟩:=h'
 obtain⟨rfl,rfl⟩:=lG.one g g' (List.mem_of_getElem? ej) (List.mem_of_getElem? ej')
 obtain⟨h1,e1⟩:=List.getElem?_eq_some_iff.mp ej
 obtain⟨h2,e2⟩:=List.getElem?_eq_some_iff.mp ej'
 have:=(List.getElem_inj g.nd).mp (e1.trans e2.symm)
 rw [this]
theorem wz.ok {ia:List (Str×iM)} {x:Str} {cs:List iM} (h:wz ia x cs) (hto:∀y a,cB ia y=some a->a.to=y):cs≠[]/\(∀c∈cs,∃y,cB ia y=some c)/\∀i c,cs[i]?=some c->∃c',cs[if i=0 then cs.length - 1 else i - 1]?=some c'/\c.fr=c'.to:=by
 obtain⟨r,a,seen,j,g,ej,hr,rfl⟩:=h
 obtain⟨R,ne⟩:=g.round ej
 rw [<-hr] at R ne
 have get:∀y∈r,∃q,cB ia y=some q:=λy hy=>by
  obtain⟨z,ez⟩:=g.mem y (by rw [hr] at hy;exact List.mem_of_mem_drop hy)
  obtain⟨q,hq,_⟩:=Option.map_eq_some_iff.mp ez
  exact⟨q,hq⟩
 have getR:∀y∈r.reverse,∃q,cB ia y=some q:=λy hy=>get y (List.mem_reverse.mp hy)
 have at_:=λi=>Xp (cB ia) r.reverse i getR
 have len:(r.reverse.filterMap (cB ia)).length=r.length:=by
  rw [<-List.length_reverse (as:=r)]
  generalize r.reverse=l at getR
  clear at_
  induction l with
  | nil=>rfl
  | cons y t ih=>
   obtain⟨q,hq⟩:=getR y List.mem_cons_self
   rw [List.filterMap_cons_some hq,List.length_cons,List.length_cons,ih λz hz=>getR z (List.mem_cons_of_mem _ hz)]
 have pos:0 <r.length:=List.length_pos_iff.mpr ne
 refine⟨λz=>by rw [z] at len;simp at len;omega,λc hc=>?_,λi c hc=>?_⟩
 ·obtain⟨y,_,e⟩:=List.mem_filterMap.mp hc
  exact⟨y,e⟩
 ·have hi:i <r.length:=by have:=(List.getElem?_eq_some_iff.mp hc).1;omega
  rw [at_] at hc
  obtain⟨y,hy,e⟩:=Option.bind_eq_some_iff.mp hc
  rw [List.getElem?_reverse hi] at hy
  have step:∃z,r[r.length - 1 - (if i=0 then r.length - 1 else i - 1)]?=some z/\fA ia y=some z:=by
   by_cases h0:i=0
   ·subst h0
    rw [if_pos rfl]
    obtain⟨z,hz⟩:∃z,r[0]?=some z:=⟨_,List.getElem?_eq_getElem pos⟩
    refine⟨z,by rw [Nat.sub_self];exact hz,R.shut y z ?_ ?_⟩
    ·rw [List.getLast?_eq_getElem?,<-hy]
     congr 1
    ·rw [<-hz,List.head?_eq_getElem?]
   ·rw [if_neg h0]
    obtain⟨z,hz⟩:∃z,r[r.length - 1 - (i - 1)]?=some z:=⟨_,List.getElem?_eq_getElem (by omega)⟩
    refine⟨z,hz,Tz R.way hy ?_⟩
    rw [<-hz]
    congr 1
    omega
  obtain⟨z,hz,ef⟩:=step
  have hz':r.reverse[if i=0 then r.length - 1 else i - 1]?=some z:=by
   rw [List.getElem?_reverse (by split <;> omega)]
   exact hz
  obtain⟨q,hq⟩:=get z (List.mem_of_getElem? hz)
  refine⟨q,by rw [len,at_,hz'];exact hq,?_⟩
  unfold fA at ef
  rw [e] at ef
  rw [hto z q hq]
  exact Option.some.inj ef
noncomputable def cW (p q:Int) (a:AA):Int:=p - q * a.1.tk
noncomputable def tF (tm:List (Str×Int)) (x:Str):Int:=(cB tm x).getD 0
noncomputable def wI (p q:Int) (ik:List (Str×AA)) (x:Str):Int:=match cB ik x with
 | some a=>cW p q a
 | none=>0
theorem Vm (tm:List (Str×Int)) (x:Str) (v:Int):tF (eX tm x v)=λy=>if y=x then v else tF tm y:=by
 funext y
 unfold tF
 rw [pL]
 split <;> rfl
theorem Yn (ik:List (Str×AA)) (x:Str) (a:AA):fI (eX ik x a)=λy=>if y=x then some a.1.fr else fI ik y:=by
 funext y
 unfold fI
 rw [pL]
 split <;> rfl
theorem Ys (p q:Int) (ik:List (Str×AA)) (x:Str) (a:AA):wI p q (eX ik x a)=λy=>if y=x then cW p q a else wI p q ik y:=by
 funext y
 unfold wI
 rw [pL]
 by_cases h:y=x
 ·rw [if_pos h,if_pos h]
 ·rw [if_neg h,if_neg h]
structure Ub (N:List Str) (ra:List AA):Prop where
 fr:∀a∈ra,a.1.fr∈N
 to:∀a∈ra,a.1.to∈N
structure Il (N:List Str) (ra:List AA):Prop extends Ub N ra where
 tk0:∀a∈ra,0<=a.1.tk
 tk1:∀a∈ra,a.1.tk<=1000000
noncomputable abbrev Yw (p q:Int) (ra:List AA) (N:List Str) (k j:Nat) (tm:List (Str×Int)) (ik:List (Str×AA)) (R:Str->Nat):Prop:=Rg.Rq (λa:AA=>a.1.fr) (λa:AA=>a.1.to) (cW p q) ra N k j (tF tm) (fI ik) (wI p q ik) R
noncomputable abbrev Zw:=List (Str×Int)×List (Str×iM)×List Str
noncomputable def gS (p q:Int) (s:Zw) (a:iM):Zw:=if tF s.1 a.to <tF s.1 a.fr+(p - q * a.tk) then(eX s.1 a.to (tF s.1 a.fr+(p - q * a.tk)),eX s.2.1 a.to a,s.2.2 ++ [a.to]) else s
noncomputable def gF (p q:Int) (arcs:List iM) (s:Zw):Zw:=arcs.foldl (gS p q) s
theorem Oh {p q:Int} {ra:List AA} {j:Nat} {a:AA} {s:Zw} (h:ra[j]?=some a):gF p q ((ra.take (j+1)).map (·.1)) s=gS p q (gF p q ((ra.take j).map (·.1)) s) a.1:=by
 unfold gF
 rw [List.take_succ,h,Option.toList_some,List.map_append,List.foldl_append]
 rfl
inductive xF (K:PySem.W.Frag) (vs:List V) (H:Hp) (Q:VK) (E:XK):Prop where
 | mk:∀(Dt Di L W:Addr) (p q:Int) (N:List Str) (ra:List AA) (k:Nat) (tm:List (Str×Int)) (ik:List (Str×AA)) (R:Str->Nat),vs=[.ref Dt,.ref Di,.ref L,.ref W]->H Dt=some (.dK (fC V.int tm))->H Di=some (.dK (fC aG ik))->Dt≠Di->fU H L ra->H W=some (.tup [.int p,.int q])->0<=q->q<=1000000->ra.length<=100->N.length<=16->Ub N ra->tm.map (·.1)=N->jz ra ik->1<=k->Yw p q ra N k 0 tm ik R->(∀H' G gs tm' ik' R',aO (bf [Dt,Di] H) (bf [Dt,Di] H')->H' Dt=some (.dK (fC V.int tm'))->H' Di=some (.dK (fC aG ik'))->H' G=some (.lst (gs.map V.str))->H G=none->tm'.map (·.1)=N->jz ra ik'->Yw p q ra N k ra.length tm' ik' R'->(gs=[]->∀a∈ra,tF tm' a.1.fr+cW p q a<=tF tm' a.1.to)->(∀g∈gs,R' g=k/\g∈N)->(∀x,tF tm x<=tF tm' x)->(tm',w6 (·.1) ik',gs)=gF p q (ra.map (·.1)) (tm,w6 (·.1) ik,[])->Q (.ref G) H')->xF K vs H Q E
theorem Gz (T:Txt w K mg t):FO P w K mg base 1 t.yM ["times", "into", "arcs", "wish"] (xF K):=by
 have sc:=T.tO.sc ["times", "into", "arcs", "wish", "grown", "arc", "least"]
 refine T.tO.F.ok sc ln (λ_ _ _ _ H vs Q E hr h=>?_)
 obtain⟨Dt,Di,L,W,p,q,N,ra,k,tm,ik,R,rfl,eDt,eDi,nDD,A,eW,q0,q1,hra,hN,AI,hk,IO,k1,rd,kk⟩:=h
 refine⟨_,(ao (sN sc 4 (dm aq))
  (ao (cX PassesOwn.never rfl (bH (pv 2)) (gN sc 5)
   (ao (sN sc 6 (bB yt (bB fu (bM hr.u1 (pv 0) (aU aY (pv 5) aB (λ_ _=>rfl)) (λ_ _=>rfl)) (aU aY (pv 3) aB (λ_ _=>rfl))) (bB gW (aU aY (pv 3) aB (λ_ _=>rfl)) (aU aY (pv 5) aB (λ_ _=>rfl)))))
   (au (wH (b7 (bD G7 (bM hr.u1 (pv 0) (aU aY (pv 5) aB (λ_ _=>rfl)) (λ_ _=>rfl)) (pv 6) (cz _))
    (ao (d7 hr.u1 (pv 0) (aU aY (pv 5) aB (λ_ _=>rfl)) (pv 6) rfl)
    (ao (d7 hr.u1 (pv 1) (aU aY (pv 5) aB (λ_ _=>rfl)) (pv 5) rfl)
    (au (dh (Ut (pv 4) (aa (aU aY (pv 5) aB (λ_ _=>rfl)) aq aH))))))
    bu)))))
  (au (aQ (pv 4))))),?_⟩
 have hz:sizeLine=16777216:=sizeLine_eq
 refine⟨rJ,λG nG0=>?_⟩
 have tG:=az (o:=.lst []) nG0
 have eG:upd H G (.lst []) G=some (.lst (([]:List Str).map V.str)):=ak
 have nGt:G≠Dt:=Ne.symm (aC eDt nG0)
 have nGi:G≠Di:=Ne.symm (aC eDi nG0)
 have eDt0:=tG _ _ eDt
 have eDi0:=tG _ _ eDi
 have cut3:∀{H':Hp} {b:Addr} {o:HO},b≠Dt->b≠Di->b≠G->H' b=some o->bf [Dt,Di,G] H' b=some o:=λh1 h2 h3 e=>fB e (by simp [h1,h2,h3])
 have keep:aO (bf [Dt,Di] H) (bf [Dt,Di,G] (upd H G (.lst []))):=λb o e=>by
  have hb:b∉[Dt,Di]/\H b=some o:=by
   unfold bf at e
   split at e
   ·cases e
   ·rename_i h;exact⟨h,e⟩
  simp only [List.mem_cons,List.not_mem_nil,or_false,not_or] at hb
  have hg:b≠G:=aC hb.2 nG0
  exact cut3 hb.1.1 hb.1.2 hg (by rw [aJ hg];exact hb.2)
 generalize upd H G (.lst [])=H0 at tG eG eDt0 eDi0 keep ⊢
 have lst2:∀{b:Addr} {o:HO},H b=some o->(∀ks,o≠.dK ks)->bf [Dt,Di,G] H0 b=some o:=λ{b o} e ho=>by
  refine keep b o (fB e ?_)
  simp only [List.mem_cons,List.not_mem_nil,or_false,not_or]
  exact⟨λz=>by rw [z,eDt] at e;exact ho _ (Option.some.inj e).symm,λz=>by rw [z,eDi] at e;exact ho _ (Option.some.inj e).symm⟩
 have eL0:=lst2 A.lst (by intro _ z;cases z)
 refine⟨_,rfl,L,rfl,⟨_,bI.of (tG _ _ A.lst)⟩,?_⟩
 refine cY (K:=K) (a:=L) (xs:=ra.map λq=>V.ref q.2) (λj σ H'=>(∃v5 v6,σ=[some (.ref Dt),some (.ref Di),some (.ref L),some (.ref W),some (.ref G),v5,v6])/\aO (bf [Dt,Di,G] H0) (bf [Dt,Di,G] H')/\∃tm' ik' R' gs,H' Dt=some (.dK (fC V.int tm'))/\H' Di=some (.dK (fC aG ik'))/\H' G=some (.lst (gs.map V.str))/\tm'.map (·.1)=N/\jz ra ik'/\Yw p q ra N k j tm' ik' R'/\(gs=[]->∀i a,i <j->ra[i]?=some a->tF tm' a.1.fr+cW p q a<=tF tm' a.1.to)/\(∀g∈gs,R' g=k/\g∈N)/\(∀x,tF tm x<=tF tm' x)/\gs.length<=j/\(tm',w6 (·.1) ik',gs)=gF p q ((ra.take j).map (·.1)) (tm,w6 (·.1) ik,[])) ⟨⟨_,_,rfl⟩,aO.refl _,tm,ik,R,[],eDt0,eDi0,eG,hk,IO,rd,λ_ i a hi=>absurd hi (Nat.not_lt_zero _),by simp,λ_=>Int.le_refl _,Nat.le_refl _,rfl⟩ (λj σ H' _ h=>bI.of (bY _ _ (h.2.1 _ _ eL0))) ?_ ?_
 ·rintro j x σ H' hx ⟨⟨v5,v6,rfl⟩,s',tm',ik',R',gs,eT,eI,eGs,hk',IO',rd',hgs,hR,hup,hgl,hgF⟩
  rw [List.getElem?_map] at hx
  obtain⟨a,haj,rfl⟩:=Option.map_eq_some_iff.mp hx
  have ham:=List.mem_of_getElem? haj
  have hj:=(List.getElem?_eq_some_iff.mp haj).1
  have lower:∀{b:Addr} {o:HO},H b=some o->(∀ks,o≠.dK ks)->H' b=some o:=λe ho=>bY _ _ (s' _ _ (lst2 e ho))
  have ea:=lower (A.at_ a ham) (by intro _ z;cases z)
  have eW:=lower eW (by intro _ z;cases z)
  obtain⟨tf,htf⟩:=Option.isSome_iff_exists.mp (jA.mpr (by rw [hk'];exact AI.fr a ham))
  obtain⟨tt,htt⟩:=Option.isSome_iff_exists.mp (jA.mpr (by rw [hk'];exact AI.to a ham))
  have g1:=jg eT a.1.fr
  have g2:=jg eT a.1.to
  rw [htf] at g1
  rw [htt] at g2
  have ef:tF tm' a.1.fr=tf:=by unfold tF;rw [htf];rfl
  have et:tF tm' a.1.to=tt:=by unfold tF;rw [htt];rfl
  refine Ov λDe hD u hu=>?_
  refine⟨_,rfl,_,rfl,a.2,_,0,_,rfl,rfl,cP.of ea,aM (j:=0) rfl,Dt,_,rfl,g1,_,rfl,W,_,0,_,rfl,rfl,cP.of eW,aM (j:=0) rfl,tf,p,rfl,rfl,_,rfl,W,_,1,_,rfl,rfl,cP.of eW,aM (j:=1) rfl,_,rfl,a.2,_,2,_,rfl,rfl,cP.of ea,aM (j:=2) rfl,q,a.1.tk,rfl,rfl,.of_left (intBits_le_64 (by omega) (by omega)),tf+p,q * a.1.tk,rfl,rfl,?_⟩
  subst hu
  subst hD
  refine⟨λσ2 H2=>(∃v5 v6,σ2=[some (.ref Dt),some (.ref Di),some (.ref L),some (.ref W),some (.ref G),v5,v6])/\aO (bf [Dt,Di,G] H0) (bf [Dt,Di,G] H2)/\∃tm' ik' R' gs,H2 Dt=some (.dK (fC V.int tm'))/\H2 Di=some (.dK (fC aG ik'))/\H2 G=some (.lst (gs.map V.str))/\tm'.map (·.1)=N/\jz ra ik'/\Yw p q ra N k (j+1) tm' ik' R'/\(gs=[]->∀i a,i <j+1->ra[i]?=some a->tF tm' a.1.fr+cW p q a<=tF tm' a.1.to)/\(∀g∈gs,R' g=k/\g∈N)/\(∀x,tF tm x<=tF tm' x)/\gs.length<=j+1/\(tm',w6 (·.1) ik',gs)=gF p q ((ra.take (j+1)).map (·.1)) (tm,w6 (·.1) ik,[]),?_,λ_ _ h=>h⟩
  refine⟨_,rfl,_,rfl,a.2,_,1,_,rfl,rfl,cP.of ea,aM (j:=1) rfl,Dt,_,rfl,g2,_,rfl,tt,tf+p - q * a.1.tk,rfl,rfl,_,rfl,uB (λh=>?_) (λh=>?_)⟩
  ·have h:tt <tf+p - q * a.1.tk:=of_decide_eq_true h
   have ltm:tm'.length<=16:=by have:=congrArg List.length hk';rw [lM] at this;omega
   have lik:=IO'.len
   refine Xq λDe hD u hu=>?_
   refine⟨_,rfl,_,rfl,_,rfl,a.2,_,1,_,rfl,rfl,cP.of ea,aM (j:=1) rfl,Dt,_,rfl,lJ.k (k:=Sum.inr a.1.to) eT (by rw [pX];omega),?_⟩
   rw [rK]
   have ea2:upd H' Dt (.dK (fC V.int (eX tm' a.1.to (tf+p - q * a.1.tk)))) a.2=some (.tup (N7 a.1)):=gP eT ea (by intro _ z;cases z)
   have eI2:upd H' Dt (.dK (fC V.int (eX tm' a.1.to (tf+p - q * a.1.tk)))) Di=some (.dK (fC aG ik')):=by rw [aJ (Ne.symm nDD)];exact eI
   have eG2:upd H' Dt (.dK (fC V.int (eX tm' a.1.to (tf+p - q * a.1.tk)))) G=some (.lst (gs.map V.str)):=by rw [aJ nGt];exact eGs
   have eT2:upd H' Dt (.dK (fC V.int (eX tm' a.1.to (tf+p - q * a.1.tk)))) Dt=some (.dK (fC V.int (eX tm' a.1.to (tf+p - q * a.1.tk)))):=ak
   have c2:bf [Dt,Di,G] (upd H' Dt (.dK (fC V.int (eX tm' a.1.to (tf+p - q * a.1.tk)))))=bf [Dt,Di,G] H':=iQ (by simp)
   generalize upd H' Dt (.dK (fC V.int (eX tm' a.1.to (tf+p - q * a.1.tk))))=H2 at ea2 eI2 eG2 eT2 c2 ⊢
   have ea:=ea2
   refine iR (v:=u) hu λu hu=>?_
   refine⟨_,rfl,_,rfl,_,rfl,a.2,_,1,_,rfl,rfl,cP.of ea,aM (j:=1) rfl,Di,_,rfl,lJ.k (k:=Sum.inr a.1.to) eI2 (by rw [pX];omega),?_⟩
   rw [show V.ref a.2=aG a from rfl,rK]
   have ea3:upd H2 Di (.dK (fC aG (eX ik' a.1.to a))) a.2=some (.tup (N7 a.1)):=gP eI2 ea (by intro _ z;cases z)
   have eT3:upd H2 Di (.dK (fC aG (eX ik' a.1.to a))) Dt=some (.dK (fC V.int (eX tm' a.1.to (tf+p - q * a.1.tk)))):=by rw [aJ nDD];exact eT2
   have eG3:upd H2 Di (.dK (fC aG (eX ik' a.1.to a))) G=some (.lst (gs.map V.str)):=by rw [aJ nGi];exact eG2
   have eI3:upd H2 Di (.dK (fC aG (eX ik' a.1.to a))) Di=some (.dK (fC aG (eX ik' a.1.to a))):=ak
   have c3:bf [Dt,Di,G] (upd H2 Di (.dK (fC aG (eX ik' a.1.to a))))=bf [Dt,Di,G] H2:=iQ (by simp)
   generalize upd H2 Di (.dK (fC aG (eX ik' a.1.to a)))=H3 at ea3 eT3 eG3 eI3 c3 ⊢
   have ea:=ea3
   subst hu
   refine⟨_,rfl,.inl ⟨rfl,_,bI.of eG3⟩,_,rfl,a.2,_,1,_,rfl,rfl,cP.of ea,aM (j:=1) rfl,G,_,_,rfl,rfl,eG3,by rw [lM];omega,?_⟩
   have es:gs.map V.str ++ [V.str a.1.to]=(gs ++ [a.1.to]).map V.str:=by rw [List.map_append];rfl
   have hgrow:tF tm' a.1.to <tF tm' a.1.fr+cW p q a:=by
    rw [ef,et]
    show tt <tf+(p - q * a.1.tk)
    omega
   have rg:=rd'.grow k1 haj hgrow (AI.fr a ham) (AI.to a ham)
   have eqv:tf+p - q * a.1.tk=tF tm' a.1.fr+cW p q a:=by
    rw [ef]
    show _=tf+(p - q * a.1.tk)
    omega
   subst hD
   refine⟨⟨_,_,rfl⟩,?_,eX tm' a.1.to (tf+p - q * a.1.tk),eX ik' a.1.to a,λx=>if x=a.1.to then k else R' x,gs ++ [a.1.to],?_,?_,?_,?_,IO'.put ham,?_,?_,?_,?_,?_,?_⟩
   ·rw [iQ (by simp),c3,c2]
    exact s'
   ·rw [aJ (Ne.symm nGt)];exact eT3
   ·rw [aJ (Ne.symm nGi)];exact eI3
   ·rw [ak,es]
   ·rw [Aq (by rw [hk'];exact AI.to a ham)];exact hk'
   ·unfold Yw
    rw [Vm,Yn,Ys,eqv]
    exact rg
   ·intro z
    exact absurd z (by simp)
   ·intro g hg
    rcases List.mem_append.mp hg with h1 | h1
    ·obtain⟨h2,h3⟩:=hR g h1
     refine⟨?_,h3⟩
     dsimp only
     split
     ·rfl
     ·exact h2
    ·rw [List.mem_singleton] at h1
     subst h1
     exact⟨if_pos rfl,AI.to a ham⟩
   ·intro x
    rw [Vm]
    dsimp only
    split
    ·rename_i e
     have:=hup x
     rw [e] at this ⊢
     omega
    ·exact hup x
   ·rw [lP,List.length_singleton];omega
   ·rw [Oh haj,<-hgF,Ti,eqv]
    unfold gS
    exact(if_pos hgrow).symm
  ·have h:¬tt <tf+p - q * a.1.tk:=λz=>h (decide_eq_true z)
   have hsat:tF tm' a.1.fr+cW p q a<=tF tm' a.1.to:=by
    rw [ef,et]
    show tf+(p - q * a.1.tk)<=tt
    omega
   refine⟨⟨_,_,rfl⟩,s',tm',ik',R',gs,eT,eI,eGs,hk',IO',rd'.stay haj hsat,λhg i b hi hb=>?_,hR,hup,by omega,by rw [Oh haj,<-hgF];unfold gS;exact(if_neg (Int.not_lt.mpr hsat)).symm⟩
   by_cases e:i=j
   ·subst e
    rw [haj] at hb
    cases hb
    exact hsat
   ·exact hgs hg i b (by omega) hb
 rintro σ H' ⟨⟨v5,v6,rfl⟩,s',tm',ik',R',gs,eT,eI,eGs,hk',IO',rd',hgs,hR,hup,hgl,hgF⟩
 rw [lM] at hgs rd' hgF
 rw [List.take_length] at hgF
 refine⟨_,rfl,kk _ G gs tm' ik' R' (λb o e=>?_) eT eI eGs nG0 hk' IO' rd' (λhg a ha=>?_) hR hup hgF⟩
 ·have h1:=s' _ _ (keep b o e)
  unfold bf at h1 ⊢
  split at h1
  ·cases h1
  ·rename_i h
   simp only [List.mem_cons,List.not_mem_nil,or_false,not_or] at h
   rw [if_neg (by simp [h.1,h.2.1])]
   exact h1
 ·obtain⟨i,hi,ei⟩:=List.mem_iff_getElem.mp ha
  exact hgs hg i a hi (by rw [List.getElem?_eq_getElem hi,ei])
structure KR (p q:Int) (N:List Str) (ra as:List AA):Prop where
 ne:as≠[]
 mem:∀a∈as,a∈ra
 len:as.length<=N.length
 pos:0 <(as.map (cW p q)).sum
theorem Vi (p q:Int) (ik:List (Str×AA)):∀{l:List Str},(∀y∈l,∃a,cB ik y=some a)->(l.filterMap (cB ik)).map (cW p q)=l.map (wI p q ik)/\(l.filterMap (cB ik)).length=l.length
 | [],_=>⟨rfl,rfl⟩
 | y:: r,h=>by
  obtain⟨a,ha⟩:=h y List.mem_cons_self
  obtain⟨h1,h2⟩:=Vi p q ik (l:=r) λz hz=>h z (List.mem_cons_of_mem _ hz)
  rw [List.filterMap_cons_some ha]
  refine⟨?_,by rw [List.length_cons,List.length_cons,h2]⟩
  rw [List.map_cons,List.map_cons,h1]
  congr 1
  unfold wI
  rw [ha]
theorem RV {p q:Int} {N:List Str} {ra:List AA} {ik:List (Str×AA)} {r:List Str} {T:Str->Int} (g:Rg.Good T (fI ik) (wI p q ik)) (dom:∀v u,fI ik v=some u->v∈N/\u∈N) (IO:jz ra ik) (get:∀y∈r,∃a,cB ik y=some a) (R:Rg.Round (fI ik) r) (ne:r≠[]):KR p q N ra (r.reverse.filterMap (cB ik)):=by
 obtain⟨h1,h2⟩:=Vi p q ik (l:=r.reverse) λy hy=>get y (List.mem_reverse.mp hy)
 rw [List.length_reverse] at h2
 refine⟨λz=>ne ?_,λa ha=>?_,?_,?_⟩
 ·rw [z] at h2
  exact List.length_eq_zero_iff.mp h2.symm
 ·obtain⟨y,_,e⟩:=List.mem_filterMap.mp ha
  exact(IO.ok _ (o9 e)).1
 ·rw [h2]
  refine Rg.oY R.nd λy hy=>?_
  obtain⟨a,ha⟩:=get y hy
  exact(dom y a.1.fr (by unfold fI;rw [ha];rfl)).1
 ·rw [h1,List.map_reverse,List.sum_reverse]
  exact g.pos r ne R
noncomputable def zeros (names:List Str):List (Str×Int):=names.map λx=>(x,0)
theorem Ew (names:List Str):(zeros names).map (·.1)=names:=by unfold zeros;rw [List.map_map];exact List.map_id _
theorem Mh (names:List Str):tF (zeros names)=λ_=>0:=by
 funext x
 unfold tF
 cases e:cB (zeros names) x with
 | none=>rfl
 | some v=>
  have:=o9 e
  unfold zeros at this
  obtain⟨y,_,e2⟩:=List.mem_map.mp this
  cases e2
  rfl
noncomputable def QL (p q:Int) (arcs:List iM) (names:List Str):Nat->Zw
 | 0=>(zeros names,[],[])
 | k+1=>gF p q arcs ((QL p q arcs names k).1,(QL p q arcs names k).2.1,[])
inductive mZ (p q:Int) (arcs:List iM) (names:List Str) (tm:List (Str×Int)):Prop where
 | mk:∀k,1<=k->k<=names.length->((∀i,1<=i->i <k->(QL p q arcs names i).2.2≠[]))->(QL p q arcs names k).2.2=[]->tm=(QL p q arcs names k).1->mZ p q arcs names tm
noncomputable def qH (p q:Int) (arcs:List iM) (names:List Str) (cs:List iM):Prop:=(∀i,1<=i->i<=names.length->(QL p q arcs names i).2.2≠[])/\∃g0 gr,(QL p q arcs names names.length).2.2=g0:: gr/\wz (QL p q arcs names names.length).2.1 g0 cs
noncomputable def QR (cs:List iM):Prop:=∀i c,cs[i]?=some c->∃c',cs[if i=0 then cs.length - 1 else i - 1]?=some c'/\c.fr=c'.to
theorem mZ.one {p q:Int} {arcs:List iM} {names:List Str} {tm tm':List (Str×Int)} (h:mZ p q arcs names tm) (h':mZ p q arcs names tm'):tm=tm':=by
 obtain⟨k,k1,_,hk,e,rfl⟩:=h
 obtain⟨m,m1,_,hm,e',rfl⟩:=h'
 have:k=m:=by
  rcases Nat.lt_trichotomy k m with z | z | z
  ·exact absurd e (hm k k1 z)
  ·exact z
  ·exact absurd e' (hk m m1 z)
 rw [this]
theorem qH.one {p q:Int} {arcs:List iM} {names:List Str} {cs cs':List iM} (h:qH p q arcs names cs) (h':qH p q arcs names cs'):cs=cs':=by
 obtain⟨_,g0,gr,e,r⟩:=h
 obtain⟨_,g1,gs,e',r'⟩:=h'
 rw [e] at e'
 cases e'
 exact r.one r'
theorem mZ.no {p q:Int} {arcs:List iM} {names:List Str} {tm:List (Str×Int)} {cs:List iM} (h:mZ p q arcs names tm) (h':qH p q arcs names cs):False:=by
 obtain⟨k,k1,k2,_,e,_⟩:=h
 exact h'.1 k k1 k2 e
theorem Qs {ik:List (Str×AA)} {x a:Str} {seen r:List Str} {j:Nat} (g:Rg.lG (fI ik) x seen a) (ej:seen[j]?=some a) (er:r=seen.drop j):wz (w6 (·.1) ik) x ((r.reverse.filterMap (cB ik)).map (·.1)):=by
 rw [Wg] at g
 refine⟨r,a,seen,j,g,ej,er,?_⟩
 rw [List.map_filterMap]
 congr 1
 funext y
 rw [zq]
inductive qL (K:PySem.W.Frag) (vs:List V) (H:Hp) (Q:VK) (E:XK):Prop where
 | mk:∀(Ln L W:Addr) (names:List Str) (ra:List AA) (p q:Int),vs=[.ref Ln,.ref L,.ref W]->H Ln=some (.lst (names.map V.str))->names.Nodup->1<=names.length->names.length<=16->fU H L ra->ra.length<=100->H W=some (.tup [.int p,.int q])->0<=q->q<=1000000->Ub names ra->((∀H' T D tm,aO H H'->H' T=some (.tup [.str "times",.ref D])->H D=none->H' D=some (.dK (fC V.int tm))->tm.map (·.1)=names->(∀a∈ra,tF tm a.1.fr+cW p q a<=tF tm a.1.to)->(∀x,0<=tF tm x)->mZ p q (ra.map (·.1)) names tm->Q (.ref T) H'))->(∀H' T Lr as,aO H H'->H' T=some (.tup [.str "ring",.ref Lr])->H Lr=none->fU H' Lr as->KR p q names ra as->qH p q (ra.map (·.1)) names (as.map (·.1))->QR (as.map (·.1))->Q (.ref T) H')->qL K vs H Q E
theorem rn (T:Txt w K mg t):FO P w K mg base 3 t.uy ["names", "arcs", "wish"] (qL K):=by
 have sc:=T.jc.sc ["names", "arcs", "wish", "times", "name", "into", "grown", "count"]
 refine T.jc.F.ok sc ln (λ_ _ _ _ H vs Q E hr h=>?_)
 obtain⟨Ln,L,W,names,ra,p,q,rfl,eLn,nd,n1,n16,A,hra,eW,q0,q1,AI,kT,kR⟩:=h
 refine⟨_,(ao (sN sc 3 dY)
  (ao (cX PassesOwn.never rfl (bH (pv 0)) (gN sc 4)
   (au (d7 hr.u1 (pv 3) (pv 4) aB rfl)))
  (ao (sN sc 5 dY)
  (ao (sN sc 6 (dm aq))
  (ao (cX PassesOwn.never rfl (qO rfl T.wM (aa (bx b8 (by rfl) T.iy eQ (aa (pv 0) aq aj)) aq bz)) (gN sc 7)
   (ao (sN sc 6 (jd (Gz T) T.tO hr (aa (pv 3) (aa (pv 5) (aa (pv 1) (aa (pv 2) aq aj) aj) aj) aj)))
   (au (b7 (bD jO (bx b8 (by rfl) T.iy eQ (aa (pv 6) aq aj)) aB (cz _))
    (au (aQ (bL (aa bT (aa (pv 3) aq aj) aK))))
    bu))))
  (au (aQ (bL (aa bT (aa (jd (zN T) T.pI hr (aa (aU cC (pv 6) aB (λ_ _=>rfl)) (aa (pv 5) aq aj) aH)) aq bz) aK))))))))),?_⟩
 have hz:sizeLine=16777216:=sizeLine_eq
 refine λDt nDt=>?_
 have sT:∀{kvs:List (Key×V)},aO H (upd H Dt (.dK kvs)):=az nDt
 refine⟨_,rfl,Ln,rfl,⟨_,bI.of (sT _ _ eLn)⟩,?_⟩
 refine cY (K:=K) (a:=Ln) (xs:=names.map V.str) (λj σ H'=>H'=upd H Dt (.dK (fC V.int (zeros (names.take j))))/\∃v4,σ=[some (.ref Ln),some (.ref L),some (.ref W),some (.ref Dt),v4,none,none,none]) ⟨rfl,none,rfl⟩ (λj σ H' _ ⟨e,_⟩=>by rw [e];exact bI.of (sT _ _ eLn)) ?_ ?_
 ·rintro j x σ H' hx ⟨rfl,v4,rfl⟩
  rw [List.getElem?_map] at hx
  obtain⟨y,hy,rfl⟩:=Option.map_eq_some_iff.mp hx
  have nin:y∉(zeros (names.take j)).map (·.1):=by
   rw [Ew]
   have:=jG (f:=id) (xs:=names) (by rw [List.map_id];exact nd) hy
   rwa [List.map_id] at this
  refine⟨_,rfl,_,rfl,Dt,_,rfl,lJ.k (k:=Sum.inr y) ak (by rw [pX];unfold zeros;rw [lM,List.length_take];omega),?_,_,rfl⟩
  rw [kI,rK,qN _ nin,List.take_succ,hy,Option.toList_some]
  unfold zeros
  rw [List.map_append]
  rfl
 rintro σ H1 ⟨rfl,v4,rfl⟩
 rw [lM,List.take_length]
 have s1:aO H (upd H Dt (.dK (fC V.int (zeros names)))):=sT
 have eT:upd H Dt (.dK (fC V.int (zeros names))) Dt=some (.dK (fC V.int (zeros names))):=ak
 have c1:=zG s1 nDt
 generalize upd H Dt (.dK (fC V.int (zeros names)))=H1 at s1 eT c1 ⊢
 refine λDi nDi=>?_
 have tI:=az (o:=.dK []) nDi
 have eI:upd H1 Di (.dK []) Di=some (.dK (fC aG ([]:List (Str×AA)))):=ak
 have eT2:=tI _ _ eT
 have nDD:Dt≠Di:=aC eT nDi
 have nDi0:H Di=none:=s1.free nDi
 have cc:∀{H':Hp},aO H H'->aO H (bf [Dt,Di] H'):=λs b o e=>fB (s _ _ e) (by
  simp only [List.mem_cons,List.not_mem_nil,or_false,not_or]
  exact⟨aC e nDt,aC e nDi0⟩)
 have s2:=s1.trans tI
 generalize upd H1 Di (.dK [])=H2 at tI eI eT2 s2 ⊢
 refine⟨rJ,λG nG0=>?_⟩
 have tG:=az (o:=.lst []) nG0
 have eG:upd H2 G (.lst []) G=some (.lst (([]:List Str).map V.str)):=ak
 have eT3:=tG _ _ eT2
 have eI3:=tG _ _ eI
 have s3:=s2.trans tG
 generalize upd H2 G (.lst [])=H3 at tG eG eT3 eI3 s3 ⊢
 refine⟨_,rfl,.ref Ln,names.length,rfl,.inl ⟨_,bI.of (s3 _ _ eLn),by simp⟩,(names.length:Int),rfl,by omega,by omega,?_⟩
 rw [Int.toNat_natCast]
 refine wJ (n:=names.length) (λj σ H'=>∃(G:Addr) (gs:List Str) (tm:List (Str×Int)) (ik:List (Str×AA)) (R:Str->Nat),(∃v4 v7,σ=[some (.ref Ln),some (.ref L),some (.ref W),some (.ref Dt),v4,some (.ref Di),some (.ref G),v7])/\aO H (bf [Dt,Di] H')/\H' Dt=some (.dK (fC V.int tm))/\H' Di=some (.dK (fC aG ik))/\H' G=some (.lst (gs.map V.str))/\tm.map (·.1)=names/\jz ra ik/\Yw p q ra names (j+1) 0 tm ik R/\(1<=j->gs≠[]/\∀g∈gs,R g=j/\g∈names)/\(∀x,0<=tF tm x)/\(tm,w6 (·.1) ik,gs)=QL p q (ra.map (·.1)) names j/\∀i,1<=i->i<=j->(QL p q (ra.map (·.1)) names i).2.2≠[]) ⟨G,[],zeros names,[],λ_=>0,⟨_,_,rfl⟩,cc s3,eT3,eI3,eG,Ew _,⟨by simp,by simp⟩,?_,λh=>absurd h (by omega),λx=>by rw [Mh];exact Int.le_refl _,rfl,λi h1 h2=>absurd h1 (by omega)⟩ ?_ ?_
 ·have e1:fI ([]:List (Str×AA))=λ_=>none:=rfl
  have e2:wI p q ([]:List (Str×AA))=λ_=>0:=rfl
  unfold Yw
  rw [Mh,e1,e2]
  exact .start
 ·rintro j σ H' hj ⟨G,gs,tm,ik,R,⟨v4,v7,rfl⟩,s',eT,eI,eG,hk,IO,rd,hg,h0,hN,hM⟩
  have sH:=s'.trans bY
  refine Ov λDe hD u hu=>?_
  refine⟨_,rfl,_,rfl,_,rfl,_,rfl,Dt,Di,L,W,p,q,names,ra,j+1,tm,ik,R,rfl,eT,eI,nDD,A.same sH,sH _ _ eW,q0,q1,hra,n16,AI,hk,IO,by omega,rd,λH5 G5 gs5 tm5 ik5 R5 s5 eT5 eI5 eG5 nG5 hk5 IO5 rd5 hsat hR hup hF5=>?_⟩
  have hN5:(tm5,w6 (·.1) ik5,gs5)=QL p q (ra.map (·.1)) names (j+1):=by
   rw [hF5]
   show _=gF p q (ra.map (·.1)) ((QL p q (ra.map (·.1)) names j).1,(QL p q (ra.map (·.1)) names j).2.1,[])
   rw [<-hN]
  have h05:∀x,0<=tF tm5 x:=λx=>Int.le_trans (h0 x) (hup x)
  subst hu
  refine⟨_,rfl,.ref G5,gs5.length,rfl,.inl ⟨_,bI.of eG5,by simp⟩,rfl,_,rfl,?_⟩
  have s6:aO H (bf [Dt,Di] H5):=s'.trans s5
  cases gs5 with
  | nil=>
   subst hD
   refine rG rfl ⟨_,rfl,rJ,λT' nT=>?_⟩
   have tT:=az (o:=.tup [.str "times",.ref Dt]) nT
   exact kT _ T' Dt tm5 (s6.trans (bY.trans tT)) ak nDt (tT _ _ eT5) hk5 (hsat rfl) h05 ⟨j+1,by omega,by omega,λi h1 h2=>hM i h1 (by omega),by rw [<-hN5],by rw [<-hN5]⟩
  | cons g0 gr=>
   refine dz (by show ¬V.int (((gr.length+1:Nat):Int))=V.int 0;intro z;cases z) ?_
   subst hD
   exact⟨G5,g0:: gr,tm5,ik5,R5,⟨_,_,rfl⟩,s6,eT5,eI5,eG5,hk5,IO5,rd5.next,λ_=>⟨by simp,hR⟩,h05,hN5,λi h1 h2=>if z:i=j+1 then by rw [z,<-hN5];simp else hM i h1 (by omega)⟩
 rintro σ H' ⟨G,gs,tm,ik,R,⟨v4,v7,rfl⟩,s',eT,eI,eG,hk,IO,rd,hg,h0,hN,hM⟩
 obtain⟨hne,hR⟩:=hg n1
 cases gs with
 | nil=>exact absurd rfl hne
 | cons g0 gr=>
  obtain⟨r0,m0⟩:=hR g0 List.mem_cons_self
  have sH:=s'.trans bY
  have A':=A.same sH
  have lik:=IO.len
  refine⟨_,rfl,G,_,0,_,rfl,rfl,bI.of eG,aM (j:=0) rfl,_,rfl,g0,Di,ik,rfl,eI,IO.nd,by omega,λe he=>A'.at_ _ (IO.ok e he).1,λH6 L6 r a seen s6 nL6 A6 g get hc=>⟨rJ,λT' nT=>?_⟩⟩
  have tT:=az (o:=.tup [.str "ring",.ref L6]) nT
  have stop:a∈seen:=g.deep rd.src rd.dom m0 (by rw [r0];exact Nat.le_refl _) (hc.elim (λ⟨_,ej,_⟩=>.inl (List.mem_of_getElem? ej)) λh=>.inr h.2.1)
  rcases hc with ⟨j,ej,er⟩ | ⟨hn,_,_⟩
  ·have Rr:=g.round ej
   rw [<-er] at Rr
   have ri:=Qs g ej er
   exact kR _ T' L6 _ (sH.trans (s6.trans tT)) ak (sH.free nL6) (A6.same tT) (RV rd.good rd.dom IO get Rr.1 Rr.2) ⟨hM,g0,gr,by rw [<-hN],by rw [<-hN];exact ri⟩ (ri.ok λy c e=>by
    rw [zq] at e
    obtain⟨q',hq',rfl⟩:=Option.map_eq_some_iff.mp e
    exact(IO.ok _ (o9 hq')).2).2.2
  ·exact absurd stop hn
noncomputable abbrev big:Int:=10 ^ 60
theorem WX {a:Int} (h0:0<=a) (h1:a <big):a.natAbs <2 ^ 200:=by
 have:(10:Int) ^ 60 <2 ^ 200:=by decide
 unfold big at h1
 omega
theorem X7 {i j:Int} (h0:0 <j) (h1:j <big):O6 i j:=⟨h0,Nat.lt_trans ((Nat.log2_lt (by omega)).mpr (WX (Int.le_of_lt h0) h1)) (by decide)⟩
theorem wO {a b:Int} (hb:0 <b):0 <(Int.gcd a b:Int):=by
 have:0 <Int.gcd a b:=Nat.pos_of_ne_zero λe=>by
  have:=(Int.gcd_eq_zero_iff.mp e).2
  omega
 omega
theorem S8 {a b:Int} (hb:0 <b):(Int.gcd a b:Int)<=b:=Int.le_of_dvd hb (Int.gcd_dvd_right ..)
theorem red {a b:Int} (hb:0 <b):(a / Int.gcd a b) * b=a * (b / Int.gcd a b):=by
 have g0:=wO (a:=a) hb
 obtain⟨x,hx⟩:(Int.gcd a b:Int) ∣ a:=Int.gcd_dvd_left ..
 obtain⟨y,hy⟩:(Int.gcd a b:Int) ∣ b:=Int.gcd_dvd_right ..
 have e1:a / Int.gcd a b=x:=by
  conv=>lhs;lhs;rw [hx]
  exact Int.mul_ediv_cancel_left _ (by omega)
 have e2:b / Int.gcd a b=y:=by
  conv=>lhs;lhs;rw [hy]
  exact Int.mul_ediv_cancel_left _ (by omega)
 rw [e1,e2]
 conv=>lhs;rw [hy]
 conv=>rhs;rw [hx]
 generalize (Int.gcd a b:Int)=g
 rw [Int.mul_left_comm,Int.mul_assoc]
inductive mJ (vs:List V) (H:Hp) (Q:VK) (E:XK):Prop where
 | mk:∀a b:Int,vs=[.int a,.int b]->0<=a->0<=b->Q (.int (Int.gcd a b)) H->mJ vs H Q E
theorem xf (T:Txt w K mg t):FO P w K mg base 1 t.oZ ["one", "other"] (mJ):=by
 have sc:=T.ji.sc ["one", "other", "left"]
 refine T.ji.F.ok sc ln (λ_ _ _ _ H vs Q E hr h=>?_)
 obtain⟨a,b,rfl,h0,h1,k⟩:=h
 refine⟨_,(ao (vC PassesOwn.never (bD Vb (pv 1) aB (cz _))
   (ao (sN sc 2 (bB jo (pv 0) (pv 1)))
   (ao (sN sc 0 (pv 1))
   (au (sN sc 1 (pv 2))))))
  (au (aQ (pv 0)))),?_⟩
 refine vy (λσ H'=>∃(m n:Nat) (l:Option V),σ=[some (.int m),some (.int n),l]/\H'=H/\Nat.gcd m n=Int.gcd a b) (λσ _=>match σ with | [_,some (.int n),_]=>n.toNat | _=>0)
  ⟨a.toNat,b.toNat,none,by rw [Int.toNat_of_nonneg h0,Int.toNat_of_nonneg h1];rfl,rfl,by rw [Int.gcd];congr 1 <;> omega⟩ ?_ ?_
 ·rintro σ H' ⟨m,n,l,rfl,rfl,hg⟩
  refine⟨_,rfl,_,_,rfl,rfl,_,rfl,?_⟩
  refine uB (λhn=>?_) (λhn=>?_)
  ·have hn':(0:Int) <(n:Int):=of_decide_eq_true hn
   refine⟨_,rfl,_,rfl,_,_,rfl,rfl,hn',_,rfl,_,rfl,?_⟩
   refine⟨⟨n,m % n,_,rfl,rfl,?_⟩,?_⟩
   ·rw [<-hg,Nat.gcd_comm m n,Nat.gcd_rec n m,Nat.gcd_comm]
   ·show((m:Int) % (n:Int)).toNat <(n:Int).toNat
    have:=Int.emod_lt_of_pos (m:Int) hn'
    have:=Int.emod_nonneg (m:Int) (show(n:Int)≠0 by omega)
    omega
  ·have hn':¬(0:Int) <(n:Int):=λz=>hn (decide_eq_true z)
   have e:n=0:=by omega
   subst e
   refine⟨_,rfl,?_⟩
   rw [Nat.gcd_zero_right] at hg
   rw [hg]
   exact k
 ·intro σ H' Q' Q'' hm hq
  obtain⟨v,e,i,j,e1,e2,c,e3,q⟩:=hq
  exact⟨v,e,i,j,e1,e2,c,e3,hm _ _ q⟩
inductive wj (vs:List V) (H:Hp) (Q:VK) (E:XK):Prop where
 | mk:∀a b:Int,vs=[.int a,.int b]->0<=a->0 <b->b <big->(∀p,H p=none->Q (.ref p) (upd H p (.tup [.int (a / Int.gcd a b),.int (b / Int.gcd a b)])))->wj vs H Q E
theorem Fb (T:Txt w K mg t):FO P w K mg base 2 t.xY ["top", "bottom"] (wj):=by
 have sc:=T.qw.sc ["top", "bottom", "divisor"]
 refine T.qw.F.ok sc ln (λ_ _ _ _ H vs Q E hr h=>?_)
 obtain⟨a,b,rfl,h0,h1,h2,k⟩:=h
 refine⟨_,(ao (sN sc 2 (jd (xf T) T.ji hr (aa (pv 0) (aa (pv 1) aq aj) aj)))
  (au (aQ (bL (aa (bB qX (pv 0) (pv 2)) (aa (bB qX (pv 1) (pv 2)) aq bZ) bZ))))),?_⟩
 have g0:=wO (a:=a) h1
 have g1:=S8 (a:=a) h1
 refine⟨_,rfl,_,rfl,a,b,rfl,h0,by omega,?_⟩
 exact⟨_,rfl,_,rfl,_,_,rfl,rfl,X7 g0 (by omega),_,rfl,_,rfl,_,_,rfl,rfl,X7 g0 (by omega),by show 2<=sizeLine;decide,k⟩
noncomputable def dZ (as:List AA):Int:=(as.map λa=>a.1.tk).sum
theorem PQ:∀{l:List Int},(∀x∈l,0<=x/\x<=1000000)->0<=l.sum/\l.sum<=1000000 * (l.length:Int)
 | [],_=>by simp
 | a:: r,h=>by
  obtain⟨h1,h2⟩:=PQ (l:=r) λx hx=>h x (List.mem_cons_of_mem _ hx)
  obtain⟨h3,h4⟩:=h a List.mem_cons_self
  rw [List.sum_cons,List.length_cons]
  omega
structure Lh (as:List AA):Prop where
 len:as.length<=100
 tk:∀a∈as,0<=a.1.tk/\a.1.tk<=1000000
theorem Lh.sum {as:List AA} (h:Lh as):0<=dZ as/\dZ as<=100000000:=by
 obtain⟨h1,h2⟩:=PQ (l:=as.map λa=>a.1.tk) λx hx=>by
  obtain⟨a,ha,rfl⟩:=List.mem_map.mp hx
  exact h.tk a ha
 rw [lM] at h2
 have:=h.len
 unfold dZ
 omega
inductive yO (K:PySem.W.Frag) (vs:List V) (H:Hp) (Q:VK) (E:XK):Prop where
 | mk:∀(L:Addr) (as:List AA),vs=[.ref L]->fU H L as->Lh as->(∀H',aO H H'->Q (.int (dZ as)) H')->yO K vs H Q E
theorem zU (T:Txt w K mg t):FO P w K mg base 1 t.Bs ["ring"] (yO K):=by
 have sc:=T.pK.sc ["ring"]
 refine T.pK.F.ok sc ln (λ_ _ _ _ H vs Q E hr h=>?_)
 obtain⟨L,as,rfl,A,ok,k⟩:=h
 refine⟨_,(au (aQ (bx (Fl rfl) (by rfl) T.S9 MJ (aa (gf [] ["ring"] (aX (top 39)) rfl (bH (pv 0)) (λ_ _ _ _ _=>jl) (λ_ _ _ _ _=>(aU (mL (K:=K) rfl) (pv 0) aB (λ_ _=>rfl)))) aq d8)))),?_⟩
 have hz:sizeLine=16777216:=sizeLine_eq
 have ol:=ok.len
 refine⟨_,rfl,L,rfl,⟨_,bI.of A.lst⟩,?_⟩
 refine dN (K:=K) (a:=L) (xs:=as.map λq=>V.ref q.2) (λi ys H2=>H2=H/\ys=((as.take i).map λa=>a.1.tk).map V.int) (by rw [lM];omega) ⟨rfl,rfl⟩ (λi ys H2 ⟨_,e⟩=>by rw [e,lM,lM,List.length_take];omega) (λi ys H2 _ ⟨e,_⟩=>by rw [e];exact bI.of A.lst) ?_ ?_
 ·rintro i x ys H2 hx ⟨rfl,rfl⟩
  obtain⟨q,hq,rfl,eq⟩:=A.get hx
  refine yes ⟨_,rfl,q.2,_,2,_,rfl,rfl,cP.of eq,aM (j:=2) rfl,rfl,?_⟩
  rw [List.take_succ,hq,Option.toList_some,List.map_append,List.map_append]
  rfl
 rintro ys H2 ⟨rfl,rfl⟩ D nD
 rw [lM,List.take_length]
 refine⟨D,as.map (λa:AA=>a.1.tk),rfl,bI.of ak,λx hx=>?_,by rw [lM];omega,k _ (az nD)⟩
 obtain⟨a,ha,rfl⟩:=List.mem_map.mp hx
 exact ok.tk a ha
inductive vB (K:PySem.W.Frag) (vs:List V) (H:Hp) (Q:VK) (E:XK):Prop where
 | mk:∀(L:Addr) (as:List AA),vs=[.ref L]->fU H L as->Lh as->as≠[]->(∀H' F,aO H H'->H' F=some (.tup [.int (dZ as / Int.gcd (dZ as) (as.length:Nat)),.int ((as.length:Nat) / Int.gcd (dZ as) (as.length:Nat))])->Q (.ref F) H')->vB K vs H Q E
theorem oG (T:Txt w K mg t):FO P w K mg base 3 t.xZ ["ring"] (vB K):=by
 have sc:=T.iY.sc ["ring"]
 refine T.iY.F.ok sc ln (λ_ _ _ _ H vs Q E hr h=>?_)
 obtain⟨L,as,rfl,A,ok,ne,k⟩:=h
 refine⟨_,(au (aQ (jd (Fb T) T.qw hr (aa (jd (zU T) T.pK hr (aa (pv 0) aq aj)) (aa (bx b8 (by rfl) T.iy eQ (aa (pv 0) aq aj)) aq bz) bz)))),?_⟩
 have ol:=ok.len
 have h1:1<=as.length:=by
  cases as with
  | nil=>exact absurd rfl ne
  | cons a r=>simp
 have hb:(100:Int) <big:=by decide
 refine⟨_,rfl,L,as,rfl,A,ok,λH1 s1=>?_⟩
 refine⟨_,rfl,.ref L,as.length,rfl,.inl ⟨_,bI.of (s1 _ _ A.lst),by simp⟩,dZ as,(as.length:Nat),rfl,ok.sum.1,by omega,by omega,λF nF=>?_⟩
 exact k _ F (s1.trans (az nF)) ak
noncomputable def lS (lt:List (Str×Int)) (a:iM):List (Str×Int):=match cB lt a.fr with
 | none=>lt
 | some v=>if v+a.tk <(cB lt a.to).getD (v+a.tk+1) then eX lt a.to (v+a.tk) else lt
noncomputable def lF (arcs:List iM) (lt:List (Str×Int)):List (Str×Int):=arcs.foldl lS lt
noncomputable def lN (arcs:List iM) (s:Str):Nat->List (Str×Int)
 | 0=>[(s,0)]
 | k+1=>lF arcs (lN arcs s k)
noncomputable def Less (l m:List (Str×Int)):Prop:=∀x v,cB l x=some v->∃u,cB m x=some u/\u<=v
theorem Less.refl (l:List (Str×Int)):Less l l:=λ_ v h=>⟨v,h,Int.le_refl _⟩
theorem Less.trans {l m n:List (Str×Int)} (h:Less l m) (g:Less m n):Less l n:=λx v e=>by
 obtain⟨u,e1,h1⟩:=h x v e
 obtain⟨w,e2,h2⟩:=g x u e1
 exact⟨w,e2,Int.le_trans h2 h1⟩
theorem FP (lt:List (Str×Int)) (a:iM):lS lt a=lt∨∃v,cB lt a.fr=some v/\lS lt a=eX lt a.to (v+a.tk)/\∀u,cB lt a.to=some u->v+a.tk <u:=by
 unfold lS
 cases e:cB lt a.fr with
 | none=>exact .inl rfl
 | some v=>
  dsimp only
  split
  ·rename_i h
   refine .inr ⟨v,rfl,rfl,λu eu=>?_⟩
   rw [eu] at h
   exact h
  ·exact .inl rfl
theorem Oo (lt:List (Str×Int)) (a:iM):Less lt (lS lt a):=by
 rcases FP lt a with h | ⟨v,_,h,hu⟩
 ·rw [h];exact .refl _
 ·rw [h]
  intro x w e
  rw [pL]
  split
  ·rename_i z
   subst z
   exact⟨_,rfl,Int.le_of_lt (hu w e)⟩
  ·exact⟨w,e,Int.le_refl _⟩
theorem Dh:∀(arcs:List iM) (lt:List (Str×Int)),Less lt (lF arcs lt)
 | [],lt=>.refl _
 | a:: r,lt=>(Oo lt a).trans (Dh r (lS lt a))
theorem WD (lt:List (Str×Int)) (a:iM) {v:Int} (h:cB lt a.fr=some v):∃u,cB (lS lt a) a.to=some u/\u<=v+a.tk:=by
 unfold lS
 rw [h]
 dsimp only
 split
 ·exact⟨_,by rw [pL,if_pos rfl],Int.le_refl _⟩
 ·rename_i hn
  cases e:cB lt a.to with
  | none=>rw [e] at hn;exact absurd (show v+a.tk <v+a.tk+1 by omega) hn
  | some u=>rw [e] at hn;exact⟨u,rfl,by have:¬v+a.tk <u:=hn;omega⟩
theorem JR:∀{arcs:List iM} {lt:List (Str×Int)} {a:iM} {v:Int},a∈arcs->cB lt a.fr=some v->∃u,cB (lF arcs lt) a.to=some u/\u<=v+a.tk
 | b:: r,lt,a,v,ha,h=>by
  rcases List.mem_cons.mp ha with rfl | ha
  ·obtain⟨u,e,hu⟩:=WD lt a h
   obtain⟨w,e2,hw⟩:=Dh r (lS lt a) _ _ e
   exact⟨w,e2,Int.le_trans hw hu⟩
  ·obtain⟨u,e,hu⟩:=Oo lt b _ _ h
   obtain⟨w,e2,hw⟩:=JR (arcs:=r) ha e
   exact⟨w,e2,by omega⟩
theorem PB:∀{arcs:List iM} {lt:List (Str×Int)},Less (lF arcs lt) lt->lF arcs lt=lt
 | [],_,_=>rfl
 | a:: r,lt,h=>by
  have h0:lF (a:: r) lt=lF r (lS lt a):=rfl
  rcases FP lt a with e | ⟨v,_,e,hu⟩
  ·rw [h0,e] at h ⊢
   exact PB h
  ·obtain⟨u,e1,h1⟩:=Dh r (lS lt a) a.to (v+a.tk) (by rw [e,pL,if_pos rfl])
   rw [h0] at h
   obtain⟨w,e2,h2⟩:=h _ _ e1
   have:=hu w e2
   omega
inductive Wk (arcs:List iM) (s:Str):List Str->Str->Int->Prop
 | nil:Wk arcs s [] s 0
 | step {l:List Str} {c:Int} {a:iM}:Wk arcs s l a.fr c->a∈arcs->Wk arcs s (a.fr:: l) a.to (c+a.tk)
section
variable {arcs:List iM} {s:Str}
theorem Wk.cut (pos:∀a∈arcs,0<=a.tk) {l:List Str} {v:Str} {c:Int} (w:Wk arcs s l v c):∀{m n:List Str} {x:Str},l=m ++ x:: n->∃d,d<=c/\Wk arcs s n x d:=by
 induction w with
 | nil=>intro m n x e;simp at e
 | step w' ha ih=>
  rename_i l c a
  intro m n x e
  have:=pos a ha
  cases m with
  | nil=>
   simp only [List.nil_append,List.cons.injEq] at e
   obtain⟨e1,e2⟩:=e
   rw [<-e1,<-e2]
   exact⟨c,by omega,w'⟩
  | cons y m=>
   simp only [List.cons_append,List.cons.injEq] at e
   obtain⟨d,hd,w2⟩:=ih e.2
   exact⟨d,by omega,w2⟩
theorem Wk.short (pos:∀a∈arcs,0<=a.tk) {l:List Str} {v:Str} {c:Int} (w:Wk arcs s l v c):∃m d,Wk arcs s m v d/\d<=c/\(v:: m).Nodup:=by
 induction w with
 | nil=>exact⟨[],0,.nil,Int.le_refl _,by simp⟩
 | step w' ha ih=>
  rename_i l c a
  obtain⟨m,d,w2,hd,nd⟩:=ih
  have:=pos a ha
  by_cases h:a.to∈a.fr:: m
  ·rcases List.mem_cons.mp h with e | e
   ·rw [e]
    exact⟨m,d,w2,by omega,nd⟩
   ·obtain⟨m1,m2,rfl⟩:=List.append_of_mem e
    obtain⟨d2,h2,w3⟩:=w2.cut pos rfl
    refine⟨m2,d2,w3,by omega,?_⟩
    have:=(List.nodup_cons.mp nd).2
    exact(List.nodup_append.mp this).2.1
  ·exact⟨a.fr:: m,d+a.tk,.step w2 ha,by omega,List.nodup_cons.mpr ⟨h,nd⟩⟩
theorem Wk.mem {N:List Str} (hs:s∈N) (fr:∀a∈arcs,a.fr∈N) (to:∀a∈arcs,a.to∈N) {l:List Str} {v:Str} {c:Int} (w:Wk arcs s l v c):∀x∈v:: l,x∈N:=by
 induction w with
 | nil=>intro x hx;rw [List.mem_singleton] at hx;rw [hx];exact hs
 | step w' ha ih=>
  rename_i l c a
  intro x hx
  rcases List.mem_cons.mp hx with rfl | hx
  ·exact to a ha
  ·exact ih x hx
theorem Wk.low {l:List Str} {v:Str} {c:Int} (w:Wk arcs s l v c):∃u,cB (lN arcs s l.length) v=some u/\u<=c:=by
 induction w with
 | nil=>exact⟨0,by show cB [(s,0)] s=some 0;rw [fM,if_pos rfl],Int.le_refl _⟩
 | step w' ha ih=>
  rename_i l c a
  obtain⟨u,e,hu⟩:=ih
  obtain⟨x,ex,hx⟩:=JR ha e
  exact⟨x,ex,by omega⟩
theorem aaK {lt:List (Str×Int)} (h:∀x v,cB lt x=some v->∃l,Wk arcs s l x v) {a:iM} (ha:a∈arcs):∀x v,cB (lS lt a) x=some v->∃l,Wk arcs s l x v:=by
 rcases FP lt a with e | ⟨v,ev,e,_⟩
 ·rw [e];exact h
 ·rw [e]
  intro x w ew
  rw [pL] at ew
  split at ew
  ·rename_i z
   cases ew
   rw [z]
   obtain⟨l,wl⟩:=h _ _ ev
   exact⟨_,.step wl ha⟩
  ·exact h x w ew
theorem Xi:∀{r:List iM} {lt:List (Str×Int)},(∀a∈r,a∈arcs)->(∀x v,cB lt x=some v->∃l,Wk arcs s l x v)->∀x v,cB (lF r lt) x=some v->∃l,Wk arcs s l x v
 | [],_,_,h=>h
 | a:: r,lt,hr,h=>Xi (r:=r) (λb hb=>hr b (List.mem_cons_of_mem _ hb)) (aaK h (hr a List.mem_cons_self))
theorem SX:∀k,∀x v,cB (lN arcs s k) x=some v->∃l,Wk arcs s l x v
 | 0=>λx v h=>by
  rw [show lN arcs s 0=[(s,0)] from rfl,fM] at h
  split at h
  ·rename_i z
   have z:s=x:=z
   cases h
   rw [<-z]
   exact⟨[],.nil⟩
  ·cases h
 | k+1=>Xi (λ_ h=>h) (SX k)
theorem Qf {j k:Nat} (h:j<=k):Less (lN arcs s j) (lN arcs s k):=by
 induction k with
 | zero=>rw [Nat.le_zero.mp h];exact .refl _
 | succ k ih=>
  rcases Nat.lt_or_ge j (k+1) with z | z
  ·exact(ih (by omega)).trans (Dh arcs _)
  ·rw [Nat.le_antisymm h z];exact .refl _
theorem Ve {N:List Str} (pos:∀a∈arcs,0<=a.tk) (hs:s∈N) (fr:∀a∈arcs,a.fr∈N) (to:∀a∈arcs,a.to∈N):lF arcs (lN arcs s N.length)=lN arcs s N.length:=by
 refine PB λx v e=>?_
 obtain⟨l,w⟩:=SX (N.length+1) x v e
 obtain⟨m,d,w2,hd,nd⟩:=w.short pos
 have hl:=Rg.oY nd (w2.mem hs fr to)
 rw [List.length_cons] at hl
 obtain⟨u,e2,hu⟩:=w2.low
 obtain⟨z,e3,hz⟩:=Qf (arcs:=arcs) (s:=s) (j:=m.length) (k:=N.length) (by omega) x u e2
 exact⟨z,e3,by omega⟩
theorem JZ {k:Nat} (h:lF arcs (lN arcs s k)=lN arcs s k):∀j,lN arcs s (k+j)=lN arcs s k
 | 0=>rfl
 | j+1=>by show lF arcs (lN arcs s (k+j))=_;rw [JZ h j,h]
theorem Wo {k n:Nat} (h:lF arcs (lN arcs s k)=lN arcs s k) (h':lF arcs (lN arcs s n)=lN arcs s n):lN arcs s k=lN arcs s n:=by
 rcases Nat.le_total k n with z | z
 ·have:=JZ h (n - k)
  rw [Nat.add_sub_cancel' z] at this
  exact this.symm
 ·have:=JZ h' (k - n)
  rw [Nat.add_sub_cancel' z] at this
  exact this
end
structure Iz (N:List Str) (lt:List (Str×Int)):Prop where
 nd:(lt.map (·.1)).Nodup
 inN:∀x∈lt.map (·.1),x∈N
 v:∀e∈lt,0<=e.2/\e.2+1000000<=1000000 * (lt.length:Int)
noncomputable def Zt (kvs:List (Key×V)) (x:Str):Nat:=match bW kvs (Sum.inr x) with
 | some (.int v)=>v.toNat
 | _=>17000000
noncomputable def Vs (N:List Str) (kvs:List (Key×V)):Nat:=(N.map (Zt kvs)).sum
theorem U3 {f g:Str->Nat}:∀{N:List Str},(∀x∈N,g x<=f x)->(∃x∈N,g x <f x)->(N.map g).sum <(N.map f).sum
 | [],_,h=>by obtain⟨x,hx,_⟩:=h;cases hx
 | a:: r,h,h2=>by
  have le:∀r:List Str,(∀x∈r,g x<=f x)->(r.map g).sum<=(r.map f).sum:=λr=>by
   induction r with
   | nil=>intro _;exact Nat.le_refl _
   | cons b t ih=>
    intro q
    have h1:=q b List.mem_cons_self
    have h2:=ih λx hx=>q x (List.mem_cons_of_mem _ hx)
    rw [List.map_cons,List.map_cons,List.sum_cons,List.sum_cons]
    omega
  have ha:=h a List.mem_cons_self
  have hr:=λx hx=>h x (List.mem_cons_of_mem a hx)
  have l1:=le r hr
  rw [List.map_cons,List.map_cons,List.sum_cons,List.sum_cons]
  obtain⟨x,hx,hlt⟩:=h2
  rcases List.mem_cons.mp hx with rfl | hx
  ·omega
  ·have:=U3 hr ⟨x,hx,hlt⟩
   omega
theorem Pr (lt:List (Str×Int)) (x:Str) (v:Int) (y:Str):Zt (fC V.int (eX lt x v)) y=if y=x then v.toNat else Zt (fC V.int lt) y:=by
 unfold Zt
 rw [tW,tW,pL]
 by_cases h:y=x
 ·rw [if_pos h,if_pos h];rfl
 ·rw [if_neg h,if_neg h]
theorem Iz.step {N:List Str} {lt:List (Str×Int)} (h:Iz N lt) (hN:N.length<=16) {x y:Str} {v k:Int} (hx:cB lt x=some v) (hy:y∈N) (k0:0<=k) (k1:k<=1000000) (hlt:∀w,cB lt y=some w->v+k <w):
  Iz N (eX lt y (v+k))/\Vs N (fC V.int (eX lt y (v+k))) <Vs N (fC V.int lt):=by
 obtain⟨v0,v1⟩:=h.v _ (o9 hx)
 dsimp only at v0 v1
 have ll:=Rg.oY h.nd h.inN
 rw [lM] at ll
 have lp:lt.length<=(eX lt y (v+k)).length:=by
  by_cases hm:y∈lt.map (·.1)
  ·have:=congrArg List.length (Aq (b:=v+k) hm)
   rw [lM,lM] at this
   omega
  ·rw [qN _ hm,lP];omega
 refine⟨⟨Ol h.nd,λz hz=>?_,λe he=>?_⟩,U3 (λz _=>?_) ⟨y,hy,?_⟩⟩
 ·obtain⟨e,he,rfl⟩:=List.mem_map.mp hz
  rcases Fp he with h1 | h1
  ·exact h.inN _ (List.mem_map.mpr ⟨e,h1,rfl⟩)
  ·rw [h1];exact hy
 ·rcases Fp he with h1 | h1
  ·have:=h.v e h1
   omega
  ·subst h1
   refine⟨by show 0<=v+k;omega,?_⟩
   show v+k+1000000<=_
   by_cases hm:y∈lt.map (·.1)
   ·obtain⟨w,hw⟩:=Option.isSome_iff_exists.mp (jA.mpr hm)
    have:=hlt w hw
    have:=(h.v _ (o9 hw)).2
    dsimp only at this
    omega
   ·rw [qN _ hm,lP,List.length_singleton]
    omega
 ·rw [Pr]
  split
  ·rename_i e
   subst e
   unfold Zt
   rw [tW]
   cases hw:cB lt z with
   | none=>show(v+k).toNat<=17000000;omega
   | some w=>have:=hlt w hw;show(v+k).toNat<=w.toNat;omega
  ·exact Nat.le_refl _
 ·rw [Pr,if_pos rfl]
  unfold Zt
  rw [tW]
  cases hw:cB lt y with
  | none=>show(v+k).toNat <17000000;omega
  | some w=>have:=hlt w hw;show(v+k).toNat <w.toNat;omega
inductive um (K:PySem.W.Frag) (vs:List V) (H:Hp) (Q:VK) (E:XK):Prop where
 | mk:∀(L:Addr) (x:Str) (N:List Str) (ra:List AA),vs=[.ref L,.str x]->fU H L ra->ra.length<=100->Il N ra->x∈N->N.length<=16->(∀H' D lt,aO H H'->H D=none->H' D=some (.dK (fC V.int lt))->Iz N lt->lt=lN (ra.map (·.1)) x N.length->Q (.ref D) H')->um K vs H Q E
theorem Cp (T:Txt w K mg t):FO P w K mg base 1 t.vo ["arcs", "start"] (um K):=by
 have sc:=T.o7.sc ["arcs", "start", "least", "grown", "arc"]
 refine T.o7.F.ok sc ln (λ_ _ _ _ H vs Q E hr h=>?_)
 obtain⟨L,x,N,ra,rfl,A,hra,AI,hxN,hN,k⟩:=h
 refine⟨_,(ao (sN sc 2 (Oq (Ld (pv 1) aB Pq) rfl rfl (by simp) (by decide)))
  (ao (sN sc 3 qT)
  (ao (vC PassesOwn.never (lW (pv 3))
   (ao (sN sc 3 qT)
   (au (cX PassesOwn.never rfl (bH (pv 0)) (gN sc 4)
    (au (wH (b7 (PW.pt (Nq (fP (uM hr.u1 (aU aY (pv 4) aB (λ_ _=>rfl)) (pv 2))) (Jt (bD G7 (bB fu (bM hr.u1 (pv 2) (aU aY (pv 4) aB (λ_ _=>rfl)) (λ_ _=>rfl)) (aU aY (pv 4) aB (λ_ _=>rfl))) (Mp hr.u1 (pv 2) (aU aY (pv 4) aB (λ_ _=>rfl)) (bB fu (bB fu (bM hr.u1 (pv 2) (aU aY (pv 4) aB (λ_ _=>rfl)) (λ_ _=>rfl)) (aU aY (pv 4) aB (λ_ _=>rfl))) aB) ⟨rfl,rfl,rfl,rfl⟩) (cz _)))))
     (ao (d7 hr.u1 (pv 2) (aU aY (pv 4) aB (λ_ _=>rfl)) (bB fu (bM hr.u1 (pv 2) (aU aY (pv 4) aB (λ_ _=>rfl)) (λ_ _=>rfl)) (aU aY (pv 4) aB (λ_ _=>rfl))) rfl)
     (au (sN sc 3 qT)))
     bu)))))))
  (au (aQ (pv 2)))))),?_⟩
 have hz:sizeLine=16777216:=sizeLine_eq
 refine λD nD=>⟨_,rfl,ak,[((Sum.inr x:Key),V.int 0)],rfl,by show 1<=15;decide,?_⟩
 rw [kI]
 have c0:=zG (az (o:=.dK (oM [] [((Sum.inr x:Key),V.int 0)])) nD) nD
 have e0:(upd H D (.dK (oM [] [((Sum.inr x:Key),V.int 0)]))) D=some (.dK (fC V.int [(x,0)])):=ak
 generalize upd H D (.dK (oM [] [((Sum.inr x:Key),V.int 0)]))=H0 at c0 e0 ⊢
 have ok0:Iz N [(x,0)]:=⟨by simp,by simpa using hxN,by simp⟩
 refine vy (λσ H'=>aO H (bf [D] H')/\∃b v4 lt,σ=[some (.ref L),some (.str x),some (.ref D),some (.bl b),v4]/\H' D=some (.dK (fC V.int lt))/\Iz N lt/\(∃m,lt=lN (ra.map (·.1)) x m)/\(b=false->lF (ra.map (·.1)) lt=lt))
  (λσ H'=>match σ with | [_,_,_,some (.bl b),_]=>(if b then 1 else 0)+2 * Vs N (Kz H' D) | _=>0) ⟨c0,true,none,_,rfl,e0,ok0,⟨0,rfl⟩,λz=>by cases z⟩ ?_ ?_
 ·rintro σ H1 ⟨s1,b,v4,lt,rfl,eD,ok,⟨m,hm⟩,hfx⟩
  have sH:=s1.trans bY
  cases b with
  | false=>exact⟨_,rfl,_,rfl,dq ⟨_,rfl,k _ D lt sH nD eD ok (by rw [hm] at hfx ⊢;exact Wo (hfx rfl) (Ve (λa ha=>by obtain⟨q,hq,rfl⟩:=List.mem_map.mp ha;exact AI.tk0 q hq) hxN (λa ha=>by obtain⟨q,hq,rfl⟩:=List.mem_map.mp ha;exact AI.fr q hq) λa ha=>by obtain⟨q,hq,rfl⟩:=List.mem_map.mp ha;exact AI.to q hq))⟩⟩
  | true=>
   refine⟨_,rfl,_,rfl,iT ?_⟩
   refine⟨_,rfl,L,rfl,⟨_,bI.of (sH _ _ A.lst)⟩,?_⟩
   refine cY (K:=K) (a:=L) (xs:=ra.map λq=>V.ref q.2) (λj σ H'=>aO H (bf [D] H')/\∃b v4 lt',σ=[some (.ref L),some (.str x),some (.ref D),some (.bl b),v4]/\H' D=some (.dK (fC V.int lt'))/\Iz N lt'/\lt'=lF ((ra.take j).map (·.1)) lt/\((b=false/\lt'=lt)∨(b=true/\Vs N (fC V.int lt') <Vs N (fC V.int lt)))) ⟨s1,false,v4,lt,rfl,eD,ok,rfl,.inl ⟨rfl,rfl⟩⟩ (λj σ H' _ h=>bI.of (bY _ _ (h.1 _ _ A.lst))) ?_ ?_
   ·rintro j y σ H' hx ⟨s',b,v4,lt',rfl,eD',ok',hlF,hv⟩
    obtain⟨a,haj,rfl,ea⟩:=(A.same (s'.trans bY)).get hx
    have ham:=List.mem_of_getElem? haj
    have hlS:lF ((ra.take (j+1)).map (·.1)) lt=lS lt' a.1:=by
     rw [hlF,List.take_succ,haj,Option.toList_some,List.map_append]
     unfold lF
     rw [List.foldl_append]
     rfl
    refine⟨λσ2 H2=>aO H (bf [D] H2)/\∃b v4 lt',σ2=[some (.ref L),some (.str x),some (.ref D),some (.bl b),v4]/\H2 D=some (.dK (fC V.int lt'))/\Iz N lt'/\lt'=lF ((ra.take (j+1)).map (·.1)) lt/\((b=false/\lt'=lt)∨(b=true/\Vs N (fC V.int lt') <Vs N (fC V.int lt))),?_,λ_ _ h=>h⟩
    have g1:=jg eD' a.1.fr
    have g2:=jg eD' a.1.to
    refine⟨_,rfl,a.2,_,0,_,rfl,rfl,cP.of ea,aM (j:=0) rfl,_,rfl,D,_,rfl,g1,_,rfl,?_⟩
    cases hf:cB lt' a.1.fr with
    | none=>exact dq (dq ⟨s',b,_,lt',rfl,eD',ok',by rw [hlS];unfold lS;rw [hf],hv⟩)
    | some v=>
     rw [hf] at g1
     refine iT ?_
     refine⟨_,rfl,_,rfl,a.2,_,0,_,rfl,rfl,cP.of ea,aM (j:=0) rfl,D,_,rfl,g1,_,rfl,a.2,_,2,_,rfl,rfl,cP.of ea,aM (j:=2) rfl,v,a.1.tk,rfl,rfl,_,rfl,D,rfl,.inl ⟨_,.inl eD'⟩,_,rfl,a.2,_,1,_,rfl,rfl,cP.of ea,aM (j:=1) rfl,_,rfl,_,rfl,a.2,_,0,_,rfl,rfl,cP.of ea,aM (j:=0) rfl,D,_,rfl,g1,_,rfl,a.2,_,2,_,rfl,rfl,cP.of ea,aM (j:=2) rfl,v,a.1.tk,rfl,rfl,v+a.1.tk,1,rfl,rfl,_,g2,?_⟩
     obtain⟨w,hw,hwg,hw2⟩:∃w:Int,((cB lt' a.1.to).map V.int).getD (.int (v+a.1.tk+1))=.int w/\w=(cB lt' a.1.to).getD (v+a.1.tk+1)/\(v+a.1.tk <w->∀u,cB lt' a.1.to=some u->v+a.1.tk <u):=by
      cases e:cB lt' a.1.to with
      | none=>exact⟨_,rfl,rfl,λ_ u z=>by cases z⟩
      | some u=>exact⟨u,rfl,rfl,λh u' z=>by cases z;exact h⟩
     rw [hw]
     refine⟨v+a.1.tk,w,rfl,rfl,_,rfl,uB (λh=>?_) (λh=>?_)⟩
     ·have h:v+a.1.tk <w:=of_decide_eq_true h
      obtain⟨ok2,lt2⟩:=ok'.step hN hf (AI.to a ham) (AI.tk0 a ham) (AI.tk1 a ham) (hw2 h)
      have ll:=Rg.oY ok'.nd ok'.inN
      rw [lM] at ll
      refine⟨_,rfl,_,rfl,a.2,_,0,_,rfl,rfl,cP.of ea,aM (j:=0) rfl,D,_,rfl,g1,_,rfl,a.2,_,2,_,rfl,rfl,cP.of ea,aM (j:=2) rfl,v,a.1.tk,rfl,rfl,_,rfl,_,rfl,a.2,_,1,_,rfl,rfl,cP.of ea,aM (j:=1) rfl,D,_,rfl,lJ.k (k:=Sum.inr a.1.to) eD' (by rw [pX];omega),?_⟩
      rw [rK]
      refine⟨by rw [iQ (by simp)];exact s',true,_,eX lt' a.1.to (v+a.1.tk),rfl,ak,ok2,by rw [hlS];unfold lS;rw [hf];exact(if_pos (by rw [<-hwg];exact h)).symm,.inr ⟨rfl,?_⟩⟩
      rcases hv with ⟨_,rfl⟩ | ⟨_,hv⟩
      ·exact lt2
      ·omega
     ·exact⟨s',b,_,lt',rfl,eD',ok',by rw [hlS];unfold lS;rw [hf];exact(if_neg (by rw [<-hwg];exact λz=>h (decide_eq_true z))).symm,hv⟩
   ·rintro σ H' ⟨s',b,v4',lt',rfl,eD',ok',hlF,hv⟩
    rw [lM,List.take_length] at hlF
    refine⟨⟨s',b,v4',lt',rfl,eD',ok',⟨m+1,by rw [hlF,hm];rfl⟩,λz=>?_⟩,?_⟩
    ·rcases hv with ⟨_,e⟩ | ⟨e,_⟩
     ·rw [e] at hlF ⊢
      exact hlF.symm
     ·rw [e] at z;cases z
    show(if b=true then 1 else 0)+2 * Vs N (Kz _ D) <(if true=true then 1 else 0)+2 * Vs N (Kz _ D)
    rw [Df eD',Df eD]
    rcases hv with ⟨rfl,rfl⟩ | ⟨rfl,h⟩
    ·simp
    ·simp;omega
 ·intro σ H' Q' Q'' hm hq
  obtain⟨v,e,b,e2,q⟩:=hq
  exact⟨v,e,b,e2,hm _ _ q⟩
theorem Eu (ls:List aF) (ps:List PD) (hl:ls.length<=24) (hp:ps.length<=16):(bG ls ps).length<=64:=by
 unfold bG
 rw [lP,Al,lM]
 omega
noncomputable def pS (as:List AA):Int:=dZ as / Int.gcd (dZ as) (as.length:Nat)
noncomputable def qS (as:List AA):Int:=(as.length:Nat) / Int.gcd (dZ as) (as.length:Nat)
theorem len_pos {as:List AA} (ne:as≠[]):1<=as.length:=by
 cases as with
 | nil=>exact absurd rfl ne
 | cons a r=>simp
theorem JD {as:List AA} (ne:as≠[]):0 <qS as:=by
 have h1:=len_pos ne
 have g0:=wO (a:=dZ as) (b:=(as.length:Nat)) (by omega)
 have g1:=S8 (a:=dZ as) (b:=(as.length:Nat)) (by omega)
 unfold qS
 exact Int.ediv_pos_of_pos_of_dvd (by omega) (by omega) (Int.gcd_dvd_right ..)
theorem XF {as:List AA} (ok:Lh as) (ne:as≠[]):0<=qS as/\qS as<=1000000:=by
 refine⟨Int.le_of_lt (JD ne),?_⟩
 have h1:=len_pos ne
 have g0:=wO (a:=dZ as) (b:=(as.length:Nat)) (by omega)
 have h2:=ok.len
 have:qS as<=(as.length:Nat):=Int.ediv_le_self _ (by omega)
 omega
theorem Ny (p q:Int):∀as:List AA,(as.map (cW p q)).sum=p * (as.length:Int) - q * dZ as
 | []=>by simp [dZ]
 | a:: r=>by
  have ih:=Ny p q r
  have e:dZ (a:: r)=a.1.tk+dZ r:=rfl
  rw [List.map_cons,List.sum_cons,ih,e,List.length_cons,Int.mul_add]
  have:p * ((r.length+1:Nat):Int)=p * (r.length:Int)+p:=by rw [Int.natCast_add,Int.mul_add];simp
  rw [this]
  unfold cW
  omega
theorem Oi:∀n:Fin 17,n.val=0∨((n.val:Int) * (720720 / (n.val:Int))=720720/\0 <720720 / (n.val:Int)):=by decide
structure Rc (ra as:List AA):Prop where
 ne:as≠[]
 len:as.length<=16
 mem:∀a∈as,a∈ra
theorem Rc.tk {N:List Str} {ra as:List AA} (h:Rc ra as) (AI:Il N ra):Lh as:=⟨by have:=h.len;omega,λa ha=>⟨AI.tk0 a (h.mem a ha),AI.tk1 a (h.mem a ha)⟩⟩
theorem Qv {N:List Str} {ra as as':List AA} (AI:Il N ra) (h:Rc ra as) (h':Rc ra as') (pos:0 <(as'.map (cW (pS as) (qS as))).sum):(dZ as' * (720720 / (as'.length:Int))).toNat <(dZ as * (720720 / (as.length:Int))).toNat:=by
 have l1:=len_pos h.ne
 have l2:=len_pos h'.ne
 have t0:=(h.tk AI).sum.1
 have t0':=(h'.tk AI).sum.1
 have hq:=JD h.ne
 have hp:pS as * (as.length:Int)=dZ as * qS as:=red (by omega)
 rw [Ny] at pos
 obtain⟨c1,d1⟩:=(Oi ⟨as.length,by have:=h.len;omega⟩).resolve_left (by show ¬as.length=0;omega)
 obtain⟨c2,d2⟩:=(Oi ⟨as'.length,by have:=h'.len;omega⟩).resolve_left (by show ¬as'.length=0;omega)
 dsimp only at c1 c2 d1 d2
 generalize pS as=p at *
 generalize qS as=q at *
 generalize dZ as=a at *
 generalize dZ as'=a' at *
 generalize 720720 / (as.length:Int)=c at *
 generalize 720720 / (as'.length:Int)=c' at *
 generalize (as.length:Int)=b at *
 generalize (as'.length:Int)=b' at *
 have e1:(q * a') * (c' * 720720) <(p * b') * (c' * 720720):=Int.mul_lt_mul_of_pos_right (by omega) (Int.mul_pos d2 (by decide))
 have e2:(p * b') * (c' * 720720)=(q * 720720) * (a * c):=by
  have x1:(p * b') * (c' * 720720)=p * (b' * c') * 720720:=by ac_rfl
  have x2:(q * 720720) * (a * c)=(a * q) * c * 720720:=by ac_rfl
  have x3:(p * b) * c * 720720=p * (b * c) * 720720:=by ac_rfl
  rw [x1,x2,<-hp,x3,c1,c2]
 have e3:(q * a') * (c' * 720720)=(q * 720720) * (a' * c'):=by ac_rfl
 rw [e2,e3] at e1
 have e4:a' * c' <a * c:=Int.lt_of_mul_lt_mul_left e1 (by omega)
 have e5:0<=a' * c':=Int.mul_nonneg t0' (Int.le_of_lt d2)
 omega
noncomputable def Em (H:Hp) (L:Addr):Nat:=match H L with
 | some (.lst xs)=>((xs.map λv=>match v with | .ref q=>(match H q with | some (.tup (_:: _:: .int k:: _))=>k | _=>0) | _=>0).sum * (720720 / (xs.length:Int))).toNat
 | _=>0
theorem zR {H:Hp} {L:Addr} {as:List AA} (A:fU H L as):Em H L=(dZ as * (720720 / (as.length:Int))).toNat:=by
 unfold Em
 rw [A.lst]
 dsimp only
 rw [List.map_map,lM]
 congr 2
 unfold dZ
 congr 1
 refine List.map_congr_left λa ha=>?_
 dsimp only [Function.comp]
 rw [A.at_ a ha]
 rfl
theorem Rk {ls:List aF} {ps:List PD} {ra:List AA} (F:uD ls ps) (era:ra.map (·.1)=bG ls ps):Il (ps.map (·.name)) ra:=by
 have ono:(ps.flatMap (·.outs)).Nodup:=F.whole.outs.nodup_iff.mpr F.whole.nod
 have ini:(ps.flatMap (·.ins)).Nodup:=F.whole.ins.nodup_iff.mpr F.whole.nod
 have eo:∀l∈ls,qG (·.outs) ps l.name∈ps.map (·.name):=λl hl=>by
  obtain⟨p,hp,lp⟩:=List.mem_flatMap.mp (F.whole.outs.mem_iff.mpr (List.mem_map.mpr ⟨l,hl,rfl⟩))
  rw [ph ono hp lp]
  exact List.mem_map.mpr ⟨p,hp,rfl⟩
 have ei:∀l∈ls,qG (·.ins) ps l.name∈ps.map (·.name):=λl hl=>by
  obtain⟨p,hp,lp⟩:=List.mem_flatMap.mp (F.whole.ins.mem_iff.mpr (List.mem_map.mpr ⟨l,hl,rfl⟩))
  rw [ph ini hp lp]
  exact List.mem_map.mpr ⟨p,hp,rfl⟩
 have key:∀a∈ra,a.1.fr∈ps.map (·.name)/\a.1.to∈ps.map (·.name)/\0<=a.1.tk/\a.1.tk<=1000000:=λa ha=>by
  have h1:a.1∈bG ls ps:=by rw [<-era];exact List.mem_map.mpr ⟨a,ha,rfl⟩
  unfold bG at h1
  rcases List.mem_append.mp h1 with h | h
  ·obtain⟨l,hl,h⟩:=List.mem_flatMap.mp h
   obtain⟨r1,r2,r3,_⟩:=F.lok l hl
   unfold lH at h
   simp only [List.mem_cons,List.not_mem_nil,or_false] at h
   rcases h with h | h <;> rw [h]
   ·exact⟨eo l hl,ei l hl,by show(0:Int)<=(l.first.length:Nat);omega,by show((l.first.length:Nat):Int)<=_;omega⟩
   ·exact⟨ei l hl,eo l hl,by show(0:Int)<=l.room - (l.first.length:Nat);omega,by show l.room - ((l.first.length:Nat):Int)<=_;omega⟩
  ·obtain⟨p,hp,h⟩:=List.mem_map.mp h
   rw [<-h]
   exact⟨List.mem_map.mpr ⟨p,hp,rfl⟩,List.mem_map.mpr ⟨p,hp,rfl⟩,by show(0:Int)<=1;decide,by show(1:Int)<=1000000;decide⟩
 exact⟨⟨λa ha=>(key a ha).1,λa ha=>(key a ha).2.1⟩,λa ha=>(key a ha).2.2.1,λa ha=>(key a ha).2.2.2⟩
noncomputable def UV (cs:List iM):Int:=(cs.map (·.tk)).sum
noncomputable def pA (cs:List iM):Int:=UV cs / Int.gcd (UV cs) (cs.length:Nat)
noncomputable def qA (cs:List iM):Int:=(cs.length:Nat) / Int.gcd (UV cs) (cs.length:Nat)
theorem zL (as:List AA):dZ as=UV (as.map (·.1)):=by unfold dZ UV;rw [List.map_map];rfl
theorem Pj (as:List AA):pS as=pA (as.map (·.1)):=by unfold pS pA;rw [zL,lM]
theorem P0 (as:List AA):qS as=qA (as.map (·.1)):=by unfold qS qA;rw [zL,lM]
noncomputable def Vq (arcs:List iM) (names:List Str):Nat->List iM->Prop
 | 0,cs=>cs=arcs.getLast?.toList
 | m+1,cs=>∃ds,Vq arcs names m ds/\qH (pA ds) (qA ds) arcs names cs
theorem Vq.one {arcs:List iM} {names:List Str}:∀{m:Nat} {cs ds:List iM},Vq arcs names m cs->Vq arcs names m ds->cs=ds
 | 0,_,_,h,h'=>h.trans h'.symm
 | m+1,_,_,⟨_,h1,h2⟩,⟨_,h3,h4⟩=>by
  rw [Vq.one h3 h1] at h4
  exact h2.one h4
theorem Vq.down {arcs:List iM} {names:List Str} {m:Nat}:∀{n:Nat} {cs:List iM},Vq arcs names n cs->m <n->∃ds es,Vq arcs names m ds/\qH (pA ds) (qA ds) arcs names es
 | n+1,cs,⟨ds,h1,h2⟩,h=>by
  rcases Nat.eq_or_lt_of_le (Nat.le_of_lt_succ h) with z | z
  ·subst z;exact⟨ds,cs,h1,h2⟩
  ·exact h1.down z
inductive yP (arcs:List iM) (names:List Str) (cs:List iM) (tm:List (Str×Int)):Prop where
 | mk:∀m,Vq arcs names m cs->mZ (pA cs) (qA cs) arcs names tm->yP arcs names cs tm
theorem yP.one {arcs:List iM} {names:List Str} {cs ds:List iM} {tm tn:List (Str×Int)} (h:yP arcs names cs tm) (h':yP arcs names ds tn):cs=ds/\tm=tn:=by
 obtain⟨m,s,t⟩:=h
 obtain⟨n,s',t'⟩:=h'
 have e:m=n:=by
  rcases Nat.lt_trichotomy m n with z | z | z
  ·obtain⟨d1,e1,q1,q2⟩:=s'.down z
   rw [q1.one s] at q2
   exact(t.no q2).elim
  ·exact z
  ·obtain⟨d1,e1,q1,q2⟩:=s.down z
   rw [q1.one s'] at q2
   exact(t'.no q2).elim
 subst e
 have:=s.one s'
 subst this
 exact⟨rfl,t.one t'⟩
structure Qu (ns:List Str) (ra as:List AA):Prop extends Rc ra as where
 cyc:QR (as.map (·.1))
 le:dZ as<=(as.length:Nat)
 sh:∃m,Vq (ra.map (·.1)) ns m (as.map (·.1))
structure aaj (p q:Int) (ns:List Str) (ra:List AA) (tm:List (Str×Int)):Prop where
 keys:tm.map (·.1)=ns
 sat:∀a∈ra,tF tm a.1.fr+cW p q a<=tF tm a.1.to
 pos:∀x,0<=tF tm x
 is:mZ p q (ra.map (·.1)) ns tm
theorem Pu {as:List AA} (ne:as≠[]) (h:dZ as<=(as.length:Nat)):pS as<=qS as:=by
 have h1:=len_pos ne
 have g0:=wO (a:=dZ as) (b:=(as.length:Nat)) (by omega)
 unfold pS qS
 exact Int.ediv_le_ediv (by omega) h
theorem Qu.next {ns:List Str} {ra as as2:List AA} (h:Qu ns ra as) (hl:ns.length<=16) (r:KR (pS as) (qS as) ns ra as2) (o:qH (pS as) (qS as) (ra.map (·.1)) ns (as2.map (·.1))) (c:QR (as2.map (·.1))):Qu ns ra as2:=by
 have hp:=Pu h.ne h.le
 have hq:=JD h.ne
 have pos:=r.pos
 rw [Ny] at pos
 obtain⟨m,hm⟩:=h.sh
 rw [Pj,P0] at o
 refine⟨⟨r.ne,by have:=r.len;omega,r.mem⟩,c,Int.not_lt.mp λz=>?_,m+1,_,hm,o⟩
 have h1:pS as * (as2.length:Int)<=qS as * (as2.length:Int):=Int.mul_le_mul_of_nonneg_right hp (by omega)
 have h2:qS as * (as2.length:Int)<=qS as * dZ as2:=Int.mul_le_mul_of_nonneg_left (Int.le_of_lt z) (Int.le_of_lt hq)
 omega
structure ZQ (H H':Hp) (R D1 D2:Addr) (ls:List aF) (ps:List PD) (as:List AA) (tm lt:List (Str×Int)):Prop where
 arcs:fU H' R as
 nR:H R=none
 n1:H D1=none
 n2:H D2=none
 nD:D1≠D2
 e1:H' D1=some (.dK (fC V.int tm))
 e2:H' D2=some (.dK (fC V.int lt))
 ne:as≠[]
 len:as.length<=16
 mem:∀a∈as,a.1∈bG ls ps
 cyc:QR (as.map (·.1))
 le:dZ as<=(as.length:Nat)
 keys:tm.map (·.1)=ps.map (·.name)
 pos:∀x,0<=tF tm x
 sat:∀a∈bG ls ps,tF tm a.fr+(pS as - qS as * a.tk)<=tF tm a.to
 is:yP (bG ls ps) (ps.map (·.name)) (as.map (·.1)) tm
 lok:Iz (ps.map (·.name)) lt
 lt_:∀a r,as=a:: r->lt=lN (bG ls ps) a.1.fr (ps.map (·.name)).length
inductive Ky (K:PySem.W.Frag) (t:jw) (vs:List V) (H:Hp) (Q:VK) (E:XK):Prop where
 | mk:∀(n:Addr) (ls:List aF) (ps:List PD),vs=[.ref n]->gJ K t H n ls ps->Gq ps=.non->(∀H' T R D1 D2 as tm lt,aO H H'->H' T=some (.tup [.int (pS as),.int (qS as),.ref R,.ref D1,.ref D2])->ZQ H H' R D1 D2 ls ps as tm lt->Q (.ref T) H')->Ky K t vs H Q E
theorem TJ (T:Txt w K mg t):FO P w K mg base 6 t.Om ["net"] (Ky K t):=by
 have sc:=T.Jw.sc ["net", "arcs", "ring", "told", "fraction"]
 refine T.Jw.F.ok sc ln (λ_ _ _ _ H vs Q E hr h=>?_)
 obtain⟨n,ls,ps,rfl,N,ho,k⟩:=h
 refine⟨_,(ao (sN sc 1 (jd (Ds T) T.wQ hr (aa (pv 0) aq aj)))
  (ao (sN sc 2 (dm (aa (aU cC (pv 1) (aay Yh aB) (λ_ _=>rfl)) aq aH)))
  (ao (wH (sN sc 3 (jd (rn T) T.jc hr (aa (Nz (pv 0) T.aR T.aR.me.2.2.1 (dw T) T.cj hr) (aa (pv 1) (aa (jd (oG T) T.iY hr (aa (pv 2) aq aj)) aq bz) aj) bz))))
  (ao (vC PassesOwn.never (bD jO (aU aY (pv 3) aB (λ_ _=>rfl)) bT (cz _))
   (ao (sN sc 2 (aU aY (pv 3) aB (λ_ _=>rfl)))
   (au (sN sc 3 (jd (rn T) T.jc hr (aa (Nz (pv 0) T.aR T.aR.me.2.2.1 (dw T) T.cj hr) (aa (pv 1) (aa (jd (oG T) T.iY hr (aa (pv 2) aq aj)) aq bz) aj) bz))))))
  (ao (sN sc 4 (jd (oG T) T.iY hr (aa (pv 2) aq aj)))
  (au (aQ (bL (aa (aU aY (pv 4) aB (λ_ _=>rfl)) (aa (aU aY (pv 4) aB (λ_ _=>rfl)) (aa (pv 2) (aa (aU aY (pv 3) aB (λ_ _=>rfl)) (aa (jd (Cp T) T.o7 hr (aa (pv 1) (aa (aU aY (aU cC (pv 2) aB (λ_ _=>rfl)) aB (λ_ _=>rfl)) aq aH) aj)) aq bz) aH) aj) aH) aH))))))))),?_⟩
 obtain⟨dx,fs,R,F,Pd,G,Tk,FL,PL,W⟩:=id N
 have hz:sizeLine=16777216:=sizeLine_eq
 have p16:=W.fit.p16
 have p1:=W.fit.p1
 refine hide λu hu=>?_
 refine⟨_,rfl,n,ls,ps,rfl,N,.inl ⟨ho,λH1 L ra s1 nL A era=>?_⟩⟩
 have hra:ra.length<=100:=by
  have:=congrArg List.length era
  rw [lM] at this
  rw [this]
  exact Nat.le_trans (Eu _ _ W.fit.l24 p16) (by decide)
 have AI:=Rk W.fit era
 have en:ps.map (λx=>V.str x.name)=(ps.map (·.name)).map V.str:=by rw [List.map_map];rfl
 obtain⟨ns,hns⟩:∃ns,ps.map (·.name)=ns:=⟨_,rfl⟩
 have n16:ns.length<=16:=by rw [<-hns,lM];exact p16
 have n1:1<=ns.length:=by rw [<-hns,lM];exact p1
 have nnd:ns.Nodup:=by rw [<-hns];exact W.fit.pnd
 rw [hns] at AI en
 obtain⟨rb,la,hla⟩:∃rb la,ra=rb ++ [la]:=by
  have:ra≠[]:=λz=>by
   rw [z] at era
   have:=congrArg List.length era
   unfold bG at this
   rw [lP,lM,lM,List.length_nil] at this
   omega
  exact⟨ra.dropLast,ra.getLast this,(List.dropLast_concat_getLast this).symm⟩
 have mla:la∈ra:=by rw [hla];simp
 refine iR (v:=u) hu λu hu=>?_
 refine⟨_,rfl,_,rfl,L,_, -1,.ref la.2,rfl,rfl,bI.of A.lst,by rw [hla,List.map_append];exact RQ _ _,rJ,λR nR=>?_⟩
 have tR:=az (o:=.lst [.ref la.2]) nR
 have AR:fU (upd H1 R (.lst [.ref la.2])) R [la]:=⟨ak,λq hq=>by rw [List.mem_singleton] at hq;subst hq;exact tR _ _ (A.at_ _ mla)⟩
 have rk0:Rc ra [la]:=⟨by simp,by simp,λa ha=>by rw [List.mem_singleton] at ha;subst ha;exact mla⟩
 have A:=A.same tR
 have s2:=s1.trans tR
 generalize upd H1 R (.lst [.ref la.2])=H2 at tR AR A s2 ⊢
 have nR0:H R=none:=s1.free nR
 have last:la.1.fr=la.1.to/\la.1.tk=1/\(ra.map (·.1)).getLast?.toList=[la.1]:=by
  have e1:(ra.map (·.1)).getLast?=some la.1:=by rw [hla,List.map_append];exact List.getLast?_concat ..
  refine⟨?_,?_,by rw [e1];rfl⟩
  all_goals
   rw [era] at e1
   unfold bG at e1
   have hne:ps≠[]:=λz=>by rw [z] at p1;simp at p1
   rw [List.getLast?_append,List.getLast?_map,List.getLast?_eq_some_getLast hne] at e1
   have e2:Bj (ps.getLast hne)=la.1:=Option.some.inj e1
   rw [<-e2]
   rfl
 have sk0:Qu ns ra [la]:=⟨rk0,(λi c hc=>by
  cases i with
  | zero=>cases hc;exact⟨la.1,rfl,last.1⟩
  | succ i=>cases hc),by show la.1.tk+0<=((1:Nat):Int);rw [last.2.1];decide,0,last.2.2.symm⟩
 refine iR (v:=u) hu λu hu=>?_
 refine⟨λσ H'=>aO H H'/\fU H' L ra/\∃(R Td:Addr) (as:List AA),(∃v4,σ=[some (.ref n),some (.ref L),some (.ref R),some (.ref Td),v4])/\fU H' R as/\H R=none/\Qu ns ra as/\((∃D tm,H' Td=some (.tup [.str "times",.ref D])/\H D=none/\H' D=some (.dK (fC V.int tm))/\aaj (pS as) (qS as) ns ra tm)∨∃Lr as2,H' Td=some (.tup [.str "ring",.ref Lr])/\H Lr=none/\fU H' Lr as2/\KR (pS as) (qS as) ns ra as2/\qH (pS as) (qS as) (ra.map (·.1)) ns (as2.map (·.1))/\QR (as2.map (·.1))),?_,?_⟩
 ·have Wx:=W.same s2
  refine⟨_,rfl,n,dx,fs,rfl,Wx.obj,Wx.fl.no _ (by decide +kernel),n,ls,ps,rfl,Wx.s,λLn nLn=>?_⟩
  rw [en]
  have tn:=az (o:=.lst (ns.map V.str)) nLn
  have An:=A.same tn
  have ARn:=(AR).same tn
  have sn:=(s2).trans tn
  have eLn:upd H2 Ln (.lst (ns.map V.str)) Ln=some (.lst (ns.map V.str)):=ak
  generalize upd H2 Ln (.lst (ns.map V.str))=Hn at tn An ARn sn eLn ⊢
  refine⟨_,rfl,_,rfl,R,[la],rfl,ARn,(rk0).tk AI,(rk0).ne,λHf F sf eF=>?_⟩
  have qk:=XF ((rk0).tk AI) (rk0).ne
  refine⟨Ln,L,F,ns,ra,pS [la],qS [la],rfl,sf _ _ eLn,nnd,n1,n16,An.same sf,hra,eF,qk.1,qk.2,AI.toUb,λHk Td D tm sk eTd nD eD hk hsat h0 hti=>?_,λHk Td Lx ax sk eTd nLr Ax RAx hro hcy=>?_⟩
  ·exact⟨sn.trans (sf.trans sk),An.same (sf.trans sk),R,Td,[la],⟨_,rfl⟩,ARn.same (sf.trans sk),nR0,sk0,.inl ⟨D,tm,eTd,(sn.trans sf).free nD,eD,⟨hk,hsat,h0,hti⟩⟩⟩
  ·exact⟨sn.trans (sf.trans sk),An.same (sf.trans sk),R,Td,[la],⟨_,rfl⟩,ARn.same (sf.trans sk),nR0,sk0,.inr ⟨Lx,ax,eTd,(sn.trans sf).free nLr,Ax,RAx,hro,hcy⟩⟩
 rintro σ H3 hJ
 refine iR (v:=u) hu λu hu=>?_
 refine vy (λσ H'=>aO H H'/\fU H' L ra/\∃(R Td:Addr) (as:List AA),(∃v4,σ=[some (.ref n),some (.ref L),some (.ref R),some (.ref Td),v4])/\fU H' R as/\H R=none/\Qu ns ra as/\((∃D tm,H' Td=some (.tup [.str "times",.ref D])/\H D=none/\H' D=some (.dK (fC V.int tm))/\aaj (pS as) (qS as) ns ra tm)∨∃Lr as2,H' Td=some (.tup [.str "ring",.ref Lr])/\H Lr=none/\fU H' Lr as2/\KR (pS as) (qS as) ns ra as2/\qH (pS as) (qS as) (ra.map (·.1)) ns (as2.map (·.1))/\QR (as2.map (·.1)))) (λσ H'=>match σ with | [_,_,some (.ref R),_,_]=>Em H' R | _=>0) hJ ?_ ?_
 ·rintro σ H' ⟨s',A,R,Td,as,⟨v4,rfl⟩,AR,nR0,rk,hT⟩
  rcases hT with ⟨D,tm,eTd,nD,eD,tmk⟩ | ⟨Lr,as2,eTd,nLr0,A2,RA,hro,hcy⟩
  ·refine⟨_,rfl,Td,_,0,_,rfl,rfl,cP.of eTd,aM (j:=0) rfl,rfl,_,rfl,dz (by decide +kernel) ?_⟩
   refine iR (v:=u) hu λu hu=>?_
   refine⟨_,rfl,R,as,rfl,AR,rk.toRc.tk AI,rk.ne,λH4 F s4 eF=>?_⟩
   obtain⟨a0,ar,has⟩:=List.exists_cons_of_ne_nil rk.ne
   have AR4:=AR.same s4
   have ma:a0∈as:=by rw [has];exact List.mem_cons_self
   have m0:=rk.mem a0 ma
   have l0:(as.map λq=>V.ref q.2)[0]?=some (.ref a0.2):=by rw [has];rfl
   subst hu
   refine⟨_,rfl,F,_,0,_,rfl,rfl,cP.of eF,aM (j:=0) rfl,_,rfl,F,_,1,_,rfl,rfl,cP.of eF,aM (j:=1) rfl,_,rfl,_,rfl,Td,_,1,_,rfl,rfl,cP.of (s4 _ _ eTd),aM (j:=1) rfl,_,rfl,_,rfl,R,_,0,_,rfl,rfl,bI.of AR4.lst,aM (j:=0) l0,a0.2,_,0,_,rfl,rfl,cP.of (AR4.at_ a0 ma),aM (j:=0) rfl,L,a0.1.fr,ns,ra,rfl,A.same s4,hra,AI,AI.fr a0 m0,n16,λH5 D5 lt s5 nD5 eD5 ok5 hlt=>⟨rJ,λT' nT=>?_⟩⟩
   have tT:=az (o:=.tup [.int (pS as),.int (qS as),.ref R,.ref D,.ref D5]) nT
   have s45:=s4.trans (s5.trans tT)
   obtain⟨m,hm⟩:=rk.sh
   have is:=tmk.is
   rw [Pj,P0] at is
   rw [era] at hm is hlt
   rw [<-hns] at hm is hlt ok5
   refine k _ T' R D D5 as tm lt (s'.trans s45) ak ⟨AR.same s45,nR0,nD,(s'.trans s4).free nD5,aC (s4 _ _ eD) nD5,s45 _ _ eD,tT _ _ eD5,rk.ne,rk.len,λa ha=>?_,rk.cyc,rk.le,by rw [tmk.keys,hns],tmk.pos,λa ha=>?_,⟨m,hm,is⟩,ok5,λb r e=>?_⟩
   ·rw [<-era]
    exact List.mem_map.mpr ⟨a,rk.mem a ha,rfl⟩
   ·rw [<-era] at ha
    obtain⟨q,hq,rfl⟩:=List.mem_map.mp ha
    exact tmk.sat q hq
   ·rw [has] at e
    cases e
    exact hlt
  ·refine⟨_,rfl,Td,_,0,_,rfl,rfl,cP.of eTd,aM (j:=0) rfl,rfl,_,rfl,rG rfl ?_⟩
   refine Xq λDe hD u hu=>?_
   refine⟨_,rfl,Td,_,1,_,rfl,rfl,cP.of eTd,aM (j:=1) rfl,?_⟩
   have rk2:=rk.next n16 RA hro hcy
   have less:=Qv AI rk.toRc rk2.toRc RA.pos
   have Wx:=W.same s'
   subst hu
   refine⟨_,rfl,n,dx,fs,rfl,Wx.obj,Wx.fl.no _ (by decide +kernel),n,ls,ps,rfl,Wx.s,λLn nLn=>?_⟩
   rw [en]
   have tn:=az (o:=.lst (ns.map V.str)) nLn
   have An:=A.same tn
   have ARn:=(A2).same tn
   have sn:=(s').trans tn
   have eLn:upd H' Ln (.lst (ns.map V.str)) Ln=some (.lst (ns.map V.str)):=ak
   generalize upd H' Ln (.lst (ns.map V.str))=Hn at tn An ARn sn eLn ⊢
   refine⟨_,rfl,_,rfl,Lr,as2,rfl,ARn,(rk2.toRc).tk AI,(rk2.toRc).ne,λHf F sf eF=>?_⟩
   have qk:=XF ((rk2.toRc).tk AI) (rk2.toRc).ne
   refine⟨Ln,L,F,ns,ra,pS as2,qS as2,rfl,sf _ _ eLn,nnd,n1,n16,An.same sf,hra,eF,qk.1,qk.2,AI.toUb,λHk Td D tm sk eTd nD eD hk hsat h0 hti=>?_,λHk Td Lx ax sk eTd nLr Ax RAx hro hcy=>?_⟩
   ·subst hD
    refine⟨⟨sn.trans (sf.trans sk),An.same (sf.trans sk),Lr,Td,as2,⟨_,rfl⟩,ARn.same (sf.trans sk),nLr0,rk2,.inl ⟨D,tm,eTd,(sn.trans sf).free nD,eD,⟨hk,hsat,h0,hti⟩⟩⟩,?_⟩
    show Em _ Lr <Em _ R
    rw [zR (ARn.same (sf.trans sk)),zR AR]
    exact less
   ·subst hD
    refine⟨⟨sn.trans (sf.trans sk),An.same (sf.trans sk),Lr,Td,as2,⟨_,rfl⟩,ARn.same (sf.trans sk),nLr0,rk2,.inr ⟨Lx,ax,eTd,(sn.trans sf).free nLr,Ax,RAx,hro,hcy⟩⟩,?_⟩
    show Em _ Lr <Em _ R
    rw [zR (ARn.same (sf.trans sk)),zR AR]
    exact less
 ·intro σ H' Q' Q'' hm hq
  obtain⟨v,e,p',xs,i,u,e1,e2,h1,h2,h3,b,e4,q⟩:=hq
  exact⟨v,e,p',xs,i,u,e1,e2,h1,h2,h3,b,e4,hm _ _ q⟩
noncomputable def uh (names:List Str) (bare:List iM) (r:List (Str×Nat)):List Str:=names.filter λx=>!(cB r x).isSome && !(bare.any λa=>!(cB r a.fr).isSome && decide (a.to=x))
noncomputable def bK (names:List Str) (bare:List iM):Nat->List (Str×Nat)
 | 0=>[]
 | k+1=>bK names bare k ++ (uh names bare (bK names bare k)).map λx=>(x,k)
theorem wL {names:List Str} (nd:names.Nodup) (bare:List iM):∀k,((bK names bare k).map (·.1)).Nodup/\∀x∈(bK names bare k).map (·.1),x∈names
 | 0=>⟨List.nodup_nil,by simp [bK]⟩
 | k+1=>by
  obtain⟨h1,h2⟩:=wL nd bare k
  have e:(bK names bare (k+1)).map (·.1)=(bK names bare k).map (·.1) ++ uh names bare (bK names bare k):=by
   show((bK names bare k) ++ _).map _=_
   rw [List.map_append,List.map_map]
   congr 1
   exact List.map_id _
  rw [e]
  refine⟨?_,λx hx=>?_⟩
  ·rw [List.nodup_append]
   refine⟨h1,nd.sublist List.filter_sublist,λa ha b hb z=>?_⟩
   subst z
   have:=(List.mem_filter.mp hb).2
   rw [jA.mpr ha] at this
   simp at this
  ·rcases List.mem_append.mp hx with h | h
   ·exact h2 x h
   ·exact(List.mem_filter.mp h).1
theorem M3 {names:List Str} (nd:names.Nodup) (bare:List iM) (k:Nat):(bK names bare k).length<=names.length:=by
 obtain⟨h1,h2⟩:=wL nd bare k
 have:=Rg.oY h1 h2
 rwa [lM] at this
noncomputable def nG (k:Nat):V:=.int (k:Nat)
inductive Bp (K:PySem.W.Frag) (vs:List V) (H:Hp) (Q:VK) (E:XK):Prop where
 | mk:∀(Ln Lb:Addr) (names:List Str) (ra:List AA),vs=[.ref Ln,.ref Lb]->H Ln=some (.lst (names.map V.str))->fU H Lb ra->names.Nodup->names.length<=16->ra.length<=100->(∀H' D,aO H H'->H D=none->H' D=some (.dK (fC nG (bK names (ra.map (·.1)) names.length)))->Q (.ref D) H')->Bp K vs H Q E
noncomputable abbrev ym:List Str:=["names", "bare", "ranks", "rank", "bound", "free", "name"]
theorem Mr (T:Txt w K mg t):FO P w K mg base 1 t.Ef ["names", "bare"] (Bp K):=by
 have sc:=T.yr.sc ym
 refine T.yr.F.ok sc ln (λ_ _ _ _ H vs Q E hr h=>?_)
 obtain⟨Ln,Lb,names,ra,rfl,eLn,A,nd,hn,hra,k⟩:=h
 refine⟨_,(ao (sN sc 2 dY)
  (ao (cX PassesOwn.never rfl (qO rfl T.wM (aa (bx b8 (by rfl) T.iy eQ (aa (pv 0) aq aj)) aq bz)) (gN sc 3)
   (ao (sN sc 4 (gf [2] ym (aX (top 79)) rfl (bH (pv 1)) (λ_ _ _ _ _=>(yf (fP (jP hr.u1 (aU (mL (K:=K) rfl) (pv 0) aB (λ_ _=>rfl)) (pv 1))))) (λ_ _ _ _ _=>(aU (mL (K:=K) rfl) (pv 0) aB (λ_ _=>rfl)))))
   (ao (oW (i:=5) [2,4] ym (aX (top 79)) rfl sc.nd rfl (bH (pv 0)) (λ_ _ _ _ _=>(yf (PW.pt (Nq (fP (jP hr.u1 (pv 0) (pv 1))) (Jt (bD (xK (K:=K) rfl) (pv 0) (pv 2) (by with_unfolding_all rfl))))))) (λ_ _ _ _ _=>(pv 0)))
   (au (cX PassesOwn.never rfl (bH (pv 5)) (gN sc 6)
    (au (d7 hr.u1 (pv 2) (pv 6) (pv 3) rfl)))))))
  (au (aQ (pv 2))))),?_⟩
 have hz:sizeLine=16777216:=sizeLine_eq
 obtain⟨bare,hbare⟩:∃bare,ra.map (·.1)=bare:=⟨_,rfl⟩
 rw [hbare] at k
 refine λD nD=>?_
 have tD:=az (o:=.dK []) nD
 have eD:upd H D (.dK []) D=some (.dK (fC nG (bK names bare 0))):=ak
 have s0:=zG tD nD
 generalize upd H D (.dK [])=H0 at tD eD s0 ⊢
 refine⟨_,rfl,.ref Ln,names.length,rfl,.inl ⟨_,bI.of (tD _ _ eLn),by simp⟩,(names.length:Int),rfl,by omega,by omega,?_⟩
 rw [Int.toNat_natCast]
 refine wJ (n:=names.length) (λj σ H'=>(∃v3 v4 v5 v6,σ=[some (.ref Ln),some (.ref Lb),some (.ref D),v3,v4,v5,v6])/\aO H (bf [D] H')/\H' D=some (.dK (fC nG (bK names bare j)))) ⟨⟨_,_,_,_,rfl⟩,s0,eD⟩ ?_ ?_
 ·rintro j σ H' hj ⟨⟨v3,v4,v5,v6,rfl⟩,s',eD'⟩
  obtain⟨rk,hrk⟩:∃rk,bK names bare j=rk:=⟨_,rfl⟩
  have lrk:=M3 nd bare j
  rw [hrk] at eD' lrk
  have s1:aO H H':=s'.trans bY
  have A1:=A.same s1
  refine⟨_,rfl,Lb,rfl,⟨_,bI.of A1.lst⟩,?_⟩
  refine dN (K:=K) (a:=Lb) (xs:=ra.map λq=>V.ref q.2) (λi ys H2=>H2=H'/\ys=(((ra.take i).filter λq=>!(cB rk q.1.fr).isSome).map λq=>q.1.to).map V.str) (by rw [lM];omega) ⟨rfl,rfl⟩ (λi ys H2 ⟨_,e⟩=>by rw [e,lM,lM];exact Nat.le_trans (List.length_filter_le _ _) (by rw [List.length_take];omega)) (λi ys H2 _ ⟨e,_⟩=>by rw [e];exact bI.of A1.lst) ?_ ?_
  ·rintro i x ys H2 hx ⟨rfl,rfl⟩
   obtain⟨q,hq,rfl,eq⟩:=A1.get hx
   refine⟨_,rfl,q.2,_,0,_,rfl,rfl,cP.of eq,aM (j:=0) rfl,_,rfl,D,_,rfl,jg eD' q.1.fr,_,rfl,?_⟩
   rw [List.take_succ,hq,Option.toList_some,List.filter_append,Option.isSome_map]
   cases hc:(cB rk q.1.fr).isSome
   ·refine iT ⟨_,rfl,q.2,_,1,_,rfl,rfl,cP.of eq,aM (j:=1) rfl,rfl,?_⟩
    rw [f1T (by show(!(cB rk q.1.fr).isSome)=true;rw [hc];rfl),List.map_append,List.map_append]
    rfl
   ·refine dq ⟨rfl,?_⟩
    rw [ZS (by show(!(cB rk q.1.fr).isSome)=false;rw [hc];rfl),List.append_nil]
  rintro ys H2 ⟨rfl,rfl⟩ Bd nBd
  rw [lM,List.take_length]
  obtain⟨bs,hbs⟩:∃bs,(ra.filter λq=>!(cB rk q.1.fr).isSome).map (λq=>q.1.to)=bs:=⟨_,rfl⟩
  have hin:∀x,x∈bs↔bare.any (λa=>!(cB rk a.fr).isSome && decide (a.to=x))=true:=λx=>by
   rw [<-hbs,<-hbare,List.any_map,List.any_eq_true]
   constructor
   ·intro h
    obtain⟨q,hq,rfl⟩:=List.mem_map.mp h
    obtain⟨h1,h2⟩:=List.mem_filter.mp hq
    exact⟨q,h1,by simp only [Function.comp];rw [h2];simp⟩
   ·rintro⟨q,hq,e⟩
    simp only [Function.comp,Bool.and_eq_true,decide_eq_true_eq] at e
    exact List.mem_map.mpr ⟨q,List.mem_filter.mpr ⟨hq,e.1⟩,e.2⟩
  rw [hbs]
  have tB:=az (o:=.lst (bs.map V.str)) nBd
  have eB:upd H2 Bd (.lst (bs.map V.str)) Bd=some (.lst (bs.map V.str)):=ak
  have eDB:=tB _ _ eD'
  have s2:=s1.trans tB
  have nBD:Bd≠D:=Ne.symm (aC eD' nBd)
  have c2:aO H (bf [D] (upd H2 Bd (.lst (bs.map V.str)))):=s'.trans (yx tB eD')
  generalize upd H2 Bd (.lst (bs.map V.str))=H3 at tB eB eDB s2 c2 ⊢
  refine⟨_,rfl,Ln,rfl,⟨_,bI.of (s2 _ _ eLn)⟩,?_⟩
  refine dN (K:=K) (a:=Ln) (xs:=names.map V.str) (λi ys H2=>H2=H3/\ys=((names.take i).filter λx=>!(cB rk x).isSome && !(bare.any λa=>!(cB rk a.fr).isSome && decide (a.to=x))).map V.str) (by rw [lM];omega) ⟨rfl,rfl⟩ (λi ys H2 ⟨_,e⟩=>by rw [e,lM];exact Nat.le_trans (List.length_filter_le _ _) (by rw [List.length_take];omega)) (λi ys H2 _ ⟨e,_⟩=>by rw [e];exact bI.of (s2 _ _ eLn)) ?_ ?_
  ·rintro i x ys H2 hx ⟨rfl,rfl⟩
   rw [List.getElem?_map] at hx
   obtain⟨y,hy,rfl⟩:=Option.map_eq_some_iff.mp hx
   refine⟨_,rfl,_,rfl,D,_,rfl,jg eDB y,_,rfl,?_⟩
   rw [List.take_succ,hy,Option.toList_some,List.filter_append,Option.isSome_map]
   cases hc:(cB rk y).isSome
   ·refine iT ?_
    refine⟨_,rfl,_,rfl,Bd,_,rfl,.inl (bI.of eB),rfl,nj _,_,rfl,?_⟩
    rw [wB]
    by_cases hb:y∈bs
    ·rw [decide_eq_true hb]
     refine dq ⟨rfl,?_⟩
     rw [ZS (by show(!(cB rk y).isSome && !(bare.any λa=>!(cB rk a.fr).isSome && decide (a.to=y)))=false;rw [(hin y).mp hb];simp),List.append_nil]
    ·rw [decide_eq_false hb]
     refine iT ⟨_,rfl,rfl,?_⟩
     have:bare.any (λa=>!(cB rk a.fr).isSome && decide (a.to=y))=false:=by
      cases e:bare.any (λa=>!(cB rk a.fr).isSome && decide (a.to=y)) with
      | false=>rfl
      | true=>exact absurd ((hin y).mpr e) hb
     rw [f1T (by show(!(cB rk y).isSome && !(bare.any λa=>!(cB rk a.fr).isSome && decide (a.to=y)))=true;rw [hc,this];rfl),List.map_append]
     rfl
   ·refine dq (dq ⟨rfl,?_⟩)
    rw [ZS (by show(!(cB rk y).isSome && !(bare.any λa=>!(cB rk a.fr).isSome && decide (a.to=y)))=false;rw [hc];rfl),List.append_nil]
  rintro ys H2 ⟨rfl,rfl⟩ Fr nFr
  rw [lM,List.take_length]
  obtain⟨fs,hfs⟩:∃fs,uh names bare rk=fs:=⟨_,rfl⟩
  rw [show(names.filter λx=>!(cB rk x).isSome && !(bare.any λa=>!(cB rk a.fr).isSome && decide (a.to=x)))=fs from hfs]
  have nfs:fs.Nodup/\(∀x∈fs,cB rk x=none)/\fs.length<=16:=by
   rw [<-hfs]
   refine⟨nd.sublist List.filter_sublist,λx hx=>?_,Nat.le_trans (List.length_filter_le _ _) hn⟩
   have:=(List.mem_filter.mp hx).2
   simp only [Bool.and_eq_true,Bool.not_eq_true'] at this
   cases e:cB rk x with
   | none=>rfl
   | some b=>rw [e] at this;cases this.1
  have tF:=az (o:=.lst (fs.map V.str)) nFr
  have eF:upd H2 Fr (.lst (fs.map V.str)) Fr=some (.lst (fs.map V.str)):=ak
  have eDF:=tF _ _ eDB
  have nFD:Fr≠D:=Ne.symm (aC eDB nFr)
  have c3:aO H (bf [D] (upd H2 Fr (.lst (fs.map V.str)))):=c2.trans (yx tF eDB)
  generalize upd H2 Fr (.lst (fs.map V.str))=H4 at tF eF eDF c3 ⊢
  have eFc:bf [D] H4 Fr=some (.lst (fs.map V.str)):=fB eF (by rw [List.mem_singleton];exact nFD)
  refine⟨_,rfl,Fr,rfl,⟨_,bI.of eF⟩,?_⟩
  refine cY (K:=K) (a:=Fr) (xs:=fs.map V.str) (λi σ H5=>(∃v6,σ=[some (.ref Ln),some (.ref Lb),some (.ref D),some (.int (0+(j:Int))),some (.ref Bd),some (.ref Fr),v6])/\aO (bf [D] H4) (bf [D] H5)/\H5 D=some (.dK (fC nG (rk ++ (fs.take i).map λx=>(x,j))))) ⟨⟨_,rfl⟩,aO.refl _,by simpa using eDF⟩ (λi σ H5 _ h=>bI.of (bY _ _ (h.2.1 _ _ eFc))) ?_ ?_
  ·rintro i x σ H5 hx ⟨⟨v6,rfl⟩,s5,e5⟩
   rw [List.getElem?_map] at hx
   obtain⟨y,hy,rfl⟩:=Option.map_eq_some_iff.mp hx
   have hyf:=List.mem_of_getElem? hy
   have nin:y∉(rk ++ (fs.take i).map λx=>(x,j)).map (·.1):=by
    rw [List.map_append,List.mem_append,not_or,List.map_map]
    refine⟨λh=>?_,λh=>?_⟩
    ·have:=jA.mpr h
     rw [nfs.2.1 y hyf] at this
     cases this
    ·have h2:=jG (f:=id) (xs:=fs) (by rw [List.map_id];exact nfs.1) hy
     rw [List.map_id] at h2
     obtain⟨z,hz',e⟩:=List.mem_map.mp h
     exact h2 (by rw [<-show z=y from e];exact hz')
   refine⟨_,rfl,_,rfl,_,rfl,D,_,rfl,lJ.k (k:=Sum.inr y) e5 (by rw [pX,lP,lM,List.length_take];omega),⟨_,rfl⟩,by rw [iQ (by simp)];exact s5,?_⟩
   rw [ak,show V.int (0+(j:Int))=nG j by unfold nG;rw [Int.zero_add],rK,qN _ nin,List.append_assoc,List.take_succ,hy,Option.toList_some,List.map_append]
   rfl
  rintro σ H5 ⟨⟨v6,rfl⟩,s5,e5⟩
  rw [lM,List.take_length] at e5
  refine⟨⟨_,_,_,_,rfl⟩,c3.trans s5,?_⟩
  show _=some (HO.dK (fC nG (bK names bare j ++ (uh names bare (bK names bare j)).map λx=>(x,j))))
  rw [hrk,hfs]
  exact e5
 rintro σ H' ⟨⟨v3,v4,v5,v6,rfl⟩,s',eD'⟩
 exact⟨_,rfl,k _ D (s'.trans bY) nD eD'⟩
noncomputable def Hy (ns:List Str) (ik:List (Str×AA)) (q:AA):List (Str×AA):=if q.1.fr∈ns then eX ik q.1.to q else ik
noncomputable def rA (ns:List Str) (ra:List AA):List (Str×AA):=ra.foldl (Hy ns) []
theorem MK (ns:List Str) (ra:List AA) (q:AA):rA ns (ra ++ [q])=Hy ns (rA ns ra) q:=by unfold rA;rw [List.foldl_append];rfl
theorem Mm (ns:List Str) (ra:List AA):jz ra (rA ns ra)/\(rA ns ra).length<=ra.length:=by
 have:∀m l:List AA,(∀q∈l,q∈ra)->∀ik,jz ra ik->jz ra (l.foldl (Hy ns) ik):=λ_ l=>by
  induction l with
  | nil=>intro _ ik h;exact h
  | cons q r ih=>
   intro hl ik h
   rw [List.foldl_cons]
   refine ih (λx hx=>hl x (List.mem_cons_of_mem _ hx)) _ ?_
   unfold Hy
   split
   ·exact h.put (hl q List.mem_cons_self)
   ·exact h
 have ok:=this [] ra (λ_ h=>h) [] ⟨by simp,by simp⟩
 exact⟨ok,ok.len⟩
inductive Up (H H':Hp) (L:Addr) (ik:List (Str×AA)) (x:Str):Prop where
 | mk:∀(r:List Str) (a:Str) (seen:List Str),H L=none->fU H' L (r.reverse.filterMap (cB ik))->Rg.lG (fI ik) x seen a->((∀y∈r,∃q,cB ik y=some q))->(((∃j:Nat,seen[j]?=some a/\r=seen.drop j)∨(a∉seen/\fI ik a=none/\r=[])))->Up H H' L ik x
inductive xJ (K:PySem.W.Frag) (vs:List V) (H:Hp) (Q:VK) (E:XK):Prop where
 | mk:∀(Ln Lb:Addr) (x0:Str) (rest:List Str) (ra:List AA),vs=[.ref Ln,.ref Lb]->H Ln=some (.lst ((x0:: rest).map V.str))->fU H Lb ra->ra.length<=100->(∀H' L,aO H H'->Up H H' L (rA (x0:: rest) ra) x0->Q (.ref L) H')->xJ K vs H Q E
theorem Gg (T:Txt w K mg t):FO P w K mg base 3 t.zc ["names", "bare"] (xJ K):=by
 have sc:=T.tX.sc ["names", "bare", "into", "arc"]
 refine T.tX.F.ok sc ln (λ_ _ _ _ H vs Q E hr h=>?_)
 obtain⟨Ln,Lb,x0,rest,ra,rfl,eLn,A,hra,k⟩:=h
 refine⟨_,(ao (sN sc 2 dY)
  (ao (cX PassesOwn.never rfl (bH (pv 1)) (gN sc 3)
   (au (wH (b7 (bD Be (aU aY (pv 3) aB (λ_ _=>rfl)) (pv 0) (by with_unfolding_all rfl))
    (au (d7 hr.u1 (pv 2) (aU aY (pv 3) aB (λ_ _=>rfl)) (pv 3) rfl))
    bu))))
  (au (aQ (jd (zN T) T.pI hr (aa (aU cC (pv 0) aB (λ_ _=>rfl)) (aa (pv 2) aq aj) aH)))))),?_⟩
 have hz:sizeLine=16777216:=sizeLine_eq
 obtain⟨ns,hns⟩:∃ns,x0:: rest=ns:=⟨_,rfl⟩
 rw [hns] at eLn k
 refine λD nD=>?_
 have tD:=az (o:=.dK []) nD
 have eD:upd H D (.dK []) D=some (.dK (fC aG (rA ns (ra.take 0)))):=ak
 have s0:=zG tD nD
 generalize upd H D (.dK [])=H0 at tD eD s0 ⊢
 refine⟨_,rfl,Lb,rfl,⟨_,bI.of (tD _ _ A.lst)⟩,?_⟩
 refine cY (K:=K) (a:=Lb) (xs:=ra.map λq=>V.ref q.2) (λj σ H'=>(∃v3,σ=[some (.ref Ln),some (.ref Lb),some (.ref D),v3])/\aO H (bf [D] H')/\H' D=some (.dK (fC aG (rA ns (ra.take j))))) ⟨⟨_,rfl⟩,s0,eD⟩ (λj σ H' _ h=>bI.of (bY _ _ (h.2.1 _ _ A.lst))) ?_ ?_
 ·rintro j x σ H' hx ⟨⟨v3,rfl⟩,s',eD'⟩
  have s1:=s'.trans bY
  obtain⟨q,hq,rfl,eq⟩:=(A.same s1).get hx
  have tk:rA ns (ra.take (j+1))=Hy ns (rA ns (ra.take j)) q:=by rw [List.take_succ,hq];exact MK _ _ _
  refine⟨λσ2 H2=>(∃v3,σ2=[some (.ref Ln),some (.ref Lb),some (.ref D),v3])/\aO H (bf [D] H2)/\H2 D=some (.dK (fC aG (rA ns (ra.take (j+1))))),?_,λ_ _ h=>h⟩
  refine⟨_,rfl,q.2,_,0,_,rfl,rfl,cP.of eq,aM (j:=0) rfl,_,rfl,Ln,_,rfl,.inl (bI.of (s1 _ _ eLn)),rfl,nj _,_,rfl,?_⟩
  rw [wB,tk]
  unfold Hy
  by_cases hf:q.1.fr∈ns
  ·rw [decide_eq_true hf,if_pos hf]
   refine iT ⟨_,rfl,_,rfl,_,rfl,q.2,_,1,_,rfl,rfl,cP.of eq,aM (j:=1) rfl,D,_,rfl,lJ.k (k:=Sum.inr q.1.to) eD' ?_,⟨_,rfl⟩,?_,?_⟩
   ·have:=(Mm ns (ra.take j)).2
    rw [pX]
    rw [List.length_take] at this
    omega
   ·rw [iQ (by simp)];exact s'
   ·rw [ak,show V.ref q.2=aG q from rfl,rK]
  ·rw [decide_eq_false hf,if_neg hf]
   exact dq ⟨⟨_,rfl⟩,s',eD'⟩
 rintro σ H1 ⟨⟨v3,rfl⟩,s',eD'⟩
 rw [lM,List.take_length] at eD'
 have s1:=s'.trans bY
 have A1:=A.same s1
 obtain⟨ok,hl⟩:=Mm ns ra
 refine⟨_,rfl,Ln,_,0,_,rfl,rfl,bI.of (s1 _ _ eLn),by rw [<-hns];exact aM (j:=0) rfl,_,rfl,x0,D,rA ns ra,rfl,eD',ok.nd,by omega,λq hq=>A1.at_ _ (ok.ok q hq).1,λH2 L r a seen s2 nL A2 g get hc=>?_⟩
 exact k _ L (s1.trans s2) ⟨r,a,seen,s1.free nL,A2,g,get,hc⟩
noncomputable def mF (ra:List AA):List AA:=ra.filter λq=>decide (V.int q.1.tk=V.int 0)
noncomputable def xW (names:List Str) (rk:List (Str×Nat)):List Str:=names.filter λx=>!(cB rk x).isSome
inductive RoR (H H':Hp) (ls:List aF) (ps:List PD) (T:Addr):Prop where
 | mk:∀(ra:List AA) (rk:List (Str×Nat)) (left:List Str),ra.map (·.1)=bG ls ps->rk=bK (ps.map (·.name)) ((mF ra).map (·.1)) (ps.map (·.name)).length->left=xW (ps.map (·.name)) rk->(((left=[]/\∃D,H' T=some (.tup [.str "ranks",.ref D])/\H D=none/\H' D=some (.dK (fC nG rk)))∨∃x0 rest L H1,left=x0:: rest/\H' T=some (.tup [.str "ring",.ref L])/\aO H H1/\Up H1 H' L (rA left (mF ra)) x0))->RoR H H' ls ps T
inductive rF (K:PySem.W.Frag) (t:jw) (vs:List V) (H:Hp) (Q:VK) (E:XK):Prop where
 | mk:∀(n:Addr) (ls:List aF) (ps:List PD),vs=[.ref n]->gJ K t H n ls ps->(((Gq ps=.non/\∀H' T,aO H H'->RoR H H' ls ps T->Q (.ref T) H')∨False))->rF K t vs H Q E
noncomputable abbrev mC:List Str:=["net", "bare", "names", "ranks", "left"]
theorem Am (T:Txt w K mg t):FO P w K mg base 6 t.uz ["net"] (rF K t):=by
 have sc:=T.lY.sc mC
 refine T.lY.F.ok sc ln (λ_ _ _ _ H vs Q E hr h=>?_)
 obtain⟨n,ls,ps,rfl,N,h⟩:=h
 refine⟨_,(ao (oW (i:=1) [] mC (aX (top 78)) rfl sc.nd rfl (bH (jd (Ds T) T.wQ hr (aa (pv 0) aq aj))) (λ_ _ _ _ _=>(yf (bD jO (aU (mL (K:=K) rfl) (pv 0) aB (λ_ _=>rfl)) aB (cz _)))) (λ_ _ _ _ _=>(pv 0)))
  (ao (sN sc 2 (Nz (pv 0) T.aR T.aR.me.2.2.1 (dw T) T.cj hr))
  (ao (sN sc 3 (jd (Mr T) T.yr hr (aa (pv 2) (aa (pv 1) aq aj) aj)))
  (ao (oW (i:=4) [3] mC (aX (top 78)) rfl sc.nd rfl (bH (pv 2)) (λ_ _ _ _ _=>(yf (fP (jP hr.u1 (pv 0) (pv 1))))) (λ_ _ _ _ _=>(pv 0)))
  (au (aQ (n6 (bD jO (bx b8 (by rfl) T.iy eQ (aa (pv 4) aq aj)) aB (cz _)) (bL (aa bT (aa (pv 3) aq aj) aK)) (bL (aa bT (aa (jd (Gg T) T.tX hr (aa (pv 4) (aa (pv 1) aq aj) aj)) aq bz) aK))))))))),?_⟩
 obtain⟨dx,fs,R,F,Pd,G,Tk,FL,PL,W⟩:=id N
 have hz:sizeLine=16777216:=sizeLine_eq
 have p16:=W.fit.p16
 rcases h with ⟨ho,k⟩ | h
 ·refine⟨_,rfl,n,ls,ps,rfl,N,.inl ⟨ho,λH1 L ra s1 nL A era=>⟨L,rfl,⟨_,bI.of A.lst⟩,?_⟩⟩⟩
  have lra:ra.length<=64:=by
   have:=congrArg List.length era
   rw [lM] at this
   rw [this]
   exact Eu _ _ W.fit.l24 p16
  refine dN (K:=K) (a:=L) (xs:=ra.map λq=>V.ref q.2) (λi ys H2=>H2=H1/\ys=(mF (ra.take i)).map λq=>V.ref q.2) (by rw [lM];omega) ⟨rfl,rfl⟩ (λi ys H2 ⟨_,e⟩=>by rw [e,lM];exact Nat.le_trans (List.length_filter_le _ _) (by rw [List.length_take];omega)) (λi ys H2 _ ⟨e,_⟩=>by rw [e];exact bI.of A.lst) ?_ ?_
  ·rintro i x ys H2 hx ⟨rfl,rfl⟩
   obtain⟨q,hq,rfl,eq⟩:=A.get hx
   refine⟨_,rfl,q.2,_,2,_,rfl,rfl,cP.of eq,aM (j:=2) rfl,rfl,_,rfl,?_⟩
   rw [List.take_succ,hq,Option.toList_some]
   unfold mF
   rw [List.filter_append]
   refine uB (λe=>?_) (λe=>?_)
   ·rw [f1T (p:=λq:AA=>decide (V.int q.1.tk=V.int 0)) (x:=q) e,List.map_append]
    exact⟨_,rfl,rfl,rfl⟩
   ·rw [ZS (p:=λq:AA=>decide (V.int q.1.tk=V.int 0)) (x:=q) (Bool.eq_false_iff.mpr e),List.append_nil]
    exact⟨rfl,rfl⟩
  rintro ys H2 ⟨rfl,rfl⟩ Lb nLb
  rw [lM,List.take_length]
  have tb:=az (o:=.lst ((mF ra).map λq=>V.ref q.2)) nLb
  have Ab:fU (upd H2 Lb (.lst ((mF ra).map λq=>V.ref q.2))) Lb (mF ra):=⟨ak,λq hq=>tb _ _ (A.at_ q (List.mem_filter.mp hq).1)⟩
  have lb:(mF ra).length<=64:=Nat.le_trans (List.length_filter_le _ _) lra
  have s3:=s1.trans tb
  generalize upd H2 Lb (.lst ((mF ra).map λq=>V.ref q.2))=H3 at tb Ab s3 ⊢
  have W3:=W.same s3
  refine⟨_,rfl,n,dx,fs,rfl,W3.obj,W3.fl.no _ (by decide +kernel),n,ls,ps,rfl,W3.s,λLn nLn=>?_⟩
  have en:ps.map (λx=>V.str x.name)=(ps.map (·.name)).map V.str:=by rw [List.map_map];rfl
  rw [en]
  obtain⟨ns,hns⟩:∃ns,ps.map (·.name)=ns:=⟨_,rfl⟩
  have lns:ns.length<=16:=by rw [<-hns,lM];exact p16
  have nnd:ns.Nodup:=by rw [<-hns];exact W.fit.pnd
  rw [hns]
  have tn:=az (o:=.lst (ns.map V.str)) nLn
  have eLn:upd H3 Ln (.lst (ns.map V.str)) Ln=some (.lst (ns.map V.str)):=ak
  have Ab4:=Ab.same tn
  have s4:=s3.trans tn
  generalize upd H3 Ln (.lst (ns.map V.str))=H4 at tn eLn Ab4 s4 ⊢
  refine⟨_,rfl,_,rfl,Ln,Lb,ns,mF ra,rfl,eLn,Ab4,nnd,lns,by omega,λH5 D s5 nD eD=>?_⟩
  obtain⟨rk,hrk⟩:∃rk,bK ns ((mF ra).map (·.1)) ns.length=rk:=⟨_,rfl⟩
  rw [hrk] at eD
  refine⟨_,rfl,Ln,rfl,⟨_,bI.of (s5 _ _ eLn)⟩,?_⟩
  refine dN (K:=K) (a:=Ln) (xs:=ns.map V.str) (λi ys H2=>H2=H5/\ys=(xW (ns.take i) rk).map V.str) (by rw [lM];omega) ⟨rfl,rfl⟩ (λi ys H2 ⟨_,e⟩=>by rw [e,lM];exact Nat.le_trans (List.length_filter_le _ _) (by rw [List.length_take];omega)) (λi ys H2 _ ⟨e,_⟩=>by rw [e];exact bI.of (s5 _ _ eLn)) ?_ ?_
  ·rintro i x ys H2 hx ⟨rfl,rfl⟩
   rw [List.getElem?_map] at hx
   obtain⟨y,hy,rfl⟩:=Option.map_eq_some_iff.mp hx
   refine⟨_,rfl,_,rfl,D,_,rfl,jg eD y,_,rfl,?_⟩
   rw [List.take_succ,hy,Option.toList_some,Option.isSome_map]
   unfold xW
   rw [List.filter_append]
   cases hc:(cB rk y).isSome
   ·rw [f1T (by show(!(cB rk y).isSome)=true;rw [hc];rfl),List.map_append]
    exact iT ⟨_,rfl,rfl,rfl⟩
   ·rw [ZS (by show(!(cB rk y).isSome)=false;rw [hc];rfl),List.append_nil]
    exact dq ⟨rfl,rfl⟩
  rintro ys H6 ⟨rfl,rfl⟩ Lf nLf
  rw [lM,List.take_length]
  obtain⟨lf,hlf⟩:∃lf,xW ns rk=lf:=⟨_,rfl⟩
  rw [hlf]
  have tf:=az (o:=.lst (lf.map V.str)) nLf
  have eLf:upd H6 Lf (.lst (lf.map V.str)) Lf=some (.lst (lf.map V.str)):=ak
  have s6:=s4.trans (s5.trans tf)
  have s56:=s5.trans tf
  have eD6:=tf _ _ eD
  have nD0:H D=none:=s4.free nD
  generalize upd H6 Lf (.lst (lf.map V.str))=H7 at tf eLf s6 s56 eD6 ⊢
  refine⟨_,rfl,.ref Lf,lf.length,rfl,.inl ⟨_,bI.of eLf,by simp⟩,rfl,_,rfl,?_⟩
  cases lf with
  | nil=>
   refine rG rfl ?_
   refine⟨_,rfl,rJ,λT' nT=>?_⟩
   have tT:=az (o:=.tup [.str "ranks",.ref D]) nT
   exact k _ T' (s6.trans tT) ⟨ra,rk,[],era,by rw [hns];exact hrk.symm,by rw [hns];exact hlf.symm,.inl ⟨rfl,D,ak,nD0,tT _ _ eD6⟩⟩
  | cons x0 rest=>
   refine dz (by show ¬V.int (((rest.length+1:Nat):Int))=V.int 0;intro z;cases z) ?_
   refine⟨_,rfl,_,rfl,Lf,Lb,x0,rest,mF ra,rfl,eLf,Ab4.same s56,by omega,λH8 L8 s8 R8=>⟨rJ,λT' nT=>?_⟩⟩
   have tT:=az (o:=.tup [.str "ring",.ref L8]) nT
   obtain⟨r,a,seen,nL8,A8,g,get,hc⟩:=R8
   exact k _ T' (s6.trans (s8.trans tT)) ⟨ra,rk,x0:: rest,era,by rw [hns];exact hrk.symm,by rw [hns];exact hlf.symm,.inr ⟨x0,rest,L8,H7,rfl,ak,s6,r,a,seen,nL8,A8.same tT,g,get,hc⟩⟩
 ·exact h.elim
inductive xH (K:PySem.W.Frag) (t:jw) (vs:List V) (H:Hp) (Q:VK) (E_:XK):Prop where
 | mk:∀(f n E G Kp D Rw l:Addr) (ed gd:List (Key×V)) (x:Str) (vs':List V) (g:Nat),vs=[.ref f,.str x]->sV K t H f n E G Kp D Rw->H E=some (.dK ed)->H G=some (.dK gd)->bW ed (Sum.inr x)=some (.ref l)->bW gd (Sum.inr x)=some (.int g)->bI K H l vs'->Q (.int (vs'.length - g)) H->xH K t vs H Q E_
theorem xR (T:Txt w K mg t):FO P w K mg base 1 t.sZ ["self", "lane"] (xH K t):=by
 have sc:=T.mO.sc ["self", "lane"]
 refine T.mO.F.ok sc ln (λ_ _ _ _ H vs Q E hr h=>?_)
 obtain⟨f,n,E,G,Kp,D,Rw,l,ed,gd,x,vs',g,rfl,N,hE,hG,h3,h4,h5,k⟩:=h
 refine⟨_,(au (aQ (bB yt (bx b8 (by rfl) T.iy eQ (aa (bM hr.u1 (aZ (pv 0) rfl) (pv 1) (λ_ _=>rfl)) aq aH)) (bM hr.u1 (aZ (pv 0) rfl) (pv 1) (λ_ _=>rfl))))),?_⟩
 obtain⟨dx,fs,h1,h2⟩:=id N.ex
 refine⟨_,rfl,f,_,dx,fs,_,rfl,h1,T.aV.c,T.aV.na.2.1,h2.has ("ever",.ref E) (by simp),_,rfl,E,_,rfl,(by rw [<-h3];exact dW.k (k:=Sum.inr x) hE),?_⟩
 refine⟨.ref l,vs'.length,rfl,.inl ⟨vs',h5,rfl⟩,_,rfl,f,_,dx,fs,_,rfl,h1,T.aV.c,T.aV.na.2.2.1,h2.has ("gone",.ref G) (by simp),_,rfl,G,_,rfl,(by rw [<-h4];exact dW.k (k:=Sum.inr x) hG),?_⟩
 refine⟨_,_,rfl,rfl,?_⟩
 exact k
inductive zT (K:PySem.W.Frag) (t:jw) (vs:List V) (H:Hp) (Q:VK) (E_:XK):Prop where
 | mk:∀(f n E G Kp D Rw l:Addr) (ed gd:List (Key×V)) (x:Str) (vs':List V) (g:Nat),vs=[.ref f,.str x]->sV K t H f n E G Kp D Rw->H E=some (.dK ed)->H G=some (.dK gd)->bW ed (Sum.inr x)=some (.ref l)->bW gd (Sum.inr x)=some (.int g)->bI K H l vs'->Q ((vs'[g]?).getD .non) H->zT K t vs H Q E_
theorem Ju (T:Txt w K mg t):FO P w K mg base 2 t.vW ["self", "lane"] (zT K t):=by
 have sc:=T.vU.sc ["self", "lane"]
 refine T.vU.F.ok sc ln (λ_ _ _ _ H vs Q E hr h=>?_)
 obtain⟨f,n,E,G,Kp,D,Rw,l,ed,gd,x,vs',g,rfl,N,hE,hG,h3,h4,h5,k⟩:=h
 refine⟨_,(au (aQ (n6 (bD Vb (zx (pv 0) T.aV T.aV.me.2.1 (xR T) T.mO hr (aa (pv 1) aq aj)) aB (cz _)) (aU cC (bM hr.u1 (aZ (pv 0) rfl) (pv 1) (λ_ _=>rfl)) (bM hr.u1 (aZ (pv 0) rfl) (pv 1) (λ_ _=>rfl)) (λ_ _=>rfl)) yo))),?_⟩
 obtain⟨dx,fs,h1,h2⟩:=id N.ex
 refine⟨_,rfl,f,dx,fs,rfl,h1,h2.no _ (by decide +kernel),_,rfl,f,n,E,G,Kp,D,Rw,l,ed,gd,x,vs',g,rfl,N,hE,hG,h3,h4,h5,?_⟩
 refine⟨_,_,rfl,rfl,_,rfl,uB (λe=>?_) (λe=>?_)⟩
 ·have e':g <vs'.length:=by have:=of_decide_eq_true e;omega
  refine⟨_,rfl,f,_,dx,fs,_,rfl,h1,T.aV.c,T.aV.na.2.1,h2.has ("ever",.ref E) (by simp),_,rfl,E,_,rfl,(by rw [<-h3];exact dW.k (k:=Sum.inr x) hE),?_⟩
  refine⟨_,rfl,f,_,dx,fs,_,rfl,h1,T.aV.c,T.aV.na.2.2.1,h2.has ("gone",.ref G) (by simp),_,rfl,G,_,rfl,(by rw [<-h4];exact dW.k (k:=Sum.inr x) hG),?_⟩
  rw [List.getElem?_eq_getElem e'] at k
  exact⟨l,vs',g,_,rfl,rfl,h5,aM (List.getElem?_eq_getElem e'),k⟩
 ·have e':¬g <vs'.length:=λz=>e (decide_eq_true (by omega))
  rw [List.getElem?_eq_none (by omega)] at k
  exact k
inductive nH (K:PySem.W.Frag) (t:jw) (vs:List V) (H:Hp) (Q:VK):Prop where
 | mk:∀(f n E G Kp D Rw:Addr) (rd dd:List (Key×V)) (x:Str),vs=[.ref f,.str x]->sV K t H f n E G Kp D Rw->H Rw=some (.dK rd)->H D=some (.dK dd)->(((bW rd (Sum.inr x)=none/\Q (.bl false) H)∨∃(l:Addr) (vs':List V) (g:Nat),bW rd (Sum.inr x)=some (.ref l)/\bW dd (Sum.inr x)=some (.int g)/\bI K H l vs'/\Q (.bl (decide (g=vs'.length))) H))->nH K t vs H Q
@[irreducible] noncomputable def dO (K:PySem.W.Frag) (t:jw):Sp:=λvs H Q _=>nH K t vs H Q
theorem yE (T:Txt w K mg t):FO P w K mg base 1 t.jV ["self", "name"] (dO K t):=by
 have sc:=T.jU.sc ["self", "name"]
 refine T.jU.F.ok sc (λvs H Q E h=>?_) (λcdv A outer s H vs Q E hr h=>?_)
 ·unfold dO at h
  obtain⟨f,n,E,G,Kp,D,Rw,rd,dd,x,rfl,_⟩:=h
  rfl
 ·unfold dO at h
  obtain⟨f,n,E,G,Kp,D,Rw,rd,dd,x,rfl,N,hR,hD,k⟩:=h
  refine⟨_,(au (aQ (zX (JC (uM hr.u1 (pv 1) (aZ (pv 0) rfl))) (zW (tQ jO (bM hr.u1 (aZ (pv 0) rfl) (pv 1) (λ_ _=>rfl)) (bx b8 (by rfl) T.iy eQ (aa (bM hr.u1 (aZ (pv 0) rfl) (pv 1) (λ_ _=>rfl)) aq aH)) (cz _)))))),?_⟩
  obtain⟨dx,fs,h1,h2⟩:=id N.ex
  refine⟨_,rfl,_,rfl,f,_,dx,fs,_,rfl,h1,T.aV.c,T.aV.na.2.2.2.2.2.1,h2.has ("rows",.ref Rw) (by simp),Rw,_,rfl,dW.k (k:=Sum.inr x) hR,?_⟩
  rcases k with ⟨k1,k⟩ | ⟨l,vs',g,k1,k2,k3,k⟩
  ·rw [k1]
   exact⟨_,rfl,dq k⟩
  ·rw [k1]
   refine⟨_,rfl,iT ?_⟩
   refine⟨_,rfl,f,_,dx,fs,_,rfl,h1,T.aV.c,T.aV.na.2.2.2.2.1,h2.has ("done",.ref D) (by simp),_,rfl,D,_,rfl,(by rw [<-k2];exact dW.k (k:=Sum.inr x) hD),?_⟩
   refine⟨_,rfl,f,_,dx,fs,_,rfl,h1,T.aV.c,T.aV.na.2.2.2.2.2.1,h2.has ("rows",.ref Rw) (by simp),_,rfl,Rw,_,rfl,(by rw [<-k1];exact dW.k (k:=Sum.inr x) hR),?_⟩
   refine⟨.ref l,vs'.length,rfl,.inl ⟨vs',k3,rfl⟩,rfl,?_⟩
   rw [show decide (V.int (g:Int)=V.int (vs'.length:Int))=decide (g=vs'.length) by rw [decide_eq_decide,V.int.injEq];omega]
   exact k
inductive xO (K:PySem.W.Frag) (t:jw) (vs:List V) (H:Hp) (Q:VK) (E_:XK):Prop where
 | mk:∀(f n E G Kp D Rw p:Addr) (ed gd:List (Key×V)) (i:Nat) (nm:V) (ns os:List V) (xs:List Str) (hv:Str->V),vs=[.ref f,.ref p]->sV K t H f n E G Kp D Rw->H E=some (.dK ed)->H G=some (.dK gd)->dX K t H p i nm ns (xs.map V.str) os->xs.length<=3->((∀x∈xs,∃(l:Addr) (vs':List V) (g:Nat),bW ed (Sum.inr x)=some (.ref l)/\bW gd (Sum.inr x)=some (.int g)/\bI K H l vs'/\hv x=(vs'[g]?).getD .non))->(∀d,H d=none->Q (.ref d) (upd H d (.lst (xs.map hv))))->xO K t vs H Q E_
theorem xU (T:Txt w K mg t):FO P w K mg base 3 t.sy ["self", "part"] (xO K t):=by
 have sc:=T.mU.sc ["self", "part"]
 refine T.mU.F.ok sc ln (λ_ _ _ _ H vs Q E hr h=>?_)
 obtain⟨f,n,E,G,Kp,D,Rw,p,ed,gd,i,nm,ns,os,xs,hv,rfl,N,hE,hG,hP,hx,hh,k⟩:=h
 refine⟨_,(au (aQ (gf [0] ["self", "part"] (aX (inClass (top 82) 6)) rfl (JT (aZ (pv 1) rfl)) (λ_ _ _ _ _=>jl) (λ_ _ _ _ _=>(zx (pv 1) T.aV T.aV.me.2.2.1 (Ju T) T.vU hr (aa (pv 0) aq aj)))))),?_⟩
 obtain⟨dx,fs,h1,h2⟩:=id N.ex
 obtain⟨dxp,tn,ti,to,p1,p2,p3,p4⟩:=id hP.ex
 have hz:sizeLine=16777216:=sizeLine_eq
 refine⟨_,rfl,p,_,dxp,_,_,rfl,p1,ir T i,Bc T i,vV _ _ _ _,ti,rfl,⟨_,p3⟩,?_⟩
 refine Kf (K:=K) (a:=ti) (xs:=xs.map V.str) (λj ys H'=>H'=H/\ys=(xs.take j).map hv) (by simp;omega) ⟨rfl,rfl⟩ (λj ys H' ⟨_,e⟩=>by rw [e];simp;omega) (λj ys H' _ ⟨e,_⟩=>by rw [e];exact p3) ?_ ?_
 ·rintro j y ys H' hy ⟨rfl,rfl⟩
  rw [List.getElem?_map] at hy
  obtain⟨x,hq,rfl⟩:=Option.map_eq_some_iff.mp hy
  obtain⟨l,vs',g,g1,g2,g3,g4⟩:=hh x (List.mem_of_getElem? hq)
  refine yes ⟨_,rfl,f,dx,fs,rfl,h1,h2.no _ (by decide +kernel),_,rfl,f,n,E,G,Kp,D,Rw,l,ed,gd,x,vs',g,rfl,N,hE,hG,g1,g2,g3,rfl,?_⟩
  rw [List.take_succ,hq,Option.toList_some,List.map_append,<-g4]
  rfl
 ·rintro ys H' ⟨rfl,rfl⟩ d hd
  rw [lM,List.take_length]
  exact k d hd
theorem Vk (T:Txt w K mg t) (i:Nat):MethAt P w K mg base Dd 2 (cls t i) "lacks" (zb K t i):=match i with
 | 0=>⟨_,_,_,T.ig.c,(T.bj.me T.ig.me.2.2.2.1),T.bj.b,(cM T).imp λ_ _ _ _ h=>⟨_,h⟩⟩
 | 1=>⟨_,_,_,T.iG.c,(T.bj.me T.iG.me.2.2.2.1),T.bj.b,(cM T).imp λ_ _ _ _ h=>⟨_,h⟩⟩
 | 2=>⟨_,_,_,T.iH.c,(T.bj.me T.iH.me.2.2.2.1),T.bj.b,(cM T).imp λ_ _ _ _ h=>⟨_,h⟩⟩
 | 3=>⟨_,_,_,T.iJ.c,(T.bj.me T.iJ.me.2.2.2.1),T.bj.b,(cM T).imp λ_ _ _ _ h=>⟨_,h⟩⟩
 | 4=>⟨_,_,_,T.iI.c,(T.bj.me T.iI.me.2.2.2.1),T.bj.b,(cM T).imp λ_ _ _ _ h=>⟨_,h⟩⟩
 | 5=>⟨_,_,_,T.iD.c,(T.bj.me T.iD.me.2.2.2.1),T.bj.b,(cM T).imp λ_ _ _ _ h=>⟨_,h⟩⟩
 | 6=>⟨_,_,_,T.lO.c,(T.bj.me T.lO.me.2.2.2.1),T.bj.b,(cM T).imp λ_ _ _ _ h=>⟨_,h⟩⟩
 | 7=>⟨_,_,_,T.iB.c,(T.bj.me T.iB.me.2.2.2.1),T.bj.b,(cM T).imp λ_ _ _ _ h=>⟨_,h⟩⟩
 | 8=>⟨_,_,_,T.fK.c,(T.bj.me T.fK.me.2.2.2.1),T.bj.b,(cM T).imp λ_ _ _ _ h=>⟨_,h⟩⟩
 | 9=>⟨_,_,_,T.dM.c,(T.bj.me T.dM.me.2.2.2.1),T.bj.b,(cM T).imp λ_ _ _ _ h=>⟨_,h⟩⟩
 | n+10=>⟨_,_,_,T.fD.c,(T.bj.me T.fD.me.2.2.2.1),T.bj.b,(cM T).imp λ_ _ _ _ h=>⟨_,h⟩⟩
inductive uv (K:PySem.W.Frag) (t:jw) (vs:List V) (H:Hp) (Q:VK) (E:XK):Prop where
 | mk:∀(A:qK) (ls:List aF) (ps:List PD) (S:FS) (p:PD),vs=[.ref A.f,.str p.name]->gJ K t H A.n ls ps->fj K t H A ls ps S->p∈ps->(∀H',aO H H'->Q (fG p.kind p.ins (bc S p)) H')->uv K t vs H Q E
theorem Cj (T:Txt w K mg t):FO P w K mg base 4 t.nW ["self", "name"] (uv K t):=by
 have sc:=T.o6.sc ["self", "name", "part", "place"]
 refine T.o6.F.ok sc ln (λ_ _ _ _ H vs Q E hr h=>?_)
 obtain⟨A,ls,ps,S,p,rfl,N,W,hp,k⟩:=h
 refine⟨_,(ao (sN sc 2 (zx (aZ (pv 0) rfl) T.aR T.aR.me.2.2.2.2.2.2.2.2.2.2.2.2.1 (jy T) T.gQ hr (aa (pv 1) aq aj)))
  (ao (sN sc 3 (yw (CX:=Dd) (k:=2) (E:=E0) (pv 2) (hr.mono (by decide)) gB (aa (zx (pv 0) T.aV T.aV.me.2.2.2.2.1 (xU T) T.mU hr (aa (pv 2) aq aj)) aq bz)))
  (au (aQ (n6 (fP (FZ (pv 3))) yo (aU aY (aZ (pv 2) rfl) (pv 3) (λ_ _=>rfl))))))),?_⟩
 obtain⟨dxn,fsn,R,F,Pd,Gn,Tk,FL,PL,Wn⟩:=id N
 have F:=Wn.fit
 obtain⟨dx,fs,h1,h2⟩:=id W.at'.ex
 have hh1:∀{H':Hp},aO H H'->(∀x∈p.ins,∃(l:Addr) (vs':List V) (g:Nat),bW (Vn A.ea ls) (Sum.inr x)=some (.ref l)/\bW (cT S.g ls) (Sum.inr x)=some (.int g)/\bI K H' l vs'/\kY S x=(vs'[g]?).getD .non):=λs x hx=>by
  obtain⟨l,hl,rfl⟩:=F.inL hp (List.mem_append.mpr (.inl hx))
  exact⟨A.ea l.name,_,S.g l.name,Dc F.whole.nod hl,wD F.whole.nod hl,bI.of (s _ _ (W.lists l hl)),by unfold kY;rw [List.getElem?_map]⟩
 refine⟨_,rfl,A.f,_,dx,fs,_,rfl,h1,T.aV.c,T.aV.na.1,h2.has ("net",.ref A.n) (by simp),A.n,dxn,fsn,rfl,Wn.obj,Wn.fl.no _ (by decide +kernel),_,rfl,A.n,ls,ps,p.name,rfl,N,.inl ⟨p,hp,rfl,λH1 q s1 P1=>?_⟩⟩
 obtain⟨dxp,tn,ti,to,p1,p2,p3,p4⟩:=id P1.ex
 have W1:=W.same s1
 have hI:=(F.pok p hp).2.2.1
 have hO:=qU S p (F.pok p hp)
 refine⟨_,rfl,q,cls t p.kind,dxp,_,zb K t p.kind,rfl,p1,sW _ _ _ _ (by decide +kernel) (by decide +kernel) (by decide +kernel) (by decide +kernel),Vk T p.kind,?_⟩
 refine⟨_,rfl,A.f,dx,fs,rfl,s1 _ _ h1,h2.no _ (by decide +kernel),_,rfl,A.f,A.n,A.E,A.G,A.Kp,A.D,A.Rw,q,_,_,p.kind,_,_,_,p.ins,kY S,rfl,W1.at',W1.ever,W1.gone,P1,(by have:=GD p.kind;omega),hh1 s1,λd hd=>?_⟩
 have s2:aO H1 (upd H1 d (.lst (p.ins.map (kY S)))):=az hd
 refine⟨q,d,_,_,_,_,bc S p,rfl,P1.same s2,by rw [lM];exact hI,bI.of ak,hO,λH3 s3=>?_⟩
 have s23:=s2.trans s3
 have k':=k H3 (s1.trans s23)
 have hlt:=jr hO
 unfold fG at k'
 unfold Oz
 cases hf:(places p.kind (bc S p)).find? (uZ (bc S p)) with
 | none=>
  rw [hf] at k'
  exact⟨_,rfl,_,rfl,iT k'⟩
 | some j=>
  rw [hf] at k'
  have hq:j <p.ins.length:=by have:=hlt j (List.mem_of_find?_eq_some hf);unfold bc at this;rwa [lM] at this
  have k':Q (V.str p.ins[j]) H3:=by simpa only [List.getElem?_eq_getElem hq,Option.map_some,Option.getD_some] using k'
  exact⟨_,rfl,_,rfl,dq ⟨_,rfl,q,_,dxp,_,_,rfl,s23 _ _ p1,ir T p.kind,Bc T p.kind,vV _ _ _ _,_,rfl,ti,p.ins.map V.str,j,_,rfl,rfl,s23.seqT p3,aM (j:=j) (by rw [List.getElem?_map,List.getElem?_eq_getElem hq];rfl),k'⟩⟩
theorem Rn (T:Txt w K mg t) {i:Nat} (hi:i <11):MethAt P w K mg base Dd 2 (cls t i) "worked" (dU K t i):=match i,hi with
 | 0,_=>⟨_,_,_,T.ig.c,(T.j7.me T.ig.me.2.2.2.2.1),T.j7.b,iK.mono (k:=2) (Fo T) (by decide)⟩
 | 1,_=>⟨_,_,_,T.iG.c,(T.kJ.me T.iG.me.2.2.2.2.1),T.kJ.b,iK.mono (k:=2) (Do T) (by decide)⟩
 | 2,_=>⟨_,_,_,T.iH.c,(T.j5.me T.iH.me.2.2.2.2.1),T.j5.b,iK.mono (k:=2) (Fg T) (by decide)⟩
 | 3,_=>⟨_,_,_,T.iJ.c,(T.km.me T.iJ.me.2.2.2.2.1),T.km.b,iK.mono (k:=2) (Gb T) (by decide)⟩
 | 4,_=>⟨_,_,_,T.iI.c,(T.j4.me T.iI.me.2.2.2.2.1),T.j4.b,iK.mono (k:=2) (Ea T) (by decide)⟩
 | 5,_=>⟨_,_,_,T.iD.c,(T.jZ.me T.iD.me.2.2.2.2.1),T.jZ.b,iK.mono (k:=2) (Dy T) (by decide)⟩
 | 6,_=>⟨_,_,_,T.lO.c,(T.m5.me T.lO.me.2.2.2.2.1),T.m5.b,iK.mono (k:=2) (Gr T) (by decide)⟩
 | 7,_=>⟨_,_,_,T.iB.c,(T.kh.me T.iB.me.2.2.2.2.1),T.kh.b,iK.mono (k:=2) (Ff T) (by decide)⟩
 | 8,_=>⟨_,_,_,T.fK.c,(T.jD.me T.fK.me.2.2.2.2.1),T.jD.b,iK.mono (k:=2) (Cg T) (by decide)⟩
 | 9,_=>⟨_,_,_,T.dM.c,(T.jh.me T.dM.me.2.2.2.2.1),T.jh.b,iK.mono (k:=2) (z8 T) (by decide)⟩
 | 10,_=>⟨_,_,_,T.fD.c,(T.jF.me T.fD.me.2.2.2.2.1),T.jF.b,iK.mono (k:=2) (Cr T) (by decide)⟩
theorem Zy (ns ws:List Int) (kp:Int):∀pv∈cA 0 ns ws kp,∃q:Nat,pv.1=(q:Int)/\q <cO 0:=by
 intro pv h
 simp [cA] at h
 subst h
 exact⟨0,rfl,by decide⟩
theorem aaM (ns ws:List Int) (kp:Int):∀pv∈cA 1 ns ws kp,∃q:Nat,pv.1=(q:Int)/\q <cO 1:=by
 intro pv h
 simp [cA] at h
theorem aan (ns ws:List Int) (kp:Int):∀pv∈cA 2 ns ws kp,∃q:Nat,pv.1=(q:Int)/\q <cO 2:=by
 intro pv h
 simp [cA] at h
 subst h
 exact⟨0,rfl,by decide⟩
theorem aal (ns ws:List Int) (kp:Int):∀pv∈cA 3 ns ws kp,∃q:Nat,pv.1=(q:Int)/\q <cO 3:=by
 intro pv h
 simp [cA] at h
 rcases h with rfl | rfl
 ·exact⟨0,rfl,by decide⟩
 ·exact⟨1,rfl,by decide⟩
theorem aaq (ns ws:List Int) (kp:Int):∀pv∈cA 4 ns ws kp,∃q:Nat,pv.1=(q:Int)/\q <cO 4:=by
 intro pv h
 simp [cA] at h
 subst h
 exact⟨0,rfl,by decide⟩
theorem ZJ (ns ws:List Int) (kp:Int):∀pv∈cA 5 ns ws kp,∃q:Nat,pv.1=(q:Int)/\q <cO 5:=by
 intro pv h
 simp [cA] at h
 subst h
 exact⟨0,rfl,by decide⟩
theorem aaF (ns ws:List Int) (kp:Int):∀pv∈cA 6 ns ws kp,∃q:Nat,pv.1=(q:Int)/\q <cO 6:=by
 intro pv h
 simp [cA] at h
 subst h
 exact⟨0,rfl,by decide⟩
theorem Zz (ns ws:List Int) (kp:Int):∀pv∈cA 7 ns ws kp,∃q:Nat,pv.1=(q:Int)/\q <cO 7:=by
 intro pv h
 simp [cA] at h
 subst h
 exact⟨0,rfl,by decide⟩
theorem aas (ns ws:List Int) (kp:Int):∀pv∈cA 8 ns ws kp,∃q:Nat,pv.1=(q:Int)/\q <cO 8:=by
 intro pv h
 simp [cA] at h
 rcases h with rfl | rfl
 ·exact⟨0,rfl,by decide⟩
 ·exact⟨1,rfl,by decide⟩
theorem aaE (ns ws:List Int) (kp:Int):∀pv∈cA 9 ns ws kp,∃q:Nat,pv.1=(q:Int)/\q <cO 9:=by
 intro pv h
 simp [cA] at h
 subst h
 exact⟨0,rfl,by decide⟩
theorem Zn (ns ws:List Int) (kp:Int):∀pv∈cA 10 ns ws kp,∃q:Nat,pv.1=(q:Int)/\q <cO 10:=by
 intro pv h
 simp [cA] at h
 subst h
 have h0:=Int.emod_nonneg (g0 ws) (show(2:Int)≠0 by decide)
 have h1:=Int.emod_lt_of_pos (g0 ws) (show(0:Int) <2 by decide)
 exact⟨(g0 ws % 2).toNat,by show g0 ws % 2=_;omega,by show(g0 ws % 2).toNat <2;omega⟩
theorem OJ {i:Nat} (hi:i<=10) (ns ws:List Int) (kp:Int):∀pv∈cA i ns ws kp,∃q:Nat,pv.1=(q:Int)/\q <cO i:=by
 match i,hi with
 | 0,_=>exact Zy ns ws kp
 | 1,_=>exact aaM ns ws kp
 | 2,_=>exact aan ns ws kp
 | 3,_=>exact aal ns ws kp
 | 4,_=>exact aaq ns ws kp
 | 5,_=>exact ZJ ns ws kp
 | 6,_=>exact aaF ns ws kp
 | 7,_=>exact Zz ns ws kp
 | 8,_=>exact aas ns ws kp
 | 9,_=>exact aaE ns ws kp
 | 10,_=>exact Zn ns ws kp
 | (n+11),z=>exact absurd z (by omega)
theorem Le (i:Nat) (ns ws:List Int) (kp:Int):(cA i ns ws kp).length<=2:=match i with
 | 0=>by simp [cA]
 | 1=>by simp [cA]
 | 2=>by simp [cA]
 | 3=>by simp [cA]
 | 4=>by simp [cA]
 | 5=>by simp [cA]
 | 6=>by simp [cA]
 | 7=>by simp [cA]
 | 8=>by simp [cA]
 | 9=>by simp [cA]
 | n+10=>by simp [cA]
noncomputable def nameAt (xs:List Str) (q:Nat):V:=V.str ((xs[q]?).getD Str.empty)
theorem Xw {H:Hp} {Q:VK} {Ex:XK} {f n E G Kp D Rw:Addr} {rd dd:List (Key×V)} {y:Str} (N:sV K t H f n E G Kp D Rw) (hR:H Rw=some (.dK rd)) (hD:H D=some (.dK dd))
  (k:(bW rd (Sum.inr y)=none/\Q (.bl false) H)∨∃(l:Addr) (vs':List V) (g:Nat),bW rd (Sum.inr y)=some (.ref l)/\bW dd (Sum.inr y)=some (.int g)/\bI K H l vs'/\Q (.bl (decide (g=vs'.length))) H):dO K t [.ref f,.str y] H Q Ex:=by
 unfold dO
 exact⟨f,n,E,G,Kp,D,Rw,rd,dd,y,rfl,N,hR,hD,k⟩
theorem aav {i:Nat} (h0:i≠0) (hi:i <11) (h9:i≠9):cV i=cI i:=by
 match i,h0,hi with
 | 1,_,_=>rfl
 | 2,_,_=>rfl
 | 3,_,_=>rfl
 | 4,_,_=>rfl
 | 5,_,_=>rfl
 | 6,_,_=>rfl
 | 7,_,_=>rfl
 | 8,_,_=>rfl
 | 9,_,_=>exact absurd rfl h9
 | 10,_,_=>rfl
theorem We {S:FS} {p:PD} (ok:nY p) (hl:fG p.kind p.ins (bc S p)=.non):∀q∈places p.kind (bc S p),∃x n,p.ins[q]?=some x/\(bc S p)[q]?=some (.int n)/\(S.ev x)[S.g x]?=some n:=by
 have hO:=qU S p ok
 have hf:(places p.kind (bc S p)).find? (uZ (bc S p))=none:=by
  cases hf:(places p.kind (bc S p)).find? (uZ (bc S p)) with
  | none=>rfl
  | some j=>
   unfold fG at hl
   rw [hf] at hl
   have hq:j <p.ins.length:=by have:=jr hO j (List.mem_of_find?_eq_some hf);unfold bc at this;rwa [lM] at this
   simp only [List.getElem?_eq_getElem hq,Option.map_some,Option.getD_some] at hl
   cases hl
 intro q hq
 have h1:=List.find?_eq_none.mp hf q hq
 have hlt:=jr hO q hq
 have hlt':q <p.ins.length:=by unfold bc at hlt;rwa [lM] at hlt
 have e:(bc S p)[q]?=some (kY S p.ins[q]):=by unfold bc;rw [List.getElem?_map,List.getElem?_eq_getElem hlt'];rfl
 refine⟨p.ins[q],?_⟩
 unfold uZ at h1
 rw [e] at h1 ⊢
 unfold kY at h1 ⊢
 cases h0:(S.ev p.ins[q])[S.g p.ins[q]]? with
 | none=>rw [h0] at h1;exact absurd (by simp) h1
 | some n=>exact⟨n,List.getElem?_eq_getElem hlt',by simp,rfl⟩
theorem Xg {b:Nat} {ls:List aF} {ps:List PD} {S:FS} (F:uD ls ps) (O:Rv b ls ps S) {p:PD} (hp:p∈ps) (hl:fG p.kind p.ins (bc S p)=.non) (he:z9 S p=false):(Fq S p).length=cV p.kind/\Zv (Fq S p)/\
  (p.kind≠0->(places p.kind (bc S p)).map (λq=>((bc S p)[q]?).getD .non)=(Fq S p).map V.int)/\(p.kind=0->∃w,(S.r p.name)[S.d p.name]?=some w/\Fq S p=[w]):=by
 have ok:=F.pok p hp
 have hn:=We ok hl
 by_cases h0:p.kind=0
 ·have hd:=O.dl p hp h0
  have hlt:S.d p.name <(S.r p.name).length:=by
   unfold z9 at he
   simp [h0] at he
   omega
  have e:=List.getElem?_eq_getElem hlt
  have ew:Fq S p=[(S.r p.name)[S.d p.name]]:=by unfold Fq;rw [if_pos h0,e];rfl
  refine⟨by rw [ew,h0];rfl,λw hw=>?_,λz=>absurd h0 z,λ_=>⟨_,e,ew⟩⟩
  rw [ew,List.mem_singleton] at hw
  subst hw
  exact O.rb p hp h0 _ (List.getElem_mem hlt)
 ·have ew:Fq S p=(places p.kind (bc S p)).map λq=>Yq (((bc S p)[q]?).getD .non):=by unfold Fq;rw [if_neg h0]
  refine⟨?_,λw hw=>?_,λ_=>?_,λz=>absurd z h0⟩
  ·rw [ew,lM]
   by_cases h9:p.kind=9
   ·have h3:=hn
    unfold places at h3 ⊢
    rw [if_pos h9] at h3 ⊢
    split
    ·rw [h9];rfl
    ·rename_i hno
     obtain⟨x,n,_,h3,_⟩:=h3 0 (by split <;> simp)
     cases hs:bc S p with
     | nil=>rw [hs] at h3;cases h3
     | cons a r=>
      rw [hs] at h3
      have:a=.int n:=by simpa using h3
      exact absurd (by rw [hs,this]) (hno n r)
   ·unfold places
    rw [if_neg h9,List.length_range,(qU S p ok).1,aav h0 ok.1 h9]
  ·rw [ew] at hw
   obtain⟨q,hq,rfl⟩:=List.mem_map.mp hw
   obtain⟨x,n,hx,h3,h4⟩:=hn q hq
   rw [h3]
   show 0<=n/\n <1000000000
   obtain⟨l,hll,rfl⟩:=F.inL hp (List.mem_append.mpr (.inl (List.mem_of_getElem? hx)))
   exact O.vb l hll n (List.mem_of_getElem? h4)
  ·rw [ew,List.map_map]
   refine List.map_congr_left λq hq=>?_
   obtain⟨x,n,_,h3,_⟩:=hn q hq
   show _=V.int (Yq _)
   rw [h3]
   rfl
theorem Ob {S:FS} {p:PD} (h:fG p.kind p.ins (bc S p)≠.non):lC S p=none:=by unfold lC;rw [if_pos h]
theorem Ql {S:FS} {p:PD} (h:z9 S p=true):lC S p=none:=by unfold lC;split <;> simp [h]
inductive xM (K:PySem.W.Frag) (t:jw) (vs:List V) (H:Hp) (Q:VK):Prop where
 | mk:∀(b:Nat) (A:qK) (ls:List aF) (ps:List PD) (S:FS) (p:PD),vs=[.ref A.f,.str p.name]->gJ K t H A.n ls ps->fj K t H A ls ps S->p∈ps->Rv b ls ps S->((lC S p=none->∀H',aO H H'->Q .non H'))->(∀dd,lC S p=some dd->∀H' U,aO H H'->H U=none->mH (A.cells ls ps) H' U dd->Q (.ref U) H')->xM K t vs H Q
@[irreducible] noncomputable def jH (K:PySem.W.Frag) (t:jw):Sp:=λvs H Q _=>xM K t vs H Q
noncomputable abbrev pM:List Str:=["self", "name", "part", "heads", "places", "values", "answer", "given"]
theorem JB (T:Txt w K mg t):FO P w K mg base 5 t.u9 ["self", "name"] (jH K t):=by
 have sc:=T.uR.sc pM
 refine T.uR.F.ok sc (λvs H Q E h=>?_) (λcdv A outer s H vs Q E hr h=>?_)
 ·unfold jH at h
  obtain⟨b,A,ls,ps,S,p,rfl,_⟩:=h
  rfl
 ·unfold jH at h
  obtain⟨b,A,ls,ps,S,p,rfl,N,W,hp,O,kn,k⟩:=h
  refine⟨_,(ao (b7 (PW.pt (xn (fP (CT (zx (pv 0) T.aV T.aV.me.2.2.2.2.2.1 (Cj T) T.o6 hr (aa (pv 1) aq aj)))) (qg (lW (zx (pv 0) T.aV T.aV.me.2.2.2.1 (yE T) T.jU hr (aa (pv 1) aq aj))))))
    (au (aQ yo))
    bu)
   (ao (sN sc 2 (zx (aZ (pv 0) rfl) T.aR T.aR.me.2.2.2.2.2.2.2.2.2.2.2.2.1 (jy T) T.gQ hr (aa (pv 1) aq aj)))
   (ao (sN sc 3 (zx (pv 0) T.aV T.aV.me.2.2.2.2.1 (xU T) T.mU hr (aa (pv 2) aq aj)))
   (ao (sN sc 4 (yw (CX:=Dd) (k:=1) (E:=E0) (pv 2) (hr.mono (by decide)) gB (aa (pv 3) aq aj)))
   (ao (oW (i:=5) [3] pM (aX (inClass (top 82) 9)) rfl sc.nd rfl (bH (pv 4)) (λ_ _ _ _ _=>jl) (λ_ _ _ _ _=>(aU (Sv (K:=K) rfl) (pv 1) (pv 0) (λ_ _=>rfl))))
   (ao (wH (b7 (fP (uM hr.u1 (pv 1) (aZ (pv 0) rfl)))
    (au (sN sc 5 (dm (aa (aU cC (bM hr.u1 (aZ (pv 0) rfl) (pv 1) (λ_ _=>rfl)) (bM hr.u1 (aZ (pv 0) rfl) (pv 1) (λ_ _=>rfl)) (λ_ _=>rfl)) aq aH))))
    bu))
   (ao (sN sc 6 (yw (CX:=Dd) (k:=2) (E:=E0) (pv 2) (hr.mono (by decide)) gB (aa (pv 5) (aa (bM hr.u1 (aZ (pv 0) rfl) (pv 1) (λ_ _=>rfl)) aq aH) aj)))
   (ao (RC (i:=7) ["place", "value"] [2] pM (aX (inClass (top 82) 9)) rfl sc.nd rfl (bH (aU aY (pv 6) aB (λ_ _=>rfl))) (λ_ _ _ _ _=>Px (K:=K) (n:=2) rfl rfl (fH (wU (i:=0) (show(["place", "value", "part"]:List Str).Nodup by decide +kernel) rfl (Or.inl rfl) (.inr rfl)) (fH (wU (i:=1) (show(["place", "value", "part"]:List Str).Nodup by decide +kernel) rfl (Or.inl rfl) (.inr rfl)) sJ))) (λ_ _ _ _ _=>jl) (λ_ _ _ _ _=>(bL (aa (aU (mL (K:=K) rfl) (JL (K:=K) rfl (pv 2) rfl) (pv 0) (λ_ _=>rfl)) (aa (pv 1) aq aj) aH))))
   (au (aQ (bL (aa (gf [2] pM (aX (inClass (top 82) 9)) rfl (bH (pv 4)) (λ_ _ _ _ _=>jl) (λ_ _ _ _ _=>(aU (mL (K:=K) rfl) (JL (K:=K) rfl (pv 1) rfl) (pv 0) (λ_ _=>rfl)))) (aa (pv 7) (aa (aU aY (pv 6) aB (λ_ _=>rfl)) aq aH) aj) d8)))))))))))),?_⟩
  obtain⟨dxn,fsn,R,F,Pd,Gn,Tk,FL,PL,Wn⟩:=id N
  have F:=Wn.fit
  obtain⟨dx,fs,h1,h2⟩:=id W.at'.ex
  have ok:=F.pok p hp
  have hO:=qU S p ok
  have hI:=ok.2.2.1
  have hh1:∀{H':Hp},aO H H'->(∀x∈p.ins,∃(l:Addr) (vs':List V) (g:Nat),bW (Vn A.ea ls) (Sum.inr x)=some (.ref l)/\bW (cT S.g ls) (Sum.inr x)=some (.int g)/\bI K H' l vs'/\kY S x=(vs'[g]?).getD .non):=λs x hx=>by
   obtain⟨l,hl,rfl⟩:=F.inL hp (List.mem_append.mpr (.inl hx))
   exact⟨A.ea l.name,_,S.g l.name,Dc F.whole.nod hl,wD F.whole.nod hl,bI.of (s _ _ (W.lists l hl)),by unfold kY;rw [List.getElem?_map]⟩
  have hz:sizeLine=16777216:=sizeLine_eq
  have hpl:(places p.kind (bc S p)).length<=3:=places_len hO
  refine⟨_,rfl,A.f,dx,fs,rfl,h1,h2.no _ (by decide +kernel),_,rfl,A,ls,ps,S,p,rfl,N,W,hp,λH1 s1=>?_⟩
  by_cases hlk:fG p.kind p.ins (bc S p)≠.non
  ·have e:(!decide (fG p.kind p.ins (bc S p)=V.non))=true:=by simp [hlk]
   refine⟨_,rfl,?_⟩
   rw [e]
   exact iT (iT (kn (Ob hlk) H1 s1))
  have hlk:=Classical.not_not.mp hlk
  rw [hlk]
  have W1:=W.same s1
  refine⟨_,rfl,dq ⟨_,rfl,A.f,dx,fs,rfl,s1 _ _ h1,h2.no _ (by decide +kernel),_,rfl,?_⟩⟩
  have vd:=wN (k:=λx=>(S.d x:Int)) F.pnd hp
  cases he:z9 S p with
  | true=>
   have h0:p.kind=0/\S.d p.name=(S.r p.name).length:=by unfold z9 at he;simpa using he
   refine Xw W1.at' W1.rows W1.done (.inr ⟨_,_,S.d p.name,Fy F.pnd hp h0.1,vd,bI.of (W1.rlst p hp h0.1),?_⟩)
   rw [decide_eq_true (by rw [lM];exact h0.2)]
   exact⟨_,rfl,iT (kn (Ql he) H1 s1)⟩
  | false=>
  obtain⟨lw,hB,hv,hw0⟩:=Xg F O hp hlk he
  have k':=k _ (show lC S p=some _ by unfold lC;rw [if_neg (by simp [hlk]),if_neg (by simp [he])])
  have hwl:=OJ (show p.kind<=10 by have:=ok.1;omega) p.nums (Fq S p) (S.k p.name)
  have hw2:=Le p.kind p.nums (Fq S p) (S.k p.name)
  have pick:∀(Q':VK) (E':XK),Q' (.bl false) H1->dO K t [.ref A.f,.str p.name] H1 Q' E':=by
   intro Q' E' z
   refine Xw W1.at' W1.rows W1.done ?_
   by_cases h0:p.kind=0
   ·refine .inr ⟨_,_,S.d p.name,Fy F.pnd hp h0,vd,bI.of (W1.rlst p hp h0),?_⟩
    obtain⟨w,ew,_⟩:=hw0 h0
    have:=(List.getElem?_eq_some_iff.mp ew).1
    rw [decide_eq_false (by rw [lM];omega)]
    exact z
   ·exact .inl ⟨PP F.pnd hp h0,z⟩
  refine pick _ _ ?_
  clear pick
  refine⟨_,rfl,dq ?_⟩
  have Wn1:=Wn.same s1
  refine⟨_,rfl,A.f,_,dx,fs,_,rfl,s1 _ _ h1,T.aV.c,T.aV.na.1,h2.has ("net",.ref A.n) (by simp),A.n,dxn,fsn,rfl,Wn1.obj,Wn1.fl.no _ (by decide +kernel),_,rfl,A.n,ls,ps,p.name,rfl,Wn1.s,.inl ⟨p,hp,rfl,λH2 q s2' hP=>?_⟩⟩
  have s2:=s1.trans s2'
  have W2:=W.same s2
  obtain⟨dxp,tn,ti,to,p1,p2,p3,p4⟩:=id hP.ex
  clear s2' W1 Wn1
  refine⟨_,rfl,A.f,dx,fs,rfl,s2 _ _ h1,h2.no _ (by decide +kernel),_,rfl,A.f,A.n,A.E,A.G,A.Kp,A.D,A.Rw,q,_,_,p.kind,_,_,_,p.ins,kY S,rfl,W2.at',W2.ever,W2.gone,hP,(by have:=GD p.kind;omega),hh1 s2,λd hd=>?_⟩
  have s3':=az (o:=.lst (bc S p)) hd
  have ed3:(upd H2 d (.lst (p.ins.map (kY S)))) d=some (.lst (bc S p)):=ak
  change aO H2 (upd H2 d (.lst (p.ins.map (kY S)))) at s3'
  generalize upd H2 d (.lst (p.ins.map (kY S)))=H3 at s3' ed3 ⊢
  have s3:=s2.trans s3'
  refine⟨_,rfl,q,cls t p.kind,dxp,_,m9 K t p.kind,rfl,s3' _ _ p1,sW _ _ _ _ (by decide +kernel) (by decide +kernel) (by decide +kernel) (by decide +kernel),Ie T p.kind,_,rfl,q,d,_,_,_,_,bc S p,rfl,hP.same s3',by rw [lM];exact hI,bI.of ed3,hO,λH4 L s4' nL eL=>?_⟩
  have s24:=s3'.trans s4'
  have s4:=s3.trans s4'
  have ed4:=s4' _ _ ed3
  refine⟨_,rfl,L,rfl,⟨_,bI.of eL⟩,dN (K:=K) (a:=L) (xs:=(places p.kind (bc S p)).map nV) (λj ys H'=>H'=H4/\ys=((places p.kind (bc S p)).take j).map (λq=>((bc S p)[q]?).getD .non)) (by rw [lM];omega) ⟨rfl,rfl⟩ (λj ys H' ⟨_,e⟩=>by rw [e,lM,List.length_take];omega) (λj ys H' _ ⟨e,_⟩=>by rw [e];exact bI.of eL) ?_ ?_⟩
  ·rintro j v ys H' hv' ⟨e',rfl⟩
   subst e'
   rw [List.getElem?_map] at hv'
   obtain⟨r,hr',rfl⟩:=Option.map_eq_some_iff.mp hv'
   have hql:r <(bc S p).length:=jr hO r (List.mem_of_getElem? hr')
   refine yes ⟨_,rfl,_,rfl,d,bc S p,r,_,rfl,rfl,bI.of ed4,aM (j:=r) (List.getElem?_eq_getElem hql),rfl,?_⟩
   rw [List.take_succ,hr',Option.toList_some,List.map_append,List.map_cons,List.map_nil,List.getElem?_eq_getElem hql]
   rfl
  rintro ys H' ⟨e',rfl⟩ V1 hV1
  subst e'
  rw [lM,List.take_length]
  have s5':=az (o:=.lst ((places p.kind (bc S p)).map λq=>((bc S p)[q]?).getD .non)) hV1
  have eV:(upd H' V1 (.lst ((places p.kind (bc S p)).map λq=>((bc S p)[q]?).getD .non))) V1=some (.lst ((places p.kind (bc S p)).map λq=>((bc S p)[q]?).getD .non)):=ak
  generalize upd H' V1 (.lst ((places p.kind (bc S p)).map λq=>((bc S p)[q]?).getD .non))=H5 at s5' eV ⊢
  have s25:=s24.trans s5'
  have s5:=s4.trans s5'
  have W5:=W.same s5
  refine⟨λσ' H6=>∃V2,aO H H6/\aO H2 H6/\aO H' H6/\σ'=[some (.ref A.f),some (.str p.name),some (.ref q),some (.ref d),some (.ref L),some (.ref V2),none,none]/\H6 V2=some (.lst ((Fq S p).map V.int)),?_,?_⟩
  ·refine⟨_,rfl,_,rfl,A.f,_,dx,fs,_,rfl,s5 _ _ h1,T.aV.c,T.aV.na.2.2.2.2.2.1,h2.has ("rows",.ref A.Rw) (by simp),A.Rw,_,rfl,dW.k (k:=Sum.inr p.name) W5.rows,?_⟩
   by_cases h0:p.kind=0
   ·obtain⟨w,ew,eW⟩:=hw0 h0
    have v1:=Fy (ra:=A.ra) F.pnd hp h0
    rw [v1,eW]
    refine⟨_,rfl,iT ?_⟩
    refine⟨_,rfl,A.f,_,dx,fs,_,rfl,s5 _ _ h1,T.aV.c,T.aV.na.2.2.2.2.2.1,h2.has ("rows",.ref A.Rw) (by simp),_,rfl,A.Rw,_,rfl,(by rw [<-v1];exact dW.k (k:=Sum.inr p.name) W5.rows),?_⟩
    refine⟨_,rfl,A.f,_,dx,fs,_,rfl,s5 _ _ h1,T.aV.c,T.aV.na.2.2.2.2.1,h2.has ("done",.ref A.D) (by simp),_,rfl,A.D,_,rfl,(by rw [<-vd];exact dW.k (k:=Sum.inr p.name) W5.done),?_⟩
    refine⟨A.ra p.name,_,S.d p.name,_,rfl,rfl,bI.of (W5.rlst p hp h0),aM (j:=S.d p.name) (by rw [List.getElem?_map,ew];rfl),rJ,λV2 hV2=>?_⟩
    exact⟨V2,s5.trans (az hV2),s25.trans (az hV2),s5'.trans (az hV2),rfl,ak⟩
   ·rw [PP F.pnd hp h0]
    exact⟨_,rfl,dq ⟨V1,s5,s25,s5',rfl,by rw [<-hv h0];exact eV⟩⟩
  rintro σ' H6 ⟨V2,s6,s26,s46,rfl,eV2⟩
  clear W5 W2 s25 s24 s5 s5' s4 s3 s3' eV ed4 ed3
  have W6:=W.same s6
  have hkp:=wN (k:=S.k) F.pnd hp
  refine⟨_,rfl,q,cls t p.kind,dxp,_,dU K t p.kind,rfl,s26 _ _ p1,sW _ _ _ _ (by decide +kernel) (by decide +kernel) (by decide +kernel) (by decide +kernel),Rn T ok.1,_,rfl,_,rfl,A.f,_,dx,fs,_,rfl,s6 _ _ h1,T.aV.c,T.aV.na.2.2.2.1,h2.has ("kept",.ref A.Kp) (by simp),_,rfl,A.Kp,_,rfl,(by rw [<-hkp];exact dW.k (k:=Sum.inr p.name) W6.kept),?_⟩
  refine⟨q,V2,_,p.nums,_,_,Fq S p,S.k p.name,rfl,hP.same s26,ok.2.1,bI.of eV2,lw,hB,λH7 U0 L0 rs s7 nL0 eU0 eL0 tU=>?_⟩
  have s57:=s6.trans s7
  have s27:=s26.trans s7
  have eL7:=s7 _ _ (s46 _ _ eL)
  have hlr:rs.length=(cA p.kind p.nums (Fq S p) (S.k p.name)).length:=by have:=Paired.length tU;unfold Ka at this;rw [lM] at this;exact this
  clear W6
  refine⟨_,rfl,U0,_,0,_,rfl,rfl,cP.of eU0,aM (j:=0) rfl,L0,rfl,⟨_,bI.of eL0⟩,?_⟩
  refine Eo (K:=K) (a:=L0) (xs:=rs.map V.ref) (λj ys H8=>aO H7 H8/\∃qs:List Addr,ys=qs.map V.ref/\iW H8 qs (((cA p.kind p.nums (Fq S p) (S.k p.name)).take j).map λpv=>[.str (strAt p.outs pv.1.toNat),.int pv.2])) (by rw [lM];omega) ⟨aO.refl _,[],rfl,.nil⟩ ?_ (λj ys H8 _ ⟨e,_⟩=>e.seq (bI.of eL0)) ?_ ?_
  ·rintro j ys H8 ⟨_,qs,rfl,tq⟩
   have:=Paired.length tq
   rw [lM,List.length_take] at this
   rw [lM]
   omega
  ·rintro j v ys H8 hj ⟨s8,qs,rfl,tq⟩
   rw [List.getElem?_map] at hj
   obtain⟨r,hr',rfl⟩:=Option.map_eq_some_iff.mp hj
   have hjl:j <(cA p.kind p.nums (Fq S p) (S.k p.name)).length:=by have:=(List.getElem?_eq_some_iff.mp hr').1;omega
   obtain⟨pv,hpv⟩:∃pv,(cA p.kind p.nums (Fq S p) (S.k p.name))[j]?=some pv:=⟨_,List.getElem?_eq_getElem hjl⟩
   have hr2:H7 r=some (.tup [.int pv.1,.int pv.2]):=by
    obtain⟨vs2,z1,z2⟩:=zH tU hr'
    unfold Ka at z1
    rw [List.getElem?_map,hpv] at z1
    cases z1
    exact z2
   obtain⟨o,ho1,ho2⟩:=hwl _ (List.mem_of_getElem? hpv)
   have ho3:o <p.outs.length:=by rw [ok.2.2.2.1];exact ho2
   have hn:strAt p.outs o=p.outs[o]:=by unfold strAt;rw [List.getElem?_eq_getElem ho3];rfl
   refine⟨r,_,rfl,cP.of (s8 _ _ hr2),rfl,_,_,rfl,_,_,rfl,rfl,rfl,?_⟩
   refine yes ⟨_,rfl,q,_,dxp,_,_,rfl,s8 _ _ (s27 _ _ p1),ir T p.kind,JN T p.kind,Hv _ _ _ _,_,rfl,to,p.outs.map V.str,_,.str (strAt p.outs o),rfl,rfl,s8.seqT (s27.seqT p4),?_,_,rfl,rJ,λu hu=>⟨s8.trans (az hu),qs ++ [u],by simp,?_⟩⟩
   ·rw [ho1,hn]
    exact aM (j:=o) (by rw [List.getElem?_map,List.getElem?_eq_getElem ho3];rfl)
   ·rw [List.take_succ,hpv,Option.toList_some,List.map_append]
    refine(iW.same (az hu) tq).append (.cons ?_ .nil)
    show upd H8 u _ u=some (HO.tup [V.str (strAt p.outs pv.1.toNat),V.int pv.2])
    rw [ho1,Int.toNat_natCast]
    exact ak
  rintro ys H8 ⟨s8,qs,rfl,tq⟩ Lg hLg
  rw [lM,hlr,List.take_length] at tq
  have t9:=az (o:=.lst (qs.map V.ref)) hLg
  have s9':=s8.trans t9
  have tq9:=iW.same t9 tq
  have eLg:(upd H8 Lg (.lst (qs.map V.ref))) Lg=some (.lst (qs.map V.ref)):=ak
  generalize upd H8 Lg (.lst (qs.map V.ref))=H9 at t9 s9' tq9 eLg ⊢
  have s9:=s57.trans s9'
  have s29:=s27.trans s9'
  have eL9:=s9' _ _ eL7
  have eU9:=s9' _ _ eU0
  refine⟨_,rfl,L,rfl,⟨_,bI.of eL9⟩,dN (K:=K) (a:=L) (xs:=(places p.kind (bc S p)).map nV) (λj ys H'=>H'=H9/\ys=((places p.kind (bc S p)).take j).map (λq=>V.str (strAt p.ins q))) (by rw [lM];omega) ⟨rfl,rfl⟩ (λj ys H' ⟨_,e⟩=>by rw [e,lM,List.length_take];omega) (λj ys H' _ ⟨e,_⟩=>by rw [e];exact bI.of eL9) ?_ ?_⟩
  ·rintro j v ys HX hv' ⟨e',rfl⟩
   subst e'
   rw [List.getElem?_map] at hv'
   obtain⟨r,hr',rfl⟩:=Option.map_eq_some_iff.mp hv'
   have hql:r <p.ins.length:=by have:=jr hO r (List.mem_of_getElem? hr');unfold bc at this;rwa [lM] at this
   have hn:strAt p.ins r=p.ins[r]:=by unfold strAt;rw [List.getElem?_eq_getElem hql];rfl
   refine yes ⟨_,rfl,q,_,dxp,_,_,rfl,s29 _ _ p1,ir T p.kind,Bc T p.kind,vV _ _ _ _,_,rfl,ti,p.ins.map V.str,r,.str (strAt p.ins r),rfl,rfl,s29.seqT p3,by rw [hn];exact aM (j:=r) (by rw [List.getElem?_map,List.getElem?_eq_getElem hql];rfl),rfl,?_⟩
   rw [List.take_succ,hr',Option.toList_some,List.map_append]
   rfl
  rintro ys H10 ⟨e',rfl⟩ La hLa
  subst e'
  rw [lM,List.take_length]
  have s10':=az (o:=.lst ((places p.kind (bc S p)).map λq=>V.str (strAt p.ins q))) hLa
  refine⟨_,rfl,_,rfl,U0,_,1,_,rfl,rfl,cP.of (s10' _ _ eU9),aM (j:=1) rfl,rJ,λU hU=>?_⟩
  refine k' _ U ((s9.trans s10').trans (az hU)) ((s9.trans s10').free hU) ⟨La,Lg,qs,ak,?_,az hU _ _ (s10' _ _ eLg),?_,W.cell (s9.free hLa),W.cell ((s57.trans s8).free hLg)⟩
  ·rw [List.map_map]
   exact az hU _ _ ak
  ·rw [List.map_map]
   exact iW.same (s10'.trans (az hU)) tq9
theorem QB (g:Str->Nat) {ls:List aF} {x:Str} (hx:x∈ls.map (·.name)) (v:Nat):putK (cT g ls) (Sum.inr x) (.int (v:Nat))=cT (λy=>if y=x then v else g y) ls:=by
 unfold putK
 rw [if_pos (by
  obtain⟨l,hl,rfl⟩:=List.mem_map.mp hx
  exact List.any_eq_true.mpr ⟨_,List.mem_map.mpr ⟨l,hl,rfl⟩,by simp⟩)]
 unfold cT
 rw [List.map_map]
 refine List.map_congr_left λl _=>?_
 by_cases h:l.name=x
 ·simp [h]
 ·simp [h]
theorem HQ (g:Str->Int) {ps:List PD} {x:Str} (hx:x∈ps.map (·.name)) (v:Int):putK (bV g ps) (Sum.inr x) (.int v)=bV (λy=>if y=x then v else g y) ps:=by
 unfold putK
 rw [if_pos (by
  obtain⟨l,hl,rfl⟩:=List.mem_map.mp hx
  exact List.any_eq_true.mpr ⟨_,List.mem_map.mpr ⟨l,hl,rfl⟩,by simp⟩)]
 unfold bV
 rw [List.map_map]
 refine List.map_congr_left λl _=>?_
 by_cases h:l.name=x
 ·simp [h]
 ·simp [h]
noncomputable def Cz (S:FS) (x:Str) (dd:ju):FS:=⟨λy=>S.ev y ++ (dd.gv.filter λq=>decide (q.1=y)).map (·.2),λy=>if y∈dd.tk then S.g y+1 else S.g y,λy=>if y=x then dd.kv else S.k y,λy=>if y=x then S.d y+1 else S.d y,S.r⟩
noncomputable def GC (M:List Addr) (H H':Hp):Prop:=∀b,b∉M->H' b=H b
structure JF (ls:List aF) (dd:ju):Prop where
 ntk:dd.tk.Nodup
 tin:∀x∈dd.tk,x∈ls.map (·.name)
 gin:∀q∈dd.gv,q.1∈ls.map (·.name)
 g2:dd.gv.length<=2
inductive By (K:PySem.W.Frag) (t:jw) (vs:List V) (H:Hp) (Q:VK):Prop where
 | mk:∀(b:Nat) (A:qK) (ls:List aF) (ps:List PD) (S:FS) (p:PD) (U:Addr) (dd:ju),vs=[.ref A.f,.str p.name,.ref U]->uD ls ps->fj K t H A ls ps S->p∈ps->((∀l∈ls,(S.ev l.name).length<=b))->b<=100000->mH (A.cells ls ps) H U dd->JF ls dd->(∀H',GC (A.cells ls ps) H H'->fj K t H' A ls ps (Cz S p.name dd)->Q .non H')->By K t vs H Q
@[irreducible] noncomputable def nZ (K:PySem.W.Frag) (t:jw):Sp:=λvs H Q _=>By K t vs H Q
theorem NQ (T:Txt w K mg t):FO P w K mg base 1 t.Ba ["self", "name", "deed"] (nZ K t):=by
 have sc:=T.Bf.sc ["self", "name", "deed", "lane", "value"]
 refine T.Bf.F.ok sc (λvs H Q E h=>?_) (λcdv A outer s H vs Q E hr h=>?_)
 ·unfold nZ at h
  obtain⟨b,A,ls,ps,S,p,U,dd,rfl,_⟩:=h
  rfl
 ·unfold nZ at h
  obtain⟨b,A,ls,ps,S,p,U,dd,rfl,F,W,hp,O,hb,⟨La,Lg,rs,hU,hLa,hLg,hT,na,ng⟩,⟨ntk,hin,hout,hg2⟩,k⟩:=h
  refine⟨_,(ao (cX PassesOwn.never rfl (bH (aU aY (pv 2) aB (λ_ _=>rfl))) (gN sc 3)
    (au (Ot hr.u1 (aZ (pv 0) rfl) (pv 3) aB JK (λ_ _ _=>rfl))))
   (ao (cX PassesOwn.never rfl (bH (aU aY (pv 2) aB (λ_ _=>rfl))) (Ay rfl (fH (gN sc 3) (fH (gN sc 4) sJ)))
    (au (dh (Ut (bM hr.u1 (aZ (pv 0) rfl) (pv 3) (λ_ _=>rfl)) (aa (pv 4) aq aj)))))
   (ao (d7 hr.u1 (aZ (pv 0) rfl) (pv 1) (aU aY (pv 2) aB (λ_ _=>rfl)) rfl)
   (au (Ot hr.u1 (aZ (pv 0) rfl) (pv 1) aB JK (λ_ _ _=>rfl)))))),?_⟩
  have hl:sizeLine=16777216:=sizeLine_eq
  have l24:=F.l24
  have p16:=F.p16
  obtain⟨dx,fs,h1,h2⟩:=id W.at'.ex
  have hG:=W.gone
  have hn:=W.nod
  unfold qK.cells at hn na ng
  simp only [List.nodup_cons,List.mem_cons,List.mem_append,not_or] at hn na ng
  obtain⟨⟨nEG,nEK,nED,nER,nEE,nE2⟩,⟨nGK,nGD,nGR,nGE,nG2⟩,⟨nKD,nKR,nKE,nK2⟩,⟨nDR,nDE,nD2⟩,⟨nRE,nR2⟩,nA⟩:=hn
  obtain⟨nE1,nR1,nER1⟩:=List.nodup_append.mp nA
  refine⟨_,rfl,U,_,0,_,rfl,rfl,cP.of hU,aM (j:=0) rfl,La,rfl,⟨_,bI.of hLa⟩,cY (K:=K) (a:=La) (xs:=dd.tk.map V.str) (λj σ H'=>H'=upd H A.G (.dK (cT (λx=>if x∈dd.tk.take j then S.g x+1 else S.g x) ls))/\∃v3,σ=[some (.ref A.f),some (.str p.name),some (.ref U),v3,none]) ⟨?_,none,rfl⟩ ?_ ?_ ?_⟩
  ·have:cT (λx=>if x∈dd.tk.take 0 then S.g x+1 else S.g x) ls=cT S.g ls:=by simp
   rw [this,Ir hG]
  ·rintro j σ H' _ ⟨rfl,_⟩
   exact bI.of (gP hG hLa (by intro _ z;cases z))
  ·rintro j x σ H' hx ⟨rfl,v3,rfl⟩
   rw [List.getElem?_map] at hx
   obtain⟨y,hy,rfl⟩:=Option.map_eq_some_iff.mp hx
   have hym:=hin y (List.mem_of_getElem? hy)
   have nin:y∉dd.tk.take j:=by
    have:=jG (f:=id) (xs:=dd.tk) (by rw [List.map_id];exact ntk) hy
    rwa [List.map_id] at this
   have vg:bW (cT (λx=>if x∈dd.tk.take j then S.g x+1 else S.g x) ls) (Sum.inr y)=some (.int ((S.g y:Nat):Int)):=by
    obtain⟨l,hl',rfl⟩:=List.mem_map.mp hym
    rw [wD F.whole.nod hl',if_neg nin]
   refine⟨_,rfl,A.f,_,dx,fs,_,rfl,gP hG h1 (by intro _ z;cases z),T.aV.c,T.aV.na.2.2.1,h2.has ("gone",.ref A.G) (by simp),_,rfl,A.G,.int ((S.g y:Nat):Int),rfl,(by rw [<-vg];exact dW.k (k:=Sum.inr y) ak),_,_,rfl,rfl,_,lJ.k (k:=Sum.inr y) ak (by unfold cT;rw [lM];omega),?_,_,rfl⟩
   rw [kI]
   show upd H A.G (.dK (putK _ (Sum.inr y) (.int ((S.g y+1:Nat):Int))))=_
   rw [QB _ hym (S.g y+1)]
   have:(λz=>if z=y then S.g y+1 else if z∈dd.tk.take j then S.g z+1 else S.g z)=λz=>if z∈dd.tk.take (j+1) then S.g z+1 else S.g z:=by
    funext z
    simp only [List.take_succ,hy,Option.toList_some,List.mem_append,List.mem_singleton]
    by_cases h3:z=y <;> by_cases h4:z∈dd.tk.take j <;> simp [h3,h4]
   rw [this]
  rintro σ H' ⟨rfl,v3,rfl⟩
  rw [lM,List.take_length]
  have m1:GC [A.G] H (upd H A.G (.dK (cT (Cz S p.name dd).g ls))):=λb hb=>aJ (by simpa using hb)
  have gG:upd H A.G (.dK (cT (Cz S p.name dd).g ls)) A.G=some (.dK (cT (Cz S p.name dd).g ls)):=ak
  change Ge _ _ _ _ (upd H A.G (.dK (cT (Cz S p.name dd).g ls)))
  generalize upd H A.G (.dK (cT (Cz S p.name dd).g ls))=H1 at m1 gG ⊢
  have g1:∀{b:Addr} {u:HO},H b=some u->(∀ks,u≠.dK ks)->H1 b=some u:=λ{b u} h hu=>by
   rw [m1 b (by rw [List.mem_singleton];rintro rfl;rw [hG] at h;exact hu _ (Option.some.inj h).symm)]
   exact h
  have hlr:rs.length=dd.gv.length:=by have:=Paired.length hT;rw [lM] at this;exact this
  have eE1:H1 A.E=some (.dK (Vn A.ea ls)):=by rw [m1 A.E (by simpa using nEG)];exact W.ever
  have lists1:∀l∈ls,H1 (A.ea l.name)=some (.lst ((S.ev l.name).map V.int)):=λl hl=>g1 (W.lists l hl) (by intro _ z;cases z)
  have nM:∀{b:Addr} {u:HO},H1 b=some u->(∀ks,u≠.lst ks)->b∉ls.map (λl=>A.ea l.name):=λ{b u} h hu hm=>by
   obtain⟨l,hl,rfl⟩:=List.mem_map.mp hm
   rw [lists1 l hl] at h
   exact hu _ (Option.some.inj h).symm
  refine⟨_,rfl,U,_,1,_,rfl,rfl,cP.of (g1 hU (by intro _ z;cases z)),aM (j:=1) rfl,Lg,rfl,⟨_,bI.of (g1 hLg (by intro _ z;cases z))⟩,cY (K:=K) (a:=Lg) (xs:=rs.map V.ref) (λj σ H'=>(GC (ls.map (λl=>A.ea l.name)) H1 H'/\∀l∈ls,H' (A.ea l.name)=some (.lst ((S.ev l.name ++ ((dd.gv.take j).filter λq=>decide (q.1=l.name)).map (·.2)).map V.int)))/\∃v3 v4,σ=[some (.ref A.f),some (.str p.name),some (.ref U),v3,v4]) ⟨⟨λ_ _=>rfl,λl hl=>?_⟩,v3,none,rfl⟩ ?_ ?_ ?_⟩
  ·rw [lists1 l hl]
   simp
  ·rintro j σ H' _ ⟨⟨m2,_⟩,_⟩
   exact bI.of (by rw [m2 Lg ng.2.2.2.2.2.1];exact g1 hLg (by intro _ z;cases z))
  ·rintro j x σ H' hx ⟨⟨m2,l2⟩,v3,v4,rfl⟩
   rw [List.getElem?_map] at hx
   obtain⟨r,hr',rfl⟩:=Option.map_eq_some_iff.mp hx
   obtain⟨vs2,z1,z2⟩:=zH hT hr'
   rw [List.getElem?_map] at z1
   obtain⟨w,ew,rfl⟩:=Option.map_eq_some_iff.mp z1
   have hj:=(List.getElem?_eq_some_iff.mp ew).1
   have er:=g1 z2 (by intro _ z;cases z)
   have er':H' r=some (.tup [.str w.1,.int w.2]):=by rw [m2 r (nM er (by intro _ z;cases z))];exact er
   have fe:H' A.f=some (.ins t.bU dx fs):=by
    have e1:=g1 h1 (by intro _ z;cases z)
    rw [m2 A.f (nM e1 (by intro _ z;cases z))]
    exact e1
   have ee:H' A.E=some (.dK (Vn A.ea ls)):=by rw [m2 A.E nEE];exact eE1
   obtain⟨l,hl',hln⟩:=List.mem_map.mp (hout w (List.mem_of_getElem? ew))
   have va:=Dc (ea:=A.ea) F.whole.nod hl'
   have ea:=l2 _ hl'
   rw [hln] at va
   refine⟨r,_,rfl,cP.of er',rfl,_,_,rfl,_,_,rfl,rfl,?_⟩
   refine⟨_,rfl,A.f,_,dx,fs,_,rfl,fe,T.aV.c,T.aV.na.2.1,h2.has ("ever",.ref A.E) (by simp),_,rfl,A.E,.ref (A.ea w.1),rfl,(by rw [<-va];exact dW.k (k:=Sum.inr w.1) ee),.inl ⟨rfl,_,bI.of (by rw [<-hln];exact ea)⟩,?_⟩
   refine⟨_,rfl,A.ea w.1,_,.int w.2,rfl,rfl,by rw [<-hln];exact ea,?_,⟨λb hb=>?_,λl1 hl1=>?_⟩,some (.str w.1),some (.int w.2),rfl⟩
   ·have h3:=O l hl'
    have h4:=List.length_filter_le (λq:Str×Int=>decide (q.1=l.name)) (dd.gv.take j)
    rw [List.length_take] at h4
    rw [lM,lP,lM]
    omega
   ·rw [aJ (λz=>hb (by rw [z,<-hln];exact List.mem_map.mpr ⟨l,hl',rfl⟩))]
    exact m2 b hb
   ·rw [List.take_succ,ew,Option.toList_some,List.filter_append,List.map_append]
    by_cases h:w.1=l1.name
    ·have e:l1=l:=by
      have a1:=find_name F.whole.nod hl1
      have a2:=find_name F.whole.nod hl'
      rw [<-h,<-hln,a2] at a1
      exact(Option.some.inj a1).symm
     subst e
     rw [<-hln,ak]
     simp [h]
    ·have hne:A.ea l1.name≠A.ea w.1:=λz=>by
      rw [<-hln] at z
      have:=DQ nE1 hl1 hl' z
      exact h (by rw [this,hln])
     rw [aJ hne,l2 l1 hl1]
     simp [h]
  rintro σ H2 ⟨⟨m2,l2⟩,v5,v6,rfl⟩
  rw [lM,hlr,List.take_length] at l2
  have fe:H2 A.f=some (.ins t.bU dx fs):=by
   have e1:=g1 h1 (by intro _ z;cases z)
   rw [m2 A.f (nM e1 (by intro _ z;cases z))]
   exact e1
  have uE:H2 U=some (.tup [.ref La,.ref Lg,.int dd.kv]):=by
   have e1:=g1 hU (by intro _ z;cases z)
   rw [m2 U (nM e1 (by intro _ z;cases z))]
   exact e1
  have kE:H2 A.Kp=some (.dK (bV S.k ps)):=by rw [m2 A.Kp nKE,m1 A.Kp (by simpa using Ne.symm nGK)];exact W.kept
  have dE:H2 A.D=some (.dK (bV (λx=>(S.d x:Int)) ps)):=by rw [m2 A.D nDE,m1 A.D (by simpa using Ne.symm nGD)];exact W.done
  have lk:∀k1:Str->Int,(bV k1 ps).length <sizeLine:=λk1=>by unfold bV;rw [lM];omega
  have hpn:p.name∈ps.map (·.name):=List.mem_map.mpr ⟨p,hp,rfl⟩
  refine⟨_,rfl,U,_,2,_,rfl,rfl,cP.of uE,aM (j:=2) rfl,_,rfl,A.f,_,dx,fs,_,rfl,fe,T.aV.c,T.aV.na.2.2.2.1,h2.has ("kept",.ref A.Kp) (by simp),_,rfl,A.Kp,_,rfl,lJ.k (k:=Sum.inr p.name) kE (lk _),?_⟩
  rw [HQ S.k hpn]
  have m3:GC [A.Kp] H2 (upd H2 A.Kp (.dK (bV (λy=>if y=p.name then dd.kv else S.k y) ps))):=λb hb=>aJ (by simpa using hb)
  have kE3:upd H2 A.Kp (.dK (bV (λy=>if y=p.name then dd.kv else S.k y) ps)) A.Kp=some (.dK (bV (λy=>if y=p.name then dd.kv else S.k y) ps)):=ak
  generalize upd H2 A.Kp (.dK (bV (λy=>if y=p.name then dd.kv else S.k y) ps))=H3 at m3 kE3 ⊢
  have fe3:H3 A.f=some (.ins t.bU dx fs):=by rw [m3 A.f (by simpa using qY fe kE (by intro z;cases z))];exact fe
  have dE3:H3 A.D=some (.dK (bV (λx=>(S.d x:Int)) ps)):=by rw [m3 A.D (by simpa using Ne.symm nKD)];exact dE
  have vd:=wN (k:=λx=>(S.d x:Int)) F.pnd hp
  refine⟨_,rfl,A.f,_,dx,fs,_,rfl,fe3,T.aV.c,T.aV.na.2.2.2.2.1,h2.has ("done",.ref A.D) (by simp),_,rfl,A.D,.int (S.d p.name:Int),rfl,(by rw [<-vd];exact dW.k (k:=Sum.inr p.name) dE3),_,_,rfl,rfl,_,lJ.k (k:=Sum.inr p.name) dE3 (lk _),?_⟩
  rw [HQ (λx=>(S.d x:Int)) hpn]
  have eD:(λy=>if y=p.name then(S.d p.name:Int)+1 else(S.d y:Int))=λx=>(((Cz S p.name dd).d x:Nat):Int):=by
   funext y
   unfold Cz
   by_cases h:y=p.name
   ·subst h;simp
   ·simp [h]
  change Q .non (upd H3 A.D (.dK (bV (λy=>if y=p.name then(S.d p.name:Int)+1 else(S.d y:Int)) ps)))
  rw [eD]
  have m4:GC [A.D] H3 (upd H3 A.D (.dK (bV (λx=>(((Cz S p.name dd).d x:Nat):Int)) ps))):=λb hb=>aJ (by simpa using hb)
  have dE4:upd H3 A.D (.dK (bV (λx=>(((Cz S p.name dd).d x:Nat):Int)) ps)) A.D=some (.dK (bV (λx=>(((Cz S p.name dd).d x:Nat):Int)) ps)):=ak
  generalize upd H3 A.D (.dK (bV (λx=>(((Cz S p.name dd).d x:Nat):Int)) ps))=H4 at m4 dE4 ⊢
  have mv:∀b,b≠A.D->b≠A.Kp->H4 b=H2 b:=λb a1 a2=>by rw [m4 b (by simpa using a1),m3 b (by simpa using a2)]
  have fe4:H4 A.f=some (.ins t.bU dx fs):=by rw [m4 A.f (by simpa using qY fe3 dE3 (by intro z;cases z))];exact fe3
  refine k H4 (λb hb=>?_) ⟨⟨dx,fs,fe4,h2⟩,?_,?_,?_,?_,dE4,?_,?_,W.nod⟩
  ·unfold qK.cells at hb
   simp only [List.mem_cons,List.mem_append,not_or] at hb
   rw [mv b hb.2.2.2.1 hb.2.2.1,m2 b hb.2.2.2.2.2.1,m1 b (by simpa using hb.2.1)]
  ·rw [mv A.E nED nEK,m2 A.E nEE,eE1]
  ·intro l hl
   have a2:=l2 l hl
   rw [mv _ (qY a2 dE (by intro z;cases z)) (qY a2 kE (by intro z;cases z))]
   exact a2
  ·rw [mv A.G nGD nGK,m2 A.G nGE,gG]
  ·rw [m4 A.Kp (by simpa using nKD)]
   exact kE3
  ·rw [mv A.Rw (Ne.symm nDR) (Ne.symm nKR),m2 A.Rw nRE,m1 A.Rw (by simpa using Ne.symm nGR)]
   exact W.rows
  ·intro p' hp' h0
   have hm:A.ra p'.name∈(qD ps).map (λp=>A.ra p.name):=List.mem_map.mpr ⟨p',List.mem_filter.mpr ⟨hp',by simp [h0]⟩,rfl⟩
   rw [mv _ (λz=>nD2 (by rw [<-z];exact hm)) (λz=>nK2 (by rw [<-z];exact hm)),m2 _ (λz=>nER1 _ z _ hm rfl),m1 _ (by simpa using λz=>nG2 (by rw [<-z];exact hm))]
   exact W.rlst p' hp' h0
theorem Sy (T:Txt w K mg t) (i:Nat):MethAt P w K mg base Dd 1 (cls t i) "start" (vN K t i):=match i with
 | 0=>⟨_,_,_,T.ig.c,(T.bA.me T.ig.me.2.2.2.2.2.1),T.bA.b,(dj T).imp λ_ _ _ _ h=>⟨_,by omega,h⟩⟩
 | 1=>⟨_,_,_,T.iG.c,(T.bA.me T.iG.me.2.2.2.2.2.1),T.bA.b,(dj T).imp λ_ _ _ _ h=>⟨_,by omega,h⟩⟩
 | 2=>⟨_,_,_,T.iH.c,(T.bA.me T.iH.me.2.2.2.2.2.1),T.bA.b,(dj T).imp λ_ _ _ _ h=>⟨_,by omega,h⟩⟩
 | 3=>⟨_,_,_,T.iJ.c,(T.bA.me T.iJ.me.2.2.2.2.2.1),T.bA.b,(dj T).imp λ_ _ _ _ h=>⟨_,by omega,h⟩⟩
 | 4=>⟨_,_,_,T.iI.c,(T.bA.me T.iI.me.2.2.2.2.2.1),T.bA.b,(dj T).imp λ_ _ _ _ h=>⟨_,by omega,h⟩⟩
 | 5=>⟨_,_,_,T.iD.c,(T.mY.me T.iD.me.2.2.2.2.2.1),T.mY.b,Gp T⟩
 | 6=>⟨_,_,_,T.lO.c,(T.bA.me T.lO.me.2.2.2.2.2.1),T.bA.b,(dj T).imp λ_ _ _ _ h=>⟨_,by omega,h⟩⟩
 | 7=>⟨_,_,_,T.iB.c,(T.bA.me T.iB.me.2.2.2.2.2.1),T.bA.b,(dj T).imp λ_ _ _ _ h=>⟨_,by omega,h⟩⟩
 | 8=>⟨_,_,_,T.fK.c,(T.bA.me T.fK.me.2.2.2.2.2.1),T.bA.b,(dj T).imp λ_ _ _ _ h=>⟨_,by omega,h⟩⟩
 | 9=>⟨_,_,_,T.dM.c,(T.bA.me T.dM.me.2.2.2.2.2.1),T.bA.b,(dj T).imp λ_ _ _ _ h=>⟨_,by omega,h⟩⟩
 | n+10=>⟨_,_,_,T.fD.c,(T.bA.me T.fD.me.2.2.2.2.2.1),T.bA.b,(dj T).imp λ_ _ _ _ h=>⟨_,by omega,h⟩⟩
theorem Wa:∀i,i <11->fQ i= "give" ->i=0:=by decide +kernel
theorem Qw (p:PD) (h:nY p):IW p.kind (p.nums.map V.int)=.int (Jl p):=by
 unfold IW Jl
 by_cases h5:p.kind=5
 ·rw [if_pos h5,if_pos h5]
  have hl:p.nums.length=1:=by rw [h.2.1,h5];rfl
  match p.nums,hl with
  | [m],_=>rfl
 ·rw [if_neg h5,if_neg h5]
noncomputable def Mj (ls:List aF) (x:Str):List Int:=((ls.find? λl=>decide (l.name=x)).map (·.first)).getD []
theorem yG {ls:List aF} (nd:(ls.map (·.name)).Nodup) {l:aF} (hl:l∈ls):Mj ls l.name=l.first:=by
 unfold Mj
 rw [find_name nd hl]
 rfl
noncomputable def vQ (RW:List (Str×Addr×List Int)):List (Key×V):=RW.map λq=>((Sum.inr q.1:Key),V.ref q.2.1)
noncomputable def wZ (RW:List (Str×Addr×List Int)) (x:Str):List Int:=((RW.find? λq=>decide (q.1=x)).map (·.2.2)).getD []
structure qm (H:Hp) (rw:Addr) (RW:List (Str×Addr×List Int)):Prop where
 dict:H rw=some (.dK (vQ RW))
 lists:∀q∈RW,H q.2.1=some (.lst (q.2.2.map V.int))
 nd:(RW.map (·.1)).Nodup
 len:∀q∈RW,q.2.2.length<=300
theorem qm.same {H H':Hp} {rw:Addr} {RW:List (Str×Addr×List Int)} (h:qm H rw RW) (s:aO H H'):qm H' rw RW:=⟨s _ _ h.dict,λq hq=>s _ _ (h.lists q hq),h.nd,h.len⟩
theorem yh (RW:List (Str×Addr×List Int)):(vQ RW).map (·.1)=(RW.map (·.1)).map (λx=>(Sum.inr x:Key)):=by unfold vQ;rw [List.map_map,List.map_map];rfl
theorem qm.get {H:Hp} {rw:Addr} {RW:List (Str×Addr×List Int)} (h:qm H rw RW) (x:Str):(bW (vQ RW) (Sum.inr x)=none/\wZ RW x=[])∨∃a,bW (vQ RW) (Sum.inr x)=some (.ref a)/\H a=some (.lst ((wZ RW x).map V.int))/\(wZ RW x).length<=300:=by
 by_cases hx:x∈RW.map (·.1)
 ·obtain⟨q,hq,rfl⟩:=List.mem_map.mp hx
  have e:wZ RW q.1=q.2.2:=by unfold wZ;rw [find_name (f:=λq:Str×Addr×List Int=>q.1) h.nd hq];rfl
  refine .inr ⟨q.2.1,iz (by rw [yh];exact gm h.nd) (List.mem_map.mpr ⟨q,hq,rfl⟩),?_,?_⟩
  ·rw [e];exact h.lists q hq
  ·rw [e];exact h.len q hq
 ·refine .inl ⟨iu (by rw [yh];intro z;obtain⟨b,hb,e⟩:=List.mem_map.mp z;cases e;exact hx hb),?_⟩
  unfold wZ
  rw [List.find?_eq_none.mpr λq hq=>by simpa using λe=>hx (List.mem_map.mpr ⟨q,hq,e⟩)]
  rfl
noncomputable def jT (ls:List aF) (ps:List PD) (RW:List (Str×Addr×List Int)):FS:=⟨Mj ls,λ_=>0,fX ps,λ_=>0,wZ RW⟩
noncomputable def Kq (RW:List (Str×Addr×List Int)) (RL:List (PD×Addr)):List (Addr×HO):=RL.map λq=>(q.2,HO.lst ((wZ RW q.1.name).map V.int))
theorem R4 {ps:List PD} (h:∀p∈ps,nY p):(ps.filter λp=>decide (fQ p.kind= "give"))=qD ps:=by
 unfold qD
 refine List.filter_congr λp hp=>?_
 by_cases h0:p.kind=0
 ·rw [h0];rfl
 ·have:¬fQ p.kind= "give" :=λz=>h0 (Wa _ (h p hp).1 z)
  simp [h0,this]
noncomputable def LR {α:Type} (f:α->Str) (L:List (α×Addr)) (x:Str):Addr:=((L.find? λq=>decide (f q.1=x)).map (·.2)).getD 0
theorem vI {α:Type} {f:α->Str} {L:List (α×Addr)} (nd:(L.map λq=>f q.1).Nodup) {q:α×Addr} (hq:q∈L):LR f L (f q.1)=q.2:=by
 unfold LR
 rw [find_name (f:=λq:α×Addr=>f q.1) nd hq]
 rfl
theorem GZ {α:Type} {f:α->Str} {L:List (α×Addr)} (nd:(L.map λq=>f q.1).Nodup):(L.map (·.1)).map (λa=>LR f L (f a))=L.map (·.2):=by
 rw [List.map_map]
 exact List.map_congr_left λq hq=>vI nd hq
inductive p7 (K:PySem.W.Frag) (t:jw) (vs:List V) (H:Hp) (Q:VK):Prop where
 | mk:∀(H0:Hp) (f dx n rw:Addr) (ls:List aF) (ps:List PD) (RW:List (Str×Addr×List Int)),vs=[.ref f,.ref n,.ref rw]->H f=some (.ins t.bU dx [])->aO H0 H->H0 f=none->gJ K t H0 n ls ps->qm H0 rw RW->(∀H' A,A.f=f->A.n=n->jK f H H'->fj K t H' A ls ps (jT ls ps RW)->(∀a∈A.cells ls ps,H a=none)->Q .non H')->p7 K t vs H Q
@[irreducible] noncomputable def fZ (K:PySem.W.Frag) (t:jw):Sp:=λvs H Q _=>p7 K t vs H Q
theorem zY (T:Txt w K mg t):FO P w K mg base 4 t.lZ ["self", "net", "rows"] (fZ K t):=by
 have sc:=T.je.sc ["self", "net", "rows", "lane", "name", "door"]
 refine T.je.F.ok sc (λvs H Q E h=>?_) (λcdv A outer s H vs Q E hr h=>?_)
 ·unfold fZ at h
  obtain⟨H0,f,dx,n,rw,ls,ps,RW,rfl,_⟩:=h
  rfl
 ·unfold fZ at h
  obtain⟨H0,f,dx,n,rw,ls,ps,RW,rfl,hf,s0,nf0,N,hrw,k⟩:=h
  refine⟨_,(ao (gU (pv 0) (pv 1) rfl)
   (ao (gU (pv 0) dY rfl)
   (ao (gU (pv 0) dY rfl)
   (ao (cX PassesOwn.never rfl (bH (Nz (pv 1) T.aR T.aR.me.2.1 (jB T) T.gj hr)) (gN sc 3)
    (ao (d7 hr.u1 (aZ (pv 0) rfl) (pv 3) (zx (pv 1) T.aR T.aR.me.2.2.2.2.2.2.2.2.2.1 (uf T) T.jC hr (aa (pv 3) aq aj)) rfl)
    (au (d7 hr.u1 (aZ (pv 0) rfl) (pv 3) aB rfl))))
   (ao (gU (pv 0) dY rfl)
   (ao (gU (pv 0) dY rfl)
   (ao (cX PassesOwn.never rfl (bH (Nz (pv 1) T.aR T.aR.me.2.2.1 (dw T) T.cj hr)) (gN sc 4)
    (ao (d7 hr.u1 (aZ (pv 0) rfl) (pv 4) (Aj (CX:=Dd) (k:=1) (E:=E0) (zx (pv 1) T.aR T.aR.me.2.2.2.2.2.2.2.2.2.2.2.2.1 (jy T) T.gQ hr (aa (pv 4) aq aj)) (hr.mono (by decide)) gB) rfl)
    (au (d7 hr.u1 (aZ (pv 0) rfl) (pv 4) aB rfl))))
   (ao (gU (pv 0) dY rfl)
   (au (cX PassesOwn.never rfl (bH (Nz (pv 1) T.aR T.aR.me.2.2.2.2.2.1 (tH T) T.lA hr)) (gN sc 5)
    (au (d7 hr.u1 (aZ (pv 0) rfl) (pv 5) (dC yC (by rfl) T.uY pC (aa (Mp hr.u1 (pv 2) (pv 5) (dm aq) ⟨rfl,rfl,rfl,rfl⟩) aq bz)) rfl)))))))))))),?_⟩
  obtain⟨dxn,fsn,R,F,Pd,Gn,Tk,FL,PL,W⟩:=id N
  have hl:sizeLine=16777216:=sizeLine_eq
  have l24:=W.fit.l24
  have p16:=W.fit.p16
  have sk:∀{Hk:Hp},jK f H Hk->aO H0 Hk:=λb x o e=>b x o (aC e nf0) (s0 x o e)
  have T0:=Tr.start hf
  refine⟨_,rfl,_,rfl,f,_,dx,[],rfl,hf,T.aV.c,T.aV.na.1,by show 0 <1000;decide,?_⟩
  have T1:=T0.put (L1:=[]) (L2:=[]) (o':=.ins t.bU dx (aD "net" (.ref n) []))
  generalize upd H f (.ins t.bU dx (aD "net" (.ref n) []))=H1 at T1 ⊢
  refine λE nE=>?_
  have T2:=T1.new (o:=.dK []) nE
  generalize upd H1 E (.dK [])=H2 at T2 ⊢
  refine⟨_,rfl,f,_,dx,_,rfl,T2.all (f,_) (.head _),T.aV.c,T.aV.na.2.1,Nat.lt_of_le_of_lt (gH (Nat.zero_le 0)) (by decide),?_⟩
  have T3:=T2.put (L1:=[]) (o':=.ins t.bU dx (aD "ever" (.ref E) (aD "net" (.ref n) [])))
  generalize upd H2 f (.ins t.bU dx (aD "ever" (.ref E) (aD "net" (.ref n) [])))=H3 at T3 ⊢
  refine λG nG=>?_
  have T4:=T3.new (o:=.dK []) nG
  generalize upd H3 G (.dK [])=H4 at T4 ⊢
  refine⟨_,rfl,f,_,dx,_,rfl,T4.all (f,_) (.head _),T.aV.c,T.aV.na.2.2.1,Nat.lt_of_le_of_lt (gH (gH (Nat.zero_le 0))) (by decide),?_⟩
  have T5:=T4.put (L1:=[]) (o':=.ins t.bU dx (aD "gone" (.ref G) (aD "ever" (.ref E) (aD "net" (.ref n) []))))
  generalize upd H4 f (.ins t.bU dx (aD "gone" (.ref G) (aD "ever" (.ref E) (aD "net" (.ref n) []))))=H5 at T5 ⊢
  have W5:=W.same (sk T5.but)
  refine⟨_,rfl,n,dxn,fsn,rfl,W5.obj,W5.fl.no _ (by decide +kernel),n,ls,ps,rfl,W5.s,λl nl=>?_⟩
  have T6:Tr H f ((f,.ins t.bU dx (aD "gone" (.ref G) (aD "ever" (.ref E) (aD "net" (.ref n) [])))):: (E,.dK (bC [])):: (G,.dK (cT (λ_=>0) [])):: (l,.lst (ls.map λx:aF=>V.str x.name)):: jN []) (upd H5 l (.lst (ls.map λx:aF=>V.str x.name))):=T5.new nl
  generalize upd H5 l (.lst (ls.map λx:aF=>V.str x.name))=H6 at T6 ⊢
  clear T0 T1 T2 T3 T4 T5 W5
  refine⟨l,rfl,⟨_,bI.of (T6.all (l,.lst (ls.map λx:aF=>V.str x.name)) (by simp))⟩,cY (K:=K) (a:=l) (xs:=ls.map λx:aF=>V.str x.name) (λj σ H'=>(∃v3,σ=[some (.ref f),some (.ref n),some (.ref rw),v3,none,none])/\∃EL:List (aF×Addr),EL.map (·.1)=ls.take j/\Tr H f ((f,.ins t.bU dx (aD "gone" (.ref G) (aD "ever" (.ref E) (aD "net" (.ref n) [])))):: (E,.dK (bC EL)):: (G,.dK (cT (λ_=>0) (ls.take j))):: (l,.lst (ls.map λx:aF=>V.str x.name)):: jN EL) H') ⟨⟨none,rfl⟩,[],rfl,T6⟩ (λj σ H' _ ⟨_,_,_,T'⟩=>bI.of (T'.all (l,.lst (ls.map λx:aF=>V.str x.name)) (by simp))) ?_ ?_⟩
  ·rintro j x σ H' hx ⟨⟨v3,rfl⟩,EL,eEL,T7⟩
   rw [List.getElem?_map] at hx
   obtain⟨ln,hlj,rfl⟩:=Option.map_eq_some_iff.mp hx
   have hm:=List.mem_of_getElem? hlj
   have hj:=(List.getElem?_eq_some_iff.mp hlj).1
   have nin:=jG W.fit.whole.nod hlj
   have vE:bW (bC EL) (Sum.inr ln.name)=none:=iu (by rw [tK,eEL];intro z;obtain⟨b,hb,e⟩:=List.mem_map.mp z;cases e;exact nin hb)
   have vG:bW (cT (λ_=>0) (ls.take j)) (Sum.inr ln.name)=none:=iu (by rw [Dq];intro z;obtain⟨b,hb,e⟩:=List.mem_map.mp z;cases e;exact nin hb)
   have tk:ls.take (j+1)=ls.take j ++ [ln]:=by rw [List.take_succ,hlj];rfl
   have lEL:EL.length<=24:=by have:=congrArg List.length eEL;rw [lM,List.length_take] at this;omega
   have W7:=W.same (sk T7.but)
   refine⟨_,rfl,n,dxn,fsn,rfl,W7.obj,W7.fl.no _ (by decide +kernel),_,rfl,n,ls,ps,ln.name,rfl,W7.s,.inl ⟨ln,hm,rfl,λH8 le s8 nle ele=>?_⟩⟩
   have T8:Tr H f ((f,.ins t.bU dx (aD "gone" (.ref G) (aD "ever" (.ref E) (aD "net" (.ref n) [])))):: (E,.dK (bC EL)):: (G,.dK (cT (λ_=>0) (ls.take j))):: (l,.lst (ls.map λx:aF=>V.str x.name)):: jN (EL ++ [(ln,le)])) H8:=by
    unfold jN
    rw [List.map_append]
    exact T7.got s8 nle ele
   refine⟨_,rfl,f,_,dx,_,_,rfl,T8.all (f,_) (.head _),T.aV.c,T.aV.na.2.1,(by (repeat first | (rw [aA,if_pos rfl];done) | rw [aA,if_neg (by decide +kernel)])),_,rfl,E,_,rfl,lJ.k (k:=Sum.inr ln.name) (T8.all (E,.dK (bC EL)) (by simp)) (by unfold bC;rw [lM];omega),?_⟩
   have e8:putK (bC EL) (Sum.inr ln.name) (.ref le)=bC (EL ++ [(ln,le)]):=by rw [kO _ vE];unfold bC;rw [List.map_append];rfl
   rw [e8]
   have T9:=T8.put (L1:=[_]) (o':=.dK (bC (EL ++ [(ln,le)])))
   generalize upd H8 E (.dK (bC (EL ++ [(ln,le)])))=H9 at T9 ⊢
   refine⟨_,rfl,f,_,dx,_,_,rfl,T9.all (f,_) (.head _),T.aV.c,T.aV.na.2.2.1,(by (repeat first | (rw [aA,if_pos rfl];done) | rw [aA,if_neg (by decide +kernel)])),_,rfl,G,_,rfl,lJ.k (k:=Sum.inr ln.name) (T9.all (G,.dK (cT (λ_=>0) (ls.take j))) (by simp)) (by unfold cT;rw [lM,List.length_take];omega),?_⟩
   have e9:putK (cT (λ_=>0) (ls.take j)) (Sum.inr ln.name) (.int 0)=cT (λ_=>0) (ls.take (j+1)):=by rw [kO _ vG,tk];unfold cT;rw [List.map_append];rfl
   rw [e9]
   have TA:=T9.put (L1:=[_,_]) (o':=.dK (cT (λ_=>0) (ls.take (j+1))))
   exact⟨⟨_,rfl⟩,EL ++ [(ln,le)],by rw [List.map_append,eEL,tk];rfl,TA⟩
  rintro σ H7 ⟨⟨v3,rfl⟩,EL,eEL,T7⟩
  rw [lM,List.take_length] at eEL T7
  have T7:Tr H f ((f,.ins t.bU dx (aD "gone" (.ref G) (aD "ever" (.ref E) (aD "net" (.ref n) [])))):: (E,.dK (bC EL)):: (G,.dK (cT (λ_=>0) ls)):: jN EL) H7:=T7.sub (.cons₂ _ (.cons₂ _ (.cons₂ _ (.cons _ (List.Sublist.refl _))))) ⟨_,.head _⟩
  clear T6
  refine λKp nKp=>?_
  have T8:Tr H f ((f,.ins t.bU dx (aD "gone" (.ref G) (aD "ever" (.ref E) (aD "net" (.ref n) [])))):: (E,.dK (bC EL)):: (G,.dK (cT (λ_=>0) ls)):: (Kp,.dK []):: jN EL) (upd H7 Kp (.dK [])):=(T7.new nKp).perm (.cons _ (.cons _ (.cons _ (List.perm_append_singleton _ _))))
  generalize upd H7 Kp (.dK [])=H8 at T8 ⊢
  refine⟨_,rfl,f,_,dx,_,rfl,T8.all (f,_) (.head _),T.aV.c,T.aV.na.2.2.2.1,Nat.lt_of_le_of_lt (gH (gH (gH (Nat.zero_le 0)))) (by decide),?_⟩
  have T9:=T8.put (L1:=[]) (o':=.ins t.bU dx (aD "kept" (.ref Kp) (aD "gone" (.ref G) (aD "ever" (.ref E) (aD "net" (.ref n) [])))))
  generalize upd H8 f (.ins t.bU dx (aD "kept" (.ref Kp) (aD "gone" (.ref G) (aD "ever" (.ref E) (aD "net" (.ref n) [])))))=H9 at T9 ⊢
  refine λD nD=>?_
  have TA:Tr H f ((f,.ins t.bU dx (aD "kept" (.ref Kp) (aD "gone" (.ref G) (aD "ever" (.ref E) (aD "net" (.ref n) []))))):: (E,.dK (bC EL)):: (G,.dK (cT (λ_=>0) ls)):: (Kp,.dK []):: (D,.dK []):: jN EL) (upd H9 D (.dK [])):=(T9.new nD).perm (.cons _ (.cons _ (.cons _ (.cons _ (List.perm_append_singleton _ _)))))
  generalize upd H9 D (.dK [])=HA at TA ⊢
  refine⟨_,rfl,f,_,dx,_,rfl,TA.all (f,_) (.head _),T.aV.c,T.aV.na.2.2.2.2.1,Nat.lt_of_le_of_lt (gH (gH (gH (gH (Nat.zero_le 0))))) (by decide),?_⟩
  have TB:=TA.put (L1:=[]) (o':=.ins t.bU dx (aD "done" (.ref D) (aD "kept" (.ref Kp) (aD "gone" (.ref G) (aD "ever" (.ref E) (aD "net" (.ref n) []))))))
  generalize upd HA f (.ins t.bU dx (aD "done" (.ref D) (aD "kept" (.ref Kp) (aD "gone" (.ref G) (aD "ever" (.ref E) (aD "net" (.ref n) []))))))=HB at TB ⊢
  have WB:=W.same (sk TB.but)
  refine⟨_,rfl,n,dxn,fsn,rfl,WB.obj,WB.fl.no _ (by decide +kernel),n,ls,ps,rfl,WB.s,λm nm=>?_⟩
  have TC:Tr H f ((f,.ins t.bU dx (aD "done" (.ref D) (aD "kept" (.ref Kp) (aD "gone" (.ref G) (aD "ever" (.ref E) (aD "net" (.ref n) [])))))):: (E,.dK (bC EL)):: (G,.dK (cT (λ_=>0) ls)):: (Kp,.dK (bV (fX ps) [])):: (D,.dK (bV (λ_=>0) [])):: (m,.lst (ps.map λx:PD=>V.str x.name)):: jN EL) (upd HB m (.lst (ps.map λx:PD=>V.str x.name))):=(TB.new nm).perm (.cons _ (.cons _ (.cons _ (.cons _ (.cons _ (List.perm_append_singleton _ _))))))
  generalize upd HB m (.lst (ps.map λx:PD=>V.str x.name))=HC at TC ⊢
  clear T7 T8 T9 TA TB WB
  refine⟨m,rfl,⟨_,bI.of (TC.all (m,.lst (ps.map λx:PD=>V.str x.name)) (by simp))⟩,cY (K:=K) (a:=m) (xs:=ps.map λx:PD=>V.str x.name) (λj σ H'=>(∃v4,σ=[some (.ref f),some (.ref n),some (.ref rw),v3,v4,none])/\Tr H f ((f,.ins t.bU dx (aD "done" (.ref D) (aD "kept" (.ref Kp) (aD "gone" (.ref G) (aD "ever" (.ref E) (aD "net" (.ref n) [])))))):: (E,.dK (bC EL)):: (G,.dK (cT (λ_=>0) ls)):: (Kp,.dK (bV (fX ps) (ps.take j))):: (D,.dK (bV (λ_=>0) (ps.take j))):: (m,.lst (ps.map λx:PD=>V.str x.name)):: jN EL) H') ⟨⟨none,rfl⟩,TC⟩ (λj σ H' _ ⟨_,T'⟩=>bI.of (T'.all (m,.lst (ps.map λx:PD=>V.str x.name)) (by simp))) ?_ ?_⟩
  ·rintro j x σ H' hx ⟨⟨v4,rfl⟩,T7⟩
   rw [List.getElem?_map] at hx
   obtain⟨p,hpj,rfl⟩:=Option.map_eq_some_iff.mp hx
   have hm:=List.mem_of_getElem? hpj
   have hj:=(List.getElem?_eq_some_iff.mp hpj).1
   have nin:=jG W.fit.pnd hpj
   have vK:∀k0:Str->Int,bW (bV k0 (ps.take j)) (Sum.inr p.name)=none:=λk0=>iu (by rw [Dv];intro z;obtain⟨b,hb,e⟩:=List.mem_map.mp z;cases e;exact nin hb)
   have tk:ps.take (j+1)=ps.take j ++ [p]:=by rw [List.take_succ,hpj];rfl
   have so:fX ps p.name=Jl p:=by unfold fX Jl;rw [find_name W.fit.pnd hm];rfl
   have W7:=W.same (sk T7.but)
   refine⟨_,rfl,n,dxn,fsn,rfl,W7.obj,W7.fl.no _ (by decide +kernel),_,rfl,n,ls,ps,p.name,rfl,W7.s,.inl ⟨p,hm,rfl,λH8 q s8 P8=>?_⟩⟩
   have T8:=T7.same s8
   obtain⟨dxp,tn,ti,to,p1,p2,p3,p4⟩:=id P8.ex
   refine⟨q,cls t p.kind,dxp,_,vN K t p.kind,rfl,p1,sW _ _ _ _ (by decide +kernel) (by decide +kernel) (by decide +kernel) (by decide +kernel),Sy T p.kind,q,_,_,_,_,rfl,P8,by rw [lM];exact(W.fit.pok p hm).2.1,?_⟩
   rw [Qw p (W.fit.pok p hm),<-so]
   refine⟨_,rfl,f,_,dx,_,_,rfl,T8.all (f,_) (.head _),T.aV.c,T.aV.na.2.2.2.1,(by (repeat first | (rw [aA,if_pos rfl];done) | rw [aA,if_neg (by decide +kernel)])),_,rfl,Kp,_,rfl,lJ.k (k:=Sum.inr p.name) (T8.all (Kp,.dK (bV (fX ps) (ps.take j))) (by simp)) (by unfold bV;rw [lM,List.length_take];omega),?_⟩
   have e8:∀k0:Str->Int,putK (bV k0 (ps.take j)) (Sum.inr p.name) (.int (k0 p.name))=bV k0 (ps.take (j+1)):=λk0=>by rw [kO _ (vK k0),tk];unfold bV;rw [List.map_append];rfl
   rw [e8]
   have T9:=T8.put (L1:=[_,_,_]) (o':=.dK (bV (fX ps) (ps.take (j+1))))
   generalize upd H8 Kp (.dK (bV (fX ps) (ps.take (j+1))))=H9 at T9 ⊢
   refine⟨_,rfl,f,_,dx,_,_,rfl,T9.all (f,_) (.head _),T.aV.c,T.aV.na.2.2.2.2.1,(by (repeat first | (rw [aA,if_pos rfl];done) | rw [aA,if_neg (by decide +kernel)])),_,rfl,D,_,rfl,lJ.k (k:=Sum.inr p.name) (T9.all (D,.dK (bV (λ_=>0) (ps.take j))) (by simp)) (by unfold bV;rw [lM,List.length_take];omega),?_⟩
   rw [e8 λ_=>0]
   exact⟨⟨_,rfl⟩,T9.put (L1:=[_,_,_,_])⟩
  rintro σ HD ⟨⟨v4,rfl⟩,TD⟩
  rw [lM,List.take_length] at TD
  have TD:Tr H f ((f,.ins t.bU dx (aD "done" (.ref D) (aD "kept" (.ref Kp) (aD "gone" (.ref G) (aD "ever" (.ref E) (aD "net" (.ref n) [])))))):: (E,.dK (bC EL)):: (G,.dK (cT (λ_=>0) ls)):: (Kp,.dK (bV (fX ps) ps)):: (D,.dK (bV (λ_=>0) ps)):: jN EL) HD:=TD.sub (.cons₂ _ (.cons₂ _ (.cons₂ _ (.cons₂ _ (.cons₂ _ (.cons _ (List.Sublist.refl _))))))) ⟨_,.head _⟩
  clear TC
  refine λRw nRw=>?_
  have TE:Tr H f ((f,.ins t.bU dx (aD "done" (.ref D) (aD "kept" (.ref Kp) (aD "gone" (.ref G) (aD "ever" (.ref E) (aD "net" (.ref n) [])))))):: (E,.dK (bC EL)):: (G,.dK (cT (λ_=>0) ls)):: (Kp,.dK (bV (fX ps) ps)):: (D,.dK (bV (λ_=>0) ps)):: (Rw,.dK []):: jN EL) (upd HD Rw (.dK [])):=(TD.new nRw).perm (.cons _ (.cons _ (.cons _ (.cons _ (.cons _ (List.perm_append_singleton _ _))))))
  generalize upd HD Rw (.dK [])=HE at TE ⊢
  refine⟨_,rfl,f,_,dx,_,rfl,TE.all (f,_) (.head _),T.aV.c,T.aV.na.2.2.2.2.2.1,Nat.lt_of_le_of_lt (gH (gH (gH (gH (gH (Nat.zero_le 0)))))) (by decide),?_⟩
  have TF:=TE.put (L1:=[]) (o':=.ins t.bU dx (aD "rows" (.ref Rw) (aD "done" (.ref D) (aD "kept" (.ref Kp) (aD "gone" (.ref G) (aD "ever" (.ref E) (aD "net" (.ref n) [])))))))
  generalize upd HE f (.ins t.bU dx (aD "rows" (.ref Rw) (aD "done" (.ref D) (aD "kept" (.ref Kp) (aD "gone" (.ref G) (aD "ever" (.ref E) (aD "net" (.ref n) [])))))))=HF at TF ⊢
  have WF:=W.same (sk TF.but)
  refine⟨_,rfl,n,dxn,fsn,rfl,WF.obj,WF.fl.no _ (by decide +kernel),n,ls,ps,rfl,WF.s,λd nd=>?_⟩
  have TG:Tr H f ((f,.ins t.bU dx (aD "rows" (.ref Rw) (aD "done" (.ref D) (aD "kept" (.ref Kp) (aD "gone" (.ref G) (aD "ever" (.ref E) (aD "net" (.ref n) []))))))):: (E,.dK (bC EL)):: (G,.dK (cT (λ_=>0) ls)):: (Kp,.dK (bV (fX ps) ps)):: (D,.dK (bV (λ_=>0) ps)):: (Rw,.dK []):: (d,.lst (fc ps "give")):: jN EL) (upd HF d (.lst (fc ps "give"))):=(TF.new nd).perm (.cons _ (.cons _ (.cons _ (.cons _ (.cons _ (.cons _ (List.perm_append_singleton _ _)))))))
  generalize upd HF d (.lst (fc ps "give"))=HG at TG ⊢
  clear TD TE TF WF
  have lgv:=yV ps "give"
  have ndg:((ps.filter λp=>decide (fQ p.kind= "give")).map (·.name)).Nodup:=W.fit.pnd.sublist ((List.filter_sublist).map _)
  rw [R4 W.fit.pok] at ndg
  have ePg:fc ps "give" =(qD ps).map λp=>V.str p.name:=by unfold fc;rw [R4 W.fit.pok]
  rw [ePg] at TG
  have lgP:(qD ps).length<=16:=by have:=List.length_filter_le (λp:PD=>decide (p.kind=0)) ps;unfold qD;omega
  have TG:Tr H f ((f,.ins t.bU dx (aD "rows" (.ref Rw) (aD "done" (.ref D) (aD "kept" (.ref Kp) (aD "gone" (.ref G) (aD "ever" (.ref E) (aD "net" (.ref n) []))))))):: (E,.dK (bC EL)):: (G,.dK (cT (λ_=>0) ls)):: (Kp,.dK (bV (fX ps) ps)):: (D,.dK (bV (λ_=>0) ps)):: (Rw,.dK []):: (d,.lst ((qD ps).map λp=>V.str p.name)):: (jN EL ++ Kq RW [])) HG:=by
   unfold Kq
   rw [List.map_nil,List.append_nil]
   exact TG
  refine⟨d,rfl,⟨_,bI.of (TG.all (d,.lst ((qD ps).map λp=>V.str p.name)) (by simp))⟩,cY (K:=K) (a:=d) (xs:=(qD ps).map λp=>V.str p.name) (λj σ H'=>(∃v5,σ=[some (.ref f),some (.ref n),some (.ref rw),v3,v4,v5])/\∃RL:List (PD×Addr),RL.map (·.1)=(qD ps).take j/\Tr H f ((f,.ins t.bU dx (aD "rows" (.ref Rw) (aD "done" (.ref D) (aD "kept" (.ref Kp) (aD "gone" (.ref G) (aD "ever" (.ref E) (aD "net" (.ref n) []))))))):: (E,.dK (bC EL)):: (G,.dK (cT (λ_=>0) ls)):: (Kp,.dK (bV (fX ps) ps)):: (D,.dK (bV (λ_=>0) ps)):: (Rw,.dK (RL.map λq=>((Sum.inr q.1.name:Key),V.ref q.2))):: (d,.lst ((qD ps).map λp=>V.str p.name)):: (jN EL ++ Kq RW RL)) H') ⟨⟨none,rfl⟩,[],rfl,TG⟩ (λj σ H' _ ⟨_,_,_,T7⟩=>bI.of (T7.all (d,.lst ((qD ps).map λp=>V.str p.name)) (by simp))) ?_ ?_⟩
  ·rintro j x σ H' hx ⟨⟨v5,rfl⟩,RL,eRL,T7⟩
   rw [List.getElem?_map] at hx
   obtain⟨p,hpj,rfl⟩:=Option.map_eq_some_iff.mp hx
   have nin:=jG ndg hpj
   have tk:(qD ps).take (j+1)=(qD ps).take j ++ [p]:=by rw [List.take_succ,hpj];rfl
   have vR:bW (RL.map λq=>((Sum.inr q.1.name:Key),V.ref q.2)) (Sum.inr p.name)=none:=iu (by
    rw [List.map_map]
    intro z
    obtain⟨q,hq,e⟩:=List.mem_map.mp z
    have hm:q.1∈RL.map (·.1):=List.mem_map.mpr ⟨q,hq,rfl⟩
    rw [eRL] at hm
    exact nin (List.mem_map.mpr ⟨q.1,hm,by injection e⟩))
   have lRL:RL.length<=16:=by
    have:=congrArg List.length eRL
    rw [lM,List.length_take] at this
    omega
   have rw7:=hrw.same (sk T7.but)
   refine⟨_,rfl,rw,rfl,.inl ⟨_,.inl rw7.dict⟩,_,rfl,rJ,λu nu=>?_⟩
   have tu:=az (o:=.lst []) nu
   have xu:upd H' u (.lst []) u=some (.lst []):=ak
   generalize upd H' u (.lst [])=H8 at tu xu ⊢
   have rw8:=rw7.same tu
   refine⟨_,dW.k (k:=Sum.inr p.name) rw8.dict,?_⟩
   obtain⟨y,ey,hy⟩:∃y:Addr,(bW (vQ RW) (Sum.inr p.name)).getD (V.ref u)=.ref y/\H8 y=some (.lst ((wZ RW p.name).map V.int)):=by
    rcases rw8.get p.name with ⟨e1,e2⟩ | ⟨a,e1,e2,_⟩
    ·rw [e1,e2]
     exact⟨u,rfl,xu⟩
    ·rw [e1]
     exact⟨a,rfl,e2⟩
   refine⟨y,(wZ RW p.name).map V.int,by rw [ey],.inl (bI.of hy),λr nr=>?_⟩
   have T9:Tr H f ((f,.ins t.bU dx (aD "rows" (.ref Rw) (aD "done" (.ref D) (aD "kept" (.ref Kp) (aD "gone" (.ref G) (aD "ever" (.ref E) (aD "net" (.ref n) []))))))):: (E,.dK (bC EL)):: (G,.dK (cT (λ_=>0) ls)):: (Kp,.dK (bV (fX ps) ps)):: (D,.dK (bV (λ_=>0) ps)):: (Rw,.dK (RL.map λq=>((Sum.inr q.1.name:Key),V.ref q.2))):: (d,.lst ((qD ps).map λp=>V.str p.name)):: (jN EL ++ Kq RW (RL ++ [(p,r)]))) (upd H8 r (.lst ((wZ RW p.name).map V.int))):=by
    unfold Kq
    rw [List.map_append,<-List.append_assoc]
    exact(T7.same tu).new nr
   generalize upd H8 r (.lst ((wZ RW p.name).map V.int))=H9 at T9 ⊢
   refine⟨_,rfl,f,_,dx,_,_,rfl,T9.all (f,_) (.head _),T.aV.c,T.aV.na.2.2.2.2.2.1,(by (repeat first | (rw [aA,if_pos rfl];done) | rw [aA,if_neg (by decide +kernel)])),_,rfl,Rw,_,rfl,lJ.k (k:=Sum.inr p.name) (T9.all (Rw,.dK (RL.map λq=>((Sum.inr q.1.name:Key),V.ref q.2))) (by simp)) (by rw [lM];omega),?_⟩
   rw [kO _ vR]
   refine⟨⟨_,rfl⟩,RL ++ [(p,r)],by rw [List.map_append,eRL,tk];rfl,?_⟩
   rw [List.map_append]
   exact T9.put (L1:=[_,_,_,_,_])
  rintro σ HH ⟨⟨v5,rfl⟩,RL,eRL,TH⟩
  rw [lM,List.take_length] at eRL
  have eo:=TH.all (f,.ins t.bU dx (aD "rows" (.ref Rw) (aD "done" (.ref D) (aD "kept" (.ref Kp) (aD "gone" (.ref G) (aD "ever" (.ref E) (aD "net" (.ref n) []))))))) (.head _)
  have nod:=TH.nod
  have fre:=TH.fre
  have nE:(EL.map λq=>q.1.name).Nodup:=by
   have:(EL.map (·.1)).map (·.name)=EL.map λq=>q.1.name:=by rw [List.map_map];rfl
   rw [<-this,eEL]
   exact W.fit.whole.nod
  have nR:(RL.map λq=>q.1.name).Nodup:=by
   have:(RL.map (·.1)).map (·.name)=RL.map λq=>q.1.name:=by rw [List.map_map];rfl
   rw [<-this,eRL]
   exact ndg
  let A:qK:=⟨f,n,E,G,Kp,D,Rw,LR (·.name) EL,LR (·.name) RL⟩
  have mE:ls.map (λl=>A.ea l.name)=EL.map (·.2):=by rw [<-eEL];exact GZ nE
  have mR:(qD ps).map (λp=>A.ra p.name)=RL.map (·.2):=by rw [<-eRL];exact GZ nR
  have eC:A.cells ls ps=E:: G:: Kp:: D:: Rw:: (EL.map (·.2) ++ RL.map (·.2)):=by unfold qK.cells;rw [mE,mR]
  have e2:(jN EL ++ Kq RW RL).map Prod.fst=EL.map (·.2) ++ RL.map (·.2):=by unfold jN Kq;rw [List.map_append,List.map_map,List.map_map];rfl
  refine k HH A rfl rfl TH.but ⟨⟨dx,_,eo,⟨?_,?_⟩⟩,?_,λl hl=>?_,TH.all (G,.dK (cT (λ_=>0) ls)) (by simp),TH.all (Kp,.dK (bV (fX ps) ps)) (by simp),TH.all (D,.dK (bV (λ_=>0) ps)) (by simp),?_,λp hp h0=>?_,?_⟩ ?_
  ·intro q hq
   simp only [List.mem_cons,List.not_mem_nil,or_false] at hq
   rcases hq with rfl | rfl | rfl | rfl | rfl | rfl <;> (dsimp only;(repeat first | (rw [aA,if_pos rfl];done) | rw [aA,if_neg (by decide +kernel)]))
  ·intro m hm
   have hne:∀m∈(["holds", "held_now", "gone_by", "row_left", "head", "heads", "lacking", "row_ended", "deed", "do"]:List Str),∀g∈(["rows", "done", "kept", "gone", "ever", "net"]:List Str),¬m=g:=by decide +kernel
   have h:=hne m hm
   rw [aA,if_neg (h _ (by simp)),aA,if_neg (h _ (by simp)),aA,if_neg (h _ (by simp)),aA,if_neg (h _ (by simp)),aA,if_neg (h _ (by simp)),aA,if_neg (h _ (by simp))]
   rfl
  ·have:Vn A.ea ls=bC EL:=by
    unfold Vn bC
    rw [<-eEL,List.map_map]
    refine List.map_congr_left λq hq=>?_
    show((Sum.inr q.1.name:Key),V.ref (A.ea q.1.name))=_
    rw [show A.ea q.1.name=q.2 from vI nE hq]
   rw [this]
   exact TH.all (E,.dK (bC EL)) (by simp)
  ·rw [<-eEL] at hl
   obtain⟨q,hq,rfl⟩:=List.mem_map.mp hl
   rw [show A.ea q.1.name=q.2 from vI nE hq]
   have hm:q.1∈ls:=by rw [<-eEL];exact List.mem_map.mpr ⟨q,hq,rfl⟩
   show HH q.2=some (.lst ((Mj ls q.1.name).map V.int))
   rw [yG W.fit.whole.nod hm]
   exact TH.all (q.2,.lst (q.1.first.map V.int)) (Ij (List.mem_append.mpr (.inl (List.mem_map.mpr ⟨q,hq,rfl⟩))))
  ·have:Ng A.ra ps=RL.map λq=>((Sum.inr q.1.name:Key),V.ref q.2):=by
    unfold Ng
    rw [<-eRL,List.map_map]
    refine List.map_congr_left λq hq=>?_
    show((Sum.inr q.1.name:Key),V.ref (A.ra q.1.name))=_
    rw [show A.ra q.1.name=q.2 from vI nR hq]
   rw [this]
   exact TH.all (Rw,.dK (RL.map λq=>((Sum.inr q.1.name:Key),V.ref q.2))) (by simp)
  ·have hm:p∈RL.map (·.1):=by rw [eRL];exact List.mem_filter.mpr ⟨hp,by simp [h0]⟩
   obtain⟨q,hq,rfl⟩:=List.mem_map.mp hm
   rw [show A.ra q.1.name=q.2 from vI nR hq]
   exact TH.all (q.2,.lst ((wZ RW q.1.name).map V.int)) (Ij (List.mem_append.mpr (.inr (List.mem_map.mpr ⟨q,hq,rfl⟩))))
  ·rw [eC,<-e2]
   exact nod.sublist (List.Sublist.cons _ (.cons₂ _ (.cons₂ _ (.cons₂ _ (.cons₂ _ (.cons₂ _ (.cons _ (List.Sublist.refl _))))))))
  ·intro a ha
   rw [eC,<-e2] at ha
   have h2:a∈(((E,.dK (bC EL)):: (G,.dK (cT (λ_=>0) ls)):: (Kp,.dK (bV (fX ps) ps)):: (D,.dK (bV (λ_=>0) ps)):: (Rw,.dK (RL.map λq=>((Sum.inr q.1.name:Key),V.ref q.2))):: (d,.lst ((qD ps).map λp=>V.str p.name)):: (jN EL ++ Kq RW RL):List (Addr×HO))).map Prod.fst:=
    (List.Sublist.cons₂ E (.cons₂ G (.cons₂ Kp (.cons₂ D (.cons₂ Rw (.cons d (List.Sublist.refl _))))))).subset ha
   have hne:a≠f:=λz=>by
    rw [List.map_cons,List.nodup_cons] at nod
    exact nod.1 (by rw [<-z];exact h2)
   obtain⟨q,hq,hqa⟩:=List.mem_map.mp h2
   have:=fre q (List.mem_cons_of_mem _ hq)
   rw [hqa] at this
   exact this.resolve_left hne
theorem Q0 {α:Type} {p:α->Bool} {xs:List α} {j:Nat} {x:α} (h:(xs.take j).find? p=none) (hx:xs[j]?=some x):if p x=true then xs.find? p=some x else(xs.take (j+1)).find? p=none:=by
 split
 ·rename_i e
  have hj:=(List.getElem?_eq_some_iff.mp hx)
  have e2:xs=xs.take j ++ x:: xs.drop (j+1):=by
   rw [<-hj.2,<-List.drop_eq_getElem_cons hj.1,List.take_append_drop]
  rw [e2,List.find?_append,h,List.find?_cons_of_pos e]
  rfl
 ·rename_i e
  rw [List.take_succ,hx,Option.toList_some,List.find?_append,h,List.find?_cons_of_neg e]
  rfl
noncomputable def roomF (ls:List aF) (x:Str):Int:=((ls.find? λl=>decide (l.name=x)).map (·.room)).getD 0
theorem Fd {ls:List aF} (nd:(ls.map (·.name)).Nodup) {l:aF} (hl:l∈ls):roomF ls l.name=l.room:=by
 unfold roomF
 rw [find_name nd hl]
 rfl
noncomputable def zu (ls:List aF) (S:FS) (q:Str×Int):Bool:=decide (roomF ls q.1<=((S.ev q.1).length:Int) - (S.g q.1:Int))
noncomputable def yU (ls:List aF) (S:FS) (dd:ju):V:=match dd.gv.find? (zu ls S) with
 | some q=>.str q.1
 | none=>.non
inductive rE (K:PySem.W.Frag) (t:jw) (vs:List V) (H:Hp) (Q:VK) (E:XK):Prop where
 | mk:∀(r:Addr) (n:Nat) (A:qK) (ls:List aF) (ps:List PD) (S:FS) (M:List Addr) (U:Addr) (dd:ju),vs=[.ref r,.ref U]->vY t H r A.n A.f n->gJ K t H A.n ls ps->fj K t H A ls ps S->mH M H U dd->((∀q∈dd.gv,q.1∈ls.map (·.name)))->(∀H',aO H H'->Q (yU ls S dd) H')->rE K t vs H Q E
theorem Aw (T:Txt w K mg t):FO P w K mg base 4 t.my ["self", "deed"] (rE K t):=by
 have sc:=T.mz.sc ["self", "deed", "lane", "value"]
 refine T.mz.F.ok sc ln (λ_ _ _ _ H vs Q E hr h=>?_)
 obtain⟨r,n,A,ls,ps,S,M,U,dd,rfl,hR,N,W,⟨La,Lg,rs,hU,_,hLg,hT,_,_⟩,hout,k⟩:=h
 refine⟨_,(ao (cX PassesOwn.never rfl (bH (aU aY (pv 1) aB (λ_ _=>rfl))) (Ay rfl (fH (gN sc 2) (fH (gN sc 3) sJ)))
   (au (b7 (bD ZK (zx (aZ (pv 0) rfl) T.aV T.aV.me.2.1 (xR T) T.mO hr (aa (pv 2) aq aj)) (zx (aZ (pv 0) rfl) T.aR T.aR.me.2.2.2.2.2.2.2.2.1 (wu T) T.j0 hr (aa (pv 2) aq aj)) (cz _))
    (au (aQ (pv 2)))
    bu)))
  (au (aQ yo))),?_⟩
 have hl:sizeLine=16777216:=sizeLine_eq
 have hlr:rs.length=dd.gv.length:=by have:=Paired.length hT;rw [lM] at this;exact this
 refine⟨_,rfl,U,_,1,_,rfl,rfl,cP.of hU,aM (j:=1) rfl,Lg,rfl,⟨_,bI.of hLg⟩,cY (K:=K) (a:=Lg) (xs:=rs.map V.ref) (λj σ H'=>aO H H'/\(∃v2 v3,σ=[some (.ref r),some (.ref U),v2,v3])/\(dd.gv.take j).find? (zu ls S)=none) ⟨aO.refl _,⟨_,_,rfl⟩,rfl⟩ (λj σ H' _ h=>bI.of (h.1 _ _ hLg)) ?_ ?_⟩
 ·rintro j x σ H1 hx ⟨s1,⟨v2,v3,rfl⟩,hf⟩
  rw [List.getElem?_map] at hx
  obtain⟨u,hu,rfl⟩:=Option.map_eq_some_iff.mp hx
  obtain⟨vs2,z1,z2⟩:=zH hT hu
  rw [List.getElem?_map] at z1
  obtain⟨w,ew,rfl⟩:=Option.map_eq_some_iff.mp z1
  have ft:=Q0 hf ew
  obtain⟨dxn,fsn,R,F0,Pd,Gn,Tk,FL,PL,Wn⟩:=N.same s1
  have F:=Wn.fit
  obtain⟨dxr,fsr,R1⟩:=hR.same s1
  have W1:=W.same s1
  obtain⟨dx,fs,h1,h2⟩:=id W1.at'.ex
  obtain⟨l,hl',hln⟩:=List.mem_map.mp (hout w (List.mem_of_getElem? ew))
  have va:=Dc (ea:=A.ea) F.whole.nod hl'
  have vg:=wD (g:=S.g) F.whole.nod hl'
  have fb:zu ls S w=decide (l.room<=((S.ev l.name).length:Int) - (S.g l.name:Int)):=by unfold zu;rw [<-hln,Fd F.whole.nod hl']
  rw [hln] at va vg
  refine⟨u,_,rfl,cP.of (s1 _ _ z2),rfl,_,_,rfl,_,_,rfl,rfl,?_⟩
  refine⟨_,rfl,r,_,dxr,fsr,_,rfl,R1.1.1,T.dF.c,T.dF.na.2.1,R1.2.has ("flow",.ref A.f) (by simp),A.f,dx,fs,rfl,h1,h2.no _ (by decide +kernel),_,rfl,A.f,A.n,A.E,A.G,A.Kp,A.D,A.Rw,A.ea w.1,_,_,w.1,_,S.g w.1,rfl,W1.at',W1.ever,W1.gone,va,vg,bI.of (by rw [<-hln];exact W1.lists l hl'),?_⟩
  refine⟨_,rfl,r,_,dxr,fsr,_,rfl,R1.1.1,T.dF.c,T.dF.na.1,R1.2.has ("net",.ref A.n) (by simp),A.n,dxn,fsn,rfl,Wn.obj,Wn.fl.no _ (by decide +kernel),_,rfl,A.n,ls,ps,w.1,rfl,Wn.s,.inl ⟨l,hl',hln,λH2 s2=>?_⟩⟩
  refine⟨_,_,rfl,rfl,_,rfl,?_⟩
  have e2:decide (l.room<=((((S.ev l.name).map V.int).length:Nat):Int) - ((S.g w.1:Nat):Int))=zu ls S w:=by rw [fb,lM,hln]
  rw [e2]
  cases hb:zu ls S w with
  | true=>
   rw [if_pos hb] at ft
   refine iT ⟨_,rfl,?_⟩
   have k':=k H2 (s1.trans s2)
   unfold yU at k'
   rw [ft] at k'
   exact k'
  | false=>
   rw [if_neg (by simp [hb])] at ft
   exact dq ⟨s1.trans s2,⟨_,_,rfl⟩,ft⟩
 rintro σ H1 ⟨s1,⟨v2,v3,rfl⟩,hf⟩
 rw [lM,hlr,List.take_length] at hf
 have k':=k H1 s1
 unfold yU at k'
 rw [hf] at k'
 exact k'
theorem Wt {H:Hp} {Q:VK} {Ex:XK} {b:Nat} {A:qK} {ls:List aF} {ps:List PD} {S:FS} {p:PD} (N:gJ K t H A.n ls ps) (W:fj K t H A ls ps S) (hp:p∈ps) (O:Rv b ls ps S) (kn:lC S p=none->∀H',aO H H'->Q .non H')
  (k:∀dd,lC S p=some dd->∀H' U,aO H H'->H U=none->mH (A.cells ls ps) H' U dd->Q (.ref U) H'):jH K t [.ref A.f,.str p.name] H Q Ex:=by
 unfold jH
 exact⟨b,A,ls,ps,S,p,rfl,N,W,hp,O,kn,k⟩
noncomputable def gO (ls:List aF) (S:FS) (p:PD):Option ju:=match lC S p with
 | none=>none
 | some dd=>if yU ls S dd=.non then some dd else none
theorem su {S:FS} {p:PD} {dd:ju} (h:lC S p=some dd):fG p.kind p.ins (bc S p)=.non/\z9 S p=false/\dd=⟨(places p.kind (bc S p)).map (strAt p.ins),(cA p.kind p.nums (Fq S p) (S.k p.name)).map λpv=>(strAt p.outs pv.1.toNat,pv.2),gK p.kind (Fq S p) (S.k p.name)⟩:=by
 unfold lC at h
 split at h
 ·cases h
 ·rename_i h1
  split at h
  ·cases h
  ·rename_i h2
   exact⟨Classical.not_not.mp h1,by simpa using h2,(Option.some.inj h).symm⟩
theorem Ii {xs:List Str} {q:Nat} (h:q <xs.length):strAt xs q∈xs:=by unfold strAt;rw [List.getElem?_eq_getElem h];exact List.getElem_mem h
theorem rC {xs:List Str} {q:Nat} (h:q <xs.length):strAt xs q=xs[q]:=by unfold strAt;rw [List.getElem?_eq_getElem h];rfl
theorem QH {i:Nat} {hs:List V}:(places i hs).Nodup:=by
 unfold places
 split
 ·split
  ·rename_i n _
   have h0:=Int.emod_nonneg n (show(2:Int)≠0 by decide)
   simp
   omega
  ·simp
 ·exact List.nodup_range
theorem VD {xs:List Str} (nd:xs.Nodup) {l:List Nat} (hl:l.Nodup) (h:∀q∈l,q <xs.length):(l.map (strAt xs)).Nodup:=by
 unfold List.Nodup at hl ⊢
 rw [List.pairwise_map]
 refine hl.imp_of_mem λ{a b} ha hb hne e=>hne ?_
 rw [rC (h a ha),rC (h b hb)] at e
 exact(List.getElem_inj nd).mp e
theorem J0 {f:PD->List Str}:∀{ps:List PD},(ps.flatMap f).Nodup->∀{p:PD},p∈ps->(f p).Nodup
 | q:: r,nd,p,hp=>by
  rw [List.flatMap_cons,List.nodup_append] at nd
  rcases List.mem_cons.mp hp with h | h
  ·rw [h];exact nd.1
  ·exact J0 nd.2.1 h
theorem CK {ls:List aF} {ps:List PD} {S:FS} (F:uD ls ps) {p:PD} (hp:p∈ps) {dd:ju} (h:lC S p=some dd):JF ls dd:=by
 obtain⟨hl,he,rfl⟩:=su h
 have ok:=F.pok p hp
 have hO:=qU S p ok
 have hlt:∀q∈places p.kind (bc S p),q <p.ins.length:=λq hq=>by
  have:=jr hO q hq
  unfold bc at this
  rwa [lM] at this
 have inL:∀x∈p.ins ++ p.outs,x∈ls.map (·.name):=λx hx=>by
  obtain⟨l,hl,rfl⟩:=F.inL hp hx
  exact List.mem_map.mpr ⟨l,hl,rfl⟩
 refine⟨?_,λx hx=>?_,λq hq=>?_,?_⟩
 ·exact VD (J0 (F.whole.ins.nodup_iff.mpr F.whole.nod) hp) QH hlt
 ·obtain⟨q,hq,rfl⟩:=List.mem_map.mp hx
  exact inL _ (List.mem_append.mpr (.inl (Ii (hlt q hq))))
 ·obtain⟨pv,hpv,rfl⟩:=List.mem_map.mp hq
  obtain⟨o,ho1,ho2⟩:=OJ (show p.kind<=10 by have:=ok.1;omega) _ _ _ _ hpv
  refine inL _ (List.mem_append.mpr (.inr (Ii ?_)))
  rw [ho1,Int.toNat_natCast,ok.2.2.2.1]
  exact ho2
 ·show(List.map _ _).length<=2
  rw [lM]
  exact Le ..
inductive pB (K:PySem.W.Frag) (t:jw) (vs:List V) (H:Hp) (Q:VK):Prop where
 | mk:∀(b:Nat) (r:Addr) (n:Nat) (A:qK) (ls:List aF) (ps:List PD) (S:FS) (p:PD),vs=[.ref r,.str p.name]->vY t H r A.n A.f n->gJ K t H A.n ls ps->fj K t H A ls ps S->Rv b ls ps S->p∈ps->((gO ls S p=none->∀H',aO H H'->Q .non H'))->(∀dd,gO ls S p=some dd->∀H' U,aO H H'->H U=none->mH (A.cells ls ps) H' U dd->Q (.ref U) H')->pB K t vs H Q
@[irreducible] noncomputable def f9 (K:PySem.W.Frag) (t:jw):Sp:=λvs H Q _=>pB K t vs H Q
theorem Ae (T:Txt w K mg t):FO P w K mg base 6 t.mj ["self", "name"] (f9 K t):=by
 have sc:=T.lU.sc ["self", "name", "deed"]
 refine T.lU.F.ok sc (λvs H Q E h=>?_) (λcdv A outer s H vs Q E hr h=>?_)
 ·unfold f9 at h
  obtain⟨b,r,n,A,ls,ps,S,p,rfl,_⟩:=h
  rfl
 ·unfold f9 at h
  obtain⟨b,r,n,A,ls,ps,S,p,rfl,hR,N,W,O,hp,kn,k⟩:=h
  refine⟨_,(ao (sN sc 2 (zx (aZ (pv 0) rfl) T.aV T.aV.me.2.2.2.2.2.2.1 (JB T) T.uR hr (aa (pv 1) aq aj)))
   (au (aQ (n6 (PW.pt (xn (fP (FZ (pv 2))) (qg (fP (CT (zx (pv 0) T.dF T.dF.me.2.1 (Aw T) T.mz hr (aa (pv 2) aq aj))))))) yo (pv 2))))),?_⟩
  obtain⟨dxr,fsr,R0⟩:=id hR
  obtain⟨dx,fs,h1,h2⟩:=id W.at'.ex
  have F:uD ls ps:=by obtain⟨_,_,_,_,_,_,_,_,_,Wn⟩:=N;exact Wn.fit
  refine⟨_,rfl,r,_,dxr,fsr,_,rfl,R0.1.1,T.dF.c,T.dF.na.2.1,R0.2.has ("flow",.ref A.f) (by simp),A.f,dx,fs,rfl,h1,h2.no _ (by decide +kernel),_,rfl,?_⟩
  refine Wt N W hp O (λhd H1 s1=>?_) (λdd hd H1 U s1 nU DA=>?_)
  ·exact⟨_,rfl,_,rfl,iT (iT (kn (by unfold gO;rw [hd]) _ s1))⟩
  ·obtain⟨dxr,fsr,R1⟩:=hR.same s1
   have nx:gO ls S p=if yU ls S dd=.non then some dd else none:=by unfold gO;rw [hd]
   refine⟨_,rfl,_,rfl,dq ?_⟩
   refine⟨_,rfl,r,dxr,fsr,rfl,R1.1.1,R1.2.no _ (by decide +kernel),_,rfl,r,n,A,ls,ps,S,_,U,dd,rfl,⟨dxr,fsr,R1⟩,N.same s1,W.same s1,DA,(CK F hp hd).gin,λH2 s2=>?_⟩
   by_cases hf:yU ls S dd=.non
   ·rw [hf]
    exact⟨_,rfl,dq ⟨_,rfl,k dd (by rw [nx,if_pos hf]) H2 U (s1.trans s2) nU (DA.same s2)⟩⟩
   ·rw [decide_eq_false hf]
    exact⟨_,rfl,iT (kn (by rw [nx,if_neg hf]) H2 (s1.trans s2))⟩
theorem Vu {H:Hp} {Q:VK} {Ex:XK} {b:Nat} {r:Addr} {n:Nat} {A:qK} {ls:List aF} {ps:List PD} {S:FS} {p:PD} (hR:vY t H r A.n A.f n) (N:gJ K t H A.n ls ps) (W:fj K t H A ls ps S) (O:Rv b ls ps S) (hp:p∈ps) (kn:gO ls S p=none->∀H',aO H H'->Q .non H')
  (k:∀dd,gO ls S p=some dd->∀H' U,aO H H'->H U=none->mH (A.cells ls ps) H' U dd->Q (.ref U) H'):f9 K t [.ref r,.str p.name] H Q Ex:=by
 unfold f9
 exact⟨b,r,n,A,ls,ps,S,p,rfl,hR,N,W,O,hp,kn,k⟩
inductive zJ (K:PySem.W.Frag) (t:jw) (vs:List V) (H:Hp) (Q:VK) (E:XK):Prop where
 | mk:∀(r:Addr) (n:Nat) (A:qK) (ls:List aF) (ps:List PD) (S:FS) (p:PD),vs=[.ref r,.str p.name]->vY t H r A.n A.f n->gJ K t H A.n ls ps->fj K t H A ls ps S->p∈ps->(∀H',aO H H'->Q (.int (S.d p.name:Int)) H')->zJ K t vs H Q E
theorem Jy (T:Txt w K mg t):FO P w K mg base 3 t.wA ["self", "name"] (zJ K t):=by
 have sc:=T.ww.sc ["self", "name"]
 refine T.ww.F.ok sc ln (λ_ _ _ _ H vs Q E hr h=>?_)
 obtain⟨r,n,A,ls,ps,S,p,rfl,hR,N,W,hp,k⟩:=h
 refine⟨_,(ao (dh (zx (aZ (pv 0) rfl) T.aR T.aR.me.2.2.2.2.2.2.2.2.2.2.2.2.1 (jy T) T.gQ hr (aa (pv 1) aq aj)))
  (au (aQ (bM hr.u1 (aZ (aZ (pv 0) rfl) rfl) (pv 1) (λ_ _=>rfl))))),?_⟩
 obtain⟨dxn,fsn,R,F0,Pd,Gn,Tk,FL,PL,Wn⟩:=id N
 obtain⟨dxr,fsr,R0⟩:=id hR
 refine⟨_,rfl,r,_,dxr,fsr,_,rfl,R0.1.1,T.dF.c,T.dF.na.1,R0.2.has ("net",.ref A.n) (by simp),A.n,dxn,fsn,rfl,Wn.obj,Wn.fl.no _ (by decide +kernel),_,rfl,A.n,ls,ps,p.name,rfl,N,.inl ⟨p,hp,rfl,λH1 q s1 _=>?_⟩⟩
 obtain⟨dxr,fsr,R1⟩:=hR.same s1
 have W1:=W.same s1
 obtain⟨dx,fs,h1,h2⟩:=id W1.at'.ex
 have vd:=wN (k:=λx=>(S.d x:Int)) Wn.fit.pnd hp
 exact⟨_,rfl,r,_,dxr,fsr,_,rfl,R1.1.1,T.dF.c,T.dF.na.2.1,R1.2.has ("flow",.ref A.f) (by simp),A.f,_,dx,fs,_,rfl,h1,T.aV.c,T.aV.na.2.2.2.2.1,h2.has ("done",.ref A.D) (by simp),_,rfl,A.D,_,rfl,(by rw [<-vd];exact dW.k (k:=Sum.inr p.name) W1.done),k _ s1⟩
theorem U7 {x:V} {xs:List V} (h:x∈xs) (f:J8 x x=true):inV x xs=true:=List.any_eq_true.mpr ⟨x,h,f⟩
inductive pY (K:PySem.W.Frag) (t:jw) (vs:List V) (H:Hp) (Q:VK) (E:XK):Prop where
 | mk:∀(r:Addr) (n:Nat) (A:qK) (ls:List aF) (ps:List PD) (S:FS) (L:Addr) (xs:List Str),vs=[.ref r,.ref L]->vY t H r A.n A.f n->gJ K t H A.n ls ps->fj K t H A ls ps S->bI K H L (xs.map V.str)->((∀x∈xs,V.str x∈fc ps "give" ++ fc ps "take"))->(∀H',aO H H'->Q .non H')->pY K t vs H Q E
theorem yz (T:Txt w K mg t):FO P w K mg base 4 t.jR ["self", "names"] (pY K t):=by
 have sc:=T.jQ.sc ["self", "names", "doors", "name"]
 refine T.jQ.F.ok sc ln (λ_ _ _ _ H vs Q E hr h=>?_)
 obtain⟨r,n,A,ls,ps,S,L,xs,rfl,hR,N,W,hL,hx,k⟩:=h
 refine⟨_,(ao (sN sc 2 (bB Nv (Nz (aZ (pv 0) rfl) T.aR T.aR.me.2.2.2.2.2.1 (tH T) T.lA hr) (Nz (aZ (pv 0) rfl) T.aR T.aR.me.2.2.2.2.2.2.1 (Ji T) T.vD hr)))
  (au (cX PassesOwn.never rfl (bH (pv 1)) (gN sc 3)
   (au (b7 (bD gA (pv 3) (pv 2) (by with_unfolding_all rfl))
    (au cH)
    bu))))),?_⟩
 have hz:sizeLine=16777216:=sizeLine_eq
 obtain⟨dxn,fsn,R,F0,Pd,Gn,Tk,FL,PL,Wn⟩:=id N
 have p16:=Wn.fit.p16
 obtain⟨dxr,fsr,R0⟩:=id hR
 have g1:=yV ps "give"
 have g2:=yV ps "take"
 refine⟨_,rfl,r,_,dxr,fsr,_,rfl,R0.1.1,T.dF.c,T.dF.na.1,R0.2.has ("net",.ref A.n) (by simp),A.n,dxn,fsn,rfl,Wn.obj,Wn.fl.no _ (by decide +kernel),A.n,ls,ps,rfl,N,λl nl=>?_⟩
 have s1:=az (o:=.lst (fc ps "give")) nl
 obtain⟨dxr,fsr,R1⟩:=hR.same s1
 have Wn1:=Wn.same s1
 refine⟨_,rfl,r,_,dxr,fsr,_,rfl,R1.1.1,T.dF.c,T.dF.na.1,R1.2.has ("net",.ref A.n) (by simp),A.n,dxn,fsn,rfl,Wn1.obj,Wn1.fl.no _ (by decide +kernel),A.n,ls,ps,rfl,Wn1.s,λl2 nl2=>?_⟩
 have s2:=az (o:=.lst (fc ps "take")) nl2
 have e1:=s2 _ _ (ak (H:=H) (a:=l) (o:=.lst (fc ps "give")))
 refine⟨l,l2,_,_,rfl,rfl,e1,ak,by omega,λl3 nl3=>?_⟩
 have s13:=s1.trans (s2.trans (az (o:=.lst (fc ps "give" ++ fc ps "take")) nl3))
 have e3:upd (upd (upd H l (.lst (fc ps "give"))) l2 (.lst (fc ps "take"))) l3 (.lst (fc ps "give" ++ fc ps "take")) l3=some (.lst (fc ps "give" ++ fc ps "take")):=ak
 generalize upd (upd (upd H l (.lst (fc ps "give"))) l2 (.lst (fc ps "take"))) l3 (.lst (fc ps "give" ++ fc ps "take"))=H3 at s13 e3 ⊢
 have fl:(fc ps "give" ++ fc ps "take").all lD=true:=by
  rw [List.all_eq_true]
  intro v hv
  rcases List.mem_append.mp hv with h | h <;> (obtain⟨p,_,rfl⟩:=List.mem_map.mp h;rfl)
 refine⟨_,rfl,L,rfl,⟨_,s13.seq hL⟩,cY (K:=K) (a:=L) (xs:=xs.map V.str) (λj σ H'=>H'=H3/\∃v3,σ=[some (.ref r),some (.ref L),some (.ref l3),v3]) ⟨rfl,none,rfl⟩ (λj σ H' _ ⟨e,_⟩=>by rw [e];exact s13.seq hL) ?_ ?_⟩
 ·rintro j x σ H' hx' ⟨rfl,v3,rfl⟩
  rw [List.getElem?_map] at hx'
  obtain⟨y,hy,rfl⟩:=Option.map_eq_some_iff.mp hx'
  refine⟨_,rfl,_,rfl,l3,_,rfl,.inl (bI.of e3),rfl,fl,_,rfl,?_⟩
  rw [U7 (hx y (List.mem_of_getElem? hy)) (by simp [J8])]
  exact dq ⟨rfl,_,rfl⟩
 ·rintro σ H' ⟨rfl,v3,rfl⟩
  exact k _ s13
theorem Wi (y:Str) (xs:List Str):inV (.str y) (xs.map V.str)=decide (y∈xs):=by
 rw [Bool.eq_iff_iff,decide_eq_true_iff]
 unfold inV
 rw [List.any_eq_true]
 constructor
 ·rintro⟨v,hv,e⟩
  obtain⟨z,hz,rfl⟩:=List.mem_map.mp hv
  have:z=y:=by simpa [J8] using e
  rw [<-this];exact hz
 ·intro h
  exact⟨.str y,List.mem_map.mpr ⟨y,h,rfl⟩,by simp [J8]⟩
noncomputable def pO (xs:List Str) (p:PD):Bool:=!decide (p.name∈xs)
noncomputable def qW (ls:List aF) (ps:List PD) (S:FS) (xs:List Str):List (PD×ju):=(ps.filter (pO xs)).filterMap λp=>(gO ls S p).map λdd=>(p,dd)
noncomputable def jL (S:FS) (ws:List (PD×ju)):FS:=ws.foldl (λS w=>Cz S w.1.name w.2) S
noncomputable def lL (ls:List aF) (ps:List PD) (S:FS) (xs:List Str):FS:=jL S (qW ls ps S xs)
theorem M8 (S:FS) (ws:List (PD×ju)) (w:PD×ju):jL S (ws ++ [w])=Cz (jL S ws) w.1.name w.2:=by unfold jL;rw [List.foldl_append];rfl
theorem Ah {S:FS} {b:Nat} {x:Str}:∀{ws:List (PD×ju)},(S.ev x).length<=b->(∀w∈ws,w.2.gv.length<=2)->((jL S ws).ev x).length<=b+2 * ws.length
 | [],h,_=>by simpa [jL] using h
 | w:: r,h,g=>by
  have h1:=g w List.mem_cons_self
  have h2:((Cz S w.1.name w.2).ev x).length<=b+2:=by
   unfold Cz
   rw [lP,lM]
   have:=List.length_filter_le (λq:Str×Int=>decide (q.1=x)) w.2.gv
   omega
  have h3:=Ah (S:=Cz S w.1.name w.2) (ws:=r) h2 (λw' hw=>g w' (List.mem_cons_of_mem _ hw))
  show((jL (Cz S w.1.name w.2) r).ev x).length<=_
  rw [List.length_cons]
  omega
theorem Du {α β:Type} {F:α->β->Prop}:∀{xs:List α} {ys:List β} {j:Nat} {x:α},Paired F xs ys->xs[j]?=some x->∃y,ys[j]?=some y/\F x y
 | _,_,_,_,.nil,e=>by simp at e
 | _,_,0,_,.cons h _,e=>by simp at e;subst e;exact⟨_,rfl,h⟩
 | _,_,j+1,_,.cons _ r,e=>by
  obtain⟨y,h1,h2⟩:=Du (j:=j) r (by simpa using e)
  exact⟨y,by simpa using h1,h2⟩
theorem GQ {α β:Type} {F:α->β->Prop}:∀{xs:List α} {ys:List β} {y:β},Paired F xs ys->y∈ys->∃x,F x y
 | _,_,_,.nil,e=>by simp at e
 | _,_,_,.cons h r,e=>by
  rcases List.mem_cons.mp e with rfl | e
  ·exact⟨_,h⟩
  ·exact GQ r e
theorem fj.ncell {H:Hp} {A:qK} {ls:List aF} {ps:List PD} {S:FS} (W:fj K t H A ls ps S) {a:Addr} {u:HO} (h:H a=some u) (h1:∀ks,u≠.dK ks) (h2:∀ks,u≠.lst ks):a∉A.cells ls ps:=by
 intro z
 have no:∀{b:Addr} {v:HO},H b=some v->a=b->u=v:=λe q=>by rw [<-q,h] at e;exact Option.some.inj e
 unfold qK.cells at z
 simp only [List.mem_cons,List.mem_append,List.mem_map] at z
 rcases z with z | z | z | z | z | ⟨l,hl,z⟩ | ⟨p,hp,z⟩
 ·exact h1 _ (no W.ever z)
 ·exact h1 _ (no W.gone z)
 ·exact h1 _ (no W.kept z)
 ·exact h1 _ (no W.done z)
 ·exact h1 _ (no W.rows z)
 ·exact h2 _ (no (W.lists l hl) z.symm)
 ·have hf:=List.mem_filter.mp hp
  exact h2 _ (no (W.rlst p hf.1 (by simpa using hf.2)) z.symm)
theorem fj.tupMov {H H':Hp} {A:qK} {ls:List aF} {ps:List PD} {S:FS} (W:fj K t H A ls ps S) (m:GC (A.cells ls ps) H H') {a:Addr} {xs:List V} (h:H a=some (.tup xs)):H' a=some (.tup xs):=by
 rw [m a (W.ncell h (by intro _ z;cases z) (by intro _ z;cases z))]
 exact h
theorem mH.mov {H H':Hp} {A:qK} {ls:List aF} {ps:List PD} {S:FS} {U:Addr} {dd:ju} (h:mH (A.cells ls ps) H U dd) (W:fj K t H A ls ps S) (m:GC (A.cells ls ps) H H'):mH (A.cells ls ps) H' U dd:=by
 obtain⟨La,Lg,rs,a,b,c,d,e,f⟩:=h
 exact⟨La,Lg,rs,W.tupMov m a,by rw [m La e];exact b,by rw [m Lg f];exact c,Paired.mapP d λ_ _ z=>W.tupMov m z,e,f⟩
theorem vY.mov {H H':Hp} {r a f:Addr} {n:Nat} {M:List Addr} (h:vY t H r a f n) (nr:r∉M) (m:GC M H H'):vY t H' r a f n:=by
 obtain⟨dx,fs,h1,h2⟩:=h
 exact⟨dx,fs,⟨by rw [m r nr];exact h1.1,h1.2⟩,h2⟩
theorem aaJ {H:Hp} {Q:VK} {Ex:XK} {b:Nat} {A:qK} {ls:List aF} {ps:List PD} {S:FS} {p:PD} {U:Addr} {dd:ju} (F:uD ls ps) (W:fj K t H A ls ps S) (hp:p∈ps) (hl:∀l∈ls,(S.ev l.name).length<=b) (hb:b<=100000) (d:mH (A.cells ls ps) H U dd) (o:JF ls dd)
  (k:∀H',GC (A.cells ls ps) H H'->fj K t H' A ls ps (Cz S p.name dd)->Q .non H'):nZ K t [.ref A.f,.str p.name,.ref U] H Q Ex:=by
 unfold nZ
 exact⟨b,A,ls,ps,S,p,U,dd,rfl,F,W,hp,hl,hb,d,o,k⟩
theorem vY.turned {H:Hp} {r a f:Addr} {n:Nat} {dx:Addr} {fs:List (Str×V)} (h:(H r=some (.ins t.ou dx fs)/\fs.length<=n+3)/\VG ["step", "need_doors", "next_deed", "full_lane", "can_work", "works", "lane_now", "turn"] [("net",.ref a),("flow",.ref f),("turns",.int (n:Nat))] fs):
  vY t (upd H r (.ins t.ou dx (aD "turns" (.int ((n:Int)+1)) fs))) r a f (n+1):=by
 refine⟨dx,_,⟨ak,?_⟩,⟨?_,?_⟩⟩
 ·exact Nat.le_trans (gH h.1.2) (by omega)
 ·intro q hq
  simp only [List.mem_cons,List.not_mem_nil,or_false] at hq
  rcases hq with rfl | rfl | rfl
  ·dsimp only
   rw [aA,if_neg (by decide +kernel)]
   exact h.2.has ("net",.ref a) (by simp)
  ·dsimp only
   rw [aA,if_neg (by decide +kernel)]
   exact h.2.has ("flow",.ref f) (by simp)
  ·dsimp only
   rw [aA,if_pos rfl]
   rfl
 ·intro m hm
  have hne:∀m∈(["step", "need_doors", "next_deed", "full_lane", "can_work", "works", "lane_now", "turn"]:List Str),¬m= "turns" :=by decide +kernel
  rw [aA,if_neg (hne m hm)]
  exact h.2.no m hm
theorem fj.ins {H:Hp} {A:qK} {ls:List aF} {ps:List PD} {S:FS} (W:fj K t H A ls ps S) {x:Addr} (nx:x∉A.cells ls ps) {o:HO} (nf:x≠A.f):fj K t (upd H x o) A ls ps S:=by
 have st:∀a,a∈A.cells ls ps->upd H x o a=H a:=λa ha=>aJ λz=>nx (by rw [<-z];exact ha)
 obtain⟨dx,fs,h1,h2⟩:=W.at'.ex
 refine⟨⟨dx,fs,by rw [aJ (Ne.symm nf)];exact h1,h2⟩,?_,λl hl=>?_,?_,?_,?_,?_,λp hp h0=>?_,W.nod⟩
 ·rw [st _ (by simp [qK.cells])];exact W.ever
 ·rw [st _ (by unfold qK.cells;simp only [List.mem_cons,List.mem_append,List.mem_map];exact .inr (.inr (.inr (.inr (.inr (.inl ⟨l,hl,rfl⟩))))))];exact W.lists l hl
 ·rw [st _ (by simp [qK.cells])];exact W.gone
 ·rw [st _ (by simp [qK.cells])];exact W.kept
 ·rw [st _ (by simp [qK.cells])];exact W.done
 ·rw [st _ (by simp [qK.cells])];exact W.rows
 ·rw [st _ (by unfold qK.cells;simp only [List.mem_cons,List.mem_append,List.mem_map];exact .inr (.inr (.inr (.inr (.inr (.inr ⟨p,List.mem_filter.mpr ⟨hp,by simp [h0]⟩,rfl⟩))))))];exact W.rlst p hp h0
inductive GR (M:List Addr) (ls:List aF) (S:FS) (H:Hp) (q:PD×Addr):Prop where
 | mk:∀u,H q.2=some (.tup [.str q.1.name,u])->(((gO ls S q.1=none/\u=.non)∨∃dd U,gO ls S q.1=some dd/\u=.ref U/\mH M H U dd))->GR M ls S H q
theorem GR.same {M:List Addr} {ls:List aF} {S:FS} {H H':Hp} {q:PD×Addr} (h:GR M ls S H q) (s:aO H H'):GR M ls S H' q:=by
 obtain⟨u,h1,h2⟩:=h
 refine⟨u,s _ _ h1,?_⟩
 rcases h2 with h2 | ⟨dd,U,a,b,c⟩
 ·exact .inl h2
 ·exact .inr ⟨dd,U,a,b,c.same s⟩
theorem S5 {ls:List aF} {S:FS}:∀{qs:List (PD×Addr)},(qs.map (·.1)).filterMap (λp=>(gO ls S p).map λdd=>(p,dd))=(qs.filter λq=>(gO ls S q.1).isSome).filterMap (λq=>(gO ls S q.1).map λdd=>(q.1,dd))
 | []=>rfl
 | q:: r=>by
  rw [List.map_cons,List.filterMap_cons,List.filter_cons,S5 (qs:=r)]
  cases h:gO ls S q.1 with
  | none=>simp
  | some dd=>simp [List.filterMap_cons,h]
theorem m8 {ls:List aF} {S:FS} {p:PD} {dd:ju} (h:gO ls S p=some dd):lC S p=some dd/\yU ls S dd=.non:=by
 unfold gO at h
 split at h
 ·cases h
 ·rename_i d hd
  split at h
  ·rename_i hf
   cases h
   exact⟨hd,hf⟩
  ·cases h
structure w5 (K:PySem.W.Frag) (t:jw) (H:Hp) (r:Addr) (n:Nat) (A:qK) (ls:List aF) (ps:List PD) (S:FS):Prop where
 run:vY t H r A.n A.f n
 net:gJ K t (bf (r:: A.cells ls ps) H) A.n ls ps
 flow:fj K t H A ls ps S
 ne:r≠A.f
theorem w5.netH {H:Hp} {r:Addr} {n:Nat} {A:qK} {ls:List aF} {ps:List PD} {S:FS} (h:w5 K t H r n A ls ps S):gJ K t H A.n ls ps:=h.net.same bY
theorem vY.cell {H:Hp} {r:Addr} {n:Nat} {A:qK} {ls:List aF} {ps:List PD} {S:FS} {a f:Addr} (hR:vY t H r a f n) (W:fj K t H A ls ps S):r∉A.cells ls ps:=by
 obtain⟨dx,fs,⟨h1,_⟩,_⟩:=hR
 intro z
 have no:∀{b:Addr} {u:HO},H b=some u->(∀C dx fs,u≠.ins C dx fs)->r=b->False:=λe h q=>by rw [<-q,h1] at e;exact h _ _ _ (Option.some.inj e).symm
 unfold qK.cells at z
 simp only [List.mem_cons,List.mem_append,List.mem_map] at z
 rcases z with z | z | z | z | z | ⟨l,hl,z⟩ | ⟨p,hp,z⟩
 ·exact no W.ever (by intro _ _ _ z;cases z) z
 ·exact no W.gone (by intro _ _ _ z;cases z) z
 ·exact no W.kept (by intro _ _ _ z;cases z) z
 ·exact no W.done (by intro _ _ _ z;cases z) z
 ·exact no W.rows (by intro _ _ _ z;cases z) z
 ·exact no (W.lists l hl) (by intro _ _ _ z;cases z) z.symm
 ·have hf:=List.mem_filter.mp hp
  exact no (W.rlst p hf.1 (by simpa using hf.2)) (by intro _ _ _ z;cases z) z.symm
theorem YG {ws:List Int} (h:Zv ws):0<=g0 ws/\g0 ws <1000000000:=by
 unfold g0
 match ws,h with
 | [],_=>exact⟨by decide,by decide⟩
 | w:: r,h=>exact h w List.mem_cons_self
theorem Y8 {ws:List Int} (h:Zv ws):0<=g1 ws/\g1 ws <1000000000:=by
 unfold g1
 match ws,h with
 | [],_=>exact⟨by decide,by decide⟩
 | [w],_=>exact⟨Int.le_refl 0,by show(0:Int) <1000000000;decide⟩
 | w:: v:: r,h=>exact h v (by simp)
theorem J7 (n:Int):0<=n % 1000000000/\n % 1000000000 <1000000000:=⟨Int.emod_nonneg _ (by decide),Int.emod_lt_of_pos _ (by decide)⟩
theorem RB {i:Nat} (hi:i <11) (ns:List Int) {ws:List Int} (kp:Int) (h:Zv ws):∀pv∈cA i ns ws kp,0<=pv.2/\pv.2 <1000000000:=by
 have a0:=YG h
 have a1:=Y8 h
 match i,hi with
 | 0,_=>simp [cA];exact a0
 | 1,_=>simp [cA]
 | 2,_=>simp [cA];exact a0
 | 3,_=>simp [cA];exact a0
 | 4,_=>simp [cA];exact J7 _
 | 5,_=>simp [cA];exact J7 _
 | 6,_=>simp [cA];exact J7 _
 | 7,_=>simp [cA];split <;> decide
 | 8,_=>simp [cA];constructor <;> split <;> omega
 | 9,_=>simp [cA];exact a1
 | 10,_=>simp [cA];exact a1
theorem Ly (x:Str):∀(ws:List (PD×ju)) (S:FS),(jL S ws).ev x=S.ev x ++ ws.flatMap λw=>(w.2.gv.filter λq=>decide (q.1=x)).map (·.2)
 | [],S=>by simp [jL]
 | w:: r,S=>by
  show(jL (Cz S w.1.name w.2) r).ev x=_
  rw [Ly x r,List.flatMap_cons,<-List.append_assoc]
  rfl
theorem CV:∀(ws:List (PD×ju)) (S:FS),(jL S ws).r=S.r
 | [],_=>rfl
 | w:: r,S=>by show(jL (Cz S w.1.name w.2) r).r=_;rw [CV r];rfl
theorem J6 (x:Str):∀(ws:List (PD×ju)) (S:FS),(jL S ws).d x=S.d x+(ws.filter λw=>decide (w.1.name=x)).length
 | [],S=>by simp [jL]
 | w:: r,S=>by
  show(jL (Cz S w.1.name w.2) r).d x=_
  rw [J6 x r,List.filter_cons]
  show(if x=w.1.name then S.d x+1 else S.d x)+_=_
  by_cases h:x=w.1.name
  ·rw [if_pos h,if_pos (by simp [h])]
   simp
   omega
  ·rw [if_neg h,if_neg (by simpa using λe=>h e.symm)]
theorem wW {ls:List aF} {ps:List PD} {S:FS} {xs:List Str} {w:PD×ju} (h:w∈qW ls ps S xs):w.1∈ps/\pO xs w.1=true/\gO ls S w.1=some w.2:=by
 obtain⟨p,hp,e⟩:=List.mem_filterMap.mp h
 obtain⟨dd,hd,rfl⟩:=Option.map_eq_some_iff.mp e
 obtain⟨h1,h2⟩:=List.mem_filter.mp hp
 exact⟨h1,h2,hd⟩
theorem wG {ls:List aF} {S:FS}:∀{qs:List PD},((qs.filterMap λp=>(gO ls S p).map λdd=>(p,dd)).map (·.1)).Sublist qs
 | []=>by simp
 | q:: r=>by
  rw [List.filterMap_cons]
  cases gO ls S q with
  | none=>exact wG.cons _
  | some dd=>exact wG.cons₂ _
theorem Vc {ls:List aF} {ps:List PD} {S:FS} {xs:List Str} (nd:(ps.map (·.name)).Nodup):((qW ls ps S xs).map λw=>w.1.name).Nodup:=by
 have h:((qW ls ps S xs).map (·.1)).Sublist ps:=(wG (qs:=ps.filter (pO xs))).trans List.filter_sublist
 have e:(qW ls ps S xs).map (λw=>w.1.name)=((qW ls ps S xs).map (·.1)).map (·.name):=by rw [List.map_map];rfl
 rw [e]
 exact nd.sublist (h.map _)
theorem Xa {ls:List aF} {ps:List PD} {S:FS} {xs:List Str}:(qW ls ps S xs).length<=ps.length:=by
 have h:((qW ls ps S xs).map (·.1)).Sublist ps:=(wG (qs:=ps.filter (pO xs))).trans List.filter_sublist
 have:=h.length_le
 rwa [lM] at this
theorem Sx {α:Type} {f:α->Str} {x:Str}:∀{l:List α},(l.map f).Nodup->(l.filter λa=>decide (f a=x)).length<=1
 | [],_=>by simp
 | a:: r,nd=>by
  rw [List.map_cons,List.nodup_cons] at nd
  rw [List.filter_cons]
  by_cases h:f a=x
  ·rw [if_pos (by simp [h]),List.filter_eq_nil_iff.mpr λb hb=>by simpa using λe=>nd.1 (List.mem_map.mpr ⟨b,hb,by rw [e,h]⟩)]
   simp
  ·rw [if_neg (by simp [h])]
   exact Sx nd.2
theorem VL {b:Nat} {ls:List aF} {ps:List PD} {S:FS} (F:uD ls ps) (O:Rv b ls ps S) (xs:List Str):Rv (b+32) ls ps (lL ls ps S xs):=by
 have dk:∀w∈qW ls ps S xs,JF ls w.2:=λw hw=>CK F (wW hw).1 (m8 (wW hw).2.2).1
 refine⟨λl hl v hv=>?_,λp hp h0=>?_,λp hp h0=>?_,λl hl=>?_,λp hp h0=>?_⟩
 ·unfold lL at hv
  rw [Ly] at hv
  rcases List.mem_append.mp hv with h | h
  ·exact O.vb l hl v h
  ·obtain⟨w,hw,hv⟩:=List.mem_flatMap.mp h
   obtain⟨q,hq,rfl⟩:=List.mem_map.mp hv
   obtain⟨h1,_,h3⟩:=wW hw
   obtain⟨e1,e2,e3⟩:=su (m8 h3).1
   have hq':=(List.mem_filter.mp hq).1
   rw [e3] at hq'
   obtain⟨pv,hpv,rfl⟩:=List.mem_map.mp hq'
   exact RB (F.pok _ h1).1 _ _ (Xg F O h1 e1 e2).2.1 pv hpv
 ·unfold lL
  rw [CV]
  exact O.rb p hp h0
 ·unfold lL
  rw [CV,J6]
  have h1:=Sx (x:=p.name) (Vc (ls:=ls) (S:=S) (xs:=xs) F.pnd)
  have h2:=O.dl p hp h0
  by_cases hm:∃w∈qW ls ps S xs,w.1.name=p.name
  ·obtain⟨w,hw,e⟩:=hm
   obtain⟨a1,_,a3⟩:=wW hw
   have ew:w.1=p:=DQ F.pnd a1 hp e
   obtain⟨_,e2,_⟩:=su (m8 a3).1
   rw [ew] at e2
   unfold z9 at e2
   simp [h0] at e2
   omega
  ·rw [List.filter_eq_nil_iff.mpr λw hw=>by simpa using λe=>hm ⟨w,hw,e⟩]
   simpa using h2
 ·have h1:=Ah (O.len l hl) λw hw=>(dk w hw).g2
  have h2:=Xa (ls:=ls) (ps:=ps) (S:=S) (xs:=xs)
  have:=F.p16
  unfold lL
  omega
 ·unfold lL
  rw [CV]
  exact O.rl p hp h0
inductive yN (K:PySem.W.Frag) (t:jw) (vs:List V) (H:Hp) (Q:VK):Prop where
 | mk:∀(b:Nat) (r:Addr) (n:Nat) (A:qK) (ls:List aF) (ps:List PD) (S:FS) (hd:V) (xs:List Str),vs=[.ref r,hd]->w5 K t H r n A ls ps S->Rv b ls ps S->b<=90000->n<=900->(((hd=.non/\xs=[])∨∃L,hd=.ref L/\bI K H L (xs.map V.str)/\L∉A.cells ls ps))->((∀x∈xs,V.str x∈fc ps "give" ++ fc ps "take"))->(∀H' p,aO (bf (r:: A.cells ls ps) H) (bf (r:: A.cells ls ps) H')->w5 K t H' r (n+1) A ls ps (lL ls ps S xs)->H p=none->H' p=some (.lst ((qW ls ps S xs).map λw=>V.str w.1.name))->Q (.ref p) H')->yN K t vs H Q
@[irreducible] noncomputable def lQ (K:PySem.W.Frag) (t:jw):Sp:=λvs H Q _=>yN K t vs H Q
noncomputable abbrev rR:List Str:=["self", "held", "back", "deeds", "due", "name", "deed"]
theorem K7 (T:Txt w K mg t):FO P w K mg base 7 t.yj ["self", "held"] (lQ K t):=by
 have sc:fY rR ["self", "held"] (aX (inClass (top 88) 1)):=Pk
 refine T.yq.F.ok sc (λvs H Q E h=>?_) (λcdv A outer s H vs Q E hr h=>?_)
 ·unfold lQ at h
  obtain⟨b,r,n,A,ls,ps,S,hd,xs,rfl,_⟩:=h
  rfl
 ·unfold lQ at h
  obtain⟨b,r,n,A,ls,ps,S,hd,xs,rfl,⟨hR,Nc,W,nrf⟩,O,hb,hn,hL,hx,k⟩:=h
  refine⟨_,(ao (sN sc 2 (n6 (fP (FZ (pv 1))) (dm aq) (pv 1)))
   (ao (dh (zx (pv 0) T.dF T.dF.me.2.2.2.1 (yz T) T.jQ hr (aa (pv 2) aq aj)))
   (ao (oW (i:=3) [0,2] rR (aX (inClass (top 88) 1)) rfl sc.nd rfl (bH (Nz (aZ (pv 0) rfl) T.aR T.aR.me.2.2.1 (dw T) T.cj hr)) (λ_ _ _ _ _=>(yf (bD (xK (K:=K) rfl) (pv 0) (pv 2) (by with_unfolding_all rfl)))) (λ_ _ _ _ _=>(bL (aa (pv 0) (aa (zx (pv 1) T.dF T.dF.me.2.2.1 (Ae T) T.lU hr (aa (pv 0) aq aj)) aq bz) aj))))
   (ao (oW (i:=4) [] rR (aX (inClass (top 88) 1)) rfl sc.nd rfl (bH (pv 3)) (λ_ _ _ _ _=>(yf (fP (CT (aU (mL (K:=K) rfl) (pv 0) aB (λ_ _=>rfl)))))) (λ_ _ _ _ _=>(pv 0)))
   (ao (cX PassesOwn.never rfl (bH (pv 4)) (Ay rfl (fH (gN sc 5) (fH (gN sc 6) sJ)))
    (au (dh (zx (aZ (pv 0) rfl) T.aV T.aV.me.2.2.2.2.2.2.2.1 (NQ T) T.Bf hr (aa (pv 5) (aa (pv 6) aq aj) aj)))))
   (ao (Rh (pv 0) aB JK)
   (au (aQ (Su ["name", "deed"] [] rR (aX (inClass (top 88) 1)) rfl (bH (pv 4)) (λ_ _ _ _ _=>Px (K:=K) (n:=2) rfl rfl (fH (wU (i:=0) (show(["name", "deed"]:List Str).Nodup by decide +kernel) rfl (Or.inl rfl) (.inr rfl)) (fH (wU (i:=1) (show(["name", "deed"]:List Str).Nodup by decide +kernel) rfl (Or.inl rfl) (.inr rfl)) sJ))) (λ_ _ _ _ _=>jl) (λ_ _ _ _ _=>(pv 0))))))))))),?_⟩
  have hz:sizeLine=16777216:=sizeLine_eq
  rcases hL with ⟨rfl,hxs⟩ | ⟨L,rfl,hL,nL⟩
  refine⟨_,rfl,_,rfl,iT ⟨rJ,λL nL0=>?_⟩⟩
  have t0:=az (o:=.lst []) nL0
  have hL:bI K (upd H L (.lst [])) L (xs.map V.str):=by rw [hxs];exact bI.of ak
  have nL:L∉A.cells ls ps:=W.cell nL0
  replace k:∀(H':Hp) (p:Addr),aO (bf (r:: A.cells ls ps) (upd H L (.lst []))) (bf (r:: A.cells ls ps) H')->w5 K t H' r (n+1) A ls ps (lL ls ps S xs)->upd H L (.lst []) p=none->H' p=some (.lst ((qW ls ps S xs).map λw=>V.str w.1.name))->Q (.ref p) H':=λH' p c R' np ep=>k H' p ((jY nL0).trans c) R' (t0.free np) ep
  replace hR:=hR.same t0
  replace Nc:=Nc.same (jY (E:=r:: A.cells ls ps) (o:=.lst []) nL0)
  replace W:=W.same t0
  generalize upd H L (.lst [])=Hb at hR Nc W hL k ⊢
  clear t0
  rotate_left
  refine⟨_,rfl,_,rfl,dq ⟨_,rfl,?_⟩⟩
  obtain⟨Hb,hHb⟩:∃Hb,Hb=H:=⟨_,rfl⟩
  subst hHb
  all_goals (
   have N:gJ K t Hb A.n ls ps:=Nc.same bY
   obtain⟨dxn,fsn,R,F0,Pd,Gn,Tk,FL,PL,Wn⟩:=id N
   have F:=Wn.fit
   have p16:=F.p16
   obtain⟨dxr,fsr,R0⟩:=id hR
   refine⟨_,rfl,r,dxr,fsr,rfl,R0.1.1,R0.2.no _ (by decide +kernel),_,rfl,r,n,A,ls,ps,S,L,xs,rfl,hR,N,W,hL,hx,λH1 s1=>?_⟩
   obtain⟨dxr,fsr,R1⟩:=hR.same s1
   have Wn1:=Wn.same s1
   refine⟨_,rfl,r,_,dxr,fsr,_,rfl,R1.1.1,T.dF.c,T.dF.na.1,R1.2.has ("net",.ref A.n) (by simp),A.n,dxn,fsn,rfl,Wn1.obj,Wn1.fl.no _ (by decide +kernel),A.n,ls,ps,rfl,Wn1.s,λl nl=>?_⟩
   have s2:=s1.trans (az (o:=.lst (ps.map λx=>V.str x.name)) nl)
   have el:(upd H1 l (.lst (ps.map λx=>V.str x.name))) l=some (.lst (ps.map λx=>V.str x.name)):=ak
   generalize upd H1 l (.lst (ps.map λx=>V.str x.name))=H2 at s2 el ⊢
   have hflat:(xs.map V.str).all lD=true:=by simp [lD]
   refine⟨l,rfl,⟨_,bI.of el⟩,dN (K:=K) (a:=l) (xs:=ps.map λx=>V.str x.name) (λj ys Hb'=>aO H2 Hb'/\∃qs:List (PD×Addr),ys=qs.map (λq=>V.ref q.2)/\qs.map (·.1)=(ps.take j).filter (pO xs)/\∀q∈qs,GR (A.cells ls ps) ls S Hb' q) (by rw [lM];omega) ⟨aO.refl _,[],rfl,rfl,by simp⟩ ?_ (λj ys Hb' _ h=>h.1.seq (bI.of el)) ?_ ?_⟩
   ·rintro j ys Hb' ⟨_,qs,rfl,e,_⟩
    have h1:=congrArg List.length e
    have h2:=List.length_filter_le (pO xs) (ps.take j)
    rw [lM] at h1
    rw [List.length_take] at h2
    rw [lM]
    omega
   ·rintro j x ys Hb' hj ⟨s3',qs,rfl,eq,hq⟩
    rw [List.getElem?_map] at hj
    obtain⟨p,hp,rfl⟩:=Option.map_eq_some_iff.mp hj
    have hpm:=List.mem_of_getElem? hp
    have s3:=s2.trans s3'
    obtain⟨dxr,fsr,R2⟩:=hR.same s3
    refine⟨_,rfl,_,rfl,L,_,rfl,.inl (s3.seq hL),rfl,hflat,_,rfl,?_⟩
    rw [Wi]
    have tk:(ps.take (j+1)).filter (pO xs)=(ps.take j).filter (pO xs) ++ if pO xs p=true then [p] else []:=by
     rw [List.take_succ,hp,Option.toList_some,List.filter_append,List.filter_cons]
     rfl
    refine uB (λe=>?_) (λe=>?_)
    ·have e':pO xs p=true:=e
     rw [e',if_pos rfl] at tk
     refine⟨_,rfl,_,rfl,r,dxr,fsr,rfl,R2.1.1,R2.2.no _ (by decide +kernel),_,rfl,?_⟩
     refine Vu (hR.same s3) (N.same s3) (W.same s3) O hpm (λhd H4 s4=>?_) (λdd hd H4 U s4 nU DA=>?_)
     ·refine⟨rJ,λq nq=>⟨s3'.trans (s4.trans (az nq)),qs ++ [(p,q)],by simp,by rw [List.map_append,eq,tk];rfl,λq' hq'=>?_⟩⟩
      rcases List.mem_append.mp hq' with h | h
      ·exact(hq q' h).same (s4.trans (az nq))
      ·rw [List.mem_singleton] at h
       subst h
       exact⟨.non,ak,.inl ⟨hd,rfl⟩⟩
     ·refine⟨rJ,λq nq=>⟨s3'.trans (s4.trans (az nq)),qs ++ [(p,q)],by simp,by rw [List.map_append,eq,tk];rfl,λq' hq'=>?_⟩⟩
      rcases List.mem_append.mp hq' with h | h
      ·exact(hq q' h).same (s4.trans (az nq))
      ·rw [List.mem_singleton] at h
       subst h
       exact⟨.ref U,ak,.inr ⟨dd,U,hd,rfl,DA.same (az nq)⟩⟩
    ·have e':¬pO xs p=true:=e
     rw [if_neg e',List.append_nil] at tk
     exact⟨s3',qs,rfl,by rw [eq,tk],hq⟩
   rintro ys H3 ⟨s3',qs,rfl,eq,hq⟩ D1 nD1
   rw [lM,List.take_length] at eq
   have s4':=az (o:=.lst (qs.map λq=>V.ref q.2)) nD1
   have s4:=(s2.trans s3').trans s4'
   have eD1:(upd H3 D1 (.lst (qs.map λq=>V.ref q.2))) D1=some (.lst (qs.map λq=>V.ref q.2)):=ak
   replace hq:=λq h=>(hq q h).same s4'
   generalize upd H3 D1 (.lst (qs.map λq=>V.ref q.2))=H4 at s4 s4' eD1 hq ⊢
   clear s4' nD1 s3' nl el
   have lq:qs.length<=16:=by
    have h1:=congrArg List.length eq
    have h2:=List.length_filter_le (pO xs) ps
    rw [lM] at h1
    omega
   let fS:PD×Addr->Bool:=λq=>(gO ls S q.1).isSome
   refine⟨_,rfl,D1,rfl,⟨_,bI.of eD1⟩,dN (K:=K) (a:=D1) (xs:=qs.map λq=>V.ref q.2) (λj ys Hb'=>Hb'=H4/\ys=((qs.take j).filter fS).map λq=>V.ref q.2) (by rw [lM];omega) ⟨rfl,rfl⟩ (λj ys Hb' ⟨_,e⟩=>by rw [e,lM];exact Nat.le_trans (List.length_filter_le _ _) (by rw [List.length_take];omega)) (λj ys Hb' _ ⟨e,_⟩=>by rw [e];exact bI.of eD1) ?_ ?_⟩
   ·rintro j x ys Hb' hj ⟨rfl,rfl⟩
    rw [List.getElem?_map] at hj
    obtain⟨q,hqj,rfl⟩:=Option.map_eq_some_iff.mp hj
    obtain⟨u,h1,h2⟩:=hq q (List.mem_of_getElem? hqj)
    refine⟨_,rfl,q.2,_,1,_,rfl,rfl,cP.of h1,aM (j:=1) rfl,?_⟩
    rw [List.take_succ,hqj,Option.toList_some,List.filter_append,List.filter_cons,List.map_append]
    rcases h2 with ⟨h2,rfl⟩ | ⟨dd,U,h2,rfl,_⟩
    ·exact⟨_,rfl,dq ⟨rfl,by simp [fS,h2]⟩⟩
    ·exact⟨_,rfl,iT ⟨_,rfl,rfl,by simp [fS,h2]⟩⟩
   rintro ys Hb' ⟨rfl,rfl⟩ D2 nD2
   rw [lM,List.take_length]
   obtain⟨ws,hws⟩:∃ws:List (PD×ju),ws=qW ls ps S xs:=⟨_,rfl⟩
   have ewq:ws=(qs.filter fS).filterMap (λq=>(gO ls S q.1).map λdd=>(q.1,dd)):=by rw [hws];unfold qW;rw [<-eq,S5]
   have hW:Paired (fun(q:PD×Addr) (w:PD×ju)=>q.1=w.1/\gO ls S w.1=some w.2/\w.1∈ps/\∃U,Hb' q.2=some (.tup [.str w.1.name,.ref U])/\mH (A.cells ls ps) Hb' U w.2) (qs.filter fS) ws:=by
    rw [ewq]
    have hall:∀q∈qs.filter fS,GR (A.cells ls ps) ls S Hb' q/\q.1∈ps/\fS q=true:=λq h=>by
     have h':=List.mem_filter.mp h
     refine⟨hq q h'.1,?_,h'.2⟩
     have:q.1∈qs.map (·.1):=List.mem_map.mpr ⟨q,h'.1,rfl⟩
     rw [eq] at this
     exact(List.mem_filter.mp this).1
    generalize qs.filter fS=rs at hall
    clear ewq
    induction rs with
    | nil=>exact .nil
    | cons q r ih=>
     obtain⟨⟨u,h1,h2⟩,hp,hf⟩:=hall q List.mem_cons_self
     rcases h2 with ⟨h2,_⟩ | ⟨dd,U,h2,rfl,h3⟩
     ·simp only [fS,h2] at hf
      cases hf
     ·rw [List.filterMap_cons,h2]
      exact .cons ⟨rfl,h2,hp,U,h1,h3⟩ (ih λq' hq'=>hall q' (List.mem_cons_of_mem _ hq'))
   have lw:(qs.filter fS).length=ws.length:=Paired.length hW
   have lw16:ws.length<=16:=by have:=List.length_filter_le fS qs;omega
   have s5':=az (o:=.lst ((qs.filter fS).map λq=>V.ref q.2)) nD2
   have s5:=s4.trans s5'
   have nD2':=(W.same s4).cell nD2
   have eD2:(upd Hb' D2 (.lst ((qs.filter fS).map λq=>V.ref q.2))) D2=some (.lst ((qs.filter fS).map λq=>V.ref q.2)):=ak
   generalize upd Hb' D2 (.lst ((qs.filter fS).map λq=>V.ref q.2))=H5 at s5 s5' eD2 ⊢
   generalize qs.filter fS=rs at hW lw eD2 ⊢
   have g2:∀w∈ws,w.2.gv.length<=2:=λw hw=>by
    obtain⟨q,_,h2,h3,_⟩:=GQ hW hw
    exact(CK F h3 (m8 h2).1).g2
   have W5:=W.same s5
   have R5:=hR.same s5
   have nr:=R5.cell W5
   refine⟨_,rfl,D2,rfl,⟨_,bI.of eD2⟩,cY (K:=K) (a:=D2) (xs:=rs.map λq=>V.ref q.2) (λj σ H6=>GC (A.cells ls ps) H5 H6/\fj K t H6 A ls ps (jL S (ws.take j))/\∃v1 v5 v6,σ=[some (.ref r),v1,some (.ref L),some (.ref D1),some (.ref D2),v5,v6]) ⟨λ_ _=>rfl,by simpa [jL] using W5,_,none,none,rfl⟩ (λj σ H6 _ h=>bI.of (by rw [h.1 D2 nD2'];exact eD2)) ?_ ?_⟩
   ·rintro j x σ H6 hj ⟨m6,W6,v1,v5,v6,rfl⟩
    rw [List.getElem?_map] at hj
    obtain⟨q,hqj,rfl⟩:=Option.map_eq_some_iff.mp hj
    obtain⟨w,hwj,_,h2,hp,U,t1,d1⟩:=Du hW hqj
    have t6:=W5.tupMov m6 (s5' _ _ t1)
    have d6:=(d1.same s5').mov W5 m6
    obtain⟨dxr,fsr,R3⟩:=R5.mov nr m6
    obtain⟨dxg,fsg,y1,y2⟩:=id W6.at'.ex
    refine⟨q.2,_,rfl,cP.of t6,rfl,_,_,rfl,_,_,rfl,rfl,?_⟩
    refine⟨_,rfl,r,_,dxr,fsr,_,rfl,R3.1.1,T.dF.c,T.dF.na.2.1,R3.2.has ("flow",.ref A.f) (by simp),A.f,dxg,fsg,rfl,y1,y2.no _ (by decide +kernel),_,rfl,_,rfl,?_⟩
    refine aaJ F W6 hp (b:=b+2 * (ws.take j).length) (λl hl=>Ah (O.len l hl) λw' hw'=>g2 w' (List.mem_of_mem_take hw')) (by rw [List.length_take];omega) d6 (CK F hp (m8 h2).1) λH7 m7 W7=>⟨λa ha=>by rw [m7 a ha,m6 a ha],?_,_,_,_,rfl⟩
    rw [List.take_succ,hwj,Option.toList_some,M8]
    exact W7
   rintro σ H6 ⟨m6,W6,v1,v5,v6,rfl⟩
   rw [lM,lw,List.take_length] at W6
   obtain⟨dxr,fsr,R3⟩:=R5.mov nr m6
   refine⟨_,rfl,r,_,dxr,fsr,.int (n:Nat),rfl,R3.1.1,T.dF.c,T.dF.na.2.2.1,R3.2.has ("turns",.int (n:Nat)) (by simp),_,_,rfl,rfl,dxr,fsr,R3.1.1,by have:=R3.1.2;omega,?_⟩
   have R7:=vY.turned R3
   have W7:=W6.ins (x:=r) nr (o:=.ins t.ou dxr (aD "turns" (.int ((n:Int)+1)) fsr)) nrf
   have m7:∀a,a≠r->a∉A.cells ls ps->upd H6 r (.ins t.ou dxr (aD "turns" (.int ((n:Int)+1)) fsr)) a=H5 a:=λa h1 h2=>by rw [aJ h1,m6 a h2]
   generalize upd H6 r (.ins t.ou dxr (aD "turns" (.int ((n:Int)+1)) fsr))=H7 at R7 W7 m7 ⊢
   have nD2r:D2≠r:=λz=>by
    obtain⟨_,_,y1,_⟩:=R5
    rw [<-z,eD2] at y1
    cases y1.1
   have eD7:H7 D2=some (.lst (rs.map λq=>V.ref q.2)):=by rw [m7 D2 nD2r nD2'];exact eD2
   have t7:∀{a:Addr} {vs:List V},H5 a=some (.tup vs)->H7 a=some (.tup vs):=λ{a vs} h=>by
    rw [m7 a (λz=>by obtain⟨_,_,y1,_⟩:=R5;rw [<-z,h] at y1;cases y1.1) (W5.ncell h (by intro _ z;cases z) (by intro _ z;cases z))]
    exact h
   have c7:aO (bf (r:: A.cells ls ps) Hb) (bf (r:: A.cells ls ps) H7):=λa o e=>by
    have hn:a∉r:: A.cells ls ps:=λz=>by unfold bf at e;rw [if_pos z] at e;cases e
    have e':=s5 _ _ (bY a o e)
    unfold bf
    rw [if_neg hn,m7 a (λz=>hn (by rw [z];exact List.mem_cons_self)) (λz=>hn (List.mem_cons_of_mem _ z))]
    exact e'
   refine⟨_,rfl,D2,rfl,⟨_,bI.of eD7⟩,?_⟩
   refine Eo (K:=K) (a:=D2) (xs:=rs.map λq=>V.ref q.2) (λj ys H8=>H8=H7/\ys=(ws.take j).map λw=>V.str w.1.name) (by rw [lM];omega) ⟨rfl,rfl⟩ ?_ (λj ys H8 _ ⟨e,_⟩=>by rw [e];exact bI.of eD7) ?_ ?_
   ·rintro j ys H8 ⟨_,rfl⟩
    rw [lM,List.length_take]
    omega
   ·rintro j v ys H8 hj ⟨rfl,rfl⟩
    rw [List.getElem?_map] at hj
    obtain⟨q,hqj,rfl⟩:=Option.map_eq_some_iff.mp hj
    obtain⟨w,hwj,_,_,_,U,t1,_⟩:=Du hW hqj
    refine⟨q.2,_,rfl,cP.of (t7 (s5' _ _ t1)),rfl,_,_,rfl,_,_,rfl,rfl,rfl,?_⟩
    refine yes ⟨_,rfl,rfl,?_⟩
    rw [List.take_succ,hwj,Option.toList_some,List.map_append]
    rfl
   rintro ys H8 ⟨rfl,rfl⟩ p np
   rw [lM,lw,List.take_length]
   have s8:=az (o:=.lst (ws.map λw=>V.str w.1.name)) np
   have np5:H5 p=none:=by
    cases e:H5 p with
    | none=>rfl
    | some o=>
     have h1:p≠r:=λz=>by
      obtain⟨_,_,y1,_⟩:=R7
      rw [<-z,np] at y1
      cases y1.1
     rw [<-m7 p h1 (W7.cell np),np] at e
     cases e
   have c8:aO (bf (r:: A.cells ls ps) Hb) (bf (r:: A.cells ls ps) (upd H8 p (.lst (ws.map λw=>V.str w.1.name)))):=c7.trans (jY np)
   refine k _ p c8 ⟨R7.same s8,Nc.same c8,?_,nrf⟩ (s5.free np5) (by rw [ak,hws])
   unfold lL
   rw [<-hws]
   exact W7.same s8
  )
inductive HN (K:PySem.W.Frag) (vs:List V) (H:Hp) (Q:VK) (E:XK):Prop where
 | mk:∀(a:Addr) (ws:List Int),vs=[.ref a]->bI K H a (ws.map V.int)->ws.length<=300->((∀v∈ws,0<=v/\v <1000000000))->(∀H',aO H H'->Q (.bl true) H')->HN K vs H Q E
theorem QG (T:Txt w K mg t):FO P w K mg base 3 t.Kv ["thing"] (HN K):=by
 have sc:=T.DW.sc ["thing"]
 refine T.DW.F.ok sc ln (λ_ _ _ _ H vs Q E hr h=>?_)
 obtain⟨a,ws,rfl,hS,hl,hB,k⟩:=h
 refine⟨_,(au (aQ (zX (bx zO (by rfl) T.mK j6 (aa (pv 0) (aa (CQ (by rfl) T.uY pC) aq aj) aj)) (zX (tQ pW (bx b8 (by rfl) T.iy eQ (aa (pv 0) aq aj)) (iC (by rfl) T.Gs) (cz _)) (zW (bx (zQ rfl) (by rfl) T.PJ Jp (aa (gf [] ["thing"] (aX (top 85)) rfl (bH (pv 0)) (λ_ _ _ _ _=>jl) (λ_ _ _ _ _=>(jd (vM T) T.nC hr (aa (pv 0) aq aj)))) aq d8))))))),?_⟩
 have hz:sizeLine=16777216:=sizeLine_eq
 refine⟨_,rfl,_,_,_,_,rfl,.inl ⟨rfl,_,hS⟩,by decide,rfl,_,rfl,iT ?_⟩
 refine⟨_,rfl,_,(ws.map V.int).length,rfl,.inl ⟨_,hS,by simp⟩,_,_,rfl,rfl,_,rfl,?_⟩
 rw [lM,decide_eq_true (show(ws.length:Int)<=300 by omega)]
 refine iT ?_
 refine⟨_,rfl,a,rfl,⟨_,hS⟩,dN (K:=K) (a:=a) (xs:=ws.map V.int) (λj ys H'=>H'=H/\ys=(List.replicate j true).map V.bl) (by rw [lM];omega) ⟨rfl,rfl⟩ (λj ys H' ⟨_,e⟩=>by rw [e];simp) (λj ys H' _ ⟨e,_⟩=>by rw [e];exact hS) ?_ ?_⟩
 ·rintro j x ys H' hx ⟨rfl,rfl⟩
  rw [List.getElem?_map] at hx
  obtain⟨n,hn,rfl⟩:=Option.map_eq_some_iff.mp hx
  obtain⟨n0,n1⟩:=hB n (List.mem_of_getElem? hn)
  refine yes ⟨_,rfl,.int n,rfl,.inl ⟨n,rfl,rfl,?_⟩⟩
  rw [decide_eq_true n0,decide_eq_true n1,List.replicate_succ']
  simp
 rintro ys H' ⟨rfl,rfl⟩ D hD
 refine⟨D,List.replicate (ws.map V.int).length true,rfl,bI.of ak,?_⟩
 rw [show(List.replicate (ws.map V.int).length true).all id=true by simp]
 exact k _ (az hD)
structure Nx (ps:List PD) (RW:List (Str×Addr×List Int)):Prop where
 door:∀q∈RW,V.str q.1∈fc ps "give"
 bnd:∀q∈RW,∀v∈q.2.2,0<=v/\v <1000000000
theorem QX {ls:List aF} {ps:List PD} {RW:List (Str×Addr×List Int)} (F:uD ls ps) (hl:∀q∈RW,q.2.2.length<=300) (hb:∀q∈RW,∀v∈q.2.2,0<=v/\v <1000000000):Rv 199 ls ps (jT ls ps RW):=by
 have rq:∀x,wZ RW x=[]∨∃q∈RW,wZ RW x=q.2.2:=λx=>by
  unfold wZ
  cases e:RW.find? λq=>decide (q.1=x) with
  | none=>exact .inl rfl
  | some q=>exact .inr ⟨q,List.mem_of_find?_eq_some e,rfl⟩
 refine⟨λl h v hv=>?_,λp hp h0 v hv=>?_,λp hp h0=>Nat.zero_le _,λl h=>?_,λp hp h0=>?_⟩
 ·have e:(jT ls ps RW).ev l.name=l.first:=yG F.whole.nod h
  rw [e] at hv
  exact(F.lok l h).2.2.2 v hv
 ·rcases rq p.name with e | ⟨q,hq,e⟩
  ·rw [show(jT ls ps RW).r p.name=[] from e] at hv
   cases hv
  ·rw [show(jT ls ps RW).r p.name=q.2.2 from e] at hv
   exact hb q hq v hv
 ·have e:(jT ls ps RW).ev l.name=l.first:=yG F.whole.nod h
  rw [e]
  have:=F.lok l h
  omega
 ·rcases rq p.name with e | ⟨q,hq,e⟩
  ·rw [show(jT ls ps RW).r p.name=[] from e]
   exact Nat.zero_le _
  ·rw [show(jT ls ps RW).r p.name=q.2.2 from e]
   exact hl q hq
inductive zE (K:PySem.W.Frag) (t:jw) (vs:List V) (H:Hp) (Q:VK) (E:XK):Prop where
 | mk:∀(n rw:Addr) (ls:List aF) (ps:List PD) (RW:List (Str×Addr×List Int)),vs=[.ref n,.ref rw]->gJ K t H n ls ps->qm H rw RW->Nx ps RW->(∀H',aO H H'->Q .non H')->zE K t vs H Q E
theorem Iu (T:Txt w K mg t):FO P w K mg base 4 t.BP ["net", "rows"] (zE K t):=by
 have sc:=T.uI.sc ["net", "rows", "doors", "door"]
 refine T.uI.F.ok sc ln (λ_ _ _ _ H vs Q E hr h=>?_)
 obtain⟨n,rw,ls,ps,RW,rfl,N,hrw,hO,k⟩:=h
 refine⟨_,(ao (sN sc 2 (Nz (pv 0) T.aR T.aR.me.2.2.2.2.2.1 (tH T) T.lA hr))
  (ao (rD (H0:=H) rfl (cX PassesOwn.never rfl (tY (pv 1)) (gN sc 3)
   (au (b7 (bD gA (pv 3) (pv 2) (by with_unfolding_all rfl))
    (au cH)
    bu))))
  (au (rD (H0:=H) rfl (cX PassesOwn.never rfl (tY (pv 1)) (gN sc 3)
   (au (b7 (jj (lW (jd (QG T) T.DW hr (aa (bM hr.u1 (pv 1) (pv 3) (λ_ _=>rfl)) aq aH))))
    (au cH)
    bu))))))),?_⟩
 have hz:sizeLine=16777216:=sizeLine_eq
 obtain⟨dxn,fsn,R,F,Pd,Gn,Tk,FL,PL,Wn⟩:=id N
 refine⟨_,rfl,n,dxn,fsn,rfl,Wn.obj,Wn.fl.no _ (by decide +kernel),n,ls,ps,rfl,N,λl nl=>?_⟩
 have s1:=az (o:=.lst (fc ps "give")) nl
 have el:upd H l (.lst (fc ps "give")) l=some (.lst (fc ps "give")):=ak
 generalize upd H l (.lst (fc ps "give"))=H1 at s1 el ⊢
 have fl:(fc ps "give").all lD=true:=by
  rw [List.all_eq_true]
  intro v hv
  obtain⟨p,_,rfl⟩:=List.mem_map.mp hv
  rfl
 have w1:=hrw.same s1
 have nf:∀(o':Obj) (u':HO),H rw≠some (.frz o' u'):=λo' u' z=>by rw [hrw.dict] at z;cases z
 refine⟨_,rfl,rw,_,rfl,w1.dict,λo=>qM (λj σ H'=>H'=upd H1 rw (.frz o (.dK (vQ RW)))/\∃v3,σ=[some (.ref n),some (.ref rw),some (.ref l),v3]) ⟨rfl,none,rfl⟩ (λj σ H' _ ⟨e,_⟩=>by rw [e];exact ak) ?_ ?_⟩
 ·rintro j kk v σ H' hj ⟨rfl,v3,rfl⟩
  unfold vQ at hj
  rw [List.getElem?_map] at hj
  obtain⟨q,hq,e⟩:=Option.map_eq_some_iff.mp hj
  cases e
  refine⟨_,rfl,_,rfl,l,_,rfl,.inl (bI.of (gP w1.dict el (by intro _ z;cases z))),rfl,fl,_,rfl,?_⟩
  have hin:inV (kV (Sum.inr q.1)) (fc ps "give")=true:=U7 (hO.door q (List.mem_of_getElem? hq)) (by simp [J8,kV])
  rw [hin]
  exact dq ⟨rfl,_,rfl⟩
 rintro σ H' ⟨rfl,v3,rfl⟩
 refine⟨_,⟨rw,o,_,ak,nf,rfl⟩,?_⟩
 rw [kI,Ir w1.dict]
 refine⟨_,rfl,rw,_,rfl,w1.dict,λo=>qM (λj σ H'=>aO (upd H1 rw (.frz o (.dK (vQ RW)))) H'/\∃v3,σ=[some (.ref n),some (.ref rw),some (.ref l),v3]) ⟨aO.refl _,v3,rfl⟩ (λj σ H' _ ⟨e,_⟩=>e _ _ ak) ?_ ?_⟩
 ·rintro j kk v σ H' hj ⟨s2,v3,rfl⟩
  unfold vQ at hj
  rw [List.getElem?_map] at hj
  obtain⟨q,hq,e⟩:=Option.map_eq_some_iff.mp hj
  cases e
  have hm:=List.mem_of_getElem? hq
  have vq:bW (vQ RW) (Sum.inr q.1)=some (.ref q.2.1):=iz (by rw [yh];exact gm hrw.nd) (List.mem_map.mpr ⟨q,hm,rfl⟩)
  have eq2:=s2 _ _ (gP w1.dict (w1.lists q hm) (by intro _ z;cases z))
  refine⟨_,rfl,_,rfl,rw,_,rfl,(by rw [<-vq];exact .inl ⟨_,Sum.inr q.1,.inr ⟨o,s2 _ _ ak⟩,rfl,rfl⟩),q.2.1,q.2.2,rfl,bI.of eq2,hrw.len q hm,hO.bnd q hm,λH3 s3=>⟨_,rfl,dq ⟨s2.trans s3,_,rfl⟩⟩⟩
 rintro σ H' ⟨s2,v3,rfl⟩
 refine⟨_,⟨rw,o,_,s2 _ _ ak,nf,rfl⟩,?_⟩
 refine k _ λb u e=>?_
 by_cases hb:b=rw
 ·subst hb
  rw [ak]
  rw [hrw.dict] at e
  exact e
 ·rw [aJ hb]
  exact s2 _ _ (by rw [aJ hb];exact s1 _ _ e)
theorem Va {H:Hp} {Q:VK} {Ex:XK} {H0:Hp} {f dx n rw:Addr} {ls:List aF} {ps:List PD} {RW:List (Str×Addr×List Int)} (hf:H f=some (.ins t.bU dx [])) (s0:aO H0 H) (nf:H0 f=none) (N:gJ K t H0 n ls ps) (hrw:qm H0 rw RW)
  (k:∀(H':Hp) (A:qK),A.f=f->A.n=n->jK f H H'->fj K t H' A ls ps (jT ls ps RW)->(∀a∈A.cells ls ps,H a=none)->Q .non H'):fZ K t [.ref f,.ref n,.ref rw] H Q Ex:=by
 unfold fZ
 exact⟨H0,f,dx,n,rw,ls,ps,RW,rfl,hf,s0,nf,N,hrw,k⟩
inductive rB (K:PySem.W.Frag) (t:jw) (vs:List V) (H:Hp) (Q:VK):Prop where
 | mk:∀(H0:Hp) (r dx n rw:Addr) (ls:List aF) (ps:List PD) (RW:List (Str×Addr×List Int)),vs=[.ref r,.ref n,.ref rw]->H r=some (.ins t.ou dx [])->aO H0 H->H0 r=none->gJ K t H0 n ls ps->qm H0 rw RW->Nx ps RW->(∀H' A,A.n=n->aO H0 H'->w5 K t H' r 0 A ls ps (jT ls ps RW)->(∀a∈A.cells ls ps,H0 a=none)->Q .non H')->rB K t vs H Q
@[irreducible] noncomputable def gM (K:PySem.W.Frag) (t:jw):Sp:=λvs H Q _=>rB K t vs H Q
theorem Cv (T:Txt w K mg t):FO P w K mg base 6 t.oH ["self", "net", "rows"] (gM K t):=by
 have sc:=T.jJ.sc ["self", "net", "rows"]
 refine T.jJ.F.ok sc (λvs H Q E h=>?_) (λcdv A outer s H vs Q E hr h=>?_)
 ·unfold gM at h
  obtain⟨H0,r,dx,n,rw,ls,ps,RW,rfl,_⟩:=h
  rfl
 ·unfold gM at h
  obtain⟨H0,r,dx,n,rw,ls,ps,RW,rfl,hr1,s0,nr0,N,hrw,hO,k⟩:=h
  refine⟨_,(ao (dh (jd (Iu T) T.uI hr (aa (pv 1) (aa (pv 2) aq aj) aj)))
   (ao (gU (pv 0) (pv 1) rfl)
   (ao (gU (pv 0) (gZ (T.aV.M T.je) (zY T) (hr.mono (by decide)) (by rfl) T.aV.m T.je.b .nil gB (aa (pv 1) (aa (pv 2) aq aj) aj)) rfl)
   (au (gU (pv 0) aB rfl))))),?_⟩
  refine⟨_,rfl,_,rfl,n,rw,ls,ps,RW,rfl,N.same s0,hrw.same s0,hO,λH1 s1=>?_⟩
  have T0:=(Tr.start hr1).same s1
  refine⟨_,rfl,_,rfl,r,_,dx,[],rfl,s1 _ _ hr1,T.dF.c,T.dF.na.1,by show 0 <1000;decide,?_⟩
  have T1:=T0.put (L1:=[]) (L2:=[]) (o':=.ins t.ou dx (aD "net" (.ref n) []))
  generalize upd H1 r (.ins t.ou dx (aD "net" (.ref n) []))=H2 at T1 ⊢
  have s02:aO H0 H2:=λx o e=>T1.but x o (aC e nr0) (s0 x o e)
  have er2:=T1.all (r,.ins t.ou dx (aD "net" (.ref n) [])) (.head _)
  refine⟨_,rfl,_,rfl,λf dxf nf ndf nef=>?_⟩
  have s3:aO H2 (upd (upd H2 dxf (.own f)) f (.ins t.bU dxf [])):=λb o e=>by rw [aJ (aC e nf),aJ (aC e ndf)];exact e
  have ef:(upd (upd H2 dxf (.own f)) f (.ins t.bU dxf [])) f=some (.ins t.bU dxf []):=ak
  generalize upd (upd H2 dxf (.own f)) f (.ins t.bU dxf [])=H3 at s3 ef ⊢
  have s03:=s02.trans s3
  have nfr:r≠f:=aC er2 nf
  refine Va ef s03 (s02.free nf) N hrw λH4 A eAf eAn b4 W4 fr4=>⟨rfl,?_⟩
  subst eAf
  subst eAn
  have er4:=b4 r _ nfr (s3 _ _ er2)
  have nrc:r∉A.cells ls ps:=W4.ncell er4 (by intro _ z;cases z) (by intro _ z;cases z)
  refine⟨_,rfl,r,_,dx,_,rfl,er4,T.dF.c,T.dF.na.2.1,Nat.lt_of_le_of_lt (gH (Nat.zero_le 0)) (by decide),?_⟩
  have er5:upd H4 r (.ins t.ou dx (aD "flow" (.ref A.f) (aD "net" (.ref A.n) []))) r=some (.ins t.ou dx (aD "flow" (.ref A.f) (aD "net" (.ref A.n) []))):=ak
  refine⟨_,rfl,r,_,dx,_,rfl,er5,T.dF.c,T.dF.na.2.2.1,Nat.lt_of_le_of_lt (gH (gH (Nat.zero_le 0))) (by decide),?_⟩
  rw [kI]
  have s05:∀o:HO,aO H0 (upd H4 r o):=λo b u e=>by
   rw [aJ (aC e nr0)]
   exact b4 b u (aC e (s02.free nf)) (s03 b u e)
  have fr0:∀a∈A.cells ls ps,H0 a=none:=λa ha=>s03.free (fr4 a ha)
  refine k _ A rfl (s05 _) ⟨⟨dx,_,⟨ak,gH (gH (gH (Nat.zero_le 0)))⟩,⟨?_,?_⟩⟩,N.same λb u e=>?_,W4.ins nrc nfr,nfr⟩ fr0
  ·intro q hq
   simp only [List.mem_cons,List.not_mem_nil,or_false] at hq
   rcases hq with rfl | rfl | rfl
   ·dsimp only;(repeat first | (rw [aA,if_pos rfl];done) | rw [aA,if_neg (by decide +kernel)])
   ·dsimp only;(repeat first | (rw [aA,if_pos rfl];done) | rw [aA,if_neg (by decide +kernel)])
   ·dsimp only
    rw [aA,if_pos rfl]
    rfl
  ·intro m hm
   have hne:∀m∈(["step", "need_doors", "next_deed", "full_lane", "can_work", "works", "lane_now", "turn"]:List Str),∀g∈(["turns", "flow", "net"]:List Str),¬m=g:=by decide +kernel
   have h:=hne m hm
   rw [aA,if_neg (h _ (by simp)),aA,if_neg (h _ (by simp)),aA,if_neg (h _ (by simp))]
   rfl
  ·have hn:b∉r:: A.cells ls ps:=λz=>by
    rcases List.mem_cons.mp z with z | z
    ·rw [z,nr0] at e;cases e
    ·rw [fr0 b z] at e;cases e
   unfold bf
   rw [if_neg hn]
   exact s05 _ b u e
theorem ZX {a N:Int} (h0:1<=N) (h1:N<=400):O6 a N:=⟨by omega,by have:=Nat.log2_le_self N.natAbs;omega⟩
noncomputable def few (top bot t n:Int):Int:=if (n * top - 1 - t) / bot+1 >0 then(n * top - 1 - t) / bot+1 else 0
noncomputable def Bh (tot many a n:Int):Int:=if n=0 then 0 else tot * ((n+many - 1) / many)+a
structure Ri (H:Hp) (Y R D1 D2:Addr) (p q:Int) (as:List AA) (tm lt:List (Str×Int)) (x:Str) (v u:Int):Prop where
 tup:H Y=some (.tup [.int p,.int q,.ref R,.ref D1,.ref D2])
 arcs:fU H R as
 e1:H D1=some (.dK (fC V.int tm))
 e2:H D2=some (.dK (fC V.int lt))
 q1:1<=q
 q2:q<=16
 l1:1<=as.length
 l2:as.length<=16
 tk:Lh as
 t0:0<=dZ as
 t1:dZ as<=16
 hv:cB tm x=some v
 hu:cB lt x=some u
 len:tm.length<=16
theorem Ri.same {H H':Hp} {Y R D1 D2:Addr} {p q:Int} {as:List AA} {tm lt:List (Str×Int)} {x:Str} {v u:Int} (h:Ri H Y R D1 D2 p q as tm lt x v u) (s:aO H H'):Ri H' Y R D1 D2 p q as tm lt x v u:=⟨s _ _ h.tup,h.arcs.same s,s _ _ h.e1,s _ _ h.e2,h.q1,h.q2,h.l1,h.l2,h.tk,h.t0,h.t1,h.hv,h.hu,h.len⟩
inductive uo (K:PySem.W.Frag) (vs:List V) (H:Hp) (Q:VK) (E:XK):Prop where
 | mk:∀(Y R D1 D2:Addr) (p q:Int) (as:List AA) (tm lt:List (Str×Int)) (x:Str) (n:Nat) (v u:Int),vs=[.ref Y,.str x,.int (n:Nat)]->Ri H Y R D1 D2 p q as tm lt x v u->n<=300->Q (.int (few p q v n)) H->uo K vs H Q E
theorem Cm (T:Txt w K mg t):FO P w K mg base 1 t.wk ["paper", "part", "turns"] (uo K):=by
 have sc:=T.oR.sc ["paper", "part", "turns"]
 refine T.oR.F.ok sc ln (λ_ _ _ _ H vs Q E hr h=>?_)
 obtain⟨Y,R,D1,D2,p,q,as,tm,lt,x,n,v,u,rfl,W,hn,k⟩:=h
 refine⟨_,(au (aQ (bx (Hz rfl) (by rfl) T.Sd Ni (aa aB (aa (bB fu (bB qX (bB yt (bB yt (bB gW (pv 2) (aU aY (pv 0) aB (λ_ _=>rfl))) aB) (bM hr.u1 (aU aY (pv 0) aB (λ_ _=>rfl)) (pv 1) (λ_ _=>rfl))) (aU aY (pv 0) aB (λ_ _=>rfl))) aB) aq bZ) aK)))),?_⟩
 have q1:=W.q1
 have q2:=W.q2
 have g1:=jg W.e1 x
 rw [W.hv] at g1
 exact⟨_,rfl,_,rfl,Y,_,0,_,rfl,rfl,cP.of W.tup,aM (j:=0) rfl,_,_,rfl,rfl,.of_left (intBits_le_64 (by omega) (by omega)),_,_,rfl,rfl,_,rfl,Y,_,3,_,rfl,rfl,cP.of W.tup,aM (j:=3) rfl,_,rfl,D1,_,rfl,g1,_,_,rfl,rfl,_,rfl,Y,_,1,_,rfl,rfl,cP.of W.tup,aM (j:=1) rfl,_,_,rfl,rfl,ZX (by omega) (by omega),_,_,rfl,rfl,_,_,rfl,k⟩
inductive xm (K:PySem.W.Frag) (vs:List V) (H:Hp) (Q:VK) (E:XK):Prop where
 | mk:∀(Y R D1 D2:Addr) (p q:Int) (as:List AA) (tm lt:List (Str×Int)) (x:Str) (n:Nat) (v u:Int),vs=[.ref Y,.str x,.int (n:Nat)]->Ri H Y R D1 D2 p q as tm lt x v u->n<=300->(∀H',aO H H'->Q (.int (Bh (dZ as) as.length u n)) H')->xm K vs H Q E
theorem Gm (T:Txt w K mg t):FO P w K mg base 2 t.zP ["paper", "part", "turns"] (xm K):=by
 have sc:=T.tZ.sc ["paper", "part", "turns", "arcs"]
 refine T.tZ.F.ok sc ln (λ_ _ _ _ H vs Q E hr h=>?_)
 obtain⟨Y,R,D1,D2,p,q,as,tm,lt,x,n,v,u,rfl,W,hn,k⟩:=h
 refine⟨_,(ao (b7 (bD jO (pv 2) aB (cz _))
   (au (aQ aB))
   bu)
  (ao (sN sc 3 (bx b8 (by rfl) T.iy eQ (aa (aU aY (pv 0) aB (λ_ _=>rfl)) aq aH)))
  (au (aQ (bB fu (bB gW (jd (zU T) T.pK hr (aa (aU aY (pv 0) aB (λ_ _=>rfl)) aq aH)) (bB qX (bB yt (bB fu (pv 2) (pv 3)) aB) (pv 3))) (bM hr.u1 (aU aY (pv 0) aB (λ_ _=>rfl)) (pv 1) (λ_ _=>rfl))))))),?_⟩
 have l1:=W.l1
 have l2:=W.l2
 have t0:=W.t0
 have t1:=W.t1
 refine⟨_,rfl,rfl,_,rfl,uB (λh=>?_) (λh=>?_)⟩
 ·have h':(n:Int)=0:=by have:=of_decide_eq_true h;injection this
  have z:Bh (dZ as) as.length u n=0:=by unfold Bh;rw [if_pos h']
  have:=k _ (aO.refl _)
  rw [z] at this
  exact this
 have h':¬(n:Int)=0:=λz=>h (by rw [z];exact decide_eq_true rfl)
 refine⟨_,rfl,Y,_,2,_,rfl,rfl,cP.of W.tup,aM (j:=2) rfl,.ref R,as.length,rfl,.inl ⟨_,bI.of W.arcs.lst,by simp⟩,?_⟩
 refine⟨_,rfl,Y,_,2,_,rfl,rfl,cP.of W.tup,aM (j:=2) rfl,R,as,rfl,W.arcs,W.tk,λH' s1=>?_⟩
 have W1:=W.same s1
 have g2:=jg W1.e2 x
 rw [W1.hu] at g2
 refine⟨_,rfl,_,rfl,_,_,rfl,rfl,_,_,rfl,rfl,_,rfl,_,_,rfl,rfl,ZX (by omega) (by omega),_,_,rfl,rfl,.of_left (intBits_le_64 (by omega) (by omega)),_,rfl,Y,_,4,_,rfl,rfl,cP.of W1.tup,aM (j:=4) rfl,_,rfl,D2,_,rfl,g2,_,_,rfl,rfl,?_⟩
 have:=k _ s1
 unfold Bh at this
 rw [if_neg h'] at this
 exact this
theorem Ug (tm:List (Str×Int)):(fC V.int tm).map (λq=>kV q.1)=(tm.map (·.1)).map V.str:=by
 unfold fC
 rw [List.map_map,List.map_map]
 rfl
inductive Hd (K:PySem.W.Frag) (vs:List V) (H:Hp) (Q:VK) (E:XK):Prop where
 | mk:∀(Y R D1 D2:Addr) (p q:Int) (as:List AA) (tm lt:List (Str×Int)) (x:Str) (n:Nat) (v u:Int),vs=[.ref Y,.str x,.int (n:Nat)]->Ri H Y R D1 D2 p q as tm lt x v u->n<=300->(∀H' r,aO H H'->H' r=some (.tup [.int (few p q v n),.int (Bh (dZ as) as.length u n)])->Q (.ref r) H')->Hd K vs H Q E
theorem Ra (T:Txt w K mg t):FO P w K mg base 3 t.Kc ["paper", "part", "turns"] (Hd K):=by
 have sc:=T.Et.sc ["paper", "part", "turns"]
 refine T.Et.F.ok sc ln (λ_ _ _ _ H vs Q E hr h=>?_)
 obtain⟨Y,R,D1,D2,p,q,as,tm,lt,x,n,v,u,rfl,W,hn,k⟩:=h
 refine⟨_,(ao (b7 (bD gA (pv 1) (dC (jx rfl) (by rfl) T.uY pC (aa (aU aY (pv 0) aB (λ_ _=>rfl)) aq aH)) (by with_unfolding_all rfl))
   (au cH)
   bu)
  (ao (b7 (PW.pt (xn (jj (lW (jd (wg T) T.oN hr (aa (pv 2) aq aj)))) (qg (jj (qR pW pW aB (pv 2) (iC (by rfl) T.Im))))))
   (au cH)
   bu)
  (au (aQ (bL (aa (jd (Cm T) T.oR hr (aa (pv 0) (aa (pv 1) (aa (pv 2) aq aj) aj) aj)) (aa (jd (Gm T) T.tZ hr (aa (pv 0) (aa (pv 1) (aa (pv 2) aq aj) aj) aj)) aq bz) bz)))))),?_⟩
 have hz:sizeLine=16777216:=sizeLine_eq
 have ln:=W.len
 refine⟨_,rfl,_,rfl,Y,_,3,_,rfl,rfl,cP.of W.tup,aM (j:=3) rfl,D1,_,rfl,.inl W.e1,λl nl=>?_⟩
 rw [Ug]
 have sl:=az (o:=.lst ((tm.map (·.1)).map V.str)) nl
 refine⟨l,_,rfl,.inl (bI.of ak),rfl,nj _,_,rfl,?_⟩
 have hx:x∈tm.map (·.1):=jA.mp (by rw [W.hv];rfl)
 rw [wB,decide_eq_true hx]
 refine dq ?_
 have W1:=W.same sl
 generalize upd H l (.lst ((tm.map (·.1)).map V.str))=H1 at sl W1 ⊢
 refine⟨_,rfl,.int (n:Nat), "int",true,rfl,rfl,by decide,by decide,true,rfl,dq ?_⟩
 refine⟨_,rfl,_,_,rfl,rfl,_,rfl,rG (by show(0:Int)<=(n:Int);omega) ?_⟩
 refine⟨_,_,rfl,rfl,_,rfl,?_⟩
 rw [show decide ((n:Int)<=300)=true from decide_eq_true (by omega)]
 refine dq ?_
 refine⟨_,rfl,_,rfl,_,rfl,Y,R,D1,D2,p,q,as,tm,lt,x,n,v,u,rfl,W1,hn,?_⟩
 refine⟨_,rfl,_,rfl,_,rfl,Y,R,D1,D2,p,q,as,tm,lt,x,n,v,u,rfl,W1,hn,λH' s'=>⟨rJ,λr nr=>?_⟩⟩
 exact k _ r (sl.trans (s'.trans (az nr))) ak
noncomputable def dJ (f:Nat->Int):Nat->Int
 | 0=>0
 | n+1=>dJ f n+f n
theorem CP {f g:Nat->Int}:∀{m:Nat},(∀k,k <m->f k<=g k)->dJ f m<=dJ g m
 | 0,_=>Int.le_refl _
 | m+1,h=>by
  have:=CP (m:=m) λk hk=>h k (by omega)
  have:=h m (by omega)
  show dJ f m+f m<=dJ g m+g m
  omega
theorem uW (p q:Int) (f:Nat->Int):∀m:Nat,dJ (λk=>p - q * f k) m=(m:Int) * p - q * dJ f m
 | 0=>by show(0:Int)=_ - q * 0;simp
 | m+1=>by
  show dJ _ m+(p - q * f m)=((m+1:Nat):Int) * p - q * (dJ f m+f m)
  rw [uW p q f m,Int.natCast_succ,Int.add_mul,Int.mul_add,Int.one_mul]
  omega
theorem Dz (f g:Nat->Int):∀m:Nat,dJ (λk=>f k+g k) m=dJ f m+dJ g m
 | 0=>rfl
 | m+1=>by show dJ (λk=>f k+g k) m+(f m+g m)=dJ f m+f m+(dJ g m+g m);rw [Dz f g m];omega
theorem rH (f:Nat->Int):∀m:Nat,dJ f m=((List.range m).map f).sum
 | 0=>rfl
 | m+1=>by rw [List.range_succ,List.map_append,List.sum_append,List.map_singleton,List.sum_singleton,<-rH f m];rfl
theorem Ry {l m:List Int} (h:l.Perm m):l.sum=m.sum:=by
 induction h with
 | nil=>rfl
 | cons _ _ ih=>rw [List.sum_cons,List.sum_cons,ih]
 | swap a b l=>rw [List.sum_cons,List.sum_cons,List.sum_cons,List.sum_cons];omega
 | trans _ _ h1 h2=>exact h1.trans h2
theorem Ro {f:Nat->Int} {g:Nat->Nat} {m:Nat} (h:((List.range m).map g).Perm (List.range m)):dJ (λk=>f (g k)) m=dJ f m:=by
 rw [rH,rH,<-Ry (h.map f),List.map_map]
 rfl
theorem between {lo hi:Nat->Int}:∀{m:Nat} {c:Int},(∀k,k <m->lo k<=hi k)->dJ lo m<=c->c<=dJ hi m->∃e:Nat->Int,(∀k,k <m->lo k<=e k/\e k<=hi k)/\dJ e m=c
 | 0,c,_,h1,h2=>⟨λ_=>0,λk hk=>absurd hk (by omega),by have h1:(0:Int)<=c:=h1;have h2:c<=(0:Int):=h2;show(0:Int)=c;omega⟩
 | m+1,c,h,h1,h2=>by
  have h1:dJ lo m+lo m<=c:=h1
  have h2:c<=dJ hi m+hi m:=h2
  have hm:=h m (by omega)
  have hs:=CP (m:=m) λk hk=>h k (by omega)
  obtain⟨x,x1,x2,x3,x4⟩:∃x:Int,lo m<=x/\x<=hi m/\dJ lo m<=c - x/\c - x<=dJ hi m:=by
   by_cases hz:lo m<=c - dJ hi m
   ·exact⟨c - dJ hi m,by omega,by omega,by omega,by omega⟩
   ·exact⟨lo m,by omega,by omega,by omega,by omega⟩
  obtain⟨e,e1,e2⟩:=between (m:=m) (c:=c - x) (λk hk=>h k (by omega)) x3 x4
  refine⟨λk=>if k=m then x else e k,λk hk=>?_,?_⟩
  ·dsimp only
   split
   ·rename_i z;rw [z];exact⟨x1,x2⟩
   ·exact e1 k (by omega)
  ·have same:∀n,n<=m->dJ (λk=>if k=m then x else e k) n=dJ e n:=λn=>by
    induction n with
    | zero=>exact λ_=>rfl
    | succ n ih=>
     intro hn
     show dJ _ n+(if n=m then x else e n)=dJ e n+e n
     rw [ih (by omega),if_neg (by omega)]
   show dJ _ m+(if m=m then x else e m)=c
   rw [same m (Nat.le_refl _),if_pos rfl,e2]
   omega
theorem V4 {cs:List iM} (hc:QR cs) (f:Str->Int):(cs.map λa=>f a.fr).sum=(cs.map λa=>f a.to).sum:=by
 rcases List.eq_nil_or_concat cs with rfl | ⟨l,b,rfl⟩
 ·rfl
 have e:((l.concat b).map λa=>f a.fr)=f b.to:: l.map λa=>f a.to:=by
  refine List.ext_getElem? λi=>?_
  rw [List.getElem?_map]
  cases hi:(l.concat b)[i]? with
  | none=>
   rw [List.concat_eq_append] at hi
   have:=List.getElem?_eq_none_iff.mp hi
   rw [List.getElem?_eq_none (by rw [List.length_cons,lM];rw [lP,List.length_singleton] at this;omega)]
   rfl
  | some a=>
   obtain⟨a',ha',e⟩:=hc i a hi
   rw [List.concat_eq_append] at ha' hi
   have hl:=(List.getElem?_eq_some_iff.mp hi).1
   rw [lP,List.length_singleton] at ha' hl
   rw [Option.map_some,e]
   cases i with
   | zero=>
    rw [if_pos rfl,Nat.add_sub_cancel,List.getElem?_append_right (Nat.le_refl _),Nat.sub_self] at ha'
    have:b=a':=by simpa using ha'
    rw [this]
    rfl
   | succ i=>
    rw [if_neg (by omega),Nat.add_sub_cancel,List.getElem?_append_left (by omega)] at ha'
    rw [List.getElem?_cons_succ,List.getElem?_map,ha']
    rfl
 rw [e,List.concat_eq_append,List.map_append,List.sum_append,List.sum_cons,List.map_singleton,List.sum_singleton,Int.add_comm]
theorem Tf {cs:List iM} (hc:QR cs) {f:Str->Int} {p q:Int} (h:∀a∈cs,f a.fr+(p - q * a.tk)<=f a.to):(cs.length:Int) * p<=q * (cs.map (·.tk)).sum:=by
 have e:=V4 hc f
 have key:∀l:List iM,(∀a∈l,f a.fr+(p - q * a.tk)<=f a.to)->(l.map λa=>f a.fr).sum+((l.length:Int) * p - q * (l.map (·.tk)).sum)<=(l.map λa=>f a.to).sum:=λl=>by
  induction l with
  | nil=>intro _;simp
  | cons a r ih=>
   intro h
   have h1:=ih λb hb=>h b (List.mem_cons_of_mem _ hb)
   have h2:=h a List.mem_cons_self
   rw [List.map_cons,List.map_cons,List.map_cons,List.sum_cons,List.sum_cons,List.sum_cons,List.length_cons,Int.natCast_succ,Int.add_mul,Int.mul_add,Int.one_mul]
   omega
 have:=key cs h
 omega
noncomputable def pr (m k:Nat):Nat:=(k+(m - 1)) % m
theorem Y9:(List.range 13).all (λm=>decide (((List.range m).map (pr m)).Perm (List.range m)) && decide (((List.range m).map λk=>(k+1) % m).Perm (List.range m)))=true:=by decide +kernel
theorem Pb {m:Nat} (h:m <13):((List.range m).map (pr m)).Perm (List.range m)/\((List.range m).map λk=>(k+1) % m).Perm (List.range m):=by
 have:=List.all_eq_true.mp Y9 m (List.mem_range.mpr h)
 rw [Bool.and_eq_true] at this
 exact⟨of_decide_eq_true this.1,of_decide_eq_true this.2⟩
theorem IK {m:Nat} (h:0 <m):pr m 0=m - 1:=by unfold pr;rw [Nat.zero_add,Nat.mod_eq_of_lt (by omega)]
theorem JM {m k:Nat} (h:k+1 <m):pr m (k+1)=k:=by unfold pr;rw [show k+1+(m - 1)=k+m by omega,Nat.add_mod_right,Nat.mod_eq_of_lt (by omega)]
theorem Xz {m k:Nat} (h:0 <m):pr m k <m:=Nat.mod_lt _ h
theorem Wj {m k:Nat} (h:k <m):(pr m k+1) % m=k:=by
 cases k with
 | zero=>rw [IK h,show m - 1+1=m by omega,Nat.mod_self]
 | succ k=>rw [JM h,Nat.mod_eq_of_lt h]
theorem Ha {n:Int} (h0:0<=n) (h1:n <2000):n.natAbs.log2 <1920:=by
 by_cases z:n.natAbs=0
 ·rw [z]
  decide
 ·have:n.natAbs.log2 <11:=(Nat.log2_lt z).mpr (by omega)
  omega
theorem Sw (xs:List V) (g:Nat):Dl xs none (some (g:Int))=xs.take g:=by
 unfold Dl
 rw [HT.KN,HT.CJ,List.drop_zero,Nat.sub_zero]
 rcases Nat.le_total g xs.length with h | h
 ·rw [Nat.min_eq_left h]
 ·rw [Nat.min_eq_right h,List.take_of_length_le h,List.take_of_length_le (Nat.le_refl _)]
noncomputable def aN (k:Nat):Str:=("a" :Str) ++ (toString (Int.ofNat k):Str)
noncomputable def bN (k:Nat):Str:=("b" :Str) ++ (toString (Int.ofNat k):Str)
noncomputable def rP (m k:Nat):PD:=⟨2,aN k,[],[bN k],[bN ((k+1) % m)]⟩
structure Z4 (ls:List aF) (ps:List PD):Prop where
 ex:∃(m i:Nat) (rm:Nat->Int) (fs:Nat->List Int),1<=m/\m<=12/\i <m/\ls=(List.range m).map (λk=>⟨bN k,rm k,fs k⟩)/\ps=((List.range m).map (rP m)).drop i ++ ((List.range m).map (rP m)).take i/\∀k,k <m->1<=rm k/\rm k<=9/\((fs k).length:Int)<=rm k/\∀v∈fs k,0<=v/\v <1000000000
theorem Rj:(List.range 13).all (λi=>decide ((toString (Int.ofNat i):Str).length<=10))=true:=by decide +kernel
theorem wK {k:Nat} (h:k <13) {x:Str} (hx:x.length<=10):x.length+(toString (Int.ofNat k):Str).length<=sizeLine:=by
 have:=of_decide_eq_true (List.all_eq_true.mp Rj k (List.mem_range.mpr h))
 have hz:sizeLine=16777216:=sizeLine_eq
 omega
noncomputable def WM (c0:Int):Int:=if du c0 1 % 4=3 then 2 else 9
noncomputable def Gd (c0 c1:Int) (k:Nat):Int:=1+du c1 k / 10 % WM c0
noncomputable def QK (c0 c1 c2:Int) (k:Nat):List Int:=(List.range (du c1 k / 1000 % (Gd c0 c1 k+1)).toNat).map fun(j:Nat)=>du c2 (20+(j:Int)) % 1000000000
theorem aaB (c0:Int):Rp [V.int 9,V.int 9,V.int 9,V.int 2] (du c0 1 % 4)=some (V.int (WM c0)):=by
 have h0:=Int.emod_nonneg (du c0 1) (show(4:Int)≠0 by decide)
 have h1:=Int.emod_lt_of_pos (du c0 1) (show(0:Int) <4 by decide)
 unfold WM
 generalize du c0 1 % 4=z at h0 h1
 have:z=0∨z=1∨z=2∨z=3:=by omega
 rcases this with rfl | rfl | rfl | rfl <;> rfl
theorem Ul (c0:Int):0 <WM c0/\WM c0<=9:=by unfold WM;split <;> omega
theorem Qh (c0 c1:Int) (k:Nat):1<=Gd c0 c1 k/\Gd c0 c1 k<=9:=by
 obtain⟨h1,h2⟩:=Ul c0
 have h3:=Int.emod_nonneg (du c1 k / 10) (show WM c0≠0 by omega)
 have h4:=Int.emod_lt_of_pos (du c1 k / 10) h1
 unfold Gd
 omega
theorem aaw (c0 c1 c2:Int) (k:Nat):((QK c0 c1 c2 k).length:Int)<=Gd c0 c1 k/\∀v∈QK c0 c1 c2 k,0<=v/\v <1000000000:=by
 obtain⟨h1,h2⟩:=Qh c0 c1 k
 have h3:=Int.emod_nonneg (du c1 k / 1000) (show Gd c0 c1 k+1≠0 by omega)
 have h4:=Int.emod_lt_of_pos (du c1 k / 1000) (show 0 <Gd c0 c1 k+1 by omega)
 unfold QK
 refine⟨by rw [lM,List.length_range];omega,λv hv=>?_⟩
 obtain⟨j,_,rfl⟩:=List.mem_map.mp hv
 exact⟨Int.emod_nonneg _ (by decide),Int.emod_lt_of_pos _ (by decide)⟩
inductive zr (K:PySem.W.Frag) (vs:List V) (H:Hp) (Q:VK) (E:XK):Prop where
 | mk:∀(a:Addr) (ns:List Int),vs=[.ref a]->bI K H a (ns.map V.int)->(∀T L P ls ps H',aO H H'->H' T=some (.tup [.ref L,.ref P])->DN H' L P ls ps->Z4 ls ps->Q (.ref T) H')->zr K vs H Q E
noncomputable abbrev BZ:List Str:=["_law_script", "_law_cell_here", "_law_many", "_law_lanes", "_law_parts", "_law_k", "_law_number", "_law_room", "_law_many_first", "_law_values", "_law_at"]
theorem JV (T:Txt w K mg t):FO P w K mg base 2 t.BX ["_law_script"] (zr K):=by
 have sc:=T.vh.sc BZ
 refine T.vh.F.ok sc ln (λ_ _ _ _ H vs Q E hr h=>?_)
 obtain⟨a,ns,rfl,hS,k⟩:=h
 refine⟨_,(ao (sN sc 1 (jd (rM T) T.kW hr (aa (pv 0) (aa aB aq aK) aj)))
  (ao (sN sc 2 (bB fu aB (bB jo (jd (lu T) T.jq hr (aa (pv 1) (aa aB aq aK) aj)) aB)))
  (ao (sN sc 3 (dm aq))
  (ao (sN sc 4 (dm aq))
  (ao (cX PassesOwn.never rfl (qO rfl T.wM (aa (pv 2) aq aj)) (gN sc 5)
   (ao (sN sc 6 (jd (lu T) T.jq hr (aa (jd (rM T) T.kW hr (aa (pv 0) (aa aB aq aK) aj)) (aa (pv 5) aq aj) bz)))
   (ao (sN sc 7 (bB fu aB (bB jo (bB qX (pv 6) aB) (aU cC (dm (aa aB (aa aB (aa aB (aa aB aq aK) aK) aK) aK)) (bB jo (jd (lu T) T.jq hr (aa (pv 1) (aa aB aq aK) aj)) aB) (λ_ _=>rfl)))))
   (ao (sN sc 8 (bB jo (bB qX (pv 6) aB) (bB fu (pv 7) aB)))
   (ao (oW (i:=9) [0] BZ (aX (top 92)) rfl sc.nd rfl (qO rfl T.wM (aa (pv 8) aq aj)) (λ_ _ _ _ _=>jl) (λ_ _ _ _ _=>(bB jo (jd (lu T) T.jq hr (aa (jd (rM T) T.kW hr (aa (pv 1) (aa aB aq aK) aj)) (aa (bB fu aB (pv 0)) aq bZ) bz)) (bB Zo aB aB))))
   (ao (dh (Ut (pv 3) (aa (bL (aa (bB sG bT (dC mQ (by rfl) T.Ma En (aa (pv 5) aq aj))) (aa (pv 7) (aa (pv 9) aq aj) aj) bZ)) aq bQ)))
   (au (dh (Ut (pv 4) (aa (bL (aa bT (aa (bB sG bT (dC mQ (by rfl) T.Ma En (aa (pv 5) aq aj))) (aa (dm aq) (aa (dm (aa (bB sG bT (dC mQ (by rfl) T.Ma En (aa (pv 5) aq aj))) aq bZ)) (aa (dm (aa (bB sG bT (dC mQ (by rfl) T.Ma En (aa (bB jo (bB fu (pv 5) aB) (pv 2)) aq bZ))) aq bZ)) aq dR) dR) dR) bZ) aK)) aq bQ))))))))))
  (ao (sN sc 10 (bB jo (jd (lu T) T.jq hr (aa (pv 1) (aa aB aq aK) aj)) (pv 2)))
  (au (aQ (bL (aa (pv 3) (aa (bB Nv (zz Cy (pv 4) (zK (pv 10)) J2) (zz Cy (pv 4) J2 (zK (pv 10)))) aq bZ) aj)))))))))),?_⟩
 have hz:sizeLine=16777216:=sizeLine_eq
 refine⟨_,rfl,a,ns,0,rfl,hS,?_⟩
 generalize K3 ns 0=c0
 refine⟨_,rfl,_,_,rfl,_,_,rfl,rfl,by show(0:Int) <12;decide,_,_,rfl,rfl,?_⟩
 obtain⟨m,hm,m1,m12⟩:∃m:Nat,1+du c0 0 % 12=(m:Int)/\1<=m/\m<=12:=by
  have h0:=Int.emod_nonneg (du c0 0) (show(12:Int)≠0 by decide)
  have h1:=Int.emod_lt_of_pos (du c0 0) (show(0:Int) <12 by decide)
  exact⟨(1+du c0 0 % 12).toNat,by omega,by omega,by omega⟩
 dsimp only
 rw [hm]
 refine⟨rJ,λL nL=>?_⟩
 have t1:=az (o:=.lst []) nL
 refine⟨rJ,λP nP=>?_⟩
 have t2:=t1.trans (az (o:=.lst []) nP)
 have eP:upd (upd H L (.lst [])) P (.lst []) P=some (.lst []):=ak
 have eL:upd (upd H L (.lst [])) P (.lst []) L=some (.lst []):=az nP _ _ ak
 have nPH:=t1.free nP
 have nLP:L≠P:=λz=>by rw [<-z,ak] at nP;cases nP
 generalize upd (upd H L (.lst [])) P (.lst [])=H2 at t2 eP eL ⊢
 have sE:∀{H':Hp},aO H H'->aO H (bf [L,P] H'):=λs b o e=>fB (s _ _ e) (by simp;exact⟨aC e nL,aC e nPH⟩)
 generalize hc1:K3 ns 1=c1
 generalize hc2:K3 ns 2=c2
 refine⟨_,rfl,_,rfl,by omega,by omega,?_⟩
 rw [Int.toNat_natCast]
 refine wJ (n:=m) (λj σ H'=>(∃v5 v6 v7 v8 v9,σ=[some (.ref a),some (.int c0),some (.int (m:Nat)),some (.ref L),some (.ref P),v5,v6,v7,v8,v9,none])/\aO H (bf [L,P] H')/\∃xs ys,H' L=some (.lst xs)/\jn (rN (bf [L,P] H')) xs ((List.range j).map λk=>⟨bN k,Gd c0 c1 k,QK c0 c1 c2 k⟩)/\H' P=some (.lst ys)/\jn (Br (bf [L,P] H')) ys ((List.range j).map (rP m))) ⟨⟨none,none,none,none,none,rfl⟩,sE t2,[],[],eL,.nil,eP,.nil⟩ ?_ ?_
 ·rintro j σ H3 hj ⟨⟨v5,v6,v7,v8,v9,rfl⟩,s3,xs,ys,eL3,aL,eP3,aP⟩
  have lx:=aL.length
  have ly:=aP.length
  rw [lM,List.length_range] at lx ly
  have hS3:=(s3.trans bY).seq hS
  refine⟨_,rfl,a,ns,1,rfl,hS3,_,rfl,_,_,rfl,?_⟩
  rw [hc1,show(0:Int)+(j:Int)=(j:Int) by omega]
  obtain⟨w1,w2⟩:=Ul c0
  obtain⟨r1,r2⟩:=Qh c0 c1 j
  refine⟨_,rfl,_,_,rfl,rfl,XC (by decide) (by decide),rJ,λe ne=>?_⟩
  have te:=az (o:=.lst [.int 9,.int 9,.int 9,.int 2]) ne
  have nE:e∉[L,P]:=by simp;exact⟨λz=>(by rw [z,eL3] at ne;cases ne),λz=>(by rw [z,eP3] at ne;cases ne)⟩
  have see:upd H3 e (.lst [.int 9,.int 9,.int 9,.int 2]) e=some (.lst [.int 9,.int 9,.int 9,.int 2]):=ak
  have c4:aO (bf [L,P] H3) (bf [L,P] (upd H3 e (.lst [.int 9,.int 9,.int 9,.int 2]))):=jY ne
  have eL4:=te _ _ eL3
  have eP4:=te _ _ eP3
  generalize upd H3 e (.lst [.int 9,.int 9,.int 9,.int 2])=H4 at te see c4 eL4 eP4 ⊢
  refine⟨_,rfl,_,_,rfl,_,_,rfl,rfl,by show(0:Int) <4;decide,e,_,_,.int (WM c0),rfl,rfl,bI.of see,aaB c0,_,_,rfl,rfl,w1,_,_,rfl,rfl,?_⟩
  dsimp only
  rw [show 1+du c1 (j:Int) / 10 % WM c0=Gd c0 c1 j from rfl]
  refine⟨_,rfl,_,_,rfl,rfl,XC (by decide) (by decide),_,rfl,_,_,rfl,rfl,_,_,rfl,rfl,by show 0 <Gd c0 c1 j+1;omega,?_⟩
  have h3:=Int.emod_nonneg (du c1 j / 1000) (show Gd c0 c1 j+1≠0 by omega)
  have h4:=Int.emod_lt_of_pos (du c1 j / 1000) (show 0 <Gd c0 c1 j+1 by omega)
  obtain⟨mf,hmf⟩:∃mf:Nat,du c1 j / 1000 % (Gd c0 c1 j+1)=(mf:Int):=⟨(du c1 j / 1000 % (Gd c0 c1 j+1)).toNat,by omega⟩
  dsimp only
  have ef:(QK c0 c1 c2 j)=(List.range mf).map fun(i:Nat)=>du c2 (20+(i:Int)) % 1000000000:=by unfold QK;rw [hmf,Int.toNat_natCast]
  rw [hmf]
  have s4:=s3.trans c4
  have hS4:=(s4.trans bY).seq hS
  have e9:(10:Int) ^ (9:Int).toNat=1000000000:=by decide
  refine⟨_,rfl,_,rfl,by omega,by omega,?_⟩
  rw [Int.toNat_natCast]
  refine Mx (n:=mf) (λi zs H'=>H'=H4/\zs=((List.range i).map fun(i:Nat)=>du c2 (20+(i:Int)) % 1000000000).map V.int) (by omega) ⟨rfl,rfl⟩ (λi zs H' ⟨_,e⟩=>by rw [e,lM,lM,List.length_range];exact Nat.le_refl _) ?_ ?_
  ·rintro i zs H' hi ⟨rfl,rfl⟩
   refine yes ⟨_,rfl,a,ns,2,rfl,hS4,_,rfl,_,_,rfl,rfl,_,_,rfl,_,_,rfl,rfl,⟨by decide,by decide,by decide⟩,_,_,rfl,rfl,by show(0:Int) <10 ^ (9:Int).toNat;rw [e9];decide,rfl,?_⟩
   rw [hc2,e9,show(0:Int)+(i:Int)=(i:Int) by omega,List.range_succ,List.map_append,List.map_append]
   rfl
  rintro zs H' ⟨rfl,rfl⟩ f nf
  rw [<-ef]
  have nfE:f∉[L,P]:=by simp;exact⟨λz=>(by rw [z,eL4] at nf;cases nf),λz=>(by rw [z,eP4] at nf;cases nf)⟩
  have t5:=az (o:=.lst ((QK c0 c1 c2 j).map V.int)) nf
  have f5:=fB (ak (H:=H') (a:=f) (o:=.lst ((QK c0 c1 c2 j).map V.int))) nfE
  have c5:aO (bf [L,P] H') (bf [L,P] (upd H' f (.lst ((QK c0 c1 c2 j).map V.int)))):=jY nf
  have eL5:=t5 _ _ eL4
  have eP5:=t5 _ _ eP4
  generalize upd H' f (.lst ((QK c0 c1 c2 j).map V.int))=H5 at t5 f5 c5 eL5 eP5 ⊢
  have j13:j <13:=by omega
  have lj:(j:Int).natAbs.log2 <1920:=Ha (by omega) (by omega)
  refine⟨_,rfl,.inl ⟨rfl,_,bI.of eL5⟩,_,rfl,_,rfl,lj,_,_,rfl,rfl,wK j13 (by decide),_,rfl,_,rfl,rJ,λq nq=>?_⟩
  have nqE:q∉[L,P]:=by simp;exact⟨λz=>(by rw [z,eL5] at nq;cases nq),λz=>(by rw [z,eP5] at nq;cases nq)⟩
  have t6:=az (o:=.tup [.str (("b" :Str) ++ (toString (j:Int):Str)),.int (Gd c0 c1 j),.ref f]) nq
  have q6:=fB (ak (H:=H5) (a:=q) (o:=.tup [.str (("b" :Str) ++ (toString (j:Int):Str)),.int (Gd c0 c1 j),.ref f])) nqE
  have c6:aO (bf [L,P] H5) (bf [L,P] (upd H5 q (.tup [.str (("b" :Str) ++ (toString (j:Int):Str)),.int (Gd c0 c1 j),.ref f]))):=jY nq
  have eL6:=t6 _ _ eL5
  have eP6:=t6 _ _ eP5
  refine⟨L,_,.ref q,rfl,rfl,eL6,by omega,?_⟩
  generalize upd H5 q (.tup [.str (("b" :Str) ++ (toString (j:Int):Str)),.int (Gd c0 c1 j),.ref f])=H6 at t6 q6 c6 eL6 eP6 ⊢
  have eP7:upd H6 L (.lst (xs ++ [.ref q])) P=some (.lst ys):=by rw [aJ (Ne.symm nLP)];exact eP6
  have eL7:upd H6 L (.lst (xs ++ [.ref q])) L=some (.lst (xs ++ [.ref q])):=ak
  have u7:bf [L,P] (upd H6 L (.lst (xs ++ [.ref q])))=bf [L,P] H6:=iQ (by simp)
  generalize upd H6 L (.lst (xs ++ [.ref q]))=H7 at eP7 eL7 u7 ⊢
  have c47:aO (bf [L,P] H3) (bf [L,P] H7):=by rw [u7];exact c4.trans (c5.trans c6)
  have q7:bf [L,P] H7 q=some (.tup [.str (bN j),.int (Gd c0 c1 j),.ref f]):=by rw [u7];exact q6
  have f7:bf [L,P] H7 f=some (.lst ((QK c0 c1 c2 j).map V.int)):=by rw [u7];exact c6 _ _ f5
  refine⟨_,rfl,.inl ⟨rfl,_,bI.of eP7⟩,_,rfl,_,rfl,lj,_,_,rfl,rfl,wK j13 (by decide),rJ,λn0 nn0=>?_⟩
  have out:∀{Hx:Hp} {xs' ys':List V} {b:Addr},Hx L=some (.lst xs')->Hx P=some (.lst ys')->Hx b=none->b∉[L,P]:=λ{Hx xs' ys' b} h1 h2 h3=>by
   simp
   exact⟨λz=>(by rw [z,h1] at h3;cases h3),λz=>(by rw [z,h2] at h3;cases h3)⟩
  have z0:=fB (ak (H:=H7) (a:=n0) (o:=.lst [])) (out eL7 eP7 nn0)
  have c8:aO (bf [L,P] H7) (bf [L,P] (upd H7 n0 (.lst []))):=jY nn0
  have eL8:=az (o:=.lst []) nn0 _ _ eL7
  have eP8:=az (o:=.lst []) nn0 _ _ eP7
  generalize upd H7 n0 (.lst [])=H8 at z0 c8 eL8 eP8 ⊢
  refine⟨_,rfl,_,rfl,lj,_,_,rfl,rfl,wK j13 (by decide),rJ,λn1 nn1=>?_⟩
  have z1:=fB (ak (H:=H8) (a:=n1) (o:=.lst [.str (("b" :Str) ++ (toString (j:Int):Str))])) (out eL8 eP8 nn1)
  have c9:aO (bf [L,P] H8) (bf [L,P] (upd H8 n1 (.lst [.str (("b" :Str) ++ (toString (j:Int):Str))]))):=jY nn1
  have eL9:=az (o:=.lst [.str (("b" :Str) ++ (toString (j:Int):Str))]) nn1 _ _ eL8
  have eP9:=az (o:=.lst [.str (("b" :Str) ++ (toString (j:Int):Str))]) nn1 _ _ eP8
  generalize upd H8 n1 (.lst [.str (("b" :Str) ++ (toString (j:Int):Str))])=H9 at z1 c9 eL9 eP9 ⊢
  have ej:((j:Int)+1) % (m:Int)=(((j+1) % m:Nat):Int):=(Int.natCast_emod (j+1) m).symm
  have jm:(j+1) % m <13:=by have:=Nat.mod_lt (j+1) m1;omega
  refine⟨_,rfl,_,_,rfl,rfl,_,rfl,_,_,rfl,rfl,by show(0:Int) <(m:Int);omega,_,rfl,by show(((j:Int)+1) % (m:Int)).natAbs.log2 <1920;rw [ej];exact Ha (by omega) (by omega),_,_,rfl,rfl,by show _+(toString (((j:Int)+1) % (m:Int)):Str).length<=sizeLine;rw [ej];exact wK jm (by decide),rJ,λn2 nn2=>?_⟩
  have z2:=fB (ak (H:=H9) (a:=n2) (o:=.lst [.str (("b" :Str) ++ (toString (((j:Int)+1) % (m:Int)):Str))])) (out eL9 eP9 nn2)
  have c10:aO (bf [L,P] H9) (bf [L,P] (upd H9 n2 (.lst [.str (("b" :Str) ++ (toString (((j:Int)+1) % (m:Int)):Str))]))):=jY nn2
  have eL10:=az (o:=.lst [.str (("b" :Str) ++ (toString (((j:Int)+1) % (m:Int)):Str))]) nn2 _ _ eL9
  have eP10:=az (o:=.lst [.str (("b" :Str) ++ (toString (((j:Int)+1) % (m:Int)):Str))]) nn2 _ _ eP9
  generalize upd H9 n2 (.lst [.str (("b" :Str) ++ (toString (((j:Int)+1) % (m:Int)):Str))])=H10 at z2 c10 eL10 eP10 ⊢
  rw [ej] at z2
  refine⟨rJ,λq2 nq2=>?_⟩
  have z3:=fB (ak (H:=H10) (a:=q2) (o:=.tup [.str "pass",.str (("a" :Str) ++ (toString (j:Int):Str)),.ref n0,.ref n1,.ref n2])) (out eL10 eP10 nq2)
  have c11:aO (bf [L,P] H10) (bf [L,P] (upd H10 q2 (.tup [.str "pass",.str (("a" :Str) ++ (toString (j:Int):Str)),.ref n0,.ref n1,.ref n2]))):=jY nq2
  have eL11:=az (o:=.tup [.str "pass",.str (("a" :Str) ++ (toString (j:Int):Str)),.ref n0,.ref n1,.ref n2]) nq2 _ _ eL10
  have eP11:=az (o:=.tup [.str "pass",.str (("a" :Str) ++ (toString (j:Int):Str)),.ref n0,.ref n1,.ref n2]) nq2 _ _ eP10
  refine⟨P,_,.ref q2,rfl,rfl,eP11,by omega,?_⟩
  generalize upd H10 q2 (.tup [.str "pass",.str (("a" :Str) ++ (toString (j:Int):Str)),.ref n0,.ref n1,.ref n2])=H11 at z3 c11 eL11 eP11 ⊢
  have u12:bf [L,P] (upd H11 P (.lst (ys ++ [.ref q2])))=bf [L,P] H11:=iQ (by simp)
  have c7:aO (bf [L,P] H7) (bf [L,P] H11):=c8.trans (c9.trans (c10.trans c11))
  have c3:=c47.trans c7
  refine⟨⟨_,_,_,_,_,rfl⟩,by rw [u12];exact s3.trans c3,xs ++ [.ref q],ys ++ [.ref q2],by rw [aJ nLP];exact eL11,?_,ak,?_⟩
  ·rw [u12,List.range_succ,List.map_append]
   exact(aL.imp λ_ _ h=>h.same c3).app (.cons ⟨q,f,rfl,c7 _ _ q7,c7 _ _ f7⟩ .nil)
  ·rw [u12,List.range_succ,List.map_append]
   exact(aP.imp λ_ _ h=>h.same c3).app (.cons ⟨q2,n0,n1,n2,rfl,z3,(c9.trans (c10.trans c11)) _ _ z0,(c10.trans c11) _ _ z1,c11 _ _ z2⟩ .nil)
 rintro σ H3 ⟨⟨v5,v6,v7,v8,v9,rfl⟩,s3,xs,ys,eL3,aL,eP3,aP⟩
 have lx:=aL.length
 have ly:=aP.length
 rw [lM,List.length_range] at lx ly
 refine⟨_,rfl,_,_,rfl,_,rfl,_,_,rfl,rfl,by show(0:Int) <(m:Int);omega,?_⟩
 obtain⟨i,hi,im⟩:∃i:Nat,du c0 2 % (m:Int)=(i:Int)/\i <m:=by
  have h0:=Int.emod_nonneg (du c0 2) (show(m:Int)≠0 by omega)
  have h1:=Int.emod_lt_of_pos (du c0 2) (show(0:Int) <(m:Int) by omega)
  exact⟨(du c0 2 % (m:Int)).toNat,by omega,by omega⟩
 dsimp only
 rw [hi]
 refine⟨_,rfl,_,rfl,_,rfl,_,rfl,P,_,rfl,bI.of eP3,λp1 np1=>?_⟩
 rw [Hr]
 have t4:=az (o:=.lst (ys.drop i)) np1
 have e4:upd H3 p1 (.lst (ys.drop i)) p1=some (.lst (ys.drop i)):=ak
 generalize upd H3 p1 (.lst (ys.drop i))=H4 at t4 e4 ⊢
 refine⟨_,rfl,_,rfl,_,rfl,P,_,rfl,bI.of (t4 _ _ eP3),λp2 np2=>?_⟩
 rw [Sw]
 have t5:=az (o:=.lst (ys.take i)) np2
 have e5:upd H4 p2 (.lst (ys.take i)) p2=some (.lst (ys.take i)):=ak
 have e45:=t5 _ _ e4
 have s5:=t4.trans t5
 generalize upd H4 p2 (.lst (ys.take i))=H5 at t5 e5 e45 s5 ⊢
 refine⟨p1,p2,_,_,rfl,rfl,e45,e5,by rw [List.length_drop,List.length_take];omega,λp3 np3=>⟨rJ,λT' nT=>?_⟩⟩
 have t6:=az (o:=.lst (ys.drop i ++ ys.take i)) np3
 have t7:=az (o:=.tup [.ref L,.ref p3]) nT
 have s7:=s5.trans (t6.trans t7)
 have sx:=(bY (E:=[L,P])).trans s7
 refine k T' L p3 ((List.range m).map λk=>⟨bN k,Gd c0 c1 k,QK c0 c1 c2 k⟩) (((List.range m).map (rP m)).drop i ++ ((List.range m).map (rP m)).take i) _ (s3.trans sx) ak ⟨⟨xs,s7 _ _ eL3,aL.imp λ_ _ h=>h.same sx⟩,⟨_,t7 _ _ ak,((aP.drop i).app (aP.take i)).imp λ_ _ h=>h.same sx⟩⟩ ⟨m,i,Gd c0 c1,QK c0 c1 c2,m1,m12,im,rfl,rfl,λk _=>⟨(Qh c0 c1 k).1,(Qh c0 c1 k).2,aaw c0 c1 c2 k⟩⟩
inductive yF (K:PySem.W.Frag) (vs:List V) (H:Hp) (Q:VK) (E:XK):Prop where
 | mk:∀(u1 u2:Addr) (a b c d:Int),vs=[.ref u1,.ref u2]->H u1=some (.tup [.int a,.int b])->H u2=some (.tup [.int c,.int d])->((-1000000 <a/\a <1000000/\ -1000000 <c/\c <1000000))->(∀u,((a * d <c * b/\u=u1)∨(¬a * d <c * b/\u=u2))->Q (.ref u) H)->yF K vs H Q E
theorem sU (T:Txt w K mg t):FO P w K mg base 1 t.Bl ["_law_one", "_law_other"] (yF K):=by
 have sc:=T.lz.sc ["_law_one", "_law_other"]
 refine T.lz.F.ok sc ln (λ_ _ _ _ H vs Q E hr h=>?_)
 obtain⟨u1,u2,a,b,c,d,rfl,e1,e2,hb,k⟩:=h
 refine⟨_,(ao (b7 (bD G7 (bB gW (aU aY (pv 0) aB (λ_ _=>rfl)) (aU aY (pv 1) aB (λ_ _=>rfl))) (bB gW (aU aY (pv 1) aB (λ_ _=>rfl)) (aU aY (pv 0) aB (λ_ _=>rfl))) (cz _))
   (au (aQ (pv 0)))
   bu)
  (au (aQ (pv 1)))),?_⟩
 refine⟨_,rfl,u1,_,0,_,rfl,rfl,cP.of e1,aM (j:=0) rfl,_,rfl,u2,_,1,_,rfl,rfl,cP.of e2,aM (j:=1) rfl,_,_,rfl,rfl,.of_left (intBits_le_64 (by omega) (by omega)),_,rfl,u2,_,0,_,rfl,rfl,cP.of e2,aM (j:=0) rfl,_,rfl,u1,_,1,_,rfl,rfl,cP.of e1,aM (j:=1) rfl,_,_,rfl,rfl,.of_left (intBits_le_64 (by omega) (by omega)),_,_,rfl,rfl,_,rfl,uB (λh=>⟨_,rfl,k _ (.inl ⟨of_decide_eq_true h,rfl⟩)⟩) (λh=>⟨_,rfl,k _ (.inr ⟨λz=>h (decide_eq_true z),rfl⟩)⟩)⟩
structure rY (cs:List (Int×Int)) (d:Int×Int):Prop where
 mem:d∈cs
 le:∀c∈cs,d.1 * c.2<=c.1 * d.2
theorem rY.add {cs:List (Int×Int)} {d c:Int×Int} (h:rY cs d) (pos:∀c∈cs,0 <c.2) (pc:0 <c.2) (n0:∀c∈cs,0<=c.1) (nc:0<=c.1):(d.1 * c.2 <c.1 * d.2->rY (cs ++ [c]) d)/\(¬d.1 * c.2 <c.1 * d.2->rY (cs ++ [c]) c):=by
 constructor
 ·intro hl
  refine⟨List.mem_append.mpr (.inl h.mem),λe he=>?_⟩
  rcases List.mem_append.mp he with z | z
  ·exact h.le e z
  ·rw [List.mem_singleton.mp z];omega
 ·intro hl
  refine⟨List.mem_append.mpr (.inr (List.mem_singleton.mpr rfl)),λe he=>?_⟩
  rcases List.mem_append.mp he with z | z
  ·have h1:=h.le e z
   have pd:=pos d h.mem
   have pe:=pos e z
   have a1:c.1 * d.2 * e.2<=d.1 * c.2 * e.2:=Int.mul_le_mul_of_nonneg_right (by omega) (by omega)
   have a2:d.1 * e.2 * c.2<=e.1 * d.2 * c.2:=Int.mul_le_mul_of_nonneg_right h1 (by omega)
   have a3:c.1 * e.2 * d.2<=e.1 * c.2 * d.2:=by
    have e1:c.1 * d.2 * e.2=c.1 * e.2 * d.2:=by rw [Int.mul_assoc,Int.mul_comm d.2,<-Int.mul_assoc]
    have e2:d.1 * c.2 * e.2=d.1 * e.2 * c.2:=by rw [Int.mul_assoc,Int.mul_comm c.2,<-Int.mul_assoc]
    have e3:e.1 * d.2 * c.2=e.1 * c.2 * d.2:=by rw [Int.mul_assoc,Int.mul_comm d.2,<-Int.mul_assoc]
    omega
   exact Int.le_of_mul_le_mul_right a3 pd
  ·rw [List.mem_singleton.mp z];exact Int.le_refl _
noncomputable def uq (ls:List aF):List (Int×Int):=[((ls.map λl=>(l.first.length:Int)).sum,(ls.length:Int)),((ls.map λl=>l.room).sum - (ls.map λl=>(l.first.length:Int)).sum,(ls.length:Int))] ++ ls.map (λl=>(l.room,(2:Int))) ++ [((1:Int),(1:Int))]
theorem KQ {l:List Int} {b:Int} (h:∀x∈l,0<=x/\x<=b):0<=l.sum/\l.sum<=(l.length:Int) * b:=by
 induction l with
 | nil=>simp
 | cons a r ih=>
  have h1:=h a List.mem_cons_self
  have h2:=ih λx hx=>h x (List.mem_cons_of_mem _ hx)
  rw [List.sum_cons,List.length_cons,Int.natCast_succ,Int.add_mul,Int.one_mul]
  omega
theorem K5 {α:Type} {f g:α->Int}:∀{l:List α},(∀x∈l,f x<=g x)->(l.map f).sum<=(l.map g).sum
 | [],_=>Int.le_refl _
 | a:: r,h=>by
  have:=K5 (l:=r) λx hx=>h x (List.mem_cons_of_mem _ hx)
  have:=h a List.mem_cons_self
  rw [List.map_cons,List.map_cons,List.sum_cons,List.sum_cons]
  omega
inductive xV (K:PySem.W.Frag) (vs:List V) (H:Hp) (Q:VK) (E:XK):Prop where
 | mk:∀(L:Addr) (xs:List V) (ls:List aF),vs=[.ref L]->H L=some (.lst xs)->jn (rN H) xs ls->1<=ls.length->ls.length<=12->((∀l∈ls,1<=l.room/\l.room<=9/\(l.first.length:Int)<=l.room))->(∀H' u d,aO H H'->H' u=some (.tup [.int d.1,.int d.2])->rY (uq ls) d->(0<=d.1/\d.1<=200/\0 <d.2)->Q (.ref u) H')->xV K vs H Q E
noncomputable abbrev tM:List Str:=["_law_lanes", "_law_first", "_law_rooms", "_law_least", "_law_one"]
theorem Gw (T:Txt w K mg t):FO P w K mg base 2 t.yX ["_law_lanes"] (xV K):=by
 have sc:=T.tE.sc tM
 refine T.tE.F.ok sc ln (λ_ _ _ _ H vs Q E hr h=>?_)
 obtain⟨L,xs,ls,rfl,eL,aL,l1,l12,ok,k⟩:=h
 refine⟨_,(ao (sN sc 1 (bx (Fl rfl) (by rfl) T.S9 MJ (aa (gf [] tM (aX (top 94)) rfl (bH (pv 0)) (λ_ _ _ _ _=>jl) (λ_ _ _ _ _=>(bx ((QV (K:=K) rfl)) (by rfl) T.iy eQ (aa (aU (mL (K:=K) rfl) (pv 0) aB (λ_ _=>rfl)) aq aH)))) aq d8)))
  (ao (sN sc 2 (bx (Fl rfl) (by rfl) T.S9 MJ (aa (gf [] tM (aX (top 94)) rfl (bH (pv 0)) (λ_ _ _ _ _=>jl) (λ_ _ _ _ _=>(aU (mL (K:=K) rfl) (pv 0) aB (λ_ _=>rfl)))) aq d8)))
  (ao (sN sc 3 (jd (sU T) T.lz hr (aa (bL (aa (pv 1) (aa (bx b8 (by rfl) T.iy eQ (aa (pv 0) aq aj)) aq bz) aj)) (aa (bL (aa (bB yt (pv 2) (pv 1)) (aa (bx b8 (by rfl) T.iy eQ (aa (pv 0) aq aj)) aq bz) bZ)) aq bQ) bQ)))
  (ao (cX PassesOwn.never rfl (bH (pv 0)) (gN sc 4)
   (au (sN sc 3 (jd (sU T) T.lz hr (aa (pv 3) (aa (bL (aa (aU aY (pv 4) aB (λ_ _=>rfl)) (aa aB aq aK) aH)) aq bQ) aj)))))
  (au (aQ (jd (sU T) T.lz hr (aa (pv 3) (aa (bL (aa aB (aa aB aq aK) aK)) aq bQ) aj)))))))),?_⟩
 have hz:sizeLine=16777216:=sizeLine_eq
 have xl:=aL.length
 have bF:∀x∈ls.map (λl=>(l.first.length:Int)),0<=x/\x<=9:=λx hx=>by
  obtain⟨l,hl,rfl⟩:=List.mem_map.mp hx
  have:=ok l hl
  omega
 have bR:∀x∈ls.map (λl=>l.room),0<=x/\x<=9:=λx hx=>by
  obtain⟨l,hl,rfl⟩:=List.mem_map.mp hx
  have:=ok l hl
  omega
 have sF:=KQ bF
 have sR:=KQ bR
 rw [lM] at sF sR
 have sM:=K5 (f:=λl:aF=>(l.first.length:Int)) (g:=λl=>l.room) λl hl=>(ok l hl).2.2
 refine⟨_,rfl,L,rfl,⟨_,bI.of eL⟩,dN (K:=K) (a:=L) (xs:=xs) (λj ys H'=>H'=H/\ys=((ls.map λl=>(l.first.length:Int)).take j).map V.int) (by omega) ⟨rfl,rfl⟩ (λj ys H' ⟨_,e⟩=>by rw [e,lM,List.length_take];omega) (λj ys H' _ ⟨e,_⟩=>by rw [e];exact bI.of eL) ?_ ?_⟩
 ·rintro j x ys H' hx ⟨rfl,rfl⟩
  obtain⟨l,hlj,q,f,rfl,hq,hf⟩:=aL.get hx
  refine yes ⟨_,rfl,q,_,2,_,rfl,rfl,cP.of hq,aM (j:=2) rfl,.ref f,l.first.length,rfl,.inl ⟨_,bI.of hf,by rw [lM]⟩,rfl,?_⟩
  rw [List.take_succ,List.getElem?_map,hlj,Option.map_some,Option.toList_some,List.map_append]
  rfl
 rintro ys H' ⟨rfl,rfl⟩ p1 np1
 rw [xl,<-lM (f:=λl:aF=>(l.first.length:Int)),List.take_length]
 have t1:=az (o:=.lst ((ls.map λl=>(l.first.length:Int)).map V.int)) np1
 refine⟨p1,_,rfl,bI.of ak,λn hn=>(by have:=bF n hn;omega),by rw [lM];omega,?_⟩
 generalize upd H' p1 (.lst ((ls.map λl=>(l.first.length:Int)).map V.int))=H1 at t1 ⊢
 refine⟨_,rfl,L,rfl,⟨_,bI.of (t1 _ _ eL)⟩,dN (K:=K) (a:=L) (xs:=xs) (λj ys H'=>H'=H1/\ys=((ls.map λl=>l.room).take j).map V.int) (by omega) ⟨rfl,rfl⟩ (λj ys H' ⟨_,e⟩=>by rw [e,lM,List.length_take];omega) (λj ys H' _ ⟨e,_⟩=>by rw [e];exact bI.of (t1 _ _ eL)) ?_ ?_⟩
 ·rintro j x ys H' hx ⟨rfl,rfl⟩
  obtain⟨l,hlj,q,f,rfl,hq,hf⟩:=aL.get hx
  refine yes ⟨_,rfl,q,_,1,_,rfl,rfl,cP.of (t1 _ _ hq),aM (j:=1) rfl,rfl,?_⟩
  rw [List.take_succ,List.getElem?_map,hlj,Option.map_some,Option.toList_some,List.map_append]
  rfl
 rintro ys H2 ⟨rfl,rfl⟩ p2 np2
 rw [xl,<-lM (f:=λl:aF=>l.room),List.take_length]
 have t2:=t1.trans (az (o:=.lst ((ls.map λl=>l.room).map V.int)) np2)
 refine⟨p2,_,rfl,bI.of ak,λn hn=>(by have:=bR n hn;omega),by rw [lM];omega,?_⟩
 generalize upd H2 p2 (.lst ((ls.map λl=>l.room).map V.int))=H3 at t2 ⊢
 obtain⟨F,hF⟩:∃F,F=(ls.map λl=>(l.first.length:Int)).sum:=⟨_,rfl⟩
 obtain⟨M,hM⟩:∃M,M=(ls.map λl=>l.room).sum:=⟨_,rfl⟩
 rw [<-hF,<-hM] at sM
 rw [<-hF] at sF
 rw [<-hM] at sR
 rw [<-hF,<-hM]
 have cand:uq ls=[(F,(ls.length:Int)),(M - F,(ls.length:Int))] ++ ls.map (λl=>(l.room,(2:Int))) ++ [((1:Int),(1:Int))]:=by unfold uq;rw [<-hF,<-hM]
 have okc:∀c∈uq ls,0<=c.1/\c.1<=200/\0 <c.2:=λc hc=>by
  rw [cand] at hc
  simp only [List.mem_append,List.mem_cons,List.mem_map,List.not_mem_nil,or_false] at hc
  rcases hc with ((rfl | rfl) | ⟨l,hl,rfl⟩) | rfl
  ·exact⟨by dsimp only;omega,by dsimp only;omega,by dsimp only;omega⟩
  ·exact⟨by dsimp only;omega,by dsimp only;omega,by dsimp only;omega⟩
  ·have:=ok l hl
   exact⟨by dsimp only;omega,by dsimp only;omega,by dsimp only;omega⟩
  ·exact⟨by decide,by decide,by decide⟩
 have sub:∀j,∀c∈[(F,(ls.length:Int)),(M - F,(ls.length:Int))] ++ (ls.take j).map (λl=>(l.room,(2:Int))),c∈uq ls:=λj c hc=>by
  rw [cand]
  refine List.mem_append.mpr (.inl ?_)
  rcases List.mem_append.mp hc with h | h
  ·exact List.mem_append.mpr (.inl h)
  ·obtain⟨l,hl,e⟩:=List.mem_map.mp h
   exact List.mem_append.mpr (.inr (List.mem_map.mpr ⟨l,List.mem_of_mem_take hl,e⟩))
 have eL3:=t2 _ _ eL
 refine⟨_,rfl,_,rfl,.ref L,ls.length,rfl,.inl ⟨_,bI.of eL3,xl.symm⟩,rJ,λu1 nu1=>?_⟩
 have v1:=az (o:=.tup [.int F,.int (ls.length:Nat)]) nu1
 have w1:upd H3 u1 (.tup [.int F,.int (ls.length:Nat)]) u1=some (.tup [.int F,.int (ls.length:Nat)]):=ak
 generalize upd H3 u1 (.tup [.int F,.int (ls.length:Nat)])=H4 at v1 w1 ⊢
 refine⟨_,rfl,_,rfl,_,_,rfl,rfl,_,rfl,.ref L,ls.length,rfl,.inl ⟨_,bI.of (v1 _ _ eL3),xl.symm⟩,rJ,λu2 nu2=>?_⟩
 have v2:=az (o:=.tup [.int (M - F),.int (ls.length:Nat)]) nu2
 have w2:upd H4 u2 (.tup [.int (M - F),.int (ls.length:Nat)]) u2=some (.tup [.int (M - F),.int (ls.length:Nat)]):=ak
 have t5:=(t2.trans v1).trans v2
 have w15:=v2 _ _ w1
 generalize upd H4 u2 (.tup [.int (M - F),.int (ls.length:Nat)])=H5 at v2 w2 t5 w15 ⊢
 have step:∀{cs:List (Int×Int)} {d c:Int×Int} {Hx:Hp} {x y u:Addr},(∀c∈cs,c∈uq ls)->c∈uq ls->rY cs d->Hx x=some (.tup [.int d.1,.int d.2])->Hx y=some (.tup [.int c.1,.int c.2])->((d.1 * c.2 <c.1 * d.2/\u=x)∨(¬d.1 * c.2 <c.1 * d.2/\u=y))->∃d',rY (cs ++ [c]) d'/\Hx u=some (.tup [.int d'.1,.int d'.2]):=λ{cs d c Hx x y u} hs hc hL ex ey hu=>by
  have:=hL.add (c:=c) (λc h=>(okc c (hs c h)).2.2) (okc c hc).2.2 (λc h=>(okc c (hs c h)).1) (okc c hc).1
  rcases hu with ⟨h,rfl⟩ | ⟨h,rfl⟩
  ·exact⟨d,this.1 h,ex⟩
  ·exact⟨c,this.2 h,ey⟩
 refine⟨u1,u2,F,ls.length,M - F,ls.length,rfl,w15,w2,by omega,λu hu=>?_⟩
 obtain⟨d,hd,ed⟩:=step (cs:=[(F,(ls.length:Int))]) (d:=(F,(ls.length:Int))) (c:=(M - F,(ls.length:Int))) (Hx:=H5) (x:=u1) (y:=u2) (u:=u) (λc h=>sub 0 c (by rw [List.mem_singleton.mp h];simp)) (sub 0 _ (by simp)) ⟨by simp,λc h=>by rw [List.mem_singleton.mp h];exact Int.le_refl _⟩ w15 w2 hu
 have eL5:=t5 _ _ eL
 refine⟨_,rfl,L,rfl,⟨_,bI.of eL5⟩,cY (K:=K) (a:=L) (xs:=xs) (λj σ H6=>aO H' H6/\∃u d v4,σ=[some (.ref L),some (.int F),some (.int M),some (.ref u),v4]/\H6 u=some (.tup [.int d.1,.int d.2])/\rY ([(F,(ls.length:Int)),(M - F,(ls.length:Int))] ++ (ls.take j).map (λl=>(l.room,(2:Int)))) d) ⟨t5,u,d,none,rfl,ed,hd⟩ (λj σ H6 _ h=>bI.of (h.1 _ _ eL)) ?_ ?_⟩
 ·rintro j x σ H6 hx ⟨s6,u,d,v4,rfl,ed,hd⟩
  obtain⟨l,hlj,q,f,rfl,hq,hf⟩:=aL.get hx
  have lm:=List.mem_of_getElem? hlj
  have lk:=ok l lm
  refine⟨_,rfl,_,rfl,q,_,1,_,rfl,rfl,cP.of (s6 _ _ hq),aM (j:=1) rfl,rJ,λu7 nu7=>?_⟩
  have v7:=az (o:=.tup [.int l.room,.int 2]) nu7
  have od:=okc d (sub j d hd.mem)
  refine⟨u,u7,d.1,d.2,l.room,2,rfl,v7 _ _ ed,ak,by omega,λu8 hu8=>?_⟩
  obtain⟨d',hd',ed'⟩:=step (c:=(l.room,(2:Int))) (u:=u8) (λc h=>sub j c h) (by rw [cand];exact List.mem_append.mpr (.inl (List.mem_append.mpr (.inr (List.mem_map.mpr ⟨l,lm,rfl⟩))))) hd (v7 _ _ ed) ak hu8
  refine⟨s6.trans v7,u8,d',_,rfl,ed',?_⟩
  rw [List.take_succ,hlj,Option.toList_some,List.map_append,<-List.append_assoc]
  exact hd'
 rintro σ H6 ⟨s6,u,d,v4,rfl,ed,hd⟩
 rw [xl,List.take_length] at hd
 refine⟨_,rfl,rJ,λu7 nu7=>?_⟩
 have v7:=az (o:=.tup [.int 1,.int 1]) nu7
 have od:=okc d (by rw [cand];exact List.mem_append.mpr (.inl hd.mem))
 refine⟨u,u7,d.1,d.2,1,1,rfl,v7 _ _ ed,ak,by omega,λu8 hu8=>?_⟩
 obtain⟨d',hd',ed'⟩:=step (c:=((1:Int),(1:Int))) (u:=u8) (λc h=>by rw [cand];exact List.mem_append.mpr (.inl h)) (by rw [cand];simp) hd (v7 _ _ ed) ak hu8
 rw [<-cand] at hd'
 exact k _ u8 d' (s6.trans v7) ed' hd' (okc d' hd'.mem)
noncomputable def Zq (S:FS) (p:PD):List (Str×Int):=(cA p.kind p.nums (Fq S p) (S.k p.name)).map λpv=>(strAt p.outs pv.1.toNat,pv.2)
theorem Ei {α:Type} {p q:α->Bool}:∀{l:List α},(∀a∈l,p a=q a)->l.find? p=l.find? q
 | [],_=>rfl
 | a:: r,h=>by
  rw [List.find?_cons,List.find?_cons,h a List.mem_cons_self,Ei λb hb=>h b (List.mem_cons_of_mem _ hb)]
noncomputable def rO (S:FS) (x:Str):Bool:=decide (kY S x=.non)
noncomputable def Ke (ls:List aF) (S:FS) (x:Str):Bool:=decide (roomF ls x<=((S.ev x).length:Int) - (S.g x:Int))
noncomputable def W9 (S:FS) (p:PD):List Str:=(places p.kind (bc S p)).map (strAt p.ins)
noncomputable def V5 (S:FS) (p:PD):List Str:=(Zq S p).map (·.1)
theorem Uw {S:FS} {p:PD} (ok:nY p):fG p.kind p.ins (bc S p)=match (W9 S p).find? (rO S) with
  | some x=>.str x
  | none=>.non:=by
 have hO:=qU S p ok
 have hlt:∀q∈places p.kind (bc S p),q <p.ins.length:=λq hq=>by
  have:=jr hO q hq
  unfold bc at this
  rwa [lM] at this
 unfold W9 fG
 rw [List.find?_map]
 have e:(places p.kind (bc S p)).find? (uZ (bc S p))=(places p.kind (bc S p)).find? (rO S∘strAt p.ins):=Ei λq hq=>by
  have h:=hlt q hq
  unfold uZ rO bc
  rw [List.getElem?_map,List.getElem?_eq_getElem h]
  show _=decide (kY S (strAt p.ins q)=.non)
  rw [rC h]
  simp
 rw [e]
 cases hf:(places p.kind (bc S p)).find? (rO S∘strAt p.ins) with
 | none=>rfl
 | some q=>
  have h:=hlt q (List.mem_of_find?_eq_some hf)
  simp only [List.getElem?_eq_getElem h,Option.map_some,Option.getD_some]
  rw [rC h]
theorem SJ (ls:List aF) (S:FS) (p:PD):(V5 S p).find? (Ke ls S)=((Zq S p).find? (zu ls S)).map (·.1):=by
 unfold V5
 rw [List.find?_map]
 rfl
theorem OD {S:FS} {p:PD} (ok:nY p) (h9:p.kind≠9):W9 S p=p.ins:=by
 unfold W9 places bc
 rw [if_neg h9,lM]
 refine List.ext_getElem? λi=>?_
 rw [List.getElem?_map]
 by_cases h:i <p.ins.length
 ·rw [List.getElem?_range h,List.getElem?_eq_getElem h,Option.map_some,rC h]
 ·rw [List.getElem?_eq_none (by rw [List.length_range];omega),List.getElem?_eq_none (by omega)]
  rfl
theorem Pn {S:FS} {p:PD} (ok:nY p) (hA:p.kind≠10):V5 S p=p.outs:=by
 have h:=ok.1
 have hO:=ok.2.2.2.1
 unfold V5 Zq
 rw [List.map_map]
 have key:∀i,i <11->i≠10->∀(ns ws:List Int) (k:Int),(cA i ns ws k).map (λpv=>pv.1.toNat)=List.range (cO i):=by
  intro i hi hn ns ws k
  match i,hi,hn with
  | 0,_,_=>rfl
  | 1,_,_=>rfl
  | 2,_,_=>rfl
  | 3,_,_=>rfl
  | 4,_,_=>rfl
  | 5,_,_=>rfl
  | 6,_,_=>rfl
  | 7,_,_=>rfl
  | 8,_,_=>rfl
  | 9,_,_=>rfl
  | 10,_,hn=>exact absurd rfl hn
 have e:(cA p.kind p.nums (Fq S p) (S.k p.name)).map ((λq:Str×Int=>q.1)∘λpv=>(strAt p.outs pv.1.toNat,pv.2))=((cA p.kind p.nums (Fq S p) (S.k p.name)).map (λpv=>pv.1.toNat)).map (strAt p.outs):=by rw [List.map_map];rfl
 rw [e,key _ h hA,<-hO]
 refine List.ext_getElem? λi=>?_
 rw [List.getElem?_map]
 by_cases h:i <p.outs.length
 ·rw [List.getElem?_range h,List.getElem?_eq_getElem h,Option.map_some,rC h]
 ·rw [List.getElem?_eq_none (by rw [List.length_range];omega),List.getElem?_eq_none (by omega)]
  rfl
structure o8 (ls:List aF) (ps:List PD) (S:FS):Prop where
 ev:∀l∈ls,(S.ev l.name).length=l.first.length+S.d (qG (·.outs) ps l.name)
 g:∀l∈ls,S.g l.name=S.d (qG (·.ins) ps l.name)
theorem Xb {gv:List (Str×Int)} {os:List Str} (e:gv.map (·.1)=os) (nd:os.Nodup) (x:Str):((gv.filter λq=>decide (q.1=x)).map (·.2)).length=if x∈os then 1 else 0:=by
 subst e
 rw [lM]
 induction gv with
 | nil=>rfl
 | cons q r ih=>
  rw [List.map_cons,List.nodup_cons] at nd
  rw [List.filter_cons]
  by_cases h:q.1=x
  ·rw [if_pos (decide_eq_true h),List.length_cons,ih nd.2,if_neg (by rw [<-h];exact nd.1),if_pos (by rw [List.map_cons,h];exact List.mem_cons_self)]
  ·rw [if_neg (by simpa using h),ih nd.2,List.map_cons]
   have:(x∈q.1:: r.map (·.1))↔x∈r.map (·.1):=by
    rw [List.mem_cons]
    exact⟨λz=>z.resolve_left λe=>h e.symm,.inr⟩
   by_cases hm:x∈r.map (·.1)
   ·rw [if_pos hm,if_pos (this.mpr hm)]
   ·rw [if_neg hm,if_neg λz=>hm (this.mp z)]
theorem ie {f:PD->List Str} {ls:List aF} {ps:List PD} (F:uD ls ps) (pm:(ps.flatMap f).Perm (ls.map (·.name))) {p:PD} (hp:p∈ps) {l:aF} (hl:l∈ls):l.name∈f p↔qG f ps l.name=p.name:=by
 have nd:=pm.nodup_iff.mpr F.whole.nod
 constructor
 ·exact λh=>ph nd hp h
 ·intro h
  obtain⟨q,hq,hx⟩:=List.mem_flatMap.mp (pm.mem_iff.mpr (List.mem_map.mpr ⟨l,hl,rfl⟩))
  rw [ph nd hq hx] at h
  rw [<-DQ F.pnd hq hp h]
  exact hx
noncomputable def Shp (w:PD×ju):Prop:=w.2.tk=w.1.ins/\w.2.gv.map (·.1)=w.1.outs
theorem Ym {ls:List aF} {ps:List PD} {S:FS} (F:uD ls ps) (C:Calm ps) {p:PD} (hp:p∈ps) {dd:ju} (h:lC S p=some dd):Shp (p,dd):=by
 obtain⟨_,_,rfl⟩:=su h
 have ok:=F.pok p hp
 have k9:=C p hp
 exact⟨OD (S:=S) ok (by omega),Pn (S:=S) ok (by omega)⟩
theorem o8.do {ls:List aF} {ps:List PD} {S:FS} (F:uD ls ps) (c:o8 ls ps S) {w:PD×ju} (hp:w.1∈ps) (hw:Shp w):o8 ls ps (Cz S w.1.name w.2):=by
 refine⟨λl hl=>?_,λl hl=>?_⟩
 ·show(S.ev l.name ++ _).length=_+if _ then _ else _
  rw [lP,Xb hw.2 (J0 (F.whole.outs.nodup_iff.mpr F.whole.nod) hp),c.ev l hl]
  by_cases h:l.name∈w.1.outs
  ·rw [if_pos h,if_pos ((ie F F.whole.outs hp hl).mp h)];omega
  ·rw [if_neg h,if_neg λz=>h ((ie F F.whole.outs hp hl).mpr z)];omega
 ·show(if _ then _ else _)=if _ then _ else _
  rw [hw.1,c.g l hl]
  by_cases h:l.name∈w.1.ins
  ·rw [if_pos h,if_pos ((ie F F.whole.ins hp hl).mp h)]
  ·rw [if_neg h,if_neg λz=>h ((ie F F.whole.ins hp hl).mpr z)]
theorem o8.all {ls:List aF} {ps:List PD} (F:uD ls ps):∀{ws:List (PD×ju)} {S:FS},o8 ls ps S->(∀w∈ws,w.1∈ps/\Shp w)->o8 ls ps (jL S ws)
 | [],_,c,_=>c
 | w:: r,S,c,h=>by
  obtain⟨h1,h2⟩:=h w List.mem_cons_self
  exact o8.all F (ws:=r) (S:=Cz S w.1.name w.2) (c.do F h1 h2) λv hv=>h v (List.mem_cons_of_mem _ hv)
theorem o8.turn {ls:List aF} {ps:List PD} {S:FS} (F:uD ls ps) (C:Calm ps) (c:o8 ls ps S) (xs:List Str):o8 ls ps (lL ls ps S xs):=c.all F λw hw=>by
 obtain⟨h1,_,h3⟩:=wW hw
 exact⟨h1,Ym F C h1 (m8 h3).1⟩
theorem o8.start {ls:List aF} {ps:List PD} (F:uD ls ps) (RW:List (Str×Addr×List Int)):o8 ls ps (jT ls ps RW):=⟨λl hl=>by
 show(Mj ls l.name).length=l.first.length+0
 rw [yG F.whole.nod hl,Nat.add_zero],λl hl=>rfl⟩
theorem Hc (S:FS) (x:Str):rO S x=decide ((S.ev x).length<=S.g x):=by
 unfold rO kY
 cases h:(S.ev x)[S.g x]? with
 | none=>rw [decide_eq_true (List.getElem?_eq_none_iff.mp h)];rfl
 | some n=>
  have:=(List.getElem?_eq_some_iff.mp h).1
  have e:decide ((S.ev x).length<=S.g x)=false:=decide_eq_false (by omega)
  rw [e]
  rfl
noncomputable def Gu (S:FS) (a:iM):Int:=a.tk+(S.d a.fr:Int) - (S.d a.to:Int)
theorem xx {α:Type} {p:α->Bool} {l:List α}:l.find? p=none↔∀x∈l,p x=false:=by
 rw [List.find?_eq_none]
 exact⟨λh x hx=>Bool.eq_false_iff.mpr (h x hx),λh x hx=>by rw [h x hx];simp⟩
theorem Li {ls:List aF} {ps:List PD} {S:FS} (F:uD ls ps) (C:Calm ps) (c:o8 ls ps S) {p:PD} (hp:p∈ps):(gO ls S p).isSome=true↔(∀a∈bG ls ps,a.to=p.name->1<=Gu S a)/\z9 S p=false:=by
 have ok:=F.pok p hp
 have k9:=C p hp
 have hi:∀x∈p.ins,∃l∈ls,l.name=x:=λx hx=>by
  obtain⟨l,hl,e⟩:=List.mem_map.mp (F.whole.ins.mem_iff.mp (List.mem_flatMap.mpr ⟨p,hp,hx⟩))
  exact⟨l,hl,e⟩
 have ho:∀x∈p.outs,∃l∈ls,l.name=x:=λx hx=>by
  obtain⟨l,hl,e⟩:=List.mem_map.mp (F.whole.outs.mem_iff.mp (List.mem_flatMap.mpr ⟨p,hp,hx⟩))
  exact⟨l,hl,e⟩
 have arcs:(∀a∈bG ls ps,a.to=p.name->1<=Gu S a)↔(∀x∈p.ins,rO S x=false)/\∀x∈p.outs,Ke ls S x=false:=by
  constructor
  ·refine λh=>⟨λx hx=>?_,λx hx=>?_⟩
   ·obtain⟨l,hl,rfl⟩:=hi x hx
    have e:=(ie F F.whole.ins hp hl).mp hx
    have:=h ⟨qG (·.outs) ps l.name,qG (·.ins) ps l.name,(l.first.length:Nat),l.name, "along"⟩ (List.mem_append.mpr (.inl (List.mem_flatMap.mpr ⟨l,hl,by unfold lH;exact List.mem_cons_self⟩))) e
    unfold Gu at this
    dsimp only at this
    rw [Hc,c.ev l hl,c.g l hl]
    exact decide_eq_false (by omega)
   ·obtain⟨l,hl,rfl⟩:=ho x hx
    have e:=(ie F F.whole.outs hp hl).mp hx
    have:=h ⟨qG (·.ins) ps l.name,qG (·.outs) ps l.name,l.room - (l.first.length:Nat),l.name, "against"⟩ (List.mem_append.mpr (.inl (List.mem_flatMap.mpr ⟨l,hl,by unfold lH;exact List.mem_cons_of_mem _ List.mem_cons_self⟩))) e
    unfold Gu at this
    dsimp only at this
    unfold Ke
    rw [Fd F.whole.nod hl,c.ev l hl,c.g l hl]
    exact decide_eq_false (by omega)
  ·rintro⟨h1,h2⟩ a ha e
   unfold bG at ha
   rcases List.mem_append.mp ha with h | h
   ·obtain⟨l,hl,h⟩:=List.mem_flatMap.mp h
    unfold lH at h
    simp only [List.mem_cons,List.not_mem_nil,or_false] at h
    rcases h with h | h
    ·rw [h] at e ⊢
     have:=h1 l.name ((ie F F.whole.ins hp hl).mpr e)
     rw [Hc,c.ev l hl,c.g l hl] at this
     have:=of_decide_eq_false this
     unfold Gu
     dsimp only
     omega
    ·rw [h] at e ⊢
     have:=h2 l.name ((ie F F.whole.outs hp hl).mpr e)
     unfold Ke at this
     rw [Fd F.whole.nod hl,c.ev l hl,c.g l hl] at this
     have:=of_decide_eq_false this
     unfold Gu
     dsimp only
     omega
   ·obtain⟨q,_,rfl⟩:=List.mem_map.mp h
    unfold Gu Bj
    dsimp only
    omega
 rw [arcs]
 have hl:fG p.kind p.ins (bc S p)=.non↔∀x∈p.ins,rO S x=false:=by
  rw [Uw ok,OD ok (by omega),<-xx]
  cases p.ins.find? (rO S) with
  | none=>simp
  | some x=>simp
 have hf:(Zq S p).find? (zu ls S)=none↔∀x∈p.outs,Ke ls S x=false:=by
  have:=SJ ls S p
  rw [Pn ok (by omega)] at this
  rw [<-xx,this,Option.map_eq_none_iff]
 rw [<-hl,<-hf]
 unfold gO lC
 by_cases h1:fG p.kind p.ins (bc S p)=.non
 ·rw [if_neg (by simpa using h1)]
  cases h2:z9 S p with
  | true=>simp
  | false=>
   rw [if_neg (by simp)]
   show((if yU ls S ⟨_,Zq S p,_⟩=.non then _ else none):Option ju).isSome=true↔_
   unfold yU
   cases h3:(Zq S p).find? (zu ls S) with
   | none=>simp [h1]
   | some q=>simp
 ·rw [if_pos h1]
  simp [h1]
theorem KC {ls:List aF} {ps:List PD} {S:FS} {xs:List Str} (F:uD ls ps) {p:PD} (hp:p∈ps):p.name∈(qW ls ps S xs).map (λw=>w.1.name)↔pO xs p=true/\(gO ls S p).isSome=true:=by
 constructor
 ·intro h
  obtain⟨w,hw,e⟩:=List.mem_map.mp h
  obtain⟨h1,h2,h3⟩:=wW hw
  rw [DQ F.pnd h1 hp e] at h2 h3
  exact⟨h2,by rw [h3];rfl⟩
 ·rintro⟨h1,h2⟩
  obtain⟨dd,hd⟩:=Option.isSome_iff_exists.mp h2
  exact List.mem_map.mpr ⟨(p,dd),List.mem_filterMap.mpr ⟨p,List.mem_filter.mpr ⟨hp,h1⟩,by rw [hd];rfl⟩,rfl⟩
theorem Nh {ls:List aF} {ps:List PD} {S:FS} {xs:List Str} (F:uD ls ps) (x:Str):(lL ls ps S xs).d x=S.d x+if x∈(qW ls ps S xs).map (λw=>w.1.name) then 1 else 0:=by
 unfold lL
 rw [J6]
 have nd:=Vc (ls:=ls) (S:=S) (xs:=xs) F.pnd
 generalize qW ls ps S xs=ws at nd
 congr 1
 induction ws with
 | nil=>rfl
 | cons w r ih=>
  rw [List.map_cons,List.nodup_cons] at nd
  rw [List.filter_cons,List.map_cons]
  by_cases h:w.1.name=x
  ·rw [if_pos (decide_eq_true h),List.length_cons,ih nd.2,if_neg (by rw [<-h];exact nd.1),if_pos (by rw [h];exact List.mem_cons_self)]
  ·rw [if_neg (by simpa using h),ih nd.2]
   have:(x∈w.1.name:: r.map λw=>w.1.name)↔x∈r.map λw=>w.1.name:=by
    rw [List.mem_cons]
    exact⟨λz=>z.resolve_left λe=>h e.symm,.inr⟩
   by_cases hm:x∈r.map λw=>w.1.name
   ·rw [if_pos hm,if_pos (this.mpr hm)]
   ·rw [if_neg hm,if_neg λz=>hm (this.mp z)]
theorem ye {ls:List aF} {ps:List PD} (F:uD ls ps):∀a∈bG ls ps,0<=a.tk/\∃p∈ps,p.name=a.fr:=λa ha=>by
 unfold bG at ha
 rcases List.mem_append.mp ha with h | h
 ·obtain⟨l,hl,h⟩:=List.mem_flatMap.mp h
  have lk:=F.lok l hl
  obtain⟨q1,hq1,hx1⟩:=List.mem_flatMap.mp (F.whole.outs.mem_iff.mpr (List.mem_map.mpr ⟨l,hl,rfl⟩))
  obtain⟨q2,hq2,hx2⟩:=List.mem_flatMap.mp (F.whole.ins.mem_iff.mpr (List.mem_map.mpr ⟨l,hl,rfl⟩))
  unfold lH at h
  simp only [List.mem_cons,List.not_mem_nil,or_false] at h
  rcases h with h | h <;> rw [h]
  ·exact⟨by dsimp only;omega,q1,hq1,((ie F F.whole.outs hq1 hl).mp hx1).symm⟩
  ·exact⟨by dsimp only;omega,q2,hq2,((ie F F.whole.ins hq2 hl).mp hx2).symm⟩
 ·obtain⟨p,hp,rfl⟩:=List.mem_map.mp h
  exact⟨by show(0:Int)<=1;decide,p,hp,rfl⟩
noncomputable def ux (ls:List aF) (ps:List PD) (S:FS):Nat->FS
 | 0=>S
 | n+1=>lL ls ps (ux ls ps S n) []
theorem Jc {ls:List aF} {ps:List PD} {S:FS} (F:uD ls ps) (C:Calm ps) (c:o8 ls ps S):∀n,o8 ls ps (ux ls ps S n)
 | 0=>c
 | n+1=>(Jc F C c n).turn F C []
section
variable {ls:List aF} {ps:List PD} {S:FS}
theorem SM (F:uD ls ps) (n:Nat) (x:Str):(ux ls ps S n).d x<=(ux ls ps S (n+1)).d x:=by
 show _<=(lL ls ps (ux ls ps S n) []).d x
 rw [Nh F]
 omega
theorem Y6 (F:uD ls ps) {n m:Nat} (h:n<=m) (x:Str):(ux ls ps S n).d x<=(ux ls ps S m).d x:=by
 induction m with
 | zero=>rw [Nat.le_zero.mp h];exact Nat.le_refl _
 | succ m ih=>
  rcases Nat.lt_or_ge n (m+1) with z | z
  ·exact Nat.le_trans (ih (by omega)) (SM F m x)
  ·rw [Nat.le_antisymm h z];exact Nat.le_refl _
theorem Tg (F:uD ls ps):∀a∈bG ls ps,∃p∈ps,p.name=a.to:=λa ha=>by
 unfold bG at ha
 rcases List.mem_append.mp ha with h | h
 ·obtain⟨l,hl,h⟩:=List.mem_flatMap.mp h
  obtain⟨q1,hq1,hx1⟩:=List.mem_flatMap.mp (F.whole.outs.mem_iff.mpr (List.mem_map.mpr ⟨l,hl,rfl⟩))
  obtain⟨q2,hq2,hx2⟩:=List.mem_flatMap.mp (F.whole.ins.mem_iff.mpr (List.mem_map.mpr ⟨l,hl,rfl⟩))
  unfold lH at h
  simp only [List.mem_cons,List.not_mem_nil,or_false] at h
  rcases h with h | h <;> rw [h]
  ·exact⟨q2,hq2,((ie F F.whole.ins hq2 hl).mp hx2).symm⟩
  ·exact⟨q1,hq1,((ie F F.whole.outs hq1 hl).mp hx1).symm⟩
 ·obtain⟨p,hp,rfl⟩:=List.mem_map.mp h
  exact⟨p,hp,rfl⟩
theorem Dg (F:uD ls ps) (C:Calm ps) (c:o8 ls ps S) (d0:∀x,S.d x=0):∀n,∀a∈bG ls ps,((ux ls ps S n).d a.to:Int)<=a.tk+(ux ls ps S n).d a.fr/\((ux ls ps S (n+1)).d a.to:Int)<=a.tk+(ux ls ps S n).d a.fr
 | n,a,ha=>by
  obtain⟨p,hp,ep⟩:=Tg F a ha
  have base:((ux ls ps S n).d a.to:Int)<=a.tk+(ux ls ps S n).d a.fr:=by
   cases n with
   | zero=>
    have:=(ye F a ha).1
    show(S.d a.to:Int)<=a.tk+S.d a.fr
    rw [d0,d0]
    omega
   | succ n=>
    have h1:=(Dg F C c d0 n a ha).2
    have h2:=SM (S:=S) F n a.fr
    omega
  refine⟨base,?_⟩
  show((lL ls ps (ux ls ps S n) []).d a.to:Int)<=_
  rw [Nh F]
  by_cases hw:a.to∈(qW ls ps (ux ls ps S n) []).map (λw=>w.1.name)
  ·rw [if_pos hw]
   rw [<-ep] at hw
   have:=((Li F C (Jc F C c n) hp).mp ((KC F hp).mp hw).2).1 a ha ep.symm
   unfold Gu at this
   omega
  ·rw [if_neg hw]
   omega
theorem RN (F:uD ls ps) (C:Calm ps) (c:o8 ls ps S) (ne:∀n,∀p∈ps,z9 (ux ls ps S n) p=false) {top bot:Int} {tm:Str->Int} (h1:top<=bot) (h0:0<=bot) (pos:∀x,0<=tm x) (sat:∀a∈bG ls ps,tm a.fr+(top - bot * a.tk)<=tm a.to):∀(n:Nat),∀p∈ps,(n:Int) * top - tm p.name<=bot * ((ux ls ps S n).d p.name:Int)
 | 0,p,hp=>by
  have:=pos p.name
  have h2:0<=bot * ((ux ls ps S 0).d p.name:Int):=Int.mul_nonneg h0 (Int.natCast_nonneg _)
  rw [Int.natCast_zero,Int.zero_mul]
  omega
 | n+1,p,hp=>by
  have ih:=RN F C c ne h1 h0 pos sat n
  have e:((n+1:Nat):Int) * top=(n:Int) * top+top:=by rw [Int.natCast_succ,Int.add_mul,Int.one_mul]
  rw [e]
  show _<=bot * ((lL ls ps (ux ls ps S n) []).d p.name:Int)
  rw [Nh F]
  by_cases hw:p.name∈(qW ls ps (ux ls ps S n) []).map (λw=>w.1.name)
  ·rw [if_pos hw]
   have:=ih p hp
   have e2:bot * (((ux ls ps S n).d p.name+1:Nat):Int)=bot * ((ux ls ps S n).d p.name:Int)+bot:=by rw [Int.natCast_succ,Int.mul_add,Int.mul_one]
   rw [e2]
   omega
  ·rw [if_neg hw,Nat.add_zero]
   obtain⟨a,ha,ea,ht⟩:∃a∈bG ls ps,a.to=p.name/\Gu (ux ls ps S n) a <1:=Classical.byContradiction λz=>hw ((KC F hp).mpr ⟨by simp [pO],(Li F C (Jc F C c n) hp).mpr ⟨λa ha e=>Classical.byContradiction λz2=>z ⟨a,ha,e,by omega⟩,ne n p hp⟩⟩)
   obtain⟨_,q,hq,eq⟩:=ye F a ha
   have h2:=ih q hq
   have h3:=sat a ha
   unfold Gu at ht
   rw [ea] at ht h3
   rw [<-eq] at ht h3
   have h4:bot * (a.tk+((ux ls ps S n).d q.name:Int))<=bot * ((ux ls ps S n).d p.name:Int):=Int.mul_le_mul_of_nonneg_left (by omega) h0
   rw [Int.mul_add] at h4
   omega
theorem YF (F:uD ls ps) (C:Calm ps) (c:o8 ls ps S) (d0:∀x,S.d x=0) (n:Nat) {s x:Str} {l:List Str} {v:Int} (w:Wk (bG ls ps) s l x v):((ux ls ps S n).d x:Int)<=(ux ls ps S n).d s+v:=by
 induction w with
 | nil=>omega
 | @step l v a w ha ih=>
  have:=(Dg F C c d0 n a ha).1
  omega
theorem O3 (F:uD ls ps) (C:Calm ps) (c:o8 ls ps S) (d0:∀x,S.d x=0) {cs:List iM} (hm:∀a∈cs,a∈bG ls ps) (hc:QR cs) (n:Nat):∀i,∀b b0,cs[i]?=some b->cs[0]?=some b0->((ux ls ps S (n+i+1)).d b.to:Int)<=((cs.take (i+1)).map (·.tk)).sum+(ux ls ps S n).d b0.fr
 | 0,b,b0,hb,h0=>by
  rw [hb] at h0
  cases h0
  have:=(Dg F C c d0 n b (hm b (List.mem_of_getElem? hb))).2
  rw [List.take_succ,hb]
  simpa using this
 | i+1,b,b0,hb,h0=>by
  obtain⟨b',hb',e⟩:=hc (i+1) b hb
  rw [if_neg (by omega),Nat.add_sub_cancel] at hb'
  have ih:=O3 F C c d0 hm hc n i b' b0 hb' h0
  have:=(Dg F C c d0 (n+i+1) b (hm b (List.mem_of_getElem? hb))).2
  rw [List.take_succ,hb,Option.toList_some,List.map_append,List.sum_append,List.map_singleton,List.sum_singleton]
  rw [e] at this
  rw [show n+(i+1)+1=n+i+1+1 by omega]
  omega
theorem HW (F:uD ls ps) (C:Calm ps) (c:o8 ls ps S) (d0:∀x,S.d x=0) {cs:List iM} (hm:∀a∈cs,a∈bG ls ps) (hc:QR cs) {b0:iM} (h0:cs[0]?=some b0):∀k:Nat,((ux ls ps S (k * cs.length)).d b0.fr:Int)<=(k:Int) * (cs.map (·.tk)).sum
 | 0=>by
  rw [Nat.zero_mul]
  show(S.d _:Int)<=_
  rw [d0]
  simp
 | k+1=>by
  have ih:=HW F C c d0 hm hc h0 k
  have hl:=(List.getElem?_eq_some_iff.mp h0).1
  obtain⟨b',hb',e⟩:=hc 0 b0 h0
  rw [if_pos rfl] at hb'
  have:=O3 F C c d0 hm hc (k * cs.length) (cs.length - 1) b' b0 hb' h0
  rw [show k * cs.length+(cs.length - 1)+1=(k+1) * cs.length by rw [Nat.succ_mul];omega,show cs.length - 1+1=cs.length by omega,List.take_length,<-e] at this
  rw [Int.natCast_succ,Int.add_mul,Int.one_mul]
  omega
theorem VJ (F:uD ls ps) (C:Calm ps) (c:o8 ls ps S) (d0:∀x,S.d x=0) {cs:List iM} (hm:∀a∈cs,a∈bG ls ps) (hc:QR cs) {b0:iM} (h0:cs[0]?=some b0) {x:Str} {l:List Str} {v:Int} (w:Wk (bG ls ps) b0.fr l x v) (n:Nat):((ux ls ps S n).d x:Int)<=(cs.map (·.tk)).sum * (((n+cs.length - 1) / cs.length:Nat):Int)+v:=by
 have h1:=YF F C c d0 n w
 have hl:=(List.getElem?_eq_some_iff.mp h0).1
 have h2:=HW F C c d0 hm hc h0 ((n+cs.length - 1) / cs.length)
 have h3:n<=(n+cs.length - 1) / cs.length * cs.length:=by
  have e:=Nat.div_add_mod (n+cs.length - 1) cs.length
  have:=Nat.mod_lt (n+cs.length - 1) hl
  rw [Nat.mul_comm] at e
  omega
 have h4:=Y6 (S:=S) F h3 b0.fr
 rw [Int.mul_comm]
 omega
end
structure aaX (ls:List aF) (ps:List PD) (rk:Str->Nat):Prop where
 up:∀a∈bG ls ps,a.tk=0->rk a.fr <rk a.to
theorem zZ {names:List Str} {bare:List iM}:∀{n:Nat} {x:Str} {k:Nat},(x,k)∈bK names bare n->k <n/\∀a∈bare,a.to=x->∃k',k' <k/\(a.fr,k')∈bK names bare n
 | 0,_,_,h=>by cases h
 | n+1,x,k,h=>by
  have h:(x,k)∈bK names bare n ++ (uh names bare (bK names bare n)).map λx=>(x,n):=h
  have sub:∀{q:Str×Nat},q∈bK names bare n->q∈bK names bare (n+1):=λh=>List.mem_append.mpr (.inl h)
  rcases List.mem_append.mp h with h | h
  ·obtain⟨h1,h2⟩:=zZ h
   exact⟨by omega,λa ha e=>by obtain⟨k',h3,h4⟩:=h2 a ha e;exact⟨k',h3,sub h4⟩⟩
  ·obtain⟨y,hy,e⟩:=List.mem_map.mp h
   cases e
   have:=(List.mem_filter.mp hy).2
   rw [Bool.and_eq_true] at this
   have hb:=this.2
   rw [Bool.not_eq_true',List.any_eq_false] at hb
   refine⟨by omega,λa ha e=>?_⟩
   have:=hb a ha
   rw [decide_eq_true e,Bool.and_true,Bool.not_eq_true',Bool.not_eq_false] at this
   obtain⟨k',hk'⟩:=Option.isSome_iff_exists.mp this
   unfold cB at hk'
   obtain⟨q,hq,rfl⟩:=Option.map_eq_some_iff.mp hk'
   have hm:=List.mem_of_find?_eq_some hq
   have hn:q.1=a.fr:=by simpa using List.find?_some hq
   refine⟨q.2,(zZ (x:=q.1) hm).1,sub ?_⟩
   rw [<-hn]
   exact hm
theorem Vj {ls:List aF} {ps:List PD} {ra:List AA} {rk:List (Str×Nat)} (F:uD ls ps) (era:ra.map (·.1)=bG ls ps) (erk:rk=bK (ps.map (·.name)) ((mF ra).map (·.1)) (ps.map (·.name)).length) (hl:xW (ps.map (·.name)) rk=[]):aaX ls ps (λx=>(cB rk x).getD 0)/\(rk.map (·.1)).Nodup/\∀q∈rk,(∃p∈ps,p.name=q.1)/\cB rk q.1=some q.2:=by
 obtain⟨nd,hin⟩:=wL F.pnd ((mF ra).map (·.1)) (ps.map (·.name)).length
 rw [<-erk] at nd hin
 have get:∀q∈rk,cB rk q.1=some q.2:=λq hq=>by
  unfold cB
  cases e:rk.find? λz=>decide (z.1=q.1) with
  | none=>exact absurd (decide_eq_true rfl) (List.find?_eq_none.mp e q hq)
  | some z=>
   have h1:=List.mem_of_find?_eq_some e
   have h2:z.1=q.1:=by simpa using List.find?_some e
   have:∀{l:List (Str×Nat)},(l.map (·.1)).Nodup->∀{a b:Str×Nat},a∈l->b∈l->a.1=b.1->a=b:=λ{l}=>by
    induction l with
    | nil=>intro _ a b ha;cases ha
    | cons c r ih=>
     intro nd a b ha hb e
     rw [List.map_cons,List.nodup_cons] at nd
     rcases List.mem_cons.mp ha with h1 | h1
     ·rcases List.mem_cons.mp hb with h2 | h2
      ·rw [h1,h2]
      ·exact absurd (List.mem_map.mpr ⟨b,h2,by rw [<-e,h1]⟩) nd.1
     ·rcases List.mem_cons.mp hb with h2 | h2
      ·exact absurd (List.mem_map.mpr ⟨a,h1,by rw [e,h2]⟩) nd.1
      ·exact ih nd.2 h1 h2 e
   rw [this nd h1 hq h2]
   rfl
 refine⟨⟨λa ha h0=>?_⟩,nd,λq hq=>⟨?_,get q hq⟩⟩
 ·have hto:∃p∈ps,p.name=a.to:=by
   unfold bG at ha
   rcases List.mem_append.mp ha with h | h
   ·obtain⟨l,hl,h⟩:=List.mem_flatMap.mp h
    obtain⟨q1,hq1,hx1⟩:=List.mem_flatMap.mp (F.whole.outs.mem_iff.mpr (List.mem_map.mpr ⟨l,hl,rfl⟩))
    obtain⟨q2,hq2,hx2⟩:=List.mem_flatMap.mp (F.whole.ins.mem_iff.mpr (List.mem_map.mpr ⟨l,hl,rfl⟩))
    unfold lH at h
    simp only [List.mem_cons,List.not_mem_nil,or_false] at h
    rcases h with h | h <;> rw [h]
    ·exact⟨q2,hq2,((ie F F.whole.ins hq2 hl).mp hx2).symm⟩
    ·exact⟨q1,hq1,((ie F F.whole.outs hq1 hl).mp hx1).symm⟩
   ·obtain⟨p,hp,rfl⟩:=List.mem_map.mp h
    exact⟨p,hp,rfl⟩
  obtain⟨p,hp,ep⟩:=hto
  have hs:(cB rk a.to).isSome=true:=by
   cases e:(cB rk a.to).isSome with
   | true=>rfl
   | false=>
    have:a.to∈xW (ps.map (·.name)) rk:=List.mem_filter.mpr ⟨List.mem_map.mpr ⟨p,hp,ep⟩,by rw [e];rfl⟩
    rw [hl] at this
    cases this
  obtain⟨k,hk⟩:=Option.isSome_iff_exists.mp hs
  have hm:(a.to,k)∈rk:=by
   have:=hk
   unfold cB at this
   obtain⟨q,hq,rfl⟩:=Option.map_eq_some_iff.mp this
   have hn:q.1=a.to:=by simpa using List.find?_some hq
   rw [<-hn]
   exact List.mem_of_find?_eq_some hq
  rw [erk] at hm
  obtain⟨q,hq,eq⟩:=List.mem_map.mp (show a∈ra.map (·.1) by rw [era];exact ha)
  obtain⟨k',h1,h2⟩:=(zZ hm).2 a (List.mem_map.mpr ⟨q,List.mem_filter.mpr ⟨hq,by rw [eq,h0];exact decide_eq_true rfl⟩,eq⟩) rfl
  rw [<-erk] at h2
  rw [hk,get _ h2]
  exact h1
 ·obtain⟨p,hp,e⟩:=List.mem_map.mp (hin q.1 (List.mem_map.mpr ⟨q,hq,rfl⟩))
  exact⟨p,hp,e⟩
theorem Calm.odd {ps:List PD} (h:Calm ps):Gq ps=.non:=by
 have key:∀i,i <9->(decide (fQ i= "choose") || decide (fQ i= "split"))=false:=by decide +kernel
 unfold Gq
 rw [List.find?_eq_none.mpr λp hp=>by unfold Jj;rw [key _ (h p hp)];exact Bool.false_ne_true]
theorem Y4:∀i,i <12->∀j,j <12->aN i=aN j->i=j:=by decide +kernel
theorem Yr:∀i,i <12->∀j,j <12->bN i=bN j->i=j:=by decide +kernel
theorem Yb:∀i,i <12->nameB (aN i)=true/\nameB (bN i)=true:=by decide +kernel
noncomputable def Yt (x:Str):Nat:=((List.range 12).find? λk=>decide (aN k=x)).getD 0
theorem RJ:∀k,k <12->Yt (aN k)=k:=by decide +kernel
theorem S6 {f:Nat->Str} {m:Nat} (inj:∀i,i <m->∀j,j <m->f i=f j->i=j):((List.range m).map f).Nodup:=by
 unfold List.Nodup
 rw [List.pairwise_map]
 exact List.Pairwise.imp_of_mem (λha hb hne e=>hne (inj _ (List.mem_range.mp ha) _ (List.mem_range.mp hb) e)) List.nodup_range
section
variable {m i:Nat} {rm:Nat->Int} {fs:Nat->List Int}
noncomputable def CN (m:Nat) (rm:Nat->Int) (fs:Nat->List Int):List aF:=(List.range m).map λk=>⟨bN k,rm k,fs k⟩
noncomputable def GF (m i:Nat):List PD:=((List.range m).map (rP m)).drop i ++ ((List.range m).map (rP m)).take i
theorem qQ (m i:Nat):(GF m i).Perm ((List.range m).map (rP m)):=List.perm_append_comm.trans (by rw [List.take_append_drop])
theorem CZ {k:Nat} (hk:k <m):rP m k∈GF m i:=(qQ m i).mem_iff.mpr (List.mem_map.mpr ⟨k,List.mem_range.mpr hk,rfl⟩)
theorem Av {p:PD} (hp:p∈GF m i):∃k,k <m/\p=rP m k:=by
 obtain⟨k,hk,e⟩:=List.mem_map.mp ((qQ m i).mem_iff.mp hp)
 exact⟨k,List.mem_range.mp hk,e.symm⟩
theorem Q8 (m:Nat) (rm:Nat->Int) (fs:Nat->List Int):(CN m rm fs).map (·.name)=(List.range m).map bN:=by unfold CN;rw [List.map_map];rfl
theorem RM (m1:1<=m) (m12:m<=12):HS ((List.range m).map bN) (GF m i):=by
 refine⟨S6 λi hi j hj=>Yr i (by omega) j (by omega),?_,?_,?_⟩
 ·refine((qQ m i).flatMap_right (·.outs)).trans ?_
  have e:((List.range m).map (rP m)).flatMap (·.outs)=((List.range m).map λk=>(k+1) % m).map bN:=by
   rw [List.flatMap_map,List.map_map]
   induction List.range m with
   | nil=>rfl
   | cons a r ih=>rw [List.flatMap_cons,ih];rfl
  rw [e]
  exact(Pb (by omega)).2.map bN
 ·refine((qQ m i).flatMap_right (·.ins)).trans ?_
  have e:((List.range m).map (rP m)).flatMap (·.ins)=(List.range m).map bN:=by
   rw [List.flatMap_map]
   induction List.range m with
   | nil=>rfl
   | cons a r ih=>rw [List.flatMap_cons,ih];rfl
  rw [e]
 ·refine⟨bN 0,λq hq=>?_⟩
  obtain⟨k,hk,rfl⟩:=Av hq
  refine⟨bN k,List.mem_append.mpr (.inl (List.mem_singleton.mpr rfl)),?_⟩
  have key:∀k,k <m->Drawn.iZ (GF m i) (bN k) (bN 0):=λk=>by
   induction k with
   | zero=>exact λ_=>.refl _
   | succ k ih=>
    intro hk
    refine .step (CZ (i:=i) (show k <m by omega)) (x:=bN (k+1)) (y:=bN k) (List.mem_append.mpr (.inr ?_)) (List.mem_append.mpr (.inl (List.mem_singleton.mpr rfl))) (ih (by omega))
    show bN (k+1)∈[bN ((k+1) % m)]
    rw [Nat.mod_eq_of_lt hk]
    exact List.mem_singleton.mpr rfl
  exact key k hk
theorem abm (m1:1<=m) (m12:m<=12) (hi:i <m) (ok:∀k,k <m->1<=rm k/\rm k<=9/\((fs k).length:Int)<=rm k/\∀v∈fs k,0<=v/\v <1000000000):uD (CN m rm fs) (GF m i):=by
 have ll:∀l∈CN m rm fs,∃k,k <m/\l=⟨bN k,rm k,fs k⟩:=λl hl=>by
  obtain⟨k,hk,e⟩:=List.mem_map.mp hl
  exact⟨k,List.mem_range.mp hk,e.symm⟩
 have lp:(GF m i).length=m:=by rw [(qQ m i).length_eq,lM,List.length_range]
 refine⟨λl hl=>?_,λp hp=>?_,λl hl=>?_,λp hp=>?_,?_,?_,?_,?_,?_,?_⟩
 ·obtain⟨k,hk,rfl⟩:=ll l hl
  have:=ok k hk
  exact⟨this.1,by dsimp only;omega,this.2.2.1,this.2.2.2⟩
 ·obtain⟨k,hk,rfl⟩:=Av hp
  exact⟨by show 2 <11;decide,rfl,rfl,rfl,by intro v hv;cases hv⟩
 ·obtain⟨k,hk,rfl⟩:=ll l hl
  exact(Yb k (by omega)).2
 ·obtain⟨k,hk,rfl⟩:=Av hp
  exact(Yb k (by omega)).1
 ·refine((qQ m i).map (·.name)).nodup_iff.mpr ?_
  rw [List.map_map]
  exact S6 λi hi j hj=>Y4 i (by omega) j (by omega)
 ·rw [Q8];exact RM m1 m12
 ·unfold CN;rw [lM,List.length_range];exact m1
 ·unfold CN;rw [lM,List.length_range];omega
 ·rw [lp];exact m1
 ·rw [lp];omega
theorem ZG:Calm (GF m i):=λp hp=>by
 obtain⟨k,_,rfl⟩:=Av hp
 show 2 <9
 decide
theorem UG (m1:1<=m) (m12:m<=12) {k:Nat} (hk:k <m):qG (·.outs) (GF m i) (bN k)=aN (pr m k)/\qG (·.ins) (GF m i) (bN k)=aN k:=by
 have W:=RM (i:=i) m1 m12
 refine⟨ph (W.outs.nodup_iff.mpr W.nod) (CZ (Xz m1)) ?_,ph (W.ins.nodup_iff.mpr W.nod) (CZ hk) (List.mem_singleton.mpr rfl)⟩
 show bN k∈[bN ((pr m k+1) % m)]
 rw [Wj hk]
 exact List.mem_singleton.mpr rfl
theorem aag (m1:1<=m) (m12:m<=12) {f:Str->Int} {p q:Int}:(∀a∈bG (CN m rm fs) (GF m i),f a.fr+(p - q * a.tk)<=f a.to)↔(∀k,k <m->f (aN (pr m k))+(p - q * ((fs k).length:Int))<=f (aN k)/\f (aN k)+(p - q * (rm k - ((fs k).length:Int)))<=f (aN (pr m k)))/\p<=q:=by
 constructor
 ·refine λh=>⟨λk hk=>?_,?_⟩
  ·obtain⟨e1,e2⟩:=UG (i:=i) m1 m12 hk
   have hl:(⟨bN k,rm k,fs k⟩:aF)∈CN m rm fs:=List.mem_map.mpr ⟨k,List.mem_range.mpr hk,rfl⟩
   have h1:=h ⟨qG (·.outs) (GF m i) (bN k),qG (·.ins) (GF m i) (bN k),((fs k).length:Nat),bN k, "along"⟩ (List.mem_append.mpr (.inl (List.mem_flatMap.mpr ⟨_,hl,by unfold lH;exact List.mem_cons_self⟩)))
   have h2:=h ⟨qG (·.ins) (GF m i) (bN k),qG (·.outs) (GF m i) (bN k),rm k - ((fs k).length:Nat),bN k, "against"⟩ (List.mem_append.mpr (.inl (List.mem_flatMap.mpr ⟨_,hl,by unfold lH;exact List.mem_cons_of_mem _ List.mem_cons_self⟩)))
   dsimp only at h1 h2
   rw [e1,e2] at h1 h2
   exact⟨h1,h2⟩
  ·have:=h (Bj (rP m 0)) (List.mem_append.mpr (.inr (List.mem_map.mpr ⟨_,CZ m1,rfl⟩)))
   unfold Bj at this
   dsimp only at this
   omega
 ·rintro⟨h,hpq⟩ a ha
  unfold bG at ha
  rcases List.mem_append.mp ha with h1 | h1
  ·obtain⟨l,hl,h1⟩:=List.mem_flatMap.mp h1
   obtain⟨k,hk,rfl⟩:=List.mem_map.mp hl
   have hk:=List.mem_range.mp hk
   obtain⟨e1,e2⟩:=UG (i:=i) m1 m12 hk
   unfold lH at h1
   simp only [List.mem_cons,List.not_mem_nil,or_false] at h1
   rcases h1 with rfl | rfl
   ·dsimp only
    rw [e1,e2]
    exact(h k hk).1
   ·dsimp only
    rw [e1,e2]
    exact(h k hk).2
  ·obtain⟨x,_,rfl⟩:=List.mem_map.mp h1
   unfold Bj
   dsimp only
   omega
theorem Kg (f:Nat->Int):∀m:Nat,dJ (λk=> - f k) m= - dJ f m
 | 0=>rfl
 | m+1=>by show dJ (λk=> - f k) m+ - f m= - (dJ f m+f m);rw [Kg f m];omega
theorem DK (f g:Nat->Int):∀m:Nat,dJ (λk=>f k - g k) m=dJ f m - dJ g m
 | 0=>rfl
 | m+1=>by show dJ (λk=>f k - g k) m+(f m - g m)=dJ f m+f m - (dJ g m+g m);rw [DK f g m];omega
theorem vL {c:Int×Int}:c∈uq (CN m rm fs)↔c=(dJ (λk=>((fs k).length:Int)) m,(m:Int))∨c=(dJ rm m - dJ (λk=>((fs k).length:Int)) m,(m:Int))∨(∃k,k <m/\c=(rm k,2))∨c=(1,1):=by
 have e1:((CN m rm fs).map λl=>(l.first.length:Int)).sum=dJ (λk=>((fs k).length:Int)) m:=by unfold CN;rw [List.map_map,rH];rfl
 have e2:((CN m rm fs).map λl=>l.room).sum=dJ rm m:=by unfold CN;rw [List.map_map,rH];rfl
 have e3:(CN m rm fs).length=m:=by unfold CN;rw [lM,List.length_range]
 unfold uq
 rw [e1,e2,e3]
 simp only [List.mem_append,List.mem_cons,List.mem_map,List.not_mem_nil,or_false]
 constructor
 ·rintro(((h | h) | ⟨l,hl,h⟩) | h)
  ·exact .inl h
  ·exact .inr (.inl h)
  ·obtain⟨k,hk,rfl⟩:=List.mem_map.mp hl
   exact .inr (.inr (.inl ⟨k,List.mem_range.mp hk,h.symm⟩))
  ·exact .inr (.inr (.inr h))
 ·rintro(h | h | ⟨k,hk,h⟩ | h)
  ·exact .inl (.inl (.inl h))
  ·exact .inl (.inl (.inr h))
  ·exact .inl (.inr ⟨⟨bN k,rm k,fs k⟩,List.mem_map.mpr ⟨k,List.mem_range.mpr hk,rfl⟩,h.symm⟩)
  ·exact .inr h
theorem rUp (m1:1<=m) (m12:m<=12) {f:Str->Int} {p q:Int} (h:∀a∈bG (CN m rm fs) (GF m i),f a.fr+(p - q * a.tk)<=f a.to):∀c∈uq (CN m rm fs),p * c.2<=c.1 * q:=by
 obtain⟨h,hpq⟩:=(aag m1 m12).mp h
 have pp:=Ro (f:=λk=>f (aN k)) (Pb (m:=m) (by omega)).1
 intro c hc
 rcases vL.mp hc with rfl | rfl | ⟨k,hk,rfl⟩ | rfl
 ·have:=CP (m:=m) (f:=λk=>f (aN (pr m k))+(p - q * ((fs k).length:Int))) (g:=λk=>f (aN k)) λk hk=>(h k hk).1
  rw [Dz,uW,pp] at this
  dsimp only
  rw [Int.mul_comm p,Int.mul_comm _ q]
  omega
 ·have:=CP (m:=m) (f:=λk=>f (aN k)+(p - q * (rm k - ((fs k).length:Int)))) (g:=λk=>f (aN (pr m k))) λk hk=>(h k hk).2
  rw [Dz,uW (f:=λk=>rm k - ((fs k).length:Int)),DK,pp] at this
  dsimp only
  rw [Int.mul_comm p,Int.mul_comm _ q]
  omega
 ·obtain⟨h1,h2⟩:=h k hk
  dsimp only
  rw [Int.mul_sub] at h2
  rw [Int.mul_comm (rm k) q]
  omega
 ·dsimp only
  omega
theorem ZW (m1:1<=m) (m12:m<=12) {p q:Int} (h:∀c∈uq (CN m rm fs),p * c.2<=c.1 * q):∃f:Str->Int,∀a∈bG (CN m rm fs) (GF m i),f a.fr+(p - q * a.tk)<=f a.to:=by
 have h1:=h _ (vL.mpr (.inl rfl))
 have h2:=h _ (vL.mpr (.inr (.inl rfl)))
 have h3:=λk (hk:k <m)=>h _ (vL.mpr (.inr (.inr (.inl ⟨k,hk,rfl⟩))))
 have h4:=h _ (vL.mpr (.inr (.inr (.inr rfl))))
 dsimp only at h1 h2 h3 h4
 have e1:=uW p q (λk=>((fs k).length:Int)) m
 have e2:=uW p q (λk=>rm k - ((fs k).length:Int)) m
 rw [DK rm λk=>((fs k).length:Int)] at e2
 rw [Int.mul_comm p,Int.mul_comm _ q] at h1 h2
 obtain⟨e,he,hs⟩:=between (lo:=λk=>p - q * ((fs k).length:Int)) (hi:=λk=> - (p - q * (rm k - ((fs k).length:Int)))) (m:=m) (c:=0) (λk hk=>by
  have:=h3 k hk
  rw [Int.mul_sub]
  rw [Int.mul_comm (rm k) q] at this
  omega) (by rw [e1];omega) (by rw [Kg,e2];omega)
 refine⟨λx=>dJ e (Yt x+1),(aag (f:=λx=>dJ e (Yt x+1)) (p:=p) (q:=q) m1 m12).mpr ⟨λk hk=>?_,by omega⟩⟩
 obtain⟨x1,x2⟩:=he k hk
 have x1:p - q * ((fs k).length:Int)<=e k:=x1
 have x2:e k<= - (p - q * (rm k - ((fs k).length:Int))):=x2
 rw [RJ k (by omega),RJ (pr m k) (by have:=Xz (k:=k) m1;omega)]
 cases k with
 | zero=>
  rw [IK m1,show m - 1+1=m by omega,hs]
  show 0+_<=(0:Int)+e 0/\(0:Int)+e 0+_<=0
  omega
 | succ k=>
  rw [JM hk]
  show dJ e (k+1)+_<=dJ e (k+1)+e (k+1)/\dJ e (k+1)+e (k+1)+_<=dJ e (k+1)
  omega
end
theorem MP (as:List AA) (ne:as≠[]):pS as * (as.length:Int)=qS as * dZ as/\0 <qS as:=by
 have h1:=len_pos ne
 have g0:=wO (a:=dZ as) (b:=(as.length:Nat)) (by omega)
 have d1:((Int.gcd (dZ as) (as.length:Nat):Nat):Int) ∣ dZ as:=Int.gcd_dvd_left ..
 have d2:((Int.gcd (dZ as) (as.length:Nat):Nat):Int) ∣ ((as.length:Nat):Int):=Int.gcd_dvd_right ..
 have e1:=Int.ediv_mul_cancel d1
 have e2:=Int.ediv_mul_cancel d2
 refine⟨?_,JD ne⟩
 unfold pS qS
 generalize ((Int.gcd (dZ as) (as.length:Nat):Nat):Int)=g at *
 generalize hx:dZ as / g=x at *
 generalize hy:((as.length:Nat):Int) / g=y at *
 rw [<-e1,<-e2,Int.mul_comm x (y * g),Int.mul_assoc,Int.mul_comm g x]
theorem QW {names:List Str} (bare:List iM) (nd:names.Nodup) (to:∀a∈bare,a.fr∈names):∀x∈xW names (bK names bare names.length),∃a∈bare,a.to=x/\a.fr∈xW names (bK names bare names.length):=by
 have stay:∀{j:Nat},uh names bare (bK names bare j)=[]->∀d,bK names bare (j+d)=bK names bare j:=λ{j} h d=>by
  induction d with
  | zero=>rfl
  | succ d ih=>
   show bK names bare (j+d) ++ (uh names bare (bK names bare (j+d))).map (λx=>(x,j+d))=_
   rw [ih,h]
   simp
 have grow:∀j,(∀d,d <j->uh names bare (bK names bare d)≠[])->j<=(bK names bare j).length:=λj=>by
  induction j with
  | zero=>exact λ_=>Nat.zero_le _
  | succ j ih=>
   intro h
   have h1:=ih λd hd=>h d (by omega)
   have h2:=List.length_pos_iff.mpr (h j (by omega))
   show j+1<=(bK names bare j ++ (uh names bare (bK names bare j)).map (λx=>(x,j))).length
   rw [lP,lM]
   omega
 intro x hx
 obtain⟨hxn,hxl⟩:=List.mem_filter.mp hx
 have hf:uh names bare (bK names bare names.length)=[]:=by
  refine Classical.byContradiction λhne=>?_
  have all:∀d,d <names.length->uh names bare (bK names bare d)≠[]:=λd hd h0=>by
   have:=stay h0 (names.length - d)
   rw [show d+(names.length - d)=names.length by omega] at this
   rw [this] at hne
   exact hne h0
  have h1:=grow _ all
  obtain⟨n1,n2⟩:=wL nd bare names.length
  have hin:x∈(bK names bare names.length).map (·.1):=Classical.byContradiction λhn=>by
   have:=Rg.oY (l:=x:: (bK names bare names.length).map (·.1)) (m:=names) (List.nodup_cons.mpr ⟨hn,n1⟩) λy hy=>by
    rcases List.mem_cons.mp hy with rfl | hy
    ·exact hxn
    ·exact n2 y hy
   rw [List.length_cons,lM] at this
   omega
  have:=jA.mpr hin
  rw [this] at hxl
  cases hxl
 have hnf:x∉uh names bare (bK names bare names.length):=by rw [hf];simp
 have:¬((!(cB (bK names bare names.length) x).isSome && !(bare.any λa=>!(cB (bK names bare names.length) a.fr).isSome && decide (a.to=x)))=true):=λz=>hnf (List.mem_filter.mpr ⟨hxn,z⟩)
 rw [hxl,Bool.true_and,Bool.not_eq_true',Bool.not_eq_false,List.any_eq_true] at this
 obtain⟨a,ha,h⟩:=this
 rw [Bool.and_eq_true] at h
 exact⟨a,ha,of_decide_eq_true h.2,List.mem_filter.mpr ⟨to a ha,h.1⟩⟩
theorem YJ {m:Nat} (h:0 <m) (x:Nat):pr m ((x+1) % m)=x % m:=by
 have hy:=Nat.mod_lt x h
 rw [<-Nat.mod_add_mod]
 by_cases hl:x % m+1 <m
 ·rw [Nat.mod_eq_of_lt hl,JM hl]
 ·rw [show x % m+1=m by omega,Nat.mod_self,IK h]
  omega
theorem aa8 {m:Nat} {Q:Str->Prop} (m1:1<=m) {k0:Nat} (hk0:k0 <m) (h0:Q (aN k0)) (st:∀k,k <m->Q (aN (pr m k))->Q (aN k)):∀k,k <m->Q (aN k):=λk hk=>by
 have key:∀d,Q (aN ((k0+d) % m)):=λd=>by
  induction d with
  | zero=>rw [Nat.add_zero,Nat.mod_eq_of_lt hk0];exact h0
  | succ d ih=>exact st _ (Nat.mod_lt _ m1) (by rw [<-Nat.add_assoc,YJ m1];exact ih)
 have:=key (k+m - k0)
 rwa [show k0+(k+m - k0)=k+m by omega,Nat.add_mod_right,Nat.mod_eq_of_lt hk] at this
theorem Yv {p q v:Int} {n d:Nat} (hq:0 <q) (h:(n:Int) * p - v<=q * (d:Int)):few p q v n<=(d:Int):=by
 unfold few
 have:((n:Int) * p - 1 - v) / q <(d:Int):=Int.ediv_lt_of_lt_mul hq (by have e:=Int.mul_comm (d:Int) q;omega)
 split <;> omega
theorem Vw {tot u:Int} {len n d:Nat} (hl:1<=len) (h:(d:Int)<=tot * (((n+1+len - 1) / len:Nat):Int)+u):(d:Int)<=Bh tot len u ((n+1:Nat):Int):=by
 unfold Bh
 rw [if_neg (by omega)]
 have e:((n+1:Nat):Int)+(len:Int) - 1=((n+1+len - 1:Nat):Int):=by omega
 rw [e,<-Int.natCast_ediv]
 exact h
theorem Zg {m i:Nat} {rm:Nat->Int} {fs:Nat->List Int} (m1:1<=m) (m12:m<=12) {as:List AA} {tm:Str->Int} {d:Int×Int} (ne:as≠[]) (mem:∀a∈as,a.1∈bG (CN m rm fs) (GF m i)) (cyc:QR (as.map (·.1))) (sat:∀a∈bG (CN m rm fs) (GF m i),tm a.fr+(pS as - qS as * a.tk)<=tm a.to) (hd:rY (uq (CN m rm fs)) d):pS as * d.2=d.1 * qS as:=by
 obtain⟨e,qp⟩:=MP as ne
 have lp:=len_pos ne
 have h1:=rUp m1 m12 sat d hd.mem
 obtain⟨f,hf⟩:=ZW (i:=i) m1 m12 hd.le
 have h2:=Tf cyc (f:=f) (p:=d.1) (q:=d.2) λa ha=>by
  obtain⟨q,hq,rfl⟩:=List.mem_map.mp ha
  exact hf _ (mem q hq)
 rw [lM,show((as.map (·.1)).map (·.tk)).sum=dZ as from(zL as).symm] at h2
 refine Int.le_antisymm h1 ?_
 have h3:qS as * ((as.length:Int) * d.1)<=qS as * (d.2 * dZ as):=Int.mul_le_mul_of_nonneg_left h2 (by omega)
 have h4:d.1 * qS as * (as.length:Int)<=pS as * d.2 * (as.length:Int):=by
  have e1:qS as * ((as.length:Int) * d.1)=d.1 * qS as * (as.length:Int):=by rw [<-Int.mul_assoc,Int.mul_comm _ d.1,<-Int.mul_assoc]
  have e2:qS as * (d.2 * dZ as)=pS as * d.2 * (as.length:Int):=by rw [Int.mul_comm d.2,<-Int.mul_assoc,<-e,Int.mul_assoc,Int.mul_comm _ d.2,<-Int.mul_assoc]
  omega
 exact Int.le_of_mul_le_mul_right h4 (by omega)
theorem Y0 {ls:List aF} {ps:List PD} (F:uD ls ps) {as ra:List AA} {tm:Str->Int} {rk:List (Str×Nat)} (ne:as≠[]) (mem:∀a∈as,a.1∈bG ls ps) (cyc:QR (as.map (·.1))) (pos:∀x,0<=tm x) (sat:∀a∈bG ls ps,tm a.fr+(pS as - qS as * a.tk)<=tm a.to) (p0:0<=pS as) (era:ra.map (·.1)=bG ls ps) (erk:rk=bK (ps.map (·.name)) ((mF ra).map (·.1)) (ps.map (·.name)).length):xW (ps.map (·.name)) rk=[]↔0 <pS as:=by
 obtain⟨e,qp⟩:=MP as ne
 have lp:=len_pos ne
 constructor
 ·intro hl
  obtain⟨hk,_,_⟩:=Vj F era erk hl
  refine Classical.byContradiction λhn=>?_
  have hp:pS as=0:=by omega
  rw [hp,Int.zero_mul] at e
  have ht:dZ as=0:=by
   rcases Int.mul_eq_zero.mp e.symm with h | h
   ·omega
   ·exact h
  have nn:∀x∈as.map (λa=>a.1.tk),0<=x:=λx hx=>by
   obtain⟨a,ha,rfl⟩:=List.mem_map.mp hx
   exact(ye F _ (mem a ha)).1
  have zero:∀l:List Int,(∀x∈l,0<=x)->l.sum=0->∀x∈l,x=0:=λl=>by
   have sn:∀l:List Int,(∀x∈l,0<=x)->0<=l.sum:=λl=>by
    induction l with
    | nil=>intro _;exact Int.le_refl _
    | cons a r ih=>
     intro h
     have:=ih λx hx=>h x (List.mem_cons_of_mem _ hx)
     have:=h a List.mem_cons_self
     rw [List.sum_cons];omega
   induction l with
   | nil=>intro _ _ x hx;cases hx
   | cons a r ih=>
    intro h hs x hx
    have h1:=sn r λx hx=>h x (List.mem_cons_of_mem _ hx)
    have h2:=h a List.mem_cons_self
    rw [List.sum_cons] at hs
    rcases List.mem_cons.mp hx with rfl | hx
    ·omega
    ·exact ih (λx hx=>h x (List.mem_cons_of_mem _ hx)) (by omega) x hx
  have h2:=Tf cyc (f:=λx=>(((cB rk x).getD 0:Nat):Int)) (p:=1) (q:=0) λa ha=>by
   obtain⟨q,hq,rfl⟩:=List.mem_map.mp ha
   have:=hk.up q.1 (mem q hq) (zero _ nn ht _ (List.mem_map.mpr ⟨q,hq,rfl⟩))
   have:(cB rk q.1.fr).getD 0 <(cB rk q.1.to).getD 0:=this
   show(((cB rk q.1.fr).getD 0:Nat):Int)+(1 - 0 * q.1.tk)<=(((cB rk q.1.to).getD 0:Nat):Int)
   rw [Int.zero_mul]
   omega
  rw [lM] at h2
  omega
 ·intro hp
  refine Classical.byContradiction λhne=>?_
  have cl:=QW ((mF ra).map (·.1)) F.pnd (λa ha=>by
   obtain⟨q,hq,rfl⟩:=List.mem_map.mp ha
   obtain⟨_,p,hp,ep⟩:=ye F q.1 (by rw [<-era];exact List.mem_map.mpr ⟨q,(List.mem_filter.mp hq).1,rfl⟩)
   exact List.mem_map.mpr ⟨p,hp,ep⟩)
  rw [<-erk] at cl
  have key:∀n:Nat,∀x∈xW (ps.map (·.name)) rk,(tm x).toNat=n->False:=λn=>by
   induction n using Nat.strongRecOn with
   | ind n ih=>
    intro x hx hn
    obtain⟨a,ha,ea,hfr⟩:=cl x hx
    obtain⟨q,hq,rfl⟩:=List.mem_map.mp ha
    obtain⟨h1,h2⟩:=List.mem_filter.mp hq
    have ht:q.1.tk=0:=by have:=of_decide_eq_true h2;injection this
    have:=sat q.1 (by rw [<-era];exact List.mem_map.mpr ⟨q,h1,rfl⟩)
    rw [ht,Int.mul_zero,ea] at this
    have:=pos q.1.fr
    have:=pos x
    exact ih _ (by omega) _ hfr rfl
  obtain⟨x,hx⟩:=List.exists_mem_of_ne_nil _ hne
  exact key _ x hx rfl
theorem Az {E:List Addr} {H H':Hp} (s:aO H H'):aO (bf E H) (bf E H'):=λb o e=>by
 have hb:b∉E:=λz=>by unfold bf at e;rw [if_pos z] at e;cases e
 exact fB (s _ _ (bY _ _ e)) hb
theorem w5.same {H H':Hp} {r:Addr} {n:Nat} {A:qK} {ls:List aF} {ps:List PD} {S:FS} (h:w5 K t H r n A ls ps S) (s:aO H H'):w5 K t H' r n A ls ps S:=⟨h.run.same s,h.net.same (Az s),h.flow.same s,h.ne⟩
theorem w5.out {H:Hp} {r:Addr} {n:Nat} {A:qK} {ls:List aF} {ps:List PD} {S:FS} (h:w5 K t H r n A ls ps S) {a:Addr} (ha:H a=none):a∉r:: A.cells ls ps:=λz=>by
 rcases List.mem_cons.mp z with rfl | z
 ·obtain⟨_,_,h1,_⟩:=h.run
  rw [ha] at h1
  cases h1.1
 ·exact h.flow.cell ha z
theorem Tt {H:Hp} {Q:VK} {Ex:XK} {H0:Hp} {r dx n rw:Addr} {ls:List aF} {ps:List PD} {RW:List (Str×Addr×List Int)} (hr:H r=some (.ins t.ou dx [])) (s0:aO H0 H) (nr:H0 r=none) (N:gJ K t H0 n ls ps) (hrw:qm H0 rw RW) (hO:Nx ps RW)
  (k:∀(H':Hp) (A:qK),A.n=n->aO H0 H'->w5 K t H' r 0 A ls ps (jT ls ps RW)->(∀a∈A.cells ls ps,H0 a=none)->Q .non H'):gM K t [.ref r,.ref n,.ref rw] H Q Ex:=by
 unfold gM
 exact⟨H0,r,dx,n,rw,ls,ps,RW,rfl,hr,s0,nr,N,hrw,hO,k⟩
theorem Wq {H:Hp} {Q:VK} {Ex:XK} {b n:Nat} {r:Addr} {hd:V} {A:qK} {ls:List aF} {ps:List PD} {S:FS} {xs:List Str} (R:w5 K t H r n A ls ps S) (O:Rv b ls ps S) (hb:b<=90000) (hn:n<=900) (hL:(hd=.non/\xs=[])∨∃L,hd=.ref L/\bI K H L (xs.map V.str)/\L∉A.cells ls ps) (hx:∀x∈xs,V.str x∈fc ps "give" ++ fc ps "take")
  (k:∀H' p,aO (bf (r:: A.cells ls ps) H) (bf (r:: A.cells ls ps) H')->w5 K t H' r (n+1) A ls ps (lL ls ps S xs)->H p=none->H' p=some (.lst ((qW ls ps S xs).map λw=>V.str w.1.name))->Q (.ref p) H'):lQ K t [.ref r,hd] H Q Ex:=by
 unfold lQ
 exact⟨b,r,n,A,ls,ps,S,hd,xs,rfl,R,O,hb,hn,hL,hx,k⟩
theorem Tu (xs:List V) (a b:Nat):Dl xs (some (a:Int)) (some (b:Int))=(xs.drop (min a xs.length)).take (min b xs.length - min a xs.length):=by
 unfold Dl
 rw [HT.CJ,HT.CJ]
inductive Es (K:PySem.W.Frag) (vs:List V) (H:Hp) (Q:VK) (E:XK):Prop where
 | mk:∀(a:Addr) (ns:List Int),vs=[.ref a]->bI K H a (ns.map V.int)->ns.length<=63->(∀H',Q (.bl true) H')->Es K vs H Q E
theorem Yp (T:Txt w K mg t):FO P w K mg base 8 t.XD ["_law_script"] (Es K):=by
 have sc:=T.Ox.sc ["_law_script", "_law_lanes", "_law_parts", "_law_net_one", "_law_due", "_law_paper", "_law_run", "_law_k", "_law_one", "_law_fewest", "_law_most"]
 refine T.Ox.F.ok sc ln (λ_ _ _ _ H vs Q E hr h=>?_)
 obtain⟨a,ns,rfl,hS,hl,k⟩:=h
 refine⟨_,(ao (Uc (jd (JV T) T.vh hr (aa (pv 0) aq aj)) (Ay rfl (fH (gN sc 1) (fH (gN sc 2) sJ))))
  (ao (sN sc 3 (gZ (T.aR.M T.jE) (Ck T) (hr.mono (by decide)) (by rfl) T.aR.m T.jE.b .nil gB (aa (pv 1) (aa (pv 2) aq aj) aj)))
  (ao (sN sc 4 (jd (Gw T) T.tE hr (aa (pv 1) aq aj)))
  (ao (sN sc 5 (jd (TJ T) T.Jw hr (aa (pv 3) aq aj)))
  (ao (b7 (PW.pt (xn (bD GP (bB gW (aU aY (pv 5) aB (λ_ _=>rfl)) (aU aY (pv 4) aB (λ_ _=>rfl))) (bB gW (aU aY (pv 4) aB (λ_ _=>rfl)) (aU aY (pv 5) aB (λ_ _=>rfl))) (cz _)) (qg (bD GP (tQ jO (aU aY (jd (Am T) T.lY hr (aa (pv 3) aq aj)) aB (λ_ _=>rfl)) bT (cz _)) (tQ Vb (aU aY (pv 4) aB (λ_ _=>rfl)) aB (cz _)) (cz _)))))
   (au (aQ qT))
   bu)
  (ao (sN sc 6 (gZ (T.dF.M T.jJ) (Cv T) (hr.mono (by decide)) (by rfl) T.dF.m T.jJ.b .nil gB (aa (pv 3) (aa dY aq Q7) aj)))
  (ao (cX PassesOwn.never rfl (qO rfl T.wM (aa (bx b8 (by rfl) T.iy eQ (aa (zz Cy (pv 0) (zK aB) (zK aB)) aq aH)) aq bz)) (gN sc 7)
   (ao (dh (Mf (pv 6) T.dF.c (T.yq.me T.dF.me.2.2.2.2.1) (K7 T) (hr.mono (by decide)) (T.yq.b1 λ_ _ _ _ _ _ _=>uF λ_=>⟨_,rfl,rfl⟩) (.cons (show RelV V.non Value.none from rfl) .nil) gB))
   (au (cX PassesOwn.never rfl (bH (pv 2)) (gN sc 8)
    (ao (Uc (jd (Ra T) T.Et hr (aa (pv 5) (aa (aU aY (pv 8) aB (λ_ _=>rfl)) (aa (bB fu (pv 7) aB) aq bZ) aH) aj)) (Ay rfl (fH (gN sc 9) (fH (gN sc 10) sJ))))
    (au (b7 (jj (qR pW pW (pv 9) (zx (pv 6) T.dF T.dF.me.2.2.2.2.2.1 (Jy T) T.ww hr (aa (aU aY (pv 8) aB (λ_ _=>rfl)) aq aH)) (pv 10)))
     (au (aQ qT))
     bu)))))))
  (au (aQ qT))))))))),?_⟩
 have hz:sizeLine=16777216:=sizeLine_eq
 refine⟨_,rfl,a,ns,rfl,hS,λT' L P ls ps H1 s1 eT A D=>?_⟩
 obtain⟨m,i,rm,fs,m1,m12,im,hls,hps,ok⟩:=D.ex
 have hls:ls=CN m rm fs:=hls
 have hps:ps=GF m i:=hps
 refine⟨T',_,rfl,cP.of eT,rfl,_,_,rfl,_,_,rfl,rfl,?_⟩
 have F:uD ls ps:=by rw [hls,hps];exact abm m1 m12 im ok
 have C:Calm ps:=by rw [hps];exact ZG
 have ho:=C.odd
 have p16:=F.p16
 have hS1:=s1.seq hS
 clear eT D hS
 refine⟨_,rfl,_,rfl,λn dxn nn ndn nen=>?_⟩
 have gn:aO H1 (upd (upd H1 dxn (.own n)) n (.ins t.dD dxn [])):=λb o e=>by rw [aJ (aC e nn),aJ (aC e ndn)];exact e
 have en:upd (upd H1 dxn (.own n)) n (.ins t.dD dxn []) n=some (.ins t.dD dxn []):=ak
 generalize upd (upd H1 dxn (.own n)) n (.ins t.dD dxn [])=Hn at gn en ⊢
 have hH:Hand K Hn L P ls ps:=by
  obtain⟨⟨x1,x2,x3⟩,⟨y1,y2,y3⟩⟩:=A.same gn
  refine⟨⟨x1,bI.of x2,x3.imp λ_ _ h=>?_⟩,⟨y1,bI.of y2,y3.imp λ_ _ h=>?_⟩⟩
  ·obtain⟨q,f,e,h1,h2⟩:=h
   exact⟨q,f,e,h1,.inl (bI.of h2)⟩
  ·obtain⟨q,a1,a2,a3,e,h1,h2,h3,h4⟩:=h
   exact⟨q,a1,a2,a3,e,h1,.inl (bI.of h2),.inl (bI.of h3),.inl (bI.of h4)⟩
 refine⟨n,dxn,L,P,ls,ps,rfl,en,hH,F,λH2 b2 N2=>⟨rfl,?_⟩⟩
 have s12:aO H1 H2:=λb o e=>b2 b o (aC e nn) (gn b o e)
 have A2:=A.same s12
 have hS2:=s12.seq hS1
 clear hH gn en b2 nn ndn nen A s12 hS1
 obtain⟨xs,eL,aL⟩:=A2.lanes
 refine⟨_,rfl,L,xs,ls,rfl,eL,aL,F.l1,by rw [hls];unfold CN;rw [lM,List.length_range];exact m12,λl hl=>?_,λH3 ud d s3 ed hd ob=>?_⟩
 ·rw [hls] at hl
  obtain⟨k,hk,rfl⟩:=List.mem_map.mp hl
  have:=ok k (List.mem_range.mp hk)
  exact⟨this.1,this.2.1,this.2.2.1⟩
 have N3:=N2.same s3
 refine⟨_,rfl,n,ls,ps,rfl,N3,ho,λH4 Y R D1 D2 as tm lt s4 eY PA=>?_⟩
 obtain⟨epq,qp⟩:=MP as PA.ne
 have lp:=len_pos PA.ne
 have l16:=PA.len
 have q16:qS as<=16:=by
  have:qS as<=((as.length:Nat):Int):=Int.ediv_le_self _ (by omega)
  omega
 have pq:=Pu PA.ne PA.le
 have tkb:∀a∈bG ls ps,0<=a.tk/\a.tk<=199:=λa ha=>by
  refine⟨(ye F a ha).1,?_⟩
  unfold bG at ha
  rcases List.mem_append.mp ha with h | h
  ·obtain⟨l,hl,h⟩:=List.mem_flatMap.mp h
   have lk:=F.lok l hl
   unfold lH at h
   simp only [List.mem_cons,List.not_mem_nil,or_false] at h
   rcases h with h | h <;> rw [h] <;> dsimp only <;> omega
  ·obtain⟨p,_,rfl⟩:=List.mem_map.mp h
   show(1:Int)<=199
   decide
 have tko:Lh as:=⟨by omega,λa ha=>by have:=tkb a.1 (PA.mem a ha);omega⟩
 have t0:=tko.sum.1
 have t1:=PA.le
 have p0:0<=pS as:=Int.ediv_nonneg t0 (Int.natCast_nonneg _)
 have eq:pS as * d.2=d.1 * qS as:=by
  subst hls hps
  exact Zg m1 m12 PA.ne PA.mem PA.cyc PA.sat hd
 have ed4:=s4 _ _ ed
 have N4:=N3.same s4
 refine⟨_,rfl,Y,_,0,_,rfl,rfl,cP.of eY,aM (j:=0) rfl,_,rfl,ud,_,1,_,rfl,rfl,cP.of ed4,aM (j:=1) rfl,_,_,rfl,rfl,.of_left (intBits_le_64 (by omega) (by omega)),_,rfl,ud,_,0,_,rfl,rfl,cP.of ed4,aM (j:=0) rfl,_,rfl,Y,_,1,_,rfl,rfl,cP.of eY,aM (j:=1) rfl,_,_,rfl,rfl,.of_left (intBits_le_64 (by omega) (by omega)),rfl,_,rfl,?_⟩
 rw [eq,decide_eq_true rfl]
 refine dq ⟨_,rfl,n,ls,ps,rfl,N4,.inl ⟨ho,λH5 T5 s5 R5=>?_⟩⟩
 obtain⟨ra,rk,lf,era,erk,elf,hc⟩:=R5
 have hrk:=Y0 F PA.ne PA.mem PA.cyc PA.pos PA.sat p0 era erk
 have dp:0 <pS as↔0 <d.1:=by
  constructor
  ·intro h
   have:0 <pS as * d.2:=Int.mul_pos h ob.2.2
   rw [eq] at this
   exact Classical.byContradiction λz=>by rw [show d.1=0 by omega,Int.zero_mul] at this;omega
  ·intro h
   have:0 <d.1 * qS as:=Int.mul_pos h qp
   rw [<-eq] at this
   exact Classical.byContradiction λz=>by rw [show pS as=0 by omega,Int.zero_mul] at this;omega
 obtain⟨wd,X,eT5,hwd⟩:∃wd X,H5 T5=some (.tup [.str wd,.ref X])/\(wd= "ranks" ↔0 <d.1):=by
  rw [<-dp,<-hrk,<-elf]
  rcases hc with ⟨h1,D,h2,_⟩ | ⟨x0,rest,L',H',h1,h2,_⟩
  ·exact⟨_,D,h2,by rw [h1];exact⟨λ_=>rfl,λ_=>rfl⟩⟩
  ·exact⟨_,L',h2,by rw [h1];exact⟨λz=>absurd z (by decide),λz=>by cases z⟩⟩
 have ed5:=s5 _ _ ed4
 refine⟨T5,_,0,_,rfl,rfl,cP.of eT5,aM (j:=0) rfl,rfl,_,rfl,ud,_,0,_,rfl,rfl,cP.of ed5,aM (j:=0) rfl,_,_,rfl,rfl,rfl,_,rfl,?_⟩
 have eb:decide (V.str wd=V.str "ranks")=decide ((0:Int) <d.1):=by
  rw [Bool.eq_iff_iff,decide_eq_true_eq,decide_eq_true_eq,<-hwd]
  exact⟨λz=>by injection z,λz=>by rw [z]⟩
 rw [eb,decide_eq_true rfl]
 refine dq ⟨_,rfl,λDr nDr=>?_⟩
 have t6:=az (o:=.dK []) nDr
 have eDr:upd H5 Dr (.dK []) Dr=some (.dK []):=ak
 generalize upd H5 Dr (.dK [])=H6 at t6 eDr ⊢
 have s46:=s5.trans t6
 have N6:=N4.same s46
 have A6:=A2.same (s3.trans (s4.trans s46))
 have hS6:=(s3.trans (s4.trans s46)).seq hS2
 refine λr dxr nr ndr ner=>?_
 have gr:aO H6 (upd (upd H6 dxr (.own r)) r (.ins t.ou dxr [])):=λb o e=>by rw [aJ (aC e nr),aJ (aC e ndr)];exact e
 refine Tt (RW:=[]) ak gr nr N6 ⟨eDr,by simp,by simp,by simp⟩ ⟨by simp,by simp⟩ λH7 Z eZ s7 R7 fr7=>⟨rfl,?_⟩
 subst eZ
 have eA:∀a∈r:: Z.cells ls ps,H6 a=none:=λa ha=>by
  rcases List.mem_cons.mp ha with rfl | h
  ·exact nr
  ·exact fr7 a h
 have s67:aO H6 (bf (r:: Z.cells ls ps) H7):=λb o e=>fB (s7 _ _ e) λz=>by rw [eA b z] at e;cases e
 have O7:=QX (RW:=[]) F (by simp) (by simp)
 have c0:=o8.start F []
 obtain⟨S0,hS0⟩:∃S0,S0=jT ls ps []:=⟨_,rfl⟩
 have d0:∀x,S0.d x=0:=λx=>by rw [hS0];rfl
 rw [<-hS0] at R7 O7 c0
 obtain⟨B,hB⟩:∃B,B=bf (r:: Z.cells ls ps) H7:=⟨_,rfl⟩
 rw [<-hB] at s67
 have hSB:=s67.seq hS6
 have AB:=A6.same s67
 have s4B:=s46.trans s67
 have eYB:=s4B _ _ eY
 have ARB:=PA.arcs.same s4B
 have e1B:=s4B _ _ PA.e1
 have e2B:=s4B _ _ PA.e2
 obtain⟨a0,ar,has⟩:=List.exists_cons_of_ne_nil PA.ne
 have elt:=PA.lt_ a0 ar has
 have ma0:=PA.mem a0 (by rw [has];exact List.mem_cons_self)
 have frN:∀a∈bG ls ps,a.fr∈ps.map (·.name):=λa ha=>by
  obtain⟨_,p,hp,e⟩:=ye F a ha
  exact List.mem_map.mpr ⟨p,hp,e⟩
 have toN:∀a∈bG ls ps,a.to∈ps.map (·.name):=λa ha=>by
  obtain⟨p,hp,e⟩:=Tg F a ha
  exact List.mem_map.mpr ⟨p,hp,e⟩
 have fix:lF (bG ls ps) lt=lt:=by rw [elt];exact Ve (λa ha=>(tkb a ha).1) (frN _ ma0) frN toN
 have nmk:∀p∈ps,∃k,k <m/\p.name=aN k:=λp hp=>by
  rw [hps] at hp
  obtain⟨k,hk,rfl⟩:=Av hp
  exact⟨k,hk,rfl⟩
 have ltK:∀p∈ps,∃u,cB lt p.name=some u:=λp hp=>by
  obtain⟨_,p0,hp0,ep0⟩:=ye F a0.1 ma0
  obtain⟨k0,hk0,e0⟩:=nmk p0 hp0
  obtain⟨k,hk,e⟩:=nmk p hp
  rw [e]
  refine aa8 (Q:=λx=>∃u,cB lt x=some u) m1 hk0 ?_ (λk hk h=>?_) k hk
  ·rw [<-e0,ep0,elt]
   obtain⟨u,hu,_⟩:=Qf (arcs:=bG ls ps) (s:=a0.1.fr) (Nat.zero_le (ps.map (·.name)).length) a0.1.fr 0 (by show cB [(a0.1.fr,(0:Int))] a0.1.fr=some 0;rw [fM,if_pos rfl])
   exact⟨u,hu⟩
  ·obtain⟨v,hv⟩:=h
   obtain⟨e1,e2⟩:=UG (i:=i) m1 m12 hk
   have ha:(⟨aN (pr m k),aN k,((fs k).length:Nat),bN k, "along"⟩:iM)∈bG ls ps:=by
    rw [hls,hps]
    refine List.mem_append.mpr (.inl (List.mem_flatMap.mpr ⟨⟨bN k,rm k,fs k⟩,List.mem_map.mpr ⟨k,List.mem_range.mpr hk,rfl⟩,?_⟩))
    unfold lH
    dsimp only
    rw [e1,e2]
    exact List.mem_cons_self
   obtain⟨u,hu,_⟩:=JR ha hv
   rw [fix] at hu
   exact⟨u,hu⟩
 have tmK:∀p∈ps,∃v,cB tm p.name=some v:=λp hp=>Option.isSome_iff_exists.mp (jA.mpr (by rw [PA.keys];exact List.mem_map.mpr ⟨p,hp,rfl⟩))
 have tml:tm.length<=16:=by have:=congrArg List.length PA.keys;rw [lM,lM] at this;omega
 have ne:∀n,∀p∈ps,z9 (ux ls ps S0 n) p=false:=λn p hp=>by
  have k9:p.kind≠0:=by
   rw [hps] at hp
   obtain⟨k,_,rfl⟩:=Av hp
   show 2≠0
   decide
  unfold z9
  rw [decide_eq_false k9,Bool.false_and]
 have fw:=RN F C c0 ne pq (by omega) PA.pos PA.sat
 have cs0:(as.map (·.1))[0]?=some a0.1:=by rw [has];rfl
 have cm:∀a∈as.map (·.1),a∈bG ls ps:=λa ha=>by
  obtain⟨q,hq,rfl⟩:=List.mem_map.mp ha
  exact PA.mem q hq
 have bothN:∀(j:Nat) (p:PD),p∈ps->∀v u,cB tm p.name=some v->cB lt p.name=some u->few (pS as) (qS as) v ((j+1:Nat):Int)<=((ux ls ps S0 (j+1)).d p.name:Int)/\((ux ls ps S0 (j+1)).d p.name:Int)<=Bh (dZ as) as.length u ((j+1:Nat):Int):=λj p hp v u hv hu=>by
  constructor
  ·refine Yv qp ?_
   have:=fw (j+1) p hp
   rw [show tF tm p.name=v by unfold tF;rw [hv];rfl] at this
   exact this
  ·refine Vw (by omega) ?_
   rw [elt] at hu
   obtain⟨l,w⟩:=SX (arcs:=bG ls ps) (s:=a0.1.fr) _ _ _ hu
   have:=VJ F C c0 d0 cm PA.cyc cs0 w (j+1)
   rw [lM,show((as.map (·.1)).map (·.tk)).sum=dZ as from(zL as).symm] at this
   exact this
 obtain⟨_,⟨ys,ePB,aPB⟩⟩:=id AB
 have yl:=aPB.length
 have B7:aO B H7:=by rw [hB];exact bY
 refine⟨_,rfl,_,rfl,_,rfl,a,_,rfl,B7.seq hSB,λp8 np8=>?_⟩
 obtain⟨cs,ecs,lcs⟩:∃cs:List Int,Dl (ns.map V.int) (some 3) (some 33)=cs.map V.int/\cs.length<=30:=by
  refine⟨(ns.drop (min 3 ns.length)).take (min 33 ns.length - min 3 ns.length),(Tu (ns.map V.int) 3 33).trans ?_,?_⟩
  ·rw [List.map_take,List.map_drop,lM]
  ·rw [List.length_take];omega
 rw [ecs]
 have t8:=az (o:=.lst (cs.map V.int)) np8
 have e8:upd H7 p8 (.lst (cs.map V.int)) p8=some (.lst (cs.map V.int)):=ak
 have R8:=R7.same t8
 have sB8:aO B (bf (r:: Z.cells ls ps) (upd H7 p8 (.lst (cs.map V.int)))):=by rw [hB];exact Az t8
 generalize upd H7 p8 (.lst (cs.map V.int))=H8 at t8 e8 R8 sB8 ⊢
 refine⟨.ref p8,cs.length,rfl,.inl ⟨_,bI.of e8,by rw [lM]⟩,_,rfl,by omega,by omega,?_⟩
 rw [Int.toNat_natCast]
 refine wJ (n:=cs.length) (λj σ H'=>(∃v7 v8 v9 v10,σ=[some (.ref a),some (.ref L),some (.ref P),some (.ref Z.n),some (.ref ud),some (.ref Y),some (.ref r),v7,v8,v9,v10])/\w5 K t H' r j Z ls ps (ux ls ps S0 j)/\aO B (bf (r:: Z.cells ls ps) H')/\Rv (199+32 * j) ls ps (ux ls ps S0 j)) ⟨⟨none,none,none,none,rfl⟩,R8,sB8,O7⟩ ?_ ?_
 ·rintro j σ H9 hj ⟨⟨v7,v8,v9,v10,rfl⟩,R9,s9,O9⟩
  obtain⟨dxr',fsr,Rr⟩:=id R9.run
  refine⟨_,rfl,r,dxr',fsr,rfl,Rr.1.1,Rr.2.no _ (by decide +kernel),Wq R9 O9 (by omega) (by omega) (.inl ⟨rfl,rfl⟩) (by simp) λH10 p10 c10 R10 np10 ep10=>?_⟩
  have s10:=s9.trans c10
  have O10:Rv (199+32 * (j+1)) ls ps (ux ls ps S0 (j+1)):=by rw [show 199+32 * (j+1)=199+32 * j+32 by omega];exact VL F O9 []
  have B10:=s10.trans bY
  have R10:w5 K t H10 r (j+1) Z ls ps (ux ls ps S0 (j+1)):=R10
  rw [show(0:Int)+(j:Int)=(j:Int) by omega]
  refine⟨_,rfl,P,rfl,⟨_,bI.of (B10 _ _ ePB)⟩,cY (K:=K) (a:=P) (xs:=ys) (λi σ H'=>(∃v8 v9 v10,σ=[some (.ref a),some (.ref L),some (.ref P),some (.ref Z.n),some (.ref ud),some (.ref Y),some (.ref r),some (.int (j:Nat)),v8,v9,v10])/\aO H10 H') ⟨⟨_,_,_,rfl⟩,aO.refl _⟩ (λi σ H' _ h=>bI.of (h.2 _ _ (B10 _ _ ePB))) ?_ ?_⟩
  ·rintro i x σ H11 hx ⟨⟨w8,w9,w10,rfl⟩,s11⟩
   obtain⟨p,hpj,q,a1,a2,a3,rfl,hq,_⟩:=aPB.get hx
   have hp:=List.mem_of_getElem? hpj
   obtain⟨v,hv⟩:=tmK p hp
   obtain⟨u,hu⟩:=ltK p hp
   have B11:=B10.trans s11
   have hq11:=B11 _ _ hq
   obtain⟨b1,b2⟩:=bothN j p hp v u hv hu
   refine⟨_,rfl,_,rfl,q,_,1,_,rfl,rfl,cP.of hq11,aM (j:=1) rfl,_,rfl,_,_,rfl,rfl,Y,R,D1,D2,pS as,qS as,as,tm,lt,p.name,j+1,v,u,rfl,⟨B11 _ _ eYB,ARB.same B11,B11 _ _ e1B,B11 _ _ e2B,by omega,q16,by omega,l16,tko,t0,by omega,hv,hu,tml⟩,by omega,λH12 r12 s12 e12=>?_⟩
   refine⟨r12,_,rfl,cP.of e12,rfl,_,_,rfl,_,_,rfl,rfl,?_⟩
   have R12:=R10.same (s11.trans s12)
   obtain⟨dx2,fs2,Rs⟩:=id R12.run
   refine⟨_,rfl,_,rfl,r,dx2,fs2,rfl,Rs.1.1,Rs.2.no _ (by decide +kernel),_,rfl,q,_,1,_,rfl,rfl,cP.of (s12 _ _ hq11),aM (j:=1) rfl,r,_,Z,ls,ps,_,p,rfl,R12.run,R12.netH,R12.flow,hp,λH13 s13=>?_⟩
   refine⟨_,_,rfl,rfl,_,rfl,rG b1 ⟨_,rfl,_,_,rfl,rfl,_,rfl,?_⟩⟩
   rw [decide_eq_true b2]
   exact dq ⟨⟨_,_,_,rfl⟩,s11.trans (s12.trans s13)⟩
  rintro σ H11 ⟨⟨w8,w9,w10,rfl⟩,s11⟩
  exact⟨⟨_,_,_,_,rfl⟩,R10.same s11,s10.trans (Az s11),O10⟩
 rintro σ H9 _
 exact k _
end
theorem fin {l:PySem.W.OpenLaw} {w:World} {K:PySem.W.Frag} {mg:Str->Option Value} {fa r0 r1 r2 r3 r4 r5 r6 r7 r8 r9 r10 r11 r12 r13 r14 r15 r16 r17 r18 r19 r20 r21 r22 r23 r24 r25 r26 r27 r28 r29 r30 r31 r32 r33 r34 r35 r36 r37 r38 r39 r40 r41 r42 r43 r44 r45 r46 r47 r48 r49 r50 r51 r52 r53 r54 r55 r56 r57 r58 r59 r60 r61 r62 r63 r64 r65 r66 r67 r68 r69 r70 r71 r72 r73 r74 r75 r76 r77 r78 r79 r80 r81 r82 r83 r84 r85 r86 r87 r88 r89 r90 r91 r92 r93 r94 r95 r96 r97 r98 r99 r100 r101 r102 r103 r104 r105 r106 r107 r108 r109 r110 r111:Addr} (hfa:mg "law" =some (.ref fa)) (T:Txt w K mg ⟨r0,r1,r2,r3,r4,r5,r6,r7,r8,r9,r10,r11,r12,r13,r14,r15,r16,r17,r18,r19,r20,r21,r22,r23,r24,r25,r26,r27,r28,r29,r30,r31,r32,r33,r34,r35,r36,r37,r38,r39,r40,r41,r42,r43,r44,r45,r46,r47,r48,r49,r50,r51,r52,r53,r54,r55,r56,r57,r58,r59,r60,r61,r62,r63,r64,r65,r66,r67,r68,r69,r70,r71,r72,r73,r74,r75,r76,r77,r78,r79,r80,r81,r82,r83,r84,r85,r86,r87,r88,r89,r90,r91,r92,r93,r94,r95,r96,r97,r98,r99,r100,r101,r102,r103,r104,r105,r106,r107,r108,r109,r110,r111⟩):∃fd:FuncData,(∀(s:Shared) (v:Value),BindsTo s fd ⟨[v],[]⟩ [("_law_script",v)])/\∀base:Heap,K.In base->base.Ns mainGlobals mg->iK l.prog w K mg base Dd 8 fa fd ["_law_script"] (Es K):=by
 have e:=hfa.symm.trans T.Ox.m
 cases e
 exact⟨_,YK T.Ox.F λ_ _ _ _ _ _ _=>rfl,λbase _ _=>Yp T⟩
theorem walk {l:PySem.W.OpenLaw} {q:Program} {loose:List Str} {XP:(Str->Option Value)->Heap->Prop} {YP:World->Heap->Prop} {d:DefRec} {K:Params->PySem.W.Frag} (hn:l.most=some 63) (hdf:d.params.defaults=[])
  (hY:∀(w:World) (h:Heap),YP w h->(K w.params).In h)
  (F:∀(w:World) (mg:Str->Option Value) (fa:Addr) (h:Heap),(K w.params).In h->h.Ns mainGlobals mg->mg d.name=some (.ref fa)->
   ∃fd:FuncData,(∀(s:Shared) (u:Value),BindsTo s fd ⟨[u],[]⟩ [("_law_script",u)])/\∀base:Heap,(K w.params).In base->base.Ns mainGlobals mg->iK l.prog w (K w.params) mg base Dd 8 fa fd ["_law_script"] (Es (K w.params))):
  PySem.W.WalkO q loose XP YP l.row.toRowW d [] (λf vs=>PySem.call f vs):=
 L2.Wy (n:=63) (k:=8) (x:= "_law_script") (CX:=λ_=>Dd) (sp:=λw=>Es (K w.params)) hn (by decide) hdf ⟨rfl,by decide,by decide⟩ hY F (λ_ _ a ns hl _ hS=>⟨a,ns,rfl,hS,hl,λ_=>rfl⟩) λ_ _ _ _ _ z=>z
end K67
open PySem PySem.W PyProof.Rows L2
set_option maxRecDepth 100000 in
set_option maxHeartbeats 0 in
theorem PySem.Challenge.cw_holdlane_k67_rings_by_hand_holds : PySem.Challenge.rw_holdlane_k67_rings_by_hand.Holds := by
 w_on;o_law
 refine HD.head (by rfl) (by rfl) (by rfl) (by rfl) (by first | assumption | decide +kernel) (by decide +kernel) ⟨rfl,rfl,rfl,rfl,rfl,by decide +kernel⟩ rfl (λ_=>rfl) ?_ ?_
 ·w_witness2
 k_fill
 refine K67.walk (l:=PySem.Challenge.rw_holdlane_k67_rings_by_hand) rfl rfl (λw h Y=>PySem.W.kIn_of Y) ?F
 case F=>
  intro w mg fa h KX G hmg
  refine' K67.fin hmg ⟨?q0,?q1,?q2,?q3,?q4,?q5,?q6,?q7,?q8,?q9,?q10,?q11,?q12,?q13,?q14,?q15,?q16,?q17,?q18,?q19,?q20,?q21,?q22,?q23,?q24,?q25,?q26,?q27,?q28,?q29,?q30,?q31,?q32,?q33,?q34,?q35,?q36,?q37,?q38,?q39,?q40,?q41,?q42,?q43,?q44,?q45,?q46,?q47,?q48,?q49,?q50,?q51,?q52,?q53,?q54,?q55,?q56,?q57,?q58,?q59,?q60,?q61,?q62,?q63,?q64,?q65,?q66,?q67,?q68,?q69,?q70,?q71,?q72,?q73,?q74,?q75,?q76,?q77,?q78,?q79,?q80,?q81,?q82,?q83,?q84,?q85,?q86,?q87,?q88,?q89,?q90,?q91,?q92,?q93,?q94,?q95,?q96,?q97,?q98,?q99,?q100,?q101,?q102,?q103,?q104,?q105,?q106,?q107,?q108,?q109,?q110,?q111,?q112,?q113,?q114,?q115,?q116,?q117,?q118,?q119,?q120,?q121,?q122,?q123,?q124,?q125,?q126,?q127,?q128,?q129,?q130,?q131,?q132,?q133,?q134⟩
  all_goals try dsimp only
  (case q0 | q1 | q2 | q3 | q4 | q5 | q6 | q7 | q8 | q9 | q10=>refine' ⟨mg_of KX G ?_,⟨?_,?_,?_,?_⟩,?_,?_,⟨?_,?_,?_,?_,?_,?_,trivial⟩,⟨?_,?_,?_,?_,trivial⟩⟩ <;> (try dsimp only) <;> k_is)
  (case q11=>refine' ⟨mg_of KX G ?_,⟨?_,?_,?_,?_⟩,?_,?_,⟨?_,?_,?_,?_,?_,?_,?_,?_,?_,?_,?_,?_,?_,trivial⟩,⟨?_,?_,?_,?_,?_,trivial⟩⟩ <;> (try dsimp only) <;> k_is)
  (case q12=>refine' ⟨mg_of KX G ?_,⟨?_,?_,?_,?_⟩,?_,?_,⟨?_,?_,?_,?_,?_,?_,?_,?_,trivial⟩,⟨?_,?_,?_,?_,?_,?_,trivial⟩⟩ <;> (try dsimp only) <;> k_is)
  (case q13=>refine' ⟨mg_of KX G ?_,⟨?_,?_,?_,?_⟩,?_,?_,⟨?_,?_,?_,?_,?_,?_,trivial⟩,⟨?_,?_,?_,trivial⟩⟩ <;> (try dsimp only) <;> k_is)
  (case q14 | q15=>refine' .of (mg_of KX G ?_) (dI.of ?_ ?_ ?_ ?_ (λ_ _ _ _ _ _=>uF λ_=>rfl)) <;> (try k_is);all_goals try k_is)
  (case q16=>refine' dI.of ?_ ?_ ?_ ?_ (λ_ _ _ _ _ _=>aai λ_ _ _ _ _=>rfl) <;> try k_is)
  (case q17 | q18 | q19 | q20 | q21 | q22 | q23 | q24 | q25 | q26 | q27=>refine' dI.of ?_ ?_ ?_ ?_ (λ_ _ _ _ _ _=>uF λ_=>rfl) <;> try k_is)
  (case q28=>refine' .of (mg_of KX G ?_) (dI.of ?_ ?_ ?_ ?_ (λ_ _ _ _ _ _=>uF λ_=>rfl)) <;> (try k_is);all_goals try k_is)
  (case q29 | q30 | q31=>refine' .of (mg_of KX G ?_) (dI.of ?_ ?_ ?_ ?_ (λ_ _ _ _ _ _=>aai λ_ _ _ _ _=>rfl)) <;> (try k_is);all_goals try k_is)
  (case q32=>refine' .of (mg_of KX G ?_) (dI.of ?_ ?_ ?_ ?_ (λ_ _ _ _ _ _=>uF λ_=>rfl)) <;> (try k_is);all_goals try k_is)
  (case q33 | q34 | q35=>refine' dI.of ?_ ?_ ?_ ?_ (λ_ _ _ _ _ _=>wY λ_ _=>rfl) <;> try k_is)
  (case q36 | q37=>refine' dI.of ?_ ?_ ?_ ?_ (λ_ _ _ _ _ _=>uF λ_=>rfl) <;> try k_is)
  (case q38 | q39 | q40 | q41 | q42 | q43 | q44 | q45 | q46 | q47 | q48=>refine' dI.of ?_ ?_ ?_ ?_ (λ_ _ _ _ _ _=>KY λ_ _ _=>rfl) <;> try k_is)
  (case q49 | q50=>refine' .of (mg_of KX G ?_) (dI.of ?_ ?_ ?_ ?_ (λ_ _ _ _ _ _=>wY λ_ _=>rfl)) <;> (try k_is);all_goals try k_is)
  (case q51=>refine' .of (mg_of KX G ?_) (dI.of ?_ ?_ ?_ ?_ (λ_ _ _ _ _ _=>uF λ_=>rfl)) <;> (try k_is);all_goals try k_is)
  (case q52 | q53=>refine' .of (mg_of KX G ?_) (dI.of ?_ ?_ ?_ ?_ (λ_ _ _ _ _ _=>wY λ_ _=>rfl)) <;> (try k_is);all_goals try k_is)
  (case q54=>refine' .of (mg_of KX G ?_) (dI.of ?_ ?_ ?_ ?_ (λ_ _ _ _ _ _=>KY λ_ _ _=>rfl)) <;> (try k_is);all_goals try k_is)
  (case q55=>refine' .of (mg_of KX G ?_) (dI.of ?_ ?_ ?_ ?_ (λ_ _ _ _ _ _=>wY λ_ _=>rfl)) <;> (try k_is);all_goals try k_is)
  (case q56=>refine' .of (mg_of KX G ?_) (dI.of ?_ ?_ ?_ ?_ (λ_ _ _ _ _ _=>aaH λ_ _ _ _=>rfl)) <;> (try k_is);all_goals try k_is)
  (case q57 | q58 | q59=>refine' .of (mg_of KX G ?_) (dI.of ?_ ?_ ?_ ?_ (λ_ _ _ _ _ _=>KY λ_ _ _=>rfl)) <;> (try k_is);all_goals try k_is)
  (case q60 | q61=>refine' dI.of ?_ ?_ ?_ ?_ (λ_ _ _ _ _ _=>uF λ_=>rfl) <;> try k_is)
  (case q62=>refine' dI.of ?_ ?_ ?_ ?_ (λ_ _ _ _ _ _=>wY λ_ _=>rfl) <;> try k_is)
  (case q63 | q64=>refine' dI.of ?_ ?_ ?_ ?_ (λ_ _ _ _ _ _=>uF λ_=>rfl) <;> try k_is)
  (case q65 | q66 | q67 | q68 | q69 | q70=>refine' dI.of ?_ ?_ ?_ ?_ (λ_ _ _ _ _ _=>wY λ_ _=>rfl) <;> try k_is)
  (case q71=>refine' dI.of ?_ ?_ ?_ ?_ (λ_ _ _ _ _ _=>uF λ_=>rfl) <;> try k_is)
  (case q72=>refine' dI.of ?_ ?_ ?_ ?_ (λ_ _ _ _ _ _=>KY λ_ _ _=>rfl) <;> try k_is)
  (case q73=>refine' .of (mg_of KX G ?_) (dI.of ?_ ?_ ?_ ?_ (λ_ _ _ _ _ _=>wY λ_ _=>rfl)) <;> (try k_is);all_goals try k_is)
  (case q74=>refine' .of (mg_of KX G ?_) (dI.of ?_ ?_ ?_ ?_ (λ_ _ _ _ _ _=>uF λ_=>rfl)) <;> (try k_is);all_goals try k_is)
  (case q75 | q76=>refine' .of (mg_of KX G ?_) (dI.of ?_ ?_ ?_ ?_ (λ_ _ _ _ _ _=>wY λ_ _=>rfl)) <;> (try k_is);all_goals try k_is)
  (case q77=>refine' .of (mg_of KX G ?_) (dI.of ?_ ?_ ?_ ?_ (λ_ _ _ _ _ _=>aaH λ_ _ _ _=>rfl)) <;> (try k_is);all_goals try k_is)
  (case q78=>refine' .of (mg_of KX G ?_) (dI.of ?_ ?_ ?_ ?_ (λ_ _ _ _ _ _=>KY λ_ _ _=>rfl)) <;> (try k_is);all_goals try k_is)
  (case q79 | q80=>refine' .of (mg_of KX G ?_) (dI.of ?_ ?_ ?_ ?_ (λ_ _ _ _ _ _=>wY λ_ _=>rfl)) <;> (try k_is);all_goals try k_is)
  (case q81 | q82=>refine' .of (mg_of KX G ?_) (dI.of ?_ ?_ ?_ ?_ (λ_ _ _ _ _ _=>uF λ_=>rfl)) <;> (try k_is);all_goals try k_is)
  (case q83=>refine' .of (mg_of KX G ?_) (dI.of ?_ ?_ ?_ ?_ (λ_ _ _ _ _ _=>wY λ_ _=>rfl)) <;> (try k_is);all_goals try k_is)
  (case q84=>refine' .of (mg_of KX G ?_) (dI.of ?_ ?_ ?_ ?_ (λ_ _ _ _ _ _=>uF λ_=>rfl)) <;> (try k_is);all_goals try k_is)
  (case q85 | q86=>refine' .of (mg_of KX G ?_) (dI.of ?_ ?_ ?_ ?_ (λ_ _ _ _ _ _=>wY λ_ _=>rfl)) <;> (try k_is);all_goals try k_is)
  (case q87=>refine' .of (mg_of KX G ?_) (dI.of ?_ ?_ ?_ ?_ (λ_ _ _ _ _ _=>uF λ_=>rfl)) <;> (try k_is);all_goals try k_is)
  (case q88 | q89 | q90 | q91 | q92 | q93=>refine' dI.of ?_ ?_ ?_ ?_ (λ_ _ _ _ _ _=>wY λ_ _=>rfl) <;> try k_is)
  (case q94 | q95=>refine' dI.of ?_ ?_ ?_ ?_ (λ_ _ _ _ _ _=>KY λ_ _ _=>rfl) <;> try k_is)
  (case q96 | q97 | q98 | q99=>refine' dI.of ?_ ?_ ?_ ?_ (λ_ _ _ _ _ _=>wY λ_ _=>rfl) <;> try k_is)
  (case q100=>refine' XJ.of ?_ ?_ ?_ ?_ ?_ (λ_ F=>F.binds λ_ _ _ _ _ _ _=>wY λ_ _=>⟨_,rfl,rfl⟩) <;> (try k_is);all_goals try k_is)
  (case q101=>refine' .of (mg_of KX G ?_) (dI.of ?_ ?_ ?_ ?_ (λ_ _ _ _ _ _=>uF λ_=>rfl)) <;> (try k_is);all_goals try k_is)
  (case q102=>refine' .of (mg_of KX G ?_) (dI.of ?_ ?_ ?_ ?_ (λ_ _ _ _ _ _=>wY λ_ _=>rfl)) <;> (try k_is);all_goals try k_is)
  (case q103=>refine' dI.of ?_ ?_ ?_ ?_ (λ_ _ _ _ _ _=>KY λ_ _ _=>rfl) <;> try k_is)
  (case q104 | q105 | q106=>refine' .of (mg_of KX G ?_) (dI.of ?_ ?_ ?_ ?_ (λ_ _ _ _ _ _=>KY λ_ _ _=>rfl)) <;> (try k_is);all_goals try k_is)
  (case q107=>refine' .of (mg_of KX G ?_) (dI.of ?_ ?_ ?_ ?_ (λ_ _ _ _ _ _=>uF λ_=>rfl)) <;> (try k_is);all_goals try k_is)
  (case q108=>refine' .of (mg_of KX G ?_) (dI.of ?_ ?_ ?_ ?_ (λ_ _ _ _ _ _=>wY λ_ _=>rfl)) <;> (try k_is);all_goals try k_is)
  (case q109 | q110=>refine' .of (mg_of KX G ?_) (dI.of ?_ ?_ ?_ ?_ (λ_ _ _ _ _ _=>uF λ_=>rfl)) <;> (try k_is);all_goals try k_is)
  (case q111=>refine' mg_of KX G ?_;k_is)
  (case q112=>
   refine' L2.KTab.mk' ?lk ?c1 ?c2 ?c3 ?c4 ?sm ?rows ?nd
   (case lk=>k_is)
   (case c1=>exact rfl)
   (case c2=>exact rfl)
   (case c3=>exact rfl)
   (case c4=>exact rfl)
   (case sm=>exact rfl)
   (case nd=>decide +kernel)
   (case rows=>
    refine' L2.jt.cons ?hh0 ?lk0 ?cc0 ?dd0 ?vv0 ?zz0 ?rest0
    (case hh0=>exact rfl)
    (case lk0=>k_is)
    (case cc0=>exact rfl)
    (case dd0=>exact rfl)
    (case vv0=>exact .cons ⟨_,rfl⟩ (.cons ⟨_,rfl⟩ (.cons ⟨_,rfl⟩ .nil)))
    (case zz0=>decide)
    refine' L2.jt.cons ?hh1 ?lk1 ?cc1 ?dd1 ?vv1 ?zz1 ?rest1
    (case hh1=>exact rfl)
    (case lk1=>k_is)
    (case cc1=>exact rfl)
    (case dd1=>exact rfl)
    (case vv1=>exact .cons ⟨_,rfl⟩ (.cons ⟨_,rfl⟩ (.cons ⟨_,rfl⟩ .nil)))
    (case zz1=>decide)
    refine' L2.jt.cons ?hh2 ?lk2 ?cc2 ?dd2 ?vv2 ?zz2 ?rest2
    (case hh2=>exact rfl)
    (case lk2=>k_is)
    (case cc2=>exact rfl)
    (case dd2=>exact rfl)
    (case vv2=>exact .cons ⟨_,rfl⟩ (.cons ⟨_,rfl⟩ (.cons ⟨_,rfl⟩ .nil)))
    (case zz2=>decide)
    refine' L2.jt.cons ?hh3 ?lk3 ?cc3 ?dd3 ?vv3 ?zz3 ?rest3
    (case hh3=>exact rfl)
    (case lk3=>k_is)
    (case cc3=>exact rfl)
    (case dd3=>exact rfl)
    (case vv3=>exact .cons ⟨_,rfl⟩ (.cons ⟨_,rfl⟩ (.cons ⟨_,rfl⟩ .nil)))
    (case zz3=>decide)
    refine' L2.jt.cons ?hh4 ?lk4 ?cc4 ?dd4 ?vv4 ?zz4 ?rest4
    (case hh4=>exact rfl)
    (case lk4=>k_is)
    (case cc4=>exact rfl)
    (case dd4=>exact rfl)
    (case vv4=>exact .cons ⟨_,rfl⟩ (.cons ⟨_,rfl⟩ (.cons ⟨_,rfl⟩ .nil)))
    (case zz4=>decide)
    refine' L2.jt.cons ?hh5 ?lk5 ?cc5 ?dd5 ?vv5 ?zz5 ?rest5
    (case hh5=>exact rfl)
    (case lk5=>k_is)
    (case cc5=>exact rfl)
    (case dd5=>exact rfl)
    (case vv5=>exact .cons ⟨_,rfl⟩ (.cons ⟨_,rfl⟩ (.cons ⟨_,rfl⟩ .nil)))
    (case zz5=>decide)
    refine' L2.jt.cons ?hh6 ?lk6 ?cc6 ?dd6 ?vv6 ?zz6 ?rest6
    (case hh6=>exact rfl)
    (case lk6=>k_is)
    (case cc6=>exact rfl)
    (case dd6=>exact rfl)
    (case vv6=>exact .cons ⟨_,rfl⟩ (.cons ⟨_,rfl⟩ (.cons ⟨_,rfl⟩ .nil)))
    (case zz6=>decide)
    refine' L2.jt.cons ?hh7 ?lk7 ?cc7 ?dd7 ?vv7 ?zz7 ?rest7
    (case hh7=>exact rfl)
    (case lk7=>k_is)
    (case cc7=>exact rfl)
    (case dd7=>exact rfl)
    (case vv7=>exact .cons ⟨_,rfl⟩ (.cons ⟨_,rfl⟩ (.cons ⟨_,rfl⟩ .nil)))
    (case zz7=>decide)
    refine' L2.jt.cons ?hh8 ?lk8 ?cc8 ?dd8 ?vv8 ?zz8 ?rest8
    (case hh8=>exact rfl)
    (case lk8=>k_is)
    (case cc8=>exact rfl)
    (case dd8=>exact rfl)
    (case vv8=>exact .cons ⟨_,rfl⟩ (.cons ⟨_,rfl⟩ (.cons ⟨_,rfl⟩ .nil)))
    (case zz8=>decide)
    refine' L2.jt.cons ?hh9 ?lk9 ?cc9 ?dd9 ?vv9 ?zz9 ?rest9
    (case hh9=>exact rfl)
    (case lk9=>k_is)
    (case cc9=>exact rfl)
    (case dd9=>exact rfl)
    (case vv9=>exact .cons ⟨_,rfl⟩ (.cons ⟨_,rfl⟩ (.cons ⟨_,rfl⟩ .nil)))
    (case zz9=>decide)
    refine' L2.jt.cons ?hh10 ?lk10 ?cc10 ?dd10 ?vv10 ?zz10 ?rest10
    (case hh10=>exact rfl)
    (case lk10=>k_is)
    (case cc10=>exact rfl)
    (case dd10=>exact rfl)
    (case vv10=>exact .cons ⟨_,rfl⟩ (.cons ⟨_,rfl⟩ (.cons ⟨_,rfl⟩ .nil)))
    (case zz10=>decide)
    exact .nil))
  (case q113 | q114 | q115 | q116 | q117 | q118 | q119 | q120 | q121 | q122 | q123 | q124 | q125=>refine' mg_none_of KX G ?_;k_is)
  (case q126 | q127 | q128 | q129 | q130 | q131 | q132 | q133 | q134=>refine' gC (mg_of KX G ?_) ?_ <;> (try k_is);all_goals exact⟨_,rfl⟩)
