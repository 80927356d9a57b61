import PyProof.Rows.All
import Wide.All
import OpenK.AllK
import Wide.FinOn
import Lean
import PyProof.EqAt
import PyProof.EqKinds
import PyProof.TupleCall
import PyProof.StrLawsChain
import PyProof.StrLawsOccR
import PyProof.StrLawsReplace
import PyProof.NeKinds
import PyProof.EnumStmt
import PyProof.EnumMake
import PyProof.ListRange
import PyProof.StationsW
import PyProof.ExcClass2
import PyProof.ExcInit
import PyProof.InstStoreFacts
import OpenK.KRaise
import PyProof.NsDelKeeps
import PyProof.RulesAs
import PyProof.Rows.Catch
import OpenK.KOwn
import PyProof.ExcArgsOwn
import PyProof.ExcAttrAll.ValueError
import PyProof.IsiBase
import PyProof.MaxThree
import PyProof.SeqI3
import KE.KIsAll
import KE.IntTextLaws
import PyProof.StrLawsIdx
import PyProof.FitsInt
import PySem.Challenge.RW_holdlane_k22_nets_refused
set_option Elab.async false
set_option linter.all false
set_option maxRecDepth 100000
namespace L2
open PySem PySem.Spec PyProof.Rows
noncomputable abbrev Key:=Sum Int Str
noncomputable def zO:Key->Value->Bool
 | .inl k,v=>Value.isInt k v
 | .inr x,v=>Value.isStrOf x v
noncomputable def Wj (w:World):Key->Int
 | .inl k=>hashInt k
 | .inr x=>hashStr w x
theorem cT:∀{k:Key} {v:Value},zO k v=true->(∃i t,k=Sum.inl i/\v=Value.int i t)∨(∃x t,k=Sum.inr x/\v=Value.str x t)
 | .inl i,v,h=>by
  obtain⟨t,e⟩:=Value.isInt_shape (k:=i) (v:=v) h
  exact .inl ⟨i,t,rfl,e⟩
 | .inr x,v,h=>by
  obtain⟨t,e⟩:=Value.isStrOf_shape (x:=x) (v:=v) h
  exact .inr ⟨x,t,rfl,e⟩
theorem M4 (i:Int) (t:Tok):zO (.inl i) (.int i t)=true:=by simp [zO,Value.isInt]
theorem Ni (x:Str) (t:Tok):zO (.inr x) (.str x t)=true:=by simp [zO,Value.isStrOf]
theorem VN (a b:Int):decide ((Sum.inl a:Key)=Sum.inl b)=(a == b):=by
 by_cases e:a=b
 ·subst e;simp
 ·have h:¬(Sum.inl a:Key)=Sum.inl b:=λq=>e (Sum.inl.inj q)
  rw [decide_eq_false h]
  exact(beq_eq_false_iff_ne.mpr e).symm
theorem Vv (a b:Str):decide ((Sum.inr a:Key)=Sum.inr b)=decide (a=b):=by
 by_cases e:a=b
 ·subst e;simp
 ·have h:¬(Sum.inr a:Key)=Sum.inr b:=λq=>e (Sum.inr.inj q)
  rw [decide_eq_false h,decide_eq_false e]
theorem Vh (a:Int) (b:Str):decide ((Sum.inl a:Key)=Sum.inr b)=false:=decide_eq_false (λq=>nomatch q)
theorem VH (a:Str) (b:Int):decide ((Sum.inr a:Key)=Sum.inl b)=false:=decide_eq_false (λq=>nomatch q)
noncomputable def bL (prog:Program) (w:World):PySem.KeyKind prog w Key where
 is:=zO
 hash:=Wj w
 inj:=λv a b ha hb=>by
  rcases cT ha with ⟨i,t,rfl,rfl⟩ | ⟨x,t,rfl,rfl⟩
  ·rcases cT hb with ⟨j,u,rfl,e⟩ | ⟨y,u,rfl,e⟩
   ·injection e with e1 _;rw [e1]
   ·exact nomatch e
  ·rcases cT hb with ⟨j,u,rfl,e⟩ | ⟨y,u,rfl,e⟩
   ·exact nomatch e
   ·injection e with e1 _;rw [e1]
 byValue:=λk v h=>by
  rcases cT h with ⟨i,t,rfl,rfl⟩ | ⟨x,t,rfl,rfl⟩ <;> rfl
 pyHash:=λhv h=>by
  rcases cT hv with ⟨i,t,rfl,rfl⟩ | ⟨x,t,rfl,rfl⟩
  ·exact wpAny_pyHash_int h
  ·exact wpAny_pyHash_str h
 eqBool:=λhu hv h=>by
  rcases cT hu with ⟨i,t,rfl,rfl⟩ | ⟨x,t,rfl,rfl⟩
  ·rcases cT hv with ⟨j,u,rfl,rfl⟩ | ⟨y,u,rfl,rfl⟩
   ·rw [VN] at h;exact wpAny_eqBool_int h
   ·rw [Vh] at h;exact SeqAt.EqAt.int_str i t y u _ _ _ _ h
  ·rcases cT hv with ⟨j,u,rfl,rfl⟩ | ⟨y,u,rfl,rfl⟩
   ·rw [VH] at h;exact SeqAt.EqAt.str_int x t j u _ _ _ _ h
   ·rw [Vv] at h;exact wpAny_eqBool_str h
 «strs» :=λk x t v h=>by
  rcases cT h with ⟨i,u,rfl,e⟩ | ⟨y,u,rfl,e⟩
  ·exact nomatch e
  ·injection e with e1 _
   subst e1
   cases v <;> rfl
theorem Jy (prog:Program) (w:World) (i:Int) (t:Tok):(bL prog w).is (.inl i) (.int i t)=true:=M4 i t
theorem jP (prog:Program) (w:World) (x:Str) (t:Tok):(bL prog w).is (.inr x) (.str x t)=true:=Ni x t
inductive V where
 | non | bl (b:Bool) | int (i:Int) | str (x:Str) | byt (b:Array UInt8) | flt (b:UInt64) | ref (a:Addr) | ty (n:String)
 deriving DecidableEq
noncomputable def RelV:V->Value->Prop
 | .non,u=>u=Value.none
 | .bl b,u=>u=Value.bool b
 | .int i,u=>∃t,u=Value.int i t
 | .str x,u=>∃t,u=Value.str x t
 | .byt b,u=>∃t,u=Value.bytes b t
 | .flt b,u=>∃t,u=Value.float b t
 | .ref a,u=>u=Value.ref a
 | .ty n,u=>u=Value.type n
noncomputable abbrev Vals:List V->List Value->Prop:=Paired RelV
theorem Vals.length {xs:List V} {us:List Value} (r:Vals xs us):xs.length=us.length:=Paired.length r
theorem Vals.get:∀{xs:List V} {us:List Value} {i:Nat} {x:V},Vals xs us->xs[i]?=some x->∃u,us[i]?=some u/\RelV x u
 | _,_,_,_,.nil,e=>by simp at e
 | _,_,0,_,.cons r _,e=>by simp at e;subst e;exact⟨_,rfl,r⟩
 | _,_,i+1,x,.cons _ t,e=>by
  obtain⟨u,h1,h2⟩:=Vals.get (i:=i) (x:=x) t (by simpa using e)
  exact⟨u,by simpa using h1,h2⟩
theorem Vals.set {x:V} {u:Value} (r:RelV x u):∀{xs:List V} {us:List Value} (i:Nat),Vals xs us->Vals (xs.set i x) (us.set i u)
 | _,_,_,.nil=>.nil
 | _,_,0,.cons _ t=>.cons r t
 | _,_,i+1,.cons q t=>.cons q (Vals.set r i t)
theorem Vals.append:∀{xs ys:List V} {us ws:List Value},Vals xs us->Vals ys ws->Vals (xs ++ ys) (us ++ ws)
 | _,_,_,_,.nil,s=>s
 | _,_,_,_,.cons r t,s=>.cons r (Vals.append t s)
theorem Vals.take:∀{xs:List V} {us:List Value} (n:Nat),Vals xs us->Vals (xs.take n) (us.take n)
 | _,_,0,_=>.nil
 | _,_,_+1,.nil=>.nil
 | _,_,n+1,.cons r t=>.cons r (Vals.take n t)
theorem Vals.drop:∀{xs:List V} {us:List Value} (n:Nat),Vals xs us->Vals (xs.drop n) (us.drop n)
 | _,_,0,r=>r
 | _,_,_+1,.nil=>.nil
 | _,_,n+1,.cons _ t=>Vals.drop n t
noncomputable def qg:Option V->Option Value->Prop
 | some v,some u=>RelV v u
 | none,none=>True
 | _,_=>False
noncomputable def KV {κ:Type}:List (κ×V)->List (κ×Value)->Prop:=Paired fun(p:κ×V) (q:κ×Value)=>p.1=q.1/\RelV p.2 q.2
noncomputable def kV:Key->V
 | .inl i=>.int i
 | .inr x=>.str x
inductive HO where
  | lst (xs:List V)
  | tup (xs:List V)
  | dK (kvs:List (Key×V)) | dT (kvs:List (List Key×V))
  | set (S:Int->Bool) (n:Nat)
  | ins (C dx:Addr) (fs:List (Str×V))
  | own (x:Addr)
  | xd (fs:List (Str×V))
  | met (f x:Addr)
  | rng (lo hi:Int)
  | frz (o:Obj) (u:HO)
  | tbl (ps:Array Value)
  | ext (φ:Heap->Prop)
noncomputable abbrev Hp:=Addr->Option HO
noncomputable def upd (H:Hp) (a:Addr) (o:HO):Hp:=λb=>if b=a then some o else H b
theorem aq {H:Hp} {a:Addr} {o:HO}:upd H a o a=some o:=by unfold upd;rw [if_pos rfl]
theorem aD {H:Hp} {a b:Addr} {o:HO} (h:b≠a):upd H a o b=H b:=by unfold upd;rw [if_neg h]
theorem uE {H:Hp} {a:Addr} {o u:HO}:upd (upd H a o) a u=upd H a u:=by
 funext b;unfold upd;split <;> rfl
theorem zc {H:Hp} {a b:Addr} {o u:HO} (h:H a=some o) (h':H b=some u) (d:o≠u):a≠b:=by
 intro e;subst e;rw [h] at h';exact d (Option.some.inj h')
theorem aB {H:Hp} {a b:Addr} {o:HO} (h:H a=some o) (h':H b=none):a≠b:=by
 intro e;subst e;rw [h] at h';cases h'
section
variable (P:Program) (w:World)
noncomputable def cV (H:Hp) (h:Heap) (a:Addr):HO->Prop
 | .lst xs=>xs.length<=sizeLine/\∃(its:List Value) (n:Nat),Vals xs its/\h.get? a=some { cls:=.type "list",data:=.seq its.toArray n }
 | .tup xs=>xs.length<=sizeLine/\∃its:List Value,Vals xs its/\IsTup h a its.toArray
 | .dK kvs=>kvs.length<=sizeLine/\(a == sysModules)=false/\∃vs,KV kvs vs/\h.DictOf (bL P w) a vs
 | .dT kvs=>kvs.length<=sizeLine/\(a == sysModules)=false/\∃xs:List (List Key×Addr×Value),
   Paired (fun(p:List Key×V) (q:List Key×Addr×Value)=>p.1=q.1/\H q.2.1=some (.tup (p.1.map kV))/\RelV p.2 q.2.2) kvs xs/\
   ∃o es ep,h.get? a=some o/\o.ExactDict/\o.data=.dict es ep/\es.toList=xs.map (entryOfKey (tupleKind (bL P w)))/\(xs.map (·.1)).Nodup
 | .set S n=>h.SetOf (intKind P w) a S n
 | .ins C dx fs=>H dx=some (.own a)/\fs.length<=1000/\dx≠a/\h.get? a=some (PySem.W.instObj C dx)/\
   ∃mA,h.Ns1 dx mA/\(∀f,qg (fs.lookup f) (mA f))/\PySem.Within mA (fs.map (·.1))
 | .own _=>∃o,h.get? a=some o
 | .xd fs=>∃mA,h.Ns1 a mA/\∀f,qg (fs.lookup f) (mA f)
 | .rng lo hi=>∃t u v,h.get? a=some { cls:=.type "range",data:=.fields #[.int lo t,.int hi u,.int 1 v] }
 | .frz o u=>h.get? a=some o/\cV H h a u
 | .tbl ps=>h.get? a=some { cls:=.none,data:=.fields ps }
 | .met f x=>h.get? a=some (PySem.W.methodObj (.ref f) (.ref x))
 | .ext φ=>φ h/\(∃o,h.get? a=some o)/\∀h1 h2:Heap,φ h1->(∀o,h1.get? a=some o->h2.get? a=some o)->φ h2
noncomputable def rK (H:Hp) (h:Heap):Prop:=∀a o,H a=some o->cV P w H h a o
end
section
variable {P:Program} {w:World} {H H':Hp} {h h':Heap} {a:Addr} {o:HO}
theorem cV.lt (x:cV P w H h a o):a <h.objs.size:=by
 cases o with
 | lst xs=>obtain⟨_,_,_,_,e⟩:=x;exact Heap.lt_size e
 | tup xs=>obtain⟨_,_,_,p⟩:=x;exact p.lt
 | dK kvs=>obtain⟨_,_,_,_,o,_,_,e,_⟩:=x;exact Heap.lt_size e
 | dT kvs=>obtain⟨_,_,_,_,o,_,_,e,_⟩:=x;exact Heap.lt_size e
 | set S n=>obtain⟨o,_,_,_,e,_⟩:=x;exact Heap.lt_size e
 | ins C dx fs=>obtain⟨_,_,_,e,_⟩:=x;exact Heap.lt_size e
 | own y=>obtain⟨_,e⟩:=x;exact Heap.lt_size e
 | xd fs=>obtain⟨_,⟨_,_,_,e,_⟩,_⟩:=x;exact Heap.lt_size e
 | rng lo hi=>obtain⟨_,_,_,e⟩:=x;exact Heap.lt_size e
 | frz ob u=>obtain⟨e,_⟩:=x;exact Heap.lt_size e
 | tbl ps=>exact Heap.lt_size (show h.get? a=some _ from x)
 | met f y=>exact Heap.lt_size (show h.get? a=some _ from x)
 | ext φ=>obtain⟨_,⟨_,e⟩,_⟩:=x;exact Heap.lt_size e
theorem Paired.mapP {α β:Type} {F G:α->β->Prop}:∀{l₁:List α} {l₂:List β},Paired F l₁ l₂->(∀a b,F a b->G a b)->Paired G l₁ l₂
 | _,_,.nil,_=>.nil
 | _,_,.cons r t,f=>.cons (f _ _ r) (Paired.mapP t f)
theorem cV.stay (x:cV P w H h a o) (k:∀b u,(b=a∨H b=some (.own a))->h.get? b=some u->h'.get? b=some u)
  (ho:∀b,H b=some (.own a)->H' b=some (.own a)) (ht:∀b xs,H b=some (.tup xs)->H' b=some (.tup xs)):cV P w H' h' a o:=by
 induction o with
 | lst xs=>obtain⟨z,its,n,r,e⟩:=x;exact⟨z,its,n,r,k _ _ (.inl rfl) e⟩
 | tup xs=>obtain⟨z,its,r,ob,e,c⟩:=x;exact⟨z,its,r,ob,k _ _ (.inl rfl) e,c⟩
 | dK kvs=>obtain⟨z,y,vs,r,ob,es,ep,e,c⟩:=x;exact⟨z,y,vs,r,ob,es,ep,k _ _ (.inl rfl) e,c⟩
 | dT kvs=>
  obtain⟨z,y,xs,r,ob,es,ep,e,c⟩:=x
  exact⟨z,y,xs,Paired.mapP r λp q z=>⟨z.1,ht _ _ z.2.1,z.2.2⟩,ob,es,ep,k _ _ (.inl rfl) e,c⟩
 | set S n=>obtain⟨ob,es,ep,t,e,c⟩:=x;exact⟨ob,es,ep,t,k _ _ (.inl rfl) e,c⟩
 | ins C dx fs=>
  obtain⟨d,z,ne,e,mA,⟨od,es,ep,e2,c⟩,r⟩:=x
  exact⟨ho _ d,z,ne,k _ _ (.inl rfl) e,mA,⟨od,es,ep,k _ _ (.inr d) e2,c⟩,r⟩
 | own y=>obtain⟨ob,e⟩:=x;exact⟨ob,k _ _ (.inl rfl) e⟩
 | xd fs=>obtain⟨mA,⟨od,es,ep,e,c⟩,r⟩:=x;exact⟨mA,⟨od,es,ep,k _ _ (.inl rfl) e,c⟩,r⟩
 | rng lo hi=>obtain⟨t,u,v,e⟩:=x;exact⟨t,u,v,k _ _ (.inl rfl) e⟩
 | frz ob u ih=>obtain⟨e,q⟩:=x;exact⟨k _ _ (.inl rfl) e,ih q⟩
 | tbl ps=>
  have e:h.get? a=some { cls:=.none,data:=.fields ps }:=x
  show h'.get? a=some { cls:=.none,data:=.fields ps }
  exact k a _ (.inl rfl) e
 | met f y=>
  have e:h.get? a=some (PySem.W.methodObj (.ref f) (.ref y)):=x
  show h'.get? a=some (PySem.W.methodObj (.ref f) (.ref y))
  exact k a _ (.inl rfl) e
 | ext φ=>obtain⟨p,⟨o,e⟩,st⟩:=x;exact⟨st _ _ p λo q=>k _ _ (.inl rfl) q,⟨o,k _ _ (.inl rfl) e⟩,st⟩
theorem rK.lt (x:rK P w H h) (e:H a=some o):a <h.objs.size:=(x a o e).lt
theorem rK.fresh (x:rK P w H h) (e:h.objs.size<=a):H a=none:=by
 cases q:H a with
 | none=>rfl
 | some u=>exact absurd (Nat.lt_of_lt_of_le (x.lt q) e) (Nat.lt_irrefl _)
theorem rK.kept (x:rK P w H h) (k:∀b u,h.get? b=some u->h'.get? b=some u):rK P w H h':=λa o e=>
 (x a o e).stay (λb u _ q=>k b u q) (λ_ q=>q) λ_ _ q=>q
theorem rK.laid (x:rK P w H h) (k:∀b u,h.get? b=some u->h'.get? b=some u) (hp:h.objs.size<=a) (new:cV P w (upd H a o) h' a o):rK P w (upd H a o) h':=λb u e=>by
 have hn:=x.fresh hp
 by_cases hb:b=a
 ·subst hb;rw [aq] at e;cases e;exact new
 ·rw [aD hb] at e
  exact(x b u e).stay (λc v _ q=>k c v q) (λc q=>by rw [aD (aB q hn)];exact q) λc xs q=>by rw [aD (aB q hn)];exact q
end
noncomputable def Rd (H:Hp) (a:Addr) (u:HO):Prop:=H a=some u∨∃o,H a=some (.frz o u)
theorem Rd.ok {P:Program} {w:World} {H:Hp} {h:Heap} {a:Addr} {u:HO} (r:Rd H a u) (x:rK P w H h):cV P w H h a u:=by
 rcases r with r | ⟨o,r⟩
 ·exact x a u r
 ·obtain⟨_,q⟩:=x a _ r
  exact q
noncomputable def Xj:Option HO->Prop
 | some (.lst _)=>True
 | some (.dK _)=>True
 | some (.dT _)=>True
 | some (.set _ _)=>True
 | some (.ins _ _ _)=>True
 | some (.ext _)=>True
 | _=>False
section
variable {P:Program} {w:World} {H:Hp} {h h':Heap} {x e:Addr} {o':HO}
theorem rK.write (ok:rK P w H h) (mu:Xj (H x)) (he:e=x∨H e=some (.own x)) (k:∀b u,b≠e->h.get? b=some u->h'.get? b=some u) (heo:∃u,h'.get? e=some u)
  (new:cV P w (upd H x o') h' x o'):rK P w (upd H x o') h':=λb u q=>by
 have nown:∀c y,H c=some (.own y)->c≠x:=λc y r z=>by subst z;rw [r] at mu;exact mu
 have ntup:∀c xs,H c=some (.tup xs)->c≠x:=λc xs r z=>by subst z;rw [r] at mu;exact mu
 by_cases hb:b=x
 ·subst hb;rw [aq] at q;cases q;exact new
 ·rw [aD hb] at q
  by_cases hbe:b=e
  ·have q':H b=some (.own x):=by
    rcases he with z | z
    ·exact absurd (hbe.trans z) hb
    ·rw [hbe];exact z
   rw [q] at q';cases q'
   obtain⟨v,hv⟩:=heo
   exact⟨v,by rw [hbe];exact hv⟩
  ·refine(ok b u q).stay (λc v hc r=>k c v ?_ r) (λc r=>by rw [aD (nown c b r)];exact r) λc xs r=>by rw [aD (ntup c xs r)];exact r
   rcases hc with rfl | hc
   ·exact hbe
   ·rintro rfl
    rcases he with z | z
    ·exact nown c b hc z
    ·rw [hc] at z;cases z;exact hb rfl
end
structure Un (fs ex:List Addr) (H H':Hp) (h h':Heap):Prop where
 keep:∀b o,h.get? b=some o->H b=none->b∉fs->b∉ex->h'.get? b=some o
 slot:∀b o,h.get? b=some o->H b=none->b∈fs->b∉ex->∃sl,h'.get? b=some { o with slots:=sl }
 free:∀b o,h.get? b=some o->H b=none->b∉ex->H' b=none
 there:∀b o,h.get? b=some o->b∉ex->∃o',h'.get? b=some o'
 tups:∀b xs,H b=some (.tup xs)->H' b=some (.tup xs)
 frzs:∀b o u,H b=some (.frz o u)->H' b=some (.frz o u)
 tbls:∀b ps,H b=some (.tbl ps)->∃more,H' b=some (.tbl (ps ++ more))
section
variable {fs fs' ex ex':List Addr} {H H1 H2:Hp} {h h1 h2 h':Heap} {a x e:Addr} {o:HO}
theorem Un.any (u:Un fs ex H H1 h h1) {b:Addr} {ob:Obj} (q:h.get? b=some ob) (n:H b=none) (hx:b∉ex):∃sl,h1.get? b=some { ob with slots:=sl }:=by
 by_cases hb:b∈fs
 ·exact u.slot b ob q n hb hx
 ·exact⟨ob.slots,u.keep b ob q n hb hx⟩
theorem Un.kept (k:∀b u,h.get? b=some u->h'.get? b=some u):Un fs ex H H h h':=
 ⟨λb ob q _ _ _=>k b ob q,λb ob q _ _ _=>⟨ob.slots,k b ob q⟩,λ_ _ _ n _=>n,λb ob q _=>⟨ob,k b ob q⟩,λ_ _ q=>q,λ_ _ _ q=>q,λ_ ps q=>⟨#[],by rw [q];simp⟩⟩
theorem Un.refl:Un fs ex H H h h:=Un.kept λ_ _ q=>q
theorem Un.laid (k:∀b u,h.get? b=some u->h'.get? b=some u) (hp:h.objs.size<=a) (hn:H a=none):Un fs ex H (upd H a o) h h' where
 keep:=λb u q _ _ _=>k b u q
 slot:=λb u q _ _ _=>⟨u.slots,k b u q⟩
 free:=λb u q n _=>by rw [aD (Nat.ne_of_lt (Nat.lt_of_lt_of_le (Heap.lt_size q) hp))];exact n
 there:=λb u q _=>⟨u,k b u q⟩
 tups:=λb xs q=>by rw [aD (aB q hn)];exact q
 frzs:=λb u xs q=>by rw [aD (aB q hn)];exact q
 tbls:=λb ps q=>⟨#[],by rw [aD (aB q hn),q];simp⟩
theorem Un.write (mu:Xj (H x)) (he:e=x∨H e=some (.own x)) (k:∀b u,b≠e->h.get? b=some u->h'.get? b=some u) (heo:∃u,h'.get? e=some u):Un fs ex H (upd H x o) h h':=by
 have hx:∀b,H b=none->b≠x:=λb n z=>by subst z;rw [n] at mu;exact mu
 have hb:∀b,H b=none->b≠e:=λb n z=>by
  subst z
  rcases he with r | r
  ·exact hx b n r
  ·rw [n] at r;cases r
 have hm:∀b u,H b=some u->¬Xj (some u)->b≠x:=λb u q nm z=>by subst z;rw [q] at mu;exact nm mu
 refine⟨λb u q n _ _=>k b u (hb b n) q,λb u q n _ _=>⟨u.slots,k b u (hb b n) q⟩,λb u q n _=>by rw [aD (hx b n)];exact n,λb u q _=>?_,
  λb xs q=>by rw [aD (hm b _ q λz=>z)];exact q,λb u xs q=>by rw [aD (hm b _ q λz=>z)];exact q,λb ps q=>⟨#[],by rw [aD (hm b _ q λz=>z),q];simp⟩⟩
 by_cases hbe:b=e
 ·subst hbe;exact heo
 ·exact⟨u,k b u hbe q⟩
end
noncomputable def XH (h:Heap) (H:Hp):List Addr:=(List.range h.objs.size).filter λa=>(H a).isSome
noncomputable def GX (h:Heap) (H:Hp):Heap:=PySem.W.hideAll h (XH h H)
theorem M5 (h:Heap) (H:Hp):(GX h H).objs.size=h.objs.size:=PySem.W.hideAll_size _ _
theorem Pg {h:Heap} {H:Hp} {b:Addr} {o:Obj} (e:h.get? b=some o) (n:H b=none):(GX h H).get? b=some o:=
 PySem.W.hideAll_get _ e λhm=>by
  have q:(H b).isSome=true:=(List.mem_filter.mp hm).2
  rw [n] at q;simp at q
theorem Sg {h:Heap} {H:Hp} {b:Addr} {o:Obj} (e:(GX h H).get? b=some o):h.get? b=some o/\H b=none:=by
 have e':h.get? b=some o:=PySem.W.of_hideAll (XH h H) e
 refine⟨e',?_⟩
 cases q:H b with
 | none=>rfl
 | some x=>
  have hm:b∈XH h H:=List.mem_filter.mpr ⟨List.mem_range.mpr (Heap.lt_size e'),by simp [q]⟩
  have z:(GX h H).get? b=none:=PySem.W.hideAll_none (XH h H) hm
  rw [z] at e;cases e
structure Mod (K:PySem.W.Frag) (mg:Str->Option Value) (base:Heap):Prop where
 kin:K.In base
 glob:base.Ns mainGlobals mg
 blt:∃mb,base.Ns builtinsNs mb/\∀x:Str,x≠ "__name__" ->mb x=bootBuiltins x
 nolimit:base.NoLimit
structure Cx where
 prog:Program
 w:World
 K:PySem.W.Frag
 mg:Str->Option Value
 base:Heap
 A:Around
 N:List Str
 s₀:Shared
 H₀:Hp
 env:Env
 outer:List Env
 stack:List Env
 ex:List Addr
 fn:Str->Bool
 calm:Bool
 pn:List (Addr×Obj)
 xe:Value->Shared->Prop
noncomputable def frs (l:List Env):List Addr:=l.filterMap (·.frame)
noncomputable abbrev Cx.fs (X:Cx):List Addr:=frs X.outer
noncomputable def Xu (sc:Scope) (x:Str):Prop:=sc.names.lookup x=some .local∨sc.names.lookup x=some .cell∨sc.names.lookup x=some .free
noncomputable def Loc (sc:Scope) (x:Str):Prop:=sc.names.lookup x=some .local∨sc.names.lookup x=some .cell
noncomputable def Look (env:Env) (h:Heap) (m:Str->Option Value) (x:Str) (u:Value):Prop:=
 (env.kindOf x=some .local/\m x=some u)∨((env.kindOf x=some .cell∨env.kindOf x=some .free)/\∃c,env.cells.lookup x=some c/\h.IsCell c (some u))
structure Cx.Ok (X:Cx):Prop where
 mod:Mod X.K X.mg X.base
 kind:X.env.scope.kind=.function
 glob:X.env.globals=mainGlobals
 blt:X.env.builtins=builtinsNs
 above:X.s₀.heap.objs.size<=X.env.locals
 inj:∀x y c,X.env.cells.lookup x=some c->X.env.cells.lookup y=some c->x=y
 has:∀x,(X.env.kindOf x=some .cell∨X.env.kindOf x=some .free)->∃c,X.env.cells.lookup x=some c
 cab:∀x c,X.fn x=true->X.env.cells.lookup x=some c->X.s₀.heap.objs.size<=c
 hd:X.calm=true->X.A.handled=none
 frames:X.A.frames=some X.stack
 stk:X.stack=X.outer∨(X.stack=X.env:: X.outer/\X.env.frame=some X.env.locals)
 exf:∀b∈X.ex,b≠X.env.locals/\∀x c,X.env.cells.lookup x=some c->c≠b
 bs:∀b o,X.base.get? b=some o->X.s₀.heap.get? b=some o/\X.H₀ b=none
 bsz:X.base.objs.size<=X.s₀.heap.objs.size
 noex:∀b o,X.base.get? b=some o->b∉X.ex
 exfs:∀b∈X.ex,b∉X.fs
 funs:X.s₀.heap.FunFrames X.base X.outer
 frf:∀b∈X.fs,X.H₀ b=none
structure Inv (X:Cx) (pins:List (Addr×Obj)) (σ:List (Option V)) (H:Hp) (s:Shared):Prop where
 ok:X.Ok
 os:s.os=X.s₀.os
 bare:AllBare s.gens
 base:Un X.fs X.ex X.H₀ H X.s₀.heap s.heap
 loc:∃m,s.heap.Ns X.env.locals m/\∀(i:Nat) (x:Str) (v:V),X.N[i]?=some x->σ[i]?=some (some v)->Xu X.env.scope x->∃u,RelV v u/\Look X.env s.heap m x u
 cell:∀x c,X.env.cells.lookup x=some c->∃v,s.heap.IsCell c v
 free:H X.env.locals=none
 freeC:∀x c,X.env.cells.lookup x=some c->H c=none
 pin:∀p∈X.pn ++ pins,s.heap.get? p.1=some p.2/\H p.1=none/\p.1≠X.env.locals/\p.1∉X.fs/\∀v,p.2.data≠.cell v
 hok:rK X.prog X.w H s.heap
 len:σ.length=X.N.length
section
variable {X:Cx} {pins:List (Addr×Obj)} {σ:List (Option V)} {H H':Hp} {s:Shared} {h':Heap}
theorem Cx.Ok.nofr (ok:X.Ok) {b:Addr} {o:Obj} (e:X.base.get? b=some o):b∉X.fs:=λhb=>by
 have:=(ok.funs.mem hb).1
 rw [e] at this;cases this
theorem Inv.bs (I:Inv X pins σ H s):∀b o,X.base.get? b=some o->s.heap.get? b=some o/\H b=none:=λb o e=>
 ⟨I.base.keep b o (I.ok.bs b o e).1 (I.ok.bs b o e).2 (I.ok.nofr e) (I.ok.noex b o e),I.base.free b o (I.ok.bs b o e).1 (I.ok.bs b o e).2 (I.ok.noex b o e)⟩
theorem Inv.bk (I:Inv X pins σ H s):∀b o,X.base.get? b=some o->s.heap.get? b=some o:=λb o e=>(I.bs b o e).1
theorem Inv.mod (I:Inv X pins σ H s):Mod X.K X.mg X.base:=I.ok.mod
theorem Inv.kIn (I:Inv X pins σ H s):X.K.In s.heap:=I.ok.mod.kin.keeps I.bk
theorem Inv.lt (I:Inv X pins σ H s):X.env.locals <s.heap.objs.size:=let ⟨_,hn,_⟩:=I.loc;hn.lt
theorem Inv.sz (I:Inv X pins σ H s):X.s₀.heap.objs.size<=s.heap.objs.size:=Nat.le_trans I.ok.above (Nat.le_of_lt I.lt)
theorem Inv.nofs (I:Inv X pins σ H s) {a:Addr} (h:s.heap.objs.size<=a):a∉X.fs:=λhb=>by
 obtain⟨_,o,ho,_⟩:=I.ok.funs.mem hb
 exact absurd (Nat.lt_of_lt_of_le (Heap.lt_size ho) (Nat.le_trans I.sz h)) (Nat.lt_irrefl _)
theorem Inv.cne (I:Inv X pins σ H s):∀x c,X.env.cells.lookup x=some c->c≠X.env.locals:=λx c e z=>by
 obtain⟨v,o,ho,hd⟩:=I.cell x c e
 obtain⟨m,⟨o',es,ep,ho',hd',_⟩,_⟩:=I.loc
 rw [z,ho'] at ho;cases ho;rw [hd'] at hd;cases hd
theorem Inv.funs (I:Inv X pins σ H s):s.heap.FunFrames X.base X.outer:=by
 have all:∀(l:List Env),(∀b∈frs l,b∈X.fs)->X.s₀.heap.FunFrames X.base l->s.heap.FunFrames X.base l:=by
  intro l
  induction l with
  | nil=>intro _ _;trivial
  | cons env r ih=>
   intro hs hl
   obtain⟨hk,⟨L,o,hf,hn,ho,hd⟩,hr⟩:=hl
   have hL:L∈X.fs:=hs L (by unfold frs;rw [List.filterMap_cons,hf];exact List.mem_cons_self)
   obtain⟨sl,e⟩:=I.base.slot L o ho (I.ok.frf L hL) hL λz=>I.ok.exfs L z hL
   exact⟨hk,⟨L,_,hf,hn,e,hd⟩,ih (λb hb=>hs b (by unfold frs;rw [List.filterMap_cons,hf];exact List.mem_cons_of_mem _ hb)) hr⟩
 exact all X.outer (λ_ hb=>hb) I.ok.funs
theorem Inv.stack (I:Inv X pins σ H s):s.heap.FunFrames X.base X.stack:=by
 rcases I.ok.stk with e | ⟨e,hf⟩
 ·rw [e];exact I.funs
 ·rw [e]
  obtain⟨m,hn,_⟩:=I.loc
  refine .cons (by rw [I.ok.kind];decide) hf hn ?_ I.funs
  exact Heap.get?_none_of_le (Nat.le_trans I.ok.bsz I.ok.above)
theorem Inv.stkSub (I:Inv X pins σ H s):∀b∈frs X.stack,b∈X.env.locals:: X.fs:=λb hb=>by
 rcases I.ok.stk with e | ⟨e,hf⟩
 ·rw [e] at hb;exact List.mem_cons_of_mem _ hb
 ·rw [e] at hb
  unfold frs at hb
  rw [List.filterMap_cons,hf] at hb
  exact hb
theorem Inv.stkFree (I:Inv X pins σ H s):∀b∈frs X.stack,H b=none:=λb hb=>by
 rcases List.mem_cons.mp (I.stkSub b hb) with e | hb
 ·rw [e];exact I.free
 ·obtain⟨_,o,ho,_⟩:=I.ok.funs.mem hb
  exact I.base.free b o ho (I.ok.frf b hb) λz=>I.ok.exfs b z hb
theorem Inv.step {g':Array GenState} {t':Nat} {d':Drawn} {ch:List Addr} (I:Inv X pins σ H s)
  (hch:∀b∈ch,(b∈X.ex∨X.s₀.heap.objs.size<=b)/\b≠X.env.locals/\(∀x c,X.env.cells.lookup x=some c->c≠b)/\∀p∈X.pn ++ pins,p.1≠b)
  (keep:∀b o,b≠X.env.locals->b∉X.fs->b∉ch->s.heap.get? b=some o->H b=none->h'.get? b=some o)
  (slot:∀b o,b≠X.env.locals->b∈X.fs->b∉ch->s.heap.get? b=some o->H b=none->∃sl,h'.get? b=some { o with slots:=sl }) (free:∀b o,b∉ch->s.heap.get? b=some o->H b=none->H' b=none)
  (there:∀b o,b∉ch->s.heap.get? b=some o->∃o',h'.get? b=some o')
  (tups:∀b xs,H b=some (.tup xs)->H' b=some (.tup xs)) (frzs:∀b o u,H b=some (.frz o u)->H' b=some (.frz o u)) (tbls:∀b ps,H b=some (.tbl ps)->∃more,H' b=some (.tbl (ps ++ more)))
  (ns:∀m,s.heap.Ns X.env.locals m->h'.Ns X.env.locals m) (hok:rK X.prog X.w H' h') (hg:AllBare g'):
  Inv X pins σ H' { s with heap:=h',gens:=g',drawn:=d',toks:=t' }:=by
 have neL:∀b o,X.s₀.heap.get? b=some o->b≠X.env.locals:=λb o e=>Nat.ne_of_lt (Nat.lt_of_lt_of_le (Heap.lt_size e) I.ok.above)
 have neC:∀b o,X.s₀.heap.get? b=some o->b∉X.ex->b∉ch:=λb o e hx hb=>by
  rcases(hch b hb).1 with z | z
  ·exact hx z
  ·exact absurd (Nat.lt_of_lt_of_le (Heap.lt_size e) z) (Nat.lt_irrefl _)
 have cellK:∀x c,X.env.cells.lookup x=some c->∀v,s.heap.IsCell c v->h'.IsCell c v:=λx c e v ⟨o,ho,hd⟩=>by
  have nch:c∉ch:=λz=>(hch c z).2.2.1 x c e rfl
  by_cases hc:c∈X.fs
  ·obtain⟨sl,q⟩:=slot c o (I.cne x c e) hc nch ho (I.freeC x c e)
   exact⟨_,q,hd⟩
  ·exact⟨o,keep c o (I.cne x c e) hc nch ho (I.freeC x c e),hd⟩
 refine⟨I.ok,I.os,hg,⟨λb o e n hb hx=>?_,λb o e n hb hx=>?_,λb o e n hx=>?_,λb o e hx=>?_,λb xs e=>tups b xs (I.base.tups b xs e),λb o xs e=>frzs b o xs (I.base.frzs b o xs e),λb ps e=>?_⟩,?_,λx c e=>?_,?_,λx c e=>?_,λp hp=>?_,hok,I.len⟩
 ·exact keep b o (neL b o e) hb (neC b o e hx) (I.base.keep b o e n hb hx) (I.base.free b o e n hx)
 ·obtain⟨sl,e1⟩:=I.base.slot b o e n hb hx
  obtain⟨sl',e2⟩:=slot b _ (neL b o e) hb (neC b o e hx) e1 (I.base.free b o e n hx)
  exact⟨sl',e2⟩
 ·obtain⟨o',e1⟩:=I.base.there b o e hx
  exact free b o' (neC b o e hx) e1 (I.base.free b o e n hx)
 ·obtain⟨o',e1⟩:=I.base.there b o e hx
  exact there b o' (neC b o e hx) e1
 ·obtain⟨m1,e1⟩:=I.base.tbls b ps e
  obtain⟨m2,e2⟩:=tbls b _ e1
  exact⟨m1 ++ m2,by rw [e2,Array.append_assoc]⟩
 ·obtain⟨m,hn,hl⟩:=I.loc
  refine⟨m,ns m hn,λi x v e1 e2 e3=>?_⟩
  obtain⟨u,r,l⟩:=hl i x v e1 e2 e3
  refine⟨u,r,?_⟩
  rcases l with l | ⟨k,c,e,z⟩
  ·exact .inl l
  ·exact .inr ⟨k,c,e,cellK x c e _ z⟩
 ·obtain⟨v,z⟩:=I.cell x c e
  exact⟨v,cellK x c e v z⟩
 ·obtain⟨m,⟨o,_,_,ho,_⟩,_⟩:=I.loc
  exact free _ o (λz=>(hch _ z).2.1 rfl) ho I.free
 ·obtain⟨v,o,ho,hd⟩:=I.cell x c e
  exact free c o (λz=>(hch c z).2.2.1 x c e rfl) ho (I.freeC x c e)
 ·obtain⟨e,n,ne,nf,d⟩:=I.pin p hp
  have nch:p.1∉ch:=λz=>(hch p.1 z).2.2.2 p hp rfl
  exact⟨keep p.1 p.2 ne nf nch e n,free p.1 p.2 nch e n,ne,nf,d⟩
theorem Inv.un {t':Nat} (I:Inv X pins σ H s) (u:Un X.fs [] H H' s.heap h') (hok:rK X.prog X.w H' h'):Inv X pins σ H' { s with heap:=h',toks:=t' }:=by
 obtain⟨m,⟨o,es,ep,ho,r⟩,_⟩:=id I.loc
 obtain⟨sl,hL⟩:=u.any ho I.free (by simp)
 exact I.step (g':=s.gens) (d':=s.drawn) (ch:=[]) (λ_ z=>nomatch z) (λb o _ hb _ e n=>u.keep b o e n hb (by simp)) (λb o _ hb _ e n=>u.slot b o e n hb (by simp)) (λb o _ e n=>u.free b o e n (by simp)) (λb o _ e=>u.there b o e (by simp)) u.tups u.frzs u.tbls (λm' hm=>by
  obtain⟨o',es',ep',ho',r'⟩:=hm
  rw [ho] at ho';cases ho'
  exact⟨_,es',ep',hL,r'⟩) hok I.bare
theorem Inv.call {g':Array GenState} {t':Nat} {d':Drawn} {ch:List Addr} (I:Inv X pins σ H s) (u:Un (frs X.stack) ch H H' s.heap h') (hok:rK X.prog X.w H' h') (hg:AllBare g')
  (hch:∀b∈ch,(b∈X.ex∨X.s₀.heap.objs.size<=b)/\b≠X.env.locals/\(∀x c,X.env.cells.lookup x=some c->c≠b)/\∀p∈X.pn ++ pins,p.1≠b):
  Inv X pins σ H' { s with heap:=h',gens:=g',drawn:=d',toks:=t' }:=by
 obtain⟨m,⟨o,es,ep,ho,r⟩,_⟩:=id I.loc
 obtain⟨sl,hL⟩:=u.any ho I.free λz=>(hch _ z).2.1 rfl
 exact I.step (ch:=ch) hch (λb o hL hb hc e n=>u.keep b o e n (λz=>(List.mem_cons.mp (I.stkSub b z)).elim hL hb) hc) (λb o _ _ hc e n=>u.any e n hc) (λb o hc e n=>u.free b o e n hc) (λb o hc e=>u.there b o e hc) u.tups u.frzs u.tbls (λm' hm=>by
  obtain⟨o',es',ep',ho',r'⟩:=hm
  rw [ho] at ho';cases ho'
  exact⟨_,es',ep',hL,r'⟩) hok hg
theorem Inv.turned {t':Nat} {it:Addr} (I:Inv X pins σ H s) (k:∀b o,b≠it->s.heap.get? b=some o->h'.get? b=some o) (hn:H it=none) (hL:it≠X.env.locals)
  (h1:it∈X.ex∨X.s₀.heap.objs.size<=it) (h2:∀x c,X.env.cells.lookup x=some c->c≠it) (h3:∀p∈X.pn ++ pins,p.1≠it):Inv X pins σ H { s with heap:=h',toks:=t' }:=by
 have nit:∀b u,H b=some u->b≠it:=λb u e z=>by rw [z,hn] at e;cases e
 refine I.step (g':=s.gens) (d':=s.drawn) (ch:=[it]) (λb hb=>?_) (λb o _ _ hc e _=>k b o (λz=>hc (by simp [z])) e) (λb o _ _ hc e _=>⟨o.slots,k b o (λz=>hc (by simp [z])) e⟩) (λ_ _ _ _ n=>n)
  (λb o hc e=>⟨o,k b o (λz=>hc (by simp [z])) e⟩) (λ_ _ e=>e) (λ_ _ _ e=>e) (λb ps e=>⟨#[],by rw [e];simp⟩) (λm hm=>?_) (λb u e=>?_) I.bare
 ·have e:b=it:=by simpa using hb
  subst e
  exact⟨h1,hL,h2,h3⟩
 ·obtain⟨o,es,ep,ho,r⟩:=hm
  exact⟨o,es,ep,k _ o (Ne.symm hL) ho,r⟩
 ·refine(I.hok b u e).stay (λc v hc q=>k c v ?_ q) (λ_ q=>q) λ_ _ q=>q
  rcases hc with z | z
  ·rw [z];exact nit b u e
  ·exact nit c _ z
theorem Inv.tok (I:Inv X pins σ H s) (t:Nat):Inv X pins σ H { s with toks:=t }:=I.un (h':=s.heap) (t':=t) Un.refl I.hok
theorem Inv.kept {t':Nat} (I:Inv X pins σ H s) (k:∀b u,s.heap.get? b=some u->h'.get? b=some u):Inv X pins σ H { s with heap:=h',toks:=t' }:=I.un (Un.kept k) (I.hok.kept k)
theorem Inv.laid {a:Addr} {o:HO} {t':Nat} (I:Inv X pins σ H s) (k:∀b u,s.heap.get? b=some u->h'.get? b=some u) (hp:s.heap.objs.size<=a) (new:cV X.prog X.w (upd H a o) h' a o):
  Inv X pins σ (upd H a o) { s with heap:=h',toks:=t' }:=I.un (Un.laid k hp (I.hok.fresh hp)) (I.hok.laid k hp new)
theorem Inv.write {x e:Addr} {o:HO} {t':Nat} (I:Inv X pins σ H s) (mu:Xj (H x)) (he:e=x∨H e=some (.own x)) (k:∀b u,b≠e->s.heap.get? b=some u->h'.get? b=some u) (heo:∃u,h'.get? e=some u)
  (new:cV X.prog X.w (upd H x o) h' x o):Inv X pins σ (upd H x o) { s with heap:=h',toks:=t' }:=I.un (Un.write mu he k heo) (I.hok.write mu he k heo new)
theorem Inv.weak {σ':List (Option V)} (I:Inv X pins σ H s) (hl:σ'.length=σ.length) (w:∀(i:Nat) v,σ'[i]?=some (some v)->σ[i]?=some (some v)):Inv X pins σ' H s:=
 ⟨I.ok,I.os,I.bare,I.base,let ⟨m,hn,hl'⟩:=I.loc;⟨m,hn,λi x v e1 e2 e3=>hl' i x v e1 (w i v e2) e3⟩,I.cell,I.free,I.freeC,I.pin,I.hok,hl.trans I.len⟩
theorem Inv.pins_of {pins':List (Addr×Obj)} (I:Inv X pins σ H s) (h:∀p∈pins',s.heap.get? p.1=some p.2/\H p.1=none/\p.1≠X.env.locals/\p.1∉X.fs/\∀v,p.2.data≠.cell v):Inv X pins' σ H s:=
 ⟨I.ok,I.os,I.bare,I.base,I.loc,I.cell,I.free,I.freeC,λp hp=>(List.mem_append.mp hp).elim (λz=>I.pin p (List.mem_append_left _ z)) (h p),I.hok,I.len⟩
theorem Do {N:List Str} (hN:N.Nodup) {i j:Nat} {x:Str} (a:N[i]?=some x) (b:N[j]?=some x):i=j:=by
 obtain⟨h1,e1⟩:=List.getElem?_eq_some_iff.mp a
 obtain⟨h2,e2⟩:=List.getElem?_eq_some_iff.mp b
 exact(List.getElem_inj hN).mp (e1.trans e2.symm)
theorem yx {M:Model} {A:Around} {E:Value->Shared->Prop} {i:Nat} {x:Str} {v:V} {u:Value} {Q:Unit->Shared->Prop} (I:Inv X pins σ H s) (hN:X.N.Nodup) (hi:X.N[i]?=some x) (hx:Loc X.env.scope x) (r:RelV v u)
  (h:∀s',Inv X pins (σ.set i (some v)) H s'->(∃a,Heap.SameBut a s.heap s'.heap/\(a=X.env.locals∨X.env.cells.lookup x=some a))->Q () s') (hf:X.fn x=true∨X.env.scope.names.lookup x=some .local:=by first | exact .inl rfl | exact .inr rfl | assumption):wpAny M A (storeName X.env x u) Q E s:=by
 obtain⟨m,hn,hl⟩:=id I.loc
 have hcls:(X.env.scope.kind == .class || (X.env.scope.kind == .module && X.env.locals != X.env.globals))=false:=by rw [I.ok.kind];rfl
 have hiσ:i <σ.length:=by rw [I.len];exact(List.getElem?_eq_some_iff.mp hi).1
 have cne:=I.cne
 have tracked:∀{a:Addr} {h':Heap},(∃o,s.heap.get? a=some o/\H a=none)->Heap.SameBut a s.heap h'->rK X.prog X.w H h':=λ{a h'} ha hs b ob e=>by
  obtain⟨_,_,hfree⟩:=ha
  refine(I.hok b ob e).stay (λc w' hc q=>(hs.2 c ?_).trans q) (λ_ q=>q) λ_ _ q=>q
  rintro rfl
  rcases hc with rfl | hc
  ·rw [hfree] at e;cases e
  ·rw [hfree] at hc;cases hc
 rcases hx with hk | hk
 ·refine wpAny_storeName_local hk hn (λh' hn' hs=>?_) hcls
  obtain⟨oL,_,_,hoL,_⟩:=id hn
  refine h _ ⟨I.ok,I.os,I.bare,⟨λb o e n hb hx=>?_,λb o e n hb hx=>?_,I.base.free,λb o e hx=>?_,I.base.tups,I.base.frzs,I.base.tbls⟩,⟨_,hn',λj y v' e1 e2 e3=>?_⟩,λy c e=>?_,I.free,I.freeC,λp hp=>?_,tracked ⟨oL,hoL,I.free⟩ hs,by simpa using I.len⟩ ⟨_,hs,.inl rfl⟩
  ·exact(hs.2 b (Nat.ne_of_lt (Nat.lt_of_lt_of_le (Heap.lt_size e) I.ok.above))).trans (I.base.keep b o e n hb hx)
  ·obtain⟨sl,e1⟩:=I.base.slot b o e n hb hx
   exact⟨sl,(hs.2 b (Nat.ne_of_lt (Nat.lt_of_lt_of_le (Heap.lt_size e) I.ok.above))).trans e1⟩
  ·obtain⟨o',e1⟩:=I.base.there b o e hx
   exact⟨o',(hs.2 b (Nat.ne_of_lt (Nat.lt_of_lt_of_le (Heap.lt_size e) I.ok.above))).trans e1⟩
  ·by_cases hj:j=i
   ·subst hj
    rw [hi] at e1;cases e1
    rw [List.getElem?_set_self hiσ] at e2
    cases e2
    exact⟨u,r,.inl ⟨hk,by simp⟩⟩
   ·rw [List.getElem?_set_ne (Ne.symm hj)] at e2
    obtain⟨u',r',q⟩:=hl j y v' e1 e2 e3
    refine⟨u',r',?_⟩
    rcases q with ⟨k,e⟩ | ⟨k,c,e,z⟩
    ·refine .inl ⟨k,?_⟩
     have:y≠x:=λe=>hj (Do hN e1 (e ▸ hi))
     simp [this,e]
    ·exact .inr ⟨k,c,e,z.sameBut hs (cne y c e)⟩
  ·obtain⟨w',z⟩:=I.cell y c e
   exact⟨w',z.sameBut hs (cne y c e)⟩
  ·obtain⟨e,n,ne,nf,d⟩:=I.pin p hp
   exact⟨(hs.2 p.1 ne).trans e,n,ne,nf,d⟩
 ·have hfn:X.fn x=true:=by
   rcases hf with z | z
   ·exact z
   ·rw [z] at hk;cases hk
  obtain⟨c,hc⟩:=I.ok.has x (.inl hk)
  obtain⟨w',z⟩:=I.cell x c hc
  refine wpAny_storeName_cell I.ok.kind hk hc z (λh' hc' hs=>?_)
  obtain⟨oc,hoc,hocd⟩:=id z
  refine h { s with heap:=h' } ⟨I.ok,I.os,I.bare,⟨λb o e n hb hx=>?_,λb o e n hb hx=>?_,I.base.free,λb o e hx=>?_,I.base.tups,I.base.frzs,I.base.tbls⟩,⟨m,hn.sameBut hs (Ne.symm (cne x c hc)),λj y v' e1 e2 e3=>?_⟩,λy c' e=>?_,I.free,I.freeC,λp hp=>?_,tracked ⟨oc,hoc,I.freeC x c hc⟩ hs,by simpa using I.len⟩ ⟨c,hs,.inr hc⟩
  ·exact(hs.2 b (Nat.ne_of_lt (Nat.lt_of_lt_of_le (Heap.lt_size e) (I.ok.cab x c hfn hc)))).trans (I.base.keep b o e n hb hx)
  ·obtain⟨sl,e1⟩:=I.base.slot b o e n hb hx
   exact⟨sl,(hs.2 b (Nat.ne_of_lt (Nat.lt_of_lt_of_le (Heap.lt_size e) (I.ok.cab x c hfn hc)))).trans e1⟩
  ·obtain⟨o',e1⟩:=I.base.there b o e hx
   exact⟨o',(hs.2 b (Nat.ne_of_lt (Nat.lt_of_lt_of_le (Heap.lt_size e) (I.ok.cab x c hfn hc)))).trans e1⟩
  ·by_cases hj:j=i
   ·subst hj
    rw [hi] at e1;cases e1
    rw [List.getElem?_set_self hiσ] at e2
    cases e2
    exact⟨u,r,.inr ⟨.inl hk,c,hc,hc'⟩⟩
   ·rw [List.getElem?_set_ne (Ne.symm hj)] at e2
    obtain⟨u',r',q⟩:=hl j y v' e1 e2 e3
    refine⟨u',r',?_⟩
    rcases q with q | ⟨k,c',e,z'⟩
    ·exact .inl q
    ·refine .inr ⟨k,c',e,z'.sameBut hs ?_⟩
     rintro rfl
     exact hj (Do hN e1 (I.ok.inj _ _ _ e hc ▸ hi))
  ·by_cases hcc:c'=c
   ·subst hcc;exact⟨_,hc'⟩
   ·obtain⟨w2,z2⟩:=I.cell y c' e
    exact⟨w2,z2.sameBut hs hcc⟩
  ·obtain⟨e,n,ne,nf,d⟩:=I.pin p hp
   refine⟨(hs.2 p.1 ?_).trans e,n,ne,nf,d⟩
   intro q
   rw [q,hoc] at e
   have q':oc=p.2:=Option.some.inj e
   exact d w' (by rw [<-q'];exact hocd)
theorem CK {M:Model} {A:Around} {E:Value->Shared->Prop} {i:Nat} {x:Str} {v:V} {u:Value} {Q:Unit->Shared->Prop} (I:Inv X pins σ H s) (hN:X.N.Nodup) (hi:X.N[i]?=some x) (hx:Loc X.env.scope x) (r:RelV v u)
  (h:∀s',Inv X pins (σ.set i (some v)) H s'->Q () s') (hf:X.fn x=true∨X.env.scope.names.lookup x=some .local:=by first | exact .inl rfl | exact .inr rfl | assumption):wpAny M A (storeName X.env x u) Q E s:=
 yx I hN hi hx r (λs' I' _=>h s' I') hf
theorem Inv.call' {s':Shared} {ch:List Addr} (I:Inv X pins σ H s) (ho:s'.os=s.os) (u:Un (frs X.stack) ch H H' s.heap s'.heap) (hok:rK X.prog X.w H' s'.heap) (hg:AllBare s'.gens)
  (hch:∀b∈ch,(b∈X.ex∨X.s₀.heap.objs.size<=b)/\b≠X.env.locals/\(∀x c,X.env.cells.lookup x=some c->c≠b)/\∀p∈X.pn ++ pins,p.1≠b):Inv X pins σ H' s':=by
 obtain⟨h',g',d',t',o'⟩:=s'
 have e:o'=s.os:=ho
 subst e
 exact I.call (g':=g') (t':=t') (d':=d') u hok hg hch
end
noncomputable abbrev XK:=Value->Option Addr->Hp->Prop
noncomputable abbrev St:=List (Option V)
noncomputable abbrev VK:=V->Hp->Prop
noncomputable abbrev TE:=St->Hp->VK->Prop
noncomputable abbrev TT:=St->Hp->(Bool->Hp->Prop)->Prop
noncomputable abbrev TA:=St->Hp->(List V->Hp->Prop)->Prop
structure Ends where
 nx:St->Hp->Prop
 rt:VK
 bk:St->Hp->Prop:=λ_ _=>False
 ct:St->Hp->Prop:=λ_ _=>False
noncomputable abbrev TS:=Ends->St->Hp->Prop
noncomputable def EP (X:Cx) (pins:List (Addr×Obj)) (σ:St) (Q:VK) (u:Value) (s':Shared):Prop:=∃v H',Inv X pins σ H' s'/\RelV v u/\Q v H'
noncomputable def TP (X:Cx) (pins:List (Addr×Obj)) (σ:St) (Q:Bool->Hp->Prop) (b:Bool) (s':Shared):Prop:=∃H',Inv X pins σ H' s'/\Q b H'
noncomputable def AP (X:Cx) (pins:List (Addr×Obj)) (σ:St) (Q:List V->Hp->Prop) (us:List Value) (s':Shared):Prop:=∃vs H',Inv X pins σ H' s'/\Vals vs us/\Q vs H'
noncomputable def SP (X:Cx) (pins:List (Addr×Obj)) (D:Ends) (f:Flow) (s':Shared):Prop:=
 match f with
 | .next=>∃σ' H',Inv X pins σ' H' s'/\D.nx σ' H'
 | .brk=>∃σ' H',Inv X pins σ' H' s'/\D.bk σ' H'
 | .cont=>∃σ' H',Inv X pins σ' H' s'/\D.ct σ' H'
 | .ret u=>∃v σ' H',Inv X pins σ' H' s'/\RelV v u/\D.rt v H'
noncomputable def PE (X:Cx) (e:Expr) (t:TE):Prop:=
 ∀(pins:List (Addr×Obj)) (s:Shared) (σ:St) (H:Hp) (Q:VK),Inv X pins σ H s->t σ H Q->wpAny (model X.prog X.w) X.A (eval e X.env) (EP X pins σ Q) X.xe s
noncomputable def PT (X:Cx) (e:Expr) (t:TT):Prop:=
 ∀(pins:List (Addr×Obj)) (s:Shared) (σ:St) (H:Hp) (Q:Bool->Hp->Prop),Inv X pins σ H s->t σ H Q->wpAny (model X.prog X.w) X.A (isTrue e X.env (eval e X.env)) (TP X pins σ Q) X.xe s
noncomputable def PW (X:Cx) (e:Expr) (t:TT):Prop:=
 ∀(whole:Sem Value) (pins:List (Addr×Obj)) (s:Shared) (σ:St) (H:Hp) (Q:Bool->Hp->Prop),Inv X pins σ H s->t σ H Q->wpAny (model X.prog X.w) X.A (isTrue e X.env whole) (TP X pins σ Q) X.xe s
theorem PW.pt {X:Cx} {e:Expr} {t:TT} (h:PW X e t):PT X e t:=h _
noncomputable def PA (X:Cx) (es:List Expr) (t:TA):Prop:=
 ∀(pos:Pos) (pins:List (Addr×Obj)) (s:Shared) (σ:St) (H:Hp) (Q:List V->Hp->Prop),Inv X pins σ H s->t σ H Q->wpAny (model X.prog X.w) X.A (spliced (backTo pos (starEach es X.env))) (AP X pins σ Q) X.xe s
noncomputable def PS (X:Cx) (st:Stmt) (t:TS):Prop:=
 ∀(pins:List (Addr×Obj)) (s:Shared) (σ:St) (H:Hp) (D:Ends),Inv X pins σ H s->t D σ H->wpAny (model X.prog X.w) X.A (exec st X.env) (SP X pins D) X.xe s
noncomputable def Fg (X:Cx) (st:List Stmt) (t:TS):Prop:=
 ∀(pins:List (Addr×Obj)) (s:Shared) (σ:St) (H:Hp) (D:Ends),Inv X pins σ H s->t D σ H->wpAny (model X.prog X.w) X.A (execs st X.env) (SP X pins D) X.xe s
theorem dC {α:Type} {t:Sem α} {Q Q':α->Shared->Prop} {M:Model} {A:Around} {E:Value->Shared->Prop} {s:Shared} (h:wpAny M A t Q E s) (hQ:∀a s,Q a s->Q' a s):wpAny M A t Q' E s:=wpAny_mono h hQ λ_ _ x=>x
section
variable {X:Cx}
inductive TJ (i:Nat) (σ:St) (H:Hp) (Q:VK):Prop where
 | mk:∀v,σ[i]?=some (some v)->Q v H->TJ i σ H Q
noncomputable def Km (i:Nat):TE:=λσ H Q=>TJ i σ H Q
noncomputable def tC (v:V):TE:=λ_ H Q=>Q v H
theorem U6 {i:Nat} {x:Str} {pos:Pos} (hN:X.N[i]?=some x) (hv:Xu X.env.scope x) (hd:(x == ("__debug__" :Str))=false:=by decide) (hcd:(x == ("__classdict__" :Str))=false:=by decide):PE X (.Name x pos) (Km i):=by
 intro pins s σ H Q I h
 obtain⟨v,e,h⟩:=h
 obtain⟨m,hn,hl⟩:=I.loc
 obtain⟨u,r,l⟩:=hl i x v hN e hv
 have fin:EP X pins σ Q u s:=⟨v,H,I,r,h⟩
 rcases l with ⟨hk,hm⟩ | ⟨hk,c,hc,hcell⟩
 ·exact wpAny_Name (wpAny_loadName_local I.ok.kind hk hn hm fin) hd
 ·rcases hk with hk | hk
  ·exact wpAny_Name (wpAny_loadName_cell I.ok.kind hk hc hcell fin) hd
  ·exact wpAny_Name (wpAny_loadName_free I.ok.kind hk hc hcell fin hcd) hd
theorem au {i j pos}:PE X (.Constant (.int i) j pos) (tC (.int i)):=λ_ _ _ H _ I h=>wpAny_Constant_int ⟨.int i,H,I.tok _,⟨_,rfl⟩,h⟩
theorem jA {b j pos}:PE X (.Constant (.bool b) j pos) (tC (.bl b)):=λ_ _ _ H _ I h=>Constant_bool ⟨.bl b,H,I,rfl,h⟩
theorem jC {j pos}:PE X (.Constant .none j pos) (tC .non):=λ_ _ _ H _ I h=>Constant_none ⟨.non,H,I,rfl,h⟩
theorem aN {x j pos}:PE X (.Constant (.str x) j pos) (tC (.str x)):=λ_ _ _ H _ I h=>Calls.Constant_str ⟨.str x,H,I.tok _,⟨_,rfl⟩,h⟩
noncomputable def Gl (X:Cx) (x:Str):Prop:=X.env.kindOf x=some .globalImplicit
theorem mL {E:Value->Shared->Prop} {pins:List (Addr×Obj)} {s:Shared} {σ:St} {H:Hp} {x:Str} {u:Value} {pos:Pos} {Q:Value->Shared->Prop} (I:Inv X pins σ H s) (hg:Gl X x) (hm:X.mg x=some u) (h:Q u s)
  (hd:(x == ("__debug__" :Str))=false:=by decide):wpAny (model X.prog X.w) X.A (eval (.Name x pos) X.env) Q E s:=
 Calls.Name_function_global I.ok.kind hg (Calls.loadGlobal_global (by rw [I.ok.glob];exact I.mod.glob.keeps I.bk) hm h) hd
theorem G9 {E:Value->Shared->Prop} {pins:List (Addr×Obj)} {s:Shared} {σ:St} {H:Hp} {x:Str} {u:Value} {pos:Pos} {Q:Value->Shared->Prop} (I:Inv X pins σ H s) (hg:Gl X x) (hm:X.mg x=none) (hv:bootBuiltins x=some u) (h:Q u s)
  (hn:x≠ "__name__" :=by decide) (hd:(x == ("__debug__" :Str))=false:=by decide):wpAny (model X.prog X.w) X.A (eval (.Name x pos) X.env) Q E s:=by
 obtain⟨mb,h1,h2⟩:=I.mod.blt
 exact Calls.Name_function_global I.ok.kind hg (Calls.loadGlobal_builtin (by rw [I.ok.glob];exact I.mod.glob.keeps I.bk) hm (by rw [I.ok.blt];exact h1.keeps I.bk) ((h2 x hn).trans hv) h) hd
theorem Gh {x:Str} {v:V} {u:Value} {pos:Pos} (hg:Gl X x) (hm:X.mg x=some u) (r:RelV v u) (hd:(x == ("__debug__" :Str))=false:=by decide):PE X (.Name x pos) (tC v):=
 λ_ _ _ H _ I h=>mL I hg hm ⟨v,H,I,r,h⟩ hd
theorem R7 {x:Str} {v:V} {u:Value} {pos:Pos} (hg:Gl X x) (hm:X.mg x=none) (hv:bootBuiltins x=some u) (r:RelV v u) (hn:x≠ "__name__" :=by decide) (hd:(x == ("__debug__" :Str))=false:=by decide):PE X (.Name x pos) (tC v):=
 λ_ _ _ H _ I h=>G9 I hg hm hv ⟨v,H,I,r,h⟩ hn hd
variable {a b:Expr} {ta tb:TE} {pos:Pos}
noncomputable def PC (X:Cx) (op:CmpOp) (a b:Expr) (t:TE):Prop:=
 ∀(pins:List (Addr×Obj)) (s:Shared) (σ:St) (H:Hp) (Q:VK),Inv X pins σ H s->t σ H Q->
  wpAny (model X.prog X.w) X.A (eval a X.env) (λv s₁=>wpAny (model X.prog X.w) X.A (eval b X.env) (λu s₂=>wpAny (model X.prog X.w) X.A (compareOp op v u) (EP X pins σ Q) X.xe s₂) X.xe s₁) X.xe s
theorem HH (b:Expr) {op:CmpOp} (h:op≠.In) (h2:op≠.NotIn):behindInMarks op b=false:=by
 have e1:(op == CmpOp.In)=false:=by cases op <;> first | rfl | exact absurd rfl h
 have e2:(op == CmpOp.NotIn)=false:=by cases op <;> first | rfl | exact absurd rfl h2
 cases b <;> simp [behindInMarks,e1,e2]
noncomputable def WW (ta:TE):TE:=λσ H Q=>ta σ H λx H1=>Q (.bl (!decide (x=.non))) H1
theorem RelV.none_iff {x:V} {v:Value} (r:RelV x v):(v == Value.none)=decide (x=.non):=by
 cases x with
 | non=>cases r;rfl
 | bl _=>cases r;rfl
 | int _=>obtain⟨t,rfl⟩:=r;rfl
 | str _=>obtain⟨t,rfl⟩:=r;rfl
 | byt _=>obtain⟨t,rfl⟩:=r;rfl
 | flt _=>obtain⟨t,rfl⟩:=r;rfl
 | ref _=>cases r;rfl
 | ty _=>cases r;rfl
theorem uF {j pos'} (ha:PE X a ta):PC X .IsNot a (.Constant .none j pos') (WW ta):=by
 intro pins s σ H Q I h
 refine dC (ha pins s σ H _ I h) λv s1 hpt=>?_
 obtain⟨x,H1,I1,r1,q1⟩:=hpt
 exact Constant_none (isnot_none_gen ⟨.bl _,H1,I1,by rw [r1.none_iff];rfl,q1⟩)
inductive YQ (Q:Bool->Hp->Prop) (x:V) (H1:Hp):Prop where
 | mk:∀c,x=.bl c->Q c H1->YQ Q x H1
noncomputable def tB (t:TE):TT:=λσ H Q=>t σ H λx H1=>YQ Q x H1
theorem GD {op:CmpOp} {t:TE} (h:PC X op a b t) (h1:behindInMarks op b=false:=by first | exact HH _ (by decide) (by decide) | rfl):PE X (.Compare a [op] [b] pos) t:=λpins s σ H Q I hw=>wpAny_Compare1 (h pins s σ H Q I hw) h1
theorem jE {op:CmpOp} {t:TE} (h:PC X op a b t) (h1:behindInMarks op b=false:=by first | exact HH _ (by decide) (by decide) | rfl):PT X (.Compare a [op] [b] pos) (tB t):=by
 intro pins s σ H Q I hw
 refine wpAny_isTrue_Compare1 (dC (h pins s σ H _ I hw) λv s1 h1=>dC h1 λu s2 h2=>dC h2 λc s3 hpt=>?_) h1
 obtain⟨x,H1,I1,r1,q1⟩:=hpt
 obtain⟨d,rfl,q⟩:=q1
 cases r1
 exact wpAny_truthy_bool ⟨H1,I1,q⟩
theorem gY {e:Expr} {t:TE} (h:PE X e t) (he:∀whole,isTrue e X.env whole=(do let v <-whole;standAt e.pos;holding [v] (truthy v)):=by intro _;rfl):PT X e (tB t):=by
 intro pins s σ H Q I hw
 refine isTrue_plain (dC (h pins s σ H _ I hw) λv s1 ⟨x,H1,I1,r1,q1⟩=>?_) (he _)
 obtain⟨d,rfl,q⟩:=q1
 cases r1
 exact wpAny_truthy_bool ⟨H1,I1,q⟩
variable {tA tB':TT} {rest:List Expr}
noncomputable def YH (t u:TT):TT:=λσ H Q=>t σ H λc H1=>if c=true then u σ H1 Q else Q false H1
noncomputable def tOr (t u:TT):TT:=λσ H Q=>t σ H λc H1=>if c=true then Q true H1 else u σ H1 Q
noncomputable def Yv (t:TT):TT:=λσ H Q=>t σ H λc H1=>Q (!c) H1
theorem pY (ha:PT X a tA):PW X (.BoolOp .And [a] pos) tA:=by
 intro wh pins s σ H Q I h
 refine isTrue_and (dC (ha pins s σ H Q I h) λc s1 e=>?_)
 cases c with
 | true=>exact isTrue_and_nil e
 | false=>exact e
theorem jr (ha:PT X a tA):PW X (.BoolOp .Or [a] pos) tA:=by
 intro wh pins s σ H Q I h
 refine isTrue_or (dC (ha pins s σ H Q I h) λc s1 e=>?_)
 cases c with
 | false=>exact isTrue_or_nil e
 | true=>exact e
theorem tR (ha:PT X a tA) (hb:PW X (.BoolOp .And (b:: rest) pos) tB'):PW X (.BoolOp .And (a:: b:: rest) pos) (YH tA tB'):=by
 intro wh pins s σ H Q I h
 refine isTrue_and (dC (ha pins s σ H _ I h) λc s1 hpt=>?_)
 obtain⟨H1,I1,q1⟩:=hpt
 cases c with
 | true=>exact hb wh pins s1 σ H1 Q I1 q1
 | false=>exact⟨H1,I1,q1⟩
theorem j7 (ha:PT X a tA) (hb:PW X (.BoolOp .Or (b:: rest) pos) tB'):PW X (.BoolOp .Or (a:: b:: rest) pos) (tOr tA tB'):=by
 intro wh pins s σ H Q I h
 refine isTrue_or (dC (ha pins s σ H _ I h) λc s1 hpt=>?_)
 obtain⟨H1,I1,q1⟩:=hpt
 cases c with
 | true=>exact⟨H1,I1,q1⟩
 | false=>exact hb wh pins s1 σ H1 Q I1 q1
theorem fP (ha:PT X a tA):PT X (.UnaryOp .Not a pos) (Yv tA):=by
 intro pins s σ H Q I h
 exact isTrue_not (ha pins s σ H (λc H1=>Q (!c) H1) I h)
inductive QH (tb:TE) (σ:St) (Q:VK) (x:V) (H1:Hp):Prop where
 | mk:∀c,x=.bl c->(if c=true then tb σ H1 Q else Q (.bl false) H1)->QH tb σ Q x H1
noncomputable def Wi (ta tb:TE):TE:=λσ H Q=>ta σ H λx H1=>QH tb σ Q x H1
inductive SJ (tb:TE) (σ:St) (Q:VK) (x:V) (H1:Hp):Prop where
 | mk:∀c,x=.bl c->(if c=true then Q (.bl true) H1 else tb σ H1 Q)->SJ tb σ Q x H1
noncomputable def Yo (ta tb:TE):TE:=λσ H Q=>ta σ H λx H1=>SJ tb σ Q x H1
inductive Oe (Q:VK) (x:V) (H1:Hp):Prop where
 | mk:∀c,x=.bl c->Q (.bl (!c)) H1->Oe Q x H1
noncomputable def Wt (ta:TE):TE:=λσ H Q=>ta σ H λx H1=>Oe Q x H1
theorem sU {op} {t:TE} (h:PE X a t):PE X (.BoolOp op [a] pos) t:=λpins s σ H Q I hw=>BoolOp_one (h pins s σ H Q I hw)
theorem Cp (ha:PE X a ta) (hb:PE X (.BoolOp .And (b:: rest) pos) tb):PE X (.BoolOp .And (a:: b:: rest) pos) (Wi ta tb):=by
 intro pins s σ H Q I h
 refine BoolOp_and (dC (ha pins s σ H _ I h) λv s1 hpt=>?_)
 obtain⟨x,H1,I1,r1,q1⟩:=hpt
 obtain⟨c,rfl,q1⟩:=q1
 cases r1
 refine wpAny_truthy_bool ?_
 cases c with
 | true=>exact hb pins s1 σ H1 Q I1 q1
 | false=>exact⟨.bl false,H1,I1,rfl,q1⟩
theorem Ti (ha:PE X a ta) (hb:PE X (.BoolOp .Or (b:: rest) pos) tb):PE X (.BoolOp .Or (a:: b:: rest) pos) (Yo ta tb):=by
 intro pins s σ H Q I h
 refine BoolOp_or (dC (ha pins s σ H _ I h) λv s1 hpt=>?_)
 obtain⟨x,H1,I1,r1,q1⟩:=hpt
 obtain⟨c,rfl,q1⟩:=q1
 cases r1
 refine wpAny_truthy_bool ?_
 cases c with
 | false=>exact hb pins s1 σ H1 Q I1 q1
 | true=>exact⟨.bl true,H1,I1,rfl,q1⟩
theorem O3 (ha:PE X a ta):PE X (.UnaryOp .Not a pos) (Wt ta):=by
 intro pins s σ H Q I h
 refine UnaryOp_ (dC (ha pins s σ H _ I h) λv s1 hpt=>?_)
 obtain⟨x,H1,I1,r1,q1⟩:=hpt
 obtain⟨c,rfl,q1⟩:=q1
 cases r1
 exact not_of (wpAny_truthy_bool ⟨.bl (!c),H1,I1,rfl,q1⟩)
end
noncomputable def bH (K:PySem.W.Frag) (H:Hp) (a:Addr) (xs:List V):Prop:=
 Rd H a (.lst xs)∨
  ∃(o:Obj) (its:Array Value) (n:Nat),K.lookup a=some o/\o.cls=.type "list" /\o.dict=none/\o.data=.seq its n/\its.size<=sizeLine/\Vals xs its.toList
noncomputable def d7 (K:PySem.W.Frag) (H:Hp) (a:Addr) (xs:List V):Prop:=
 Rd H a (.tup xs)∨
  ∃(o:Obj) (its:Array Value) (n:Nat),K.lookup a=some o/\o.cls=.type "tuple" /\o.data=.seq its n/\its.size<=sizeLine/\Vals xs its.toList
noncomputable def Yi:Value->Option V
 | .none=>some .non
 | .bool b=>some (.bl b)
 | .int i _=>some (.int i)
 | .str x _=>some (.str x)
 | .bytes b _=>some (.byt b)
 | .float b _=>some (.flt b)
 | .ref a=>some (.ref a)
 | .type n=>some (.ty n)
 | _=>none
theorem RelV.abs {x:V} {u:Value} (r:RelV x u):Yi u=some x:=by
 cases x with
 | non=>cases r;rfl
 | bl _=>cases r;rfl
 | int _=>obtain⟨t,rfl⟩:=r;rfl
 | str _=>obtain⟨t,rfl⟩:=r;rfl
 | byt _=>obtain⟨t,rfl⟩:=r;rfl
 | flt _=>obtain⟨t,rfl⟩:=r;rfl
 | ref _=>cases r;rfl
 | ty _=>cases r;rfl
theorem RelV.inj {x y:V} {u:Value} (r:RelV x u) (q:RelV y u):x=y:=Option.some.inj (r.abs.symm.trans q.abs)
theorem Vals.inj:∀{xs ys:List V} {us:List Value},Vals xs us->Vals ys us->xs=ys
 | _,_,_,.nil,.nil=>rfl
 | _,_,_,.cons r t,.cons r' t'=>by rw [r.inj r',Vals.inj t t']
section
variable {X:Cx} {pins:List (Addr×Obj)} {σ:St} {H:Hp} {s:Shared} {a:Addr} {xs ys:List V}
theorem bH.of {K:PySem.W.Frag} (h:H a=some (.lst xs)):bH K H a xs:=.inl (.inl h)
theorem d7.of {K:PySem.W.Frag} (h:H a=some (.tup xs)):d7 K H a xs:=.inl (.inl h)
theorem Inv.list (I:Inv X pins σ H s) (h:bH X.K H a xs):∃its:List Value,Vals xs its/\PlainL s.heap a its.toArray/\xs.length<=sizeLine:=by
 rcases h with h | ⟨o,its,n,hk,hc,hd,hs,hz,r⟩
 ·obtain⟨z,its,n,r,e⟩:=h.ok I.hok
  exact⟨its,r,⟨_,n,e,rfl,rfl,rfl⟩,z⟩
 ·refine⟨its.toList,r,⟨o,n,I.kIn a o hk,hc,hd,by simpa using hs⟩,?_⟩
  have e:=r.length
  simp only [Array.length_toList] at e
  lia
theorem Inv.tuple (I:Inv X pins σ H s) (h:d7 X.K H a xs):∃its:List Value,Vals xs its/\IsTup s.heap a its.toArray/\xs.length<=sizeLine:=by
 rcases h with h | ⟨o,its,n,hk,hc,hs,hz,r⟩
 ·obtain⟨z,its,r,p⟩:=h.ok I.hok
  exact⟨its,r,p,z⟩
 ·refine⟨its.toList,r,⟨o,I.kIn a o hk,hc,n,by simpa using hs⟩,?_⟩
  have e:=r.length
  simp only [Array.length_toList] at e
  lia
theorem Inv.list_inj (I:Inv X pins σ H s) (h:bH X.K H a xs) (h':bH X.K H a ys):xs=ys:=by
 obtain⟨its,r,⟨o,n,e,_,_,d⟩,_⟩:=I.list h
 obtain⟨its',r',⟨o',n',e',_,_,d'⟩,_⟩:=I.list h'
 rw [e] at e';cases e'
 rw [d] at d'
 injection d' with d1 _
 have:its=its':=by simpa using congrArg Array.toList d1
 subst this
 exact r.inj r'
theorem Inv.tuple_inj (I:Inv X pins σ H s) (h:d7 X.K H a xs) (h':d7 X.K H a ys):xs=ys:=by
 obtain⟨its,r,⟨o,e,_,n,d⟩,_⟩:=I.tuple h
 obtain⟨its',r',⟨o',e',_,n',d'⟩,_⟩:=I.tuple h'
 rw [e] at e';cases e'
 rw [d] at d'
 injection d' with d1 _
 have:its=its':=by simpa using congrArg Array.toList d1
 subst this
 exact r.inj r'
end
noncomputable abbrev Cx.wish (X:Cx) (E:Value->Shared->Prop):Cx:={ X with xe:=E }
noncomputable abbrev Cx.nox (X:Cx):Cx:=X.wish λ_ _=>False
theorem Cx.Ok.wish {X:Cx} (ok:X.Ok) (E:Value->Shared->Prop):(X.wish E).Ok:=
 ⟨ok.mod,ok.kind,ok.glob,ok.blt,ok.above,ok.inj,ok.has,ok.cab,ok.hd,ok.frames,ok.stk,ok.exf,ok.bs,ok.bsz,ok.noex,ok.exfs,ok.funs,ok.frf⟩
theorem Cx.Ok.unwish {X:Cx} {E:Value->Shared->Prop} (ok:(X.wish E).Ok):X.Ok:=
 ⟨ok.mod,ok.kind,ok.glob,ok.blt,ok.above,ok.inj,ok.has,ok.cab,ok.hd,ok.frames,ok.stk,ok.exf,ok.bs,ok.bsz,ok.noex,ok.exfs,ok.funs,ok.frf⟩
section
variable {X:Cx} {pins:List (Addr×Obj)} {σ:St} {H:Hp} {s:Shared} {E:Value->Shared->Prop}
theorem Inv.wish (I:Inv X pins σ H s) (E:Value->Shared->Prop):Inv (X.wish E) pins σ H s:=⟨I.ok.wish E,I.os,I.bare,I.base,I.loc,I.cell,I.free,I.freeC,I.pin,I.hok,I.len⟩
theorem Inv.unwish (I:Inv (X.wish E) pins σ H s):Inv X pins σ H s:=⟨I.ok.unwish,I.os,I.bare,I.base,I.loc,I.cell,I.free,I.freeC,I.pin,I.hok,I.len⟩
theorem SP.unwish {D:Ends} {f:Flow} {s':Shared} (h:SP (X.wish E) pins D f s'):SP X pins D f s':=by
 cases f with
 | next=>obtain⟨σ',H',I,q⟩:=h;exact⟨σ',H',I.unwish,q⟩
 | brk=>obtain⟨σ',H',I,q⟩:=h;exact⟨σ',H',I.unwish,q⟩
 | cont=>obtain⟨σ',H',I,q⟩:=h;exact⟨σ',H',I.unwish,q⟩
 | ret u=>obtain⟨v,σ',H',I,r,q⟩:=h;exact⟨v,σ',H',I.unwish,r,q⟩
theorem Fg.nox {st:List Stmt} {t:TS} (h:Fg X.nox st t):Fg X st t:=λpins s σ H D I hw=>
 wpAny_mono (h pins s σ H D (I.wish _) hw) (λ_ _ q=>q.unwish) λ_ _ z=>False.elim z
end
section
variable {X:Cx} {st:Stmt} {rest:List Stmt} {t u:TS} {e:Expr} {te:TE} {pos:Pos}
noncomputable def TY:TS:=λD σ H=>D.nx σ H
noncomputable def wU (t u:TS):TS:=λD σ H=>t { D with nx:=u D } σ H
theorem bz:Fg X [] TY:=λ_ _ σ H _ I h=>wpAny_execs_nil ⟨σ,H,I,h⟩
theorem aA (h1:PS X st t) (h2:Fg X rest u):Fg X (st:: rest) (wU t u):=by
 intro pins s σ H D I h
 refine wpAny_execs_cons (dC (h1 pins s σ H { D with nx:=u D } I h) λf s1 q=>?_)
 cases f with
 | next=>
  obtain⟨σ',H',I',q⟩:=q
  exact h2 pins s1 σ' H' D I' q
 | ret v=>exact q
 | brk=>exact q
 | cont=>exact q
theorem az (h1:PS X st t):Fg X [st] t:=by
 intro pins s σ H D I h
 refine wpAny_execs_cons (dC (h1 pins s σ H D I h) λf s1 q=>?_)
 cases f with
 | next=>exact wpAny_execs_nil q
 | ret v=>exact q
 | brk=>exact q
 | cont=>exact q
theorem Inv.quiet {pins:List (Addr×Obj)} {σ:St} {H:Hp} {s:Shared} (I:Inv X pins σ H s):interactive X.env=false:=by simp [interactive,I.ok.kind]
noncomputable def S6 (te:TE):TS:=λD σ H=>te σ H λ_ H1=>D.nx σ H1
theorem aV (he:PE X e te) (hs:swapsWith e none pos.line X.env=pure false:=by rfl):PS X (.Expr e pos) (S6 te):=by
 intro pins s σ H D I h
 exact wpAny_Expr_any (dC (he pins s σ H _ I h) λv s1 ⟨x,H1,I1,r1,q1⟩=>⟨σ,H1,I1,q1⟩) I.quiet hs
noncomputable def Yt (te:TE):TS:=λD σ H=>te σ H D.rt
theorem aY (he:PE X e te):PS X (.Return (some e) pos) (Yt te):=by
 intro pins s σ H D I h
 exact wpAny_Return_some (dC (he pins s σ H _ I h) λv s1 ⟨x,H1,I1,r1,q1⟩=>⟨x,σ,H1,I1,r1,q1⟩)
noncomputable def Wb (c:TT) (t u:TS):TS:=λD σ H=>c σ H λb H1=>if b=true then t D σ H1 else u D σ H1
theorem bD {c:Expr} {a b:List Stmt} {tc:TT} (hc:PT X c tc) (ha:Fg X a t) (hb:Fg X b u):PS X (.If c a b pos) (Wb tc t u):=by
 intro pins s σ H D I h
 refine wpAny_If (dC (hc pins s σ H _ I h) λd s1 hpt=>?_)
 obtain⟨H1,I1,q1⟩:=hpt
 cases d with
 | true=>exact ha pins s1 σ H1 D I1 q1
 | false=>exact hb pins s1 σ H1 D I1 q1
end
noncomputable abbrev TG:=V->St->Hp->(St->Hp->Prop)->Prop
noncomputable abbrev My:=List V->St->Hp->(St->Hp->Prop)->Prop
noncomputable def PG (X:Cx) (target:Expr) (t:TG):Prop:=
 ∀(pins:List (Addr×Obj)) (s:Shared) (σ:St) (H:Hp) (v:V) (u:Value) (Q:St->Hp->Prop),Inv X pins σ H s->RelV v u->t v σ H Q->
  wpAny (model X.prog X.w) X.A (assign target X.env u) (λ_ s'=>∃σ' H',Inv X pins σ' H' s'/\Q σ' H') X.xe s
noncomputable def V8 (X:Cx) (ts:List Expr) (t:My):Prop:=
 ∀(pins:List (Addr×Obj)) (s:Shared) (σ:St) (H:Hp) (vs:List V) (us:List Value) (Q:St->Hp->Prop),Inv X pins σ H s->Vals vs us->t vs σ H Q->
  wpAny (model X.prog X.w) X.A (assignInOrder ((assignEach ts X.env).map (·.2)) us) (λ_ s'=>∃σ' H',Inv X pins σ' H' s'/\Q σ' H') X.xe s
noncomputable abbrev UL:=V->V->V->Hp->(Hp->Prop)->Prop
noncomputable def Xh (X:Cx) (t:UL):Prop:=
 ∀(pins:List (Addr×Obj)) (s:Shared) (σ:St) (H:Hp) (o i v:V) (ov iv u:Value) (Q:Hp->Prop),Inv X pins σ H s->RelV o ov->RelV i iv->RelV v u->t o i v H Q->
  wpAny (model X.prog X.w) X.A (setItem ov iv u) (λ_ s'=>∃H',Inv X pins σ H' s'/\Q H') X.xe s
section
variable {X:Cx} {pos:Pos}
noncomputable def vg (i:Nat):TG:=λv σ H Q=>Q (σ.set i (some v)) H
theorem dX {i:Nat} {x:Str} (hN:X.N.Nodup) (hi:X.N[i]?=some x) (hx:Loc X.env.scope x) (hf:X.fn x=true∨X.env.scope.names.lookup x=some .local:=by first | exact .inl rfl | exact .inr rfl | assumption):PG X (.Name x pos) (vg i):=by
 intro pins s σ H v u Q I r h
 exact wpAny_assign_Name (CK I hN hi hx r (λs' I'=>⟨_,H,I',h⟩) hf)
noncomputable def XQ:My:=λvs σ H Q=>vs=[]/\Q σ H
inductive Qf (t:TG) (u:My) (vs:List V) (σ:St) (H:Hp) (Q:St->Hp->Prop):Prop where
 | mk:∀v r,vs=v:: r->(t v σ H λσ' H'=>u r σ' H' Q)->Qf t u vs σ H Q
noncomputable def WR (t:TG) (u:My):My:=λvs σ H Q=>Qf t u vs σ H Q
theorem n8:V8 X [] XQ:=by
 intro pins s σ H vs us Q I r h
 obtain⟨e,h⟩:=h
 subst e
 cases r
 exact assignInOrder_nil ⟨σ,H,I,h⟩
theorem bR {e:Expr} {es:List Expr} {t:TG} {u:My} (h1:PG X e t) (h2:V8 X es u)
  (hs:(assignEach (e:: es) X.env).map (·.2)=assign e X.env:: (assignEach es X.env).map (·.2):=by rfl):V8 X (e:: es) (WR t u):=by
 intro pins s σ H vs us Q I r h
 obtain⟨v,vr,e1,h⟩:=h
 subst e1
 cases r with
 | cons r rr=>
  rw [hs]
  refine assignInOrder_cons (dC (h1 pins s σ H _ _ _ I r h) λ_ s1 hpt=>?_)
  obtain⟨σ1,H1,I1,q1⟩:=hpt
  exact h2 pins s1 σ1 H1 _ _ Q I1 rr q1
inductive Sw (K:PySem.W.Frag) (n:Nat) (t:My) (v:V) (σ:St) (H:Hp) (Q:St->Hp->Prop):Prop where
 | mk:∀a xs,v=.ref a->d7 K H a xs->xs.length=n->t xs σ H Q->Sw K n t v σ H Q
noncomputable def Wn (K:PySem.W.Frag) (n:Nat) (t:My):TG:=λv σ H Q=>Sw K n t v σ H Q
theorem Gq {es:List Expr} {k:Nat} {t:My} {n:Nat} (hc:X.calm=true) (h:V8 X es t)
  (hn:(assignEach es X.env).length=n:=by rfl) (hst:(assignEach es X.env).findIdx? (·.1)=none:=by rfl):PG X (.Tuple es k pos) (Wn X.K n t):=by
 intro pins s σ H v u Q I r hw
 obtain⟨a,xs,e1,hq,hl,hw⟩:=hw
 subst e1
 cases r
 obtain⟨its,rv,ht,hz⟩:=I.tuple hq
 refine assign_Tuple_tuple (I.ok.hd hc) ht (by simp [hn,<-hl,rv.length]) hst λh' hx=>?_
 have I1:Inv X pins σ H { s with heap:=h' }:=I.kept (t':=s.toks) λb o e=>hx b o (Nat.ne_of_lt (Heap.lt_size e)) e
 exact h pins _ σ H xs _ Q I1 (by simpa using rv) hw
noncomputable def YD (to ti:TE) (t:UL):TG:=λv σ H Q=>to σ H λo H1=>ti σ H1 λi H2=>t o i v H2 λH3=>Q σ H3
theorem kJ {o i:Expr} {to ti:TE} {t:UL} (ho:PE X o to) (hi:PE X i ti) (hs:Xh X t)
  (ha:∀v,assign (.Subscript o i pos) X.env v=(do
   let ov <-holding [v] (eval o X.env)
   let iv <-holding [v,ov] (eval i X.env)
   standAt pos
   holding [v,ov,iv] (setItem ov iv v)
   release [v,ov,iv] []):=by intro _;rfl):PG X (.Subscript o i pos) (YD to ti t):=by
 intro pins s σ H v u Q I r h
 rw [ha]
 refine wpAny_bind (wpAny_holding (dC (ho pins s σ H _ I h) λov s1 hpt=>?_))
 obtain⟨x,H1,I1,r1,q1⟩:=hpt
 refine wpAny_bind (wpAny_holding (dC (hi pins s1 σ H1 _ I1 q1) λiv s2 hpt=>?_))
 obtain⟨y,H2,I2,r2,q2⟩:=hpt
 refine wpAny_bind (wpAny_standAt (wpAny_bind (wpAny_holding (dC (hs pins s2 σ H2 x y v ov iv u _ I2 r1 r2 r q2) λ_ s3 hpt=>?_))))
 obtain⟨H3,I3,q3⟩:=hpt
 exact wpAny_release ⟨σ,H3,I3,q3⟩
noncomputable def MJ (te:TE) (g:TG):TS:=λD σ H=>te σ H λx H1=>g x σ H1 D.nx
theorem jn {tg e:Expr} {te:TE} {g:TG} (he:PE X e te) (hg:PG X tg g) (hs:swapsWithSole [tg] e pos.line X.env=pure false:=by rfl) (hw:swappedStores [tg] e X.env=pure none:=by rfl)
  (h1:(assignEach [tg] X.env).map (·.2)=[assign tg X.env]:=by rfl):PS X (.Assign [tg] e pos) (MJ te g):=by
 intro pins s σ H D I h
 refine wpAny_Assign_stores (dC (he pins s σ H _ I h) λv s1 hpt=>?_) hs hw
 obtain⟨x,H1,I1,r1,q1⟩:=hpt
 rw [h1]
 exact dC (hg pins s1 σ H1 x v _ I1 r1 q1) λ_ s2 q=>q
theorem Hi {i:Nat} {x:Str} {e:Expr} {te:TE} {pos':Pos} (hN:X.N.Nodup) (hi:X.N[i]?=some x) (hx:Loc X.env.scope x) (he:PE X e te) (hs:swapsWith e (some (.Name x pos')) pos.line X.env=pure false:=by rfl) (hf:X.fn x=true∨X.env.scope.names.lookup x=some .local:=by first | exact .inl rfl | exact .inr rfl | assumption):
  PS X (.Assign [.Name x pos'] e pos) (MJ te (vg i)):=by
 intro pins s σ H D I h
 refine wpAny_Assign_Name (dC (he pins s σ H _ I h) λv s1 hpt=>?_) hs
 obtain⟨y,H1,I1,r1,q1⟩:=hpt
 exact CK I1 hN hi hx r1 (λs2 I2=>⟨_,H1,I2,q1⟩) hf
end
section
variable {X:Cx} {pos:Pos}
inductive K4 (c:TT) (tb:TS) (D:Ends) (σ:St) (H:Hp):Prop where
 | mk:∀W:Nat->St->Hp->Prop,((∃m,W m σ H))->(∀m σ H,W m σ H->
 c σ H λb H1=>if b=true then ∃N:St->Hp->Prop,(∀σ' H',N σ' H'->∃m',m' <m/\W m' σ' H')/\tb { D with nx:=N,ct:=N,bk:=D.nx } σ H1 else D.nx σ H1)->K4 c tb D σ H
noncomputable def QX (c:TT) (tb:TS):TS:=λD σ H=>K4 c tb D σ H
theorem HF {c:Expr} {body:List Stmt} {tc:TT} {tb:TS} (hp:PassesOwn (model X.prog X.w) X.A X.env X.xe) (hc:PT X c tc) (hb:Fg X body tb):PS X (.While c body [] pos) (QX tc tb):=by
 intro pins s σ H D I h
 obtain⟨W,⟨m0,w0⟩,turn⟩:=h
 refine wpAny_While (codeAny_whileLoop (λn s'=>∃σ' H',Inv X pins σ' H' s'/\W n σ' H') ?_ m0 ⟨σ,H,I,w0⟩)
 rintro n s1 ⟨σ1,H1,I1,w1⟩
 refine wpAny_passesOwn hp (dC (hc pins s1 σ1 H1 _ I1 (turn n σ1 H1 w1)) λb s2 hpt=>?_)
 obtain⟨H2,I2,q2⟩:=hpt
 cases b with
 | true=>
  obtain⟨N,hN,q2⟩:=q2
  rw [if_pos rfl]
  refine wpAny_passesOwn hp (dC (hb pins s2 σ1 H2 _ I2 q2) λf s3 q3=>?_)
  cases f with
  | next=>
   obtain⟨σ3,H3,I3,n3⟩:=q3
   obtain⟨m',hm,w3⟩:=hN σ3 H3 n3
   exact⟨m',hm,σ3,H3,I3,w3⟩
  | cont=>
   obtain⟨σ3,H3,I3,n3⟩:=q3
   obtain⟨m',hm,w3⟩:=hN σ3 H3 n3
   exact⟨m',hm,σ3,H3,I3,w3⟩
  | brk=>exact q3
  | ret v=>exact q3
 | false=>
  rw [if_neg Bool.false_ne_true]
  exact wpAny_execs_nil ⟨σ1,H2,I2,q2⟩
end
structure It where
 go:Nat->Hp->Prop
 yld:Nat->Hp->V->Hp->Prop
 stop:Nat->Hp->Prop
noncomputable def GR (X:Cx) (pins:List (Addr×Obj)) (H:Hp) (b:Addr):Prop:=
 H b=none/\b≠X.env.locals/\b∉X.fs/\(b∈X.ex∨X.s₀.heap.objs.size<=b)/\(∀x c,X.env.cells.lookup x=some c->c≠b)/\∀p∈X.pn ++ pins,p.1≠b
theorem Inv.fpOk {X:Cx} {pins:List (Addr×Obj)} {σ:St} {H H':Hp} {s:Shared} {b:Addr} (I:Inv X pins σ H s) (hb:s.heap.objs.size<=b) (hn:H' b=none):GR X pins H' b:=by
 refine⟨hn,Nat.ne_of_gt (Nat.lt_of_lt_of_le I.lt hb),I.nofs hb,.inr (Nat.le_trans I.sz hb),λx c e z=>?_,λp hp z=>?_⟩
 ·obtain⟨v,q⟩:=I.cell x c e
  exact absurd (Nat.lt_of_lt_of_le q.lt (by rw [z];exact hb)) (Nat.lt_irrefl _)
 ·exact absurd (Nat.lt_of_lt_of_le (Heap.lt_size (I.pin p hp).1) (by rw [z];exact hb)) (Nat.lt_irrefl _)
structure Turn (P:Program) (w:World) (K:PySem.W.Frag) (tg:Expr) (J:It) (fp:List Addr) (it:Addr) (tn:Nat->Heap->Prop):Prop where
 mem:it∈fp
 obj:∀i h,tn i h->∀b∈fp,∃o,h.get? b=some o/\∀v,o.data≠.cell v
 keep:∀i h h',tn i h->(∀b∈fp,∀o,h.get? b=some o->h'.get? b=some o)->tn i h'
 item:∀(X:Cx),X.prog=P->X.w=w->X.K=K->X.calm=true->∀(i:Nat) (pins:List (Addr×Obj)) (s:Shared) (σ:St) (H:Hp) (E:Value->Shared->Prop),Inv X pins σ H s->(∀b∈fp,GR X pins H b)->tn i s.heap->J.go i H->
  wpAny (model P w) X.A (pyNext (.ref it)) (λr s1=>∃u,r=some u/\
   wpAny (model P w) X.A (letOwnedTupleGo tg (.ref it) u) (λ_ s2=>∃x H',Inv X pins σ H' s2/\RelV x u/\J.yld i H x H'/\tn (i+1) s2.heap/\∀b∈fp,H' b=none) E s1) E s
 done:∀(X:Cx),X.prog=P->X.w=w->X.K=K->X.calm=true->∀(i:Nat) (pins:List (Addr×Obj)) (s:Shared) (σ:St) (H:Hp) (E:Value->Shared->Prop),Inv X pins σ H s->(∀b∈fp,GR X pins H b)->tn i s.heap->J.stop i H->
  wpAny (model P w) X.A (pyNext (.ref it)) (λr s1=>r=none/\Inv X pins σ H s1) E s
 self:∀(A:Around) (i:Nat) (s:Shared) (Q:Value->Shared->Prop) (E:Value->Shared->Prop),tn i s.heap->Q (.ref it) s->wpAny (model P w) A (pyIter (.ref it)) Q E s
noncomputable abbrev TI:=St->Hp->(It->Hp->Prop)->Prop
noncomputable def PIE (X:Cx) (pins:List (Addr×Obj)) (σ:St) (tg:Expr) (R:It->Hp->Prop) (itv:Value) (s2:Shared):Prop:=
 ∃(it:Addr) (fp:List Addr) (tn:Nat->Heap->Prop) (J:It) (H':Hp),itv=.ref it/\Inv X pins σ H' s2/\Turn X.prog X.w X.K tg J fp it tn/\tn 0 s2.heap/\(∀b∈fp,GR X pins H' b)/\R J H'
noncomputable def PI (X:Cx) (tg iter:Expr) (wi:TI):Prop:=
 ∀(pins:List (Addr×Obj)) (s:Shared) (σ:St) (H:Hp) (R:It->Hp->Prop),Inv X pins σ H s->wi σ H R->
  wpAny (model X.prog X.w) X.A (eval iter X.env) (λv s1=>wpAny (model X.prog X.w) X.A (pyIter v) (PIE X pins σ tg R) X.xe s1) X.xe s
theorem FT {M:Model} {A:Around} {E:Value->Shared->Prop} {s:Shared} {tg:Expr} {it:Addr} {u:Value} {o:Obj} {n:String} {vs:Array Value} {Q:Unit->Shared->Prop} (ho:s.heap.get? it=some o) (hc:o.cls=.type n) (hd:o.data=.fields vs)
  (hn:["enumerate", "zip", "dict_itemiterator", "dict_reverseitemiterator", "odict_iterator", "itertools.zip_longest", "itertools.pairwise"].contains n=false) (hQ:Q () s):wpAny M A (letOwnedTupleGo tg (.ref it) u) Q E s:=by
 unfold letOwnedTupleGo
 cases tg <;> first
  | exact wpAny_pure hQ
  | (cases u <;> first
    | exact wpAny_pure hQ
    | (refine wpAny_bind (wpAny_load ho ?_)
       rw [hc,hd]
       show wpAny M A (if (["enumerate", "zip", "dict_itemiterator", "dict_reverseitemiterator", "odict_iterator", "itertools.zip_longest", "itertools.pairwise"].contains n && vs[0]? == some (rawInt _))=true then _ else _) Q E s
       rw [if_neg (by intro h;rw [hn,Bool.false_and] at h;cases h)]
       exact wpAny_pure hQ))
noncomputable def Vo (K:PySem.W.Frag) (a:Addr):It:=
 ⟨λi H=>∃xs x,bH K H a xs/\xs[i]?=some x,λi H x H'=>H'=H/\∀xs,bH K H a xs->xs[i]?=some x,λi H=>∃xs,bH K H a xs/\xs.length<=i⟩
noncomputable def V7 (K:PySem.W.Frag) (a:Addr):It:=
 ⟨λi H=>∃xs x,d7 K H a xs/\xs[i]?=some x,λi H x H'=>H'=H/\∀xs,d7 K H a xs->xs[i]?=some x,λi H=>∃xs,d7 K H a xs/\xs.length<=i⟩
noncomputable def Vm (lo:Int) (n:Nat):It:=⟨λi _=>i <n,λi H x H'=>H'=H/\x=.int (lo+i),λi _=>n<=i⟩
theorem M7 {P:Program} {w:World} {K:PySem.W.Frag} {tg:Expr} (a it:Addr):Turn P w K tg (Vo K a) [it] it (λi h=>h.IsListIter it a i) where
 mem:=by simp
 obj:=λi h st b hb=>by
  have e:b=it:=by simpa using hb
  subst e
  obtain⟨o,e,c,d⟩:=st
  exact⟨o,e,λv z=>by rw [d] at z;cases z⟩
 keep:=λi h h' st k=>st.at λo e=>k it (by simp) o e
 item:=by
  intro X hP hw hK hc i pins s σ H E I hf st hg
  subst hP hw hK
  obtain⟨xs,x,hq,hx⟩:=hg
  obtain⟨its,rv,p,hz⟩:=I.list hq
  obtain⟨u,hu,ru⟩:=rv.get hx
  obtain⟨f0,f1,f2,f3,f4,f5⟩:=hf it (by simp)
  refine wpAny_pyNext_list_item st p.isList (x:=u) (by simpa using hu) λh' st' sb=>?_
  have I1:Inv X pins σ H { s with heap:=h' }:=I.turned (t':=s.toks) (λb o hb e=>(sb.2 b hb).trans e) f0 f1 f3 f4 f5
  obtain⟨o,e,c,d⟩:=id st'
  exact⟨u,rfl,FT (s:={ s with heap:=h' }) e c d (by decide) ⟨x,H,I1,ru,⟨rfl,λys hy=>by rw [I.list_inj hy hq];exact hx⟩,st',λb hb=>(hf b hb).1⟩⟩
 done:=by
  intro X hP hw hK hc i pins s σ H E I hf st hg
  subst hP hw hK
  obtain⟨xs,hq,hx⟩:=hg
  obtain⟨its,rv,p,hz⟩:=I.list hq
  obtain⟨f0,f1,f2,f3,f4,f5⟩:=hf it (by simp)
  have hl:=rv.length
  exact wpAny_pyNext_list_end (I.ok.hd hc) st p.isList (by simp;lia) λh' eb=>⟨rfl,I.turned (t':=s.toks) (λb o hb e=>eb b o hb e) f0 f1 f3 f4 f5⟩
 self:=λ_ _ _ _ _ st h=>wpAny_pyIter_listiter st h
theorem Kw {P:Program} {w:World} {K:PySem.W.Frag} {tg:Expr} (a it:Addr):Turn P w K tg (V7 K a) [it] it (λi h=>h.IsTupleIter it a i) where
 mem:=by simp
 obj:=λi h st b hb=>by
  have e:b=it:=by simpa using hb
  subst e
  obtain⟨o,e,c,d⟩:=st
  exact⟨o,e,λv z=>by rw [d] at z;cases z⟩
 keep:=λi h h' st k=>st.at λo e=>k it (by simp) o e
 item:=by
  intro X hP hw hK hc i pins s σ H E I hf st hg
  subst hP hw hK
  obtain⟨xs,x,hq,hx⟩:=hg
  obtain⟨its,rv,p,hz⟩:=I.tuple hq
  obtain⟨u,hu,ru⟩:=rv.get hx
  obtain⟨f0,f1,f2,f3,f4,f5⟩:=hf it (by simp)
  refine wpAny_pyNext_tuple_item st (show s.heap.IsTuple a its.toArray from p) (x:=u) (by simpa using hu) λh' st' sb=>?_
  have I1:Inv X pins σ H { s with heap:=h' }:=I.turned (t':=s.toks) (λb o hb e=>(sb.2 b hb).trans e) f0 f1 f3 f4 f5
  obtain⟨o,e,c,d⟩:=id st'
  exact⟨u,rfl,FT (s:={ s with heap:=h' }) e c d (by decide) ⟨x,H,I1,ru,⟨rfl,λys hy=>by rw [I.tuple_inj hy hq];exact hx⟩,st',λb hb=>(hf b hb).1⟩⟩
 done:=by
  intro X hP hw hK hc i pins s σ H E I hf st hg
  subst hP hw hK
  obtain⟨xs,hq,hx⟩:=hg
  obtain⟨its,rv,p,hz⟩:=I.tuple hq
  obtain⟨f0,f1,f2,f3,f4,f5⟩:=hf it (by simp)
  have hl:=rv.length
  exact wpAny_pyNext_tuple_end (I.ok.hd hc) st (show s.heap.IsTuple a its.toArray from p) (by simp;lia) λh' eb=>⟨rfl,I.turned (t':=s.toks) (λb o hb e=>eb b o hb e) f0 f1 f3 f4 f5⟩
 self:=λ_ _ _ _ _ st h=>wpAny_pyIter_tupleiter st h
theorem JM {P:Program} {w:World} {K:PySem.W.Frag} {tg:Expr} (it:Addr) (lo:Int) (n:Nat):Turn P w K tg (Vm lo n) [it] it (λi h=>IsRangeIter h it (lo+(i:Nat) * 1) ((n:Int) - (i:Nat)) 1) where
 mem:=by simp
 obj:=λi h st b hb=>by
  have e:b=it:=by simpa using hb
  subst e
  exact⟨_,st,λv z=>by
   have z':Data.fields _=Data.cell v:=z
   cases z'⟩
 keep:=λi h h' st k=>k it (by simp) _ st
 item:=by
  intro X hP hw hK hc i pins s σ H E I hf st hg
  subst hP hw hK
  obtain⟨f0,f1,f2,f3,f4,f5⟩:=hf it (by simp)
  have W:=Walks.range (prog:=X.prog) (w:=X.w) (I.ok.hd hc) it lo 1 n
  refine W.item i s _ _ hg st λv h' tk hv st' kk=>?_
  obtain⟨t,rfl⟩:=hv
  have I1:Inv X pins σ H { s with heap:=h',toks:=tk }:=I.turned (λb o hb e=>kk b o (by simpa using hb) e) f0 f1 f3 f4 f5
  refine⟨_,rfl,FT (s:={ s with heap:=h',toks:=tk }) (n:= "range_iterator") st' rfl rfl (by decide) ⟨.int (lo+i),H,I1,⟨t,?_⟩,⟨rfl,rfl⟩,st',λb hb=>(hf b hb).1⟩⟩
  rw [Int.mul_one]
 done:=by
  intro X hP hw hK hc i pins s σ H E I hf st hg
  subst hP hw hK
  obtain⟨f0,f1,f2,f3,f4,f5⟩:=hf it (by simp)
  exact wpAny_pyNext_range_end (I.ok.hd hc) st (by have:n<=i:=hg;lia) λh' eb=>⟨rfl,I.turned (t':=s.toks) (λb o hb e=>eb b o hb e) f0 f1 f3 f4 f5⟩
 self:=λ_ _ _ _ _ st h=>wpAny_pyIter_rangeiter st h
section
variable {X:Cx} {tg:Expr}
inductive NZ (K:PySem.W.Frag) (R:It->Hp->Prop) (x:V) (H1:Hp):Prop where
 | mk:∀a,x=.ref a->((∃xs,bH K H1 a xs))->R (Vo K a) H1->NZ K R x H1
noncomputable def Tp (K:PySem.W.Frag) (tl:TE):TI:=λσ H R=>tl σ H λx H1=>NZ K R x H1
inductive Uh (K:PySem.W.Frag) (R:It->Hp->Prop) (x:V) (H1:Hp):Prop where
 | mk:∀a,x=.ref a->((∃xs,d7 K H1 a xs))->R (V7 K a) H1->Uh K R x H1
noncomputable def WQ (K:PySem.W.Frag) (tl:TE):TI:=λσ H R=>tl σ H λx H1=>Uh K R x H1
theorem dB {l:Expr} {tl:TE} (hl:PE X l tl):PI X tg l (Tp X.K tl):=by
 intro pins s σ H R I h
 refine dC (hl pins s σ H _ I h) λv s1 hpt=>?_
 obtain⟨x,H1,I1,r1,q1⟩:=hpt
 obtain⟨a,e,⟨xs,hq⟩,q⟩:=q1
 subst e
 cases r1
 obtain⟨its,rv,p,hz⟩:=I1.list hq
 refine wpAny_pyIter_list p.isList ?_
 refine⟨s1.heap.objs.size,[s1.heap.objs.size],_,_,H1,rfl,I1.kept (t':=s1.toks) λb o e=>Heap.get?_push_of_some _ e,M7 a _,⟨_,Heap.get?_push_size _ rfl,rfl,rfl⟩,λb hb=>?_,q⟩
 have e:b=s1.heap.objs.size:=by simpa using hb
 subst e
 exact I1.fpOk (Nat.le_refl _) (I1.hok.fresh (Nat.le_refl _))
theorem JH {l:Expr} {tl:TE} (hl:PE X l tl):PI X tg l (WQ X.K tl):=by
 intro pins s σ H R I h
 refine dC (hl pins s σ H _ I h) λv s1 hpt=>?_
 obtain⟨x,H1,I1,r1,q1⟩:=hpt
 obtain⟨a,e,⟨xs,hq⟩,q⟩:=q1
 subst e
 cases r1
 obtain⟨its,rv,p,hz⟩:=I1.tuple hq
 refine wpAny_pyIter_tuple (show s1.heap.IsTuple a its.toArray from p) ?_
 refine⟨s1.heap.objs.size,[s1.heap.objs.size],_,_,H1,rfl,I1.kept (t':=s1.toks) λb o e=>Heap.get?_push_of_some _ e,Kw a _,⟨_,Heap.get?_push_size _ rfl,rfl,rfl⟩,λb hb=>?_,q⟩
 have e:b=s1.heap.objs.size:=by simpa using hb
 subst e
 exact I1.fpOk (Nat.le_refl _) (I1.hok.fresh (Nat.le_refl _))
theorem QL {pins:List (Addr×Obj)} {σ:St} {H:Hp} {s:Shared} {R:It->Hp->Prop} {E:Value->Shared->Prop} {lo hi:Int} {t u v:Tok} {tk:Nat} (I:Inv X pins σ H s) (h1: -(2 ^ 62)<=lo) (h2:lo <2 ^ 62) (h3: -(2 ^ 62)<=hi) (h4:hi <2 ^ 62)
  (q:R (Vm lo (hi - lo).toNat) H):wpAny (model X.prog X.w) X.A (pyIter (.ref s.heap.objs.size)) (PIE X pins σ tg R) E { s with heap:=s.heap.push { cls:=.type "range",data:=.fields #[.int lo t,.int hi u,.int 1 v] },toks:=tk }:=by
 refine wpAny_pyIter_range (IsRange.new ..) (small_one h1 h2 h3 h4) ?_
 have I1:Inv X pins σ H { s with heap:=s.heap.push { cls:=.type "range",data:=.fields #[.int lo t,.int hi u,.int 1 v] },toks:=tk }:=I.kept λb o e=>Heap.get?_push_of_some _ e
 refine⟨(s.heap.push { cls:=.type "range",data:=.fields #[.int lo t,.int hi u,.int 1 v] }).objs.size,[(s.heap.push { cls:=.type "range",data:=.fields #[.int lo t,.int hi u,.int 1 v] }).objs.size],_,_,H,rfl,
  I1.kept (t':=tk) λb o e=>Heap.get?_push_of_some _ e,JM _ lo (hi - lo).toNat,?_,λb hb=>?_,q⟩
 ·have e1:lo+((0:Nat):Int) * 1=lo:=by simp
  have e2:(((hi - lo).toNat:Nat):Int) - ((0:Nat):Int)=Builtin.Range.rangeSize lo hi 1:=by rw [rangeSize_one];split <;> lia
  show IsRangeIter _ _ (lo+((0:Nat):Int) * 1) ((((hi - lo).toNat:Nat):Int) - ((0:Nat):Int)) 1
  rw [e1,e2]
  exact Heap.get?_push_size _ rfl
 ·have e:b=(s.heap.push { cls:=.type "range",data:=.fields #[.int lo t,.int hi u,.int 1 v] }).objs.size:=by simpa using hb
  subst e
  exact I1.fpOk (Nat.le_refl _) (I1.hok.fresh (Nat.le_refl _))
inductive Ot (R:It->Hp->Prop) (vs:List V) (H1:Hp):Prop where
 | mk:∀j:Int,vs=[.int j]-> -(2 ^ 62)<=j->j <2 ^ 62->R (Vm 0 j.toNat) H1->Ot R vs H1
noncomputable def Xi (ta:TA):TI:=λσ H R=>ta σ H λvs H1=>Ot R vs H1
theorem gQ {a:Expr} {ta:TA} {p pos:Pos} (hg:Gl X "range") (hm:X.mg "range" =none) (ha:PA X [a] ta) (hs:starEach [a] X.env=[(false,eval a X.env)]:=by rfl):PI X tg (.Call (.Name "range" p) [a] [] pos) (Xi ta):=by
 intro pins s σ H R I h
 refine Call_ (G9 I hg hm boot_range (PyProof.Rows.callWith_type1 (dC (ha pos pins s σ H _ I h) λus s1 ⟨vs,H1,I1,r1,q1⟩=>?_) hs rfl))
 obtain⟨j,e,q1,q2,q⟩:=q1
 subst e
 cases r1 with
 | cons r rr=>
  cases rr
  obtain⟨t,rfl⟩:=r
  exact call_range_1 (QL I1 (by lia) (by lia) q1 q2 (by simpa using q))
noncomputable def Yp (wi:TI) (g:TG) (tb:TS):TS:=λD σ H=>wi σ H λJ H1=>∃W:Nat->Nat->St->Hp->Prop,(∃m,W 0 m σ H1)/\∀i m σ H,W i m σ H->
 (J.stop i H/\D.nx σ H)∨(J.go i H/\∃N:St->Hp->Prop,(∀σ' H',N σ' H'->∃m',m' <m/\W (i+1) m' σ' H')/\∀x H',J.yld i H x H'->g x σ H' λσ2 H2=>tb { D with nx:=N,ct:=N,bk:=D.nx } σ2 H2)
noncomputable def Gg (fp:List Addr) (h:Heap):List (Addr×Obj):=fp.filterMap λb=>(h.get? b).map λo=>(b,o)
theorem qC {fp:List Addr} {h:Heap} {b:Addr} {o:Obj} (hb:b∈fp) (e:h.get? b=some o):(b,o)∈Gg fp h:=List.mem_filterMap.mpr ⟨b,hb,by rw [e];rfl⟩
theorem MT {fp:List Addr} {h:Heap} {p:Addr×Obj} (hp:p∈Gg fp h):p.1∈fp/\h.get? p.1=some p.2:=by
 obtain⟨b,hb,e⟩:=List.mem_filterMap.mp hp
 cases q:h.get? b with
 | none=>rw [q] at e;cases e
 | some o=>
  rw [q] at e
  have e':(b,o)=p:=Option.some.inj e
  subst e'
  exact⟨hb,q⟩
theorem Inv.pinned {pins:List (Addr×Obj)} {σ:St} {H:Hp} {s:Shared} {fp:List Addr} (I:Inv X pins σ H s) (hf:∀b∈fp,GR X pins H b) (ho:∀b∈fp,∃o,s.heap.get? b=some o/\∀v,o.data≠.cell v):Inv X (pins ++ Gg fp s.heap) σ H s:=
 I.pins_of λp hp=>(List.mem_append.mp hp).elim (λz=>I.pin p (List.mem_append_right _ z)) λz=>by
  obtain⟨hb,e⟩:=MT z
  obtain⟨f0,f1,f2,_⟩:=hf p.1 hb
  obtain⟨o,e',d⟩:=ho p.1 hb
  rw [e] at e';cases e'
  exact⟨e,f0,f1,f2,d⟩
theorem Inv.unpinned {pins pl:List (Addr×Obj)} {σ:St} {H:Hp} {s:Shared} (I:Inv X (pins ++ pl) σ H s):Inv X pins σ H s:=I.pins_of λp hp=>I.pin p (List.mem_append_right _ (List.mem_append_left _ hp))
theorem fM {iter:Expr} {body:List Stmt} {wi:TI} {g:TG} {tb:TS} {pos:Pos} (hp:PassesOwn (model X.prog X.w) X.A X.env X.xe) (hc:X.calm=true) (hi:PI X tg iter wi) (hg:PG X tg g) (hb:Fg X body tb)
  (hs:∀x,foldedSetIterable iter X.env x=pure x:=by intro _;rfl):PS X (.For tg iter body [] pos) (Yp wi g tb):=by
 intro pins s σ H D I h
 refine wpAny_For (dC (hi pins s σ H _ I h) λv s1 h1=>dC h1 λitv s2 h2=>?_) hs
 obtain⟨it,fp,tn,J,H2,e,I2,T,st2,f2,W,⟨m0,w0⟩,turn⟩:=h2
 subst e
 have stat:∀{H':Hp},(∀b∈fp,H' b=none)->∀b∈fp,GR X pins H' b:=λhn b hb=>⟨hn b hb,(f2 b hb).2⟩
 refine codeAny_forLoop_any (λn s'=>∃i σ' H',Inv X pins σ' H' s'/\tn i s'.heap/\(∀b∈fp,H' b=none)/\W i n σ' H') ?_ m0 ⟨0,σ,H2,I2,st2,λb hb=>(f2 b hb).1,w0⟩
 rintro n s3 ⟨i,σ3,H3,I3,st3,fr3,w3⟩
 rcases turn i n σ3 H3 w3 with ⟨stop,qn⟩ | ⟨go,N,hN,step⟩
 ·refine wpAny_passesOwn hp (dC (T.done X rfl rfl rfl hc i pins s3 σ3 H3 X.xe I3 (stat fr3) st3 stop) λr s4 hpt=>?_)
  obtain⟨hr,I4⟩:=hpt
  subst hr
  exact wpAny_execs_nil ⟨σ3,H3,I4,qn⟩
 ·refine wpAny_passesOwn hp (dC (T.item X rfl rfl rfl hc i pins s3 σ3 H3 X.xe I3 (stat fr3) st3 go) λr s4 hpt=>?_)
  obtain⟨u,hr,h4⟩:=hpt
  subst hr
  refine wpAny_passesOwn hp (dC h4 λ_ s5 hpt=>?_)
  obtain⟨x,H5,I5,r5,y5,st5,fr5⟩:=hpt
  have I5':=I5.pinned (stat fr5) (T.obj _ _ st5)
  refine wpAny_passesOwn hp (dC (hg _ s5 σ3 H5 x u _ I5' r5 (step x H5 y5)) λ_ s6 hpt=>?_)
  obtain⟨σ6,H6,I6,q6⟩:=hpt
  refine wpAny_passesOwn hp (dC (hb _ s6 σ6 H6 _ I6 q6) λf s7 q7=>?_)
  have again:∀{σ7:St} {H7:Hp},Inv X (pins ++ Gg fp s5.heap) σ7 H7 s7->N σ7 H7->∃m,m <n/\∃i σ' H',Inv X pins σ' H' s7/\tn i s7.heap/\(∀b∈fp,H' b=none)/\W i m σ' H':=λ{σ7 H7} I7 n7=>by
   obtain⟨m',hm,w7⟩:=hN σ7 H7 n7
   refine⟨m',hm,i+1,σ7,H7,I7.unpinned,T.keep _ _ _ st5 λb hb o e=>(I7.pin (b,o) (List.mem_append_right _ (List.mem_append_right _ (qC hb e)))).1,λb hb=>?_,w7⟩
   obtain⟨o,e,d⟩:=T.obj _ _ st5 b hb
   exact(I7.pin (b,o) (List.mem_append_right _ (List.mem_append_right _ (qC hb e)))).2.1
  cases f with
  | next=>obtain⟨σ7,H7,I7,n7⟩:=q7;exact again I7 n7
  | cont=>obtain⟨σ7,H7,I7,n7⟩:=q7;exact again I7 n7
  | brk=>obtain⟨σ7,H7,I7,q7⟩:=q7;exact⟨σ7,H7,I7.unpinned,q7⟩
  | ret v=>obtain⟨x7,σ7,H7,I7,r7,q7⟩:=q7;exact⟨x7,σ7,H7,I7.unpinned,r7,q7⟩
end
theorem jl {K:PySem.W.Frag} {a:Addr} {xs:List V} {g:TG} {tb:TS} {D:Ends} {σ:St} {H:Hp} (Pv:Nat->St->Hp->Prop) (h0:Pv 0 σ H) (hl:∀i σ H,i<=xs.length->Pv i σ H->bH K H a xs)
  (hs:∀i x σ H,xs[i]?=some x->Pv i σ H->g x σ H λσ2 H2=>tb { D with nx:=Pv (i+1),ct:=Pv (i+1),bk:=D.nx } σ2 H2) (hd:∀σ H,Pv xs.length σ H->D.nx σ H):
  ∃W:Nat->Nat->St->Hp->Prop,(∃m,W 0 m σ H)/\∀i m σ H,W i m σ H->
   ((Vo K a).stop i H/\D.nx σ H)∨((Vo K a).go i H/\∃N:St->Hp->Prop,(∀σ' H',N σ' H'->∃m',m' <m/\W (i+1) m' σ' H')/\∀x H',(Vo K a).yld i H x H'->g x σ H' λσ2 H2=>tb { D with nx:=N,ct:=N,bk:=D.nx } σ2 H2):=by
 refine⟨λi m σ H=>m=xs.length - i/\i<=xs.length/\Pv i σ H,⟨xs.length,by simp,Nat.zero_le _,h0⟩,?_⟩
 rintro i m σ H ⟨rfl,hi,p⟩
 have q:=hl i σ H hi p
 by_cases hlt:i <xs.length
 ·refine .inr ⟨⟨xs,xs[i],q,by simp [hlt]⟩,Pv (i+1),λσ' H' p'=>⟨xs.length - (i+1),by lia,rfl,hlt,p'⟩,λx H' y=>?_⟩
  obtain⟨e,y⟩:=y
  subst e
  exact hs i x σ _ (y xs q) p
 ·have e:i=xs.length:=by lia
  subst e
  exact .inl ⟨⟨xs,q,Nat.le_refl _⟩,hd σ H p⟩
theorem Rc {K:PySem.W.Frag} {a:Addr} {xs:List V} {g:TG} {tb:TS} {D:Ends} {σ:St} {H:Hp} (Pv:Nat->St->Hp->Prop) (h0:Pv 0 σ H) (hl:∀i σ H,i<=xs.length->Pv i σ H->d7 K H a xs)
  (hs:∀i x σ H,xs[i]?=some x->Pv i σ H->g x σ H λσ2 H2=>tb { D with nx:=Pv (i+1),ct:=Pv (i+1),bk:=D.nx } σ2 H2) (hd:∀σ H,Pv xs.length σ H->D.nx σ H):
  ∃W:Nat->Nat->St->Hp->Prop,(∃m,W 0 m σ H)/\∀i m σ H,W i m σ H->
   ((V7 K a).stop i H/\D.nx σ H)∨((V7 K a).go i H/\∃N:St->Hp->Prop,(∀σ' H',N σ' H'->∃m',m' <m/\W (i+1) m' σ' H')/\∀x H',(V7 K a).yld i H x H'->g x σ H' λσ2 H2=>tb { D with nx:=N,ct:=N,bk:=D.nx } σ2 H2):=by
 refine⟨λi m σ H=>m=xs.length - i/\i<=xs.length/\Pv i σ H,⟨xs.length,by simp,Nat.zero_le _,h0⟩,?_⟩
 rintro i m σ H ⟨rfl,hi,p⟩
 have q:=hl i σ H hi p
 by_cases hlt:i <xs.length
 ·refine .inr ⟨⟨xs,xs[i],q,by simp [hlt]⟩,Pv (i+1),λσ' H' p'=>⟨xs.length - (i+1),by lia,rfl,hlt,p'⟩,λx H' y=>?_⟩
  obtain⟨e,y⟩:=y
  subst e
  exact hs i x σ _ (y xs q) p
 ·have e:i=xs.length:=by lia
  subst e
  exact .inl ⟨⟨xs,q,Nat.le_refl _⟩,hd σ H p⟩
theorem o8 {lo:Int} {n:Nat} {g:TG} {tb:TS} {D:Ends} {σ:St} {H:Hp} (Pv:Nat->St->Hp->Prop) (h0:Pv 0 σ H)
  (hs:∀i σ H,i <n->Pv i σ H->g (.int (lo+i)) σ H λσ2 H2=>tb { D with nx:=Pv (i+1),ct:=Pv (i+1),bk:=D.nx } σ2 H2) (hd:∀σ H,Pv n σ H->D.nx σ H):
  ∃W:Nat->Nat->St->Hp->Prop,(∃m,W 0 m σ H)/\∀i m σ H,W i m σ H->
   ((Vm lo n).stop i H/\D.nx σ H)∨((Vm lo n).go i H/\∃N:St->Hp->Prop,(∀σ' H',N σ' H'->∃m',m' <m/\W (i+1) m' σ' H')/\∀x H',(Vm lo n).yld i H x H'->g x σ H' λσ2 H2=>tb { D with nx:=N,ct:=N,bk:=D.nx } σ2 H2):=by
 refine⟨λi m σ H=>m=n - i/\i<=n/\Pv i σ H,⟨n,by simp,Nat.zero_le _,h0⟩,?_⟩
 rintro i m σ H ⟨rfl,hi,p⟩
 by_cases hlt:i <n
 ·refine .inr ⟨hlt,Pv (i+1),λσ' H' p'=>⟨n - (i+1),by lia,rfl,hlt,p'⟩,λx H' y=>?_⟩
  obtain⟨e,y⟩:=y
  subst e y
  exact hs i σ _ hlt p
 ·have e:i=n:=by lia
  subst e
  exact .inl ⟨Nat.le_refl _,hd σ H p⟩
theorem Jg {c:TT} {tb:TS} {D:Ends} {σ:St} {H:Hp} (Pv:St->Hp->Prop) (μ:St->Hp->Nat) (h0:Pv σ H)
  (hs:∀σ H,Pv σ H->c σ H λb H1=>if b=true then tb { D with nx:=λσ' H'=>Pv σ' H'/\μ σ' H' <μ σ H,ct:=λσ' H'=>Pv σ' H'/\μ σ' H' <μ σ H,bk:=D.nx } σ H1 else D.nx σ H1)
  (mono:∀σ H Q Q',(∀b H1,Q b H1->Q' b H1)->c σ H Q->c σ H Q'):QX c tb D σ H:=by
 refine⟨λm σ H=>m=μ σ H/\Pv σ H,⟨_,rfl,h0⟩,?_⟩
 rintro m σ H ⟨rfl,p⟩
 refine mono σ H _ _ (λb H1 q=>?_) (hs σ H p)
 cases b with
 | true=>exact⟨_,λσ' H' ⟨p',l⟩=>⟨_,l,rfl,p'⟩,q⟩
 | false=>exact q
noncomputable abbrev R2:=V->V->Hp->VK->Prop
noncomputable def xm (X:Cx) (f:Value->Value->Sem Value) (r:R2):Prop:=
 ∀(pins:List (Addr×Obj)) (s:Shared) (σ:St) (H:Hp) (x y:V) (v u:Value) (Q:VK),Inv X pins σ H s->RelV x v->RelV y u->r x y H Q->
  wpAny (model X.prog X.w) X.A (f v u) (EP X pins σ Q) X.xe s
noncomputable def Yn (X:Cx) (f:Value->Sem Value) (r:V->Hp->VK->Prop):Prop:=
 ∀(pins:List (Addr×Obj)) (s:Shared) (σ:St) (H:Hp) (x:V) (v:Value) (Q:VK),Inv X pins σ H s->RelV x v->r x H Q->
  wpAny (model X.prog X.w) X.A (f v) (EP X pins σ Q) X.xe s
noncomputable def mQ (X:Cx) (f:Value) (r:List V->Hp->VK->Prop):Prop:=
 ∀(pins:List (Addr×Obj)) (s:Shared) (σ:St) (H:Hp) (xs:List V) (us:List Value) (Q:VK),Inv X pins σ H s->Vals xs us->r xs H Q->
  wpAny (model X.prog X.w) X.A (call f us) (EP X pins σ Q) X.xe s
noncomputable def Yh (X:Cx) (r:V->Hp->(Bool->Hp->Prop)->Prop):Prop:=
 ∀(pins:List (Addr×Obj)) (s:Shared) (σ:St) (H:Hp) (x:V) (v:Value) (Q:Bool->Hp->Prop),Inv X pins σ H s->RelV x v->r x H Q->
  wpAny (model X.prog X.w) X.A (truthy v) (TP X pins σ Q) X.xe s
noncomputable def V4 (r:R2) (ta tb:TE):TE:=λσ H Q=>ta σ H λx H1=>tb σ H1 λy H2=>r x y H2 Q
noncomputable def tUn (r:V->Hp->VK->Prop) (ta:TE):TE:=λσ H Q=>ta σ H λx H1=>r x H1 Q
inductive YM (C:Int->Int->Prop) (g:Int->Int->V) (x:V) (y:V) (H:Hp) (Q:VK):Prop where
 | mk:∀i j,x=.int i->y=.int j->C i j->Q (g i j) H->YM C g x y H Q
noncomputable def rI (C:Int->Int->Prop) (g:Int->Int->V):R2:=λx y H Q=>YM C g x y H Q
inductive WK (g:Int->Int->V) (x:V) (y:V) (H:Hp) (Q:VK):Prop where
 | mk:∀i j,x=.int i->y=.int j->Q (g i j) H->WK g x y H Q
noncomputable def Vp (g:Int->Int->V):R2:=λx y H Q=>WK g x y H Q
noncomputable def rU (g:Int->V):V->Hp->VK->Prop:=λx H Q=>∃i,x=.int i/\Q (g i) H
section
variable {X:Cx} {a b c:Expr} {ta tb tc:TE} {pos:Pos}
theorem V1 (ha:PE X a ta) (hb:PE X b tb) {pins:List (Addr×Obj)} {s:Shared} {σ:St} {H:Hp} {R:V->V->Hp->Prop} (I:Inv X pins σ H s)
  (h:ta σ H λx H1=>tb σ H1 λy H2=>R x y H2) {Q:Value->Shared->Prop} {f:Value->Value->Sem Value}
  (hf:∀v u s2 x y H2,Inv X pins σ H2 s2->RelV x v->RelV y u->R x y H2->wpAny (model X.prog X.w) X.A (f v u) Q X.xe s2):
  wpAny (model X.prog X.w) X.A (eval a X.env) (λv s₁=>wpAny (model X.prog X.w) X.A (eval b X.env) (λu s₂=>wpAny (model X.prog X.w) X.A (f v u) Q X.xe s₂) X.xe s₁) X.xe s:=by
 refine dC (ha pins s σ H _ I h) λv s1 hpt=>?_
 obtain⟨x,H1,I1,r1,q1⟩:=hpt
 refine dC (hb pins s1 σ H1 _ I1 q1) λu s2 hpt=>?_
 obtain⟨y,H2,I2,r2,q2⟩:=hpt
 exact hf v u s2 x y H2 I2 r1 r2 q2
theorem aK {op:Operator} {r:R2} (ho:xm X (binaryOp op) r) (ha:PE X a ta) (hb:PE X b tb):PE X (.BinOp a op b pos) (V4 r ta tb):=by
 intro pins s σ H Q I h
 exact wpAny_BinOp (V1 ha hb I h λv u s2 x y H2 I2 rx ry q=>ho pins s2 σ H2 x y v u Q I2 rx ry q)
theorem SQ {op:UnaryOp} {r:V->Hp->VK->Prop} (ho:Yn X (unaryOp op) r) (ha:PE X a ta):PE X (.UnaryOp op a pos) (tUn r ta):=by
 intro pins s σ H Q I h
 exact UnaryOp_ (dC (ha pins s σ H _ I h) λv s1 ⟨x,H1,I1,r1,q1⟩=>ho pins s1 σ H1 x v Q I1 r1 q1)
theorem Xz {f:Value->Value->Sem Value} {C:Int->Int->Prop} {g:Int->Int->Int}
  (rule:∀(i j:Int) (t u:Tok) (s:Shared) (Q:Value->Shared->Prop) (E:Value->Shared->Prop),C i j->Q (.int (g i j) s.toks) { s with toks:=s.toks+1 }->wpAny (model X.prog X.w) X.A (f (.int i t) (.int j u)) Q E s):
  xm X f (rI C λi j=>.int (g i j)):=by
 intro pins s σ H x y v u Q I rx ry h
 obtain⟨i,j,rfl,rfl,hc,q⟩:=h
 obtain⟨t,rfl⟩:=rx
 obtain⟨t',rfl⟩:=ry
 exact rule i j t t' s _ _ hc ⟨.int (g i j),H,I.tok _,⟨_,rfl⟩,q⟩
theorem Xq {f:Value->Value->Sem Value} {g:Int->Int->Int}
  (rule:∀(i j:Int) (t u:Tok) (s:Shared) (Q:Value->Shared->Prop) (E:Value->Shared->Prop),Q (.int (g i j) s.toks) { s with toks:=s.toks+1 }->wpAny (model X.prog X.w) X.A (f (.int i t) (.int j u)) Q E s):
  xm X f (Vp λi j=>.int (g i j)):=by
 intro pins s σ H x y v u Q I rx ry h
 obtain⟨i,j,rfl,rfl,q⟩:=h
 obtain⟨t,rfl⟩:=rx
 obtain⟨t',rfl⟩:=ry
 exact rule i j t t' s _ _ ⟨.int (g i j),H,I.tok _,⟨_,rfl⟩,q⟩
theorem VJ {f:Value->Value->Sem Value} {g:Int->Int->Bool}
  (rule:∀(i j:Int) (t u:Tok) (s:Shared) (Q:Value->Shared->Prop) (E:Value->Shared->Prop),Q (.bool (g i j)) s->wpAny (model X.prog X.w) X.A (f (.int i t) (.int j u)) Q E s):
  xm X f (Vp λi j=>.bl (g i j)):=by
 intro pins s σ H x y v u Q I rx ry h
 obtain⟨i,j,rfl,rfl,q⟩:=h
 obtain⟨t,rfl⟩:=rx
 obtain⟨t',rfl⟩:=ry
 exact rule i j t t' s _ _ ⟨.bl (g i j),H,I,rfl,q⟩
noncomputable def YL (i j:Int):Prop:=0<=j/\j<=1000000/\i.natAbs <2 ^ 64
theorem dG:xm X (binaryOp .Add) (Vp λi j=>.int (i+j)):=Xq λ_ _ _ _ _ _ _ q=>add_int q
theorem JZ:xm X (binaryOp .Sub) (Vp λi j=>.int (i - j)):=Xq λ_ _ _ _ _ _ _ q=>sub_int q
theorem bJ:xm X (binaryOp .Mod) (rI (λ_ j=>0 <j) λi j=>.int (i % j)):=Xz λi j _ _ _ _ _ hc q=>by
 have h1:(0:Int) <j:=hc
 exact mod_int' (by lia) (by rw [Int.fmod_eq_emod_of_nonneg i (by lia)];exact q)
theorem yR:xm X (binaryOp .Pow) (rI YL λi j=>.int (i ^ j.toNat)):=Xz λ_ _ _ _ _ _ _ hc q=>pow_int_small hc.1 hc.2.1 hc.2.2 q
theorem unI {f:Value->Sem Value} {g:Int->Int}
  (rule:∀(i:Int) (t:Tok) (s:Shared) (Q:Value->Shared->Prop) (E:Value->Shared->Prop),Q (.int (g i) s.toks) { s with toks:=s.toks+1 }->wpAny (model X.prog X.w) X.A (f (.int i t)) Q E s):
  Yn X f (rU λi=>.int (g i)):=by
 intro pins s σ H x v Q I rx h
 obtain⟨i,rfl,q⟩:=h
 obtain⟨t,rfl⟩:=rx
 exact rule i t s _ _ ⟨.int (g i),H,I.tok _,⟨_,rfl⟩,q⟩
theorem Oo:Yn X (unaryOp .USub) (rU λi=>.int (-i)):=unI λ_ _ _ _ _ q=>neg_int q
end
noncomputable def Xk:V->V->Bool
 | .non,.non=>true | .non,.int _=>true | .int _,.non=>true | .non,.bl _=>true | .bl _,.non=>true | .non,.str _=>true | .str _,.non=>true
 | .int _,.int _=>true | .bl _,.bl _=>true | .str _,.str _=>true | .byt _,.byt _=>true
 | .int _,.str _=>true | .str _,.int _=>true | .bl _,.str _=>true | .str _,.bl _=>true
 | _,_=>false
noncomputable def rEq:R2:=λx y H Q=>Xk x y=true/\Q (.bl (decide (x=y))) H
noncomputable def rNe:R2:=λx y H Q=>Xk x y=true/\Q (.bl (!decide (x=y))) H
theorem K7 {i j:Int}:decide (V.int i=V.int j)=(i == j):=by
 rw [Bool.eq_iff_iff]
 simp
theorem N5 {i j:Bool}:decide (V.bl i=V.bl j)=(i == j):=by
 rw [Bool.eq_iff_iff]
 simp
theorem Ml {i j:Str}:decide (V.str i=V.str j)=(i == j):=by
 rw [Bool.eq_iff_iff]
 simp
theorem Lk {i j:Array UInt8}:decide (V.byt i=V.byt j)=(i.toList == j.toList):=by
 rw [Bool.eq_iff_iff]
 cases i
 cases j
 simp
section
variable {X:Cx} {a b c:Expr} {ta tb tc:TE} {pos:Pos}
theorem cC {pins:List (Addr×Obj)} {σ:St} {H:Hp} {s:Shared} {Q:VK} {k k':Bool} (I:Inv X pins σ H s) (q:Q (.bl k) H) (e:k=k'):EP X pins σ Q (.bool k') s:=by
 subst e
 exact⟨.bl k,H,I,rfl,q⟩
theorem cX:xm X (compareOp .Eq) rEq:=by
 intro pins s σ H x y v u Q I rx ry h
 obtain⟨hs,q⟩:=h
 cases x with
 | non=>
  cases rx
  cases y with
  | non=>cases ry;exact PySem.EqNone.eq_none_none (cC I q (by simp))
  | bl j=>cases ry;exact PySem.EqNone.eq_none_bool (cC I q (by simp))
  | int j=>obtain⟨t',rfl⟩:=ry;exact PySem.EqNone.eq_none_int (cC I q (by simp))
  | str j=>obtain⟨t',rfl⟩:=ry;exact PySem.EqNone.eq_none_str (cC I q (by simp))
  | _=>exact absurd (show false=true from hs) Bool.false_ne_true
 | bl i=>
  cases rx
  cases y with
  | non=>cases ry;exact PySem.EqNone.eq_bool_none (cC I q (by simp))
  | bl j=>cases ry;exact eq_bool (cC I q N5)
  | str j=>obtain⟨t',rfl⟩:=ry;exact PySem.EqMixed.eq_bool_str (cC I q (by simp))
  | _=>exact absurd (show false=true from hs) Bool.false_ne_true
 | int i=>
  obtain⟨t,rfl⟩:=rx
  cases y with
  | non=>cases ry;exact PySem.EqNone.eq_int_none (cC I q (by simp))
  | int j=>obtain⟨t',rfl⟩:=ry;exact eq_int (cC I q K7)
  | str j=>obtain⟨t',rfl⟩:=ry;exact PySem.EqMixed.eq_int_str (cC I q (by simp))
  | _=>exact absurd (show false=true from hs) Bool.false_ne_true
 | str i=>
  obtain⟨t,rfl⟩:=rx
  cases y with
  | non=>cases ry;exact PySem.EqNone.eq_str_none (cC I q (by simp))
  | bl j=>cases ry;exact PySem.EqMixed.eq_str_bool (cC I q (by simp))
  | int j=>obtain⟨t',rfl⟩:=ry;exact PySem.EqMixed.eq_str_int (cC I q (by simp))
  | str j=>obtain⟨t',rfl⟩:=ry;exact eq_str (cC I q Ml)
  | _=>exact absurd (show false=true from hs) Bool.false_ne_true
 | byt i=>
  obtain⟨t,rfl⟩:=rx
  cases y with
  | byt j=>obtain⟨t',rfl⟩:=ry;exact PySem.W.eq_bytes (cC I q Lk)
  | _=>exact absurd (show false=true from hs) Bool.false_ne_true
 | _=>cases y <;> exact absurd (show false=true from hs) Bool.false_ne_true
theorem Ax:xm X (compareOp .NotEq) rNe:=by
 intro pins s σ H x y v u Q I rx ry h
 obtain⟨hs,q⟩:=h
 cases x with
 | non=>
  cases rx
  cases y with
  | non=>cases ry;exact PySem.EqNone.ne_none_none (cC I q (by simp))
  | bl j=>cases ry;exact PySem.EqNone.ne_none_bool (cC I q (by simp))
  | int j=>obtain⟨t',rfl⟩:=ry;exact PySem.EqNone.ne_none_int (cC I q (by simp))
  | str j=>obtain⟨t',rfl⟩:=ry;exact PySem.EqNone.ne_none_str (cC I q (by simp))
  | _=>exact absurd (show false=true from hs) Bool.false_ne_true
 | bl i=>
  cases rx
  cases y with
  | non=>cases ry;exact PySem.EqNone.ne_bool_none (cC I q (by simp))
  | bl j=>cases ry;exact ne_bool (cC I q (congrArg not N5))
  | str j=>obtain⟨t',rfl⟩:=ry;exact PySem.EqMixed.ne_bool_str (cC I q (by simp))
  | _=>exact absurd (show false=true from hs) Bool.false_ne_true
 | int i=>
  obtain⟨t,rfl⟩:=rx
  cases y with
  | non=>cases ry;exact PySem.EqNone.ne_int_none (cC I q (by simp))
  | int j=>obtain⟨t',rfl⟩:=ry;exact ne_int (cC I q (congrArg not K7))
  | str j=>obtain⟨t',rfl⟩:=ry;exact PySem.EqMixed.ne_int_str (cC I q (by simp))
  | _=>exact absurd (show false=true from hs) Bool.false_ne_true
 | str i=>
  obtain⟨t,rfl⟩:=rx
  cases y with
  | non=>cases ry;exact PySem.EqNone.ne_str_none (cC I q (by simp))
  | bl j=>cases ry;exact PySem.EqMixed.ne_str_bool (cC I q (by simp))
  | int j=>obtain⟨t',rfl⟩:=ry;exact PySem.EqMixed.ne_str_int (cC I q (by simp))
  | str j=>obtain⟨t',rfl⟩:=ry;exact ne_str (cC I q (congrArg not Ml))
  | _=>exact absurd (show false=true from hs) Bool.false_ne_true
 | byt i=>
  obtain⟨t,rfl⟩:=rx
  cases y with
  | byt j=>obtain⟨t',rfl⟩:=ry;exact PySem.W.ne_bytes (cC I q (congrArg not Lk))
  | _=>exact absurd (show false=true from hs) Bool.false_ne_true
 | _=>cases y <;> exact absurd (show false=true from hs) Bool.false_ne_true
theorem qY:xm X (compareOp .Lt) (Vp λi j=>.bl (decide (i <j))):=VJ λ_ _ _ _ _ _ _ q=>lt_int q
theorem lz:xm X (compareOp .LtE) (Vp λi j=>.bl (decide (i<=j))):=VJ λ_ _ _ _ _ _ _ q=>le_int q
theorem Ih:xm X (compareOp .Gt) (Vp λi j=>.bl (decide (j <i))):=VJ λ_ _ _ _ _ _ _ q=>gt_int q
theorem uB:xm X (compareOp .In) (λx y H Q=>∃i j,x=.str i/\y=.str j/\Q (.bl (!(Builtin.Str.occurrences j i 0 j.length 1).isEmpty)) H):=by
 intro pins s σ H x y v u Q I rx ry h
 obtain⟨i,j,rfl,rfl,q⟩:=h
 obtain⟨t,rfl⟩:=rx
 obtain⟨t',rfl⟩:=ry
 exact in_str (cC I q rfl)
theorem Hd:xm X (compareOp .NotIn) (λx y H Q=>∃i j,x=.str i/\y=.str j/\Q (.bl (!(!(Builtin.Str.occurrences j i 0 j.length 1).isEmpty))) H):=by
 intro pins s σ H x y v u Q I rx ry h
 obtain⟨i,j,rfl,rfl,q⟩:=h
 obtain⟨t,rfl⟩:=rx
 obtain⟨t',rfl⟩:=ry
 exact notIn_str (cC I q rfl)
theorem bu (b:Expr) {op:CmpOp} (h:op≠.In:=by decide) (h2:op≠.NotIn:=by decide):behindInMarks op b=false:=by
 have e1:(op == CmpOp.In)=false:=by cases op <;> first | rfl | exact absurd rfl h
 have e2:(op == CmpOp.NotIn)=false:=by cases op <;> first | rfl | exact absurd rfl h2
 cases b <;> simp [behindInMarks,e1,e2]
theorem wM {op:CmpOp} {r:R2} (ho:xm X (compareOp op) r) (ha:PE X a ta) (hb:PE X b tb) (hm:behindInMarks op b=false):PE X (.Compare a [op] [b] pos) (V4 r ta tb):=by
 intro pins s σ H Q I h
 exact wpAny_Compare1 (V1 ha hb I h λv u s2 x y H2 I2 rx ry q=>ho pins s2 σ H2 x y v u Q I2 rx ry q) hm
inductive O7 (Q:Bool->Hp->Prop) (x:V) (H':Hp):Prop where
 | mk:∀k,x=.bl k->Q k H'->O7 Q x H'
noncomputable def Oa (t:TE):TT:=λσ H Q=>t σ H λx H'=>O7 Q x H'
theorem aJ {op:CmpOp} {r:R2} (ho:xm X (compareOp op) r) (ha:PE X a ta) (hb:PE X b tb) (hm:behindInMarks op b=false):PT X (.Compare a [op] [b] pos) (Oa (V4 r ta tb)):=by
 intro pins s σ H Q I h
 refine wpAny_isTrue_Compare1 (dC (ha pins s σ H _ I h) λv s1 ⟨x,H1,I1,r1,q1⟩=>dC (hb pins s1 σ H1 _ I1 q1) λu s2 ⟨y,H2,I2,r2,q2⟩=>
  dC (ho pins s2 σ H2 x y v u _ I2 r1 r2 q2) λc s3 ⟨z,H3,I3,r3,k,e,q3⟩=>?_) hm
 subst e
 cases r3
 exact wpAny_truthy_bool ⟨H3,I3,q3⟩
inductive Lx (r':R2) (tc:TE) (σ:St) (Q:VK) (y:V) (z:V) (H3:Hp):Prop where
 | mk:∀k,z=.bl k->((if k=true then tc σ H3 λw' H4=>r' y w' H4 Q else Q (.bl false) H3))->Lx r' tc σ Q y z H3
noncomputable def Np (r r':R2) (ta tb tc:TE):TE:=λσ H Q=>ta σ H λx H1=>tb σ H1 λy H2=>r x y H2 λz H3=>Lx r' tc σ Q y z H3
theorem Hz {op op':CmpOp} {r r':R2} (ho:xm X (compareOp op) r) (ho':xm X (compareOp op') r') (ha:PE X a ta) (hb:PE X b tb) (hc:PE X c tc)
  (hm:lastMarks [op,op'] [b,c]=false:=by with_unfolding_all rfl):PE X (.Compare a [op,op'] [b,c] pos) (Np r r' ta tb tc):=by
 intro pins s σ H Q I h
 refine Compare_chain (dC (ha pins s σ H _ I h) λv s1 ⟨x,H1,I1,r1,q1⟩=>chain_link (dC (hb pins s1 σ H1 _ I1 q1) λu s2 ⟨y,H2,I2,r2,q2⟩=>
  dC (ho pins s2 σ H2 x y v u _ I2 r1 r2 q2) λd s3 ⟨z,H3,I3,r3,k,e,q3⟩=>?_)) hm
 subst e
 cases r3
 refine wpAny_truthy_bool ?_
 cases k with
 | false=>exact ite_ff ⟨.bl false,H3,I3,rfl,q3⟩
 | true=>exact ite_tt (chain_last (dC (hc pins s3 σ H3 _ I3 q3) λw' s4 ⟨z',H4,I4,r4,q4⟩=>ho' pins s4 σ H4 y z' u w' Q I4 r2 r4 q4))
theorem mj {op op':CmpOp} {r r':R2} (ho:xm X (compareOp op) r) (ho':xm X (compareOp op') r') (ha:PE X a ta) (hb:PE X b tb) (hc:PE X c tc)
  (hm:lastMarks [op,op'] [b,c]=false:=by with_unfolding_all rfl):PT X (.Compare a [op,op'] [b,c] pos) (Oa (Np r r' ta tb tc)):=by
 intro pins s σ H Q I h
 refine isTrue_chain (dC (ha pins s σ H _ I h) λv s1 ⟨x,H1,I1,r1,q1⟩=>test_link (dC (hb pins s1 σ H1 _ I1 q1) λu s2 ⟨y,H2,I2,r2,q2⟩=>
  dC (ho pins s2 σ H2 x y v u _ I2 r1 r2 q2) λd s3 ⟨z,H3,I3,r3,k,e,q3⟩=>?_)) hm
 subst e
 cases r3
 refine wpAny_truthy_bool ?_
 cases k with
 | false=>
  obtain⟨k',e',q'⟩:=q3
  cases e'
  exact ite_ff ⟨H3,I3,q'⟩
 | true=>
  refine ite_tt (test_last (dC (hc pins s3 σ H3 _ I3 q3) λw' s4 ⟨z',H4,I4,r4,q4⟩=>dC (ho' pins s4 σ H4 y z' u w' _ I4 r2 r4 q4) λd' s5 hpt=>?_))
  obtain⟨z2,H5,I5,r5,k2,e2,q5⟩:=hpt
  subst e2
  cases r5
  exact wpAny_truthy_bool ⟨H5,I5,q5⟩
noncomputable def VB (K:PySem.W.Frag) (x:V) (H:Hp) (k:Bool):Prop:=
 match x with
 | .non=>k=false
 | .bl b=>k=b
 | .int i=>k=(i != 0)
 | .str y=>y.length<=sizeLine/\k=((y.length:Int) != 0)
 | .byt y=>y.size<=sizeLine/\k=((y.size:Int) != 0)
 | .ref p=>(∃xs,bH K H p xs/\k=!xs.isEmpty)∨(∃xs,d7 K H p xs/\k=!xs.isEmpty)∨∃kvs,H p=some (.dK kvs)/\k=!kvs.isEmpty
 | _=>False
theorem Kh {κ:Type} {kvs:List (κ×V)} {vs:List (κ×Value)} (r:KV kvs vs):(!vs.isEmpty)=!kvs.isEmpty:=by
 cases r <;> rfl
theorem Bf {xs:List V} {its:List Value} (r:Vals xs its):(!its.toArray.isEmpty)=!xs.isEmpty:=by
 cases r <;> simp
theorem yC:(sizeLine:Nat) <2 ^ 63:=by rw [sizeLine_eq];decide
theorem Uw:Yh X (λx H Q=>∃k,VB X.K x H k/\Q k H):=by
 intro pins s σ H x v Q I rx h
 obtain⟨k,e,q⟩:=h
 have hl:=yC
 have hs:sizeLine=16777216:=sizeLine_eq
 cases x with
 | non=>
  cases rx
  have e':k=false:=e
  subst e'
  exact truthy_none ⟨H,I,q⟩
 | bl b=>
  cases rx
  have e':k=b:=e
  subst e'
  exact wpAny_truthy_bool ⟨H,I,q⟩
 | int i=>
  obtain⟨t,rfl⟩:=rx
  have e':k=(i != 0):=e
  subst e'
  exact PySem.P.truthy_int ⟨H,I,q⟩
 | str y=>
  obtain⟨t,rfl⟩:=rx
  obtain⟨hy,e'⟩:y.length<=sizeLine/\k=((y.length:Int) != 0):=e
  subst e'
  exact PySem.P.truthy_str (by lia) ⟨H,I.tok _,q⟩
 | byt y=>
  obtain⟨t,rfl⟩:=rx
  obtain⟨hy,e'⟩:y.size<=sizeLine/\k=((y.size:Int) != 0):=e
  subst e'
  exact PySem.W.truthy_bytes (by lia) ⟨H,I.tok _,q⟩
 | ref p=>
  cases rx
  have e':(∃xs,bH X.K H p xs/\k=!xs.isEmpty)∨(∃xs,d7 X.K H p xs/\k=!xs.isEmpty)∨∃kvs,H p=some (.dK kvs)/\k=!kvs.isEmpty:=e
  rcases e' with ⟨xs,hx,e'⟩ | ⟨xs,hx,e'⟩ | ⟨kvs,hx,e'⟩
  ·subst e'
   obtain⟨its,r,pl,hz⟩:=I.list hx
   have hlen:=r.length
   exact wpAny_truthy_list pl.isList (by simp only [List.size_toArray];lia) ⟨H,I.tok _,by rw [Bf r];exact q⟩
  ·subst e'
   obtain⟨its,r,pl,hz⟩:=I.tuple hx
   have hlen:=r.length
   exact truthy_tuple pl (by simp only [List.size_toArray];lia) ⟨H,I.tok _,by rw [Bf r];exact q⟩
  ·subst e'
   obtain⟨hz,hS,vs,r,m⟩:kvs.length<=sizeLine/\(p == sysModules)=false/\∃vs,KV kvs vs/\s.heap.DictOf (bL X.prog X.w) p vs:=I.hok p _ hx
   have hlen:kvs.length=vs.length:=Paired.length r
   exact wpAny_truthy_dict hS m (by lia) ⟨H,I.tok _,by rw [Kh r];exact q⟩
 | _=>exact(show False from e).elim
theorem cJ:xm X (binaryOp .Add) (λx y H Q=>∃i j,x=.str i/\y=.str j/\i.length+j.length<=sizeLine/\Q (.str (i ++ j)) H):=by
 intro pins s σ H x y v u Q I rx ry h
 obtain⟨i,j,rfl,rfl,hz,q⟩:=h
 obtain⟨t,rfl⟩:=rx
 obtain⟨t',rfl⟩:=ry
 exact add_str (λt' tk=>⟨.str (i ++ j),H,I.tok _,⟨_,rfl⟩,q⟩) hz
theorem vals1 {x:V} {us:List Value} (r:Vals [x] us):∃u,us=[u]/\RelV x u:=by
 cases r with
 | cons r1 r2=>cases r2;exact⟨_,rfl,r1⟩
theorem vals2 {x y:V} {us:List Value} (r:Vals [x,y] us):∃u w',us=[u,w']/\RelV x u/\RelV y w':=by
 cases r with
 | cons r1 r2=>
  cases r2 with
  | cons r3 r4=>cases r4;exact⟨_,_,rfl,r1,r3⟩
theorem Fd (hc:X.calm=true):mQ X (.builtin "max") (λxs H Q=>∃i j,xs=[.int i,.int j]/\Q (.int (if j >i then j else i)) H):=by
 intro pins s σ H xs us Q I r h
 obtain⟨i,j,rfl,q⟩:=h
 obtain⟨u,w',rfl,⟨t,rfl⟩,⟨t',rfl⟩⟩:=vals2 r
 refine max_two_ints (I.ok.hd hc) λh' tk k=>⟨_,H,I.kept k,?_,q⟩
 by_cases hj:j >i
 ·rw [if_pos hj,if_pos hj];exact⟨_,rfl⟩
 ·rw [if_neg hj,if_neg hj];exact⟨_,rfl⟩
theorem fK:mQ X (.type "str") (λxs H Q=>∃i,xs=[.int i]/\i.natAbs.log2 <1920/\Q (.str (toString i)) H):=by
 intro pins s σ H xs us Q I r h
 obtain⟨i,rfl,hz,q⟩:=h
 obtain⟨u,rfl,t,rfl⟩:=vals1 r
 exact PySem.P.str_of_int hz ⟨.str _,H,I.tok _,⟨_,rfl⟩,q⟩
noncomputable def W6 (K:PySem.W.Frag) (x:V) (H:Hp) (n:Nat):Prop:=
 match x with
 | .str y=>y.length<=sizeLine/\n=y.length
 | .byt y=>y.size<=sizeLine/\n=y.size
 | .ref p=>(∃xs,bH K H p xs/\n=xs.length)∨∃xs,d7 K H p xs/\n=xs.length
 | _=>False
theorem bI:mQ X (.builtin "len") (λxs H Q=>∃x n,xs=[x]/\W6 X.K x H n/\Q (.int n) H):=by
 intro pins s σ H xs us Q I r h
 obtain⟨x,n,rfl,e,q⟩:=h
 obtain⟨u,rfl,rx⟩:=vals1 r
 have hl:=yC
 have hs:sizeLine=16777216:=sizeLine_eq
 cases x with
 | str y=>
  obtain⟨t,rfl⟩:=rx
  obtain⟨hy,e'⟩:y.length<=sizeLine/\n=y.length:=e
  subst e'
  exact len_str (by lia) ⟨.int _,H,I.tok _,⟨_,rfl⟩,q⟩
 | byt y=>
  obtain⟨t,rfl⟩:=rx
  obtain⟨hy,e'⟩:y.size<=sizeLine/\n=y.size:=e
  subst e'
  exact PySem.W.len_bytes (by lia) ⟨.int _,H,I.tok _,⟨_,rfl⟩,q⟩
 | ref p=>
  cases rx
  have e':(∃xs,bH X.K H p xs/\n=xs.length)∨∃xs,d7 X.K H p xs/\n=xs.length:=e
  rcases e' with ⟨xs,hx,e'⟩ | ⟨xs,hx,e'⟩
  ·subst e'
   obtain⟨its,r',pl,hz⟩:=I.list hx
   have hlen:=r'.length
   exact Calls.call_len_list pl.isList (by simp only [List.size_toArray];lia) ⟨.int xs.length,H,I.tok _,⟨_,by simp only [List.size_toArray];rw [hlen]⟩,q⟩
  ·subst e'
   obtain⟨its,r',pl,hz⟩:=I.tuple hx
   have hlen:=r'.length
   exact len_tuple pl (by simp only [List.size_toArray];lia) ⟨.int xs.length,H,I.tok _,⟨_,by simp only [List.size_toArray];rw [hlen]⟩,q⟩
 | _=>exact(show False from e).elim
end
structure JK (h:Heap) (x dx C:Addr) (mA:Str->Option Value):Prop where
 obj:h.get? x=some (PySem.W.instObj C dx)
 ns:h.Ns1 dx mA
 ne:dx≠x
theorem yu {h:Heap} {dx:Addr} {mA:Str->Option Value} (n:h.Ns1 dx mA):∃od,h.get? dx=some od/\∀name,PySem.W.lookIn name od=some (mA name):=by
 obtain⟨o,es,ep,ho,hd,hk,_,hm⟩:=n
 refine⟨o,ho,λname=>?_⟩
 have e:=hm name
 unfold nsFind findBy at e
 rw [<-Array.find?_toList] at e
 unfold PySem.W.lookIn
 rw [hd]
 dsimp only
 split
 ·rename_i y q
  rw [q] at e
  exact congrArg some e
 ·rename_i q
  rw [q] at e
  have a:es.toList.any (·.refKey)=false:=by
   rw [List.any_eq_false]
   intro y hy
   obtain⟨z,t,hkey⟩:=hk y (Array.mem_toList_iff.mp hy)
   simp [DictEntry.refKey,hkey]
  have a':¬es.toList.any (·.refKey)=true:=by rw [a];exact Bool.false_ne_true
  rw [if_neg a']
  exact congrArg some e
theorem JK.look {h:Heap} {x dx C:Addr} {mA:Str->Option Value} (I:JK h x dx C mA):∃od,PySem.W.InstAt h x (PySem.W.instObj C dx) C (some od)/\∀name,PySem.W.lookIn name od=some (mA name):=
 let ⟨od,ho,hl⟩:=yu I.ns
 ⟨od,⟨I.obj,rfl,rfl,ho⟩,hl⟩
section
variable {prog:Program} {w:World} {A:Around} {E:Value->Shared->Prop} {s:Shared} {K:PySem.W.Frag} {x dx C f:Addr} {mA:Str->Option Value} {name:Str} {v:Value}
theorem R8 {expr:Bool} {Q:Value->Shared->Prop} (X:K.In s.heap) (I:JK s.heap x dx C mA) (hg:PySem.W.plainGet K C name=true) (hh:PySem.W.hasDictIn K C=true)
  (ha:PySem.W.findIn K (.ref C) name=some none) (hv:mA name=some v) (hv':PySem.W.handedIn v=true) (h:Q v { s with toks:=s.toks+1 }):
  wpAny (model prog w) A (getAttr (.ref x) name expr) Q E s:=by
 obtain⟨od,J,hl⟩:=I.look
 exact PySem.W.get_value X J (PySem.W.plainGet_of hg).1 (PySem.W.findObj_own hh ha rfl (by rw [hl,hv])) hv' h
theorem Oq {pl:Sem Bool} {Q:Value×List Value->Shared->Prop} (X:K.In s.heap) (I:JK s.heap x dx C mA) (hg:PySem.W.plainGet K C name=true)
  (hf:PySem.W.findIn K (.ref C) name=some (some (.ref f))) (ht:PySem.W.isFn K (.ref f)=true) (hv:mA name=none) (h:Q (.ref f,[.ref x]) s):
  wpAny (model prog w) A (getMethod (.ref x) name pl) Q E s:=by
 obtain⟨od,J,hl⟩:=I.look
 exact PySem.W.method_fn X J (PySem.W.plainGet_of hg).1 (PySem.W.plainGet_of hg).2 hf (beq_iff_eq.mp ht) (by show(PySem.W.lookIn name od).map (·.isSome)=some false;rw [hl,hv];rfl) h
theorem Rp {ns:List Str} {Q:Unit->Shared->Prop} (X:K.In s.heap) (I:JK s.heap x dx C mA)
  (hs:PySem.W.findIn K (.ref C) "__setattr__" =some (some (.builtin "object.__setattr__"))) (hp:PySem.W.plainOver K C=true) (ht:PySem.W.takerIn K C name=some none) (hh:PySem.W.hasDictIn K C=true)
  (hw:PySem.Within mA ns) (hsz:ns.length<=sizeLine)
  (h:∀h',JK h' x dx C (λy=>if y=name then some v else mA y)->Heap.SameBut dx s.heap h'->Q () { s with heap:=h',toks:=s.toks+2 }):
  wpAny (model prog w) A (setAttr (.ref x) name v) Q E s:=by
 obtain⟨od,J,hl⟩:=I.look
 refine PySem.W.set_plain X J hs (PySem.W.osa_open (s:={ s with toks:=s.toks+1 }) (r:=none) X J hp ht λb=>?_)
 obtain⟨cd,hc,hd'⟩:=PySem.W.any_some hh
 have hx:s.heap.get? x=some ⟨.ref C,some dx,.plain,#[]⟩:=I.obj
 refine wpAny_bind (wpAny_pure (wpAny_bind (wpAny_bind (wpAny_loadPart hx (wpAny_bind (PySem.W.Looks.here (s:={ s with toks:=s.toks+1 }) (PySem.W.looks_clsIn X hc) ?_))))))
 rw [hd']
 refine wpAny_pure (a:=some dx) (wpAny_bind (wpAny_pure (wpAny_bind ?_)))
 refine wpAny_nsSet1 (s:={ s with toks:=s.toks+1 }) I.ns λh' hn2 hs2=>?_
 obtain⟨oD,esD,epD,hoD,hdD,hcD⟩:=hn2.count (PySem.Within.cons name v hw)
 refine wpAny_bind (wpAny_lookBehind hoD (by rw [hdD];exact pastItsLine_dict (Nat.le_trans hcD (by rw [List.length_cons];lia))) ?_)
 exact wpAny_pure (h _ ⟨(hs2.2 _ (Ne.symm I.ne)).trans I.obj,hn2,I.ne⟩ hs2)
theorem Js {R:Result->Shared->Prop} {vs:List Value} {kw:List (Str×Value)} (X:K.In s.heap) (hm:PySem.W.makesIn K C=true)
  (hi:PySem.W.findIn K (.ref C) "__init__" =some (some (.ref f))) (hf:PySem.W.typeIn K (.ref f)=some (.type "function"))
  (h:codeAny (model prog w) (A.under (.builtin "type.__call__" ⟨.ref C:: vs,kw⟩)) (.call (.ref f) ⟨.ref (s.heap.objs.size+1):: vs,kw⟩) (PySem.W.InitBack (s.heap.objs.size+1) R)
   { s with heap:=(s.heap.push PySem.W.emptyDict).push (PySem.W.instObj C s.heap.objs.size) }):
  codeAny (model prog w) A (.call (.ref C) ⟨vs,kw⟩) R s:=by
 obtain⟨hh,g,d,t,os⟩:=s
 exact PySem.W.make_core (PySem.W.makes_of X hm) (PySem.W.looks_findIn X hi) (λself=>PySem.W.bind_fn X self hf) (.inl rfl) h
end
noncomputable def bf (f:Str) (v:V):List (Str×V)->List (Str×V)
 | []=>[(f,v)]
 | (g,x):: r=>if g=f then(g,v):: r else(g,x):: bf f v r
theorem aG (f g:Str) (v:V):∀fs:List (Str×V),(bf f v fs).lookup g=if g=f then some v else fs.lookup g
 | []=>by
  show List.lookup g [(f,v)]=_
  by_cases h:g=f
  ·have hb:(g == f)=true:=beq_iff_eq.mpr h
   simp only [List.lookup,hb,if_pos h]
  ·have hb:(g == f)=false:=beq_eq_false_iff_ne.mpr h
   simp only [List.lookup,hb,if_neg h]
 | (k,x):: r=>by
  have ih:=aG f g v r
  rw [show bf f v ((k,x):: r)=(if k=f then(k,v):: r else(k,x):: bf f v r) from rfl]
  by_cases hk:k=f
  ·rw [if_pos hk]
   by_cases h:g=k
   ·have hb:(g == k)=true:=beq_iff_eq.mpr h
    simp only [List.lookup,hb,if_pos (h.trans hk)]
   ·have hb:(g == k)=false:=beq_eq_false_iff_ne.mpr h
    simp only [List.lookup,hb,if_neg (λe:g=f=>h (e.trans hk.symm))]
  ·rw [if_neg hk]
   by_cases h:g=k
   ·have hb:(g == k)=true:=beq_iff_eq.mpr h
    simp only [List.lookup,hb,if_neg (λe:g=f=>hk (h.symm.trans e))]
   ·have hb:(g == k)=false:=beq_eq_false_iff_ne.mpr h
    simp only [List.lookup,hb]
    exact ih
theorem yt (f:Str) (v:V):∀fs:List (Str×V),f∈(bf f v fs).map (·.1)/\∀g,g∈fs.map (·.1)->g∈(bf f v fs).map (·.1)
 | []=>⟨by simp [bf],λg h=>by simp at h⟩
 | (k,x):: r=>by
  obtain⟨i1,i2⟩:=yt f v r
  rw [show bf f v ((k,x):: r)=(if k=f then(k,v):: r else(k,x):: bf f v r) from rfl]
  by_cases hk:k=f
  ·rw [if_pos hk]
   subst hk
   exact⟨by simp,λg h=>by simpa using h⟩
  ·rw [if_neg hk]
   refine⟨?_,λg h=>?_⟩
   ·rw [List.map_cons]
    exact List.mem_cons_of_mem _ i1
   ·rw [List.map_cons] at h ⊢
    rcases List.mem_cons.mp h with e | e
    ·exact List.mem_cons.mpr (.inl e)
    ·exact List.mem_cons_of_mem _ (i2 g e)
theorem ue (f:Str) (v:V):∀fs:List (Str×V),(bf f v fs).length<=fs.length+1
 | []=>by simp [bf]
 | (k,x):: r=>by
  have ih:=ue f v r
  rw [show bf f v ((k,x):: r)=(if k=f then(k,v):: r else(k,x):: bf f v r) from rfl]
  by_cases hk:k=f
  ·rw [if_pos hk,List.length_cons,List.length_cons];lia
  ·rw [if_neg hk,List.length_cons,List.length_cons];lia
theorem qg.some_of {v:V} {o:Option Value} (r:qg (some v) o):∃u,o=some u/\RelV v u:=by
 cases o with
 | none=>exact(show False from r).elim
 | some u=>exact⟨u,rfl,r⟩
theorem qg.none_of {o:Option Value} (r:qg none o):o=none:=by
 cases o with
 | none=>rfl
 | some u=>exact(show False from r).elim
theorem Fe {v:V} {u:Value} (r:RelV v u):PySem.W.handedIn u=true:=by
 cases v with
 | non=>cases (show u=Value.none from r);rfl
 | bl b=>cases (show u=Value.bool b from r);rfl
 | int i=>obtain⟨t,e⟩:=(show ∃t,u=Value.int i t from r);cases e;rfl
 | str x=>obtain⟨t,e⟩:=(show ∃t,u=Value.str x t from r);cases e;rfl
 | byt b=>obtain⟨t,e⟩:=(show ∃t,u=Value.bytes b t from r);cases e;rfl
 | flt b=>obtain⟨t,e⟩:=(show ∃t,u=Value.float b t from r);cases e;rfl
 | ref a=>cases (show u=Value.ref a from r);rfl
 | ty n=>cases (show u=Value.type n from r);rfl
section
variable {P:Program} {w:World} {H H':Hp} {h h':Heap} {a C dx:Addr} {fs fs':List (Str×V)}
theorem Gm (hok:rK P w H h) (e:H a=some (.ins C dx fs)):∃mA,JK h a dx C mA/\(∀f,qg (fs.lookup f) (mA f))/\PySem.Within mA (fs.map (·.1))/\fs.length<=1000/\H dx=some (.own a):=by
 obtain⟨d,z,ne,ob,mA,n,r,q⟩:=(show cV P w H h a (.ins C dx fs) from hok a _ e)
 exact⟨mA,⟨ob,n,ne⟩,r,q,z,d⟩
end
structure QT (K:PySem.W.Frag) (C:Addr):Prop where
 pg:PySem.W.plainGet K C Str.empty=true
 hd:PySem.W.hasDictIn K C=true
 po:PySem.W.plainOver K C=true
 sa:PySem.W.findIn K (.ref C) "__setattr__" =some (some (.builtin "object.__setattr__"))
theorem QT.get {K:PySem.W.Frag} {C:Addr} (c:QT K C) (f:Str):PySem.W.plainGet K C f=true:=c.pg
noncomputable def cU (K:PySem.W.Frag) (C:Addr) (f:Str):Prop:=PySem.W.findIn K (.ref C) f=some none
theorem cU.taker {K:PySem.W.Frag} {C:Addr} {f:Str} (n:cU K C f):PySem.W.takerIn K C f=some none:=by
 unfold PySem.W.takerIn
 rw [show PySem.W.findIn K (.ref C) f=some none from n]
 rfl
structure Meth (K:PySem.W.Frag) (C:Addr) (m:Str) (f:Addr):Prop where
 at_:PySem.W.findIn K (.ref C) m=some (some (.ref f))
 fn:PySem.W.isFn K (.ref f)=true
 kp:PySem.W.keepIn K (.ref f)=true
section
variable {X:Cx} {pins:List (Addr×Obj)} {σ:St} {H:Hp} {s:Shared} {a C dx:Addr} {fs:List (Str×V)} {f:Str} {v:V} {A:Around} {E:Value->Shared->Prop}
theorem KH {b:Bool} {Q:Value->Shared->Prop} (I:Inv X pins σ H s) (e:H a=some (.ins C dx fs)) (c:QT X.K C) (n:cU X.K C f) (l:fs.lookup f=some v)
  (h:∀u s',Inv X pins σ H s'->RelV v u->Q u s'):wpAny (model X.prog X.w) A (getAttr (.ref a) f b) Q E s:=by
 obtain⟨mA,O,r,_,_,_⟩:=Gm I.hok e
 obtain⟨u,hu,ru⟩:=qg.some_of (v:=v) (o:=mA f) (by rw [<-l];exact r f)
 exact R8 I.kIn O (c.get f) c.hd n hu (Fe ru) (h u _ (I.tok _) ru)
theorem Bx {m:Str} {g:Addr} {pl:Sem Bool} {Q:Value×List Value->Shared->Prop} (I:Inv X pins σ H s) (e:H a=some (.ins C dx fs)) (c:QT X.K C) (k:Meth X.K C m g) (l:fs.lookup m=none)
  (h:Q (.ref g,[.ref a]) s):wpAny (model X.prog X.w) A (getMethod (.ref a) m pl) Q E s:=by
 obtain⟨mA,O,r,_,_,_⟩:=Gm I.hok e
 have hn:mA m=none:=qg.none_of (by rw [<-l];exact r m)
 exact Oq I.kIn O (c.get m) k.at_ k.fn hn h
theorem Kf {y:V} {u:Value} {Q:Unit->Shared->Prop} (I:Inv X pins σ H s) (e:H a=some (.ins C dx fs)) (c:QT X.K C) (n:cU X.K C f) (hl:fs.length <1000) (ry:RelV y u)
  (h:∀s',Inv X pins σ (upd H a (.ins C dx (bf f y fs))) s'->Q () s'):wpAny (model X.prog X.w) A (setAttr (.ref a) f u) Q E s:=by
 obtain⟨mA,O,r,wi,_,ho⟩:=Gm I.hok e
 have hz:(fs.map (·.1)).length<=sizeLine:=by rw [List.length_map,sizeLine_eq];lia
 refine Rp I.kIn O c.sa c.po n.taker c.hd wi hz λh' O' sb=>h _ ?_
 have hd:∃o,h'.get? dx=some o:=let ⟨o,_,_,e',_⟩:=O'.ns;⟨o,e'⟩
 refine I.write (x:=a) (e:=dx) (by rw [e];exact True.intro) (.inr ho) (λb q hb z=>(sb.2 b hb).trans z) hd ?_
 refine⟨by rw [aD O.ne];exact ho,?_,O.ne,O'.obj,_,O'.ns,λg=>?_,λg hg=>?_⟩
 ·have:=ue f y fs;lia
 ·show qg ((bf f y fs).lookup g) (if g=f then some u else mA g)
  rw [aG]
  by_cases q:g=f
  ·rw [if_pos q,if_pos q];exact ry
  ·rw [if_neg q,if_neg q];exact r g
 ·by_cases q:g=f
  ·rw [q];exact(yt f y fs).1
  ·refine(yt f y fs).2 g (wi g λz=>hg ?_)
   show(if g=f then some u else mA g)=none
   rw [if_neg q];exact z
theorem Inv.made (I:Inv X pins σ H s):Inv X pins σ (upd (upd H s.heap.objs.size (.own (s.heap.objs.size+1))) (s.heap.objs.size+1) (.ins C s.heap.objs.size []))
  { s with heap:=(s.heap.push PySem.W.emptyDict).push (PySem.W.instObj C s.heap.objs.size) }:=by
 have e1:(s.heap.push PySem.W.emptyDict).get? s.heap.objs.size=some PySem.W.emptyDict:=Heap.get?_push_size s.heap rfl
 have e2:((s.heap.push PySem.W.emptyDict).push (PySem.W.instObj C s.heap.objs.size)).get? (s.heap.objs.size+1)=some (PySem.W.instObj C s.heap.objs.size):=by
  have:=Heap.get?_push_size (s.heap.push PySem.W.emptyDict) (o:=PySem.W.instObj C s.heap.objs.size) rfl
  rwa [Heap.size_push] at this
 have e3:(s.heap.push PySem.W.emptyDict).Ns s.heap.objs.size (λ_=>none):=⟨PySem.W.emptyDict,#[],_,e1,rfl,(λe he=>absurd he (by simp)),λ_=>rfl⟩
 have I1:=I.laid (a:=s.heap.objs.size) (o:=.own (s.heap.objs.size+1)) (h':=s.heap.push PySem.W.emptyDict) (t':=s.toks) (λb u q=>Heap.get?_push_of_some _ q) (Nat.le_refl _) ⟨_,e1⟩
 refine I1.laid (a:=s.heap.objs.size+1) (o:=.ins C s.heap.objs.size []) (t':=s.toks) (λb u q=>Heap.get?_push_of_some _ q) (Nat.le_of_eq (Heap.size_push _ _)) ?_
 have ne:s.heap.objs.size≠s.heap.objs.size+1:=Nat.ne_of_lt (Nat.lt_succ_self _)
 refine⟨by rw [aD ne,aq],Nat.zero_le _,ne,e2,λ_=>none,(Heap.Ns1.of_empty e3).at λo q=>Heap.get?_push_of_some _ q,λ_=>True.intro,λy hy=>absurd rfl hy⟩
theorem La {prog:Program} {w:World} {env:Env} {e:Expr} {f:Str} {pos:Pos} {s:Shared} {Q:Value->Shared->Prop} (hb:attributeBase e f env (eval e env)=eval e env)
  (h:wpAny (model prog w) A (eval e env) (λo s₁=>wpAny (model prog w) A (getAttr o f true) Q E s₁) E s):wpAny (model prog w) A (eval (.Attribute e f pos) env) Q E s:=
 Attribute_any_ h (by rw [arm_eval_Attribute,hb])
end
inductive TQ (K:PySem.W.Frag) (f:Str) (Q:VK) (x:V) (H1:Hp):Prop where
 | mk:∀a C dx fs v,x=.ref a->H1 a=some (.ins C dx fs)->QT K C->cU K C f->fs.lookup f=some v->Q v H1->TQ K f Q x H1
noncomputable def Wz (K:PySem.W.Frag) (ta:TE) (f:Str):TE:=λσ H Q=>ta σ H λx H1=>TQ K f Q x H1
inductive Tj (K:PySem.W.Frag) (f:Str) (D:Ends) (σ:St) (y:V) (x:V) (H2:Hp):Prop where
 | mk:∀a C dx fs,x=.ref a->H2 a=some (.ins C dx fs)->QT K C->cU K C f->fs.length <1000->D.nx σ (upd H2 a (.ins C dx (bf f y fs)))->Tj K f D σ y x H2
noncomputable def XR (K:PySem.W.Frag) (ta tv:TE) (f:Str):TS:=λD σ H=>tv σ H λy H1=>ta σ H1 λx H2=>Tj K f D σ y x H2
section
variable {X:Cx} {o e value:Expr} {f:Str} {pos pos' tpos:Pos} {ta tv:TE}
theorem dq (he:PE X e ta) (hb:attributeBase e f X.env (eval e X.env)=eval e X.env):PE X (.Attribute e f pos) (Wz X.K ta f):=by
 intro pins s σ H Q I h
 refine La hb (dC (he pins s σ H _ I h) λu s1 hpt=>?_)
 obtain⟨x,H1,I1,rx,a,C,dx,fs,v,ex,ea,c,n,l,q⟩:=hpt
 subst ex
 obtain rfl:u=Value.ref a:=rx
 exact KH I1 ea c n l λu' s2 I2 ru=>⟨v,H1,I2,ru,q⟩
theorem pX (ha:PE X o ta) (hv:PE X value tv) (hs:swapsWith value (some (.Attribute o f pos')) pos.line X.env=pure false):PS X (.Assign [.Attribute o f pos'] value pos) (XR X.K ta tv f):=by
 intro pins s σ H D I h
 refine plainObj_wpAny_Assign_Attribute (dC (hv pins s σ H _ I h) λu s1 ⟨y,H1,I1,ry,q⟩=>dC (ha pins s1 σ H1 _ I1 q) λov s2 hpt=>?_) hs
 obtain⟨x,H2,I2,rx,a,C,dx,fs,ex,ea,c,n,l,q2⟩:=hpt
 subst ex
 obtain rfl:ov=Value.ref a:=rx
 exact Kf I2 ea c n l ry λs3 I3=>⟨σ,_,I3,q2⟩
end
section
variable {X:Cx} {pins:List (Addr×Obj)} {σ:St} {H:Hp} {s:Shared} {A:Around} {E:Value->Shared->Prop} {Q:Value->Shared->Prop} {c:Value} {b:Bool}
end
structure ie (k:Nat) (A:Around):Prop where
 hd:A.handled=none
 dp:A.depth+3 * k+5 <recursionLimit
 un:A.units+16 * k+200 <cLine
theorem ie.mono {j k:Nat} {A:Around} (r:ie k A) (h:j<=k):ie j A:=⟨r.hd,by have:=r.dp;lia,by have:=r.un;lia⟩
theorem ie.deeper {k:Nat} {A:Around} (r:ie (k+1) A) (env:Env):ie k (A.deeper env):=
 ⟨r.hd,by have:=r.dp;show A.depth+1+3 * k+5 <_;lia,by have:=r.un;show A.units+3+16 * k+200 <_;lia⟩
theorem J4 {A:Around} {C:Addr} {us:List Value} {kw:List (Str×Value)}:(A.under (.builtin "type.__call__" ⟨.ref C:: us,kw⟩)).depth=A.depth+1:=by
 first | rfl | simp [Around.under,Code.weight,Code.isCreation,Code.isGuard,Code.isCaller,Code.frames,Code.isFrame,guardIds]
theorem J7 {A:Around} {C:Addr} {us:List Value} {kw:List (Str×Value)}:(A.under (.builtin "type.__call__" ⟨.ref C:: us,kw⟩)).units=A.units+1:=by
 first | rfl | simp [Around.under,Code.cUnits,Code.frames,Code.isFrame]
theorem ie.make {k:Nat} {A:Around} (r:ie (k+1) A) (C:Addr) (us:List Value) (kw:List (Str×Value)):ie k (A.under (.builtin "type.__call__" ⟨.ref C:: us,kw⟩)):=
 ⟨r.hd,by have:=r.dp;rw [J4];lia,by have:=r.un;rw [J7];lia⟩
theorem ie.depth {k:Nat} {A:Around} (r:ie k A):A.depth <recursionLimit:=by have:=r.dp;lia
theorem ie.units {k:Nat} {A:Around} (r:ie k A):A.units+64 <cLine:=by have:=r.un;lia
noncomputable def IV:TA:=λ_ H Q=>Q [] H
noncomputable def Az (ta:TE) (tr:TA):TA:=λσ H Q=>ta σ H λx H1=>tr σ H1 λxs H2=>Q (x:: xs) H2
section
variable {X:Cx} {e:Expr} {es:List Expr} {te:TE} {t:TA} {pos:Pos}
theorem ao:PA X [] IV:=λ_ _ _ _ H Q I h=>Calls.spliced_nil ⟨[],H,I,.nil,h⟩
theorem aa (ha:PE X e te) (hr:PA X es t) (hs:starEach (e:: es) X.env=(false,eval e X.env):: starEach es X.env:=by rfl):PA X (e:: es) (Az te t):=by
 intro pos pins s σ H Q I h
 rw [hs]
 show wpAny _ _ (spliced ((false,eval e X.env):: backTo pos (starEach es X.env))) _ _ s
 refine Calls.spliced_cons (dC (ha pins s σ H _ I h) λu s1 hpt=>?_)
 obtain⟨x,H1,I1,r1,q1⟩:=hpt
 exact dC (hr pos pins s1 σ H1 _ I1 q1) λus s2 ⟨xs,H2,I2,r2,q2⟩=>⟨x:: xs,H2,I2,.cons r1 r2,q2⟩
noncomputable def Xl (t:TA):TE:=λσ H Q=>t σ H λxs H1=>xs.length<=sizeLine/\∀p,H1 p=none->Q (.ref p) (upd H1 p (.tup xs))
noncomputable def VF (t:TA):TE:=λσ H Q=>t σ H λxs H1=>xs.length<=sizeLine/\∀p,H1 p=none->Q (.ref p) (upd H1 p (.lst xs))
theorem cB {x1} (h:PA X es t):PE X (.Tuple es x1 pos) (Xl t):=by
 intro pins s σ H Q I hq
 refine wpAny_Tuple_spliced (dC (h pos pins s σ H _ I hq) λus s1 ⟨xs,H1,I1,r,z,q⟩=>⟨by rw [<-r.length];exact z,?_⟩)
 have hf:H1 s1.heap.objs.size=none:=I1.hok.fresh (Nat.le_refl _)
 refine⟨.ref s1.heap.objs.size,upd H1 s1.heap.objs.size (.tup xs),I1.laid (t':=s1.toks) (λb u e=>Heap.get?_push_of_some _ e) (Nat.le_refl _) ?_,rfl,q _ hf⟩
 exact⟨z,us,r,⟨_,Heap.get?_push_size _ rfl,rfl,_,rfl⟩⟩
theorem aW (h:PA X es t):PE X (.List es pos) (VF t):=by
 intro pins s σ H Q I hq
 refine wpAny_List_spliced (dC (h pos pins s σ H _ I hq) λus s1 ⟨xs,H1,I1,r,z,q⟩=>⟨by rw [<-r.length];exact z,?_⟩)
 have hf:H1 s1.heap.objs.size=none:=I1.hok.fresh (Nat.le_refl _)
 refine⟨.ref s1.heap.objs.size,upd H1 s1.heap.objs.size (.lst xs),I1.laid (t':=s1.toks) (λb u e=>Heap.get?_push_of_some _ e) (Nat.le_refl _) ?_,rfl,q _ hf⟩
 exact⟨z,us,0,r,Heap.get?_push_size _ rfl⟩
end
noncomputable abbrev Sp:=List V->Hp->VK->XK->Prop
noncomputable abbrev DX:=List Env->Hp->Shared->XK->Value->Shared->Prop
structure Kq (P:Program) (w:World) (K:PySem.W.Frag) (mg:Str->Option Value) (base:Heap) (A:Around) (outer:List Env) (s:Shared) (H:Hp):Prop where
 frames:A.frames=some outer
 mod:Mod K mg base
 bs:∀b o,base.get? b=some o->s.heap.get? b=some o/\H b=none
 bsz:base.objs.size<=s.heap.objs.size
 funs:s.heap.FunFrames base outer
 frf:∀b∈frs outer,H b=none
 hok:rK P w H s.heap
 bare:AllBare s.gens
noncomputable def CE (outer:List Env) (P:Program) (w:World) (H:Hp) (s:Shared) (Q:VK) (u:Value) (s':Shared):Prop:=
 ∃v H',s'.os=s.os/\AllBare s'.gens/\Un (frs outer) [] H H' s.heap s'.heap/\rK P w H' s'.heap/\RelV v u/\Q v H'
noncomputable def CR (CX:DX) (outer:List Env) (P:Program) (w:World) (H:Hp) (s:Shared) (Q:VK) (E:XK) (r:Result) (s':Shared):Prop:=
 match r with
 | .ok (.ret u)=>CE outer P w H s Q u s'
 | .ok _=>False
 | .error e=>CX outer H s E e s'
structure jd (P:Program) (w:World) (K:PySem.W.Frag) (mg:Str->Option Value) (base:Heap) (CX:DX) (k:Nat) (f:Addr) (fd:FuncData) (ps:List Str) (sp:Sp):Prop where
 len:∀vs H Q E,sp vs H Q E->vs.length=ps.length
 run:∀(A:Around) (outer:List Env) (s:Shared) (H:Hp) (args:Args) (us:List Value) (vs:List V) (Q:VK) (E:XK),ie k A->Kq P w K mg base A outer s H->BindsTo s fd args (ps.zip us)->Vals vs us->sp vs H Q E->
  codeAny (model P w) A (.call (.ref f) args) (CR CX outer P w H s Q E) s
theorem Kq.make {P:Program} {w:World} {K:PySem.W.Frag} {mg:Str->Option Value} {base:Heap} {A:Around} {outer:List Env} {s:Shared} {H:Hp} (e:Kq P w K mg base A outer s H) (C:Addr) (us:List Value) (kw:List (Str×Value)):
  Kq P w K mg base (A.under (.builtin "type.__call__" ⟨.ref C:: us,kw⟩)) outer s H:=⟨by first | exact e.frames | (simpa [Around.under,Code.envs,Code.isFrame,pushEnvs] using e.frames),e.mod,e.bs,e.bsz,e.funs,e.frf,e.hok,e.bare⟩
section
variable {X:Cx} {pins:List (Addr×Obj)} {σ:St} {H:Hp} {s s':Shared}
theorem Inv.env0 (I:Inv X pins σ H s):Kq X.prog X.w X.K X.mg X.base X.A X.stack s H:=
 ⟨I.ok.frames,I.ok.mod,I.bs,Nat.le_trans I.ok.bsz I.sz,I.stack,I.stkFree,I.hok,I.bare⟩
theorem Inv.after {Q:VK} {u:Value} (I:Inv X pins σ H s) (h:CE X.stack X.prog X.w H s Q u s'):EP X pins σ Q u s':=by
 obtain⟨v,H',os,bare,un,hok,r,q⟩:=h
 obtain⟨hh,g,d,t,os'⟩:=s'
 obtain rfl:os'=s.os:=os
 exact⟨v,H',I.call (h':=hh) (g':=g) (d':=d) (t':=t) (ch:=[]) un hok bare (λb z=>absurd z (by simp)),r,q⟩
end
noncomputable def Jq (sp:Sp) (dvs:List V) (E:XK) (t:TA):TE:=λσ H Q=>t σ H λvs H1=>sp (vs ++ dvs) H1 Q E
inductive QS (C:Addr) (m:Str) (sp:Sp) (dvs:List V) (E:XK) (t:TA) (σ:St) (Q:VK) (x:V) (H1:Hp):Prop where
 | mk:∀a dx fs,x=.ref a->H1 a=some (.ins C dx fs)->fs.lookup m=none->(t σ H1 λvs H2=>sp (x:: (vs ++ dvs)) H2 Q E)->QS C m sp dvs E t σ Q x H1
noncomputable def Tg (C:Addr) (m:Str) (sp:Sp) (dvs:List V) (E:XK) (ta:TE) (t:TA):TE:=λσ H Q=>ta σ H λx H1=>QS C m sp dvs E t σ Q x H1
noncomputable def Xr (C:Addr) (sp:Sp) (dvs:List V) (E:XK) (t:TA):TE:=λσ H Q=>t σ H λvs H1=>∀x dx,H1 x=none->H1 dx=none->dx≠x->
 sp (.ref x:: (vs ++ dvs)) (upd (upd H1 dx (.own x)) x (.ins C dx [])) (λv H2=>v=.non/\Q (.ref x) H2) E
noncomputable def Binds (K:PySem.W.Frag) (fd:FuncData) (ps:List Str) (ds:List Value):Prop:=
 ∀(s:Shared) (us:List Value),K.In s.heap->(us ++ ds).length=ps.length->BindsTo s fd ⟨us,[]⟩ (ps.zip (us ++ ds))
theorem Binds.all {K:PySem.W.Frag} {fd:FuncData} {ps:List Str} (h:∀us:List Value,us.length=ps.length->bindArgs fd ⟨us,[]⟩=pure (ps.zip us)):Binds K fd ps []:=λs us _ hl=>by
 rw [List.append_nil] at hl ⊢
 exact .of_eq (h us hl)
noncomputable def kY (CX:DX) (X:Cx) (E:XK):Prop:=∀(pins:List (Addr×Obj)) (σ:St) (H:Hp) (s:Shared) (e:Value) (s':Shared),Inv X pins σ H s->CX X.stack H s E e s'->X.xe e s'
section
variable {X:Cx} {CX:DX} {k:Nat} {f C:Addr} {fd:FuncData} {ps:List Str} {sp:Sp} {dvs:List V} {ds:List Value} {E:XK} {x m:Str} {p pos apos:Pos} {e o:Expr} {es:List Expr} {ta:TE} {t:TA}
theorem Ht {pins:List (Addr×Obj)} {σ:St} {H:Hp} {s:Shared} {Q:VK} {us:List Value} {vs:List V} (F:jd X.prog X.w X.K X.mg X.base CX k f fd ps sp) (hr:ie k X.A) (hb:Binds X.K fd ps ds) (hd:Vals dvs ds) (hx:kY CX X E)
  (I:Inv X pins σ H s) (r:Vals vs us) (h:sp (vs ++ dvs) H Q E):wpAny (model X.prog X.w) X.A (call (.ref f) us) (EP X pins σ Q) X.xe s:=by
 have r2:Vals (vs ++ dvs) (us ++ ds):=r.append hd
 have hl:(us ++ ds).length=ps.length:=by rw [<-r2.length];exact F.len _ _ _ _ h
 refine wpAny_call (codeAny_mono (F.run X.A X.stack s H ⟨us,[]⟩ (us ++ ds) (vs ++ dvs) Q E hr I.env0 (hb s us I.kIn hl) r2 h) λr s' hq=>?_)
 cases r with
 | error e=>exact hx pins σ H s e s' I hq
 | ok fl=>
  cases fl with
  | ret u=>exact I.after hq
  | next=>exact False.elim hq
  | brk=>exact False.elim hq
  | cont=>exact False.elim hq
theorem iD (F:jd X.prog X.w X.K X.mg X.base CX k f fd ps sp) (hr:ie k X.A) (hg:Gl X x) (hm:X.mg x=some (.ref f)) (hk:PySem.W.keepIn X.K (.ref f)=true) (hb:Binds X.K fd ps ds) (hd:Vals dvs ds) (hx:kY CX X E)
  (ha:PA X (e:: es) t) (hdb:(x == ("__debug__" :Str))=false:=by decide) (he:starEach (e:: es) X.env=(false,eval e X.env):: starEach es X.env:=by rfl) (hpl:(backTo pos (starEach es X.env)).any (·.1)=false:=by rfl):
  PE X (.Call (.Name x p) (e:: es) [] pos) (Jq sp dvs E t):=by
 intro pins s σ H Q I h
 refine wpAny_Call_Name_kw (mL I hg hm ?_ hdb)
 refine PySem.W.callWith_K (h₀:=X.base) I.ok.mod.kin hk (dC (ha pos pins s σ H _ I h) λus s1 ⟨vs,H1,I1,r,q⟩=>⟨I1.kIn,?_⟩) he hpl
 exact Ht F hr hb hd hx I1 r q
theorem Ph (F:jd X.prog X.w X.K X.mg X.base CX k f fd ps sp) (hr:ie k X.A) (hg:Gl X x) (hm:X.mg x=some (.ref f)) (hk:PySem.W.keepIn X.K (.ref f)=true) (hb:Binds X.K fd ps ds) (hd:Vals dvs ds) (hx:kY CX X E)
  (hdb:(x == ("__debug__" :Str))=false:=by decide):PE X (.Call (.Name x p) [] [] pos) (Jq sp dvs E IV):=by
 intro pins s σ H Q I h
 refine wpAny_Call_Name_kw (mL I hg hm ?_ hdb)
 exact PySem.W.callWith_K0 I.kIn hk (Ht (us:=[]) F hr hb hd hx I .nil h)
theorem Nx {pl:Sem Bool} (he:PE X o ta) (c:QT X.K C) (hm:Meth X.K C m f) (F:jd X.prog X.w X.K X.mg X.base CX k f fd ps sp) (hr:ie k X.A) (hb:Binds X.K fd ps ds) (hd:Vals dvs ds) (hx:kY CX X E)
  (ht:eval (.Call (.Attribute o m apos) [] [] pos) X.env=(do
   let ov <-eval o X.env
   standAt apos.atName
   let (f,first) <-holding [ov] (getMethod ov m pl)
   callWith pos f first (backTo pos (starEach [] X.env)) (backToKw pos (keywordEach [] X.env))):=by rfl):
  PE X (.Call (.Attribute o m apos) [] [] pos) (Tg C m sp dvs E ta IV):=by
 intro pins s σ H Q I h
 refine PySem.W.methodCall_KW (pl:=pl) (dC (he pins s σ H _ I h) λu s1 hpt=>?_) ht
 obtain⟨x,H1,I1,rx,a,dx,fs,ex,ea,l,q⟩:=hpt
 subst ex
 obtain rfl:u=Value.ref a:=rx
 refine Bx I1 ea c hm l ?_
 exact PySem.W.callWith_K0 (first:=[.ref a]) I1.kIn hm.kp (Ht (us:=[.ref a]) (vs:=[.ref a]) F hr hb hd hx I1 (.cons rfl .nil) q)
structure Mk (K:PySem.W.Frag) (C f:Addr):Prop where
 makes:PySem.W.makesIn K C=true
 init:PySem.W.findIn K (.ref C) "__init__" =some (some (.ref f))
 fn:PySem.W.isFn K (.ref f)=true
 kp:PySem.W.keepIn K (.ref C)=true
theorem Qh {pins:List (Addr×Obj)} {σ:St} {H:Hp} {s:Shared} {Q:VK} {us:List Value} {vs:List V} (M:Mk X.K C f) (F:jd X.prog X.w X.K X.mg X.base CX k f fd ps sp) (hr:ie (k+1) X.A) (hb:Binds X.K fd ps ds) (hd:Vals dvs ds)
  (hx:kY CX X E) (I:Inv X pins σ H s) (r:Vals vs us)
  (h:∀x dx,H x=none->H dx=none->dx≠x->sp (.ref x:: (vs ++ dvs)) (upd (upd H dx (.own x)) x (.ins C dx [])) (λv H2=>v=.non/\Q (.ref x) H2) E):
  wpAny (model X.prog X.w) X.A (call (.ref C) us) (EP X pins σ Q) X.xe s:=by
 have hq:=h (s.heap.objs.size+1) s.heap.objs.size (I.hok.fresh (Nat.le_succ _)) (I.hok.fresh (Nat.le_refl _)) (Nat.ne_of_lt (Nat.lt_succ_self _))
 have I2:=Inv.made (C:=C) I
 have r2:Vals (V.ref (s.heap.objs.size+1):: (vs ++ dvs)) (Value.ref (s.heap.objs.size+1):: (us ++ ds)):=.cons rfl (r.append hd)
 have hl:(Value.ref (s.heap.objs.size+1):: us ++ ds).length=ps.length:=by
  have e:=r2.length
  rw [F.len _ _ _ _ hq] at e
  exact e.symm
 refine wpAny_call (Js (f:=f) I.kIn M.makes M.init (beq_iff_eq.mp M.fn) (codeAny_mono (F.run _ X.stack _ _ ⟨Value.ref (s.heap.objs.size+1):: us,[]⟩ (Value.ref (s.heap.objs.size+1):: (us ++ ds)) _ _ E (hr.make C us [])
  (I2.env0.make C us []) (hb _ (Value.ref (s.heap.objs.size+1):: us) I2.kIn hl) r2 hq) λr s' hq'=>?_))
 cases r with
 | error e=>exact hx pins σ _ _ e s' I2 hq'
 | ok fl=>
  cases fl with
  | ret u=>
   obtain⟨v,H',I3,rv,ev,q3⟩:=I2.after hq'
   subst ev
   exact⟨rv,⟨V.ref (s.heap.objs.size+1),H',I3,rfl,q3⟩⟩
  | next=>exact False.elim hq'
  | brk=>exact False.elim hq'
  | cont=>exact False.elim hq'
theorem iz (M:Mk X.K C f) (F:jd X.prog X.w X.K X.mg X.base CX k f fd ps sp) (hr:ie (k+1) X.A) (hg:Gl X x) (hm:X.mg x=some (.ref C)) (hb:Binds X.K fd ps ds) (hd:Vals dvs ds) (hx:kY CX X E)
  (ha:PA X (e:: es) t) (hdb:(x == ("__debug__" :Str))=false:=by decide) (he:starEach (e:: es) X.env=(false,eval e X.env):: starEach es X.env:=by rfl) (hpl:(backTo pos (starEach es X.env)).any (·.1)=false:=by rfl):
  PE X (.Call (.Name x p) (e:: es) [] pos) (Xr C sp dvs E t):=by
 intro pins s σ H Q I h
 refine wpAny_Call_Name_kw (mL I hg hm ?_ hdb)
 refine PySem.W.callWith_K (h₀:=X.base) I.ok.mod.kin M.kp (dC (ha pos pins s σ H _ I h) λus s1 ⟨vs,H1,I1,r,q⟩=>⟨I1.kIn,?_⟩) he hpl
 exact Qh M F hr hb hd hx I1 r q
end
section
variable {X:Cx} {CX:DX} {k:Nat} {f C:Addr} {fd:FuncData} {ps ks:List Str} {sp:Sp} {E:XK} {x m:Str} {p pos apos kpos:Pos} {e o:Expr} {es:List Expr} {kws:List Keyword} {te ta:TE} {t tk:TA} {nm:Option Str}
variable {g:List Value->List Value->List Value} {gV:List V->List V->List V}
end
structure fJ (N P:List Str) (sc:Scope):Prop where
 kind:sc.kind=.function
 co:sc.isCoroutine=false
 gen:sc.isGenerator=false
 nd:N.Nodup
 pre:N.take P.length=P
 par:∀x∈P,sc.names.lookup x=some .local∨sc.names.lookup x=some .cell
 nofree:∀y∈sc.names,y.2≠.free
theorem Ef {kindOf:Str->Option NameKind} {x:Str}:∀{binds:List (Str×Value)} {m:Str->Option Value},(∀v,(x,v)∉binds)->bindL kindOf binds m x=m x
 | [],_,_=>rfl
 | (n,v):: r,m,h=>by
  unfold bindL
  rw [Ef λw hw=>h w (List.mem_cons_of_mem _ hw)]
  split
  ·have:x≠n:=by rintro rfl;exact h v List.mem_cons_self
   simp [this]
  ·rfl
theorem FZ {kindOf:Str->Option NameKind} {x:Str}:∀{binds:List (Str×Value)} {m:Str->Option Value},(∀v,(x,v)∉binds)->bindC kindOf binds m x=m x
 | [],_,_=>rfl
 | (n,v):: r,m,h=>by
  unfold bindC
  rw [FZ λw hw=>h w (List.mem_cons_of_mem _ hw)]
  split
  ·rfl
  ·have:x≠n:=by rintro rfl;exact h v List.mem_cons_self
   simp [this]
theorem Ed {kindOf:Str->Option NameKind} {x:Str} {v:Value}:∀{P:List Str} {vs:List Value} {i:Nat} {m:Str->Option Value},P.Nodup->P[i]?=some x->vs[i]?=some v->kindOf x=some .local->
  bindL kindOf (P.zip vs) m x=some v
 | [],_,_,_,_,h,_,_=>by simp at h
 | _:: _,[],_,_,_,_,h,_=>by simp at h
 | p:: P,w:: vs,0,m,nd,h1,h2,hk=>by
  simp at h1 h2;subst h1;subst h2
  show bindL kindOf ((p,w):: P.zip vs) m p=_
  unfold bindL
  rw [Ef λv hv=>(List.nodup_cons.mp nd).1 (List.of_mem_zip hv).1,if_pos hk]
  simp
 | p:: P,w:: vs,i+1,m,nd,h1,h2,hk=>by
  show bindL kindOf ((p,w):: P.zip vs) m x=_
  unfold bindL
  exact Ed (i:=i) (List.nodup_cons.mp nd).2 (by simpa using h1) (by simpa using h2) hk
theorem Ep {kindOf:Str->Option NameKind} {x:Str} {v:Value}:∀{P:List Str} {vs:List Value} {i:Nat} {m:Str->Option Value},P.Nodup->P[i]?=some x->vs[i]?=some v->kindOf x≠some .local->
  bindC kindOf (P.zip vs) m x=some v
 | [],_,_,_,_,h,_,_=>by simp at h
 | _:: _,[],_,_,_,_,h,_=>by simp at h
 | p:: P,w:: vs,0,m,nd,h1,h2,hk=>by
  simp at h1 h2;subst h1;subst h2
  show bindC kindOf ((p,w):: P.zip vs) m p=_
  unfold bindC
  rw [FZ λv hv=>(List.nodup_cons.mp nd).1 (List.of_mem_zip hv).1,if_neg hk]
  simp
 | p:: P,w:: vs,i+1,m,nd,h1,h2,hk=>by
  show bindC kindOf ((p,w):: P.zip vs) m x=_
  unfold bindC
  exact Ep (i:=i) (List.nodup_cons.mp nd).2 (by simpa using h1) (by simpa using h2) hk
noncomputable def start (N:List Str) (vs:List V):St:=vs.map some ++ List.replicate (N.length - vs.length) none
noncomputable def ig (CX:DX) (P:Program) (w:World) (K:PySem.W.Frag) (mg:Str->Option Value) (base:Heap) (N:List Str) (qual:Str) (scope:Scope) (f:Addr) (cd:Value) (A:Around) (outer:List Env) (s:Shared) (H:Hp) (E:XK):Cx where
 prog:=P
 w:=w
 K:=K
 mg:=mg
 base:=base
 A:=A.deeper (envOfC qual scope s.heap.objs.size f cd)
 N:=N
 s₀:=s
 H₀:=H
 env:=envOfC qual scope s.heap.objs.size f cd
 outer:=outer
 stack:=envOfC qual scope s.heap.objs.size f cd:: outer
 ex:=[]
 calm:=true
 fn:=λ_=>true
 pn:=[]
 xe:=λe s'=>wpAny (model P w) (A.deeper (envOfC qual scope s.heap.objs.size f cd)) (leaving (envOfC qual scope s.heap.objs.size f cd) e) (λ_ s''=>CX outer H s E e s'') (λe' s''=>CX outer H s E e' s'') s'
theorem Iu {sc:Scope} {n:Nat} {x:Str} (h:sc.names.lookup x=some .cell):∃c,(cellsFrom n sc.names []).lookup x=some c:=by
 have q:=PySem.W.cellsFrom_some sc.names n [] (.inl h)
 exact Option.isSome_iff_exists.mp q
theorem Ms {CX:DX} {P:Program} {w:World} {K:PySem.W.Frag} {mg:Str->Option Value} {base:Heap} {N ps:List Str} {qual:Str} {scope:Scope} {f:Addr} {cd:Value} {A:Around} {outer:List Env} {s s1:Shared} {H:Hp} {E:XK} {us:List Value} {vs:List V}
  (S:fJ N ps scope) (hd:A.handled=none) (e0:Kq P w K mg base A outer s H) (hl:vs.length=ps.length) (r:Vals vs us)
  (x:InCallC s s.heap.objs.size (bindL (envOfC qual scope s.heap.objs.size f cd).kindOf (ps.zip us) λ_=>none) (cellsFrom (s.heap.objs.size+1) scope.names []) (bindC (envOfC qual scope s.heap.objs.size f cd).kindOf (ps.zip us) λ_=>none) s1):
  Inv (ig CX P w K mg base N qual scope f cd A outer s H E) [] (start N vs) H s1:=by
 have hpl:ps.length<=N.length:=by have:=congrArg List.length S.pre;rw [List.length_take] at this;lia
 obtain⟨h1,tk,rfl,hk⟩:=x.done
 have noA:∀b:Addr,b∉(ig CX P w K mg base N qual scope f cd A outer s H E).ex:=λb z=>absurd (show b∈([]:List Addr) from z) (by simp)
 refine⟨⟨e0.mod,S.kind,rfl,rfl,Nat.le_refl _,λy z c h1 h2=>?_,λy hy=>?_,λy c _ h=>?_,λ_=>hd,Around.frames_deeper e0.frames,.inr ⟨rfl,rfl⟩,λb z=>absurd z (noA b),e0.bs,e0.bsz,λb _ _=>noA b,λb z=>absurd z (noA b),e0.funs,e0.frf⟩,
  rfl,e0.bare,Un.kept hk,⟨_,x.toInCall.ns,λi y v h1 h2 h3=>?_⟩,λy c h=>⟨_,x.cell y c h⟩,e0.hok.fresh (Nat.le_refl _),λy c h=>?_,λp hp=>absurd (show p∈([]:List (Addr×Obj)) from hp) (by simp),e0.hok.kept hk,?_⟩
 ·exact name_of_addr x.apart (PySem.mem_of_lookup h1) (PySem.mem_of_lookup h2)
 ·have hy:scope.names.lookup y=some .cell∨scope.names.lookup y=some .free:=hy
  rcases hy with hy | hy
  ·exact Iu hy
  ·exact absurd rfl (S.nofree _ (PySem.mem_of_lookup hy))
 ·exact Nat.le_of_lt (x.above y c (PySem.mem_of_lookup h))
 ·have hi:i <vs.length:=by
   unfold start at h2
   by_cases hi:i <vs.length
   ·exact hi
   ·rw [List.getElem?_append_right (by simpa using hi)] at h2
    rw [List.getElem?_replicate] at h2
    split at h2 <;> cases h2
  have ha:vs[i]?=some v:=by
   unfold start at h2
   rw [List.getElem?_append_left (by simpa using hi),List.getElem?_map] at h2
   cases e:vs[i]? with
   | none=>rw [e] at h2;cases h2
   | some a=>rw [e] at h2;cases h2;rfl
  obtain⟨u,hu,rv⟩:=r.get ha
  have hp:ps[i]?=some y:=by
   rw [<-S.pre,List.getElem?_take_of_lt (by lia)];exact h1
  have ndP:ps.Nodup:=by rw [<-S.pre];exact S.nd.sublist (List.take_sublist _ _)
  refine⟨u,rv,?_⟩
  rcases S.par y (List.mem_of_getElem? hp) with k | k
  ·exact .inl ⟨k,Ed ndP hp hu k⟩
  ·obtain⟨c,e⟩:=Iu (n:=s.heap.objs.size+1) k
   refine .inr ⟨.inl k,c,e,?_⟩
   have q:=x.cell y c e
   rw [Ep ndP hp hu (by show scope.names.lookup y≠_;rw [k];decide)] at q
   exact q
 ·exact e0.hok.fresh (Nat.le_of_lt (x.above y c (PySem.mem_of_lookup h)))
 ·unfold start
  show _=N.length
  rw [List.length_append,List.length_map,List.length_replicate]
  lia
theorem Tz {CX:DX} {P:Program} {w:World} {K:PySem.W.Frag} {mg:Str->Option Value} {base:Heap} {k:Nat} {f:Addr} {name qual:Str} {params:Arguments} {body:List Stmt} {scope:Scope} {dV kV doc pm cdv ct oc:Value} {an od:Option Addr}
  {osl:Array (Option Value)} {N ps:List Str} {sp:Sp} (lk:K.lookup f=some ⟨oc,od,.func (PySem.W.fnOf name qual params body scope dV kV doc pm an cdv ct),osl⟩) (hcd:PySem.W.codeIn K cdv qual=true) (S:fJ N ps scope)
  (len:∀vs H Q E,sp vs H Q E->vs.length=ps.length)
  (hbody:∀(A:Around) (outer:List Env) (s:Shared) (H:Hp) (vs:List V) (Q:VK) (E:XK),ie k (A.deeper (envOfC qual scope s.heap.objs.size f cdv))->sp vs H Q E->
   ∃t,Fg (ig CX P w K mg base N qual scope f cdv A outer s H E) body t/\t { nx:=λ_ H'=>Q .non H',rt:=Q } (start N vs) H):
  jd P w K mg base CX (k+1) f (PySem.W.fnOf name qual params body scope dV kV doc pm an cdv ct) ps sp:=by
 refine⟨len,λA outer s H args us vs Q E hr e0 hb r hsp=>?_⟩
 have hl:=len _ _ _ _ hsp
 have KX:K.In s.heap:=e0.mod.kin.keeps λb o e=>(e0.bs b o e).1
 have lim:s.heap.NoLimit:=e0.mod.nolimit.keeps λb o e=>(e0.bs b o e).1
 have hkind:∀y∈ps.zip us,scope.names.lookup y.1=some .local∨(scope.names.lookup y.1=some .cell/\((cellsFrom (s.heap.objs.size+1) scope.names []).lookup y.1).isSome=true):=λ⟨n,v⟩ hy=>by
  rcases S.par n (List.of_mem_zip hy).1 with q | q
  ·exact .inl q
  ·exact .inr ⟨q,PySem.W.cellsFrom_some _ _ _ (.inl q)⟩
 refine codeAny_call_function hr.depth (KX _ _ lk) rfl S.co S.gen rfl (PySem.W.codeRec_of KX hcd) (hb _ _ _ _ ?_)
 refine wpAny_newFunctionEnv_cells S.kind hkind λenv he s1 x=>?_
 subst he
 refine⟨lim.keeps x.toInCall.keep,codeAny_func ?_⟩
 obtain⟨t,ht,hq⟩:=hbody A outer s H vs Q E (hr.deeper _) hsp
 have I:Inv (ig CX P w K mg base N qual scope f cdv A outer s H E) [] (start N vs) H s1:=Ms S hr.hd e0 hl r x
 refine wpAny_mono (ht [] s1 (start N vs) H _ I hq) (λfl s' hs=>?_) λe s' hs=>hs
 have fin:∀{σ':St} {H':Hp} {v:V} {u:Value},Inv (ig CX P w K mg base N qual scope f cdv A outer s H E) [] σ' H' s'->RelV v u->Q v H'->CE outer P w H s Q u s':=
  λ{σ' H' v u} J rv q=>⟨v,H',J.os,J.bare,J.base,J.hok,rv,q⟩
 cases fl with
 | ret u=>
  obtain⟨v,σ',H',J,rv,q⟩:=hs
  exact fin J rv q
 | next=>
  obtain⟨σ',H',J,q⟩:=hs
  exact fin (v:=V.non) (u:=Value.none) J rfl q
 | brk=>
  obtain⟨_,_,_,q⟩:=hs
  exact False.elim q
 | cont=>
  obtain⟨_,_,_,q⟩:=hs
  exact False.elim q
section
variable {X:Cx} {x:Str} {p pos:Pos} {e:Expr} {es:List Expr} {t:TA} {id T:String} {r:List V->Hp->VK->Prop}
noncomputable def YZ (r:List V->Hp->VK->Prop) (t:TA):TE:=λσ H Q=>t σ H λvs H1=>r vs H1 Q
theorem bj (hc:mQ X (.builtin id) r) (hg:Gl X x) (hm:X.mg x=none) (hv:bootBuiltins x=some (.builtin id)) (ha:PA X (e:: es) t) (hn:x≠ "__name__" :=by decide) (hdb:(x == ("__debug__" :Str))=false:=by decide)
  (he:starEach (e:: es) X.env=(false,eval e X.env):: starEach es X.env:=by rfl) (hpl:(backTo pos (starEach es X.env)).any (·.1)=false:=by rfl):PE X (.Call (.Name x p) (e:: es) [] pos) (YZ r t):=by
 intro pins s σ H Q I h
 refine wpAny_Call_Name_kw (G9 I hg hm hv ?_ hn hdb)
 exact PyProof.Rows.callWith_builtin1 (dC (ha pos pins s σ H _ I h) λus s1 ⟨vs,H1,I1,r1,q1⟩=>hc pins s1 σ H1 vs us Q I1 r1 q1) he hpl
theorem bV (hc:mQ X (.type T) r) (hg:Gl X x) (hm:X.mg x=none) (hv:bootBuiltins x=some (.type T)) (ha:PA X (e:: es) t) (hn:x≠ "__name__" :=by decide) (hdb:(x == ("__debug__" :Str))=false:=by decide)
  (he:starEach (e:: es) X.env=(false,eval e X.env):: starEach es X.env:=by rfl) (hpl:(backTo pos (starEach es X.env)).any (·.1)=false:=by rfl):PE X (.Call (.Name x p) (e:: es) [] pos) (YZ r t):=by
 intro pins s σ H Q I h
 refine wpAny_Call_Name_kw (G9 I hg hm hv ?_ hn hdb)
 exact PyProof.Rows.callWith_type1 (dC (ha pos pins s σ H _ I h) λus s1 ⟨vs,H1,I1,r1,q1⟩=>hc pins s1 σ H1 vs us Q I1 r1 q1) he hpl
end
end L2
namespace HT
open PySem PyProof.Rows
section
open PySem.SeqAt
open PySem.AutoSeq1 (wpAny_loadPart')
open PySem.MeetsSeq PySem.MeetsSeq2 PySem.MeetsSeq3
end
section
variable {prog:Program} {w:World} {A:Around} {E:Value->Shared->Prop} {s:Shared}
noncomputable def jB (n d:Nat):Option Int->Nat
 | none=>d
 | some v=>if v <0 then(v+(n:Int)).toNat else min v.toNat n
theorem Ji (n d:Nat):jB n d none=d:=rfl
theorem Lh (n d k:Nat):jB n d (some (k:Int))=min k n:=by
 show(if (k:Int) <0 then((k:Int)+(n:Int)).toNat else min (k:Int).toNat n)=min k n
 rw [if_neg (by lia),Int.toNat_natCast]
theorem VL (n d:Nat) (hd:d<=n) (o:Option Int):jB n d o<=n:=by
 cases o with
 | none=>exact hd
 | some v=>
  show(if v <0 then(v+(n:Int)).toNat else min v.toNat n)<=n
  by_cases hv:v <0
  ·rw [if_pos hv];lia
  ·rw [if_neg hv];exact Nat.min_le_right _ _
theorem Mh (v:Int) (n d:Nat):(if v <0 then max (v+(n:Int)) 0 else min v (n:Int))=((jB n d (some v):Nat):Int):=by
 show(if v <0 then max (v+(n:Int)) 0 else min v (n:Int))=(((if v <0 then(v+(n:Int)).toNat else min v.toNat n):Nat):Int)
 by_cases hv:v <0
 ·simp only [if_pos hv];lia
 ·simp only [if_neg hv];lia
theorem Ka (lo hi:Option Int) (n:Nat):Builtin.Slice.sliceAdjust lo hi 1 (n:Int)=(((jB n 0 lo:Nat):Int),((jB n n hi:Nat):Int)):=by
 have h1:¬((1:Int) <0):=by lia
 unfold Builtin.Slice.sliceAdjust
 simp only [h1,if_false]
 refine Prod.ext ?_ ?_
 ·cases lo with
  | none=>rfl
  | some v=>exact Mh v n 0
 ·cases hi with
  | none=>rfl
  | some v=>exact Mh v n n
theorem J5 (i j:Nat):Builtin.Slice.slicePlaces (i:Int) (j:Int) 1=j - i:=by
 unfold Builtin.Slice.slicePlaces
 have h1:(1:Int) >0:=by lia
 simp only [h1,if_true,Int.ediv_one]
 split <;> lia
theorem Dg {v:Value} {o:Option Int} {Q:Option Int->Shared->Prop} (p:IsPart v o) (h:Q o s):wpAny (model prog w) A (Builtin.Slice.slicePartIndex v) Q E s:=by
 cases p with
 | none=>exact slicePart_none h
 | int i t=>exact slicePart_int h
theorem yV {sl:Addr} {vl vu:Value} {lo hi:Option Int} {n:Nat} {Q:Int×Int×Nat->Shared->Prop} (hs:s.heap.IsSliceOf sl vl vu .none) (pl:IsPart vl lo) (pu:IsPart vu hi)
  (h:Q (((jB n 0 lo:Nat):Int),1,jB n n hi - jB n 0 lo) s):wpAny (model prog w) A (Builtin.Slice.sliceApplied (.ref sl) (pure (n:Int))) Q E s:=by
 obtain⟨os,hos,hcs,hds⟩:=id hs
 unfold Builtin.Slice.sliceApplied Builtin.Slice.sliceFields
 refine wpAny_bind (wpAny_bind (wpAny_field hos hds (x:=vl) rfl (wpAny_bind (wpAny_field hos hds (x:=vu) rfl (wpAny_bind (wpAny_field hos hds (x:=.none) rfl (wpAny_pure ?_)))))))
 refine wpAny_bind (slicePart_none ?_)
 show wpAny _ _ (if ((1:Int) == 0)=true then _ else _) _ _ s
 rw [if_neg (by decide)]
 refine wpAny_bind (Dg pl (wpAny_bind (Dg pu (wpAny_bind (wpAny_pure ?_)))))
 show wpAny _ _ (match Builtin.Slice.sliceAdjust lo hi 1 (n:Int) with | (lo,hi)=>pure (lo,(1:Int),Builtin.Slice.slicePlaces lo hi 1)) _ _ s
 rw [Ka lo hi n]
 show wpAny _ _ (pure (((jB n 0 lo:Nat):Int),(1:Int),Builtin.Slice.slicePlaces ((jB n 0 lo:Nat):Int) ((jB n n hi:Nat):Int) 1)) _ _ s
 rw [J5]
 exact wpAny_pure h
theorem Qi (xs:Array Value) (i k:Nat):((List.range k).filterMap fun(m:Nat)=>xs[((i:Int)+(m:Int) * 1).toNat]?).toArray=((xs.toList.drop i).take k).toArray:=by
 have e:(fun(m:Nat)=>xs[((i:Int)+(m:Int) * 1).toNat]?)=λm=>xs[i+m]?:=by
  funext m
  have:((i:Int)+(m:Int) * 1).toNat=i+m:=by lia
  rw [this]
 rw [e]
 have:=pick_run xs i k
 rw [List.filterMap_map] at this
 have e2:((λx=>xs[x]?)∘λx=>i+x)=λm=>xs[i+m]?:=rfl
 rw [e2] at this
 rw [this]
theorem wG {t sl:Addr} {items:Array Value} {vl vu:Value} {lo hi:Option Int} {Q:Value->Shared->Prop} (ht:IsTup s.heap t items) (hs:s.heap.IsSliceOf sl vl vu .none) (pl:IsPart vl lo) (pu:IsPart vu hi)
  (hw:¬(jB items.size 0 lo=0/\jB items.size items.size hi=items.size))
  (h:Q (.ref s.heap.objs.size) { s with heap:=s.heap.push { cls:=.type "tuple",data:=.seq ((items.toList.drop (jB items.size 0 lo)).take (jB items.size items.size hi - jB items.size 0 lo)).toArray } })
  (hsz:items.size<=sizeLine):wpAny (model prog w) A (getItem (.ref t) (.ref sl)) Q E s:=by
 have htake:sizeOk (.seq ((items.toList.drop (jB items.size 0 lo)).take (jB items.size items.size hi - jB items.size 0 lo)).toArray):=by
  show((items.toList.drop (jB items.size 0 lo)).take (jB items.size items.size hi - jB items.size 0 lo)).toArray.size<=sizeLine
  rw [List.size_toArray,List.length_take,List.length_drop,Array.length_toList]
  lia
 have hj:jB items.size items.size hi<=items.size:=VL _ _ (Nat.le_refl _) hi
 obtain⟨os,hos,hcs,hds⟩:=id hs
 have hTs:s.TypeIs (.ref sl) "slice" :=⟨os,hos,hcs⟩
 unfold getItem
 try with_reducible refine wpAny_holding ?_
 first | refine wpAny_bind (wpAny_pure ?_) | skip
 refine wpAny_bind (wpAny_sequenceKey ht.typeIs (by decide) ?_)
 refine wpAny_bind (wpAny_callSpecial?_slot (name:=Str.ofString "__getitem__") ht.typeIs PyProof.Rows.slot_tuple_getitem
  (wpAny_call_entry PyProof.Rows.slot_tuple_getitem ht.typeIs entry_tuple_getitem ?_ (args_tuple_getitem _ _)))
 show wpAny _ _ (Builtin.Tuple.tupleItemsOf (.ref t) >>= _) _ _ s
 refine wpAny_bind (tupleItemsOf_ ht ?_)
 refine wpAny_bind (wpAny_typeOf hTs ?_)
 rw [if_pos (by decide)]
 refine wpAny_bind (yV hs pl pu ?_)
 have hno:¬((((jB items.size 0 lo:Nat):Int) == 0 && (1:Int) == 1 && (jB items.size items.size hi - jB items.size 0 lo) == items.size)=true):=by
  intro q
  rw [Bool.and_eq_true,Bool.and_eq_true] at q
  have q1:((jB items.size 0 lo:Nat):Int)=0:=eq_of_beq q.1.1
  have q2:jB items.size items.size hi - jB items.size 0 lo=items.size:=eq_of_beq q.2
  exact hw ⟨by lia,by lia⟩
 show wpAny _ _ (if (((jB items.size 0 lo:Nat):Int) == 0 && (1:Int) == 1 && (jB items.size items.size hi - jB items.size 0 lo) == items.size)=true then _ else _) _ _ s
 rw [if_neg hno,Qi]
 first
  | exact wpAny_bind (m:=Builtin.Tuple.tupleExact _) (wpAny_newObj_type (wpAny_pure ⟨_,rfl,wpAny_pure h⟩) htake)
  | exact wpAny_bind (m:=Builtin.Tuple.tupleExact _) (wpAny_newObj_type (wpAny_bind (wpAny_pure (wpAny_pure ⟨_,rfl,wpAny_pure h⟩))) htake)
  | exact wpAny_bind (wpAny_bind (m:=Builtin.Tuple.tupleExact _) (wpAny_newObj_type (wpAny_pure (wpAny_pure ⟨_,rfl,wpAny_pure h⟩)) htake))
  | exact wpAny_bind (wpAny_bind (m:=Builtin.Tuple.tupleExact _) (wpAny_newObj_type (wpAny_pure ⟨_,rfl,wpAny_pure h⟩) htake))
end
end HT
namespace L2
open PySem PySem.Spec PyProof.Rows
noncomputable abbrev TO:=St->Hp->(Option Int->Hp->Prop)->Prop
noncomputable def PO (X:Cx) (e:Option Expr) (t:TO):Prop:=
 ∀(pins:List (Addr×Obj)) (s:Shared) (σ:St) (H:Hp) (Q:Option Int->Hp->Prop),Inv X pins σ H s->t σ H Q->
  wpAny (model X.prog X.w) X.A (evalPart e X.env) (λu s'=>∃o H',Inv X pins σ H' s'/\IsPart u o/\Q o H') X.xe s
noncomputable def RZ:TO:=λ_ H Q=>Q none H
inductive OD (Q:Option Int->Hp->Prop) (x:V) (H1:Hp):Prop where
 | mk:∀i,x=.int i->Q (some i) H1->OD Q x H1
noncomputable def Xf (t:TE):TO:=λσ H Q=>t σ H λx H1=>OD Q x H1
section
variable {X:Cx} {e:Expr} {te:TE} {lo hi:Option Expr} {tl th:TO} {pos p2:Pos}
theorem wO:PO X none RZ:=by
 intro pins s σ H Q I h
 rw [evalPart_none]
 exact wpAny_pure ⟨none,H,I,.none,h⟩
theorem w5 (h:PE X e te):PO X (some e) (Xf te):=by
 intro pins s σ H Q I hw
 rw [evalPart_some]
 refine dC (h pins s σ H _ I hw) λu s1 hpt=>?_
 obtain⟨x,H1,I1,r1,q1⟩:=hpt
 obtain⟨i,rfl,q⟩:=q1
 obtain⟨t,rfl⟩:=r1
 exact⟨some i,H1,I1,.int i t,q⟩
noncomputable def W3 (X:Cx) (r:V->Option Int->Option Int->Hp->VK->Prop):Prop:=
 ∀(pins:List (Addr×Obj)) (s:Shared) (σ:St) (H:Hp) (x:V) (v vl vu:Value) (lo hi:Option Int) (sl:Addr) (Q:VK),Inv X pins σ H s->RelV x v->s.heap.IsSliceOf sl vl vu .none->IsPart vl lo->IsPart vu hi->r x lo hi H Q->
  ∃T id,typeLookup (.type T) "__getitem__" =pure (some (.builtin id))/\s.TypeIs v T/\wpAny (model X.prog X.w) X.A (getItem v (.ref sl)) (EP X pins σ Q) X.xe s
noncomputable def tSl (r:V->Option Int->Option Int->Hp->VK->Prop) (te:TE) (tl th:TO):TE:=λσ H Q=>te σ H λx H1=>tl σ H1 λl H2=>th σ H2 λu H3=>r x l u H3 Q
theorem sV {r:V->Option Int->Option Int->Hp->VK->Prop} (hr:W3 X r) (he:PE X e te) (hl:PO X lo tl) (hu:PO X hi th):PE X (.Subscript e (.Slice lo hi none p2) pos) (tSl r te tl th):=by
 intro pins s σ H Q I h
 refine Subscript_ (dC (he pins s σ H _ I h) λv s1 hpt=>?_)
 obtain⟨x,H1,I1,r1,q1⟩:=hpt
 refine wpAny_Slice (dC (hl pins s1 σ H1 _ I1 q1) λvl s2 ⟨l,H2,I2,pl,q2⟩=>dC (hu pins s2 σ H2 _ I2 q2) λvu s3 hpt=>?_)
 obtain⟨u,H3,I3,pu,q3⟩:=hpt
 rw [evalPart_none]
 refine wpAny_pure ?_
 have I4:Inv X pins σ H3 { s3 with heap:=s3.heap.push { cls:=.type "slice",data:=.fields #[vl,vu,.none] } }:=I3.kept (t':=s3.toks) λb ob q=>Heap.get?_push_of_some _ q
 obtain⟨T,id,hT,ht,hg⟩:=hr pins { s3 with heap:=s3.heap.push { cls:=.type "slice",data:=.fields #[vl,vu,.none] } } σ H3 x v vl vu l u s3.heap.objs.size Q I4 r1 (Heap.IsSliceOf.new ..) pl pu q3
 show wpAny (model X.prog X.w) X.A (subscriptTail e (.Slice lo hi none p2) v (.ref s3.heap.objs.size)) (EP X pins σ Q) X.xe { s3 with heap:=s3.heap.push { cls:=.type "slice",data:=.fields #[vl,vu,.none] } }
 exact tail_any (ops:=[.ref s3.heap.objs.size,v]) ht hT hg (by with_unfolding_all rfl)
noncomputable def Bq (xs:List V) (lo hi:Option Int):List V:=(xs.drop (HT.jB xs.length 0 lo)).take (HT.jB xs.length xs.length hi - HT.jB xs.length 0 lo)
theorem zq (xs:List V) (lo hi:Option Int):(Bq xs lo hi).length<=xs.length:=by
 unfold Bq
 rw [List.length_take,List.length_drop]
 lia
inductive Ue (K:PySem.W.Frag) (x:V) (lo:Option Int) (hi:Option Int) (H:Hp) (Q:VK):Prop where
 | mk:∀a xs,x=.ref a->d7 K H a xs->(¬(HT.jB xs.length 0 lo=0/\HT.jB xs.length xs.length hi=xs.length))->(∀p,H p=none->Q (.ref p) (upd H p (.tup (Bq xs lo hi))))->Ue K x lo hi H Q
noncomputable def Wl (K:PySem.W.Frag):V->Option Int->Option Int->Hp->VK->Prop:=λx lo hi H Q=>Ue K x lo hi H Q
theorem Vl:W3 X (Wl X.K):=by
 intro pins s σ H x v vl vu lo hi sl Q I rx hs pl pu h
 obtain⟨a,xs,rfl,hx,hw,q⟩:=h
 cases rx
 obtain⟨its,r,ht,hz⟩:=I.tuple hx
 have hlen:its.toArray.size=xs.length:=by rw [List.size_toArray];exact r.length.symm
 refine⟨"tuple",_,PyProof.Rows.slot_tuple_getitem.lookup,ht.typeIs,?_⟩
 refine HT.wG ht hs pl pu (by rw [hlen];exact hw) ?_ (by rw [hlen];exact hz)
 rw [hlen]
 refine⟨.ref s.heap.objs.size,_,I.laid (t':=s.toks) (o:=.tup (Bq xs lo hi)) (λb ob q=>Heap.get?_push_of_some _ q) (Nat.le_refl _) ?_,rfl,q _ (I.hok.fresh (Nat.le_refl _))⟩
 exact⟨Nat.le_trans (zq xs lo hi) hz,_,(r.drop (HT.jB xs.length 0 lo)).take (HT.jB xs.length xs.length hi - HT.jB xs.length 0 lo),IsTup.new _ _⟩
end
noncomputable def Rz (n:Nat) (i:Int):Option Nat:=if 0<=i then(if i <n then some i.toNat else none) else if -(n:Int)<=i then some (i+n).toNat else none
noncomputable def DW {α:Type} (xs:List α) (i:Int):Option α:=(Rz xs.length i).bind λj=>xs[j]?
theorem K5 {n:Nat} {i:Int} {j:Nat} (h:Rz n i=some j):seqIndex? i n=some j/\j <n/\ -(n:Int)<=i/\i <n:=by
 unfold Rz at h
 by_cases h0:0<=i
 ·rw [if_pos h0] at h
  by_cases h1:i <n
  ·rw [if_pos h1] at h
   have e:i.toNat=j:=Option.some.inj h
   exact⟨by rw [seqIndex_of h0 h1,e],by lia,by lia,h1⟩
  ·rw [if_neg h1] at h;cases h
 ·rw [if_neg h0] at h
  by_cases h1: -(n:Int)<=i
  ·rw [if_pos h1] at h
   have e:(i+n).toNat=j:=Option.some.inj h
   exact⟨by rw [seqIndex_neg (by lia) h1,e],by lia,h1,by lia⟩
  ·rw [if_neg h1] at h;cases h
theorem G5 {α:Type} {xs:List α} {i:Int} {v:α} (h:DW xs i=some v):∃j,seqIndex? i xs.length=some j/\xs[j]?=some v/\j <xs.length/\ -(xs.length:Int)<=i/\i <xs.length:=by
 unfold DW at h
 cases e:Rz xs.length i with
 | none=>rw [e] at h;cases h
 | some j=>
  rw [e] at h
  obtain⟨h1,h2,h3,h4⟩:=K5 e
  exact⟨j,h1,h,h2,h3,h4⟩
theorem aH {α:Type} {xs:List α} {j:Nat} {v:α} (h:xs[j]?=some v):DW xs (j:Int)=some v:=by
 have hj:j <xs.length:=(List.getElem?_eq_some_iff.mp h).1
 have e:Rz xs.length (j:Int)=some j:=by
  unfold Rz
  rw [if_pos (by lia),if_pos (by lia)];simp
 unfold DW;rw [e];exact h
noncomputable def K9 (b:Expr):Prop:=∀o i,subscripted b false o i=operate [o,i] (getItem o i)
noncomputable def Uv (X:Cx) (r:R2):Prop:=
 ∀(value slice:Expr) (pins:List (Addr×Obj)) (s:Shared) (σ:St) (H:Hp) (x y:V) (v u:Value) (Q:VK),Inv X pins σ H s->RelV x v->RelV y u->r x y H Q->
  subscripted slice false v u=operate [v,u] (getItem v u)->wpAny (model X.prog X.w) X.A (subscriptTail value slice v u) (EP X pins σ Q) X.xe s
noncomputable def X8 (X:Cx) (id:String) (r:V->List V->Hp->VK->Prop):Prop:=
 ∀(pins:List (Addr×Obj)) (s:Shared) (σ:St) (H:Hp) (x:V) (xs:List V) (v:Value) (us:List Value) (Q:VK),Inv X pins σ H s->RelV x v->Vals xs us->r x xs H Q->
  wpAny (model X.prog X.w) X.A (call (.builtin id) (v:: us)) (EP X pins σ Q) X.xe s
section
variable {X:Cx} {a b:Expr} {ta tb:TE} {pos:Pos}
theorem aZ {r:R2} (hr:Uv X r) (ha:PE X a ta) (hb:PE X b tb) (hs:K9 b):PE X (.Subscript a b pos) (V4 r ta tb):=by
 intro pins s σ H Q I h
 exact Subscript_ (V1 ha hb I h λv u s2 x y H2 I2 rx ry q=>hr a b pins s2 σ H2 x y v u Q I2 rx ry q (hs _ _))
inductive Ug (K:PySem.W.Frag) (x:V) (y:V) (H:Hp) (Q:VK):Prop where
 | mk:∀p xs i v,x=.ref p->y=.int i->bH K H p xs->DW xs i=some v->Q v H->Ug K x y H Q
noncomputable def WL (K:PySem.W.Frag):R2:=λx y H Q=>Ug K x y H Q
inductive Tt (K:PySem.W.Frag) (x:V) (y:V) (H:Hp) (Q:VK):Prop where
 | mk:∀p xs i v,x=.ref p->y=.int i->d7 K H p xs->DW xs i=some v->Q v H->Tt K x y H Q
noncomputable def WX (K:PySem.W.Frag):R2:=λx y H Q=>Tt K x y H Q
inductive Ud (x:V) (y:V) (H:Hp) (Q:VK):Prop where
 | mk:∀z i c,x=.str z->y=.int i->z.length<=sizeLine->DW z.cps.toList i=some c->Q (.str ⟨#[c]⟩) H->Ud x y H Q
noncomputable def Ym:R2:=λx y H Q=>Ud x y H Q
theorem aU:Uv X (WL X.K):=by
 intro value slice pins s σ H x y v u Q I rx ry h hs
 obtain⟨p,xs,i,z,rfl,rfl,hq,he,q⟩:=h
 cases rx
 obtain⟨t,rfl⟩:=ry
 obtain⟨its,r,pl,hz⟩:=I.list hq
 obtain⟨j,h1,h2,h3,h4,h5⟩:=G5 he
 obtain⟨w,ew,rw'⟩:=r.get h2
 have hl:=r.length
 have hn:=yC
 have fin:EP X pins σ Q w s:=⟨z,H,I,rw',q⟩
 by_cases h0:0<=i
 ·have hj:i.toNat=j:=by
   rw [seqIndex_of h0 h5] at h1
   exact Option.some.inj h1
  exact item_listR pl.isList h0 (by lia) (by rw [hj];simpa using ew) fin hs
 ·have hj:(i+(its.toArray.size:Int)).toNat=j:=by
   rw [seqIndex_neg (by lia) h4] at h1
   rw [List.size_toArray,<-hl]
   exact Option.some.inj h1
  exact subscriptTail_builtinR (x:=w) pl.isList.typeIs slot_list_getitem.lookup
   (wpAny_getItem_list_neg (Q:=λr s'=>r=w/\EP X pins σ Q r s') pl.isList (by lia) (by rw [List.size_toArray] <;> lia) (by lia) (by rw [hj];simpa using ew) ⟨rfl,fin⟩) hs
theorem dM:Uv X (WX X.K):=by
 intro value slice pins s σ H x y v u Q I rx ry h hs
 obtain⟨p,xs,i,z,rfl,rfl,hq,he,q⟩:=h
 cases rx
 obtain⟨t,rfl⟩:=ry
 obtain⟨its,r,pl,hz⟩:=I.tuple hq
 obtain⟨j,h1,h2,h3,h4,h5⟩:=G5 he
 obtain⟨w,ew,rw'⟩:=r.get h2
 have hl:=r.length
 have hn:=yC
 have fin:EP X pins σ Q w s:=⟨z,H,I,rw',q⟩
 exact subscriptTail_builtinR (x:=w) pl.typeIs slot_tuple_getitem.lookup
  (getItem_tuple (j:=j) (Q:=λr s'=>r=w/\EP X pins σ Q r s') pl (by lia) (by lia) (by rw [List.size_toArray,<-hl];exact h1) (by simpa using ew) ⟨rfl,fin⟩) hs
theorem An:Uv X Ym:=by
 intro value slice pins s σ H x y v u Q I rx ry h hs
 obtain⟨z,i,c,rfl,rfl,hz,he,q⟩:=h
 obtain⟨t,rfl⟩:=rx
 obtain⟨t',rfl⟩:=ry
 obtain⟨j,h1,h2,h3,h4,h5⟩:=G5 he
 have hl:z.cps.toList.length=z.length:=by simp [Str.length]
 rw [hl] at h1 h4 h5
 have hn:=yC
 exact tail_any (typeIs_str s z t) slot_str_getitem.lookup (getItem_str (c:=c) (by
  have e1:decide (i < -(2 ^ 63:Int))=false:=decide_eq_false (by lia)
  have e2:decide (i≥2 ^ 63)=false:=decide_eq_false (by lia)
  rw [e1,e2,Bool.or_false]) (by rw [h1];simpa using h2) ⟨.str ⟨#[c]⟩,H,I.tok _,⟨_,rfl⟩,q⟩) hs
theorem Ks (its:List Value) (n j:Nat) (u:Value):Obj.mapSeq (·.setIfInBounds j u) { cls:=.type "list",data:=.seq its.toArray n }={ cls:=.type "list",data:=.seq (its.set j u).toArray n }:=by
 simp [Obj.mapSeq]
theorem Inv.lst {pins:List (Addr×Obj)} {σ:St} {H:Hp} {s:Shared} {p:Addr} {xs:List V} (I:Inv X pins σ H s) (h:H p=some (.lst xs)):
  ∃(its:List Value) (n:Nat),Vals xs its/\s.heap.get? p=some { cls:=.type "list",data:=.seq its.toArray n }/\xs.length<=sizeLine:=by
 obtain⟨z,its,n,r,e⟩:=I.hok p _ h
 exact⟨its,n,r,e,z⟩
theorem Inv.lstUpd {pins:List (Addr×Obj)} {σ:St} {H:Hp} {s:Shared} {p:Addr} {xs ys:List V} {its its':List Value} {n n':Nat} {f:Obj->Obj} (I:Inv X pins σ H s) (h:H p=some (.lst xs))
  (ho:s.heap.get? p=some { cls:=.type "list",data:=.seq its.toArray n }) (hf:f { cls:=.type "list",data:=.seq its.toArray n }={ cls:=.type "list",data:=.seq its'.toArray n' }) (r:Vals ys its') (hz:ys.length<=sizeLine) (t:Nat):
  Inv X pins σ (upd H p (.lst ys)) { s with heap:=s.heap.update p f,toks:=t }:=by
 have e:(s.heap.update p f).get? p=some { cls:=.type "list",data:=.seq its'.toArray n' }:=by
  rw [Heap.get?_update_self f ho (by rw [hf] <;> rfl),hf]
 refine I.write (x:=p) (e:=p) (by rw [h];trivial) (.inl rfl) (λb u hb q=>(Heap.get?_update_other _ _ (Ne.symm hb)).trans q) ⟨_,e⟩ ?_
 exact⟨hz,its',n',r,e⟩
noncomputable def Xn:V->V->V->Hp->(Hp->Prop)->Prop:=λo i v H Q=>∃p xs k j,o=.ref p/\i=.int k/\H p=some (.lst xs)/\Rz xs.length k=some j/\Q (upd H p (.lst (xs.set j v)))
theorem set_list:Xh X Xn:=by
 intro pins s σ H o i v ov iv u Q I ro ri rv h
 obtain⟨p,xs,k,j,rfl,rfl,hp,hj,q⟩:=h
 cases ro
 obtain⟨t,rfl⟩:=ri
 obtain⟨its,n,r,ho,hz⟩:=I.lst hp
 obtain⟨h1,h2,h3,h4⟩:=K5 hj
 have hl:=r.length
 have hn:=yC
 have I':Inv X pins σ (upd H p (.lst (xs.set j v))) { s with heap:=s.heap.update p (Obj.mapSeq (·.setIfInBounds j u)) }:=
  I.lstUpd hp ho (Ks its n j u) (r.set rv j) (by rw [List.length_set];exact hz) s.toks
 by_cases h0:0<=k
 ·have hk:k.toNat=j:=by
   rw [seqIndex_of h0 h4] at h1
   exact Option.some.inj h1
  exact PySem.W.ki_setAt ho h0 (by lia) (by rw [List.size_toArray,<-hl];exact h4) (by rw [hk];exact⟨_,I',q⟩)
 ·have hk:(k+(its.toArray.size:Int)).toNat=j:=by
   rw [seqIndex_neg (by lia) h3] at h1
   rw [List.size_toArray,<-hl]
   exact Option.some.inj h1
  exact PySem.W.ki_setBack ho (by lia) (by rw [List.size_toArray,<-hl];exact h3) (by lia) (by rw [hk];exact⟨_,I',q⟩)
theorem Hc (lo hi:Option Int) (n:Nat):(sliceBounds lo hi none n).1=((HT.jB n 0 lo:Nat):Int)/\(sliceBounds lo hi none n).2.1=((HT.jB n n hi:Nat):Int)/\(sliceBounds lo hi none n).2.2=1:=by
 refine⟨?_,?_,rfl⟩
 ·cases lo with
  | none=>simp [sliceBounds,HT.jB]
  | some i=>
   simp only [sliceBounds,HT.jB,Option.getD_none,show(1:Int) >0 by decide,if_true]
   by_cases h:i <0
   ·simp only [h,if_true] <;> lia
   ·simp only [h,if_false] <;> lia
 ·cases hi with
  | none=>simp [sliceBounds,HT.jB]
  | some i=>
   simp only [sliceBounds,HT.jB,Option.getD_none,show(1:Int) >0 by decide,if_true]
   by_cases h:i <0
   ·simp only [h,if_true] <;> lia
   ·simp only [h,if_false] <;> lia
theorem DG (its:List Value) (lo hi:Option Int):slicePick its.toArray lo hi none=((its.drop (HT.jB its.length 0 lo)).take (HT.jB its.length its.length hi - HT.jB its.length 0 lo)).toArray:=by
 obtain⟨h1,h2,h3⟩:=Hc lo hi its.toArray.size
 unfold slicePick
 rw [h1,h2,h3]
 simp only [sliceRange_one,pick_run,List.size_toArray] <;> rfl
inductive Uc (K:PySem.W.Frag) (x:V) (lo:Option Int) (hi:Option Int) (H:Hp) (Q:VK):Prop where
 | mk:∀a xs,x=.ref a->bH K H a xs->(∀p,H p=none->Q (.ref p) (upd H p (.lst (Bq xs lo hi))))->Uc K x lo hi H Q
noncomputable def Yx (K:PySem.W.Frag):V->Option Int->Option Int->Hp->VK->Prop:=λx lo hi H Q=>Uc K x lo hi H Q
theorem Ly:W3 X (Yx X.K):=by
 intro pins s σ H x v vl vu lo hi sl Q I rx hs pl pu h
 obtain⟨a,xs,rfl,hx,q⟩:=h
 cases rx
 obtain⟨its,r,ht,hz⟩:=I.list hx
 have hlen:=r.length
 refine⟨"list",_,slot_list_getitem.lookup,ht.isList.typeIs,?_⟩
 refine wpAny_getItem_list_slice ht.isList hs pl pu .none (by simp) ?_ (by rw [List.size_toArray] <;> lia)
 rw [DG,<-hlen]
 refine⟨.ref s.heap.objs.size,_,I.laid (t':=s.toks) (o:=.lst (Bq xs lo hi)) (λb ob q=>Heap.get?_push_of_some _ q) (Nat.le_refl _) ?_,rfl,q _ (I.hok.fresh (Nat.le_refl _))⟩
 exact⟨Nat.le_trans (zq xs lo hi) hz,_,0,(r.drop (HT.jB xs.length 0 lo)).take (HT.jB xs.length xs.length hi - HT.jB xs.length 0 lo),Heap.get?_push_size _ rfl⟩
noncomputable def ux:V->Bool
 | .non=>true
 | .bl _=>true
 | .int _=>true
 | .str _=>true
 | _=>false
noncomputable def Q6:V->V->Bool
 | .non,.non=>true
 | .bl a,.bl b=>a == b
 | .bl a,.int b=>(if a then 1 else 0) == b
 | .int a,.bl b=>a == (if b then 1 else 0)
 | .int a,.int b=>a == b
 | .str a,.str b=>a == b
 | _,_=>false
theorem Vr {A:Around} {s:Shared} {y x:V} {u v:Value} (ry:RelV y u) (rx:RelV x v) (fy:ux y=true) (fx:ux x=true):SeqAt.EqAt A s u v (Q6 y x):=by
 cases y with
 | non=>
  cases ry
  cases x with
  | non=>cases rx;exact SeqAt.EqAt.same _
  | bl b=>cases rx;exact SeqAt.EqAt.none_bool b
  | int b=>obtain⟨t,rfl⟩:=rx;exact SeqAt.EqAt.none_int b t
  | str b=>obtain⟨t,rfl⟩:=rx;exact SeqAt.EqAt.none_str b t
  | _=>exact absurd (show false=true from fx) Bool.false_ne_true
 | bl a=>
  cases ry
  cases x with
  | non=>cases rx;exact SeqAt.EqAt.bool_none a
  | bl b=>cases rx;exact SeqAt.EqAt.bool_bool a b
  | int b=>obtain⟨t,rfl⟩:=rx;exact SeqAt.EqAt.bool_int a b t
  | str b=>obtain⟨t,rfl⟩:=rx;exact SeqAt.EqAt.bool_str a b t
  | _=>exact absurd (show false=true from fx) Bool.false_ne_true
 | int a=>
  obtain⟨t',rfl⟩:=ry
  cases x with
  | non=>cases rx;exact SeqAt.EqAt.int_none a t'
  | bl b=>cases rx;exact SeqAt.EqAt.int_bool a t' b
  | int b=>obtain⟨t,rfl⟩:=rx;exact SeqAt.EqAt.int_int a t' b t
  | str b=>obtain⟨t,rfl⟩:=rx;exact SeqAt.EqAt.int_str a t' b t
  | _=>exact absurd (show false=true from fx) Bool.false_ne_true
 | str a=>
  obtain⟨t',rfl⟩:=ry
  cases x with
  | non=>cases rx;exact SeqAt.EqAt.str_none a t'
  | bl b=>cases rx;exact SeqAt.EqAt.str_bool a t' b
  | int b=>obtain⟨t,rfl⟩:=rx;exact SeqAt.EqAt.str_int a t' b t
  | str b=>obtain⟨t,rfl⟩:=rx;exact SeqAt.EqAt.str_str a t' b t
  | _=>exact absurd (show false=true from fx) Bool.false_ne_true
 | _=>exact absurd (show false=true from fy) Bool.false_ne_true
noncomputable def J1 (x:V) (u:Value):Bool:=match u with
 | .none=>Q6 .non x
 | .bool b=>Q6 (.bl b) x
 | .int i _=>Q6 (.int i) x
 | .str z _=>Q6 (.str z) x
 | _=>false
theorem Pr {x y:V} {u:Value} (r:RelV y u) (f:ux y=true):J1 x u=Q6 y x:=by
 cases y with
 | non=>cases r;rfl
 | bl b=>cases r;rfl
 | int i=>obtain⟨t,rfl⟩:=r;rfl
 | str z=>obtain⟨t,rfl⟩:=r;rfl
 | _=>exact absurd (show false=true from f) Bool.false_ne_true
theorem xJ {x:V}:∀{xs:List V} {us:List Value},Vals xs us->xs.all ux=true->us.any (J1 x)=xs.any λy=>Q6 y x
 | _,_,.nil,_=>rfl
 | y:: xs,u:: us,.cons r t,f=>by
  rw [List.all_cons,Bool.and_eq_true] at f
  rw [List.any_cons,List.any_cons,Pr r f.1,xJ t f.2]
theorem tO {A:Around} {s:Shared} {x:V} {v:Value} (rx:RelV x v) (fx:ux x=true):∀{xs:List V} {us:List Value},Vals xs us->xs.all ux=true->∀u∈us,SeqAt.EqAt A s u v (J1 x u)
 | _,_,.nil,_=>λu hu=>by cases hu
 | y:: xs,u:: us,.cons r t,f=>λu' hu=>by
  rw [List.all_cons,Bool.and_eq_true] at f
  rcases List.mem_cons.mp hu with rfl | hu
  ·rw [Pr r f.1];exact Vr r rx f.1 fx
  ·exact tO rx fx t f.2 u' hu
noncomputable def inV (x:V) (xs:List V):Bool:=xs.any λy=>Q6 y x
inductive WY (K:PySem.W.Frag) (neg:Bool) (x:V) (y:V) (H:Hp) (Q:VK):Prop where
 | mk:∀p xs,y=.ref p->((bH K H p xs∨d7 K H p xs))->ux x=true->xs.all ux=true->(Q (.bl (if neg then !inV x xs else inV x xs)) H)->WY K neg x y H Q
noncomputable def Y0 (K:PySem.W.Frag) (neg:Bool):R2:=λx y H Q=>WY K neg x y H Q
theorem uC:xm X (compareOp .In) (Y0 X.K false):=by
 intro pins s σ H x y v u Q I rx ry h
 obtain⟨p,xs,rfl,hq,fx,fs,q⟩:=h
 cases ry
 rcases hq with hq | hq
 ·obtain⟨its,r,pl,hz⟩:=I.list hq
  refine SeqAt.in_listAt (J1 x) pl.isList (λw hw=>tO rx fx r fs w (by simpa using hw)) ⟨.bl _,H,I,rfl,?_⟩
  rw [show its.toArray.any (J1 x)=its.any (J1 x) by simp,xJ r fs]
  exact q
 ·obtain⟨its,r,pl,hz⟩:=I.tuple hq
  refine SeqAt.in_tupleAt (J1 x) pl (λw hw=>tO rx fx r fs w (by simpa using hw)) ⟨.bl _,H,I,rfl,?_⟩
  rw [show its.toArray.any (J1 x)=its.any (J1 x) by simp,xJ r fs]
  exact q
theorem qI:xm X (compareOp .NotIn) (Y0 X.K true):=by
 intro pins s σ H x y v u Q I rx ry h
 obtain⟨p,xs,rfl,hq,fx,fs,q⟩:=h
 cases ry
 rcases hq with hq | hq
 ·obtain⟨its,r,pl,hz⟩:=I.list hq
  refine SeqAt.notIn_listAt (J1 x) pl.isList (λw hw=>tO rx fx r fs w (by simpa using hw)) ⟨.bl _,H,I,rfl,?_⟩
  rw [show its.toArray.any (J1 x)=its.any (J1 x) by simp,xJ r fs]
  exact q
 ·obtain⟨its,r,pl,hz⟩:=I.tuple hq
  refine SeqAt.notIn_tupleAt (J1 x) pl (λw hw=>tO rx fx r fs w (by simpa using hw)) ⟨.bl _,H,I,rfl,?_⟩
  rw [show its.toArray.any (J1 x)=its.any (J1 x) by simp,xJ r fs]
  exact q
theorem p8:mQ X (.type "list") (λxs H Q=>∃p ys,xs=[.ref p]/\(bH X.K H p ys∨d7 X.K H p ys)/\∀l,H l=none->Q (.ref l) (upd H l (.lst ys))):=by
 intro pins s σ H xs us Q I r h
 obtain⟨p,ys,rfl,hq,q⟩:=h
 obtain⟨u,rfl,rx⟩:=vals1 r
 cases rx
 have fin:∀(its:List Value),Vals ys its->ys.length<=sizeLine->∀(h':Heap) (c':Nat),(∀b o',s.heap.get? b=some o'->h'.get? b=some o')->
   h'.get? s.heap.objs.size=some { cls:=.type "list",dict:=none,data:=.seq its.toArray c',slots:=#[] }->EP X pins σ Q (.ref s.heap.objs.size) { s with heap:=h' }:=λits r' hz h' c' kp e=>
  ⟨.ref s.heap.objs.size,_,I.laid (t':=s.toks) kp (Nat.le_refl _) (show cV X.prog X.w _ h' _ (.lst ys) from⟨hz,its,c',r',e⟩),rfl,q _ (I.hok.fresh (Nat.le_refl _))⟩
 rcases hq with hq | hq
 ·obtain⟨its,r',pl,hz⟩:=I.list hq
  have hlen:=r'.length
  obtain⟨o,ho,hc,n,hd⟩:=pl.isList
  exact call_list_seq p (.inl rfl) ho hc hd (λh' c' kp e=>fin its r' hz h' c' kp e) (by simp only [List.size_toArray] <;> lia)
 ·obtain⟨its,r',pl,hz⟩:=I.tuple hq
  have hlen:=r'.length
  obtain⟨o,ho,hc,n,hd⟩:=pl
  exact call_list_seq p (.inr rfl) ho hc hd (λh' c' kp e=>fin its r' hz h' c' kp e) (by simp only [List.size_toArray] <;> lia)
theorem Dy:mQ X (.type "tuple") (λxs H Q=>∃p ys,xs=[.ref p]/\((bH X.K H p ys/\∀l,H l=none->Q (.ref l) (upd H l (.tup ys)))∨(d7 X.K H p ys/\Q (.ref p) H))):=by
 intro pins s σ H xs us Q I r h
 obtain⟨p,ys,rfl,h⟩:=h
 obtain⟨u,rfl,rx⟩:=vals1 r
 cases rx
 rcases h with ⟨hq,q⟩ | ⟨hq,q⟩
 ·obtain⟨its,r',pl,hz⟩:=I.list hq
  have hlen:=r'.length
  refine call_tuple_list pl.isList (λh' kp=>?_) (by simp only [List.size_toArray] <;> lia)
  have I1:Inv X pins σ H { s with heap:=h' }:=I.kept (t':=s.toks) kp
  have I2:Inv X pins σ (upd H h'.objs.size (.tup ys)) { s with heap:=h'.push { cls:=.type "tuple",data:=.seq its.toArray } }:=
   I1.laid (t':=s.toks) (λb o e=>Heap.get?_push_of_some _ e) (Nat.le_refl _) (show cV X.prog X.w _ _ _ (.tup ys) from⟨hz,its,r',IsTup.new _ _⟩)
  exact⟨.ref h'.objs.size,_,I2,rfl,q _ (I1.hok.fresh (Nat.le_refl _))⟩
 ·obtain⟨its,r',pl,hz⟩:=I.tuple hq
  exact call_tuple_same pl ⟨.ref p,H,I,rfl,q⟩
noncomputable def YC (K:PySem.W.Frag) (T:String) (x:V) (H:Hp):Prop:=match x with
 | .str _=>T= "str"
 | .int _=>T= "int"
 | .ref p=>(T= "list" /\∃xs,bH K H p xs)∨(T= "tuple" /\∃o,K.lookup p=some o/\o.cls=.type "tuple" /\o.dict=none)∨
   (T= "dict" /\((∃kvs,H p=some (.dK kvs))∨∃kvs,H p=some (.dT kvs)))∨(T= "set" /\∃S n,H p=some (.set S n))
 | _=>False
theorem Ou {pins:List (Addr×Obj)} {σ:St} {H:Hp} {s:Shared} {T:String} {x:V} {v:Value} (I:Inv X pins σ H s) (r:RelV x v) (ty:YC X.K T x H):
  s.TypeIs v T/\∀a,v=.ref a->∃ob,s.heap.get? a=some ob/\ob.dict=none:=by
 cases x with
 | str z=>
  obtain⟨t,rfl⟩:=r
  cases (show T= "str" from ty)
  exact⟨typeIs_str s z t,λ_ e=>nomatch e⟩
 | int i=>
  obtain⟨t,rfl⟩:=r
  cases (show T= "int" from ty)
  exact⟨typeIs_int s i t,λ_ e=>nomatch e⟩
 | ref p=>
  cases r
  rcases ty with ⟨rfl,xs,hq⟩ | ⟨rfl,o,hk,hc,hd⟩ | ⟨rfl,hk⟩ | ⟨rfl,S,n,hk⟩
  ·obtain⟨its,_,pl,_⟩:=I.list hq
   refine⟨pl.isList.typeIs,λa e=>?_⟩
   cases e
   obtain⟨o,n,e,c,hd,_⟩:=pl
   exact⟨o,e,hd⟩
  ·refine⟨⟨o,I.kIn p o hk,hc⟩,λa e=>?_⟩
   cases e
   exact⟨o,I.kIn _ o hk,hd⟩
  ·have z:∃o,s.heap.get? p=some o/\o.ExactDict:=by
    rcases hk with ⟨kvs,hk⟩ | ⟨kvs,hk⟩
    ·obtain⟨_,_,_,_,o,_,_,e,ex,_⟩:=I.hok p _ hk
     exact⟨o,e,ex⟩
    ·obtain⟨_,_,_,_,o,_,_,e,ex,_⟩:=I.hok p _ hk
     exact⟨o,e,ex⟩
   obtain⟨o,e,ex⟩:=z
   refine⟨⟨o,e,ex.1⟩,λa e2=>?_⟩
   cases e2
   exact⟨o,e,ex.2.1⟩
  ·obtain⟨o,_,_,_,e,ex,_⟩:=I.hok p _ hk
   refine⟨⟨o,e,ex.1⟩,λa e2=>?_⟩
   cases e2
   exact⟨o,e,ex.2.1⟩
 | _=>exact False.elim ty
noncomputable def XJ (K:PySem.W.Frag) (T:String) (r:V->List V->Hp->VK->Prop) (to:TE):TE:=λσ H Q=>to σ H λx H1=>YC K T x H1/\r x [] H1 Q
noncomputable def YX (K:PySem.W.Frag) (T:String) (r:V->List V->Hp->VK->Prop) (to:TE) (t:TA):TE:=λσ H Q=>to σ H λx H1=>YC K T x H1/\t σ H1 λxs H2=>r x xs H2 Q
variable {o e:Expr} {es:List Expr} {to:TE} {t:TA} {name:Str} {apos cpos:Pos} {T id:String} {r:V->List V->Hp->VK->Prop}
theorem yj (pa:PlainAttrs T) (slot:Slot T name id) (hty:typeOf (.builtin id)=pure (.type "method_descriptor")) (hm:X8 X id r) (ho:PE X o to)
  (hbase:attributeBase o name X.env (eval o X.env)=eval o X.env:=by rfl) (hline:(apos.endLine == cpos.line)=true:=by rfl):PE X (.Call (.Attribute o name apos) [] [] cpos) (XJ X.K T r to):=by
 intro pins s σ H Q I h
 refine wpAny_Call_method0_late hbase hline (dC (ho pins s σ H _ I h) λv s1 hpt=>?_)
 obtain⟨x,H1,I1,r1,ty,q1⟩:=hpt
 obtain⟨h1,h2⟩:=Ou I1 r1 ty
 exact⟨T,id,pa,slot,hty,h1,h2,Calls.callWith_builtin rfl (PySem.evalArgs_none (hm pins s1 σ H1 x [] v [] Q I1 r1 .nil q1))⟩
theorem pC (pa:PlainAttrs T) (slot:Slot T name id) (hty:typeOf (.builtin id)=pure (.type "method_descriptor")) (hm:X8 X id r) (ho:PE X o to) (ha:PA X (e:: es) t)
  (hbase:attributeBase o name X.env (eval o X.env)=eval o X.env:=by rfl)
  (hfew:((backTo cpos (starEach (e:: es) X.env)).all (λx=>!x.1) && (backToKw cpos (keywordEach [] X.env)).all (λx=>x.1.isSome)
   && decide ((e:: es).length+([]:List Keyword).length+(if ([]:List Keyword).isEmpty then 0 else 1) <30))=true:=by rfl)
  (hline:(apos.endLine == cpos.line)=true:=by rfl) (hs:starEach (e:: es) X.env=(false,eval e X.env):: starEach es X.env:=by rfl) (hplain:(backTo cpos (starEach es X.env)).any (·.1)=false:=by rfl):
  PE X (.Call (.Attribute o name apos) (e:: es) [] cpos) (YX X.K T r to t):=by
 intro pins s σ H Q I h
 refine wpAny_Call_method_late hbase hfew hline rfl (dC (ho pins s σ H _ I h) λv s1 hpt=>?_)
 obtain⟨x,H1,I1,r1,ty,q1⟩:=hpt
 obtain⟨h1,h2⟩:=Ou I1 r1 ty
 refine⟨T,id,pa,slot,hty,h1,h2,?_⟩
 have hA:=ha cpos pins s1 σ H1 _ I1 q1
 rw [hs] at hA ⊢
 refine Calls.callWith_builtin (by show(false || (backTo cpos (starEach es X.env)).any (·.1))=false;rw [hplain] <;> rfl) (Calls.evalArgs_plain ?_)
 exact dC hA λus s2 ⟨vs,H2,I2,r2,q2⟩=>hm pins s2 σ H2 x vs v us Q I2 r1 r2 q2
end
noncomputable def U3 (X:Cx) (id:String) (r:V->List V->Hp->VK->Prop):Prop:=
 ∀(pins:List (Addr×Obj)) (s:Shared) (σ:St) (H:Hp) (x:V) (xs:List V) (v:Value) (us:List Value) (Q:VK),Inv X pins σ H s->RelV x v->Vals xs us->r x xs H Q->
  wpAny (model X.prog X.w) X.A (call (.builtin id) (v:: us)) (EP X pins σ Q) X.xe s
theorem Vals.one:∀{x:V} {us:List Value},Vals [x] us->∃u,us=[u]/\RelV x u
 | _,_,.cons r .nil=>⟨_,rfl,r⟩
theorem Vals.zero:∀{us:List Value},Vals [] us->us=[]
 | _,.nil=>rfl
theorem Vals.dropLast {xs:List V} {us:List Value} (h:Vals xs us):Vals xs.dropLast us.dropLast:=by
 induction h with
 | nil=>exact .nil
 | cons r t ih=>
  cases t with
  | nil=>exact .nil
  | cons q t'=>exact .cons r ih
theorem Vals.eraseIdx:∀{xs:List V} {us:List Value} (i:Nat),Vals xs us->Vals (xs.eraseIdx i) (us.eraseIdx i)
 | _,_,_,.nil=>.nil
 | _,_,0,.cons _ t=>t
 | _,_,i+1,.cons r t=>.cons r (Vals.eraseIdx i t)
theorem Vals.reverse {xs:List V} {us:List Value} (h:Vals xs us):Vals xs.reverse us.reverse:=by
 induction h with
 | nil=>exact .nil
 | cons r t ih=>rw [List.reverse_cons,List.reverse_cons];exact Vals.append ih (.cons r .nil)
theorem JP {α:Type} (l:List α):l.eraseIdx (l.length - 1)=l.dropLast:=by
 induction l with
 | nil=>rfl
 | cons a r ih=>
  cases r with
  | nil=>rfl
  | cons b r=>
   have e:(a:: b:: r).length - 1=((b:: r).length - 1)+1:=by
    have h1:(a:: b:: r).length=r.length+2:=rfl
    have h2:(b:: r).length=r.length+1:=rfl
    lia
   rw [e,List.eraseIdx_cons_succ,ih]
   all_goals rfl
theorem Fo {α:Type}:∀(l:List α) (i:Nat),(l.eraseIdx i).length<=l.length
 | [],_=>Nat.le_refl _
 | _:: _,0=>Nat.le_succ _
 | _:: r,i+1=>Nat.succ_le_succ (Fo r i)
section
variable {X:Cx} {pins:List (Addr×Obj)} {σ:St} {H:Hp} {s:Shared} {l b:Addr} {xs ys zs:List V}
theorem Inv.lset {its its':List Value} {n:Nat} {f:Array Value->Array Value} {t':Nat} (I:Inv X pins σ H s) (hH:H l=some (.lst xs))
  (e:s.heap.get? l=some { cls:=.type "list",data:=.seq its.toArray n }) (hf:f its.toArray=its'.toArray) (hv:Vals ys its') (hz:ys.length<=sizeLine):
  Inv X pins σ (upd H l (.lst ys)) { s with heap:=s.heap.update l (Obj.mapSeq f),toks:=t' }:=by
 have q:=PySem.IsL.update e f
 rw [hf] at q
 refine I.write (x:=l) (e:=l) (by rw [hH];exact trivial) (.inl rfl) (λb' u hb hu=>(Heap.get?_update_other s.heap (Obj.mapSeq f) (Ne.symm hb)).trans hu) ⟨_,q⟩ ?_
 exact⟨hz,its',_,hv,q⟩
theorem Inv.lnew {its:List Value} {t':Nat} (I:Inv X pins σ H s) (hv:Vals ys its) (hz:ys.length<=sizeLine):
  Inv X pins σ (upd H s.heap.objs.size (.lst ys)) { s with heap:=s.heap.push { cls:=.type "list",data:=.seq its.toArray },toks:=t' }:=
 I.laid (λ_ _ q=>Heap.get?_push_of_some _ q) (Nat.le_refl _) ⟨hz,its,0,hv,Heap.get?_push_size _ rfl⟩
theorem Inv.fresh (I:Inv X pins σ H s):H s.heap.objs.size=none:=I.hok.fresh (Nat.le_refl _)
theorem Inv.lstM (I:Inv X pins σ H s) (hH:H l=some (.lst xs)):xs.length<=sizeLine/\∃(its:List Value) (n:Nat),Vals xs its/\xs.length=its.length/\s.heap.get? l=some { cls:=.type "list",data:=.seq its.toArray n }:=by
 obtain⟨z,its,n,r,e⟩:=I.hok l _ hH
 exact⟨z,its,n,r,r.length,e⟩
theorem O5 {n:Nat} (h:n<=sizeLine):Builtin.List.listTooLong n=false:=by
 unfold Builtin.List.listTooLong
 exact decide_eq_false (by lia)
end
section
variable {X:Cx}
inductive Ig (x:V) (vs:List V) (H:Hp) (Q:VK):Prop where
 | mk:∀l xs y,x=.ref l->vs=[y]->H l=some (.lst xs)->xs.length <sizeLine->Q .non (upd H l (.lst (xs ++ [y])))->Ig x vs H Q
noncomputable def Mp:V->List V->Hp->VK->Prop:=λx vs H Q=>Ig x vs H Q
theorem MF:U3 X "list.append" Mp:=by
 intro pins s σ H x vs v us Q I rx rv h
 obtain⟨l,xs,y,rfl,rfl,hH,hz,q⟩:=h
 cases rx
 obtain⟨u,rfl,ru⟩:=rv.one
 obtain⟨z,its,n,r,hl,e⟩:=I.lstM hH
 refine call_meets F.slot_list_append ⟨_,e,rfl⟩ F.entry_list_append (F.args_list_append_2 _ _) (PySem.list_append l its.toArray n u (by rw [List.size_toArray];lia)) ⟨e,?_⟩
 refine⟨.non,_,I.lset (its':=its ++ [u]) hH e (by simp) (r.append (.cons ru .nil)) ?_,rfl,q⟩
 rw [List.length_append,List.length_singleton]
 lia
inductive Jo (x:V) (vs:List V) (H:Hp) (Q:VK):Prop where
 | mk:∀l b xs zs,x=.ref l->vs=[.ref b]->H l=some (.lst xs)->H b=some (.lst zs)->xs.length+zs.length<=sizeLine->Q .non (upd H l (.lst (xs ++ zs)))->Jo x vs H Q
noncomputable def Rw:V->List V->Hp->VK->Prop:=λx vs H Q=>Jo x vs H Q
theorem Ej:U3 X "list.extend" Rw:=by
 intro pins s σ H x vs v us Q I rx rv h
 obtain⟨l,b,xs,zs,rfl,rfl,hH,hB,hz,q⟩:=h
 cases rx
 obtain⟨u,rfl,ru⟩:=rv.one
 cases ru
 obtain⟨z,its,n,r,hl,e⟩:=I.lstM hH
 obtain⟨z2,its2,n2,r2,hl2,e2⟩:=I.lstM hB
 have hsz:its.toArray.size+its2.toArray.size<=sizeLine:=by rw [List.size_toArray,List.size_toArray];lia
 have hlong:¬(!its.toArray.isEmpty && Builtin.List.listTooLong (its.toArray.size+its2.toArray.size))=true:=by
  rw [O5 hsz,Bool.and_false]
  exact Bool.false_ne_true
 refine call_meets F.slot_list_extend ⟨_,e,rfl⟩ F.entry_list_extend (F.args_list_extend_2 _ _)
  (AutoSeq1.list_extend_list_list_0 l its.toArray n b its2.toArray n2 hlong (by rw [List.size_toArray];lia) (by lia)) ⟨e,e2,?_⟩
 refine⟨.non,_,I.lset (its':=its ++ its2) hH e (by simp) (r.append r2) ?_,rfl,q⟩
 rw [List.length_append]
 lia
inductive Ub (x:V) (vs:List V) (H:Hp) (Q:VK):Prop where
 | mk:∀l xs y,x=.ref l->vs=[]->H l=some (.lst xs)->xs[xs.length - 1]?=some y->Q y (upd H l (.lst xs.dropLast))->Ub x vs H Q
noncomputable def X6:V->List V->Hp->VK->Prop:=λx vs H Q=>Ub x vs H Q
theorem Kv:U3 X "list.pop" X6:=by
 intro pins s σ H x vs v us Q I rx rv h
 obtain⟨l,xs,y,rfl,rfl,hH,hy,q⟩:=h
 cases rx
 have hus:=rv.zero
 subst hus
 obtain⟨z,its,n,r,hl,e⟩:=I.lstM hH
 obtain⟨u,hu,ru⟩:=r.get hy
 have hy':its.toArray[its.toArray.size - 1]?=some u:=by
  show its.toArray[its.length - 1]?=some u
  rw [<-Array.getElem?_toList,<-hl]
  exact hu
 refine call_meets F.slot_list_pop ⟨_,e,rfl⟩ F.entry_list_pop (F.args_list_pop_1 _) (MeetsSeq.list_pop_last l its.toArray n u hy' (by rw [List.size_toArray];lia)) ⟨e,?_⟩
 refine⟨y,_,I.lset (its':=its.dropLast) hH e ?_ r.dropLast ?_,ru,q⟩
 ·show its.toArray.eraseIdxIfInBounds (its.toArray.size - 1)=its.dropLast.toArray
  rw [List.size_toArray,List.eraseIdxIfInBounds_toArray,JP]
 ·rw [List.length_dropLast]
  lia
inductive Mq (x:V) (vs:List V) (H:Hp) (Q:VK):Prop where
 | mk:∀l xs i k y,x=.ref l->vs=[.int i]->H l=some (.lst xs)-> -(2 ^ 63)<=i->i <2 ^ 63->seqIndex? i xs.length=some k->xs[k]?=some y->Q y (upd H l (.lst (xs.eraseIdx k)))->Mq x vs H Q
noncomputable def Uu:V->List V->Hp->VK->Prop:=λx vs H Q=>Mq x vs H Q
theorem pP:U3 X "list.pop" Uu:=by
 intro pins s σ H x vs v us Q I rx rv h
 obtain⟨l,xs,i,k,y,rfl,rfl,hH,h1,h2,hk,hy,q⟩:=h
 cases rx
 obtain⟨u,rfl,ru⟩:=rv.one
 obtain⟨t,rfl⟩:=ru
 obtain⟨z,its,n,r,hl,e⟩:=I.lstM hH
 obtain⟨w,hw,rw'⟩:=r.get hy
 refine call_meets F.slot_list_pop ⟨_,e,rfl⟩ F.entry_list_pop (F.args_list_pop_2 _ _)
  (MeetsSeq.list_pop_at l its.toArray n i t k w (fitsIndex_both h1 h2) (by rw [List.size_toArray,<-hl];exact hk) (by rw [<-Array.getElem?_toList];exact hw) (by rw [List.size_toArray];lia)) ⟨e,?_⟩
 refine⟨y,_,I.lset (its':=its.eraseIdx k) hH e ?_ (r.eraseIdx k) ?_,rw',q⟩
 ·show its.toArray.eraseIdxIfInBounds k=(its.eraseIdx k).toArray
  rw [List.eraseIdxIfInBounds_toArray]
 ·have:=Fo xs k
  lia
inductive Eb (x:V) (vs:List V) (H:Hp) (Q:VK):Prop where
 | mk:∀l xs,x=.ref l->vs=[]->H l=some (.lst xs)->Q .non (upd H l (.lst xs.reverse))->Eb x vs H Q
noncomputable def Oj:V->List V->Hp->VK->Prop:=λx vs H Q=>Eb x vs H Q
theorem KQ:U3 X "list.reverse" Oj:=by
 intro pins s σ H x vs v us Q I rx rv h
 obtain⟨l,xs,rfl,rfl,hH,q⟩:=h
 cases rx
 have hus:=rv.zero
 subst hus
 obtain⟨z,its,n,r,hl,e⟩:=I.lstM hH
 refine call_meets F.slot_list_reverse ⟨_,e,rfl⟩ F.entry_list_reverse (F.args_list_reverse_1 _) (AutoSeq1.list_reverse_list_0 l its.toArray n (by rw [List.size_toArray];lia)) ⟨e,?_⟩
 refine⟨.non,_,I.lset (its':=its.reverse) hH e (by simp) r.reverse ?_,rfl,q⟩
 rw [List.length_reverse]
 lia
inductive K1 (x:V) (vs:List V) (H:Hp) (Q:VK):Prop where
 | mk:∀l xs,x=.ref l->vs=[]->H l=some (.lst xs)->Q .non (upd H l (.lst []))->K1 x vs H Q
noncomputable def Vj:V->List V->Hp->VK->Prop:=λx vs H Q=>K1 x vs H Q
theorem Jv:U3 X "list.clear" Vj:=by
 intro pins s σ H x vs v us Q I rx rv h
 obtain⟨l,xs,rfl,rfl,hH,q⟩:=h
 cases rx
 have hus:=rv.zero
 subst hus
 obtain⟨z,its,n,r,hl,e⟩:=I.lstM hH
 refine call_meets F.slot_list_clear ⟨_,e,rfl⟩ F.entry_list_clear (F.args_list_clear_1 _) (AutoSeq1.list_clear_list_0 l its.toArray n (by rw [List.size_toArray];lia)) ⟨e,?_⟩
 exact⟨.non,_,I.lset (its':=[]) (ys:=[]) hH e rfl .nil (Nat.zero_le _),rfl,q⟩
inductive Ui (x:V) (y:V) (H:Hp) (Q:VK):Prop where
 | mk:∀l b xs zs,x=.ref l->y=.ref b->H l=some (.lst xs)->H b=some (.lst zs)->xs.length+zs.length<=sizeLine->(∀p,H p=none->Q (.ref p) (upd H p (.lst (xs ++ zs))))->Ui x y H Q
noncomputable def Yb:R2:=λx y H Q=>Ui x y H Q
theorem Ba:xm X (binaryOp .Add) Yb:=by
 intro pins s σ H x y v u Q I rx ry h
 obtain⟨l,b,xs,zs,rfl,rfl,hH,hB,hz,q⟩:=h
 cases rx
 cases ry
 obtain⟨z,its,n,r,hl,e⟩:=I.lstM hH
 obtain⟨z2,its2,n2,r2,hl2,e2⟩:=I.lstM hB
 refine PySem.P.add_list e e2 ?_ (by rw [List.size_toArray,List.size_toArray];lia)
 have ea:its.toArray ++ its2.toArray=(its ++ its2).toArray:=by simp
 rw [ea]
 exact⟨.ref _,_,I.lnew (t':=s.toks) (r.append r2) (by rw [List.length_append];lia),rfl,q _ I.fresh⟩
end
section
variable {prog:Program} {w:World} {A:Around} {E:Value->Shared->Prop} {s:Shared}
end
section
variable {X:Cx}
end
end L2
namespace Att
open PySem PySem.W PySem.Calls PyProof.Rows
theorem z6 {P:Params} {h:Heap}:∀(ns:List Int) (vs:List Value),WellAll P h vs (ns.map WData.int)->IntsAre vs ns:=by
 intro ns
 induction ns with
 | nil=>
  intro vs w
  rw [List.map_nil] at w
  cases w
  exact .nil
 | cons n ns ih=>
  intro vs w
  rw [List.map_cons] at w
  cases w with
  | cons a b=>
   cases a
   exact .cons _ _ (ih _ b)
theorem Mx {l:OpenLaw} {n:Nat} (hn:l.most=some n) {P:Params} {h:Heap} {args:List WData} {vals:List Value}
  (hpre:l.row.toRowW.claim.pre args=true) (hwl:WellAll P h vals args):
  ∃a vs ns,vals=[Value.ref a]/\args=[WData.list (ns.map WData.int)]/\h.get? a=some { cls:=.type "list",data:=.seq vs.toArray }/\IntsAre vs ns/\ns.length<=n:=by
 have hsh:WShape.hasAll [] args [.list .int]=true:=(pre_splitW hpre).1
 have hc:l.pre.holds [] { args:=args }=true:=(pre_splitW hpre).2
 obtain⟨d,r,rfl,h1,h2⟩:=hasAllW_cons hsh
 obtain rfl:=hasAllW_nil h2
 obtain⟨xs,rfl,h3⟩:=hasW_list h1
 obtain⟨ns,rfl⟩:=items_int h3
 have hlen:ns.length<=n:=by
  unfold OpenLaw.pre at hc
  have h4:(WTm.not (.lt (.lit (.int (n:Int))) (.len (.arg 0)))).holds [] { args:=[.list (ns.map .int)] }=true:=by
   have h4:=(holds_andW hc).1
   rw [hn] at h4
   exact h4
  have h5:=condW_of h4 (w_not (w_lt w_lit (w_len_list (w_arg rfl))))
  rw [List.length_map] at h5
  refine Nat.le_of_not_lt λq=>?_
  have q':(n:Int) <((ns.length:Nat):Int):=by lia
  first
   | (rw [decide_eq_true q'] at h5;exact absurd h5 (by decide))
   | (simp at h5;lia)
 cases hwl with
 | cons w1 w2=>
  cases w2
  cases w1 with
  | list ho hall=>exact⟨_,_,ns,rfl,rfl,ho,z6 ns _ hall,hlen⟩
theorem M6 (l:OpenLaw) (args:List WData):l.row.toRowW.claim.post args (.bool true) args=true:=
 postW_of (r:=l.row.toRowW) (X:=(true == true))
  (show WShape.has [] (.bool true) .bool=true by first | rfl | decide | simp [WShape.has,WShape.arms,WShape.armsAll])
  (show(WTm.eq .res (.lit (.bool true))).value [] { args:=args,res:=some (.bool true),after:=args }=some (.bool (true == true)) from w_eq_bool (w_res rfl) w_lit) rfl
theorem JD {l:OpenLaw} {n:Nat} {q:Program} {loose:List Str} {XP:(Str->Option Value)->Heap->Prop} {YP:World->Heap->Prop} {d:DefRec}
  (hn:l.most=some n) (hdf:d.params.defaults=[])
  (call:∀(w:World) (s₀ s₁:Shared) (mg mb:Str->Option Value) (fa:Addr) (o:Obj) (pm cd doc:Value) (a:Addr) (vs:List Value) (ns:List Int),
   Ground q loose [] XP w s₀ mg mb s₁.heap->YP w s₁.heap->
   s₁.heap.get? fa=some o->o.data=.func (docDef d.name d.params d.body d.scope pm cd doc)->s₁.heap.CodeRec cd d.name->mg d.name=some (.ref fa)->
   s₁.heap.get? a=some { cls:=.type "list",data:=.seq vs.toArray }->IntsAre vs ns->ns.length<=n->s₁.gens= #[]->
   codeAny (model l.prog w) callerA (.call (.ref fa) ⟨[.ref a],[]⟩) (λr s'=>r=.ok (.ret (.bool true))/\OldK s₁.heap s'.heap/\s'.os=s₁.os/\AllBare s'.gens) s₁):
  WalkO q loose XP YP l.row.toRowW d [] (λf vs=>PySem.call f vs):=by
 intro w s₀ s₁ mg mb G Y fa o pm cd doc dV kV ho hd hcd hD hmg hg args vals as hpre hlay hrd hwl hlo
 obtain rfl:dV=.none:=Dflts.none hD hdf
 obtain rfl:kV=.none:=Dflts.noKw hD
 obtain⟨a,vs,ns,rfl,rfl,hobj,hints,hlen⟩:=Mx hn hpre hwl
 refine enter_call (codeAny_mono (call w s₀ s₁ mg mb fa o pm cd doc a vs ns G Y ho (fd_plain hd) hcd hmg hobj hints hlen hg) λr s' hq=>?_)
 obtain⟨rfl,h2,h3,h4⟩:=hq
 exact⟨.inl ⟨.bool true,.bool true,[],rfl,λ_=>rfl,.bool true,M6 l _,λ_=>⟨List.Pairwise.nil,λ_ hm=>(nomatch hm)⟩⟩,h2,h3,h4⟩
section
variable {prog:Program} {w:World} {A:Around} {E:Value->Shared->Prop} {s:Shared} {K:Frag}
end
end Att
namespace L2
open PySem PySem.Spec PyProof.Rows
theorem Fj:∀{vs:List Value} {ns:List Int},IntsAre vs ns->Vals (ns.map V.int) vs
 | _,_,.nil=>.nil
 | _,_,.cons n t h=>.cons ⟨t,rfl⟩ (Fj h)
noncomputable def Only (H:Hp):Prop:=∀b,H b=none∨∃o xs,H b=some (.frz o (.lst xs))
theorem Qx {P:Program} {w:World} {K:PySem.W.Frag} {mg mb:Str->Option Value} {CX:DX} {k:Nat} {fa a:Addr} {fd:FuncData} {x:Str} {sp:Sp} {s₁:Shared} {vs:List Value} {ns:List Int}
  (KX:K.In s₁.heap) (hns:s₁.heap.Ns mainGlobals mg) (hb:s₁.heap.Ns builtinsNs mb) (hbb:∀x:Str,x≠ "__name__" ->mb x=bootBuiltins x) (hlim:s₁.heap.NoLimit) (hg:s₁.gens= #[])
  (ha:s₁.heap.get? a=some { cls:=.type "list",data:=.seq vs.toArray }) (hi:IntsAre vs ns) (hl:ns.length<=sizeLine) (hr:ie k callerA)
  (F:∀base:Heap,K.In base->base.Ns mainGlobals mg->jd P w K mg base CX k fa fd [x] sp) (hbind:∀(s:Shared) (u:Value),BindsTo s fd ⟨[u],[]⟩ [(x,u)])
  (hsp:∀H:Hp,Only H->bH K H a (ns.map V.int)->sp [.ref a] H (λv _=>v=.bl true) λ_ _ _=>False)
  (hCX:∀H e s',CX [] H s₁ (λ_ _ _=>False) e s'->False):
  codeAny (model P w) callerA (.call (.ref fa) ⟨[.ref a],[]⟩) (λr s'=>r=.ok (.ret (.bool true))/\OldK s₁.heap s'.heap/\s'.os=s₁.os/\AllBare s'.gens) s₁:=by
 have rv:=Fj hi
 have lenV:=hi.length
 have core:∀H:Hp,Only H->bH K H a (ns.map V.int)->rK P w H s₁.heap->(∀b,H b≠none->b=a)->(H a≠none->K.lookup a=none)->
   codeAny (model P w) callerA (.call (.ref fa) ⟨[.ref a],[]⟩) (λr s'=>r=.ok (.ret (.bool true))/\OldK s₁.heap s'.heap/\s'.os=s₁.os/\AllBare s'.gens) s₁:=by
  intro H hO hS hok hA hK
  have base_of:∀{b:Addr} {o:Obj},s₁.heap.get? b=some o->H b=none->(GX s₁.heap H).get? b=some o:=λe n=>Pg e n
  have noA:∀{b:Addr} {o:Obj} {es:Array DictEntry} {ep:Nat},s₁.heap.get? b=some o->o.data=.dict es ep->H b=none:=λ{b o es ep} e d=>by
   cases q:H b with
   | none=>rfl
   | some u=>
    have e':b=a:=hA b (by rw [q];simp)
    subst e'
    rw [ha] at e;cases e
    have d':Data.seq vs.toArray _=Data.dict es ep:=d
    cases d'
  have Nm:∀{b:Addr} {m:Str->Option Value},s₁.heap.Ns b m->(GX s₁.heap H).Ns b m:=λ{b m} ⟨o,es,ep,e,d,r⟩=>⟨o,es,ep,base_of e (noA e d),d,r⟩
  have hKb:K.In (GX s₁.heap H):=λb o e=>base_of (KX b o e) (by
   cases q:H b with
   | none=>rfl
   | some u=>
    have e':b=a:=hA b (by rw [q];simp)
    subst e'
    rw [hK (by rw [q];simp)] at e;cases e)
  have hM:Mod K mg (GX s₁.heap H):=⟨hKb,Nm hns,⟨mb,Nm hb,hbb⟩,let ⟨mc,h1,h2⟩:=hlim;⟨mc,Nm h1,h2⟩⟩
  have e0:Kq P w K mg (GX s₁.heap H) callerA [] s₁ H:=⟨rfl,hM,λb o e=>Sg e,Nat.le_of_eq (M5 _ _),trivial,λb hb=>absurd (show b∈([]:List Addr) from hb) (by simp),hok,.of_eq hg⟩
  refine codeAny_mono ((F _ hKb (Nm hns)).run callerA [] s₁ H ⟨[.ref a],[]⟩ [.ref a] [.ref a] _ _ hr e0 (hbind s₁ (.ref a)) (.cons rfl .nil) (hsp H hO hS)) λr s' h=>?_
  cases r with
  | error e=>exact(hCX H e s' h).elim
  | ok fl=>
   cases fl with
   | next=>exact False.elim h
   | brk=>exact False.elim h
   | cont=>exact False.elim h
   | ret u=>
    obtain⟨v,H',os,bare,un,hok',r',q⟩:=h
    have q':v=.bl true:=q
    subst q'
    obtain rfl:u=Value.bool true:=r'
    refine⟨rfl,OldK.of_keep λb o e=>?_,os,bare⟩
    cases q:H b with
    | none=>exact un.keep b o e q (by intro z;exact absurd (show b∈([]:List Addr) from z) (by simp)) (by simp)
    | some u=>
     rcases hO b with z | ⟨ob,xs,z⟩
     ·rw [q] at z;cases z
     ·have z2:=un.frzs b ob _ z
      obtain⟨e1,_⟩:=hok b _ z
      obtain⟨e2,_⟩:=hok' b _ z2
      rw [e] at e1;cases e1
      exact e2
 cases hk:K.lookup a with
 | some o=>
  have e:=KX a o hk
  rw [ha] at e
  cases e
  refine core (λ_=>none) (λ_=>.inl rfl) (.inr ⟨_,vs.toArray,_,hk,rfl,rfl,rfl,by rw [List.size_toArray,lenV];exact hl,by simpa using rv⟩) (λb u z=>by have z':(none:Option HO)=some u:=z;cases z') (λb z=>absurd rfl z) λz=>absurd rfl z
 | none=>
  refine core (λb=>if b=a then some (.frz { cls:=.type "list",data:=.seq vs.toArray } (.lst (ns.map V.int))) else none) (λb=>?_) (.inl (.inr ⟨{ cls:=.type "list",data:=.seq vs.toArray },if_pos rfl⟩)) (λb u z=>?_) (λb z=>?_) λ_=>hk
  ·by_cases hb:b=a
   ·exact .inr ⟨_,_,if_pos hb⟩
   ·exact .inl (if_neg hb)
  ·by_cases hb:b=a
   ·have z':=(if_pos hb).symm.trans z
    cases z'
    subst hb
    exact⟨ha,by rw [List.length_map];exact hl,vs,_,rv,ha⟩
   ·have z':=(if_neg hb).symm.trans z
    cases z'
  ·by_cases hb:b=a
   ·exact hb
   ·exact absurd (if_neg hb) z
theorem Rt {l:PySem.W.OpenLaw} {n k:Nat} {q:Program} {loose:List Str} {XP:(Str->Option Value)->Heap->Prop} {YP:World->Heap->Prop} {d:DefRec} {K:Params->PySem.W.Frag} {CX:World->DX} {sp:World->Sp} {x:Str}
  (hn:l.most=some n) (hn2:n<=sizeLine) (hdf:d.params.defaults=[]) (hr:ie k callerA)
  (hY:∀(w:World) (h:Heap),YP w h->(K w.params).In h)
  (F:∀(w:World) (mg:Str->Option Value) (fa:Addr) (h:Heap),(K w.params).In h->h.Ns mainGlobals mg->mg d.name=some (.ref fa)->
   ∃fd:FuncData,(∀(s:Shared) (u:Value),BindsTo s fd ⟨[u],[]⟩ [(x,u)])/\
    ∀base:Heap,(K w.params).In base->base.Ns mainGlobals mg->jd l.prog w (K w.params) mg base (CX w) k fa fd [x] (sp w))
  (hsp:∀(w:World) (H:Hp) (a:Addr) (ns:List Int),ns.length<=n->Only H->bH (K w.params) H a (ns.map V.int)->sp w [.ref a] H (λv _=>v=.bl true) λ_ _ _=>False)
  (hCX:∀(w:World) (H:Hp) (s:Shared) (e:Value) (s':Shared),CX w [] H s (λ_ _ _=>False) e s'->False):
  PySem.W.WalkO q loose XP YP l.row.toRowW d [] (λf vs=>PySem.call f vs):=by
 refine Att.JD hn hdf λw s₀ s₁ mg mb fa o pm cd doc a vs ns G Y ho hd hcd hmg hobj hints hlen hg=>?_
 have KX:=hY w _ Y
 obtain⟨fd,hb,hF⟩:=F w mg fa _ KX G.T.g hmg
 exact Qx KX G.T.g G.T.b G.T.builtins G.T.nolimit hg hobj hints (Nat.le_trans hlen hn2) hr hF hb (λH hO hS=>hsp w H a ns hlen hO hS) λH e s'=>hCX w H s₁ e s'
noncomputable def inClass (s:Stmt) (j:Nat):Stmt:=match s with
 | .ClassDef _ _ _ body _ _ _ _ _ _ _=>body.getD j (.Pass ⟨0,0,0,0⟩)
 | _=>.Pass ⟨0,0,0,0⟩
noncomputable def gO (s:Stmt):Arguments:=match s with
 | .FunctionDef _ a _ _ _ _ _ _ _ _=>a
 | _=>{ posonlyargs:=[],args:=[],vararg:=none,kwonlyargs:=[],kw_defaults:=[],kwarg:=none,defaults:=[] }
noncomputable def fQ (s:Stmt):List Stmt:=match s with
 | .FunctionDef _ _ b _ _ _ _ _ _ _=>b
 | _=>[]
noncomputable def bw (s:Stmt):Scope:=match s with
 | .FunctionDef _ _ _ _ _ _ sc _ _ _=>sc
 | _=>{ kind:=.function,names:=[],isGenerator:=false,isCoroutine:=false }
noncomputable abbrev PK:DX:=λ_ _ _ _ _ _=>False
noncomputable abbrev E0:XK:=λ_ _ _=>False
theorem fG {X:Cx}:kY PK X E0:=λ_ _ _ _ _ _ _ h=>h.elim
structure Q7 (K:PySem.W.Frag) (x qual:Str) (st:Stmt) (f:Addr) (fd:FuncData):Prop where
 ex:∃(oc:Value) (od:Option Addr) (kV doc pm:Value) (an:Option Addr) (cdv ct:Value) (osl:Array (Option Value)),
  fd=PySem.W.fnOf x qual (gO st) (fQ st) (bw st) .none kV doc pm an cdv ct/\K.lookup f=some ⟨oc,od,.func fd,osl⟩/\PySem.W.codeIn K cdv qual=true
 kp:PySem.W.keepIn K (.ref f)=true
section
variable {P:Program} {w:World} {K:PySem.W.Frag} {mg:Str->Option Value} {base:Heap}
theorem Q7.ok {x qual:Str} {st:Stmt} {f:Addr} {fd:FuncData} {N ps:List Str} {k:Nat} {sp:Sp} (F:Q7 K x qual st f fd) (S:fJ N ps (bw st)) (len:∀vs H Q E,sp vs H Q E->vs.length=ps.length)
  (hbody:∀(cdv:Value) (A:Around) (outer:List Env) (s:Shared) (H:Hp) (vs:List V) (Q:VK) (E:XK),ie k (A.deeper (envOfC qual (bw st) s.heap.objs.size f cdv))->sp vs H Q E->
   ∃t,Fg (ig PK P w K mg base N qual (bw st) f cdv A outer s H E).nox (fQ st) t/\t { nx:=λ_ H'=>Q .non H',rt:=Q } (start N vs) H):jd P w K mg base PK (k+1) f fd ps sp:=by
 obtain⟨oc,od,kV,doc,pm,an,cdv,ct,osl,rfl,lk,hcd⟩:=F.ex
 refine Tz lk hcd S len λA outer s H vs Q E hr hsp=>?_
 obtain⟨t,h,q⟩:=hbody cdv A outer s H vs Q E hr hsp
 exact⟨t,h.nox,q⟩
theorem Q7.binds {x qual:Str} {st:Stmt} {f:Addr} {fd:FuncData} {ps:List Str} (F:Q7 K x qual st f fd)
  (h:∀(kV doc pm:Value) (an:Option Addr) (cdv ct:Value) (us:List Value),us.length=ps.length->bindArgs (PySem.W.fnOf x qual (gO st) (fQ st) (bw st) .none kV doc pm an cdv ct) ⟨us,[]⟩=pure (ps.zip us)):Binds K fd ps []:=by
 obtain⟨oc,od,kV,doc,pm,an,cdv,ct,osl,rfl,lk,hcd⟩:=F.ex
 exact .all (h kV doc pm an cdv ct)
theorem Va {x qual:Str} {st:Stmt} {f:Addr} {oc:Value} {od an:Option Addr} {osl:Array (Option Value)} {kV doc pm cdv ct:Value} (l:K.lookup f=some ⟨oc,od,.func (PySem.W.fnOf x qual (gO st) (fQ st) (bw st) .none kV doc pm an cdv ct),osl⟩)
  (c:PySem.W.codeIn K cdv qual=true) (k:PySem.W.keepIn K (.ref f)=true):Q7 K x qual st f (PySem.W.fnOf x qual (gO st) (fQ st) (bw st) .none kV doc pm an cdv ct):=⟨⟨oc,od,kV,doc,pm,an,cdv,ct,osl,rfl,l,c⟩,k⟩
end
section
variable {X:Cx}
theorem pv (i:Nat) {x:Str} {pos:Pos} (hN:X.N[i]?=some x:=by rfl) (hv:Xu X.env.scope x:=by first | exact Or.inl rfl | exact Or.inr (Or.inl rfl) | exact Or.inr (Or.inr rfl)) (hd:(x == ("__debug__" :Str))=false:=by decide)
  (hcd:(x == ("__classdict__" :Str))=false:=by decide):PE X (.Name x pos) (Km i):=U6 hN hv hd hcd
end
theorem bW {A B:Prop} (h:B):if false=true then A else B:=by
 rw [if_neg Bool.false_ne_true]
 exact h
theorem bK {A B:Prop} (h:A):if true=true then A else B:=by
 rw [if_pos rfl]
 exact h
theorem dN {c A B:Prop} [Decidable c] (h1:c->A) (h2:¬c->B):if c then A else B:=by
 by_cases h:c
 ·rw [if_pos h]
  exact h1 h
 ·rw [if_neg h]
  exact h2 h
noncomputable def aM (H H':Hp):Prop:=∀b o,H b=some o->H' b=some o
theorem aM.refl (H:Hp):aM H H:=λ_ _ h=>h
theorem aM.trans {H H1 H2:Hp} (a:aM H H1) (b:aM H1 H2):aM H H2:=λc o h=>b c o (a c o h)
theorem aM.free {H H':Hp} (e:aM H H') {l:Addr} (h:H' l=Option.none):H l=Option.none:=by
 cases q:H l with
 | none=>rfl
 | some o=>
  rw [e l o q] at h
  cases h
theorem aM.seq {K:PySem.W.Frag} {H H':Hp} {a:Addr} {xs:List V} (e:aM H H') (h:bH K H a xs):bH K H' a xs:=by
 rcases h with (h | ⟨o,h⟩) | h
 ·exact .inl (.inl (e _ _ h))
 ·exact .inl (.inr ⟨o,e _ _ h⟩)
 ·exact .inr h
end L2
set_option maxHeartbeats 4000000
namespace L2
open PySem PySem.Spec PyProof.Rows
theorem En {P:Program} {w:World} {H:Hp} {h:Heap} {a:Addr} {o:HO} (x:rK P w H h) (hn:H a=none) (new:cV P w (upd H a o) h a o):rK P w (upd H a o) h:=λb u e=>by
 by_cases hb:b=a
 ·subst hb;rw [aq] at e;cases e;exact new
 ·rw [aD hb] at e
  exact(x b u e).stay (λc v _ q=>q) (λc q=>by rw [aD (aB q hn)];exact q) λc xs q=>by rw [aD (aB q hn)];exact q
theorem CP {α β:Type} {f:α->β->Sem (ForInStep β)} (g:α->β->β):∀(l:List α) (c:β),(∀x∈l,∀c,f x c=pure (.yield (g x c)))->forIn l c f=pure (l.foldl (λc x=>g x c) c)
 | [],_,_=>rfl
 | x:: l,c,h=>by
  rw [List.forIn_cons,h x List.mem_cons_self,pure_bind]
  exact CP g l (g x c) λy hy=>h y (List.mem_cons_of_mem _ hy)
noncomputable def vp (env:Env) (x:Str×NameKind) (cs:List (Str×Addr)):List (Str×Addr):=
 if x.2=.free then(match env.cells.lookup x.1 with | some c=>(x.1,c):: cs | none=>cs) else cs
noncomputable def clos (env:Env) (l:List (Str×NameKind)) (c:List (Str×Addr)):List (Str×Addr):=l.foldl (λc x=>vp env x c) c
theorem oR {env:Env} {scope:Scope} (h:∀y∈scope.names,y.2=.free->∃c,env.cells.lookup y.1=some c):closureFor scope env=pure (clos env scope.names []):=by
 simp only [closureFor]
 rw [CP (vp env) scope.names [] λx hx c=>?_]
 ·rfl
 ·obtain⟨n,k⟩:=x
  by_cases hk:k=.free
  ·subst hk
   obtain⟨a,ha⟩:=h _ hx rfl
   have ha':env.cells.lookup n=some a:=ha
   simp [cellOf,ha',vp]
  ·have:(k == NameKind.free)=false:=by simpa using hk
   simp [this,vp,hk]
theorem IW {env:Env}:∀(l:List (Str×NameKind)) (c:List (Str×Addr)),(∀y a,c.lookup y=some a->env.cells.lookup y=some a)->∀y a,(clos env l c).lookup y=some a->env.cells.lookup y=some a
 | [],_,h=>h
 | x:: l,c,h=>by
  refine IW l (vp env x c) λy a e=>?_
  unfold vp at e
  by_cases hk:x.2=.free
  ·rw [if_pos hk] at e
   cases q:env.cells.lookup x.1 with
   | none=>rw [q] at e;exact h y a e
   | some b=>
    rw [q] at e
    by_cases hy:(y == x.1)=true
    ·have:y=x.1:=by simpa using hy
     subst this
     have e':((x.1,b):: c).lookup x.1=some a:=e
     simp [List.lookup_cons] at e'
     rw [q,e']
    ·have hy':(y == x.1)=false:=by simpa using hy
     have e':((x.1,b):: c).lookup y=some a:=e
     rw [List.lookup_cons,hy'] at e'
     exact h y a e'
  ·rw [if_neg hk] at e;exact h y a e
theorem Dm {env:Env}:∀(l:List (Str×NameKind)) (c:List (Str×Addr)) (y:Str),((∃a,c.lookup y=some a)∨∃k∈l,k.1=y/\k.2=.free/\∃a,env.cells.lookup y=some a)->∃a,(clos env l c).lookup y=some a
 | [],_,_,h=>by
  rcases h with h | ⟨k,hk,_⟩
  ·exact h
  ·cases hk
 | x:: l,c,y,h=>by
  refine Dm l (vp env x c) y ?_
  have up:(∃a,c.lookup y=some a)->∃a,(vp env x c).lookup y=some a:=λ⟨a,e⟩=>by
   unfold vp
   split
   ·split
    ·rename_i b q
     by_cases hy:(y == x.1)=true
     ·exact⟨b,by rw [List.lookup_cons,hy]⟩
     ·have hy':(y == x.1)=false:=by simpa using hy
      exact⟨a,by rw [List.lookup_cons,hy'];exact e⟩
    ·exact⟨a,e⟩
   ·exact⟨a,e⟩
  rcases h with h | ⟨k,hk,h1,h2,a,h3⟩
  ·exact .inl (up h)
  ·rcases List.mem_cons.mp hk with e | hk
   ·subst e
    left
    unfold vp
    rw [if_pos h2,h1,h3]
    exact⟨a,by simp [List.lookup_cons]⟩
   ·exact .inr ⟨k,hk,h1,h2,a,h3⟩
theorem rZ (scope:Scope) (env:Env) (y:Str):(relabel scope env).names.lookup y=(scope.names.lookup y).map λk=>if (k == NameKind.free && env.scope.kind == .function && env.kindOf y == some .cell)=true then .cell else k:=by
 show(scope.names.map _).lookup y=_
 induction scope.names with
 | nil=>rfl
 | cons p l ih=>
  obtain⟨n,k⟩:=p
  rw [List.map_cons]
  show List.lookup y ((if (k == NameKind.free && env.scope.kind == .function && env.kindOf n == some .cell)=true then(n,NameKind.cell) else(n,k)):: _)=_
  by_cases hy:(y == n)=true
  ·have:y=n:=by simpa using hy
   subst this
   by_cases hc:(k == NameKind.free && env.scope.kind == .function && env.kindOf y == some .cell)=true
   ·rw [if_pos hc]
    simp only [List.lookup_cons,beq_self_eq_true,Option.map_some]
    rw [if_pos hc]
   ·rw [if_neg hc]
    simp only [List.lookup_cons,beq_self_eq_true,Option.map_some]
    rw [if_neg hc]
  ·have hy':(y == n)=false:=by simpa using hy
   by_cases hc:(k == NameKind.free && env.scope.kind == .function && env.kindOf n == some .cell)=true
   ·rw [if_pos hc]
    simp only [List.lookup_cons,hy']
    exact ih
   ·rw [if_neg hc]
    simp only [List.lookup_cons,hy']
    exact ih
noncomputable def cW (N:List Str) (js:List Nat):List Str:=js.map λj=>(N[j]?).getD Str.empty
noncomputable def dh (σ:St) (js:List Nat):St:=js.map λj=>(σ[j]?).join
noncomputable def yI (X:Cx) (scope:Scope) (x:Str) (js:List Nat) (cl:List (Str×Addr)) (C:Addr) (s:Shared) (H:Hp) (ex:List Addr):Cx where
 prog:=X.prog
 w:=X.w
 K:=X.K
 mg:=X.mg
 base:=X.base
 A:=X.A
 N:=x:: cW X.N js
 s₀:=s
 H₀:=H
 env:=compEnvC scope cl C X.env
 outer:=X.stack
 stack:=X.stack
 ex:=ex
 fn:=λ_=>false
 calm:=X.calm
 pn:=[]
 xe:=λ_ _=>False
noncomputable def PF (X:Cx) (ifs:List Expr) (t:TT):Prop:=
 ∀(pins:List (Addr×Obj)) (s:Shared) (σ:St) (H:Hp) (Q:Bool->Hp->Prop),Inv X pins σ H s->t σ H Q->
  wpAny (model X.prog X.w) X.A (forIn ifs true λc r=>if r=true then do let ok <-isTrue c X.env (eval c X.env);pure (ForInStep.yield ok) else pure (ForInStep.yield r)) (TP X pins σ Q) X.xe s
noncomputable def Wy:TT:=λ_ H Q=>Q true H
theorem ik {X:Cx}:PF X [] Wy:=λ_ _ _ H _ I h=>wpAny_pure ⟨H,I,h⟩
theorem Gr {X:Cx} {c:Expr} {t:TT} (hc:PT X c t):PF X [c] t:=by
 intro pins s σ H Q I h
 rw [List.forIn_cons,if_pos rfl]
 refine wpAny_bind (wpAny_bind (dC (hc pins s σ H Q I h) λb s1 q=>wpAny_pure ?_))
 show wpAny (model X.prog X.w) X.A (pure b) (TP X pins σ Q) X.xe s1
 exact wpAny_pure q
inductive CompEnd (js:List Nat) (tt:TT) (te:TE) (σ:St) (Qd:List V->Hp->Prop) (J:It) (H1:Hp):Prop where
 | mk:∀W:Nat->Nat->List V->Hp->Prop,((∃m,W 0 m [] H1))->(∀i m ys H2,W i m ys H2->
 (J.stop i H2/\ys.length<=sizeLine/\Qd ys H2)∨
 (J.go i H2/\ys.length <sizeLine/\∃N:List V->Hp->Prop,(∀ys' H',N ys' H'->∃m',m' <m/\W (i+1) m' ys' H')/\∀x H3,J.yld i H2 x H3->tt (some x:: dh σ js) H3 λb H4=>
  if b=true then te (some x:: dh σ js) H4 λy H5=>N (ys ++ [y]) H5 else N ys H4))->CompEnd js tt te σ Qd J H1
noncomputable def Tw (js:List Nat) (wi:TI) (tt:TT) (te:TE):TE:=λσ H Q=>wi σ H (CompEnd js tt te σ λys H2=>∀D,H2 D=none->Q (.ref D) (upd H2 D (.lst ys)))
section
variable {X:Cx} {x:Str} {px pos:Pos} {iter elt:Expr} {ifs:List Expr} {scope:Scope} {wi:TI} {tt:TT} {te:TE}
end
section
variable {X:Cx}
theorem pZ:xm X (binaryOp .Mult) (rI IntMulOk λi j=>.int (i * j)):=Xz λ_ _ _ _ _ _ _ hc q=>mul_int q hc
noncomputable def TF (_ j:Int):Prop:=0 <j/\j.natAbs.log2 <9000
theorem cY:xm X (binaryOp .FloorDiv) (rI TF λi j=>.int (i / j)):=Xz λi j _ _ _ _ _ hc q=>by
 have h1:(0:Int) <j:=hc.1
 exact floordiv_int (by lia) (by rw [Int.fdiv_eq_ediv_of_nonneg i (by lia)];exact q) (.inl (PyProof.noPylong_of_log2 hc.2))
theorem jz {i j:Int} (h0:0 <j) (h:j.natAbs <2 ^ 9000):TF i j:=⟨h0,(Nat.log2_lt (by lia)).mpr h⟩
noncomputable def VG (K:PySem.W.Frag) (H:Hp) (x:V) (T:String):Prop:=match x with
 | .non=>T= "NoneType"
 | .bl _=>T= "bool"
 | .int _=>T= "int"
 | .str _=>T= "str"
 | .ref p=>(T= "list" /\∃xs,bH K H p xs)∨(T= "tuple" /\∃xs,d7 K H p xs)∨(T= "dict" /\∃kvs,H p=some (.dK kvs))
 | _=>False
noncomputable def Du (a b:String):Bool:=a == b || (a == "bool" && b == "int")
noncomputable def LK:List String:=["int", "bool", "str", "list", "tuple", "dict"]
noncomputable def gM:List String:=["NoneType", "bool", "int", "str", "list", "tuple", "dict"]
theorem Qp:∀T∈LK,PySem.W.kitMeta T=true:=by decide +kernel
theorem Rx:∀a∈gM,∀b∈LK,(PySem.fastBuiltinMro a).map (·.contains (.type b))=some (Du a b):=by decide +kernel
theorem R5 (K:PySem.W.Frag) {a b:String} (ha:a∈gM) (hb:b∈LK):PySem.W.kitOne K (.type a) (.type b)=some (Du a b):=by
 unfold PySem.W.kitOne
 by_cases h:(Value.type a == Value.type b)=true
 ·rw [if_pos h]
  have e:a=b:=by
   have:=beq_iff_eq.mp h
   injection this
  subst e
  simp [Du]
 ·rw [if_neg h]
  show(if PySem.W.kitMeta b=true then PySem.W.subIn K (.type a) (.type b) else none)=_
  rw [if_pos (Qp b hb)]
  exact Rx a ha b hb
theorem pF:mQ X (.builtin "isinstance") (λxs H Q=>∃x Tx T b,xs=[x,.ty T]/\VG X.K H x Tx/\T∈LK/\Du Tx T=b/\Q (.bl b) H):=by
 intro pins s σ H xs us Q I r h
 obtain⟨x,Tx,T,b,rfl,ty,hT,rfl,q⟩:=h
 obtain⟨u,w',rfl,rx,ry⟩:=vals2 r
 cases ry
 have fin:∀{b:Bool},b=Du Tx T->∀tk,EP X pins σ Q (.bool b) { s with toks:=tk }:=λe tk=>⟨.bl (Du Tx T),H,I.tok tk,by rw [e];rfl,q⟩
 have go:∀{P:Heap->Prop},PySem.W.KitX X.K u (.type Tx) P->P s.heap->Tx∈gM->u≠.builtin "__main__.__loader__#opaque" ->wpAny (model X.prog X.w) X.A (call (.builtin "isinstance") [u,.type T]) (EP X pins σ Q) X.xe s:=λZ p hm hx=>
  PySem.W.kia_one Z I.kIn p (R5 X.K hm hT) hx λtk=>fin rfl tk
 cases x with
 | non=>cases rx;cases (show Tx= "NoneType" from ty);exact go PySem.W.kitx_none trivial (by decide) (by intro e;cases e)
 | bl b=>cases rx;cases (show Tx= "bool" from ty);exact go PySem.W.kitx_bool trivial (by decide) (by intro e;cases e)
 | int i=>obtain⟨t,rfl⟩:=rx;cases (show Tx= "int" from ty);exact go PySem.W.kitx_int trivial (by decide) (by intro e;cases e)
 | str z=>obtain⟨t,rfl⟩:=rx;cases (show Tx= "str" from ty);exact go PySem.W.kitx_str trivial (by decide) (by intro e;cases e)
 | ref p=>
  cases rx
  rcases ty with ⟨rfl,ys,hq⟩ | ⟨rfl,ys,hq⟩ | ⟨rfl,kvs,hq⟩
  ·obtain⟨its,_,pl,_⟩:=I.list hq
   obtain⟨o,n,e,c,_,_⟩:=pl
   exact go PySem.W.kitx_list ⟨o,e,c⟩ (by decide) (by intro e;cases e)
  ·obtain⟨its,_,⟨o,e,c,_⟩,_⟩:=I.tuple hq
   exact go PySem.W.kitx_tuple ⟨o,e,c⟩ (by decide) (by intro e;cases e)
  ·obtain⟨_,_,_,_,o,_,_,e,ex,_⟩:=I.hok p _ hq
   exact go PySem.W.kitx_dict ⟨o,e,ex.1⟩ (by decide) (by intro e;cases e)
 | _=>exact(show False from ty).elim
inductive Qn (K:PySem.W.Frag) (x:V) (xs:List V) (H:Hp) (Q:VK):Prop where
 | mk:∀z p ys,x=.str z->xs=[.ref p]->bH K H p (ys.map V.str)->(ys.map (·.length)).sum+ys.length * z.length<=16777216->Q (.str (Txt.join z ys)) H->Qn K x xs H Q
noncomputable def rJoin (K:PySem.W.Frag):V->List V->Hp->VK->Prop:=λx xs H Q=>Qn K x xs H Q
theorem CZ:∀{ys:List Str} {us:List Value},Vals (ys.map V.str) us->StrsAre us ys
 | [],us,r=>by rw [List.map_nil] at r;cases r;exact .nil
 | y:: ys,us,r=>by
  rw [List.map_cons] at r
  cases r with
  | cons r1 r2=>
   obtain⟨t,e⟩:=r1
   subst e
   exact .cons y t (CZ r2)
theorem RK:X8 X "str.join" (rJoin X.K):=by
 intro pins s σ H x xs v us Q I rx rs h
 obtain⟨z,p,ys,rfl,rfl,hq,hz,q⟩:=h
 obtain⟨t,rfl⟩:=rx
 obtain⟨u,rfl,ru⟩:=vals1 rs
 cases ru
 obtain⟨its,rv,pl,_⟩:=I.list hq
 exact join_list (items:=its.toArray) pl.isList (by simpa using CZ rv) hz λt' k=>⟨.str (Txt.join z ys),H,I.tok k,⟨_,rfl⟩,q⟩
end
theorem Nq:bootBuiltins "int" =some (.type "int"):=by decide +kernel
theorem Lb:bootBuiltins "bool" =some (.type "bool"):=by decide +kernel
theorem qN:bootBuiltins "str" =some (.type "str"):=by decide +kernel
theorem qt:bootBuiltins "list" =some (.type "list"):=by decide +kernel
theorem j8:bootBuiltins "tuple" =some (.type "tuple"):=by decide +kernel
theorem cj:bootBuiltins "len" =some (.builtin "len"):=by decide +kernel
theorem fX:bootBuiltins "isinstance" =some (.builtin "isinstance"):=by decide +kernel
theorem Om:bootBuiltins "max" =some (.builtin "max"):=by decide +kernel
theorem Kz:bootBuiltins "all" =some (.builtin "all"):=by decide +kernel
section
variable {X:Cx} {pos:Pos}
theorem jV {x:Str} {v:V} (hg:Gl X x) (hm:∃u,X.mg x=some u/\RelV v u) (hd:(x == ("__debug__" :Str))=false:=by decide):PE X (.Name x pos) (tC v):=by
 obtain⟨u,h1,h2⟩:=hm
 exact Gh hg h1 h2 hd
theorem uM {x:Str} {T:String} (hg:Gl X x) (hm:X.mg x=none) (hv:bootBuiltins x=some (.type T)) (hn:x≠ "__name__" :=by decide) (hd:(x == ("__debug__" :Str))=false:=by decide):PE X (.Name x pos) (tC (.ty T)):=
 R7 hg hm hv rfl hn hd
end
theorem nj {a b:Int} (h: -(2 ^ 64) <a/\a <2 ^ 64:=by decide):IntMulOk a b:=.of_left (intBits_le_64 h.1 h.2)
theorem Gf {a b:Int} (h: -(2 ^ 64) <b/\b <2 ^ 64:=by decide):IntMulOk a b:=.of_right (intBits_le_64 h.1 h.2)
inductive Qz (t:TS) (D:Ends) (σ:St) (H:Hp):Prop where
 | mk:∀J:St->Hp->Prop,t { D with nx:=J } σ H->(∀σ' H',J σ' H'->D.nx σ' H')->Qz t D σ H
noncomputable def Te (t:TS):TS:=λD σ H=>Qz t D σ H
theorem bM {X:Cx} {st:Stmt} {t:TS} (h:PS X st t):PS X st (Te t):=by
 intro pins s σ H D I hw
 obtain⟨J,h1,h2⟩:=hw
 refine dC (h pins s σ H { D with nx:=J } I h1) λf s1 q=>?_
 cases f with
 | next=>obtain⟨σ',H',I',q⟩:=q;exact⟨σ',H',I',h2 _ _ q⟩
 | ret v=>exact q
 | brk=>exact q
 | cont=>exact q
theorem dj {c A B:Prop} [Decidable c] (hc:¬c) (h:B):if decide c=true then A else B:=by rw [decide_eq_false hc];exact bW h
theorem Ad {c A B:Prop} [Decidable c] (hc:c) (h:A):if decide c=true then A else B:=by rw [decide_eq_true hc];exact bK h
mutual
inductive Dt (K:PySem.W.Frag) (H:Hp):V->PyData->Prop
 | non:Dt K H .non .none
 | bl (b:Bool):Dt K H (.bl b) (.bool b)
 | int (i:Int):Dt K H (.int i) (.int i)
 | str (x:Str):Dt K H (.str x) (.str x)
 | list {p:Addr} {xs:List V} {ds:List PyData}:bH K H p xs->JF K H xs ds->Dt K H (.ref p) (.list ds)
 | tuple {p:Addr} {xs:List V} {ds:List PyData}:d7 K H p xs->JF K H xs ds->Dt K H (.ref p) (.tuple ds)
inductive JF (K:PySem.W.Frag) (H:Hp):List V->List PyData->Prop
 | nil:JF K H [] []
 | cons {x:V} {xs:List V} {d:PyData} {ds:List PyData}:Dt K H x d->JF K H xs ds->JF K H (x:: xs) (d:: ds)
end
section
variable {X:Cx} {pins:List (Addr×Obj)} {σ:St} {H:Hp} {s:Shared}
mutual
theorem Dt.reads (I:Inv X pins σ H s):∀{x:V} {d:PyData},Dt X.K H x d->∀{u:Value},RelV x u->∃as,Reads s.heap u d as
 | _,_,.non,_,r=>by cases r;exact⟨_,.none⟩
 | _,_,.bl b,_,r=>by cases r;exact⟨_,.bool b⟩
 | _,_,.int i,_,r=>by obtain⟨t,rfl⟩:=r;exact⟨_,.int i t⟩
 | _,_,.str x,_,r=>by obtain⟨t,rfl⟩:=r;exact⟨_,.str x t⟩
 | _,_,.list hq hd,_,r=>by
  cases r
  obtain⟨its,rv,⟨o,n,e,c,_,d⟩,_⟩:=I.list hq
  obtain⟨as,q⟩:=JF.reads I hd rv
  exact⟨_,.list e c d (by simpa using q)⟩
 | _,_,.tuple hq hd,_,r=>by
  cases r
  obtain⟨its,rv,⟨o,e,c,n,d⟩,_⟩:=I.tuple hq
  obtain⟨as,q⟩:=JF.reads I hd rv
  exact⟨_,.tuple e c d (by simpa using q)⟩
theorem JF.reads (I:Inv X pins σ H s):∀{xs:List V} {ds:List PyData},JF X.K H xs ds->∀{us:List Value},Vals xs us->∃as,ReadsAll s.heap us ds as
 | _,_,.nil,_,r=>by cases r;exact⟨_,.nil⟩
 | _,_,.cons h t,_,r=>by
  cases r with
  | cons r1 r2=>
   obtain⟨as,q⟩:=Dt.reads I h r1
   obtain⟨bs,q'⟩:=JF.reads I t r2
   exact⟨_,.cons q q'⟩
end
inductive Tv (K:PySem.W.Frag) (x:V) (y:V) (H:Hp) (Q:VK):Prop where
 | mk:∀da db,Dt K H x da->Dt K H y db->SeqAt.shaped da=true->SeqAt.shaped db=true->Q (.bl (PyData.eqv da db)) H->Tv K x y H Q
noncomputable def Yd (K:PySem.W.Frag):R2:=λx y H Q=>Tv K x y H Q
inductive Tn (K:PySem.W.Frag) (x:V) (y:V) (H:Hp) (Q:VK):Prop where
 | mk:∀da db,Dt K H x da->Dt K H y db->SeqAt.shaped da=true->SeqAt.shaped db=true->Q (.bl (!PyData.eqv da db)) H->Tn K x y H Q
noncomputable def Wh (K:PySem.W.Frag):R2:=λx y H Q=>Tn K x y H Q
theorem GF (hu:X.A.units+64 <cLine):xm X (compareOp .Eq) (Yd X.K):=by
 intro pins s σ H x y v u Q I rx ry h
 obtain⟨da,db,h1,h2,s1,s2,q⟩:=h
 obtain⟨as,r1⟩:=h1.reads I rx
 obtain⟨bs,r2⟩:=h2.reads I ry
 exact eq_dataH r1 r2 s1 s2 hu (cC I q rfl)
theorem vX (hu:X.A.units+64 <cLine):xm X (compareOp .NotEq) (Wh X.K):=by
 intro pins s σ H x y v u Q I rx ry h
 obtain⟨da,db,h1,h2,s1,s2,q⟩:=h
 obtain⟨as,r1⟩:=h1.reads I rx
 obtain⟨bs,r2⟩:=h2.reads I ry
 exact ne_dataH r1 r2 s1 s2 hu (cC I q rfl)
end
noncomputable def Xw (x:Str):It:=⟨λi _=>i <x.cps.size,λi H v H'=>H'=H/\∃c,x.cps[i]?=some c/\v=.str ⟨#[c]⟩,λi _=>x.cps.size<=i⟩
theorem Ik {P:Program} {w:World} {K:PySem.W.Frag} {tg:Expr} (it:Addr) (x:Str) (t:Tok) {ty:String} (hty:ty= "str_ascii_iterator" ∨ty= "str_iterator"):Turn P w K tg (Xw x) [it] it (λi h=>h.IsStrIter it ty x t i) where
 mem:=by simp
 obj:=λi h st b hb=>by
  have e:b=it:=by simpa using hb
  subst e
  obtain⟨o,e,c,d⟩:=st
  exact⟨o,e,λv z=>by rw [d] at z;cases z⟩
 keep:=λi h h' st k=>by
  obtain⟨o,e,r⟩:=st
  exact⟨o,k it (by simp) o e,r⟩
 item:=by
  intro X hP hw hK hc i pins s σ H E I hf st hg
  subst hP hw hK
  obtain⟨f0,f1,f2,f3,f4,f5⟩:=hf it (by simp)
  have fin:∀(v:Value) (h':Heap) (tk:Nat),SignAt x i v->h'.IsStrIter it ty x t (i+1)->(∀b o,b∉[it]->s.heap.get? b=some o->h'.get? b=some o)->
    ∃u,some v=some u/\wpAny (model X.prog X.w) X.A (letOwnedTupleGo tg (.ref it) u) (λ_ s2=>∃x' H',Inv X pins σ H' s2/\RelV x' u/\(Xw x).yld i H x' H'/\s2.heap.IsStrIter it ty x t (i+1)/\∀b∈[it],H' b=none) E { s with heap:=h',toks:=tk }:=by
   intro v h' tk hv st' kk
   obtain⟨c,u,hcc,rfl⟩:=hv
   have I1:Inv X pins σ H { s with heap:=h',toks:=tk }:=I.turned (λb o hb e=>kk b o (by simpa using hb) e) f0 f1 f3 f4 f5
   obtain⟨o,e,c',d⟩:=id st'
   refine⟨_,rfl,FT (s:={ s with heap:=h',toks:=tk }) (n:=ty) e c' d (by rcases hty with rfl | rfl <;> decide) ⟨.str ⟨#[c]⟩,H,I1,⟨u,rfl⟩,⟨rfl,c,hcc,rfl⟩,st',λb hb=>(hf b hb).1⟩⟩
  rcases hty with rfl | rfl
  ·exact(Walks.strAscii (prog:=X.prog) (w:=X.w) (I.ok.hd hc) it x t).item i s _ _ hg st λv h' tk hv st' kk=>fin v h' tk hv st' kk
  ·exact(Walks.strWide (prog:=X.prog) (w:=X.w) (I.ok.hd hc) it x t).item i s _ _ hg st λv h' tk hv st' kk=>fin v h' tk hv st' kk
 done:=by
  intro X hP hw hK hc i pins s σ H E I hf st hg
  subst hP hw hK
  obtain⟨f0,f1,f2,f3,f4,f5⟩:=hf it (by simp)
  have hx:x.cps[i]?=none:=by
   have hg':x.cps.size<=i:=hg
   simp;lia
  rcases hty with rfl | rfl
  ·exact wpAny_pyNext_ascii_end (I.ok.hd hc) st hx λh' eb=>⟨rfl,I.turned (t':=s.toks) (λb o hb e=>eb b o hb e) f0 f1 f3 f4 f5⟩
  ·exact wpAny_pyNext_wide_end (I.ok.hd hc) st hx λh' eb=>⟨rfl,I.turned (t':=s.toks) (λb o hb e=>eb b o hb e) f0 f1 f3 f4 f5⟩
 self:=λ_ _ _ _ _ st h=>by
  rcases hty with rfl | rfl
  ·exact wpAny_pyIter_striter_ascii st h
  ·exact wpAny_pyIter_striter_wide st h
section
variable {X:Cx} {tg:Expr}
inductive Sx (R:It->Hp->Prop) (x:V) (H1:Hp):Prop where
 | mk:∀z,x=.str z->R (Xw z) H1->Sx R x H1
noncomputable def Ys (tl:TE):TI:=λσ H R=>tl σ H λx H1=>Sx R x H1
theorem Nv {l:Expr} {tl:TE} (hl:PE X l tl):PI X tg l (Ys tl):=by
 intro pins s σ H R I h
 refine dC (hl pins s σ H _ I h) λv s1 hpt=>?_
 obtain⟨x,H1,I1,r1,q1⟩:=hpt
 obtain⟨z,e,q⟩:=q1
 subst e
 obtain⟨t,rfl⟩:=r1
 cases ha:z.cps.all (· <128)
 ·refine wpAny_pyIter_wide ha ?_
  refine⟨s1.heap.objs.size,[s1.heap.objs.size],_,_,H1,rfl,I1.kept (t':=s1.toks) λb o e=>Heap.get?_push_of_some _ e,Ik _ z t (ty:= "str_iterator") (.inr rfl),⟨_,Heap.get?_push_size _ rfl,rfl,rfl⟩,λb hb=>?_,q⟩
  have e:b=s1.heap.objs.size:=by simpa using hb
  subst e
  exact I1.fpOk (Nat.le_refl _) (I1.hok.fresh (Nat.le_refl _))
 ·refine wpAny_pyIter_ascii ha ?_
  refine⟨s1.heap.objs.size,[s1.heap.objs.size],_,_,H1,rfl,I1.kept (t':=s1.toks) λb o e=>Heap.get?_push_of_some _ e,Ik _ z t (ty:= "str_ascii_iterator") (.inl rfl),⟨_,Heap.get?_push_size _ rfl,rfl,rfl⟩,λb hb=>?_,q⟩
  have e:b=s1.heap.objs.size:=by simpa using hb
  subst e
  exact I1.fpOk (Nat.le_refl _) (I1.hok.fresh (Nat.le_refl _))
end
theorem yes {A B:Hp->Prop} {σ:St} {H:Hp} (h:A H):Wy σ H (λb H4=>if b=true then A H4 else B H4):=by
 show if true=true then A H else B H
 exact bK h
section
variable {js:List Nat} {tt:TT} {te:TE} {σ:St} {Qd:List V->Hp->Prop}
theorem qF {lo:Int} {n:Nat} {H:Hp} (Pv:Nat->List V->Hp->Prop) (hn:n<=sizeLine) (h0:Pv 0 [] H) (hl:∀i ys H,Pv i ys H->ys.length<=i)
  (hs:∀i ys H,i <n->Pv i ys H->tt (some (.int (lo+i)):: dh σ js) H λb H4=>if b=true then te (some (.int (lo+i)):: dh σ js) H4 λy H5=>Pv (i+1) (ys ++ [y]) H5 else Pv (i+1) ys H4)
  (hd:∀ys H,Pv n ys H->Qd ys H):CompEnd js tt te σ Qd (Vm lo n) H:=by
 refine⟨λi m ys H=>m=n - i/\i<=n/\Pv i ys H,⟨n,by simp,Nat.zero_le _,h0⟩,?_⟩
 rintro i m ys H ⟨rfl,hi,p⟩
 have hlen:=hl i ys H p
 by_cases hlt:i <n
 ·refine .inr ⟨hlt,by lia,Pv (i+1),λys' H' p'=>⟨n - (i+1),by lia,rfl,hlt,p'⟩,λx H' y=>?_⟩
  obtain⟨e,y⟩:=y
  subst e y
  exact hs i ys _ hlt p
 ·have e:i=n:=by lia
  subst e
  exact .inl ⟨Nat.le_refl _,by lia,hd ys H p⟩
theorem jD {K:PySem.W.Frag} {a:Addr} {xs:List V} {H:Hp} (Pv:Nat->List V->Hp->Prop) (hn:xs.length<=sizeLine) (h0:Pv 0 [] H) (hl:∀i ys H,Pv i ys H->ys.length<=i) (hq:∀i ys H,i<=xs.length->Pv i ys H->bH K H a xs)
  (hs:∀i x ys H,xs[i]?=some x->Pv i ys H->tt (some x:: dh σ js) H λb H4=>if b=true then te (some x:: dh σ js) H4 λy H5=>Pv (i+1) (ys ++ [y]) H5 else Pv (i+1) ys H4)
  (hd:∀ys H,Pv xs.length ys H->Qd ys H):CompEnd js tt te σ Qd (Vo K a) H:=by
 refine⟨λi m ys H=>m=xs.length - i/\i<=xs.length/\Pv i ys H,⟨xs.length,by simp,Nat.zero_le _,h0⟩,?_⟩
 rintro i m ys H ⟨rfl,hi,p⟩
 have hlen:=hl i ys H p
 have q:=hq i ys H hi p
 by_cases hlt:i <xs.length
 ·refine .inr ⟨⟨xs,xs[i],q,by simp [hlt]⟩,by lia,Pv (i+1),λys' H' p'=>⟨xs.length - (i+1),by lia,rfl,hlt,p'⟩,λx H' y=>?_⟩
  obtain⟨e,y⟩:=y
  subst e
  exact hs i x ys _ (y xs q) p
 ·have e:i=xs.length:=by lia
  subst e
  exact .inl ⟨⟨xs,q,Nat.le_refl _⟩,by lia,hd ys H p⟩
theorem Jb {z:Str} {H:Hp} (Pv:Nat->List V->Hp->Prop) (hn:z.cps.size<=sizeLine) (h0:Pv 0 [] H) (hl:∀i ys H,Pv i ys H->ys.length<=i)
  (hs:∀i c ys H,z.cps[i]?=some c->Pv i ys H->tt (some (.str ⟨#[c]⟩):: dh σ js) H λb H4=>if b=true then te (some (.str ⟨#[c]⟩):: dh σ js) H4 λy H5=>Pv (i+1) (ys ++ [y]) H5 else Pv (i+1) ys H4)
  (hd:∀ys H,Pv z.cps.size ys H->Qd ys H):CompEnd js tt te σ Qd (Xw z) H:=by
 refine⟨λi m ys H=>m=z.cps.size - i/\i<=z.cps.size/\Pv i ys H,⟨z.cps.size,by simp,Nat.zero_le _,h0⟩,?_⟩
 rintro i m ys H ⟨rfl,hi,p⟩
 have hlen:=hl i ys H p
 by_cases hlt:i <z.cps.size
 ·refine .inr ⟨hlt,by lia,Pv (i+1),λys' H' p'=>⟨z.cps.size - (i+1),by lia,rfl,hlt,p'⟩,λx H' y=>?_⟩
  obtain⟨e,c,hc,y⟩:=y
  subst e y
  exact hs i c ys _ hc p
 ·have e:i=z.cps.size:=by lia
  subst e
  exact .inl ⟨Nat.le_refl _,by lia,hd ys H p⟩
end
section
variable {X:Cx}
inductive Tq (x:V) (lo:Option Int) (hi:Option Int) (H:Hp) (Q:VK):Prop where
 | mk:∀z,x=.str z->z.length<=sizeLine->Q (.str (Txt.slice z lo hi)) H->Tq x lo hi H Q
noncomputable def YK:V->Option Int->Option Int->Hp->VK->Prop:=λx lo hi H Q=>Tq x lo hi H Q
theorem PX:W3 X YK:=by
 intro pins s σ H x v vl vu lo hi sl Q I rx hs pl pu h
 obtain⟨z,rfl,hz,q⟩:=h
 obtain⟨t,rfl⟩:=rx
 refine⟨"str",_,PySem.F.slot_str_getitem.lookup,typeIs_str _ _ _,?_⟩
 have fin:∀t' k,EP X pins σ Q (.str (Txt.slice z lo hi) t') { s with toks:=k }:=λt' k=>⟨.str _,H,I.tok k,⟨_,rfl⟩,q⟩
 cases pl with
 | none=>
  cases pu with
  | none=>exact wpAny_getItem_str_slice (l:=none) (u:=none) (st:=none) hs rfl (post_val_or_str ⟨Nat.le_trans (Txt.slice_le z _ _) hz,fin⟩)
  | int j tj=>exact wpAny_getItem_str_slice (l:=none) (u:=some (j,tj)) (st:=none) hs rfl (post_val_or_str ⟨Nat.le_trans (Txt.slice_le z _ _) hz,fin⟩)
 | int i ti=>
  cases pu with
  | none=>exact wpAny_getItem_str_slice (l:=some (i,ti)) (u:=none) (st:=none) hs rfl (post_val_or_str ⟨Nat.le_trans (Txt.slice_le z _ _) hz,fin⟩)
  | int j tj=>exact wpAny_getItem_str_slice (l:=some (i,ti)) (u:=some (j,tj)) (st:=none) hs rfl (post_val_or_str ⟨Nat.le_trans (Txt.slice_le z _ _) hz,fin⟩)
theorem BR (hc:X.calm=true):mQ X (.builtin "all") (λxs H Q=>∃(p:Addr) (bs:List Bool),xs=[.ref p]/\bH X.K H p (bs.map V.bl)/\Q (.bl (bs.all id)) H):=by
 intro pins s σ H xs us Q I r h
 obtain⟨p,bs,rfl,hq,q⟩:=h
 obtain⟨u,rfl,rx⟩:=vals1 r
 cases rx
 obtain⟨its,rv,pl,_⟩:=I.list hq
 have hl:=pl.isList
 have hlt:p <s.heap.objs.size:=by obtain⟨_,e,_⟩:=hl;exact Heap.lt_size e
 have hb:∀i v,its[i]?=some v->∃b,bs[i]?=some b/\v=Value.bool b:=λi v e=>by
  have hi:i <its.length:=(List.getElem?_eq_some_iff.mp e).1
  have hi':i <bs.length:=by have:=rv.length;rw [List.length_map] at this;lia
  obtain⟨u,e',r'⟩:=rv.get (i:=i) (x:=.bl bs[i]) (by rw [List.getElem?_map,List.getElem?_eq_getElem hi'];rfl)
  rw [e] at e'
  cases e'
  exact⟨bs[i],List.getElem?_eq_getElem hi',r'⟩
 refine call_all_walk (wpAny_pyIter_list hl ?_)
 refine⟨s.heap.objs.size,[s.heap.objs.size,p],[s.heap.objs.size],its.toArray.size,_,_,λi=>(bs[i]?).getD true,rfl,Walks.list (A:=X.A.in1) (I.ok.hd hc) _ p (Nat.ne_of_lt hlt) its.toArray,
  ⟨⟨_,Heap.get?_push_size _ rfl,rfl,rfl⟩,hl.push _⟩,λi v s' Q' E' hP hQ=>?_,λh' tk hk=>?_⟩
 ·obtain⟨b,e,rfl⟩:=hb i v (by simpa using hP)
  simp only [e,Option.getD_some] at hQ
  exact wpAny_truthy_bool hQ
 ·have e:((List.range its.toArray.size).all λi=>(bs[i]?).getD true)=bs.all id:=by
   have hlen:=rv.length
   rw [List.length_map] at hlen
   rw [List.size_toArray,<-hlen];exact LSm.range_all bs
  rw [e]
  exact⟨.bl _,H,I.kept (LSm.kept_iter hk),rfl,q⟩
end
end L2
namespace L2
open PySem PySem.StrLaws PySem.Builtin PySem.Builtin.Str
end L2
namespace L2
open PySem
theorem aC {H:L2.Hp} {p:Addr} {o:L2.HO} (hp:H p=none):L2.aM H (L2.upd H p o):=λb o' e=>by rw [L2.aD (L2.aB e hp)];exact e
end L2
namespace L2
open PySem PySem.SeqAt
open AutoSeq1 (wpAny_loadPart')
open MeetsSeq MeetsSeq2 MeetsSeq3 SeqRoads2
section
variable {A:Around} {s:Shared}
end
open PySem.Spec PyProof.Rows
end L2
namespace L2
open PySem PySem.Spec PyProof.Rows
structure MethAt (P:Program) (w:World) (K:PySem.W.Frag) (mg:Str->Option Value) (base:Heap) (CX:DX) (k:Nat) (C:Addr) (m:Str) (sp:Sp):Prop where
 ex:∃(f:Addr) (fd:FuncData) (ps:List Str),QT K C/\Meth K C m f/\Binds K fd ps []/\jd P w K mg base CX k f fd ps sp
inductive Ld (P:Program) (w:World) (K:PySem.W.Frag) (mg:Str->Option Value) (base:Heap) (CX:DX) (k:Nat) (m:Str) (E:XK) (t:TA) (σ:St) (Q:VK) (x:V) (H1:Hp):Prop where
 | mk:∀a C dx fs sp,x=.ref a->H1 a=some (.ins C dx fs)->fs.lookup m=none->MethAt P w K mg base CX k C m sp->(t σ H1 λvs H2=>sp (x:: vs) H2 Q E)->Ld P w K mg base CX k m E t σ Q x H1
noncomputable def VM (P:Program) (w:World) (K:PySem.W.Frag) (mg:Str->Option Value) (base:Heap) (CX:DX) (k:Nat) (m:Str) (E:XK) (ta:TE) (t:TA):TE:=λσ H Q=>ta σ H λx H1=>Ld P w K mg base CX k m E t σ Q x H1
section
variable {X:Cx} {CX:DX} {k:Nat} {E:XK} {m:Str} {pos apos:Pos} {e o:Expr} {es:List Expr} {ta:TE} {t:TA}
theorem Nk {pl:Sem Bool} (he:PE X o ta) (hr:ie k X.A) (hx:kY CX X E)
  (ht:eval (.Call (.Attribute o m apos) [] [] pos) X.env=(do
   let ov <-eval o X.env
   standAt apos.atName
   let (f,first) <-holding [ov] (getMethod ov m pl)
   callWith pos f first (backTo pos (starEach [] X.env)) (backToKw pos (keywordEach [] X.env))):=by rfl):
  PE X (.Call (.Attribute o m apos) [] [] pos) (VM X.prog X.w X.K X.mg X.base CX k m E ta IV):=by
 intro pins s σ H Q I h
 refine PySem.W.methodCall_KW (pl:=pl) (dC (he pins s σ H _ I h) λu s1 hpt=>?_) ht
 obtain⟨x,H1,I1,rx,a,C,dx,fs,sp,ex,ea,l,⟨f,fd,ps,c,hm,hb,F⟩,q⟩:=hpt
 subst ex
 obtain rfl:u=Value.ref a:=rx
 refine Bx I1 ea c hm l ?_
 exact PySem.W.callWith_K0 (first:=[.ref a]) I1.kIn hm.kp (Ht (us:=[.ref a]) (vs:=[.ref a]) (ds:=[]) (dvs:=[]) F hr hb .nil hx I1 (.cons rfl .nil) (by rw [List.append_nil];exact q))
end
section
variable {X:Cx}
end
inductive iZ (w:World) (K:PySem.W.Frag):List DictEntry->List (Str×List Int)->Prop
 | nil:iZ w K [] []
 | cons {x:Str} {t:Tok} {ad:Addr} {ns:List Int} {es:List DictEntry} {rows:List (Str×List Int)} {h:Int} {its:Array Value} {n:Nat} {o:Obj}:
   h=hashStr w x->K.lookup ad=some o->o.cls=.type "tuple" ->o.data=.seq its n->Vals (ns.map V.int) its.toList->ns.length<=1000->iZ w K es rows->iZ w K (⟨h,.str x t,.ref ad⟩:: es) ((x,ns):: rows)
inductive KTab (w:World) (K:PySem.W.Frag) (a:Addr) (rows:List (Str×List Int)):Prop where
 | mk:∀(o:Obj) (es:Array DictEntry) (ep:Nat),K.lookup a=some o->o.cls=.type "dict" ->o.dict=none->o.slots= #[]->o.data=.dict es ep->(a == sysModules)=false->iZ w K es.toList rows->(rows.map (·.1)).Nodup->KTab w K a rows
theorem KTab.mk' {w:World} {K:PySem.W.Frag} {a:Addr} {rows:List (Str×List Int)} {o:Obj} {es:Array DictEntry} {ep:Nat} (lk:K.lookup a=some o) (c1:o.cls=.type "dict") (c2:o.dict=none) (c3:o.slots= #[]) (c4:o.data=.dict es ep) (sm:(a == sysModules)=false)
  (rw':iZ w K es.toList rows) (nd:(rows.map (·.1)).Nodup):KTab w K a rows:=⟨o,es,ep,lk,c1,c2,c3,c4,sm,rw',nd⟩
noncomputable def rowOf (rows:List (Str×List Int)) (z:Str):Option (List Int):=(rows.find? λr=>decide (r.1=z)).map (·.2)
section
variable {P:Program} {w:World} {K:PySem.W.Frag}
theorem iZ.kvs:∀{es:List DictEntry} {rows:List (Str×List Int)},iZ w K es rows->∃kvs:List (Key×Value),Pairs (bL P w) es kvs/\kvs.map (·.1)=rows.map (λr=>(Sum.inr r.1:Key))/\
  (∀e∈es,∃k,(bL P w).is k e.key=true/\e.hash=(bL P w).hash k)/\
  ∀z,(rowOf rows z=none->valueAt kvs (Sum.inr z)=none)/\∀ns,rowOf rows z=some ns->∃ad,valueAt kvs (Sum.inr z)=some (.ref ad)/\∀H,d7 K H ad (ns.map V.int)
 | _,_,.nil=>⟨[],.nil,rfl,λe he=>(by cases he),λz=>⟨λ_=>rfl,λns e=>by cases e⟩⟩
 | _,_,@iZ.cons _ _ x t ad ns es rows h its n o hh hl hc hdt hv hz hr=>by
  obtain⟨kvs,p,hk,ho,hf⟩:=iZ.kvs hr
  refine⟨(Sum.inr x,.ref ad):: kvs,.cons (jP P w x t) rfl p,by rw [List.map_cons,List.map_cons,hk],λe he=>?_,λz=>?_⟩
  ·rcases List.mem_cons.mp he with e1 | he
   ·subst e1
    exact⟨Sum.inr x,jP P w x t,hh⟩
   ·exact ho e he
  ·by_cases hx:x=z
   ·subst hx
    have e1:rowOf ((x,ns):: rows) x=some ns:=by simp [rowOf]
    have e2:valueAt ((Sum.inr x,Value.ref ad):: kvs) (Sum.inr x:Key)=some (.ref ad):=by simp [valueAt]
    rw [e1,e2]
    refine⟨λe=>by (cases e),λms e=>⟨ad,rfl,λH=>.inr ⟨_,its,n,hl,hc,hdt,?_,?_⟩⟩⟩
    ·have:=hv.length
     have hs:sizeLine=16777216:=sizeLine_eq
     simp at this
     lia
    ·cases e;exact hv
   ·have e1:rowOf ((x,ns):: rows) z=rowOf rows z:=by simp [rowOf,hx]
    have hx':¬(Sum.inr x:Key)=Sum.inr z:=λq=>hx (Sum.inr.inj q)
    have e2:valueAt ((Sum.inr x,Value.ref ad):: kvs) (Sum.inr z:Key)=valueAt kvs (Sum.inr z):=by simp [valueAt,hx']
    rw [e1,e2]
    exact hf z
theorem KTab.map {a:Addr} {rows:List (Str×List Int)} {h:Heap} (T:KTab w K a rows) (hk:K.In h):∃f:Key->Option Value,h.MapOf (bL P w) a f/\(a == sysModules)=false/\
  ∀z,(rowOf rows z=none->f (Sum.inr z)=none)/\∀ns,rowOf rows z=some ns->∃ad,f (Sum.inr z)=some (.ref ad)/\∀H,d7 K H ad (ns.map V.int):=by
 obtain⟨o,es,ep,hl,c1,c2,c3,c4,hs,hr,nd⟩:=T
 obtain⟨kvs,p,hkk,ho,hf⟩:=hr.kvs (P:=P)
 have D:h.DictOf (bL P w) a kvs:=⟨o,es,ep,hk a _ hl,⟨c1,c2,c3⟩,c4,λe he=>ho e (by simpa using he),p,?_⟩
 ·exact⟨_,D.mapOf,hs,hf⟩
 ·rw [hkk]
  have:rows.map (λr=>(Sum.inr r.1:Key))=(rows.map (·.1)).map Sum.inr:=by rw [List.map_map];rfl
  rw [this]
  exact List.Pairwise.map _ (λa b hab e=>hab (Sum.inr.inj e)) nd
end
section
variable {X:Cx} {i o:Expr} {ty td:TE} {pos:Pos}
inductive Tc (w:World) (K:PySem.W.Frag) (Q:VK) (y:V) (x:V) (H2:Hp):Prop where
 | mk:∀a rows z,x=.ref a->KTab w K a rows->y=.str z->Q (.bl (rowOf rows z).isSome) H2->Tc w K Q y x H2
noncomputable def YF (w:World) (K:PySem.W.Frag) (ty td:TE):TE:=λσ H Q=>ty σ H λy H1=>td σ H1 λx H2=>Tc w K Q y x H2
theorem V0 (hi:PE X i ty) (ho:PE X o td):PC X .In i o (YF X.w X.K ty td):=by
 intro pins s σ H Q I h
 refine dC (hi pins s σ H _ I h) λiv s1 ⟨y,H1,I1,ry,q1⟩=>dC (ho pins s1 σ H1 _ I1 q1) λu s2 hpt=>?_
 obtain⟨x,H2,I2,rx,a,rows,z,ex,T,ey,q2⟩:=hpt
 subst ex
 subst ey
 obtain rfl:u=Value.ref a:=rx
 obtain⟨t,rfl⟩:=ry
 obtain⟨f,M,hs,hf⟩:=T.map (P:=X.prog) I2.kIn
 refine wpAny_in_of (k:=(Sum.inr z:Key)) (jP X.prog X.w z t) hs M ?_
 refine⟨.bl (rowOf rows z).isSome,H2,I2.tok _,?_,q2⟩
 cases e:rowOf rows z with
 | none=>rw [(hf z).1 e];rfl
 | some ns=>obtain⟨ad,e1,_⟩:=(hf z).2 ns e;rw [e1];rfl
inductive SN (w:World) (K:PySem.W.Frag) (x:V) (y:V) (H:Hp) (Q:VK):Prop where
 | mk:∀a rows z ns,x=.ref a->KTab w K a rows->y=.str z->rowOf rows z=some ns->(∀ad,d7 K H ad (ns.map V.int)->Q (.ref ad) H)->SN w K x y H Q
noncomputable def W2 (w:World) (K:PySem.W.Frag):R2:=λx y H Q=>SN w K x y H Q
theorem XX:Uv X (W2 X.w X.K):=by
 intro value slice pins s σ H x y v u Q I rx ry h hs
 obtain⟨a,rows,z,ns,rfl,T,rfl,e,q⟩:=h
 cases rx
 obtain⟨t,rfl⟩:=ry
 obtain⟨f,M,hsm,hf⟩:=T.map (P:=X.prog) I.kIn
 obtain⟨ad,e1,e2⟩:=(hf z).2 ns e
 exact tail_any M.typeIs PySem.F.slot_dict_getitem.lookup (wpAny_getItem_of (k:=(Sum.inr z:Key)) (jP X.prog X.w z t) M e1 ⟨.ref ad,H,I.tok _,rfl,q ad (e2 H)⟩) hs
theorem Rm (ho:PE X o td) (hi:PE X i ty) (hs:K9 i):PE X (.Subscript o i pos) (V4 (W2 X.w X.K) td ty):=aZ XX ho hi hs
end
noncomputable def uG (K:PySem.W.Frag) (H:Hp) (a:Addr) (xs:List V):Prop:=bH K H a xs∨d7 K H a xs
theorem aM.seqT {K:PySem.W.Frag} {H H':Hp} {a:Addr} {xs:List V} (e:aM H H') (h:d7 K H a xs):d7 K H' a xs:=by
 rcases h with (h | ⟨o,h⟩) | h
 ·exact .inl (.inl (e _ _ h))
 ·exact .inl (.inr ⟨o,e _ _ h⟩)
 ·exact .inr h
theorem aM.seqA {K:PySem.W.Frag} {H H':Hp} {a:Addr} {xs:List V} (e:aM H H') (h:uG K H a xs):uG K H' a xs:=h.elim (λh=>.inl (e.seq h)) λh=>.inr (e.seqT h)
noncomputable def iI (p:Addr) (H H':Hp):Prop:=∀b o,b≠p->H b=some o->H' b=some o
theorem iI.refl {p:Addr} (H:Hp):iI p H H:=λ_ _ _ e=>e
theorem iI.trans {p:Addr} {H H1 H2:Hp} (a:iI p H H1) (b:iI p H1 H2):iI p H H2:=λc o n e=>b c o n (a c o n e)
theorem iI.of_same {p:Addr} {H H1:Hp} (a:aM H H1):iI p H H1:=λc o _ e=>a c o e
theorem iI.write {p:Addr} {H:Hp} {o:HO}:iI p H (upd H p o):=λb u n e=>by rw [aD n];exact e
theorem iI.seqT {K:PySem.W.Frag} {H H':Hp} {p a C dx:Addr} {fs:List (Str×V)} {xs:List V} (e:iI p H H') (hp:H p=some (.ins C dx fs)) (h:d7 K H a xs):d7 K H' a xs:=by
 rcases h with (h | ⟨o,h⟩) | h
 ·exact .inl (.inl (e _ _ (zc h hp (by intro z;cases z)) h))
 ·exact .inl (.inr ⟨o,e _ _ (zc h hp (by intro z;cases z)) h⟩)
 ·exact .inr h
theorem iI.seqL {K:PySem.W.Frag} {H H':Hp} {p a C dx:Addr} {fs:List (Str×V)} {xs:List V} (e:iI p H H') (hp:H p=some (.ins C dx fs)) (h:bH K H a xs):bH K H' a xs:=by
 rcases h with (h | ⟨o,h⟩) | h
 ·exact .inl (.inl (e _ _ (zc h hp (by intro z;cases z)) h))
 ·exact .inl (.inr ⟨o,e _ _ (zc h hp (by intro z;cases z)) h⟩)
 ·exact .inr h
theorem iI.seqA {K:PySem.W.Frag} {H H':Hp} {p a C dx:Addr} {fs:List (Str×V)} {xs:List V} (e:iI p H H') (hp:H p=some (.ins C dx fs)) (h:uG K H a xs):uG K H' a xs:=h.elim (λh=>.inl (e.seqL hp h)) λh=>.inr (e.seqT hp h)
theorem QR {K:PySem.W.Frag} {H:Hp} {a:Addr} {xs:List V} {Q:VK} (h:uG K H a xs) (k:∀H' u,aM H H'->d7 K H' u xs->Q (.ref u) H'):
  ∃p ys,[V.ref a]=[.ref p]/\((bH K H p ys/\∀l,H l=none->Q (.ref l) (upd H l (.tup ys)))∨(d7 K H p ys/\Q (.ref p) H)):=by
 rcases h with h | h
 ·exact⟨a,xs,rfl,.inl ⟨h,λl hl=>k _ _ (aC hl) (d7.of aq)⟩⟩
 ·exact⟨a,xs,rfl,.inr ⟨h,k _ _ (aM.refl _) h⟩⟩
theorem oX {X:Cx}:mQ X (.type "tuple") (λxs H Q=>∃a ys,xs=[.ref a]/\uG X.K H a ys/\∀H' u,aM H H'->d7 X.K H' u ys->Q (.ref u) H'):=by
 intro pins s σ H xs us Q I r h
 obtain⟨a,ys,rfl,hq,q⟩:=h
 exact Dy pins s σ H _ us Q I r (QR hq q)
section
variable {es:List Expr} {env:Env}
theorem mD {a b c}:starEach (.Tuple a b c:: es) env=(false,eval (.Tuple a b c) env):: starEach es env:=rfl
theorem aO {a b}:starEach (.List a b:: es) env=(false,eval (.List a b) env):: starEach es env:=rfl
theorem ak {a b c}:starEach (.Constant a b c:: es) env=(false,eval (.Constant a b c) env):: starEach es env:=rfl
theorem aj {a b}:starEach (.Name a b:: es) env=(false,eval (.Name a b) env):: starEach es env:=rfl
theorem bc {a b c d}:starEach (.Call a b c d:: es) env=(false,eval (.Call a b c d) env):: starEach es env:=rfl
theorem bG {a b c d}:starEach (.BinOp a b c d:: es) env=(false,eval (.BinOp a b c d) env):: starEach es env:=rfl
theorem aQ {a b c}:starEach (.Attribute a b c:: es) env=(false,eval (.Attribute a b c) env):: starEach es env:=rfl
theorem aF {a b c}:starEach (.Subscript a b c:: es) env=(false,eval (.Subscript a b c) env):: starEach es env:=rfl
theorem jL {a b c d}:starEach (.ListComp a b c d:: es) env=(false,eval (.ListComp a b c d) env):: starEach es env:=rfl
theorem xG {a b c}:starEach (.UnaryOp a b c:: es) env=(false,eval (.UnaryOp a b c) env):: starEach es env:=rfl
end
section
variable {X:Cx} {scope:Scope} {x:Str} {js:List Nat} {cl:List (Str×Addr)} {C:Addr} {s:Shared} {H:Hp} {ex:List Addr}
end
noncomputable def oH:Expr->Option V
 | .Constant (.int i) _ _=>some (.int i)
 | .Constant (.str x) _ _=>some (.str x)
 | .Constant (.bool b) _ _=>some (.bl b)
 | .Constant .none _ _=>some .non
 | _=>none
noncomputable def TX:Expr->Option (List V)
 | .Tuple es _ _=>if (es.map oH).all (·.isSome)=true then some (es.filterMap oH) else none
 | _=>none
noncomputable def X5 (vs:List V):TA:=λ_ H Q=>Q vs H
noncomputable def uQ (H:Hp):List Addr->List (List V)->Prop:=Paired λr vs=>H r=some (.tup vs)
theorem uQ.same {H H':Hp} (s:aM H H'):∀{rs:List Addr} {vss:List (List V)},uQ H rs vss->uQ H' rs vss
 | _,_,.nil=>.nil
 | _,_,.cons h t=>.cons (s _ _ h) (uQ.same s t)
theorem uQ.append {H:Hp}:∀{rs rs':List Addr} {vss vss':List (List V)},uQ H rs vss->uQ H rs' vss'->uQ H (rs ++ rs') (vss ++ vss')
 | _,_,_,_,.nil,q=>q
 | _,_,_,_,.cons h t,q=>.cons h (uQ.append t q)
theorem uQ.get {H:Hp}:∀{rs:List Addr} {vss:List (List V)} {i:Nat} {vs:List V},uQ H rs vss->vss[i]?=some vs->∃r,rs[i]?=some r/\H r=some (.tup vs)
 | _,_,_,_,.nil,e=>by simp at e
 | _,_,0,_,.cons h _,e=>by simp at e;subst e;exact⟨_,rfl,h⟩
 | _,_,i+1,vs,.cons _ t,e=>by
  obtain⟨r,h1,h2⟩:=uQ.get (i:=i) (vs:=vs) t (by simpa using e)
  exact⟨r,by simpa using h1,h2⟩
noncomputable def U4 (vss:List (List V)):TA:=λ_ H Q=>∀H' rs,aM H H'->uQ H' rs vss->Q (rs.map V.ref) H'
section
variable {X:Cx}
theorem yp:∀{es:List Expr} {vs:List V},es.map oH=vs.map some->PA X es (X5 vs)
 | [],[],_=>ao
 | [],_:: _,h=>by simp at h
 | _:: _,[],h=>by simp at h
 | e:: es,v:: vs,h=>by
  simp only [List.map_cons,List.cons.injEq] at h
  have ih:=yp (es:=es) (vs:=vs) h.2
  have h1:=h.1
  unfold oH at h1
  split at h1
  ·cases h1;exact aa au ih ak
  ·cases h1;exact aa aN ih ak
  ·cases h1;exact aa jA ih ak
  ·cases h1;exact aa jC ih ak
  ·cases h1
theorem Fq:∀{es:List Expr},(es.map oH).all (·.isSome)=true->es.map oH=(es.filterMap oH).map some
 | [],_=>rfl
 | e:: es,h=>by
  simp only [List.map_cons,List.all_cons,Bool.and_eq_true] at h
  have ih:=Fq (es:=es) h.2
  cases q:oH e with
  | none=>rw [q] at h;simp at h
  | some v=>simp only [List.map_cons,q,List.filterMap_cons,ih]
theorem xP:∀{es:List Expr} {vss:List (List V)},es.map TX=vss.map some->(vss.all λvs=>decide (vs.length<=1000))=true->PA X es (U4 vss)
 | [],[],_,_=>λpos pins s σ H Q I h=>ao pos pins s σ H Q I (h H [] (aM.refl _) .nil)
 | [],_:: _,h,_=>by simp at h
 | _:: _,[],h,_=>by simp at h
 | e:: es,vs:: vss,h,hz=>by
  simp only [List.map_cons,List.cons.injEq] at h
  simp only [List.all_cons,Bool.and_eq_true,decide_eq_true_eq] at hz
  have ih:=xP (es:=es) (vss:=vss) h.2 hz.2
  have h1:=h.1
  unfold TX at h1
  split at h1
  ·rename_i cs k p
   split at h1
   ·rename_i hc
    have e1:cs.filterMap oH=vs:=Option.some.inj h1
    have hT:PE X (.Tuple cs k p) (Xl (X5 vs)):=cB (yp (by rw [Fq hc,e1]))
    have A:=aa hT ih mD
    intro pos pins s σ H Q I q
    have hl:sizeLine=16777216:=sizeLine_eq
    refine A pos pins s σ H Q I ?_
    refine⟨by show vs.length<=sizeLine;lia,λp hp H' rs s' t'=>?_⟩
    exact q H' (p:: rs) ((aC hp).trans s') (.cons (s' _ _ aq) t')
   ·cases h1
  ·cases h1
end
section
variable {X:Cx}
end
section
variable {P:Program} {w:World} {K:PySem.W.Frag} {mg:Str->Option Value} {base:Heap} {N:List Str} {qual:Str} {scope:Scope} {f:Addr} {cd:Value} {A:Around} {outer:List Env} {s:Shared} {H:Hp} {E:XK}
end
structure ul (K:PySem.W.Frag) (C:Addr):Prop where
 ex:∃(nm q:Str) (Nn:Addr) (bs bm bmB:List Value) (hdct:Bool) (sn:List Str) (sub:List Value) (ab:Bool) (col:Option Bool) (dd:Option Addr) (k0 k1 k2 k3 k5:Option Value) (B newId initId:String) (mN:Str->Option Value),
  ExcBaseFacts B newId initId bmB/\bm.contains (.type "BaseException")=true/\mN "__init__" =none/\
  ∀h:Heap,K.In h->h.get? C=some (excClassObj nm q C Nn bs bm hdct sn sub ab col dd k0 k1 k2 k3 k5 newId)/\h.Ns Nn mN/\OwnTail h bmB bm
section
variable {P:Program} {w:World} {K:PySem.W.Frag} {mg:Str->Option Value} {base:Heap} {N:List Str} {qual:Str} {scope:Scope} {f:Addr} {cd:Value} {A:Around} {outer:List Env} {s:Shared} {H:Hp} {E:XK}
noncomputable def Uq (E:XK) (C:Addr) (ta:TA):TS:=λ_ σ H=>ta σ H λvs H1=>vs.length<=1000/\E (.ref C) none H1
end
theorem Xm {fs:List Addr} {H H2:Hp} {h h2 h3 B:Heap} (u:Un fs [] H H2 h h2) (inB:∀b o,h.get? b=some o->b∉fs->∃o',B.get? b=some o') (st2:B.StaysIn h2) (st3:B.StaysIn h3) (up:h2.UpToSlots h3)
  (fd:∀b o,h2.get? b=some o->b∈fs->∀vs,o.data≠.fields vs):Un fs [] H H2 h h3:=by
 have go:∀b o,h2.get? b=some o->(∃o',B.get? b=some o')->h3.get? b=some o:=λb o q ⟨o',q'⟩=>by
  have:=st2 b o' q'
  rw [q] at this
  cases this
  exact st3 b _ q'
 refine⟨λb o q n hb hx=>go b o (u.keep b o q n hb hx) (inB b o q hb),λb o q n hb hx=>?_,λb o q n hx=>u.free b o q n hx,λb o q hx=>?_,u.tups,u.frzs,u.tbls⟩
 ·obtain⟨sl,k1⟩:=u.slot b o q n hb hx
  obtain⟨sl2,k2⟩:=up b _ k1 (fd b _ k1 hb)
  exact⟨sl2,k2⟩
 ·obtain⟨o2,k2⟩:=u.there b o q hx
  by_cases hb:b∈fs
  ·obtain⟨sl3,k3⟩:=up b _ k2 (fd b _ k2 hb)
   exact⟨_,k3⟩
  ·exact⟨o2,go b o2 k2 (inB b o q hb)⟩
theorem cV.some_at {P:Program} {w:World} {H:Hp} {h:Heap} {a:Addr} {o:HO} (x:cV P w H h a o):∃ob,h.get? a=some ob:=by
 cases o with
 | lst xs=>obtain⟨_,_,_,_,e⟩:=x;exact⟨_,e⟩
 | tup xs=>obtain⟨_,_,_,ob,e,_⟩:=x;exact⟨_,e⟩
 | dK kvs=>obtain⟨_,_,_,_,o,_,_,e,_⟩:=x;exact⟨_,e⟩
 | dT kvs=>obtain⟨_,_,_,_,o,_,_,e,_⟩:=x;exact⟨_,e⟩
 | set S n=>obtain⟨o,_,_,_,e,_⟩:=x;exact⟨_,e⟩
 | ins C dx fs=>obtain⟨_,_,_,e,_⟩:=x;exact⟨_,e⟩
 | own y=>exact x
 | xd fs=>obtain⟨_,⟨_,_,_,e,_⟩,_⟩:=x;exact⟨_,e⟩
 | rng lo hi=>obtain⟨_,_,_,e⟩:=x;exact⟨_,e⟩
 | frz ob u=>obtain⟨e,_⟩:=x;exact⟨_,e⟩
 | tbl ps=>exact⟨_,(show h.get? a=some _ from x)⟩
 | met f y=>exact⟨_,(show h.get? a=some _ from x)⟩
 | ext φ=>obtain⟨_,e,_⟩:=x;exact e
noncomputable def Cx.over (X:Cx) (pn:List (Addr×Obj)) (E:Value->Shared->Prop):Cx:={ X with pn:=pn,xe:=E }
noncomputable def Cx.marked (X:Cx) (x:Addr):Cx:={ X with A:=X.A.mark (some (.ref x)),calm:=false,xe:=λ_ _=>False }
section
variable {X:Cx} {pins:List (Addr×Obj)} {σ:St} {H:Hp} {s:Shared} {E:Value->Shared->Prop}
theorem Cx.Ok.over {pn:List (Addr×Obj)} (ok:X.Ok):(X.over pn E).Ok:=
 ⟨ok.mod,ok.kind,ok.glob,ok.blt,ok.above,ok.inj,ok.has,ok.cab,ok.hd,ok.frames,ok.stk,ok.exf,ok.bs,ok.bsz,ok.noex,ok.exfs,ok.funs,ok.frf⟩
theorem Cx.Ok.unover {pn:List (Addr×Obj)} (ok:(X.over pn E).Ok):X.Ok:=
 ⟨ok.mod,ok.kind,ok.glob,ok.blt,ok.above,ok.inj,ok.has,ok.cab,ok.hd,ok.frames,ok.stk,ok.exf,ok.bs,ok.bsz,ok.noex,ok.exfs,ok.funs,ok.frf⟩
theorem Inv.over (I:Inv X pins σ H s):Inv (X.over (X.pn ++ pins) E) [] σ H s:=⟨I.ok.over,I.os,I.bare,I.base,I.loc,I.cell,I.free,I.freeC,λp hp=>I.pin p (by simpa [Cx.over] using hp),I.hok,I.len⟩
theorem Inv.unover {pins':List (Addr×Obj)} (I:Inv (X.over (X.pn ++ pins) E) pins' σ H s):Inv X pins σ H s:=⟨I.ok.unover,I.os,I.bare,I.base,I.loc,I.cell,I.free,I.freeC,λp hp=>I.pin p (List.mem_append_left _ hp),I.hok,I.len⟩
theorem Inv.marked {x:Addr} (I:Inv X pins σ H s):Inv (X.marked x) pins σ H s:=
 ⟨⟨I.ok.mod,I.ok.kind,I.ok.glob,I.ok.blt,I.ok.above,I.ok.inj,I.ok.has,I.ok.cab,λh=>absurd h (by simp [Cx.marked]),I.ok.frames,I.ok.stk,I.ok.exf,I.ok.bs,I.ok.bsz,I.ok.noex,I.ok.exfs,I.ok.funs,I.ok.frf⟩,I.os,I.bare,I.base,I.loc,I.cell,I.free,I.freeC,I.pin,I.hok,I.len⟩
theorem Inv.unmarked {x:Addr} (hc:X.calm=true->X.A.handled=none) (I:Inv (X.marked x) pins σ H s):Inv X pins σ H s:=
 ⟨⟨I.ok.mod,I.ok.kind,I.ok.glob,I.ok.blt,I.ok.above,I.ok.inj,I.ok.has,I.ok.cab,hc,I.ok.frames,I.ok.stk,I.ok.exf,I.ok.bs,I.ok.bsz,I.ok.noex,I.ok.exfs,I.ok.funs,I.ok.frf⟩,I.os,I.bare,I.base,I.loc,I.cell,I.free,I.freeC,I.pin,I.hok,I.len⟩
theorem Inv.track {x:Addr} {o:HO} (I:Inv X pins σ H s) (hn:H x=none) (h0:X.s₀.heap.get? x=none) (hL:x≠X.env.locals) (hc:∀y c,X.env.cells.lookup y=some c->c≠x) (hp:∀p∈X.pn ++ pins,p.1≠x)
  (new:cV X.prog X.w (upd H x o) s.heap x o):Inv X pins σ (upd H x o) s:=by
 have ne:∀b u,H b=some u->b≠x:=λb u q=>aB q hn
 have ne0:∀b u,X.s₀.heap.get? b=some u->b≠x:=λb u q z=>by rw [z,h0] at q;cases q
 refine⟨I.ok,I.os,I.bare,⟨I.base.keep,I.base.slot,λb u q n hx=>?_,I.base.there,λb xs q=>?_,λb u xs q=>?_,λb ps q=>?_⟩,I.loc,I.cell,?_,λy c e=>?_,λp h=>?_,En I.hok hn new,I.len⟩
 ·rw [aD (ne0 b u q)];exact I.base.free b u q n hx
 ·have:=I.base.tups b xs q;rw [aD (ne b _ this)];exact this
 ·have:=I.base.frzs b u xs q;rw [aD (ne b _ this)];exact this
 ·obtain⟨m,e⟩:=I.base.tbls b ps q;exact⟨m,by rw [aD (ne b _ e)];exact e⟩
 ·rw [aD (Ne.symm hL)];exact I.free
 ·rw [aD (hc y c e)];exact I.freeC y c e
 ·obtain⟨e,n,r⟩:=I.pin p h;exact⟨e,by rw [aD (hp p h)];exact n,r⟩
end
structure PJ (X:Cx) (pins:List (Addr×Obj)) (σ:St) (H':Hp) (x:Addr) (cls:Value) (s:Shared) (B:Heap) (a0:Value):Prop where
 inv:Inv X pins σ H' s
 fly:Heap.FlyingW B X.stack x cls a0 s.heap
 more:∀h6,Heap.FlyingW B X.stack x cls a0 h6->s.heap.UpToSlots h6->Inv X pins σ H' { s with heap:=h6 }
 free:H' x=none
 new:X.s₀.heap.get? x=none
 neL:x≠X.env.locals
 neC:∀y c,X.env.cells.lookup y=some c->c≠x
 neP:∀p∈X.pn ++ pins,p.1≠x
section
variable {X:Cx} {pins:List (Addr×Obj)} {σ:St} {H:Hp} {s:Shared}
theorem Ag {M:Model} {A:Around} {E:Value->Shared->Prop} {i:Nat} {x:Str} {pos:Pos} {Q:Unit->Shared->Prop} (I:Inv X pins σ H s) (hN:X.N.Nodup) (hi:X.N[i]?=some x) (hk:X.env.scope.names.lookup x=some .local)
  (h:∀s',Inv X pins (σ.set i none) H s'->Q () s'):wpAny M A (do bindName X.env x .none;unbindBehindTheSuite X.env x pos) Q E s:=by
 obtain⟨m,hn,hl⟩:=id I.loc
 have hcls:(X.env.scope.kind == .class || (X.env.scope.kind == .module && X.env.locals != X.env.globals))=false:=by rw [I.ok.kind];rfl
 have hiσ:i <σ.length:=by rw [I.len];exact(List.getElem?_eq_some_iff.mp hi).1
 have cne:=I.cne
 refine wpAny_nameGoes_keeps hk hn hcls λh' v hn' hs=>?_
 refine h _ ⟨I.ok,I.os,I.bare,⟨λb o e n hb hx=>?_,λb o e n hb hx=>?_,I.base.free,λb o e hx=>?_,I.base.tups,I.base.frzs,I.base.tbls⟩,⟨_,hn',λj y v' e1 e2 e3=>?_⟩,λy c e=>?_,I.free,I.freeC,λp hp=>?_,λb ob e=>?_,by simpa using I.len⟩
 ·exact(hs.2 b (Nat.ne_of_lt (Nat.lt_of_lt_of_le (Heap.lt_size e) I.ok.above))).trans (I.base.keep b o e n hb hx)
 ·obtain⟨sl,e1⟩:=I.base.slot b o e n hb hx
  exact⟨sl,(hs.2 b (Nat.ne_of_lt (Nat.lt_of_lt_of_le (Heap.lt_size e) I.ok.above))).trans e1⟩
 ·obtain⟨o',e1⟩:=I.base.there b o e hx
  exact⟨o',(hs.2 b (Nat.ne_of_lt (Nat.lt_of_lt_of_le (Heap.lt_size e) I.ok.above))).trans e1⟩
 ·by_cases hj:j=i
  ·subst hj
   rw [List.getElem?_set_self hiσ] at e2
   cases e2
  ·rw [List.getElem?_set_ne (Ne.symm hj)] at e2
   obtain⟨u',r',q⟩:=hl j y v' e1 e2 e3
   refine⟨u',r',?_⟩
   rcases q with ⟨k,e⟩ | ⟨k,c,e,z⟩
   ·refine .inl ⟨k,?_⟩
    have:y≠x:=λe=>hj (Do hN e1 (e ▸ hi))
    simp [this,e]
   ·exact .inr ⟨k,c,e,z.sameBut hs (cne y c e)⟩
 ·obtain⟨w',z⟩:=I.cell y c e
  exact⟨w',z.sameBut hs (cne y c e)⟩
 ·obtain⟨e,n,ne,nf,d⟩:=I.pin p hp
  exact⟨(hs.2 p.1 ne).trans e,n,ne,nf,d⟩
 ·refine(I.hok b ob e).stay (λc w' hc q=>(hs.2 c ?_).trans q) (λ_ q=>q) λ_ _ q=>q
  rintro rfl
  rcases hc with rfl | hc
  ·rw [I.free] at e;cases e
  ·rw [I.free] at hc;cases hc
end
noncomputable def Yr (x:Addr) (cls:Value):HO:=.ext λh=>∃ob,h.get? x=some ob/\ob.cls=cls
structure ExcAt (K:PySem.W.Frag) (C:Addr):Prop where
 ex:∃(nm q:Str) (Nn:Addr) (bs bm:List Value) (hdct:Bool) (sn:List Str) (sub:List Value) (ab:Bool) (col:Option Bool) (dd:Option Addr) (k0 k1 k2 k3 k5:Option Value) (newId:String),bm.contains (.type "BaseException")=true/\
  ∀h:Heap,K.In h->h.get? C=some (excClassObj nm q C Nn bs bm hdct sn sub ab col dd k0 k1 k2 k3 k5 newId)
section
variable {prog:Program} {w:World} {A:Around} {E:Value->Shared->Prop} {h:Heap} {g:Array GenState} {d:Drawn} {t:Nat} {os:OsState} {a:Addr} {o:Obj} {C:Addr}
structure Uk (M:Model) (h:Heap) (C:Addr):Prop where
 ga:∀{A:Around} {E:Value->Shared->Prop} {Q:Option Value->Shared->Prop} {g d t os},Q (some (.builtin "BaseException.__getattribute__")) ⟨h,g,d,t,os⟩->wpAny M A (typeLookup (.ref C) "__getattribute__") Q E ⟨h,g,d,t,os⟩
 gn:∀{A:Around} {E:Value->Shared->Prop} {Q:Option Value->Shared->Prop} {g d t os},Q none ⟨h,g,d,t,os⟩->wpAny M A (typeLookup (.ref C) "__getattr__") Q E ⟨h,g,d,t,os⟩
 cl:∀{A:Around} {E:Value->Shared->Prop} {Q:Option Value->Shared->Prop} {g d t os},Q (some (.builtin "object.__class__")) ⟨h,g,d,t,os⟩->wpAny M A (typeLookup (.ref C) "__class__") Q E ⟨h,g,d,t,os⟩
 ob:∀{A:Around} {E:Value->Shared->Prop} {Q:Bool->Shared->Prop} {g d t os},Q true ⟨h,g,d,t,os⟩->wpAny M A (isSubtype (.ref C) (.type "object")) Q E ⟨h,g,d,t,os⟩
 be:∀{A:Around} {E:Value->Shared->Prop} {Q:Bool->Shared->Prop} {g d t os},Q true ⟨h,g,d,t,os⟩->wpAny M A (isSubtype (.ref C) (.type "BaseException")) Q E ⟨h,g,d,t,os⟩
theorem QK {M:Model} {nameV:Value} {Q:Unit->Shared->Prop} (L:Uk M h C)
  (hx:h.get? a=some o) (hc:o.cls=.ref C) (hq:Q () ⟨h,g,d,t,os⟩):wpAny M A (checkBuiltinCall "BaseException.__getattribute__" ⟨[.ref a,nameV],[]⟩) Q E ⟨h,g,d,t,os⟩:=by
 have hk:builtinKind "BaseException.__getattribute__" =some .slot:=by decide +kernel
 have hsplit:splitId "BaseException.__getattribute__" =some ("BaseException", "__getattribute__"):=by decide +kernel
 have ha:=F.args_bexc_ga (.ref a) nameV
 simp only [checkBuiltinCall,hk,hsplit]
 refine wpAny_bind ?_
 ·unfold isInstance
  repeat (first | (with_reducible refine wpAny_loadPart_at hx ?_;rw [hc]) | with_reducible refine L.be ?_ | wp_step)
  exact hq
end
noncomputable abbrev Dn:List Value:=[.type "ValueError",.type "Exception",.type "BaseException",.type "object"]
noncomputable def Nm (K:PySem.W.Frag) (N:Addr) (x:Str):Option Value:=match K.lookup N with
 | some o=>(match o.data with | .dict es _=>nsFind es x | _=>none)
 | none=>none
theorem Qt {K:PySem.W.Frag} {h:Heap} {N:Addr} (X:K.In h) (ok:PySem.W.nsOkIn K N=true):h.nsMap N=Nm K N:=by
 funext x
 unfold PySem.W.nsOkIn at ok
 split at ok
 ·rename_i look
  unfold Heap.nsMap Nm
  rw [X _ _ look,look]
 ·cases ok
theorem Qe {K:PySem.W.Frag} {N:Addr} {x:Str} (e:PySem.W.nsIn K N x=some none):Nm K N x=none:=by
 unfold PySem.W.nsIn at e
 split at e
 ·rename_i look
  split at e
  ·cases e
  ·rename_i f
   unfold Nm
   rw [look]
   show nsFind _ _=none
   unfold nsFind findBy
   rw [<-Array.find?_toList,f]
   rfl
 ·cases e
theorem Et {K:PySem.W.Frag}:∀{l:List Value},PySem.W.tailIn K Dn l=true->l.contains (.type "BaseException")=true
 | [],e=>by simp [PySem.W.tailIn,Dn] at e
 | v:: r,e=>by
  unfold PySem.W.tailIn at e
  rcases Bool.or_eq_true_iff.mp e with z | z
  ·rw [beq_iff_eq.mp z];decide +kernel
  ·split at z
   ·split at z
    ·simp only [Bool.and_eq_true] at z
     rw [List.contains_cons,Et z.2,Bool.or_true]
    ·cases z
   ·cases z
theorem ul.ofIn {K:PySem.W.Frag} {C:Addr} (z:PySem.W.excIn K C Dn "ValueError.__new__" =true):ul K C:=by
 unfold PySem.W.excIn at z
 split at z
 ·rename_i od kd slo look
  split at z
  ·rename_i C1 up a0 a1 a2 a3 nid a5 em es
   simp only [Bool.and_eq_true,beq_iff_eq,Bool.not_eq_true'] at z
   obtain⟨⟨⟨⟨⟨x1,x2⟩,x3⟩,x4⟩,x5⟩,x6⟩:=z
   subst x1 x2
   obtain⟨g1,g2,g3,g4,g5,g6,g7,g8,g9,g10,g11⟩:=kd
   dsimp only at em x3 x5 x6
   subst em x3
   have hs:slo= #[a0,a1,a2,a3,some (.builtin "ValueError.__new__"),a5]:=by
    obtain⟨l⟩:=slo
    simp only at es
    rw [es]
   subst hs
   refine⟨⟨g1,g5,g4,g2,up,Dn,g6,g7,g8,g9,g10,od,a0,a1,a2,a3,a5, "ValueError", "ValueError.__new__", "ValueError.__init__",Nm K g4,PySem.F.excBase_ValueError,Et x4,Qe x6,λh X=>⟨X _ _ look,?_,PySem.W.tail_of_in X x4⟩⟩⟩
   rw [<-Qt X x5]
   exact .of_isNs (PySem.W.isNs_of_in X x5)
  ·cases z
 ·cases z
theorem ul.at {K:PySem.W.Frag} {C:Addr} (c:ul K C):ExcAt K C:=by
 obtain⟨nm,q,Nn,bs,bm,bmB,hdct,sn,sub,ab,col,dd,k0,k1,k2,k3,k5,B,newId,initId,mN,_,hb,_,hf⟩:=c.ex
 exact⟨⟨nm,q,Nn,bs,bm,hdct,sn,sub,ab,col,dd,k0,k1,k2,k3,k5,newId,hb,λh X=>(hf h X).1⟩⟩
structure U9 (K:PySem.W.Frag) (C:Addr):Prop where
 cls:(PySem.W.clsIn K C).isSome=true
 ga:PySem.W.findIn K (.ref C) "__getattribute__" =some (some (.builtin "BaseException.__getattribute__"))
 gn:PySem.W.findIn K (.ref C) "__getattr__" =some none
 cl:PySem.W.findIn K (.ref C) "__class__" =some (some (.builtin "object.__class__"))
 ob:PySem.W.subIn K (.ref C) (.type "object")=some true
 be:PySem.W.subIn K (.ref C) (.type "BaseException")=some true
theorem U9.lk {K:PySem.W.Frag} {C:Addr} {M:Model} {h:Heap} (x:U9 K C) (X:K.In h):Uk M h C:=
 ⟨λq=>(PySem.W.looks_findIn X x.ga).at q,λq=>(PySem.W.looks_findIn X x.gn).at q,λq=>(PySem.W.looks_findIn X x.cl).at q,λq=>(PySem.W.looks_subIn X x.ob).at q,λq=>(PySem.W.looks_subIn X x.be).at q⟩
section
variable {P:Program} {w:World} {K:PySem.W.Frag} {mg:Str->Option Value} {base:Heap}
end
end L2
namespace L2
open PySem
section
variable {prog:Program} {w:World} {A:Around} {E:Value->Shared->Prop} {h:Heap} {g:Array GenState} {d:Drawn} {t:Nat} {os:OsState}
variable {nm q:Str} {C N:Addr} {bs bm bmB:List Value} {hdct:Bool} {sn:List Str} {sub:List Value} {ab:Bool} {col:Option Bool} {dd:Option Addr} {k0 k1 k2 k3 k5:Option Value} {B newId initId:String}
theorem Mu {mN:Str->Option Value} {name:Str} {v:Value} {Q:Option Value->Shared->Prop} {M:Model} (hC:h.get? C=some (excClassObj nm q C N bs bm hdct sn sub ab col dd k0 k1 k2 k3 k5 newId)) (hn:h.Ns N mN) (hv:mN name=some v)
  (hq:Q (some v) ⟨h,g,d,t,os⟩):wpAny M A (typeLookup (.ref C) name) Q E ⟨h,g,d,t,os⟩:=by
 rw [typeLookup_eq]
 refine wpAny_bind (wpAny_mroOf_exc hC ?_)
 rw [lookupAlong_cons]
 refine wpAny_bind (wpAny_classOwn_exc hC hn ?_)
 rw [hv]
 exact wpAny_pure hq
theorem Hv (F:ExcBaseFacts B newId initId bmB) (T:OwnTail h bmB bm) {mN:Str->Option Value} {us:List Value} {f:Addr} {fo:Obj} {Q:Fin->Shared->Prop}
  (hC:h.get? C=some (excClassObj nm q C N bs bm hdct sn sub ab col dd k0 k1 k2 k3 k5 newId)) (hn:h.Ns N mN) (hi:mN "__init__" =some (.ref f)) (hf:h.get? f=some fo) (hfc:fo.cls=.type "function")
  (go:∀h' e,h.objs.size<=e->Heap.MadeExcOf h h' e (.ref C) us->wpAny (model prog w) A (call (.ref f) (.ref e:: us)) (λr s'=>r=.none/\Q (.done (.ret (.ref e))) s') E ⟨h',g,d,t,os⟩) (hz:us.length<=sizeLine):
  wpAny (model prog w) A (Builtin.«type.__call__» ⟨.ref C:: us,[]⟩) Q E ⟨h,g,d,t,os⟩:=by
 repeat (first | with_reducible refine wpAny_loadPart_at hC ?_ | with_reducible refine wpAny_madeBy_exc hC ?_ | wp_step)
 refine codeAny_call_builtin_code (Code.quiet_builtin _ F.quiet) (wpAny_check_new_subT F T hC ?_)
 refine codeAny_exc_new_subT F T hC ?_ hz
 show wpAny _ _ _ _ _ _
 generalize ho:({ cls:=.ref C,data:=.fields #[.ref h.objs.size,.none,.none,.none,.bool false,.none] }:Obj)=eo
 generalize hp:h.push { cls:=.type "tuple",data:=.seq us.toArray }=hp1
 have up:∀b o,h.get? b=some o->(hp1.push eo).get? b=some o:=λb o z=>Heap.get?_push_of_some _ (by rw [<-hp];exact Heap.get?_push_of_some _ z)
 have hC1:=up _ _ hC
 have hn1:(hp1.push eo).Ns N mN:=hn.keeps up
 have sz:hp1.objs.size=h.objs.size+1:=by rw [<-hp,Heap.size_push]
 have he:(hp1.push eo).get? (h.objs.size+1)=some eo:=by rw [<-sz];exact Heap.get?_push_size _ (by rw [<-ho];rfl)
 have hcl:eo.cls=.ref C:=by rw [<-ho]
 have hsub:(Value.ref C:: bm).contains (.ref C)=true:=by simp
 unfold isInstance
 repeat (first | (with_reducible refine wpAny_loadPart_at he ?_;rw [hcl]) | (with_reducible refine wpAny_isSubtype_exc hC1 ?_;rw [hsub]) | wp_step)
 show wpAny _ _ (typeLookup (.ref C) _) _ _ _
 refine Mu hC1 hn1 hi ?_
 refine wpAny_holding (wpAny_bind ?_)
 unfold bindSpecial
 refine wpAny_bind (wpAny_typeOf (T:= "function") ⟨_,up _ _ hf,hfc⟩ ?_)
 rw [if_pos (by decide)]
 have made:Heap.MadeExcOf h (hp1.push eo) (h.objs.size+1) (.ref C) us:=by
  refine⟨up,Heap.get?_none_of_le (Nat.le_succ _),h.objs.size,by rw [he,<-ho],Heap.get?_none_of_le (Nat.le_refl _),?_⟩
  refine Heap.get?_push_of_some _ ?_
  rw [<-hp]
  exact Heap.get?_push_at rfl rfl
 refine wpAny_pure (wpAny_bind (wpAny_mono (go _ _ (Nat.le_succ _) made) (λr s' hr=>?_) λ_ _ x=>x))
 obtain⟨rfl,hQ⟩:=hr
 wp_walk
 exact hQ
end
section
variable {prog:Program} {w:World} {A:Around} {E:Value->Shared->Prop} {h:Heap} {g:Array GenState} {d:Drawn} {t:Nat} {os:OsState}
variable {nm q:Str} {C N:Addr} {bs bm bmB:List Value} {hdct:Bool} {sn:List Str} {sub:List Value} {ab:Bool} {col:Option Bool} {dd:Option Addr} {k0 k1 k2 k3 k5:Option Value} {B newId initId:String}
theorem R9 (F:ExcBaseFacts B newId initId bmB) (T:OwnTail h bmB bm) {mN:Str->Option Value} {us:List Value} {f:Addr} {fo:Obj} {Q:Value->Shared->Prop}
  (hC:h.get? C=some (excClassObj nm q C N bs bm hdct sn sub ab col dd k0 k1 k2 k3 k5 newId)) (hn:h.Ns N mN) (hi:mN "__init__" =some (.ref f)) (hf:h.get? f=some fo) (hfc:fo.cls=.type "function")
  (go:∀h' e,h.objs.size<=e->Heap.MadeExcOf h h' e (.ref C) us->wpAny (model prog w) (A.under (.builtin "type.__call__" ⟨.ref C:: us,[]⟩)) (call (.ref f) (.ref e:: us)) (λr s'=>r=.none/\Q (.ref e) s') E ⟨h',g,d,t,os⟩) (hz:us.length<=sizeLine):
  wpAny (model prog w) A (call (.ref C) us) Q E ⟨h,g,d,t,os⟩:=by
 have z1:=tc_lookup
 have z2:=tc_bind (.ref C)
 have z3:(⟨h,g,d,t,os⟩:Shared).TypeIs (.ref C) "type" :=⟨_,hC,rfl⟩
 refine wpAny_call (codeAny_of_tree ?_)
 show wpAny _ _ (callAny (.ref C) _) _ _ _
 repeat (any_goals (first | assumption | with_reducible refine wpAny_loadPart_at hC ?_ | wp_step))
 refine⟨rfl,?_⟩
 exact codeAny_call_builtin_at (Code.quiet_builtin _ (by decide +kernel)) entry_typeCall (wpAny_check_type_call_sub hC (Hv F T hC hn hi hf hfc (λh' e z m=>go h' e z m) hz))
theorem Ss (F:ExcBaseFacts B newId initId bmB) (T:OwnTail h bmB bm) {e:Addr} {oe:Obj} {a0:Addr} {vr:List Value} {us:List Value} {Q:Value->Shared->Prop}
  (hC:h.get? C=some (excClassObj nm q C N bs bm hdct sn sub ab col dd k0 k1 k2 k3 k5 newId)) (he:h.get? e=some oe) (hcls:oe.cls=.ref C) (hd:oe.data=.fields (.ref a0:: vr).toArray) (hz:us.length<=sizeLine)
  (go:∀h' tp,h.get? tp=none->(∀b o,b≠e->h.get? b=some o->h'.get? b=some o)->h'.get? e=some { oe with data:=.fields (.ref tp:: vr).toArray }->Q .none ⟨h',g,d,t,os⟩):
  wpAny (model prog w) A (call (.builtin initId) (.ref e:: us)) Q E ⟨h,g,d,t,os⟩:=by
 obtain⟨oc,od,dt,osl⟩:=oe
 obtain rfl:oc=.ref C:=hcls
 obtain rfl:dt=.fields (.ref a0:: vr).toArray:=hd
 refine wpAny_call (codeAny_call_builtin F.init.plain F.initEntry (wpAny_check_init_subT F T hC he rfl ?_))
 wp_walk
 refine go _ h.objs.size (Heap.get?_none_of_le (Nat.le_refl _)) (λb o hb hq=>?_) ?_
 ·rw [Heap.get?_update_other _ _ (Ne.symm hb)]
  exact Heap.get?_push_of_some _ hq
 ·rw [Heap.get?_update_self _ (Heap.get?_push_of_some _ he) rfl]
  rfl
end
end L2
namespace L2
open PySem Builtin Builtin.ObjectAttr
noncomputable def xF:List Value->Bool
 | .ref _:: r=>xF r
 | l=>l == Dn
theorem tV (self:Value):∀{l:List Value},xF l=true->refuseLoop self "__setattr__" l=pure ()
 | [],e=>by cases (beq_iff_eq.mp (show(([]:List Value) == Dn)=true from e))
 | v:: r,e=>by
  cases v with
  | ref c=>rw [refuseLoop_ref];exact tV self (l:=r) e
  | _=>rw [beq_iff_eq.mp (show(_ == Dn)=true from e)];exact PySem.F.store_ValueError.passes self
theorem zy:∀{l:List Value},xF l=true->l.contains (.type "object")=true
 | [],e=>by cases (beq_iff_eq.mp (show(([]:List Value) == Dn)=true from e))
 | v:: r,e=>by
  cases v with
  | ref c=>rw [List.contains_cons,zy (l:=r) e,Bool.or_true]
  | _=>rw [beq_iff_eq.mp (show(_ == Dn)=true from e)];decide +kernel
structure yr (K:PySem.W.Frag) (C:Addr):Prop where
 xc:U9 K C
 sa:PySem.W.findIn K (.ref C) "__setattr__" =some (some (.builtin "object.__setattr__"))
 ov:(PySem.W.clsIn K C).any (λcd=>xF cd.mro && cd.hasDict)=true
section
variable {prog:Program} {w:World} {A:Around} {E:Value->Shared->Prop} {h:Heap} {g:Array GenState} {d:Drawn} {t:Nat} {os:OsState} {x C:Addr} {K:PySem.W.Frag} {mA:Str->Option Value} {name:Str} {v:Value}
theorem Lq (I:h.Inst x C mA):∃ox od,PySem.W.InstAt h x ox C od/\((ox.dict=none/\od=none/\∀n,mA n=none)∨∃dx o,ox.dict=some dx/\dx≠x/\od=some o/\h.Ns1 dx mA/\∀n,PySem.W.lookIn n o=some (mA n)):=by
 obtain⟨o,hx,hc,hnc,hd⟩:=I
 have no:PySem.W.notCls o=true:=by
  unfold PySem.W.notCls
  split
  ·rename_i c hcd;exact absurd hcd (hnc _)
  ·rfl
 rcases hd with ⟨hdn,hm⟩ | ⟨dx,hdx,hne,hns⟩
 ·exact⟨o,none,⟨hx,hc,no,by rw [hdn];exact True.intro⟩,.inl ⟨hdn,rfl,hm⟩⟩
 ·obtain⟨od,ho,hl⟩:=yu hns
  exact⟨o,some od,⟨hx,hc,no,by rw [hdx];exact ho⟩,.inr ⟨dx,od,hdx,hne,rfl,hns,hl⟩⟩
theorem QV {tk:Tok} {ns:List Str} {R:Result->Shared->Prop} (X:K.In h) (c:yr K C) (ht:PySem.W.takerIn K C name=some none) (I:h.Inst x C mA) (hw:PySem.Within mA ns) (hsz:ns.length<=sizeLine)
  (hq:∀h' tk',h'.Inst x C (λy=>if y=name then some v else mA y)->
   (∀b o,b≠x->(∀o₀ dx,h.get? x=some o₀->o₀.dict=some dx->b≠dx)->h.get? b=some o->h'.get? b=some o)->
   (∀o₀,h.get? x=some o₀->∃o₁,h'.get? x=some o₁/\o₁.cls=o₀.cls/\o₁.data=o₀.data/\o₁.slots=o₀.slots/\(∀dx,o₀.dict=some dx->o₁.dict=some dx)/\(o₀.dict=none->o₁.dict=some h.objs.size))->R (.ok (.ret .none)) ⟨h',g,d,tk',os⟩):
  codeAny (model prog w) A (.call (.builtin "object.__setattr__") ⟨[.ref x,.str name tk,v],[]⟩) R ⟨h,g,d,t,os⟩:=by
 have SF:=PySem.F.store_object
 obtain⟨cd,hc,ho⟩:=PySem.W.any_some c.ov
 simp only [Bool.and_eq_true] at ho
 obtain⟨ho,hd'⟩:=ho
 obtain⟨ox,od,J,_⟩:=Lq I
 have ne:cd.mro.isEmpty=false:=by cases q:cd.mro with | nil=>rw [q] at ho;cases ho | cons _ _=>rfl
 have sub:PySem.W.Looks (model prog w) h (isInstance (.ref x) (.type "object")) true:=J.type.andThen (PySem.W.looks_mroIn X (by unfold PySem.W.mroIn;rw [hc,Option.bind_some,if_neg (by rw [ne];decide),zy ho]))
 refine codeAny_call_builtin SF.slot.plain SF.entry (@PySem.W.check_slot (model prog w) _ _ ⟨h,g,d,t,os⟩ "object.__setattr__" "object" "__setattr__" (.ref x) [.str name tk,v] [] _ SF.kind SF.split sub (SF.args (.ref x) (.str name tk) v) ?_)
 obtain⟨attr,ha,hr⟩:=Option.bind_eq_some_iff.mp ht
 have hm:PySem.W.Looks (model prog w) h (mroOf (.ref C)) cd.mro:=(PySem.W.looks_clsIn X hc).andThen .now
 have L3:PySem.W.Looks (model prog w) h (storeTaker? attr) none:=by
  cases attr with
  | none=>exact .now
  | some a=>
   obtain⟨b,hb,e⟩:=Option.map_eq_some_iff.mp hr
   refine(PySem.W.looks_takesIn X hb).andThen ?_
   cases b with
   | true=>cases e
   | false=>exact .now
 rw [PySem.W.osa_eq,refuse_eq]
 refine wpAny_bind (wpAny_bind (J.type.at (wpAny_bind (hm.at ?_))))
 rw [tV _ ho]
 refine wpAny_pure (wpAny_bind (J.type.at (wpAny_bind ((PySem.W.looks_findIn X ha).at (wpAny_bind (L3.at ?_))))))
 obtain⟨o,hx,hcl,hnc,hd⟩:=I
 obtain⟨oc,odi,oda,osl⟩:=o
 dsimp only at hcl hnc hd
 subst hcl
 refine wpAny_bind (wpAny_pure (wpAny_bind (wpAny_bind (wpAny_loadPart hx (wpAny_bind ((PySem.W.looks_clsIn X hc).at ?_))))))
 rw [hd']
 rcases hd with ⟨hdn,hmA⟩ | ⟨dx,hdx,hne,hns⟩
 ·subst hdn
  have hxs:x≠h.objs.size:=Nat.ne_of_lt (Heap.lt_size hx)
  have hx₁:(h.push { cls:=.type "dict",data:=.dict #[] }).get? x=some ⟨.ref C,none,oda,osl⟩:=Heap.get?_push_of_some _ hx
  dsimp only
  rw [if_neg (by simp)]
  split
  ·rename_i z;cases z
  split
  ·exact absurd rfl (hnc _)
  refine wpAny_bind (wpAny_alloc' (wpAny_bind (wpAny_update' hx₁ (wpAny_pure ?_))))
  have hgd:((h.push { cls:=.type "dict",data:=.dict #[] }).update x λo=>{ cls:=o.cls,dict:=some h.objs.size,data:=o.data,slots:=o.slots }).get? h.objs.size
    =some { cls:=.type "dict",data:=.dict #[] }:=(Heap.get?_update_ne _ _ _ _ hxs.symm).trans (Heap.get?_push_at rfl rfl)
  have hnd:((h.push { cls:=.type "dict",data:=.dict #[] }).update x λo=>{ cls:=o.cls,dict:=some h.objs.size,data:=o.data,slots:=o.slots }).Ns h.objs.size (λ_=>none):=
   ⟨_,#[],_,hgd,rfl,λe he=>absurd he (by simp),λ_=>rfl⟩
  show wpAny _ _ (storeInDict h.objs.size (.str name tk) name v) _ _ _
  unfold storeInDict newKeyGuard
  refine wpAny_bind (wpAny_pure (wpAny_bind (wpAny_nsSet1 (Heap.Ns1.of_empty hnd) λh' hn' hs=>?_)))
  obtain⟨oD,esD,epD,hoD,hdD,hcD⟩:=hn'.count (Within.cons name v Within.nil)
  refine wpAny_bind (wpAny_lookBehind hoD (by rw [hdD];exact pastItsLine_dict (Nat.le_trans hcD (by rw [List.length_cons,List.length_nil,sizeLine_eq];lia))) ?_)
  wp_walk
  have hx':h'.get? x=some ⟨.ref C,some h.objs.size,oda,osl⟩:=by
   refine(hs.2 x hxs).trans (Heap.get?_update_self _ hx₁ ?_)
   have hfr:=(Heap.get?_some_iff.mp hx).2
   cases oda <;> first | rfl | exact hfr
  refine hq h' _ ⟨_,hx',rfl,hnc,.inr ⟨h.objs.size,rfl,hxs.symm,?_⟩⟩ (λb ob hbx _ hb=>?_)
   (λo₀ h₀=>by obtain rfl:=Option.some.inj (hx.symm.trans h₀);exact⟨_,hx',rfl,rfl,rfl,λdx e=>(by cases e),λ_=>rfl⟩)
  ·obtain⟨o',es,ep,e1,e2,e3,eu,e4⟩:=hn'
   exact⟨o',es,ep,e1,e2,e3,eu,λy=>by rw [e4 y];by_cases hy:y=name <;> simp [hy,hmA]⟩
  ·exact(hs.2 b (Nat.ne_of_lt (Heap.lt_size hb))).trans ((Heap.get?_update_ne _ _ _ _ hbx).trans (Heap.get?_push_of_some _ hb))
 ·subst hdx
  refine wpAny_pure (a:=some dx) (wpAny_bind (wpAny_pure (wpAny_bind ?_)))
  refine wpAny_nsSet1 (s:=⟨h,g,d,t,os⟩) hns λh' hn' hs=>?_
  obtain⟨oD,esD,epD,hoD,hdD,hcD⟩:=hn'.count (PySem.Within.cons name v hw)
  refine wpAny_bind (wpAny_lookBehind hoD (by rw [hdD];exact pastItsLine_dict (Nat.le_trans hcD (by rw [List.length_cons];lia))) ?_)
  refine wpAny_pure (hq h' _ ⟨_,(hs.2 x hne.symm).trans hx,rfl,hnc,.inr ⟨dx,rfl,hne,hn'⟩⟩ (λb ob _ hbd hb=>?_) (λo₀ h₀=>⟨o₀,(hs.2 x hne.symm).trans h₀,rfl,rfl,rfl,λ_ e=>e,λe=>by obtain rfl:=Option.some.inj (hx.symm.trans h₀);cases e⟩))
  exact(hs.2 b (hbd _ dx hx rfl)).trans hb
theorem Vt {ns:List Str} {Q:Unit->Shared->Prop} (X:K.In h) (c:yr K C) (ht:PySem.W.takerIn K C name=some none) (I:h.Inst x C mA) (hw:PySem.Within mA ns) (hsz:ns.length<=sizeLine)
  (hq:∀h' tk',h'.Inst x C (λy=>if y=name then some v else mA y)->
   (∀b o,b≠x->(∀o₀ dx,h.get? x=some o₀->o₀.dict=some dx->b≠dx)->h.get? b=some o->h'.get? b=some o)->
   (∀o₀,h.get? x=some o₀->∃o₁,h'.get? x=some o₁/\o₁.cls=o₀.cls/\o₁.data=o₀.data/\o₁.slots=o₀.slots/\(∀dx,o₀.dict=some dx->o₁.dict=some dx)/\(o₀.dict=none->o₁.dict=some h.objs.size))->Q () ⟨h',g,d,tk',os⟩):
  wpAny (model prog w) A (setAttr (.ref x) name v) Q E ⟨h,g,d,t,os⟩:=by
 obtain⟨ox,od,J,_⟩:=Lq I
 exact PySem.W.set_plain X J c.sa (QV X c ht I hw hsz λh' tk' a b e=>hq h' tk' a b e)
theorem Vc {ox:Obj} {od:Option Obj} {expr:Bool} {Q:Value->Shared->Prop} (X:K.In h) (c:yr K C) (J:PySem.W.InstAt h x ox C od) (hf:PySem.W.findObj K C od name=some (.value v)) (hh:PySem.W.handedIn v=true)
  (hq:Q v ⟨h,g,d,t+1,os⟩):wpAny (model prog w) A (getAttr (.ref x) name expr) Q E ⟨h,g,d,t,os⟩:=by
 have L:=c.xc.lk (M:=model prog w) X
 have FB:=PySem.F.attr_ValueError
 have hx:=J.at_
 have hc:=J.cls
 have L0:=J.type (M:=model prog w)
 have L1:=PySem.W.looks_find (M:=model prog w) X J hf
 have f3:=FB.ga.bind (.ref x)
 have hx0:(expr && onTheHeap (Value.builtin "BaseException.__getattribute__"))=false:=by cases expr <;> rfl
 have hx2:(Value.builtin "BaseException.__getattribute__" == Value.builtin "object.__getattribute__")=false:=by decide +kernel
 have hx1:(onTheHeap (Value.ref C) && Value.builtin "BaseException.__getattribute__" == Value.builtin "object.__getattribute__")=false:=by rw [hx2];rfl
 unfold getAttr
 repeat (any_goals (first | assumption | (with_reducible refine wpAny_loadPart_at hx ?_;rw [hc]) | with_reducible refine L.ga ?_ | with_reducible refine L.gn ?_ | wp_step))
 refine codeAny_call_builtin FB.ga.plain PySem.F.entry_bexc_ga (QK L hx hc ?_)
 refine wpAny_bind (wpAny_pure (wpAny_bind (wpAny_pure (wpAny_bind (L0.at (wpAny_bind (L1.at (wpAny_pure ?_))))))))
 show wpAny _ _ (handedOut v) _ _ _
 rw [PySem.W.handedOut_of hh]
 exact wpAny_pure hq
end
end L2
namespace L2
open PySem PySem.Spec PyProof.Rows
noncomputable def mH (x C:Addr):HO:=.ext λh=>∃a0 vr sl,h.get? x=some ⟨.ref C,none,.fields (.ref a0:: .none:: vr).toArray,sl⟩
noncomputable def rH (x C dx:Addr):HO:=.ext λh=>∃a0 vr sl,h.get? x=some ⟨.ref C,some dx,.fields (.ref a0:: .none:: vr).toArray,sl⟩
section
variable {X:Cx} {pins:List (Addr×Obj)} {σ:St} {H:Hp} {s:Shared} {a C dx:Addr} {fs:List (Str×V)} {f:Str} {v:V} {A:Around} {E:Value->Shared->Prop}
theorem Inv.size (I:Inv X pins σ H s):X.s₀.heap.objs.size<=s.heap.objs.size:=by
 obtain⟨m,⟨o,_,_,ho,_⟩,_⟩:=I.loc
 exact Nat.le_of_lt (Nat.lt_of_le_of_lt I.ok.above (Heap.lt_size ho))
theorem Inv.track_new {s':Shared} {H':Hp} {x:Addr} {o:HO} (I:Inv X pins σ H s) (I':Inv X pins σ H' s') (hx:s.heap.objs.size<=x) (hn:H' x=none) (new:cV X.prog X.w (upd H' x o) s'.heap x o):Inv X pins σ (upd H' x o) s':=by
 have ne:∀b u,s.heap.get? b=some u->b≠x:=λb u e z=>Nat.lt_irrefl _ (Nat.lt_of_lt_of_le (Heap.lt_size e) (z ▸ hx))
 refine I'.track hn (Heap.get?_none_of_le (Nat.le_trans I.size hx)) ?_ (λy c e=>?_) (λp hp=>?_) new
 ·obtain⟨m,⟨o,_,_,ho,_⟩,_⟩:=I.loc
  exact(ne _ _ ho).symm
 ·obtain⟨v,o,ho,_⟩:=I.cell y c e
  exact ne _ _ ho
 ·exact ne _ _ (I.pin p hp).1
theorem yr.dict {K:PySem.W.Frag} {C:Addr} (c:yr K C):PySem.W.hasDictIn K C=true:=by
 obtain⟨cd,hc,ho⟩:=PySem.W.any_some c.ov
 simp only [Bool.and_eq_true] at ho
 unfold PySem.W.hasDictIn
 rw [hc]
 exact ho.2
theorem R3 {y:V} {u:Value} {Q:Unit->Shared->Prop} (I:Inv X pins σ H s) (e:H a=some (mH a C)) (c:yr X.K C) (n:cU X.K C f) (ry:RelV y u)
  (h:∀dx s',H dx=none->dx≠a->Inv X pins σ (upd (upd H a (rH a C dx)) dx (.xd [(f,y)])) s'->Q () s'):wpAny (model X.prog X.w) A (setAttr (.ref a) f u) Q E s:=by
 obtain⟨⟨a0,vr,sl,hx⟩,_,_⟩:=(show cV X.prog X.w H s.heap a (mH a C) from I.hok a _ e)
 obtain⟨hp,g,d,t,os⟩:=s
 dsimp only at hx
 have inst:hp.Inst a C (λ_=>none):=⟨_,hx,rfl,λ_=>Data.noConfusion,.inl ⟨rfl,λ_=>rfl⟩⟩
 refine Vt (ns:=[]) I.kIn c n.taker inst PySem.Within.nil (Nat.zero_le _) λh' tk' I' kb ks=>?_
 obtain⟨o₁,e1,e2,e3,e4,_,e6⟩:=ks _ hx
 have ed:=e6 rfl
 obtain⟨o1c,o1d,o1t,o1s⟩:=o₁
 dsimp only at e2 e3 e4 ed
 subst e2 e3 e4 ed
 have ne:hp.objs.size≠a:=Nat.ne_of_gt (Heap.lt_size hx)
 have fr:H hp.objs.size=none:=I.hok.fresh (Nat.le_refl _)
 have I1:Inv X pins σ (upd H a (rH a C hp.objs.size)) ⟨h',g,d,tk',os⟩:=by
  refine I.write (x:=a) (e:=a) (o:=rH a C hp.objs.size) (by rw [e];exact True.intro) (.inl rfl) (λb o hb z=>kb b o hb (λo₀ dx q r=>?_) z) ⟨_,e1⟩ ?_
  ·obtain rfl:=Option.some.inj (hx.symm.trans q);cases r
  ·exact⟨⟨_,_,_,e1⟩,⟨_,e1⟩,λh1 h2 ⟨x1,x2,x3,z⟩ k=>⟨x1,x2,x3,k _ z⟩⟩
 refine h _ _ fr ne (I.track_new I1 (Nat.le_refl _) (by rw [aD ne];exact fr) ?_)
 obtain⟨o2,f1,f2,f3,f4⟩:=I'
 obtain rfl:=Option.some.inj (e1.symm.trans f1)
 rcases f4 with ⟨z,_⟩ | ⟨d2,z,_,hn⟩
 ·cases z
 ·obtain rfl:=Option.some.inj (show some hp.objs.size=some d2 from z)
  refine⟨_,hn,λg=>?_⟩
  by_cases q:g=f
  ·subst q
   rw [if_pos rfl]
   show qg (List.lookup g [(g,y)]) (some u)
   simp only [List.lookup,beq_self_eq_true]
   exact ry
  ·rw [if_neg q]
   have hb:(g == f)=false:=beq_eq_false_iff_ne.mpr q
   show qg (List.lookup g [(f,y)]) none
   simp only [List.lookup,hb]
   exact True.intro
theorem RT {b:Bool} {Q:Value->Shared->Prop} {fl:Array Value} {sl:Array (Option Value)} (I:Inv X pins σ H s) (hx:s.heap.get? a=some ⟨.ref C,some dx,.fields fl,sl⟩) (ed:H dx=some (.xd fs)) (c:yr X.K C) (n:cU X.K C f) (l:fs.lookup f=some v)
  (h:∀u s',Inv X pins σ H s'->RelV v u->Q u s'):wpAny (model X.prog X.w) A (getAttr (.ref a) f b) Q E s:=by
 obtain⟨mA,hn,r⟩:=(show cV X.prog X.w H s.heap dx (.xd fs) from I.hok dx _ ed)
 obtain⟨od,ho,hl⟩:=yu hn
 obtain⟨u,hu,ru⟩:=qg.some_of (v:=v) (o:=mA f) (by rw [<-l];exact r f)
 have J:PySem.W.InstAt s.heap a ⟨.ref C,some dx,.fields fl,sl⟩ C (some od):=⟨hx,rfl,rfl,ho⟩
 obtain⟨hp,g,d,t,os⟩:=s
 exact Vc I.kIn c J (PySem.W.findObj_own c.dict n rfl (by rw [hl,hu])) (Fe ru) (h u _ (I.tok _) ru)
end
inductive QF (K:PySem.W.Frag) (f:Str) (D:Ends) (σ:St) (y:V) (x:V) (H2:Hp):Prop where
 | mk:∀a C,x=.ref a->H2 a=some (mH a C)->yr K C->cU K C f->(∀dx,H2 dx=none->dx≠a->D.nx σ (upd (upd H2 a (rH a C dx)) dx (.xd [(f,y)])))->QF K f D σ y x H2
noncomputable def W0 (K:PySem.W.Frag) (ta tv:TE) (f:Str):TS:=λD σ H=>tv σ H λy H1=>ta σ H1 λx H2=>QF K f D σ y x H2
section
variable {X:Cx} {e o value:Expr} {f:Str} {pos pos':Pos} {ta tv:TE}
theorem m8 (ha:PE X o ta) (hv:PE X value tv) (hs:swapsWith value (some (.Attribute o f pos')) pos.line X.env=pure false):PS X (.Assign [.Attribute o f pos'] value pos) (W0 X.K ta tv f):=by
 intro pins s σ H D I h
 refine plainObj_wpAny_Assign_Attribute (dC (hv pins s σ H _ I h) λu s1 ⟨y,H1,I1,ry,q⟩=>dC (ha pins s1 σ H1 _ I1 q) λov s2 hpt=>?_) hs
 obtain⟨x,H2,I2,rx,a,C,ex,ea,c,n,q2⟩:=hpt
 subst ex
 obtain rfl:ov=Value.ref a:=rx
 exact R3 I2 ea c n ry λdx s3 h1 h2 I3=>⟨σ,_,I3,q2 dx h1 h2⟩
end
noncomputable def Oz (K:PySem.W.Frag) (C f:Addr):Bool:=match K.lookup C with
 | some o=>(match o.data with
  | .cls kd=>o.cls == .type "type" && kd.mro.head? == some (.ref C) && PySem.W.tailIn K Dn kd.mro.tail && !kd.hasDel && PySem.W.nsOkIn K kd.ns && Nm K kd.ns "__init__" == some (.ref f) && o.slots.size == 6 && o.slots[4]? == some (some (.builtin "ValueError.__new__"))
  | _=>false)
 | none=>false
structure gZ (K:PySem.W.Frag) (C f:Addr):Prop where
 ex:∃(nm q:Str) (Nn:Addr) (bs bm:List Value) (hdct:Bool) (sn:List Str) (sub:List Value) (ab:Bool) (col:Option Bool) (dd:Option Addr) (k0 k1 k2 k3 k5:Option Value) (mN:Str->Option Value),
  mN "__init__" =some (.ref f)/\∀h:Heap,K.In h->h.get? C=some (excClassObj nm q C Nn bs bm hdct sn sub ab col dd k0 k1 k2 k3 k5 "ValueError.__new__")/\h.Ns Nn mN/\OwnTail h Dn bm
theorem Yk {α:Type}:∀{l:List α},l.length=6->∃a b c d e f,l=[a,b,c,d,e,f]
 | [a,b,c,d,e,f],_=>⟨a,b,c,d,e,f,rfl⟩
theorem gZ.ofIn {K:PySem.W.Frag} {C f:Addr} (z:Oz K C f=true):gZ K C f:=by
 unfold Oz at z
 split at z
 ·rename_i o look
  obtain⟨oc,od,dt,slo⟩:=o
  dsimp only at z
  split at z
  ·rename_i kd
   simp only [Bool.and_eq_true,beq_iff_eq,Bool.not_eq_true'] at z
   obtain⟨⟨⟨⟨⟨⟨⟨x1,x2⟩,x3⟩,x4⟩,x5⟩,x6⟩,x7⟩,x8⟩:=z
   subst x1
   obtain⟨g1,g2,g3,g4,g5,g6,g7,g8,g9,g10,g11⟩:=kd
   dsimp only at x2 x3 x4 x5 x6
   obtain⟨sl⟩:=slo
   obtain⟨a0,a1,a2,a3,a5,rfl⟩:∃a0 a1 a2 a3 a5,sl=[a0,a1,a2,a3,some (.builtin "ValueError.__new__"),a5]:=by
    obtain⟨a0,a1,a2,a3,a4,a5,rfl⟩:=Yk (show sl.length=6 from x7)
    have e:a4=some (.builtin "ValueError.__new__"):=Option.some.inj (show some a4=_ from x8)
    subst e
    exact⟨a0,a1,a2,a3,a5,rfl⟩
   obtain⟨up,rfl⟩:∃up,g3=.ref C:: up:=by
    cases g3 with
    | nil=>cases x2
    | cons v r=>cases (show some v=some (Value.ref C) from x2);exact⟨r,rfl⟩
   subst x4
   refine⟨⟨g1,g5,g4,g2,up,g6,g7,g8,g9,g10,od,a0,a1,a2,a3,a5,Nm K g4,x6,λh X=>⟨X _ _ look,?_,PySem.W.tail_of_in X x3⟩⟩⟩
   rw [<-Qt X x5]
   exact .of_isNs (PySem.W.isNs_of_in X x5)
  ·cases z
 ·cases z
structure Um (K:PySem.W.Frag) (B:Addr):Prop where
 sp:PySem.W.specialIn K (.ref B) "__getattribute__" =some (some (.builtin "type.__getattribute__"))
 rd:PySem.W.readsIn K B (.type "type")=true
 fi:PySem.W.findCls K (.ref B) (.type "type") "__init__" =some (.val (.builtin "ValueError.__init__"))
noncomputable def tBase (K:PySem.W.Frag) (t:TA):TE:=λσ H Q=>t σ H λvs H1=>∃a C f us,vs=.ref a:: us/\H1 a=some (mH a C)/\gZ K C f/\us.length<=1000/\Q .non H1
section
variable {X:Cx} {CX:DX} {k:Nat} {C B f:Addr} {fd:FuncData} {ps:List Str} {sp:Sp} {E:XK} {x:Str} {p pos apos:Pos} {e:Expr} {es:List Expr} {t:TA}
theorem MK:mQ X (.builtin "ValueError.__init__") (λxs H Q=>∃a C f us,xs=.ref a:: us/\H a=some (mH a C)/\gZ X.K C f/\us.length<=1000/\Q .non H):=by
 intro pins s σ H xs us Q I r h
 obtain⟨a,C,f,vs,rfl,ea,c,hz,q⟩:=h
 obtain⟨nm,q',Nn,bs,bm,hdct,sn,sub,ab,col,dd,k0,k1,k2,k3,k5,mN,hi,hf⟩:=c.ex
 cases r with
 | cons r1 r=>
  rename_i u us
  obtain rfl:u=Value.ref a:=r1
  obtain⟨⟨a0,vr,sl,hx⟩,_,_⟩:=(show cV X.prog X.w H s.heap a (mH a C) from I.hok a _ ea)
  obtain⟨hC,hn,T⟩:=hf _ I.kIn
  obtain⟨hp,g,d,t,os⟩:=s
  refine Ss PySem.F.excBase_ValueError T hC hx rfl rfl (by rw [<-r.length,sizeLine_eq];lia) λh' tp _ kb e2=>⟨.non,H,?_,rfl,q⟩
  have I1:=I.write (x:=a) (e:=a) (o:=mH a C) (h':=h') (t':=t) (by rw [ea];exact True.intro) (.inl rfl) kb ⟨_,e2⟩ ⟨⟨_,_,_,e2⟩,⟨_,e2⟩,λh1 h2 ⟨x1,x2,x3,z⟩ k=>⟨x1,x2,x3,k _ z⟩⟩
  rwa [show upd H a (mH a C)=H from by funext b;by_cases q:b=a <;> simp [upd,q,ea]] at I1
theorem m7 {pl:Sem Bool} (hg:Gl X x) (hm:X.mg x=some (.ref B)) (b:Um X.K B) (ha:PA X (e:: es) t) (hdb:(x == ("__debug__" :Str))=false:=by decide)
  (hst:starEach (e:: es) X.env=(false,eval e X.env):: starEach es X.env:=by rfl) (hpl:(backTo pos (starEach es X.env)).any (·.1)=false:=by rfl)
  (ht:eval (.Call (.Attribute (.Name x p) "__init__" apos) (e:: es) [] pos) X.env=(do
   let ov <-eval (.Name x p) X.env
   standAt apos.atName
   let (f,first) <-holding [ov] (getMethod ov "__init__" pl)
   callWith pos f first (backTo pos (starEach (e:: es) X.env)) (backToKw pos (keywordEach [] X.env))):=by rfl):
  PE X (.Call (.Attribute (.Name x p) "__init__" apos) (e:: es) [] pos) (tBase X.K t):=by
 intro pins s σ H Q I h
 refine PySem.W.methodCall_KW (pl:=pl) (mL I hg hm ?_ hdb) ht
 refine PySem.W.method_cls I.kIn b.sp (PySem.W.cls_value I.kIn b.rd b.fi rfl ?_)
 have hA:=ha pos pins _ σ H _ (I.tok (s.toks+1)) h
 rw [hst] at hA ⊢
 refine Calls.callWith_builtin (by show(false || (backTo pos (starEach es X.env)).any (·.1))=false;rw [hpl] <;> rfl) (Calls.evalArgs_plain ?_)
 exact dC hA λus s2 ⟨vs,H2,I2,r2,q2⟩=>MK pins s2 σ H2 vs us Q I2 r2 q2
end
structure Q4 (K:PySem.W.Frag) (C f:Addr):Prop where
 ini:gZ K C f
 fn:PySem.W.isFn K (.ref f)=true
 kp:PySem.W.keepIn K (.ref C)=true
section
variable {X:Cx} {CX:DX} {k:Nat} {C f:Addr} {fd:FuncData} {ps:List Str} {sp:Sp} {E:XK} {x:Str} {p pos:Pos} {e:Expr} {es:List Expr} {t:TA}
theorem Nb {pins:List (Addr×Obj)} {σ:St} {H:Hp} {s:Shared} {Q:VK} {us:List Value} {vs:List V} (M:Q4 X.K C f) (F:jd X.prog X.w X.K X.mg X.base CX k f fd ps sp) (hr:ie (k+1) X.A) (hb:Binds X.K fd ps [])
  (hx:kY CX X E) (I:Inv X pins σ H s) (r:Vals vs us) (hz:vs.length<=1000)
  (h:∀x,H x=none->X.s₀.heap.get? x=none->sp (.ref x:: vs) (upd H x (mH x C)) (λv H2=>v=.non/\Q (.ref x) H2) E):
  wpAny (model X.prog X.w) X.A (call (.ref C) us) (EP X pins σ Q) X.xe s:=by
 obtain⟨nm,q',Nn,bs,bm,hdct,sn,sub,ab,col,dd,k0,k1,k2,k3,k5,mN,hi,hf⟩:=M.ini.ex
 obtain⟨hC,hn,T⟩:=hf _ I.kIn
 obtain⟨fo,lf,hfc⟩:∃fo,X.K.lookup f=some fo/\fo.cls=.type "function" :=by
  have z:=beq_iff_eq.mp M.fn
  exact Option.map_eq_some_iff.mp z
 obtain⟨hp,g,d,t,os⟩:=s
 refine R9 PySem.F.excBase_ValueError T hC hn hi (I.kIn _ _ lf) hfc (λh' e hs made=>?_) (by rw [<-r.length,sizeLine_eq];lia)
 obtain⟨tp,e1,_,_⟩:=made.there
 have I2:Inv X pins σ (upd H e (mH e C)) ⟨h',g,d,t,os⟩:=I.laid (t':=t) made.keeps hs ⟨⟨_,_,_,e1⟩,⟨_,e1⟩,λh1 h2 ⟨x1,x2,x3,z⟩ k=>⟨x1,x2,x3,k _ z⟩⟩
 have hq:=h e (I.hok.fresh hs) (Heap.get?_none_of_le (Nat.le_trans I.size hs))
 have r2:Vals (V.ref e:: vs) (Value.ref e:: us):=.cons rfl r
 have hl:(Value.ref e:: us ++ []).length=ps.length:=by
  have e:=r2.length
  rw [F.len _ _ _ _ hq] at e
  rw [List.append_nil]
  exact e.symm
 have hb2:=hb ⟨h',g,d,t,os⟩ (Value.ref e:: us) I2.kIn hl
 rw [List.append_nil] at hb2
 refine wpAny_call (codeAny_mono (F.run _ X.stack _ _ ⟨Value.ref e:: us,[]⟩ (Value.ref e:: us) _ _ E (hr.make C us []) (I2.env0.make C us []) hb2 r2 hq) λr s' hq'=>?_)
 cases r with
 | error e=>exact hx pins σ _ _ e s' I2 hq'
 | ok fl=>
  cases fl with
  | ret u=>
   obtain⟨v,H',I3,rv,ev,q3⟩:=I2.after hq'
   subst ev
   exact⟨rv,⟨V.ref e,H',I3,rfl,q3⟩⟩
  | next=>exact False.elim hq'
  | brk=>exact False.elim hq'
  | cont=>exact False.elim hq'
end
section
variable {X:Cx} {C:Addr} {x:Str} {p pos:Pos} {e:Expr} {es:List Expr} {t:TA}
end
end L2
namespace L2
open PySem
noncomputable def Vy (K:PySem.W.Frag) (C:Addr):Bool:=(PySem.W.clsIn K C).isSome && PySem.W.findIn K (.ref C) "__getattribute__" == some (some (.builtin "BaseException.__getattribute__")) && PySem.W.findIn K (.ref C) "__getattr__" == some none &&
 PySem.W.findIn K (.ref C) "__class__" == some (some (.builtin "object.__class__")) && PySem.W.subIn K (.ref C) (.type "object") == some true && PySem.W.subIn K (.ref C) (.type "BaseException") == some true
theorem U9.ofIn {K:PySem.W.Frag} {C:Addr} (h:Vy K C=true):U9 K C:=by
 simp only [Vy,Bool.and_eq_true,beq_iff_eq] at h
 obtain⟨⟨⟨⟨⟨a,b⟩,c⟩,d⟩,e⟩,f⟩:=h
 exact⟨a,b,c,d,e,f⟩
noncomputable def Wd (K:PySem.W.Frag) (C:Addr):Bool:=Vy K C && PySem.W.findIn K (.ref C) "__setattr__" == some (some (.builtin "object.__setattr__")) && (PySem.W.clsIn K C).any (λcd=>xF cd.mro && cd.hasDict)
theorem yr.ofIn {K:PySem.W.Frag} {C:Addr} (h:Wd K C=true):yr K C:=by
 simp only [Wd,Bool.and_eq_true,beq_iff_eq] at h
 obtain⟨⟨a,b⟩,c⟩:=h
 exact⟨.ofIn a,b,c⟩
noncomputable def Still {α:Type}:Sem α->Prop
 | .rule _ k | .at _ k | .point _ k=>Still (k ())
 | .load _ _ k=>∀o,Still (k o)
 | .update _ _ f k=>(∀o,(f o).dict=o.dict)/\Still (k ())
 | .loadIfAlive _ k=>∀o,Still (k o)
 | .alloc _ k=>∀a,Still (k a)
 | .fresh k=>∀t,Still (k t)
 | .ask k=>∀x,Still (k x)
 | .choose _ _ k=>∀n,Still (k n)
 | .os _ _ k=>∀r,Still (k r)
 | .handled _ k=>∀x,Still (k x)
 | .genState _ k=>∀x,Still (k x)
 | .newGen _ k=>∀x,Still (k x)
 | .stack k=>∀x,Still (k x)
 | .thread k=>∀x,Still (k x)
 | .call .. | .resume ..=>False
 | .pure _ | .raise _ | .unsupported _ | .finish _ | .register .. | .yield .. | .fork .. | .await ..=>True
noncomputable def DK (h h':Heap):Prop:=∀(b:Nat) (o:Obj),h.objs[b]?=some o->∃o',h'.objs[b]?=some o'/\o'.dict=o.dict
theorem DK.push {h h':Heap} (x:DK h h') (u:Obj):DK h (h'.push u):=λb o e=>by
 obtain⟨o',e1,e2⟩:=x b o e
 have hb:b <h'.objs.size:=(Array.getElem?_eq_some_iff.mp e1).1
 exact⟨o',by show(h'.objs.push u)[b]?=some o';rw [Array.getElem?_push_lt hb];exact e1 ▸ (Array.getElem?_eq_getElem hb).symm,e2⟩
theorem DK.update {h h':Heap} (x:DK h h') (a:Addr) {f:Obj->Obj} (hf:∀o,(f o).dict=o.dict):DK h (h'.update a f):=λb o e=>by
 obtain⟨o',e1,e2⟩:=x b o e
 show ∃u,(h'.objs.modify a f)[b]?=some u/\u.dict=o.dict
 rw [Array.getElem?_modify]
 by_cases q:a=b
 ·rw [if_pos q,e1];exact⟨f o',rfl,(hf o').trans e2⟩
 ·rw [if_neg q];exact⟨o',e1,e2⟩
theorem Od {α:Type} (M:Model) (Γ:Ctx) {Q:α->Pos->Shared->Prop} {E:Value->Pos->Shared->Prop} (t:Sem α):∀(p:Pos) (s:Shared) (h0:Heap),Still t->DK h0 s.heap->Sem.wp M Γ t Q E p s->Sem.wp M Γ t (λa p' s'=>Q a p' s'/\DK h0 s'.heap) E p s:=by
 induction t with
 | pure x=>intro p s h0 _ d h;exact⟨h,d⟩
 | raise v=>intro p s h0 _ d h;exact h
 | unsupported | finish | yield | fork | await | register=>intro p s h0 _ d h;exact h
 | rule _ k ih | «at» _ k ih | point _ k ih=>intro p s h0 x d h;exact ih _ _ _ _ x d h
 | loadIfAlive _ k ih | fresh k ih | ask k ih | os _ _ k ih | handled _ k ih | newGen _ k ih | stack k ih | thread k ih=>intro p s h0 x d h;exact ih _ _ _ _ (x _) d h
 | alloc o k ih=>intro p s h0 x d h;exact ih _ _ _ _ (x _) (d.push o) h
 | load a _ k ih | genState a k ih=>intro p s h0 x d h;obtain⟨o,ho,h⟩:=h;exact⟨o,ho,ih _ _ _ _ (x _) d h⟩
 | update a _ f k ih=>intro p s h0 x d h;exact⟨h.1,ih _ _ _ _ x.2 (d.update a x.1) h.2⟩
 | choose _ _ k ih=>intro p s h0 x d h;exact⟨h.1,ih _ _ _ _ (x _) d h.2⟩
 | call c h g l k ih=>intro p s h0 x;exact x.elim
 | resume g r l k ih=>intro p s h0 x;exact x.elim
theorem DK.refl (h:Heap):DK h h:=λb o e=>⟨o,e,rfl⟩
theorem jK {α:Type} {M:Model} {A:Around} {t:Sem α} {Q:α->Shared->Prop} {E:Value->Shared->Prop} {s:Shared} (x:Still t) (h:wpAny M A t Q E s):wpAny M A t (λa s'=>Q a s'/\DK s.heap s'.heap) E s:=
 λΓ p hΓ=>Od M Γ t p s s.heap x (DK.refl _) (h Γ p hΓ)
theorem bF {α β:Type} {m:Sem α} {f:α->Sem β} (h1:Still m) (h2:∀a,Still (f a)):Still (m >>= f):=by
 show Still (m.bind f)
 induction m with
 | pure x=>exact h2 x
 | raise _ | unsupported _ | finish _ | register _ _ | yield _ _ _ _ | fork _ _ | await _ _ _ _ _=>exact True.intro
 | rule _ k ih | «at» _ k ih | point _ k ih=>exact ih _ h1
 | loadIfAlive _ k ih | fresh k ih | ask k ih | os _ _ k ih | handled _ k ih | newGen _ k ih | stack k ih | thread k ih | alloc _ k ih | load _ _ k ih | genState _ k ih | choose _ _ k ih=>exact λo=>ih o (h1 o)
 | update a _ f k ih=>exact⟨h1.1,ih _ h1.2⟩
 | call c h g l k ih=>exact h1
 | resume g r l k ih=>exact h1
theorem bY {α:Type} {a:α}:Still (Pure.pure a:Sem α):=True.intro
theorem gA {α:Type} {w:String}:Still (unsupported w:Sem α):=True.intro
theorem ww {a:Addr}:Still (load a):=λ_=>True.intro
theorem rW:Still stack:=λ_=>True.intro
theorem mX {v:Value} {i:Nat}:Still (field v i):=by
 unfold field fieldsOf
 refine bF ?_ λx=>?_
 ·split
  ·exact bF ww λo=>by split <;> first | exact bY | exact gA
  ·exact gA
 ·split <;> first | exact bY | exact gA
theorem Bp (f:Array Value->Array Value) (o:Obj):(Obj.mapFields f o).dict=o.dict:=by
 unfold Obj.mapFields;split <;> rfl
theorem gj {v:Value} {i:Nat} {x:Value}:Still (setField v i x):=by
 unfold setField updateField
 split
 ·refine bF ww λo=>?_
  split
  ·split
   ·exact⟨Bp _,True.intro⟩
   ·exact gA
  ·exact gA
 ·exact gA
theorem iC {e:Value} {f:Option Addr}:Still (setFlight e f):=by
 unfold setFlight
 refine bF mX λtb=>?_
 split
 ·exact gj
 ·exact bY
theorem rN {f:Addr} {b:Bool}:Still (entryPlaceOf f b):=by
 unfold entryPlaceOf
 exact bF rW λa=>by split <;> exact bY
theorem tW {a b c d e:Value} {l:List Value}:Still (EntryCells.newEntry a b c d e l):=by
 unfold EntryCells.newEntry newFields newObj newObjAsIs
 dsimp only
 split <;> split <;> first | exact True.intro | exact λ_=>True.intro
theorem KZ:Still frameEnvs:=by unfold frameEnvs;exact bF rW λ_=>bY
theorem Hg {e:Env} {l:List Env}:Still (behindIsImport e l):=by
 unfold behindIsImport
 split
 ·exact bY
 ·split
  ·exact bY
  ·exact bF mX λ_=>bY
theorem JW {e:Env} {b:Bool}:∀{l:List Env},Still (keptBack e b l)
 | []=>by
  rw [keptBack]
  unfold underTheClaimsCaller
  split
  ·exact bY
  ·exact bF (bF rW λ_=>bY) λ_=>bY
 | _:: _=>by rw [keptBack];exact bY
theorem zf:∀{l:List Env},Still (readyFrames l)
 | []=>by unfold readyFrames;exact bY
 | e:: l=>by
  unfold readyFrames
  split
  ·refine bF ww λo=>?_
   split
   ·exact bY
   ·refine bF Hg λi=>bF JW λb=>?_
    exact bF (⟨λ_=>rfl,True.intro⟩) λ_=>zf
  ·exact gA
theorem uh {e:Env}:Still (frameOf e):=by
 unfold frameOf
 refine bF KZ λl=>bF ?_ λo=>?_
 ·unfold frameObject
  split
  ·exact bY
  ·exact bF zf λ_=>bY
 ·split
  ·exact bY
  ·exact gA
theorem CJ {e:Value} {env:Env}:Still (noteFrame e env):=by
 unfold noteFrame
 split
 ·refine bF mX λhd=>?_
  have tail:∀x:Value,Still (do setField e 1 (<-EntryCells.newEntry hd (<-frameOf env) .none x .none (<-entryPlaceOf (env.frame.getD 0) (hd != .none)))):=λx=>
   bF uh λ_=>bF rN λ_=>bF tW λ_=>gj
  split
  ·refine bF mX λx=>?_
   split
   ·exact bY
   ·refine bF gj λ_=>?_
    exact bF uh λ_=>bF rN λ_=>bF tW λ_=>gj
  ·exact bF uh λ_=>bF rN λ_=>bF tW λ_=>gj
 ·exact gA
theorem oN {e:Value} {env:Env}:Still (leaving env e):=by
 unfold leaving
 exact bF CJ λ_=>iC
end L2
namespace L2
open PySem PySem.Spec PyProof.Rows
inductive DictAt (h:Heap) (x:Addr) (d:Option Addr):Prop where
 | mk:∀o,h.get? x=some o->o.dict=d->DictAt h x d
theorem zU {h:Heap} {x:Addr} {o:Obj} (e:h.get? x=some o):h.objs[x]?=some o:=by
 unfold Heap.get? at e
 split at e
 ·cases e
 ·exact e
theorem DictAt.on {h h':Heap} {x:Addr} {d:Option Addr} {o':Obj} (a:DictAt h x d) (k:DK h h') (e:h'.get? x=some o'):DictAt h' x d:=by
 obtain⟨o,e1,e2⟩:=a
 obtain⟨o2,e3,e4⟩:=k x o (zU e1)
 cases (zU e).symm.trans e3
 exact⟨_,e,e4.trans e2⟩
noncomputable def del (H:Hp) (x:Addr):Hp:=λb=>if b=x then none else H b
theorem Bm {H:Hp} {x b:Addr} (h:b≠x):del H x b=H b:=if_neg h
theorem PN {H:Hp} {x b:Addr} {o:HO} (h:del H x b=some o):b≠x/\H b=some o:=by
 unfold del at h
 split at h
 ·cases h
 ·rename_i n;exact⟨n,h⟩
theorem Vq {fs ex:List Addr} {H H1:Hp} {h h1:Heap} {x:Addr} {φ:Heap->Prop} (u:Un fs ex H H1 h h1) (e:H1 x=some (.ext φ)):Un fs ex H (del H1 x) h h1:=by
 have ne:∀b o,H1 b=some o->(∀φ,o≠.ext φ)->del H1 x b=some o:=λb o q n=>by
  rw [Bm];exact q
  rintro rfl
  rw [e] at q
  exact n φ (Option.some.inj q).symm
 refine⟨u.keep,u.slot,λb o q n hx=>?_,u.there,λb xs q=>ne _ _ (u.tups b xs q) (by intro _ z;cases z),λb o v q=>ne _ _ (u.frzs b o v q) (by intro _ z;cases z),λb ps q=>?_⟩
 ·unfold del
  split
  ·rfl
  ·exact u.free b o q n hx
 ·obtain⟨m,z⟩:=u.tbls b ps q
  exact⟨m,ne _ _ z (by intro _ z;cases z)⟩
noncomputable def oU (P:Program) (w:World):DX:=λouter H s E e s'=>∃(x:Addr) (cls a0:Value) (H':Hp) (B:Heap) (d:Option Addr),e=.ref x/\s'.os=s.os/\AllBare s'.gens/\Heap.FlyingW B outer x cls a0 s'.heap/\DictAt s'.heap x d/\rK P w H' B/\
 Un (frs outer) [] H H' s.heap s'.heap/\(∀b o,s.heap.get? b=some o->b∉frs outer->∃o',B.get? b=some o')/\E cls d H'
theorem GJ {fs:List Addr} {H H1 H2:Hp} {h h1 h2 h3 B:Heap} {L:Addr} (u1:Un fs [] H H1 h h1) (u2:Un (L:: fs) [] H1 H2 h1 h2) (hL:∀b o,h.get? b=some o->b≠L)
  (inB:∀b o,h.get? b=some o->b∉fs->∃o',B.get? b=some o') (st2:B.StaysIn h2) (st3:B.StaysIn h3) (up:h2.UpToSlots h3)
  (fd:∀b o,h2.get? b=some o->b∈fs->∀vs,o.data≠.fields vs):Un fs [] H H2 h h3:=by
 have out:∀b o,h.get? b=some o->b∉fs->b∉L:: fs:=λb o q hb z=>(List.mem_cons.mp z).elim (hL b o q) hb
 have go:∀b o,h2.get? b=some o->(∃o',B.get? b=some o')->h3.get? b=some o:=λb o q ⟨o',q'⟩=>by
  have z:=st2 b o' q'
  rw [q] at z
  cases z
  exact st3 b _ q'
 refine⟨λb o q n hb hx=>?_,λb o q n hb hx=>?_,λb o q n hx=>?_,λb o q hx=>?_,λb xs q=>u2.tups b xs (u1.tups b xs q),λb o xs q=>u2.frzs b o xs (u1.frzs b o xs q),λb ps q=>?_⟩
 ·have k1:=u1.keep b o q n hb hx
  exact go b o (u2.keep b o k1 (u1.free b o q n hx) (out b o q hb) hx) (inB b o q hb)
 ·obtain⟨sl,k1⟩:=u1.slot b o q n hb hx
  obtain⟨sl2,k2⟩:=u2.slot b _ k1 (u1.free b o q n hx) (List.mem_cons_of_mem _ hb) hx
  obtain⟨sl3,k3⟩:=up b _ k2 (fd b _ k2 hb)
  exact⟨sl3,k3⟩
 ·obtain⟨o',k1⟩:=u1.there b o q hx
  exact u2.free b o' k1 (u1.free b o q n hx) hx
 ·obtain⟨o1,k1⟩:=u1.there b o q hx
  obtain⟨o2,k2⟩:=u2.there b o1 k1 hx
  by_cases hb:b∈fs
  ·obtain⟨sl3,k3⟩:=up b _ k2 (fd b _ k2 hb)
   exact⟨_,k3⟩
  ·exact⟨o2,go b o2 k2 (inB b o q hb)⟩
 ·obtain⟨m1,e1⟩:=u1.tbls b ps q
  obtain⟨m2,e2⟩:=u2.tbls b _ e1
  exact⟨m1 ++ m2,by rw [e2,Array.append_assoc]⟩
section
variable {P:Program} {w:World} {K:PySem.W.Frag} {mg:Str->Option Value} {base:Heap} {N:List Str} {qual:Str} {scope:Scope} {f:Addr} {cd:Value} {A:Around} {outer:List Env} {s:Shared} {H:Hp} {E:XK}
theorem uz {E':XK} (hE:∀c d H',E' c d H'->E c d H'):kY (oU P w) (ig (oU P w) P w K mg base N qual scope f cd A outer s H E) E':=by
 intro pins σ H1 s1 e s' I c
 obtain⟨x,cls,a0,H',B,d,rfl,hos,hg,fl,da,hok,un,inB,hE'⟩:=c
 have go:=jK oN (wpAny_leaves_onW (M:=model P w) (E:=λe' s''=>oU P w outer H s E e' s'') (Q:=λ_ s2=>∃h',s2={ s' with heap:=h' }/\Heap.FlyingW B outer x cls a0 h'/\s'.heap.UpToSlots h') I.ok.frames rfl fl λh' fl' up=>⟨h',rfl,fl',up⟩)
 refine wpAny_mono go (λ_ s2 q=>?_) λ_ _ z=>z
 obtain⟨⟨h',rfl,fl',up⟩,dk⟩:=q
 obtain⟨ob,hob,_⟩:=fl'.there
 have nL:∀b o,s.heap.get? b=some o->b≠s.heap.objs.size:=λb o q=>Nat.ne_of_lt (Heap.lt_size q)
 have fd:∀b o,s'.heap.get? b=some o->b∈frs outer->∀vs,o.data≠.fields vs:=λb o q hb=>by
  obtain⟨_,_,ff,_⟩:=fl
  have hb':b∈frs (envOfC qual scope s.heap.objs.size f cd:: outer):=List.mem_cons_of_mem _ hb
  obtain⟨_,o',q',d⟩:=ff.mem hb'
  rw [q] at q'
  cases q'
  exact d
 have inB':∀b o,s.heap.get? b=some o->b∉frs outer->∃o',B.get? b=some o':=λb o q hb=>by
  obtain⟨o1,k1⟩:=I.base.there b o q (by simp [ig])
  exact inB b o1 k1 λz=>(List.mem_cons.mp z).elim (nL b o q) hb
 exact⟨x,cls,a0,H',B,d,rfl,hos.trans I.os,hg,fl',da.on dk hob,hok,GJ (L:=s.heap.objs.size) I.base un nL inB' fl.1 fl'.1 up fd,inB',hE _ _ _ hE'⟩
theorem Vk {pins:List (Addr×Obj)} {σ:St} {H1:Hp} {s1:Shared} {x C dx:Addr} (I:Inv (ig (oU P w) P w K mg base N qual scope f cd A outer s H E) pins σ H1 s1)
  (ex:H1 x=some (rH x C dx)) (hn:s.heap.get? x=none) (hE:E (.ref C) (some dx) (del H1 x)):(ig (oU P w) P w K mg base N qual scope f cd A outer s H E).xe (.ref x) s1:=by
 obtain⟨⟨a0,vr,sl,hx⟩,_,_⟩:=(show cV P w H1 s1.heap x (rH x C dx) from I.hok x _ ex)
 have nL:∀b o,s.heap.get? b=some o->b≠s.heap.objs.size:=λb o q=>Nat.ne_of_lt (Heap.lt_size q)
 have hmem:∀env∈(envOfC qual scope s.heap.objs.size f cd:: outer),∀b,env.frame=some b->b∈x:: frs (envOfC qual scope s.heap.objs.size f cd:: outer):=λenv he b hb=>List.mem_cons_of_mem _ (List.mem_filterMap.mpr ⟨env,he,hb⟩)
 have stk:=I.stack
 have xf:x∉frs (envOfC qual scope s.heap.objs.size f cd:: outer):=λhm=>by
  have z:=I.stkFree x hm
  rw [ex] at z;cases z
 have inB:∀b o,s.heap.get? b=some o->b∉frs outer->∃o',(PySem.W.hideAll s1.heap (x:: frs (envOfC qual scope s.heap.objs.size f cd:: outer))).get? b=some o':=λb o q hb=>by
  obtain⟨o1,k1⟩:=I.base.there b o q (by simp [ig])
  refine⟨o1,PySem.W.hideAll_get _ k1 λz=>?_⟩
  rcases List.mem_cons.mp z with rfl | z
  ·rw [hn] at q;cases q
  ·exact(List.mem_cons.mp z).elim (nL b o q) hb
 have hok:rK P w (del H1 x) (PySem.W.hideAll s1.heap (x:: frs (envOfC qual scope s.heap.objs.size f cd:: outer))):=λb o q=>by
  obtain⟨nb,q⟩:=PN q
  have nx:∀c o,H1 c=some o->(∀φ,o≠.ext φ)->c≠x:=λc o q n z=>by
   rw [z,ex] at q
   exact n _ (Option.some.inj q).symm
  refine(I.hok b o q).stay (λc v hc q'=>PySem.W.hideAll_get _ q' λhm=>?_) (λc q'=>?_) λc xs q'=>?_
  ·rcases List.mem_cons.mp hm with rfl | hm
   ·rcases hc with z | z
    ·exact nb z.symm
    ·exact nx _ _ z (by intro _ z;cases z) rfl
   ·have hn:=I.stkFree c hm
    rcases hc with z | z
    ·rw [z,q] at hn;cases hn
    ·rw [z] at hn;cases hn
  ·rw [Bm (nx _ _ q' (by intro _ z;cases z))];exact q'
  ·rw [Bm (nx _ _ q' (by intro _ z;cases z))];exact q'
 have sB:(PySem.W.hideAll s1.heap (x:: frs (envOfC qual scope s.heap.objs.size f cd:: outer))).StaysIn s1.heap:=λb o q=>PySem.W.of_hideAll _ q
 have xB:(PySem.W.hideAll s1.heap (x:: frs (envOfC qual scope s.heap.objs.size f cd:: outer))).get? x=none:=PySem.W.hideAll_none _ (List.mem_cons_self ..)
 have go:=jK oN (wpAny_leaving_firstW (M:=model P w) (E:=λe' s''=>oU P w outer H s E e' s'') (base:=PySem.W.hideAll s1.heap (x:: frs (envOfC qual scope s.heap.objs.size f cd:: outer)))
  (Q:=λ_ s2=>∃h',s2={ s1 with heap:=h' }/\Heap.LeftW (PySem.W.hideAll s1.heap (x:: frs (envOfC qual scope s.heap.objs.size f cd:: outer))) (envOfC qual scope s.heap.objs.size f cd:: outer) x (.ref C) (.ref a0) s1.heap h')
  I.ok.frames (PySem.W.funFrames_hide stk hmem) rfl hx sB xB rfl rfl rfl λh' z=>⟨h',rfl,z⟩)
 refine wpAny_mono go (λ_ s2 q=>?_) λ_ _ z=>z
 obtain⟨⟨h',rfl,k1,⟨_,_,k2⟩,k3,k4⟩,dk⟩:=q
 have fl:Heap.FlyingW (PySem.W.hideAll s1.heap (x:: frs (envOfC qual scope s.heap.objs.size f cd:: outer))) outer x (.ref C) (.ref a0) h':=⟨k1,xB,k2,k3⟩
 obtain⟨ob,hob,_⟩:=fl.there
 have fd:∀b o,s1.heap.get? b=some o->b∈frs outer->∀vs,o.data≠.fields vs:=λb o q hb=>by
  have hb':b∈frs (envOfC qual scope s.heap.objs.size f cd:: outer):=List.mem_cons_of_mem _ hb
  obtain⟨_,o',q',d⟩:=stk.mem hb'
  rw [q] at q'
  cases q'
  exact d
 exact⟨x,_,_,del H1 x,_,some dx,rfl,I.os,I.bare,fl,DictAt.on (h:=s1.heap) ⟨_,hx,rfl⟩ dk hob,hok,Vq (GJ (L:=s.heap.objs.size) I.base Un.refl nL inB sB fl.1 k4 fd) ex,inB,hE⟩
end
section
variable {M:Model} {A:Around} {E:Value->Shared->Prop} {s:Shared} {env:Env} {nm q:Str} {C N:Addr} {bs bm:List Value} {hdct:Bool} {sn:List Str} {sub:List Value} {ab:Bool} {col:Option Bool} {dd:Option Addr} {k0 k1 k2 k3 k5:Option Value} {newId:String}
theorem Ry {x:Sem Value} {Q:Flow->Shared->Prop} (hb:bm.contains (.type "BaseException")=true) (hh:A.handled=none)
  (h:wpAny M A x (λv s₁=>∃e od dt sl,v=.ref e/\s₁.heap.get? C=some (excClassObj nm q C N bs bm hdct sn sub ab col dd k0 k1 k2 k3 k5 newId)/\s₁.heap.get? e=some ⟨.ref C,od,.fields dt,sl⟩/\dt[1]?=some .none/\E (.ref e) s₁) E s):wpAny M A (raiseStmt env (some x) none) Q E s:=by
 have hB:(Value.ref C:: bm).contains (.type "BaseException")=true:=by rw [List.contains_cons,hb,Bool.or_true]
 unfold raiseStmt
 refine wpAny_bind (wpAny_mono h (λv sx hx=>?_) λ_ _ z=>z)
 obtain⟨e,od,dt,sl,rfl,hC,he,hd,hE⟩:=hx
 obtain⟨hs,gs,ds,ts,os⟩:=sx
 repeat (first | with_reducible refine wpAny_loadPart_at he ?_ | with_reducible refine wpAny_loadPart_at hC ?_ | (with_reducible refine wpAny_isSubtype_exc hC ?_;rw [hB]) | wp_step)
 rw [hd]
 refine wpAny_pure ?_
 rw [if_neg (by decide)]
 exact wpAny_pure (PySem.wpAny_raiseNew_none hh hE)
theorem RG {x:Expr} {pos:Pos} {Q:Flow->Shared->Prop} (hb:bm.contains (.type "BaseException")=true) (hh:A.handled=none)
  (h:wpAny M A (eval x env) (λv s₁=>∃e od dt sl,v=.ref e/\s₁.heap.get? C=some (excClassObj nm q C N bs bm hdct sn sub ab col dd k0 k1 k2 k3 k5 newId)/\s₁.heap.get? e=some ⟨.ref C,od,.fields dt,sl⟩/\dt[1]?=some .none/\E (.ref e) s₁) E s):wpAny M A (exec (.Raise (some x) none pos) env) Q E s:=by
 rw [arm_exec_Raise]
 have go:wpAny M A (do let v <-eval x env;standAt pos;pure v) (λv s₁=>∃e od dt sl,v=.ref e/\s₁.heap.get? C=some (excClassObj nm q C N bs bm hdct sn sub ab col dd k0 k1 k2 k3 k5 newId)/\s₁.heap.get? e=some ⟨.ref C,od,.fields dt,sl⟩/\dt[1]?=some .none/\E (.ref e) s₁) E s:=
  wpAny_bind (wpAny_mono h (λv s₁ z=>wpAny_bind (wpAny_standAt (wpAny_pure z))) λ_ _ z=>z)
 exact wpAny_bind (wpAny_standAt (Ry hb hh go))
end
section
variable {P:Program} {w:World} {K:PySem.W.Frag} {mg:Str->Option Value} {base:Heap} {N:List Str} {qual:Str} {scope:Scope} {f:Addr} {cd:Value} {A:Around} {outer:List Env} {s:Shared} {H:Hp} {E:XK}
noncomputable def Mr (s:Shared) (E:XK) (C:Addr):VK:=λv H3=>∃y dx,v=.ref y/\s.heap.get? y=none/\H3 y=some (rH y C dx)/\E (.ref C) (some dx) (del H3 y)
noncomputable def RJ (s:Shared) (E:XK) (C:Addr) (sp:Sp) (E1:XK) (ta:TA):TS:=λ_ σ H=>ta σ H λvs H1=>vs.length<=1000/\∀x,H1 x=none->s.heap.get? x=none->sp (.ref x:: vs) (upd H1 x (mH x C)) (λv H2=>v=.non/\Mr s E C (.ref x) H2) E1
theorem fu {CX:DX} {k:Nat} {fi:Addr} {fd:FuncData} {ps:List Str} {sp:Sp} {E1:XK} {x:Str} {C:Addr} {np cpos pos:Pos} {e:Expr} {es:List Expr} {ta:TA} (Mk:Q4 K C fi) (F:jd P w K mg base CX k fi fd ps sp)
  (hr:ie (k+1) (ig (oU P w) P w K mg base N qual scope f cd A outer s H E).A) (hg:Gl (ig (oU P w) P w K mg base N qual scope f cd A outer s H E) x) (hm:mg x=some (.ref C)) (hb:Binds K fd ps []) (hx:kY CX (ig (oU P w) P w K mg base N qual scope f cd A outer s H E) E1)
  (ha:PA (ig (oU P w) P w K mg base N qual scope f cd A outer s H E) (e:: es) ta) (hdb:(x == ("__debug__" :Str))=false:=by decide)
  (he:starEach (e:: es) (ig (oU P w) P w K mg base N qual scope f cd A outer s H E).env=(false,eval e (ig (oU P w) P w K mg base N qual scope f cd A outer s H E).env):: starEach es (ig (oU P w) P w K mg base N qual scope f cd A outer s H E).env:=by rfl)
  (hpl:(backTo cpos (starEach es (ig (oU P w) P w K mg base N qual scope f cd A outer s H E).env)).any (·.1)=false:=by rfl):
  PS (ig (oU P w) P w K mg base N qual scope f cd A outer s H E) (.Raise (some (.Call (.Name x np) (e:: es) [] cpos)) none pos) (RJ s E C sp E1 ta):=by
 intro pins s1 σ H1 D I h
 obtain⟨nm,q',Nn,bs,bm,hdct,sn,sub,ab,col,dd,k0,k1,k2,k3,k5,mN,hi,hf⟩:=Mk.ini.ex
 have hB:bm.contains (.type "BaseException")=true:=(hf _ I.kIn).2.2.hasType (X:= "BaseException") (b:=true) (by decide +kernel)
 refine RG (C:=C) (nm:=nm) (q:=q') (N:=Nn) (bs:=bs) (bm:=bm) (hdct:=hdct) (sn:=sn) (sub:=sub) (ab:=ab) (col:=col) (dd:=dd) (k0:=k0) (k1:=k1) (k2:=k2) (k3:=k3) (k5:=k5) (newId:= "ValueError.__new__") hB (I.ok.hd rfl) ?_
 refine wpAny_mono (wpAny_Call_Name_kw (mL I hg hm (PySem.W.callWith_K (h₀:=(ig (oU P w) P w K mg base N qual scope f cd A outer s H E).base) I.ok.mod.kin Mk.kp (dC (ha cpos pins s1 σ H1 _ I h) λus s2 ⟨vs,H2,I2,r,hz,q⟩=>⟨I2.kIn,
  Nb (X:=ig (oU P w) P w K mg base N qual scope f cd A outer s H E) (Q:=Mr s E C) Mk F hr hb hx I2 r hz q⟩) he hpl) hdb)) (λv s3 z=>?_) λ_ _ z=>z
 obtain⟨v',H3,I3,rv,y,dx,rfl,n0,e1,e2⟩:=z
 obtain rfl:v=Value.ref y:=rv
 obtain⟨⟨a0,vr,sl,hx3⟩,_,_⟩:=(show cV P w H3 s3.heap y (rH y C dx) from I3.hok y _ e1)
 exact⟨y,_,_,_,rfl,(hf _ I3.kIn).1,hx3,rfl,Vk I3 e1 n0 e2⟩
end
noncomputable def U7 (x C dx:Addr):HO:=.ext λh=>∃fl sl,h.get? x=some ⟨.ref C,some dx,.fields fl,sl⟩
theorem Wf {X:Cx} {pins:List (Addr×Obj)} {σ:St} {H:Hp} {s1 s':Shared} {Ex:XK} {e:Value} {A:Around} {E:Value->Shared->Prop} {Q:Unit->Shared->Prop} (I:Inv X pins σ H s1) (c:oU X.prog X.w X.stack H s1 Ex e s')
  (hA:A.frames=some X.stack) (hst:X.stack=X.env:: X.outer) (hf:X.env.frame=some X.env.locals) (hex:X.ex=[])
  (k:∀x cls H' s2 B a0 d,e=.ref x->PJ X pins σ H' x cls s2 B a0->DictAt s2.heap x d->Ex cls d H'->Q () s2):
  wpAny (model X.prog X.w) A (noteFrame e X.env) (λ_ s2=>wpAny (model X.prog X.w) A (setFlight e none) Q E s2) E s':=by
 obtain⟨x,cls,a0,H',B,d,rfl,hos,hg,fl,da,hok,un,inB,hE'⟩:=c
 have fd:∀b o,s'.heap.get? b=some o->b∈frs X.stack->∀vs,o.data≠.fields vs:=λb o q hb=>by
  obtain⟨_,_,ff,_⟩:=id fl
  obtain⟨_,o',q',d⟩:=ff.mem hb
  rw [q] at q'
  cases q'
  exact d
 have nB:B.get? x=none:=fl.2.1
 have hfree:H' x=none:=by
  cases q:H' x with
  | none=>rfl
  | some o=>
   obtain⟨ob,z⟩:=(hok x o q).some_at
   rw [nB] at z;cases z
 have n1:s1.heap.get? x=none:=by
  cases q:s1.heap.get? x with
  | none=>rfl
  | some o=>
   exfalso
   by_cases hb:x∈frs X.stack
   ·obtain⟨oe,vs,he,_,hd,_⟩:=fl.first
    exact fd x oe he hb vs hd
   ·obtain⟨o',z⟩:=inB x o q hb
    rw [nB] at z;cases z
 have here:∀b o,s1.heap.get? b=some o->b≠x:=λb o q z=>by rw [z,n1] at q;cases q
 have fl0:Heap.FlyingW B (X.env:: X.outer) x cls a0 s'.heap:=by rw [<-hst];exact fl
 have g1:=jK CJ (wpAny_looks_onW (M:=model X.prog X.w) (A:=A) (E:=E) (Q:=λ_ s2=>∃h',s2={ s' with heap:=h' }/\Heap.HeldW B (X.env:: X.outer) x cls a0 X.env.locals h'/\s'.heap.UpToSlots h') (by rw [hA,hst]) hf fl0 λh' hh up=>⟨h',rfl,hh,up⟩)
 refine wpAny_mono g1 (λ_ s2 q=>?_) λ_ _ z=>z
 obtain⟨⟨h2,rfl,hh,up2⟩,dk2⟩:=q
 have g2:=jK iC (wpAny_landsW (M:=model X.prog X.w) (A:=A) (E:=E) (s:={ s' with heap:=h2 }) (Q:=λ_ s3=>∃h',s3={ s' with heap:=h' }/\Heap.FlyingW B (X.env:: X.outer) x cls a0 h'/\h2.UpToSlots h') hh λh' f3 up=>⟨h',rfl,f3,up⟩)
 refine wpAny_mono g2 (λ_ s3 q=>?_) λ_ _ z=>z
 obtain⟨⟨h3,rfl,fl3,up3⟩,dk3⟩:=q
 obtain⟨o2,ho2,_⟩:=hh.there
 obtain⟨o3,ho3,_⟩:=fl3.there
 have fl3':Heap.FlyingW B X.stack x cls a0 h3:=by rw [hst];exact fl3
 have go:∀h6,Heap.FlyingW B X.stack x cls a0 h6->s'.heap.UpToSlots h6->Inv X pins σ H' { s' with heap:=h6 }:=λh6 f6 u6=>
  I.call' (s':={ s' with heap:=h6 }) hos (Xm un inB fl.1 f6.1 u6 fd) (hok.kept λb o q=>f6.1 b o q) hg λb hb=>absurd hb (by simp)
 refine k x cls H' _ B a0 d rfl ⟨go h3 fl3' (up2.trans up3),fl3',λh6 f6 u6=>go h6 f6 ((up2.trans up3).trans u6),hfree,?_,?_,λy c e=>?_,λp hp=>here _ _ (I.pin p hp).1⟩ ((da.on dk2 ho2).on dk3 ho3) hE'
 ·cases q:X.s₀.heap.get? x with
  | none=>rfl
  | some o=>
   obtain⟨o',z⟩:=I.base.there x o q (by rw [hex];simp)
   rw [n1] at z;cases z
 ·obtain⟨m,⟨o,_,_,q,_⟩,_⟩:=I.loc
  exact λz=>here _ _ q z.symm
 ·obtain⟨v,o,q,_⟩:=I.cell y c e
  exact here _ _ q
section
variable {M:Model} {A:Around} {E:Value->Shared->Prop} {nm q:Str} {C N:Addr} {bs bm:List Value} {hdct:Bool} {sn:List Str} {sub:List Value} {ab:Bool} {col:Option Bool} {dd:Option Addr} {k0 k1 k2 k3 k5:Option Value} {newId:String}
theorem HS {h:Heap} {g:Array GenState} {d:Drawn} {t:Nat} {os:OsState} {e C1:Addr} {oe:Obj} {Q:Bool->Shared->Prop}
  (hC:h.get? C=some (excClassObj nm q C N bs bm hdct sn sub ab col dd k0 k1 k2 k3 k5 newId)) (he:h.get? e=some oe) (hcls:oe.cls=.ref C1) (hbase:bm.contains (.type "BaseException")=true)
  (hs:∀{Q:Bool->Shared->Prop},Q false ⟨h,g,d,t,os⟩->wpAny M A (isSubtype (.ref C1) (.ref C)) Q E ⟨h,g,d,t,os⟩) (hq:Q false ⟨h,g,d,t,os⟩):wpAny M A (excMatches (.ref e) (.ref C)) Q E ⟨h,g,d,t,os⟩:=by
 have hB:(Value.ref C:: bm).contains (.type "BaseException")=true:=by rw [List.contains_cons,hbase,Bool.or_true]
 have f0:=tc_notTuple
 unfold excMatches
 repeat (first | (with_reducible refine wpAny_loadPart_at he ?_;rw [hcls]) | with_reducible refine wpAny_loadPart_at hC ?_ | (with_reducible refine wpAny_isSubtype_exc hC ?_;rw [hB]) | with_reducible refine hs ?_ | wp_step)
 exact hq
end
noncomputable abbrev TH:=Ends->Value->Option Addr->St->Hp->Prop
noncomputable def PH (X:Cx) (hs:List ExceptHandler) (T:TH):Prop:=∀(pins:List (Addr×Obj)) (σ:St) (H':Hp) (y:Addr) (cls:Value) (s:Shared) (B:Heap) (a0:Value) (d:Option Addr) (D:Ends),PJ X pins σ H' y cls s B a0->DictAt s.heap y d->T D cls d σ H'->
 wpAny (model X.prog X.w) X.A (handleBy (.ref y) X.env hs) (SP X pins D) X.xe s
noncomputable def Xc:TH:=λ_ _ _ _ _=>False
theorem Vs {X:Cx}:PH X [] Xc:=λ_ _ _ _ _ _ _ _ _ _ _ _ h=>h.elim
inductive QB (tb:(St->XK)->TS) (th:TH) (D:Ends) (σ:St) (H:Hp):Prop where
 | mk:∀R:St->XK,((∀σ' cls d H',R σ' cls d H'->th D cls d σ' H'))->tb R D σ H->QB tb th D σ H
noncomputable def Wu (tb:(St->XK)->TS) (th:TH):TS:=λD σ H=>QB tb th D σ H
theorem Q9 {X:Cx} {body:List Stmt} {h₀:ExceptHandler} {hs:List ExceptHandler} {pos:Pos} {tb:(St->XK)->TS} {th:TH} (hst:X.stack=X.env:: X.outer) (hf:X.env.frame=some X.env.locals) (hex:X.ex=[])
  (hb:∀(pn:List (Addr×Obj)) (Ex:Value->Shared->Prop) (R:St->XK),(∀pins σ H s e s',Inv (X.over pn Ex) pins σ H s->oU X.prog X.w X.stack H s (R σ) e s'->Ex e s')->Fg (X.over pn Ex) body (tb R)) (hh:PH X (h₀:: hs) th):
  PS X (.Try body (h₀:: hs) [] [] pos) (Wu tb th):=by
 intro pins s σ H D I h
 obtain⟨R,hR,hbody⟩:=h
 refine wpAny_Try_except (wpAny_mono (hb (X.pn ++ pins) (λe s₁=>wpAny (model X.prog X.w) X.A (noteFrame e X.env) (λ_ s₂=>wpAny (model X.prog X.w) X.A (setFlight e none) (λ_ s₃=>
  wpAny (model X.prog X.w) X.A (handleBy e X.env (h₀:: hs)) (SP X pins D) X.xe s₃) X.xe s₂) X.xe s₁) R ?_ [] s σ H D I.over hbody) (λf s₁ q=>?_) λe s₁ q=>q)
 ·intro pins' σ' H' s1 e s2 I1 c
  refine Wf (I1.unover) c I.ok.frames hst hf hex λy cls H2 s3 B a0 d he L da hE=>?_
  subst he
  exact hh pins σ' H2 y cls s3 B a0 d D L da (hR _ _ _ _ hE)
 ·cases f with
  | next=>
   obtain⟨σ1,H1,I1,q1⟩:=q
   exact wpAny_execs_nil ⟨σ1,H1,I1.unover,q1⟩
  | brk=>
   obtain⟨σ1,H1,I1,q1⟩:=q
   exact⟨σ1,H1,I1.unover,q1⟩
  | cont=>
   obtain⟨σ1,H1,I1,q1⟩:=q
   exact⟨σ1,H1,I1.unover,q1⟩
  | ret u=>
   obtain⟨v,σ1,H1,I1,rv,q1⟩:=q
   exact⟨v,σ1,H1,I1.unover,rv,q1⟩
inductive Ol (K:PySem.W.Frag) (f:Str) (Q:VK) (x:V) (H1:Hp):Prop where
 | mk:∀a C dx fs v,x=.ref a->H1 a=some (U7 a C dx)->H1 dx=some (.xd fs)->yr K C->cU K C f->fs.lookup f=some v->Q v H1->Ol K f Q x H1
noncomputable def V9 (K:PySem.W.Frag) (ta:TE) (f:Str):TE:=λσ H Q=>ta σ H λx H1=>Ol K f Q x H1
theorem n6 {X:Cx} {K:PySem.W.Frag} {e:Expr} {f:Str} {pos:Pos} {ta:TE} (hK:X.K=K) (he:PE X e ta) (hb:attributeBase e f X.env (eval e X.env)=eval e X.env):PE X (.Attribute e f pos) (V9 K ta f):=by
 subst hK
 intro pins s σ H Q I h
 refine La hb (dC (he pins s σ H _ I h) λu s1 hpt=>?_)
 obtain⟨x,H1,I1,rx,a,C,dx,fs,v,ex,ea,ed,c,n,l,q⟩:=hpt
 subst ex
 obtain rfl:u=Value.ref a:=rx
 obtain⟨⟨fl,sl,hx⟩,_,_⟩:=(show cV X.prog X.w H1 s1.heap a (U7 a C dx) from I1.hok a _ ea)
 exact RT I1 hx ed c n l λu' s2 I2 ru=>⟨v,H1,I2,ru,q⟩
section
variable {P:Program} {w:World} {K:PySem.W.Frag} {mg:Str->Option Value} {base:Heap}
theorem Q7.ok2 {x qual:Str} {st:Stmt} {f:Addr} {fd:FuncData} {N ps:List Str} {k:Nat} {sp:Sp} (F:Q7 K x qual st f fd) (S:fJ N ps (bw st)) (len:∀vs H Q E,sp vs H Q E->vs.length=ps.length)
  (go:∀(cdv:Value) (A:Around) (outer:List Env) (s:Shared) (H:Hp) (vs:List V) (Q:VK) (E:XK),ie k (A.deeper (envOfC qual (bw st) s.heap.objs.size f cdv))->sp vs H Q E->
   ∃t,Fg (ig (oU P w) P w K mg base N qual (bw st) f cdv A outer s H E) (fQ st) t/\t { nx:=λ_ H'=>Q .non H',rt:=Q } (start N vs) H):jd P w K mg base (oU P w) (k+1) f fd ps sp:=by
 obtain⟨oc,od,kV,doc,pm,an,cdv,ct,osl,e,lk,hcd⟩:=F.ex
 subst e
 exact Tz lk hcd S len λA outer s H vs Q E hr hsp=>go cdv A outer s H vs Q E hr hsp
end
theorem gZ.at {K:PySem.W.Frag} {C f:Addr} (c:gZ K C f) {h:Heap} (X:K.In h):ExcAt K C:=by
 obtain⟨nm,q,Nn,bs,bm,hdct,sn,sub,ab,col,dd,k0,k1,k2,k3,k5,mN,_,hf⟩:=c.ex
 exact⟨⟨nm,q,Nn,bs,bm,hdct,sn,sub,ab,col,dd,k0,k1,k2,k3,k5,_,(hf h X).2.2.hasType (X:= "BaseException") (b:=true) (by decide +kernel),λh X=>(hf h X).1⟩⟩
noncomputable def YS (a b:TI):TI:=λσ H R=>a σ H R∨b σ H R
theorem S7 {X:Cx} {tg it:Expr} {a b:TI} (h1:PI X tg it a) (h2:PI X tg it b):PI X tg it (YS a b):=λpins s σ H R I h=>h.elim (h1 pins s σ H R I) (h2 pins s σ H R I)
theorem Ob {js:List Nat} {tt:TT} {te:TE} {σ:St} {Qd:List V->Hp->Prop} {K:PySem.W.Frag} {a:Addr} {xs:List V} {H:Hp} (Pv:Nat->List V->Hp->Prop) (hn:xs.length<=sizeLine) (h0:Pv 0 [] H) (hl:∀i ys H,Pv i ys H->ys.length<=i) (hq:∀i ys H,i<=xs.length->Pv i ys H->d7 K H a xs)
  (hs:∀i x ys H,xs[i]?=some x->Pv i ys H->tt (some x:: dh σ js) H λb H4=>if b=true then te (some x:: dh σ js) H4 λy H5=>Pv (i+1) (ys ++ [y]) H5 else Pv (i+1) ys H4)
  (hd:∀ys H,Pv xs.length ys H->Qd ys H):CompEnd js tt te σ Qd (V7 K a) H:=by
 refine⟨λi m ys H=>m=xs.length - i/\i<=xs.length/\Pv i ys H,⟨xs.length,by simp,Nat.zero_le _,h0⟩,?_⟩
 rintro i m ys H ⟨rfl,hi,p⟩
 have hlen:=hl i ys H p
 have q:=hq i ys H hi p
 by_cases hlt:i <xs.length
 ·refine .inr ⟨⟨xs,xs[i],q,by simp [hlt]⟩,by lia,Pv (i+1),λys' H' p'=>⟨xs.length - (i+1),by lia,rfl,hlt,p'⟩,λx H' y=>?_⟩
  obtain⟨e,y⟩:=y
  subst e
  exact hs i x ys _ (y xs q) p
 ·have e:i=xs.length:=by lia
  subst e
  exact .inl ⟨⟨xs,q,Nat.le_refl _⟩,by lia,hd ys H p⟩
theorem Pn {js:List Nat} {tt:TT} {te:TE} {σ σ0:St} {Qd:List V->Hp->Prop} {K:PySem.W.Frag} {a:Addr} {xs:List V} {H:Hp} {tl:TE} (ht:∀R:V->Hp->Prop,R (.ref a) H->tl σ0 H R) (ha:uG K H a xs) (Pv:Nat->List V->Prop) (hn:xs.length<=sizeLine) (h0:Pv 0 []) (hl:∀i ys,Pv i ys->ys.length<=i)
  (hs:∀i x ys,xs[i]?=some x->Pv i ys->tt (some x:: dh σ js) H λb H4=>if b=true then te (some x:: dh σ js) H4 λy H5=>H5=H/\Pv (i+1) (ys ++ [y]) else H4=H/\Pv (i+1) ys)
  (hd:∀ys,Pv xs.length ys->Qd ys H):YS (Tp K tl) (WQ K tl) σ0 H (CompEnd js tt te σ Qd):=by
 rcases ha with ha | ha
 ·refine .inl (ht _ ⟨a,rfl,⟨xs,ha⟩,jD (K:=K) (a:=a) (xs:=xs) (λi ys H'=>H'=H/\Pv i ys) hn ⟨rfl,h0⟩ (λi ys _ z=>hl i ys z.2) (λi ys H' _ z=>by rw [z.1];exact ha) (λi x ys H' hx z=>?_) λys H' z=>?_⟩)
  ·obtain⟨rfl,z⟩:=z;exact hs i x ys hx z
  ·obtain⟨rfl,z⟩:=z;exact hd ys z
 ·refine .inr (ht _ ⟨a,rfl,⟨xs,ha⟩,Ob (K:=K) (a:=a) (xs:=xs) (λi ys H'=>H'=H/\Pv i ys) hn ⟨rfl,h0⟩ (λi ys _ z=>hl i ys z.2) (λi ys H' _ z=>by rw [z.1];exact ha) (λi x ys H' hx z=>?_) λys H' z=>?_⟩)
  ·obtain⟨rfl,z⟩:=z;exact hs i x ys hx z
  ·obtain⟨rfl,z⟩:=z;exact hd ys z
theorem uG.len {K:PySem.W.Frag} {H:Hp} {a:Addr} {xs:List V} (h:uG K H a xs):W6 K (.ref a) H xs.length:=h.elim (λh=>.inl ⟨xs,h,rfl⟩) λh=>.inr ⟨xs,h,rfl⟩
theorem jR {X:Cx} {K:PySem.W.Frag} (hK:X.K=K):Uv X (WL K):=by subst hK;exact aU
theorem Rv {X:Cx} {K:PySem.W.Frag} (hK:X.K=K):Uv X (WX K):=by subst hK;exact dM
section
variable {P:Program} {w:World} {K:PySem.W.Frag} {mg:Str->Option Value} {base:Heap} {N:List Str} {qual:Str} {scope:Scope} {f:Addr} {cd:Value} {A:Around} {outer:List Env} {s:Shared} {H:Hp} {E:XK}
theorem Us {pins:List (Addr×Obj)} {σ:St} {H1:Hp} {s1:Shared} {h':Heap} {e:Addr} {cls:Value} {args:List Value} (I:Inv (ig (oU P w) P w K mg base N qual scope f cd A outer s H E) pins σ H1 s1)
  (hx:Heap.MadeExcOf s1.heap h' e cls args) (hE:E cls none H1):(ig (oU P w) P w K mg base N qual scope f cd A outer s H E).xe (.ref e) { s1 with heap:=h' }:=by
 have nL:∀b o,s.heap.get? b=some o->b≠s.heap.objs.size:=λb o q=>Nat.ne_of_lt (Heap.lt_size q)
 have hmem:∀env∈(envOfC qual scope s.heap.objs.size f cd:: outer),∀b,env.frame=some b->b∈frs (envOfC qual scope s.heap.objs.size f cd:: outer):=λenv he b hb=>List.mem_filterMap.mpr ⟨env,he,hb⟩
 have stk:=I.stack
 have inB:∀b o,s.heap.get? b=some o->b∉frs outer->∃o',(PySem.W.hideAll s1.heap (frs (envOfC qual scope s.heap.objs.size f cd:: outer))).get? b=some o':=λb o q hb=>by
  obtain⟨o1,k1⟩:=I.base.there b o q (by simp [ig])
  exact⟨o1,PySem.W.hideAll_get _ k1 λz=>(List.mem_cons.mp z).elim (nL b o q) hb⟩
 have hok:rK P w H1 (PySem.W.hideAll s1.heap (frs (envOfC qual scope s.heap.objs.size f cd:: outer))):=λb o q=>by
  refine(I.hok b o q).stay (λc v hc q'=>PySem.W.hideAll_get _ q' λhm=>?_) (λ_ q'=>q') λ_ _ q'=>q'
  have hn:=I.stkFree c hm
  rcases hc with z | z
  ·rw [z,q] at hn;cases hn
  ·rw [z] at hn;cases hn
 have sB:(PySem.W.hideAll s1.heap (frs (envOfC qual scope s.heap.objs.size f cd:: outer))).StaysIn s1.heap:=λb o q=>PySem.W.of_hideAll _ q
 have go:=jK oN (wpAny_leaves_madeW (M:=model P w) (E:=λe' s''=>oU P w outer H s E e' s'') (s:={ s1 with heap:=h' }) (base:=PySem.W.hideAll s1.heap (frs (envOfC qual scope s.heap.objs.size f cd:: outer))) (h:=s1.heap)
  (Q:=λ_ s2=>∃h2 t,s2={ s1 with heap:=h2 }/\Heap.FlyingW (PySem.W.hideAll s1.heap (frs (envOfC qual scope s.heap.objs.size f cd:: outer))) outer e cls (.ref t) h2/\h'.UpToSlots h2)
  I.ok.frames rfl sB (PySem.W.funFrames_hide stk hmem) hx λh2 t fl _ _ up=>⟨h2,t,rfl,fl,up⟩)
 refine wpAny_mono go (λ_ s2 q=>?_) λ_ _ z=>z
 obtain⟨⟨h2,t,rfl,fl,up⟩,dk⟩:=q
 obtain⟨ob,hob,_⟩:=fl.there
 obtain⟨t0,he,_,_⟩:=hx.there
 have fd:∀b o,s1.heap.get? b=some o->b∈frs outer->∀vs,o.data≠.fields vs:=λb o q hb=>by
  have hb':b∈frs (envOfC qual scope s.heap.objs.size f cd:: outer):=List.mem_cons_of_mem _ hb
  obtain⟨_,o',q',d⟩:=stk.mem hb'
  rw [q] at q'
  cases q'
  exact d
 exact⟨e,cls,_,H1,_,none,rfl,I.os,I.bare,fl,DictAt.on (h:=h') ⟨_,he,rfl⟩ dk hob,hok,GJ (L:=s.heap.objs.size) I.base Un.refl nL inB sB fl.1 ((Heap.UpToSlots.of_keeps hx.keeps).trans up) fd,inB,hE⟩
theorem Eu {x:Str} {C:Addr} {np cpos pos:Pos} {e:Expr} {es:List Expr} {ta:TA} (c:ul K C) (hm:mg x=some (.ref C))
  (hg:Gl (ig (oU P w) P w K mg base N qual scope f cd A outer s H E) x) (ha:PA (ig (oU P w) P w K mg base N qual scope f cd A outer s H E) (e:: es) ta)
  (he:starEach (e:: es) (ig (oU P w) P w K mg base N qual scope f cd A outer s H E).env=(false,eval e (ig (oU P w) P w K mg base N qual scope f cd A outer s H E).env):: starEach es (ig (oU P w) P w K mg base N qual scope f cd A outer s H E).env:=by rfl)
  (hpl:(backTo cpos (starEach (e:: es) (ig (oU P w) P w K mg base N qual scope f cd A outer s H E).env)).any (·.1)=false:=by rfl) (hdb:(x == ("__debug__" :Str))=false:=by decide):
  PS (ig (oU P w) P w K mg base N qual scope f cd A outer s H E) (.Raise (some (.Call (.Name x np) (e:: es) [] cpos)) none pos) (Uq E C ta):=by
 intro pins s1 σ H1 D I h
 obtain⟨nm,q,Nn,bs,bm,bmB,hdct,sn,sub,ab,col,dd,k0,k1,k2,k3,k5,B,newId,initId,mN,F,hb,hni,hf⟩:=c.ex
 have hl:sizeLine=16777216:=sizeLine_eq
 refine wpAny_Raise_call_subT (nm:=nm) (q:=q) (N:=Nn) (bs:=bs) (bm:=bm) (hdct:=hdct) (sn:=sn) (sub:=sub) (ab:=ab) (col:=col) (dd:=dd) (k0:=k0) (k1:=k1) (k2:=k2) (k3:=k3) (k5:=k5) F hb (I.ok.hd rfl) hpl hni (mL I hg hm ⟨rfl,?_⟩ hdb)
 have ha':=ha cpos pins s1 σ H1 _ I h
 rw [he] at ha' ⊢
 refine Calls.evalArgs_plain (dC ha' λus s2 hpt=>?_)
 obtain⟨vs,H2,I2,r,hz,hE⟩:=hpt
 obtain⟨hC,hn,hT⟩:=hf s2.heap I2.kIn
 exact⟨rfl,by have:=r.length;show us.length<=sizeLine;lia,hC,hn,hT,λh' e hx=>Us I2 hx hE⟩
end
noncomputable def caught (y C:Addr):Option Addr->HO
 | some dx=>U7 y C dx
 | none=>Yr y (.ref C)
noncomputable def thC (K:PySem.W.Frag) (i:Nat) (C:Addr) (ts:TS) (tr:TH):TH:=λD cls d σ H=>
 (cls=.ref C/\∀y,H y=none->ts { nx:=λσ2 H2=>D.nx (σ2.set i none) H2,rt:=D.rt,bk:=λσ2 H2=>D.bk (σ2.set i none) H2,ct:=λσ2 H2=>D.ct (σ2.set i none) H2 } (σ.set i (some (.ref y))) (upd H y (caught y C d)))∨
 (∃C1,cls=.ref C1/\PySem.W.subIn K (.ref C1) (.ref C)=some false/\tr D cls d σ H)
theorem Jj {X:Cx} {K:PySem.W.Frag} {i:Nat} {n x:Str} {C:Addr} {b₀:Stmt} {suite:List Stmt} {np hpos:Pos} {rest:List ExceptHandler} {ts:TS} {tr:TH} (hK:X.K=K)
  (hN:X.N.Nodup) (hi:X.N[i]?=some n) (hk:X.env.scope.names.lookup n=some .local) (hg:Gl X x) (hm:X.mg x=some (.ref C)) (cl:ExcAt K C)
  (hs:∀y,Fg (X.marked y) (b₀:: suite) ts) (hr:PH X rest tr) (hdb:(x == ("__debug__" :Str))=false:=by decide):
  PH X (.ExceptHandler (some (.Name x np)) (some n) (b₀:: suite) hpos:: rest) (thC K i C ts tr):=by
 subst hK
 intro pins σ H' y cls s B a0 d D L da h
 obtain⟨nm,q,Nn,bs,bm,hdct,sn,sub,ab,col,dd,k0,k1,k2,k3,k5,newId,hbase,hC⟩:=cl.ex
 obtain⟨ob,hob,hobc⟩:=L.fly.there
 have IL:=L.inv
 have hd:=IL.ok.hd
 refine wpAny_handleBy_cons (codeAny_handlers_test (Calls.Name_function_global IL.ok.kind hg (Calls.loadGlobal_global (by rw [IL.ok.glob];exact IL.mod.glob.keeps IL.bk) hm ?_) hdb)) (by intro q;cases q)
 rcases h with ⟨rfl,hsu⟩ | ⟨C1,rfl,hsub,hrest⟩
 ·refine wpAny_excMatches_sub_self (hC s.heap IL.kIn) hob hobc hbase ?_
  refine codeAny_handlers_suite_as (e:=.ref y) ?_
  have g1:=jK iC (lands_againW (M:=model X.prog X.w) (A:=X.A.mark (some (.ref y))) (E:=λ_ _=>False) (Q:=λ_ s6=>∃h',s6={ s with heap:=h' }/\Heap.FlyingW B X.stack y (.ref C) a0 h'/\s.heap.UpToSlots h') L.fly λh' f up=>⟨h',rfl,f,up⟩)
  refine wpAny_mono g1 (λ_ s6 q6=>?_) λ_ _ z=>False.elim z
  obtain⟨⟨h6,rfl,fl6,up6⟩,dk6⟩:=q6
  obtain⟨oe6,vs6,hob6,hobc6,hdat6,_⟩:=fl6.first
  obtain⟨o7,ho7,hd7⟩:=da.on dk6 hob6
  obtain rfl:oe6=o7:=Option.some.inj (hob6.symm.trans ho7)
  obtain⟨oc,od,dt,osl⟩:=oe6
  dsimp only at hobc6 hdat6 hd7
  subst hobc6 hdat6 hd7
  have ok6:cV X.prog X.w (upd H' y (caught y C od)) h6 y (caught y C od):=by
   cases od with
   | some dx=>exact⟨⟨_,_,hob6⟩,⟨_,hob6⟩,λh1 h2 ⟨x1,x2,z⟩ k=>⟨x1,x2,k _ z⟩⟩
   | none=>exact⟨⟨_,hob6,rfl⟩,⟨_,hob6⟩,λh1 h2 ⟨o,e1,e2⟩ k=>⟨o,k o e1,e2⟩⟩
  have I6:=(L.more h6 fl6 up6).track (x:=y) (o:=caught y C od) L.free L.new L.neL L.neC L.neP ok6
  refine CK I6 hN hi (.inl hk) (v:=.ref y) rfl (λs7 I7=>?_) (.inr hk)
  refine wpAny_mono (hs y pins s7 _ _ _ I7.marked (hsu y L.free)) (λf s8 q8=>?_) λ_ _ z=>False.elim z
  cases f with
  | next=>
   obtain⟨σ8,H8,I8,q8⟩:=q8
   exact Ag (I8.unmarked hd) hN hi hk λs9 I9=>⟨_,_,I9,q8⟩
  | brk=>
   obtain⟨σ8,H8,I8,q8⟩:=q8
   exact Ag (I8.unmarked hd) hN hi hk λs9 I9=>⟨_,_,I9,q8⟩
  | cont=>
   obtain⟨σ8,H8,I8,q8⟩:=q8
   exact Ag (I8.unmarked hd) hN hi hk λs9 I9=>⟨_,_,I9,q8⟩
  | ret u=>
   obtain⟨v,σ8,H8,I8,rv,q8⟩:=q8
   exact Ag (I8.unmarked hd) hN hi hk λs9 I9=>⟨v,_,_,I9,rv,q8⟩
 ·obtain⟨hp,g,dr,tk,os⟩:=s
  refine HS (hC _ IL.kIn) hob hobc hbase (λq=>(PySem.W.looks_subIn IL.kIn hsub).at q) ?_
  exact hr pins σ H' y _ _ B a0 d D L da hrest
section
variable {κ:Type} [DecidableEq κ]
noncomputable def bx (kvs:List (κ×V)) (k:κ):Option V:=(kvs.find? λkv=>decide (kv.1=k)).map (·.2)
noncomputable def putK (kvs:List (κ×V)) (k:κ) (v:V):List (κ×V):=
 if (kvs.any λkv=>decide (kv.1=k))=true then kvs.map (λkv=>if kv.1=k then(kv.1,v) else kv) else kvs ++ [(k,v)]
theorem fV {p:κ×V} {r:List (κ×V)} {k:κ} (e:p.1=k):bx (p:: r) k=some p.2:=by simp [bx,List.find?_cons,e]
theorem fj {p:κ×V} {r:List (κ×V)} {k:κ} (e:¬p.1=k):bx (p:: r) k=bx r k:=by simp [bx,List.find?_cons,e]
theorem tX (k:κ):∀kvs:List (κ×V),(kvs.any λkv=>decide (kv.1=k))=(bx kvs k).isSome
 | []=>rfl
 | p:: r=>by
  rw [List.any_cons]
  by_cases e:p.1=k
  ·simp only [fV e,decide_eq_true e,Bool.true_or,Option.isSome_some]
  ·rw [fj e,decide_eq_false e,Bool.false_or];exact tX k r
theorem Jx (k j:κ) (y:V):∀kvs:List (κ×V),bx (kvs.map λkv=>if kv.1=k then(kv.1,y) else kv) j=(bx kvs j).map λx=>if j=k then y else x
 | []=>rfl
 | p:: r=>by
  have ih:=Jx k j y r
  rw [List.map_cons]
  by_cases h:p.1=k
  ·rw [if_pos h]
   by_cases e:p.1=j
   ·rw [fV (p:=(p.1,y)) e,fV e,Option.map_some,if_pos (e.symm.trans h)]
   ·rw [fj (p:=(p.1,y)) e,fj e,ih]
  ·rw [if_neg h]
   by_cases e:p.1=j
   ·rw [fV (p:=p) e,fV e,Option.map_some,if_neg (λz=>h (e.trans z))]
   ·rw [fj (p:=p) e,fj e,ih]
theorem Fb (k j:κ) (y:V):∀kvs:List (κ×V),bx kvs k=none->bx (kvs ++ [(k,y)]) j=if j=k then some y else bx kvs j
 | [],_=>by
  by_cases e:k=j
  ·rw [if_pos e.symm];exact fV (p:=(k,y)) e
  ·rw [if_neg (λz=>e z.symm)];exact fj (p:=(k,y)) e
 | p:: r,hn=>by
  rw [List.cons_append]
  have hk:¬p.1=k:=λz=>by rw [fV z] at hn;cases hn
  rw [fj hk] at hn
  have ih:=Fb k j y r hn
  by_cases e:p.1=j
  ·rw [fV e,fV e,if_neg (λz=>hk (e.trans z))]
  ·rw [fj e,fj e,ih]
theorem O8 (kvs:List (κ×V)) (k j:κ) (y:V):bx (putK kvs k y) j=if j=k then some y else bx kvs j:=by
 unfold putK
 by_cases a:(kvs.any λkv=>decide (kv.1=k))=true
 ·rw [if_pos a,Jx]
  rw [tX] at a
  by_cases e:j=k
  ·obtain⟨x,hx⟩:=Option.isSome_iff_exists.mp a
   rw [if_pos e,e,hx,Option.map_some,if_pos rfl]
  ·rw [if_neg e]
   cases bx kvs j with
   | none=>rfl
   | some x=>rw [Option.map_some,if_neg e]
 ·rw [if_neg a]
  refine Fb k j y kvs ?_
  rw [tX] at a
  cases q:bx kvs k with
  | none=>rfl
  | some x=>rw [q] at a;exact(a rfl).elim
theorem jT (kvs:List (κ×V)) (k:κ) (v:V):(putK kvs k v).length<=kvs.length+1:=by
 unfold putK
 split
 ·rw [List.length_map];lia
 ·rw [List.length_append,List.length_cons,List.length_nil];lia
theorem sI {kvs:List (κ×V)} {k:κ} (v:V) (h:bx kvs k=none):putK kvs k v=kvs ++ [(k,v)]:=by
 unfold putK
 rw [tX,h]
 exact if_neg (by decide)
theorem qg.isSome_eq {o:Option V} {u:Option Value} (r:qg o u):o.isSome=u.isSome:=by
 cases o with
 | none=>cases u with
  | none=>rfl
  | some _=>exact(show False from r).elim
 | some _=>cases u with
  | none=>exact(show False from r).elim
  | some _=>rfl
theorem KV.val {kvs:List (κ×V)} {vs:List (κ×Value)} (r:KV kvs vs) (k:κ):qg (bx kvs k) (valueAt vs k):=by
 unfold KV at r
 induction r with
 | nil=>exact True.intro
 | @cons p q ps qs h t ih=>
  obtain⟨h1,h2⟩:=h
  by_cases e:p.1=k
  ·have e':q.1=k:=h1.symm.trans e
   have b:valueAt (q:: qs) k=some q.2:=by simp [valueAt,List.find?_cons,e']
   rw [fV e,b];exact h2
  ·have e':¬q.1=k:=λz=>e (h1.trans z)
   have b:valueAt (q:: qs) k=valueAt qs k:=by simp [valueAt,List.find?_cons,e']
   rw [fj e,b];exact ih
theorem KV.any {kvs:List (κ×V)} {vs:List (κ×Value)} (r:KV kvs vs) (k:κ):(kvs.any λkv=>decide (kv.1=k))=vs.any λkv=>decide (kv.1=k):=by
 unfold KV at r
 induction r with
 | nil=>rfl
 | cons h t ih=>rw [List.any_cons,List.any_cons,ih,h.1]
theorem KV.repl {kvs:List (κ×V)} {vs:List (κ×Value)} (r:KV kvs vs) (k:κ) {y:V} {u:Value} (ry:RelV y u):
  KV (kvs.map λkv=>if kv.1=k then(kv.1,y) else kv) (vs.map λkv=>if kv.1=k then(kv.1,u) else kv):=by
 unfold KV at r ⊢
 induction r with
 | nil=>exact .nil
 | @cons p q ps qs h t ih=>
  rw [List.map_cons,List.map_cons]
  refine .cons ?_ ih
  obtain⟨h1,h2⟩:=h
  by_cases e:p.1=k
  ·rw [if_pos e,if_pos (h1.symm.trans e)];exact⟨h1,ry⟩
  ·rw [if_neg e,if_neg (λz=>e (h1.trans z))];exact⟨h1,h2⟩
theorem KV.put {kvs:List (κ×V)} {vs:List (κ×Value)} (r:KV kvs vs) (k:κ) {y:V} {u:Value} (ry:RelV y u):KV (putK kvs k y) (stored vs k u):=by
 unfold putK stored
 rw [r.any k]
 by_cases e:(vs.any λkv=>decide (kv.1=k))=true
 ·rw [if_pos e,if_pos e];exact r.repl k ry
 ·rw [if_neg e,if_neg e];exact Paired.snoc r ⟨rfl,ry⟩
theorem KV.length {kvs:List (κ×V)} {vs:List (κ×Value)} (r:KV kvs vs):kvs.length=vs.length:=Paired.length r
end
theorem FP {P:Program} {w:World} {k:Key} {u:Value} (r:RelV (kV k) u):(bL P w).is k u=true:=by
 cases k with
 | inl i=>obtain⟨t,e⟩:=(show ∃t,u=Value.int i t from r);subst e;exact Jy P w i t
 | inr x=>obtain⟨t,e⟩:=(show ∃t,u=Value.str x t from r);subst e;exact jP P w x t
theorem FJ {P:Program} {w:World}:∀{ks:List Key} {us:List Value},Vals (ks.map kV) us->ItemsAre (bL P w) ks us
 | [],_,r=>by rw [List.map_nil] at r;cases r;exact .nil
 | k:: ks,_,r=>by
  rw [List.map_cons] at r
  cases r with
  | cons h t=>exact .cons (FP h) (FJ t)
noncomputable abbrev KT (H:Hp):List (List Key×V)->List (List Key×Addr×Value)->Prop:=Paired λp q=>p.1=q.1/\H q.2.1=some (.tup (p.1.map kV))/\RelV p.2 q.2.2
theorem KT.val {H:Hp} {kvs:List (List Key×V)} {xs:List (List Key×Addr×Value)} (r:KT H kvs xs) (k:List Key):qg (bx kvs k) ((atKey xs k).map (·.2)):=by
 induction r with
 | nil=>exact True.intro
 | @cons p q ps qs h t ih=>
  obtain⟨h1,_,h2⟩:=h
  by_cases e:p.1=k
  ·have e':q.1=k:=h1.symm.trans e
   have b:atKey (q:: qs) k=some q.2:=by simp [atKey,List.find?_cons,e']
   rw [fV e,b];exact h2
  ·have e':¬q.1=k:=λz=>e (h1.trans z)
   have b:atKey (q:: qs) k=atKey qs k:=by simp [atKey,List.find?_cons,e']
   rw [fj e,b];exact ih
theorem KT.repl {H:Hp} {kvs:List (List Key×V)} {xs:List (List Key×Addr×Value)} (r:KT H kvs xs) (k:List Key) {y:V} {u:Value} (ry:RelV y u):
  KT H (kvs.map λkv=>if kv.1=k then(kv.1,y) else kv) (xs.map (putAt k u)):=by
 induction r with
 | nil=>exact .nil
 | @cons p q ps qs h t ih=>
  rw [List.map_cons,List.map_cons]
  refine .cons ?_ ih
  obtain⟨h1,h2,h3⟩:=h
  unfold putAt
  by_cases e:p.1=k
  ·rw [if_pos e,if_pos (h1.symm.trans e)];exact⟨h1,h2,ry⟩
  ·rw [if_neg e,if_neg (λz=>e (h1.trans z))];exact⟨h1,h2,h3⟩
theorem KT.put {H:Hp} {kvs:List (List Key×V)} {xs:List (List Key×Addr×Value)} (r:KT H kvs xs) (k:List Key) {b:Addr} {y:V} {u:Value} (hb:H b=some (.tup (k.map kV))) (ry:RelV y u):
  KT H (putK kvs k y) (storedH xs k b u):=by
 have e:(kvs.any λkv=>decide (kv.1=k))=(atKey xs k).isSome:=by
  rw [tX,(r.val k).isSome_eq,Option.isSome_map]
 unfold putK storedH
 rw [e]
 by_cases q:(atKey xs k).isSome=true
 ·rw [if_pos q,if_pos q];exact r.repl k ry
 ·rw [if_neg q,if_neg q];exact Paired.snoc r ⟨rfl,hb,ry⟩
theorem KT.keeps {H H':Hp} {kvs:List (List Key×V)} {xs:List (List Key×Addr×Value)} (r:KT H kvs xs) (ht:∀b ys,H b=some (.tup ys)->H' b=some (.tup ys)):KT H' kvs xs:=
 Paired.mapP r λ_ _ z=>⟨z.1,ht _ _ z.2.1,z.2.2⟩
section
variable {P:Program} {w:World} {H:Hp} {h:Heap} {a:Addr}
theorem S9 {u:HO} (ok:rK P w H h) (e:Rd H a u):cV P w H h a u:=e.ok ok
theorem Cd {kvs:List (Key×V)} (ok:rK P w H h) (e:Rd H a (.dK kvs)):kvs.length<=sizeLine/\(a == sysModules)=false/\∃vs,KV kvs vs/\h.DictOf (bL P w) a vs:=
 show cV P w H h a (.dK kvs) from S9 ok e
theorem Uj {kvs:List (Key×V)} (ok:rK P w H h) (e:H a=some (.dK kvs)):kvs.length<=sizeLine/\(a == sysModules)=false/\∃vs,KV kvs vs/\h.DictOf (bL P w) a vs:=Cd ok (.inl e)
theorem Cy {ks:List Key} (ok:rK P w H h) (e:H a=some (.tup (ks.map kV))):(tupleKind (bL P w)).is h ks a:=by
 obtain⟨_,its,r,o,h1,h2,n,h3⟩:=(show cV P w H h a (.tup (ks.map kV)) from ok a _ e)
 exact⟨o,its.toArray,n,h1,h2,h3,by simpa using FJ r⟩
theorem Jd {kvs:List (List Key×V)} (ok:rK P w H h) (e:Rd H a (.dT kvs)):kvs.length<=sizeLine/\(a == sysModules)=false/\
  ∃xs,KT H kvs xs/\h.DictOfH (tupleKind (bL P w)) a xs:=by
 obtain⟨z,y,xs,r,o,es,ep,h1,h2,h3,h4,h5⟩:=(show cV P w H h a (.dT kvs) from S9 ok e)
 refine⟨z,y,xs,r,o,es,ep,h1,h2,h3,h4,λx hx=>?_,h5⟩
 have all:∀{l:List (List Key×V)} {m:List (List Key×Addr×Value)},KT H l m->∀x∈m,(tupleKind (bL P w)).is h x.1 x.2.1:=by
  intro l m q
  induction q with
  | nil=>intro x hx;exact nomatch hx
  | @cons p q ps qs hq t ih=>
   intro x hx
   rcases List.mem_cons.mp hx with e | hx
   ·subst e
    exact Cy ok (by rw [<-hq.1];exact hq.2.1)
   ·exact ih x hx
 exact all r x hx
theorem Xe {kvs:List (List Key×V)} (ok:rK P w H h) (e:H a=some (.dT kvs)):kvs.length<=sizeLine/\(a == sysModules)=false/\
  ∃xs,KT H kvs xs/\h.DictOfH (tupleKind (bL P w)) a xs:=Jd ok (.inl e)
end
noncomputable def iR (H:Hp) (a:Addr) (y:V) (r:Option V):Prop:=
 (∃kvs k,Rd H a (.dK kvs)/\y=kV k/\r=bx kvs k)∨∃kvs k b,Rd H a (.dT kvs)/\y=.ref b/\H b=some (.tup (k.map kV))/\r=bx kvs k
noncomputable def Bu (H:Hp) (a:Addr) (y v:V) (H':Hp):Prop:=
 (∃kvs k,H a=some (.dK kvs)/\y=kV k/\kvs.length <sizeLine/\H'=upd H a (.dK (putK kvs k v)))∨
 ∃kvs k b,H a=some (.dT kvs)/\y=.ref b/\H b=some (.tup (k.map kV))/\kvs.length <sizeLine/\H'=upd H a (.dT (putK kvs k v))
theorem iR.k {H:Hp} {a:Addr} {kvs:List (Key×V)} {k:Key} (e:H a=some (.dK kvs)):iR H a (kV k) (bx kvs k):=.inl ⟨kvs,k,.inl e,rfl,rfl⟩
theorem Bu.k {H:Hp} {a:Addr} {kvs:List (Key×V)} {k:Key} {v:V} (e:H a=some (.dK kvs)) (hl:kvs.length <sizeLine):Bu H a (kV k) v (upd H a (.dK (putK kvs k v))):=.inl ⟨kvs,k,e,rfl,hl,rfl⟩
section
variable {X:Cx} {pins:List (Addr×Obj)} {σ:St} {H:Hp} {s:Shared} {a:Addr} {y v:V} {u r:Value} {o:Option V} {A:Around} {E:Value->Shared->Prop}
theorem Inv.big (I:Inv X pins σ H s):sysModules <s.heap.objs.size:=by
 have h:mainGlobals <s.heap.objs.size:=(I.mod.glob.keeps I.bk).lt
 exact Nat.lt_trans (by decide) h
theorem Nh {Q:Value->Shared->Prop} (hu:A.units+1 <cLine) (I:Inv X pins σ H s) (g:iR H a y (some v)) (ry:RelV y u) (h:∀w' s',Inv X pins σ H s'->RelV v w'->Q w' s'):
  wpAny (model X.prog X.w) A (getItem (.ref a) u) Q E s:=by
 rcases g with ⟨kvs,k,e,ey,l⟩ | ⟨kvs,k,b,e,ey,eb,l⟩
 ·subst ey
  obtain⟨z,hd,vs,rel,dd⟩:=Cd I.hok e
  obtain⟨w',hw,rw'⟩:=qg.some_of (v:=v) (o:=valueAt vs k) (by rw [l];exact rel.val k)
  exact wpAny_getItem_of (FP ry) dd.mapOf hw (h w' _ (I.tok _) rw')
 ·subst ey
  cases (show u=Value.ref b from ry)
  obtain⟨z,hd,xs,rel,dd⟩:=Jd I.hok e
  obtain⟨w',hw,rw'⟩:=qg.some_of (v:=v) (o:=(atKey xs k).map (·.2)) (by rw [l];exact rel.val k)
  obtain⟨p,hp,hp2⟩:=Option.map_eq_some_iff.mp hw
  refine wpAny_getItem_heap (tupleKind_room_in1 hu) (Cy I.hok eb) dd hp ?_
  rw [hp2]
  exact h w' _ (I.tok _) rw'
theorem Yw {Q:Value->Shared->Prop} (hu:A.units+1 <cLine) (I:Inv X pins σ H s) (g:iR H a y o) (ry:RelV y u) (h:∀s',Inv X pins σ H s'->Q (.bool o.isSome) s'):
  wpAny (model X.prog X.w) A (compareOp .In u (.ref a)) Q E s:=by
 rcases g with ⟨kvs,k,e,ey,l⟩ | ⟨kvs,k,b,e,ey,eb,l⟩
 ·subst ey
  obtain⟨z,hd,vs,rel,dd⟩:=Cd I.hok e
  refine wpAny_in_of (FP ry) hd dd.mapOf ?_
  rw [<-(rel.val k).isSome_eq,<-l]
  exact h _ (I.tok _)
 ·subst ey
  cases (show u=Value.ref b from ry)
  obtain⟨z,hd,xs,rel,dd⟩:=Jd I.hok e
  refine wpAny_in_heap (tupleKind_room_in1 hu) (Cy I.hok eb) hd dd ?_
  have q:=(rel.val k).isSome_eq
  rw [Option.isSome_map] at q
  rw [<-q,<-l]
  exact h _ (I.tok _)
theorem LR {Q:Value->Shared->Prop} (hu:A.units+1 <cLine) (I:Inv X pins σ H s) (g:iR H a y o) (ry:RelV y u) (h:∀s',Inv X pins σ H s'->Q (.bool (!o.isSome)) s'):
  wpAny (model X.prog X.w) A (compareOp .NotIn u (.ref a)) Q E s:=by
 rcases g with ⟨kvs,k,e,ey,l⟩ | ⟨kvs,k,b,e,ey,eb,l⟩
 ·subst ey
  obtain⟨z,hd,vs,rel,dd⟩:=Cd I.hok e
  refine wpAny_notIn_of (FP ry) hd dd.mapOf ?_
  rw [<-(rel.val k).isSome_eq,<-l]
  exact h _ (I.tok _)
 ·subst ey
  cases (show u=Value.ref b from ry)
  obtain⟨z,hd,xs,rel,dd⟩:=Jd I.hok e
  refine wpAny_notIn_heap (tupleKind_room_in1 hu) (Cy I.hok eb) hd dd ?_
  have q:=(rel.val k).isSome_eq
  rw [Option.isSome_map] at q
  rw [<-q,<-l]
  exact h _ (I.tok _)
theorem G4 {h':Heap} {t':Nat} {ob:HO} (I:Inv X pins σ H s) (mu:Xj (H a)) (hs:Heap.SameBut a s.heap h') (he:∃q,h'.get? a=some q) (new:cV X.prog X.w (upd H a ob) h' a ob):
  Inv X pins σ (upd H a ob) { s with heap:=h',toks:=t' }:=
 I.write (x:=a) (e:=a) mu (.inl rfl) (λb q hb z=>(hs.2 b hb).trans z) he new
theorem NP {P:Program} {w:World} {H':Hp} {h':Heap} {kvs:List (Key×V)} {vs:List (Key×Value)} (z:kvs.length<=sizeLine) (hd:(a == sysModules)=false) (rel:KV kvs vs) (dd:h'.DictOf (bL P w) a vs):
  cV P w H' h' a (.dK kvs):=⟨z,hd,vs,rel,dd⟩
theorem MP {H':Hp} {Q:Unit->Shared->Prop} (hu:A.units+1 <cLine) (I:Inv X pins σ H s) (g:Bu H a y v H') (ry:RelV y u) (rv:RelV v r) (h:∀s',Inv X pins σ H' s'->Q () s'):
  wpAny (model X.prog X.w) A (setItem (.ref a) u r) Q E s:=by
 rcases g with ⟨kvs,k,e,ey,l,eH⟩ | ⟨kvs,k,b,e,ey,eb,l,eH⟩
 ·subst ey eH
  obtain⟨z,hd,vs,rel,dd⟩:=Uj I.hok e
  have hz:vs.length<=sizeLine:=by rw [<-rel.length];exact z
  have hl:(putK kvs k v).length<=sizeLine:=by have:=jT kvs k v;lia
  refine wpAny_setItem_pairs (hsz:=hz) (FP ry) dd λh' dd' hs=>h _ ?_
  have he:∃q,h'.get? a=some q:=let ⟨q,_,_,hq,_⟩:=dd';⟨q,hq⟩
  exact G4 I (by rw [e];exact True.intro) hs he (NP hl hd (rel.put k rv) dd')
 ·subst ey eH
  cases (show u=Value.ref b from ry)
  obtain⟨z,hd,xs,rel,dd⟩:=Xe I.hok e
  have hz:xs.length<=sizeLine:=by rw [<-Paired.length rel];exact z
  have hl:(putK kvs k v).length<=sizeLine:=by have:=jT kvs k v;lia
  refine wpAny_setItem_heap (hsz:=hz) (tupleKind_room_in1 hu) (Cy I.hok eb) dd λh' dd' hs=>h _ ?_
  obtain⟨q,es,ep,hq,h2,h3,h4,_,h5⟩:=dd'
  refine G4 I (by rw [e];exact True.intro) hs ⟨q,hq⟩ ⟨hl,hd,_,(rel.put k eb rv).keeps λc ys ec=>?_,q,es,ep,hq,h2,h3,h4,h5⟩
  rw [aD (zc ec e (λz=>nomatch z))]
  exact ec
end
section
variable {X:Cx} {pins:List (Addr×Obj)} {σ:St} {H:Hp} {s:Shared} {a:Addr} {kvs:List (Key×V)} {k:Key} {u:Value} {A:Around} {E:Value->Shared->Prop}
end
noncomputable def WP (i:Expr):Prop:=∀ov iv,subscripted i false ov iv=operate [ov,iv] (getItem ov iv)
theorem Q8 {prog:Program} {w:World} {A:Around} {E:Value->Shared->Prop} {s:Shared} {env:Env} {value slice:Expr} {pos:Pos} {T id:String} {Q:Value->Shared->Prop}
  (hl:typeLookup (.type T) "__getitem__" =pure (some (.builtin id))) (hs:WP slice)
  (h:wpAny (model prog w) A (eval value env) (λo s₁=>wpAny (model prog w) A (eval slice env) (λi s₂=>s₂.TypeIs o T/\wpAny (model prog w) A (getItem o i) Q E s₂) E s₁) E s):
  wpAny (model prog w) A (eval (.Subscript value slice pos) env) Q E s:=by
 refine Subscript_ (wpAny_mono h (λo s₁ h₁=>wpAny_mono h₁ (λi s₂ h₂=>?_) λ_ _ x=>x) λ_ _ x=>x)
 obtain⟨hT,h₂⟩:=h₂
 unfold subscriptTail
 refine wpAny_bind ?_
 rw [getitemInPython_of_ne hT.not_modules]
 refine wpAny_bind (wpAny_specialOf hT hl ?_)
 have fin:wpAny (model prog w) A (subscripted slice false o i) (λr s₃=>wpAny (model prog w) A (letTemporaryGo value o r >>= λ_=>pure r) Q E s₃) E s₂:=by
  rw [hs o i]
  exact wpAny_operating (wpAny_mono h₂ (λr s₃ h₃=>wpAny_bind (wpAny_letTemporaryGo (wpAny_pure h₃))) λ_ _ x=>x)
 first
  | exact wpAny_pure (wpAny_bind fin)
  | exact wpAny_bind (wpAny_pure (wpAny_bind fin))
  | exact wpAny_bind fin
theorem Ij {X:Cx} {pins:List (Addr×Obj)} {σ:St} {H:Hp} {s:Shared} {a:Addr} {y:V} {o:Option V} (I:Inv X pins σ H s) (g:iR H a y o):s.TypeIs (.ref a) "dict" :=by
 rcases g with ⟨kvs,k,e,_,_⟩ | ⟨kvs,k,b,e,_,_,_⟩
 ·obtain⟨_,_,vs,_,dd⟩:=Cd I.hok e
  exact dd.typeIs
 ·obtain⟨_,_,xs,_,dd⟩:=Jd I.hok e
  exact dd.typeIs
inductive Py (Q:VK) (x:V) (y:V) (H2:Hp):Prop where
 | mk:∀a v,x=.ref a->iR H2 a y (some v)->Q v H2->Py Q x y H2
noncomputable def Xd (td ty:TE):TE:=λσ H Q=>td σ H λx H1=>ty σ H1 λy H2=>Py Q x y H2
inductive TV (Q:VK) (y:V) (x:V) (H2:Hp):Prop where
 | mk:∀a o,x=.ref a->iR H2 a y o->Q (.bl o.isSome) H2->TV Q y x H2
noncomputable def Yy (ty td:TE):TE:=λσ H Q=>ty σ H λy H1=>td σ H1 λx H2=>TV Q y x H2
inductive Jw (Q:VK) (y:V) (x:V) (H2:Hp):Prop where
 | mk:∀a o,x=.ref a->iR H2 a y o->Q (.bl (!o.isSome)) H2->Jw Q y x H2
noncomputable def Ra (ty td:TE):TE:=λσ H Q=>ty σ H λy H1=>td σ H1 λx H2=>Jw Q y x H2
inductive Qw (D:Ends) (σ:St) (v:V) (x:V) (y:V) (H3:Hp):Prop where
 | mk:∀a H4,x=.ref a->Bu H3 a y v H4->D.nx σ H4->Qw D σ v x y H3
noncomputable def Wq (td ty tv:TE):TS:=λD σ H=>tv σ H λv H1=>td σ H1 λx H2=>ty σ H2 λy H3=>Qw D σ v x y H3
section
variable {X:Cx} {o i e value:Expr} {pos pos' tpos:Pos} {td ty tv:TE}
theorem jN (hu:X.A.units+1 <cLine) (ho:PE X o td) (hi:PE X i ty) (hs:WP i):PE X (.Subscript o i pos) (Xd td ty):=by
 intro pins s σ H Q I h
 refine Q8 PySem.F.slot_dict_getitem.lookup hs (dC (ho pins s σ H _ I h) λu s1 ⟨x,H1,I1,rx,q1⟩=>dC (hi pins s1 σ H1 _ I1 q1) λiv s2 hpt=>?_)
 obtain⟨y,H2,I2,ry,a,v,ex,g,q2⟩:=hpt
 subst ex
 obtain rfl:u=Value.ref a:=rx
 exact⟨Ij I2 g,Nh hu I2 g ry λw' s3 I3 rw'=>⟨v,H2,I3,rw',q2⟩⟩
theorem BJ (hu:X.A.units+1 <cLine) (hi:PE X i ty) (ho:PE X o td):PC X .In i o (Yy ty td):=by
 intro pins s σ H Q I h
 refine dC (hi pins s σ H _ I h) λiv s1 ⟨y,H1,I1,ry,q1⟩=>dC (ho pins s1 σ H1 _ I1 q1) λu s2 hpt=>?_
 obtain⟨x,H2,I2,rx,a,ov,ex,g,q2⟩:=hpt
 subst ex
 obtain rfl:u=Value.ref a:=rx
 exact Yw hu I2 g ry λs3 I3=>⟨.bl ov.isSome,H2,I3,rfl,q2⟩
theorem yE (hu:X.A.units+1 <cLine) (hi:PE X i ty) (ho:PE X o td):PC X .NotIn i o (Ra ty td):=by
 intro pins s σ H Q I h
 refine dC (hi pins s σ H _ I h) λiv s1 ⟨y,H1,I1,ry,q1⟩=>dC (ho pins s1 σ H1 _ I1 q1) λu s2 hpt=>?_
 obtain⟨x,H2,I2,rx,a,ov,ex,g,q2⟩:=hpt
 subst ex
 obtain rfl:u=Value.ref a:=rx
 exact LR hu I2 g ry λs3 I3=>⟨.bl (!ov.isSome),H2,I3,rfl,q2⟩
theorem qx (hu:X.A.units+1 <cLine) (ho:PE X o td) (hi:PE X i ty) (hv:PE X value tv) (hs:swapsWith value (some (.Subscript o i pos')) pos.line X.env=pure false):
  PS X (.Assign [.Subscript o i pos'] value pos) (Wq td ty tv):=by
 intro pins s σ H D I h
 refine wpAny_Assign_Subscript (dC (hv pins s σ H _ I h) λr s1 ⟨v,H1,I1,rv,q1⟩=>dC (ho pins s1 σ H1 _ I1 q1) λu s2 ⟨x,H2,I2,rx,q2⟩=>dC (hi pins s2 σ H2 _ I2 q2) λiv s3 hpt=>?_) hs
 obtain⟨y,H3,I3,ry,a,H4,ex,g,q3⟩:=hpt
 subst ex
 obtain rfl:u=Value.ref a:=rx
 exact MP hu I3 g ry rv λs4 I4=>⟨σ,H4,I4,q3⟩
end
theorem Ju {P:Program} {w:World} {H:Hp} (h:Heap) (hb:sysModules <h.objs.size):cV P w H (h.push { cls:=.type "dict",data:=.dict #[] }) h.objs.size (.dK []):=
 ⟨Nat.zero_le _,beq_eq_false_iff_ne.mpr (Ne.symm (Nat.ne_of_lt hb)),[],.nil,Heap.DictOf.new h⟩
noncomputable def UG:TE:=λ_ H Q=>∀p,H p=none->Q (.ref p) (upd H p (.dK []))
section
variable {X:Cx} {pos:Pos}
theorem oY:PE X (.Dict [] [] pos) UG:=λpins s σ H Q I h=>
 wpAny_Dict_empty ⟨.ref s.heap.objs.size,_,I.laid (a:=s.heap.objs.size) (o:=.dK []) (t':=s.toks) (λ_ _ q=>Heap.get?_push_of_some _ q) (Nat.le_refl _) (Ju s.heap I.big),rfl,h _ (I.hok.fresh (Nat.le_refl _))⟩
end
noncomputable def JQ:List (TE×TE)->St->Hp->(List (V×V)->Hp->Prop)->Prop
 | [],_,H,Q=>Q [] H
 | (tk,tv):: r,σ,H,Q=>tk σ H λx H1=>tv σ H1 λy H2=>JQ r σ H2 λps H3=>Q ((x,y):: ps) H3
noncomputable abbrev VV:List (V×V)->List (Value×Value)->Prop:=Paired λp q=>RelV p.1 q.1/\RelV p.2 q.2
noncomputable def XF (X:Cx) (pos:Pos) (keys:List (Option Expr)) (values:List Expr) (trs:List (TE×TE)):Prop:=
 ∀(pins:List (Addr×Obj)) (s:Shared) (σ:St) (H:Hp) (Q:List (V×V)->Hp->Prop),Inv X pins σ H s->JQ trs σ H Q->
  wpAny (model X.prog X.w) X.A (evalPairs (pairTrees keys values X.env pos)) (λvs s'=>∃ps H',Inv X pins σ H' s'/\VV ps vs/\Q ps H') X.xe s
theorem RQ {X:Cx} {pos:Pos}:XF X pos [] [] []:=λpins s σ H Q I h=>pairTrees_nil_walk ⟨[],H,I,.nil,h⟩
theorem Nu {X:Cx} {pos:Pos} {k v:Expr} {ks:List (Option Expr)} {vs:List Expr} {tk tv:TE} {trs:List (TE×TE)} (hk:PE X k tk) (hv:PE X v tv) (hr:XF X pos ks vs trs):
  XF X pos (some k:: ks) (v:: vs) ((tk,tv):: trs):=λpins s σ H Q I h=>
 pairTrees_cons_walk (dC (hk pins s σ H _ I h) λu s1 ⟨x,H1,I1,rx,q1⟩=>dC (hv pins s1 σ H1 _ I1 q1) λw2 s2 ⟨y,H2,I2,ry,q2⟩=>
  dC (hr pins s2 σ H2 _ I2 q2) λws s3 ⟨ps,H3,I3,rel,q3⟩=>⟨(x,y):: ps,H3,I3,.cons ⟨rx,ry⟩ rel,q3⟩)
noncomputable def sW (kvs more:List (Key×V)):List (Key×V):=more.foldl (λacc kv=>putK acc kv.1 kv.2) kvs
theorem KV.merge:∀{more:List (Key×V)} {rs:List (Key×Value)} {kvs:List (Key×V)} {vs:List (Key×Value)},KV more rs->KV kvs vs->KV (sW kvs more) (merged vs rs):=by
 intro more rs kvs vs r
 unfold KV at r
 induction r generalizing kvs vs with
 | nil=>intro q;exact q
 | @cons p q ps qs h t ih=>
  intro r0
  have e:KV (putK kvs p.1 p.2) (stored vs q.1 q.2):=by
   have:=r0.put p.1 h.2
   rw [<-h.1];exact this
  exact ih e
theorem vC:∀(more kvs:List (Key×V)),(sW kvs more).length<=kvs.length+more.length
 | [],kvs=>by show kvs.length<=kvs.length+0;lia
 | p:: r,kvs=>by
  have h1:=vC r (putK kvs p.1 p.2)
  have h2:=jT kvs p.1 p.2
  show(sW (putK kvs p.1 p.2) r).length<=_
  rw [List.length_cons];lia
theorem Ay {P:Program} {w:World}:∀{kvs:List (Key×V)} {ws:List (Value×Value)},VV (kvs.map λkv=>(kV kv.1,kv.2)) ws->∃rs,Carries (bL P w) ws rs/\KV kvs rs
 | [],_,r=>by rw [List.map_nil] at r;cases r;exact⟨[],True.intro,.nil⟩
 | p:: kvs,_,r=>by
  rw [List.map_cons] at r
  cases r with
  | @cons a b as bs h t=>
   obtain⟨rs,c,q⟩:=Ay (P:=P) (w:=w) t
   obtain⟨b1,b2⟩:=b
   exact⟨(p.1,b2):: rs,⟨FP h.1,rfl,c⟩,.cons ⟨rfl,h.2⟩ q⟩
noncomputable def WM (trs:List (TE×TE)):TE:=λσ H Q=>∀p,H p=none->JQ trs σ (upd H p (.dK [])) λps H2=>H2 p=some (.dK [])/\∃kvs:List (Key×V),ps=kvs.map (λkv=>(kV kv.1,kv.2))/\kvs.length<=15/\Q (.ref p) (upd H2 p (.dK (sW [] kvs)))
theorem RN {X:Cx} {pos:Pos} {keys:List (Option Expr)} {values:List Expr} {trs:List (TE×TE)} (h:XF X pos keys values trs) (hall:keys.all (·.isSome)=true) (hl:keys.length=values.length) (h0:keys≠[])
  (h15:keys.length<=15):PE X (.Dict keys values pos) (WM trs):=by
 intro pins s σ H Q I q
 have hn:=I.hok.fresh (Nat.le_refl s.heap.objs.size)
 have I1:=I.laid (a:=s.heap.objs.size) (o:=.dK []) (h':=s.heap.push { cls:=.type "dict",data:=.dict #[] }) (t':=s.toks) (λ_ _ q=>Heap.get?_push_of_some _ q) (Nat.le_refl _) (Ju s.heap I.big)
 refine wpAny_Dict_walk (knd:=bL X.prog X.w) hall hl h0 h15 (dC (h pins _ σ _ _ I1 (q _ hn)) λws s2 hpt=>?_)
 obtain⟨ps,H2,I2,rel,e,kvs,ep,lk,q2⟩:=hpt
 subst ep
 obtain⟨rs,c,rk⟩:=Ay (P:=X.prog) (w:=X.w) rel
 obtain⟨z,hd,vs0,r0,dd⟩:=Uj I2.hok e
 cases r0
 refine⟨rs,c,dd,λh' dd' hs=>⟨.ref s.heap.objs.size,_,?_,rfl,q2⟩⟩
 have hz:(sW [] kvs).length<=sizeLine:=by
  have h1:=vC kvs []
  rw [List.length_nil] at h1
  rw [sizeLine_eq];lia
 have he:∃q,h'.get? s.heap.objs.size=some q:=let ⟨q,_,_,hq,_⟩:=dd';⟨q,hq⟩
 exact G4 I2 (by rw [e];exact True.intro) hs he (NP hz hd (rk.merge .nil) dd')
section
variable {X:Cx} {pins:List (Addr×Obj)} {σ:St} {H:Hp} {s:Shared} {a:Addr} {y d:V} {u r:Value} {o:Option V} {A:Around} {E:Value->Shared->Prop}
end
section
variable {X:Cx} {o e f:Expr} {apos cpos:Pos} {td ty tx:TE}
end
section
variable {X:Cx} {pins:List (Addr×Obj)} {σ:St} {H:Hp} {s:Shared} {a:Addr} {kvs:List (Key×V)} {A:Around} {E:Value->Shared->Prop}
end
section
variable {X:Cx} {pins:List (Addr×Obj)} {σ:St} {H:Hp} {s:Shared} {a:Addr} {y:V} {u:Value} {A:Around} {E:Value->Shared->Prop}
end
section
variable {X:Cx} {pins:List (Addr×Obj)} {σ:St} {H:Hp} {s:Shared} {d:Addr} {kvs:List (Key×V)}
theorem Inv.chill (I:Inv X pins σ H s) (e:H d=some (.dK kvs)):∃o,s.heap.get? d=some o/\Inv X pins σ (upd H d (.frz o (.dK kvs))) s:=by
 obtain⟨z,hd,vs,rel,o,es,ep,ho,r⟩:=(show cV X.prog X.w H s.heap d (.dK kvs) from I.hok d _ e)
 refine⟨o,ho,?_⟩
 have:=I.write (x:=d) (e:=d) (o:=.frz o (.dK kvs)) (h':=s.heap) (t':=s.toks) (by rw [e];exact True.intro) (.inl rfl) (λb u _ q=>q) ⟨o,ho⟩ ⟨ho,z,hd,vs,rel,o,es,ep,ho,r⟩
 exact this
theorem Inv.melt {o:Obj} (I:Inv X pins σ H s) (e:H d=some (.frz o (.dK kvs))) (h0:∀o u,X.H₀ d≠some (.frz o u)):Inv X pins σ (upd H d (.dK kvs)) s:=by
 have ne:∀b u,H b=some u->(∀o v,u≠.frz o v)->b≠d:=λb u q n z=>by
  rw [z,e] at q
  exact n _ _ (Option.some.inj q).symm
 have no:∀b,H b=none->b≠d:=λb q z=>by rw [z,e] at q;cases q
 refine⟨I.ok,I.os,I.bare,⟨I.base.keep,I.base.slot,λb u q n hx=>?_,I.base.there,λb xs q=>?_,λb u v q=>?_,λb ps q=>?_⟩,I.loc,I.cell,?_,λy c q=>?_,λp h=>?_,λb u q=>?_,I.len⟩
 ·have z:=I.base.free b u q n hx
  rw [aD (no b z)];exact z
 ·have z:=I.base.tups b xs q
  rw [aD (ne b _ z (by intro _ _ w;cases w))];exact z
 ·have z:=I.base.frzs b u v q
  rw [aD (λw=>by rw [w] at q;exact h0 _ _ q)];exact z
 ·obtain⟨m,z⟩:=I.base.tbls b ps q
  exact⟨m,by rw [aD (ne b _ z (by intro _ _ w;cases w))];exact z⟩
 ·rw [aD (no _ I.free)];exact I.free
 ·rw [aD (no _ (I.freeC y c q))];exact I.freeC y c q
 ·obtain⟨z1,z2,r⟩:=I.pin p h
  exact⟨z1,by rw [aD (no _ z2)];exact z2,r⟩
 ·by_cases w:b=d
  ·subst w
   rw [aq] at q
   cases q
   exact(I.hok b _ e).2
  ·rw [aD w] at q
   exact(I.hok b u q).stay (λ_ _ _ z=>z) (λc z=>by rw [aD (ne c _ z (by intro _ _ w;cases w))];exact z) λc xs z=>by rw [aD (ne c _ z (by intro _ _ w;cases w))];exact z
end
inductive RX (H0 H H':Hp):Prop where
 | mk:∀d o kvs,H d=some (.frz o (.dK kvs))->((∀o u,H0 d≠some (.frz o u)))->H'=upd H d (.dK kvs)->RX H0 H H'
section
variable {X:Cx} {H0:Hp} {st:Stmt} {sts:List Stmt} {e:Expr} {t:TS} {te:TE}
theorem Rb (hH:X.H₀=H0) (h:PS X st t):PS X st (λD σ H=>∃H',RX H0 H H'/\t D σ H'):=by
 subst hH
 intro pins s σ H D I hh
 obtain⟨H',⟨d,o,kvs,e,n,rfl⟩,q⟩:=hh
 exact h pins s σ _ D (I.melt e n) q
theorem o9 (hH:X.H₀=H0) (h:PS X st t):PS X st (λD σ H=>t { D with nx:=λσ' H'=>∃H'',RX H0 H' H''/\D.nx σ' H'' } σ H):=by
 subst hH
 intro pins s σ H D I hh
 refine dC (h pins s σ H _ I hh) λf s1 q=>?_
 cases f with
 | next=>obtain⟨σ',H',I',H'',⟨d,o,kvs,e,n,rfl⟩,q⟩:=q;exact⟨σ',_,I'.melt e n,q⟩
 | ret v=>exact q
 | brk=>exact q
 | cont=>exact q
end
noncomputable def V3 (d:Addr) (o:Obj) (kvs:List (Key×V)):It:=
 ⟨λi H=>H d=some (.frz o (.dK kvs))/\i <kvs.length,λi H x H'=>H'=H/\∃k v,kvs[i]?=some (k,v)/\x=kV k,λi H=>H d=some (.frz o (.dK kvs))/\kvs.length<=i⟩
theorem Pb {P:Program} {w:World} {k:Key} {u:Value} (h:(bL P w).is k u=true):RelV (kV k) u:=by
 rcases cT (k:=k) (v:=u) h with ⟨i,t,rfl,rfl⟩ | ⟨x,t,rfl,rfl⟩
 ·exact⟨t,rfl⟩
 ·exact⟨t,rfl⟩
theorem JR:∀{kvs:List (Key×V)} {vs:List (Key×Value)} {i:Nat} {k:Key} {v:V},KV kvs vs->kvs[i]?=some (k,v)->∃v',vs[i]?=some (k,v')
 | _,_,0,k,v,.cons h _,e=>by
  cases (Option.some.inj e)
  exact⟨_,by rw [List.getElem?_cons_zero,show k=_ from h.1]⟩
 | _,_,i+1,k,v,.cons _ t,e=>by
  obtain⟨v',z⟩:=JR (i:=i) (k:=k) (v:=v) t (by simpa using e)
  exact⟨v',by simpa using z⟩
theorem Nj {P:Program} {w:World} {K:PySem.W.Frag} {tg:Expr} {d it:Addr} {o:Obj} {kvs:List (Key×V)} {vs:List (Key×Value)} {ep:Nat} (rel:KV kvs vs) (hD:∀h:Heap,h.get? d=some o->h.DictAt (bL P w) d vs ep):
  Turn P w K tg (V3 d o kvs) [it] it (λi h=>h.IsKeyIter it d i vs.length ep) where
 mem:=by simp
 obj:=λi h st b hb=>by
  have e:b=it:=by simpa using hb
  subst e
  obtain⟨o,e,c,d⟩:=st
  exact⟨o,e,λv z=>by rw [d] at z;cases z⟩
 keep:=λi h h' st k=>st.at λo e=>k it (by simp) o e
 item:=by
  intro X hP hw hK hc i pins s σ H E I hf st hg
  subst hP hw hK
  obtain⟨hq,hi⟩:=hg
  obtain⟨f0,f1,f2,f3,f4,f5⟩:=hf it (by simp)
  have ho:s.heap.get? d=some o:=(I.hok d _ hq).1
  have hl:kvs.length=vs.length:=Paired.length rel
  obtain⟨k,v,ek⟩:∃k v,kvs[i]?=some (k,v):=⟨_,_,List.getElem?_eq_getElem hi⟩
  obtain⟨v',ev⟩:=JR rel ek
  refine wpAny_pyNext_dict_item st (hD _ ho) ev λkey h' hk st' sb=>?_
  have I1:Inv X pins σ H { s with heap:=h' }:=I.turned (t':=s.toks) (λb o hb e=>(sb.2 b hb).trans e) f0 f1 f3 f4 f5
  obtain⟨o',e,c,dd⟩:=id st'
  exact⟨key,rfl,FT (s:={ s with heap:=h' }) e c dd (by decide) ⟨kV k,H,I1,Pb hk,⟨rfl,k,v,ek,rfl⟩,st',λb hb=>(hf b hb).1⟩⟩
 done:=by
  intro X hP hw hK hc i pins s σ H E I hf st hg
  subst hP hw hK
  obtain⟨hq,hi⟩:=hg
  obtain⟨f0,f1,f2,f3,f4,f5⟩:=hf it (by simp)
  have ho:s.heap.get? d=some o:=(I.hok d _ hq).1
  have hl:kvs.length=vs.length:=Paired.length rel
  exact wpAny_pyNext_dict_end (I.ok.hd hc) st (hD _ ho) (List.getElem?_eq_none (by lia)) λh' eb=>⟨rfl,I.turned (t':=s.toks) (λb o hb e=>eb b o hb e) f0 f1 f3 f4 f5⟩
 self:=λ_ _ _ _ _ st h=>wpAny_pyIter_keyiter st h
inductive Px (R:It->Hp->Prop) (x:V) (H1:Hp):Prop where
 | mk:∀d kvs,x=.ref d->H1 d=some (.dK kvs)->(∀o,R (V3 d o kvs) (upd H1 d (.frz o (.dK kvs))))->Px R x H1
noncomputable def Wk (td:TE):TI:=λσ H R=>td σ H λx H1=>Px R x H1
theorem xq {X:Cx} {tg l:Expr} {td:TE} (hl:PE X l td):PI X tg l (Wk td):=by
 intro pins s σ H R I h
 refine dC (hl pins s σ H _ I h) λv s1 hpt=>?_
 obtain⟨x,H1,I1,r1,q1⟩:=hpt
 obtain⟨d,kvs,e,ed,q⟩:=q1
 subst e
 cases r1
 obtain⟨_,hd,vs,rel,o0,es,ep,ho0,r⟩:=(show cV X.prog X.w H1 s1.heap d (.dK kvs) from I1.hok d _ ed)
 obtain⟨o,ho,I2⟩:=I1.chill ed
 obtain rfl:o0=o:=Option.some.inj (ho0.symm.trans ho)
 have hD:∀h:Heap,h.get? d=some o0->h.DictAt (bL X.prog X.w) d vs ep:=λh z=>⟨o0,es,z,r⟩
 refine wpAny_pyIter_dict hd (hD _ ho) ?_
 refine⟨s1.heap.objs.size,[s1.heap.objs.size],_,_,_,rfl,I2.kept (t':=s1.toks) λb o e=>Heap.get?_push_of_some _ e,Nj rel hD,⟨_,Heap.get?_push_size _ rfl,rfl,rfl⟩,λb hb=>?_,q o0⟩
 have e:b=s1.heap.objs.size:=by simpa using hb
 subst e
 exact I2.fpOk (Nat.le_refl _) (I2.hok.fresh (Nat.le_refl _))
theorem Ar {d:Addr} {o:Obj} {kvs:List (Key×V)} {g:TG} {tb:TS} {D:Ends} {σ:St} {H:Hp} (Pv:Nat->St->Hp->Prop) (h0:Pv 0 σ H) (hl:∀i σ H,i<=kvs.length->Pv i σ H->H d=some (.frz o (.dK kvs)))
  (hs:∀i k v σ H,kvs[i]?=some (k,v)->Pv i σ H->g (kV k) σ H λσ2 H2=>tb { D with nx:=Pv (i+1),ct:=Pv (i+1),bk:=D.nx } σ2 H2) (hd:∀σ H,Pv kvs.length σ H->D.nx σ H):
  ∃W:Nat->Nat->St->Hp->Prop,(∃m,W 0 m σ H)/\∀i m σ H,W i m σ H->
   ((V3 d o kvs).stop i H/\D.nx σ H)∨((V3 d o kvs).go i H/\∃N:St->Hp->Prop,(∀σ' H',N σ' H'->∃m',m' <m/\W (i+1) m' σ' H')/\∀x H',(V3 d o kvs).yld i H x H'->g x σ H' λσ2 H2=>tb { D with nx:=N,ct:=N,bk:=D.nx } σ2 H2):=by
 refine⟨λi m σ H=>m=kvs.length - i/\i<=kvs.length/\Pv i σ H,⟨kvs.length,by simp,Nat.zero_le _,h0⟩,?_⟩
 rintro i m σ H ⟨rfl,hi,p⟩
 have q:=hl i σ H hi p
 by_cases hlt:i <kvs.length
 ·refine .inr ⟨⟨q,hlt⟩,Pv (i+1),λσ' H' p'=>⟨kvs.length - (i+1),by lia,rfl,hlt,p'⟩,λx H' y=>?_⟩
  obtain⟨rfl,k,v,ek,rfl⟩:=y
  exact hs i k v σ _ ek p
 ·obtain rfl:i=kvs.length:=by lia
  exact .inl ⟨⟨q,Nat.le_refl _⟩,hd σ H p⟩
theorem Eo {js:List Nat} {tt:TT} {te:TE} {σ:St} {Qd:List V->Hp->Prop} {d:Addr} {o:Obj} {kvs:List (Key×V)} {H:Hp} (Pv:Nat->List V->Hp->Prop) (hn:kvs.length<=sizeLine) (h0:Pv 0 [] H) (hl:∀i ys H,Pv i ys H->ys.length<=i) (hq:∀i ys H,i<=kvs.length->Pv i ys H->H d=some (.frz o (.dK kvs)))
  (hs:∀i k v ys H,kvs[i]?=some (k,v)->Pv i ys H->tt (some (kV k):: dh σ js) H λb H4=>if b=true then te (some (kV k):: dh σ js) H4 λy H5=>Pv (i+1) (ys ++ [y]) H5 else Pv (i+1) ys H4)
  (hd:∀ys H,Pv kvs.length ys H->Qd ys H):CompEnd js tt te σ Qd (V3 d o kvs) H:=by
 refine⟨λi m ys H=>m=kvs.length - i/\i<=kvs.length/\Pv i ys H,⟨kvs.length,by simp,Nat.zero_le _,h0⟩,?_⟩
 rintro i m ys H ⟨rfl,hi,p⟩
 have hlen:=hl i ys H p
 have q:=hq i ys H hi p
 by_cases hlt:i <kvs.length
 ·refine .inr ⟨⟨q,hlt⟩,by lia,Pv (i+1),λys' H' p'=>⟨kvs.length - (i+1),by lia,rfl,hlt,p'⟩,λx H' y=>?_⟩
  obtain⟨rfl,k,v,ek,rfl⟩:=y
  exact hs i k v ys _ ek p
 ·obtain rfl:i=kvs.length:=by lia
  exact .inl ⟨⟨q,Nat.le_refl _⟩,by lia,hd ys H p⟩
theorem zr:∀{xs:List V} {us:List Value},us.length=xs.length->(∀(j:Nat) x u,xs[j]?=some x->us[j]?=some u->RelV x u)->Vals xs us
 | [],[],_,_=>.nil
 | [],_:: _,h,_=>by simp at h
 | _:: _,[],h,_=>by simp at h
 | x:: xs,u:: us,h,r=>.cons (r 0 x u rfl rfl) (zr (by simpa using h) λj y v h1 h2=>r (j+1) y v (by simpa using h1) (by simpa using h2))
theorem Bb {X:Cx} (hc:X.calm=true):mQ X (.type "list") (λxs H Q=>∃d kvs,xs=[.ref d]/\Rd H d (.dK kvs)/\∀l,H l=none->Q (.ref l) (upd H l (.lst (kvs.map λp=>kV p.1)))):=by
 intro pins s σ H xs us Q I rx h
 obtain⟨d,kvs,rfl,hr,q⟩:=h
 obtain⟨u,rfl,ru⟩:=vals1 rx
 cases ru
 obtain⟨z,hd,vs,rel,dd⟩:=Cd I.hok hr
 obtain⟨ep,da⟩:=dd.dictAt
 have hl:kvs.length=vs.length:=Paired.length rel
 refine PySem.W.kdl_call (PySem.W.kdl_dict (knd:=bL X.prog X.w) (kvs:=vs) (ep:=ep) hd) (I.ok.hd hc) da (by lia) λh' tk acc' c' kp e' hi=>?_
 refine⟨.ref s.heap.objs.size,_,I.laid (t':=tk) kp (Nat.le_refl _) (show cV X.prog X.w _ h' _ (.lst (kvs.map λp=>kV p.1)) from⟨by rw [List.length_map];exact z,acc'.toList,c',zr (by rw [Array.length_toList,hi.1,List.length_map,hl]) λj x u hx hu=>?_,by simpa using e'⟩),rfl,q _ (I.hok.fresh (Nat.le_refl _))⟩
 obtain⟨k,v,hkv,hk⟩:=hi.2 j u (by rw [<-Array.getElem?_toList];exact hu)
 rw [List.getElem?_map] at hx
 obtain⟨p,hp,rfl⟩:=Option.map_eq_some_iff.mp hx
 obtain⟨v',hv'⟩:=JR rel (k:=p.1) (v:=p.2) hp
 rw [hkv] at hv'
 cases hv'
 exact Pb hk
section
variable {X:Cx} {pins:List (Addr×Obj)} {σ:St} {H:Hp} {s:Shared}
end
section
variable {X:Cx} {tg:Expr}
end
theorem ie.u1 {k:Nat} {A:Around} (r:ie k A):A.units+1 <cLine:=by have:=r.units;lia
section
variable {prog:Program} {w:World} {A:Around} {E:Value->Shared->Prop} {s:Shared}
end
theorem U5 {P:Program} {w:World} {X:Cx}:kY (oU P w) X E0:=by
 intro pins σ H s e s' _ c
 obtain⟨_,_,_,_,_,_,_,_,_,_,_,_,_,_,z⟩:=c
 exact z.elim
theorem Hm {X:Cx} {K:PySem.W.Frag} {e:Expr} {f:Str} {pos:Pos} {ta:TE} (hK:X.K=K) (he:PE X e ta) (hb:attributeBase e f X.env (eval e X.env)=eval e X.env):PE X (.Attribute e f pos) (Wz K ta f):=by subst hK;exact dq he hb
section
variable {X:Cx} {P:Program} {w:World} {K:PySem.W.Frag} {mg:Str->Option Value} {base:Heap} {CX:DX} {k:Nat} {E:XK} {m:Str} {pos apos:Pos} {e o:Expr} {es:List Expr} {ta:TE} {t:TA}
end
section
variable {prog:Program} {w:World} {A:Around} {R:Result->Shared->Prop} {s:Shared}
theorem W5 {elt tg iter:Expr} {ifs:List Expr} {scope:Scope} {pos:Pos} {it acc:Value} {env:Env} (J:Nat->Shared->Prop)
  (turn:∀k s1,J k s1->wpAny (model prog w) A (pyNext it) (λr s2=>match r with
   | none=>R (.ok .next) s2
   | some v=>wpAny (model prog w) A (letOwnedTupleGo tg it v) (λ_ s3=>wpAny (model prog w) A (assign tg env v) (λ_ s4=>
     wpAny (model prog w) A (forIn ifs true λc r=>if r=true then do let ok <-isTrue c env (eval c env);pure (ForInStep.yield ok) else pure (ForInStep.yield r)) (λok s5=>
      if ok=true then wpAny (model prog w) A (eval elt env) (λy s6=>wpAny (model prog w) A (call (.builtin "list.append") [acc,y]) (λ_ s7=>∃m,m <k/\J m s7) (notedBy (model prog w) A env λe s'=>R (.error e) s') s6)
       (notedBy (model prog w) A env λe s'=>R (.error e) s') s5
      else ∃m,m <k/\J m s5) (notedBy (model prog w) A env λe s'=>R (.error e) s') s4) (notedBy (model prog w) A env λe s'=>R (.error e) s') s3) (notedBy (model prog w) A env λe s'=>R (.error e) s') s2)
   (notedBy (model prog w) A env λe s'=>R (.error e) s') s1)
  (k:Nat) (h:J k s):codeAny (model prog w) A (.compLoop (.ListComp elt [⟨tg,iter,ifs,0⟩] scope pos) 0 it acc env) R s:=by
 refine codeAny_loop rfl J (λk s1 hJ=>?_) k h
 show wpAny _ A ((compTurn (.ListComp elt [⟨tg,iter,ifs,0⟩] scope pos) 0 it acc env).onRaise (λe=>do noteFrame e env;theTreesLotGoes e)) _ _ s1
 refine wpAny_noted ?_
 rw [compTurn_list]
 refine wpAny_bind (wpAny_standAt (wpAny_bind (wpAny_mono (turn k s1 hJ) (λr s2 h2=>?_) λ_ _ z=>z)))
 cases r with
 | none=>exact wpAny_pure h2
 | some v=>
  refine wpAny_bind (wpAny_mono h2 (λ_ s3 h3=>wpAny_bind (wpAny_mono h3 (λ_ s4 h4=>wpAny_bind (wpAny_mono h4 (λok s5 h5=>?_) λ_ _ z=>z)) λ_ _ z=>z)) λ_ _ z=>z)
  cases ok with
  | false=>exact wpAny_pure ⟨rfl,h5⟩
  | true=>exact wpAny_bind (wpAny_bind (wpAny_mono h5 (λy s6 h6=>wpAny_bind (wpAny_mono h6 (λ_ s7 h7=>wpAny_pure (wpAny_pure ⟨rfl,h7⟩)) λ_ _ z=>z)) λ_ _ z=>z))
end
section
variable {X:Cx} {tg:Expr} {g:TG} {pos:Pos} {iter elt:Expr} {ifs:List Expr} {scope:Scope} {wi:TI} {tt:TT} {te:TE}
end
theorem Am {X:Cx} {K:PySem.W.Frag} {es:List Expr} {k:Nat} {pos:Pos} {t:My} {n:Nat} (hK:X.K=K) (hc:X.calm=true) (h:V8 X es t)
  (hn:(assignEach es X.env).length=n:=by rfl) (hst:(assignEach es X.env).findIdx? (·.1)=none:=by rfl):PG X (.Tuple es k pos) (Wn K n t):=by
 subst hK
 exact Gq hc h hn hst
noncomputable def qz (X:Cx) (scope:Scope) (xs:List Str) (js:List Nat) (cl:List (Str×Addr)) (C:Addr) (s:Shared) (H:Hp) (ex:List Addr):Cx where
 prog:=X.prog
 w:=X.w
 K:=X.K
 mg:=X.mg
 base:=X.base
 A:=X.A
 N:=xs ++ cW X.N js
 s₀:=s
 H₀:=H
 env:=compEnvC scope cl C X.env
 outer:=X.stack
 stack:=X.stack
 ex:=ex
 fn:=λ_=>false
 calm:=X.calm
 pn:=[]
 xe:=λ_ _=>False
noncomputable def Bc (xs:List Str) (js:List Nat) (σ:St) (g:TG) (tt:TT) (te:TE) (Qd:List V->Hp->Prop) (J:It) (H1:Hp):Prop:=∃W:Nat->Nat->List V->Hp->Prop,(∃m,W 0 m [] H1)/\∀i m ys H2,W i m ys H2->
 (J.stop i H2/\ys.length<=sizeLine/\Qd ys H2)∨
 (J.go i H2/\ys.length <sizeLine/\∃N:List V->Hp->Prop,(∀ys' H',N ys' H'->∃m',m' <m/\W (i+1) m' ys' H')/\∀x H3,J.yld i H2 x H3->g x ((xs.map λ_=>none) ++ dh σ js) H3 λσ2 H4=>σ2.drop xs.length=dh σ js/\tt σ2 H4 λb H5=>
  if b=true then te σ2 H5 λy H6=>N (ys ++ [y]) H6 else N ys H5)
noncomputable def Ux (xs:List Str) (js:List Nat) (wi:TI) (g:TG) (tt:TT) (te:TE):TE:=λσ H Q=>wi σ H (Bc xs js σ g tt te λys H2=>∀D,H2 D=none->Q (.ref D) (upd H2 D (.lst ys)))
section
variable {X:Cx} {tg:Expr} {g:TG} {pos:Pos} {iter elt:Expr} {ifs:List Expr} {scope:Scope} {wi:TI} {tt:TT} {te:TE}
theorem zY (xs:List Str) (js:List Nat) {pins:List (Addr×Obj)} {σ:St} {s:Shared} {itv:Value} {Q:List V->Hp->Prop} {RR:Value->Addr->Result->Shared->Prop} {E:Value->Shared->Prop}
  (hc:X.calm=true) (hk:scope.kind=.function) (hcell:∀y∈scope.names,y.2≠.cell)
  (hfree:∀y∈scope.names,y.2=.free->X.env.kindOf y.1=some .cell∨X.env.kindOf y.1=some .free)
  (hg:∀cl C s H ex,PG (qz X scope xs js cl C s H ex) tg g)
  (hif:∀cl C s H ex,PF (qz X scope xs js cl C s H ex) ifs tt) (he:∀cl C s H ex,PE (qz X scope xs js cl C s H ex) elt te)
  (hjs:∀y∈cW X.N js,scope.names.lookup y=some .free) (hit:PIE X pins σ tg (Bc xs js σ g tt te Q) itv s)
  (hR:∀D C s' H2 ys m,Inv X pins σ (upd H2 D (.lst ys)) s'->H2 D=none->s'.heap.Ns C m->(∀h',Heap.SameBut C s'.heap h'->Inv X pins σ (upd H2 D (.lst ys)) { s' with heap:=h' })->GR X pins (upd H2 D (.lst ys)) C->C≠D->Q ys H2->RR (.ref D) C (.ok .next) s'):
  wpAny (model X.prog X.w) X.A (newList []) (λacc s₃=>wpAny (model X.prog X.w) X.A (newFunctionEnv scope X.env.globals (clos X.env scope.names []) [] X.env.qual none .none (some X.env)) (λcenv s₄=>
   codeAny (model X.prog X.w) X.A (.compStart (.ListComp elt [⟨tg,iter,ifs,0⟩] scope pos) 0 itv acc { cenv with scope:=relabel scope X.env }) (RR acc cenv.locals) s₄) E s₃) E s:=by
 obtain⟨it,fp,tn,J,H1,rfl,I1,T,st1,f1,W,⟨m0,w0⟩,turn⟩:=hit
 refine wpAny_newObj_type (wpAny_newFunctionEnv hcell (by intro y hy;simp at hy) (λh₁ hns₁ hsb₁=>?_) hk)
 dsimp only at hns₁ hsb₁ ⊢
 generalize hH2:s.heap.push { cls:=.type "list",dict:=none,data:=.seq ([]:List Value).toArray }=Hl at hns₁ hsb₁ ⊢
 generalize hDe:s.heap.objs.size=D
 have hCe:Hl.objs.size=D+1:=by rw [<-hH2,Heap.size_push,hDe]
 generalize hC:Hl.objs.size=C at hns₁ hsb₁ hCe ⊢
 subst hCe
 have hDC:D≠D+1:=Nat.ne_of_lt (Nat.lt_succ_self _)
 have lt:∀b o,s.heap.get? b=some o->b <D:=λb o e=>hDe ▸ Heap.lt_size e
 have old:∀b o,s.heap.get? b=some o->h₁.get? b=some o:=λb o e=>by
  have hb:=lt b o e
  refine hsb₁.extBut b o (Nat.ne_of_lt (Nat.lt_succ_of_lt hb)) (Heap.get?_push_of_some _ ?_)
  rw [<-hH2];exact Heap.get?_push_of_some _ e
 have accD:h₁.get? D=some { cls:=.type "list",dict:=none,data:=.seq ([]:List Value).toArray }:=by
  refine hsb₁.extBut _ _ hDC (Heap.get?_push_of_some _ ?_)
  rw [<-hH2,<-hDe];exact Heap.get?_push_size _ rfl
 have fresh:∀a,D<=a->H1 a=none:=λa ha=>I1.hok.fresh (by rw [hDe];exact ha)
 have fpD:∀b∈fp,b <D:=λb hb=>by
  obtain⟨o,e,_⟩:=T.obj 0 s.heap st1 b hb
  exact lt b o e
 have cellD:∀y c,X.env.cells.lookup y=some c->c <D:=λy c e=>by
  obtain⟨v,q⟩:=I1.cell y c e
  exact hDe ▸ q.lt
 generalize hcl:clos X.env scope.names []=cl
 have clsub:∀y c,cl.lookup y=some c->X.env.cells.lookup y=some c:=by
  rw [<-hcl];exact IW scope.names [] λy a e=>by simp at e
 have frD:∀b∈frs X.stack,b <D:=λb hb=>by
  obtain⟨_,o,ho,_⟩:=I1.stack.mem hb
  exact lt b o ho
 let Y:Cx:=qz X scope xs js cl (D+1) s H1 fp
 have kinds:∀y,Y.env.kindOf y=some .cell∨Y.env.kindOf y=some .free->∃k∈scope.names,k.1=y/\k.2=.free:=λy hy=>by
  have hy':(relabel scope X.env).names.lookup y=some .cell∨(relabel scope X.env).names.lookup y=some .free:=hy
  rw [rZ] at hy'
  cases q:scope.names.lookup y with
  | none=>rw [q] at hy';simp at hy'
  | some k=>
   have hm:=PySem.mem_of_lookup q
   refine⟨(y,k),hm,rfl,?_⟩
   have h1:k≠.cell:=hcell _ hm
   rw [q] at hy'
   simp only [Option.map_some,Option.some.injEq] at hy'
   by_cases hkf:k=.free
   ·exact hkf
   ·have:(k == NameKind.free)=false:=by simpa using hkf
    simp only [this,Bool.false_and,Bool.false_eq_true,if_false] at hy'
    rcases hy' with e | e
    ·exact absurd e h1
    ·exact absurd e hkf
 have okY:Y.Ok:=by
  refine⟨I1.ok.mod,hk,I1.ok.glob,I1.ok.blt,(by show s.heap.objs.size<=D+1;rw [hDe];exact Nat.le_succ _),λy z c h1 h2=>I1.ok.inj y z c (clsub y c h1) (clsub z c h2),λy hy=>?_,λy c h _=>absurd h (by show ¬(false=true);decide),I1.ok.hd,I1.ok.frames,.inl rfl,λb hb=>⟨Nat.ne_of_lt (Nat.lt_succ_of_lt (fpD b hb)),λy c e z=>(f1 b hb).2.2.2.2.1 y c (clsub y c e) z⟩,
   λb o e=>I1.bs b o e,Nat.le_trans I1.ok.bsz I1.sz,λb o e hb=>?_,λb hb hf=>?_,I1.stack,I1.stkFree⟩
  ·obtain⟨k,hm,e1,e2⟩:=kinds y hy
   show ∃c,cl.lookup y=some c
   rw [<-hcl]
   refine Dm scope.names [] y (.inr ⟨k,hm,e1,e2,?_⟩)
   have:=hfree k hm e2
   rw [e1] at this
   exact I1.ok.has y this
  ·obtain⟨_,_,_,h4,_,_⟩:=f1 b hb
   rcases h4 with z | z
   ·exact I1.ok.noex b o e z
   ·exact absurd (Nat.lt_of_lt_of_le (Heap.lt_size e) (Nat.le_trans I1.ok.bsz z)) (Nat.lt_irrefl _)
  ·rcases List.mem_cons.mp (I1.stkSub b hf) with z | z
   ·exact(f1 b hb).2.1 z
   ·exact(f1 b hb).2.2.1 z
 let σ0:St:=(xs.map λ_=>none) ++ dh σ js
 have IY:Inv Y [] σ0 H1 { s with heap:=h₁,toks:=s.toks+([]:List (Str×Value)).length }:=by
  refine⟨okY,rfl,I1.bare,Un.kept old,⟨_,hns₁,λi y v e1 e2 e3=>?_⟩,λy c e=>?_,fresh _ (Nat.le_succ _),λy c e=>I1.freeC y c (clsub y c e),λp hp=>absurd (show p∈([]:List (Addr×Obj)) from hp) (by simp),I1.hok.kept old,?_⟩
  ·by_cases hi:i <xs.length
   ·exfalso
    have e2':((xs.map λ_=>(none:Option V)) ++ dh σ js)[i]?=some (some v):=e2
    rw [List.getElem?_append_left (by rw [List.length_map];exact hi),List.getElem?_map,List.getElem?_eq_getElem hi] at e2'
    cases e2'
   ·have e1':(xs ++ cW X.N js)[i]?=some y:=e1
    have e2':((xs.map λ_=>(none:Option V)) ++ dh σ js)[i]?=some (some v):=e2
    rw [List.getElem?_append_right (by lia)] at e1'
    rw [List.getElem?_append_right (by rw [List.length_map];lia),List.length_map] at e2'
    generalize i - xs.length=i at e1' e2'
    unfold cW at e1'
    unfold dh at e2'
    rw [List.getElem?_map] at e1' e2'
    cases q:js[i]? with
    | none=>rw [q] at e1';cases e1'
    | some j=>
     rw [q] at e1' e2'
     simp only [Option.map_some,Option.some.injEq] at e1' e2'
     have hv:σ[j]?=some (some v):=by
      cases z:σ[j]? with
      | none=>rw [z] at e2';cases e2'
      | some w=>rw [z] at e2';simpa using e2'
     have hj:j <X.N.length:=by
      rw [<-I1.len];exact(List.getElem?_eq_some_iff.mp hv).1
     have hy:X.N[j]?=some y:=by
      rw [List.getElem?_eq_getElem hj] at e1' ⊢
      rw [<-e1'];rfl
     obtain⟨m,hn,hl⟩:=I1.loc
     have hmem:y∈cW X.N js:=List.mem_map.mpr ⟨j,List.mem_of_getElem? q,by rw [hy];rfl⟩
     have hfr:=hjs y hmem
     have hkx:=hfree _ (PySem.mem_of_lookup hfr) rfl
     have hvis:Xu X.env.scope y:=hkx.elim (λz=>.inr (.inl z)) λz=>.inr (.inr z)
     obtain⟨u,r,l⟩:=hl j y v hy hv hvis
     refine⟨u,r,?_⟩
     rcases l with ⟨kl,_⟩ | ⟨_,c,hc1,z⟩
     ·exfalso
      have kl':X.env.kindOf y=some .local:=kl
      rcases hkx with w | w <;> · rw [show X.env.kindOf y=_ from w] at kl';cases kl'
     ·obtain⟨c',hc'⟩:=Dm (env:=X.env) scope.names [] y (.inr ⟨_,PySem.mem_of_lookup hfr,rfl,rfl,c,hc1⟩)
      rw [hcl] at hc'
      have e4:=clsub y c' hc'
      rw [hc1] at e4
      cases e4
      obtain⟨o,ho,hd⟩:=z
      refine .inr ⟨?_,c,hc',o,old c o ho,hd⟩
      rcases e3 with e3 | e3 | e3
      ·exfalso
       have e3':(relabel scope X.env).names.lookup y=some .local:=e3
       rw [rZ,hfr] at e3'
       simp only [Option.map_some,Option.some.injEq] at e3'
       split at e3' <;> cases e3'
      ·exact .inl e3
      ·exact .inr e3
  ·obtain⟨v,q⟩:=I1.cell y c (clsub y c e)
   obtain⟨o,ho,hd⟩:=q
   exact⟨v,o,old c o ho,hd⟩
  ·show((xs.map λ_=>(none:Option V)) ++ dh σ js).length=(xs ++ cW X.N js).length
   unfold dh cW
   rw [List.length_append,List.length_append,List.length_map,List.length_map,List.length_map]
 have mkR:∀(s':Shared) (H2:Hp) (ys:List V) (its:List Value) (σ':St),Inv Y [] σ' H2 s'->s'.heap.PlainList D its.toArray->Vals ys its->ys.length<=sizeLine->H2 D=none->Q ys H2->RR (.ref D) (D+1) (.ok .next) s':=by
  intro s' H2 ys its σ' I' pl rv hz hD hq
  obtain⟨m,hn,_⟩:=I'.loc
  have hn':s'.heap.Ns (D+1) m:=hn
  have hCn:H2 (D+1)=none:=I'.free
  have hch:∀b∈fp,(b∈X.ex∨X.s₀.heap.objs.size<=b)/\b≠X.env.locals/\(∀x c,X.env.cells.lookup x=some c->c≠b)/\∀p∈X.pn ++ pins,p.1≠b:=λb hb=>by
   obtain⟨_,h2,_,h4,h5,h6⟩:=f1 b hb
   exact⟨h4,h2,h5,h6⟩
  have bs:Un (frs X.stack) fp H1 H2 s.heap s'.heap:=I'.base
  have all:∀h',Heap.SameBut (D+1) s'.heap h'->Inv X pins σ (upd H2 D (.lst ys)) { s' with heap:=h' }:=λh' sb=>by
   have neD:∀b o,s.heap.get? b=some o->b≠D:=λb o e=>Nat.ne_of_lt (lt b o e)
   have neC:∀b o,s.heap.get? b=some o->b≠D+1:=λb o e=>Nat.ne_of_lt (Nat.lt_succ_of_lt (lt b o e))
   refine I1.call' (s':={ s' with heap:=h' }) (ch:=fp) I'.os ⟨λb o e n hb hx=>?_,λb o e n hb hx=>?_,λb o e n hx=>?_,λb o e hx=>?_,λb xs e=>?_,λb o u e=>?_,λb ps e=>?_⟩ ?_ I'.bare hch
   ·exact(sb.2 b (neC b o e)).trans (bs.keep b o e n hb hx)
   ·obtain⟨sl,q⟩:=bs.slot b o e n hb hx
    exact⟨sl,(sb.2 b (neC b o e)).trans q⟩
   ·rw [aD (neD b o e)];exact bs.free b o e n hx
   ·obtain⟨o',q⟩:=bs.there b o e hx
    exact⟨o',(sb.2 b (neC b o e)).trans q⟩
   ·have:=bs.tups b xs e
    rw [aD (aB this hD)];exact this
   ·have:=bs.frzs b o u e
    rw [aD (aB this hD)];exact this
   ·obtain⟨more,q⟩:=bs.tbls b ps e
    exact⟨more,by rw [aD (aB q hD)];exact q⟩
   ·have h0:rK X.prog X.w H2 h':=λb u e=>(I'.hok b u e).stay (λc v hc q=>(sb.2 c (by
     rintro rfl
     rcases hc with z | z
     ·rw [z,e] at hCn;cases hCn
     ·rw [z] at hCn;cases hCn)).trans q) (λ_ q=>q) λ_ _ q=>q
    refine En h0 hD ?_
    obtain⟨n,e⟩:=pl
    exact⟨hz,its,n,rv,(sb.2 D hDC).trans e⟩
  have hall:=all s'.heap (.refl ..)
  refine hR D (D+1) s' H2 ys m hall hD hn' all ?_ hDC.symm hq
  refine⟨by rw [aD hDC.symm];exact hCn,?_,?_,.inr (Nat.le_trans I1.sz (by rw [hDe];exact Nat.le_succ _)),λy c e z=>?_,λp hp z=>?_⟩
  ·exact Nat.ne_of_gt (Nat.lt_trans (hDe ▸ I1.lt) (Nat.lt_succ_self _))
  ·exact I1.nofs (by rw [hDe];exact Nat.le_succ _)
  ·exact absurd z (Nat.ne_of_lt (Nat.lt_succ_of_lt (cellD y c e)))
  ·exact absurd z (Nat.ne_of_lt (Nat.lt_succ_of_lt (lt _ _ (I1.pin p hp).1)))
 have loop:∀s₃:Shared,s₃={ s with heap:=h₁,toks:=s.toks+([]:List (Str×Value)).length }->
   codeAny (model X.prog X.w) X.A (.compLoop (.ListComp elt [⟨tg,iter,ifs,0⟩] scope pos) 0 (.ref it) (.ref D) Y.env) (RR (.ref D) (D+1)) s₃:=by
  rintro s₃ rfl
  have stat:∀{H':Hp} {ob:Obj},(∀b∈fp,H' b=none)->∀b∈fp,GR Y [(D,ob)] H' b:=λ{H'} {ob} hn b hb=>by
   refine⟨hn b hb,Nat.ne_of_lt (Nat.lt_succ_of_lt (fpD b hb)),λhf=>okY.exfs b hb hf,.inl hb,λy c e=>(okY.exf b hb).2 y c e,λp hp z=>?_⟩
   have hp':p∈[(D,ob)]:=hp
   have e:p=(D,ob):=by simpa using hp'
   rw [e] at z
   exact absurd z (Ne.symm (Nat.ne_of_lt (fpD b hb)))
  refine W5 (λn s'=>∃i ys its H',∃ob:Obj,Inv Y [(D,ob)] σ0 H' s'/\(∃n,ob={ cls:=.type "list",data:=.seq its.toArray n })/\Vals ys its/\H' D=none/\tn i s'.heap/\(∀b∈fp,H' b=none)/\W i n ys H') ?_ m0
   ⟨0,[],[],H1,{ cls:=.type "list",dict:=none,data:=.seq ([]:List Value).toArray },?_,⟨_,rfl⟩,.nil,fresh _ (Nat.le_refl _),T.keep _ _ _ st1 λb _ o e=>old b o e,λb hb=>(f1 b hb).1,w0⟩
  ·rintro n s3 ⟨i,ys,its,H3,ob,I3,⟨cap,rfl⟩,rv,hD,st3,fr3,w3⟩
   rcases turn i n ys H3 w3 with ⟨stop,hz,hq⟩ | ⟨go,hz,N,hN7,step⟩
   ·refine wpAny_mono (T.done Y rfl rfl rfl hc i _ s3 σ0 H3 (λ_ _=>False) I3 (stat fr3) st3 stop) (λr s4 ⟨hr,I4⟩=>?_) λ_ _ f=>f.elim
    subst hr
    exact mkR s4 H3 ys its σ0 (I4.pins_of λp hp=>absurd hp (by simp)) ⟨cap,(I4.pin _ (List.mem_append_right _ List.mem_cons_self)).1⟩ rv hz hD hq
   ·refine wpAny_mono (T.item Y rfl rfl rfl hc i _ s3 σ0 H3 (λ_ _=>False) I3 (stat fr3) st3 go) (λr s4 ⟨u,hr,h4⟩=>?_) λ_ _ f=>f.elim
    subst hr
    refine wpAny_mono h4 (λ_ s4 ⟨xv,H5,I5,r5,y5,st5,fr5⟩=>?_) λ_ _ f=>f.elim
    have I5':=I5.pinned (stat fr5) (T.obj _ _ st5)
    refine wpAny_mono (hg cl (D+1) s H1 fp _ _ σ0 H5 xv u _ I5' r5 (step xv H5 y5)) (λ_ s6 ⟨σ6,H6,I6,hσ6,q6⟩=>?_) λ_ _ f=>False.elim f
    have again:∀{s7:Shared} {H7:Hp} {ys7:List V} {its7:List Value} {cap7:Nat} {pl:List (Addr×Obj)},Inv Y ([(D,{ cls:=.type "list",data:=.seq its7.toArray cap7 })] ++ pl) σ6 H7 s7->(∀b∈fp,∀o,s4.heap.get? b=some o->s7.heap.get? b=some o/\H7 b=none)->Vals ys7 its7->(∃m',m' <n/\W (i+1) m' ys7 H7)->
      ∃m,m <n/\∃i ys its H',∃ob:Obj,Inv Y [(D,ob)] σ0 H' s7/\(∃n,ob={ cls:=.type "list",data:=.seq its.toArray n })/\Vals ys its/\H' D=none/\tn i s7.heap/\(∀b∈fp,H' b=none)/\W i m ys H':=by
     intro s7 H7 ys7 its7 cap7 pl I7 kf rv7 ⟨m',hm,w7⟩
     refine⟨m',hm,i+1,ys7,its7,H7,_,I7.unpinned.weak (by rw [I7.len];show((xs.map λ_=>(none:Option V)) ++ dh σ js).length=(xs ++ cW X.N js).length;unfold dh cW;rw [List.length_append,List.length_append,List.length_map,List.length_map,List.length_map]) λj v e=>?_,⟨cap7,rfl⟩,rv7,(I7.pin _ (List.mem_append_right _ (List.mem_append_left _ List.mem_cons_self))).2.1,T.keep _ _ _ st5 λb hb o e=>(kf b hb o e).1,λb hb=>?_,w7⟩
     ·have e':((xs.map λ_=>(none:Option V)) ++ dh σ js)[j]?=some (some v):=e
      by_cases hj:j <xs.length
      ·exfalso
       rw [List.getElem?_append_left (by rw [List.length_map];exact hj),List.getElem?_map,List.getElem?_eq_getElem hj] at e'
       cases e'
      ·rw [List.getElem?_append_right (by rw [List.length_map];lia),List.length_map,<-hσ6,List.getElem?_drop] at e'
       rw [show xs.length+(j - xs.length)=j by lia] at e'
       exact e'
     ·obtain⟨o,e,_⟩:=T.obj _ _ st5 b hb
      exact(kf b hb o e).2
    refine wpAny_mono (hif cl (D+1) s H1 fp _ s6 _ H6 _ I6 q6) (λok s7 ⟨H7,I7,q7⟩=>?_) λ_ _ f=>False.elim f
    have kf7:∀b∈fp,∀o,s4.heap.get? b=some o->s7.heap.get? b=some o/\H7 b=none:=λb hb o e=>
     have z:=I7.pin (b,o) (List.mem_append_right _ (List.mem_append_right _ (qC hb e)))
     ⟨z.1,z.2.1⟩
    cases ok with
    | false=>
     rw [if_neg Bool.false_ne_true] at q7 ⊢
     exact again I7 kf7 rv (hN7 _ _ q7)
    | true=>
     rw [if_pos rfl] at q7 ⊢
     refine wpAny_mono (he cl (D+1) s H1 fp _ s7 _ H7 _ I7 q7) (λyv s8 ⟨y,H8,I8,r8,q8⟩=>?_) λ_ _ f=>False.elim f
     have pD:=I8.pin _ (List.mem_append_right _ (List.mem_append_left _ List.mem_cons_self))
     have hlen:=rv.length
     refine wpAny_list_append_plain (items:=its.toArray) ⟨cap,pD.1⟩ (λh9 pl9 sb9=>?_) (by rw [List.size_toArray];lia)
     obtain⟨cap9,e9⟩:=pl9
     have I9:Inv Y [] σ6 H8 { s8 with heap:=h9 }:=(I8.pins_of (pins':=[]) λp hp=>absurd hp (by simp)).turned (t':=s8.toks) (it:=D) (λb o hb e=>(sb9.2 b hb).trans e) pD.2.1 hDC
      (.inr (Nat.le_of_eq hDe)) (λy c e z=>absurd z (Nat.ne_of_lt (cellD y c (clsub y c e)))) λp hp=>absurd (show p∈([]:List (Addr×Obj)) from hp) (by simp)
     have kf9:∀b∈fp,∀o,s4.heap.get? b=some o->h9.get? b=some o/\H8 b=none:=λb hb o e=>by
      have z:=I8.pin (b,o) (List.mem_append_right _ (List.mem_append_right _ (qC hb e)))
      exact⟨(sb9.2 b (Nat.ne_of_lt (fpD b hb))).trans z.1,z.2.1⟩
     refine again (s7:={ s8 with heap:=h9 }) (its7:=its ++ [yv]) (cap7:=cap9) (pl:=[]) (I9.pins_of λp hp=>?_) kf9 (rv.append (.cons r8 .nil)) (hN7 _ _ q8)
     have hp':p=(D,{ cls:=.type "list",data:=.seq (its ++ [yv]).toArray cap9 }):=by simpa using hp
     subst hp'
     refine⟨?_,pD.2.1,pD.2.2.1,pD.2.2.2.1,λv z=>by cases z⟩
     rw [e9]
     simp
  ·refine IY.pins_of λp hp=>?_
   have hp':p=(D,{ cls:=.type "list",dict:=none,data:=.seq ([]:List Value).toArray }):=by simpa using hp
   subst hp'
   exact⟨accD,fresh _ (Nat.le_refl _),hDC,λhf=>Nat.lt_irrefl _ (frD _ hf),λv z=>by cases z⟩
 exact codeAny_compStart_list (loop _ rfl) (wpAny_mono (T.self X.A 0 _ (λv s'=>v=.ref it/\s'={ s with heap:=h₁,toks:=s.toks+([]:List (Str×Value)).length }) (λ_ _=>False) (T.keep _ _ _ st1 λb _ o e=>old b o e) ⟨rfl,rfl⟩) (λv s' ⟨e1,e2⟩=>by subst e1 e2;exact loop _ rfl) λ_ _ f=>f.elim)
theorem xT {i:Nat} {y:Str} {py spos:Pos} (xs:List Str) (js:List Nat) (N0:List Str) (sc0:Scope) (hc:X.calm=true) (hNX:X.N.Nodup) (hiy:X.N[i]?=some y) (hi:PI X tg iter wi) (hg:∀cl C s H ex,PG (qz X scope xs js cl C s H ex) tg g)
  (hif:∀cl C s H ex,PF (qz X scope xs js cl C s H ex) ifs tt) (he:∀cl C s H ex,PE (qz X scope xs js cl C s H ex) elt te)
  (hsw:swapsWith (.ListComp elt [⟨tg,iter,ifs,0⟩] scope pos) (some (.Name y py)) spos.line X.env=pure true:=by rfl) (hy:X.env.scope.names.lookup y=some .local:=by rfl)
  (hk:scope.kind=.function:=by rfl) (hcell:∀y∈scope.names,y.2≠.cell:=by decide +kernel)
  (hnames:∀y∈scope.names,y.2=.local->scope.names.lookup y.1=some .local:=by decide +kernel)
  (hsc:X.env.scope=sc0:=by rfl) (hfree0:∀y∈scope.names,y.2=.free->sc0.names.lookup y.1=some .cell∨sc0.names.lookup y.1=some .free:=by decide +kernel)
  (hNN:X.N=N0:=by rfl) (hj0:∀y∈cW N0 js,scope.names.lookup y=some .free:=by decide +kernel)
  (hs:∀x,foldedSetIterable iter X.env x=pure x:=by intro _;rfl):
  PS X (.Assign [.Name y py] (.ListComp elt [⟨tg,iter,ifs,0⟩] scope pos) spos) (MJ (Ux xs js wi g tt te) (vg i)):=by
 intro pins s σ H D I h
 have hfree:∀y∈scope.names,y.2=.free->X.env.kindOf y.1=some .cell∨X.env.kindOf y.1=some .free:=λy hy e=>by
  show X.env.scope.names.lookup y.1=some .cell∨X.env.scope.names.lookup y.1=some .free
  rw [hsc];exact hfree0 y hy e
 have hjs:∀y∈cW X.N js,scope.names.lookup y=some .free:=by rw [hNN];exact hj0
 rw [exec_Assign_Name_used _ _ _ _ hsw]
 refine wpAny_bind (wpAny_standAt (wpAny_bind ?_))
 show wpAny _ X.A (do let _ <-comprehension (.ListComp elt [⟨tg,iter,ifs,0⟩] scope pos) scope X.env _ (newList []) false (eval iter X.env) (some (assign (.Name y py) X.env))) _ _ s
 have hcl:closureFor scope X.env=pure (clos X.env scope.names []):=oR λy hy e=>I.ok.has y.1 (hfree y hy e)
 refine wpAny_bind (wpAny_mono (wpAny_comprehension_free (use:=some (assign (.Name y py) X.env)) (Q:=λ_ s'=>SP X pins D .next s') rfl hs hcl hk hnames
  (dC (hi pins s σ H _ I h) λxv s1 h1=>dC h1 λit s2 h2=>?_)) (λ_ s' hq=>wpAny_pure (wpAny_pure hq)) λ_ _ e=>e)
 refine zY xs js (RR:=λacc C=>compPost (model X.prog X.w) X.A X.xe (some (assign (.Name y py) X.env)) (λ_ s'=>SP X pins D .next s') acc C) (Q:=λys H2=>∀D',H2 D'=none->D.nx (σ.set i (some (.ref D'))) (upd H2 D' (.lst ys))) hc hk hcell hfree hg hif he hjs h2 ?_
 intro D' C s' H2 ys m I' hD hn all fpC hCD hq
 show wpAny _ X.A (assign (.Name y py) X.env (.ref D')) _ _ _
 refine wpAny_assign_Name (yx I' hNX hiy (.inl hy) (v:=.ref D') rfl (λs'' I'' ⟨a,sb,ha⟩=>?_) (.inr hy))
 obtain⟨f1,f2,f3,f4,f5,f6⟩:=fpC
 have hCa:C≠a:=by
  rcases ha with z | z
  ·rw [z];exact f2
  ·exact λw=>f5 _ _ z w.symm
 exact⟨m,hn.sameBut sb hCa,λh' sb'=>⟨_,_,I''.turned (t':=s''.toks) (it:=C) (λb o hb e=>(sb'.2 b hb).trans e) f1 f2 f4 f5 f6,hq D' hD⟩⟩
end
theorem qb {ts:List Str} {js:List Nat} {σ:St} {g:TG} {tt:TT} {te:TE} {Qd:List V->Hp->Prop} {K:PySem.W.Frag} {a:Addr} {xs:List V} {H:Hp} (Pv:Nat->List V->Hp->Prop) (hn:xs.length<=sizeLine) (h0:Pv 0 [] H) (hl:∀i ys H,Pv i ys H->ys.length<=i) (hq:∀i ys H,i<=xs.length->Pv i ys H->bH K H a xs)
  (hs:∀i x ys H,xs[i]?=some x->Pv i ys H->g x ((ts.map λ_=>none) ++ dh σ js) H λσ2 H3=>σ2.drop ts.length=dh σ js/\tt σ2 H3 λb H4=>if b=true then te σ2 H4 λy H5=>Pv (i+1) (ys ++ [y]) H5 else Pv (i+1) ys H4)
  (hd:∀ys H,Pv xs.length ys H->Qd ys H):Bc ts js σ g tt te Qd (Vo K a) H:=by
 refine⟨λi m ys H=>m=xs.length - i/\i<=xs.length/\Pv i ys H,⟨xs.length,by simp,Nat.zero_le _,h0⟩,?_⟩
 rintro i m ys H ⟨rfl,hi,p⟩
 have hlen:=hl i ys H p
 have q:=hq i ys H hi p
 by_cases hlt:i <xs.length
 ·refine .inr ⟨⟨xs,xs[i],q,by simp [hlt]⟩,by lia,Pv (i+1),λys' H' p'=>⟨xs.length - (i+1),by lia,rfl,hlt,p'⟩,λx H' y=>?_⟩
  obtain⟨e,y⟩:=y
  subst e
  exact hs i x ys _ (y xs q) p
 ·have e:i=xs.length:=by lia
  subst e
  exact .inl ⟨⟨xs,q,Nat.le_refl _⟩,by lia,hd ys H p⟩
structure PQ (K:PySem.W.Frag) (x qual:Str) (st:Stmt) (f:Addr) (fd:FuncData) (its:Array Value):Prop where
 ex:∃(oc:Value) (od:Option Addr) (T:Addr) (kV doc pm:Value) (an:Option Addr) (cdv ct:Value) (osl:Array (Option Value)) (o:Obj) (n:Nat),
  fd=PySem.W.fnOf x qual (gO st) (fQ st) (bw st) (.ref T) kV doc pm an cdv ct/\K.lookup f=some ⟨oc,od,.func fd,osl⟩/\PySem.W.codeIn K cdv qual=true/\K.lookup T=some o/\o.data=.seq its n
 kp:PySem.W.keepIn K (.ref f)=true
section
variable {P:Program} {w:World} {K:PySem.W.Frag} {mg:Str->Option Value} {base:Heap} {its:Array Value}
theorem PQ.binds {x qual:Str} {st:Stmt} {f:Addr} {fd:FuncData} {ps:List Str} (F:PQ K x qual st f fd its)
  (h:∀(T:Addr) (kV doc pm:Value) (an:Option Addr) (cdv ct:Value) (us:List Value),us.length=ps.length->∃k,bindArgs (PySem.W.fnOf x qual (gO st) (fQ st) (bw st) (.ref T) kV doc pm an cdv ct) ⟨us,[]⟩=seqItems? (.ref T) >>= k/\k (some its)=pure (ps.zip us)):Binds K fd ps []:=by
 obtain⟨oc,od,T,kV,doc,pm,an,cdv,ct,osl,o,n,rfl,lk,hcd,hT,ho⟩:=F.ex
 intro s us X hl
 rw [List.append_nil] at hl ⊢
 obtain⟨k,h1,h2⟩:=h T kV doc pm an cdv ct us hl
 exact .of_defaults rfl (X _ _ hT) ho h1 h2
theorem Su {x qual:Str} {st:Stmt} {f T:Addr} {oc:Value} {od an:Option Addr} {osl:Array (Option Value)} {kV doc pm cdv ct:Value} {o:Obj} {n:Nat} (l:K.lookup f=some ⟨oc,od,.func (PySem.W.fnOf x qual (gO st) (fQ st) (bw st) (.ref T) kV doc pm an cdv ct),osl⟩)
  (c:PySem.W.codeIn K cdv qual=true) (k:PySem.W.keepIn K (.ref f)=true) (d:K.lookup T=some o) (e:o.data=.seq its n):PQ K x qual st f (PySem.W.fnOf x qual (gO st) (fQ st) (bw st) (.ref T) kV doc pm an cdv ct) its:=⟨⟨oc,od,T,kV,doc,pm,an,cdv,ct,osl,o,n,rfl,l,c,d,e⟩,k⟩
end
@[irreducible] noncomputable def ZE (X:Cx) (e:Expr) (t:TE):Prop:=PE X e t
@[irreducible] noncomputable def ZA (X:Cx) (es:List Expr) (t:TA):Prop:=PA X es t
@[irreducible] noncomputable def ZS (X:Cx) (st:Stmt) (t:TS):Prop:=PS X st t
@[irreducible] noncomputable def Xy (X:Cx) (sts:List Stmt) (t:TS):Prop:=Fg X sts t
section
variable {X:Cx} {e:Expr} {es:List Expr} {te:TE} {t:TA} {pos:Pos} {st:Stmt} {rest:List Stmt} {ts us:TS}
theorem Xa (h:ZA X es t):ZE X (.List es pos) (VF t):=by unfold ZA at h;unfold ZE;exact aW h
theorem We {i:Nat} {x:Str} {pos':Pos} (hN:X.N.Nodup) (hi:X.N[i]?=some x) (hx:Loc X.env.scope x) (he:ZE X e te) (hs:swapsWith e (some (.Name x pos')) pos.line X.env=pure false:=by rfl) (hf:X.fn x=true∨X.env.scope.names.lookup x=some .local:=by first | exact .inl rfl | exact .inr rfl | assumption):
  ZS X (.Assign [.Name x pos'] e pos) (MJ te (vg i)):=by unfold ZE at he;unfold ZS;exact Hi hN hi hx he hs hf
theorem Ql (h1:ZS X st ts) (h2:Fg X rest us):Xy X (st:: rest) (wU ts us):=by unfold ZS at h1;unfold Xy;exact aA h1 h2
end
theorem qL {X:Cx} {K:PySem.W.Frag} (hK:X.K=K):mQ X (.type "tuple") (λxs H Q=>∃a ys,xs=[.ref a]/\uG K H a ys/\∀(H':Hp) (u:Addr),aM H H'->d7 K H' u ys->Q (.ref u) H'):=by subst hK;exact oX
theorem ql {X:Cx} {K:PySem.W.Frag} (hK:X.K=K):mQ X (.type "list") (λxs H Q=>∃p ys,xs=[.ref p]/\(bH K H p ys∨d7 K H p ys)/\∀l,H l=none->Q (.ref l) (upd H l (.lst ys))):=by subst hK;exact p8
section
variable {X:Cx}
end
section
variable {X:Cx}
end
section
variable {prog:Program} {w:World} {A:Around} {E:Value->Shared->Prop}
theorem Ek {it t:Addr} {items:Array Value} (hne:t≠it):∀(n i:Nat) (s:Shared) (Q:List Value->Shared->Prop),s.heap.IsListIter it t i->s.heap.IsList t items->i+n<=items.size->
  (∀h',h'.IsListIter it t (i+n)->Heap.SameBut it s.heap h'->Q ((items.toList.drop i).take n) { s with heap:=h' })->wpAny (model prog w) A (draw (.ref it) n) Q E s
 | 0,i,s,Q,hit,_,_,hQ=>by
  show wpAny _ _ (pure []) Q E s
  exact wpAny_pure (by simpa using hQ s.heap hit (Heap.SameBut.refl ..))
 | n+1,i,s,Q,hit,ht,hle,hQ=>by
  have hlt:i <items.size:=by lia
  show wpAny _ _ (pyNext (.ref it) >>= _) Q E s
  refine wpAny_bind (wpAny_pyNext_list_item hit ht (x:=items[i]) (by simp [hlt]) λh₁ hit₁ hs₁=>?_)
  refine wpAny_bind (wpAny_holding (Ek hne n (i+1) _ _ hit₁ (ht.extBut hs₁.extBut hne) (by lia) λh₂ hit₂ hs₂=>wpAny_pure ?_))
  have hd:items.toList.drop i=items[i]:: items.toList.drop (i+1):=by simp [List.drop_eq_getElem_cons,hlt]
  have:=hQ h₂ (by rw [show i+(n+1)=i+1+n by lia];exact hit₂) (hs₁.trans hs₂)
  rw [hd,List.take_succ_cons] at this
  exact this
theorem Iw {s:Shared} {t:Addr} {items:Array Value} {targets:List (Bool×(Value->Sem Unit))} {Q:Unit->Shared->Prop} (hh:A.handled=none) (ht:s.heap.IsList t items)
  (hn:targets.length=items.size) (hstar:targets.findIdx? (·.1)=none)
  (h:∀h',Heap.ExtBut s.heap.objs.size s.heap h'->wpAny (model prog w) A (assignInOrder (targets.map (·.2)) items.toList) Q E { s with heap:=h' }):
  wpAny (model prog w) A (unpack (.ref t) targets) Q E s:=by
 unfold unpack
 rw [hn,hstar]
 refine wpAny_bind (wpAny_holding ?_)
 have hlt:t≠s.heap.objs.size:=by obtain⟨o,ho,_⟩:=ht.typeIs;exact Nat.ne_of_lt (Heap.lt_size ho)
 unfold unpackItems
 refine wpAny_bind ?_
 unfold notIterableAtAll
 refine wpAny_bind (wpAny_specialOf ht.typeIs F.slot_list_iter.lookup ?_)
 refine wpAny_pure ?_
 simp only [Bool.false_eq_true,if_false]
 refine wpAny_bind (wpAny_holding (wpAny_pyIter_list ht ?_))
 refine wpAny_bind (wpAny_holding (Ek hlt items.size 0 _ _ ⟨_,Heap.get?_push_size _ rfl,rfl,rfl⟩ (ht.at λo e=>Heap.get?_push_of_some _ e) (by lia) λh₁ hit₁ hs₁=>?_))
 have hall:List.take items.size (List.drop 0 items.toList)=items.toList:=by
  rw [List.drop_zero];exact List.take_of_length_le (by simp)
 rw [hall]
 rw [if_neg (by simp)]
 have ht₁:h₁.IsList t items:=Heap.IsList.extBut (ht.at λo e=>Heap.get?_push_of_some _ e) hs₁.extBut hlt
 refine wpAny_bind (wpAny_holding (wpAny_pyNext_list_end hh hit₁ ht₁ (by simp) λh₂ he₂=>?_))
 simp only [Option.isSome_none,Bool.false_eq_true,if_false]
 exact wpAny_pure (h h₂ λb o hb e=>he₂ b o hb (hs₁.extBut b o hb (Heap.get?_push_of_some _ e)))
end
inductive S8 (K:PySem.W.Frag) (n:Nat) (t:My) (v:V) (σ:St) (H:Hp) (Q:St->Hp->Prop):Prop where
 | mk:∀a xs,v=.ref a->bH K H a xs->xs.length=n->t xs σ H Q->S8 K n t v σ H Q
noncomputable def Yl (K:PySem.W.Frag) (n:Nat) (t:My):TG:=λv σ H Q=>S8 K n t v σ H Q
theorem VR {X:Cx} {pos:Pos} {es:List Expr} {k:Nat} {t:My} {n:Nat} (hc:X.calm=true) (h:V8 X es t)
  (hn:(assignEach es X.env).length=n:=by rfl) (hst:(assignEach es X.env).findIdx? (·.1)=none:=by rfl):PG X (.Tuple es k pos) (Yl X.K n t):=by
 intro pins s σ H v u Q I r hw
 obtain⟨a,xs,e1,hq,hl,hw⟩:=hw
 subst e1
 cases r
 obtain⟨its,rv,ht,hz⟩:=I.list hq
 rw [arm_assign_Tuple]
 refine wpAny_bind (wpAny_standAt (Iw (I.ok.hd hc) ht.isList (by simp [hn,<-hl,rv.length]) hst λh' hx=>?_))
 have I1:Inv X pins σ H { s with heap:=h' }:=I.kept (t':=s.toks) λb o e=>hx b o (Nat.ne_of_lt (Heap.lt_size e)) e
 exact h pins _ σ H xs _ Q I1 (by simpa using rv) hw
section
variable {X:Cx} {tg:Expr}
end
section
variable {X:Cx} {e:Expr}
theorem Vw {t u:TT} (h:PT X e t) (h':PT X e u):PT X e (λσ H Q=>t σ H Q∨u σ H Q):=λpins s σ H Q I q=>q.elim (h pins s σ H Q I) (h' pins s σ H Q I)
end
section
variable {X:Cx}
end
section
variable {M:Model} {A:Around} {E:Value->Shared->Prop} {nm q:Str} {C N:Addr} {bs bm:List Value} {hdct:Bool} {sn:List Str} {sub:List Value} {ab:Bool} {col:Option Bool} {dd:Option Addr} {k0 k1 k2 k3 k5:Option Value} {newId:String}
end
end L2
namespace L2
open PySem PyProof
section
variable {X:Cx} {x:Str} {px pos:Pos} {iter elt:Expr} {ifs:List Expr} {scope:Scope} {wi:TI} {tt:TT} {te:TE}
theorem zK (js:List Nat) {pins:List (Addr×Obj)} {σ:St} {s:Shared} {itv:Value} {Q:List V->Hp->Prop} {RR:Value->Addr->Result->Shared->Prop} {E:Value->Shared->Prop}
  (hc:X.calm=true) (hk:scope.kind=.function) (hx:scope.names.lookup x=some .local) (hcell:∀y∈scope.names,y.2≠.cell)
  (hfree:∀y∈scope.names,y.2=.free->X.env.kindOf y.1=some .cell∨X.env.kindOf y.1=some .free)
  (hN:(x:: cW X.N js).Nodup) (hjs:∀y∈cW X.N js,scope.names.lookup y=some .free)
  (hif:∀cl C s H ex,PF (yI X scope x js cl C s H ex) ifs tt) (he:∀cl C s H ex,PE (yI X scope x js cl C s H ex) elt te)
  (hit:PIE X pins σ (.Name x px) (CompEnd js tt te σ Q) itv s)
  (hR:∀D C s' H2 ys m,Inv X pins σ (upd H2 D (.lst ys)) s'->H2 D=none->s'.heap.Ns C m->(∀h',Heap.SameBut C s'.heap h'->Inv X pins σ (upd H2 D (.lst ys)) { s' with heap:=h' })->GR X pins (upd H2 D (.lst ys)) C->C≠D->Q ys H2->RR (.ref D) C (.ok .next) s'):
  wpAny (model X.prog X.w) X.A (newList []) (λacc s₃=>wpAny (model X.prog X.w) X.A (newFunctionEnv scope X.env.globals (clos X.env scope.names []) [] X.env.qual none .none (some X.env)) (λcenv s₄=>
   codeAny (model X.prog X.w) X.A (.compStart (.ListComp elt [⟨.Name x px,iter,ifs,0⟩] scope pos) 0 itv acc { cenv with scope:=relabel scope X.env }) (RR acc cenv.locals) s₄) E s₃) E s:=
 zY (tg:=.Name x px) (g:=vg 0) [x] js hc hk hcell hfree (λcl C s H ex=>dX (i:=0) hN rfl (.inl (lookup_relabel_local hx)) (.inr (lookup_relabel_local hx))) hif he hjs
  (by
   obtain⟨it,fp,tn,J,H',e,I,T,t0,hf,W,h0,hW⟩:=hit
   exact⟨it,fp,tn,J,H',e,I,T,t0,hf,W,h0,λi m ys H2 w=>(hW i m ys H2 w).imp_right λ⟨a,b,N,c,d⟩=>⟨a,b,N,c,λy H3 z=>⟨rfl,d y H3 z⟩⟩⟩) hR
theorem jX (js:List Nat) (N0:List Str) (sc0:Scope) (hc:X.calm=true) (hi:PI X (.Name x px) iter wi)
  (hif:∀cl C s H ex,PF (yI X scope x js cl C s H ex) ifs tt) (he:∀cl C s H ex,PE (yI X scope x js cl C s H ex) elt te)
  (hk:scope.kind=.function:=by rfl) (hx:scope.names.lookup x=some .local:=by rfl) (hcell:∀y∈scope.names,y.2≠.cell:=by decide +kernel)
  (hnames:∀y∈scope.names,y.2=.local->scope.names.lookup y.1=some .local:=by decide +kernel)
  (hsc:X.env.scope=sc0:=by rfl) (hfree0:∀y∈scope.names,y.2=.free->sc0.names.lookup y.1=some .cell∨sc0.names.lookup y.1=some .free:=by decide +kernel)
  (hNN:X.N=N0:=by rfl) (hN0:(x:: cW N0 js).Nodup:=by decide +kernel) (hj0:∀y∈cW N0 js,scope.names.lookup y=some .free:=by decide +kernel)
  (hs:∀x,foldedSetIterable iter X.env x=pure x:=by intro _;rfl):
  PE X (.ListComp elt [⟨.Name x px,iter,ifs,0⟩] scope pos) (Tw js wi tt te):=by
 intro pins s σ H Q I h
 have hN:(x:: cW X.N js).Nodup:=by rw [hNN];exact hN0
 have hfree:∀y∈scope.names,y.2=.free->X.env.kindOf y.1=some .cell∨X.env.kindOf y.1=some .free:=λy hy e=>by
  show X.env.scope.names.lookup y.1=some .cell∨X.env.scope.names.lookup y.1=some .free
  rw [hsc];exact hfree0 y hy e
 have hjs:∀y∈cW X.N js,scope.names.lookup y=some .free:=by rw [hNN];exact hj0
 rw [eval_ListComp]
 have hcl:closureFor scope X.env=pure (clos X.env scope.names []):=oR λy hy e=>I.ok.has y.1 (hfree y hy e)
 refine wpAny_comprehension_free (use:=none) rfl hs hcl hk hnames (dC (hi pins s σ H _ I h) λxv s1 h1=>dC h1 λit s2 h2=>?_)
 refine zK js (RR:=λacc C=>compPost (model X.prog X.w) X.A X.xe none (EP X pins σ Q) acc C) (Q:=λys H2=>∀D,H2 D=none->Q (.ref D) (upd H2 D (.lst ys))) hc hk hx hcell hfree hN hjs hif he h2 ?_
 intro D C s' H2 ys m I' hD hn all fpC hCD hq
 exact⟨m,hn,λh' sb=>⟨.ref D,_,all h' sb,rfl,hq D hD⟩⟩
theorem j4 {i:Nat} {y:Str} {py spos:Pos} (js:List Nat) (N0:List Str) (sc0:Scope) (hc:X.calm=true) (hNX:X.N.Nodup) (hiy:X.N[i]?=some y) (hi:PI X (.Name x px) iter wi)
  (hif:∀cl C s H ex,PF (yI X scope x js cl C s H ex) ifs tt) (he:∀cl C s H ex,PE (yI X scope x js cl C s H ex) elt te)
  (hsw:swapsWith (.ListComp elt [⟨.Name x px,iter,ifs,0⟩] scope pos) (some (.Name y py)) spos.line X.env=pure true:=by rfl) (hy:X.env.scope.names.lookup y=some .local:=by rfl)
  (hk:scope.kind=.function:=by rfl) (hx:scope.names.lookup x=some .local:=by rfl) (hcell:∀y∈scope.names,y.2≠.cell:=by decide +kernel)
  (hnames:∀y∈scope.names,y.2=.local->scope.names.lookup y.1=some .local:=by decide +kernel)
  (hsc:X.env.scope=sc0:=by rfl) (hfree0:∀y∈scope.names,y.2=.free->sc0.names.lookup y.1=some .cell∨sc0.names.lookup y.1=some .free:=by decide +kernel)
  (hNN:X.N=N0:=by rfl) (hN0:(x:: cW N0 js).Nodup:=by decide +kernel) (hj0:∀y∈cW N0 js,scope.names.lookup y=some .free:=by decide +kernel)
  (hs:∀x,foldedSetIterable iter X.env x=pure x:=by intro _;rfl):
  PS X (.Assign [.Name y py] (.ListComp elt [⟨.Name x px,iter,ifs,0⟩] scope pos) spos) (MJ (Tw js wi tt te) (vg i)):=by
 intro pins s σ H D I h
 have hN:(x:: cW X.N js).Nodup:=by rw [hNN];exact hN0
 have hfree:∀y∈scope.names,y.2=.free->X.env.kindOf y.1=some .cell∨X.env.kindOf y.1=some .free:=λy hy e=>by
  show X.env.scope.names.lookup y.1=some .cell∨X.env.scope.names.lookup y.1=some .free
  rw [hsc];exact hfree0 y hy e
 have hjs:∀y∈cW X.N js,scope.names.lookup y=some .free:=by rw [hNN];exact hj0
 rw [exec_Assign_Name_used _ _ _ _ hsw]
 refine wpAny_bind (wpAny_standAt (wpAny_bind ?_))
 show wpAny _ X.A (do let _ <-comprehension (.ListComp elt [⟨.Name x px,iter,ifs,0⟩] scope pos) scope X.env _ (newList []) false (eval iter X.env) (some (assign (.Name y py) X.env))) _ _ s
 have hcl:closureFor scope X.env=pure (clos X.env scope.names []):=oR λy hy e=>I.ok.has y.1 (hfree y hy e)
 refine wpAny_bind (wpAny_mono (wpAny_comprehension_free (use:=some (assign (.Name y py) X.env)) (Q:=λ_ s'=>SP X pins D .next s') rfl hs hcl hk hnames
  (dC (hi pins s σ H _ I h) λxv s1 h1=>dC h1 λit s2 h2=>?_)) (λ_ s' hq=>wpAny_pure (wpAny_pure hq)) λ_ _ e=>e)
 refine zK js (RR:=λacc C=>compPost (model X.prog X.w) X.A X.xe (some (assign (.Name y py) X.env)) (λ_ s'=>SP X pins D .next s') acc C) (Q:=λys H2=>∀D',H2 D'=none->D.nx (σ.set i (some (.ref D'))) (upd H2 D' (.lst ys))) hc hk hx hcell hfree hN hjs hif he h2 ?_
 intro D' C s' H2 ys m I' hD hn all fpC hCD hq
 show wpAny _ X.A (assign (.Name y py) X.env (.ref D')) _ _ _
 refine wpAny_assign_Name (yx I' hNX hiy (.inl hy) (v:=.ref D') rfl (λs'' I'' ⟨a,sb,ha⟩=>?_) (.inr hy))
 obtain⟨f1,f2,f3,f4,f5,f6⟩:=fpC
 have hCa:C≠a:=by
  rcases ha with z | z
  ·rw [z];exact f2
  ·exact λw=>f5 _ _ z w.symm
 exact⟨m,hn.sameBut sb hCa,λh' sb'=>⟨_,_,I''.turned (t':=s''.toks) (it:=C) (λb o hb e=>(sb'.2 b hb).trans e) f1 f2 f4 f5 f6,hq D' hD⟩⟩
end
end L2
namespace L2
open PySem PySem.Spec PyProof.Rows
noncomputable def fdOf (K:PySem.W.Frag) (f:Addr):FuncData:=match K.lookup f with
 | some ⟨_,_,.func d,_⟩=>d
 | _=>default
theorem Sh {K:PySem.W.Frag} {f:Addr} {oc:Value} {od:Option Addr} {fd:FuncData} {osl:Array (Option Value)} (l:K.lookup f=some ⟨oc,od,.func fd,osl⟩):fdOf K f=fd:=by
 unfold fdOf
 rw [l]
structure il (K:PySem.W.Frag) (nm qn:Str) (s:Stmt) (f:Addr) (ps:List Str):Prop where
 F:Q7 K nm qn s f (fdOf K f)
 b:Binds K (fdOf K f) ps []
 i:PySem.W.isFn K (.ref f)=true
theorem il.me {K:PySem.W.Frag} {nm qn m:Str} {s:Stmt} {f C:Addr} {ps:List Str} (x:il K nm qn s f ps) (h:PySem.W.findIn K (.ref C) m=some (some (.ref f))):Meth K C m f:=⟨h,x.i,x.F.kp⟩
theorem il.of {K:PySem.W.Frag} {nm qn:Str} {s:Stmt} {f:Addr} {ps:List Str} {oc:Value} {od an:Option Addr} {osl:Array (Option Value)} {kV doc pm cdv ct:Value}
  (l:K.lookup f=some ⟨oc,od,.func (PySem.W.fnOf nm qn (gO s) (fQ s) (bw s) .none kV doc pm an cdv ct),osl⟩) (c:PySem.W.codeIn K cdv qn=true) (k:PySem.W.keepIn K (.ref f)=true) (i:PySem.W.isFn K (.ref f)=true)
  (h:∀(kV doc pm:Value) (an:Option Addr) (cdv ct:Value) (us:List Value),us.length=ps.length->bindArgs (PySem.W.fnOf nm qn (gO s) (fQ s) (bw s) .none kV doc pm an cdv ct) ⟨us,[]⟩=pure (ps.zip us)):il K nm qn s f ps:=by
 have e:fdOf K f=PySem.W.fnOf nm qn (gO s) (fQ s) (bw s) .none kV doc pm an cdv ct:=by
  unfold fdOf
  rw [l]
 have F:=Va l c k
 have b:=F.binds h
 rw [<-e] at F b
 exact⟨F,b,i⟩
structure YT (K:PySem.W.Frag) (nm qn:Str) (s:Stmt) (f:Addr) (ps:List Str):Prop where
 F:PQ K nm qn s f (fdOf K f) #[.none]
 b:Binds K (fdOf K f) ps []
 i:PySem.W.isFn K (.ref f)=true
theorem YT.of {K:PySem.W.Frag} {nm qn:Str} {s:Stmt} {f T:Addr} {ps:List Str} {oc oe:Value} {od an oh:Option Addr} {osl osm:Array (Option Value)} {kV doc pm cdv ct:Value} {n:Nat}
  (l:K.lookup f=some ⟨oc,od,.func (PySem.W.fnOf nm qn (gO s) (fQ s) (bw s) (.ref T) kV doc pm an cdv ct),osl⟩) (d:K.lookup T=some ⟨oe,oh,.seq #[.none] n,osm⟩) (c:PySem.W.codeIn K cdv qn=true) (k:PySem.W.keepIn K (.ref f)=true) (i:PySem.W.isFn K (.ref f)=true)
  (h:∀fd:FuncData,PQ K nm qn s f fd #[.none]->Binds K fd ps []):YT K nm qn s f ps:=by
 have F:=Su (its:=#[.none]) l c k d rfl
 have b:=h _ F
 rw [<-Sh l] at F b
 exact⟨F,b,i⟩
structure jy (K:PySem.W.Frag) (mg:Str->Option Value) (nm:Str) (s:Stmt) (f:Addr) (ps:List Str):Prop where
 x:il K nm nm s f ps
 m:mg nm=some (.ref f)
theorem jy.of {K:PySem.W.Frag} {mg:Str->Option Value} {nm:Str} {s:Stmt} {f:Addr} {ps:List Str} (m:mg nm=some (.ref f)) (x:il K nm nm s f ps):jy K mg nm s f ps:=⟨x,m⟩
theorem gC {mg:Str->Option Value} {nm:Str} {u:Value} {v:V} (m:mg nm=some u) (r:RelV v u):∃u,mg nm=some u/\RelV v u:=⟨u,m,r⟩
theorem jy.F {K:PySem.W.Frag} {mg:Str->Option Value} {nm:Str} {s:Stmt} {f:Addr} {ps:List Str} (h:jy K mg nm s f ps):Q7 K nm nm s f (fdOf K f):=h.x.F
theorem jy.b {K:PySem.W.Frag} {mg:Str->Option Value} {nm:Str} {s:Stmt} {f:Addr} {ps:List Str} (h:jy K mg nm s f ps):Binds K (fdOf K f) ps []:=h.x.b
noncomputable def MB (K:PySem.W.Frag) (C:Addr):List (Str×Addr)->Prop
 | []=>True
 | (m,f):: r=>PySem.W.findIn K (.ref C) m=some (some (.ref f))/\MB K C r
noncomputable def NB (K:PySem.W.Frag) (C:Addr):List Str->Prop
 | []=>True
 | f:: r=>PySem.W.findIn K (.ref C) f=some none/\NB K C r
structure Kg (K:PySem.W.Frag) (mg:Str->Option Value) (nm:Str) (C:Addr) (ms:List (Str×Addr)) (as:List Str):Prop where
 m:mg nm=some (.ref C)
 c:QT K C
 mks:PySem.W.makesIn K C=true
 kp:PySem.W.keepIn K (.ref C)=true
 me:MB K C ms
 na:NB K C as
theorem Kg.M {K:PySem.W.Frag} {mg:Str->Option Value} {nm:Str} {C f:Addr} {ms:List (Str×Addr)} {as ps:List Str} {n q:Str} {s:Stmt} (h:Kg K mg nm C (("__init__",f):: ms) as) (x:il K n q s f ps):Mk K C f:=⟨h.mks,h.me.1,x.i,h.kp⟩
theorem Uo {K:PySem.W.Frag} {nm qn:Str} {st:Stmt} {f:Addr} {x:Str} (F:Q7 K nm qn st f (fdOf K f))
  (h:∀(kV doc pm:Value) (an:Option Addr) (cdv ct v:Value),bindArgs (PySem.W.fnOf nm qn (gO st) (fQ st) (bw st) .none kV doc pm an cdv ct) ⟨[v],[]⟩=pure [(x,v)]) (s:Shared) (v:Value):BindsTo s (fdOf K f) ⟨[v],[]⟩ [(x,v)]:=by
 obtain⟨oc,od,kV,doc,pm,an,cdv,ct,osl,e,lk,hcd⟩:=F.ex
 rw [e]
 exact .of_eq (h kV doc pm an cdv ct v)
theorem yX {K:PySem.W.Frag} {h:Heap} {C f:Addr} (X:K.In h) (_:PySem.W.findIn K (.ref C) "__init__" =some (some (.ref f))) (b:Oz K C f=true):ExcAt K C:=(gZ.ofIn b).at X
theorem Yq {α:Type} {P:List α->Prop} (h:P []):∀us:List α,us.length=0->P us
 | [],_=>h
theorem Hu {α:Type} {P:List α->Prop} (h:∀a,P [a]):∀us:List α,us.length=1->P us
 | [a],_=>h a
theorem GZ {α:Type} {P:List α->Prop} (h:∀a b,P [a,b]):∀us:List α,us.length=2->P us
 | [a,b],_=>h a b
theorem KD {α:Type} {P:List α->Prop} (h:∀a b c,P [a,b,c]):∀us:List α,us.length=3->P us
 | [a,b,c],_=>h a b c
theorem NT {α:Type} {P:List α->Prop} (h:∀a b c d,P [a,b,c,d]):∀us:List α,us.length=4->P us
 | [a,b,c,d],_=>h a b c d
theorem Wr {α:Type} {P:List α->Prop} (h:∀a b c d e,P [a,b,c,d,e]):∀us:List α,us.length=5->P us
 | [a,b,c,d,e],_=>h a b c d e
theorem Yc {α:Type} {P:List α->Prop} (h:∀a b c d e f,P [a,b,c,d,e,f]):∀us:List α,us.length=6->P us
 | [a,b,c,d,e,f],_=>h a b c d e f
theorem us_7 {α:Type} {P:List α->Prop} (h:∀a b c d e f g,P [a,b,c,d,e,f,g]):∀us:List α,us.length=7->P us
 | [a,b,c,d,e,f,g],_=>h a b c d e f g
theorem il.sc {K:PySem.W.Frag} {nm qn:Str} {s:Stmt} {f:Addr} {ps:List Str} (_:il K nm qn s f ps) (N:List Str) (h:fJ N ps (bw s):=by exact⟨rfl,rfl,rfl,by decide +kernel,rfl,by decide +kernel,by decide +kernel⟩):fJ N ps (bw s):=h
theorem jy.sc {K:PySem.W.Frag} {mg:Str->Option Value} {nm:Str} {s:Stmt} {f:Addr} {ps:List Str} (_:jy K mg nm s f ps) (N:List Str) (h:fJ N ps (bw s):=by exact⟨rfl,rfl,rfl,by decide +kernel,rfl,by decide +kernel,by decide +kernel⟩):fJ N ps (bw s):=h
noncomputable abbrev FO (P:Program) (w:World) (K:PySem.W.Frag) (mg:Str->Option Value) (base:Heap) (k:Nat) (f:Addr) (ps:List Str) (sp:Sp):Prop:=jd P w K mg base PK k f (fdOf K f) ps sp
theorem QJ {N ps:List Str} {sc:Scope} (h:fJ N ps sc:=by exact⟨rfl,rfl,rfl,by decide +kernel,rfl,by decide +kernel,by decide +kernel⟩):fJ N ps sc:=h
section
variable {X:Cx} {k k' i:Nat} {f C:Addr} {ps as:List Str} {ms:List (Str×Addr)} {sp:Sp} {x m nm qn n:Str} {p pos apos pos':Pos} {e o:Expr} {es:List Expr} {ta te:TE} {t:TA} {s:Stmt} {N:List Str}
theorem dF (F:jd X.prog X.w X.K X.mg X.base PK k f (fdOf X.K f) ps sp) (g:jy X.K X.mg x s f ps) (hr:ie k' X.A) (ha:PA X (e:: es) t) (hk:k<=k':=by decide) (hg:Gl X x:=by rfl)
  (hdb:(x == ("__debug__" :Str))=false:=by decide) (he:starEach (e:: es) X.env=(false,eval e X.env):: starEach es X.env:=by rfl) (hpl:(backTo pos (starEach es X.env)).any (·.1)=false:=by rfl):
  PE X (.Call (.Name x p) (e:: es) [] pos) (Jq sp [] E0 t):=iD F (hr.mono hk) hg g.m g.F.kp g.b .nil fG ha hdb he hpl
theorem pm0 {pl:Sem Bool} (he:PE X o ta) (c:Kg X.K X.mg n C ms as) (hm:PySem.W.findIn X.K (.ref C) m=some (some (.ref f))) (F:jd X.prog X.w X.K X.mg X.base PK k f (fdOf X.K f) ps sp) (g:il X.K nm qn s f ps) (hr:ie k' X.A)
  (hk:k<=k':=by decide) (ht:eval (.Call (.Attribute o m apos) [] [] pos) X.env=(do
   let ov <-eval o X.env
   standAt apos.atName
   let (f,first) <-holding [ov] (getMethod ov m pl)
   callWith pos f first (backTo pos (starEach [] X.env)) (backToKw pos (keywordEach [] X.env))):=by rfl):
  PE X (.Call (.Attribute o m apos) [] [] pos) (Tg C m sp [] E0 ta IV):=Nx he c.c (g.me hm) F (hr.mono hk) g.b .nil fG ht
theorem gN {sc:Scope} (S:fJ X.N ps sc) (i:Nat) (hi:X.N[i]?=some x:=by rfl) (hx:Loc X.env.scope x:=by first | exact Or.inl rfl | exact Or.inr rfl) (hf:X.fn x=true∨X.env.scope.names.lookup x=some .local:=by first | exact .inl rfl | exact .inr rfl | assumption):PG X (.Name x pos) (vg i):=dX S.nd hi hx hf
theorem sN {sc:Scope} (S:fJ X.N ps sc) (i:Nat) (he:PE X e te) (hi:X.N[i]?=some x:=by rfl) (hx:Loc X.env.scope x:=by first | exact Or.inl rfl | exact Or.inr rfl) (hs:swapsWith e (some (.Name x pos')) pos.line X.env=pure false:=by rfl) (hf:X.fn x=true∨X.env.scope.names.lookup x=some .local:=by first | exact .inl rfl | exact .inr rfl | assumption):
  PS X (.Assign [.Name x pos'] e pos) (MJ te (vg i)):=Hi S.nd hi hx he hs hf
theorem yU (h1:PE X o ta) (h2:PA X (e:: es) t) (hbase:attributeBase o "append" X.env (eval o X.env)=eval o X.env:=by rfl)
  (hfew:((backTo pos (starEach (e:: es) X.env)).all (λx=>!x.1) && (backToKw pos (keywordEach [] X.env)).all (λx=>x.1.isSome) && decide ((e:: es).length+([]:List Keyword).length+(if ([]:List Keyword).isEmpty then 0 else 1) <30))=true:=by rfl)
  (hline:(apos.endLine == pos.line)=true:=by rfl) (hs:starEach (e:: es) X.env=(false,eval e X.env):: starEach es X.env:=by rfl) (hplain:(backTo pos (starEach es X.env)).any (·.1)=false:=by rfl):
  PE X (.Call (.Attribute o "append" apos) (e:: es) [] pos) (YX X.K "list" Mp ta t):=pC PySem.F.plainAttrs_list PySem.F.slot_list_append PySem.F.type_list_append MF h1 h2 hbase hfew hline hs hplain
end
theorem ln {sp:Sp} {ps:List Str} (h:∀vs H Q E,sp vs H Q E->vs.length=ps.length:=by
 intro _ _ _ _ h
 first
 | (cases h;subst_vars;rfl)
 | (cases h;rename_i h;cases h;subst_vars;rfl)
 | (obtain⟨_,rfl,_⟩:=h;rfl)
 | (obtain⟨_,_,rfl,_⟩:=h;rfl)
 | (obtain⟨_,_,_,rfl,_⟩:=h;rfl)):∀vs H Q E,sp vs H Q E->vs.length=ps.length:=h
theorem YB {X:Cx} {sts:List Stmt} {t:TS} (h:Xy X sts t):Fg X sts t:=by unfold Xy at h;exact h
noncomputable def RC:Option Key->Value->Bool
 | some k,v=>zO k v
 | none,.none=>true
 | none,_=>false
theorem jc {v:Value} (h:RC none v=true):v=.none:=by
 cases v <;> first | rfl | cases h
theorem CG {k:Key} (h:zO k .none=true):False:=by
 rcases cT h with ⟨i,t,_,e⟩ | ⟨x,t,_,e⟩ <;> cases e
theorem Wa {A:Around} {s:Shared}:SeqAt.EqAt A s .none .none true:=λprog w E Q h=>by
 unfold eqBool
 refine wpAny_holding ?_
 refine wpAny_ite_split (λ_=>wpAny_bind (wpAny_rule (wpAny_pure h))) (λz=>absurd rfl z)
noncomputable def Lr (prog:Program) (w:World):PySem.KeyKind prog w (Option Key) where
 is:=RC
 hash:=λk=>match k with
  | some k=>Wj w k
  | none=>reduceHash 0xFCA86420
 inj:=λv a b ha hb=>by
  cases a with
  | none=>
   have:=jc ha
   subst this
   cases b with
   | none=>rfl
   | some b=>exact(CG hb).elim
  | some a=>
   cases b with
   | none=>
    have:=jc hb
    subst this
    exact(CG ha).elim
   | some b=>rw [(bL prog w).inj v a b ha hb]
 byValue:=λk v h=>by
  cases k with
  | none=>rw [jc h];rfl
  | some k=>exact(bL prog w).byValue k v h
 pyHash:=λ{A E s k v Q} hv h=>by
  cases k with
  | none=>
   rw [jc hv]
   exact PySem.W.pyHash_slot (T:= "NoneType") rfl F.slot_NoneType_hash F.entry_NoneType_hash (F.args_NoneType_hash_1 _) (beq_builtin_none _) (.inl rfl) (wpAny_bind (wpAny_pure (wpAny_bind (wpAny_mkInt (wpAny_pure ⟨_,_,rfl,h⟩)))))
  | some k=>exact(bL prog w).pyHash hv h
 eqBool:=λ{A E s a b u v Q} hu hv h=>by
  cases a with
  | none=>
   rw [jc hu]
   cases b with
   | none=>rw [jc hv];exact Wa _ _ _ _ h
   | some b=>
    rcases cT hv with ⟨j,x,rfl,rfl⟩ | ⟨y,x,rfl,rfl⟩
    ·exact SeqAt.EqAt.none_int j x _ _ _ _ h
    ·exact SeqAt.EqAt.none_str y x _ _ _ _ h
  | some a=>
   cases b with
   | none=>
    rw [jc hv]
    rcases cT hu with ⟨j,x,rfl,rfl⟩ | ⟨y,x,rfl,rfl⟩
    ·exact SeqAt.EqAt.int_none j x _ _ _ _ h
    ·exact SeqAt.EqAt.str_none y x _ _ _ _ h
   | some b=>exact(bL prog w).eqBool (a:=a) (b:=b) hu hv (by simpa using h)
 «strs» :=λk x t v h=>by
  cases k with
  | none=>cases h
  | some k=>exact(bL prog w).strs k x t v h
theorem R4 {P:Program} {w:World} {h:Heap} {a:Addr} {kvs:List (Key×Value)} (hd:h.DictOf (bL P w) a kvs):∃f,h.MapOf (Lr P w) a f/\f none=none:=by
 obtain⟨o,es,ep,ho,hc,hdat,hk,hp,_⟩:=hd
 refine⟨findBy RC es,⟨o,es,ep,ho,hc,hdat,λe he=>?_,λk=>rfl⟩,?_⟩
 ·obtain⟨k,h1,h2⟩:=hk e he
  exact⟨some k,h1,h2⟩
 ·unfold findBy
  cases hf:es.find? λe=>RC none e.key with
  | none=>rfl
  | some e=>
   have h1:=Array.find?_some hf
   have h2:=Array.mem_of_find?_eq_some hf
   obtain⟨k,h3,_⟩:=hk e h2
   rw [jc h1] at h3
   exact(CG h3).elim
end L2
namespace PySem
open PyProof.Rows
section
variable {prog:Program} {w:World} {A:Around} {R:Result->Shared->Prop} {I:Addr} {fp wr:List Addr} {G:Array GenState->Array GenState->Prop} {n:Nat} {P:Nat->Value->Prop} {St:Nat->Shared->Prop} {KK:Type} [DecidableEq KK] {knd:KeyKind prog w KK}
end
section
variable {prog:Program} {w:World} {A:Around} {E:Value->Shared->Prop} {s:Shared} {KK:Type} [DecidableEq KK] {knd:KeyKind prog w KK}
end
end PySem
namespace L2
open PySem PySem.Spec PyProof.Rows
section
variable {prog:Program} {w:World} {A:Around}
end
section
open AutoSeq1 (wpAny_loadPart')
open MeetsSeq MeetsSeq2 MeetsSeq3
variable {prog:Program} {w:World}
end
noncomputable def Vf (C:Addr) (sp:Sp) (R:St->XK) (t:TA):TE:=λσ H Q=>t σ H λvs H1=>∀x dx,H1 x=none->H1 dx=none->dx≠x->
 sp (.ref x:: vs) (upd (upd H1 dx (.own x)) x (.ins C dx [])) (λv H2=>v=.non/\Q (.ref x) H2) (R σ)
theorem QZ {X:Cx} {CX:DX} {k:Nat} {f C:Addr} {fd:FuncData} {ps:List Str} {sp:Sp} {R:St->XK} {x:Str} {p pos:Pos} {e:Expr} {es:List Expr} {t:TA}
  (M:Mk X.K C f) (F:jd X.prog X.w X.K X.mg X.base CX k f fd ps sp) (hr:ie (k+1) X.A) (hg:Gl X x) (hm:X.mg x=some (.ref C)) (hb:Binds X.K fd ps [])
  (hx:∀pins σ H s e s',Inv X pins σ H s->CX X.stack H s (R σ) e s'->X.xe e s')
  (ha:PA X (e:: es) t) (hdb:(x == ("__debug__" :Str))=false:=by decide) (he:starEach (e:: es) X.env=(false,eval e X.env):: starEach es X.env:=by rfl) (hpl:(backTo pos (starEach es X.env)).any (·.1)=false:=by rfl):
  PE X (.Call (.Name x p) (e:: es) [] pos) (Vf C sp R t):=by
 intro pins s σ H Q I h
 refine wpAny_Call_Name_kw (mL I hg hm ?_ hdb)
 refine PySem.W.callWith_K (h₀:=X.base) I.ok.mod.kin M.kp (dC (ha pos pins s σ H _ I h) λus s1 ⟨vs,H1,I1,r,q⟩=>⟨I1.kIn,?_⟩) he hpl
 have hq:=q (s1.heap.objs.size+1) s1.heap.objs.size (I1.hok.fresh (Nat.le_succ _)) (I1.hok.fresh (Nat.le_refl _)) (Nat.ne_of_lt (Nat.lt_succ_self _))
 have I2:=Inv.made (C:=C) I1
 have r2:Vals (V.ref (s1.heap.objs.size+1):: vs) (Value.ref (s1.heap.objs.size+1):: us):=.cons rfl r
 have hl:(Value.ref (s1.heap.objs.size+1):: us ++ []).length=ps.length:=by
  have e:=r2.length
  rw [F.len _ _ _ _ hq] at e
  rw [List.append_nil]
  exact e.symm
 have hb':=hb _ (Value.ref (s1.heap.objs.size+1):: us) I2.kIn hl
 rw [List.append_nil] at hb'
 refine wpAny_call (Js (f:=f) I1.kIn M.makes M.init (beq_iff_eq.mp M.fn) (codeAny_mono (F.run _ X.stack _ _ ⟨Value.ref (s1.heap.objs.size+1):: us,[]⟩ (Value.ref (s1.heap.objs.size+1):: us) _ _ (R σ) (hr.make C us [])
  (I2.env0.make C us []) hb' r2 hq) λr s' hq'=>?_))
 cases r with
 | error e=>exact hx pins σ _ _ e s' I2 hq'
 | ok fl=>
  cases fl with
  | ret u=>
   obtain⟨v,H',I3,rv,ev,q3⟩:=I2.after hq'
   subst ev
   exact⟨rv,⟨V.ref (s1.heap.objs.size+1),H',I3,rfl,q3⟩⟩
  | next=>exact False.elim hq'
  | brk=>exact False.elim hq'
  | cont=>exact False.elim hq'
end L2
namespace PySem
open PyProof.Rows
section
variable {prog:Program} {w:World} {A:Around} {R:Result->Shared->Prop} {I:Addr} {fp wr:List Addr} {G:Array GenState->Array GenState->Prop} {n:Nat} {P:Nat->Value->Prop} {St:Nat->Shared->Prop} {KK:Type} [DecidableEq KK] {knd:KeyKind prog w KK}
end
section
variable {prog:Program} {w:World} {A:Around} {E:Value->Shared->Prop} {s:Shared} {KK:Type} [DecidableEq KK] {knd:KeyKind prog w KK}
end
end PySem
namespace L2
open PySem PySem.Spec PyProof.Rows
noncomputable def kO:Option Key->V
 | none=>.non
 | some k=>kV k
noncomputable def Rf:V->List V->Hp->VK->Prop:=λx vs H Q=>∃l xs y,∃i:Nat,∃k:Int,x=.ref l/\vs=[.int k,y]/\k=(i:Int)/\i<=xs.length/\H l=some (.lst xs)/\xs.length <sizeLine/\Q .non (upd H l (.lst (xs.take i ++ y:: xs.drop i)))
theorem Qv {i:Nat} (h:i<=16777216):Builtin.List.listFitsIndex (i:Int)=true:=by
 unfold Builtin.List.listFitsIndex
 rw [decide_eq_true (show -(2 ^ 63:Int)<=(i:Int) by lia),decide_eq_true (show(i:Int) <2 ^ 63 by lia)]
 rfl
theorem ym {X:Cx}:U3 X "list.insert" Rf:=by
 intro pins s σ H x vs v us Q I rx rv h
 obtain⟨l,xs,y,i,k,rfl,rfl,hk,hi,hH,hz,q⟩:=h
 cases rx
 obtain⟨u1,u2,rfl,r1,r2⟩:=vals2 rv
 obtain⟨tk,rfl⟩:=r1
 obtain⟨z,its,n,r,hl,e⟩:=I.lstM hH
 have hs:=sizeLine_eq
 have len:=r.length
 have fits:Builtin.List.listFitsIndex k=true:=by rw [hk];exact Qv (by lia)
 have m:=PySem.AutoSeq1.list_insert_list_int_val_1 l its.toArray n k tk u2 (by rw [fits];decide) (by rw [List.size_toArray];lia)
 refine call_meets F.slot_list_insert ⟨_,e,rfl⟩ F.entry_list_insert (F.args_list_insert_3 _ _ _) m ⟨e,?_⟩
 refine⟨.non,_,I.lset (its':=its.take i ++ u2:: its.drop i) hH e ?_ ((r.take i).append (.cons r2 (r.drop i))) ?_,rfl,q⟩
 ·have hk2:(if k <0 then(k+(its.toArray.size:Int)).toNat else min k.toNat its.toArray.size)=i:=by
   rw [if_neg (by lia),List.size_toArray]
   lia
  show(its.toArray.extract 0 (if k <0 then(k+(its.toArray.size:Int)).toNat else min k.toNat its.toArray.size)).push u2 ++ its.toArray.extract (if k <0 then(k+(its.toArray.size:Int)).toNat else min k.toNat its.toArray.size)=_
  rw [hk2]
  simp
  exact List.take_of_length_le (by rw [List.length_drop];exact Nat.le_refl _)
 ·rw [List.length_append,List.length_cons,List.length_take,List.length_drop]
  lia
inductive yq (Q:VK) (x y:V) (H2:Hp):Prop where
 | key:∀a o,x=.ref a->iR H2 a y o->Q (.bl (!o.isSome)) H2->yq Q x y H2
 | non:∀a kvs,x=.ref a->y=.non->Rd H2 a (.dK kvs)->Q (.bl true) H2->yq Q x y H2
noncomputable def O4 (ty td:TE):TE:=λσ H Q=>ty σ H λy H1=>td σ H1 λx H2=>yq Q x y H2
theorem Cr {X:Cx} {o i:Expr} {td ty:TE} (hu:X.A.units+1 <cLine) (hi:PE X i ty) (ho:PE X o td):PC X .NotIn i o (O4 ty td):=by
 intro pins s σ H Q I h
 refine dC (hi pins s σ H _ I h) λiv s1 ⟨y,H1,I1,ry,q1⟩=>dC (ho pins s1 σ H1 _ I1 q1) λu s2 hpt=>?_
 obtain⟨x,H2,I2,rx,q2⟩:=hpt
 rcases q2 with ⟨a,ov,ex,g,q2⟩ | ⟨a,kvs,ex,ey,hr,q2⟩
 ·subst ex
  obtain rfl:u=Value.ref a:=rx
  exact LR hu I2 g ry λs3 I3=>⟨.bl (!ov.isSome),H2,I3,rfl,q2⟩
 ·subst ex ey
  obtain rfl:u=Value.ref a:=rx
  obtain rfl:iv=Value.none:=ry
  obtain⟨z,hd,vs,rel,dd⟩:=Cd I2.hok hr
  obtain⟨f,hm,hf⟩:=R4 dd
  refine wpAny_notIn_of (knd:=Lr X.prog X.w) (k:=none) rfl hd hm ?_
  rw [hf]
  exact⟨.bl true,H2,I2.tok _,rfl,q2⟩
section
variable {X:Cx} {a b:Expr} {rest:List Expr} {pos:Pos} {ta tb:TE}
noncomputable def Ye (K:PySem.W.Frag) (ta tb:TE):TE:=λσ H Q=>ta σ H λx H1=>∃k,VB K x H1 k/\if k=true then Q x H1 else tb σ H1 Q
theorem Vg (ha:PE X a ta) (hb:PE X (.BoolOp .Or (b:: rest) pos) tb):PE X (.BoolOp .Or (a:: b:: rest) pos) (Ye X.K ta tb):=by
 intro pins s σ H Q I h
 refine BoolOp_or (dC (ha pins s σ H _ I h) λv s1 hpt=>?_)
 obtain⟨x,H1,I1,r1,q1⟩:=hpt
 obtain⟨k,ht,q1⟩:=q1
 refine dC (Uw pins s1 σ H1 x v (λc H2=>if c=true then Q x H2 else tb σ H2 Q) I1 r1 ⟨k,ht,q1⟩) λc s2 hpt=>?_
 obtain⟨H2,I2,q2⟩:=hpt
 cases c with
 | false=>exact hb pins s2 σ H2 Q I2 q2
 | true=>exact⟨x,H2,I2,r1,q2⟩
end
theorem Rr {X:Cx} {K:PySem.W.Frag} (hK:X.K=K):W3 X (Wl K):=hK ▸ Vl
noncomputable def QW (d:Addr) (o:Obj) (kvs:List (Key×V)):It:=
 ⟨λi H=>H d=some (.frz o (.dK kvs))/\i <kvs.length,λi H x H'=>H'=H/\∃k,kvs[i]?=some (k,x),λi H=>H d=some (.frz o (.dK kvs))/\kvs.length<=i⟩
theorem K3:∀{kvs:List (Key×V)} {vs:List (Key×Value)} {i:Nat} {k:Key} {v:V},KV kvs vs->kvs[i]?=some (k,v)->∃v',vs[i]?=some (k,v')/\RelV v v'
 | _,_,0,k,v,.cons h _,e=>by
  cases (Option.some.inj e)
  exact⟨_,by rw [List.getElem?_cons_zero,show k=_ from h.1],h.2⟩
 | _,_,i+1,k,v,.cons _ t,e=>by
  obtain⟨v',z,r⟩:=K3 (i:=i) (k:=k) (v:=v) t (by simpa using e)
  exact⟨v',by simpa using z,r⟩
theorem M9 {P:Program} {w:World} {K:PySem.W.Frag} {tg:Expr} {d it:Addr} {o:Obj} {kvs:List (Key×V)} {vs:List (Key×Value)} {ep:Nat} (rel:KV kvs vs) (hD:∀h:Heap,h.get? d=some o->h.DictAt (bL P w) d vs ep):
  Turn P w K tg (QW d o kvs) [it] it (λi h=>h.IsValIter it d i vs.length ep) where
 mem:=by simp
 obj:=λi h st b hb=>by
  have e:b=it:=by simpa using hb
  subst e
  obtain⟨o,e,c,d⟩:=st
  exact⟨o,e,λv z=>by rw [d] at z;cases z⟩
 keep:=λi h h' st k=>let ⟨o,ho,r⟩:=st;⟨o,k it (by simp) o ho,r⟩
 item:=by
  intro X hP hw hK hc i pins s σ H E I hf st hg
  subst hP hw hK
  obtain⟨hq,hi⟩:=hg
  obtain⟨f0,f1,f2,f3,f4,f5⟩:=hf it (by simp)
  have ho:s.heap.get? d=some o:=(I.hok d _ hq).1
  obtain⟨k,v,ek⟩:∃k v,kvs[i]?=some (k,v):=⟨_,_,List.getElem?_eq_getElem hi⟩
  obtain⟨v',ev,rv⟩:=K3 rel ek
  refine wpAny_pyNext_values_item (knd:=bL X.prog X.w) st (hD _ ho) ev λh' st' sb=>?_
  have I1:Inv X pins σ H { s with heap:=h' }:=I.turned (t':=s.toks) (λb o hb e=>(sb.2 b hb).trans e) f0 f1 f3 f4 f5
  obtain⟨o',e,c,dd⟩:=id st'
  exact⟨v',rfl,FT (s:={ s with heap:=h' }) e c dd (by decide) ⟨v,H,I1,rv,⟨rfl,k,ek⟩,st',λb hb=>(hf b hb).1⟩⟩
 done:=by
  intro X hP hw hK hc i pins s σ H E I hf st hg
  subst hP hw hK
  obtain⟨hq,hi⟩:=hg
  obtain⟨f0,f1,f2,f3,f4,f5⟩:=hf it (by simp)
  have ho:s.heap.get? d=some o:=(I.hok d _ hq).1
  have hl:kvs.length=vs.length:=Paired.length rel
  exact wpAny_pyNext_values_end (knd:=bL X.prog X.w) (I.ok.hd hc) st (hD _ ho) (List.getElem?_eq_none (by lia)) λh' eb=>⟨rfl,I.turned (t':=s.toks) (λb o hb e=>eb b o hb e) f0 f1 f3 f4 f5⟩
 self:=λ_ _ _ _ _ st h=>wpAny_pyIter_valiter st h
noncomputable def Wc (td:TE):TI:=λσ H R=>td σ H λx H1=>∃d kvs,x=.ref d/\H1 d=some (.dK kvs)/\∀o,R (QW d o kvs) (upd H1 d (.frz o (.dK kvs)))
theorem Rk {X:Cx} {tg l:Expr} {td:TE} {apos cpos:Pos} (hl:PE X l td) (hbase:attributeBase l "values" X.env (eval l X.env)=eval l X.env:=by rfl) (hline:(apos.endLine == cpos.line)=true:=by rfl):PI X tg (.Call (.Attribute l "values" apos) [] [] cpos) (Wc td):=by
 intro pins s σ H R I h
 refine wpAny_Call_method0_late hbase hline (dC (hl pins s σ H _ I h) λv s1 hpt=>?_)
 obtain⟨x,H1,I1,r1,q1⟩:=hpt
 obtain⟨d,kvs,e,ed,q⟩:=q1
 subst e
 cases r1
 obtain⟨_,hd,vs,rel,o0,es,ep,ho0,r⟩:=(show cV X.prog X.w H1 s1.heap d (.dK kvs) from I1.hok d _ ed)
 obtain⟨o,ho,I2⟩:=I1.chill ed
 obtain rfl:o0=o:=Option.some.inj (ho0.symm.trans ho)
 have hD:∀h:Heap,h.get? d=some o0->h.DictAt (bL X.prog X.w) d vs ep:=λh z=>⟨o0,es,z,r⟩
 refine⟨"dict", "dict.values",PySem.F.plainAttrs_dict,PySem.F.slot_dict_values,PySem.F.type_dict_values,⟨o0,ho,r.1.1⟩,λb q=>?_,Calls.callWith_builtin rfl (PySem.evalArgs_none ?_)⟩
 ·cases q
  exact⟨o0,ho,r.1.2.1⟩
 refine call_meetsIn PySem.F.slot_dict_values ⟨o0,ho,r.1.1⟩ PySem.F.entry_dict_values (PySem.F.args_dict_values_1 _) (meets_dict_values (bL X.prog X.w) d hd) ⟨⟨vs,⟨_,_,_,ho,r⟩⟩,?_⟩
 refine wpAny_pyIter_values (knd:=bL X.prog X.w) (d:=d) (kvs:=vs) (ep:=ep) ⟨_,Heap.get?_push_size _ rfl,rfl,rfl⟩ (hD _ (Heap.get?_push_of_some _ ho)) ?_
 have I3:=(I2.kept (t':=s1.toks) λb o e=>Heap.get?_push_of_some { cls:=.type "dict_values",data:=.fields #[.ref d] } e)
 refine⟨_,[_],_,_,_,rfl,I3.kept (t':=s1.toks) λb o e=>Heap.get?_push_of_some _ e,M9 rel hD,⟨_,Heap.get?_push_size _ rfl,rfl,rfl⟩,λb hb=>?_,q o0⟩
 have e:=List.mem_singleton.mp hb
 subst e
 exact I3.fpOk (Nat.le_refl _) (I3.hok.fresh (Nat.le_refl _))
theorem Qu {d:Addr} {o:Obj} {kvs:List (Key×V)} {g:TG} {tb:TS} {D:Ends} {σ:St} {H:Hp} (Pv:Nat->St->Hp->Prop) (h0:Pv 0 σ H) (hl:∀i σ H,i<=kvs.length->Pv i σ H->H d=some (.frz o (.dK kvs)))
  (hs:∀i k v σ H,kvs[i]?=some (k,v)->Pv i σ H->g v σ H λσ2 H2=>tb { D with nx:=Pv (i+1),ct:=Pv (i+1),bk:=D.nx } σ2 H2) (hd:∀σ H,Pv kvs.length σ H->D.nx σ H):
  ∃W:Nat->Nat->St->Hp->Prop,(∃m,W 0 m σ H)/\∀i m σ H,W i m σ H->
   ((QW d o kvs).stop i H/\D.nx σ H)∨((QW d o kvs).go i H/\∃N:St->Hp->Prop,(∀σ' H',N σ' H'->∃m',m' <m/\W (i+1) m' σ' H')/\∀x H',(QW d o kvs).yld i H x H'->g x σ H' λσ2 H2=>tb { D with nx:=N,ct:=N,bk:=D.nx } σ2 H2):=by
 refine⟨λi m σ H=>m=kvs.length - i/\i<=kvs.length/\Pv i σ H,⟨kvs.length,by simp,Nat.zero_le _,h0⟩,?_⟩
 rintro i m σ H ⟨rfl,hi,p⟩
 have q:=hl i σ H hi p
 by_cases hlt:i <kvs.length
 ·refine .inr ⟨⟨q,hlt⟩,Pv (i+1),λσ' H' p'=>⟨kvs.length - (i+1),by lia,rfl,hlt,p'⟩,λx H' y=>?_⟩
  obtain⟨rfl,k,ek⟩:=y
  exact hs i k x σ _ ek p
 ·obtain rfl:i=kvs.length:=by lia
  exact .inl ⟨⟨q,Nat.le_refl _⟩,hd σ H p⟩
noncomputable def U8 (H0:Hp) (t:TS):TS:=λD σ H=>t { D with nx:=λσ' H'=>∃H'',RX H0 H' H''/\D.nx σ' H'' } σ H
theorem Pk {X:Cx} {H0:Hp} {st:Stmt} {t:TS} (hH:X.H₀=H0) (h:PS X st t):PS X st (U8 H0 t):=o9 hH h
theorem Q0 {X:Cx} {es:List Expr} {vs:List V} (h:es.map oH=vs.map some):ZA X es (X5 vs):=by unfold ZA;exact yp h
noncomputable def thN (K:PySem.W.Frag) (C:Addr) (ts:TS) (tr:TH):TH:=λD cls d σ H=>
 (cls=.ref C/\ts D σ H)∨(∃C1,cls=.ref C1/\PySem.W.subIn K (.ref C1) (.ref C)=some false/\tr D cls d σ H)
theorem YG {X:Cx} {K:PySem.W.Frag} {x:Str} {C:Addr} {b₀:Stmt} {suite:List Stmt} {np hpos:Pos} {rest:List ExceptHandler} {ts:TS} {tr:TH} (hK:X.K=K)
  (hg:Gl X x) (hm:X.mg x=some (.ref C)) (cl:ExcAt K C)
  (hs:∀y,Fg (X.marked y) (b₀:: suite) ts) (hr:PH X rest tr) (hdb:(x == ("__debug__" :Str))=false:=by decide):
  PH X (.ExceptHandler (some (.Name x np)) none (b₀:: suite) hpos:: rest) (thN K C ts tr):=by
 subst hK
 intro pins σ H' y cls s B a0 d D L da h
 obtain⟨nm,q,Nn,bs,bm,hdct,sn,sub,ab,col,dd,k0,k1,k2,k3,k5,newId,hbase,hC⟩:=cl.ex
 obtain⟨ob,hob,hobc⟩:=L.fly.there
 have IL:=L.inv
 have hd:=IL.ok.hd
 refine wpAny_handleBy_cons (codeAny_handlers_test (Calls.Name_function_global IL.ok.kind hg (Calls.loadGlobal_global (by rw [IL.ok.glob];exact IL.mod.glob.keeps IL.bk) hm ?_) hdb)) (by intro q;cases q)
 rcases h with ⟨rfl,hsu⟩ | ⟨C1,rfl,hsub,hrest⟩
 ·refine wpAny_excMatches_sub_self (hC s.heap IL.kIn) hob hobc hbase ?_
  refine codeAny_handlers_suite (e:=.ref y) ?_
  have g1:=jK iC (lands_againW (M:=model X.prog X.w) (A:=X.A.mark (some (.ref y))) (E:=λ_ _=>False) (Q:=λ_ s6=>∃h',s6={ s with heap:=h' }/\Heap.FlyingW B X.stack y (.ref C) a0 h'/\s.heap.UpToSlots h') L.fly λh' f up=>⟨h',rfl,f,up⟩)
  refine wpAny_mono g1 (λ_ s6 q6=>?_) λ_ _ z=>False.elim z
  obtain⟨⟨h6,rfl,fl6,up6⟩,dk6⟩:=q6
  have I6:=L.more h6 fl6 up6
  refine wpAny_mono (hs y pins _ _ _ _ I6.marked hsu) (λf s8 q8=>?_) λ_ _ z=>False.elim z
  cases f with
  | next=>
   obtain⟨σ8,H8,I8,q8⟩:=q8
   exact⟨_,_,I8.unmarked hd,q8⟩
  | brk=>
   obtain⟨σ8,H8,I8,q8⟩:=q8
   exact⟨_,_,I8.unmarked hd,q8⟩
  | cont=>
   obtain⟨σ8,H8,I8,q8⟩:=q8
   exact⟨_,_,I8.unmarked hd,q8⟩
  | ret u=>
   obtain⟨v,σ8,H8,I8,rv,q8⟩:=q8
   exact⟨v,_,_,I8.unmarked hd,rv,q8⟩
 ·obtain⟨hp,g,dr,tk,os⟩:=s
  refine HS (hC _ IL.kIn) hob hobc hbase (λq=>(PySem.W.looks_subIn IL.kIn hsub).at q) ?_
  exact hr pins σ H' y _ _ B a0 d D L da hrest
end L2
namespace One
open PySem PySem.W PySem.Calls PyProof.Rows
def Ei:Nat->BT->List Obj->BT
 | _,t,[]=>t
 | n,t,o:: r=>Ei (n+1) (t.ins n o) r
def Ha:Nat->BT->List Obj->Bool
 | _,_,[]=>true
 | n,t,o:: r=>((t.ins n o).get n).isSome && Ha (n+1) (t.ins n o) r
theorem Fl {life:Life}:∀(l:List Obj) (n:Nat) (t:BT) (as:List Obj),absHeap t n life=⟨as.toArray,life⟩->Ha n t l=true->absHeap (Ei n t l) (n+l.length) life=⟨(as ++ l).toArray,life⟩
 | [],n,t,as,h,_=>by simpa [Ei] using h
 | o:: r,n,t,as,h,k=>by
  simp only [Ha,Bool.and_eq_true] at k
  have e:=absHeap_ins (life:=life) k.1
  rw [h] at e
  have:=Fl r (n+1) (t.ins n o) (as ++ [o]) (by rw [e];simp [Heap.push]) k.2
  rw [List.append_assoc] at this
  rw [List.length_cons,show n+(r.length+1)=n+1+r.length by omega]
  exact this
def WT (tb:String->Option Builtin) (p:Program) (w:World) (m:Nat) (an:Option Value):Nat->SharedT->Thread->Option (SharedT×Thread)
 | 0,s,t=>some (s,t)
 | n+1,s,t=>match through t with
  | true=>some (s,t)
  | false=>match stepOk m an t with
   | false=>none
   | true=>match stepT (denote tb) p w s t with
    | some (s',t')=>WT tb p w m an n s' t'
    | none=>none
theorem Qm {tb:String->Option Builtin} {p:Program} {w:World} {m:Nat} {an:Option Value}:∀{n:Nat} {s s':SharedT} {t t':Thread},WT tb p w m an n s t=some (s',t')->through t'=true->topRun tb p w m an (n+1) s.abs t=some s'.abs
 | 0,s,s',t,t',h,z=>by
  obtain⟨rfl,rfl⟩:=Prod.mk.inj (Option.some.inj h)
  unfold topRun
  rw [z]
 | n+1,s,s',t,t',h,z=>by
  unfold WT at h
  unfold topRun
  cases e1:through t with
  | true=>
   rw [e1] at h
   obtain⟨rfl,rfl⟩:=Prod.mk.inj (Option.some.inj h)
   rfl
  | false=>
   rw [e1] at h
   cases e2:stepOk m an t with
   | false=>rw [e2] at h;cases h
   | true=>
    rw [e2] at h
    cases e3:stepT (denote tb) p w s t with
    | none=>rw [e3] at h;cases h
    | some r=>
     obtain⟨s2,t2⟩:=r
     rw [e3] at h
     rw [stepT_spec e3]
     exact Qm h z
def ends (r:SharedT×Thread):Option SharedT:=match through r.2 with
 | true=>some r.1
 | false=>none
theorem Sd {tb:String->Option Builtin} {p:Program} {w:World} {m:Nat} {an:Option Value} {n:Nat} {s s':SharedT} {t:Thread} (h:(WT tb p w m an n s t).bind ends=some s'):topRun tb p w m an (n+1) s.abs t=some s'.abs:=by
 obtain⟨⟨s2,t2⟩,e1,e2⟩:=Option.bind_eq_some_iff.mp h
 unfold ends at e2
 cases z:through t2 with
 | false=>simp only [z] at e2;cases e2
 | true=>
  simp only [z] at e2
  cases e2
  exact Qm e1 z
noncomputable def Wx (P:Params):Option Value:=(boot_heap P).nsMap mainGlobals "__annotations__"
noncomputable def S0 (w:World) (os:OsState):SharedT:=⟨Ei 0 .nil (boot_heap w.params).objs.toList,11,{},Array.mk [],boot_drawn,boot_toks,os⟩
theorem Ve (w:World) (os:OsState):(S0 w os).abs=⟨boot_heap w.params,Array.mk [],boot_drawn,boot_toks,os⟩:=by
 have e:=Fl (life:={}) (boot_heap w.params).objs.toList 0 .nil [] rfl (by rfl)
 have e2:absHeap (Ei 0 .nil (boot_heap w.params).objs.toList) 11 {}=boot_heap w.params:=e
 show(⟨absHeap (Ei 0 .nil (boot_heap w.params).objs.toList) 11 {},_,_,_,_⟩:Shared)=_
 rw [e2]
 rfl
noncomputable def Vd (p:Program) (M:Nat) (w:World) (os:OsState):Option SharedT:=(WT treeTable p w 11 (Wx w.params) M (S0 w os) (topStub p)).bind ends
noncomputable def NK (p q:Program) (loose:List Str) (Xt:Shared->Bool) (M:Nat) (w:World) (os:OsState):=
 (Vd p M w os).map λs=>(staticsOk (importedModules p.main.body) (boot_heap w.params) s.abs.heap && namesBound p s.abs.heap && gensDone s.abs && laidKept (boot_heap w.params) s.abs.heap,openSeen q loose (importedModules p.main.body) Xt true s.abs)
theorem Sq {p q:Program} {loose:List Str} {Xt:Shared->Bool} {α:Type} {Yf:Shared->α} {Ya:World->α} {N M:Nat} (e:opening p=plainProg p.main.scope.names) (hN:Nat.ble 600 N=true) (f:∀s,fenceModules? p s=some s) (le:Nat.ble (M+1) N=true)
  (A:∀w os,NK p q loose Xt M w os=some (true,openGood q loose)) (B:∀w os,(Vd p M w os).map (λs=>Yf s.abs)=some (Ya w)):LeftO p q loose Xt Yf Ya N:=λw=>by
 obtain⟨⟨h,gs,d,k,os⟩,e1,e2⟩:=Option.map_eq_some_iff.mp (boot_open e hN f w)
 obtain⟨rfl,rfl,rfl,rfl⟩:h=boot_heap w.params/\gs=Array.mk []/\d=boot_drawn/\k=boot_toks:=by simpa using e2
 obtain⟨s1,r1,l1⟩:=Option.map_eq_some_iff.mp (A w os)
 obtain⟨s2,r2,l2⟩:=Option.map_eq_some_iff.mp (B w os)
 rw [r1] at r2
 cases r2
 obtain⟨l3,l4⟩:=Prod.mk.inj l1
 have r3:=Sd r1
 rw [Ve] at r3
 have r4:=topRun_mono (N - (M+1)) _ _ _ _ r3
 rw [show M+1+(N - (M+1))=N by have:=Nat.le_of_ble_eq_true le;omega] at r4
 have t:topFrom treeTable p w N ⟨boot_heap w.params,Array.mk [],boot_drawn,boot_toks,os⟩=some s1.abs:=by
  unfold topFrom
  have z1:((boot_heap w.params).isNs mainGlobals && (Array.mk []:Array GenState).size == 0)=true:=by kernel_rfl
  dsimp only
  rw [z1]
  show((topRun treeTable p w 11 (Wx w.params) N _ _).bind _)=_
  rw [r4]
  show(match staticsOk (importedModules p.main.body) (boot_heap w.params) s1.abs.heap && namesBound p s1.abs.heap && gensDone s1.abs && laidKept (boot_heap w.params) s1.abs.heap with | true=>_ | false=>_)=_
  rw [l3]
 unfold openEnds
 rw [e1]
 show(topFrom treeTable p w N _).map _=_
 rw [t]
 exact congrArg some (Prod.ext l4 l2)
def wN (s:SharedT) (a:Addr):Option Obj:=match Nat.blt a s.n with
 | true=>(match s.tree.get a with | some o=>alive o | none=>none)
 | false=>none
theorem QQ {s:SharedT} {a:Addr} {o:Obj} (h:wN s a=some o):s.abs.heap.get? a=some o:=by
 unfold wN at h
 cases e:Nat.blt a s.n with
 | false=>rw [e] at h;cases h
 | true=>
  rw [e] at h
  cases g:s.tree.get a with
  | none=>rw [g] at h;cases h
  | some x=>
   rw [g] at h
   exact(abs_get (Nat.le_of_ble_eq_true e) g).trans h
theorem Lg {s:SharedT}:∀{as:List Addr} {l:List (Addr×Obj)},as.map (wN s)=l.map (λp=>some p.2)->as.map s.abs.heap.get?=l.map λp=>some p.2
 | [],[],_=>rfl
 | [],_:: _,h=>by cases h
 | _:: _,[],h=>by cases h
 | a:: as,x:: l,h=>by
  have h1:=List.cons.inj h
  show s.abs.heap.get? a:: as.map _=_
  rw [QQ h1.1,Lg h1.2]
  rfl
theorem chunk {o:Option SharedT} {as:List Addr} {l:List (Addr×Obj)} (n:Nat) (h1:o.map (λs=>(as.take n).map (wN s))=some ((l.take n).map λp=>some p.2)) (h2:o.map (λs=>(as.drop n).map (wN s))=some ((l.drop n).map λp=>some p.2)):
  o.map (λs=>as.map (wN s))=some (l.map λp=>some p.2):=by
 obtain⟨s,e1,e2⟩:=Option.map_eq_some_iff.mp h1
 subst e1
 have e3:=Option.some.inj h2
 show some (as.map (wN s))=_
 rw [<-List.take_append_drop n as,<-List.take_append_drop n l,List.map_append,List.map_append]
 exact congrArg some (congr (congrArg _ e2) e3)
theorem Rh {o:Option SharedT} {w:World} {K:Params->Frag} {as:List Addr} {e:∀P,as=(K P).map (·.1)} (h:o.map (λs=>as.map (wN s))=some ((K w.params).map λp=>some p.2)):
  o.map (λs=>Hook.obs (kHook K as e) s.abs)=some (Hook.val (kHook K as e) w):=by
 obtain⟨s,h1,h2⟩:=Option.map_eq_some_iff.mp h
 rw [h1]
 exact congrArg some (Lg h2)
end One
namespace HD
open PySem PySem.W PySem.Calls PyProof.Rows
abbrev rr:OpenRow:=OpenLaw.row PySem.Challenge.rw_holdlane_k22_nets_refused
def q:Program:=view PySem.Challenge.pw_holdlane_k22_nets_refused [84]
def loose:List PySem.Str:=(["_wall", "LaneError", "TooMany", "NoKind", "BadName", "Doubled", "BadNumbers", "BadLanes", "BadRoom", "Open", "Loose", "VALUES", "FIGURES", "LETTERS", "LONGEST_NAME", "is_whole"]:List PySem.Str) ++ (["is_value", "is_name", "COUNTS", "Part", "Give", "Take", "Pass", "Copy", "Turn", "Heap", "Add", "Less", "Order", "Choose", "Split", "is_kind"]:List PySem.Str) ++ (["need_fit", "made_of", "part_made", "MOST_LANES", "MOST_PARTS", "MOST_ROOM", "need_counts", "need_fresh", "need_lane", "fresh_part", "tie_lanes", "need_ends", "joined_with", "need_joined", "row_of", "Net"]:List PySem.Str) ++ (["_law_cell", "_law_mix", "_law_value", "_law_word", "_law_lane", "_law_part", "_law_pick", "_law_two", "_law_loop", "_law_step", "_law_closed", "_law_net", "_law_kinds", "_law_whole", "_law_is_value", "_law_is_name"]:List PySem.Str) ++ (["_law_name_due", "_law_lane_due", "_law_lanes_due", "_law_part_due", "_law_ends_due", "_law_due", "_law_told", "_law_bad", "_law_no_name", "_law_spoil_lane", "_law_lane_near", "_law_spoil_lists", "_law_spoil_part", "_law_spoil", "_law_refused"]:List PySem.Str)
def Xt (s:Shared):Bool:=xlAt q [] s && recOk (RowW.records (OpenRow.toRowW (OpenLaw.row PySem.Challenge.rw_holdlane_k22_nets_refused))) s
structure KA where
 K:Params->Frag
 as:List Addr
def pickK {r:OpenRow} {K:Params->Frag} {as:List Addr} (_:(∀H:Hook,(∃e,H=kHook K as e)->r.Holds)->r.Holds):KA:=⟨K,as⟩
local macro_rules | `(tactic| o_head $H)=>`(tactic| (rename_i hh;exact hh $H ⟨_,rfl⟩))
noncomputable def ka:KA:=pickK (r:=rr) (λ_=>by k_head)
theorem Ru (P:Params):KA.as ka=(ka.heap_1 P).map (·.1):=by kernel_rfl
noncomputable def runC:World->OsState->Option SharedT:=λw os=>One.Vd PySem.Challenge.pw_holdlane_k22_nets_refused 14060 w os
noncomputable def Hn:=fun(w:World) (os:OsState)=>One.NK PySem.Challenge.pw_holdlane_k22_nets_refused q loose Xt 14060 w os
noncomputable def K6:=some (true,openGood q loose)
theorem U0:runC=runC:=rfl
name_quick runQ for HD.runC by HD.U0
theorem Pa:Hn=Hn:=rfl
name_quick looksQ for HD.Hn by HD.Pa
theorem Rj:K6=K6:=rfl
name_quick goodQ for HD.K6 by HD.Rj
theorem A0 (w:World) (os:OsState):PySem.W.Fast.looksQ (w.withFollow "special-get-raises" false) os=PySem.W.Fast.goodQ:=by kernel_rfl
theorem YJ (w:World) (os:OsState):(PySem.W.Fast.runQ (w.withFollow "special-get-raises" false) os).map (λs=>(KA.as ka).map (One.wN s))=some ((ka.heap_1 (w.withFollow "special-get-raises" false).params).map λp=>some p.2):=by kernel_rfl
theorem B0 (w:World) (os:OsState):(PySem.W.Fast.runQ (w.withFollow "special-get-raises" false) os).map (λs=>(KA.as ka).map (One.wN s))=some ((ka.heap_1 (w.withFollow "special-get-raises" false).params).map λp=>some p.2):=YJ w os
theorem A1 (w:World) (os:OsState):PySem.W.Fast.looksQ (w.withFollow "special-get-raises" true) os=PySem.W.Fast.goodQ:=by kernel_rfl
theorem XM (w:World) (os:OsState):(PySem.W.Fast.runQ (w.withFollow "special-get-raises" true) os).map (λs=>(KA.as ka).map (One.wN s))=some ((ka.heap_1 (w.withFollow "special-get-raises" true).params).map λp=>some p.2):=by kernel_rfl
theorem B1 (w:World) (os:OsState):(PySem.W.Fast.runQ (w.withFollow "special-get-raises" true) os).map (λs=>(KA.as ka).map (One.wN s))=some ((ka.heap_1 (w.withFollow "special-get-raises" true).params).map λp=>some p.2):=XM w os
theorem A (w:World):∀os,Hn w os=K6:=by
 rw [PySem.W.Fast.looksQ_eq,PySem.W.Fast.goodQ_eq]
 exact byRow2 "special-get-raises" (P:=λw=>∀os,PySem.W.Fast.looksQ w os=PySem.W.Fast.goodQ) A0 A1 w
theorem B (w:World):∀os,(runC w os).map (λs=>(KA.as ka).map (One.wN s))=some ((ka.heap_1 w.params).map λp=>some p.2):=by
 rw [PySem.W.Fast.runQ_eq]
 exact byRow2 "special-get-raises" (P:=λw=>∀os,(PySem.W.Fast.runQ w os).map (λs=>(KA.as ka).map (One.wN s))=some ((ka.heap_1 w.params).map λp=>some p.2)) B0 B1 w
theorem head {d:DefRec} {kwd:List (PySem.Str×Expr)}
  (hdef:defOf q rr.name=some (d,kwd)) (hp:rr.prog.theDef rr.name=some (d.params,d.body,d.scope)) (hk:kwWritten? d.params.kwonlyargs d.params.kw_defaults=some kwd) (hwr:(!rr.writes || rr.records.isEmpty)=true)
  (k1:rr.wellSaid=true) (ok:(chainsOk q && opensWell rr.prog && (frees rr.toRowW && rr.within.isEmpty))=true) (hb:rr.prog.bare) (ho:opening PySem.Challenge.pw_holdlane_k22_nets_refused=plainProg (PySem.Challenge.pw_holdlane_k22_nets_refused).main.scope.names) (f:∀s,fenceModules? PySem.Challenge.pw_holdlane_k22_nets_refused s=some s)
  (hw:rr.toRowW.promised) (hc:WalkO q loose (XL q []) (Hook.says (kHook ka.heap_1 (KA.as ka) Ru)) rr.toRowW d kwd λf vs=>PySem.call f vs):rr.Holds:=by
 have left:LeftO PySem.Challenge.pw_holdlane_k22_nets_refused q loose Xt (Hook.obs (kHook ka.heap_1 (KA.as ka) Ru)) (Hook.val (kHook ka.heap_1 (KA.as ka) Ru)) 28700:=One.Sq (M:=14060) ho rfl f rfl A λw os=>One.Rh (B w os)
 exact holds_open (XP:=XL q []) (YP:=Hook.says (kHook ka.heap_1 (KA.as ka) Ru)) left (Hook.of _) (Hook.keeps _) (λs z=>xl_of s (Bool.and_eq_true_iff.mp z).1) XL.keeps hdef hp hk (λs z=>recFacts_of (Bool.and_eq_true_iff.mp z).2) hwr k1 ok hb hw hc
end HD
namespace K22
open PySem L2
theorem lM {α β:Type} {f:α->β} {l:List α}:(l.map f).length=l.length:=List.length_map ..
theorem lP {α:Type} {l m:List α}:(l ++ m).length=l.length+m.length:=List.length_append ..
noncomputable def top (i:Nat):Stmt:=PySem.Challenge.pw_holdlane_k22_nets_refused.main.body.getD i (.Pass ⟨0,0,0,0⟩)
set_option genInjectivity false in
structure Af where
 (fO fH fL dU fZ eY iy gH BZ Dr bN sy sH ug sJ sG rP vI uy qO oO qi Fp vV Fv tZ Bl zV xR zL zQ zA zH CQ zG zZ uZ Df Ey oJ pR tU qM rO tQ vm oE Jf vQ jh wQ yh rD uo qT rA pJ qZ rB Bo Dj ud mK pH my nQ wX tE zu SX KR J3 J9 KJ J8 Ku QD Kd Gw Dd Gz cZ wY zT dw cQ cP cL bO dD bZ fY dR:Addr)
noncomputable abbrev ROWS:List (Str×List Int):=[("give",[0,0,1]),("take",[0,1,0]),("pass",[0,1,1]),("copy",[0,1,2]),("turn",[2,1,1]),("heap",[1,1,1]),("add",[0,2,1]),("less",[0,2,1]),("order",[0,2,2]),("choose",[0,3,1]),("split",[0,2,2])]
structure Txt (w:World) (K:PySem.W.Frag) (mg:Str->Option Value) (t:Af):Prop where
 qH:Kg K mg "Give" t.KR [("__init__",t.bN),("kind",t.sy)] ["name", "numbers", "ins", "outs"]
 qp:Kg K mg "Take" t.J3 [("__init__",t.bN),("kind",t.sH)] ["name", "numbers", "ins", "outs"]
 qd:Kg K mg "Pass" t.J9 [("__init__",t.bN),("kind",t.ug)] ["name", "numbers", "ins", "outs"]
 pW:Kg K mg "Copy" t.KJ [("__init__",t.bN),("kind",t.sJ)] ["name", "numbers", "ins", "outs"]
 qJ:Kg K mg "Turn" t.J8 [("__init__",t.bN),("kind",t.sG)] ["name", "numbers", "ins", "outs"]
 qu:Kg K mg "Heap" t.Ku [("__init__",t.bN),("kind",t.rP)] ["name", "numbers", "ins", "outs"]
 xK:Kg K mg "Add" t.QD [("__init__",t.bN),("kind",t.vI)] ["name", "numbers", "ins", "outs"]
 qw:Kg K mg "Less" t.Kd [("__init__",t.bN),("kind",t.uy)] ["name", "numbers", "ins", "outs"]
 lN:Kg K mg "Order" t.Gw [("__init__",t.bN),("kind",t.qO)] ["name", "numbers", "ins", "outs"]
 jj:Kg K mg "Choose" t.Dd [("__init__",t.bN),("kind",t.oO)] ["name", "numbers", "ins", "outs"]
 lF:Kg K mg "Split" t.Gz [("__init__",t.bN),("kind",t.qi)] ["name", "numbers", "ins", "outs"]
 bT:Kg K mg "Net" t.cZ [("__init__",t.jh),("told",t.vQ)] ["rooms", "firsts", "parts", "givers", "takers"]
 d8:mg "LaneError" =some (.ref t.zT)
 wy:mg "TooMany" =some (.ref t.dw)
 Aq:mg "BadName" =some (.ref t.cQ)
 BP:mg "Doubled" =some (.ref t.cP)
 Ci:mg "BadRoom" =some (.ref t.cL)
 oG:mg "BadNumbers" =some (.ref t.bO)
 yQ:mg "NoKind" =some (.ref t.dD)
 uw:mg "BadLanes" =some (.ref t.bZ)
 Li:mg "Open" =some (.ref t.fY)
 Jr:mg "Loose" =some (.ref t.dR)
 Vu:PySem.W.findIn K (.ref t.cQ) "__init__" =some (some (.ref t.fO))
 UT:PySem.W.findIn K (.ref t.cP) "__init__" =some (some (.ref t.fH))
 VP:PySem.W.findIn K (.ref t.cL) "__init__" =some (some (.ref t.fL))
 Q3:PySem.W.findIn K (.ref t.bO) "__init__" =some (some (.ref t.dU))
 V5:PySem.W.findIn K (.ref t.dD) "__init__" =some (some (.ref t.fZ))
 Td:PySem.W.findIn K (.ref t.bZ) "__init__" =some (some (.ref t.eY))
 XD:PySem.W.findIn K (.ref t.fY) "__init__" =some (some (.ref t.iy))
 Wm:PySem.W.findIn K (.ref t.dR) "__init__" =some (some (.ref t.gH))
 d9:Um K t.zT
 vW:PySem.W.subIn K (.ref t.cQ) (.ref t.dw)=some false
 vZ:PySem.W.subIn K (.ref t.cP) (.ref t.dw)=some false
 vO:PySem.W.subIn K (.ref t.cP) (.ref t.cQ)=some false
 vG:PySem.W.subIn K (.ref t.cL) (.ref t.dw)=some false
 wg:PySem.W.subIn K (.ref t.cL) (.ref t.cQ)=some false
 wu:PySem.W.subIn K (.ref t.cL) (.ref t.cP)=some false
 rG:PySem.W.subIn K (.ref t.bO) (.ref t.dw)=some false
 rJ:PySem.W.subIn K (.ref t.bO) (.ref t.cQ)=some false
 rE:PySem.W.subIn K (.ref t.bO) (.ref t.cP)=some false
 rF:PySem.W.subIn K (.ref t.bO) (.ref t.cL)=some false
 wB:PySem.W.subIn K (.ref t.dD) (.ref t.dw)=some false
 yc:PySem.W.subIn K (.ref t.dD) (.ref t.cQ)=some false
 xU:PySem.W.subIn K (.ref t.dD) (.ref t.cP)=some false
 yg:PySem.W.subIn K (.ref t.dD) (.ref t.cL)=some false
 tG:PySem.W.subIn K (.ref t.dD) (.ref t.bO)=some false
 uY:PySem.W.subIn K (.ref t.bZ) (.ref t.dw)=some false
 uO:PySem.W.subIn K (.ref t.bZ) (.ref t.cQ)=some false
 uU:PySem.W.subIn K (.ref t.bZ) (.ref t.cP)=some false
 uW:PySem.W.subIn K (.ref t.bZ) (.ref t.cL)=some false
 qD:PySem.W.subIn K (.ref t.bZ) (.ref t.bO)=some false
 vU:PySem.W.subIn K (.ref t.bZ) (.ref t.dD)=some false
 z7:PySem.W.subIn K (.ref t.fY) (.ref t.dw)=some false
 z8:PySem.W.subIn K (.ref t.fY) (.ref t.cQ)=some false
 Aa:PySem.W.subIn K (.ref t.fY) (.ref t.cP)=some false
 z9:PySem.W.subIn K (.ref t.fY) (.ref t.cL)=some false
 vN:PySem.W.subIn K (.ref t.fY) (.ref t.bO)=some false
 Bd:PySem.W.subIn K (.ref t.fY) (.ref t.dD)=some false
 yH:PySem.W.subIn K (.ref t.fY) (.ref t.bZ)=some false
 yl:PySem.W.subIn K (.ref t.dR) (.ref t.dw)=some false
 yJ:PySem.W.subIn K (.ref t.dR) (.ref t.cQ)=some false
 yo:PySem.W.subIn K (.ref t.dR) (.ref t.cP)=some false
 yS:PySem.W.subIn K (.ref t.dR) (.ref t.cL)=some false
 uT:PySem.W.subIn K (.ref t.dR) (.ref t.bO)=some false
 Ab:PySem.W.subIn K (.ref t.dR) (.ref t.dD)=some false
 ye:PySem.W.subIn K (.ref t.dR) (.ref t.bZ)=some false
 Dz:PySem.W.subIn K (.ref t.dR) (.ref t.fY)=some false
 BK:ul K t.dw
 JT:ExcAt K t.dw
 Ut:U9 K t.dw
 Fy:Q4 K t.cQ t.fO
 Ck:yr K t.cQ
 Cm:cU K t.cQ "name"
 JX:ExcAt K t.cQ
 Es:Q4 K t.cP t.fH
 Cv:yr K t.cP
 Ao:cU K t.cP "name"
 Ke:ExcAt K t.cP
 Fi:Q4 K t.cL t.fL
 Di:yr K t.cL
 BL:cU K t.cL "name"
 Kp:ExcAt K t.cL
 qe:Q4 K t.bO t.dU
 u5:yr K t.bO
 vd:cU K t.bO "name"
 DQ:ExcAt K t.bO
 Bw:Q4 K t.dD t.fZ
 Ew:yr K t.dD
 Er:cU K t.dD "word"
 M8:ExcAt K t.dD
 wj:Q4 K t.bZ t.eY
 zW:yr K t.bZ
 zP:cU K t.bZ "name"
 Ie:ExcAt K t.bZ
 Qj:Q4 K t.fY t.iy
 Mj:yr K t.fY
 Mm:cU K t.fY "name"
 Rn:ExcAt K t.fY
 Mf:Q4 K t.dR t.gH
 Ip:yr K t.dR
 Jt:cU K t.dR "name"
 Qg:ExcAt K t.dR
 iQ:il K "__init__" "BadName.__init__" (inClass (top 5) 0) t.fO ["self", "name"]
 iT:il K "__init__" "Doubled.__init__" (inClass (top 6) 0) t.fH ["self", "name"]
 iK:il K "__init__" "BadRoom.__init__" (inClass (top 9) 0) t.fL ["self", "name"]
 dW:il K "__init__" "BadNumbers.__init__" (inClass (top 7) 0) t.dU ["self", "name"]
 gf:il K "__init__" "NoKind.__init__" (inClass (top 4) 0) t.fZ ["self", "word"]
 eU:il K "__init__" "BadLanes.__init__" (inClass (top 8) 0) t.eY ["self", "name"]
 kI:il K "__init__" "Open.__init__" (inClass (top 10) 0) t.iy ["self", "name"]
 jF:il K "__init__" "Loose.__init__" (inClass (top 11) 0) t.gH ["self", "name"]
 p7:jy K mg "is_whole" (top 17) t.BZ ["thing"]
 qK:jy K mg "is_value" (top 18) t.Dr ["thing"]
 aX:il K "__init__" "Part.__init__" (inClass (top 22) 0) t.bN ["self", "name", "numbers", "ins", "outs"]
 m5:il K "kind" "Give.kind" (inClass (top 23) 0) t.sy ["self"]
 mJ:il K "kind" "Take.kind" (inClass (top 24) 0) t.sH ["self"]
 nU:il K "kind" "Pass.kind" (inClass (top 25) 0) t.ug ["self"]
 nH:il K "kind" "Copy.kind" (inClass (top 26) 0) t.sJ ["self"]
 mO:il K "kind" "Turn.kind" (inClass (top 27) 0) t.sG ["self"]
 mR:il K "kind" "Heap.kind" (inClass (top 28) 0) t.rP ["self"]
 qy:il K "kind" "Add.kind" (inClass (top 29) 0) t.vI ["self"]
 mV:il K "kind" "Less.kind" (inClass (top 30) 0) t.uy ["self"]
 lJ:il K "kind" "Order.kind" (inClass (top 31) 0) t.qO ["self"]
 jO:il K "kind" "Choose.kind" (inClass (top 32) 0) t.oO ["self"]
 lH:il K "kind" "Split.kind" (inClass (top 33) 0) t.qi ["self"]
 uA:jy K mg "is_kind" (top 34) t.Fp ["word"]
 mq:jy K mg "need_fit" (top 35) t.vV ["kind", "name", "numbers", "ins", "outs"]
 FQ:jy K mg "made_of" (top 36) t.Fv ["kind", "name", "numbers", "ins", "outs"]
 m6:jy K mg "part_made" (top 37) t.tZ ["kind", "name", "numbers", "ins", "outs"]
 bA:jy K mg "_law_mix" (top 54) t.Bl ["_law_cell_here", "_law_k"]
 gm:jy K mg "_law_cell" (top 53) t.zV ["_law_script", "_law_k"]
 gJ:jy K mg "_law_value" (top 55) t.xR ["_law_cell_here", "_law_k"]
 iV:jy K mg "_law_word" (top 56) t.zL ["_law_cell_here", "_law_k"]
 gq:jy K mg "_law_lane" (top 57) t.zQ ["_law_state", "_law_cell_here", "_law_back"]
 jU:jy K mg "_law_pick" (top 59) t.zA ["_law_state", "_law_number"]
 cz:jy K mg "_law_part" (top 58) t.zH ["_law_state", "_law_cell_here", "_law_kind", "_law_numbers", "_law_ins", "_law_many"]
 vD:jy K mg "_law_two" (top 60) t.CQ ["_law_state", "_law_cell_here", "_law_one", "_law_odd"]
 rT:jy K mg "_law_loop" (top 61) t.zG ["_law_state", "_law_cell_here", "_law_one"]
 sr:jy K mg "_law_step" (top 62) t.zZ ["_law_state", "_law_cell_here", "_law_odd"]
 oA:jy K mg "_law_closed" (top 63) t.uZ ["_law_state", "_law_cell_here", "_law_back"]
 vH:jy K mg "_law_net" (top 64) t.Df ["_law_script", "_law_start", "_law_steps", "_law_odd"]
 yP:jy K mg "is_name" (top 19) t.Ey ["thing"]
 iu:jy K mg "need_counts" (top 42) t.oJ ["lanes", "parts"]
 eE:jy K mg "need_fresh" (top 43) t.pR ["name", "known"]
 jY:jy K mg "need_lane" (top 44) t.tU ["name", "room", "first"]
 je:jy K mg "fresh_part" (top 45) t.qM ["row", "known"]
 fD:jy K mg "tie_lanes" (top 46) t.rO ["part", "lanes", "rooms", "ends"]
 jW:jy K mg "need_ends" (top 47) t.tQ ["rooms", "givers", "takers"]
 oK:jy K mg "joined_with" (top 48) t.vm ["part", "givers", "takers"]
 ir:jy K mg "need_joined" (top 49) t.oE ["names", "givers", "takers"]
 Bh:jy K mg "row_of" (top 50) t.Jf ["part"]
 vJ:il K "told" "Net.told" (inClass (top 51) 13) t.vQ ["self"]
 eZ:il K "__init__" "Net.__init__" (inClass (top 51) 0) t.jh ["self", "lanes", "parts"]
 jf:jy K mg "_law_kinds" (top 65) t.wQ []
 lK:jy K mg "_law_whole" (top 66) t.yh ["_law_thing"]
 iH:jy K mg "_law_is_value" (top 67) t.rD ["_law_thing"]
 lW:jy K mg "_law_is_name" (top 68) t.uo ["_law_thing"]
 iG:jy K mg "_law_name_due" (top 69) t.qT ["_law_name", "_law_known"]
 kh:jy K mg "_law_lane_due" (top 70) t.rA ["_law_name", "_law_room", "_law_first", "_law_ends"]
 gB:jy K mg "_law_lanes_due" (top 71) t.pJ ["_law_name", "_law_lanes", "_law_ends", "_law_side"]
 kZ:jy K mg "_law_part_due" (top 72) t.qZ ["_law_one", "_law_ends", "_law_names"]
 lg:jy K mg "_law_ends_due" (top 73) t.rB ["_law_ends", "_law_names"]
 vL:jy K mg "_law_due" (top 74) t.Bo ["_law_lanes", "_law_parts"]
 mF:jy K mg "_law_bad" (top 76) t.Dj ["_law_number"]
 ju:jy K mg "_law_no_name" (top 77) t.ud ["_law_number"]
 ji:jy K mg "_law_spoil_lane" (top 78) t.mK ["_law_lanes", "_law_number", "_law_fresh"]
 gG:jy K mg "_law_lane_near" (top 79) t.pH ["_law_lanes", "_law_number"]
 iU:jy K mg "_law_spoil_lists" (top 80) t.my ["_law_one", "_law_lanes", "_law_number", "_law_place"]
 jm:jy K mg "_law_spoil_part" (top 81) t.nQ ["_law_lanes", "_law_parts", "_law_number", "_law_fresh"]
 pU:jy K mg "_law_spoil" (top 82) t.wX ["_law_lanes", "_law_parts", "_law_cell_here", "_law_fresh"]
 jg:jy K mg "_law_refused" (top 83) t.tE ["_law_lanes", "_law_parts"]
 ut:jy K mg "_law_told" (top 75) t.zu ["_law_lanes", "_law_parts"]
 Ma:jy K mg "law" (top 84) t.SX ["_law_script"]
 Eg:mg "COUNTS" =some (.ref t.wY)
 JB:KTab w K t.wY ROWS
 Qk:mg "all" =none
 Pz:mg "bool" =none
 Tu:mg "int" =none
 gK:mg "isinstance" =none
 dz:mg "len" =none
 v9:mg "list" =none
 Ul:mg "max" =none
 lQ:mg "range" =none
 xg:mg "str" =none
 nM:mg "tuple" =none
 O6:∃u,mg "VALUES" =some u/\RelV (.int 1000000000) u
 Ez:∃u,mg "LETTERS" =some u/\RelV (.str "abcdefghijklmnopqrstuvwxyz") u
 Cg:∃u,mg "LONGEST_NAME" =some u/\RelV (.int 8) u
 Ng:∃u,mg "FIGURES" =some u/\RelV (.str "0123456789") u
 Gb:∃u,mg "MOST_LANES" =some u/\RelV (.int 24) u
 Hs:∃u,mg "MOST_PARTS" =some u/\RelV (.int 16) u
 Jm:∃u,mg "MOST_ROOM" =some u/\RelV (.int 199) u
section
variable {P:Program} {w:World} {K:PySem.W.Frag} {mg:Str->Option Value} {base:Heap} {t:Af}
noncomputable def cu (i:Nat):Str:=match i with
 | 0=> "give"
 | 1=> "take"
 | 2=> "pass"
 | 3=> "copy"
 | 4=> "turn"
 | 5=> "heap"
 | 6=> "add"
 | 7=> "less"
 | 8=> "order"
 | 9=> "choose"
 | _=> "split"
noncomputable def cN (i:Nat):Nat:=match i with
 | 0=>0
 | 1=>0
 | 2=>0
 | 3=>0
 | 4=>2
 | 5=>1
 | 6=>0
 | 7=>0
 | 8=>0
 | 9=>0
 | _=>0
noncomputable def cI (i:Nat):Nat:=match i with
 | 0=>0
 | 1=>1
 | 2=>1
 | 3=>1
 | 4=>1
 | 5=>1
 | 6=>2
 | 7=>2
 | 8=>2
 | 9=>3
 | _=>2
noncomputable def cO (i:Nat):Nat:=match i with
 | 0=>1
 | 1=>0
 | 2=>1
 | 3=>2
 | 4=>1
 | 5=>1
 | 6=>1
 | 7=>1
 | 8=>2
 | 9=>1
 | _=>2
noncomputable def cls (t:Af) (i:Nat):Addr:=match i with
 | 0=>t.KR
 | 1=>t.J3
 | 2=>t.J9
 | 3=>t.KJ
 | 4=>t.J8
 | 5=>t.Ku
 | 6=>t.QD
 | 7=>t.Kd
 | 8=>t.Gw
 | 9=>t.Dd
 | _=>t.Gz
@[elab_as_elim] theorem Hh {H:Hp} {a:Addr} {o:HO} {P:Hp->Prop} (n:H a=none) (k:∀H',aM H H'->H' a=some o->P H'):P (upd H a o):=k _ (aC n) aq
theorem row_of (i:Nat):rowOf ROWS (cu i)=some [((cN i:Nat):Int),((cI i:Nat):Int),((cO i:Nat):Int)]:=match i with
 | 0=>by show rowOf ROWS "give" =some [0,0,1];decide +kernel
 | 1=>by show rowOf ROWS "take" =some [0,1,0];decide +kernel
 | 2=>by show rowOf ROWS "pass" =some [0,1,1];decide +kernel
 | 3=>by show rowOf ROWS "copy" =some [0,1,2];decide +kernel
 | 4=>by show rowOf ROWS "turn" =some [2,1,1];decide +kernel
 | 5=>by show rowOf ROWS "heap" =some [1,1,1];decide +kernel
 | 6=>by show rowOf ROWS "add" =some [0,2,1];decide +kernel
 | 7=>by show rowOf ROWS "less" =some [0,2,1];decide +kernel
 | 8=>by show rowOf ROWS "order" =some [0,2,2];decide +kernel
 | 9=>by show rowOf ROWS "choose" =some [0,3,1];decide +kernel
 | n+10=>by show rowOf ROWS "split" =some [0,2,2];decide +kernel
theorem jH (T:Txt w K mg t) (i:Nat):QT K (cls t i):=match i with
 | 0=>T.qH.c
 | 1=>T.qp.c
 | 2=>T.qd.c
 | 3=>T.pW.c
 | 4=>T.qJ.c
 | 5=>T.qu.c
 | 6=>T.xK.c
 | 7=>T.qw.c
 | 8=>T.lN.c
 | 9=>T.jj.c
 | n+10=>T.lF.c
theorem xZ (T:Txt w K mg t) (i:Nat):cU K (cls t i) "name" :=match i with
 | 0=>T.qH.na.1
 | 1=>T.qp.na.1
 | 2=>T.qd.na.1
 | 3=>T.pW.na.1
 | 4=>T.qJ.na.1
 | 5=>T.qu.na.1
 | 6=>T.xK.na.1
 | 7=>T.qw.na.1
 | 8=>T.lN.na.1
 | 9=>T.jj.na.1
 | n+10=>T.lF.na.1
theorem Cq (T:Txt w K mg t) (i:Nat):cU K (cls t i) "numbers" :=match i with
 | 0=>T.qH.na.2.1
 | 1=>T.qp.na.2.1
 | 2=>T.qd.na.2.1
 | 3=>T.pW.na.2.1
 | 4=>T.qJ.na.2.1
 | 5=>T.qu.na.2.1
 | 6=>T.xK.na.2.1
 | 7=>T.qw.na.2.1
 | 8=>T.lN.na.2.1
 | 9=>T.jj.na.2.1
 | n+10=>T.lF.na.2.1
theorem JS (T:Txt w K mg t) (i:Nat):cU K (cls t i) "ins" :=match i with
 | 0=>T.qH.na.2.2.1
 | 1=>T.qp.na.2.2.1
 | 2=>T.qd.na.2.2.1
 | 3=>T.pW.na.2.2.1
 | 4=>T.qJ.na.2.2.1
 | 5=>T.qu.na.2.2.1
 | 6=>T.xK.na.2.2.1
 | 7=>T.qw.na.2.2.1
 | 8=>T.lN.na.2.2.1
 | 9=>T.jj.na.2.2.1
 | n+10=>T.lF.na.2.2.1
theorem Gn (T:Txt w K mg t) (i:Nat):cU K (cls t i) "outs" :=match i with
 | 0=>T.qH.na.2.2.2.1
 | 1=>T.qp.na.2.2.2.1
 | 2=>T.qd.na.2.2.2.1
 | 3=>T.pW.na.2.2.2.1
 | 4=>T.qJ.na.2.2.2.1
 | 5=>T.qu.na.2.2.2.1
 | 6=>T.xK.na.2.2.2.1
 | 7=>T.qw.na.2.2.2.1
 | 8=>T.lN.na.2.2.2.1
 | 9=>T.jj.na.2.2.2.1
 | n+10=>T.lF.na.2.2.2.1
theorem PB (i:Nat):cI i<=3:=match i with
 | 0=>by show 0<=3;decide
 | 1=>by show 1<=3;decide
 | 2=>by show 1<=3;decide
 | 3=>by show 1<=3;decide
 | 4=>by show 1<=3;decide
 | 5=>by show 1<=3;decide
 | 6=>by show 2<=3;decide
 | 7=>by show 2<=3;decide
 | 8=>by show 2<=3;decide
 | 9=>by show 3<=3;decide
 | n+10=>by show 2<=3;decide
theorem Le (i:Nat):cO i<=2:=match i with
 | 0=>by show 1<=2;decide
 | 1=>by show 0<=2;decide
 | 2=>by show 1<=2;decide
 | 3=>by show 2<=2;decide
 | 4=>by show 1<=2;decide
 | 5=>by show 1<=2;decide
 | 6=>by show 1<=2;decide
 | 7=>by show 1<=2;decide
 | 8=>by show 2<=2;decide
 | 9=>by show 1<=2;decide
 | n+10=>by show 2<=2;decide
theorem uN {f:Str} {y:V} {fs:List (Str×V)} {n:Nat} (h:fs.length<=n):(bf f y fs).length<=n+1:=Nat.le_trans (ue f y fs) (Nat.succ_le_succ h)
noncomputable def Dc (nm:V) (tn ti to:Addr):List (Str×V):=bf "outs" (.ref to) (bf "ins" (.ref ti) (bf "numbers" (.ref tn) (bf "name" nm [])))
theorem uH (nm:V) (tn ti to:Addr):(Dc nm tn ti to).lookup ("name" :Str)=some nm:=by
 unfold Dc
 rw [aG,if_neg (by decide +kernel),aG,if_neg (by decide +kernel),aG,if_neg (by decide +kernel),aG,if_pos rfl]
theorem G3 (nm:V) (tn ti to:Addr):(Dc nm tn ti to).lookup ("numbers" :Str)=some (.ref tn):=by
 unfold Dc
 rw [aG,if_neg (by decide +kernel),aG,if_neg (by decide +kernel),aG,if_pos rfl]
theorem Jl (nm:V) (tn ti to:Addr):(Dc nm tn ti to).lookup ("ins" :Str)=some (.ref ti):=by
 unfold Dc
 rw [aG,if_neg (by decide +kernel),aG,if_pos rfl]
theorem Fw (nm:V) (tn ti to:Addr):(Dc nm tn ti to).lookup ("outs" :Str)=some (.ref to):=by
 unfold Dc
 rw [aG,if_pos rfl]
theorem RV (nm:V) (tn ti to:Addr) {m:Str} (h1:¬m= "outs") (h2:¬m= "ins") (h3:¬m= "numbers") (h4:¬m= "name"):(Dc nm tn ti to).lookup m=none:=by
 unfold Dc
 rw [aG,if_neg h1,aG,if_neg h2,aG,if_neg h3,aG,if_neg h4]
 all_goals rfl
structure iM (K:PySem.W.Frag) (t:Af) (H:Hp) (p:Addr) (i:Nat) (nm:V) (ns is os:List V):Prop where
 ex:∃dx tn ti to,H p=some (.ins (cls t i) dx (Dc nm tn ti to))/\d7 K H tn ns/\d7 K H ti is/\d7 K H to os
theorem iM.same {H H':Hp} {p:Addr} {i:Nat} {nm:V} {ns is os:List V} (h:iM K t H p i nm ns is os) (s:aM H H'):iM K t H' p i nm ns is os:=by
 obtain⟨dx,tn,ti,to,h1,h2,h3,h4⟩:=h
 exact⟨dx,tn,ti,to,s _ _ h1,s.seqT h2,s.seqT h3,s.seqT h4⟩
noncomputable def gU (i:Nat):Sp:=λvs H Q _=>∃x,vs=[x]/\Q (.str (cu i)) H
noncomputable def nV (j:Nat):V:=.int (j:Nat)
inductive Val (v:V):Prop where
 | mk:∀n:Int,v=.int n->0<=n->n <1000000000->Val v
inductive Flat:PyData->Prop
 | non:Flat .none
 | int (i:Int):Flat (.int i)
noncomputable def cg (a b:Int):Int:=((((a % 2147483647 * 48271+7919 * b+11) % 2147483647) * ((a % 2147483647 * 48271+7919 * b+11) % 2147483647) % 2147483629+613 * b) * (((a % 2147483647 * 48271+7919 * b+11) % 2147483647) * ((a % 2147483647 * 48271+7919 * b+11) % 2147483647) % 2147483629)) % 2147483587
theorem nZ (a b:Int):0<=cg a b:=Int.emod_nonneg _ (by decide)
noncomputable def j5 (ns:List Int) (j:Nat):Int:=(ns[j]?).getD (41 * (j:Int)+3)
noncomputable def qG (a b:Int):Int:=if cg a b / 7 % 3=0 then cg a b % 5 else if cg a b / 7 % 3=1 then cg a b % 10 ^ 9 else 10 ^ 9 - 1 - cg a b % 3
theorem uD (a b:Int):0<=qG a b/\qG a b <1000000000:=by
 unfold qG
 have h0:=nZ a b
 generalize cg a b=n at h0
 split
 ·lia
 ·split
  ·have h1:=Int.emod_lt_of_pos n (show(0:Int) <10 ^ 9 by decide)
   have h2:=Int.emod_nonneg n (show(10:Int) ^ 9≠0 by decide)
   exact⟨h2,h1⟩
  ·have h1:=Int.emod_lt_of_pos n (show(0:Int) <3 by decide)
   have h2:=Int.emod_nonneg n (show(3:Int)≠0 by decide)
   have e:(10:Int) ^ 9=1000000000:=by decide
   rw [e]
   lia
noncomputable def low (c:Nat):Bool:=decide (97<=c) && decide (c<=122)
noncomputable def rM (c:Nat):Bool:=decide (48<=c) && decide (c<=57)
noncomputable def nameB (x:Str):Bool:=match x.cps.toList with
 | []=>false
 | c:: r=>decide (r.length<=7) && (low c && (c:: r).all λd=>low d || rM d)
theorem iW (x:Str):x.cps.toList.length=x.length:=by simp [Str.length]
theorem By:∀(ws:List Str),(Str.join Str.empty ws).cps.toList=(ws.map λw=>w.cps.toList).flatten
 | []=>rfl
 | [w]=>by simp [Str.join]
 | w:: v:: r=>by
  have ih:=By (v:: r)
  show(w.cps ++ #[] ++ (Str.join Str.empty (v:: r)).cps).toList=_
  rw [Array.toList_append,ih]
  simp
theorem N7 {n:Nat}:∀(ws:List Str),(∀w∈ws,w.length<=n)->(ws.map (·.length)).sum<=ws.length * n
 | [],_=>by simp
 | w:: r,h=>by
  have h1:=h w (by simp)
  have h2:=N7 r λv hv=>h v (by simp [hv])
  simp only [List.map_cons,List.sum_cons,List.length_cons,Nat.add_mul]
  lia
noncomputable def Il (n:Int):Nat:=97+(n % 26).toNat
theorem Gu (n:Int):low (Il n)=true:=by
 unfold low Il
 have h0:=Int.emod_nonneg n (show(26:Int)≠0 by decide)
 have h1:=Int.emod_lt_of_pos n (show(0:Int) <26 by decide)
 simp
 lia
noncomputable abbrev LT:Str:= "abcdefghijklmnopqrstuvwxyz"
theorem KC:LT.length=26:=by decide +kernel
theorem Qs:LT.cps.toList=List.range' 97 26:=by decide +kernel
theorem QG (n:Int):DW LT.cps.toList (n % 26)=some (Il n):=by
 have h0:=Int.emod_nonneg n (show(26:Int)≠0 by decide)
 have h1:=Int.emod_lt_of_pos n (show(0:Int) <26 by decide)
 obtain⟨j,hj⟩:∃j:Nat,n % 26=(j:Int):=⟨(n % 26).toNat,by lia⟩
 unfold Il
 rw [hj,Qs]
 exact aH (by rw [List.getElem?_range' (by lia)];simp)
noncomputable def fC (a:Int):List Nat:=(List.range (cg a 50 % 7).toNat).map λj=>Il (cg a (60+(j:Nat)))
noncomputable def nY (a:Int):Nat:=(cg a 51 % (cg a 50 % 7+1)).toNat
noncomputable def Ky (n:Nat):List Nat:=(toString (Int.ofNat n):Str).cps.toList
noncomputable def zX (a:Int) (k:Nat):List Nat:=if cg a 52 % 3=0 then Il (cg a 53):: Ky (cg a 54 % 1000+37 * (k:Int)).toNat else(fC a).take (nY a) ++ Il (cg a 55+k):: (fC a).drop (nY a)
noncomputable def cG (a:Int) (k:Nat):Str:=⟨(zX a k).toArray⟩
noncomputable def QC (l:List Nat):Nat:=l.foldl (λr c=>10 * r+(c - 48)) 0
theorem R6:(List.range 2000).all (λi=>(Ky i).all rM && decide ((Ky i).length<=4) && decide (QC (Ky i)=i))=true:=by decide +kernel
theorem uJ {n:Nat} (h:n <2000):(Ky n).all rM=true/\(Ky n).length<=4/\QC (Ky n)=n:=by
 have z:=List.all_eq_true.mp R6 n (List.mem_range.mpr h)
 simp only [Bool.and_eq_true,decide_eq_true_eq] at z
 exact⟨z.1.1,z.1.2,z.2⟩
theorem Dk (a:Int):(fC a).length<=6/\((fC a).length:Int)=cg a 50 % 7:=by
 unfold fC
 have h0:=Int.emod_nonneg (cg a 50) (show(7:Int)≠0 by decide)
 have h1:=Int.emod_lt_of_pos (cg a 50) (show(0:Int) <7 by decide)
 rw [lM,List.length_range]
 lia
theorem Lf (a:Int):nY a<=(fC a).length:=by
 have h:=(Dk a).2
 unfold nY
 have h0:=Int.emod_nonneg (cg a 50) (show(7:Int)≠0 by decide)
 have h1:=Int.emod_lt_of_pos (cg a 51) (show(0:Int) <cg a 50 % 7+1 by lia)
 have h2:=Int.emod_nonneg (cg a 51) (show cg a 50 % 7+1≠0 by lia)
 lia
theorem BW {x:Str} {c:Nat} {r:List Nat} (e:x.cps.toList=c:: r) (h:r.length<=7) (hc:low c=true) (ha:∀d∈r,low d=true∨rM d=true):nameB x=true:=by
 unfold nameB
 rw [e]
 simp only [Bool.and_eq_true,decide_eq_true_eq,List.all_eq_true,Bool.or_eq_true]
 refine⟨h,hc,λd hd=>?_⟩
 rcases List.mem_cons.mp hd with rfl | hd
 ·exact .inl hc
 ·exact ha d hd
theorem CW (a:Int) (k:Nat):(cG a k).cps.toList=zX a k:=by simp [cG]
theorem Lj (a:Int) {k:Nat} (hk:k <26):nameB (cG a k)=true:=by
 have h0:=Int.emod_nonneg (cg a 54) (show(1000:Int)≠0 by decide)
 have h1:=Int.emod_lt_of_pos (cg a 54) (show(0:Int) <1000 by decide)
 have e:=CW a k
 unfold zX at e
 split at e
 ·obtain⟨n1,n2,_⟩:=uJ (n:=(cg a 54 % 1000+37 * (k:Int)).toNat) (by lia)
  exact BW e (by lia) (Gu _) λc hc=>.inr (List.all_eq_true.mp n1 c hc)
 ·have b1:=(Dk a).1
  have b2:=Lf a
  have all:∀c∈(fC a).take (nY a) ++ Il (cg a 55+k):: (fC a).drop (nY a),low c=true:=λc hc=>by
   have hb:∀c∈fC a,low c=true:=λc hc=>by
    unfold fC at hc
    obtain⟨j,_,rfl⟩:=List.mem_map.mp hc
    exact Gu _
   rcases List.mem_append.mp hc with h | h
   ·exact hb c (List.mem_of_mem_take h)
   ·rcases List.mem_cons.mp h with rfl | h
    ·exact Gu _
    ·exact hb c (List.mem_of_mem_drop h)
  have len:((fC a).take (nY a) ++ Il (cg a 55+k):: (fC a).drop (nY a)).length<=7:=by
   rw [lP,List.length_take,List.length_cons,List.length_drop]
   lia
  have ne:(fC a).take (nY a) ++ Il (cg a 55+k):: (fC a).drop (nY a)≠[]:=by simp
  generalize (fC a).take (nY a) ++ Il (cg a 55+k):: (fC a).drop (nY a)=l at all len ne e
  obtain⟨c,r,rfl⟩:=List.exists_cons_of_ne_nil ne
  rw [List.length_cons] at len
  exact BW e (by lia) (all c List.mem_cons_self) λd hd=>.inl (all d (List.mem_cons_of_mem _ hd))
theorem Jc (a:Int) {j k:Nat} (hj:j <26) (hk:k <26) (h:cG a j=cG a k):j=k:=by
 have e:zX a j=zX a k:=by
  have:=congrArg (λs:Str=>s.cps.toList) h
  simpa [cG] using this
 unfold zX at e
 split at e
 ·have h0:=Int.emod_nonneg (cg a 54) (show(1000:Int)≠0 by decide)
  have h1:=Int.emod_lt_of_pos (cg a 54) (show(0:Int) <1000 by decide)
  have e2:=congrArg QC (List.cons.inj e).2
  rw [(uJ (by lia)).2.2,(uJ (by lia)).2.2] at e2
  lia
 ·have e2:=(List.cons.inj (List.append_cancel_left e)).1
  unfold Il at e2
  lia
namespace Drawn
variable {S:Type}
structure gw (S:Type) where
 kind:Nat
 name:S
 nums:List Int
 ins:List S
 outs:List S
structure NS (S:Type) where
 lanes:List S
 parts:List (gw S)
 opens:List S
 back:List S
inductive iw (ps:List (gw S)):S->S->Prop
 | refl (x:S):iw ps x x
 | step {x y z:S} {p:gw S}:p∈ps->x∈p.ins ++ p.outs->y∈p.ins ++ p.outs->iw ps y z->iw ps x z
theorem iw.trans {ps:List (gw S)} {x y z:S} (h:iw ps x y) (k:iw ps y z):iw ps x z:=by
 induction h with
 | refl _=>exact k
 | step hp hx hy _ ih=>exact .step hp hx hy (ih k)
theorem iw.symm {ps:List (gw S)} {x y:S} (h:iw ps x y):iw ps y x:=by
 induction h with
 | refl _=>exact .refl _
 | step hp hx hy _ ih=>exact ih.trans (.step hp hy hx (.refl _))
theorem iw.mono {ps qs:List (gw S)} (hs:∀p∈ps,p∈qs) {x y:S} (h:iw ps x y):iw qs x y:=by
 induction h with
 | refl _=>exact .refl _
 | step hp hx hy _ ih=>exact .step (hs _ hp) hx hy ih
theorem iw.part {ps:List (gw S)} {p:gw S} (hp:p∈ps) {x y:S} (hx:x∈p.ins ++ p.outs) (hy:y∈p.ins ++ p.outs):iw ps x y:=.step hp hx hy (.refl _)
structure WF (ns:NS S):Prop where
 nod:ns.lanes.Nodup
 outs:((ns.parts.flatMap (·.outs)) ++ ns.back).Perm ns.lanes
 ins:((ns.parts.flatMap (·.ins)) ++ ns.opens).Perm ns.lanes
 hang:∀p∈ns.parts,∃x∈p.ins ++ p.outs,∃o∈ns.opens,iw ns.parts x o
 touch:∀p∈ns.parts,p.ins ++ p.outs≠[]
theorem WF.add {ns:NS S} (w:WF ns) {p:gw S} {newl opens' back':List S} (hn:(ns.lanes ++ newl).Nodup) (ho:(p.outs ++ back').Perm (ns.back ++ newl)) (hi:(p.ins ++ opens').Perm (ns.opens ++ newl))
  (hg:∀o∈ns.opens,∃o'∈opens',iw (ns.parts ++ [p]) o o') (hp:∃x∈p.ins ++ p.outs,∃o∈opens',iw (ns.parts ++ [p]) x o):
  WF { lanes:=ns.lanes ++ newl,parts:=ns.parts ++ [p],opens:=opens',back:=back' }:=by
 have mono:∀q∈ns.parts,q∈ns.parts ++ [p]:=λq hq=>List.mem_append.mpr (.inl hq)
 refine⟨hn,?_,?_,?_,?_⟩
 ·have e:(ns.parts ++ [p]).flatMap (·.outs)=ns.parts.flatMap (·.outs) ++ p.outs:=by simp
  show(((ns.parts ++ [p]).flatMap (·.outs)) ++ back').Perm _
  rw [e,List.append_assoc]
  exact(ho.append_left _).trans (by rw [<-List.append_assoc];exact w.outs.append_right _)
 ·have e:(ns.parts ++ [p]).flatMap (·.ins)=ns.parts.flatMap (·.ins) ++ p.ins:=by simp
  show(((ns.parts ++ [p]).flatMap (·.ins)) ++ opens').Perm _
  rw [e,List.append_assoc]
  exact(hi.append_left _).trans (by rw [<-List.append_assoc];exact w.ins.append_right _)
 ·intro q hq
  rcases List.mem_append.mp hq with h | h
  ·obtain⟨x,hx,o,hoq,c⟩:=w.hang q h
   obtain⟨o',ho',c'⟩:=hg o hoq
   exact⟨x,hx,o',ho',(c.mono mono).trans c'⟩
  ·rw [List.mem_singleton] at h
   subst h
   exact hp
 ·intro q hq
  rcases List.mem_append.mp hq with h | h
  ·exact w.touch q h
  ·rw [List.mem_singleton] at h
   subst h
   obtain⟨x,hx,_⟩:=hp
   intro z
   rw [z] at hx
   cases hx
theorem WF.start:WF (⟨[],[],[],[]⟩:NS S):=⟨List.nodup_nil,.refl _,.refl _,λp hp=>(by cases hp),λp hp=>(by cases hp)⟩
theorem WF.backLane {ns:NS S} (w:WF ns) {b:S} (hn:(ns.lanes ++ [b]).Nodup):WF { ns with lanes:=ns.lanes ++ [b],opens:=ns.opens ++ [b],back:=ns.back ++ [b] }:=by
 refine⟨hn,?_,?_,λp hp=>?_,w.touch⟩
 ·show(_ ++ (ns.back ++ [b])).Perm _
  rw [<-List.append_assoc]
  exact w.outs.append_right _
 ·show(_ ++ (ns.opens ++ [b])).Perm _
  rw [<-List.append_assoc]
  exact w.ins.append_right _
 ·obtain⟨x,hx,o,ho,c⟩:=w.hang p hp
  exact⟨x,hx,o,List.mem_append.mpr (.inl ho),c⟩
theorem WF.part {ns:NS S} (w:WF ns) {p:gw S} {rest:List S} (hi:ns.opens.Perm (p.ins ++ rest)) (hf:(ns.lanes ++ p.outs).Nodup) (ho:p.outs≠[]):
  WF { ns with lanes:=ns.lanes ++ p.outs,parts:=ns.parts ++ [p],opens:=rest ++ p.outs }:=by
 have hp:p∈ns.parts ++ [p]:=by simp
 obtain⟨o1,hoo⟩:∃o1,o1∈p.outs:=List.exists_mem_of_ne_nil _ ho
 have h1:o1∈rest ++ p.outs:=List.mem_append.mpr (.inr hoo)
 refine w.add hf List.perm_append_comm ?_ (λo h=>?_) ⟨o1,List.mem_append.mpr (.inr hoo),o1,h1,.refl _⟩
 ·rw [<-List.append_assoc]
  exact hi.symm.append_right _
 ·rcases List.mem_append.mp (hi.mem_iff.mp h) with h | h
  ·exact⟨o1,h1,iw.part hp (List.mem_append.mpr (.inl h)) (List.mem_append.mpr (.inr hoo))⟩
  ·exact⟨o,List.mem_append.mpr (.inl h),.refl _⟩
theorem WF.take {ns:NS S} (w:WF ns) {p:gw S} {rest:List S} {y x:S} (hi:p.ins=[y]) (ho:p.outs=[]) (hr:ns.opens.Perm (y:: rest)) (hx:x∈rest) (c:iw ns.parts y x):
  WF { ns with parts:=ns.parts ++ [p],opens:=rest }:=by
 have mono:∀q∈ns.parts,q∈ns.parts ++ [p]:=λq hq=>List.mem_append.mpr (.inl hq)
 have:=w.add (p:=p) (newl:=[]) (opens':=rest) (back':=ns.back) (by rw [List.append_nil];exact w.nod) (by rw [ho,List.append_nil];exact .refl _) (by rw [hi,List.append_nil];exact hr.symm)
  (λo h=>by
   rcases List.mem_cons.mp (hr.mem_iff.mp h) with rfl | h
   ·exact⟨x,hx,c.mono mono⟩
   ·exact⟨o,h,.refl _⟩) ⟨y,by simp [hi],x,hx,c.mono mono⟩
 rw [List.append_nil] at this
 exact this
theorem WF.loop {ns:NS S} (w:WF ns) {p:gw S} {rest:List S} {one own fresh:S} (hi:p.ins=[one,own]) (ho:p.outs=[own,fresh]) (hr:ns.opens.Perm (one:: rest)) (hn:(ns.lanes ++ [own,fresh]).Nodup):
  WF { ns with lanes:=ns.lanes ++ [own,fresh],parts:=ns.parts ++ [p],opens:=rest ++ [fresh] }:=by
 have hp:p∈ns.parts ++ [p]:=by simp
 have hf:fresh∈rest ++ [fresh]:=by simp
 refine w.add hn (by rw [ho];exact List.perm_append_comm) ?_ (λo h=>?_) ⟨fresh,by simp [ho],fresh,hf,.refl _⟩
 ·rw [hi]
  show(one:: own:: (rest ++ [fresh])).Perm (ns.opens ++ [own,fresh])
  refine .trans ?_ (hr.symm.append_right _)
  refine .cons _ ?_
  show(own:: (rest ++ [fresh])).Perm (rest ++ ([own] ++ [fresh]))
  rw [<-List.append_assoc]
  exact(List.perm_append_comm (l₁:=[own]) (l₂:=rest)).append_right [fresh]
 ·rcases List.mem_cons.mp (hr.mem_iff.mp h) with rfl | h
  ·exact⟨fresh,hf,iw.part hp (by simp [hi]) (by simp [ho])⟩
  ·exact⟨o,List.mem_append.mpr (.inl h),.refl _⟩
theorem WF.closeBack {ns:NS S} (w:WF ns) {p:gw S} {rest:List S} {one b fresh:S} (hi:p.ins=[one]) (ho:p.outs=[b,fresh]) (hb:ns.back.Perm (b:: rest)) (h1:ns.opens=[one]) (hn:(ns.lanes ++ [fresh]).Nodup):
  WF { lanes:=ns.lanes ++ [fresh],parts:=ns.parts ++ [p],opens:=[fresh],back:=rest }:=by
 have hp:p∈ns.parts ++ [p]:=by simp
 refine w.add hn ?_ (by rw [hi,h1]) (λo h=>?_) ⟨fresh,by simp [ho],fresh,by simp,.refl _⟩
 ·rw [ho]
  show(b:: fresh:: rest).Perm (ns.back ++ [fresh])
  refine .trans ?_ (hb.symm.append_right _)
  exact .cons _ (List.perm_append_comm (l₁:=[fresh]) (l₂:=rest))
 ·rw [h1,List.mem_singleton] at h
  subst h
  exact⟨fresh,by simp,iw.part hp (by simp [hi]) (by simp [ho])⟩
theorem WF.last {ns:NS S} (w:WF ns) {p:gw S} {y:S} (hb:ns.back=[]) (h1:ns.opens=[y]) (hi:p.ins=[y]) (ho:p.outs=[]):
  ((ns.parts ++ [p]).flatMap (·.outs)).Perm ns.lanes/\((ns.parts ++ [p]).flatMap (·.ins)).Perm ns.lanes/\∀q∈ns.parts ++ [p],∃x∈q.ins ++ q.outs,iw (ns.parts ++ [p]) x y:=by
 have mono:∀q∈ns.parts,q∈ns.parts ++ [p]:=λq hq=>List.mem_append.mpr (.inl hq)
 refine⟨?_,?_,?_⟩
 ·have e:(ns.parts ++ [p]).flatMap (·.outs)=ns.parts.flatMap (·.outs):=by simp [ho]
  rw [e]
  have:=w.outs
  rw [hb,List.append_nil] at this
  exact this
 ·have e:(ns.parts ++ [p]).flatMap (·.ins)=ns.parts.flatMap (·.ins) ++ [y]:=by simp [hi]
  rw [e]
  have:=w.ins
  rw [h1] at this
  exact this
 ·intro q hq
  rcases List.mem_append.mp hq with h | h
  ·obtain⟨x,hx,o,hoq,c⟩:=w.hang q h
   rw [h1,List.mem_singleton] at hoq
   subst hoq
   exact⟨x,hx,c.mono mono⟩
  ·rw [List.mem_singleton] at h
   subst h
   exact⟨y,by simp [hi],.refl _⟩
theorem Up {ps:List (gw S)} {J:gw S->Prop} (closed:∀(l:S) (p q:gw S),p∈ps->q∈ps->l∈p.ins ++ p.outs->l∈q.ins ++ q.outs->J p->J q) {y:S} (hang:∀q∈ps,∃x∈q.ins ++ q.outs,iw ps x y)
  {p0:gw S} (hp0:p0∈ps) (h0:J p0):∀q∈ps,J q:=by
 have go:∀{x z:S},iw ps x z->(∃p∈ps,x∈p.ins ++ p.outs/\J p)->∃p∈ps,z∈p.ins ++ p.outs/\J p:=by
  intro x z c
  induction c with
  | refl _=>exact id
  | step hp hx hy _ ih=>
   rintro⟨p',hp',hx',hJ⟩
   exact ih ⟨_,hp,hy,closed _ _ _ hp' hp hx' hx hJ⟩
 obtain⟨x0,hx0,c0⟩:=hang p0 hp0
 have hy:=go c0 ⟨p0,hp0,hx0,h0⟩
 intro q hq
 obtain⟨x,hx,c⟩:=hang q hq
 obtain⟨p',hp',hx',hJ⟩:=go c.symm hy
 exact closed _ _ _ hp' hq hx' hx hJ
theorem V2 {ps:List (gw S)} (f:gw S->List S) (h:(ps.flatMap f).Nodup) {i j:Nat} {p q:gw S} {l:S} (hi:ps[i]?=some p) (hj:ps[j]?=some q) (hp:l∈f p) (hq:l∈f q):i=j:=by
 induction ps generalizing i j with
 | nil=>cases hi
 | cons r rs ih=>
  rw [List.flatMap_cons,List.nodup_append] at h
  obtain⟨h1,h2,h3⟩:=h
  have far:∀{k:Nat} {s:gw S},rs[k]?=some s->l∈f s->l∈rs.flatMap f:=λe hs=>List.mem_flatMap.mpr ⟨_,List.mem_of_getElem? e,hs⟩
  match i,j with
  | 0,0=>rfl
  | 0,j+1=>
   simp only [List.getElem?_cons_zero,Option.some.injEq] at hi
   subst hi
   exact absurd rfl (h3 l hp l (far (by simpa using hj) hq))
  | i+1,0=>
   simp only [List.getElem?_cons_zero,Option.some.injEq] at hj
   subst hj
   exact absurd rfl (h3 l hq l (far (by simpa using hi) hp))
  | i+1,j+1=>exact congrArg (· +1) (ih h2 (by simpa using hi) (by simpa using hj))
end Drawn
structure bB where
 name:Str
 room:Int
 first:List Int
noncomputable def bB.ok (l:bB):Prop:=1<=l.room/\l.room<=10/\(l.first.length:Int)<=l.room/\∀v∈l.first,0<=v/\v <1000000000
noncomputable abbrev PD:=Drawn.gw Str
noncomputable def kW (p:PD):Prop:=p.kind <11/\p.nums.length=cN p.kind/\p.ins.length=cI p.kind/\p.outs.length=cO p.kind/\∀v∈p.nums,0<=v/\v <1000000000
noncomputable def bQ (E:List Addr) (H:Hp):Hp:=λb=>if b∈E then none else H b
theorem lU {E:List Addr} {H:Hp}:aM (bQ E H) H:=λb o e=>by
 unfold bQ at e
 split at e
 ·cases e
 ·exact e
theorem jG {E:List Addr} {H:Hp} {p:Addr} {o:HO} (h:H p=some o) (n:p∉E):bQ E H p=some o:=by
 unfold bQ
 rw [if_neg n]
 exact h
theorem eG {E:List Addr} {H:Hp} {a:Addr} {o:HO} (h:a∈E):bQ E (upd H a o)=bQ E H:=by
 funext b
 unfold bQ
 split
 ·rfl
 ·rename_i n
  rw [aD (λz=>n (by rw [z];exact h))]
theorem IK {E:List Addr} {H H':Hp} (s:aM H H') (hE:∀a∈E,∃o,H a=some o):aM (bQ E H) (bQ E H'):=λb o e=>by
 have e':=lU b o e
 unfold bQ at e ⊢
 split at e
 ·cases e
 ·rename_i n
  rw [if_neg n]
  exact s _ _ e'
inductive dY {α β:Type} (R:α->β->Prop):List α->List β->Prop
 | nil:dY R [] []
 | cons {a:α} {b:β} {l:List α} {m:List β}:R a b->dY R l m->dY R (a:: l) (b:: m)
theorem dY.imp {α β:Type} {R R':α->β->Prop} (h:∀a b,R a b->R' a b):∀{l:List α} {m:List β},dY R l m->dY R' l m
 | _,_,.nil=>.nil
 | _,_,.cons r t=>.cons (h _ _ r) (t.imp h)
theorem dY.length {α β:Type} {R:α->β->Prop}:∀{l:List α} {m:List β},dY R l m->l.length=m.length
 | _,_,.nil=>rfl
 | _,_,.cons _ t=>by rw [List.length_cons,List.length_cons,t.length]
theorem dY.app {α β:Type} {R:α->β->Prop}:∀{l l':List α} {m m':List β},dY R l m->dY R l' m'->dY R (l ++ l') (m ++ m')
 | _,_,_,_,.nil,h=>h
 | _,_,_,_,.cons r t,h=>.cons r (t.app h)
theorem dY.get {α β:Type} {R:α->β->Prop}:∀{l:List α} {m:List β},dY R l m->∀{i:Nat} {a:α},l[i]?=some a->∃b,m[i]?=some b/\R a b
 | _,_,.nil,_,_,h=>by simp at h
 | _,_,.cons r t,0,_,h=>by
  simp only [List.getElem?_cons_zero,Option.some.injEq] at h
  subst h
  exact⟨_,rfl,r⟩
 | _,_,.cons r t,i+1,_,h=>t.get (i:=i) (by simpa using h)
theorem dY.take {α β:Type} {R:α->β->Prop}:∀{l:List α} {m:List β},dY R l m->∀n:Nat,dY R (l.take n) (m.take n)
 | _,_,.nil,_=>by simp;exact .nil
 | _,_,.cons r t,0=>by simp;exact .nil
 | _,_,.cons r t,n+1=>by simp;exact .cons r (t.take n)
theorem dY.drop {α β:Type} {R:α->β->Prop}:∀{l:List α} {m:List β},dY R l m->∀n:Nat,dY R (l.drop n) (m.drop n)
 | _,_,.nil,_=>by simp;exact .nil
 | _,_,.cons r t,0=>.cons r t
 | _,_,.cons r t,n+1=>by simp;exact t.drop n
inductive vY (G:Hp) (v:V) (l:bB):Prop where
 | mk:∀q f,v=.ref q->G q=some (.tup [.str l.name,.int l.room,.ref f])->G f=some (.lst (l.first.map V.int))->vY G v l
inductive Dh (G:Hp) (v:V) (p:PD):Prop where
 | mk:∀q a1 a2 a3,v=.ref q->G q=some (.tup [.str (cu p.kind),.str p.name,.ref a1,.ref a2,.ref a3])->G a1=some (.lst (p.nums.map V.int))->G a2=some (.lst (p.ins.map V.str))->G a3=some (.lst (p.outs.map V.str))->Dh G v p
theorem vY.same {G G':Hp} {v:V} {l:bB} (h:vY G v l) (s:aM G G'):vY G' v l:=by
 obtain⟨q,f,e,h1,h2⟩:=h
 exact⟨q,f,e,s _ _ h1,s _ _ h2⟩
theorem Dh.same {G G':Hp} {v:V} {p:PD} (h:Dh G v p) (s:aM G G'):Dh G' v p:=by
 obtain⟨q,a1,a2,a3,e,h1,h2,h3,h4⟩:=h
 exact⟨q,a1,a2,a3,e,s _ _ h1,s _ _ h2,s _ _ h3,s _ _ h4⟩
structure Dw where
 S:Addr
 L:Addr
 P:Addr
 O:Addr
 c3:Int
 c4:Int
noncomputable abbrev Dw.E (d:Dw):List Addr:=[d.L,d.P,d.O]
structure lG (d:Dw) (H:Hp) (ls:List bB) (ps:List PD) (os:List Str):Prop where
 top:bQ d.E H d.S=some (.lst [.ref d.L,.ref d.P,.ref d.O,.int d.c3,.int d.c4])
 lanes:∃xs,H d.L=some (.lst xs)/\dY (vY (bQ d.E H)) xs ls
 parts:∃xs,H d.P=some (.lst xs)/\dY (Dh (bQ d.E H)) xs ps
 opens:H d.O=some (.lst (os.map V.str))
 ne:d.L≠d.P/\d.L≠d.O/\d.P≠d.O
 lok:∀l∈ls,l.ok
 pok:∀p∈ps,kW p
 ln:ls.map (·.name)=(List.range ls.length).map (cG d.c3)
 pn:ps.map (·.name)=(List.range ps.length).map (cG d.c4)
theorem lG.seqS {d:Dw} {H:Hp} {ls:List bB} {ps:List PD} {os:List Str} (D:lG d H ls ps os):bH K H d.S [.ref d.L,.ref d.P,.ref d.O,.int d.c3,.int d.c4]:=bH.of (lU _ _ D.top)
theorem lG.has {d:Dw} {H:Hp} {ls:List bB} {ps:List PD} {os:List Str} (D:lG d H ls ps os) {a:Addr} (h:a∈d.E):∃o,H a=some o:=by
 obtain⟨_,e1,_⟩:=D.lanes
 obtain⟨_,e2,_⟩:=D.parts
 rcases List.mem_cons.mp h with rfl | h
 ·exact⟨_,e1⟩
 ·rcases List.mem_cons.mp h with rfl | h
  ·exact⟨_,e2⟩
  ·rw [List.mem_singleton] at h
   subst h
   exact⟨_,D.opens⟩
theorem lG.out {d:Dw} {H:Hp} {ls:List bB} {ps:List PD} {os:List Str} (D:lG d H ls ps os) {p:Addr} (h:H p=none):p∉d.E:=λz=>by
 obtain⟨o,e⟩:=D.has z
 rw [h] at e
 cases e
theorem lG.keep {d:Dw} {H H':Hp} {ls:List bB} {ps:List PD} {os:List Str} (D:lG d H ls ps os) (s:aM H H'):lG d H' ls ps os:=by
 obtain⟨xs,e1,a1⟩:=D.lanes
 obtain⟨ys,e2,a2⟩:=D.parts
 have c:=IK (E:=d.E) s (λa h=>D.has h)
 exact⟨c _ _ D.top,⟨xs,s _ _ e1,a1.imp λ_ _ h=>h.same c⟩,⟨ys,s _ _ e2,a2.imp λ_ _ h=>h.same c⟩,s _ _ D.opens,D.ne,D.lok,D.pok,D.ln,D.pn⟩
theorem lG.cut {d:Dw} {H H':Hp} {ls:List bB} {ps:List PD} {os:List Str} (D:lG d H ls ps os) (s:aM H H'):aM (bQ d.E H) (bQ d.E H'):=IK s (λ_ h=>D.has h)
theorem Fx {α:Type} {f:α->Str} {w:Nat->Str} {l:List α} {x:α} (h:l.map f=(List.range l.length).map w) (hx:f x=w l.length):(l ++ [x]).map f=(List.range (l ++ [x]).length).map w:=by
 rw [List.map_append,lP,List.length_singleton,List.range_succ,List.map_append,h,List.map_singleton,List.map_singleton,hx]
theorem lG.lane {d:Dw} {H:Hp} {ls:List bB} {ps:List PD} {os:List Str} (D:lG d H ls ps os) {v:V} {l:bB} (h:vY (bQ d.E H) v l) (hl:l.ok) (hn:l.name=cG d.c3 ls.length) {xs:List V} (e:H d.L=some (.lst xs)):
  lG d (upd H d.L (.lst (xs ++ [v]))) (ls ++ [l]) ps os:=by
 obtain⟨xs',e1,a1⟩:=D.lanes
 obtain⟨ys,e2,a2⟩:=D.parts
 rw [e] at e1
 cases e1
 have c:bQ d.E (upd H d.L (.lst (xs ++ [v])))=bQ d.E H:=eG (by simp)
 refine⟨by rw [c];exact D.top,⟨_,aq,by rw [c];exact a1.app (.cons h .nil)⟩,⟨ys,by rw [aD (Ne.symm D.ne.1)];exact e2,by rw [c];exact a2⟩,by rw [aD (Ne.symm D.ne.2.1)];exact D.opens,D.ne,λx hx=>?_,D.pok,Fx D.ln hn,D.pn⟩
 rcases List.mem_append.mp hx with hx | hx
 ·exact D.lok x hx
 ·rw [List.mem_singleton] at hx
  subst hx
  exact hl
theorem lG.part {d:Dw} {H:Hp} {ls:List bB} {ps:List PD} {os:List Str} (D:lG d H ls ps os) {v:V} {p:PD} (h:Dh (bQ d.E H) v p) (hl:kW p) (hn:p.name=cG d.c4 ps.length) {xs:List V} (e:H d.P=some (.lst xs)):
  lG d (upd H d.P (.lst (xs ++ [v]))) ls (ps ++ [p]) os:=by
 obtain⟨xs',e1,a1⟩:=D.lanes
 obtain⟨ys,e2,a2⟩:=D.parts
 rw [e] at e2
 cases e2
 have c:bQ d.E (upd H d.P (.lst (xs ++ [v])))=bQ d.E H:=eG (by simp)
 refine⟨by rw [c];exact D.top,⟨_,by rw [aD D.ne.1];exact e1,by rw [c];exact a1⟩,⟨_,aq,by rw [c];exact a2.app (.cons h .nil)⟩,by rw [aD (Ne.symm D.ne.2.2)];exact D.opens,D.ne,D.lok,λx hx=>?_,D.ln,Fx D.pn hn⟩
 rcases List.mem_append.mp hx with hx | hx
 ·exact D.pok x hx
 ·rw [List.mem_singleton] at hx
  subst hx
  exact hl
theorem lG.open {d:Dw} {H:Hp} {ls:List bB} {ps:List PD} {os os':List Str} (D:lG d H ls ps os):lG d (upd H d.O (.lst (os'.map V.str))) ls ps os':=by
 obtain⟨xs,e1,a1⟩:=D.lanes
 obtain⟨ys,e2,a2⟩:=D.parts
 have c:bQ d.E (upd H d.O (.lst (os'.map V.str)))=bQ d.E H:=eG (by simp)
 exact⟨by rw [c];exact D.top,⟨xs,by rw [aD D.ne.2.1];exact e1,by rw [c];exact a1⟩,⟨ys,by rw [aD D.ne.2.2];exact e2,by rw [c];exact a2⟩,aq,D.ne,D.lok,D.pok,D.ln,D.pn⟩
theorem zx (a:Int) {n:Nat} (h:n<=26):((List.range n).map (cG a)).Nodup:=by
 induction n with
 | zero=>exact List.nodup_nil
 | succ n ih=>
  rw [List.range_succ,List.map_append,List.nodup_append]
  refine⟨ih (by lia),by simp,λx hx y hy=>?_⟩
  obtain⟨j,hj,rfl⟩:=List.mem_map.mp hx
  rw [List.map_singleton,List.mem_singleton] at hy
  subst hy
  have hj':=List.mem_range.mp hj
  intro z
  have:=Jc a (by lia) (by lia) z
  lia
noncomputable abbrev sS (ls:List bB) (ps:List PD) (os back:List Str):Drawn.NS Str:=⟨ls.map (·.name),ps,os,back⟩
theorem lG.nod {d:Dw} {H:Hp} {ls:List bB} {ps:List PD} {os:List Str} (D:lG d H ls ps os) (h:ls.length<=26):(ls.map (·.name)).Nodup:=by
 rw [D.ln]
 exact zx _ h
theorem UW {ns:Drawn.NS Str} (w:Drawn.WF ns) {os:List Str} (h:ns.opens.Perm os):Drawn.WF { ns with opens:=os }:=
 ⟨w.nod,w.outs,(h.symm.append_left _).trans w.ins,λp hp=>by
  obtain⟨x,hx,o,ho,c⟩:=w.hang p hp
  exact⟨x,hx,o,h.mem_iff.mp ho,c⟩,w.touch⟩
theorem pM {d:Dw} {H:Hp} {ls newl:List bB} {ps:List PD} {p:PD} {os ops back:List Str} (w:Drawn.WF (sS ls ps ops back)) (ho:p.outs=newl.map (·.name)) (D:lG d H (ls ++ newl) (ps ++ [p]) (os ++ newl.map (·.name))) (hi:ops.Perm (p.ins ++ os)) (hne:newl.length≠0) (hl:(ls ++ newl).length<=26):
  Drawn.WF (sS (ls ++ newl) (ps ++ [p]) (os ++ newl.map (·.name)) back):=by
 have nd:=D.nod hl
 rw [List.map_append] at nd
 have:=w.part (p:=p) hi (by rw [ho];exact nd) (by rw [ho];intro z;exact hne (by rw [<-lM (f:=λl:bB=>l.name),z];rfl))
 rw [ho] at this
 unfold sS
 rw [List.map_append]
 exact this
structure X4 (d:Dw) (H H':Hp) (ls:List bB) (ps:List PD) (back:List Str) (ls':List bB) (ps':List PD) (os':List Str):Prop where
 cut:aM (bQ d.E H) (bQ d.E H')
 at':lG d H' ls' ps' os'
 wf:Drawn.WF (sS ls' ps' os' back)
 o1:1<=os'.length
 o4:os'.length<=4
 l2:ls'.length<=ls.length+2
 p2:ps'.length<=ps.length+2
theorem Ds {c X Y B:Prop} [Decidable c] (k:B) (hx:c->B->X) (hy:B->Y):if c then X else Y:=by
 split
 ·rename_i h;exact hx h k
 ·exact hy k
theorem hide {t u:TS} {D:Ends} {σ:St} {H:Hp} (h:∀v,v=u->wU t v D σ H):wU t u D σ H:=h u rfl
theorem Oh {i:Nat} {x:V} {t u:TS} {D:Ends} {σ:St} {H:Hp} (h:∀E,E=D->∀v,v=u->wU t v E (σ.set i (some x)) H):vg i x σ H λσ2 H2=>wU t u D σ2 H2:=h D rfl u rfl
theorem Th {i:Nat} {x:V} {t:TS} {D:Ends} {σ:St} {H:Hp} (h:∀E,E=D->t E (σ.set i (some x)) H):vg i x σ H λσ2 H2=>t D σ2 H2:=h D rfl
theorem Xg {t u:TS} {D:Ends} {σ:St} {H:Hp} (h:∀E,E=D->∀v,v=u->wU t v E σ H):wU t u D σ H:=h D rfl u rfl
theorem cM {t u v:TS} {D:Ends} {σ:St} {H:Hp} (hv:v=wU t u) (h:∀w,w=u->wU t w D σ H):v D σ H:=by
 subst hv
 exact h u rfl
theorem lG.two {d:Dw} {H:Hp} {ls:List bB} {ps:List PD} {os:List Str} (D:lG d H ls ps os) {a1 a2:Addr} {x y:HO} (n1:H a1=none) (n2:upd H a1 x a2=none):
  lG d (upd (upd H a1 x) a2 y) ls ps os/\bQ d.E (upd (upd H a1 x) a2 y) a1=some x/\bQ d.E (upd (upd H a1 x) a2 y) a2=some y/\aM (bQ d.E H) (bQ d.E (upd (upd H a1 x) a2 y)):=by
 have s1:=aC (o:=x) n1
 have s2:=aC (o:=y) n2
 have s:=s1.trans s2
 exact⟨D.keep s,jG (s2 _ _ aq) (D.out n1),jG aq (D.out (s1.free n2)),D.cut s⟩
structure Ec (lanes:List Str) (ps:List PD):Prop where
 nod:lanes.Nodup
 outs:(ps.flatMap (·.outs)).Perm lanes
 ins:(ps.flatMap (·.ins)).Perm lanes
 hang:∃y,∀q∈ps,∃x∈q.ins ++ q.outs,Drawn.iw ps x y
noncomputable def Pj (H:Hp) (a:Addr):Nat:=match H a with
 | some (.lst xs)=>xs.length
 | _=>0
theorem Jk {H:Hp} {a:Addr} {xs:List V} (h:H a=some (.lst xs)):Pj H a=xs.length:=by
 unfold Pj
 rw [h]
theorem J6 (m:Int) {n:Int} {k:Nat} (h0:0 <n) (hk:n=k):∃j:Nat,m % n=(j:Int)/\j <k:=by
 have h1:=Int.emod_nonneg m (Int.ne_of_gt h0)
 have h2:=Int.emod_lt_of_pos m h0
 exact⟨(m % n).toNat,(Int.toNat_of_nonneg h1).symm,by lia⟩
theorem Wg (m:Int):∃i:Nat,DW [V.str "add",V.str "less",V.str "add"] (m % 3)=some (.str (cu i))/\(i=6∨i=7):=by
 have key:∀j,j <3->DW [V.str "add",V.str "less",V.str "add"] ((j:Nat):Int)=some (.str (cu (([6,7,6]:List Nat).getD j 0)))/\(([6,7,6]:List Nat).getD j 0=6∨([6,7,6]:List Nat).getD j 0=7):=by decide +kernel
 obtain⟨j,e,hj⟩:=J6 m (n:=3) (k:=3) (by decide) rfl
 rw [e]
 exact⟨_,key j hj⟩
structure Pq (c3 c4:Int) (ls:List bB) (ps:List PD):Prop where
 lok:∀l∈ls,l.ok
 pok:∀p∈ps,kW p
 ln:ls.map (·.name)=(List.range ls.length).map (cG c3)
 pn:((List.range ps.length).map (cG c4)).Perm (ps.map (·.name))
 whole:Ec (ls.map (·.name)) ps
 l1:1<=ls.length
 l17:ls.length<=17
 p1:1<=ps.length
 p16:ps.length<=16
structure El (H:Hp) (L P:Addr) (ls:List bB) (ps:List PD):Prop where
 lanes:∃xs,H L=some (.lst xs)/\dY (vY H) xs ls
 parts:∃xs,H P=some (.lst xs)/\dY (Dh H) xs ps
theorem El.same {H H':Hp} {L P:Addr} {ls:List bB} {ps:List PD} (h:El H L P ls ps) (s:aM H H'):El H' L P ls ps:=by
 obtain⟨⟨xs,e1,a1⟩,⟨ys,e2,a2⟩⟩:=h
 exact⟨⟨xs,s _ _ e1,a1.imp λ_ _ h=>h.same s⟩,⟨ys,s _ _ e2,a2.imp λ_ _ h=>h.same s⟩⟩
theorem Mt {ps qs:List PD} (h:ps.Perm qs) {x y:Str} (c:Drawn.iw ps x y):Drawn.iw qs x y:=c.mono λ_ hp=>h.mem_iff.mp hp
theorem Ec.perm {ns:List Str} {ps qs:List PD} (w:Ec ns ps) (h:ps.Perm qs):Ec ns qs:=by
 obtain⟨y,hy⟩:=w.hang
 exact⟨w.nod,(h.symm.flatMap_right _).trans w.outs,(h.symm.flatMap_right _).trans w.ins,y,λq hq=>by
  obtain⟨x,hx,c⟩:=hy q (h.mem_iff.mpr hq)
  exact⟨x,hx,Mt h c⟩⟩
theorem Qc {α:Type} (l:List α) (n:Nat):l.Perm (l.drop n ++ l.take n):=by
 have h:l.Perm (l.take n ++ l.drop n):=by rw [List.take_append_drop]
 exact h.trans List.perm_append_comm
theorem MN (xs:List V) (g:Nat):Bq xs (some (g:Int)) none=xs.drop g:=by
 unfold Bq
 rw [HT.Ji,HT.Lh,<-List.length_drop,List.take_length]
 rcases Nat.le_total g xs.length with h | h
 ·rw [Nat.min_eq_left h]
 ·rw [Nat.min_eq_right h,List.drop_length,List.drop_eq_nil_of_le h]
theorem Rq (xs:List V) (g:Nat):Bq xs none (some (g:Int))=xs.take g:=by
 unfold Bq
 rw [HT.Ji,HT.Lh,List.drop_zero,Nat.sub_zero]
 rcases Nat.le_total g xs.length with h | h
 ·rw [Nat.min_eq_left h]
 ·rw [Nat.min_eq_right h,List.take_length,List.take_of_length_le h]
theorem lG.init {H:Hp} {S L P O:Addr} (c3 c4:Int) (nL:H L=none) (nP:upd H L (.lst []) P=none) (nO:upd (upd H L (.lst [])) P (.lst []) O=none) (nS:upd (upd (upd H L (.lst [])) P (.lst [])) O (.lst []) S=none):
  lG ⟨S,L,P,O,c3,c4⟩ (upd (upd (upd (upd H L (.lst [])) P (.lst [])) O (.lst [])) S (.lst [.ref L,.ref P,.ref O,.int c3,.int c4])) [] [] []/\aM H (bQ [L,P,O] (upd (upd (upd (upd H L (.lst [])) P (.lst [])) O (.lst [])) S (.lst [.ref L,.ref P,.ref O,.int c3,.int c4])))/\H P=none:=by
 have s1:=aC (o:=.lst []) nL
 have s2:=aC (o:=.lst []) nP
 have s3:=aC (o:=.lst []) nO
 have s4:=aC (o:=.lst [.ref L,.ref P,.ref O,.int c3,.int c4]) nS
 have e1:=s4 _ _ (s3 _ _ (s2 L (.lst []) aq))
 have e2:=s4 _ _ (s3 P (.lst []) aq)
 have e3:=s4 O (.lst []) aq
 have n1:L≠P:=aB (aq (H:=H) (o:=.lst [])) nP
 have n2:L≠O:=aB (s2 L (.lst []) aq) nO
 have n3:P≠O:=aB (aq (H:=upd H L (.lst [])) (o:=.lst [])) nO
 have m1:L≠S:=aB (s3 _ _ (s2 L (.lst []) aq)) nS
 have m2:P≠S:=aB (s3 P (.lst []) aq) nS
 have m3:O≠S:=aB (aq (H:=upd (upd H L (.lst [])) P (.lst [])) (o:=.lst [])) nS
 refine⟨⟨jG aq ?_,⟨[],e1,.nil⟩,⟨[],e2,.nil⟩,e3,⟨n1,n2,n3⟩,(λ_ h=>by cases h),(λ_ h=>by cases h),rfl,rfl⟩,λb o e=>jG (s4 _ _ (s3 _ _ (s2 _ _ (s1 _ _ e)))) ?_,s1.free nP⟩
 ·show S∉[L,P,O]
  simp [m1.symm,m2.symm,m3.symm]
 ·have q1:=aB e nL
  have q2:=aB (s1 _ _ e) nP
  have q3:=aB (s2 _ _ (s1 _ _ e)) nO
  simp [q1,q2,q3]
noncomputable abbrev LET:Str:= "abcdefghijklmnopqrstuvwxyz"
noncomputable abbrev X3:Str:= "0123456789"
theorem Nf:LET.cps.toList=List.range' 97 26:=by decide +kernel
theorem Mv:X3.cps.toList=List.range' 48 10:=by decide +kernel
theorem N6 (c:Nat):(!(Builtin.Str.occurrences LET ⟨#[c]⟩ 0 LET.length 1).isEmpty)=low c:=by
 rw [StrLaws.found_one,Nf]
 unfold low
 rw [Bool.eq_iff_iff]
 simp [List.mem_range'_1]
 lia
theorem Qq (c:Nat):(!(Builtin.Str.occurrences X3 ⟨#[c]⟩ 0 X3.length 1).isEmpty)=rM c:=by
 rw [StrLaws.found_one,Mv]
 unfold rM
 rw [Bool.eq_iff_iff]
 simp [List.mem_range'_1]
 lia
structure XN (ms:List Str) (want:List (Str×V)) (fs:List (Str×V)):Prop where
 has:∀p∈want,fs.lookup p.1=some p.2
 no:∀m∈ms,fs.lookup m=none
theorem pN {H:Hp} {d:Addr} {kvs:List (Key×V)} {v:HO} (e:H d=some (.dK kvs)) {b:Addr} {u:HO} (h:H b=some u) (hu:∀ks,u≠.dK ks):upd H d v b=some u:=by
 rw [aD]
 ·exact h
 ·rintro rfl
  rw [e] at h
  exact hu _ (Option.some.inj h).symm
theorem eQ {H:Hp} {d a:Addr} {kvs:List (Key×V)} {v:HO} {xs:List V} (e:H d=some (.dK kvs)) (h:d7 K H a xs):d7 K (upd H d v) a xs:=by
 rcases h with (h | ⟨o,h⟩) | h
 ·exact .inl (.inl (pN e h (by intro _ z;cases z)))
 ·exact .inl (.inr ⟨o,pN e h (by intro _ z;cases z)⟩)
 ·exact .inr h
theorem iM.chill {H:Hp} {d p:Addr} {kvs:List (Key×V)} {v:HO} {i:Nat} {nm:V} {ns is os:List V} (e:H d=some (.dK kvs)) (h:iM K t H p i nm ns is os):iM K t (upd H d v) p i nm ns is os:=by
 obtain⟨dx,tn,ti,to,h1,h2,h3,h4⟩:=h
 exact⟨dx,tn,ti,to,pN e h1 (by intro _ z;cases z),eQ e h2,eQ e h3,eQ e h4⟩
theorem Bg {H:Hp} {d D:Addr} {v:HO} (hD:(upd H d v) D=none):H D=none:=by
 by_cases h:D=d
 ·subst h;rw [aq] at hD;cases hD
 ·rw [aD h] at hD;exact hD
theorem Gy {H:Hp} {a:Addr} {o:HO} (e:H a=some o):upd H a o=H:=by
 funext b
 unfold upd
 split
 ·rename_i h;rw [h];exact e.symm
 ·rfl
theorem uc {κ:Type} [DecidableEq κ] {kvs:List (κ×V)} {k:κ} (h:k∉kvs.map (·.1)):bx kvs k=none:=by
 induction kvs with
 | nil=>rfl
 | cons p r ih=>
  simp only [List.map_cons,List.mem_cons,not_or] at h
  rw [fj (Ne.symm h.1)]
  exact ih h.2
theorem pQ {κ:Type} [DecidableEq κ] {kvs:List (κ×V)} {k:κ} {v:V} (nd:(kvs.map (·.1)).Nodup) (h:(k,v)∈kvs):bx kvs k=some v:=by
 induction kvs with
 | nil=>cases h
 | cons p r ih=>
  simp only [List.map_cons,List.nodup_cons] at nd
  rcases List.mem_cons.mp h with h | h
  ·subst h
   exact fV rfl
  ·have:¬p.1=k:=λz=>nd.1 (List.mem_map.mpr ⟨_,h,z.symm⟩)
   rw [fj this]
   exact ih nd.2 h
noncomputable def bC (f:PD->List Str) (ps:List PD):List (Key×V):=ps.flatMap λp=>(f p).map λl=>((Sum.inr l:Key),V.str p.name)
theorem Cj (f:PD->List Str) (ps:List PD):(bC f ps).map (·.1)=(ps.flatMap f).map (λl=>(Sum.inr l:Key)):=by
 induction ps with
 | nil=>rfl
 | cons p r ih=>
  unfold bC at ih ⊢
  simp only [List.flatMap_cons,List.map_append,ih,List.map_map]
  rfl
theorem uI {l:List Str} (h:l.Nodup):(l.map (λx=>(Sum.inr x:Key))).Nodup:=by
 induction l with
 | nil=>exact List.nodup_nil
 | cons a r ih=>
  simp only [List.map_cons,List.nodup_cons,List.mem_map] at h ⊢
  refine⟨?_,ih h.2⟩
  rintro⟨b,hb,e⟩
  cases e
  exact h.1 hb
theorem fc {f:PD->List Str} {ps:List PD} (nd:(ps.flatMap f).Nodup) {p:PD} (hp:p∈ps) {l:Str} (hl:l∈f p):bx (bC f ps) (Sum.inr l)=some (.str p.name):=
 pQ (by rw [Cj];exact uI nd) (List.mem_flatMap.mpr ⟨p,hp,List.mem_map.mpr ⟨l,hl,rfl⟩⟩)
theorem Ft (f:PD->List Str) (ps:List PD):(bC f ps).length=(ps.flatMap f).length:=by
 have:=congrArg List.length (Cj f ps)
 simpa using this
theorem Aw (f:PD->List Str) (ps:List PD) (p:PD):bC f (ps ++ [p])=bC f ps ++ (f p).map λl=>((Sum.inr l:Key),V.str p.name):=by
 unfold bC
 rw [List.flatMap_append]
 simp
theorem LQ {α:Type} {f g:α->Bool}:∀{l:List α},(∀a∈l,g a=true->f a=true)->(∃a∈l,f a=true/\g a=false)->(l.filter g).length <(l.filter f).length
 | [],_,h=>by obtain⟨a,ha,_⟩:=h;cases ha
 | x:: r,h,h2=>by
  have le:∀r:List α,(∀a∈r,g a=true->f a=true)->(r.filter g).length<=(r.filter f).length:=λr=>by
   induction r with
   | nil=>intro _;exact Nat.le_refl _
   | cons y t ih=>
    intro q
    have:=ih λa ha=>q a (List.mem_cons_of_mem _ ha)
    have q0:=q y List.mem_cons_self
    rw [List.filter_cons,List.filter_cons]
    cases hg:g y
    ·simp only [Bool.false_eq_true,if_false]
     split
     ·rw [List.length_cons];lia
     ·exact this
    ·rw [q0 hg]
     simp only [if_true,List.length_cons]
     lia
  obtain⟨a,ha,hf,hg⟩:=h2
  have hr:=λa ha=>h a (List.mem_cons_of_mem x ha)
  rw [List.filter_cons,List.filter_cons]
  rcases List.mem_cons.mp ha with rfl | ha
  ·rw [hf,hg]
   have:=le r hr
   simp
   lia
  ·have ih:=LQ hr ⟨a,ha,hf,hg⟩
   have q0:=h x List.mem_cons_self
   cases hx:g x
   ·simp only [Bool.false_eq_true,if_false]
    split
    ·rw [List.length_cons];lia
    ·exact ih
   ·rw [q0 hx]
    simp only [if_true,List.length_cons]
    lia
noncomputable def dJ (jk:List (Key×V)) (x:Str):Bool:=(bx jk (Sum.inr x)).isSome
noncomputable def lX (ps:List PD) (jk:List (Key×V)):Nat:=(ps.filter λp=>!dJ jk p.name).length
theorem Bt (jk:List (Key×V)) (x y:Str) (v:V):dJ (putK jk (Sum.inr x) v) y=(decide (y=x) || dJ jk y):=by
 unfold dJ
 rw [O8]
 by_cases h:y=x
 ·subst h;simp
 ·have:¬(Sum.inr y:Key)=Sum.inr x:=λz=>h (Sum.inr.inj z)
  rw [if_neg this]
  simp [h]
theorem Jh {ps:List PD} {jk jk':List (Key×V)} (h:∀x,dJ jk x=true->dJ jk' x=true) {p:PD} (hp:p∈ps) (h1:dJ jk p.name=false) (h2:dJ jk' p.name=true):lX ps jk' <lX ps jk:=by
 refine LQ (λa _ q=>?_) ⟨p,hp,by simp [h1],by simp [h2]⟩
 cases hj:dJ jk a.name
 ·rfl
 ·rw [h _ hj] at q;cases q
theorem V6 {ps:List PD} (pm:(ps.flatMap (·.outs)).Perm (ps.flatMap (·.ins))) {l:Str} (h:l∈ps.flatMap (·.outs)):∃a∈ps,∃b∈ps,l∈a.outs/\l∈b.ins:=by
 obtain⟨a,ha,hl⟩:=List.mem_flatMap.mp h
 obtain⟨b,hb,hl2⟩:=List.mem_flatMap.mp (pm.mem_iff.mp h)
 exact⟨a,ha,b,hb,hl,hl2⟩
structure Oi (ls:List bB) (ps:List PD):Prop where
 lok:∀l∈ls,1<=l.room/\l.room<=199/\(l.first.length:Int)<=l.room/\∀v∈l.first,0<=v/\v <1000000000
 pok:∀p∈ps,kW p
 lnm:∀l∈ls,nameB l.name=true
 pnm:∀p∈ps,nameB p.name=true
 pnd:(ps.map (·.name)).Nodup
 whole:Ec (ls.map (·.name)) ps
 l1:1<=ls.length
 l24:ls.length<=24
 p1:1<=ps.length
 p16:ps.length<=16
theorem Ho {c:Int} {n:Nat} (hn:n<=26) {x:Str} (h:x∈(List.range n).map (cG c)):∃k,k <n/\x=cG c k:=by
 obtain⟨k,hk,rfl⟩:=List.mem_map.mp h
 exact⟨k,List.mem_range.mp hk,rfl⟩
theorem Pq.fit {c3 c4:Int} {ls:List bB} {ps:List PD} (h:Pq c3 c4 ls ps):Oi ls ps:=by
 have a:=h.l17
 have b:=h.p16
 refine⟨λl hl=>?_,h.pok,λl hl=>?_,λp hp=>?_,?_,h.whole,h.l1,by lia,h.p1,h.p16⟩
 ·obtain⟨x1,x2,x3,x4⟩:=h.lok l hl
  exact⟨x1,by lia,x3,x4⟩
 ·obtain⟨k,hk,e⟩:=Ho (c:=c3) (n:=ls.length) (by lia) (by rw [<-h.ln];exact List.mem_map.mpr ⟨l,hl,rfl⟩)
  rw [e]
  exact Lj _ (by lia)
 ·obtain⟨k,hk,e⟩:=Ho (c:=c4) (n:=ps.length) (by lia) (h.pn.mem_iff.mpr (List.mem_map.mpr ⟨p,hp,rfl⟩))
  rw [e]
  exact Lj _ (by lia)
 ·exact h.pn.nodup_iff.mp (zx _ (by lia))
theorem Pq.lane20 {c3 c4:Int} {ls:List bB} {ps:List PD} (h:Pq c3 c4 ls ps):cG c3 20∉ls.map (·.name):=λz=>by
 have a:=h.l17
 rw [h.ln] at z
 obtain⟨k,hk,e⟩:=Ho (by lia) z
 have:=Jc _ (by lia) (by lia) e
 lia
noncomputable def aR (ls:List bB):List (Key×V):=ls.map λl=>((Sum.inr l.name:Key),V.int l.room)
noncomputable def eV (FL:List (bB×Addr)):List (Key×V):=FL.map λq=>((Sum.inr q.1.name:Key),V.ref q.2)
noncomputable def dm (PL:List (PD×Addr)):List (Key×V):=PL.map λq=>((Sum.inr q.1.name:Key),V.ref q.2)
theorem j6 (ls:List bB):(aR ls).map (·.1)=(ls.map (·.name)).map (λx=>(Sum.inr x:Key)):=by unfold aR;rw [List.map_map,List.map_map];rfl
theorem wJ (FL:List (bB×Addr)):(eV FL).map (·.1)=((FL.map (·.1)).map (·.name)).map (λx=>(Sum.inr x:Key)):=by unfold eV;rw [List.map_map,List.map_map,List.map_map];rfl
theorem sZ (PL:List (PD×Addr)):(dm PL).map (·.1)=((PL.map (·.1)).map (·.name)).map (λx=>(Sum.inr x:Key)):=by unfold dm;rw [List.map_map,List.map_map,List.map_map];rfl
structure wI (K:PySem.W.Frag) (t:Af) (H:Hp) (n:Addr) (ls:List bB) (ps:List PD) (dx:Addr) (fs:List (Str×V)) (R F Pd G Tk:Addr) (FL:List (bB×Addr)) (PL:List (PD×Addr)):Prop where
 obj:H n=some (.ins t.cZ dx fs)
 fl:XN ["told", "__init__"] [("rooms",.ref R),("firsts",.ref F),("parts",.ref Pd),("givers",.ref G),("takers",.ref Tk)] fs
 rooms:H R=some (.dK (aR ls))
 firsts:H F=some (.dK (eV FL))
 parts:H Pd=some (.dK (dm PL))
 givers:H G=some (.dK (bC (·.outs) ps))
 takers:H Tk=some (.dK (bC (·.ins) ps))
 fls:FL.map (·.1)=ls
 pls:PL.map (·.1)=ps
 tups:∀q∈FL,d7 K H q.2 (q.1.first.map V.int)
 pats:∀q∈PL,iM K t H q.2 q.1.kind (.str q.1.name) (q.1.nums.map V.int) (q.1.ins.map V.str) (q.1.outs.map V.str)
 fit:Oi ls ps
 neRF:R≠F
inductive J0 (K:PySem.W.Frag) (t:Af) (H:Hp) (n:Addr) (ls:List bB) (ps:List PD):Prop where
 | mk:∀dx fs R F Pd G Tk FL PL,wI K t H n ls ps dx fs R F Pd G Tk FL PL->J0 K t H n ls ps
section
variable {H H':Hp} {n dx R F Pd G Tk:Addr} {ls:List bB} {ps:List PD} {fs:List (Str×V)} {FL:List (bB×Addr)} {PL:List (PD×Addr)}
theorem wI.same (N:wI K t H n ls ps dx fs R F Pd G Tk FL PL) (s:aM H H'):wI K t H' n ls ps dx fs R F Pd G Tk FL PL:=
 ⟨s _ _ N.obj,N.fl,s _ _ N.rooms,s _ _ N.firsts,s _ _ N.parts,s _ _ N.givers,s _ _ N.takers,N.fls,N.pls,λq hq=>s.seqT (N.tups q hq),λq hq=>(N.pats q hq).same s,N.fit,N.neRF⟩
theorem J0.same (N:J0 K t H n ls ps) (s:aM H H'):J0 K t H' n ls ps:=by
 obtain⟨dx,fs,R,F,Pd,G,Tk,FL,PL,N⟩:=N
 exact⟨dx,fs,R,F,Pd,G,Tk,FL,PL,N.same s⟩
theorem wI.s (N:wI K t H n ls ps dx fs R F Pd G Tk FL PL):J0 K t H n ls ps:=⟨dx,fs,R,F,Pd,G,Tk,FL,PL,N⟩
theorem wI.room (N:wI K t H n ls ps dx fs R F Pd G Tk FL PL) {l:bB} (hl:l∈ls):bx (aR ls) (Sum.inr l.name)=some (.int l.room):=
 pQ (by rw [j6];exact uI N.fit.whole.nod) (List.mem_map.mpr ⟨l,hl,rfl⟩)
theorem wI.firstV (N:wI K t H n ls ps dx fs R F Pd G Tk FL PL) {q:bB×Addr} (hq:q∈FL):bx (eV FL) (Sum.inr q.1.name)=some (.ref q.2):=
 pQ (by rw [wJ,N.fls];exact uI N.fit.whole.nod) (List.mem_map.mpr ⟨q,hq,rfl⟩)
theorem wI.partV (N:wI K t H n ls ps dx fs R F Pd G Tk FL PL) {q:PD×Addr} (hq:q∈PL):bx (dm PL) (Sum.inr q.1.name)=some (.ref q.2):=
 pQ (by rw [sZ,N.pls];exact uI N.fit.pnd) (List.mem_map.mpr ⟨q,hq,rfl⟩)
theorem wI.ini (N:wI K t H n ls ps dx fs R F Pd G Tk FL PL):(ps.flatMap (·.ins)).Nodup:=N.fit.whole.ins.nodup_iff.mpr N.fit.whole.nod
end
theorem Pu {α:Type} {f:α->Str} {xs:List α} {x:Str}:inV (.str x) (xs.map λp=>V.str (f p))=decide (x∈xs.map f):=by
 rw [Bool.eq_iff_iff]
 unfold inV
 rw [List.any_eq_true,decide_eq_true_eq]
 constructor
 ·rintro⟨v,hv,e⟩
  obtain⟨p,hp,rfl⟩:=List.mem_map.mp hv
  exact List.mem_map.mpr ⟨p,hp,by simpa [Q6] using e⟩
 ·intro h
  obtain⟨p,hp,rfl⟩:=List.mem_map.mp h
  exact⟨.str (f p),List.mem_map.mpr ⟨p,hp,rfl⟩,by simp [Q6]⟩
theorem raised {H:Hp} {x C dx:Addr} {fs:List (Str×V)} (nx:H x=none) (nd:(upd H x (mH x C)) dx=none) (ne:dx≠x):
  aM H (del (upd (upd (upd H x (mH x C)) x (rH x C dx)) dx (.xd fs)) x)/\(del (upd (upd (upd H x (mH x C)) x (rH x C dx)) dx (.xd fs)) x) dx=some (.xd fs):=by
 constructor
 ·intro b o e
  have b1:b≠x:=aB e nx
  have b2:b≠dx:=aB e (by rw [aD ne] at nd;exact nd)
  rw [Bm b1,aD b2,aD b1,aD b1]
  exact e
 ·rw [Bm ne];exact aq
noncomputable def ofKd (ps:List PD) (x:Str):List V:=(ps.filter λp=>decide (cu p.kind=x)).map λp=>V.str p.name
noncomputable def XS (p:PD):Bool:=decide (cu p.kind= "choose") || decide (cu p.kind= "split")
noncomputable def oddN (ps:List PD):V:=match ps.find? XS with
 | some p=>.str p.name
 | none=>.non
inductive vB (K:PySem.W.Frag) (H:Hp) (v:V) (l:bB):Prop where
 | mk:∀q f,v=.ref q->H q=some (.tup [.str l.name,.int l.room,.ref f])->d7 K H f (l.first.map V.int)->vB K H v l
inductive Hw (K:PySem.W.Frag) (H:Hp) (v:V) (p:PD):Prop where
 | mk:∀q a1 a2 a3,v=.ref q->H q=some (.tup [.str (cu p.kind),.str p.name,.ref a1,.ref a2,.ref a3])->d7 K H a1 (p.nums.map V.int)->d7 K H a2 (p.ins.map V.str)->d7 K H a3 (p.outs.map V.str)->Hw K H v p
theorem vB.same {H H':Hp} {v:V} {l:bB} (h:vB K H v l) (s:aM H H'):vB K H' v l:=by
 obtain⟨q,f,e,h1,h2⟩:=h
 exact⟨q,f,e,s _ _ h1,s.seqT h2⟩
theorem Hw.same {H H':Hp} {v:V} {p:PD} (h:Hw K H v p) (s:aM H H'):Hw K H' v p:=by
 obtain⟨q,a1,a2,a3,e,h1,h2,h3,h4⟩:=h
 exact⟨q,a1,a2,a3,e,s _ _ h1,s.seqT h2,s.seqT h3,s.seqT h4⟩
structure vM (K:PySem.W.Frag) (H:Hp) (T a b:Addr) (ls:List bB) (ps:List PD):Prop where
 tup:H T=some (.tup [.ref a,.ref b])
 lanes:∃xs,H a=some (.lst xs)/\dY (vB K H) xs ls
 parts:∃xs,H b=some (.lst xs)/\dY (Hw K H) xs ps
theorem vM.same {H H':Hp} {T a b:Addr} {ls:List bB} {ps:List PD} (h:vM K H T a b ls ps) (s:aM H H'):vM K H' T a b ls ps:=by
 obtain⟨h1,⟨xs,e1,a1⟩,⟨ys,e2,a2⟩⟩:=h
 exact⟨s _ _ h1,⟨xs,s _ _ e1,a1.imp λ_ _ h=>h.same s⟩,⟨ys,s _ _ e2,a2.imp λ_ _ h=>h.same s⟩⟩
theorem yN {H H':Hp} {d:Addr} {kvs:List (Key×V)} {o:Obj} (e:H d=some (.dK kvs)) (s:aM (upd H d (.frz o (.dK kvs))) H'):aM H (upd H' d (.dK kvs)):=λb u q=>by
 by_cases h:b=d
 ·subst h;rw [aq];rw [e] at q;exact q
 ·rw [aD h];exact s b u (by rw [aD h];exact q)
theorem wZ {H H':Hp} {d:Addr} {x:HO} (s:aM H H'):aM (upd H d x) (upd H' d x):=λb u q=>by
 by_cases h:b=d
 ·subst h;rw [aq] at q ⊢;exact q
 ·rw [aD h] at q ⊢;exact s b u q
structure Tr (H:Hp) (f:Addr) (L:List (Addr×HO)) (Hk:Hp):Prop where
 but:iI f H Hk
 all:∀p∈L,Hk p.1=some p.2
 fre:∀p∈L,p.1=f∨H p.1=none
 nod:(L.map Prod.fst).Nodup
 obj:∃o,(f,o)∈L
theorem Tr.free {H Hk:Hp} {f x:Addr} {L:List (Addr×HO)} (T:Tr H f L Hk) (nx:Hk x=none):H x=none:=by
 cases e:H x with
 | none=>rfl
 | some o=>
  by_cases h:x=f
  ·obtain⟨u,hu⟩:=T.obj
   have:=T.all _ hu
   rw [h] at nx
   rw [nx] at this
   cases this
  ·rw [T.but x o h e] at nx
   cases nx
theorem Tr.new {H Hk:Hp} {f x:Addr} {L:List (Addr×HO)} {o:HO} (T:Tr H f L Hk) (nx:Hk x=none):Tr H f (L ++ [(x,o)]) (upd Hk x o):=by
 have hne:∀p∈L,p.1≠x:=λp hp z=>by have:=T.all p hp;rw [z,nx] at this;cases this
 have hx:=T.free nx
 refine⟨λb u n e=>by rw [aD (aB e hx)];exact T.but b u n e,λp hp=>?_,λp hp=>?_,?_,?_⟩
 ·rcases List.mem_append.mp hp with h | h
  ·rw [aD (hne p h)];exact T.all p h
  ·rw [List.mem_singleton] at h;subst h;exact aq
 ·rcases List.mem_append.mp hp with h | h
  ·exact T.fre p h
  ·rw [List.mem_singleton] at h;subst h;exact .inr hx
 ·rw [List.map_append,List.nodup_append]
  refine⟨T.nod,by simp,λa ha b hb=>?_⟩
  obtain⟨p,hp,rfl⟩:=List.mem_map.mp ha
  simp at hb
  subst hb
  exact hne p hp
 ·obtain⟨u,hu⟩:=T.obj
  exact⟨u,List.mem_append.mpr (.inl hu)⟩
theorem Tr.same {H Hk Hk':Hp} {f:Addr} {L:List (Addr×HO)} (T:Tr H f L Hk) (s:aM Hk Hk'):Tr H f L Hk':=
 ⟨λb u n e=>s _ _ (T.but b u n e),λp hp=>s _ _ (T.all p hp),T.fre,T.nod,T.obj⟩
theorem Tr.put {H Hk:Hp} {f x:Addr} {o o':HO} {L1 L2:List (Addr×HO)} (T:Tr H f (L1 ++ (x,o):: L2) Hk):Tr H f (L1 ++ (x,o'):: L2) (upd Hk x o'):=by
 have hx:x=f∨H x=none:=T.fre (x,o) (by simp)
 have nd:=T.nod
 rw [List.map_append,List.map_cons,List.nodup_append] at nd
 obtain⟨n1,n2,n3⟩:=nd
 rw [List.nodup_cons] at n2
 refine⟨λb u n e=>?_,λp hp=>?_,λp hp=>?_,?_,?_⟩
 ·have:b≠x:=by
   rcases hx with rfl | hx
   ·exact n
   ·exact aB e hx
  rw [aD this];exact T.but b u n e
 ·rcases List.mem_append.mp hp with h | h
  ·have:p.1≠x:=n3 p.1 (List.mem_map.mpr ⟨p,h,rfl⟩) x (by simp)
   rw [aD this];exact T.all p (by simp [h])
  ·rcases List.mem_cons.mp h with rfl | h
   ·exact aq
   ·have:p.1≠x:=λz=>n2.1 (by rw [<-z];exact List.mem_map.mpr ⟨p,h,rfl⟩)
    rw [aD this];exact T.all p (by simp [h])
 ·rcases List.mem_append.mp hp with h | h
  ·exact T.fre p (by simp [h])
  ·rcases List.mem_cons.mp h with rfl | h
   ·exact hx
   ·exact T.fre p (by simp [h])
 ·have:=T.nod
  rw [List.map_append,List.map_cons] at this ⊢
  exact this
 ·obtain⟨u,hu⟩:=T.obj
  rcases List.mem_append.mp hu with h | h
  ·exact⟨u,by simp [h]⟩
  ·rcases List.mem_cons.mp h with h | h
   ·cases h;exact⟨o',by simp⟩
   ·exact⟨u,by simp [h]⟩
theorem Tr.start {H:Hp} {f:Addr} {o:HO} (e:H f=some o):Tr H f [(f,o)] H:=⟨iI.refl _,λp hp=>by rw [List.mem_singleton] at hp;subst hp;exact e,λp hp=>by rw [List.mem_singleton] at hp;subst hp;exact .inl rfl,by simp,o,by simp⟩
inductive Tf (K:PySem.W.Frag) (H:Hp) (v:V) (l:bB):Prop where
 | mk:∀q f,v=.ref q->H q=some (.tup [.str l.name,.int l.room,.ref f])->uG K H f (l.first.map V.int)->Tf K H v l
inductive WN (K:PySem.W.Frag) (H:Hp) (v:V) (p:PD):Prop where
 | mk:∀q a1 a2 a3,v=.ref q->H q=some (.tup [.str (cu p.kind),.str p.name,.ref a1,.ref a2,.ref a3])->uG K H a1 (p.nums.map V.int)->uG K H a2 (p.ins.map V.str)->uG K H a3 (p.outs.map V.str)->WN K H v p
structure Hand (K:PySem.W.Frag) (H:Hp) (Ll Lp:Addr) (ls:List bB) (ps:List PD):Prop where
 ll:∃xs,bH K H Ll xs/\dY (Tf K H) xs ls
 lp:∃xs,bH K H Lp xs/\dY (WN K H) xs ps
noncomputable def Ur (v:V):Bool:=match v with
 | .int _=>true
 | .bl _=>true
 | .str _=>true
 | .non=>true
 | _=>false
noncomputable def Hx (v:V):Prop:=Ur v=true/\∀z,v=.str z->z.length<=100
noncomputable def dZ (v:V):Bool:=match v with
 | .int i=>decide (0<=i) && decide (i <1000000000)
 | _=>false
noncomputable def nmB (v:V):Bool:=match v with
 | .str z=>nameB z
 | _=>false
noncomputable def Vn (t:Af) (i:Nat):Addr:=match i with
 | 0=>t.cQ
 | 1=>t.cP
 | 2=>t.cL
 | 3=>t.bO
 | 4=>t.dD
 | 5=>t.bZ
 | 6=>t.fY
 | _=>t.dR
noncomputable def tK (i:Nat):Str:=if i=4 then "word" else "name"
noncomputable def Q5 (t:Af) (E:XK) (H:Hp) (o:Option (Nat×V)):Prop:=∀i v,o=some (i,v)->∀dx H',aM H H'->H' dx=some (.xd [(tK i,v)])->E (.ref (Vn t i)) (some dx) H'
theorem Q5.same {E:XK} {H H1:Hp} {o:Option (Nat×V)} (h:Q5 t E H o) (s:aM H H1):Q5 t E H1 o:=λi v e dx H' s' ed=>h i v e dx H' (s.trans s') ed
theorem Hx.ty {H:Hp} {v:V} (h:Hx v):∃Tx,VG K H v Tx/\Tx∈gM/\(Tx= "str" ↔∃z,v=.str z)/\(Tx= "int" ↔∃i,v=.int i):=by
 have h:=h.1
 cases v with
 | int i=>exact⟨"int",rfl,by decide,⟨λz=>absurd z (by decide),λ⟨_,z⟩=>by cases z⟩,⟨λ_=>⟨i,rfl⟩,λ_=>rfl⟩⟩
 | bl b=>exact⟨"bool",rfl,by decide,⟨λz=>absurd z (by decide),λ⟨_,z⟩=>by cases z⟩,⟨λz=>absurd z (by decide),λ⟨_,z⟩=>by cases z⟩⟩
 | str z=>exact⟨"str",rfl,by decide,⟨λ_=>⟨z,rfl⟩,λ_=>rfl⟩,⟨λz=>absurd z (by decide),λ⟨_,z⟩=>by cases z⟩⟩
 | non=>exact⟨"NoneType",rfl,by decide,⟨λz=>absurd z (by decide),λ⟨_,z⟩=>by cases z⟩,⟨λz=>absurd z (by decide),λ⟨_,z⟩=>by cases z⟩⟩
 | _=>cases h
noncomputable def freshD (v:V) (kvs:List (Key×V)):Option (Nat×V):=match v with
 | .str z=>if nameB z=true then(if (bx kvs (Sum.inr z)).isSome=true then some (1,v) else none) else some (0,v)
 | _=>some (0,v)
noncomputable def u0 (rm:V) (n:Nat):Bool:=match rm with
 | .int r=>decide ((if (n:Int) >1 then(n:Int) else 1)<=r) && decide (r<=199)
 | _=>false
noncomputable def iY (nm rm:V) (xs:List V):Option (Nat×V):=if u0 rm xs.length=true then(if xs.all dZ=true then none else some (3,nm)) else some (2,nm)
theorem Vx {H:Hp} {Q:VK} {v:V} (h:Hx v) (q:Q (.bl (dZ v)) H):(∃i:Int,v=.int i/\Q (.bl (decide (0<=i) && decide (i <1000000000))) H)∨∃Tx,VG K H v Tx/\Tx∈gM/\Tx≠ "int" /\Q (.bl false) H:=by
 have h:=h.1
 cases v with
 | int i=>exact .inl ⟨i,rfl,q⟩
 | bl b=>exact .inr ⟨"bool",rfl,by decide,by decide,q⟩
 | str z=>exact .inr ⟨"str",rfl,by decide,by decide,q⟩
 | non=>exact .inr ⟨"NoneType",rfl,by decide,by decide,q⟩
 | _=>cases h
noncomputable def oV (i:Nat) (nm:V) (ns is os:List V):Option (Nat×V):=if (decide (ns.length=cN i) && ns.all dZ)=true then(if (decide (is.length=cI i) && decide (os.length=cO i))=true then none else some (5,nm)) else some (3,nm)
noncomputable def WD (t:Af) (E:XK) (H:Hp) (z:Str) (nm:V) (ns is os:List V) (ok:Nat->Prop):Prop:=(rowOf ROWS z=none/\Q5 t E H (some (4,.str z)))∨∃i,i<=10/\z=cu i/\(oV i nm ns is os=none->ok i)/\Q5 t E H (oV i nm ns is os)
structure Gd (n:Nat) (d:PyData):Prop where
 eq:PyData.eqv d d=true
 lay:PyData.canLay0 d=true
 dep:PyData.depth d<=n
theorem Gd.all {n:Nat}:∀{ds:List PyData},(∀d∈ds,Gd n d)->PyData.eqvAll ds ds=true/\PyData.canLayAll0 ds=true/\PyData.depthAll ds<=n
 | [],_=>⟨by simp [PyData.eqvAll],by simp [PyData.canLayAll0],by simp [PyData.depthAll]⟩
 | d:: r,h=>by
  obtain⟨h1,h2,h3⟩:=Gd.all (ds:=r) λx hx=>h x (List.mem_cons_of_mem _ hx)
  have g:=h d List.mem_cons_self
  have g3:=g.dep
  refine⟨by simp [PyData.eqvAll,g.eq,h1],by simp [PyData.canLayAll0,g.lay,h2],?_⟩
  simp only [PyData.depthAll]
  lia
theorem Gd.list {n:Nat} {ds:List PyData} (h:∀d∈ds,Gd n d):Gd (n+1) (.list ds):=by
 obtain⟨h1,h2,h3⟩:=Gd.all h
 exact⟨by simp [PyData.eqv,h1],by simp [PyData.canLay0,h2],by simp only [PyData.depth];lia⟩
theorem Gd.tuple {n:Nat} {ds:List PyData} (h:∀d∈ds,Gd n d):Gd (n+1) (.tuple ds):=by
 obtain⟨h1,h2,h3⟩:=Gd.all h
 exact⟨by simp [PyData.eqv,h1],by simp [PyData.canLay0,h2],by simp only [PyData.depth];lia⟩
theorem Gd.int (n:Nat) (i:Int):Gd n (.int i):=⟨by simp [PyData.eqv],by simp [PyData.canLay0],by simp [PyData.depth]⟩
theorem Gd.str (n:Nat) {x:Str} (h:PyData.strOk x=true):Gd n (.str x):=⟨by simp [PyData.eqv],by simp [PyData.canLay0,h],by simp [PyData.depth]⟩
theorem Gd.ints (n:Nat) (ws:List Int):∀d∈ws.map PyData.int,Gd n d:=λd hd=>by
 obtain⟨i,_,rfl⟩:=List.mem_map.mp hd
 exact .int n i
theorem Gd.strs (n:Nat) {xs:List Str} (h:∀x∈xs,PyData.strOk x=true):∀d∈xs.map PyData.str,Gd n d:=λd hd=>by
 obtain⟨x,hx,rfl⟩:=List.mem_map.mp hd
 exact .str n (h x hx)
theorem Gd.shaped {n:Nat} {d:PyData} (h:Gd n d) (hn:n<=64):SeqAt.shaped d=true:=by
 have:=h.dep
 unfold SeqAt.shaped
 rw [h.lay,decide_eq_true (show d.depth<=64 by lia)]
 rfl
theorem Aj {z:Str} (h:nameB z=true):PyData.strOk z=true:=by
 have e:∀c∈z.cps.toList,c <0x110000:=λc hc=>by
  unfold nameB at h
  split at h
  ·cases h
  ·rename_i c0 r e
   rw [e] at hc
   simp only [Bool.and_eq_true,List.all_eq_true,Bool.or_eq_true] at h
   have:=h.2.2 c hc
   unfold low rM at this
   simp only [Bool.and_eq_true,decide_eq_true_eq] at this
   lia
 unfold PyData.strOk
 rw [Array.all_eq_true']
 intro c hc
 exact decide_eq_true (e c (by simpa using hc))
theorem Nt:∀i,i <11->PyData.strOk (cu i)=true:=by decide +kernel
theorem Hr {H:Hp}:∀ws:List Int,JF K H (ws.map V.int) (ws.map PyData.int)
 | []=>.nil
 | i:: r=>.cons (.int i) (Hr r)
theorem Ae {H:Hp}:∀xs:List Str,JF K H (xs.map V.str) (xs.map PyData.str)
 | []=>.nil
 | x:: r=>.cons (.str x) (Ae r)
noncomputable def Sy (l:bB):PyData:=.tuple [.str l.name,.int l.room,.tuple (l.first.map PyData.int)]
noncomputable def Xb (p:PD):PyData:=.tuple [.str (cu p.kind),.str p.name,.tuple (p.nums.map PyData.int),.tuple (p.ins.map PyData.str),.tuple (p.outs.map PyData.str)]
noncomputable def Nz (ls:List bB) (ps:List PD):PyData:=.tuple [.list (ls.map Sy),.list (ps.map Xb)]
theorem Oi.inN {ls:List bB} {ps:List PD} (h:Oi ls ps) {p:PD} (hp:p∈ps):(∀x∈p.ins,PyData.strOk x=true)/\∀x∈p.outs,PyData.strOk x=true:=by
 have nm:∀x∈ls.map (·.name),PyData.strOk x=true:=λx hx=>by
  obtain⟨l,hl,rfl⟩:=List.mem_map.mp hx
  exact Aj (h.lnm l hl)
 exact⟨λx hx=>nm x (h.whole.ins.mem_iff.mp (List.mem_flatMap.mpr ⟨p,hp,hx⟩)),λx hx=>nm x (h.whole.outs.mem_iff.mp (List.mem_flatMap.mpr ⟨p,hp,hx⟩))⟩
theorem Oi.told {ls:List bB} {ps:List PD} (h:Oi ls ps):Gd 5 (Nz ls ps):=by
 unfold Nz
 refine .tuple λd hd=>?_
 simp only [List.mem_cons,List.not_mem_nil,or_false] at hd
 rcases hd with rfl | rfl
 ·refine .list λd hd=>?_
  obtain⟨l,hl,rfl⟩:=List.mem_map.mp hd
  unfold Sy
  refine .tuple λd hd=>?_
  simp only [List.mem_cons,List.not_mem_nil,or_false] at hd
  rcases hd with rfl | rfl | rfl
  ·exact .str _ (Aj (h.lnm l hl))
  ·exact .int _ _
  ·exact .tuple (.ints _ _)
 ·refine .list λd hd=>?_
  obtain⟨p,hp,rfl⟩:=List.mem_map.mp hd
  unfold Xb
  refine .tuple λd hd=>?_
  simp only [List.mem_cons,List.not_mem_nil,or_false] at hd
  rcases hd with rfl | rfl | rfl | rfl | rfl
  ·exact .str _ (Nt _ (h.pok p hp).1)
  ·exact .str _ (Aj (h.pnm p hp))
  ·exact .tuple (.ints _ _)
  ·exact .tuple (.strs _ (h.inN hp).1)
  ·exact .tuple (.strs _ (h.inN hp).2)
theorem Kr {α:Type} {H:Hp} {R:V->α->Prop} {f:α->PyData} (h:∀v a,R v a->Dt K H v (f a)):∀{xs:List V} {ys:List α},dY R xs ys->JF K H xs (ys.map f)
 | _,_,.nil=>.nil
 | _,_,.cons r t=>.cons (h _ _ r) (Kr h t)
theorem vM.dt {H:Hp} {T a b:Addr} {ls:List bB} {ps:List PD} (h:vM K H T a b ls ps):Dt K H (.ref T) (Nz ls ps):=by
 obtain⟨h1,⟨xs,e1,a1⟩,⟨ys,e2,a2⟩⟩:=h
 refine .tuple (d7.of h1) (.cons (.list (bH.of e1) (Kr (λv l h=>?_) a1)) (.cons (.list (bH.of e2) (Kr (λv p h=>?_) a2)) .nil))
 ·obtain⟨q,f,rfl,h2,h3⟩:=h
  exact .tuple (d7.of h2) (.cons (.str _) (.cons (.int _) (.cons (.tuple h3 (Hr _)) .nil)))
 ·obtain⟨q,b1,b2,b3,rfl,h2,h3,h4,h5⟩:=h
  exact .tuple (d7.of h2) (.cons (.str _) (.cons (.str _) (.cons (.tuple h3 (Hr _)) (.cons (.tuple h4 (Ae _)) (.cons (.tuple h5 (Ae _)) .nil)))))
theorem Gd.bl (n:Nat) (b:Bool):Gd n (.bool b):=⟨by simp [PyData.eqv],by simp [PyData.canLay0],by simp [PyData.depth]⟩
theorem Gd.non (n:Nat):Gd n .none:=⟨by simp [PyData.eqv],by simp [PyData.canLay0],by simp [PyData.depth]⟩
theorem uK (x:Str) (xs:List Str):inV (.str x) (xs.map V.str)=decide (x∈xs):=by
 have:=Pu (f:=λy:Str=>y) (xs:=xs) (x:=x)
 simpa using this
theorem lV (xs:List Str):(xs.map V.str).all ux=true:=by simp [ux]
noncomputable abbrev LF:Str:= "abcdefghijklmnopqrstuvwxyz0123456789"
theorem P0:LF.cps.toList=List.range' 97 26 ++ List.range' 48 10:=by decide +kernel
theorem Xo (c:Nat):(!(Builtin.Str.occurrences LF ⟨#[c]⟩ 0 LF.length 1).isEmpty)=(low c || rM c):=by
 rw [StrLaws.found_one,P0]
 unfold low rM
 rw [Bool.eq_iff_iff]
 simp [List.mem_range'_1]
 lia
noncomputable def jx (v:V):Prop:=Hx v/\∀z,v=.str z->PyData.strOk z=true
noncomputable def Lz:V->Bool
 | .str z=>nameB z
 | _=>false
theorem R0 {c:Nat} (h:rM c=true):low c=false:=by
 unfold rM at h
 unfold low
 simp at h ⊢
 lia
inductive lB (C:Addr) (vs:List V) (H:Hp) (Q:VK) (E:XK):Prop where
 | mk:∀(a:Addr) (v:V),vs=[.ref a,v]->H a=some (mH a C)->(∀dx,H dx=none->dx≠a->Q .non (upd (upd H a (rH a C dx)) dx (.xd [("name",v)])))->lB C vs H Q E
theorem uR (T:Txt w K mg t):FO P w K mg base 1 t.fO ["self", "name"] (lB t.cQ):=by
 have sc:=T.iQ.sc ["self", "name"]
 refine T.iQ.F.ok sc ln (λ_ _ _ _ H vs Q E hr h=>?_)
 obtain⟨a,v,rfl,ea,k⟩:=h
 refine⟨_,(aA (aV (m7 (by rfl) T.d8 T.d9 (aa (pv 0) (aa (pv 1) ao aj) aj)))
  (az (m8 (pv 0) (pv 1) rfl))),?_⟩
 refine⟨_,rfl,_,rfl,a,_,_,[v],rfl,ea,T.Fy.ini,by show 1<=1000;decide,?_⟩
 exact⟨_,rfl,_,rfl,a,_,rfl,ea,T.Ck,T.Cm,k⟩
inductive lC (C:Addr) (vs:List V) (H:Hp) (Q:VK) (E:XK):Prop where
 | mk:∀(a:Addr) (v:V),vs=[.ref a,v]->H a=some (mH a C)->(∀dx,H dx=none->dx≠a->Q .non (upd (upd H a (rH a C dx)) dx (.xd [("name",v)])))->lC C vs H Q E
theorem uX (T:Txt w K mg t):FO P w K mg base 1 t.fH ["self", "name"] (lC t.cP):=by
 have sc:=T.iT.sc ["self", "name"]
 refine T.iT.F.ok sc ln (λ_ _ _ _ H vs Q E hr h=>?_)
 obtain⟨a,v,rfl,ea,k⟩:=h
 refine⟨_,(aA (aV (m7 (by rfl) T.d8 T.d9 (aa (pv 0) (aa (pv 1) ao aj) aj)))
  (az (m8 (pv 0) (pv 1) rfl))),?_⟩
 refine⟨_,rfl,_,rfl,a,_,_,[v],rfl,ea,T.Es.ini,by show 1<=1000;decide,?_⟩
 exact⟨_,rfl,_,rfl,a,_,rfl,ea,T.Cv,T.Ao,k⟩
inductive lA (C:Addr) (vs:List V) (H:Hp) (Q:VK) (E:XK):Prop where
 | mk:∀(a:Addr) (v:V),vs=[.ref a,v]->H a=some (mH a C)->(∀dx,H dx=none->dx≠a->Q .non (upd (upd H a (rH a C dx)) dx (.xd [("name",v)])))->lA C vs H Q E
theorem uV (T:Txt w K mg t):FO P w K mg base 1 t.fL ["self", "name"] (lA t.cL):=by
 have sc:=T.iK.sc ["self", "name"]
 refine T.iK.F.ok sc ln (λ_ _ _ _ H vs Q E hr h=>?_)
 obtain⟨a,v,rfl,ea,k⟩:=h
 refine⟨_,(aA (aV (m7 (by rfl) T.d8 T.d9 (aa (pv 0) (aa (pv 1) ao aj) aj)))
  (az (m8 (pv 0) (pv 1) rfl))),?_⟩
 refine⟨_,rfl,_,rfl,a,_,_,[v],rfl,ea,T.Fi.ini,by show 1<=1000;decide,?_⟩
 exact⟨_,rfl,_,rfl,a,_,rfl,ea,T.Di,T.BL,k⟩
inductive jo (C:Addr) (vs:List V) (H:Hp) (Q:VK) (E:XK):Prop where
 | mk:∀(a:Addr) (v:V),vs=[.ref a,v]->H a=some (mH a C)->(∀dx,H dx=none->dx≠a->Q .non (upd (upd H a (rH a C dx)) dx (.xd [("name",v)])))->jo C vs H Q E
theorem jq (T:Txt w K mg t):FO P w K mg base 1 t.dU ["self", "name"] (jo t.bO):=by
 have sc:=T.dW.sc ["self", "name"]
 refine T.dW.F.ok sc ln (λ_ _ _ _ H vs Q E hr h=>?_)
 obtain⟨a,v,rfl,ea,k⟩:=h
 refine⟨_,(aA (aV (m7 (by rfl) T.d8 T.d9 (aa (pv 0) (aa (pv 1) ao aj) aj)))
  (az (m8 (pv 0) (pv 1) rfl))),?_⟩
 refine⟨_,rfl,_,rfl,a,_,_,[v],rfl,ea,T.qe.ini,by show 1<=1000;decide,?_⟩
 exact⟨_,rfl,_,rfl,a,_,rfl,ea,T.u5,T.vd,k⟩
inductive mC (C:Addr) (vs:List V) (H:Hp) (Q:VK) (E:XK):Prop where
 | mk:∀(a:Addr) (v:V),vs=[.ref a,v]->H a=some (mH a C)->(∀dx,H dx=none->dx≠a->Q .non (upd (upd H a (rH a C dx)) dx (.xd [("word",v)])))->mC C vs H Q E
theorem mz (T:Txt w K mg t):FO P w K mg base 1 t.fZ ["self", "word"] (mC t.dD):=by
 have sc:=T.gf.sc ["self", "word"]
 refine T.gf.F.ok sc ln (λ_ _ _ _ H vs Q E hr h=>?_)
 obtain⟨a,v,rfl,ea,k⟩:=h
 refine⟨_,(aA (aV (m7 (by rfl) T.d8 T.d9 (aa (pv 0) (aa (pv 1) ao aj) aj)))
  (az (m8 (pv 0) (pv 1) rfl))),?_⟩
 refine⟨_,rfl,_,rfl,a,_,_,[v],rfl,ea,T.Bw.ini,by show 1<=1000;decide,?_⟩
 exact⟨_,rfl,_,rfl,a,_,rfl,ea,T.Ew,T.Er,k⟩
inductive jQ (C:Addr) (vs:List V) (H:Hp) (Q:VK) (E:XK):Prop where
 | mk:∀(a:Addr) (v:V),vs=[.ref a,v]->H a=some (mH a C)->(∀dx,H dx=none->dx≠a->Q .non (upd (upd H a (rH a C dx)) dx (.xd [("name",v)])))->jQ C vs H Q E
theorem jZ (T:Txt w K mg t):FO P w K mg base 1 t.eY ["self", "name"] (jQ t.bZ):=by
 have sc:=T.eU.sc ["self", "name"]
 refine T.eU.F.ok sc ln (λ_ _ _ _ H vs Q E hr h=>?_)
 obtain⟨a,v,rfl,ea,k⟩:=h
 refine⟨_,(aA (aV (m7 (by rfl) T.d8 T.d9 (aa (pv 0) (aa (pv 1) ao aj) aj)))
  (az (m8 (pv 0) (pv 1) rfl))),?_⟩
 refine⟨_,rfl,_,rfl,a,_,_,[v],rfl,ea,T.wj.ini,by show 1<=1000;decide,?_⟩
 exact⟨_,rfl,_,rfl,a,_,rfl,ea,T.zW,T.zP,k⟩
inductive pL (C:Addr) (vs:List V) (H:Hp) (Q:VK) (E:XK):Prop where
 | mk:∀(a:Addr) (v:V),vs=[.ref a,v]->H a=some (mH a C)->(∀dx,H dx=none->dx≠a->Q .non (upd (upd H a (rH a C dx)) dx (.xd [("name",v)])))->pL C vs H Q E
theorem yG (T:Txt w K mg t):FO P w K mg base 1 t.iy ["self", "name"] (pL t.fY):=by
 have sc:=T.kI.sc ["self", "name"]
 refine T.kI.F.ok sc ln (λ_ _ _ _ H vs Q E hr h=>?_)
 obtain⟨a,v,rfl,ea,k⟩:=h
 refine⟨_,(aA (aV (m7 (by rfl) T.d8 T.d9 (aa (pv 0) (aa (pv 1) ao aj) aj)))
  (az (m8 (pv 0) (pv 1) rfl))),?_⟩
 refine⟨_,rfl,_,rfl,a,_,_,[v],rfl,ea,T.Qj.ini,by show 1<=1000;decide,?_⟩
 exact⟨_,rfl,_,rfl,a,_,rfl,ea,T.Mj,T.Mm,k⟩
inductive mW (C:Addr) (vs:List V) (H:Hp) (Q:VK) (E:XK):Prop where
 | mk:∀(a:Addr) (v:V),vs=[.ref a,v]->H a=some (mH a C)->(∀dx,H dx=none->dx≠a->Q .non (upd (upd H a (rH a C dx)) dx (.xd [("name",v)])))->mW C vs H Q E
theorem wK (T:Txt w K mg t):FO P w K mg base 1 t.gH ["self", "name"] (mW t.dR):=by
 have sc:=T.jF.sc ["self", "name"]
 refine T.jF.F.ok sc ln (λ_ _ _ _ H vs Q E hr h=>?_)
 obtain⟨a,v,rfl,ea,k⟩:=h
 refine⟨_,(aA (aV (m7 (by rfl) T.d8 T.d9 (aa (pv 0) (aa (pv 1) ao aj) aj)))
  (az (m8 (pv 0) (pv 1) rfl))),?_⟩
 refine⟨_,rfl,_,rfl,a,_,_,[v],rfl,ea,T.Mf.ini,by show 1<=1000;decide,?_⟩
 exact⟨_,rfl,_,rfl,a,_,rfl,ea,T.Ip,T.Jt,k⟩
inductive zJ (K:PySem.W.Frag) (vs:List V) (H:Hp) (Q:VK) (E:XK):Prop where
 | mk:∀x Tx b,vs=[x]->VG K H x Tx->Tx∈gM->decide (Tx= "int")=b->Q (.bl b) H->zJ K vs H Q E
theorem zF (T:Txt w K mg t):FO P w K mg base 1 t.BZ ["thing"] (zJ K):=by
 have sc:=T.p7.sc ["thing"]
 refine T.p7.F.ok sc ln (λ_ _ _ _ H vs Q E hr h=>?_)
 obtain⟨x,Tx,b,rfl,ty,hm,rfl,k⟩:=h
 refine⟨_,(az (aY (Cp (bj pF (by rfl) T.gK fX (aa (pv 0) (aa (uM (by rfl) T.Tu Nq) ao aj) aj)) (sU (O3 (bj pF (by rfl) T.gK fX (aa (pv 0) (aa (uM (by rfl) T.Pz Lb) ao aj) aj))))))),?_⟩
 have hm':Tx= "int" ∨Tx= "bool" ∨(Du Tx "int" =false/\Tx≠ "int"):=by
  simp only [gM,List.mem_cons,List.not_mem_nil,or_false] at hm
  rcases hm with rfl | rfl | rfl | rfl | rfl | rfl | rfl
  ·exact .inr (.inr (by decide))
  ·exact .inr (.inl rfl)
  ·exact .inl rfl
  ·exact .inr (.inr (by decide))
  ·exact .inr (.inr (by decide))
  ·exact .inr (.inr (by decide))
  ·exact .inr (.inr (by decide))
 rcases hm' with rfl | rfl | ⟨h1,h2⟩
 ·exact⟨_,rfl,x, "int", "int",true,rfl,ty,by decide,by decide,true,rfl,bK ⟨_,rfl,x, "int", "bool",false,rfl,ty,by decide,by decide,_,rfl,k⟩⟩
 ·exact⟨_,rfl,x, "bool", "int",true,rfl,ty,by decide,by decide,true,rfl,bK ⟨_,rfl,x, "bool", "bool",true,rfl,ty,by decide,by decide,_,rfl,k⟩⟩
 ·rw [decide_eq_false h2] at k
  exact⟨_,rfl,x,Tx, "int",false,rfl,ty,by decide,h1,false,rfl,bW k⟩
inductive zb (K:PySem.W.Frag) (vs:List V) (H:Hp) (Q:VK) (E:XK):Prop where
 | mk:∀x,vs=[x]->(((∃i:Int,x=.int i/\Q (.bl (decide (0<=i) && decide (i <1000000000))) H)∨∃Tx,VG K H x Tx/\Tx∈gM/\Tx≠ "int" /\Q (.bl false) H))->zb K vs H Q E
theorem zN (T:Txt w K mg t):FO P w K mg base 2 t.Dr ["thing"] (zb K):=by
 have sc:=T.qK.sc ["thing"]
 refine T.qK.F.ok sc ln (λ_ _ _ _ H vs Q E hr h=>?_)
 obtain⟨x,rfl,h⟩:=h
 refine⟨_,(az (aY (Cp (dF (zF T) T.p7 hr (aa (pv 0) ao aj)) (sU (Hz lz qY au (pv 0) (jV (by rfl) T.O6)))))),?_⟩
 rcases h with ⟨i,rfl,k⟩ | ⟨Tx,ty,hm,hne,k⟩
 ·refine⟨_,rfl,.int i, "int",true,rfl,rfl,by decide,by decide,true,rfl,bK ⟨_,rfl,_,_,rfl,rfl,_,rfl,dN (λh=>?_) (λh=>?_)⟩⟩
  ·have h':0<=i:=of_decide_eq_true h
   rw [decide_eq_true h',Bool.true_and] at k
   exact⟨_,_,rfl,rfl,k⟩
  ·have h':¬0<=i:=λz=>h (decide_eq_true z)
   rw [decide_eq_false h',Bool.false_and] at k
   exact k
 ·exact⟨_,rfl,x,Tx,false,rfl,ty,hm,decide_eq_false hne,false,rfl,bW k⟩
inductive pI (K:PySem.W.Frag) (t:Af) (vs:List V) (H:Hp) (Q:VK) (E:XK):Prop where
 | mk:∀(i:Nat) (p dx a1 a2 a3:Addr) (nm:V) (ns is os:List V),vs=[.ref p,nm,.ref a1,.ref a2,.ref a3]->H p=some (.ins (cls t i) dx [])->uG K H a1 ns->uG K H a2 is->uG K H a3 os->(∀H',iI p H H'->iM K t H' p i nm ns is os->Q .non H')->pI K t vs H Q E
noncomputable abbrev lq:List Str:=["self", "name", "numbers", "ins", "outs"]
theorem bU (T:Txt w K mg t):FO P w K mg base 1 t.bN lq (pI K t):=by
 have sc:fJ lq lq (bw (inClass (top 22) 0)):=QJ
 refine T.aX.F.ok sc ln (λ_ _ _ _ H vs Q E hr h=>?_)
 obtain⟨i,p,dx,a1,a2,a3,nm,ns,is,os,rfl,hp,q1,q2,q3,k⟩:=h
 refine⟨_,(aA (pX (pv 0) (pv 1) rfl)
  (aA (pX (pv 0) (bV oX (by rfl) T.nM j8 (aa (pv 2) ao aj)) rfl)
  (aA (pX (pv 0) (bV oX (by rfl) T.nM j8 (aa (pv 3) ao aj)) rfl)
  (az (pX (pv 0) (bV oX (by rfl) T.nM j8 (aa (pv 4) ao aj)) rfl))))),?_⟩
 refine⟨_,rfl,_,rfl,p,cls t i,dx,[],rfl,hp,jH T i,xZ T i,by show 0 <1000;decide,?_⟩
 have b1:iI p H (upd H p (.ins (cls t i) dx (bf "name" nm []))):=iI.write
 have e1:(upd H p (.ins (cls t i) dx (bf "name" nm []))) p=some (.ins (cls t i) dx (bf "name" nm [])):=aq
 generalize upd H p (.ins (cls t i) dx (bf "name" nm []))=H1 at b1 e1 ⊢
 have r2:=b1.seqA hp q2
 have r3:=b1.seqA hp q3
 refine⟨_,rfl,a1,ns,rfl,b1.seqA hp q1,λH2 u2 s2 t2=>⟨_,rfl,p,cls t i,dx,_,rfl,s2 _ _ e1,jH T i,Cq T i,Nat.lt_of_le_of_lt (uN (Nat.zero_le 0)) (by decide),?_⟩⟩
 have e2:=s2 _ _ e1
 have b2:iI p H2 (upd H2 p (.ins (cls t i) dx (bf "numbers" (.ref u2) (bf "name" nm [])))):=iI.write
 have e3:(upd H2 p (.ins (cls t i) dx (bf "numbers" (.ref u2) (bf "name" nm [])))) p=some (.ins (cls t i) dx (bf "numbers" (.ref u2) (bf "name" nm []))):=aq
 generalize upd H2 p (.ins (cls t i) dx (bf "numbers" (.ref u2) (bf "name" nm [])))=H3 at b2 e3 ⊢
 have r2':=b2.seqA e2 (s2.seqA r2)
 have r3':=b2.seqA e2 (s2.seqA r3)
 have t2':=b2.seqT e2 t2
 refine⟨_,rfl,a2,is,rfl,r2',λH4 u4 s4 t4=>⟨_,rfl,p,cls t i,dx,_,rfl,s4 _ _ e3,jH T i,JS T i,Nat.lt_of_le_of_lt (uN (uN (Nat.zero_le 0))) (by decide),?_⟩⟩
 have e4:=s4 _ _ e3
 have b4:iI p H4 (upd H4 p (.ins (cls t i) dx (bf "ins" (.ref u4) (bf "numbers" (.ref u2) (bf "name" nm []))))):=iI.write
 have e5:(upd H4 p (.ins (cls t i) dx (bf "ins" (.ref u4) (bf "numbers" (.ref u2) (bf "name" nm []))))) p=some (.ins (cls t i) dx (bf "ins" (.ref u4) (bf "numbers" (.ref u2) (bf "name" nm [])))):=aq
 generalize upd H4 p (.ins (cls t i) dx (bf "ins" (.ref u4) (bf "numbers" (.ref u2) (bf "name" nm []))))=H5 at b4 e5 ⊢
 have r3'':=b4.seqA e4 (s4.seqA r3')
 have t2'':=b4.seqT e4 (s4.seqT t2')
 have t4':=b4.seqT e4 t4
 refine⟨_,rfl,a3,os,rfl,r3'',λH6 u6 s6 t6=>⟨_,rfl,p,cls t i,dx,_,rfl,s6 _ _ e5,jH T i,Gn T i,Nat.lt_of_le_of_lt (uN (uN (uN (Nat.zero_le 0)))) (by decide),?_⟩⟩
 have e6:=s6 _ _ e5
 refine k _ (b1.trans ((iI.of_same s2).trans (b2.trans ((iI.of_same s4).trans (b4.trans ((iI.of_same s6).trans iI.write)))))) ⟨dx,u2,u4,u6,aq,?_,?_,?_⟩
 ·exact iI.write.seqT e6 (s6.seqT t2'')
 ·exact iI.write.seqT e6 (s6.seqT t4')
 ·exact iI.write.seqT e6 t6
theorem G7 (T:Txt w K mg t):FO P w K mg base 1 t.sy ["self"] (gU 0):=by
 have sc:=T.m5.sc ["self"]
 refine T.m5.F.ok sc ln (λ_ _ _ _ H vs Q E hr h=>?_)
 obtain⟨x,rfl,k⟩:=h
 refine⟨_,(az (aY aN)),?_⟩
 exact k
theorem Gi (T:Txt w K mg t):FO P w K mg base 1 t.sH ["self"] (gU 1):=by
 have sc:=T.mJ.sc ["self"]
 refine T.mJ.F.ok sc ln (λ_ _ _ _ H vs Q E hr h=>?_)
 obtain⟨x,rfl,k⟩:=h
 refine⟨_,(az (aY aN)),?_⟩
 exact k
theorem Gj (T:Txt w K mg t):FO P w K mg base 1 t.ug ["self"] (gU 2):=by
 have sc:=T.nU.sc ["self"]
 refine T.nU.F.ok sc ln (λ_ _ _ _ H vs Q E hr h=>?_)
 obtain⟨x,rfl,k⟩:=h
 refine⟨_,(az (aY aN)),?_⟩
 exact k
theorem GQ (T:Txt w K mg t):FO P w K mg base 1 t.sJ ["self"] (gU 3):=by
 have sc:=T.nH.sc ["self"]
 refine T.nH.F.ok sc ln (λ_ _ _ _ H vs Q E hr h=>?_)
 obtain⟨x,rfl,k⟩:=h
 refine⟨_,(az (aY aN)),?_⟩
 exact k
theorem Gk (T:Txt w K mg t):FO P w K mg base 1 t.sG ["self"] (gU 4):=by
 have sc:=T.mO.sc ["self"]
 refine T.mO.F.ok sc ln (λ_ _ _ _ H vs Q E hr h=>?_)
 obtain⟨x,rfl,k⟩:=h
 refine⟨_,(az (aY aN)),?_⟩
 exact k
theorem G8 (T:Txt w K mg t):FO P w K mg base 1 t.rP ["self"] (gU 5):=by
 have sc:=T.mR.sc ["self"]
 refine T.mR.F.ok sc ln (λ_ _ _ _ H vs Q E hr h=>?_)
 obtain⟨x,rfl,k⟩:=h
 refine⟨_,(az (aY aN)),?_⟩
 exact k
theorem Io (T:Txt w K mg t):FO P w K mg base 1 t.vI ["self"] (gU 6):=by
 have sc:=T.qy.sc ["self"]
 refine T.qy.F.ok sc ln (λ_ _ _ _ H vs Q E hr h=>?_)
 obtain⟨x,rfl,k⟩:=h
 refine⟨_,(az (aY aN)),?_⟩
 exact k
theorem Gs (T:Txt w K mg t):FO P w K mg base 1 t.uy ["self"] (gU 7):=by
 have sc:=T.mV.sc ["self"]
 refine T.mV.F.ok sc ln (λ_ _ _ _ H vs Q E hr h=>?_)
 obtain⟨x,rfl,k⟩:=h
 refine⟨_,(az (aY aN)),?_⟩
 exact k
theorem Dv (T:Txt w K mg t):FO P w K mg base 1 t.qO ["self"] (gU 8):=by
 have sc:=T.lJ.sc ["self"]
 refine T.lJ.F.ok sc ln (λ_ _ _ _ H vs Q E hr h=>?_)
 obtain⟨x,rfl,k⟩:=h
 refine⟨_,(az (aY aN)),?_⟩
 exact k
theorem Cw (T:Txt w K mg t):FO P w K mg base 1 t.oO ["self"] (gU 9):=by
 have sc:=T.jO.sc ["self"]
 refine T.jO.F.ok sc ln (λ_ _ _ _ H vs Q E hr h=>?_)
 obtain⟨x,rfl,k⟩:=h
 refine⟨_,(az (aY aN)),?_⟩
 exact k
theorem DY (T:Txt w K mg t):FO P w K mg base 1 t.qi ["self"] (gU 10):=by
 have sc:=T.lH.sc ["self"]
 refine T.lH.F.ok sc ln (λ_ _ _ _ H vs Q E hr h=>?_)
 obtain⟨x,rfl,k⟩:=h
 refine⟨_,(az (aY aN)),?_⟩
 exact k
inductive CV (vs:List V) (H:Hp) (Q:VK) (E:XK):Prop where
 | mk:∀z:Str,vs=[.str z]->Q (.bl (rowOf ROWS z).isSome) H->CV vs H Q E
theorem Bs (T:Txt w K mg t):FO P w K mg base 1 t.Fp ["word"] (CV):=by
 have sc:=T.uA.sc ["word"]
 refine T.uA.F.ok sc ln (λ_ _ _ _ H vs Q E hr h=>?_)
 obtain⟨z,rfl,k⟩:=h
 refine⟨_,(az (aY (GD (V0 (pv 0) (Gh (v:=.ref _) (by rfl) T.Eg rfl)) (by with_unfolding_all rfl)))),?_⟩
 exact⟨_,rfl,t.wY,ROWS,z,rfl,T.JB,rfl,k⟩
inductive zM (K:PySem.W.Frag) (t:Af) (vs:List V) (H:Hp) (Q:VK) (E:XK):Prop where
 | mk:∀(z:Str) (nm:V) (a1 a2 a3:Addr) (ns is os:List V),vs=[.str z,nm,.ref a1,.ref a2,.ref a3]->uG K H a1 ns->uG K H a2 is->uG K H a3 os->((∀v∈ns,Hx v))->ns.length<=1000->(WD t E H z nm ns is os (λ_=>∀H',aM H H'->Q .non H'))->zM K t vs H Q E
noncomputable abbrev Cu:List Str:=["kind", "name", "numbers", "ins", "outs", "counts"]
theorem HQ (T:Txt w K mg t):jd P w K mg base (oU P w) 3 t.vV (fdOf K t.vV) ["kind", "name", "numbers", "ins", "outs"] (zM K t):=by
 have sc:=T.mq.sc Cu
 refine T.mq.F.ok2 sc ln (λ_ _ _ _ H vs Q E hr h=>?_)
 obtain⟨z,nm,a1,a2,a3,ns,is,os,rfl,h1,h2,h3,hN,hz,F⟩:=h
 refine⟨_,(aA (bD (fP (gY (dF (Bs T) T.uA hr (aa (pv 0) ao aj))))
   (az (fu T.Bw (mz T) (hr.mono (by decide)) (by rfl) T.yQ T.gf.b fG (aa (pv 0) ao aj)))
   bz)
  (aA (sN sc 5 (Rm (Gh (v:=.ref _) (by rfl) T.Eg rfl) (pv 0) (λ_ _=>rfl)))
  (aA (bD (PW.pt (j7 (aJ Ax (bj bI (by rfl) T.dz cj (aa (pv 2) ao aj)) (aZ dM (pv 5) au (λ_ _=>rfl)) (bu _)) (jr (fP (gY (bj (BR rfl) (by rfl) T.Qk Kz (aa (jX [] Cu (bw (top 35)) rfl (S7 (dB (pv 2)) (JH (pv 2))) (λ_ _ _ _ _=>ik) (λ_ _ _ _ _=>(dF (zN T) T.qK hr (aa (pv 0) ao aj)))) ao jL)))))))
   (az (fu T.qe (jq T) (hr.mono (by decide)) (by rfl) T.oG T.dW.b fG (aa (pv 1) ao aj)))
   bz)
  (az (bD (PW.pt (j7 (aJ Ax (bj bI (by rfl) T.dz cj (aa (pv 3) ao aj)) (aZ dM (pv 5) au (λ_ _=>rfl)) (bu _)) (jr (aJ Ax (bj bI (by rfl) T.dz cj (aa (pv 4) ao aj)) (aZ dM (pv 5) au (λ_ _=>rfl)) (bu _)))))
   (az (fu T.wj (jZ T) (hr.mono (by decide)) (by rfl) T.uw T.eU.b fG (aa (pv 1) ao aj)))
   bz))))),?_⟩
 have hl:sizeLine=16777216:=sizeLine_eq
 rcases F with ⟨hk,kE⟩ | ⟨i,hi,rfl,k,kE⟩
 ·refine⟨_,rfl,z,rfl,false,by rw [hk];rfl,bK ?_⟩
  refine⟨_,rfl,by show 1<=1000;decide,λy ny n0=>⟨y,_,rfl,aq,λdx' nd ne=>⟨rfl,y,dx',rfl,n0,by rw [aD ne.symm];exact aq,?_⟩⟩⟩
  have rz:=raised (fs:=[((tK 4:Str),V.str z)]) ny nd ne
  exact kE 4 _ rfl dx' _ (rz.1) rz.2
 refine⟨_,rfl,cu i,rfl,true,by rw [row_of];rfl,bW ?_⟩
 refine⟨_,rfl,t.wY,ROWS,cu i,_,rfl,T.JB,rfl,row_of i,λad had=>?_⟩
 refine⟨_,rfl,.ref a1,ns.length,rfl,h1.len,_,rfl,ad,_,0,_,rfl,rfl,had,aH (j:=0) rfl,rfl,_,rfl,?_⟩
 by_cases hc:ns.length=cN i
 case neg=>
  rw [show(!decide (V.int ((ns.length:Nat):Int)=V.int ((cN i:Nat):Int)))=true by simp;lia]
  refine bK (bK ?_)
  refine⟨_,rfl,by show 1<=1000;decide,λy ny n0=>⟨y,_,rfl,aq,λdx' nd ne=>⟨rfl,y,dx',rfl,n0,by rw [aD ne.symm];exact aq,?_⟩⟩⟩
  have rz:=raised (fs:=[((tK 3:Str),nm)]) ny nd ne
  exact kE 3 _ (by unfold oV;rw [decide_eq_false hc,Bool.false_and];rfl) dx' _ (rz.1) rz.2
 rw [show(!decide (V.int ((ns.length:Nat):Int)=V.int ((cN i:Nat):Int)))=false by rw [hc];simp]
 refine bW ?_
 refine Pn (a:=a1) (xs:=ns) ?_ h1 (λj ys=>ys=((ns.take j).map dZ).map V.bl) (by lia) rfl (λj ys e=>by rw [e];simp;lia) (λj x ys hx e=>?_) (λys e D hD=>?_)
 ·exact λR r=>⟨_,rfl,r⟩
 ·subst e
  refine yes ⟨_,rfl,x,rfl,Vx (Q:=λv H5=>H5=H/\((ns.take j).map dZ).map V.bl ++ [v]=((ns.take (j+1)).map dZ).map V.bl) (hN x (List.mem_of_getElem? hx)) ⟨rfl,?_⟩⟩
  rw [List.take_succ,hx]
  simp
 ·subst e
  rw [List.take_length] at *
  refine⟨D,_,rfl,bH.of aq,_,rfl,?_⟩
  refine Hh hD λH1 s1 _=>?_
  rw [show(ns.map dZ).all id=ns.all dZ by rw [List.all_map];rfl]
  cases hv:ns.all dZ with
  | false=>
   refine bK ?_
   refine⟨_,rfl,by show 1<=1000;decide,λy ny n0=>⟨y,_,rfl,aq,λdx' nd ne=>⟨rfl,y,dx',rfl,n0,by rw [aD ne.symm];exact aq,?_⟩⟩⟩
   have rz:=raised (fs:=[((tK 3:Str),nm)]) ny nd ne
   exact kE 3 _ (by unfold oV;rw [hv,Bool.and_false];rfl) dx' _ (s1.trans rz.1) rz.2
  | true=>
   have g1:(decide (ns.length=cN i) && ns.all dZ)=true:=by rw [decide_eq_true hc,hv];rfl
   have bad:(decide (is.length=cI i) && decide (os.length=cO i))=false->oV i nm ns is os=some (5,nm):=λz=>by unfold oV;rw [g1,z];rfl
   refine bW ?_
   refine⟨_,rfl,.ref a2,is.length,rfl,(s1.seqA h2).len,_,rfl,ad,_,1,_,rfl,rfl,s1.seqT had,aH (j:=1) rfl,rfl,_,rfl,?_⟩
   by_cases hI:is.length=cI i
   case neg=>
    rw [show(!decide (V.int ((is.length:Nat):Int)=V.int ((cI i:Nat):Int)))=true by simp;lia]
    refine bK (bK ?_)
    refine⟨_,rfl,by show 1<=1000;decide,λy ny n0=>⟨y,_,rfl,aq,λdx' nd ne=>⟨rfl,y,dx',rfl,n0,by rw [aD ne.symm];exact aq,?_⟩⟩⟩
    have rz:=raised (fs:=[((tK 5:Str),nm)]) ny nd ne
    exact kE 5 _ (bad (by rw [decide_eq_false hI,Bool.false_and])) dx' _ (s1.trans rz.1) rz.2
   rw [show(!decide (V.int ((is.length:Nat):Int)=V.int ((cI i:Nat):Int)))=false by rw [hI];simp]
   refine bW ?_
   refine⟨_,rfl,.ref a3,os.length,rfl,(s1.seqA h3).len,_,rfl,ad,_,2,_,rfl,rfl,s1.seqT had,aH (j:=2) rfl,rfl,_,rfl,?_⟩
   by_cases hO:os.length=cO i
   case neg=>
    rw [show(!decide (V.int ((os.length:Nat):Int)=V.int ((cO i:Nat):Int)))=true by simp;lia]
    refine bK ?_
    refine⟨_,rfl,by show 1<=1000;decide,λy ny n0=>⟨y,_,rfl,aq,λdx' nd ne=>⟨rfl,y,dx',rfl,n0,by rw [aD ne.symm];exact aq,?_⟩⟩⟩
    have rz:=raised (fs:=[((tK 5:Str),nm)]) ny nd ne
    exact kE 5 _ (bad (by rw [decide_eq_false hO,Bool.and_false])) dx' _ (s1.trans rz.1) rz.2
   rw [show(!decide (V.int ((os.length:Nat):Int)=V.int ((cO i:Nat):Int)))=false by rw [hO];simp]
   exact bW (k (by unfold oV;rw [g1,decide_eq_true hI,decide_eq_true hO];rfl) _ s1)
inductive Dl (K:PySem.W.Frag) (t:Af) (vs:List V) (H:Hp) (Q:VK) (E:XK):Prop where
 | mk:∀(i:Nat) (nm:V) (a1 a2 a3:Addr) (ns is os:List V),vs=[.str (cu i),nm,.ref a1,.ref a2,.ref a3]->i<=10->uG K H a1 ns->uG K H a2 is->uG K H a3 os->(∀H' p,aM H H'->H p=none->iM K t H' p i nm ns is os->Q (.ref p) H')->Dl K t vs H Q E
noncomputable abbrev yL:List Str:=["kind", "name", "numbers", "ins", "outs"]
theorem JV (T:Txt w K mg t):FO P w K mg base 3 t.Fv yL (Dl K t):=by
 have sc:fJ yL yL (bw (top 36)):=QJ
 refine T.FQ.F.ok sc ln (λ_ _ _ _ H vs Q E hr h=>?_)
 obtain⟨i,nm,a1,a2,a3,ns,is,os,rfl,hi,h1,h2,h3,k⟩:=h
 refine⟨_,(aA (bD (aJ cX (pv 0) aN (bu _))
   (az (aY (iz (T.qH.M T.aX) (bU T) (hr.mono (by decide)) (by rfl) T.qH.m T.aX.b .nil fG (aa (pv 1) (aa (pv 2) (aa (pv 3) (aa (pv 4) ao aj) aj) aj) aj))))
   bz)
  (aA (bD (aJ cX (pv 0) aN (bu _))
   (az (aY (iz (T.qp.M T.aX) (bU T) (hr.mono (by decide)) (by rfl) T.qp.m T.aX.b .nil fG (aa (pv 1) (aa (pv 2) (aa (pv 3) (aa (pv 4) ao aj) aj) aj) aj))))
   bz)
  (aA (bD (aJ cX (pv 0) aN (bu _))
   (az (aY (iz (T.qd.M T.aX) (bU T) (hr.mono (by decide)) (by rfl) T.qd.m T.aX.b .nil fG (aa (pv 1) (aa (pv 2) (aa (pv 3) (aa (pv 4) ao aj) aj) aj) aj))))
   bz)
  (aA (bD (aJ cX (pv 0) aN (bu _))
   (az (aY (iz (T.pW.M T.aX) (bU T) (hr.mono (by decide)) (by rfl) T.pW.m T.aX.b .nil fG (aa (pv 1) (aa (pv 2) (aa (pv 3) (aa (pv 4) ao aj) aj) aj) aj))))
   bz)
  (aA (bD (aJ cX (pv 0) aN (bu _))
   (az (aY (iz (T.qJ.M T.aX) (bU T) (hr.mono (by decide)) (by rfl) T.qJ.m T.aX.b .nil fG (aa (pv 1) (aa (pv 2) (aa (pv 3) (aa (pv 4) ao aj) aj) aj) aj))))
   bz)
  (aA (bD (aJ cX (pv 0) aN (bu _))
   (az (aY (iz (T.qu.M T.aX) (bU T) (hr.mono (by decide)) (by rfl) T.qu.m T.aX.b .nil fG (aa (pv 1) (aa (pv 2) (aa (pv 3) (aa (pv 4) ao aj) aj) aj) aj))))
   bz)
  (aA (bD (aJ cX (pv 0) aN (bu _))
   (az (aY (iz (T.xK.M T.aX) (bU T) (hr.mono (by decide)) (by rfl) T.xK.m T.aX.b .nil fG (aa (pv 1) (aa (pv 2) (aa (pv 3) (aa (pv 4) ao aj) aj) aj) aj))))
   bz)
  (aA (bD (aJ cX (pv 0) aN (bu _))
   (az (aY (iz (T.qw.M T.aX) (bU T) (hr.mono (by decide)) (by rfl) T.qw.m T.aX.b .nil fG (aa (pv 1) (aa (pv 2) (aa (pv 3) (aa (pv 4) ao aj) aj) aj) aj))))
   bz)
  (aA (bD (aJ cX (pv 0) aN (bu _))
   (az (aY (iz (T.lN.M T.aX) (bU T) (hr.mono (by decide)) (by rfl) T.lN.m T.aX.b .nil fG (aa (pv 1) (aa (pv 2) (aa (pv 3) (aa (pv 4) ao aj) aj) aj) aj))))
   bz)
  (aA (bD (aJ cX (pv 0) aN (bu _))
   (az (aY (iz (T.jj.M T.aX) (bU T) (hr.mono (by decide)) (by rfl) T.jj.m T.aX.b .nil fG (aa (pv 1) (aa (pv 2) (aa (pv 3) (aa (pv 4) ao aj) aj) aj) aj))))
   bz)
  (az (aY (iz (T.lF.M T.aX) (bU T) (hr.mono (by decide)) (by rfl) T.lF.m T.aX.b .nil fG (aa (pv 1) (aa (pv 2) (aa (pv 3) (aa (pv 4) ao aj) aj) aj) aj)))))))))))))),?_⟩
 match i,hi with
 | 0,_=>
  refine⟨_,rfl,rfl,_,rfl,Ad rfl ?_⟩
  refine⟨_,rfl,_,rfl,_,rfl,_,rfl,λx dx nx ndx nex=>?_⟩
  have s0:aM H (upd (upd H dx (.own x)) x (.ins t.KR dx [])):=λb o e=>by rw [aD (aB e nx),aD (aB e ndx)];exact e
  exact⟨0,x,dx,a1,a2,a3,nm,ns,is,os,rfl,aq,s0.seqA h1,s0.seqA h2,s0.seqA h3,λH' b P=>⟨rfl,k H' x (λc o e=>b c o (aB e nx) (s0 c o e)) nx P⟩⟩
 | 1,_=>
  refine⟨_,rfl,rfl,_,rfl,dj (by decide +kernel) ?_⟩
  refine⟨_,rfl,rfl,_,rfl,Ad rfl ?_⟩
  refine⟨_,rfl,_,rfl,_,rfl,_,rfl,λx dx nx ndx nex=>?_⟩
  have s0:aM H (upd (upd H dx (.own x)) x (.ins t.J3 dx [])):=λb o e=>by rw [aD (aB e nx),aD (aB e ndx)];exact e
  exact⟨1,x,dx,a1,a2,a3,nm,ns,is,os,rfl,aq,s0.seqA h1,s0.seqA h2,s0.seqA h3,λH' b P=>⟨rfl,k H' x (λc o e=>b c o (aB e nx) (s0 c o e)) nx P⟩⟩
 | 2,_=>
  refine⟨_,rfl,rfl,_,rfl,dj (by decide +kernel) ?_⟩
  refine⟨_,rfl,rfl,_,rfl,dj (by decide +kernel) ?_⟩
  refine⟨_,rfl,rfl,_,rfl,Ad rfl ?_⟩
  refine⟨_,rfl,_,rfl,_,rfl,_,rfl,λx dx nx ndx nex=>?_⟩
  have s0:aM H (upd (upd H dx (.own x)) x (.ins t.J9 dx [])):=λb o e=>by rw [aD (aB e nx),aD (aB e ndx)];exact e
  exact⟨2,x,dx,a1,a2,a3,nm,ns,is,os,rfl,aq,s0.seqA h1,s0.seqA h2,s0.seqA h3,λH' b P=>⟨rfl,k H' x (λc o e=>b c o (aB e nx) (s0 c o e)) nx P⟩⟩
 | 3,_=>
  refine⟨_,rfl,rfl,_,rfl,dj (by decide +kernel) ?_⟩
  refine⟨_,rfl,rfl,_,rfl,dj (by decide +kernel) ?_⟩
  refine⟨_,rfl,rfl,_,rfl,dj (by decide +kernel) ?_⟩
  refine⟨_,rfl,rfl,_,rfl,Ad rfl ?_⟩
  refine⟨_,rfl,_,rfl,_,rfl,_,rfl,λx dx nx ndx nex=>?_⟩
  have s0:aM H (upd (upd H dx (.own x)) x (.ins t.KJ dx [])):=λb o e=>by rw [aD (aB e nx),aD (aB e ndx)];exact e
  exact⟨3,x,dx,a1,a2,a3,nm,ns,is,os,rfl,aq,s0.seqA h1,s0.seqA h2,s0.seqA h3,λH' b P=>⟨rfl,k H' x (λc o e=>b c o (aB e nx) (s0 c o e)) nx P⟩⟩
 | 4,_=>
  refine⟨_,rfl,rfl,_,rfl,dj (by decide +kernel) ?_⟩
  refine⟨_,rfl,rfl,_,rfl,dj (by decide +kernel) ?_⟩
  refine⟨_,rfl,rfl,_,rfl,dj (by decide +kernel) ?_⟩
  refine⟨_,rfl,rfl,_,rfl,dj (by decide +kernel) ?_⟩
  refine⟨_,rfl,rfl,_,rfl,Ad rfl ?_⟩
  refine⟨_,rfl,_,rfl,_,rfl,_,rfl,λx dx nx ndx nex=>?_⟩
  have s0:aM H (upd (upd H dx (.own x)) x (.ins t.J8 dx [])):=λb o e=>by rw [aD (aB e nx),aD (aB e ndx)];exact e
  exact⟨4,x,dx,a1,a2,a3,nm,ns,is,os,rfl,aq,s0.seqA h1,s0.seqA h2,s0.seqA h3,λH' b P=>⟨rfl,k H' x (λc o e=>b c o (aB e nx) (s0 c o e)) nx P⟩⟩
 | 5,_=>
  refine⟨_,rfl,rfl,_,rfl,dj (by decide +kernel) ?_⟩
  refine⟨_,rfl,rfl,_,rfl,dj (by decide +kernel) ?_⟩
  refine⟨_,rfl,rfl,_,rfl,dj (by decide +kernel) ?_⟩
  refine⟨_,rfl,rfl,_,rfl,dj (by decide +kernel) ?_⟩
  refine⟨_,rfl,rfl,_,rfl,dj (by decide +kernel) ?_⟩
  refine⟨_,rfl,rfl,_,rfl,Ad rfl ?_⟩
  refine⟨_,rfl,_,rfl,_,rfl,_,rfl,λx dx nx ndx nex=>?_⟩
  have s0:aM H (upd (upd H dx (.own x)) x (.ins t.Ku dx [])):=λb o e=>by rw [aD (aB e nx),aD (aB e ndx)];exact e
  exact⟨5,x,dx,a1,a2,a3,nm,ns,is,os,rfl,aq,s0.seqA h1,s0.seqA h2,s0.seqA h3,λH' b P=>⟨rfl,k H' x (λc o e=>b c o (aB e nx) (s0 c o e)) nx P⟩⟩
 | 6,_=>
  refine⟨_,rfl,rfl,_,rfl,dj (by decide +kernel) ?_⟩
  refine⟨_,rfl,rfl,_,rfl,dj (by decide +kernel) ?_⟩
  refine⟨_,rfl,rfl,_,rfl,dj (by decide +kernel) ?_⟩
  refine⟨_,rfl,rfl,_,rfl,dj (by decide +kernel) ?_⟩
  refine⟨_,rfl,rfl,_,rfl,dj (by decide +kernel) ?_⟩
  refine⟨_,rfl,rfl,_,rfl,dj (by decide +kernel) ?_⟩
  refine⟨_,rfl,rfl,_,rfl,Ad rfl ?_⟩
  refine⟨_,rfl,_,rfl,_,rfl,_,rfl,λx dx nx ndx nex=>?_⟩
  have s0:aM H (upd (upd H dx (.own x)) x (.ins t.QD dx [])):=λb o e=>by rw [aD (aB e nx),aD (aB e ndx)];exact e
  exact⟨6,x,dx,a1,a2,a3,nm,ns,is,os,rfl,aq,s0.seqA h1,s0.seqA h2,s0.seqA h3,λH' b P=>⟨rfl,k H' x (λc o e=>b c o (aB e nx) (s0 c o e)) nx P⟩⟩
 | 7,_=>
  refine⟨_,rfl,rfl,_,rfl,dj (by decide +kernel) ?_⟩
  refine⟨_,rfl,rfl,_,rfl,dj (by decide +kernel) ?_⟩
  refine⟨_,rfl,rfl,_,rfl,dj (by decide +kernel) ?_⟩
  refine⟨_,rfl,rfl,_,rfl,dj (by decide +kernel) ?_⟩
  refine⟨_,rfl,rfl,_,rfl,dj (by decide +kernel) ?_⟩
  refine⟨_,rfl,rfl,_,rfl,dj (by decide +kernel) ?_⟩
  refine⟨_,rfl,rfl,_,rfl,dj (by decide +kernel) ?_⟩
  refine⟨_,rfl,rfl,_,rfl,Ad rfl ?_⟩
  refine⟨_,rfl,_,rfl,_,rfl,_,rfl,λx dx nx ndx nex=>?_⟩
  have s0:aM H (upd (upd H dx (.own x)) x (.ins t.Kd dx [])):=λb o e=>by rw [aD (aB e nx),aD (aB e ndx)];exact e
  exact⟨7,x,dx,a1,a2,a3,nm,ns,is,os,rfl,aq,s0.seqA h1,s0.seqA h2,s0.seqA h3,λH' b P=>⟨rfl,k H' x (λc o e=>b c o (aB e nx) (s0 c o e)) nx P⟩⟩
 | 8,_=>
  refine⟨_,rfl,rfl,_,rfl,dj (by decide +kernel) ?_⟩
  refine⟨_,rfl,rfl,_,rfl,dj (by decide +kernel) ?_⟩
  refine⟨_,rfl,rfl,_,rfl,dj (by decide +kernel) ?_⟩
  refine⟨_,rfl,rfl,_,rfl,dj (by decide +kernel) ?_⟩
  refine⟨_,rfl,rfl,_,rfl,dj (by decide +kernel) ?_⟩
  refine⟨_,rfl,rfl,_,rfl,dj (by decide +kernel) ?_⟩
  refine⟨_,rfl,rfl,_,rfl,dj (by decide +kernel) ?_⟩
  refine⟨_,rfl,rfl,_,rfl,dj (by decide +kernel) ?_⟩
  refine⟨_,rfl,rfl,_,rfl,Ad rfl ?_⟩
  refine⟨_,rfl,_,rfl,_,rfl,_,rfl,λx dx nx ndx nex=>?_⟩
  have s0:aM H (upd (upd H dx (.own x)) x (.ins t.Gw dx [])):=λb o e=>by rw [aD (aB e nx),aD (aB e ndx)];exact e
  exact⟨8,x,dx,a1,a2,a3,nm,ns,is,os,rfl,aq,s0.seqA h1,s0.seqA h2,s0.seqA h3,λH' b P=>⟨rfl,k H' x (λc o e=>b c o (aB e nx) (s0 c o e)) nx P⟩⟩
 | 9,_=>
  refine⟨_,rfl,rfl,_,rfl,dj (by decide +kernel) ?_⟩
  refine⟨_,rfl,rfl,_,rfl,dj (by decide +kernel) ?_⟩
  refine⟨_,rfl,rfl,_,rfl,dj (by decide +kernel) ?_⟩
  refine⟨_,rfl,rfl,_,rfl,dj (by decide +kernel) ?_⟩
  refine⟨_,rfl,rfl,_,rfl,dj (by decide +kernel) ?_⟩
  refine⟨_,rfl,rfl,_,rfl,dj (by decide +kernel) ?_⟩
  refine⟨_,rfl,rfl,_,rfl,dj (by decide +kernel) ?_⟩
  refine⟨_,rfl,rfl,_,rfl,dj (by decide +kernel) ?_⟩
  refine⟨_,rfl,rfl,_,rfl,dj (by decide +kernel) ?_⟩
  refine⟨_,rfl,rfl,_,rfl,Ad rfl ?_⟩
  refine⟨_,rfl,_,rfl,_,rfl,_,rfl,λx dx nx ndx nex=>?_⟩
  have s0:aM H (upd (upd H dx (.own x)) x (.ins t.Dd dx [])):=λb o e=>by rw [aD (aB e nx),aD (aB e ndx)];exact e
  exact⟨9,x,dx,a1,a2,a3,nm,ns,is,os,rfl,aq,s0.seqA h1,s0.seqA h2,s0.seqA h3,λH' b P=>⟨rfl,k H' x (λc o e=>b c o (aB e nx) (s0 c o e)) nx P⟩⟩
 | 10,_=>
  refine⟨_,rfl,rfl,_,rfl,dj (by decide +kernel) ?_⟩
  refine⟨_,rfl,rfl,_,rfl,dj (by decide +kernel) ?_⟩
  refine⟨_,rfl,rfl,_,rfl,dj (by decide +kernel) ?_⟩
  refine⟨_,rfl,rfl,_,rfl,dj (by decide +kernel) ?_⟩
  refine⟨_,rfl,rfl,_,rfl,dj (by decide +kernel) ?_⟩
  refine⟨_,rfl,rfl,_,rfl,dj (by decide +kernel) ?_⟩
  refine⟨_,rfl,rfl,_,rfl,dj (by decide +kernel) ?_⟩
  refine⟨_,rfl,rfl,_,rfl,dj (by decide +kernel) ?_⟩
  refine⟨_,rfl,rfl,_,rfl,dj (by decide +kernel) ?_⟩
  refine⟨_,rfl,rfl,_,rfl,dj (by decide +kernel) ?_⟩
  refine⟨_,rfl,_,rfl,_,rfl,_,rfl,λx dx nx ndx nex=>?_⟩
  have s0:aM H (upd (upd H dx (.own x)) x (.ins t.Gz dx [])):=λb o e=>by rw [aD (aB e nx),aD (aB e ndx)];exact e
  exact⟨10,x,dx,a1,a2,a3,nm,ns,is,os,rfl,aq,s0.seqA h1,s0.seqA h2,s0.seqA h3,λH' b P=>⟨rfl,k H' x (λc o e=>b c o (aB e nx) (s0 c o e)) nx P⟩⟩
 | (n+11),h=>exact absurd h (by lia)
inductive xX (K:PySem.W.Frag) (t:Af) (vs:List V) (H:Hp) (Q:VK) (E:XK):Prop where
 | mk:∀(z:Str) (nm:V) (a1 a2 a3:Addr) (ns is os:List V),vs=[.str z,nm,.ref a1,.ref a2,.ref a3]->uG K H a1 ns->uG K H a2 is->uG K H a3 os->((∀v∈ns,Hx v))->ns.length<=1000->(WD t E H z nm ns is os (λi=>∀H' p,aM H H'->H p=none->iM K t H' p i nm ns is os->Q (.ref p) H'))->xX K t vs H Q E
noncomputable abbrev uv:List Str:=["kind", "name", "numbers", "ins", "outs"]
theorem Ge (T:Txt w K mg t):jd P w K mg base (oU P w) 4 t.tZ (fdOf K t.tZ) uv (xX K t):=by
 have sc:fJ uv uv (bw (top 37)):=QJ
 refine T.m6.F.ok2 sc ln (λ_ _ _ _ H vs Q E hr h=>?_)
 obtain⟨z,nm,a1,a2,a3,ns,is,os,rfl,h1,h2,h3,hN,hz,F⟩:=h
 refine⟨_,(aA (aV (iD (HQ T) (hr.mono (by decide)) (by rfl) T.mq.m T.mq.F.kp T.mq.b .nil (uz λ_ _ _ h=>h) (aa (pv 0) (aa (pv 1) (aa (pv 2) (aa (pv 3) (aa (pv 4) ao aj) aj) aj) aj) aj)))
  (az (aY (dF (JV T) T.FQ hr (aa (pv 0) (aa (pv 1) (aa (pv 2) (aa (pv 3) (aa (pv 4) ao aj) aj) aj) aj) aj))))),?_⟩
 refine⟨_,rfl,_,rfl,_,rfl,_,rfl,_,rfl,z,nm,a1,a2,a3,ns,is,os,rfl,h1,h2,h3,hN,hz,?_⟩
 rcases F with F | ⟨i,hi,rfl,k,kE⟩
 ·exact .inl F
 ·refine .inr ⟨i,hi,rfl,λe H1 s1=>?_,kE⟩
  exact⟨_,rfl,_,rfl,_,rfl,_,rfl,_,rfl,i,nm,a1,a2,a3,ns,is,os,rfl,hi,s1.seqA h1,s1.seqA h2,s1.seqA h3,λH2 p s2 np P=>k e H2 p (s1.trans s2) (s1.free np) P⟩
inductive tu (vs:List V) (H:Hp) (Q:VK) (E:XK):Prop where
 | mk:∀a b:Int,vs=[.int a,.int b]->Q (.int (cg a b)) H->tu vs H Q E
theorem bh (T:Txt w K mg t):FO P w K mg base 1 t.Bl ["_law_cell_here", "_law_k"] (tu):=by
 have sc:=T.bA.sc ["_law_cell_here", "_law_k", "_law_number"]
 refine T.bA.F.ok sc ln (λ_ _ _ _ H vs Q E hr h=>?_)
 obtain⟨a,b,rfl,k⟩:=h
 refine⟨_,(aA (sN sc 2 (aK bJ (aK dG (aK dG (aK pZ (aK bJ (pv 0) au) au) (aK pZ au (pv 1))) au) au))
  (aA (sN sc 2 (aK bJ (aK pZ (pv 2) (pv 2)) au))
  (az (aY (aK bJ (aK pZ (aK dG (pv 2) (aK pZ au (pv 1))) (pv 2)) au))))),?_⟩
 refine⟨_,rfl,_,_,rfl,rfl,by show(0:Int) <2147483647;decide,_,_,rfl,rfl,Gf,_,rfl,_,_,rfl,rfl,nj,_,_,rfl,rfl,_,_,rfl,rfl,_,_,rfl,rfl,by show(0:Int) <2147483647;decide,?_⟩
 unfold cg at k
 have y0:0<=(a % 2147483647 * 48271+7919 * b+11) % 2147483647:=Int.emod_nonneg _ (by decide)
 have y1:(a % 2147483647 * 48271+7919 * b+11) % 2147483647 <2147483647:=Int.emod_lt_of_pos _ (by decide)
 refine⟨_,rfl,_,rfl,_,_,rfl,rfl,.of_right (intBits_le_64 (Int.lt_of_lt_of_le (show -(2 ^ 64) <(0:Int) by decide) y0) (Int.lt_trans y1 (by decide))),_,_,rfl,rfl,by show(0:Int) <2147483629;decide,?_⟩
 have z0:0<=((a % 2147483647 * 48271+7919 * b+11) % 2147483647) * ((a % 2147483647 * 48271+7919 * b+11) % 2147483647) % 2147483629:=Int.emod_nonneg _ (by decide)
 have z1:((a % 2147483647 * 48271+7919 * b+11) % 2147483647) * ((a % 2147483647 * 48271+7919 * b+11) % 2147483647) % 2147483629 <2147483629:=Int.emod_lt_of_pos _ (by decide)
 exact⟨_,rfl,_,rfl,_,_,rfl,rfl,nj,_,_,rfl,rfl,_,rfl,_,_,rfl,rfl,.of_right (intBits_le_64 (Int.lt_of_lt_of_le (show -(2 ^ 64) <(0:Int) by decide) z0) (Int.lt_trans z1 (by decide))),_,_,rfl,rfl,by show(0:Int) <2147483587;decide,k⟩
inductive wW (K:PySem.W.Frag) (vs:List V) (H:Hp) (Q:VK) (E:XK):Prop where
 | mk:∀(a:Addr) (ns:List Int) (j:Nat),vs=[.ref a,.int (j:Nat)]->bH K H a (ns.map V.int)->Q (.int (j5 ns j)) H->wW K vs H Q E
theorem jw (T:Txt w K mg t):FO P w K mg base 1 t.zV ["_law_script", "_law_k"] (wW K):=by
 have sc:=T.gm.sc ["_law_script", "_law_k"]
 refine T.gm.F.ok sc ln (λ_ _ _ _ H vs Q E hr h=>?_)
 obtain⟨a,ns,j,rfl,hS,k⟩:=h
 refine⟨_,(aA (bD (aJ qY (pv 1) (bj bI (by rfl) T.dz cj (aa (pv 0) ao aj)) (bu _))
   (az (aY (aZ aU (pv 0) (pv 1) (λ_ _=>rfl))))
   bz)
  (az (aY (aK dG (aK pZ au (pv 1)) au)))),?_⟩
 unfold j5 at k
 refine⟨_,rfl,_,rfl,.ref a,ns.length,rfl,.inl ⟨_,hS,by simp⟩,_,_,rfl,rfl,_,rfl,dN (λh=>?_) (λh=>?_)⟩
 ·have h':j <ns.length:=by have:=of_decide_eq_true h;lia
  rw [List.getElem?_eq_getElem h'] at k
  exact⟨_,rfl,_,rfl,a,_,j,_,rfl,rfl,hS,aH (by rw [List.getElem?_map,List.getElem?_eq_getElem h'];rfl),k⟩
 ·have h':¬j <ns.length:=λz=>h (decide_eq_true (by lia))
  rw [List.getElem?_eq_none (by lia)] at k
  exact⟨_,rfl,_,_,rfl,rfl,nj,_,_,rfl,rfl,k⟩
inductive vh (vs:List V) (H:Hp) (Q:VK) (E:XK):Prop where
 | mk:∀a b:Int,vs=[.int a,.int b]->Q (.int (qG a b)) H->vh vs H Q E
theorem jM (T:Txt w K mg t):FO P w K mg base 2 t.xR ["_law_cell_here", "_law_k"] (vh):=by
 have sc:=T.gJ.sc ["_law_cell_here", "_law_k", "_law_number", "_law_way"]
 refine T.gJ.F.ok sc ln (λ_ _ _ _ H vs Q E hr h=>?_)
 obtain⟨a,b,rfl,k⟩:=h
 refine⟨_,(aA (sN sc 2 (dF (bh T) T.bA hr (aa (pv 0) (aa (pv 1) ao aj) aj)))
  (aA (sN sc 3 (aK bJ (aK cY (pv 2) au) au))
  (aA (bD (aJ cX (pv 3) au (bu _))
   (az (aY (aK bJ (pv 2) au)))
   bz)
  (aA (bD (aJ cX (pv 3) au (bu _))
   (az (aY (aK bJ (pv 2) (aK yR au au))))
   bz)
  (az (aY (aK JZ (aK JZ (aK yR au au) au) (aK bJ (pv 2) au)))))))),?_⟩
 refine⟨_,rfl,_,rfl,a,b,rfl,?_⟩
 unfold qG at k
 have n0:=nZ a b
 generalize cg a b=n at n0 k ⊢
 refine⟨_,rfl,_,_,rfl,rfl,jz (by decide) (by decide),_,_,rfl,rfl,by show(0:Int) <3;decide,?_⟩
 refine⟨_,rfl,rfl,_,rfl,dN (λh=>?_) (λh=>?_)⟩
 ·have h':n / 7 % 3=0:=by simpa using of_decide_eq_true h
  rw [if_pos h'] at k
  exact⟨_,rfl,_,_,rfl,rfl,by show(0:Int) <5;decide,k⟩
 have h':¬n / 7 % 3=0:=λz=>h (decide_eq_true (by show V.int (n / 7 % 3)=V.int 0;rw [z]))
 rw [if_neg h'] at k
 refine⟨_,rfl,rfl,_,rfl,dN (λh2=>?_) (λh2=>?_)⟩
 ·have h2':n / 7 % 3=1:=by simpa using of_decide_eq_true h2
  rw [if_pos h2'] at k
  exact⟨_,rfl,_,_,rfl,rfl,⟨by decide,by decide,by decide⟩,_,_,rfl,rfl,by show(0:Int) <10 ^ 9;decide,k⟩
 have h2':¬n / 7 % 3=1:=λz=>h2 (decide_eq_true (by show V.int (n / 7 % 3)=V.int 1;rw [z]))
 rw [if_neg h2'] at k
 exact⟨_,_,rfl,rfl,⟨by decide,by decide,by decide⟩,_,_,rfl,rfl,_,rfl,_,_,rfl,rfl,by show(0:Int) <3;decide,_,_,rfl,rfl,k⟩
theorem Ln {x y:Str} (h:x.cps.toList=y.cps.toList):x=y:=PyProof.Rows.ext_toList h
theorem jJ {n:Int} (h0:0<=n) (h1:n <2000):n.natAbs.log2 <1920:=by
 by_cases z:n.natAbs=0
 ·rw [z]
  decide
 ·have:n.natAbs.log2 <11:=(Nat.log2_lt z).mpr (by lia)
  lia
theorem join_ones (cs:List Nat):(Txt.join Str.empty (cs.map λc=>(⟨#[c]⟩:Str))).cps.toList=cs:=by
 unfold Txt.join
 rw [StrLaws.glued_eq_join,By]
 induction cs with
 | nil=>rfl
 | cons c r ih=>simpa using ih
theorem Vz {x:Str} {n:Nat} (h:n<=x.length):(Txt.slice x none (some (n:Int))).cps.toList=x.cps.toList.take n:=by
 have e:=beq_iff_eq.mp (PyProof.Rows.slice_closes_toL (x:=x) (j:=(n:Int)) (by lia) (by lia))
 rw [e]
 simp
theorem Ov {x:Str} {n:Nat} (h:n<=x.length):(Txt.slice x (some (n:Int)) none).cps.toList=x.cps.toList.drop n:=by
 have e:=PyProof.Rows.slice_from_eq (x:=x) (i:=(n:Int)) (b:=(x.length:Int)) (by lia) (by lia) rfl
 rw [e]
 show List.take ((x.length:Int) - n).toNat (List.drop ((n:Int)).toNat x.cps.toList)=_
 rw [Int.toNat_natCast,List.take_of_length_le (by rw [List.length_drop,iW];lia)]
inductive xu (vs:List V) (H:Hp) (Q:VK) (E:XK):Prop where
 | mk:∀(a:Int) (b:Nat),vs=[.int a,.int (b:Nat)]->b<=25->(∀H':Hp,aM H H'->Q (.str (cG a b)) H')->xu vs H Q E
noncomputable abbrev zB:List Str:=["_law_cell_here", "_law_k", "_law_letters", "_law_many", "_law_base", "_law_at"]
theorem lE (T:Txt w K mg t):FO P w K mg base 2 t.zL ["_law_cell_here", "_law_k"] (xu):=by
 have sc:=T.iV.sc zB
 refine T.iV.F.ok sc ln (λ_ _ _ _ H vs Q E hr h=>?_)
 obtain⟨a,b,rfl,b1,k⟩:=h
 refine⟨_,(aA (sN sc 2 aN)
  (aA (bD (aJ cX (aK bJ (dF (bh T) T.bA hr (aa (pv 0) (aa au ao ak) aj)) au) au (bu _))
   (az (aY (aK cJ (aZ An (pv 2) (aK bJ (dF (bh T) T.bA hr (aa (pv 0) (aa au ao ak) aj)) au) (λ_ _=>rfl)) (bV fK (by rfl) T.xg qN (aa (aK dG (aK bJ (dF (bh T) T.bA hr (aa (pv 0) (aa au ao ak) aj)) au) (aK pZ au (pv 1))) ao bG)))))
   bz)
  (aA (sN sc 3 (aK bJ (dF (bh T) T.bA hr (aa (pv 0) (aa au ao ak) aj)) au))
  (aA (sN sc 4 (pC PySem.F.plainAttrs_str PySem.F.slot_str_join PySem.F.type_str_join RK aN (aa (jX [0,2] zB (bw (top 56)) rfl (gQ rfl T.lQ (aa (pv 3) ao aj)) (λ_ _ _ _ _=>ik) (λ_ _ _ _ _=>(aZ An (pv 2) (aK bJ (dF (bh T) T.bA hr (aa (pv 1) (aa (aK dG au (pv 0)) ao bG) aj)) au) (λ_ _=>rfl)))) ao jL)))
  (aA (sN sc 5 (aK bJ (dF (bh T) T.bA hr (aa (pv 0) (aa au ao ak) aj)) (aK dG (pv 3) au)))
  (az (aY (aK cJ (aK cJ (sV PX (pv 4) wO (w5 (pv 5))) (aZ An (pv 2) (aK bJ (aK dG (dF (bh T) T.bA hr (aa (pv 0) (aa au ao ak) aj)) (pv 1)) au) (λ_ _=>rfl))) (sV PX (pv 4) (w5 (pv 5)) wO))))))))),?_⟩
 have hl:sizeLine=16777216:=sizeLine_eq
 have hF:(cG a b).cps.toList=zX a b:=CW a b
 unfold zX at hF
 refine⟨_,rfl,_,_,rfl,⟨_,_,rfl,rfl,by show(0:Int) <3;decide,rfl,_,rfl,dN (λhw=>?_) (λhw=>?_)⟩⟩
 ·have hw':cg a 52 % 3=0:=by simpa using of_decide_eq_true hw
  rw [if_pos hw'] at hF
  refine⟨_,rfl,_,rfl,_,_,rfl,?_⟩
  refine⟨_,_,rfl,rfl,by show(0:Int) <26;decide,LT,_,_,rfl,rfl,by rw [KC];lia,QG _,?_⟩
  refine⟨_,rfl,_,_,rfl,⟨_,_,rfl,rfl,by show(0:Int) <1000;decide,_,rfl,_,_,rfl,rfl,nj,_,_,rfl,rfl,?_⟩⟩
  have q0:=Int.emod_nonneg (cg a 54) (show(1000:Int)≠0 by decide)
  have q1:=Int.emod_lt_of_pos (cg a 54) (show(0:Int) <1000 by decide)
  obtain⟨m,hm⟩:∃m:Nat,cg a 54 % 1000+37 * (b:Int)=(m:Int):=⟨(cg a 54 % 1000+37 * (b:Int)).toNat,by lia⟩
  obtain⟨_,g2,_⟩:=uJ (n:=m) (by lia)
  have g3:(toString (m:Int):Str).length<=4:=by rw [<-iW];exact g2
  have e:(⟨#[Il (cg a 53)]⟩:Str) ++ (toString (m:Int):Str)=cG a b:=Ln (by
   rw [hF,Str.cps_append,hm,Int.toNat_natCast]
   simp only [Array.toList_append]
   rfl)
  have k':=k H (aM.refl _)
  rw [<-e] at k'
  dsimp only
  rw [hm]
  exact⟨_,rfl,jJ (by lia) (by lia),_,_,rfl,rfl,by show 1+_<=sizeLine;lia,k'⟩
 have hw':¬cg a 52 % 3=0:=λz=>hw (decide_eq_true (by show V.int (cg a 52 % 3)=V.int 0;rw [z]))
 rw [if_neg hw'] at hF
 refine⟨_,rfl,_,_,rfl,⟨_,_,rfl,rfl,by show(0:Int) <7;decide,?_⟩⟩
 have z0:=Int.emod_nonneg (cg a 50) (show(7:Int)≠0 by decide)
 have z1:=Int.emod_lt_of_pos (cg a 50) (show(0:Int) <7 by decide)
 refine⟨rfl,_,rfl,cg a 50 % 7,rfl,by lia,by lia,?_⟩
 refine qF (λi ys H'=>H'=H/\ys=((List.range i).map λj=>Il (cg a (60+(j:Nat)))).map λc=>V.str ⟨#[c]⟩) (by lia) ⟨rfl,rfl⟩ (λi ys H' ⟨_,e⟩=>by rw [e,lM,lM,List.length_range];lia) ?_ ?_
 ·rintro i ys H' hi ⟨rfl,rfl⟩
  refine yes ?_
  refine⟨_,rfl,_,rfl,_,rfl,_,_,rfl,rfl,_,_,rfl,?_⟩
  refine⟨_,_,rfl,rfl,by show(0:Int) <26;decide,LT,_,_,rfl,rfl,by rw [KC];lia,QG _,rfl,?_⟩
  rw [List.range_succ,List.map_append,List.map_append]
  simp
 rintro ys H' ⟨rfl,rfl⟩ D hD
 have eb:((List.range (cg a 50 % 7).toNat).map λj=>Il (cg a (60+(j:Nat))))=fC a:=rfl
 rw [eb]
 have s1:aM H' (upd H' D (.lst ((fC a).map λc=>V.str ⟨#[c]⟩))):=aC hD
 have bl:=(Dk a).1
 have es:((fC a).map λc=>V.str ⟨#[c]⟩)=((fC a).map λc=>(⟨#[c]⟩:Str)).map V.str:=by rw [List.map_map];rfl
 refine⟨Str.empty,D,(fC a).map λc=>(⟨#[c]⟩:Str),rfl,rfl,bH.of (by rw [<-es];exact aq),?_,?_⟩
 ·have:=N7 (n:=1) ((fC a).map λc=>(⟨#[c]⟩:Str)) λw h=>by
   obtain⟨c,_,rfl⟩:=List.mem_map.mp h
   exact Nat.le_refl 1
  have he:Str.empty.length=0:=rfl
  rw [he]
  rw [lM] at this
  lia
 have ej:=join_ones (fC a)
 generalize upd H' D (.lst ((fC a).map λc=>V.str ⟨#[c]⟩))=H1 at s1 ⊢
 generalize Txt.join Str.empty ((fC a).map λc=>(⟨#[c]⟩:Str))=x0 at ej ⊢
 have hx0:x0.length=(fC a).length:=by rw [<-iW,ej]
 refine⟨_,rfl,_,_,rfl,⟨_,rfl,_,_,rfl,rfl,_,_,rfl,rfl,by show(0:Int) <cg a 50 % 7+1;lia,?_⟩⟩
 have hsp:=Lf a
 obtain⟨n,hn,hn2⟩:∃n:Nat,cg a 51 % (cg a 50 % 7+1)=(n:Int)/\n=nY a:=⟨nY a,(Int.toNat_of_nonneg (Int.emod_nonneg _ (by lia))).symm,rfl⟩
 rw [<-hn2] at hsp hF
 dsimp only
 rw [hn]
 have s0:=Txt.slice_le x0 none (some (n:Int))
 have s2:=Txt.slice_le x0 (some (n:Int)) none
 refine⟨_,rfl,_,rfl,_,rfl,x0,rfl,by lia,_,rfl,_,rfl,_,_,rfl,⟨_,rfl,_,_,rfl,rfl,?_⟩⟩
 have h1:(⟨#[Il (cg a 55+(b:Int))]⟩:Str).length=1:=rfl
 refine⟨_,_,rfl,rfl,by show(0:Int) <26;decide,LT,_,_,rfl,rfl,by rw [KC];lia,QG _,_,_,rfl,rfl,by rw [h1];lia,?_⟩
 refine⟨_,rfl,_,rfl,_,rfl,x0,rfl,by lia,_,_,rfl,rfl,by rw [Str.length_append,h1];lia,?_⟩
 have e:Txt.slice x0 none (some (n:Int)) ++ (⟨#[Il (cg a 55+(b:Int))]⟩:Str) ++ Txt.slice x0 (some (n:Int)) none=cG a b:=Ln (by
  rw [hF,Str.cps_append,Str.cps_append]
  simp only [Array.toList_append]
  rw [Vz (by lia),Ov (by lia),ej]
  simp)
 rw [e]
 exact k H1 s1
theorem W4 (m:Int):∃c:Nat,DW [V.int 0,.int 0,.int 0,.int 1,.int 2] (m % 5)=some (.int (c:Nat))/\c<=2:=by
 have key:∀j,j <5->DW [V.int 0,.int 0,.int 0,.int 1,.int 2] ((j:Nat):Int)=some (.int (([0,0,0,1,2]:List Nat).getD j 0:Nat))/\([0,0,0,1,2]:List Nat).getD j 0<=2:=by decide +kernel
 obtain⟨j,e,hj⟩:=J6 m (n:=5) (k:=5) (by decide) rfl
 rw [e]
 exact⟨_,key j hj⟩
theorem Ww (m:Int):∃c:Nat,DW [V.int 0,.int 0,.int 1,.int 1,.int 2,.int 7] (m % 6)=some (.int (c:Nat))/\c<=7:=by
 have key:∀j,j <6->DW [V.int 0,.int 0,.int 1,.int 1,.int 2,.int 7] ((j:Nat):Int)=some (.int (([0,0,1,1,2,7]:List Nat).getD j 0:Nat))/\([0,0,1,1,2,7]:List Nat).getD j 0<=7:=by decide +kernel
 obtain⟨j,e,hj⟩:=J6 m (n:=6) (k:=6) (by decide) rfl
 rw [e]
 exact⟨_,key j hj⟩
inductive xQ (vs:List V) (H:Hp) (Q:VK) (E:XK):Prop where
 | mk:∀(d:Dw) (ls:List bB) (ps:List PD) (os:List Str) (c:Int) (b:Bool),vs=[.ref d.S,.int c,.bl b]->lG d H ls ps os->ls.length<=24->(∀(l:bB) (H':Hp),l.name=cG d.c3 ls.length->aM (bQ d.E H) (bQ d.E H')->lG d H' (ls ++ [l]) ps os->Q (.str l.name) H')->xQ vs H Q E
noncomputable abbrev yZ:List Str:=["_law_state", "_law_cell_here", "_law_back", "_law_many", "_law_first", "_law_room", "_law_name"]
theorem jt (T:Txt w K mg t):FO P w K mg base 3 t.zQ ["_law_state", "_law_cell_here", "_law_back"] (xQ):=by
 have sc:=T.gq.sc yZ
 refine T.gq.F.ok sc ln (λ_ _ _ _ H vs Q E hr h=>?_)
 obtain⟨d,ls,ps,os,c,b,rfl,D,hn,k⟩:=h
 refine⟨_,(aA (sN sc 3 (aZ aU (aW (aa au (aa au (aa au (aa au (aa au ao ak) ak) ak) ak) ak)) (aK bJ (dF (bh T) T.bA hr (aa (pv 1) (aa au ao ak) aj)) au) (λ_ _=>rfl)))
  (aA (bM (bD (gY (pv 2))
   (az (sN sc 3 (aK bJ (dF (bh T) T.bA hr (aa (pv 1) (aa au ao ak) aj)) au)))
   bz))
  (aA (j4 (i:=4) [1] yZ (bw (top 57)) rfl sc.nd rfl (gQ rfl T.lQ (aa (pv 3) ao aj)) (λ_ _ _ _ _=>ik) (λ_ _ _ _ _=>(dF (jM T) T.gJ hr (aa (pv 1) (aa (aK dG au (pv 0)) ao bG) aj))))
  (aA (sN sc 5 (aK dG (bj (Fd rfl) (by rfl) T.Ul Om (aa au (aa (pv 3) ao aj) ak)) (aZ aU (aW (@aa _ _ _ _ _ au (@aa _ _ _ _ _ au (@aa _ _ _ _ _ au (@aa _ _ _ _ _ au (@aa _ _ _ _ _ au (@aa _ _ _ _ _ au ao ak) ak) ak) ak) ak) ak)) (aK bJ (dF (bh T) T.bA hr (aa (pv 1) (aa au ao ak) aj)) au) (λ_ _=>rfl))))
  (aA (sN sc 6 (dF (lE T) T.iV hr (aa (aZ aU (pv 0) au (λ_ _=>rfl)) (aa (bj bI (by rfl) T.dz cj (aa (aZ aU (pv 0) au (λ_ _=>rfl)) ao aF)) ao bc) aF)))
  (aA (aV (yU (aZ aU (pv 0) au (λ_ _=>rfl)) (aa (cB (aa (pv 6) (aa (pv 5) (aa (pv 4) ao aj) aj) aj)) ao mD)))
  (az (aY (pv 6))))))))),?_⟩
 have hl:sizeLine=16777216:=sizeLine_eq
 refine⟨by show 5<=sizeLine;lia,λl0 n0=>?_⟩
 have s0:=aC (o:=.lst [.int 0,.int 0,.int 0,.int 1,.int 2]) n0
 obtain⟨c0,e0,h0⟩:=W4 (cg c 1)
 refine⟨_,rfl,_,_,rfl,_,_,rfl,rfl,by show(0:Int) <5;decide,l0,_,_,_,rfl,rfl,bH.of aq,e0,?_⟩
 generalize upd H l0 (.lst [.int 0,.int 0,.int 0,.int 1,.int 2])=H0 at s0 ⊢
 refine⟨λσ H1=>∃m:Nat,m<=3/\H1=H0/\σ=[some (.ref d.S),some (.int c),some (.bl b),some (.int (m:Nat)),none,none,none],?_,?_⟩
 ·cases b
  ·exact⟨_,rfl,false,rfl,bW ⟨c0,by lia,rfl,rfl⟩⟩
  ·refine⟨_,rfl,true,rfl,bK ⟨_,rfl,_,_,rfl,_,_,rfl,rfl,by show(0:Int) <4;decide,?_⟩⟩
   have h1:=Int.emod_nonneg (cg c 1) (show(4:Int)≠0 by decide)
   have h2:=Int.emod_lt_of_pos (cg c 1) (show(0:Int) <4 by decide)
   refine⟨(cg c 1 % 4).toNat,by lia,rfl,?_⟩
   rw [Int.toNat_of_nonneg h1]
   rfl
 rintro σ H1 ⟨m,hm,rfl,rfl⟩
 refine⟨_,rfl,(m:Int),rfl,by lia,by lia,?_⟩
 rw [Int.toNat_natCast]
 refine qF (λi ys H'=>H'=H1/\∃ws:List Int,ys=ws.map V.int/\ws.length=i/\∀v∈ws,0<=v/\v <1000000000) (by lia) ⟨rfl,[],rfl,rfl,by simp⟩ (λi ys H' ⟨_,ws,e,e2,_⟩=>by rw [e,lM];lia) ?_ ?_
 ·rintro i ys H' hi ⟨rfl,ws,rfl,hw,hB⟩
  refine yes ⟨_,rfl,_,rfl,_,_,rfl,rfl,c,10+(0+(i:Int)),rfl,rfl,ws ++ [qG c (10+(0+(i:Int)))],by simp,by simp [hw],λv hv=>?_⟩
  rcases List.mem_append.mp hv with hv | hv
  ·exact hB v hv
  ·rw [List.mem_singleton] at hv
   subst hv
   exact uD _ _
 rintro ys H' ⟨rfl,ws,rfl,hw,hB⟩ F nF
 have t1:=aC (o:=.lst (ws.map V.int)) nF
 have sF:=s0.trans t1
 have eF:upd H' F (.lst (ws.map V.int)) F=some (.lst (ws.map V.int)):=aq
 have oF:F∉d.E:=D.out (s0.free nF)
 generalize upd H' F (.lst (ws.map V.int))=H2 at t1 sF eF ⊢
 refine⟨_,rfl,_,_,rfl,by show 6<=sizeLine;lia,λl1 n1=>?_⟩
 have t2:=aC (o:=.lst [.int 0,.int 0,.int 1,.int 1,.int 2,.int 7]) n1
 obtain⟨c1,e1,h1⟩:=Ww (cg c 2)
 refine⟨_,rfl,_,_,rfl,_,_,rfl,rfl,by show(0:Int) <6;decide,l1,_,_,_,rfl,rfl,bH.of aq,e1,_,_,rfl,rfl,?_⟩
 have s2:=sF.trans t2
 have eF2:=t2 _ _ eF
 generalize upd H2 l1 (.lst [.int 0,.int 0,.int 1,.int 1,.int 2,.int 7])=H3 at t2 s2 eF2 ⊢
 have D3:=D.keep s2
 obtain⟨xs,eL,aL⟩:=D3.lanes
 have xl:=aL.length
 refine⟨_,rfl,d.S,_,3,_,rfl,rfl,D3.seqS,aH (j:=3) rfl,?_⟩
 refine⟨_,rfl,d.S,_,0,_,rfl,rfl,D3.seqS,aH (j:=0) rfl,.ref d.L,ls.length,rfl,.inl ⟨_,bH.of eL,xl.symm⟩,?_⟩
 refine⟨d.c3,ls.length,rfl,by lia,λH4 s4=>?_⟩
 have D4:=D3.keep s4
 have eL4:=s4 _ _ eL
 have eF4:=s4 _ _ eF2
 have s04:=s2.trans s4
 refine⟨_,rfl,d.S,_,0,_,rfl,rfl,D4.seqS,aH (j:=0) rfl,?_⟩
 refine⟨.inl ⟨rfl,_,bH.of eL4⟩,_,rfl,_,rfl,_,rfl,by show 3<=sizeLine;lia,λq nq=>?_⟩
 have t5:=aC (o:=.tup [.str (cG d.c3 ls.length),.int ((if (m:Int) >1 then(m:Int) else 1)+(c1:Int)),.ref F]) nq
 have s5:=s04.trans t5
 have D5:=D4.keep t5
 have oq:q∉d.E:=D4.out nq
 have eq:upd H4 q (.tup [.str (cG d.c3 ls.length),.int ((if (m:Int) >1 then(m:Int) else 1)+(c1:Int)),.ref F]) q=some (.tup [.str (cG d.c3 ls.length),.int ((if (m:Int) >1 then(m:Int) else 1)+(c1:Int)),.ref F]):=aq
 have eL5:=t5 _ _ eL4
 have eF5:=t5 _ _ eF4
 refine⟨d.L,xs,_,rfl,rfl,eL5,by lia,_,rfl,?_⟩
 refine k ⟨cG d.c3 ls.length,(if (m:Int) >1 then(m:Int) else 1)+(c1:Int),ws⟩ _ rfl ?_ (D5.lane ⟨q,F,rfl,jG eq oq,jG eF5 oF⟩ ⟨by dsimp only;split <;> lia,by dsimp only;split <;> lia,by dsimp only;split <;> lia,hB⟩ rfl eL5)
 rw [eG (by simp)]
 exact D.cut s5
theorem pop_at:∀{os:List Str} {j:Nat} (h:j <os.length),os.Perm (os[j]:: os.eraseIdx j)
 | [],_,h=>absurd h (by simp)
 | a:: l,0,_=>.refl _
 | a:: l,j+1,h=>by
  have h':j <l.length:=by simpa using h
  show(a:: l).Perm (l[j]:: a:: l.eraseIdx j)
  exact((pop_at (os:=l) (j:=j) (by simpa using h)).cons a).trans (.swap _ _ _)
theorem uL {α β:Type} {f:α->β}:∀(l:List α) (j:Nat),(l.map f).eraseIdx j=(l.eraseIdx j).map f
 | [],_=>rfl
 | a:: l,0=>rfl
 | a:: l,j+1=>by
  show f a:: (l.map f).eraseIdx j=f a:: (l.eraseIdx j).map f
  rw [uL l j]
theorem yD {j n:Nat} (h:j <n):seqIndex? (j:Int) n=some j:=by
 unfold seqIndex?
 have z:¬(j:Int) <0:=by lia
 simp [h,z]
inductive wD (vs:List V) (H:Hp) (Q:VK) (E:XK):Prop where
 | mk:∀(d:Dw) (ls:List bB) (ps:List PD) (os:List Str) (n:Int),vs=[.ref d.S,.int n]->lG d H ls ps os->os≠[]->os.length<=100->(∀(x:Str) (os':List Str) (H':Hp),os.Perm (x:: os')->aM (bQ d.E H) (bQ d.E H')->lG d H' ls ps os'->Q (.str x) H')->wD vs H Q E
theorem qm (T:Txt w K mg t):FO P w K mg base 1 t.zA ["_law_state", "_law_number"] (wD):=by
 have sc:=T.jU.sc ["_law_state", "_law_number"]
 refine T.jU.F.ok sc ln (λ_ _ _ _ H vs Q E hr h=>?_)
 obtain⟨d,ls,ps,os,n,rfl,D,hne,hs,k⟩:=h
 refine⟨_,(az (aY (pC PySem.F.plainAttrs_list PySem.F.slot_list_pop PySem.F.type_list_pop pP (aZ aU (pv 0) au (λ_ _=>rfl)) (aa (aK bJ (pv 1) (bj bI (by rfl) T.dz cj (aa (aZ aU (pv 0) au (λ_ _=>rfl)) ao aF))) ao bG)))),?_⟩
 have hpos:0 <os.length:=List.length_pos_iff.mpr hne
 refine⟨_,rfl,d.S,_,2,_,rfl,rfl,D.seqS,aH (j:=2) rfl,.inl ⟨rfl,_,bH.of D.opens⟩,?_⟩
 refine⟨_,rfl,_,rfl,d.S,_,2,_,rfl,rfl,D.seqS,aH (j:=2) rfl,.ref d.O,os.length,rfl,.inl ⟨_,bH.of D.opens,by simp⟩,n,(os.length:Int),rfl,rfl,by lia,?_⟩
 have h0:=Int.emod_nonneg n (show(os.length:Int)≠0 by lia)
 have h1:=Int.emod_lt_of_pos n (show(0:Int) <(os.length:Int) by lia)
 obtain⟨j,hj⟩:∃j:Nat,n % (os.length:Int)=(j:Int):=⟨(n % (os.length:Int)).toNat,by lia⟩
 have hj':j <os.length:=by lia
 refine⟨d.O,_,(j:Int),j,.str os[j],rfl,by show [V.int (n % (os.length:Int))]=_;rw [hj],D.opens,by lia,by lia,by rw [lM];exact yD hj',by rw [List.getElem?_map,List.getElem?_eq_getElem hj'];rfl,?_⟩
 rw [uL]
 exact k os[j] (os.eraseIdx j) _ (pop_at hj') (by rw [eG (by simp)];exact aM.refl _) D.open
inductive wC (vs:List V) (H:Hp) (Q:VK) (E:XK):Prop where
 | mk:∀(d:Dw) (ls:List bB) (ps:List PD) (os:List Str) (c:Int) (i:Nat) (a1 a2:Addr) (nums:List Int) (ins:List Str) (many:Nat),vs=[.ref d.S,.int c,.str (cu i),.ref a1,.ref a2,.int (many:Nat)]->lG d H ls ps os->bQ d.E H a1=some (.lst (nums.map V.int))->bQ d.E H a2=some (.lst (ins.map V.str))->i <11->nums.length=cN i->((∀v∈nums,0<=v/\v <1000000000))->ins.length=cI i->many=cO i->ls.length<=22->ps.length<=25->os.length<=100->(∀(newl:List bB) (H':Hp),newl.length=many->aM (bQ d.E H) (bQ d.E H')->lG d H' (ls ++ newl) (ps ++ [⟨i,cG d.c4 ps.length,nums,ins,newl.map (·.name)⟩]) (os ++ newl.map (·.name))->Q .non H')->wC vs H Q E
noncomputable abbrev zm:List Str:=["_law_state", "_law_cell_here", "_law_kind", "_law_numbers", "_law_ins", "_law_many", "_law_outs"]
theorem cD (T:Txt w K mg t):FO P w K mg base 4 t.zH ["_law_state", "_law_cell_here", "_law_kind", "_law_numbers", "_law_ins", "_law_many"] (wC):=by
 have sc:=T.cz.sc zm
 refine T.cz.F.ok sc ln (λ_ _ _ _ H vs Q E hr h=>?_)
 obtain⟨d,ls,ps,os,c,i,a1,a2,nums,ins,many,rfl,D,e1,e2,hi,hN,hB,hI,hO,hls,hps,hos,k⟩:=h
 refine⟨_,(aA (j4 (i:=6) [0,1] zm (bw (top 58)) rfl sc.nd rfl (gQ rfl T.lQ (aa (pv 5) ao aj)) (λ_ _ _ _ _=>ik) (λ_ _ _ _ _=>(dF (jt T) T.gq hr (aa (pv 1) (aa (dF (bh T) T.bA hr (aa (pv 2) (aa (aK dG au (pv 0)) ao bG) aj)) (aa jA ao ak) bc) aj))))
  (aA (aV (yU (aZ aU (pv 0) au (λ_ _=>rfl)) (aa (cB (aa (pv 2) (aa (dF (lE T) T.iV hr (aa (aZ aU (pv 0) au (λ_ _=>rfl)) (aa (bj bI (by rfl) T.dz cj (aa (aZ aU (pv 0) au (λ_ _=>rfl)) ao aF)) ao bc) aF)) (aa (pv 3) (aa (pv 4) (aa (pv 6) ao aj) aj) aj) bc) aj)) ao mD)))
  (az (aV (pC PySem.F.plainAttrs_list PySem.F.slot_list_extend PySem.F.type_list_extend Ej (aZ aU (pv 0) au (λ_ _=>rfl)) (aa (pv 6) ao aj)))))),?_⟩
 have hl:sizeLine=16777216:=sizeLine_eq
 have hm2:many<=2:=by rw [hO];exact Le i
 refine⟨_,rfl,(many:Int),rfl,by lia,by lia,?_⟩
 rw [Int.toNat_natCast]
 refine qF (λi ys H'=>∃newl:List bB,newl.length=i/\ys=newl.map (λl=>V.str l.name)/\aM (bQ d.E H) (bQ d.E H')/\lG d H' (ls ++ newl) ps os) (by lia) ⟨[],rfl,rfl,aM.refl _,by rw [List.append_nil];exact D⟩ (λi ys H' ⟨newl,e,e2,_⟩=>by rw [e2,lM];lia) ?_ ?_
 ·rintro j ys H' hj ⟨newl,hn,rfl,s,D'⟩
  refine yes ⟨_,rfl,_,rfl,_,rfl,_,_,rfl,rfl,c,20+(0+(j:Int)),rfl,?_⟩
  refine⟨d,ls ++ newl,ps,os,_,false,rfl,D',by rw [lP];lia,λl H1 _ s1 D1=>?_⟩
  exact⟨newl ++ [l],by simp [hn],by simp,s.trans s1,by rw [<-List.append_assoc];exact D1⟩
 rintro ys H1 ⟨newl,hn,rfl,s1,D1⟩ F nF
 have t1:=aC (o:=.lst (newl.map λl=>V.str l.name)) nF
 have eF:upd H1 F (.lst (newl.map λl=>V.str l.name)) F=some (.lst ((newl.map (·.name)).map V.str)):=by rw [List.map_map];exact aq
 have oF:=D1.out nF
 have D2:=D1.keep t1
 have s2:=s1.trans (D1.cut t1)
 generalize upd H1 F (.lst (newl.map λl=>V.str l.name))=H2 at t1 eF D2 s2 ⊢
 obtain⟨xs,eP,aP⟩:=D2.parts
 have xl:=aP.length
 refine⟨_,rfl,d.S,_,1,_,rfl,rfl,D2.seqS,aH (j:=1) rfl,.inl ⟨rfl,_,bH.of eP⟩,?_⟩
 refine⟨_,rfl,_,rfl,d.S,_,4,_,rfl,rfl,D2.seqS,aH (j:=4) rfl,?_⟩
 refine⟨_,rfl,d.S,_,1,_,rfl,rfl,D2.seqS,aH (j:=1) rfl,.ref d.P,ps.length,rfl,.inl ⟨_,bH.of eP,xl.symm⟩,?_⟩
 refine⟨d.c4,ps.length,rfl,by lia,λH3 s3=>?_⟩
 have D3:=D2.keep s3
 have t3:=s2.trans (D2.cut s3)
 have eP3:=s3 _ _ eP
 have eF3:=s3 _ _ eF
 refine⟨_,rfl,_,rfl,_,rfl,by show 5<=sizeLine;lia,λq nq=>?_⟩
 have s4:=aC (o:=.tup [.str (cu i),.str (cG d.c4 ps.length),.ref a1,.ref a2,.ref F]) nq
 have D4:=D3.keep s4
 have t4:=t3.trans (D3.cut s4)
 have eP4:=s4 _ _ eP3
 have eF4:=s4 _ _ eF3
 have oq:=D3.out nq
 have eq:upd H3 q (.tup [.str (cu i),.str (cG d.c4 ps.length),.ref a1,.ref a2,.ref F]) q=some (.tup [.str (cu i),.str (cG d.c4 ps.length),.ref a1,.ref a2,.ref F]):=aq
 refine⟨d.P,xs,_,rfl,rfl,eP4,by lia,?_⟩
 generalize upd H3 q (.tup [.str (cu i),.str (cG d.c4 ps.length),.ref a1,.ref a2,.ref F])=H4 at s4 D4 t4 eP4 eF4 eq ⊢
 have D5:=D4.part (p:=⟨i,cG d.c4 ps.length,nums,ins,newl.map (·.name)⟩) ⟨q,a1,a2,F,rfl,jG eq oq,t4 _ _ e1,t4 _ _ e2,jG eF4 oF⟩ ⟨hi,hN,hI,by show(newl.map _).length=_;rw [lM,hn];exact hO,hB⟩ rfl eP4
 have hcu:bQ d.E (upd H4 d.P (.lst (xs ++ [.ref q])))=bQ d.E H4:=eG (by simp)
 have eF5:upd H4 d.P (.lst (xs ++ [.ref q])) F=some (.lst ((newl.map (·.name)).map V.str)):=by rw [aD (λz=>oF (by rw [z];simp))];exact eF4
 generalize upd H4 d.P (.lst (xs ++ [.ref q]))=H5 at D5 hcu eF5 ⊢
 refine⟨_,rfl,d.S,_,2,_,rfl,rfl,D5.seqS,aH (j:=2) rfl,.inl ⟨rfl,_,bH.of D5.opens⟩,?_⟩
 refine⟨_,rfl,d.O,F,_,_,rfl,rfl,D5.opens,eF5,by rw [lM,lM,lM];lia,?_⟩
 rw [<-List.map_append]
 exact k newl _ hn (by rw [eG (by simp),hcu];exact t4) D5.open
theorem SM (m:Int):∃i:Nat,DW [V.str "add",V.str "less"] (m % 2)=some (.str (cu i))/\(i=6∨i=7):=by
 have h0:=Int.emod_nonneg m (show(2:Int)≠0 by decide)
 have h1:=Int.emod_lt_of_pos m (show(0:Int) <2 by decide)
 have:m % 2=0∨m % 2=1:=by lia
 rcases this with e | e <;> rw [e]
 ·exact⟨6,rfl,.inl rfl⟩
 ·exact⟨7,rfl,.inr rfl⟩
theorem HR {one other:Str} {os os1:List Str} (h:os.Perm (other:: os1)):(one:: os).Perm ([one,other] ++ os1):=h.cons one
theorem Wv {one other third:Str} {os os1 os2:List Str} (h:os.Perm (other:: os1)) (h2:os1.Perm (third:: os2)):(one:: os).Perm ([one,other,third] ++ os2):=(h.trans (h2.cons other)).cons one
inductive zp (vs:List V) (H:Hp) (Q:VK) (E:XK):Prop where
 | mk:∀(d:Dw) (ls:List bB) (ps:List PD) (os:List Str) (c:Int) (one:Str) (back:List Str) (odd:Bool),vs=[.ref d.S,.int c,.str one,.bl odd]->lG d H ls ps os->Drawn.WF (sS ls ps (one:: os) back)->os≠[]->os.length<=3->ls.length<=20->ps.length<=22->(∀ls' ps' os' H',X4 d H H' ls ps back ls' ps' os'->Q .non H')->zp vs H Q E
theorem Ia (T:Txt w K mg t):FO P w K mg base 5 t.CQ ["_law_state", "_law_cell_here", "_law_one", "_law_odd"] (zp):=by
 have sc:=T.vD.sc ["_law_state", "_law_cell_here", "_law_one", "_law_odd", "_law_other", "_law_way", "_law_third"]
 refine T.vD.F.ok sc ln (λ_ _ _ _ H vs Q E hr h=>?_)
 obtain⟨d,ls,ps,os,c,one,back,odd,rfl,D,w,hne,ho,hls,hps,k⟩:=h
 refine⟨_,(aA (sN sc 4 (dF (qm T) T.jU hr (aa (pv 0) (aa (dF (bh T) T.bA hr (aa (pv 1) (aa au ao ak) aj)) ao bc) aj)))
  (aA (sN sc 5 (aK bJ (dF (bh T) T.bA hr (aa (pv 1) (aa au ao ak) aj)) au))
  (az (bM (bD (PW.pt (tR (gY (pv 3)) (tR (aJ qY (pv 5) au (bu _)) (pY (aJ Ih (bj bI (by rfl) T.dz cj (aa (aZ aU (pv 0) au (λ_ _=>rfl)) ao aF)) au (bu _))))))
   (aA (sN sc 6 (dF (qm T) T.jU hr (aa (pv 0) (aa (dF (bh T) T.bA hr (aa (pv 1) (aa au ao ak) aj)) ao bc) aj)))
   (az (aV (dF (cD T) T.cz hr (@aa _ _ _ _ _ (pv 0) (@aa _ _ _ _ _ (pv 1) (@aa _ _ _ _ _ aN (@aa _ _ _ _ _ (aW ao) (@aa _ _ _ _ _ (aW (aa (pv 2) (aa (pv 4) (aa (pv 6) ao aj) aj) aj)) (@aa _ _ _ _ _ au ao ak) aO) aO) ak) aj) aj)))))
   (az (bM (bD (PW.pt (tR (gY (pv 3)) (pY (aJ qY (pv 5) au (bu _)))))
    (az (aV (dF (cD T) T.cz hr (@aa _ _ _ _ _ (pv 0) (@aa _ _ _ _ _ (pv 1) (@aa _ _ _ _ _ aN (@aa _ _ _ _ _ (aW ao) (@aa _ _ _ _ _ (aW (aa (pv 2) (aa (pv 4) ao aj) aj)) (@aa _ _ _ _ _ au ao ak) aO) aO) ak) aj) aj))))
    (az (bM (bD (aJ cX (aK bJ (pv 5) au) au (bu _))
     (az (aV (dF (cD T) T.cz hr (@aa _ _ _ _ _ (pv 0) (@aa _ _ _ _ _ (pv 1) (@aa _ _ _ _ _ aN (@aa _ _ _ _ _ (aW ao) (@aa _ _ _ _ _ (aW (aa (pv 2) (aa (pv 4) ao aj) aj)) (@aa _ _ _ _ _ au ao ak) aO) aO) ak) aj) aj))))
     (az (aV (dF (cD T) T.cz hr (@aa _ _ _ _ _ (pv 0) (@aa _ _ _ _ _ (pv 1) (@aa _ _ _ _ _ (aZ aU (aW (aa aN (aa aN ao ak) ak)) (aK bJ (pv 5) au) (λ_ _=>rfl)) (@aa _ _ _ _ _ (aW ao) (@aa _ _ _ _ _ (aW (aa (pv 2) (aa (pv 4) ao aj) aj)) (@aa _ _ _ _ _ au ao ak) aO) aO) aF) aj) aj))))))))))))))),?_⟩
 have hl:sizeLine=16777216:=sizeLine_eq
 refine⟨_,rfl,_,rfl,_,_,rfl,d,ls,ps,os,_,rfl,D,hne,by lia,λother os1 H1 p1 s1 D1=>?_⟩
 have l1:=p1.length_eq
 rw [List.length_cons] at l1
 refine⟨_,rfl,_,_,rfl,_,_,rfl,rfl,by show(0:Int) <6;decide,?_⟩
 refine⟨λ_ H'=>Q .non H',?_,λ_ _ h=>h⟩
 have fin:∀{i:Nat} {nm:Str} {newl:List bB} {ins os2:List Str} {H':Hp},aM (bQ d.E H) (bQ d.E H')->lG d H' (ls ++ newl) (ps ++ [⟨i,nm,[],ins,newl.map (·.name)⟩]) (os2 ++ newl.map (·.name))->(one:: os).Perm (ins ++ os2)->newl.length≠0->newl.length<=2->os2.length+newl.length<=4->Q .non H':=λs DD hp h1 h2 h4=>
  k _ _ _ _ ⟨s,DD,pM w rfl DD hp h1 (by rw [lP];lia),by rw [lP,lM];lia,by rw [lP,lM];lia,by rw [lP];lia,by rw [lP,List.length_singleton];lia⟩
 cases odd
 ·refine⟨_,rfl,false,rfl,bW (bW ?_)⟩
  refine⟨λ_ H'=>Q .non H',?_,λ_ _ h=>h⟩
  refine⟨_,rfl,false,rfl,bW (bW ?_)⟩
  refine⟨λ_ H'=>Q .non H',?_,λ_ _ h=>h⟩
  refine⟨_,rfl,_,_,rfl,rfl,by show(0:Int) <3;decide,rfl,_,rfl,dN (λ_=>?_) (λ_=>?_)⟩
  ·refine⟨_,rfl,_,rfl,by show 0<=sizeLine;lia,λa1 n1=>⟨_,rfl,_,rfl,by show 2<=sizeLine;lia,λa2 n2=>?_⟩⟩
   obtain⟨D9,z1,z2,z3⟩:=D1.two n1 n2 (y:=.lst [.str one,.str other])
   refine⟨d,_,_,os1,_,8,a1,a2,[],[one,other],2,rfl,D9,z1,z2,by lia,rfl,by simp,rfl,rfl,by lia,by lia,by lia,λnewl H8 hn s8 D8=>?_⟩
   exact fin (s1.trans (z3.trans s8)) D8 (HR p1) (by lia) (by lia) (by lia)
  ·refine⟨_,rfl,_,rfl,by show 2<=sizeLine;lia,λa0 n0=>?_⟩
   have s0:=aC (o:=.lst [.str "add",.str "less"]) n0
   have D0:=D1.keep s0
   have c0:=D1.cut s0
   refine⟨_,rfl,_,_,rfl,rfl,by show(0:Int) <2;decide,?_⟩
   obtain⟨i,ei,hi⟩:=SM (cg c 6 % 6)
   refine⟨a0,_,_,_,rfl,rfl,bH.of aq,ei,?_⟩
   generalize upd H1 a0 (.lst [.str "add",.str "less"])=H0 at s0 D0 c0 ⊢
   have hN:([]:List Int).length=cN i:=by rcases hi with rfl | rfl <;> rfl
   have hI:[one,other].length=cI i:=by rcases hi with rfl | rfl <;> rfl
   have hO:1=cO i:=by rcases hi with rfl | rfl <;> rfl
   refine⟨by show 0<=sizeLine;lia,λa1 n1=>⟨_,rfl,_,rfl,by show 2<=sizeLine;lia,λa2 n2=>?_⟩⟩
   obtain⟨D9,z1,z2,z3⟩:=D0.two n1 n2 (y:=.lst [.str one,.str other])
   refine⟨d,_,_,os1,_,i,a1,a2,[],[one,other],1,rfl,D9,z1,z2,by lia,hN,by simp,hI,hO,by lia,by lia,by lia,λnewl H8 hn s8 D8=>?_⟩
   exact fin (s1.trans (c0.trans (z3.trans s8))) D8 (HR p1) (by lia) (by lia) (by lia)
 ·refine⟨_,rfl,true,rfl,bK ⟨_,rfl,_,_,rfl,rfl,_,rfl,Ds ?_ (λh2 b=>?_) (λb=>b)⟩⟩
  ·refine⟨λ_ H'=>Q .non H',?_,λ_ _ h=>h⟩
   refine⟨_,rfl,true,rfl,bK ?_⟩
   refine⟨_,rfl,_,_,rfl,rfl,_,rfl,dN (λh5=>?_) (λh5=>?_)⟩
   ·refine⟨_,rfl,_,rfl,by show 0<=sizeLine;lia,λa1 n1=>⟨_,rfl,_,rfl,by show 2<=sizeLine;lia,λa2 n2=>?_⟩⟩
    obtain⟨D9,z1,z2,z3⟩:=D1.two n1 n2 (y:=.lst [.str one,.str other])
    refine⟨d,_,_,os1,_,10,a1,a2,[],[one,other],2,rfl,D9,z1,z2,by lia,rfl,by simp,rfl,rfl,by lia,by lia,by lia,λnewl H8 hn s8 D8=>?_⟩
    exact fin (s1.trans (z3.trans s8)) D8 (HR p1) (by lia) (by lia) (by lia)
   ·refine⟨λ_ H'=>Q .non H',?_,λ_ _ h=>h⟩
    refine⟨_,rfl,_,_,rfl,rfl,by show(0:Int) <3;decide,rfl,_,rfl,dN (λ_=>?_) (λ_=>?_)⟩
    ·refine⟨_,rfl,_,rfl,by show 0<=sizeLine;lia,λa1 n1=>⟨_,rfl,_,rfl,by show 2<=sizeLine;lia,λa2 n2=>?_⟩⟩
     obtain⟨D9,z1,z2,z3⟩:=D1.two n1 n2 (y:=.lst [.str one,.str other])
     refine⟨d,_,_,os1,_,8,a1,a2,[],[one,other],2,rfl,D9,z1,z2,by lia,rfl,by simp,rfl,rfl,by lia,by lia,by lia,λnewl H8 hn s8 D8=>?_⟩
     exact fin (s1.trans (z3.trans s8)) D8 (HR p1) (by lia) (by lia) (by lia)
    ·refine⟨_,rfl,_,rfl,by show 2<=sizeLine;lia,λa0 n0=>?_⟩
     have s0:=aC (o:=.lst [.str "add",.str "less"]) n0
     have D0:=D1.keep s0
     have c0:=D1.cut s0
     refine⟨_,rfl,_,_,rfl,rfl,by show(0:Int) <2;decide,?_⟩
     obtain⟨i,ei,hi⟩:=SM (cg c 6 % 6)
     refine⟨a0,_,_,_,rfl,rfl,bH.of aq,ei,?_⟩
     generalize upd H1 a0 (.lst [.str "add",.str "less"])=H0 at s0 D0 c0 ⊢
     have hN:([]:List Int).length=cN i:=by rcases hi with rfl | rfl <;> rfl
     have hI:[one,other].length=cI i:=by rcases hi with rfl | rfl <;> rfl
     have hO:1=cO i:=by rcases hi with rfl | rfl <;> rfl
     refine⟨by show 0<=sizeLine;lia,λa1 n1=>⟨_,rfl,_,rfl,by show 2<=sizeLine;lia,λa2 n2=>?_⟩⟩
     obtain⟨D9,z1,z2,z3⟩:=D0.two n1 n2 (y:=.lst [.str one,.str other])
     refine⟨d,_,_,os1,_,i,a1,a2,[],[one,other],1,rfl,D9,z1,z2,by lia,hN,by simp,hI,hO,by lia,by lia,by lia,λnewl H8 hn s8 D8=>?_⟩
     exact fin (s1.trans (c0.trans (z3.trans s8))) D8 (HR p1) (by lia) (by lia) (by lia)
  ·refine⟨_,rfl,d.S,_,2,_,rfl,rfl,D1.seqS,aH (j:=2) rfl,.ref d.O,os1.length,rfl,.inl ⟨_,bH.of D1.opens,by simp⟩,_,_,rfl,rfl,_,rfl,dN (λh3=>?_) (λ_=>b)⟩
   have hne1:os1≠[]:=λz=>by rw [z] at h3;exact absurd (of_decide_eq_true h3) (by decide)
   refine⟨_,rfl,_,rfl,_,_,rfl,d,ls,ps,os1,_,rfl,D1,hne1,by lia,λthird os2 H2 p2 s2 D2=>?_⟩
   have l2:=p2.length_eq
   rw [List.length_cons] at l2
   refine⟨_,rfl,_,rfl,by show 0<=sizeLine;lia,λa1 n1=>⟨_,rfl,_,rfl,_,rfl,by show 3<=sizeLine;lia,λa2 n2=>?_⟩⟩
   obtain⟨D9,z1,z2,z3⟩:=D2.two n1 n2 (y:=.lst [.str one,.str other,.str third])
   refine⟨d,_,_,os2,_,9,a1,a2,[],[one,other,third],1,rfl,D9,z1,z2,by lia,rfl,by simp,rfl,rfl,by lia,by lia,by lia,λnewl H8 hn s8 D8=>?_⟩
   exact fin (s1.trans (s2.trans (z3.trans s8))) D8 (Wv p1 p2) (by lia) (by lia) (by lia)
inductive xx (vs:List V) (H:Hp) (Q:VK) (E:XK):Prop where
 | mk:∀(d:Dw) (ls:List bB) (ps:List PD) (os:List Str) (c:Int) (one:Str) (back:List Str),vs=[.ref d.S,.int c,.str one]->lG d H ls ps os->Drawn.WF (sS ls ps (one:: os) back)->os.length<=3->ls.length<=20->ps.length<=22->(∀ls' ps' os' H',X4 d H H' ls ps back ls' ps' os'->Q .non H')->xx vs H Q E
theorem Hb (T:Txt w K mg t):FO P w K mg base 4 t.zG ["_law_state", "_law_cell_here", "_law_one"] (xx):=by
 have sc:=T.rT.sc ["_law_state", "_law_cell_here", "_law_one", "_law_own", "_law_fresh"]
 refine T.rT.F.ok sc ln (λ_ _ _ _ H vs Q E hr h=>?_)
 obtain⟨d,ls,ps,os,c,one,back,rfl,D,w,ho,hls,hps,k⟩:=h
 refine⟨_,(aA (sN sc 3 (dF (jt T) T.gq hr (aa (pv 0) (aa (dF (bh T) T.bA hr (aa (pv 1) (aa au ao ak) aj)) (aa jA ao ak) bc) aj)))
  (aA (sN sc 4 (dF (jt T) T.gq hr (aa (pv 0) (aa (dF (bh T) T.bA hr (aa (pv 1) (aa au ao ak) aj)) (aa jA ao ak) bc) aj)))
  (aA (aV (yU (aZ aU (pv 0) au (λ_ _=>rfl)) (aa (cB (aa aN (aa (dF (lE T) T.iV hr (aa (aZ aU (pv 0) au (λ_ _=>rfl)) (aa (bj bI (by rfl) T.dz cj (aa (aZ aU (pv 0) au (λ_ _=>rfl)) ao aF)) ao bc) aF)) (aa (aW ao) (aa (aW (aa (pv 2) (aa (pv 3) ao aj) aj)) (aa (aW (aa (pv 3) (aa (pv 4) ao aj) aj)) ao aO) aO) aO) bc) ak)) ao mD)))
  (az (aV (yU (aZ aU (pv 0) au (λ_ _=>rfl)) (aa (pv 4) ao aj))))))),?_⟩
 have hl:sizeLine=16777216:=sizeLine_eq
 refine⟨_,rfl,_,rfl,_,_,rfl,d,ls,ps,os,_,true,rfl,D,by lia,λl1 H1 e1 s1 D1=>?_⟩
 refine⟨_,rfl,_,rfl,_,_,rfl,d,ls ++ [l1],ps,os,_,false,rfl,D1,by rw [lP,List.length_singleton];lia,λl2 H2 e2 s2 D2=>?_⟩
 have s12:=s1.trans s2
 obtain⟨xs,eP,aP⟩:=D2.parts
 have xl:=aP.length
 refine⟨_,rfl,d.S,_,1,_,rfl,rfl,D2.seqS,aH (j:=1) rfl,.inl ⟨rfl,_,bH.of eP⟩,?_⟩
 refine⟨_,rfl,d.S,_,4,_,rfl,rfl,D2.seqS,aH (j:=4) rfl,?_⟩
 refine⟨_,rfl,d.S,_,1,_,rfl,rfl,D2.seqS,aH (j:=1) rfl,.ref d.P,ps.length,rfl,.inl ⟨_,bH.of eP,xl.symm⟩,?_⟩
 refine⟨d.c4,ps.length,rfl,by lia,λH3 s3=>?_⟩
 have D3:=D2.keep s3
 have c3:=s12.trans (D2.cut s3)
 have eP3:=s3 _ _ eP
 refine⟨by show 0<=sizeLine;lia,λa1 n1=>⟨_,rfl,_,rfl,by show 2<=sizeLine;lia,λa2 n2=>⟨_,rfl,_,rfl,by show 2<=sizeLine;lia,λa3 n3=>⟨by show 5<=sizeLine;lia,λq nq=>?_⟩⟩⟩⟩
 obtain⟨D4,z1,z2,z3⟩:=D3.two n1 n2 (y:=.lst [.str one,.str l1.name])
 have t4:aM H3 (upd (upd H3 a1 (.lst [])) a2 (.lst [.str one,.str l1.name])):=(aC n1).trans (aC n2)
 have eP4:=t4 _ _ eP3
 generalize upd (upd H3 a1 (.lst [])) a2 (.lst [.str one,.str l1.name])=H4 at D4 z1 z2 z3 t4 eP4 n3 nq ⊢
 obtain⟨D5,y1,y2,y3⟩:=D4.two n3 nq (y:=.tup [.str "order",.str (cG d.c4 ps.length),.ref a1,.ref a2,.ref a3])
 have t5:aM H4 (upd (upd H4 a3 (.lst [.str l1.name,.str l2.name])) q (.tup [.str "order",.str (cG d.c4 ps.length),.ref a1,.ref a2,.ref a3])):=(aC n3).trans (aC nq)
 have eP5:=t5 _ _ eP4
 generalize upd (upd H4 a3 (.lst [.str l1.name,.str l2.name])) q (.tup [.str "order",.str (cG d.c4 ps.length),.ref a1,.ref a2,.ref a3])=H5 at D5 y1 y2 y3 t5 eP5 ⊢
 have c5:=c3.trans (z3.trans y3)
 refine⟨d.P,xs,_,rfl,rfl,eP5,by lia,?_⟩
 have D6:=D5.part (p:=⟨8,cG d.c4 ps.length,[],[one,l1.name],[l1.name,l2.name]⟩) ⟨q,a1,a2,a3,rfl,y2,y3 _ _ z1,y3 _ _ z2,y1⟩ ⟨by show 8 <11;lia,rfl,rfl,rfl,by simp⟩ rfl eP5
 have c6:bQ d.E (upd H5 d.P (.lst (xs ++ [.ref q])))=bQ d.E H5:=eG (by simp)
 generalize upd H5 d.P (.lst (xs ++ [.ref q]))=H6 at D6 c6 ⊢
 refine⟨_,rfl,d.S,_,2,_,rfl,rfl,D6.seqS,aH (j:=2) rfl,.inl ⟨rfl,_,bH.of D6.opens⟩,_,rfl,d.O,_,_,rfl,rfl,D6.opens,by rw [lM];lia,?_⟩
 have D7:=D6.open (os':=os ++ [l2.name])
 rw [List.map_append] at D7
 have nd:=D7.nod (by rw [lP,lP,List.length_singleton,List.length_singleton];lia)
 have wl:=w.loop (p:=⟨8,cG d.c4 ps.length,[],[one,l1.name],[l1.name,l2.name]⟩) (rest:=os) (one:=one) (own:=l1.name) (fresh:=l2.name) rfl rfl (.refl _) (by simpa using nd)
 refine k _ _ _ _ ⟨by rw [eG (by simp),c6];exact c5,D7,by simpa [sS] using wl,by rw [lP,List.length_singleton];lia,by rw [lP,List.length_singleton];lia,by simp,by simp⟩
inductive wL (vs:List V) (H:Hp) (Q:VK) (E:XK):Prop where
 | mk:∀(d:Dw) (ls:List bB) (ps:List PD) (os:List Str) (c:Int) (back:List Str) (odd:Bool),vs=[.ref d.S,.int c,.bl odd]->lG d H ls ps os->Drawn.WF (sS ls ps os back)->os≠[]->os.length<=4->ls.length<=20->ps.length<=22->(∀ls' ps' os' H',X4 d H H' ls ps back ls' ps' os'->Q .non H')->wL vs H Q E
theorem Hq (T:Txt w K mg t):FO P w K mg base 6 t.zZ ["_law_state", "_law_cell_here", "_law_odd"] (wL):=by
 have sc:=T.sr.sc ["_law_state", "_law_cell_here", "_law_odd", "_law_way", "_law_one"]
 refine T.sr.F.ok sc ln (λ_ _ _ _ H vs Q E hr h=>?_)
 obtain⟨d,ls,ps,os,c,back,odd,rfl,D,w,hne,ho,hls,hps,k⟩:=h
 refine⟨_,(aA (sN sc 3 (aK bJ (dF (bh T) T.bA hr (aa (pv 1) (aa au ao ak) aj)) au))
  (aA (sN sc 4 (dF (qm T) T.jU hr (aa (pv 0) (aa (dF (bh T) T.bA hr (aa (pv 1) (aa au ao ak) aj)) ao bc) aj)))
  (az (bM (bD (PW.pt (tR (aJ qY (pv 3) au (bu _)) (pY (aJ qY (bj bI (by rfl) T.dz cj (aa (aZ aU (pv 0) au (λ_ _=>rfl)) ao aF)) au (bu _)))))
   (az (aV (dF (cD T) T.cz hr (@aa _ _ _ _ _ (pv 0) (@aa _ _ _ _ _ (pv 1) (@aa _ _ _ _ _ aN (@aa _ _ _ _ _ (aW ao) (@aa _ _ _ _ _ (aW (aa (pv 4) ao aj)) (@aa _ _ _ _ _ au ao ak) aO) aO) ak) aj) aj))))
   (az (bM (bD (aJ cX (pv 3) au (bu _))
    (aA (aV (dF (cD T) T.cz hr (@aa _ _ _ _ _ (pv 0) (@aa _ _ _ _ _ (pv 1) (@aa _ _ _ _ _ aN (@aa _ _ _ _ _ (aW ao) (@aa _ _ _ _ _ (aW (aa (pv 4) ao aj)) (@aa _ _ _ _ _ au ao ak) aO) aO) ak) aj) aj)))
    (az (aV (dF (cD T) T.cz hr (@aa _ _ _ _ _ (pv 0) (@aa _ _ _ _ _ (pv 1) (@aa _ _ _ _ _ aN (@aa _ _ _ _ _ (aW ao) (@aa _ _ _ _ _ (aW (aa (yj PySem.F.plainAttrs_list PySem.F.slot_list_pop PySem.F.type_list_pop Kv (aZ aU (pv 0) au (λ_ _=>rfl))) ao bc)) (@aa _ _ _ _ _ au ao ak) aO) aO) ak) aj) aj)))))
    (az (bM (bD (PW.pt (tR (aJ qY (pv 3) au (bu _)) (pY (aJ Ih (bj bI (by rfl) T.dz cj (aa (aZ aU (pv 0) au (λ_ _=>rfl)) ao aF)) au (bu _)))))
     (az (aV (dF (Ia T) T.vD hr (aa (pv 0) (aa (pv 1) (aa (pv 4) (aa (pv 2) ao aj) aj) aj) aj))))
     (az (bM (bD (aJ qY (pv 3) au (bu _))
      (az (aV (dF (cD T) T.cz hr (@aa _ _ _ _ _ (pv 0) (@aa _ _ _ _ _ (pv 1) (@aa _ _ _ _ _ aN (@aa _ _ _ _ _ (aW (aa (dF (jM T) T.gJ hr (aa (pv 1) (aa au ao ak) aj)) (aa (dF (jM T) T.gJ hr (aa (pv 1) (aa au ao ak) aj)) ao bc) bc)) (@aa _ _ _ _ _ (aW (aa (pv 4) ao aj)) (@aa _ _ _ _ _ au ao ak) aO) aO) ak) aj) aj))))
      (az (bM (bD (aJ cX (pv 3) au (bu _))
       (az (aV (dF (cD T) T.cz hr (@aa _ _ _ _ _ (pv 0) (@aa _ _ _ _ _ (pv 1) (@aa _ _ _ _ _ aN (@aa _ _ _ _ _ (aW (aa (dF (jM T) T.gJ hr (aa (pv 1) (aa au ao ak) aj)) ao bc)) (@aa _ _ _ _ _ (aW (aa (pv 4) ao aj)) (@aa _ _ _ _ _ au ao ak) aO) aO) ak) aj) aj))))
       (az (bM (bD (aJ cX (aK bJ (dF (bh T) T.bA hr (aa (pv 1) (aa au ao ak) aj)) au) au (bu _))
        (az (aV (dF (Hb T) T.rT hr (aa (pv 0) (aa (pv 1) (aa (pv 4) ao aj) aj) aj))))
        (az (aV (dF (cD T) T.cz hr (@aa _ _ _ _ _ (pv 0) (@aa _ _ _ _ _ (pv 1) (@aa _ _ _ _ _ aN (@aa _ _ _ _ _ (aW ao) (@aa _ _ _ _ _ (aW (aa (pv 4) ao aj)) (@aa _ _ _ _ _ au ao ak) aO) aO) ak) aj) aj)))))))))))))))))))))))),?_⟩
 have hl:sizeLine=16777216:=sizeLine_eq
 refine⟨_,rfl,_,_,rfl,_,_,rfl,rfl,by show(0:Int) <9;decide,?_⟩
 refine⟨_,rfl,_,rfl,_,_,rfl,d,ls,ps,os,_,rfl,D,hne,by lia,λone os1 H1 p1 s1 D1=>?_⟩
 have w1:Drawn.WF (sS ls ps (one:: os1) back):=UW w p1
 have lo:=p1.length_eq
 rw [List.length_cons] at lo
 have fin:∀{i:Nat} {nm:Str} {nums:List Int} {newl:List bB} {ins os2:List Str} {H':Hp},aM (bQ d.E H) (bQ d.E H')->lG d H' (ls ++ newl) (ps ++ [⟨i,nm,nums,ins,newl.map (·.name)⟩]) (os2 ++ newl.map (·.name))->(one:: os1).Perm (ins ++ os2)->newl.length≠0->newl.length<=2->os2.length+newl.length<=4->Q .non H':=λs DD hp h1 h2 h4=>
  k _ _ _ _ ⟨s,DD,pM w1 rfl DD hp h1 (by rw [lP];lia),by rw [lP,lM];lia,by rw [lP,lM];lia,by rw [lP];lia,by rw [lP,List.length_singleton];lia⟩
 refine⟨λ_ H'=>Q .non H',?_,λ_ _ h=>h⟩
 refine⟨_,rfl,_,_,rfl,rfl,_,rfl,Ds ?_ (λh2 b=>?_) (λb=>b)⟩
 ·refine⟨λ_ H'=>Q .non H',?_,λ_ _ h=>h⟩
  refine⟨_,rfl,rfl,_,rfl,dN (λ_=>?_) (λ_=>?_)⟩
  ·refine⟨_,rfl,_,rfl,by show 0<=sizeLine;lia,λa1 n1=>⟨_,rfl,by show 1<=sizeLine;lia,λa2 n2=>?_⟩⟩
   obtain⟨D9,z1,z2,z3⟩:=D1.two n1 n2 (y:=.lst [.str one])
   refine⟨d,_,_,os1,_,3,a1,a2,[],[one],2,rfl,D9,z1,z2,by lia,rfl,by simp,rfl,rfl,by lia,by lia,by lia,λnewl H8 hn s8 D8=>?_⟩
   obtain⟨l1,l2,rfl⟩:∃l1 l2,newl=[l1,l2]:=by
    match newl,hn with
    | [x,y],_=>exact⟨x,y,rfl⟩
   have w8:=pM w1 rfl D8 (.refl _) (by simp) (by simp;lia)
   have s18:=s1.trans (z3.trans s8)
   clear D9 z1 z2 z3 n1 n2 s8
   refine⟨_,rfl,_,rfl,by show 0<=sizeLine;lia,λa3 n3=>?_⟩
   refine Hh n3 λH3 s3 e3=>?_
   have D3:=D8.keep s3
   have c3:=s18.trans (D8.cut s3)
   have o3:=D8.out n3
   have eo:((os1 ++ [l1,l2].map (·.name)).map V.str)=((os1 ++ [l1.name]).map V.str) ++ [.str l2.name]:=by simp
   have hop:=D3.opens
   rw [eo] at hop
   refine⟨_,rfl,d.S,_,2,_,rfl,rfl,D3.seqS,aH (j:=2) rfl,.inl ⟨rfl,_,bH.of D3.opens⟩,d.O,_,.str l2.name,rfl,rfl,hop,by rw [lP,List.length_singleton,Nat.add_sub_cancel];exact List.getElem?_concat_length,?_⟩
   rw [List.dropLast_concat]
   have D4:=D3.open (os':=os1 ++ [l1.name])
   have c4:bQ d.E (upd H3 d.O (.lst ((os1 ++ [l1.name]).map V.str)))=bQ d.E H3:=eG (by simp)
   have e4:=jG e3 o3
   generalize upd H3 d.O (.lst ((os1 ++ [l1.name]).map V.str))=H4 at D4 c4 ⊢
   refine⟨by show 1<=sizeLine;lia,λa4 n4=>?_⟩
   have s5:=aC (o:=.lst [.str l2.name]) n4
   have D5:=D4.keep s5
   have c5:=D4.cut s5
   rw [c4] at c5
   have e5:=jG (E:=d.E) (H:=upd H4 a4 (.lst [.str l2.name])) aq (D4.out n4)
   refine⟨d,ls ++ [l1,l2],_,os1 ++ [l1.name],_,1,a3,a4,[],[l2.name],0,rfl,D5,c5 _ _ e4,e5,by lia,rfl,by simp,rfl,rfl,by simp;lia,by simp;lia,by simp;lia,λnewl2 H9 hn2 s9 D9=>?_⟩
   have hz:newl2=[]:=List.length_eq_zero_iff.mp hn2
   subst hz
   have wt:=w8.take (p:=⟨1,cG d.c4 (ps ++ [(⟨3,cG d.c4 ps.length,[],[one],[l1,l2].map (·.name)⟩:PD)]).length,[],[l2.name],[]⟩) (rest:=os1 ++ [l1.name]) (y:=l2.name) (x:=l1.name) rfl rfl (by
     show(os1 ++ [l1.name,l2.name]).Perm (l2.name:: (os1 ++ [l1.name]))
     rw [show os1 ++ [l1.name,l2.name]=(os1 ++ [l1.name]) ++ [l2.name] by simp]
     exact List.perm_append_comm) (by simp) (Drawn.iw.part (p:=⟨3,cG d.c4 ps.length,[],[one],[l1,l2].map (·.name)⟩) (by simp) (by simp) (by simp))
   rw [List.map_nil,List.append_nil,List.append_nil] at D9
   exact k _ _ _ _ ⟨c3.trans (c5.trans s9),D9,wt,by simp,by simp;lia,by simp,by simp⟩
  ·refine⟨λ_ H'=>Q .non H',?_,λ_ _ h=>h⟩
   refine⟨_,rfl,_,_,rfl,rfl,_,rfl,Ds ?_ (λh2 b=>?_) (λb=>b)⟩
   ·refine⟨λ_ H'=>Q .non H',?_,λ_ _ h=>h⟩
    refine⟨_,rfl,_,_,rfl,rfl,_,rfl,dN (λ_=>?_) (λ_=>?_)⟩
    ·refine⟨_,rfl,_,rfl,_,rfl,c,8,rfl,_,rfl,c,9,rfl,by show 2<=sizeLine;lia,λa1 n1=>⟨_,rfl,by show 1<=sizeLine;lia,λa2 n2=>?_⟩⟩
     obtain⟨D9,z1,z2,z3⟩:=D1.two n1 n2 (y:=.lst [.str one])
     refine⟨d,_,_,os1,_,4,a1,a2,[qG c 8,qG c 9],[one],1,rfl,D9,z1,z2,by lia,rfl,?_,rfl,rfl,by lia,by lia,by lia,λnewl H8 hn s8 D8=>?_⟩
     ·intro v hv
      rcases List.mem_cons.mp hv with rfl | hv
      ·exact uD _ _
      ·rw [List.mem_singleton] at hv
       subst hv
       exact uD _ _
     exact fin (s1.trans (z3.trans s8)) D8 (.refl _) (by lia) (by lia) (by lia)
    ·refine⟨λ_ H'=>Q .non H',?_,λ_ _ h=>h⟩
     refine⟨_,rfl,rfl,_,rfl,dN (λ_=>?_) (λ_=>?_)⟩
     ·refine⟨_,rfl,_,rfl,_,rfl,c,8,rfl,by show 1<=sizeLine;lia,λa1 n1=>⟨_,rfl,by show 1<=sizeLine;lia,λa2 n2=>?_⟩⟩
      obtain⟨D9,z1,z2,z3⟩:=D1.two n1 n2 (y:=.lst [.str one])
      refine⟨d,_,_,os1,_,5,a1,a2,[qG c 8],[one],1,rfl,D9,z1,z2,by lia,rfl,?_,rfl,rfl,by lia,by lia,by lia,λnewl H8 hn s8 D8=>?_⟩
      ·intro v hv
       rw [List.mem_singleton] at hv
       subst hv
       exact uD _ _
      exact fin (s1.trans (z3.trans s8)) D8 (.refl _) (by lia) (by lia) (by lia)
     ·refine⟨λ_ H'=>Q .non H',?_,λ_ _ h=>h⟩
      refine⟨_,rfl,_,_,rfl,_,_,rfl,rfl,by show(0:Int) <2;decide,rfl,_,rfl,dN (λ_=>?_) (λ_=>?_)⟩
      ·exact⟨_,rfl,_,rfl,_,rfl,d,ls,ps,os1,c,one,back,rfl,D1,w1,by lia,hls,hps,λls' ps' os' H' X=>k ls' ps' os' H' ⟨s1.trans X.cut,X.at',X.wf,X.o1,X.o4,X.l2,X.p2⟩⟩
      ·refine⟨_,rfl,_,rfl,by show 0<=sizeLine;lia,λa1 n1=>⟨_,rfl,by show 1<=sizeLine;lia,λa2 n2=>?_⟩⟩
       obtain⟨D9,z1,z2,z3⟩:=D1.two n1 n2 (y:=.lst [.str one])
       refine⟨d,_,_,os1,_,2,a1,a2,[],[one],1,rfl,D9,z1,z2,by lia,rfl,by simp,rfl,rfl,by lia,by lia,by lia,λnewl H8 hn s8 D8=>?_⟩
       exact fin (s1.trans (z3.trans s8)) D8 (.refl _) (by lia) (by lia) (by lia)
   ·refine⟨_,rfl,d.S,_,2,_,rfl,rfl,D1.seqS,aH (j:=2) rfl,.ref d.O,os1.length,rfl,.inl ⟨_,bH.of D1.opens,by simp⟩,_,_,rfl,rfl,_,rfl,dN (λh3=>?_) (λ_=>b)⟩
    have hne1:os1≠[]:=λz=>by rw [z] at h3;exact absurd (of_decide_eq_true h3) (by decide)
    exact⟨_,rfl,_,rfl,_,rfl,_,rfl,d,ls,ps,os1,c,one,back,odd,rfl,D1,w1,hne1,by lia,hls,hps,λls' ps' os' H' X=>k ls' ps' os' H' ⟨s1.trans X.cut,X.at',X.wf,X.o1,X.o4,X.l2,X.p2⟩⟩
 ·refine⟨_,rfl,d.S,_,2,_,rfl,rfl,D1.seqS,aH (j:=2) rfl,.ref d.O,os1.length,rfl,.inl ⟨_,bH.of D1.opens,by simp⟩,_,_,rfl,rfl,_,rfl,dN (λh3=>?_) (λ_=>b)⟩
  have h3:os1.length <3:=by have:=of_decide_eq_true h3;lia
  refine⟨_,rfl,_,rfl,by show 0<=sizeLine;lia,λa1 n1=>⟨_,rfl,by show 1<=sizeLine;lia,λa2 n2=>?_⟩⟩
  obtain⟨D9,z1,z2,z3⟩:=D1.two n1 n2 (y:=.lst [.str one])
  refine⟨d,_,_,os1,_,3,a1,a2,[],[one],2,rfl,D9,z1,z2,by lia,rfl,by simp,rfl,rfl,by lia,by lia,by lia,λnewl H8 hn s8 D8=>?_⟩
  exact fin (s1.trans (z3.trans s8)) D8 (.refl _) (by lia) (by lia) (by lia)
inductive rY (vs:List V) (H:Hp) (Q:VK) (E:XK):Prop where
 | mk:∀(d:Dw) (ls:List bB) (ps:List PD) (os:List Str) (c:Int) (B:Addr) (back:List Str),vs=[.ref d.S,.int c,.ref B]->lG d H ls ps os->Drawn.WF (sS ls ps os back)->bQ d.E H B=some (.lst (back.map V.str))->os≠[]->os.length<=4->back.length<=2->ls.length<=12->ps.length<=10->(∀ls' ps' H',aM (bQ d.E H) (bQ d.E H')->lG d H' ls' ps' []->Ec (ls'.map (·.name)) ps'->ls'.length<=17->ls.length<=ls'.length->ps'.length<=16->1<=ps'.length->Q .non H')->rY vs H Q E
theorem Dq (T:Txt w K mg t):FO P w K mg base 5 t.uZ ["_law_state", "_law_cell_here", "_law_back"] (rY):=by
 have sc:=T.oA.sc ["_law_state", "_law_cell_here", "_law_back", "_law_one", "_law_other", "_law_kind", "_law_lane_here", "_law_fresh"]
 refine T.oA.F.ok sc ln (λ_ _ _ _ H vs Q E hr h=>?_)
 obtain⟨d,ls,ps,os,c,B,back,rfl,D,w,eB,hne,ho,hb,hls,hps,k⟩:=h
 refine⟨_,(aA (HF PassesOwn.never (aJ Ih (bj bI (by rfl) T.dz cj (aa (aZ aU (pv 0) au (λ_ _=>rfl)) ao aF)) au (bu _))
   (aA (sN sc 3 (pC PySem.F.plainAttrs_list PySem.F.slot_list_pop PySem.F.type_list_pop pP (aZ aU (pv 0) au (λ_ _=>rfl)) (aa au ao ak)))
   (aA (sN sc 4 (pC PySem.F.plainAttrs_list PySem.F.slot_list_pop PySem.F.type_list_pop pP (aZ aU (pv 0) au (λ_ _=>rfl)) (aa au ao ak)))
   (aA (sN sc 5 (aZ aU (aW (aa aN (aa aN (aa aN ao ak) ak) ak)) (aK bJ (dF (bh T) T.bA hr (aa (pv 1) (aa (bj bI (by rfl) T.dz cj (aa (aZ aU (pv 0) au (λ_ _=>rfl)) ao aF)) ao bc) aj)) au) (λ_ _=>rfl)))
   (az (aV (dF (cD T) T.cz hr (@aa _ _ _ _ _ (pv 0) (@aa _ _ _ _ _ (dF (bh T) T.bA hr (aa (pv 1) (aa (aK dG au (bj bI (by rfl) T.dz cj (aa (aZ aU (pv 0) au (λ_ _=>rfl)) ao aF))) ao bG) aj)) (@aa _ _ _ _ _ (pv 5) (@aa _ _ _ _ _ (aW ao) (@aa _ _ _ _ _ (aW (aa (pv 3) (aa (pv 4) ao aj) aj)) (@aa _ _ _ _ _ au ao ak) aO) aO) aj) bc) aj))))))))
  (aA (fM PassesOwn.never rfl (dB (pv 2)) (gN sc 6)
   (aA (sN sc 3 (yj PySem.F.plainAttrs_list PySem.F.slot_list_pop PySem.F.type_list_pop Kv (aZ aU (pv 0) au (λ_ _=>rfl))))
   (aA (sN sc 7 (dF (jt T) T.gq hr (aa (pv 0) (aa (dF (bh T) T.bA hr (aa (pv 1) (aa (aK dG au (bj bI (by rfl) T.dz cj (aa (aZ aU (pv 0) au (λ_ _=>rfl)) ao aF))) ao bG) aj)) (aa jA ao ak) bc) aj)))
   (aA (aV (yU (aZ aU (pv 0) au (λ_ _=>rfl)) (aa (cB (aa aN (aa (dF (lE T) T.iV hr (aa (aZ aU (pv 0) au (λ_ _=>rfl)) (aa (bj bI (by rfl) T.dz cj (aa (aZ aU (pv 0) au (λ_ _=>rfl)) ao aF)) ao bc) aF)) (aa (aW ao) (aa (aW (aa (pv 3) ao aj)) (aa (aW (aa (pv 6) (aa (pv 7) ao aj) aj)) ao aO) aO) aO) bc) ak)) ao mD)))
   (az (aV (yU (aZ aU (pv 0) au (λ_ _=>rfl)) (aa (pv 7) ao aj))))))))
  (az (aV (dF (cD T) T.cz hr (@aa _ _ _ _ _ (pv 0) (@aa _ _ _ _ _ (pv 1) (@aa _ _ _ _ _ aN (@aa _ _ _ _ _ (aW ao) (@aa _ _ _ _ _ (aW (aa (yj PySem.F.plainAttrs_list PySem.F.slot_list_pop PySem.F.type_list_pop Kv (aZ aU (pv 0) au (λ_ _=>rfl))) ao bc)) (@aa _ _ _ _ _ au ao ak) aO) aO) ak) aj) aj)))))),?_⟩
 have hl:sizeLine=16777216:=sizeLine_eq
 have hpos:0 <os.length:=List.length_pos_iff.mpr hne
 refine hide λu hu=>?_
 refine Jg (λσ H1=>∃(ls1:List bB) (ps1:List PD) (os1:List Str) (v3 v4 v5:Option V),σ=[some (.ref d.S),some (.int c),some (.ref B),v3,v4,v5,none,none]/\aM (bQ d.E H) (bQ d.E H1)/\lG d H1 ls1 ps1 os1/\Drawn.WF (sS ls1 ps1 os1 back)/\1<=os1.length/\os1.length<=4/\ls.length<=ls1.length/\ls1.length+os1.length<=16/\ps1.length+os1.length<=14)
  (λ_ H1=>Pj H1 d.O) ⟨ls,ps,os,none,none,none,rfl,aM.refl _,D,w,by lia,ho,Nat.le_refl _,by lia,by lia⟩ ?_ ?_
 ·rintro σ H1 ⟨ls1,ps1,os1,v3,v4,v5,rfl,s1,D1,w1,o1,o4,hl1,hl2,hp2⟩
  refine⟨_,rfl,d.S,_,2,_,rfl,rfl,D1.seqS,aH (j:=2) rfl,.ref d.O,os1.length,rfl,.inl ⟨_,bH.of D1.opens,by simp⟩,_,_,rfl,rfl,_,rfl,dN (λh3=>?_) (λh3=>?_)⟩
  ·have h3:1 <os1.length:=by have:=of_decide_eq_true h3;lia
   obtain⟨one,other,os2,rfl⟩:∃one other os2,os1=one:: other:: os2:=by
    match os1,h3 with
    | x:: y:: r,_=>exact⟨x,y,r,rfl⟩
   rw [List.length_cons,List.length_cons] at h3 o1 o4 hl2 hp2
   have lm:=Jk D1.opens
   refine Xg λDe hD u hu=>?_
   refine⟨_,rfl,d.S,_,2,_,rfl,rfl,D1.seqS,aH (j:=2) rfl,.inl ⟨rfl,_,bH.of D1.opens⟩,d.O,_,0,0,.str one,rfl,rfl,D1.opens,by decide,by decide,yD (by simp),rfl,?_⟩
   have D2:=D1.open (os':=other:: os2)
   have c2:bQ d.E (upd H1 d.O (.lst ((other:: os2).map V.str)))=bQ d.E H1:=eG (by simp)
   refine cM (v:=u) hu λu hu=>?_
   change wU _ _ _ _ (upd H1 d.O (.lst ((other:: os2).map V.str)))
   generalize upd H1 d.O (.lst ((other:: os2).map V.str))=H2 at D2 c2 ⊢
   refine⟨_,rfl,d.S,_,2,_,rfl,rfl,D2.seqS,aH (j:=2) rfl,.inl ⟨rfl,_,bH.of D2.opens⟩,d.O,_,0,0,.str other,rfl,rfl,D2.opens,by decide,by decide,yD (by simp),rfl,?_⟩
   have D3:=D2.open (os':=os2)
   have c3:bQ d.E (upd H2 d.O (.lst (os2.map V.str)))=bQ d.E H2:=eG (by simp)
   refine cM (v:=u) hu λu hu=>?_
   change wU _ _ _ _ (upd H2 d.O (.lst (os2.map V.str)))
   generalize upd H2 d.O (.lst (os2.map V.str))=H3 at D3 c3 ⊢
   have s3:aM (bQ d.E H) (bQ d.E H3):=by rw [c3,c2];exact s1
   refine⟨by show 3<=sizeLine;lia,λa0 n0=>?_⟩
   have s0:=aC (o:=.lst [.str "add",.str "less",.str "add"]) n0
   have D0:=D3.keep s0
   have c0:=s3.trans (D3.cut s0)
   refine⟨_,rfl,_,rfl,d.S,_,2,_,rfl,rfl,D0.seqS,aH (j:=2) rfl,.ref d.O,os2.length,rfl,.inl ⟨_,bH.of D0.opens,by simp⟩,c,(os2.length:Int),rfl,_,_,rfl,rfl,by show(0:Int) <3;decide,?_⟩
   obtain⟨i,ei,hi⟩:=Wg (cg c (os2.length:Int))
   refine⟨a0,_,_,_,rfl,rfl,bH.of aq,ei,?_⟩
   generalize upd H3 a0 (.lst [.str "add",.str "less",.str "add"])=H0 at s0 D0 c0 ⊢
   obtain⟨xs,eP,aP⟩:=D0.parts
   have xl:=aP.length
   have hN:([]:List Int).length=cN i:=by rcases hi with rfl | rfl <;> rfl
   have hI:[one,other].length=cI i:=by rcases hi with rfl | rfl <;> rfl
   have hO:1=cO i:=by rcases hi with rfl | rfl <;> rfl
   subst hu
   refine⟨_,rfl,_,rfl,_,rfl,d.S,_,1,_,rfl,rfl,D0.seqS,aH (j:=1) rfl,.ref d.P,ps1.length,rfl,.inl ⟨_,bH.of eP,xl.symm⟩,_,_,rfl,rfl,_,_,rfl,?_⟩
   refine⟨_,rfl,by show 0<=sizeLine;lia,λa1 n1=>⟨_,rfl,_,rfl,by show 2<=sizeLine;lia,λa2 n2=>?_⟩⟩
   obtain⟨D9,z1,z2,z3⟩:=D0.two n1 n2 (y:=.lst [.str one,.str other])
   refine⟨d,_,_,os2,_,i,a1,a2,[],[one,other],1,rfl,D9,z1,z2,by lia,hN,by simp,hI,hO,by lia,by lia,by lia,λnewl H8 hn s8 D8=>?_⟩
   have w8:=pM w1 rfl D8 (.refl _) (by lia) (by rw [lP];lia)
   subst hD
   refine⟨⟨_,_,_,_,_,_,rfl,c0.trans (z3.trans s8),D8,w8,?_,?_,?_,?_,?_⟩,?_⟩
   ·rw [lP,lM];lia
   ·rw [lP,lM];lia
   ·rw [lP];lia
   ·rw [lP,lP,lM];lia
   ·rw [lP,lP,lM,List.length_singleton];lia
   ·rw [Jk D8.opens,lm,lM,lM,lP,lM,List.length_cons,List.length_cons]
    lia
  ·have h3:os1.length=1:=by
    have:¬(1:Int) <(os1.length:Int):=λz=>h3 (decide_eq_true z)
    lia
   obtain⟨y,rfl⟩:=List.length_eq_one_iff.mp h3
   refine cM (v:=u) hu λu hu=>?_
   refine⟨_,rfl,B,rfl,⟨_,bH.of (lU _ _ (s1 _ _ eB))⟩,?_⟩
   refine jl (K:=K) (a:=B) (xs:=back.map V.str) (λj σ H2=>∃(ls2:List bB) (ps2:List PD) (y:Str) (u3 u6 u7:Option V),σ=[some (.ref d.S),some (.int c),some (.ref B),u3,v4,v5,u6,u7]/\aM (bQ d.E H) (bQ d.E H2)/\lG d H2 ls2 ps2 [y]/\Drawn.WF (sS ls2 ps2 [y] (back.drop j))/\ls.length<=ls2.length/\ls2.length<=15+j/\ps2.length<=13+j) ⟨ls1,ps1,y,v3,none,none,rfl,s1,D1,w1,hl1,by have z:=hl2;rw [List.length_singleton] at z;lia,by have z:=hp2;rw [List.length_singleton] at z;lia⟩ (λj σ H2 _ ⟨ls2,ps2,y,u3,u6,u7,e,s2,h⟩=>bH.of (lU _ _ (s2 _ _ eB))) ?_ ?_
   ·rintro j x σ H2 hx ⟨ls2,ps2,y2,u3,u6,u7,rfl,s2,D2,w2,hl2',hl3,hp3⟩
    rw [List.getElem?_map] at hx
    obtain⟨bn,hbn,rfl⟩:=Option.map_eq_some_iff.mp hx
    have hj:j <back.length:=by
     rcases Nat.lt_or_ge j back.length with h | h
     ·exact h
     ·rw [List.getElem?_eq_none h] at hbn;cases hbn
    have hdr:back.drop j=bn:: back.drop (j+1):=by
     rw [List.drop_eq_getElem_cons hj]
     rw [List.getElem?_eq_getElem hj,Option.some.injEq] at hbn
     rw [hbn]
    refine Oh λDe hD u hu=>?_
    refine⟨_,rfl,d.S,_,2,_,rfl,rfl,D2.seqS,aH (j:=2) rfl,.inl ⟨rfl,_,bH.of D2.opens⟩,d.O,_,.str y2,rfl,rfl,D2.opens,rfl,?_⟩
    have D3:=D2.open (os':=[])
    have c3:bQ d.E (upd H2 d.O (.lst (([]:List Str).map V.str)))=bQ d.E H2:=eG (by simp)
    refine cM (v:=u) hu λu hu=>?_
    change wU _ _ _ _ (upd H2 d.O (.lst (([]:List Str).map V.str)))
    generalize upd H2 d.O (.lst (([]:List Str).map V.str))=H3 at D3 c3 ⊢
    obtain⟨xs,eP,aP⟩:=D3.parts
    have xl:=aP.length
    refine⟨_,rfl,_,rfl,_,rfl,d.S,_,1,_,rfl,rfl,D3.seqS,aH (j:=1) rfl,.ref d.P,ps2.length,rfl,.inl ⟨_,bH.of eP,xl.symm⟩,_,_,rfl,rfl,_,_,rfl,d,ls2,ps2,[],_,false,rfl,D3,by lia,λl H4 _ s4 D4=>?_⟩
    rw [c3] at s4
    have s24:=s2.trans s4
    obtain⟨xs4,eP4,aP4⟩:=D4.parts
    have xl4:=aP4.length
    refine cM (v:=u) hu λu hu=>?_
    refine⟨_,rfl,d.S,_,1,_,rfl,rfl,D4.seqS,aH (j:=1) rfl,.inl ⟨rfl,_,bH.of eP4⟩,?_⟩
    refine⟨_,rfl,d.S,_,4,_,rfl,rfl,D4.seqS,aH (j:=4) rfl,?_⟩
    refine⟨_,rfl,d.S,_,1,_,rfl,rfl,D4.seqS,aH (j:=1) rfl,.ref d.P,ps2.length,rfl,.inl ⟨_,bH.of eP4,xl4.symm⟩,?_⟩
    refine⟨d.c4,ps2.length,rfl,by lia,λH5 s5=>?_⟩
    have D5:=D4.keep s5
    have c5:=s24.trans (D4.cut s5)
    have eP5:=s5 _ _ eP4
    refine⟨by show 0<=sizeLine;lia,λa1 n1=>⟨_,rfl,by show 1<=sizeLine;lia,λa2 n2=>⟨_,rfl,_,rfl,by show 2<=sizeLine;lia,λa3 n3=>⟨by show 5<=sizeLine;lia,λq nq=>?_⟩⟩⟩⟩
    obtain⟨D6,z1,z2,z3⟩:=D5.two n1 n2 (y:=.lst [.str y2])
    have t6:aM H5 (upd (upd H5 a1 (.lst [])) a2 (.lst [.str y2])):=(aC n1).trans (aC n2)
    have eP6:=t6 _ _ eP5
    generalize upd (upd H5 a1 (.lst [])) a2 (.lst [.str y2])=H6 at D6 z1 z2 z3 t6 eP6 n3 nq ⊢
    obtain⟨D7,y1,y2',y3⟩:=D6.two n3 nq (y:=.tup [.str "copy",.str (cG d.c4 ps2.length),.ref a1,.ref a2,.ref a3])
    have t7:aM H6 (upd (upd H6 a3 (.lst [.str bn,.str l.name])) q (.tup [.str "copy",.str (cG d.c4 ps2.length),.ref a1,.ref a2,.ref a3])):=(aC n3).trans (aC nq)
    have eP7:=t7 _ _ eP6
    generalize upd (upd H6 a3 (.lst [.str bn,.str l.name])) q (.tup [.str "copy",.str (cG d.c4 ps2.length),.ref a1,.ref a2,.ref a3])=H7 at D7 y1 y2' y3 t7 eP7 ⊢
    have c7:=c5.trans (z3.trans y3)
    refine⟨d.P,xs4,_,rfl,rfl,eP7,by lia,?_⟩
    have D8:=D7.part (p:=⟨3,cG d.c4 ps2.length,[],[y2],[bn,l.name]⟩) ⟨q,a1,a2,a3,rfl,y2',y3 _ _ z1,y3 _ _ z2,y1⟩ ⟨by show 3 <11;lia,rfl,rfl,rfl,by simp⟩ rfl eP7
    have c8:bQ d.E (upd H7 d.P (.lst (xs4 ++ [.ref q])))=bQ d.E H7:=eG (by simp)
    generalize upd H7 d.P (.lst (xs4 ++ [.ref q]))=H8 at D8 c8 ⊢
    subst hu
    refine⟨_,rfl,d.S,_,2,_,rfl,rfl,D8.seqS,aH (j:=2) rfl,.inl ⟨rfl,_,bH.of D8.opens⟩,_,rfl,d.O,_,_,rfl,rfl,D8.opens,by simp;lia,?_⟩
    have D9:=D8.open (os':=[l.name])
    have nd:=D9.nod (by rw [lP,List.length_singleton];lia)
    rw [hdr] at w2
    have wc:=w2.closeBack (p:=⟨3,cG d.c4 ps2.length,[],[y2],[bn,l.name]⟩) (rest:=back.drop (j+1)) (one:=y2) (b:=bn) (fresh:=l.name) rfl rfl (.refl _) rfl (by simpa using nd)
    subst hD
    exact⟨ls2 ++ [l],_,l.name,_,_,_,rfl,by rw [eG (by simp),c8];exact c7,D9,by simpa [sS] using wc,by rw [lP];lia,by rw [lP,List.length_singleton];lia,by rw [lP,List.length_singleton];lia⟩
   rintro σ H2 ⟨ls2,ps2,y2,u3,u6,u7,rfl,s2,D2,w2,hl2',hl3,hp3⟩
   rw [lM] at w2 hl3 hp3
   rw [List.drop_length] at w2
   subst hu
   refine⟨_,rfl,_,rfl,by show 0<=sizeLine;lia,λa3 n3=>?_⟩
   have t3:=aC (o:=.lst []) n3
   have D3:=D2.keep t3
   have c3:=s2.trans (D2.cut t3)
   have o3:=D2.out n3
   have e3:=jG (aq (H:=H2) (a:=a3) (o:=.lst ([]:List V))) o3
   generalize upd H2 a3 (.lst [])=H3 at t3 D3 c3 e3 ⊢
   refine⟨_,rfl,d.S,_,2,_,rfl,rfl,D3.seqS,aH (j:=2) rfl,.inl ⟨rfl,_,bH.of D3.opens⟩,d.O,_,.str y2,rfl,rfl,D3.opens,rfl,?_⟩
   have D4:=D3.open (os':=[])
   have c4:bQ d.E (upd H3 d.O (.lst (([]:List Str).map V.str)))=bQ d.E H3:=eG (by simp)
   rw [show([y2].map V.str).dropLast=([]:List Str).map V.str from rfl]
   refine⟨by show 1<=sizeLine;lia,λa4 n4=>?_⟩
   generalize upd H3 d.O (.lst (([]:List Str).map V.str))=H4 at D4 c4 n4 ⊢
   have s5:=aC (o:=.lst [.str y2]) n4
   have D5:=D4.keep s5
   have c5:=D4.cut s5
   rw [c4] at c5
   have e5:=jG (E:=d.E) (H:=upd H4 a4 (.lst [.str y2])) aq (D4.out n4)
   refine⟨d,ls2,ps2,[],_,1,a3,a4,[],[y2],0,rfl,D5,c5 _ _ e3,e5,by lia,rfl,by simp,rfl,rfl,by lia,by lia,by simp,λnewl2 H9 hn2 s9 D9=>?_⟩
   have hz:newl2=[]:=List.length_eq_zero_iff.mp hn2
   subst hz
   rw [List.map_nil,List.append_nil,List.append_nil] at D9
   obtain⟨x1,x2,x3⟩:=w2.last (p:=⟨1,cG d.c4 ps2.length,[],[y2],[]⟩) (y:=y2) rfl rfl rfl rfl
   exact k ls2 _ H9 (c3.trans (c5.trans s9)) D9 ⟨w2.nod,x1,x2,y2,x3⟩ (by lia) hl2' (by rw [lP,List.length_singleton];lia) (by rw [lP,List.length_singleton];lia)
 ·intro σ H' Q' Q'' hm hq
  obtain⟨x1,x2,x3,x4,x5,x6,x7,x8,x9,x10,x11,x12,x13,x14,x15,x16,x17,x18,x19,x20,q⟩:=hq
  exact⟨x1,x2,x3,x4,x5,x6,x7,x8,x9,x10,x11,x12,x13,x14,x15,x16,x17,x18,x19,x20,hm _ _ q⟩
inductive zg (K:PySem.W.Frag) (vs:List V) (H:Hp) (Q:VK) (E:XK):Prop where
 | mk:∀(a:Addr) (ns:List Int) (start steps:Nat) (odd:Bool),vs=[.ref a,.int (start:Nat),.int (steps:Nat),.bl odd]->bH K H a (ns.map V.int)->steps<=4->(∀(T L P:Addr) (ls:List bB) (ps:List PD) (H':Hp),aM H H'->H L=none->H P=none->L≠P->H' T=some (.tup [.ref L,.ref P])->El H' L P ls ps->Pq (j5 ns start) (j5 ns (start+1)) ls ps->Q (.ref T) H')->zg K vs H Q E
noncomputable abbrev Cz:List Str:=["_law_script", "_law_start", "_law_steps", "_law_odd", "_law_one", "_law_other", "_law_state", "_law_k", "_law_back", "_law_at"]
theorem JC (T:Txt w K mg t):FO P w K mg base 7 t.Df ["_law_script", "_law_start", "_law_steps", "_law_odd"] (zg K):=by
 have sc:=T.vH.sc Cz
 refine T.vH.F.ok sc ln (λ_ _ _ _ H vs Q E hr h=>?_)
 obtain⟨a,ns,start,steps,odd,rfl,hS,hst,k⟩:=h
 refine⟨_,(aA (sN sc 4 (dF (jw T) T.gm hr (aa (pv 0) (aa (pv 1) ao aj) aj)))
  (aA (sN sc 5 (dF (jw T) T.gm hr (aa (pv 0) (aa (aK dG (pv 1) au) ao bG) aj)))
  (aA (sN sc 6 (aW (aa (aW ao) (aa (aW ao) (aa (aW ao) (aa (pv 4) (aa (pv 5) ao aj) aj) aO) aO) aO)))
  (aA (fM PassesOwn.never rfl (gQ rfl T.lQ (aa (aK dG au (aK bJ (dF (bh T) T.bA hr (aa (pv 4) (aa au ao ak) aj)) au)) ao bG)) (gN sc 7)
   (az (aV (dF (cD T) T.cz hr (@aa _ _ _ _ _ (pv 6) (@aa _ _ _ _ _ (dF (bh T) T.bA hr (aa (pv 5) (aa (pv 7) ao aj) aj)) (@aa _ _ _ _ _ aN (@aa _ _ _ _ _ (aW ao) (@aa _ _ _ _ _ (aW ao) (@aa _ _ _ _ _ au ao ak) aO) aO) ak) bc) aj)))))
  (aA (j4 (i:=8) [5,6] Cz (bw (top 64)) rfl sc.nd rfl (gQ rfl T.lQ (aa (aK bJ (dF (bh T) T.bA hr (aa (pv 4) (aa au ao ak) aj)) au) ao bG)) (λ_ _ _ _ _=>ik) (λ_ _ _ _ _=>(dF (jt T) T.gq hr (aa (pv 2) (aa (dF (bh T) T.bA hr (aa (pv 1) (aa (aK dG au (pv 0)) ao bG) aj)) (aa jA ao ak) bc) aj))))
  (aA (aV (pC PySem.F.plainAttrs_list PySem.F.slot_list_extend PySem.F.type_list_extend Ej (aZ aU (pv 6) au (λ_ _=>rfl)) (aa (pv 8) ao aj)))
  (aA (fM PassesOwn.never rfl (gQ rfl T.lQ (aa (pv 2) ao aj)) (gN sc 7)
   (az (aV (dF (Hq T) T.sr hr (aa (pv 6) (aa (dF (jw T) T.gm hr (aa (pv 0) (aa (aK dG (aK dG (pv 1) au) (pv 7)) ao bG) aj)) (aa (pv 3) ao aj) bc) aj)))))
  (aA (aV (dF (Dq T) T.oA hr (aa (pv 6) (aa (pv 5) (aa (pv 8) ao aj) aj) aj)))
  (aA (sN sc 9 (aK bJ (dF (bh T) T.bA hr (aa (pv 4) (aa au ao ak) aj)) (bj bI (by rfl) T.dz cj (aa (aZ aU (pv 6) au (λ_ _=>rfl)) ao aF))))
  (az (aY (cB (aa (aZ aU (pv 6) au (λ_ _=>rfl)) (aa (aK Ba (sV Ly (aZ aU (pv 6) au (λ_ _=>rfl)) (w5 (pv 9)) wO) (sV Ly (aZ aU (pv 6) au (λ_ _=>rfl)) wO (w5 (pv 9)))) ao bG) aF))))))))))))),?_⟩
 have hl:sizeLine=16777216:=sizeLine_eq
 refine hide λu hu=>?_
 refine⟨_,rfl,_,rfl,a,ns,start,rfl,hS,?_⟩
 refine cM (v:=u) hu λu hu=>?_
 refine⟨_,rfl,_,rfl,_,_,rfl,rfl,a,ns,start+1,rfl,hS,?_⟩
 refine cM (v:=u) hu λu hu=>?_
 refine⟨by show 0<=sizeLine;lia,λL nL=>⟨by show 0<=sizeLine;lia,λP' nP=>⟨by show 0<=sizeLine;lia,λO nO=>⟨_,rfl,_,rfl,by show 5<=sizeLine;lia,λS nS=>?_⟩⟩⟩⟩
 obtain⟨D1,s1,nP0⟩:=lG.init (j5 ns start) (j5 ns (start+1)) nL nP nO nS
 have nLP:L≠P':=D1.ne.1
 refine cM (v:=u) hu λu hu=>?_
 change wU _ _ _ [some (.ref a),some (.int (start:Nat)),some (.int (steps:Nat)),some (.bl odd),some (.int (j5 ns start)),some (.int (j5 ns (start+1))),some (.ref S),none,none,none] (upd (upd (upd (upd H L (.lst [])) P' (.lst [])) O (.lst [])) S (.lst [.ref L,.ref P',.ref O,.int (j5 ns start),.int (j5 ns (start+1))]))
 generalize upd (upd (upd (upd H L (.lst [])) P' (.lst [])) O (.lst [])) S (.lst [.ref L,.ref P',.ref O,.int (j5 ns start),.int (j5 ns (start+1))])=H1 at D1 s1 ⊢
 obtain⟨d,hd⟩:∃d:Dw,d=⟨S,L,P',O,j5 ns start,j5 ns (start+1)⟩:=⟨_,rfl⟩
 rw [<-hd] at D1
 have hE:[L,P',O]=d.E:=by rw [hd]
 have hSd:S=d.S:=by rw [hd]
 have hLd:L=d.L:=by rw [hd]
 have hc3:j5 ns start=d.c3:=by rw [hd]
 have hc4:j5 ns (start+1)=d.c4:=by rw [hd]
 rw [hE] at s1
 rw [hLd] at nL nLP
 rw [hc3,hc4] at k
 rw [hSd,hc3,hc4]
 clear hd hE nP nO nS
 have g0:=Int.emod_nonneg (cg d.c3 5) (show(2:Int)≠0 by decide)
 have g1:=Int.emod_lt_of_pos (cg d.c3 5) (show(0:Int) <2 by decide)
 refine⟨_,rfl,_,_,rfl,_,_,rfl,rfl,by show(0:Int) <2;decide,_,_,rfl,rfl,1+cg d.c3 5 % 2,rfl,by lia,by lia,?_⟩
 obtain⟨g,hg,hg1,hg2⟩:∃g:Nat,(1+cg d.c3 5 % 2).toNat=g/\1<=g/\g<=2:=⟨_,rfl,by lia,by lia⟩
 rw [hg]
 refine o8 (λj σ H2=>∃(ls:List bB) (ps:List PD) (os:List Str) (v7:Option V),σ=[some (.ref a),some (.int (start:Nat)),some (.int (steps:Nat)),some (.bl odd),some (.int d.c3),some (.int d.c4),some (.ref d.S),v7,none,none]/\aM (bQ d.E H1) (bQ d.E H2)/\lG d H2 ls ps os/\Drawn.WF (sS ls ps os [])/\ls.length=j/\ps.length=j/\os.length=j) ⟨[],[],[],none,rfl,aM.refl _,D1,Drawn.WF.start,rfl,rfl,rfl⟩ ?_ ?_
 ·rintro j σ H2 hj ⟨ls,ps,os,v7,rfl,s2,D2,w2,h1,h2,h3⟩
  refine Th λDe hD=>?_
  refine⟨_,rfl,_,rfl,_,rfl,_,_,rfl,by show 0<=sizeLine;lia,λa1 n1=>⟨by show 0<=sizeLine;lia,λa2 n2=>?_⟩⟩
  obtain⟨D9,z1,z2,z3⟩:=D2.two n1 n2 (y:=.lst [])
  refine⟨d,ls,ps,os,_,0,a1,a2,[],[],1,rfl,D9,z1,z2,by lia,rfl,by simp,rfl,rfl,by lia,by lia,by lia,λnewl H8 hn s8 D8=>?_⟩
  have w8:=pM w2 rfl D8 (.refl _) (by lia) (by rw [lP];lia)
  subst hD
  exact⟨_,_,_,_,rfl,s2.trans (z3.trans s8),D8,w8,by rw [lP];lia,by rw [lP,List.length_singleton];lia,by rw [lP,lM];lia⟩
 rintro σ H2 ⟨ls,ps,os,v7,rfl,s2,D2,w2,h1,h2,h3⟩
 have b0:=Int.emod_nonneg (cg d.c3 6) (show(3:Int)≠0 by decide)
 have b1:=Int.emod_lt_of_pos (cg d.c3 6) (show(0:Int) <3 by decide)
 refine cM (v:=u) hu λu hu=>?_
 refine⟨_,rfl,_,_,rfl,_,_,rfl,rfl,by show(0:Int) <3;decide,cg d.c3 6 % 3,rfl,by lia,by lia,?_⟩
 obtain⟨nb,hnb,hnb2⟩:∃nb:Nat,(cg d.c3 6 % 3).toNat=nb/\nb<=2:=⟨_,rfl,by lia⟩
 rw [hnb]
 refine qF (λj ys H3=>∃(ls3:List bB) (bl:List Str),ys=bl.map V.str/\bl.length=j/\aM (bQ d.E H1) (bQ d.E H3)/\lG d H3 ls3 ps os/\Drawn.WF (sS ls3 ps (os ++ bl) bl)/\ls3.length=g+j) (by lia) ⟨ls,[],rfl,rfl,s2,D2,by rw [List.append_nil];exact w2,by lia⟩ (λj ys H3 ⟨_,bl,e,e2,_⟩=>by rw [e,lM];lia) ?_ ?_
 ·rintro j ys H3 hj ⟨ls3,bl,rfl,hb,s3,D3,w3,h4⟩
  refine yes ⟨_,rfl,_,rfl,_,rfl,_,_,rfl,rfl,_,_,rfl,d,ls3,ps,os,_,true,rfl,D3,by lia,λl H4 _ s4 D4=>?_⟩
  have nd:=D4.nod (by rw [lP,List.length_singleton];lia)
  have wb:=w3.backLane (b:=l.name) (by simpa using nd)
  exact⟨ls3 ++ [l],bl ++ [l.name],by simp,by simp [hb],s3.trans s4,D4,by simpa [sS] using wb,by rw [lP,List.length_singleton];lia⟩
 rintro ys H3 ⟨ls3,bl,rfl,hbl,s3,D3,w3,h4⟩ B nB
 have t4:=aC (o:=.lst (bl.map V.str)) nB
 have D4:=D3.keep t4
 have s4:=s3.trans (D3.cut t4)
 have eB:=jG (aq (H:=H3) (a:=B) (o:=.lst (bl.map V.str))) (D3.out nB)
 generalize upd H3 B (.lst (bl.map V.str))=H4 at t4 D4 s4 eB ⊢
 refine cM (v:=u) hu λu hu=>?_
 refine⟨_,rfl,d.S,_,2,_,rfl,rfl,D4.seqS,aH (j:=2) rfl,.inl ⟨rfl,_,bH.of D4.opens⟩,_,rfl,d.O,B,_,_,rfl,rfl,D4.opens,lU _ _ eB,by rw [lM,lM];lia,?_⟩
 rw [<-List.map_append]
 have D5:=D4.open (os':=os ++ bl)
 have c5:bQ d.E (upd H4 d.O (.lst ((os ++ bl).map V.str)))=bQ d.E H4:=eG (by simp)
 generalize upd H4 d.O (.lst ((os ++ bl).map V.str))=H5 at D5 c5 ⊢
 rw [<-c5] at s4 eB
 refine cM (v:=u) hu λu hu=>?_
 refine⟨_,rfl,(steps:Int),rfl,by lia,by lia,?_⟩
 rw [Int.toNat_natCast]
 refine o8 (λj σ H6=>∃(ls6:List bB) (ps6:List PD) (os6:List Str) (v7:Option V),σ=[some (.ref a),some (.int (start:Nat)),some (.int (steps:Nat)),some (.bl odd),some (.int d.c3),some (.int d.c4),some (.ref d.S),v7,some (.ref B),none]/\aM (bQ d.E H5) (bQ d.E H6)/\lG d H6 ls6 ps6 os6/\Drawn.WF (sS ls6 ps6 os6 bl)/\1<=ls6.length/\ls6.length<=4+2 * j/\ps6.length<=2+2 * j/\os6≠[]/\os6.length<=4) ⟨ls3,ps,os ++ bl,v7,rfl,aM.refl _,D5,w3,by lia,by lia,by lia,by intro z;have:=congrArg List.length z;rw [lP,List.length_nil] at this;lia,by rw [lP];lia⟩ ?_ ?_
 ·rintro j σ H6 hj ⟨ls6,ps6,os6,u7,rfl,s6,D6,w6,l0,l6,p6,o0,o6⟩
  have hS6:bH K H6 a (ns.map V.int):=lU.seq ((s1.trans (s4.trans s6)).seq hS)
  refine Th λDe hD=>?_
  refine⟨_,rfl,_,rfl,_,rfl,_,_,rfl,rfl,_,rfl,_,_,rfl,rfl,a,ns,start+2+(0+j),rfl,hS6,_,rfl,d,ls6,ps6,os6,_,bl,odd,rfl,D6,w6,o0,o6,by lia,by lia,λls' ps' os' H' X=>?_⟩
  subst hD
  exact⟨ls',ps',os',_,rfl,s6.trans X.cut,X.at',X.wf,by have h1:=X.wf.ins.length_eq;have h2:=X.o1;rw [lP,lM] at h1;change _+os'.length=_ at h1;lia,by have:=X.l2;lia,by have:=X.p2;lia,by intro z;have:=X.o1;rw [z] at this;simp at this,X.o4⟩
 rintro σ H6 ⟨ls6,ps6,os6,u7,rfl,s6,D6,w6,l0,l6,p6,o0,o6⟩
 refine cM (v:=u) hu λu hu=>?_
 refine⟨_,rfl,_,rfl,_,rfl,d,ls6,ps6,os6,_,B,bl,rfl,D6,w6,s6 _ _ eB,o0,o6,by lia,by lia,by lia,λls7 ps7 H7 s7 D7 W7 l17 l7 p16 p1=>?_⟩
 obtain⟨xsL,eL,aL⟩:=D7.lanes
 obtain⟨xsP,eP,aP⟩:=D7.parts
 have xl:=aP.length
 refine cM (v:=u) hu λu hu=>?_
 refine⟨_,rfl,_,_,rfl,_,rfl,d.S,_,1,_,rfl,rfl,D7.seqS,aH (j:=1) rfl,.ref d.P,ps7.length,rfl,.inl ⟨_,bH.of eP,xl.symm⟩,cg d.c3 7,(ps7.length:Int),rfl,rfl,by lia,?_⟩
 have r0:=Int.emod_nonneg (cg d.c3 7) (show(ps7.length:Int)≠0 by lia)
 obtain⟨r,hr'⟩:∃r:Nat,cg d.c3 7 % (ps7.length:Int)=(r:Int):=⟨_,(Int.toNat_of_nonneg r0).symm⟩
 dsimp only
 rw [hr']
 subst hu
 refine⟨_,rfl,d.S,_,0,_,rfl,rfl,D7.seqS,aH (j:=0) rfl,?_⟩
 refine⟨_,rfl,d.S,_,1,_,rfl,rfl,D7.seqS,aH (j:=1) rfl,?_⟩
 refine⟨_,rfl,_,rfl,d.P,_,rfl,bH.of eP,λq1 m1=>?_⟩
 rw [MN]
 refine Hh m1 λH8 t1 f1=>?_
 have D8:=D7.keep t1
 have eP8:=t1 _ _ eP
 have eL8:=t1 _ _ eL
 refine⟨_,rfl,d.S,_,1,_,rfl,rfl,D8.seqS,aH (j:=1) rfl,_,rfl,_,rfl,d.P,_,rfl,bH.of eP8,λq2 m2=>?_⟩
 rw [Rq]
 refine Hh m2 λH9 t2 f2=>?_
 have f12:=t2 _ _ f1
 have eL9:=t2 _ _ eL8
 refine⟨q1,q2,_,_,rfl,rfl,f12,f2,by rw [List.length_drop,List.length_take];lia,λq3 m3=>?_⟩
 refine Hh m3 λHA t3 f3=>?_
 have eLA:=t3 _ _ eL9
 refine⟨by show 2<=sizeLine;lia,λT' nT=>?_⟩
 have t4:=aC (o:=.tup [.ref d.L,.ref q3]) nT
 have sA:aM H7 (upd HA T' (.tup [.ref d.L,.ref q3])):=t1.trans (t2.trans (t3.trans t4))
 have s17:aM H (bQ d.E H7):=s1.trans (s4.trans (s6.trans s7))
 have s07:aM H H7:=s17.trans lU
 have free3:H q3=none:=s07.free (t1.free (t2.free m3))
 have cA:aM (bQ d.E H7) (upd HA T' (.tup [.ref d.L,.ref q3])):=lU.trans sA
 have nq:d.L≠q3:=aB eL9 m3
 have rp:=Qc ps7 r
 refine k T' d.L q3 ls7 (ps7.drop r ++ ps7.take r) _ (s07.trans sA) nL free3 nq aq ⟨⟨xsL,t4 _ _ eLA,aL.imp λ_ _ h=>h.same cA⟩,⟨_,t4 _ _ f3,((aP.drop r).app (aP.take r)).imp λ_ _ h=>h.same cA⟩⟩ ⟨D7.lok,λp hp=>D7.pok p (rp.mem_iff.mpr hp),D7.ln,?_,W7.perm rp,by lia,l17,by rw [<-rp.length_eq];exact p1,by rw [<-rp.length_eq];exact p16⟩
 rw [<-rp.length_eq,<-D7.pn]
 exact rp.map _
inductive Br (K:PySem.W.Frag) (vs:List V) (H:Hp) (Q:VK) (E:XK):Prop where
 | mk:∀x,vs=[x]->(((∃z:Str,x=.str z/\z.length<=100/\∀H',aM H H'->Q (.bl (nameB z)) H')∨∃Tx,VG K H x Tx/\Tx∈gM/\Tx≠ "str" /\Q (.bl false) H))->Br K vs H Q E
theorem JL (T:Txt w K mg t):FO P w K mg base 1 t.Ey ["thing"] (Br K):=by
 have sc:=T.yP.sc ["thing"]
 refine T.yP.F.ok sc ln (λ_ _ _ _ H vs Q E hr h=>?_)
 obtain⟨x,rfl,h⟩:=h
 refine⟨_,(aA (bD (PW.pt (j7 (fP (gY (bj pF (by rfl) T.gK fX (aa (pv 0) (aa (uM (by rfl) T.xg qN) ao aj) aj)))) (jr (fP (mj lz lz au (bj bI (by rfl) T.dz cj (aa (pv 0) ao aj)) (jV (by rfl) T.Cg))))))
   (az (aY jA))
   bz)
  (az (aY (Cp (wM uB (aZ An (pv 0) au (λ_ _=>rfl)) (jV (by rfl) T.Ez) (by with_unfolding_all rfl)) (sU (bj (BR rfl) (by rfl) T.Qk Kz (aa (jX [] ["thing"] (bw (top 19)) rfl (Nv (pv 0)) (λ_ _ _ _ _=>ik) (λ_ _ _ _ _=>(Ti (wM uB (pv 0) (jV (by rfl) T.Ez) (by with_unfolding_all rfl)) (sU (wM uB (pv 0) (jV (by rfl) T.Ng) (by with_unfolding_all rfl)))))) ao jL))))))),?_⟩
 have hl:sizeLine=16777216:=sizeLine_eq
 rcases h with ⟨z,rfl,hz,k⟩ | ⟨Tx,ty,hm,hne,k⟩
 ·refine⟨_,rfl,.str z, "str", "str",true,rfl,rfl,by decide,by decide,_,rfl,bW ?_⟩
  refine⟨_,rfl,.str z,z.length,rfl,⟨by lia,rfl⟩,_,_,rfl,rfl,_,rfl,?_⟩
  cases e:z.cps.toList with
  | nil=>
   have h0:z.length=0:=by rw [<-iW,e];rfl
   rw [h0]
   refine bW ⟨_,rfl,bK ?_⟩
   have:=k H (aM.refl _)
   unfold nameB at this
   rw [e] at this
   exact this
  | cons c r=>
   have hlen:z.length=r.length+1:=by rw [<-iW,e];rfl
   refine Ad (by lia) ⟨_,_,rfl,rfl,_,rfl,dN (λh=>?_) (λh=>?_)⟩
   ·have h8:¬(z.length:Int)<=8:=by simpa using h
    have:=k H (aM.refl _)
    unfold nameB at this
    rw [e] at this
    simp only [show ¬r.length<=7 by lia,decide_false,Bool.false_and] at this
    exact this
   ·have h8:(z.length:Int)<=8:=by simpa using h
    have hc0:DW z.cps.toList 0=some c:=by rw [e];exact aH (xs:=c:: r) (j:=0) rfl
    refine⟨_,rfl,z,_,c,rfl,rfl,by lia,hc0,_,_,rfl,rfl,_,rfl,?_⟩
    have kk:∀H',aM H H'->Q (.bl (low c && z.cps.toList.all λd=>low d || rM d)) H':=λH' s'=>by
     have:=k H' s'
     unfold nameB at this
     rw [e] at this ⊢
     simp only [show r.length<=7 by lia,decide_true,Bool.true_and] at this
     exact this
    rw [N6]
    refine dN (λhc=>?_) (λhc=>?_)
    ·rw [hc,Bool.true_and] at kk
     refine⟨_,rfl,z,rfl,Jb (λi ys H'=>H'=H/\ys=((z.cps.toList.take i).map λd=>low d || rM d).map V.bl) (by simp only [Str.length] at hz;lia) ⟨rfl,by simp⟩ (λi ys H' ⟨_,e⟩=>by rw [e];simp only [lM,List.length_take];lia) ?_ ?_⟩
     ·rintro i d ys H' hd ⟨rfl,rfl⟩
      refine yes ⟨_,rfl,_,_,rfl,rfl,_,rfl,?_⟩
      have hd':z.cps.toList[i]?=some d:=by simpa using hd
      have next:∀b,b=(low d || rM d)->(((z.cps.toList.take i).map λd=>low d || rM d).map V.bl) ++ [V.bl b]=((z.cps.toList.take (i+1)).map λd=>low d || rM d).map V.bl:=λb hb=>by
       rw [List.take_add_one,hd',hb]
       simp
      rw [N6]
      refine dN (λhl'=>?_) (λhl'=>?_)
      ·exact⟨rfl,next true (by rw [hl'];rfl)⟩
      ·have hl2:low d=false:=by simpa using hl'
       refine⟨_,rfl,_,_,rfl,rfl,rfl,next _ ?_⟩
       rw [Qq,hl2,Bool.false_or]
     ·rintro ys H' ⟨rfl,rfl⟩ D hD
      refine⟨D,(z.cps.toList.take z.cps.size).map λd=>low d || rM d,rfl,bH.of aq,?_⟩
      have hall:((z.cps.toList.take z.cps.size).map λd=>low d || rM d).all id=z.cps.toList.all λd=>low d || rM d:=by
       rw [List.take_of_length_le (by simp),List.all_map]
       rfl
      rw [hall]
      exact kk _ (aC hD)
    ·have hc':low c=false:=by simpa using hc
     rw [hc',Bool.false_and] at kk
     exact kk H (aM.refl _)
 ·have hb:Du Tx "str" =false:=by
   simp only [gM,List.mem_cons,List.not_mem_nil,or_false] at hm
   rcases hm with rfl | rfl | rfl | rfl | rfl | rfl | rfl <;> first | decide | exact absurd rfl hne
  exact⟨_,rfl,x,Tx, "str",false,rfl,ty,by decide,hb,_,rfl,bK (bK k)⟩
inductive uq (K:PySem.W.Frag) (t:Af) (vs:List V) (H:Hp) (Q:VK) (E:XK):Prop where
 | mk:∀(a b:Addr) (xs ys:List V),vs=[.ref a,.ref b]->bH K H a xs->bH K H b ys->(((1<=xs.length/\xs.length<=24/\1<=ys.length/\ys.length<=16)->Q .non H))->((¬(1<=xs.length/\xs.length<=24/\1<=ys.length/\ys.length<=16)->E (.ref t.dw) none H))->uq K t vs H Q E
theorem Ca (T:Txt w K mg t):jd P w K mg base (oU P w) 1 t.oJ (fdOf K t.oJ) ["lanes", "parts"] (uq K t):=by
 have sc:=T.iu.sc ["lanes", "parts"]
 refine T.iu.F.ok2 sc ln (λ_ _ _ _ H vs Q E hr h=>?_)
 obtain⟨a,b,xs,ys,rfl,h1,h2,k,kE⟩:=h
 refine⟨_,(aA (bD (fP (mj lz lz au (bj bI (by rfl) T.dz cj (aa (pv 0) ao aj)) (jV (by rfl) T.Gb)))
   (az (Eu T.BK T.wy (by rfl) (aa aN ao ak)))
   bz)
  (az (bD (fP (mj lz lz au (bj bI (by rfl) T.dz cj (aa (pv 1) ao aj)) (jV (by rfl) T.Hs)))
   (az (Eu T.BK T.wy (by rfl) (aa aN ao ak)))
   bz))),?_⟩
 have hl:sizeLine=16777216:=sizeLine_eq
 refine⟨_,rfl,.ref a,xs.length,rfl,.inl ⟨_,h1,rfl⟩,_,_,rfl,rfl,_,rfl,?_⟩
 by_cases c1:1<=xs.length
 case neg=>
  rw [decide_eq_false (show ¬(1:Int)<=(xs.length:Int) by lia)]
  exact bW ⟨_,rfl,bK ⟨by show 1<=1000;decide,kE (by lia)⟩⟩
 rw [decide_eq_true (show(1:Int)<=(xs.length:Int) by lia)]
 refine bK ⟨_,_,rfl,rfl,_,rfl,?_⟩
 by_cases c2:xs.length<=24
 case neg=>
  rw [decide_eq_false (show ¬(xs.length:Int)<=24 by lia)]
  exact bK ⟨by show 1<=1000;decide,kE (by lia)⟩
 rw [decide_eq_true (show(xs.length:Int)<=24 by lia)]
 refine bW ?_
 refine⟨_,rfl,.ref b,ys.length,rfl,.inl ⟨_,h2,rfl⟩,_,_,rfl,rfl,_,rfl,?_⟩
 by_cases c3:1<=ys.length
 case neg=>
  rw [decide_eq_false (show ¬(1:Int)<=(ys.length:Int) by lia)]
  exact bW ⟨_,rfl,bK ⟨by show 1<=1000;decide,kE (by lia)⟩⟩
 rw [decide_eq_true (show(1:Int)<=(ys.length:Int) by lia)]
 refine bK ⟨_,_,rfl,rfl,_,rfl,?_⟩
 by_cases c4:ys.length<=16
 case neg=>
  rw [decide_eq_false (show ¬(ys.length:Int)<=16 by lia)]
  exact bK ⟨by show 1<=1000;decide,kE (by lia)⟩
 rw [decide_eq_true (show(ys.length:Int)<=16 by lia)]
 exact bW (k ⟨c1,c2,c3,c4⟩)
inductive vq (K:PySem.W.Frag) (t:Af) (vs:List V) (H:Hp) (Q:VK) (E:XK):Prop where
 | mk:∀(v:V) (d:Addr) (kvs:List (Key×V)),vs=[v,.ref d]->Hx v->H d=some (.dK kvs)->((freshD v kvs=none->∀H',aM H H'->Q .non H'))->Q5 t E H (freshD v kvs)->vq K t vs H Q E
theorem vA (T:Txt w K mg t):jd P w K mg base (oU P w) 3 t.pR (fdOf K t.pR) ["name", "known"] (vq K t):=by
 have sc:=T.eE.sc ["name", "known"]
 refine T.eE.F.ok2 sc ln (λ_ _ _ _ H vs Q E hr h=>?_)
 obtain⟨v,d,kvs,rfl,hT,hd,k,kE⟩:=h
 refine⟨_,(aA (bD (fP (gY (dF (JL T) T.yP hr (aa (pv 0) ao aj))))
   (az (fu T.Fy (uR T) (hr.mono (by decide)) (by rfl) T.Aq T.iQ.b fG (aa (pv 0) ao aj)))
   bz)
  (az (bD (jE (BJ hr.u1 (pv 0) (pv 1)))
   (az (fu T.Es (uX T) (hr.mono (by decide)) (by rfl) T.BP T.iT.b fG (aa (pv 0) ao aj)))
   bz))),?_⟩
 obtain⟨Tx,ty,hm,hs,_⟩:=hT.ty (K:=K) (H:=H)
 by_cases e:∃z,v=.str z
 ·obtain⟨z,rfl⟩:=e
  refine⟨_,rfl,.str z,rfl,.inl ⟨z,rfl,hT.2 z rfl,λH1 s1=>⟨_,rfl,?_⟩⟩⟩
  cases hz:nameB z with
  | false=>
   refine bK ?_
   refine⟨_,rfl,by show 1<=1000;decide,λy ny n0=>⟨y,_,rfl,aq,λdx' nd ne=>⟨rfl,y,dx',rfl,n0,by rw [aD ne.symm];exact aq,?_⟩⟩⟩
   have rz:=raised (fs:=[((tK 0:Str),V.str z)]) ny nd ne
   exact kE 0 _ (by unfold freshD;simp [hz]) dx' _ (s1.trans rz.1) rz.2
  | true=>
   refine bW ?_
   refine⟨_,rfl,_,rfl,d,_,rfl,iR.k (k:=Sum.inr z) (s1 _ _ hd),_,rfl,?_⟩
   cases hv:(bx kvs (Sum.inr z)).isSome with
   | true=>
    refine bK ?_
    refine⟨_,rfl,by show 1<=1000;decide,λy ny n0=>⟨y,_,rfl,aq,λdx' nd ne=>⟨rfl,y,dx',rfl,n0,by rw [aD ne.symm];exact aq,?_⟩⟩⟩
    have rz:=raised (fs:=[((tK 1:Str),V.str z)]) ny nd ne
    exact kE 1 _ (by unfold freshD;simp only [hz,hv,if_true]) dx' _ (s1.trans rz.1) rz.2
   | false=>exact bW (k (by unfold freshD;simp [hz,hv]) _ s1)
 ·have du:freshD v kvs=some (0,v):=by
   unfold freshD
   cases v with
   | str z=>exact absurd ⟨z,rfl⟩ e
   | _=>rfl
  refine⟨_,rfl,v,rfl,.inr ⟨Tx,ty,hm,λz=>e (hs.mp z),_,rfl,bK ?_⟩⟩
  refine⟨_,rfl,by show 1<=1000;decide,λy ny n0=>⟨y,_,rfl,aq,λdx' nd ne=>⟨rfl,y,dx',rfl,n0,by rw [aD ne.symm];exact aq,?_⟩⟩⟩
  have rz:=raised (fs:=[((tK 0:Str),v)]) ny nd ne
  exact kE 0 _ du dx' _ (rz.1) rz.2
inductive xj (K:PySem.W.Frag) (t:Af) (vs:List V) (H:Hp) (Q:VK) (E:XK):Prop where
 | mk:∀(nm rm:V) (f:Addr) (xs:List V),vs=[nm,rm,.ref f]->Hx rm->uG K H f xs->xs.length<=1000->((∀v∈xs,Hx v))->((iY nm rm xs=none->∀H',aM H H'->Q .non H'))->Q5 t E H (iY nm rm xs)->xj K t vs H Q E
theorem Gp (T:Txt w K mg t):jd P w K mg base (oU P w) 3 t.tU (fdOf K t.tU) ["name", "room", "first"] (xj K t):=by
 have sc:=T.jY.sc ["name", "room", "first"]
 refine T.jY.F.ok2 sc ln (λ_ _ _ _ H vs Q E hr h=>?_)
 obtain⟨nm,rm,f,xs,rfl,hT,hL,hx,hV,k,kE⟩:=h
 refine⟨_,(aA (bD (PW.pt (j7 (fP (gY (dF (zF T) T.p7 hr (aa (pv 1) ao aj)))) (jr (fP (mj lz lz (bj (Fd rfl) (by rfl) T.Ul Om (aa au (aa (bj bI (by rfl) T.dz cj (aa (pv 2) ao aj)) ao bc) ak)) (pv 1) (jV (by rfl) T.Jm))))))
   (az (fu T.Fi (uV T) (hr.mono (by decide)) (by rfl) T.Ci T.iK.b fG (aa (pv 0) ao aj)))
   bz)
  (az (bD (fP (gY (bj (BR rfl) (by rfl) T.Qk Kz (aa (jX [] ["name", "room", "first"] (bw (top 44)) rfl (S7 (dB (pv 2)) (JH (pv 2))) (λ_ _ _ _ _=>ik) (λ_ _ _ _ _=>(dF (zN T) T.qK hr (aa (pv 0) ao aj)))) ao jL))))
   (az (fu T.qe (jq T) (hr.mono (by decide)) (by rfl) T.oG T.dW.b fG (aa (pv 0) ao aj)))
   bz))),?_⟩
 have hl:sizeLine=16777216:=sizeLine_eq
 obtain⟨Tx,ty,hm,_,hi⟩:=hT.ty (K:=K) (H:=H)
 by_cases e:∃r,rm=.int r
 case neg=>
  have du:iY nm rm xs=some (2,nm):=by
   have:u0 rm xs.length=false:=by
    unfold u0
    cases rm with
    | int r=>exact absurd ⟨r,rfl⟩ e
    | _=>rfl
   unfold iY
   rw [this]
   rfl
  refine⟨_,rfl,rm,Tx,false,rfl,ty,hm,decide_eq_false λz=>e (hi.mp z),_,rfl,bK ?_⟩
  refine⟨_,rfl,by show 1<=1000;decide,λy ny n0=>⟨y,_,rfl,aq,λdx' nd ne=>⟨rfl,y,dx',rfl,n0,by rw [aD ne.symm];exact aq,?_⟩⟩⟩
  have rz:=raised (fs:=[((tK 2:Str),nm)]) ny nd ne
  exact kE 2 _ du dx' _ (rz.1) rz.2
 obtain⟨r,rfl⟩:=e
 have bad:u0 (.int r) xs.length=false->iY nm (.int r) xs=some (2,nm):=λz=>by unfold iY;rw [z];rfl
 refine⟨_,rfl,.int r, "int",true,rfl,rfl,by decide,by decide,true,rfl,bW ?_⟩
 refine⟨_,rfl,.ref f,xs.length,rfl,hL.len,_,_,rfl,_,rfl,_,_,rfl,rfl,_,rfl,?_⟩
 by_cases h1:(if (xs.length:Int) >1 then(xs.length:Int) else 1)<=r
 case neg=>
  rw [decide_eq_false h1]
  refine bW ⟨_,rfl,bK ?_⟩
  refine⟨_,rfl,by show 1<=1000;decide,λy ny n0=>⟨y,_,rfl,aq,λdx' nd ne=>⟨rfl,y,dx',rfl,n0,by rw [aD ne.symm];exact aq,?_⟩⟩⟩
  have rz:=raised (fs:=[((tK 2:Str),nm)]) ny nd ne
  exact kE 2 _ (bad (by show(decide _ && _)=false;rw [decide_eq_false h1];rfl)) dx' _ (rz.1) rz.2
 rw [decide_eq_true h1]
 refine bK ⟨_,_,rfl,rfl,_,rfl,?_⟩
 by_cases h2:r<=199
 case neg=>
  rw [decide_eq_false h2]
  refine bK ?_
  refine⟨_,rfl,by show 1<=1000;decide,λy ny n0=>⟨y,_,rfl,aq,λdx' nd ne=>⟨rfl,y,dx',rfl,n0,by rw [aD ne.symm];exact aq,?_⟩⟩⟩
  have rz:=raised (fs:=[((tK 2:Str),nm)]) ny nd ne
  exact kE 2 _ (bad (by show(_ && decide (r<=199))=false;rw [decide_eq_false h2,Bool.and_false])) dx' _ (rz.1) rz.2
 rw [decide_eq_true h2]
 refine bW ?_
 have g:u0 (.int r) xs.length=true:=by show(decide _ && decide (r<=199))=true;rw [decide_eq_true h1,decide_eq_true h2];rfl
 refine Pn (a:=f) (xs:=xs) ?_ hL (λj ys=>ys=((xs.take j).map dZ).map V.bl) (by lia) rfl (λj ys e=>by rw [e];simp;lia) (λj x ys hx e=>?_) (λys e D hD=>?_)
 ·exact λR r=>⟨_,rfl,r⟩
 ·subst e
  refine yes ⟨_,rfl,x,rfl,Vx (Q:=λv H5=>H5=H/\((xs.take j).map dZ).map V.bl ++ [v]=((xs.take (j+1)).map dZ).map V.bl) (hV x (List.mem_of_getElem? hx)) ⟨rfl,?_⟩⟩
  rw [List.take_succ,hx]
  simp
 ·subst e
  rw [List.take_length] at *
  refine⟨D,_,rfl,bH.of aq,_,rfl,?_⟩
  refine Hh hD λH1 s1 _=>?_
  rw [show(xs.map dZ).all id=xs.all dZ by rw [List.all_map];rfl]
  cases hv:xs.all dZ with
  | true=>exact bW (k (by unfold iY;rw [g,hv];rfl) _ s1)
  | false=>
   refine bK ?_
   refine⟨_,rfl,by show 1<=1000;decide,λy ny n0=>⟨y,_,rfl,aq,λdx' nd ne=>⟨rfl,y,dx',rfl,n0,by rw [aD ne.symm];exact aq,?_⟩⟩⟩
   have rz:=raised (fs:=[((tK 3:Str),nm)]) ny nd ne
   exact kE 3 _ (by unfold iY;rw [g,hv];rfl) dx' _ (s1.trans rz.1) rz.2
noncomputable def Yz (t:Af) (E:XK) (H:Hp) (z:Str) (nm:V) (ns is os:List V) (kvs:List (Key×V)) (ok:Nat->Prop):Prop:=(rowOf ROWS z=none/\Q5 t E H (some (4,.str z)))∨∃i,i<=10/\z=cu i/\Q5 t E H (freshD nm kvs)/\(freshD nm kvs=none->(oV i nm ns is os=none->ok i)/\Q5 t E H (oV i nm ns is os))
inductive vz (K:PySem.W.Frag) (t:Af) (vs:List V) (H:Hp) (Q:VK) (E:XK):Prop where
 | mk:∀(z:Str) (nm:V) (r d a1 a2 a3:Addr) (ns is os:List V) (kvs:List (Key×V)),vs=[.ref r,.ref d]->H r=some (.tup [.str z,nm,.ref a1,.ref a2,.ref a3])->H d=some (.dK kvs)->Hx nm->uG K H a1 ns->uG K H a2 is->uG K H a3 os->((∀v∈ns,Hx v))->ns.length<=1000->(Yz t E H z nm ns is os kvs (λi=>∀H' p,aM H H'->H p=none->iM K t H' p i nm ns is os->Q (.ref p) H'))->vz K t vs H Q E
theorem DN (T:Txt w K mg t):jd P w K mg base (oU P w) 5 t.qM (fdOf K t.qM) ["row", "known"] (vz K t):=by
 have sc:=T.je.sc ["row", "known"]
 refine T.je.F.ok2 sc ln (λ_ _ _ _ H vs Q E hr h=>?_)
 obtain⟨z,nm,r,d,a1,a2,a3,ns,is,os,kvs,rfl,hr1,hd,hT,q1,q2,q3,hN,hz,F⟩:=h
 refine⟨_,(aA (bD (fP (gY (dF (Bs T) T.uA hr (aa (aZ dM (pv 0) au (λ_ _=>rfl)) ao aF))))
   (az (fu T.Bw (mz T) (hr.mono (by decide)) (by rfl) T.yQ T.gf.b fG (aa (aZ dM (pv 0) au (λ_ _=>rfl)) ao aF)))
   bz)
  (aA (aV (iD (vA T) (hr.mono (by decide)) (by rfl) T.eE.m T.eE.F.kp T.eE.b .nil (uz λ_ _ _ h=>h) (aa (aZ dM (pv 0) au (λ_ _=>rfl)) (aa (pv 1) ao aj) aF)))
  (az (aY (iD (Ge T) (hr.mono (by decide)) (by rfl) T.m6.m T.m6.F.kp T.m6.b .nil (uz λ_ _ _ h=>h) (aa (aZ dM (pv 0) au (λ_ _=>rfl)) (aa (aZ dM (pv 0) au (λ_ _=>rfl)) (aa (aZ dM (pv 0) au (λ_ _=>rfl)) (aa (aZ dM (pv 0) au (λ_ _=>rfl)) (aa (aZ dM (pv 0) au (λ_ _=>rfl)) ao aF) aF) aF) aF) aF)))))),?_⟩
 rcases F with ⟨hk,kE⟩ | ⟨i,hi,rfl,kE,k⟩
 ·refine⟨_,rfl,r,_,0,_,rfl,rfl,d7.of hr1,aH (j:=0) rfl,z,rfl,?_⟩
  rw [hk]
  refine⟨_,rfl,bK ⟨_,rfl,r,_,0,_,rfl,rfl,d7.of hr1,aH (j:=0) rfl,?_⟩⟩
  refine⟨by show 1<=1000;decide,λy ny n0=>⟨y,_,rfl,aq,λdx' nd ne=>⟨rfl,y,dx',rfl,n0,by rw [aD ne.symm];exact aq,?_⟩⟩⟩
  have rz:=raised (fs:=[((tK 4:Str),V.str z)]) ny nd ne
  exact kE 4 _ rfl dx' _ rz.1 rz.2
 ·refine⟨_,rfl,r,_,0,_,rfl,rfl,d7.of hr1,aH (j:=0) rfl,cu i,rfl,?_⟩
  rw [row_of]
  refine⟨_,rfl,bW ?_⟩
  refine⟨_,rfl,r,_,1,_,rfl,rfl,d7.of hr1,aH (j:=1) rfl,_,rfl,nm,d,kvs,rfl,hT,hd,λe H1 s1=>?_,kE⟩
  obtain⟨kg,kF⟩:=k e
  have e1:=d7.of (K:=K) (s1 _ _ hr1)
  exact⟨_,rfl,r,_,0,_,rfl,rfl,e1,aH (j:=0) rfl,_,rfl,r,_,1,_,rfl,rfl,e1,aH (j:=1) rfl,_,rfl,r,_,2,_,rfl,rfl,e1,aH (j:=2) rfl,_,rfl,r,_,3,_,rfl,rfl,e1,aH (j:=3) rfl,_,rfl,r,_,4,_,rfl,rfl,e1,aH (j:=4) rfl,cu i,nm,a1,a2,a3,ns,is,os,rfl,s1.seqA q1,s1.seqA q2,s1.seqA q3,hN,hz,.inr ⟨i,hi,rfl,λe2 H2 p s2 np P=>kg e2 _ p (s1.trans s2) (s1.free np) P,kF.same s1⟩⟩
noncomputable def ou (rk kvs:List (Key×V)) (k:Option Key):Bool:=match k with
 | none=>false
 | some k=>(bx rk k).isSome && !(bx kvs k).isSome
noncomputable def cH (rk:List (Key×V)) (y:V):List (Key×V)->List (Option Key)->List (Key×V)×Bool
 | kvs,[]=>(kvs,true)
 | kvs,none:: _=>(kvs,false)
 | kvs,some k:: ks=>if ou rk kvs (some k)=true then cH rk y (kvs ++ [(k,y)]) ks else(kvs,false)
theorem yW {rk:List (Key×V)} {y:V}:∀{ks:List (Option Key)} {kvs kv1:List (Key×V)} {k:Option Key},cH rk y kvs ks=(kv1,true)->cH rk y kvs (ks ++ [k])=cH rk y kv1 [k]
 | [],kvs,kv1,k,h=>by cases h;rfl
 | none:: ks,kvs,kv1,k,h=>by cases h
 | some k0:: ks,kvs,kv1,k,h=>by
  have h:(if ou rk kvs (some k0)=true then cH rk y (kvs ++ [(k0,y)]) ks else(kvs,false))=(kv1,true):=h
  show(if ou rk kvs (some k0)=true then cH rk y (kvs ++ [(k0,y)]) (ks ++ [k]) else(kvs,false))=_
  by_cases hf:ou rk kvs (some k0)=true
  ·rw [if_pos hf] at h ⊢
   exact yW h
  ·rw [if_neg hf] at h
   cases h
theorem yO {rk:List (Key×V)} {y:V}:∀{ks:List (Option Key)} {kvs kv1:List (Key×V)} {ks2:List (Option Key)},cH rk y kvs ks=(kv1,false)->cH rk y kvs (ks ++ ks2)=(kv1,false)
 | [],kvs,kv1,ks2,h=>by cases h
 | none:: ks,kvs,kv1,ks2,h=>h
 | some k0:: ks,kvs,kv1,ks2,h=>by
  have h:(if ou rk kvs (some k0)=true then cH rk y (kvs ++ [(k0,y)]) ks else(kvs,false))=(kv1,false):=h
  show(if ou rk kvs (some k0)=true then cH rk y (kvs ++ [(k0,y)]) (ks ++ ks2) else(kvs,false))=_
  by_cases hf:ou rk kvs (some k0)=true
  ·rw [if_pos hf] at h ⊢
   exact yO h
  ·rw [if_neg hf] at h ⊢
   exact h
theorem Ja {rk:List (Key×V)} {y:V}:∀(ks:List (Option Key)) (kvs:List (Key×V)),(cH rk y kvs ks).1.length<=kvs.length+ks.length
 | [],kvs=>Nat.le_refl _
 | none:: ks,kvs=>Nat.le_add_right _ _
 | some k0:: ks,kvs=>by
  unfold cH
  split
  ·have:=Ja (rk:=rk) (y:=y) ks (kvs ++ [(k0,y)])
   rw [lP,List.length_singleton] at this
   rw [List.length_cons]
   lia
  ·exact Nat.le_add_right _ _
inductive xH (K:PySem.W.Frag) (t:Af) (vs:List V) (H:Hp) (Q:VK) (E:XK):Prop where
 | mk:∀(y:V) (a rd d:Addr) (zs:List (Option Key)) (rk kvs:List (Key×V)),vs=[y,.ref a,.ref rd,.ref d]->d7 K H a (zs.map kO)->H rd=some (.dK rk)->rd≠d->H d=some (.dK kvs)->kvs.length+zs.length<=1000->(((cH rk y kvs zs).2=true->Q .non (upd H d (.dK (cH rk y kvs zs).1))))->(((cH rk y kvs zs).2=false->∀dx H',iI d H H'->H' dx=some (.xd [("name",y)])->E (.ref t.bZ) (some dx) H'))->xH K t vs H Q E
theorem xY (T:Txt w K mg t):jd P w K mg base (oU P w) 3 t.rO (fdOf K t.rO) ["part", "lanes", "rooms", "ends"] (xH K t):=by
 have sc:=T.fD.sc ["part", "lanes", "rooms", "ends", "lane"]
 refine T.fD.F.ok2 sc ln (λ_ _ _ _ H vs Q E hr h=>?_)
 obtain⟨y,a,rd,d,zs,rk,kvs,rfl,hT,hrd,hne,hd,hlen,k,kE⟩:=h
 refine⟨_,(az (fM PassesOwn.leaving rfl (JH (pv 1)) (gN sc 4)
   (aA (bD (PW.pt (j7 (jE (Cr hr.u1 (pv 4) (pv 2))) (jr (jE (BJ hr.u1 (pv 4) (pv 3))))))
    (az (fu T.wj (jZ T) (hr.mono (by decide)) (by rfl) T.uw T.eU.b fG (aa (pv 0) ao aj)))
    bz)
   (az (qx hr.u1 (pv 3) (pv 4) (pv 0) rfl))))),?_⟩
 have hl:sizeLine=16777216:=sizeLine_eq
 refine⟨_,rfl,a,rfl,⟨_,hT⟩,Rc (K:=K) (a:=a) (xs:=zs.map kO) (λj σ H'=>∃kv1,cH rk y kvs (zs.take j)=(kv1,true)/\H'=upd H d (.dK kv1)/\∃v4,σ=[some y,some (.ref a),some (.ref rd),some (.ref d),v4]) ⟨kvs,rfl,by rw [Gy hd],none,rfl⟩ (λj σ H' _ ⟨kv1,_,e,_⟩=>by rw [e];exact eQ hd hT) ?_ ?_⟩
 ·rintro j x σ H' hx ⟨kv1,ht,rfl,v4,rfl⟩
  rw [List.getElem?_map] at hx
  obtain⟨z,hzj,rfl⟩:=Option.map_eq_some_iff.mp hx
  have hj:j <zs.length:=(List.getElem?_eq_some_iff.mp hzj).1
  have hr1:upd H d (.dK kv1) rd=some (.dK rk):=by rw [aD hne];exact hrd
  have tk:zs.take (j+1)=zs.take j ++ [z]:=by rw [List.take_succ,hzj];rfl
  have sn:cH rk y kvs (zs.take (j+1))=cH rk y kv1 [z]:=by rw [tk];exact yW ht
  have bad:ou rk kv1 z=false->(cH rk y kvs zs).2=false:=λhf=>by
   have e:cH rk y kv1 [z]=(kv1,false):=by
    cases z with
    | none=>rfl
    | some kz=>unfold cH;rw [hf];rfl
   rw [<-List.take_append_drop (j+1) zs,yO (sn.trans e)]
  cases z with
  | none=>
   refine⟨_,rfl,_,rfl,.non rd rk rfl rfl (.inl hr1) ⟨_,rfl,bK ?_⟩⟩
   refine⟨_,rfl,by show 1<=1000;decide,λyy ny n0=>⟨yy,_,rfl,aq,λdx' nd ne=>⟨rfl,yy,dx',rfl,n0,by rw [aD ne.symm];exact aq,?_⟩⟩⟩
   have rz:=raised (fs:=[(("name" :Str),y)]) ny nd ne
   exact kE (bad rfl) dx' _ (λb u hn e=>rz.1 _ _ (by rw [aD hn];exact e)) rz.2
  | some kz=>
   refine⟨_,rfl,_,rfl,.key rd _ rfl (iR.k (k:=kz) hr1) ⟨_,rfl,?_⟩⟩
   cases h1:(bx rk kz).isSome with
   | false=>
    refine bK ?_
    refine⟨_,rfl,by show 1<=1000;decide,λyy ny n0=>⟨yy,_,rfl,aq,λdx' nd ne=>⟨rfl,yy,dx',rfl,n0,by rw [aD ne.symm];exact aq,?_⟩⟩⟩
    have rz:=raised (fs:=[(("name" :Str),y)]) ny nd ne
    exact kE (bad (by show((bx rk kz).isSome && _)=false;rw [h1];rfl)) dx' _ (λb u hn e=>rz.1 _ _ (by rw [aD hn];exact e)) rz.2
   | true=>
    refine bW ⟨_,rfl,_,rfl,d,_,rfl,iR.k (k:=kz) aq,_,rfl,?_⟩
    cases h2:(bx kv1 kz).isSome with
    | true=>
     refine bK ?_
     refine⟨_,rfl,by show 1<=1000;decide,λyy ny n0=>⟨yy,_,rfl,aq,λdx' nd ne=>⟨rfl,yy,dx',rfl,n0,by rw [aD ne.symm];exact aq,?_⟩⟩⟩
     have rz:=raised (fs:=[(("name" :Str),y)]) ny nd ne
     exact kE (bad (by show(_ && !(bx kv1 kz).isSome)=false;rw [h2,Bool.not_true,Bool.and_false])) dx' _ (λb u hn e=>rz.1 _ _ (by rw [aD hn];exact e)) rz.2
    | false=>
     have lk:=Ja (rk:=rk) (y:=y) (zs.take j) kvs
     rw [ht,List.length_take] at lk
     have lk:kv1.length<=kvs.length+min j zs.length:=lk
     refine bW ⟨_,rfl,_,rfl,_,rfl,d,_,rfl,Bu.k (k:=kz) aq (by lia),?_⟩
     rw [uE,sI _ (by simpa using h2)]
     refine⟨kv1 ++ [(kz,y)],?_,rfl,_,rfl⟩
     rw [sn]
     unfold cH
     rw [if_pos (by show((bx rk kz).isSome && !(bx kv1 kz).isSome)=true;rw [h1,h2];rfl)]
     rfl
 ·rintro σ H' ⟨kv1,ht,rfl,v4,rfl⟩
  rw [lM,List.take_length] at ht
  rw [ht] at k
  exact k rfl
noncomputable def rn (rk gk tk:List (Key×V)):Option (Key×V):=rk.find? λq=>!(bx gk q.1).isSome || !(bx tk q.1).isSome
theorem rR {α:Type} {c:α->Bool} {xs:List α} {j:Nat} {y:α} (h:(xs.take j).find? c=none) (hy:xs[j]?=some y) (hc:c y=true):xs.find? c=some y:=by
 have e:(xs.take (j+1)).find? c=some y:=by
  rw [List.take_succ,hy,List.find?_append,h]
  show List.find? c [y]=some y
  rw [List.find?_cons_of_pos hc]
 rw [<-List.take_append_drop (j+1) xs,List.find?_append,e]
 rfl
theorem Ah {α:Type} {c:α->Bool} {xs:List α} {j:Nat} {y:α} (h:(xs.take j).find? c=none) (hy:xs[j]?=some y) (hc:c y=false):(xs.take (j+1)).find? c=none:=by
 rw [List.take_succ,hy,List.find?_append,h]
 show List.find? c [y]=none
 rw [List.find?_cons_of_neg (by rw [hc];simp)]
 rfl
inductive wH (K:PySem.W.Frag) (t:Af) (vs:List V) (H:Hp) (Q:VK) (E:XK):Prop where
 | mk:∀(r g d:Addr) (rk gk tk:List (Key×V)),vs=[.ref r,.ref g,.ref d]->H r=some (.dK rk)->H g=some (.dK gk)->H d=some (.dK tk)->r≠g->r≠d->((rn rk gk tk=none->Q .non H))->(∀q,rn rk gk tk=some q->∀dx H',iI r H H'->H' dx=some (.xd [("name",kV q.1)])->E (.ref t.fY) (some dx) H')->wH K t vs H Q E
theorem GK (T:Txt w K mg t):jd P w K mg base (oU P w) 3 t.tQ (fdOf K t.tQ) ["rooms", "givers", "takers"] (wH K t):=by
 have sc:=T.jW.sc ["rooms", "givers", "takers", "lane"]
 refine T.jW.F.ok2 sc ln (λ_ _ _ _ H vs Q E hr h=>?_)
 obtain⟨r,g,d,rk,gk,tk,rfl,h1,h2,h3,n1,n2,k,kE⟩:=h
 refine⟨_,(az (o9 (H0:=H) rfl (fM PassesOwn.leaving rfl (xq (pv 0)) (gN sc 3)
   (az (bD (PW.pt (j7 (jE (yE hr.u1 (pv 3) (pv 1))) (jr (jE (yE hr.u1 (pv 3) (pv 2))))))
    (az (fu T.Qj (yG T) (hr.mono (by decide)) (by rfl) T.Li T.kI.b fG (aa (pv 3) ao aj)))
    bz))))),?_⟩
 refine⟨_,rfl,r,_,rfl,h1,λo=>Ar (λj σ H'=>H'=upd H r (.frz o (.dK rk))/\rn (rk.take j) gk tk=none/\∃v3,σ=[some (.ref r),some (.ref g),some (.ref d),v3]) ⟨rfl,rfl,none,rfl⟩ (λj σ H' _ ⟨e,_⟩=>by rw [e];exact aq) ?_ ?_⟩
 ·rintro j kk w σ H' hj ⟨rfl,hf,v3,rfl⟩
  have e2:upd H r (.frz o (.dK rk)) g=some (.dK gk):=by rw [aD (Ne.symm n1)];exact h2
  have e3:upd H r (.frz o (.dK rk)) d=some (.dK tk):=by rw [aD (Ne.symm n2)];exact h3
  refine⟨_,rfl,_,rfl,g,_,rfl,iR.k (k:=kk) e2,_,rfl,?_⟩
  cases c1:(bx gk kk).isSome with
  | false=>
   refine bK ?_
   refine⟨_,rfl,by show 1<=1000;decide,λyy ny n0=>⟨yy,_,rfl,aq,λdx' nd ne=>⟨rfl,yy,dx',rfl,n0,by rw [aD ne.symm];exact aq,?_⟩⟩⟩
   have rz:=raised (fs:=[(("name" :Str),kV kk)]) ny nd ne
   exact kE _ (rR hf hj (by show(!(bx gk kk).isSome || !(bx tk kk).isSome)=true;rw [c1];simp)) dx' _ (λb u hn e=>rz.1 _ _ (by rw [aD hn];exact e)) rz.2
  | true=>
   refine bW ⟨_,rfl,_,rfl,d,_,rfl,iR.k (k:=kk) e3,_,rfl,?_⟩
   cases c2:(bx tk kk).isSome with
   | false=>
    refine bK ?_
    refine⟨_,rfl,by show 1<=1000;decide,λyy ny n0=>⟨yy,_,rfl,aq,λdx' nd ne=>⟨rfl,yy,dx',rfl,n0,by rw [aD ne.symm];exact aq,?_⟩⟩⟩
    have rz:=raised (fs:=[(("name" :Str),kV kk)]) ny nd ne
    exact kE _ (rR hf hj (by show(!(bx gk kk).isSome || !(bx tk kk).isSome)=true;rw [c2];simp)) dx' _ (λb u hn e=>rz.1 _ _ (by rw [aD hn];exact e)) rz.2
   | true=>exact bW ⟨rfl,Ah hf hj (by show(!(bx gk kk).isSome || !(bx tk kk).isSome)=false;rw [c1,c2];rfl),_,rfl⟩
 ·rintro σ H' ⟨rfl,hf,v3,rfl⟩
  rw [List.take_length] at hf
  refine⟨_,⟨r,o,_,aq,?_,rfl⟩,?_⟩
  ·intro o' u' z
   rw [show H r=_ from h1] at z
   cases z
  ·rw [uE,Gy h1]
   exact k hf
noncomputable def PP (H:Hp) (J:Addr):List (Key×V):=match H J with
 | some (.dK jk)=>jk
 | _=>[]
theorem K8 {H:Hp} {J:Addr} {jk:List (Key×V)} (h:H J=some (.dK jk)):PP H J=jk:=by
 unfold PP
 rw [h]
theorem Hy {f:PD->List Str} {ps:List PD} {j:Nat} {k:Key} {v:V} (h:(bC f ps)[j]?=some (k,v)):∃p∈ps,∃l∈f p,k=Sum.inr l/\v=.str p.name:=by
 have:=List.mem_of_getElem? h
 unfold bC at this
 obtain⟨p,hp,hm⟩:=List.mem_flatMap.mp this
 obtain⟨l,hl,e⟩:=List.mem_map.mp hm
 cases e
 exact⟨p,hp,l,hl,rfl,rfl⟩
noncomputable def Og (ps:List PD) (jk:List (Key×V)) (j:Nat):Prop:=∀i k v,i <j->(bC (·.outs) ps)[i]?=some (k,v)->∀a∈ps,∀b∈ps,∀l,k=Sum.inr l->l∈a.outs->l∈b.ins->dJ jk a.name=dJ jk b.name
theorem Og.all {ps:List PD} {jk:List (Key×V)} (h:Og ps jk (bC (·.outs) ps).length):∀a∈ps,∀b∈ps,∀l,l∈a.outs->l∈b.ins->dJ jk a.name=dJ jk b.name:=λa ha b hb l la lb=>by
 have hm:((Sum.inr l:Key),V.str a.name)∈bC (·.outs) ps:=List.mem_flatMap.mpr ⟨a,ha,List.mem_map.mpr ⟨l,la,rfl⟩⟩
 obtain⟨i,hi,ei⟩:=List.mem_iff_getElem.mp hm
 exact h i _ _ hi (by rw [List.getElem?_eq_getElem hi,ei]) a ha b hb l rfl la lb
theorem Ny {z x:Str} (h:dJ [((Sum.inr z:Key),V.bl true)] x=true):x=z:=by
 rw [show [((Sum.inr z:Key),V.bl true)]=putK [] (Sum.inr z) (.bl true) from rfl,Bt,Bool.or_eq_true] at h
 rcases h with h | h
 ·exact of_decide_eq_true h
 ·cases h
inductive Cn (ps:List PD) (z:Str):Str->Prop
 | refl:Cn ps z z
 | step {a b:PD} {l:Str}:a∈ps->b∈ps->l∈a.outs->l∈b.ins->Cn ps z a.name->Cn ps z b.name
 | back {a b:PD} {l:Str}:a∈ps->b∈ps->l∈a.outs->l∈b.ins->Cn ps z b.name->Cn ps z a.name
theorem Cn.closed {ps:List PD} {z x:Str} {jk:List (Key×V)} (h:Cn ps z x) (hE:∀a∈ps,∀b∈ps,∀l,l∈a.outs->l∈b.ins->dJ jk a.name=dJ jk b.name) (hz:dJ jk z=true):dJ jk x=true:=by
 induction h with
 | refl=>exact hz
 | step ha hb la lb _ ih=>rw [<-hE _ ha _ hb _ la lb];exact ih
 | back ha hb la lb _ ih=>rw [hE _ ha _ hb _ la lb];exact ih
inductive tM (K:PySem.W.Frag) (vs:List V) (H:Hp) (Q:VK) (E:XK):Prop where
 | mk:∀(p0:PD) (g d:Addr) (ps:List PD),vs=[.str p0.name,.ref g,.ref d]->p0∈ps->ps.length<=16->H g=some (.dK (bC (·.outs) ps))->H d=some (.dK (bC (·.ins) ps))->g≠d->(ps.flatMap (·.outs)).Nodup->(ps.flatMap (·.ins)).Nodup->(ps.flatMap (·.outs)).Perm (ps.flatMap (·.ins))->(∀H' J jk,aM H H'->H' J=some (.dK jk)->(∀x,dJ jk x=true↔Cn ps p0.name x)->Q (.ref J) H')->tM K vs H Q E
theorem Av (T:Txt w K mg t):FO P w K mg base 1 t.vm ["part", "givers", "takers"] (tM K):=by
 have sc:=T.oK.sc ["part", "givers", "takers", "joined", "grown", "lane"]
 refine T.oK.F.ok sc ln (λ_ _ _ _ H vs Q E hr h=>?_)
 obtain⟨p0,g,d,ps,rfl,hp0,hps,h1,h2,n1,no,ni,pm,k⟩:=h
 refine⟨_,(aA (sN sc 3 (RN (Nu (pv 0) jA RQ) rfl rfl (by simp) (by decide)))
  (aA (sN sc 4 jA)
  (aA (HF PassesOwn.never (gY (pv 4))
   (aA (sN sc 4 jA)
   (az (o9 (H0:=H) rfl (fM PassesOwn.never rfl (xq (pv 1)) (gN sc 5)
    (az (bM (bD (aJ Ax (GD (BJ hr.u1 (jN hr.u1 (pv 1) (pv 5) (λ_ _=>rfl)) (pv 3))) (GD (BJ hr.u1 (jN hr.u1 (pv 2) (pv 5) (λ_ _=>rfl)) (pv 3))) (bu _))
     (aA (qx hr.u1 (pv 3) (jN hr.u1 (pv 1) (pv 5) (λ_ _=>rfl)) jA rfl)
     (aA (qx hr.u1 (pv 3) (jN hr.u1 (pv 2) (pv 5) (λ_ _=>rfl)) jA rfl)
     (az (sN sc 4 jA))))
     bz))))))))
  (az (aY (pv 3)))))),?_⟩
 have hl:sizeLine=16777216:=sizeLine_eq
 refine λJ nJ=>⟨_,rfl,aq,[((Sum.inr p0.name:Key),V.bl true)],rfl,by show 1<=15;decide,?_⟩
 rw [uE]
 have s0:aM H (upd H J (.dK (sW [] [((Sum.inr p0.name:Key),V.bl true)]))):=aC nJ
 have e0:(upd H J (.dK (sW [] [((Sum.inr p0.name:Key),V.bl true)]))) J=some (.dK [((Sum.inr p0.name:Key),V.bl true)]):=aq
 generalize upd H J (.dK (sW [] [((Sum.inr p0.name:Key),V.bl true)]))=H0 at s0 e0 ⊢
 have ngJ:J≠g:=Ne.symm (aB h1 nJ)
 have ndJ:J≠d:=Ne.symm (aB h2 nJ)
 have melt:∀{H':Hp} {o:Obj},iI g H H'->H' g=some (.frz o (.dK (bC (·.outs) ps)))->aM H (upd H' g (.dK (bC (·.outs) ps))):=λhb hg b u e=>by
  by_cases h:b=g
  ·subst h;rw [aq];rw [h1] at e;exact e
  ·rw [aD h];exact hb b u h e
 have m0:lX ps [((Sum.inr p0.name:Key),V.bl true)]<=16:=Nat.le_trans (List.length_filter_le _ _) hps
 refine Jg (λσ H'=>aM H H'/\∃b v5 jk,σ=[some (.str p0.name),some (.ref g),some (.ref d),some (.ref J),some (.bl b),v5]/\H' J=some (.dK jk)/\(dJ jk p0.name=true/\∀x,dJ jk x=true->Cn ps p0.name x)/\jk.length+2 * lX ps jk<=40/\(b=false->Og ps jk (bC (·.outs) ps).length))
  (λσ H'=>match σ with | [_,_,_,_,some (.bl b),_]=>(if b then 1 else 0)+2 * lX ps (PP H' J) | _=>0) ⟨s0,true,none,_,rfl,e0,⟨by simp [dJ,bx],λx hx=>by rw [Ny hx];exact .refl⟩,by rw [List.length_singleton];lia,by intro z;cases z⟩ ?_ ?_
 ·rintro σ H1 ⟨s1,b,v5,jk,rfl,hJ,hp,hlen,hev⟩
  cases b with
  | false=>exact⟨_,rfl,_,rfl,bW ⟨_,rfl,k _ J jk s1 hJ (λx=>⟨hp.2 x,λc=>c.closed (hev rfl).all hp.1⟩)⟩⟩
  | true=>
   refine⟨_,rfl,_,rfl,bK ?_⟩
   refine⟨_,rfl,g,_,rfl,s1 _ _ h1,λo=>?_⟩
   have gD:∀{H':Hp},iI g H H'->H' d=some (.dK (bC (·.ins) ps)):=λhb=>hb d _ (Ne.symm n1) h2
   refine Ar (λj σ H'=>iI g H H'/\H' g=some (.frz o (.dK (bC (·.outs) ps)))/\∃b v5 jk',σ=[some (.str p0.name),some (.ref g),some (.ref d),some (.ref J),some (.bl b),v5]/\H' J=some (.dK jk')/\(dJ jk' p0.name=true/\∀x,dJ jk' x=true->Cn ps p0.name x)/\jk'.length+2 * lX ps jk'<=40/\((b=false/\jk'=jk/\Og ps jk j)∨(b=true/\lX ps jk' <lX ps jk)))
    ⟨λb u hn e=>by rw [aD hn];exact s1 b u e,aq,false,v5,jk,rfl,by rw [aD ngJ];exact hJ,hp,hlen,.inl ⟨rfl,rfl,λi _ _ hi=>absurd hi (by lia)⟩⟩ (λj σ H' _ h=>h.2.1) ?_ ?_
   ·rintro j kk w σ H' hj ⟨hb,hg,b,v5,jk',rfl,hJ',hp',hlen',hv⟩
    obtain⟨a,ha,l,la,rfl,rfl⟩:=Hy hj
    obtain⟨b',hb',lb⟩:=List.mem_flatMap.mp (pm.mem_iff.mp (List.mem_flatMap.mpr ⟨a,ha,la⟩))
    have ga:iR H' g (.str l) (some (.str a.name)):=.inl ⟨_,Sum.inr l,.inr ⟨o,hg⟩,rfl,(fc no ha la).symm⟩
    have gb:iR H' d (.str l) (some (.str b'.name)):=by rw [<-fc ni hb' lb];exact iR.k (k:=Sum.inr l) (gD hb)
    have ja:iR H' J (.str a.name) (bx jk' (Sum.inr a.name)):=iR.k (k:=Sum.inr a.name) hJ'
    have jb:iR H' J (.str b'.name) (bx jk' (Sum.inr b'.name)):=iR.k (k:=Sum.inr b'.name) hJ'
    have nm:∀a2∈ps,∀b2∈ps,l∈a2.outs->l∈b2.ins->a2.name=a.name/\b2.name=b'.name:=λa2 ha2 b2 hb2 q1 q2=>by
     have e1:=fc no ha2 q1
     rw [fc no ha la] at e1
     have e2:=fc ni hb2 q2
     rw [fc ni hb' lb] at e2
     simp only [Option.some.injEq,V.str.injEq] at e1 e2
     exact⟨e1.symm,e2.symm⟩
    refine⟨λσ H''=>iI g H H''/\H'' g=some (.frz o (.dK (bC (·.outs) ps)))/\∃b jk'',σ=[some (.str p0.name),some (.ref g),some (.ref d),some (.ref J),some (.bl b),some (.str l)]/\H'' J=some (.dK jk'')/\(dJ jk'' p0.name=true/\∀x,dJ jk'' x=true->Cn ps p0.name x)/\jk''.length+2 * lX ps jk''<=40/\((b=false/\jk''=jk/\Og ps jk (j+1))∨(b=true/\lX ps jk'' <lX ps jk)),?_,?_⟩
    ·refine⟨_,rfl,_,rfl,g,_,rfl,ga,_,rfl,J,_,rfl,ja,?_⟩
     refine⟨_,rfl,_,rfl,d,_,rfl,gb,_,rfl,J,_,rfl,jb,rfl,_,rfl,?_⟩
     change if (!decide (V.bl (dJ jk' a.name)=V.bl (dJ jk' b'.name)))=true then _ else _
     refine dN (λhne=>?_) (λheq=>?_)
     ·have hne':dJ jk' a.name≠dJ jk' b'.name:=λz=>by rw [z] at hne;simp at hne
      refine⟨_,rfl,_,rfl,_,rfl,g,_,rfl,ga,J,_,rfl,Bu.k (k:=Sum.inr a.name) hJ' (by lia),?_⟩
      have b2:iI g H (upd H' J (.dK (putK jk' (Sum.inr a.name) (.bl true)))):=λx u hn e=>by rw [aD (aB e nJ)];exact hb x u hn e
      have g2:(upd H' J (.dK (putK jk' (Sum.inr a.name) (.bl true)))) g=some (.frz o (.dK (bC (·.outs) ps))):=by rw [aD (Ne.symm ngJ)];exact hg
      have gb2:iR (upd H' J (.dK (putK jk' (Sum.inr a.name) (.bl true)))) d (.str l) (some (.str b'.name)):=by rw [<-fc ni hb' lb];exact iR.k (k:=Sum.inr l) (gD b2)
      have len1:=jT jk' (Sum.inr a.name:Key) (.bl true)
      have len2:=jT (putK jk' (Sum.inr a.name) (.bl true)) (Sum.inr b'.name:Key) (.bl true)
      refine⟨_,rfl,_,rfl,_,rfl,d,_,rfl,gb2,J,_,rfl,Bu.k (k:=Sum.inr b'.name) aq (by lia),?_⟩
      rw [uE]
      have has2:∀x,dJ (putK (putK jk' (Sum.inr a.name) (.bl true)) (Sum.inr b'.name) (.bl true)) x=(decide (x=b'.name) || (decide (x=a.name) || dJ jk' x)):=λx=>by rw [Bt,Bt]
      have mono:∀x,dJ jk' x=true->dJ (putK (putK jk' (Sum.inr a.name) (.bl true)) (Sum.inr b'.name) (.bl true)) x=true:=λx hx=>by rw [has2,hx];simp
      have lt:lX ps (putK (putK jk' (Sum.inr a.name) (.bl true)) (Sum.inr b'.name) (.bl true)) <lX ps jk':=by
       cases hA:dJ jk' a.name
       ·exact Jh mono ha hA (by rw [has2];simp)
       ·cases hB:dJ jk' b'.name
        ·exact Jh mono hb' hB (by rw [has2];simp)
        ·rw [hA,hB] at hne';exact absurd rfl hne'
      refine⟨λx u hn e=>by rw [aD (aB e nJ)];exact hb x u hn e,by rw [aD (Ne.symm ngJ)];exact hg,true,_,rfl,aq,⟨mono _ hp'.1,λx hx=>?_⟩,by lia,.inr ⟨rfl,?_⟩⟩
      ·have cab:Cn ps p0.name a.name/\Cn ps p0.name b'.name:=by
        cases hA:dJ jk' a.name
        ·cases hB:dJ jk' b'.name
         ·rw [hA,hB] at hne';exact absurd rfl hne'
         ·exact⟨.back ha hb' la lb (hp'.2 _ hB),hp'.2 _ hB⟩
        ·exact⟨hp'.2 _ hA,.step ha hb' la lb (hp'.2 _ hA)⟩
       rw [has2,Bool.or_eq_true,Bool.or_eq_true] at hx
       rcases hx with hx | hx | hx
       ·rw [of_decide_eq_true hx];exact cab.2
       ·rw [of_decide_eq_true hx];exact cab.1
       ·exact hp'.2 x hx
      rcases hv with ⟨_,rfl,_⟩ | ⟨_,hv⟩
      ·exact lt
      ·lia
     ·have heq':dJ jk' a.name=dJ jk' b'.name:=by
       cases hA:dJ jk' a.name <;> cases hB:dJ jk' b'.name <;> rw [hA,hB] at heq <;> simp_all
      refine⟨hb,hg,b,jk',rfl,hJ',hp',hlen',?_⟩
      rcases hv with ⟨rfl,rfl,hE⟩ | hv
      ·refine .inl ⟨rfl,rfl,λi k2 v2 hi e2 a2 ha2 b2 hb2 l2 ek q1 q2=>?_⟩
       rcases Nat.lt_or_ge i j with h | h
       ·exact hE i k2 v2 h e2 a2 ha2 b2 hb2 l2 ek q1 q2
       ·have:i=j:=by lia
        subst this
        rw [hj] at e2
        cases e2
        cases ek
        obtain⟨x1,x2⟩:=nm a2 ha2 b2 hb2 q1 q2
        rw [x1,x2]
        exact heq'
      ·exact .inr hv
    ·rintro σ H'' ⟨hb,hg,b,jk'',rfl,r⟩
     exact⟨hb,hg,b,_,jk'',rfl,r⟩
   ·rintro σ H' ⟨hb,hg,b,v5',jk',rfl,hJ',hp',hlen',hv⟩
    refine⟨_,⟨g,o,_,hg,(λo' u' z=>by rw [show H g=_ from h1] at z;cases z),rfl⟩,?_⟩
    have eJ:(upd H' g (.dK (bC (·.outs) ps))) J=some (.dK jk'):=by rw [aD ngJ];exact hJ'
    refine⟨⟨melt hb hg,b,v5',jk',rfl,eJ,hp',hlen',λz=>?_⟩,?_⟩
    ·rcases hv with ⟨_,rfl,hE⟩ | ⟨h,_⟩
     ·exact hE
     ·rw [h] at z;cases z
    ·show(if b=true then 1 else 0)+2 * lX ps (PP _ J) <(if true=true then 1 else 0)+2 * lX ps (PP _ J)
     rw [K8 eJ,K8 hJ]
     rcases hv with ⟨rfl,rfl,_⟩ | ⟨rfl,h⟩
     ·simp
     ·simp;lia
 ·intro σ H' Q' Q'' hm hq
  obtain⟨v,e,b,e2,q⟩:=hq
  exact⟨v,e,b,e2,hm _ _ q⟩
noncomputable def looseD (ps:List PD):Option PD:=match ps with
 | []=>none
 | p0:: _=>ps.find? λp=>!@decide (Cn ps p0.name p.name) (Classical.propDecidable _)
inductive tH (K:PySem.W.Frag) (t:Af) (vs:List V) (H:Hp) (Q:VK) (E:XK):Prop where
 | mk:∀(L g d:Addr) (ps:List PD),vs=[.ref L,.ref g,.ref d]->(bH K H L (ps.map λp=>V.str p.name))->1<=ps.length->ps.length<=16->H g=some (.dK (bC (·.outs) ps))->H d=some (.dK (bC (·.ins) ps))->g≠d->(ps.flatMap (·.outs)).Nodup->(ps.flatMap (·.ins)).Nodup->(ps.flatMap (·.outs)).Perm (ps.flatMap (·.ins))->((looseD ps=none->∀H',aM H H'->Q .non H'))->(∀p,looseD ps=some p->∀dx H',aM H H'->H' dx=some (.xd [("name",.str p.name)])->E (.ref t.dR) (some dx) H')->tH K t vs H Q E
theorem CT (T:Txt w K mg t):jd P w K mg base (oU P w) 3 t.oE (fdOf K t.oE) ["names", "givers", "takers"] (tH K t):=by
 have sc:=T.ir.sc ["names", "givers", "takers", "joined", "name"]
 refine T.ir.F.ok2 sc ln (λ_ _ _ _ H vs Q E hr h=>?_)
 obtain⟨L,g,d,ps,rfl,hL,hp1,hps,h1,h2,n1,no,ni,pm,k,kE⟩:=h
 refine⟨_,(aA (sN sc 3 (dF (Av T) T.oK hr (aa (aZ aU (pv 0) au (λ_ _=>rfl)) (aa (pv 1) (aa (pv 2) ao aj) aj) aF)))
  (az (fM PassesOwn.leaving rfl (dB (pv 0)) (gN sc 4)
   (az (bD (jE (yE hr.u1 (pv 4) (pv 3)))
    (az (fu T.Mf (wK T) (hr.mono (by decide)) (by rfl) T.Jr T.jF.b fG (aa (pv 4) ao aj)))
    bz))))),?_⟩
 have hl:sizeLine=16777216:=sizeLine_eq
 obtain⟨p0,r0,rfl⟩:=List.exists_cons_of_ne_nil (show ps≠[] from λz=>by rw [z] at hp1;exact absurd hp1 (by decide))
 refine⟨_,rfl,L,_,0,_,rfl,rfl,hL,aH (j:=0) rfl,_,rfl,_,rfl,p0,g,d,p0:: r0,rfl,.head _,hps,h1,h2,n1,no,ni,pm,λH1 J jk s1 hJ hC=>?_⟩
 have hD:∀p:PD,(!dJ jk p.name)=(!@decide (Cn (p0:: r0) p0.name p.name) (Classical.propDecidable _)):=λp=>by
  rw [show dJ jk p.name= @decide (Cn (p0:: r0) p0.name p.name) (Classical.propDecidable _) from Bool.eq_iff_iff.mpr ((hC p.name).trans (@decide_eq_true_iff _ (Classical.propDecidable _)).symm)]
 have lo:∀{o:Option PD},(p0:: r0).find? (λp=>!dJ jk p.name)=o->looseD (p0:: r0)=o:=λ{o} h=>by
  rw [<-h]
  unfold looseD
  exact congrArg (λf=>(p0:: r0).find? f) (funext λp=>(hD p).symm)
 refine⟨_,rfl,L,rfl,⟨_,s1.seq hL⟩,jl (K:=K) (a:=L) (xs:=(p0:: r0).map λp=>V.str p.name) (λj σ H'=>H'=H1/\((p0:: r0).take j).find? (λp=>!dJ jk p.name)=none/\∃v4,σ=[some (.ref L),some (.ref g),some (.ref d),some (.ref J),v4]) ⟨rfl,rfl,none,rfl⟩ (λj σ H' _ ⟨e,_⟩=>by rw [e];exact s1.seq hL) ?_ ?_⟩
 ·rintro j x σ H' hx ⟨rfl,hf,v4,rfl⟩
  rw [List.getElem?_map] at hx
  obtain⟨p,hp,rfl⟩:=Option.map_eq_some_iff.mp hx
  refine⟨_,rfl,_,rfl,J,_,rfl,iR.k (k:=Sum.inr p.name) hJ,_,rfl,?_⟩
  change if (!dJ jk p.name)=true then _ else _
  cases hb:dJ jk p.name with
  | true=>exact bW ⟨rfl,Ah hf hp (by rw [hb];rfl),_,rfl⟩
  | false=>
   refine bK ?_
   refine⟨_,rfl,by show 1<=1000;decide,λyy ny n0=>⟨yy,_,rfl,aq,λdx' nd ne=>⟨rfl,yy,dx',rfl,n0,by rw [aD ne.symm];exact aq,?_⟩⟩⟩
   have rz:=raised (fs:=[(("name" :Str),V.str p.name)]) ny nd ne
   exact kE p (lo (rR hf hp (by rw [hb];rfl))) dx' _ (s1.trans rz.1) rz.2
 ·rintro σ H' ⟨rfl,hf,v4,rfl⟩
  rw [lM,List.take_length] at hf
  exact k (lo hf) _ s1
theorem RD (T:Txt w K mg t) (i:Nat):MethAt P w K mg base PK 1 (cls t i) "kind" (gU i):=match i with
 | 0=>⟨_,_,_,T.qH.c,(T.m5.me T.qH.me.2.1),T.m5.b,G7 T⟩
 | 1=>⟨_,_,_,T.qp.c,(T.mJ.me T.qp.me.2.1),T.mJ.b,Gi T⟩
 | 2=>⟨_,_,_,T.qd.c,(T.nU.me T.qd.me.2.1),T.nU.b,Gj T⟩
 | 3=>⟨_,_,_,T.pW.c,(T.nH.me T.pW.me.2.1),T.nH.b,GQ T⟩
 | 4=>⟨_,_,_,T.qJ.c,(T.mO.me T.qJ.me.2.1),T.mO.b,Gk T⟩
 | 5=>⟨_,_,_,T.qu.c,(T.mR.me T.qu.me.2.1),T.mR.b,G8 T⟩
 | 6=>⟨_,_,_,T.xK.c,(T.qy.me T.xK.me.2.1),T.qy.b,Io T⟩
 | 7=>⟨_,_,_,T.qw.c,(T.mV.me T.qw.me.2.1),T.mV.b,Gs T⟩
 | 8=>⟨_,_,_,T.lN.c,(T.lJ.me T.lN.me.2.1),T.lJ.b,Dv T⟩
 | 9=>⟨_,_,_,T.jj.c,(T.jO.me T.jj.me.2.1),T.jO.b,Cw T⟩
 | n+10=>⟨_,_,_,T.lF.c,(T.lH.me T.lF.me.2.1),T.lH.b,DY T⟩
inductive Ff (K:PySem.W.Frag) (t:Af) (vs:List V) (H:Hp) (Q:VK) (E:XK):Prop where
 | mk:∀(q:Addr) (p:PD),vs=[.ref q]->iM K t H q p.kind (.str p.name) (p.nums.map V.int) (p.ins.map V.str) (p.outs.map V.str)->(∀r a1 a2 a3,H r=none->d7 K H a1 (p.nums.map V.int)->d7 K H a2 (p.ins.map V.str)->d7 K H a3 (p.outs.map V.str)->Q (.ref r) (upd H r (.tup [.str (cu p.kind),.str p.name,.ref a1,.ref a2,.ref a3])))->Ff K t vs H Q E
theorem M3 (T:Txt w K mg t):FO P w K mg base 2 t.Jf ["part"] (Ff K t):=by
 have sc:=T.Bh.sc ["part"]
 refine T.Bh.F.ok sc ln (λ_ _ _ _ H vs Q E hr h=>?_)
 obtain⟨q,p,rfl,P,k⟩:=h
 refine⟨_,(az (aY (cB (aa (Nk (CX:=PK) (k:=1) (E:=E0) (pv 0) (hr.mono (by decide)) fG) (aa (dq (pv 0) rfl) (aa (dq (pv 0) rfl) (aa (dq (pv 0) rfl) (aa (dq (pv 0) rfl) ao aQ) aQ) aQ) aQ) bc)))),?_⟩
 have hl:sizeLine=16777216:=sizeLine_eq
 obtain⟨dxp,tn,ti,to,p1,p2,p3,p4⟩:=P.ex
 refine⟨_,rfl,q,cls t p.kind,dxp,_,gU p.kind,rfl,p1,RV _ _ _ _ (by decide +kernel) (by decide +kernel) (by decide +kernel) (by decide +kernel),RD T p.kind,_,rfl,?_⟩
 refine⟨_,rfl,q,_,dxp,_,_,rfl,p1,jH T p.kind,xZ T p.kind,uH _ _ _ _,_,rfl,q,_,dxp,_,_,rfl,p1,jH T p.kind,Cq T p.kind,G3 _ _ _ _,_,rfl,q,_,dxp,_,_,rfl,p1,jH T p.kind,JS T p.kind,Jl _ _ _ _,_,rfl,q,_,dxp,_,_,rfl,p1,jH T p.kind,Gn T p.kind,Fw _ _ _ _,by show 5<=sizeLine;lia,λr nr=>?_⟩
 exact k r tn ti to nr p2 p3 p4
inductive za (K:PySem.W.Frag) (t:Af) (vs:List V) (H:Hp) (Q:VK) (E:XK):Prop where
 | mk:∀(n:Addr) (ls:List bB) (ps:List PD),vs=[.ref n]->J0 K t H n ls ps->(∀T a b H',aM H H'->H a=none->H b=none->a≠b->vM K H' T a b ls ps->Q (.ref T) H')->za K t vs H Q E
theorem HX (T:Txt w K mg t):FO P w K mg base 3 t.vQ ["self"] (za K t):=by
 have sc:=T.vJ.sc ["self", "lanes", "parts"]
 refine T.vJ.F.ok sc ln (λ_ _ _ _ H vs Q E hr h=>?_)
 obtain⟨n,ls,ps,rfl,N,k⟩:=h
 refine⟨_,(aA (o9 (H0:=H) rfl (j4 (i:=1) [0] ["self", "lanes", "parts"] (bw (inClass (top 51) 13)) rfl sc.nd rfl (xq (dq (pv 0) rfl)) (λ_ _ _ _ _=>ik) (λ_ _ _ _ _=>(cB (aa (pv 0) (aa (jN hr.u1 (Hm (K:=K) rfl (pv 1) rfl) (pv 0) (λ_ _=>rfl)) (aa (jN hr.u1 (Hm (K:=K) rfl (pv 1) rfl) (pv 0) (λ_ _=>rfl)) ao aF) aF) aj)))))
  (aA (o9 (H0:=H) rfl (j4 (i:=2) [0] ["self", "lanes", "parts"] (bw (inClass (top 51) 13)) rfl sc.nd rfl (xq (dq (pv 0) rfl)) (λ_ _ _ _ _=>ik) (λ_ _ _ _ _=>(dF (M3 T) T.Bh hr (aa (jN hr.u1 (Hm (K:=K) rfl (pv 1) rfl) (pv 0) (λ_ _=>rfl)) ao aF)))))
  (az (aY (cB (aa (pv 1) (aa (pv 2) ao aj) aj)))))),?_⟩
 obtain⟨dx,fs,R,F,Pd,G,Tk,FL,PL,W⟩:=id N
 have hz:sizeLine=16777216:=sizeLine_eq
 have hl24:=W.fit.l24
 have hp16:=W.fit.p16
 have h3:=W.rooms
 have lr:(aR ls).length=ls.length:=by unfold aR;rw [lM]
 have lp:PL.length=ps.length:=by rw [<-W.pls,lM]
 refine⟨_,rfl,n,_,dx,fs,_,rfl,W.obj,T.bT.c,T.bT.na.1,W.fl.has ("rooms",.ref R) (by simp),R,_,rfl,h3,λo=>?_⟩
 refine Eo (λj ys H'=>aM (upd H R (.frz o (.dK (aR ls)))) H'/\ys.length<=j/\dY (vB K (upd H' R (.dK (aR ls)))) ys (ls.take j)) (by rw [lr];lia) ⟨aM.refl _,Nat.le_refl _,.nil⟩ ?_ ?_ ?_ ?_
 ·rintro j ys H' ⟨_,hh,_⟩
  exact hh
 ·rintro j ys H' _ h
  exact h.1 _ _ aq
 ·rintro j kk v ys H' hj ⟨hs,hyl,hA⟩
  unfold aR at hj
  rw [List.getElem?_map] at hj
  obtain⟨l,hlj,e⟩:=Option.map_eq_some_iff.mp hj
  cases e
  have hm:=List.mem_of_getElem? hlj
  obtain⟨q,hq,eq⟩:∃q∈FL,q.1=l:=by
   have hm':=hm
   rw [<-W.fls] at hm'
   obtain⟨q,hq,e⟩:=List.mem_map.mp hm'
   exact⟨q,hq,e⟩
  subst eq
  have hg:=hs _ _ aq
  have en:=hs _ _ (pN h3 W.obj (by intro _ z;cases z))
  have eF:H' F=some (.dK (eV FL)):=hs _ _ (by rw [aD (Ne.symm W.neRF)];exact W.firsts)
  refine yes ⟨_,rfl,_,rfl,n,_,dx,fs,_,rfl,en,T.bT.c,T.bT.na.1,W.fl.has ("rooms",.ref R) (by simp),_,rfl,R,_,rfl,(by rw [<-W.room hm];exact .inl ⟨_,Sum.inr q.1.name,.inr ⟨o,hg⟩,rfl,rfl⟩),?_⟩
  refine⟨_,rfl,n,_,dx,fs,_,rfl,en,T.bT.c,T.bT.na.2.1,W.fl.has ("firsts",.ref F) (by simp),_,rfl,F,_,rfl,(by rw [<-W.firstV hq];exact iR.k (k:=Sum.inr q.1.name) eF),by show 3<=sizeLine;lia,λu nu=>?_⟩
  have su:=aC (o:=.tup [.str q.1.name,.int q.1.room,.ref q.2]) nu
  have nuR:u≠R:=λz=>by rw [z,hg] at nu;cases nu
  refine⟨hs.trans su,by rw [lP,List.length_singleton];lia,?_⟩
  rw [List.take_succ,hlj,Option.toList_some]
  refine(hA.imp λ_ _ h=>h.same (wZ su)).app (.cons ⟨u,q.2,rfl,by rw [aD nuR];exact aq,(yN h3 (hs.trans su)).seqT (W.tups q hq)⟩ .nil)
 rintro ys H' ⟨hs,hyl,hA⟩ D nD
 have hg:=hs _ _ aq
 have nDR:D≠R:=λz=>by rw [z,hg] at nD;cases nD
 have nDH:H D=none:=Bg (hs.free nD)
 have sD:=aC (o:=.lst ys) nD
 refine⟨_,⟨R,o,_,sD _ _ hg,(λo' u' z=>by rw [show H R=_ from h3] at z;cases z),rfl⟩,?_⟩
 have s1:=yN h3 (hs.trans sD)
 have eD:upd (upd H' D (.lst ys)) R (.dK (aR ls)) D=some (.lst ys):=by rw [aD nDR];exact aq
 have hA1:dY (vB K (upd (upd H' D (.lst ys)) R (.dK (aR ls)))) ys ls:=by
  rw [lr,List.take_length] at hA
  exact hA.imp λ_ _ h=>h.same (wZ sD)
 generalize upd (upd H' D (.lst ys)) R (.dK (aR ls))=H1 at s1 eD hA1 ⊢
 clear hA hs hg sD nD hyl
 have W1:=W.same s1
 have h5:=W1.parts
 have lpk:(dm PL).length=PL.length:=by unfold dm;rw [lM]
 refine⟨_,rfl,n,_,dx,fs,_,rfl,W1.obj,T.bT.c,T.bT.na.2.2.1,W1.fl.has ("parts",.ref Pd) (by simp),Pd,_,rfl,h5,λo2=>?_⟩
 refine Eo (λj zs H'=>aM (upd H1 Pd (.frz o2 (.dK (dm PL)))) H'/\zs.length<=j/\dY (Hw K (upd H' Pd (.dK (dm PL)))) zs ((PL.take j).map (·.1))) (by rw [lpk];lia) ⟨aM.refl _,Nat.le_refl _,.nil⟩ ?_ ?_ ?_ ?_
 ·rintro j zs H' ⟨_,hh,_⟩
  exact hh
 ·rintro j zs H' _ h
  exact h.1 _ _ aq
 ·rintro j kk v zs H' hj ⟨hs,hyl,hA⟩
  unfold dm at hj
  rw [List.getElem?_map] at hj
  obtain⟨q,hqj,e⟩:=Option.map_eq_some_iff.mp hj
  cases e
  have hm:=List.mem_of_getElem? hqj
  have hg:=hs _ _ aq
  have en:=hs _ _ (pN h5 W1.obj (by intro _ z;cases z))
  refine yes ⟨_,rfl,n,_,dx,fs,_,rfl,en,T.bT.c,T.bT.na.2.2.1,W1.fl.has ("parts",.ref Pd) (by simp),_,rfl,Pd,_,rfl,(by rw [<-W1.partV hm];exact .inl ⟨_,Sum.inr q.1.name,.inr ⟨o2,hg⟩,rfl,rfl⟩),?_⟩
  refine⟨q.2,q.1,rfl,((W1.pats q hm).chill h5).same hs,λu a1 a2 a3 nu t1 t2 t3=>?_⟩
  have su:=aC (o:=.tup [.str (cu q.1.kind),.str q.1.name,.ref a1,.ref a2,.ref a3]) nu
  have nuP:u≠Pd:=λz=>by rw [z,hg] at nu;cases nu
  refine⟨hs.trans su,by rw [lP,List.length_singleton];lia,?_⟩
  rw [List.take_succ,hqj,Option.toList_some,List.map_append,List.map_singleton]
  have ft:∀{a:Addr} {xs:List V},d7 K H' a xs->d7 K (upd (upd H' u (.tup [.str (cu q.1.kind),.str q.1.name,.ref a1,.ref a2,.ref a3])) Pd (.dK (dm PL))) a xs:=λ{a xs} t=>by
   rcases su.seqT t with (h | ⟨o',h⟩) | h
   ·exact .inl (.inl (by rw [aD (zc h (su _ _ hg) (by intro z;cases z))];exact h))
   ·exact .inl (.inr ⟨o',by rw [aD (zc h (su _ _ hg) (by intro z;cases z))];exact h⟩)
   ·exact .inr h
  refine(hA.imp λ_ _ h=>h.same (wZ su)).app (.cons ⟨u,a1,a2,a3,rfl,by rw [aD nuP];exact aq,ft t1,ft t2,ft t3⟩ .nil)
 rintro zs H' ⟨hs,hyl,hA⟩ D2 nD2
 have hg:=hs _ _ aq
 have nDP:D2≠Pd:=λz=>by rw [z,hg] at nD2;cases nD2
 have nD2H:H1 D2=none:=Bg (hs.free nD2)
 have sD:=aC (o:=.lst zs) nD2
 refine⟨_,⟨Pd,o2,_,sD _ _ hg,(λo' u' z=>by rw [show H Pd=_ from W.parts] at z;cases z),rfl⟩,?_⟩
 have s2:=yN h5 (hs.trans sD)
 have eD2:upd (upd H' D2 (.lst zs)) Pd (.dK (dm PL)) D2=some (.lst zs):=by rw [aD nDP];exact aq
 have hA2:dY (Hw K (upd (upd H' D2 (.lst zs)) Pd (.dK (dm PL)))) zs ps:=by
  rw [lpk,List.take_length,W.pls] at hA
  exact hA.imp λ_ _ h=>h.same (wZ sD)
 generalize upd (upd H' D2 (.lst zs)) Pd (.dK (dm PL))=H2 at s2 eD2 hA2 ⊢
 refine⟨_,rfl,_,rfl,by show 2<=sizeLine;lia,λT' nT=>?_⟩
 have sT:=aC (o:=.tup [.ref D,.ref D2]) nT
 exact k T' D D2 _ (s1.trans (s2.trans sT)) nDH (s1.free nD2H) (aB eD nD2H) ⟨aq,⟨ys,sT _ _ (s2 _ _ eD),hA1.imp λ_ _ h=>h.same (s2.trans sT)⟩,⟨zs,sT _ _ eD2,hA2.imp λ_ _ h=>h.same sT⟩⟩
structure dH where
 name:V
 room:V
 first:List V
structure dI where
 kind:Str
 name:V
 nums:List V
 ins:List (Option Key)
 outs:List (Option Key)
noncomputable def Kc (l:bB):dH:=⟨.str l.name,.int l.room,l.first.map V.int⟩
noncomputable def lR (p:PD):dI:=⟨cu p.kind,.str p.name,p.nums.map V.int,p.ins.map λz=>some (Sum.inr z),p.outs.map λz=>some (Sum.inr z)⟩
noncomputable def QM:V->Key
 | .str z=>Sum.inr z
 | _=>Sum.inl 0
noncomputable def f9 (rk:List (Key×V)) (x:dH):Except (Nat×V) (List (Key×V)):=match freshD x.name rk with
 | some d=>.error d
 | none=>match iY x.name x.room x.first with
  | some d=>.error d
  | none=>.ok (rk ++ [(QM x.name,x.room)])
structure Ro where
 pk:List (Key×V)
 tk:List (Key×V)
 gk:List (Key×V)
noncomputable def RW (z:Str):Option Nat:=(List.range 11).find? λi=>decide (cu i=z)
noncomputable def fW (rk:List (Key×V)) (s:Ro) (x:dI):Except (Nat×V) Ro:=match RW x.kind with
 | none=>.error (4,.str x.kind)
 | some i=>match freshD x.name s.pk with
  | some d=>.error d
  | none=>match oV i x.name x.nums (x.ins.map kO) (x.outs.map kO) with
   | some d=>.error d
   | none=>if (cH rk x.name s.tk x.ins).2=true then(if (cH rk x.name s.gk x.outs).2=true then .ok ⟨s.pk ++ [(QM x.name,.non)],(cH rk x.name s.tk x.ins).1,(cH rk x.name s.gk x.outs).1⟩ else .error (5,x.name)) else .error (5,x.name)
theorem xW {z:Str} {i:Nat} (h:RW z=some i):i<=10/\z=cu i:=by
 have h1:=List.mem_range.mp (List.mem_of_find?_eq_some h)
 have h2:=List.find?_some h
 exact⟨by lia,(of_decide_eq_true h2).symm⟩
theorem JG:∀q∈ROWS,∃i∈List.range 11,cu i=q.1:=by decide +kernel
theorem NQ {z:Str} (h:RW z=none):rowOf ROWS z=none:=by
 cases e:rowOf ROWS z with
 | none=>rfl
 | some r=>
  exfalso
  have:∃q∈ROWS,q.1=z:=by
   unfold rowOf at e
   first
    | exact⟨_,List.mem_of_find?_eq_some e,of_decide_eq_true (List.find?_some e)⟩
    | (obtain⟨q,hq,_⟩:=Option.map_eq_some_iff.mp e
       exact⟨q,List.mem_of_find?_eq_some hq,by have:=List.find?_some hq;simpa using this⟩)
  obtain⟨q,hq,rfl⟩:=this
  obtain⟨i,hi,ei⟩:=JG q hq
  have:=List.find?_eq_none.mp h i hi
  rw [ei] at this
  simp at this
theorem Qo {σ α ε:Type} {f:σ->α->Except ε σ} {s:σ} {e:ε}:∀{xs:List α} (ys:List α),xs.foldlM f s=.error e->(xs ++ ys).foldlM f s=.error e:=λ{xs} ys h=>by
 rw [List.foldlM_append,h]
 rfl
theorem oW {σ α ε:Type} {f:σ->α->Except ε σ} {s s1:σ} {xs:List α} {j:Nat} {x:α} (h:(xs.take j).foldlM f s=.ok s1) (hx:xs[j]?=some x):(xs.take (j+1)).foldlM f s=f s1 x:=by
 rw [List.take_succ,hx,Option.toList_some,List.foldlM_append,h]
 show(f s1 x >>= λs=>pure s)=f s1 x
 exact bind_pure _
theorem wz {σ α ε:Type} {f:σ->α->Except ε σ} {s s1:σ} {xs:List α} {j:Nat} {x:α} {e:ε} (h:(xs.take j).foldlM f s=.ok s1) (hx:xs[j]?=some x) (hf:f s1 x=.error e):xs.foldlM f s=.error e:=by
 have:=Qo (xs.drop (j+1)) ((oW h hx).trans hf)
 rwa [List.take_append_drop] at this
theorem lY {v:V} {kvs:List (Key×V)} (h:freshD v kvs=none):∃z,v=.str z/\nameB z=true/\(bx kvs (Sum.inr z)).isSome=false:=by
 cases v with
 | str z=>
  have h:(if nameB z=true then(if (bx kvs (Sum.inr z)).isSome=true then some (1,V.str z) else none) else some (0,V.str z))=none:=h
  by_cases a:nameB z=true
  ·rw [if_pos a] at h
   by_cases b:(bx kvs (Sum.inr z)).isSome=true
   ·rw [if_pos b] at h;cases h
   ·exact⟨z,rfl,a,by simpa using b⟩
  ·rw [if_neg a] at h;cases h
 | _=>cases h
theorem J2:∀{xs:List V},xs.all dZ=true->∃ws:List Int,xs=ws.map V.int/\∀v∈ws,0<=v/\v <1000000000
 | [],_=>⟨[],rfl,by simp⟩
 | x:: xs,h=>by
  rw [List.all_cons,Bool.and_eq_true] at h
  obtain⟨ws,e,hb⟩:=J2 h.2
  cases x with
  | int i=>
   have hi:(decide (0<=i) && decide (i <1000000000))=true:=h.1
   rw [Bool.and_eq_true] at hi
   refine⟨i:: ws,by rw [e];rfl,λv hv=>?_⟩
   rcases List.mem_cons.mp hv with rfl | hv
   ·exact⟨of_decide_eq_true hi.1,of_decide_eq_true hi.2⟩
   ·exact hb v hv
  | _=>cases h.1
theorem Mz {nm rm:V} {xs:List V} (h:iY nm rm xs=none):∃(r:Int) (ws:List Int),rm=.int r/\xs=ws.map V.int/\1<=r/\r<=199/\(ws.length:Int)<=r/\∀v∈ws,0<=v/\v <1000000000:=by
 unfold iY at h
 by_cases a:u0 rm xs.length=true
 ·rw [if_pos a] at h
  by_cases b:xs.all dZ=true
  ·obtain⟨ws,e,hb⟩:=J2 b
   cases rm with
   | int r=>
    have a:(decide ((if (xs.length:Int) >1 then(xs.length:Int) else 1)<=r) && decide (r<=199))=true:=a
    rw [Bool.and_eq_true] at a
    have a1:=of_decide_eq_true a.1
    have a2:=of_decide_eq_true a.2
    have lw:xs.length=ws.length:=by rw [e,lM]
    rw [lw] at a1
    refine⟨r,ws,rfl,e,?_,a2,?_,hb⟩ <;> (split at a1 <;> lia)
   | _=>cases a
  ·rw [if_neg b] at h;cases h
 ·rw [if_neg a] at h;cases h
theorem Ib {ls:List bB} {x:dH} {rk:List (Key×V)} (h:f9 (aR ls) x=.ok rk):∃l:bB,x=Kc l/\rk=aR (ls ++ [l])/\nameB l.name=true/\l.name∉ls.map (·.name)/\1<=l.room/\l.room<=199/\(l.first.length:Int)<=l.room/\∀v∈l.first,0<=v/\v <1000000000:=by
 unfold f9 at h
 split at h
 ·cases h
 rename_i hf
 split at h
 ·cases h
 rename_i hl
 obtain⟨z,e1,hn,hv⟩:=lY hf
 obtain⟨r,ws,e2,e3,b1,b2,b3,hb⟩:=Mz hl
 obtain⟨xn,xr,xf⟩:=x
 dsimp only at e1 e2 e3
 subst e1 e2 e3
 refine⟨⟨z,r,ws⟩,rfl,?_,hn,λhm=>?_,b1,b2,b3,hb⟩
 ·have e:=Except.ok.inj h
  rw [<-e]
  unfold aR
  rw [List.map_append]
  rfl
 ·obtain⟨l,hl,e⟩:=List.mem_map.mp hm
  have hk:(Sum.inr z:Key)∈(aR ls).map (·.1):=by
   rw [j6]
   exact List.mem_map.mpr ⟨z,hm,rfl⟩
  have:(bx (aR ls) (Sum.inr z)).isSome=true:=by
   obtain⟨q,hq,eq⟩:=List.mem_map.mp hk
   cases hv':bx (aR ls) (Sum.inr z) with
   | some _=>rfl
   | none=>
    exfalso
    unfold bx at hv'
    have:=List.find?_eq_none.mp (Option.map_eq_none_iff.mp hv') q hq
    simp [eq] at this
  rw [this] at hv
  cases hv
theorem tY {kvs:List (Key×V)} {k:Key} (h:(bx kvs k).isSome=true):k∈kvs.map (·.1):=by
 obtain⟨v,hv⟩:=Option.isSome_iff_exists.mp h
 unfold bx at hv
 obtain⟨q,hq,_⟩:=Option.map_eq_some_iff.mp hv
 have hp:=List.find?_some hq
 exact List.mem_map.mpr ⟨q,List.mem_of_find?_eq_some hq,by simpa using hp⟩
theorem lL {kvs:List (Key×V)} {k:Key} (h:(bx kvs k).isSome=false):k∉kvs.map (·.1):=λhm=>by
 obtain⟨q,hq,e⟩:=List.mem_map.mp hm
 cases hv:bx kvs k with
 | some v=>rw [hv] at h;cases h
 | none=>
  unfold bx at hv
  have:=List.find?_eq_none.mp (Option.map_eq_none_iff.mp hv) q hq
  simp [e] at this
theorem Hj {ls:List bB} {y:V}:∀{ks:List (Option Key)} {kvs kv1:List (Key×V)},cH (aR ls) y kvs ks=(kv1,true)->∃zs:List Str,ks=zs.map (λz=>some (Sum.inr z))/\kv1=kvs ++ zs.map (λz=>((Sum.inr z:Key),y))/\zs.Nodup/\∀z∈zs,z∈ls.map (·.name)/\(Sum.inr z:Key)∉kvs.map (·.1)
 | [],kvs,kv1,h=>⟨[],rfl,by cases h;simp,List.nodup_nil,by simp⟩
 | none:: ks,kvs,kv1,h=>by cases h
 | some k:: ks,kvs,kv1,h=>by
  have h:(if ou (aR ls) kvs (some k)=true then cH (aR ls) y (kvs ++ [(k,y)]) ks else(kvs,false))=(kv1,true):=h
  by_cases hf:ou (aR ls) kvs (some k)=true
  ·rw [if_pos hf] at h
   have hf:((bx (aR ls) k).isSome && !(bx kvs k).isSome)=true:=hf
   rw [Bool.and_eq_true] at hf
   have h1:=tY hf.1
   have h2:=lL (kvs:=kvs) (k:=k) (by simpa using hf.2)
   rw [j6] at h1
   obtain⟨z,hz,rfl⟩:=List.mem_map.mp h1
   obtain⟨zs,e1,e2,nd,hzs⟩:=Hj h
   refine⟨z:: zs,by rw [e1];rfl,by rw [e2,List.append_assoc];rfl,List.nodup_cons.mpr ⟨λhm=>(hzs z hm).2 (by rw [List.map_append];exact List.mem_append.mpr (.inr (.head _))),nd⟩,λw hw=>?_⟩
   rcases List.mem_cons.mp hw with rfl | hw
   ·exact⟨hz,h2⟩
   ·refine⟨(hzs w hw).1,λhm=>(hzs w hw).2 ?_⟩
    rw [List.map_append]
    exact List.mem_append.mpr (.inl hm)
  ·rw [if_neg hf] at h
   cases h
theorem Je {i:Nat} {nm:V} {ns is os:List V} (h:oV i nm ns is os=none):ns.length=cN i/\is.length=cI i/\os.length=cO i/\∃ws:List Int,ns=ws.map V.int/\∀v∈ws,0<=v/\v <1000000000:=by
 unfold oV at h
 by_cases a:(decide (ns.length=cN i) && ns.all dZ)=true
 ·rw [if_pos a] at h
  by_cases b:(decide (is.length=cI i) && decide (os.length=cO i))=true
  ·rw [Bool.and_eq_true] at a b
   exact⟨of_decide_eq_true a.1,of_decide_eq_true b.1,of_decide_eq_true b.2,J2 a.2⟩
  ·rw [if_neg b] at h;cases h
 ·rw [if_neg a] at h;cases h
theorem Iv {ls:List bB} {ps:List PD} {s s':Ro} {x:dI} (h1:s.pk.map (·.1)=ps.map λp=>(Sum.inr p.name:Key)) (h2:s.tk=bC (·.ins) ps) (h3:s.gk=bC (·.outs) ps) (h:fW (aR ls) s x=.ok s'):∃p:PD,x=lR p/\kW p/\nameB p.name=true/\p.name∉ps.map (·.name)/\s'.pk.map (·.1)=(ps ++ [p]).map (λp=>(Sum.inr p.name:Key))/\s'.tk=bC (·.ins) (ps ++ [p])/\s'.gk=bC (·.outs) (ps ++ [p])/\p.ins.Nodup/\p.outs.Nodup/\(∀z∈p.ins,z∈ls.map (·.name)/\z∉ps.flatMap (·.ins))/\∀z∈p.outs,z∈ls.map (·.name)/\z∉ps.flatMap (·.outs):=by
 have ek:∀(f:PD->List Str) (z:Str),(Sum.inr z:Key)∉(bC f ps).map (·.1)->z∉ps.flatMap f:=λf z hn hm=>by
  obtain⟨p,hp,hz⟩:=List.mem_flatMap.mp hm
  refine hn (List.mem_map.mpr ⟨(Sum.inr z,.str p.name),?_,rfl⟩)
  unfold bC
  exact List.mem_flatMap.mpr ⟨p,hp,List.mem_map.mpr ⟨z,hz,rfl⟩⟩
 unfold fW at h
 split at h
 ·cases h
 rename_i i hi
 split at h
 ·cases h
 rename_i hf
 split at h
 ·cases h
 rename_i hd
 by_cases c1:(cH (aR ls) x.name s.tk x.ins).2=true
 case neg=>rw [if_neg c1] at h;cases h
 rw [if_pos c1] at h
 by_cases c2:(cH (aR ls) x.name s.gk x.outs).2=true
 case neg=>rw [if_neg c2] at h;cases h
 rw [if_pos c2] at h
 have h:=Except.ok.inj h
 subst h
 obtain⟨hi10,hk⟩:=xW hi
 obtain⟨z,e1,hn,hv⟩:=lY hf
 obtain⟨l1,l2,l3,ws,e2,hb⟩:=Je hd
 obtain⟨zi,ei,e3,ndi,hzi⟩:=Hj (ls:=ls) (y:=x.name) (kvs:=s.tk) (ks:=x.ins) (kv1:=(cH (aR ls) x.name s.tk x.ins).1) (by rw [<-c1])
 obtain⟨zo,eo,e4,ndo,hzo⟩:=Hj (ls:=ls) (y:=x.name) (kvs:=s.gk) (ks:=x.outs) (kv1:=(cH (aR ls) x.name s.gk x.outs).1) (by rw [<-c2])
 rw [e3,e4]
 obtain⟨xk,xn,xs,xi,xo⟩:=x
 dsimp only at hk e1 e2 ei eo l1 l2 l3 ⊢
 subst hk e1 e2 ei eo
 rw [lM] at l1
 rw [lM,lM] at l2 l3
 refine⟨⟨i,z,ws,zi,zo⟩,rfl,⟨by show i <11;lia,l1,l2,l3,hb⟩,hn,λhm=>?_,?_,?_,?_,ndi,ndo,λw hw=>⟨(hzi w hw).1,ek _ w (by rw [<-h2];exact(hzi w hw).2)⟩,λw hw=>⟨(hzo w hw).1,ek _ w (by rw [<-h3];exact(hzo w hw).2)⟩⟩
 ·refine lL hv ?_
  rw [h1]
  obtain⟨p,hp,e⟩:=List.mem_map.mp hm
  exact List.mem_map.mpr ⟨p,hp,by rw [e]⟩
 ·rw [List.map_append,h1,List.map_append]
  rfl
 ·rw [h2,Aw]
 ·rw [h3,Aw]
theorem yf:∀{ps:List PD} (_:(ps.map (·.name)).Nodup) {p:PD} (_:p∈ps),ps.find? (λx=>decide (x.name=p.name))=some p
 | a:: r,nd,l,hl=>by
  rw [List.map_cons,List.nodup_cons] at nd
  rcases List.mem_cons.mp hl with rfl | h
  ·rw [List.find?_cons_of_pos (by simp)]
  ·have:¬a.name=l.name:=λz=>nd.1 (by rw [z];exact List.mem_map.mpr ⟨l,h,rfl⟩)
   rw [List.find?_cons_of_neg (by simp [this])]
   exact yf nd.2 h
theorem Fz {ls:List bB} {ps:List PD} {f:PD->List Str} (nd:(ls.map (·.name)).Nodup) (hn:(ps.flatMap f).Nodup) (sub:∀z∈ps.flatMap f,z∈ls.map (·.name)) (all:∀q∈aR ls,(bx (bC f ps) q.1).isSome=true):(ps.flatMap f).Perm (ls.map (·.name)):=by
 refine(List.perm_ext_iff_of_nodup hn nd).mpr λz=>⟨sub z,λhz=>?_⟩
 obtain⟨l,hl,rfl⟩:=List.mem_map.mp hz
 have hk:=tY (all ((Sum.inr l.name:Key),.int l.room) (by unfold aR;exact List.mem_map.mpr ⟨l,hl,rfl⟩))
 obtain⟨q,hq,e⟩:=List.mem_map.mp hk
 unfold bC at hq
 obtain⟨p,hp,hm⟩:=List.mem_flatMap.mp hq
 obtain⟨w,hw,rfl⟩:=List.mem_map.mp hm
 have e:w=l.name:=Sum.inr.inj e
 exact List.mem_flatMap.mpr ⟨p,hp,e ▸ hw⟩
theorem FN {rk gk tk:List (Key×V)} (h:rn rk gk tk=none):∀q∈rk,(bx gk q.1).isSome=true/\(bx tk q.1).isSome=true:=λq hq=>by
 have:=List.find?_eq_none.mp h q hq
 cases a:(bx gk q.1).isSome <;> cases b:(bx tk q.1).isSome <;> simp [a,b] at this ⊢
theorem Sv {ps:List PD} {z x:Str} {y:Str} (nd:(ps.map (·.name)).Nodup) (h:Cn ps z x) (hz:∀q∈ps,q.name=z->∃l∈q.ins ++ q.outs,Drawn.iw ps l y):∀q∈ps,q.name=x->∃l∈q.ins ++ q.outs,Drawn.iw ps l y:=by
 have one:∀{a b:PD},a∈ps->b∈ps->a.name=b.name->a=b:=λha hb e=>by
  have h1:=yf nd ha
  have h2:=yf nd hb
  rw [e] at h1
  exact Option.some.inj (h1.symm.trans h2)
 induction h with
 | refl=>exact hz
 | @step a b l ha hb la lb _ ih=>
  intro q hq e
  obtain rfl:=one hq hb e
  obtain⟨m,hm,c⟩:=ih a ha rfl
  exact⟨l,List.mem_append.mpr (.inl lb),.step ha (List.mem_append.mpr (.inr la)) hm c⟩
 | @back a b l ha hb la lb _ ih=>
  intro q hq e
  obtain rfl:=one hq ha e
  obtain⟨m,hm,c⟩:=ih b hb rfl
  exact⟨l,List.mem_append.mpr (.inr la),.step hb (List.mem_append.mpr (.inl lb)) hm c⟩
theorem cIO:∀i,i <11->1<=cI i+cO i:=by decide +kernel
theorem JN {ps:List PD} (nd:(ps.map (·.name)).Nodup) (hok:∀p∈ps,kW p) (h:looseD ps=none):∃y,∀q∈ps,∃x∈q.ins ++ q.outs,Drawn.iw ps x y:=by
 cases ps with
 | nil=>exact⟨"",by simp⟩
 | cons p0 r=>
  have o0:=hok p0 (.head _)
  have ne:p0.ins ++ p0.outs≠[]:=λz=>by
   have:=congrArg List.length z
   rw [lP,o0.2.2.1,o0.2.2.2.1,List.length_nil] at this
   have:=cIO p0.kind o0.1
   lia
  obtain⟨y,ys,ey⟩:=List.exists_cons_of_ne_nil ne
  refine⟨y,λq hq=>?_⟩
  have c:Cn (p0:: r) p0.name q.name:=by
   unfold looseD at h
   have:=List.find?_eq_none.mp h q hq
   simpa using this
  refine Sv nd c (λq' hq' e=>?_) q hq rfl
  have h1:=yf nd hq'
  have h2:=yf nd (List.mem_cons_self (a:=p0) (l:=r))
  rw [e] at h1
  obtain rfl:=Option.some.inj (h1.symm.trans h2)
  exact⟨y,by rw [ey];exact .head _,.refl _⟩
noncomputable def Wo:V->Str
 | .str z=>z
 | _=> ""
noncomputable def Xp:V->Int
 | .int i=>i
 | _=>0
noncomputable def Yj:Option Key->Str
 | some (Sum.inr z)=>z
 | _=> ""
noncomputable def Mw (x:dI):PD:=⟨(RW x.kind).getD 0,Wo x.name,x.nums.map Xp,x.ins.map Yj,x.outs.map Yj⟩
theorem FW:∀i,i <11->RW (cu i)=some i:=by decide +kernel
theorem R1 {p:PD} (h:kW p):Mw (lR p)=p:=by
 cases p with
 | mk k nm ns is os=>
  unfold Mw lR
  simp only [List.map_map]
  rw [FW k h.1]
  have e1:(Xp∘V.int)=id:=rfl
  have e2:(Yj∘λz:Str=>some (Sum.inr z:Key))=id:=rfl
  simp only [e1,e2,List.map_id,Option.getD_some]
  rfl
theorem Bj:∀{ps:List PD},(∀p∈ps,kW p)->(ps.map lR).map Mw=ps
 | [],_=>rfl
 | p:: r,h=>by
  rw [List.map_cons,List.map_cons,R1 (h p (.head _)),Bj λq hq=>h q (.tail _ hq)]
noncomputable def kj (lx:List dH) (px:List dI):Option (Nat×V):=match lx.foldlM f9 [] with
 | .error d=>some d
 | .ok rk=>match px.foldlM (fW rk) ⟨[],[],[]⟩ with
  | .error d=>some d
  | .ok s=>match rn rk s.gk s.tk with
   | some q=>some (6,kV q.1)
   | none=>match looseD (px.map Mw) with
    | some p=>some (7,.str p.name)
    | none=>none
theorem Jp {lx:List dH} {px:List dI} {d:Nat×V} (h:lx.foldlM f9 []=.error d):kj lx px=some d:=by
 unfold kj
 rw [h]
theorem Ir {lx:List dH} {px:List dI} {rk:List (Key×V)} {d:Nat×V} (h:lx.foldlM f9 []=.ok rk) (h2:px.foldlM (fW rk) ⟨[],[],[]⟩=.error d):kj lx px=some d:=by
 unfold kj
 rw [h]
 dsimp only
 rw [h2]
theorem Ls {lx:List dH} {px:List dI} {rk:List (Key×V)} {s:Ro} {q:Key×V} (h:lx.foldlM f9 []=.ok rk) (h2:px.foldlM (fW rk) ⟨[],[],[]⟩=.ok s) (h3:rn rk s.gk s.tk=some q):kj lx px=some (6,kV q.1):=by
 unfold kj
 rw [h]
 dsimp only
 rw [h2]
 dsimp only
 rw [h3]
theorem Ga {lx:List dH} {ps:List PD} {rk:List (Key×V)} {s:Ro} {p:PD} (h:lx.foldlM f9 []=.ok rk) (h2:(ps.map lR).foldlM (fW rk) ⟨[],[],[]⟩=.ok s) (h3:rn rk s.gk s.tk=none) (hok:∀p∈ps,kW p) (h4:looseD ps=some p):kj lx (ps.map lR)=some (7,.str p.name):=by
 unfold kj
 rw [h]
 dsimp only
 rw [h2]
 dsimp only
 rw [h3]
 dsimp only
 rw [Bj hok,h4]
theorem Iz {lx:List dH} {ps:List PD} {rk:List (Key×V)} {s:Ro} (h:lx.foldlM f9 []=.ok rk) (h2:(ps.map lR).foldlM (fW rk) ⟨[],[],[]⟩=.ok s) (h3:rn rk s.gk s.tk=none) (hok:∀p∈ps,kW p) (h4:looseD ps=none):kj lx (ps.map lR)=none:=by
 unfold kj
 rw [h]
 dsimp only
 rw [h2]
 dsimp only
 rw [h3]
 dsimp only
 rw [Bj hok,h4]
theorem KY {v:V} {a b:List (Key×V)} (h:a.map (·.1)=b.map (·.1)):freshD v a=freshD v b:=by
 cases v with
 | str z=>
  have e:(bx a (Sum.inr z)).isSome=(bx b (Sum.inr z)).isSome:=by
   cases ha:(bx a (Sum.inr z)).isSome <;> cases hb:(bx b (Sum.inr z)).isSome
   ·rfl
   ·exact absurd (h ▸ tY hb) (lL ha)
   ·exact absurd (h ▸ tY ha) (lL hb)
   ·rfl
  unfold freshD
  simp only [e]
 | _=>rfl
inductive Kl (K:PySem.W.Frag) (H:Hp) (v:V) (x:dH):Prop where
 | mk:∀q f,v=.ref q->H q=some (.tup [x.name,x.room,.ref f])->uG K H f x.first->Hx x.name->Hx x.room->((∀v∈x.first,Hx v))->x.first.length<=1000->Kl K H v x
inductive O9 (K:PySem.W.Frag) (H:Hp) (v:V) (x:dI):Prop where
 | mk:∀q a1 a2 a3,v=.ref q->H q=some (.tup [.str x.kind,x.name,.ref a1,.ref a2,.ref a3])->uG K H a1 x.nums->uG K H a2 (x.ins.map kO)->uG K H a3 (x.outs.map kO)->Hx x.name->((∀v∈x.nums,Hx v))->x.nums.length<=1000->O9 K H v x
structure Ua (K:PySem.W.Frag) (H:Hp) (Ll Lp:Addr) (lx:List dH) (px:List dI):Prop where
 ll:∃xs,bH K H Ll xs/\dY (Kl K H) xs lx
 lp:∃xs,bH K H Lp xs/\dY (O9 K H) xs px
noncomputable def HN (ls:List bB):Prop:=(ls.map (·.name)).Nodup/\(∀l∈ls,nameB l.name=true)/\∀l∈ls,1<=l.room/\l.room<=199/\(l.first.length:Int)<=l.room/\∀v∈l.first,0<=v/\v <1000000000
structure Em (ls:List bB) (ps:List PD):Prop where
 ok:∀p∈ps,kW p
 nm:∀p∈ps,nameB p.name=true
 nd:(ps.map (·.name)).Nodup
 ni:(ps.flatMap (·.ins)).Nodup
 no:(ps.flatMap (·.outs)).Nodup
 si:∀z∈ps.flatMap (·.ins),z∈ls.map (·.name)
 so:∀z∈ps.flatMap (·.outs),z∈ls.map (·.name)
theorem BV {α β:Type} {f:α->β} {xs:List α} {x:α} (h:(xs.map f).Nodup) (n:f x∉xs.map f):((xs ++ [x]).map f).Nodup:=by
 rw [List.map_append,List.nodup_append]
 refine⟨h,by simp,λa ha b hb=>?_⟩
 have:b=f x:=by simpa using hb
 subst this
 exact λz=>n (z ▸ ha)
theorem Eh {f:PD->List Str} {ps:List PD} {p:PD} (h:(ps.flatMap f).Nodup) (hp:(f p).Nodup) (n:∀z∈f p,z∉ps.flatMap f):((ps ++ [p]).flatMap f).Nodup:=by
 rw [List.flatMap_append,List.flatMap_singleton,List.nodup_append]
 exact⟨h,hp,λa ha b hb z=>n b hb (z ▸ ha)⟩
theorem HN.snoc {ls:List bB} {l:bB} (h:HN ls) (n:l.name∉ls.map (·.name)) (b:nameB l.name=true) (o:1<=l.room/\l.room<=199/\(l.first.length:Int)<=l.room/\∀v∈l.first,0<=v/\v <1000000000):HN (ls ++ [l]):=by
 refine⟨BV h.1 n,λx hx=>?_,λx hx=>?_⟩
 ·rcases List.mem_append.mp hx with e | e
  ·exact h.2.1 x e
  ·rw [List.mem_singleton] at e;subst e;exact b
 ·rcases List.mem_append.mp hx with e | e
  ·exact h.2.2 x e
  ·rw [List.mem_singleton] at e;subst e;exact o
theorem Em.snoc {ls:List bB} {ps:List PD} {p:PD} (h:Em ls ps) (o:kW p) (b:nameB p.name=true) (n:p.name∉ps.map (·.name)) (di:p.ins.Nodup) (dO:p.outs.Nodup) (fi:∀z∈p.ins,z∈ls.map (·.name)/\z∉ps.flatMap (·.ins)) (fo:∀z∈p.outs,z∈ls.map (·.name)/\z∉ps.flatMap (·.outs)):Em ls (ps ++ [p]):=by
 have each:∀{P:PD->Prop},(∀q∈ps,P q)->P p->∀q∈ps ++ [p],P q:=λh hp q hq=>by
  rcases List.mem_append.mp hq with e | e
  ·exact h q e
  ·rw [List.mem_singleton] at e;subst e;exact hp
 refine⟨each h.ok o,each h.nm b,BV h.nd n,Eh h.ni di λz hz=>(fi z hz).2,Eh h.no dO λz hz=>(fo z hz).2,?_,?_⟩
 ·intro z hz
  rw [List.flatMap_append,List.flatMap_singleton] at hz
  rcases List.mem_append.mp hz with e | e
  ·exact h.si z e
  ·exact(fi z e).1
 ·intro z hz
  rw [List.flatMap_append,List.flatMap_singleton] at hz
  rcases List.mem_append.mp hz with e | e
  ·exact h.so z e
  ·exact(fo z e).1
theorem Dp {f:PD->List Str}:∀{ps:List PD},(∀p∈ps,(f p).length<=3)->(ps.flatMap f).length<=3 * ps.length
 | [],_=>by simp
 | p:: r,h=>by
  have h1:=h p (.head _)
  have h2:=Dp (f:=f) (ps:=r) λq hq=>h q (.tail _ hq)
  rw [List.flatMap_cons,lP,List.length_cons]
  lia
theorem Tr.butd {H Hk H':Hp} {f d:Addr} {o:HO} {L:List (Addr×HO)} (T:Tr H f L Hk) (hm:(d,o)∈L) (hd:d≠f) (b:iI d Hk H'):iI f H H':=λx u hb e=>b _ _ (λz=>by
 subst z
 rcases T.fre _ hm with h | h
 ·exact hd h
 ·rw [show H x=none from h] at e;cases e) (T.but _ _ hb e)
inductive qX (K:PySem.W.Frag) (t:Af) (vs:List V) (H:Hp) (Q:VK) (E:XK):Prop where
 | mk:∀(n dx Ll Lp:Addr) (lx:List dH) (px:List dI),vs=[.ref n,.ref Ll,.ref Lp]->H n=some (.ins t.cZ dx [])->Ua K H Ll Lp lx px->(((1<=lx.length/\lx.length<=24/\1<=px.length/\px.length<=16)->kj lx px=none->∀ls ps,lx=ls.map Kc->px=ps.map lR->Oi ls ps->∀H',iI n H H'->J0 K t H' n ls ps->Q .non H'))->((¬(1<=lx.length/\lx.length<=24/\1<=px.length/\px.length<=16)->∀H',iI n H H'->E (.ref t.dw) none H'))->(((1<=lx.length/\lx.length<=24/\1<=px.length/\px.length<=16)->∀i v,kj lx px=some (i,v)->∀dx H',iI n H H'->H' dx=some (.xd [(tK i,v)])->E (.ref (Vn t i)) (some dx) H'))->qX K t vs H Q E
theorem qQ (T:Txt w K mg t):jd P w K mg base (oU P w) 6 t.jh (fdOf K t.jh) ["self", "lanes", "parts"] (qX K t):=by
 have sc:=T.eZ.sc ["self", "lanes", "parts", "lane", "row", "part"]
 refine T.eZ.F.ok2 sc ln (λ_ _ _ _ H vs Q E hr h=>?_)
 obtain⟨n,dx,Ll,Lp,lx,px,rfl,hn,hH,k,kT,kE⟩:=h
 refine⟨_,(aA (aV (iD (Ca T) (hr.mono (by decide)) (by rfl) T.iu.m T.iu.F.kp T.iu.b .nil (uz λ_ _ _ h=>h) (aa (pv 1) (aa (pv 2) ao aj) aj)))
  (aA (pX (pv 0) oY rfl)
  (aA (pX (pv 0) oY rfl)
  (aA (fM PassesOwn.leaving rfl (dB (pv 1)) (gN sc 3)
   (aA (aV (iD (vA T) (hr.mono (by decide)) (by rfl) T.eE.m T.eE.F.kp T.eE.b .nil (uz λ_ _ _ h=>h) (aa (aZ dM (pv 3) au (λ_ _=>rfl)) (aa (dq (pv 0) rfl) ao aQ) aF)))
   (aA (aV (iD (Gp T) (hr.mono (by decide)) (by rfl) T.jY.m T.jY.F.kp T.jY.b .nil (uz λ_ _ _ h=>h) (aa (aZ dM (pv 3) au (λ_ _=>rfl)) (aa (aZ dM (pv 3) au (λ_ _=>rfl)) (aa (aZ dM (pv 3) au (λ_ _=>rfl)) ao aF) aF) aF)))
   (aA (qx hr.u1 (dq (pv 0) rfl) (aZ dM (pv 3) au (λ_ _=>rfl)) (aZ dM (pv 3) au (λ_ _=>rfl)) rfl)
   (az (qx hr.u1 (dq (pv 0) rfl) (aZ dM (pv 3) au (λ_ _=>rfl)) (bV oX (by rfl) T.nM j8 (aa (aZ dM (pv 3) au (λ_ _=>rfl)) ao aF)) rfl))))))
  (aA (pX (pv 0) oY rfl)
  (aA (pX (pv 0) oY rfl)
  (aA (pX (pv 0) oY rfl)
  (aA (fM PassesOwn.leaving rfl (dB (pv 2)) (gN sc 4)
   (aA (sN sc 5 (iD (DN T) (hr.mono (by decide)) (by rfl) T.je.m T.je.F.kp T.je.b .nil (uz λ_ _ _ h=>h) (aa (pv 4) (aa (dq (pv 0) rfl) ao aQ) aj)))
   (aA (aV (iD (xY T) (hr.mono (by decide)) (by rfl) T.fD.m T.fD.F.kp T.fD.b .nil (uz λ_ _ _ h=>h) (aa (dq (pv 5) rfl) (aa (dq (pv 5) rfl) (aa (dq (pv 0) rfl) (aa (dq (pv 0) rfl) ao aQ) aQ) aQ) aQ)))
   (aA (aV (iD (xY T) (hr.mono (by decide)) (by rfl) T.fD.m T.fD.F.kp T.fD.b .nil (uz λ_ _ _ h=>h) (aa (dq (pv 5) rfl) (aa (dq (pv 5) rfl) (aa (dq (pv 0) rfl) (aa (dq (pv 0) rfl) ao aQ) aQ) aQ) aQ)))
   (az (qx hr.u1 (dq (pv 0) rfl) (dq (pv 5) rfl) (pv 5) rfl))))))
  (aA (aV (iD (GK T) (hr.mono (by decide)) (by rfl) T.jW.m T.jW.F.kp T.jW.b .nil (uz λ_ _ _ h=>h) (aa (dq (pv 0) rfl) (aa (dq (pv 0) rfl) (aa (dq (pv 0) rfl) ao aQ) aQ) aQ)))
  (az (aV (iD (CT T) (hr.mono (by decide)) (by rfl) T.ir.m T.ir.F.kp T.ir.b .nil (uz λ_ _ _ h=>h) (aa (bV (Bb rfl) (by rfl) T.v9 qt (aa (dq (pv 0) rfl) ao aQ)) (aa (dq (pv 0) rfl) (aa (dq (pv 0) rfl) ao aQ) aQ) bc))))))))))))),?_⟩
 have hl:sizeLine=16777216:=sizeLine_eq
 obtain⟨xs,hLl,aL⟩:=hH.ll
 obtain⟨ys,hLp,aP⟩:=hH.lp
 have lxl:=aL.length
 have lyl:=aP.length
 refine⟨_,rfl,_,rfl,Ll,Lp,_,_,rfl,hLl,hLp,λcn=>?_,λcn=>kT (by rw [<-lxl,<-lyl];exact cn) _ (iI.refl _)⟩
 have cn':1<=lx.length/\lx.length<=24/\1<=px.length/\px.length<=16:=by rw [<-lxl,<-lyl];exact cn
 have k:=k cn'
 have kE:=kE cn'
 obtain⟨l1,l24,p1,p16⟩:=cn'
 clear kT cn
 have T0:=Tr.start hn
 refine λR nR=>?_
 have T1:=T0.new (o:=.dK []) nR
 have gR:=aC (o:=.dK []) nR
 generalize upd H R (.dK [])=H1 at T1 gR ⊢
 have cR:=T1.all (n,.ins t.cZ dx []) (.head _)
 refine⟨_,rfl,n,_,dx,_,rfl,cR,T.bT.c,T.bT.na.1,Nat.lt_of_le_of_lt (show 0<=0 from Nat.le_refl 0) (by decide),?_⟩
 have T2:=T1.put (L1:=[]) (o':=.ins t.cZ dx (bf "rooms" (.ref R) []))
 have wR:iI n H1 (upd H1 n (.ins t.cZ dx (bf "rooms" (.ref R) []))):=iI.write
 generalize upd H1 n (.ins t.cZ dx (bf "rooms" (.ref R) []))=H2 at T2 wR ⊢
 refine λF nF=>?_
 have T3:=T2.new (o:=.dK []) nF
 have gF:=aC (o:=.dK []) nF
 generalize upd H2 F (.dK [])=H3 at T3 gF ⊢
 have cF:=T3.all (n,.ins t.cZ dx (bf "rooms" (.ref R) [])) (.head _)
 refine⟨_,rfl,n,_,dx,_,rfl,cF,T.bT.c,T.bT.na.2.1,Nat.lt_of_le_of_lt (uN (Nat.zero_le 0)) (by decide),?_⟩
 have T4:=T3.put (L1:=[]) (o':=.ins t.cZ dx (bf "firsts" (.ref F) (bf "rooms" (.ref R) [])))
 have wF:iI n H3 (upd H3 n (.ins t.cZ dx (bf "firsts" (.ref F) (bf "rooms" (.ref R) [])))):=iI.write
 generalize upd H3 n (.ins t.cZ dx (bf "firsts" (.ref F) (bf "rooms" (.ref R) [])))=H4 at T4 wF ⊢
 have kb:∀{Hk:Hp} {q:Addr} {u:HO},iI n H Hk->H q=some u->(∀C d f,u≠.ins C d f)->Hk q=some u:=λb h hu=>b _ _ (zc h hn (by intro z;exact hu _ _ _ z)) h
 refine⟨_,rfl,Ll,rfl,⟨_,T4.but.seqL hn hLl⟩,jl (K:=K) (a:=Ll) (xs:=xs) (λj σ H'=>(∃x3,σ=[some (.ref n),some (.ref Ll),some (.ref Lp),x3,none,none])/\∃(ls:List bB) (FL:List (bB×Addr)),lx.take j=ls.map Kc/\(lx.take j).foldlM f9 []=.ok (aR ls)/\HN ls/\FL.map (·.1)=ls/\Tr H n [(n,.ins t.cZ dx (bf "firsts" (.ref F) (bf "rooms" (.ref R) []))),(R,.dK (aR ls)),(F,.dK (eV FL))] H'/\∀q∈FL,d7 K H' q.2 (q.1.first.map V.int)) ⟨⟨none,rfl⟩,[],[],rfl,rfl,⟨by simp,by simp,by simp⟩,rfl,T4,by simp⟩ (λj σ H' _ ⟨_,_,_,_,_,_,_,T',_⟩=>T'.but.seqL hn hLl) ?_ ?_⟩
 ·rintro j x σ H' hx ⟨⟨x3,rfl⟩,ls,FL,eLs,fLs,gL,eFL,T4,hS⟩
  obtain⟨X,hlj,q,f,rfl,hq,hf,hT1,hT2,hTf,hfl⟩:=aL.get hx
  have hj:=(List.getElem?_eq_some_iff.mp hlj).1
  have lls:ls.length=j:=by have:=congrArg List.length eLs;rw [lM,List.length_take] at this;lia
  have kq:∀{Hk:Hp},iI n H Hk->Hk q=some (.tup [X.name,X.room,.ref f]):=λb=>kb b hq (by intro _ _ _ z;cases z)
  have bad:∀{d},f9 (aR ls) X=.error d->kj lx px=some d:=λe=>Jp (wz fLs hlj e)
  have e4:=T4.all (n,.ins t.cZ dx (bf "firsts" (.ref F) (bf "rooms" (.ref R) []))) (.head _)
  refine Oh λDe hD u hu=>?_
  refine⟨_,rfl,q,_,0,_,rfl,rfl,d7.of (kq T4.but),aH (j:=0) rfl,_,rfl,n,_,dx,_,_,rfl,e4,T.bT.c,T.bT.na.1,(by (repeat first | (rw [aG,if_pos rfl];done) | rw [aG,if_neg (by decide +kernel)])),X.name,R,_,rfl,hT1,T4.all (R,.dK (aR ls)) (by simp),λd1 H5 s5=>?_,λi v e dx H' s ed=>kE i v (bad (by unfold f9;rw [e])) dx H' (T4.same s).but ed⟩
  have T5:=T4.same s5
  refine cM (v:=u) hu λu hu=>?_
  refine⟨_,rfl,q,_,0,_,rfl,rfl,d7.of (kq T5.but),aH (j:=0) rfl,_,rfl,q,_,1,_,rfl,rfl,d7.of (kq T5.but),aH (j:=1) rfl,_,rfl,q,_,2,_,rfl,rfl,d7.of (kq T5.but),aH (j:=2) rfl,X.name,X.room,f,X.first,rfl,hT2,T5.but.seqA hn hf,hfl,hTf,λd2 H6 s6=>?_,λi v e dx H' s ed=>kE i v (bad (by unfold f9;rw [d1];dsimp only;rw [e])) dx H' (T5.same s).but ed⟩
  have T6:=T5.same s6
  have fok:f9 (aR ls) X=.ok (aR ls ++ [(QM X.name,X.room)]):=by unfold f9;rw [d1];dsimp only;rw [d2]
  obtain⟨l,rfl,eK,hnm,nin,v1,v2,v3,v4⟩:=Ib fok
  clear bad
  have vR:bx (aR ls) (Sum.inr l.name)=none:=uc (by rw [j6];intro z;obtain⟨b,hb,e⟩:=List.mem_map.mp z;cases e;exact nin hb)
  have vF:bx (eV FL) (Sum.inr l.name)=none:=uc (by rw [wJ,eFL];intro z;obtain⟨b,hb,e⟩:=List.mem_map.mp z;cases e;exact nin hb)
  have e6:=T6.all (n,.ins t.cZ dx (bf "firsts" (.ref F) (bf "rooms" (.ref R) []))) (.head _)
  have eR6:=T6.all (R,.dK (aR ls)) (by simp)
  refine cM (v:=u) hu λu hu=>?_
  refine⟨_,rfl,q,_,1,_,rfl,rfl,d7.of (kq T6.but),aH (j:=1) rfl,_,rfl,n,_,dx,_,_,rfl,e6,T.bT.c,T.bT.na.1,(by (repeat first | (rw [aG,if_pos rfl];done) | rw [aG,if_neg (by decide +kernel)])),_,rfl,q,_,0,_,rfl,rfl,d7.of (kq T6.but),aH (j:=0) rfl,R,_,rfl,Bu.k (k:=Sum.inr l.name) eR6 (by unfold aR;rw [lM];lia),?_⟩
  have e7:putK (aR ls) (Sum.inr l.name) (Kc l).room=aR (ls ++ [l]):=by rw [sI _ vR];unfold aR;rw [List.map_append];rfl
  have T7:=T6.put (L1:=[_]) (o':=.dK (aR (ls ++ [l])))
  rw [e7]
  have hS7:∀q∈FL,d7 K (upd H6 R (.dK (aR (ls ++ [l])))) q.2 (q.1.first.map V.int):=λq hq=>eQ eR6 (s6.seqT (s5.seqT (hS q hq)))
  generalize upd H6 R (.dK (aR (ls ++ [l])))=H7 at T7 hS7 ⊢
  subst hu
  refine⟨_,rfl,q,_,2,_,rfl,rfl,d7.of (kq T7.but),aH (j:=2) rfl,f,_,rfl,T7.but.seqA hn hf,λH8 F0 s8 t8=>?_⟩
  have T8:=T7.same s8
  have e8:=T8.all (n,.ins t.cZ dx (bf "firsts" (.ref F) (bf "rooms" (.ref R) []))) (.head _)
  have eF8:=T8.all (F,.dK (eV FL)) (by simp)
  have lFL:FL.length<=24:=by have:=congrArg List.length eFL;rw [lM] at this;lia
  refine⟨_,rfl,n,_,dx,_,_,rfl,e8,T.bT.c,T.bT.na.2.1,(by (repeat first | (rw [aG,if_pos rfl];done) | rw [aG,if_neg (by decide +kernel)])),_,rfl,q,_,0,_,rfl,rfl,d7.of (kq T8.but),aH (j:=0) rfl,F,_,rfl,Bu.k (k:=Sum.inr l.name) eF8 (by unfold eV;rw [lM];lia),?_⟩
  have e9:putK (eV FL) (Sum.inr l.name) (.ref F0)=eV (FL ++ [(l,F0)]):=by rw [sI _ vF];unfold eV;rw [List.map_append];rfl
  have T9:=T8.put (L1:=[_,_]) (o':=.dK (eV (FL ++ [(l,F0)])))
  rw [e9]
  subst hD
  refine⟨⟨_,rfl⟩,ls ++ [l],FL ++ [(l,F0)],?_,?_,gL.snoc nin hnm ⟨v1,v2,v3,v4⟩,by rw [List.map_append,eFL];rfl,T9,λq hq=>?_⟩
  ·rw [List.take_succ,hlj,eLs,List.map_append];rfl
  ·rw [oW fLs hlj,fok,eK]
  rcases List.mem_append.mp hq with h | h
  ·exact eQ eF8 (s8.seqT (hS7 q h))
  ·rw [List.mem_singleton] at h
   subst h
   exact eQ eF8 t8
 rintro σ H9 ⟨⟨x3,rfl⟩,ls,FL,eLs,fLs,gL,eFL,T9,t9⟩
 rw [lxl,List.take_length] at eLs fLs
 have lls:ls.length=lx.length:=by rw [eLs,lM]
 clear T0 T1 T2 T3 T4
 refine λPd nPd=>?_
 have T10:=T9.new (o:=.dK []) nPd
 have gPd:=aC (o:=.dK []) nPd
 generalize upd H9 Pd (.dK [])=H10 at T10 gPd ⊢
 have cPd:=T10.all (n,.ins t.cZ dx (bf "firsts" (.ref F) (bf "rooms" (.ref R) []))) (.head _)
 refine⟨_,rfl,n,_,dx,_,rfl,cPd,T.bT.c,T.bT.na.2.2.1,Nat.lt_of_le_of_lt (uN (uN (Nat.zero_le 0))) (by decide),?_⟩
 have T11:=T10.put (L1:=[]) (o':=.ins t.cZ dx (bf "parts" (.ref Pd) (bf "firsts" (.ref F) (bf "rooms" (.ref R) []))))
 have wPd:iI n H10 (upd H10 n (.ins t.cZ dx (bf "parts" (.ref Pd) (bf "firsts" (.ref F) (bf "rooms" (.ref R) []))))):=iI.write
 generalize upd H10 n (.ins t.cZ dx (bf "parts" (.ref Pd) (bf "firsts" (.ref F) (bf "rooms" (.ref R) []))))=H11 at T11 wPd ⊢
 refine λGv nGv=>?_
 have T12:=T11.new (o:=.dK []) nGv
 have gGv:=aC (o:=.dK []) nGv
 generalize upd H11 Gv (.dK [])=H12 at T12 gGv ⊢
 have cGv:=T12.all (n,.ins t.cZ dx (bf "parts" (.ref Pd) (bf "firsts" (.ref F) (bf "rooms" (.ref R) [])))) (.head _)
 refine⟨_,rfl,n,_,dx,_,rfl,cGv,T.bT.c,T.bT.na.2.2.2.1,Nat.lt_of_le_of_lt (uN (uN (uN (Nat.zero_le 0)))) (by decide),?_⟩
 have T13:=T12.put (L1:=[]) (o':=.ins t.cZ dx (bf "givers" (.ref Gv) (bf "parts" (.ref Pd) (bf "firsts" (.ref F) (bf "rooms" (.ref R) [])))))
 have wGv:iI n H12 (upd H12 n (.ins t.cZ dx (bf "givers" (.ref Gv) (bf "parts" (.ref Pd) (bf "firsts" (.ref F) (bf "rooms" (.ref R) [])))))):=iI.write
 generalize upd H12 n (.ins t.cZ dx (bf "givers" (.ref Gv) (bf "parts" (.ref Pd) (bf "firsts" (.ref F) (bf "rooms" (.ref R) [])))))=H13 at T13 wGv ⊢
 refine λTk nTk=>?_
 have T14:=T13.new (o:=.dK []) nTk
 have gTk:=aC (o:=.dK []) nTk
 generalize upd H13 Tk (.dK [])=H14 at T14 gTk ⊢
 have cTk:=T14.all (n,.ins t.cZ dx (bf "givers" (.ref Gv) (bf "parts" (.ref Pd) (bf "firsts" (.ref F) (bf "rooms" (.ref R) []))))) (.head _)
 refine⟨_,rfl,n,_,dx,_,rfl,cTk,T.bT.c,T.bT.na.2.2.2.2.1,Nat.lt_of_le_of_lt (uN (uN (uN (uN (Nat.zero_le 0))))) (by decide),?_⟩
 have T15:=T14.put (L1:=[]) (o':=.ins t.cZ dx (bf "takers" (.ref Tk) (bf "givers" (.ref Gv) (bf "parts" (.ref Pd) (bf "firsts" (.ref F) (bf "rooms" (.ref R) []))))))
 have wTk:iI n H14 (upd H14 n (.ins t.cZ dx (bf "takers" (.ref Tk) (bf "givers" (.ref Gv) (bf "parts" (.ref Pd) (bf "firsts" (.ref F) (bf "rooms" (.ref R) []))))))):=iI.write
 generalize upd H14 n (.ins t.cZ dx (bf "takers" (.ref Tk) (bf "givers" (.ref Gv) (bf "parts" (.ref Pd) (bf "firsts" (.ref F) (bf "rooms" (.ref R) []))))))=H15 at T15 wTk ⊢
 have T15:Tr H n [(n,.ins t.cZ dx (bf "takers" (.ref Tk) (bf "givers" (.ref Gv) (bf "parts" (.ref Pd) (bf "firsts" (.ref F) (bf "rooms" (.ref R) [])))))),(R,.dK (aR ls)),(F,.dK (eV FL)),(Pd,.dK []),(Gv,.dK []),(Tk,.dK [])] H15:=T15
 have t15:∀q∈FL,d7 K H15 q.2 (q.1.first.map V.int):=λq hq=>wTk.seqT cTk (gTk.seqT (wGv.seqT cGv (gGv.seqT (wPd.seqT cPd (gPd.seqT (t9 q hq))))))
 have nod:=T15.nod
 simp only [List.map_append,List.map_cons,List.map_nil,List.nil_append,List.cons_append,List.nodup_cons,List.mem_cons,List.not_mem_nil,or_false,not_or] at nod
 have nnR:R≠n:=Ne.symm nod.1.1
 have nnG:Gv≠n:=Ne.symm nod.1.2.2.2.1
 have nnT:Tk≠n:=Ne.symm nod.1.2.2.2.2
 have nRF:R≠F:=nod.2.1.1
 have nRT:R≠Tk:=nod.2.1.2.2.2
 have nRG:R≠Gv:=nod.2.1.2.2.1
 have nGT:Gv≠Tk:=nod.2.2.2.2.1
 clear nod
 refine⟨_,rfl,Lp,rfl,⟨_,T15.but.seqL hn hLp⟩,jl (K:=K) (a:=Lp) (xs:=ys) (λj σ H'=>(∃x3 x4 x5,σ=[some (.ref n),some (.ref Ll),some (.ref Lp),x3,x4,x5])/\∃(ps:List PD) (s:Ro) (PL:List (PD×Addr)),px.take j=ps.map lR/\(px.take j).foldlM (fW (aR ls)) ⟨[],[],[]⟩=.ok s/\s.pk.map (·.1)=ps.map (λp=>(Sum.inr p.name:Key))/\s.tk=bC (·.ins) ps/\s.gk=bC (·.outs) ps/\Em ls ps/\PL.map (·.1)=ps/\Tr H n [(n,.ins t.cZ dx (bf "takers" (.ref Tk) (bf "givers" (.ref Gv) (bf "parts" (.ref Pd) (bf "firsts" (.ref F) (bf "rooms" (.ref R) [])))))),(R,.dK (aR ls)),(F,.dK (eV FL)),(Pd,.dK (dm PL)),(Gv,.dK (bC (·.outs) ps)),(Tk,.dK (bC (·.ins) ps))] H'/\(∀q∈FL,d7 K H' q.2 (q.1.first.map V.int))/\∀q∈PL,iM K t H' q.2 q.1.kind (.str q.1.name) (q.1.nums.map V.int) (q.1.ins.map V.str) (q.1.outs.map V.str)) ⟨⟨x3,none,none,rfl⟩,[],⟨[],[],[]⟩,[],rfl,rfl,rfl,rfl,rfl,⟨by simp,by simp,by simp,by simp,by simp,by simp,by simp⟩,rfl,T15,t15,by simp⟩ (λj σ H' _ ⟨_,_,_,_,_,_,_,_,_,_,_,T',_⟩=>T'.but.seqL hn hLp) ?_ ?_⟩
 ·rintro j x σ H' hx ⟨⟨x3,x4,x5,rfl⟩,ps,s,PL,ePs,fPs,sp,st,sg,gP,ePL,T15,hS,hP⟩
  obtain⟨X,hpj,r,a1,a2,a3,rfl,hr,q1,q2,q3,hT1,hTn,hnl⟩:=aP.get hx
  have hj:=(List.getElem?_eq_some_iff.mp hpj).1
  have lps:ps.length=j:=by have:=congrArg List.length ePs;rw [lM,List.length_take] at this;lia
  have bad:∀{d},fW (aR ls) s X=.error d->kj lx px=some d:=λe=>Ir fLs (wz fPs hpj e)
  have fk:freshD X.name (dm PL)=freshD X.name s.pk:=KY (by rw [sZ,sp,ePL,List.map_map];rfl)
  have e15:=T15.all (n,.ins t.cZ dx (bf "takers" (.ref Tk) (bf "givers" (.ref Gv) (bf "parts" (.ref Pd) (bf "firsts" (.ref F) (bf "rooms" (.ref R) [])))))) (.head _)
  refine Oh λDe hD u hu=>?_
  refine⟨_,rfl,_,rfl,n,_,dx,_,_,rfl,e15,T.bT.c,T.bT.na.2.2.1,(by (repeat first | (rw [aG,if_pos rfl];done) | rw [aG,if_neg (by decide +kernel)])),X.kind,X.name,r,Pd,a1,a2,a3,_,_,_,_,rfl,kb T15.but hr (by intro _ _ _ z;cases z),T15.all (Pd,.dK (dm PL)) (by simp),hT1,T15.but.seqA hn q1,T15.but.seqA hn q2,T15.but.seqA hn q3,hTn,hnl,?_⟩
  cases hk:RW X.kind with
  | none=>exact .inl ⟨NQ hk,λi v e dx H' s ed=>kE i v ((bad (by unfold fW;rw [hk])).trans e) dx H' (T15.same s).but ed⟩
  | some i=>
  refine .inr ⟨i,(xW hk).1,(xW hk).2,λi v e dx H' s ed=>kE i v (bad (by unfold fW;rw [hk];dsimp only;rw [<-fk,e])) dx H' (T15.same s).but ed,λd1=>⟨λd2 H16 pp s16 npp Pp=>?_,λi v e dx H' s ed=>kE i v (bad (by unfold fW;rw [hk];dsimp only;rw [<-fk,d1];dsimp only;rw [e])) dx H' (T15.same s).but ed⟩⟩
  have T16:=T15.same s16
  obtain⟨dxp,tn,ti,to,z1,z2,z3,z4⟩:=id Pp.ex
  have e16:=T16.all (n,.ins t.cZ dx (bf "takers" (.ref Tk) (bf "givers" (.ref Gv) (bf "parts" (.ref Pd) (bf "firsts" (.ref F) (bf "rooms" (.ref R) [])))))) (.head _)
  have eTk:=T16.all (Tk,.dK (bC (·.ins) ps)) (by simp)
  obtain⟨_,lI,lO,_⟩:=Je d2
  rw [lM] at lI lO
  have h3I:X.ins.length<=3:=by rw [lI];exact PB _
  have h3O:X.outs.length<=2:=by rw [lO];exact Le _
  have li:(bC (·.ins) ps).length<=48:=by
   rw [Ft]
   have:=Dp (f:=(·.ins)) (ps:=ps) λp hp=>by rw [(gP.ok p hp).2.2.1];exact PB _
   lia
  have lo:(bC (·.outs) ps).length<=48:=by
   rw [Ft]
   have:=Dp (f:=(·.outs)) (ps:=ps) λp hp=>by rw [(gP.ok p hp).2.2.2.1];exact Nat.le_trans (Le _) (by decide)
   lia
  have sX:fW (aR ls) s X=if (cH (aR ls) X.name s.tk X.ins).2=true then(if (cH (aR ls) X.name s.gk X.outs).2=true then .ok ⟨s.pk ++ [(QM X.name,.non)],(cH (aR ls) X.name s.tk X.ins).1,(cH (aR ls) X.name s.gk X.outs).1⟩ else .error (5,X.name)) else .error (5,X.name):=by unfold fW;rw [hk];dsimp only;rw [<-fk,d1];dsimp only;rw [d2]
  rw [st,sg] at sX
  refine cM (v:=u) hu λu hu=>?_
  refine⟨_,rfl,pp,_,dxp,_,_,rfl,z1,jH T i,xZ T i,uH _ _ _ _,_,rfl,pp,_,dxp,_,_,rfl,z1,jH T i,JS T i,Jl _ _ _ _,_,rfl,n,_,dx,_,_,rfl,e16,T.bT.c,T.bT.na.1,(by (repeat first | (rw [aG,if_pos rfl];done) | rw [aG,if_neg (by decide +kernel)])),_,rfl,n,_,dx,_,_,rfl,e16,T.bT.c,T.bT.na.2.2.2.2.1,(by (repeat first | (rw [aG,if_pos rfl];done) | rw [aG,if_neg (by decide +kernel)])),X.name,ti,R,Tk,X.ins,_,_,rfl,z3,T16.all (R,.dK (aR ls)) (by simp),nRT,eTk,by lia,λb1=>?_,λb1 dx H' b ed=>kE 5 _ (bad (by rw [sX,b1];rfl)) dx H' (T16.butd (d:=Tk) (o:=.dK (bC (·.ins) ps)) (by simp) nnT b) ed⟩
  have T17:=T16.put (L1:=[_,_,_,_,_]) (o':=.dK (cH (aR ls) X.name (bC (·.ins) ps) X.ins).1)
  have Pp17:=Pp.chill (v:=.dK (cH (aR ls) X.name (bC (·.ins) ps) X.ins).1) eTk
  have hS17:∀q∈FL,d7 K (upd H16 Tk (.dK (cH (aR ls) X.name (bC (·.ins) ps) X.ins).1)) q.2 (q.1.first.map V.int):=λq hq=>eQ eTk (s16.seqT (hS q hq))
  have hP17:∀q∈PL,iM K t (upd H16 Tk (.dK (cH (aR ls) X.name (bC (·.ins) ps) X.ins).1)) q.2 q.1.kind (.str q.1.name) (q.1.nums.map V.int) (q.1.ins.map V.str) (q.1.outs.map V.str):=λq hq=>((hP q hq).same s16).chill eTk
  generalize upd H16 Tk (.dK (cH (aR ls) X.name (bC (·.ins) ps) X.ins).1)=H17 at T17 Pp17 hS17 hP17 ⊢
  clear z1 z2 z3 z4 e16
  obtain⟨dxp,tn,ti,to,z1,z2,z3,z4⟩:=id Pp17.ex
  have e17:=T17.all (n,.ins t.cZ dx (bf "takers" (.ref Tk) (bf "givers" (.ref Gv) (bf "parts" (.ref Pd) (bf "firsts" (.ref F) (bf "rooms" (.ref R) [])))))) (.head _)
  have eGv:=T17.all (Gv,.dK (bC (·.outs) ps)) (by simp)
  refine cM (v:=u) hu λu hu=>?_
  refine⟨_,rfl,pp,_,dxp,_,_,rfl,z1,jH T i,xZ T i,uH _ _ _ _,_,rfl,pp,_,dxp,_,_,rfl,z1,jH T i,Gn T i,Fw _ _ _ _,_,rfl,n,_,dx,_,_,rfl,e17,T.bT.c,T.bT.na.1,(by (repeat first | (rw [aG,if_pos rfl];done) | rw [aG,if_neg (by decide +kernel)])),_,rfl,n,_,dx,_,_,rfl,e17,T.bT.c,T.bT.na.2.2.2.1,(by (repeat first | (rw [aG,if_pos rfl];done) | rw [aG,if_neg (by decide +kernel)])),X.name,to,R,Gv,X.outs,_,_,rfl,z4,T17.all (R,.dK (aR ls)) (by simp),nRG,eGv,by lia,λb2=>?_,λb2 dx H' b ed=>kE 5 _ (bad (by rw [sX,b1,b2];rfl)) dx H' (T17.butd (d:=Gv) (o:=.dK (bC (·.outs) ps)) (by simp) nnG b) ed⟩
  rw [if_pos b1,if_pos b2] at sX
  obtain⟨p,rfl,o1,hnm,nin,sp',st',sg',di,do',fi,fo⟩:=Iv sp st sg sX
  have ei:i=p.kind:=Option.some.inj (hk.symm.trans (FW p.kind o1.1))
  subst ei
  clear bad
  have vP:bx (dm PL) (Sum.inr p.name)=none:=uc (by rw [sZ,ePL];intro z;obtain⟨b,hb,e⟩:=List.mem_map.mp z;cases e;exact nin hb)
  have st2:(cH (aR ls) (lR p).name (bC (·.ins) ps) (lR p).ins).1=bC (·.ins) (ps ++ [p]):=st'
  have sg2:(cH (aR ls) (lR p).name (bC (·.outs) ps) (lR p).outs).1=bC (·.outs) (ps ++ [p]):=sg'
  rw [st2] at T17
  rw [sg2]
  have eI:(lR p).ins.map kO=p.ins.map V.str:=by unfold lR;rw [List.map_map];rfl
  have eO:(lR p).outs.map kO=p.outs.map V.str:=by unfold lR;rw [List.map_map];rfl
  rw [eI,eO] at Pp17
  have T18:=T17.put (L1:=[_,_,_,_]) (o':=.dK (bC (·.outs) (ps ++ [p])))
  have Pp18:=Pp17.chill (v:=.dK (bC (·.outs) (ps ++ [p]))) eGv
  have hS18:∀q∈FL,d7 K (upd H17 Gv (.dK (bC (·.outs) (ps ++ [p])))) q.2 (q.1.first.map V.int):=λq hq=>eQ eGv (hS17 q hq)
  have hP18:∀q∈PL,iM K t (upd H17 Gv (.dK (bC (·.outs) (ps ++ [p])))) q.2 q.1.kind (.str q.1.name) (q.1.nums.map V.int) (q.1.ins.map V.str) (q.1.outs.map V.str):=λq hq=>(hP17 q hq).chill eGv
  generalize upd H17 Gv (.dK (bC (·.outs) (ps ++ [p])))=H18 at T18 Pp18 hS18 hP18 ⊢
  clear z1 z2 z3 z4 e17
  obtain⟨dxp,tn,ti,to,z1,z2,z3,z4⟩:=id Pp18.ex
  have e18:=T18.all (n,.ins t.cZ dx (bf "takers" (.ref Tk) (bf "givers" (.ref Gv) (bf "parts" (.ref Pd) (bf "firsts" (.ref F) (bf "rooms" (.ref R) [])))))) (.head _)
  have ePd:=T18.all (Pd,.dK (dm PL)) (by simp)
  have lPL:PL.length<=16:=by have:=congrArg List.length ePL;rw [lM] at this;lia
  subst hu
  refine⟨_,rfl,_,rfl,n,_,dx,_,_,rfl,e18,T.bT.c,T.bT.na.2.2.1,(by (repeat first | (rw [aG,if_pos rfl];done) | rw [aG,if_neg (by decide +kernel)])),_,rfl,pp,_,dxp,_,_,rfl,z1,jH T p.kind,xZ T p.kind,uH _ _ _ _,Pd,_,rfl,Bu.k (k:=Sum.inr p.name) ePd (by unfold dm;rw [lM];lia),?_⟩
  have e19:putK (dm PL) (Sum.inr p.name) (.ref pp)=dm (PL ++ [(p,pp)]):=by rw [sI _ vP];unfold dm;rw [List.map_append];rfl
  have T19:=T18.put (L1:=[_,_,_]) (o':=.dK (dm (PL ++ [(p,pp)])))
  rw [e19]
  subst hD
  refine⟨⟨_,_,_,rfl⟩,ps ++ [p],_,PL ++ [(p,pp)],?_,(oW fPs hpj).trans sX,sp',st',sg',gP.snoc o1 hnm nin di do' fi fo,by rw [List.map_append,ePL];rfl,T19,λq hq=>eQ ePd (hS18 q hq),λq hq=>?_⟩
  ·rw [List.take_succ,hpj,ePs,List.map_append];rfl
  rcases List.mem_append.mp hq with h | h
  ·exact(hP18 q h).chill ePd
  ·rw [List.mem_singleton] at h
   subst h
   exact Pp18.chill ePd
 rintro σ H18 ⟨⟨x3,x4,x5,rfl⟩,ps,s,PL,ePs,fPs,sp,st,sg,gP,ePL,T18,hS,hP⟩
 rw [lyl,List.take_length] at ePs fPs
 have lps:ps.length=px.length:=by rw [ePs,lM]
 subst ePs
 subst eLs
 have e18:=T18.all (n,.ins t.cZ dx (bf "takers" (.ref Tk) (bf "givers" (.ref Gv) (bf "parts" (.ref Pd) (bf "firsts" (.ref F) (bf "rooms" (.ref R) [])))))) (.head _)
 have eR:=T18.all (R,.dK (aR ls)) (by simp)
 have eF:=T18.all (F,.dK (eV FL)) (by simp)
 have ePd:=T18.all (Pd,.dK (dm PL)) (by simp)
 have eGv:=T18.all (Gv,.dK (bC (·.outs) ps)) (by simp)
 have eTk:=T18.all (Tk,.dK (bC (·.ins) ps)) (by simp)
 refine⟨_,rfl,n,_,dx,_,_,rfl,e18,T.bT.c,T.bT.na.1,(by (repeat first | (rw [aG,if_pos rfl];done) | rw [aG,if_neg (by decide +kernel)])),_,rfl,n,_,dx,_,_,rfl,e18,T.bT.c,T.bT.na.2.2.2.1,(by (repeat first | (rw [aG,if_pos rfl];done) | rw [aG,if_neg (by decide +kernel)])),_,rfl,n,_,dx,_,_,rfl,e18,T.bT.c,T.bT.na.2.2.2.2.1,(by (repeat first | (rw [aG,if_pos rfl];done) | rw [aG,if_neg (by decide +kernel)])),R,Gv,Tk,_,_,_,rfl,eR,eGv,eTk,nRG,nRT,λd1=>?_,λq d1 dx H' b ed=>kE 6 _ (Ls fLs fPs (by rw [st,sg];exact d1)) dx H' (T18.butd (d:=R) (o:=.dK (aR ls)) (by simp) nnR b) ed⟩
 have en:=FN d1
 have po:=Fz gL.1 gP.no gP.so λq hq=>(en q hq).1
 have pi:=Fz gL.1 gP.ni gP.si λq hq=>(en q hq).2
 refine⟨_,rfl,n,_,dx,_,_,rfl,e18,T.bT.c,T.bT.na.2.2.1,(by (repeat first | (rw [aG,if_pos rfl];done) | rw [aG,if_neg (by decide +kernel)])),Pd,_,rfl,.inl ePd,λl nl=>?_⟩
 have s19:=aC (o:=.lst ((dm PL).map λp=>kV p.1)) nl
 have eL:(dm PL).map (λp=>kV p.1)=ps.map λp=>V.str p.name:=by unfold dm;rw [List.map_map,<-ePL,List.map_map];rfl
 refine⟨_,rfl,n,_,dx,_,_,rfl,(s19 _ _ e18),T.bT.c,T.bT.na.2.2.2.1,(by (repeat first | (rw [aG,if_pos rfl];done) | rw [aG,if_neg (by decide +kernel)])),_,rfl,n,_,dx,_,_,rfl,(s19 _ _ e18),T.bT.c,T.bT.na.2.2.2.2.1,(by (repeat first | (rw [aG,if_pos rfl];done) | rw [aG,if_neg (by decide +kernel)])),l,Gv,Tk,ps,rfl,bH.of (by rw [<-eL];exact aq),by lia,by lia,s19 _ _ eGv,s19 _ _ eTk,nGT,gP.no,gP.ni,po.trans pi.symm,λd2 H20 s20=>?_,λp d2 dx H' s ed=>kE 7 _ (Ga fLs fPs (by rw [st,sg];exact d1) gP.ok d2) dx H' (λb u hb e=>s _ _ (s19 _ _ (T18.but b u hb e))) ed⟩
 have s':=s19.trans s20
 have hF:Oi ls ps:=⟨gL.2.2,gP.ok,gL.2.1,gP.nm,gP.nd,⟨gL.1,po,pi,JN gP.nd gP.ok d2⟩,by lia,by lia,by lia,by lia⟩
 refine k (Iz fLs fPs (by rw [st,sg];exact d1) gP.ok d2) ls ps rfl rfl hF _ (λb u hb e=>s' _ _ (T18.but b u hb e)) ⟨dx,_,R,F,Pd,Gv,Tk,FL,PL,s' _ _ e18,⟨?_,?_⟩,s' _ _ eR,s' _ _ eF,s' _ _ ePd,s' _ _ eGv,s' _ _ eTk,eFL,ePL,λq hq=>s'.seqT (hS q hq),λq hq=>(hP q hq).same s',hF,nRF⟩
 ·intro q hq
  simp only [List.mem_cons,List.not_mem_nil,or_false] at hq
  rcases hq with rfl | rfl | rfl | rfl | rfl <;> (dsimp only;(repeat first | (rw [aG,if_pos rfl];done) | rw [aG,if_neg (by decide +kernel)]))
 ·intro m hm
  have hne:∀m∈(["told", "__init__"]:List Str),∀g∈(["takers", "givers", "parts", "firsts", "rooms"]:List Str),¬m=g:=by decide +kernel
  have h:=hne m hm
  rw [aG,if_neg (h _ (by simp)),aG,if_neg (h _ (by simp)),aG,if_neg (h _ (by simp)),aG,if_neg (h _ (by simp)),aG,if_neg (h _ (by simp))]
  rfl
noncomputable def Ws (j:Nat):List V:=[.str (cu j),nV (cN j),nV (cI j),nV (cO j)]
noncomputable abbrev Qy:List (List V):=[[.str "give",.int 0,.int 0,.int 1],[.str "take",.int 0,.int 1,.int 0],[.str "pass",.int 0,.int 1,.int 1],[.str "copy",.int 0,.int 1,.int 2],[.str "turn",.int 2,.int 1,.int 1]]
noncomputable abbrev N8:List (List V):=[[.str "heap",.int 1,.int 1,.int 1],[.str "add",.int 0,.int 2,.int 1],[.str "less",.int 0,.int 2,.int 1],[.str "order",.int 0,.int 2,.int 2]]
noncomputable abbrev Qa:List (List V):=[[.str "choose",.int 0,.int 3,.int 1],[.str "split",.int 0,.int 2,.int 2]]
theorem RL {j:Nat} (h:j<=10):(Qy ++ N8 ++ Qa)[j]?=some (Ws j):=by
 match j,h with
 | 0,_=>rfl
 | 1,_=>rfl
 | 2,_=>rfl
 | 3,_=>rfl
 | 4,_=>rfl
 | 5,_=>rfl
 | 6,_=>rfl
 | 7,_=>rfl
 | 8,_=>rfl
 | 9,_=>rfl
 | 10,_=>rfl
 | (n+11),h=>exact absurd h (by lia)
theorem fU {H:Hp}:∀{rs:List Addr} {vss:List (List V)},uQ H rs vss->rs.length=vss.length:=λh=>Paired.length h
noncomputable def Ea:Sp:=λvs H Q _=>vs=[]/\∀H' L rs,aM H H'->H' L=some (.lst (rs.map V.ref))->uQ H' rs (Qy ++ N8 ++ Qa)->Q (.ref L) H'
theorem DP (T:Txt w K mg t):FO P w K mg base 1 t.wQ [] (Ea):=by
 have sc:=T.jf.sc ["_law_some"]
 refine T.jf.F.ok sc ln (λ_ _ _ _ H vs Q E hr h=>?_)
 obtain⟨rfl,k⟩:=h
 refine⟨_,(@aA _ _ _ _ _ (@Hi _ _ 0 _ _ _ _ sc.nd rfl (Or.inl rfl) (@aW _ _ _ _ (@xP _ _ Qy (by rfl) (by decide +kernel))) (by rfl) (.inl rfl)) (@aA _ _ _ _ _ (@Hi _ _ 0 _ _ _ _ sc.nd rfl (Or.inl rfl) (@aK _ _ _ _ _ _ _ _ Ba (pv 0) (@aW _ _ _ _ (@xP _ _ N8 (by rfl) (by decide +kernel)))) (by rfl) (.inl rfl)) (@az _ _ _ (@aY _ _ _ _ (@aK _ _ _ _ _ _ _ _ Ba (pv 0) (@aW _ _ _ _ (@xP _ _ Qa (by rfl) (by decide +kernel)))))))),?_⟩
 have hl:sizeLine=16777216:=sizeLine_eq
 refine λH1 r1 s1 t1=>⟨by rw [lM,fU t1];show 5<=sizeLine;lia,λL1 n1=>?_⟩
 refine Hh n1 λH2 sA eA=>?_
 have tA:=t1.same sA
 refine⟨_,rfl,λH3 r3 s3 t3=>⟨by rw [lM,fU t3];show 4<=sizeLine;lia,λL2 n2=>?_⟩⟩
 refine Hh n2 λH4 sB eB=>?_
 have tB:=t3.same sB
 have tA':=(tA.same s3).same sB
 have eA':=sB _ _ (s3 _ _ eA)
 refine⟨L1,L2,_,_,rfl,rfl,eA',eB,by rw [lM,lM,fU t1,fU t3];show 9<=sizeLine;lia,λL3 n3=>?_⟩
 rw [<-List.map_append]
 refine Hh n3 λH5 sC eC=>?_
 have tC:=(tA'.append tB).same sC
 refine⟨_,rfl,λH6 r6 s6 t6=>⟨by rw [lM,fU t6];show 2<=sizeLine;lia,λL4 n4=>?_⟩⟩
 refine Hh n4 λH7 sD eD=>?_
 have tD:=t6.same sD
 have tC':=(tC.same s6).same sD
 have eC':=sD _ _ (s6 _ _ eC)
 refine⟨L3,L4,_,_,rfl,rfl,eC',eD,by rw [lM,lM,lP,fU t1,fU t3,fU t6];show 11<=sizeLine;lia,λL5 n5=>?_⟩
 rw [<-List.map_append]
 have sE:=aC (o:=.lst (((r1 ++ r3) ++ r6).map V.ref)) n5
 exact k _ L5 ((r1 ++ r3) ++ r6) (s1.trans (sA.trans (s3.trans (sB.trans (sC.trans (s6.trans (sD.trans sE))))))) aq ((tC'.append tD).same sE)
inductive vf (K:PySem.W.Frag) (vs:List V) (H:Hp) (Q:VK) (E:XK):Prop where
 | mk:∀x Tx b,vs=[x]->VG K H x Tx->Tx∈gM->decide (Tx= "int")=b->Q (.bl b) H->vf K vs H Q E
theorem vo (T:Txt w K mg t):FO P w K mg base 1 t.yh ["_law_thing"] (vf K):=by
 have sc:=T.lK.sc ["_law_thing"]
 refine T.lK.F.ok sc ln (λ_ _ _ _ H vs Q E hr h=>?_)
 obtain⟨x,Tx,b,rfl,ty,hm,rfl,k⟩:=h
 refine⟨_,(az (aY (Cp (bj pF (by rfl) T.gK fX (aa (pv 0) (aa (uM (by rfl) T.Tu Nq) ao aj) aj)) (sU (O3 (bj pF (by rfl) T.gK fX (aa (pv 0) (aa (uM (by rfl) T.Pz Lb) ao aj) aj))))))),?_⟩
 have hm':Tx= "int" ∨Tx= "bool" ∨(Du Tx "int" =false/\Tx≠ "int"):=by
  simp only [gM,List.mem_cons,List.not_mem_nil,or_false] at hm
  rcases hm with rfl | rfl | rfl | rfl | rfl | rfl | rfl
  ·exact .inr (.inr (by decide))
  ·exact .inr (.inl rfl)
  ·exact .inl rfl
  ·exact .inr (.inr (by decide))
  ·exact .inr (.inr (by decide))
  ·exact .inr (.inr (by decide))
  ·exact .inr (.inr (by decide))
 rcases hm' with rfl | rfl | ⟨h1,h2⟩
 ·exact⟨_,rfl,x, "int", "int",true,rfl,ty,by decide,by decide,true,rfl,bK ⟨_,rfl,x, "int", "bool",false,rfl,ty,by decide,by decide,_,rfl,k⟩⟩
 ·exact⟨_,rfl,x, "bool", "int",true,rfl,ty,by decide,by decide,true,rfl,bK ⟨_,rfl,x, "bool", "bool",true,rfl,ty,by decide,by decide,_,rfl,k⟩⟩
 ·rw [decide_eq_false h2] at k
  exact⟨_,rfl,x,Tx, "int",false,rfl,ty,by decide,h1,false,rfl,bW k⟩
inductive oZ (K:PySem.W.Frag) (vs:List V) (H:Hp) (Q:VK) (E:XK):Prop where
 | mk:∀x,vs=[x]->Hx x->Q (.bl (dZ x)) H->oZ K vs H Q E
theorem pq (T:Txt w K mg t):FO P w K mg base 2 t.rD ["_law_thing"] (oZ K):=by
 have sc:=T.iH.sc ["_law_thing"]
 refine T.iH.F.ok sc ln (λ_ _ _ _ H vs Q E hr h=>?_)
 obtain⟨x,rfl,hT,k0⟩:=h
 have h:=Vx (K:=K) hT k0
 refine⟨_,(az (aY (Cp (dF (vo T) T.lK hr (aa (pv 0) ao aj)) (sU (Hz lz qY au (pv 0) (aK yR au au)))))),?_⟩
 rcases h with ⟨i,rfl,k⟩ | ⟨Tx,ty,hm,hne,k⟩
 ·refine⟨_,rfl,.int i, "int",true,rfl,rfl,by decide,by decide,true,rfl,bK ⟨_,rfl,_,_,rfl,rfl,_,rfl,dN (λh=>?_) (λh=>?_)⟩⟩
  ·have h':0<=i:=of_decide_eq_true h
   rw [decide_eq_true h',Bool.true_and] at k
   refine⟨10,9,rfl,rfl,⟨by decide,by decide,by decide⟩,_,_,rfl,rfl,?_⟩
   rw [show((10:Int) ^ (9:Int).toNat)=1000000000 from by decide]
   exact k
  ·have h':¬0<=i:=λz=>h (decide_eq_true z)
   rw [decide_eq_false h',Bool.false_and] at k
   exact k
 ·exact⟨_,rfl,x,Tx,false,rfl,ty,hm,decide_eq_false hne,false,rfl,bW k⟩
inductive qW (K:PySem.W.Frag) (vs:List V) (H:Hp) (Q:VK) (E:XK):Prop where
 | mk:∀v:V,vs=[v]->jx v->(∀H',aM H H'->Q (.bl (Lz v)) H')->qW K vs H Q E
theorem Ac (T:Txt w K mg t):FO P w K mg base 1 t.uo ["_law_thing"] (qW K):=by
 have sc:=T.lW.sc ["_law_thing"]
 refine T.lW.F.ok sc ln (λ_ _ _ _ H vs Q E hr h=>?_)
 obtain⟨v,rfl,⟨hv,hok⟩,k⟩:=h
 refine⟨_,(aA (bD (PW.pt (j7 (fP (gY (bj pF (by rfl) T.gK fX (aa (pv 0) (aa (uM (by rfl) T.xg qN) ao aj) aj)))) (j7 (fP (mj lz lz au (bj bI (by rfl) T.dz cj (aa (pv 0) ao aj)) au)) (jr (aJ uB (aZ An (pv 0) au (λ_ _=>rfl)) aN (by with_unfolding_all rfl))))))
   (az (aY jA))
   bz)
  (az (aY (wM (GF hr.units) (jX [] ["_law_thing"] (bw (top 68)) rfl (Nv (pv 0)) (λ_ _ _ _ _=>(Gr (aJ Hd (pv 0) aN (by with_unfolding_all rfl)))) (λ_ _ _ _ _=>(pv 0))) (aW ao) (bu _))))),?_⟩
 have hl:sizeLine=16777216:=sizeLine_eq
 obtain⟨Tx,ty,hm,hs,_⟩:=hv.ty (K:=K) (H:=H)
 by_cases e:∃z,v=.str z
 case neg=>
  have hne:Tx≠ "str" :=λz=>e (hs.mp z)
  have hsub:Du Tx "str" =false:=by
   simp only [gM,List.mem_cons,List.not_mem_nil,or_false] at hm
   rcases hm with rfl | rfl | rfl | rfl | rfl | rfl | rfl <;> first | decide | exact absurd rfl hne
  have hf:Lz v=false:=by
   cases v with
   | str z=>exact absurd ⟨z,rfl⟩ e
   | _=>rfl
  rw [hf] at k
  exact⟨_,rfl,v,Tx, "str",false,rfl,ty,by decide,hsub,false,rfl,bK (bK (k _ (aM.refl _)))⟩
 obtain⟨z,rfl⟩:=e
 have hz:=hv.2 z rfl
 have ok:=hok z rfl
 refine⟨_,rfl,.str z, "str", "str",true,rfl,rfl,by decide,by decide,true,rfl,bW ?_⟩
 have k:∀H',aM H H'->Q (.bl (nameB z)) H':=k
 refine⟨_,rfl,.str z,z.length,rfl,⟨by lia,rfl⟩,_,_,rfl,rfl,_,rfl,?_⟩
 cases e:z.cps.toList with
 | nil=>
  have h0:z.length=0:=by rw [<-iW,e];rfl
  unfold nameB at k
  rw [e] at k
  rw [h0]
  exact bW ⟨_,rfl,bK (bK (k _ (aM.refl _)))⟩
 | cons c r=>
 have hlen:z.length=r.length+1:=by rw [<-iW,e];rfl
 have hc0:DW z.cps.toList 0=some c:=by rw [e];exact aH (xs:=c:: r) (j:=0) rfl
 have k':∀H',aM H H'->Q (.bl (decide (r.length<=7) && (low c && z.cps.toList.all λd=>low d || rM d))) H':=by
  unfold nameB at k
  rw [e] at k ⊢
  exact k
 clear k
 refine Ad (by lia) ⟨_,_,rfl,rfl,_,rfl,dN (λh=>?_) (λh=>?_)⟩
 ·have h8:¬(z.length:Int)<=8:=by simpa using h
  rw [decide_eq_false (show ¬r.length<=7 by lia),Bool.false_and] at k'
  exact bK (k' _ (aM.refl _))
 have h8:(z.length:Int)<=8:=by simpa using h
 rw [decide_eq_true (show r.length<=7 by lia),Bool.true_and] at k'
 refine⟨_,rfl,z,_,c,rfl,rfl,by lia,hc0,_,_,rfl,rfl,_,rfl,?_⟩
 rw [Qq]
 refine dN (λh1=>?_) (λh1=>?_)
 ·rw [R0 h1,Bool.false_and] at k'
  exact k' _ (aM.refl _)
 have h1:rM c=false:=by simpa using h1
 have ka:(low c && z.cps.toList.all λd=>low d || rM d)=z.cps.toList.all λd=>low d || rM d:=by
  rw [e,List.all_cons,h1,Bool.or_false,<-Bool.and_assoc,Bool.and_self]
 rw [ka] at k'
 refine⟨_,rfl,z,rfl,Jb (λi ys H'=>H'=H/\ys=(((z.cps.toList.take i).filter λd=>!(low d || rM d)).map λd=>(⟨#[d]⟩:Str)).map V.str) (by simp only [Str.length] at hz;lia) ⟨rfl,by simp⟩ (λi ys H' ⟨_,e⟩=>by rw [e,lM,lM];exact Nat.le_trans (List.length_filter_le _ _) (by rw [List.length_take];lia)) ?_ ?_⟩
 ·rintro i d ys H' hd ⟨rfl,rfl⟩
  have hd':z.cps.toList[i]?=some d:=by simpa using hd
  rw [List.take_add_one,hd',Option.toList_some,List.filter_append,List.map_append,List.map_append]
  refine⟨_,rfl,_,_,rfl,rfl,_,rfl,?_⟩
  rw [Xo]
  cases hb:(low d || rM d) with
  | true=>exact bW ⟨rfl,by rw [List.filter_cons_of_neg (by rw [hb];simp)];simp⟩
  | false=>exact bK ⟨_,rfl,rfl,by rw [List.filter_cons_of_pos (by rw [hb];rfl)];rfl⟩
 ·rintro ys H' ⟨rfl,rfl⟩ D hD
  have efl:(z.cps.toList.take z.cps.size).filter (λd=>!(low d || rM d))=z.cps.toList.filter λd=>!(low d || rM d):=by rw [List.take_of_length_le (by simp)]
  rw [efl]
  have s1:=aC (o:=.lst ((((z.cps.toList.filter λd=>!(low d || rM d)).map λd=>(⟨#[d]⟩:Str))).map V.str)) hD
  refine⟨by show 0<=sizeLine;lia,λD2 nD2=>?_⟩
  have s2:=aC (o:=.lst []) nD2
  have sOk:∀x∈(z.cps.toList.filter λd=>!(low d || rM d)).map λd=>(⟨#[d]⟩:Str),PyData.strOk x=true:=λx hx=>by
   obtain⟨d,hd,rfl⟩:=List.mem_map.mp hx
   have hd2:=(List.mem_filter.mp hd).1
   unfold PyData.strOk at ok ⊢
   rw [Array.all_eq_true'] at ok ⊢
   intro c' hc'
   have:c'=d:=by simpa using hc'
   rw [this]
   exact ok d (by simpa using hd2)
  refine⟨_,_,.list (bH.of (s2 _ _ aq)) (Ae _),.list (bH.of aq) .nil,(Gd.list (.strs 0 sOk)).shaped (by decide),(Gd.list (n:=0) (by simp)).shaped (by decide),?_⟩
  have kk:=k' _ (s1.trans s2)
  have ea:PyData.eqv (.list (((z.cps.toList.filter λd=>!(low d || rM d)).map λd=>(⟨#[d]⟩:Str)).map PyData.str)) (.list [])=z.cps.toList.all λd=>low d || rM d:=by
   rw [Bool.eq_iff_iff,List.all_eq_true]
   constructor
   ·intro he d hd
    cases hb:(low d || rM d) with
    | true=>rfl
    | false=>
     exfalso
     have hm:d∈z.cps.toList.filter λd=>!(low d || rM d):=List.mem_filter.mpr ⟨hd,by rw [hb];rfl⟩
     cases hf:z.cps.toList.filter λd=>!(low d || rM d) with
     | nil=>rw [hf] at hm;cases hm
     | cons a r'=>
      rw [hf] at he
      simp [PyData.eqv,PyData.eqvAll] at he
   ·intro ha
    have:z.cps.toList.filter (λd=>!(low d || rM d))=[]:=List.filter_eq_nil_iff.mpr λd hd=>by rw [ha d hd];decide
    rw [this]
    simp [PyData.eqv,PyData.eqvAll]
  rw [ea]
  exact kk
noncomputable def Uz:List Str:=["BadName", "Doubled", "BadRoom", "BadNumbers", "NoKind", "BadLanes", "Open", "Loose"]
noncomputable def o5 (H:Hp) (v:V):Option (Nat×V)->Prop
 | none=>v=.non
 | some p=>∃(a:Addr) (z:Str),v=.ref a/\Uz[p.1]?=some z/\H a=some (.tup [.str z,p.2])
theorem o5.same {H H':Hp} {v:V} {o:Option (Nat×V)} (h:o5 H v o) (s:aM H H'):o5 H' v o:=by
 cases o with
 | none=>exact h
 | some p=>
  obtain⟨a,z,e,e2,e3⟩:=h
  exact⟨a,z,e,e2,s _ _ e3⟩
noncomputable def Yg (v:V) (b:Bool):Option (Nat×V):=if Lz v=true then(if b=true then some (1,v) else none) else some (0,v)
inductive pA (K:PySem.W.Frag) (vs:List V) (H:Hp) (Q:VK) (E:XK):Prop where
 | mk:∀(v:V) (d:Addr) (kvs:List (Key×V)),vs=[v,.ref d]->jx v->(((∃kv,H d=some (.dK kv)/\kv.map (·.1)=kvs.map (·.1))∨∃ns:List Str,H d=some (.lst (ns.map V.str))/\(ns.map λz=>(Sum.inr z:Key))=kvs.map (·.1)))->(∀H' y,aM H H'->o5 H' y (freshD v kvs)->Q y H')->pA K vs H Q E
theorem ph (T:Txt w K mg t):FO P w K mg base 2 t.qT ["_law_name", "_law_known"] (pA K):=by
 have sc:=T.iG.sc ["_law_name", "_law_known"]
 refine T.iG.F.ok sc ln (λ_ _ _ _ H vs Q E hr h=>?_)
 obtain⟨v,d,kvs,rfl,hT,hd,k⟩:=h
 refine⟨_,(aA (bD (fP (gY (dF (Ac T) T.lW hr (aa (pv 0) ao aj))))
   (az (aY (cB (aa aN (aa (pv 0) ao aj) ak))))
   bz)
  (aA (bD (Vw (jE (BJ hr.u1 (pv 0) (pv 1))) (aJ uC (pv 0) (pv 1) (by with_unfolding_all rfl)))
   (az (aY (cB (aa aN (aa (pv 0) ao aj) ak))))
   bz)
  (az (aY jC)))),?_⟩
 have hl:sizeLine=16777216:=sizeLine_eq
 refine⟨_,rfl,v,rfl,hT,λH1 s1=>?_⟩
 cases hn:Lz v with
 | false=>
  refine⟨_,rfl,bK ?_⟩
  refine⟨_,rfl,by show 2<=sizeLine;lia,λa na=>?_⟩
  have du:freshD v kvs=some (0,v):=by
   cases v with
   | str z=>unfold freshD;simp [show nameB z=false from hn]
   | _=>rfl
  exact k _ _ (s1.trans (aC na)) (by rw [du];exact⟨a, "BadName",rfl,rfl,aq⟩)
 | true=>
  obtain⟨z,rfl⟩:∃z,v=.str z:=by
   cases v with
   | str z=>exact⟨z,rfl⟩
   | _=>cases hn
  have hn:nameB z=true:=hn
  have du:freshD (.str z) kvs=if (bx kvs (Sum.inr z)).isSome=true then some (1,V.str z) else none:=by unfold freshD;simp only [hn,if_true]
  refine⟨_,rfl,bW ?_⟩
  rcases hd with ⟨kv,hd,ek⟩ | ⟨ns,hd,ek⟩
  ·refine .inl ⟨_,rfl,_,rfl,d,_,rfl,iR.k (k:=Sum.inr z) (s1 _ _ hd),_,rfl,?_⟩
   have eb:(bx kv (Sum.inr z)).isSome=(bx kvs (Sum.inr z)).isSome:=by
    cases ha:(bx kv (Sum.inr z)).isSome <;> cases hb:(bx kvs (Sum.inr z)).isSome
    ·rfl
    ·exact absurd (ek ▸ tY hb) (lL ha)
    ·exact absurd (ek ▸ tY ha) (lL hb)
    ·rfl
   rw [eb]
   cases hb:(bx kvs (Sum.inr z)).isSome with
   | true=>
    rw [hb,if_pos rfl] at du
    exact bK ⟨_,rfl,by show 2<=sizeLine;lia,λa na=>k _ _ (s1.trans (aC na)) (by rw [du];exact⟨a, "Doubled",rfl,rfl,aq⟩)⟩
   | false=>
    rw [hb] at du
    exact bW (k _ _ s1 (by rw [du];rfl))
  ·refine .inr ⟨_,rfl,_,rfl,d,_,rfl,.inl (bH.of (s1 _ _ hd)),rfl,lV _,?_⟩
   have eb:decide (z∈ns)=(bx kvs (Sum.inr z)).isSome:=by
    cases hb:(bx kvs (Sum.inr z)).isSome with
    | true=>
     have:=tY hb
     rw [<-ek] at this
     obtain⟨w,hw,e⟩:=List.mem_map.mp this
     exact decide_eq_true (Sum.inr.inj e ▸ hw)
    | false=>exact decide_eq_false λhm=>lL hb (by rw [<-ek];exact List.mem_map.mpr ⟨z,hm,rfl⟩)
   rw [uK,eb]
   refine⟨_,rfl,?_⟩
   cases hb:(bx kvs (Sum.inr z)).isSome with
   | true=>
    rw [hb,if_pos rfl] at du
    exact bK ⟨_,rfl,by show 2<=sizeLine;lia,λa na=>k _ _ (s1.trans (aC na)) (by rw [du];exact⟨a, "Doubled",rfl,rfl,aq⟩)⟩
   | false=>
    rw [hb] at du
    exact bW (k _ _ s1 (by rw [du];rfl))
structure uf (H0 H:Hp) (d:Addr) (ea:List (Key×Addr)) (rk gk tk:List (Key×V)):Prop where
 same:aM H0 H
 d0:H0 d=none
 ed:H d=some (.dK (ea.map λq=>(q.1,V.ref q.2)))
 ks:ea.map (·.1)=rk.map (·.1)
 kn:(rk.map (·.1)).Nodup
 nd:(ea.map (·.2)).Nodup
 fr:∀q∈ea,H0 q.2=none/\q.2≠d
 gv:∀p∈gk,p.2≠V.non
 tv:∀p∈tk,p.2≠V.non
 all:∀q∈ea,H q.2=some (.lst [(bx gk q.1).getD .non,(bx tk q.1).getD .non])
theorem uf.keep {H0 H H':Hp} {d:Addr} {ea:List (Key×Addr)} {rk gk tk:List (Key×V)} (h:uf H0 H d ea rk gk tk) (s:aM H H'):uf H0 H' d ea rk gk tk:=
 ⟨h.same.trans s,h.d0,s _ _ h.ed,h.ks,h.kn,h.nd,h.fr,h.gv,h.tv,λq hq=>s _ _ (h.all q hq)⟩
theorem uf.grow {H0 H:Hp} {d A:Addr} {ea:List (Key×Addr)} {rk:List (Key×V)} {k:Key} {v:V} (h:uf H0 H d ea rk [] []) (nA:H A=none) (hk:k∉rk.map (·.1)):uf H0 (upd (upd H A (.lst [.non,.non])) d (.dK (putK (ea.map λq=>(q.1,V.ref q.2)) k (.ref A)))) d (ea ++ [(k,A)]) (rk ++ [(k,v)]) [] []:=by
 have sA:=aC (o:=.lst [.non,.non]) nA
 have nAd:A≠d:=Ne.symm (aB h.ed nA)
 have n0:H0 A=none:=h.same.free nA
 have hks:(ea.map λq=>(q.1,V.ref q.2)).map (·.1)=rk.map (·.1):=by rw [<-h.ks,List.map_map];rfl
 refine⟨λb u e=>?_,h.d0,?_,?_,BV h.kn hk,?_,?_,by simp,by simp,?_⟩
 ·rw [aD (λz=>by rw [z,h.d0] at e;cases e)]
  exact sA _ _ (h.same _ _ e)
 ·rw [sI _ (uc (by rw [hks];exact hk)),List.map_append]
  exact aq
 ·rw [List.map_append,List.map_append,h.ks];rfl
 ·rw [List.map_append,List.nodup_append]
  refine⟨h.nd,by simp,λa ha b hb=>?_⟩
  have hb:b=A:=by simpa using hb
  subst hb
  obtain⟨q,hq,rfl⟩:=List.mem_map.mp ha
  exact λz=>by have:=h.all q hq;rw [z,nA] at this;cases this
 ·intro q hq
  rcases List.mem_append.mp hq with e | e
  ·exact h.fr q e
  ·rw [List.mem_singleton] at e;subst e;exact⟨n0,nAd⟩
 ·intro q hq
  rcases List.mem_append.mp hq with e | e
  ·rw [aD (h.fr q e).2]
   exact sA _ _ (h.all q e)
  ·rw [List.mem_singleton] at e;subst e
   rw [aD nAd]
   exact aq
noncomputable def oM:V->PyData
 | .str z=>.str z
 | .int i=>.int i
 | .bl b=>.bool b
 | _=>.none
theorem jx.dt {H:Hp} {v:V} (h:jx v):Dt K H v (oM v):=by
 have:=h.1.1
 cases v <;> first | exact .str _ | exact .int _ | exact .bool _ | exact .none | exact .bl _ | exact .non | cases this
theorem xM {H:Hp}:∀{xs:List V},(∀v∈xs,jx v)->JF K H xs (xs.map oM)
 | [],_=>.nil
 | v:: r,h=>.cons (h v (.head _)).dt (xM λx hx=>h x (.tail _ hx))
theorem jx.gd (n:Nat) {v:V} (h:jx v):Gd n (oM v):=by
 have:=h.1.1
 cases v with
 | str z=>exact .str n (h.2 z rfl)
 | int i=>exact .int n i
 | bl b=>exact .bl n b
 | _=>exact .non n
theorem m9 {ds:List PyData}:PyData.eqv (.list ds) (.list [])=ds.isEmpty:=by
 cases ds <;> simp [PyData.eqv,PyData.eqvAll]
inductive pO (K:PySem.W.Frag) (vs:List V) (H:Hp) (Q:VK) (E:XK):Prop where
 | mk:∀(nm rm:V) (f d:Addr) (xs:List V) (H0:Hp) (ea:List (Key×Addr)) (rk:List (Key×V)),vs=[nm,rm,.ref f,.ref d]->jx nm->Hx rm->bH K H f xs->xs.length<=1000->((∀v∈xs,jx v))->ea.length<=1000->uf H0 H d ea rk [] []->((∀u,f9 rk ⟨nm,rm,xs⟩=.error u->∀H' y,aM H0 H'->o5 H' y (some u)->Q y H'))->(∀rk',f9 rk ⟨nm,rm,xs⟩=.ok rk'->∀H' ea',uf H0 H' d ea' rk' [] []->ea'.length=ea.length+1->Q .non H')->pO K vs H Q E
noncomputable abbrev qU:List Str:=["_law_name", "_law_room", "_law_first", "_law_ends", "_law_due_here"]
theorem yM (T:Txt w K mg t):FO P w K mg base 3 t.rA ["_law_name", "_law_room", "_law_first", "_law_ends"] (pO K):=by
 have sc:=T.kh.sc qU
 refine T.kh.F.ok sc ln (λ_ _ _ _ H vs Q E hr h=>?_)
 obtain⟨nm,rm,f,d,xs,H0,ea,rk,rfl,hT1,hT2,hf,hx,hV,hea,hE,kE,k⟩:=h
 refine⟨_,(aA (sN sc 4 (dF (ph T) T.iG hr (aa (pv 0) (aa (pv 3) ao aj) aj)))
  (aA (bD (jE (uF (pv 4)))
   (az (aY (pv 4)))
   bz)
  (aA (bD (PW.pt (j7 (fP (gY (dF (vo T) T.lK hr (aa (pv 1) ao aj)))) (j7 (aJ qY (pv 1) au (bu _)) (j7 (aJ Ih (pv 1) au (bu _)) (jr (aJ Ih (bj bI (by rfl) T.dz cj (aa (pv 2) ao aj)) (pv 1) (bu _)))))))
   (az (aY (cB (aa aN (aa (pv 0) ao aj) ak))))
   bz)
  (aA (bD (aJ (vX hr.units) (jX [] qU (bw (top 70)) rfl (dB (pv 2)) (λ_ _ _ _ _=>(Gr (fP (gY (dF (pq T) T.iH hr (aa (pv 0) ao aj)))))) (λ_ _ _ _ _=>(pv 0))) (aW ao) (bu _))
   (az (aY (cB (aa aN (aa (pv 0) ao aj) ak))))
   bz)
  (aA (qx hr.u1 (pv 3) (pv 0) (aW (aa jC (aa jC ao ak) ak)) rfl)
  (az (aY jC))))))),?_⟩
 have hl:sizeLine=16777216:=sizeLine_eq
 refine⟨_,rfl,_,rfl,nm,d,rk,rfl,hT1,.inl ⟨_,hE.ed,by rw [<-hE.ks,List.map_map];rfl⟩,λH1 y s1 hD=>?_⟩
 have E1:=hE.keep s1
 cases hd:freshD nm rk with
 | some u=>
  rw [hd] at hD
  obtain⟨a,z,rfl,e1,e2⟩:=id hD
  exact⟨_,rfl,_,rfl,bK ⟨_,rfl,kE u (by unfold f9;rw [hd]) _ _ (hE.same.trans s1) hD⟩⟩
 | none=>
  rw [hd] at hD
  obtain rfl:y=.non:=hD
  refine⟨_,rfl,_,rfl,bW ?_⟩
  obtain⟨Tx,ty,hm,_,hi⟩:=hT2.ty (K:=K) (H:=H1)
  have bad:∀{i:Nat} {z:Str},iY nm rm xs=some (i,nm)->Uz[i]?=some z->∀{H2:Hp},aM H1 H2->∀a,H2 a=none->Q (.ref a) (upd H2 a (.tup [.str z,nm])):=λe ez H2 s2 a na=>kE (_,nm) (by unfold f9;rw [hd];dsimp only;rw [e]) _ _ (E1.same.trans (s2.trans (aC na))) ⟨a,_,rfl,ez,aq⟩
  refine⟨_,rfl,rm,Tx,_,rfl,ty,hm,rfl,?_⟩
  by_cases hI:∃r,rm=.int r
  case neg=>
   have e:Tx≠ "int" :=λz=>hI (hi.mp z)
   rw [decide_eq_false e]
   have hb:u0 rm xs.length=false:=by
    unfold u0
    cases rm with
    | int r=>exact absurd ⟨r,rfl⟩ hI
    | _=>rfl
   exact⟨_,rfl,bK (bK ⟨_,rfl,by show 2<=sizeLine;lia,λa na=>bad (by unfold iY;rw [hb];rfl) rfl (aM.refl _) a na⟩)⟩
  obtain⟨r,rfl⟩:=hI
  rw [decide_eq_true (hi.mpr ⟨r,rfl⟩)]
  refine⟨_,rfl,bW ?_⟩
  have rb:u0 (.int r) xs.length=(decide ((if (xs.length:Int) >1 then(xs.length:Int) else 1)<=r) && decide (r<=199)):=rfl
  refine⟨_,rfl,_,_,rfl,rfl,_,rfl,dN (λc1=>?_) (λc1=>?_)⟩
  ·have c1:r <1:=of_decide_eq_true c1
   refine bK ⟨_,rfl,by show 2<=sizeLine;lia,λa na=>bad (by unfold iY;rw [rb,decide_eq_false (by split <;> lia)];rfl) rfl (aM.refl _) a na⟩
  have c1:¬r <1:=λz=>c1 (decide_eq_true z)
  refine⟨_,rfl,_,_,rfl,rfl,_,rfl,dN (λc2=>?_) (λc2=>?_)⟩
  ·have c2:199 <r:=of_decide_eq_true c2
   refine bK ⟨_,rfl,by show 2<=sizeLine;lia,λa na=>bad (by unfold iY;rw [rb,decide_eq_false (show ¬r<=199 by lia),Bool.and_false];rfl) rfl (aM.refl _) a na⟩
  have c2:¬199 <r:=λz=>c2 (decide_eq_true z)
  have hf1:=s1.seq hf
  refine⟨_,rfl,.ref f,xs.length,rfl,.inl ⟨_,hf1,rfl⟩,_,rfl,_,_,rfl,rfl,_,rfl,dN (λc3=>?_) (λc3=>?_)⟩
  ·have c3:r <(xs.length:Int):=of_decide_eq_true c3
   refine⟨_,rfl,by show 2<=sizeLine;lia,λa na=>bad (by unfold iY;rw [rb,decide_eq_false (by split <;> lia)];rfl) rfl (aM.refl _) a na⟩
  have c3:¬r <(xs.length:Int):=λz=>c3 (decide_eq_true z)
  have rt:u0 (.int r) xs.length=true:=by rw [rb,decide_eq_true (by split <;> lia),decide_eq_true (show r<=199 by lia)];rfl
  refine⟨_,rfl,f,rfl,⟨_,hf1⟩,jD (K:=K) (a:=f) (xs:=xs) (λj zs H'=>H'=H1/\zs=(xs.take j).filter λv=>!dZ v) (by lia) ⟨rfl,rfl⟩ (λj zs H' h=>by rw [h.2];exact Nat.le_trans (List.length_filter_le _ _) (by rw [List.length_take];lia)) (λj zs H' _ h=>by rw [h.1];exact hf1) ?_ ?_⟩
  ·rintro j v zs H' hv ⟨rfl,rfl⟩
   have hm:=List.mem_of_getElem? hv
   rw [List.take_succ,hv,List.filter_append]
   refine⟨_,rfl,v,rfl,(hV v hm).1,_,rfl,?_⟩
   cases hb:dZ v with
   | true=>exact bW ⟨rfl,by simp [hb]⟩
   | false=>exact bK ⟨_,rfl,rfl,by simp [hb]⟩
  ·rintro zs H' ⟨rfl,rfl⟩ D nD
   rw [List.take_length]
   refine⟨by show 0<=sizeLine;lia,λD2 nD2=>?_⟩
   have t1:=aC (o:=.lst (xs.filter λv=>!dZ v)) nD
   have t2:=aC (o:=.lst []) nD2
   have eD:=t2 _ _ aq
   have tt:=t1.trans t2
   have eD2:upd (upd H' D (.lst (xs.filter λv=>!dZ v))) D2 (.lst []) D2=some (.lst []):=aq
   generalize upd (upd H' D (.lst (xs.filter λv=>!dZ v))) D2 (.lst [])=H3 at eD eD2 tt ⊢
   clear t1 t2
   have hW:∀v∈xs.filter (λv=>!dZ v),jx v:=λv hv=>hV v (List.mem_filter.mp hv).1
   refine⟨_,_,.list (bH.of eD) (xM hW),.list (bH.of eD2) .nil,(Gd.list (n:=1) λx hx=>by obtain⟨v,hv,rfl⟩:=List.mem_map.mp hx;exact(hW v hv).gd 1).shaped (by decide),(Gd.list (n:=0) (by simp)).shaped (by decide),?_⟩
   rw [m9]
   have E3:=E1.keep tt
   cases hc:xs.all dZ with
   | false=>
    have hne:((xs.filter λv=>!dZ v).map oM).isEmpty=false:=by
     rw [List.all_eq_false] at hc
     obtain⟨v,hv,hb⟩:=hc
     have hm:v∈xs.filter λv=>!dZ v:=List.mem_filter.mpr ⟨hv,by simpa using hb⟩
     cases hq:xs.filter λv=>!dZ v with
     | nil=>rw [hq] at hm;cases hm
     | cons _ _=>rfl
    rw [hne]
    exact⟨_,rfl,bK ⟨_,rfl,by show 2<=sizeLine;lia,λa na=>bad (by unfold iY;rw [rt,hc];rfl) rfl tt a na⟩⟩
   | true=>
    have hne:((xs.filter λv=>!dZ v).map oM).isEmpty=true:=by
     rw [List.filter_eq_nil_iff.mpr λv hv=>by rw [List.all_eq_true.mp hc v hv];decide]
     rfl
    rw [hne]
    refine⟨_,rfl,bW ?_⟩
    obtain⟨z,rfl,hz,hv⟩:=lY hd
    refine⟨by show 2<=sizeLine;lia,λA nA=>⟨_,rfl,_,rfl,d,_,rfl,Bu.k (k:=Sum.inr z) (aC nA _ _ E3.ed) (by rw [lM];lia),?_⟩⟩
    refine k (rk ++ [(Sum.inr z,.int r)]) (by unfold f9;rw [hd];dsimp only;rw [show iY (.str z) (.int r) xs=none by unfold iY;rw [rt,hc];rfl];rfl) _ _ (E3.grow nA (lL hv)) (by simp)
theorem HJ {kvs:List (Key×V)} {k:Key} {y:V} (h:bx kvs k=none):bx (kvs ++ [(k,y)]) k=some y:=by
 have h':kvs.find? (λkv=>decide (kv.1=k))=none:=by
  unfold bx at h
  cases e:kvs.find? λkv=>decide (kv.1=k) with
  | none=>rfl
  | some p=>rw [e] at h;cases h
 unfold bx
 rw [List.find?_append,h']
 simp
theorem zz {kvs:List (Key×V)} {k k':Key} {y:V} (h:k≠k'):bx (kvs ++ [(k,y)]) k'=bx kvs k':=by
 unfold bx
 rw [List.find?_append]
 cases e:kvs.find? λkv=>decide (kv.1=k') with
 | none=>simp [h]
 | some p=>simp
theorem uf.write {H0 H:Hp} {d:Addr} {ea:List (Key×Addr)} {rk gk tk gk' tk':List (Key×V)} {q:Key×Addr} (h:uf H0 H d ea rk gk tk) (hq:q∈ea) (hg:∀k,k≠q.1->bx gk' k=bx gk k) (ht:∀k,k≠q.1->bx tk' k=bx tk k) (gv:∀p∈gk',p.2≠V.non) (tv:∀p∈tk',p.2≠V.non):uf H0 (upd H q.2 (.lst [(bx gk' q.1).getD .non,(bx tk' q.1).getD .non])) d ea rk gk' tk':=by
 have hf:=h.fr q hq
 refine⟨λb u e=>?_,h.d0,by rw [aD hf.2.symm];exact h.ed,h.ks,h.kn,h.nd,h.fr,gv,tv,λp hp=>?_⟩
 ·rw [aD (λz=>by rw [z,hf.1] at e;cases e)]
  exact h.same _ _ e
 ·by_cases c:p.2=q.2
  ·have:p=q:=by
    obtain⟨i,hi,rfl⟩:=List.mem_iff_getElem.mp hp
    obtain⟨j,hj,rfl⟩:=List.mem_iff_getElem.mp hq
    have:=(List.getElem_inj (i:=i) (j:=j) (h₀:=by rw [lM];exact hi) (h₁:=by rw [lM];exact hj) h.nd).mp (by rw [List.getElem_map,List.getElem_map];exact c)
    subst this
    rfl
   subst this
   exact aq
  ·have c1:p.1≠q.1:=λz=>c (by
    obtain⟨i,hi,rfl⟩:=List.mem_iff_getElem.mp hp
    obtain⟨j,hj,rfl⟩:=List.mem_iff_getElem.mp hq
    have kn:(ea.map (·.1)).Nodup:=h.ks ▸ h.kn
    have:=(List.getElem_inj (i:=i) (j:=j) (h₀:=by rw [lM];exact hi) (h₁:=by rw [lM];exact hj) kn).mp (by rw [List.getElem_map,List.getElem_map];exact z)
    subst this
    rfl)
   rw [aD c,hg _ c1,ht _ c1]
   exact h.all p hp
theorem LC {kvs:List (Key×V)} {k:Key} (h:∀p∈kvs,p.2≠V.non):(!decide ((bx kvs k).getD .non=V.non))=(bx kvs k).isSome:=by
 unfold bx
 cases e:kvs.find? λkv=>decide (kv.1=k) with
 | none=>rfl
 | some p=>
  have:=h p (List.mem_of_find?_eq_some e)
  simp [this]
theorem Im {kvs:List (Key×V)} {k:Key} {y:Str} (h:∀p∈kvs,p.2≠V.non):∀p∈kvs ++ [(k,V.str y)],p.2≠V.non:=λp hp=>by
 rcases List.mem_append.mp hp with e | e
 ·exact h p e
 ·rw [List.mem_singleton] at e;subst e;exact λz=>by cases z
theorem uf.get {H0 H:Hp} {d:Addr} {ea:List (Key×Addr)} {rk gk tk:List (Key×V)} (h:uf H0 H d ea rk gk tk) (k:Key):(∃q∈ea,q.1=k/\(bx rk k).isSome=true/\bx (ea.map λq=>(q.1,V.ref q.2)) k=some (.ref q.2))∨((bx rk k).isSome=false/\bx (ea.map λq=>(q.1,V.ref q.2)) k=none):=by
 have hks:(ea.map λq=>(q.1,V.ref q.2)).map (·.1)=rk.map (·.1):=by rw [<-h.ks,List.map_map];rfl
 cases hb:(bx rk k).isSome with
 | true=>
  have:=tY hb
  rw [<-h.ks] at this
  obtain⟨q,hq,rfl⟩:=List.mem_map.mp this
  exact .inl ⟨q,hq,rfl,rfl,pQ (by rw [hks];exact h.kn) (List.mem_map.mpr ⟨q,hq,rfl⟩)⟩
 | false=>exact .inr ⟨rfl,uc (by rw [hks];exact lL hb)⟩
theorem uf.poke {H0 H:Hp} {d N:Addr} {o:HO} {ea:List (Key×Addr)} {rk gk tk:List (Key×V)} (h:uf H0 H d ea rk gk tk) (n0:H0 N=none) (nd:N≠d) (ne:N∉ea.map (·.2)):uf H0 (upd H N o) d ea rk gk tk:=
 ⟨λb u e=>by rw [aD (λz=>by rw [z,n0] at e;cases e)];exact h.same _ _ e,h.d0,by rw [aD nd.symm];exact h.ed,h.ks,h.kn,h.nd,h.fr,h.gv,h.tv,λq hq=>by rw [aD (show q.2≠N from λz=>ne (by rw [<-z];exact List.mem_map.mpr ⟨q,hq,rfl⟩))];exact h.all q hq⟩
theorem uf.wide {H0 H:Hp} {d:Addr} {ea:List (Key×Addr)} {rk gk tk:List (Key×V)} (h:uf H0 H d ea rk gk tk):uf (bQ (d:: ea.map (·.2)) H) H d ea rk gk tk/\aM H0 (bQ (d:: ea.map (·.2)) H):=by
 have out:∀{b:Addr},b∈d:: ea.map (·.2)->bQ (d:: ea.map (·.2)) H b=none:=λhb=>by unfold bQ;rw [if_pos hb]
 refine⟨⟨lU,out (.head _),h.ed,h.ks,h.kn,h.nd,λq hq=>⟨out (.tail _ (List.mem_map.mpr ⟨q,hq,rfl⟩)),(h.fr q hq).2⟩,h.gv,h.tv,h.all⟩,λb u e=>?_⟩
 have hb:b∉d:: ea.map (·.2):=λhb=>by
  rcases List.mem_cons.mp hb with rfl | hb
  ·rw [h.d0] at e;cases e
  ·obtain⟨q,hq,rfl⟩:=List.mem_map.mp hb
   rw [(h.fr q hq).1] at e;cases e
 unfold bQ
 rw [if_neg hb]
 exact h.same _ _ e
theorem uf.back {H0 H1 H:Hp} {d:Addr} {ea:List (Key×Addr)} {rk gk tk:List (Key×V)} (h:uf H1 H d ea rk gk tk) (s:aM H0 H1):uf H0 H d ea rk gk tk:=
 ⟨s.trans h.same,s.free h.d0,h.ed,h.ks,h.kn,h.nd,λq hq=>⟨s.free (h.fr q hq).1,(h.fr q hq).2⟩,h.gv,h.tv,h.all⟩
inductive mY (K:PySem.W.Frag) (vs:List V) (H:Hp) (Q:VK) (E:XK):Prop where
 | mk:∀(y:Str) (L d:Addr) (zs:List (Option Key)) (H0:Hp) (ea:List (Key×Addr)) (rk gk tk:List (Key×V)) (b:Bool),(vs=[.str y,.ref L,.ref d,.int (if b then 1 else 0)])->bH K H0 L (zs.map kO)->zs.length<=100->uf H0 H d ea rk gk tk->(((cH rk (.str y) (if b then tk else gk) zs).2=false->∀H' v,aM H0 H'->o5 H' v (some (5,.str y))->Q v H'))->(((cH rk (.str y) (if b then tk else gk) zs).2=true->∀H',uf H0 H' d ea rk (if b then gk else(cH rk (.str y) gk zs).1) (if b then(cH rk (.str y) tk zs).1 else tk)->Q .non H'))->mY K vs H Q E
theorem nG (T:Txt w K mg t):FO P w K mg base 1 t.pJ ["_law_name", "_law_lanes", "_law_ends", "_law_side"] (mY K):=by
 have sc:=T.gB.sc ["_law_name", "_law_lanes", "_law_ends", "_law_side", "_law_lane_here"]
 refine T.gB.F.ok sc ln (λ_ _ _ _ H vs Q E hr h=>?_)
 obtain⟨y,L,d,zs,H0,ea,rk,gk,tk,b,rfl,hL,hz,hE,kE,k⟩:=h
 refine⟨_,(aA (fM PassesOwn.never rfl (dB (pv 1)) (gN sc 4)
   (aA (bD (PW.pt (j7 (jE (Cr hr.u1 (pv 4) (pv 2))) (jr (jE (uF (aZ aU (jN hr.u1 (pv 2) (pv 4) (λ_ _=>rfl)) (pv 3) (λ_ _=>rfl)))))))
    (az (aY (cB (aa aN (aa (pv 0) ao aj) ak))))
    bz)
   (az (jn (pv 0) (kJ (jN hr.u1 (pv 2) (pv 4) (λ_ _=>rfl)) (pv 3) set_list)))))
  (az (aY jC))),?_⟩
 have hl:sizeLine=16777216:=sizeLine_eq
 refine⟨_,rfl,L,rfl,⟨_,hE.same.seq hL⟩,jl (K:=K) (a:=L) (xs:=zs.map kO) (λj σ H'=>∃kv1,cH rk (.str y) (if b then tk else gk) (zs.take j)=(kv1,true)/\uf H0 H' d ea rk (if b then gk else kv1) (if b then kv1 else tk)/\∃v4,σ=[some (.str y),some (.ref L),some (.ref d),some (.int (if b then 1 else 0)),v4]) ⟨if b then tk else gk,rfl,by cases b <;> exact hE,none,rfl⟩ (λj σ H' _ ⟨kv1,_,e,_⟩=>e.same.seq hL) ?_ ?_⟩
 ·rintro j x σ H' hx ⟨kv1,ht,E1,v4,rfl⟩
  rw [List.getElem?_map] at hx
  obtain⟨z,hzj,rfl⟩:=Option.map_eq_some_iff.mp hx
  have tk1:zs.take (j+1)=zs.take j ++ [z]:=by rw [List.take_succ,hzj];rfl
  have sn:cH rk (.str y) (if b then tk else gk) (zs.take (j+1))=cH rk (.str y) kv1 [z]:=by rw [tk1];exact yW ht
  have bad:ou rk kv1 z=false->(cH rk (.str y) (if b then tk else gk) zs).2=false:=λhf=>by
   have e:cH rk (.str y) kv1 [z]=(kv1,false):=by
    cases z with
    | none=>rfl
    | some kz=>unfold cH;rw [hf];rfl
   rw [<-List.take_append_drop (j+1) zs,yO (sn.trans e)]
  have ret:ou rk kv1 z=false->∀a,H' a=none->Q (.ref a) (upd H' a (.tup [.str "BadLanes",.str y])):=λhf a na=>kE (bad hf) _ _ (E1.same.trans (aC na)) ⟨a,_,rfl,rfl,aq⟩
  cases z with
  | none=>
   refine⟨_,rfl,_,rfl,.non d _ rfl rfl (.inl E1.ed) ⟨_,rfl,bK (bK ?_)⟩⟩
   exact⟨_,rfl,by show 2<=sizeLine;lia,λa na=>ret rfl a na⟩
  | some kz=>
   refine⟨_,rfl,_,rfl,.key d _ rfl (iR.k (k:=kz) E1.ed) ⟨_,rfl,?_⟩⟩
   rcases E1.get kz with ⟨q,hq,rfl,h1,h2⟩ | ⟨h1,h2⟩
   rotate_left
   ·rw [h2]
    exact bK (bK ⟨_,rfl,by show 2<=sizeLine;lia,λa na=>ret (by show((bx rk kz).isSome && _)=false;rw [h1];rfl) a na⟩)
   rw [h2]
   refine bW ?_
   have hA:=E1.all q hq
   have dg:iR H' d (kO (some q.1)) (some (.ref q.2)):=by rw [<-h2];exact iR.k (k:=q.1) E1.ed
   have hv1:∀p∈kv1,p.2≠V.non:=by cases b;exact E1.gv;exact E1.tv
   have fr:∀{c:Bool},(bx kv1 q.1).isSome=c->ou rk kv1 (some q.1)=!c:=λ{c} hc=>by show((bx rk q.1).isSome && !(bx kv1 q.1).isSome)=_;rw [h1,hc,Bool.true_and]
   have step:(bx kv1 q.1).isSome=false->cH rk (.str y) (if b then tk else gk) (zs.take (j+1))=(kv1 ++ [(q.1,V.str y)],true):=λhc=>by
    rw [sn]
    unfold cH
    rw [if_pos (show ou rk kv1 (some q.1)=true from fr hc)]
    rfl
   have vn:(bx kv1 q.1).isSome=false->bx kv1 q.1=none:=λhc=>by cases e:bx kv1 q.1 with
    | none=>rfl
    | some _=>rw [e] at hc;cases hc
   rcases b with _ | _
   rotate_left
   ·refine⟨_,rfl,_,rfl,d,.ref q.2,rfl,dg,_,rfl,q.2,_,1,(bx kv1 q.1).getD .non,rfl,rfl,bH.of hA,rfl,_,rfl,?_⟩
    rw [LC hv1]
    cases hc:(bx kv1 q.1).isSome with
    | true=>exact bK ⟨_,rfl,by show 2<=sizeLine;lia,λa na=>ret (fr hc) a na⟩
    | false=>
     refine bW ⟨_,rfl,_,rfl,_,rfl,d,.ref q.2,rfl,dg,_,rfl,q.2,_,1,1,rfl,rfl,hA,rfl,kv1 ++ [(q.1,V.str y)],step hc,?_,_,rfl⟩
     have W:=E1.write (gk':=gk) (tk':=kv1 ++ [(q.1,V.str y)]) hq (λ_ _=>rfl) (λk hk=>zz (Ne.symm hk)) E1.gv (Im hv1)
     rw [HJ (vn hc)] at W
     exact W
   ·refine⟨_,rfl,_,rfl,d,.ref q.2,rfl,dg,_,rfl,q.2,_,0,(bx kv1 q.1).getD .non,rfl,rfl,bH.of hA,rfl,_,rfl,?_⟩
    rw [LC hv1]
    cases hc:(bx kv1 q.1).isSome with
    | true=>exact bK ⟨_,rfl,by show 2<=sizeLine;lia,λa na=>ret (fr hc) a na⟩
    | false=>
     refine bW ⟨_,rfl,_,rfl,_,rfl,d,.ref q.2,rfl,dg,_,rfl,q.2,_,0,0,rfl,rfl,hA,rfl,kv1 ++ [(q.1,V.str y)],step hc,?_,_,rfl⟩
     have W:=E1.write (gk':=kv1 ++ [(q.1,V.str y)]) (tk':=tk) hq (λk hk=>zz (Ne.symm hk)) (λ_ _=>rfl) (Im hv1) E1.tv
     rw [HJ (vn hc)] at W
     exact W
 ·rintro σ H' ⟨kv1,ht,E1,v4,rfl⟩
  rw [lM,List.take_length] at ht
  refine k (by rw [ht]) _ ?_
  cases b with
  | true=>
   have ht:cH rk (.str y) tk zs=(kv1,true):=ht
   rw [ht]
   exact E1
  | false=>
   have ht:cH rk (.str y) gk zs=(kv1,true):=ht
   rw [ht]
   exact E1
theorem UV {xs:List V} (hc:xs.all dZ=false):((xs.filter λv=>!dZ v).map oM).isEmpty=false:=by
 rw [List.all_eq_false] at hc
 obtain⟨v,hv,hb⟩:=hc
 have hm:v∈xs.filter λv=>!dZ v:=List.mem_filter.mpr ⟨hv,by simpa using hb⟩
 cases hq:xs.filter λv=>!dZ v with
 | nil=>rw [hq] at hm;cases hm
 | cons _ _=>rfl
noncomputable def EY (i:Nat):List V:=[nV (cN i),nV (cI i),nV (cO i)]
theorem Ox (z:Str):((List.range 11).filter λi=>decide (cu i=z)).map EY=match RW z with
  | none=>[]
  | some i=>[EY i]:=by
 cases h:RW z with
 | none=>
  have e:(List.range 11).filter (λi=>decide (cu i=z))=[]:=List.filter_eq_nil_iff.mpr λi hi=>List.find?_eq_none.mp h i hi
  rw [e]
  rfl
 | some i=>
  obtain⟨hi,rfl⟩:=xW h
  have e:∀i,i <11->(List.range 11).filter (λj=>decide (cu j=cu i))=[i]:=by decide +kernel
  rw [e i (by lia)]
  rfl
inductive pK (K:PySem.W.Frag) (vs:List V) (H:Hp) (Q:VK) (E:XK):Prop where
 | mk:∀(r a1 a2 a3 d N:Addr) (H0:Hp) (ea:List (Key×Addr)) (rk:List (Key×V)) (s:Ro) (ns:List Str) (X:dI),vs=[.ref r,.ref d,.ref N]->H0 r=some (.tup [.str X.kind,X.name,.ref a1,.ref a2,.ref a3])->bH K H0 a1 X.nums->bH K H0 a2 (X.ins.map kO)->bH K H0 a3 (X.outs.map kO)->PyData.strOk X.kind=true->X.kind.length<=100->jx X.name->((∀v∈X.nums,jx v))->X.nums.length<=100->X.ins.length<=100->X.outs.length<=100->uf H0 H d ea rk s.gk s.tk->H N=some (.lst (ns.map V.str))->H0 N=none->N≠d->N∉ea.map (·.2)->ns.length<=100->((ns.map λz=>(Sum.inr z:Key))=s.pk.map (·.1))->((∀u,fW rk s X=.error u->∀H' y,aM H0 H'->o5 H' y (some u)->Q y H'))->(∀s',fW rk s X=.ok s'->∀H' z,X.name=.str z->uf H0 H' d ea rk s'.gk s'.tk->H' N=some (.lst ((ns ++ [z]).map V.str))->Q .non H')->pK K vs H Q E
noncomputable abbrev j9:List Str:=["_law_one", "_law_ends", "_law_names", "_law_kind", "_law_name", "_law_numbers", "_law_ins", "_law_outs", "_law_wants", "_law_due_here"]
theorem yz (T:Txt w K mg t):FO P w K mg base 3 t.qZ ["_law_one", "_law_ends", "_law_names"] (pK K):=by
 have sc:=T.kZ.sc j9
 refine T.kZ.F.ok sc ln (λ_ _ _ _ H vs Q E hr h=>?_)
 obtain⟨r,a1,a2,a3,d,N,H0,ea,rk,s,ns,X,rfl,hr1,h1,h2,h3,hk,hkl,hT,hV,hn,hi,ho,hE,eN,n0,nNd,nNe,hns,ek,kE,k⟩:=h
 refine⟨_,(aA (jn (pv 0) (Gq rfl (bR (gN sc 3) (bR (gN sc 4) (bR (gN sc 5) (bR (gN sc 6) (bR (gN sc 7) n8)))))))
  (aA (j4 (i:=8) [3] j9 (bw (top 72)) rfl sc.nd rfl (dB (Ph (DP T) (hr.mono (by decide)) (by rfl) T.jf.m T.jf.F.kp T.jf.b .nil fG)) (λ_ _ _ _ _=>(Gr (aJ cX (aZ (Rv (K:=K) rfl) (pv 0) au (λ_ _=>rfl)) (pv 1) (bu _)))) (λ_ _ _ _ _=>(sV (Rr (K:=K) rfl) (pv 0) (w5 au) wO)))
  (aA (bD (aJ (GF hr.units) (pv 8) (aW ao) (bu _))
   (az (aY (cB (aa aN (aa (pv 3) ao aj) ak))))
   bz)
  (aA (sN sc 9 (dF (ph T) T.iG hr (aa (pv 4) (aa (pv 2) ao aj) aj)))
  (aA (bD (jE (uF (pv 9)))
   (az (aY (pv 9)))
   bz)
  (aA (bD (PW.pt (j7 (aJ Ax (bj bI (by rfl) T.dz cj (aa (pv 5) ao aj)) (aZ dM (aZ aU (pv 8) au (λ_ _=>rfl)) au (λ_ _=>rfl)) (bu _)) (jr (aJ (vX hr.units) (jX [] j9 (bw (top 72)) rfl (dB (pv 5)) (λ_ _ _ _ _=>(Gr (fP (gY (dF (pq T) T.iH hr (aa (pv 0) ao aj)))))) (λ_ _ _ _ _=>(pv 0))) (aW ao) (bu _)))))
   (az (aY (cB (aa aN (aa (pv 4) ao aj) ak))))
   bz)
  (aA (bD (PW.pt (j7 (aJ Ax (bj bI (by rfl) T.dz cj (aa (pv 6) ao aj)) (aZ dM (aZ aU (pv 8) au (λ_ _=>rfl)) au (λ_ _=>rfl)) (bu _)) (jr (aJ Ax (bj bI (by rfl) T.dz cj (aa (pv 7) ao aj)) (aZ dM (aZ aU (pv 8) au (λ_ _=>rfl)) au (λ_ _=>rfl)) (bu _)))))
   (az (aY (cB (aa aN (aa (pv 4) ao aj) ak))))
   bz)
  (aA (aV (yU (pv 2) (aa (pv 4) ao aj)))
  (az (aY (Vg (dF (nG T) T.gB hr (aa (pv 4) (aa (pv 6) (aa (pv 1) (aa au ao ak) aj) aj) aj)) (sU (dF (nG T) T.gB hr (aa (pv 4) (aa (pv 7) (aa (pv 1) (aa au ao ak) aj) aj) aj)))))))))))))),?_⟩
 have hl:sizeLine=16777216:=sizeLine_eq
 have hr2:=d7.of (K:=K) (hE.same _ _ hr1)
 refine⟨_,rfl,r,_,rfl,hr2,rfl,_,_,rfl,_,_,rfl,_,_,rfl,_,_,rfl,_,_,rfl,rfl,?_⟩
 refine⟨rfl,λH1 L rs s1 eL tL=>?_⟩
 have lrs:rs.length=11:=(fU tL).trans rfl
 refine⟨L,rfl,⟨_,bH.of eL⟩,jD (K:=K) (a:=L) (xs:=rs.map V.ref) (λj ys H'=>aM H1 H'/\∃ws:List Addr,ys=ws.map V.ref/\uQ H' ws ((((List.range 11).take j).filter λi=>decide (cu i=X.kind)).map EY)) (by rw [lM];lia) ⟨aM.refl _,[],rfl,.nil⟩ (λj ys H' h=>by obtain⟨_,ws,rfl,ht⟩:=h;rw [lM,fU ht,lM];exact Nat.le_trans (List.length_filter_le _ _) (by rw [List.length_take];lia)) (λj ys H' _ h=>h.1.seq (bH.of eL)) ?_ ?_⟩
 ·rintro j x ys H' hx ⟨s2,ws,rfl,ht⟩
  rw [List.getElem?_map] at hx
  obtain⟨q,hq,rfl⟩:=Option.map_eq_some_iff.mp hx
  have hj:j <11:=by have:=(List.getElem?_eq_some_iff.mp hq).1;lia
  obtain⟨q',eq',eK⟩:=tL.get (RL (by lia:j<=10))
  obtain rfl:q=q':=Option.some.inj (hq.symm.trans eq')
  have eK2:=d7.of (K:=K) (s2 _ _ eK)
  have tk:(List.range 11).take (j+1)=(List.range 11).take j ++ [j]:=by rw [List.take_succ,List.getElem?_range hj];rfl
  rw [tk,List.filter_append,List.map_append]
  refine⟨_,rfl,q,_,0,_,rfl,rfl,eK2,aH (j:=0) rfl,_,rfl,rfl,_,rfl,?_⟩
  have ee:decide (V.str (cu j)=V.str X.kind)=decide (cu j=X.kind):=by simp
  rw [ee]
  cases hb:decide (cu j=X.kind) with
  | false=>
   have e1:[j].filter (λi=>decide (cu i=X.kind))=[]:=by rw [List.filter_cons_of_neg (by rw [hb];decide)];rfl
   exact bW ⟨s2,ws,rfl,by rw [e1,List.map_nil,List.append_nil];exact ht⟩
  | true=>
   refine bK ⟨_,rfl,1,rfl,q,_,rfl,eK2,(show ¬(HT.jB 4 0 (some 1)=0/\HT.jB 4 4 none=4) by decide),λp np=>?_⟩
   have sp:=aC (o:=.tup (Bq (Ws j) (some 1) none)) np
   refine⟨s2.trans sp,ws ++ [p],by rw [List.map_append];rfl,?_⟩
   have e1:([j].filter λi=>decide (cu i=X.kind)).map EY=[EY j]:=by rw [List.filter_cons_of_pos (by rw [hb])];rfl
   rw [e1]
   exact(ht.same sp).append (.cons aq .nil)
 ·rintro ys H' ⟨s2,ws,rfl,ht⟩ D nD
  rw [lM,lrs,List.take_of_length_le (by simp),Ox] at ht
  refine Hh nD λH3 s3 eD=>?_
  have tD:=ht.same s3
  have E3:=hE.keep (s1.trans (s2.trans s3))
  have eN3:=(s1.trans (s2.trans s3)) _ _ eN
  refine⟨_,rfl,by show 0<=sizeLine;lia,λD2 nD2=>?_⟩
  have s4:=aC (o:=.lst []) nD2
  cases hx:RW X.kind with
  | none=>
   rw [hx] at tD
   obtain rfl:ws=[]:=List.length_eq_zero_iff.mp (fU tD)
   refine⟨_,_,.list (bH.of (s4 _ _ eD)) .nil,.list (bH.of aq) .nil,(Gd.list (n:=0) (by simp)).shaped (by decide),(Gd.list (n:=0) (by simp)).shaped (by decide),?_⟩
   rw [m9]
   exact⟨_,rfl,bK ⟨_,rfl,by show 2<=sizeLine;lia,λa na=>kE (4,.str X.kind) (by unfold fW;rw [hx]) _ _ (E3.same.trans (s4.trans (aC na))) ⟨a,_,rfl,rfl,aq⟩⟩⟩
  | some i=>
  rw [hx] at tD
  obtain⟨p,rfl⟩:∃p,ws=[p]:=List.length_eq_one_iff.mp (fU tD)
  have ep:H3 p=some (.tup (EY i)):=by cases tD with | cons h _=>exact h
  have dp:Dt K (upd H3 D2 (.lst [])) (.ref p) (.tuple [.int (cN i:Nat),.int (cI i:Nat),.int (cO i:Nat)]):=.tuple (d7.of (s4 _ _ ep)) (.cons (.int _) (.cons (.int _) (.cons (.int _) .nil)))
  refine⟨_,_,.list (bH.of (s4 _ _ eD)) (.cons dp .nil),.list (bH.of aq) .nil,(Gd.list (n:=1) λx hx=>by rw [List.mem_singleton] at hx;subst hx;exact .tuple λy hy=>by simp only [List.mem_cons,List.not_mem_nil,or_false] at hy;rcases hy with rfl | rfl | rfl <;> exact .int _ _).shaped (by decide),(Gd.list (n:=0) (by simp)).shaped (by decide),?_⟩
  rw [m9]
  refine⟨_,rfl,bW ?_⟩
  have E4:=E3.keep s4
  have eD4:=s4 _ _ eD
  have ep4:=s4 _ _ ep
  have eN4:=s4 _ _ eN3
  clear dp
  generalize upd H3 D2 (.lst [])=H4 at E4 eD4 ep4 eN4 ⊢
  refine⟨_,rfl,_,rfl,X.name,N,s.pk,rfl,hT,.inr ⟨ns,eN4,ek⟩,λH5 y s5 hD=>?_⟩
  have E5:=E4.keep s5
  cases hd:freshD X.name s.pk with
  | some u=>
   rw [hd] at hD
   obtain⟨a,z,rfl,e1,e2⟩:=id hD
   exact⟨_,rfl,_,rfl,bK ⟨_,rfl,kE u (by unfold fW;rw [hx];dsimp only;rw [hd]) _ _ E5.same hD⟩⟩
  | none=>
  rw [hd] at hD
  obtain rfl:y=.non:=hD
  refine⟨_,rfl,_,rfl,bW ?_⟩
  have eD5:=s5 _ _ eD4
  have ep5:=s5 _ _ ep4
  have eN5:=s5 _ _ eN4
  have f1:=E5.same.seq h1
  have bad:∀{c:Nat} {z:Str},oV i X.name X.nums (X.ins.map kO) (X.outs.map kO)=some (c,X.name)->Uz[c]?=some z->∀{H6:Hp},aM H5 H6->∀a,H6 a=none->Q (.ref a) (upd H6 a (.tup [.str z,X.name])):=λe ez H6 s6 a na=>kE (_,X.name) (by unfold fW;rw [hx];dsimp only;rw [hd];dsimp only;rw [e]) _ _ (E5.same.trans (s6.trans (aC na))) ⟨a,_,rfl,ez,aq⟩
  refine⟨_,rfl,.ref a1,X.nums.length,rfl,.inl ⟨_,f1,rfl⟩,_,rfl,D,_,0,_,rfl,rfl,bH.of eD5,aH (j:=0) rfl,p,_,0,_,rfl,rfl,d7.of ep5,aH (j:=0) rfl,rfl,_,rfl,?_⟩
  have f2:=E5.same.seq h2
  have f3:=E5.same.seq h3
  have nVi:∀{a b:Nat},(!decide (V.int ((a:Nat):Int)=nV b))=!decide (a=b):=λ{a b}=>by
   show(!decide (V.int ((a:Nat):Int)=V.int ((b:Nat):Int)))=_
   congr 1
   exact decide_eq_decide.mpr ⟨λh=>by have:=V.int.inj h;lia,λh=>by rw [h]⟩
  rw [nVi]
  by_cases hc:X.nums.length=cN i
  case neg=>
   rw [decide_eq_false hc]
   exact bK (bK ⟨_,rfl,by show 2<=sizeLine;lia,λa na=>bad (by unfold oV;rw [decide_eq_false hc,Bool.false_and];rfl) rfl (aM.refl _) a na⟩)
  rw [decide_eq_true hc]
  refine bW ?_
  refine⟨_,rfl,a1,rfl,⟨_,f1⟩,jD (K:=K) (a:=a1) (xs:=X.nums) (λj zs H'=>H'=H5/\zs=(X.nums.take j).filter λv=>!dZ v) (by lia) ⟨rfl,rfl⟩ (λj zs H' h=>by rw [h.2];exact Nat.le_trans (List.length_filter_le _ _) (by rw [List.length_take];lia)) (λj zs H' _ h=>by rw [h.1];exact f1) ?_ ?_⟩
  ·rintro j v zs H' hv ⟨rfl,rfl⟩
   have hm:=List.mem_of_getElem? hv
   rw [List.take_succ,hv,List.filter_append]
   refine⟨_,rfl,v,rfl,(hV v hm).1,_,rfl,?_⟩
   cases hb:dZ v with
   | true=>exact bW ⟨rfl,by simp [hb]⟩
   | false=>exact bK ⟨_,rfl,rfl,by simp [hb]⟩
  ·rintro zs H' ⟨rfl,rfl⟩ D1 nD1
   rw [List.take_length]
   refine⟨by show 0<=sizeLine;lia,λD2 nD2=>?_⟩
   have t1:=aC (o:=.lst (X.nums.filter λv=>!dZ v)) nD1
   have t2:=aC (o:=.lst []) nD2
   have eD1:=t2 _ _ aq
   have tt:=t1.trans t2
   have eD2:upd (upd H' D1 (.lst (X.nums.filter λv=>!dZ v))) D2 (.lst []) D2=some (.lst []):=aq
   generalize upd (upd H' D1 (.lst (X.nums.filter λv=>!dZ v))) D2 (.lst [])=H6 at eD1 eD2 tt ⊢
   clear t1 t2
   have hW:∀v∈X.nums.filter (λv=>!dZ v),jx v:=λv hv=>hV v (List.mem_filter.mp hv).1
   refine⟨_,_,.list (bH.of eD1) (xM hW),.list (bH.of eD2) .nil,(Gd.list (n:=1) λx hx=>by obtain⟨v,hv,rfl⟩:=List.mem_map.mp hx;exact(hW v hv).gd 1).shaped (by decide),(Gd.list (n:=0) (by simp)).shaped (by decide),?_⟩
   rw [m9]
   have E6:=E5.keep tt
   cases hv:X.nums.all dZ with
   | false=>
    rw [show((X.nums.filter λv=>!dZ v).map oM).isEmpty=false from UV hv]
    exact⟨_,rfl,bK ⟨_,rfl,by show 2<=sizeLine;lia,λa na=>bad (by unfold oV;rw [hv,Bool.and_false];rfl) rfl tt a na⟩⟩
   | true=>
   have hne:((X.nums.filter λv=>!dZ v).map oM).isEmpty=true:=by
    rw [List.filter_eq_nil_iff.mpr λv hx=>by rw [List.all_eq_true.mp hv v hx];decide]
    rfl
   rw [hne]
   refine⟨_,rfl,bW ?_⟩
   have g1:(decide (X.nums.length=cN i) && X.nums.all dZ)=true:=by rw [decide_eq_true hc,hv];rfl
   have bad5:(decide (X.ins.length=cI i) && decide (X.outs.length=cO i))=false->oV i X.name X.nums (X.ins.map kO) (X.outs.map kO)=some (5,X.name):=λz=>by unfold oV;rw [g1,lM,lM,z];rfl
   refine⟨_,rfl,.ref a2,X.ins.length,rfl,.inl ⟨_,tt.seq f2,by rw [lM]⟩,_,rfl,D,_,0,_,rfl,rfl,bH.of (tt _ _ eD5),aH (j:=0) rfl,p,_,1,_,rfl,rfl,d7.of (tt _ _ ep5),aH (j:=1) rfl,rfl,_,rfl,?_⟩
   rw [nVi]
   by_cases hI:X.ins.length=cI i
   case neg=>
    rw [decide_eq_false hI]
    exact bK (bK ⟨_,rfl,by show 2<=sizeLine;lia,λa na=>bad (bad5 (by rw [decide_eq_false hI,Bool.false_and])) rfl tt a na⟩)
   rw [decide_eq_true hI]
   refine bW ?_
   refine⟨_,rfl,.ref a3,X.outs.length,rfl,.inl ⟨_,tt.seq f3,by rw [lM]⟩,_,rfl,D,_,0,_,rfl,rfl,bH.of (tt _ _ eD5),aH (j:=0) rfl,p,_,2,_,rfl,rfl,d7.of (tt _ _ ep5),aH (j:=2) rfl,rfl,_,rfl,?_⟩
   rw [nVi]
   by_cases hO:X.outs.length=cO i
   case neg=>
    rw [decide_eq_false hO]
    exact bK ⟨_,rfl,by show 2<=sizeLine;lia,λa na=>bad (bad5 (by rw [decide_eq_false hO,Bool.and_false])) rfl tt a na⟩
   rw [decide_eq_true hO]
   refine bW ?_
   have fd:oV i X.name X.nums (X.ins.map kO) (X.outs.map kO)=none:=by unfold oV;rw [g1,lM,lM,decide_eq_true hI,decide_eq_true hO];rfl
   clear bad bad5
   obtain⟨z,ez,_,_⟩:=lY hd
   have sX:fW rk s X=if (cH rk X.name s.tk X.ins).2=true then(if (cH rk X.name s.gk X.outs).2=true then .ok ⟨s.pk ++ [(QM X.name,.non)],(cH rk X.name s.tk X.ins).1,(cH rk X.name s.gk X.outs).1⟩ else .error (5,X.name)) else .error (5,X.name):=by unfold fW;rw [hx];dsimp only;rw [hd];dsimp only;rw [fd]
   rw [ez] at sX
   refine⟨.ref N,rfl,.inl ⟨rfl,_,bH.of (tt _ _ eN5)⟩,_,rfl,N,_,_,rfl,rfl,tt _ _ eN5,by rw [lM];lia,?_⟩
   have E7:=E6.poke (o:=.lst (ns.map V.str ++ [X.name])) n0 nNd nNe
   have eN7:upd H6 N (.lst (ns.map V.str ++ [X.name])) N=some (.lst ((ns ++ [z]).map V.str)):=by rw [aq,ez,List.map_append];rfl
   generalize upd H6 N (.lst (ns.map V.str ++ [X.name]))=H7 at E7 eN7 ⊢
   obtain⟨W7,sw⟩:=E7.wide
   have eNw:bQ (d:: ea.map (·.2)) H7 N=some (.lst ((ns ++ [z]).map V.str)):=by
    unfold bQ
    rw [if_neg (λhm=>by rcases List.mem_cons.mp hm with h | h;exact nNd h;exact nNe h)]
    exact eN7
   generalize bQ (d:: ea.map (·.2)) H7=HW at W7 sw eNw
   have out:∀{H':Hp} {v:V},o5 H' v (some (5,.str z))->VB K v H' true:=λ{H' v} h=>by
    obtain⟨a,w,rfl,_,e⟩:=h
    exact .inr (.inl ⟨_,d7.of e,rfl⟩)
   refine⟨_,rfl,_,rfl,_,rfl,z,a2,d,X.ins,HW,ea,rk,s.gk,s.tk,true,by rw [ez];rfl,sw.seq h2,hi,W7,λb1 H' v s8 e=>?_,λb1 H' W8=>?_⟩
   ·have b1:(cH rk (.str z) s.tk X.ins).2=false:=b1
    exact⟨true,out e,bK (kE _ (by rw [sX,b1];rfl) _ _ (sw.trans s8) e)⟩
   have b1:(cH rk (.str z) s.tk X.ins).2=true:=b1
   have W8:uf HW H' d ea rk s.gk (cH rk (.str z) s.tk X.ins).1:=W8
   refine⟨false,rfl,bW ⟨_,rfl,_,rfl,_,rfl,z,a3,d,X.outs,HW,ea,rk,s.gk,_,false,by rw [ez];rfl,sw.seq h3,ho,W8,λb2 H' v s8 e=>?_,λb2 H' W9=>?_⟩⟩
   ·have b2:(cH rk (.str z) s.gk X.outs).2=false:=b2
    exact kE _ (by rw [sX,b1,b2];rfl) _ _ (sw.trans s8) e
   have b2:(cH rk (.str z) s.gk X.outs).2=true:=b2
   have W9:uf HW H' d ea rk (cH rk (.str z) s.gk X.outs).1 (cH rk (.str z) s.tk X.ins).1:=W9
   rw [b1,b2] at sX
   exact k _ sX _ z ez (W9.back sw) (W9.same _ _ eNw)
theorem Ak:∀{l m:List Str},l.Nodup->(∀x∈l,x∈m)->l.length<=m.length
 | [],_,_,_=>Nat.zero_le _
 | a:: r,m,nd,h=>by
  rw [List.nodup_cons] at nd
  have ha:=h a List.mem_cons_self
  have:=Ak (l:=r) (m:=m.erase a) nd.2 λx hx=>(List.mem_erase_of_ne (λz=>nd.1 (by rw [<-z];exact hx))).mpr (h x (List.mem_cons_of_mem _ hx))
  rw [List.length_erase_of_mem ha] at this
  have h1:=List.length_pos_of_mem ha
  rw [List.length_cons]
  lia
structure Nr (ps:List PD) (z:Str) (xs:List Str):Prop where
 nd:xs.Nodup
 fst:z∈xs
 cn:∀x∈xs,Cn ps z x
 sub:∀x∈xs,x∈ps.map (·.name)
noncomputable def Xv (ps:List PD) (xs:List Str):Prop:=∀a∈ps,∀b∈ps,∀l,l∈a.outs->l∈b.ins->(a.name∈xs↔b.name∈xs)
noncomputable def YW (ps:List PD) (xs:List Str) (k:Key):Prop:=∀a∈ps,∀b∈ps,∀l,k=Sum.inr l->l∈a.outs->l∈b.ins->(a.name∈xs↔b.name∈xs)
noncomputable def zE (xs:List Str) (g t:Str):List Str:=if g∈xs/\t∉xs then xs ++ [t] else xs
theorem Nr.grow {ps:List PD} {z y:Str} {xs:List Str} (h:Nr ps z xs) (hy:y∉xs) (c:Cn ps z y) (m:y∈ps.map (·.name)):Nr ps z (xs ++ [y]):=by
 refine⟨?_,List.mem_append.mpr (.inl h.fst),λx hx=>?_,λx hx=>?_⟩
 ·rw [List.nodup_append]
  exact⟨h.nd,by simp,λa ha b hb e=>hy (by rw [List.mem_singleton] at hb;rw [<-hb,<-e];exact ha)⟩
 ·rcases List.mem_append.mp hx with e | e
  ·exact h.cn x e
  ·rw [List.mem_singleton] at e;subst e;exact c
 ·rcases List.mem_append.mp hx with e | e
  ·exact h.sub x e
  ·rw [List.mem_singleton] at e;subst e;exact m
theorem Nr.gr {ps:List PD} {z g t:Str} {xs:List Str} (h:Nr ps z xs) (c:Cn ps z g->Cn ps z t) (m:t∈ps.map (·.name)):Nr ps z (zE xs g t):=by
 unfold zE
 split
 ·rename_i e;exact h.grow e.2 (c (h.cn _ e.1)) m
 ·exact h
theorem OJ {xs:List Str} {g t:Str}:xs.length<=(zE xs g t).length/\(zE xs g t≠xs->xs.length <(zE xs g t).length):=by
 unfold zE
 split
 ·simp
 ·simp
theorem UJ {xs:List Str} {g t:Str}:(zE (zE xs g t) t g=xs/\(g∈xs↔t∈xs))∨(xs.length <(zE (zE xs g t) t g).length/\¬(g∈xs↔t∈xs)):=by
 by_cases hg:g∈xs <;> by_cases ht:t∈xs
 ·exact .inl ⟨by unfold zE;simp [hg,ht],by simp [hg,ht]⟩
 ·exact .inr ⟨by unfold zE;simp [hg,ht],by simp [hg,ht]⟩
 ·exact .inr ⟨by unfold zE;simp [hg,ht],by simp [hg,ht]⟩
 ·exact .inl ⟨by unfold zE;simp [hg,ht],by simp [hg,ht]⟩
theorem Cn.closedL {ps:List PD} {z x:Str} {xs:List Str} (h:Cn ps z x) (hE:Xv ps xs) (hz:z∈xs):x∈xs:=by
 induction h with
 | refl=>exact hz
 | step ha hb la lb _ ih=>exact(hE _ ha _ hb _ la lb).mp ih
 | back ha hb la lb _ ih=>exact(hE _ ha _ hb _ la lb).mpr ih
theorem wV {f:PD->List Str} {ps:List PD} {k:Key}:bx (bC f ps) k=none∨∃p∈ps,∃l∈f p,k=Sum.inr l/\bx (bC f ps) k=some (.str p.name):=by
 cases e:(bC f ps).find? λkv=>decide (kv.1=k) with
 | none=>exact .inl (by unfold bx;rw [e];rfl)
 | some q=>
  have h1:=List.mem_of_find?_eq_some e
  have h2:=List.find?_some e
  obtain⟨j,hj⟩:=List.mem_iff_getElem?.mp h1
  obtain⟨p,hp,l,hl,e1,e2⟩:=Hy (k:=q.1) (v:=q.2) hj
  have h2:q.1=k:=of_decide_eq_true h2
  exact .inr ⟨p,hp,l,hl,h2 ▸ e1,by unfold bx;rw [e];exact congrArg some e2⟩
theorem Mi {f g:PD->List Str} {ps:List PD} {k:Key}:inV .non [(bx (bC f ps) k).getD .non,(bx (bC g ps) k).getD .non]=(!(bx (bC f ps) k).isSome || !(bx (bC g ps) k).isSome)/\[(bx (bC f ps) k).getD .non,(bx (bC g ps) k).getD .non].all ux=true:=by
 rcases wV (f:=f) (ps:=ps) (k:=k) with e | ⟨p,_,_,_,_,e⟩ <;> rcases wV (f:=g) (ps:=ps) (k:=k) with e2 | ⟨p2,_,_,_,_,e2⟩ <;> rw [e,e2] <;> exact⟨rfl,rfl⟩
inductive pG (K:PySem.W.Frag) (vs:List V) (H:Hp) (Q:VK) (E:XK):Prop where
 | mk:∀(d N:Addr) (H0:Hp) (ea:List (Key×Addr)) (ls:List bB) (ps:List PD),vs=[.ref d,.ref N]->uf H0 H d ea (aR ls) (bC (·.outs) ps) (bC (·.ins) ps)->(H N=some (.lst (ps.map λp=>V.str p.name)))->N≠d->1<=ps.length->ps.length<=16->Em ls ps->((∀q,rn (aR ls) (bC (·.outs) ps) (bC (·.ins) ps)=some q->∀H' y,aM H0 H'->o5 H' y (some (6,kV q.1))->Q y H'))->((rn (aR ls) (bC (·.outs) ps) (bC (·.ins) ps)=none->(∀p,looseD ps=some p->∀H' y,aM H0 H'->o5 H' y (some (7,.str p.name))->Q y H')/\(looseD ps=none->∀H',aM H0 H'->Q .non H')))->pG K vs H Q E
theorem yF (T:Txt w K mg t):FO P w K mg base 1 t.rB ["_law_ends", "_law_names"] (pG K):=by
 have sc:=T.lg.sc ["_law_ends", "_law_names", "_law_lane_here", "_law_near", "_law_name", "_law_giver", "_law_taker"]
 refine T.lg.F.ok sc ln (λ_ _ _ _ H vs Q E hr h=>?_)
 obtain⟨d,N,H0,ea,ls,ps,rfl,hE,eN,nNd,hp1,hp16,gP,kE,k⟩:=h
 refine⟨_,(aA (o9 (H0:=H) rfl (fM PassesOwn.never rfl (xq (pv 0)) (gN sc 2)
   (az (bD (aJ uC jC (jN hr.u1 (pv 0) (pv 2) (λ_ _=>rfl)) (by with_unfolding_all rfl))
    (az (Rb (H0:=H) rfl (aY (cB (aa aN (aa (pv 2) ao aj) ak)))))
    bz))))
  (aA (sN sc 3 (aW (aa (aZ aU (pv 1) au (λ_ _=>rfl)) ao aF)))
  (aA (fM PassesOwn.never rfl (dB (pv 1)) (gN sc 4)
   (az (Pk (H0:=H) rfl (fM PassesOwn.never rfl (Rk (pv 0)) (VR rfl (bR (gN sc 5) (bR (gN sc 6) n8)))
    (aA (bM (bD (PW.pt (tR (aJ uC (pv 5) (pv 3) (by with_unfolding_all rfl)) (pY (aJ qI (pv 6) (pv 3) (by with_unfolding_all rfl)))))
     (az (aV (yU (pv 3) (aa (pv 6) ao aj))))
     bz))
    (az (bM (bD (PW.pt (tR (aJ uC (pv 6) (pv 3) (by with_unfolding_all rfl)) (pY (aJ qI (pv 5) (pv 3) (by with_unfolding_all rfl)))))
     (az (aV (yU (pv 3) (aa (pv 5) ao aj))))
     bz))))))))
  (aA (fM PassesOwn.never rfl (dB (pv 1)) (gN sc 4)
   (az (bD (aJ qI (pv 4) (pv 3) (by with_unfolding_all rfl))
    (az (aY (cB (aa aN (aa (pv 4) ao aj) ak))))
    bz)))
  (az (aY jC)))))),?_⟩
 have hl:sizeLine=16777216:=sizeLine_eq
 have hks:(ea.map λq=>(q.1,V.ref q.2)).map (·.1)=(aR ls).map (·.1):=by rw [<-hE.ks,List.map_map];rfl
 have mel:∀o' u',H d≠some (.frz o' u'):=λo' u' z=>by rw [hE.ed] at z;cases z
 refine⟨_,rfl,d,_,rfl,hE.ed,λo=>Ar (λj σ H'=>H'=upd H d (.frz o (.dK (ea.map λq=>(q.1,V.ref q.2))))/\rn ((aR ls).take j) (bC (·.outs) ps) (bC (·.ins) ps)=none/\∃v2,σ=[some (.ref d),some (.ref N),v2,none,none,none,none]) ⟨rfl,rfl,none,rfl⟩ (λj σ H' _ ⟨e,_⟩=>by rw [e];exact aq) ?_ ?_⟩
 ·rintro j kk w σ H' hj ⟨rfl,hf,v2,rfl⟩
  have hj0:=hj
  rw [List.getElem?_map] at hj
  obtain⟨q,hq,e⟩:=Option.map_eq_some_iff.mp hj
  cases e
  have hm:=List.mem_of_getElem? hq
  have dg:iR (upd H d (.frz o (.dK (ea.map λq=>(q.1,V.ref q.2))))) d (kV q.1) (some (.ref q.2)):=.inl ⟨_,q.1,.inr ⟨o,aq⟩,rfl,(pQ (by rw [hks];exact hE.kn) (List.mem_of_getElem? hj0)).symm⟩
  have hA:upd H d (.frz o (.dK (ea.map λq=>(q.1,V.ref q.2)))) q.2=some (.lst [(bx (bC (·.outs) ps) q.1).getD .non,(bx (bC (·.ins) ps) q.1).getD .non]):=by rw [aD (hE.fr q hm).2];exact hE.all q hm
  obtain⟨rq,hrq,erq⟩:∃rq,(aR ls)[j]?=some rq/\rq.1=q.1:=by
   have:=congrArg (λl=>l[j]?) hE.ks
   simp only [List.getElem?_map,hq,Option.map_some] at this
   obtain⟨rq,h1,h2⟩:=Option.map_eq_some_iff.mp this.symm
   exact⟨rq,h1,h2⟩
  refine⟨_,rfl,_,rfl,d,.ref q.2,rfl,dg,q.2,_,rfl,.inl (bH.of hA),rfl,Mi.2,_,rfl,?_⟩
  change if inV .non [(bx (bC (·.outs) ps) q.1).getD .non,(bx (bC (·.ins) ps) q.1).getD .non]=true then _ else _
  rw [Mi.1]
  cases hb:(!(bx (bC (·.outs) ps) q.1).isSome || !(bx (bC (·.ins) ps) q.1).isSome) with
  | false=>exact bW ⟨rfl,Ah hf hrq (by rw [erq];exact hb),_,rfl⟩
  | true=>
   refine bK ⟨_,⟨d,o,_,aq,mel,rfl⟩,?_⟩
   rw [uE,Gy hE.ed]
   exact⟨_,rfl,by show 2<=sizeLine;lia,λa na=>kE rq (rR hf hrq (by rw [erq];exact hb)) _ _ (hE.same.trans (aC na)) ⟨a,_,rfl,rfl,by rw [erq];exact aq⟩⟩
 ·rintro σ H' ⟨rfl,hf,v2,rfl⟩
  rw [lM,show ea.length=(aR ls).length by have:=congrArg List.length hE.ks;simpa using this,List.take_length] at hf
  obtain⟨kL,kN⟩:=k hf
  clear k kE
  have en:=FN hf
  refine⟨_,⟨d,o,_,aq,mel,rfl⟩,?_⟩
  rw [uE,Gy hE.ed]
  obtain⟨p0,r0,rfl⟩:=List.exists_cons_of_ne_nil (show ps≠[] from λz=>by rw [z] at hp1;exact absurd hp1 (by decide))
  refine⟨_,rfl,N,_,0,_,rfl,rfl,bH.of eN,aH (j:=0) rfl,by show 1<=sizeLine;lia,λA nA=>?_⟩
  refine Hh nA λH1 s1 eA=>?_
  have nAd:A≠d:=Ne.symm (aB hE.ed nA)
  refine⟨_,rfl,N,rfl,⟨_,bH.of (s1 _ _ eN)⟩,jl (K:=K) (a:=N) (xs:=(p0:: r0).map λp=>V.str p.name) (λj σ H'=>aM H H'/\∃xs:List Str,H' A=some (.lst (xs.map V.str))/\Nr (p0:: r0) p0.name xs/\(Xv (p0:: r0) xs∨j+1<=xs.length)/\∃v4 v5 v6,σ=[some (.ref d),some (.ref N),v2,some (.ref A),v4,v5,v6]) ⟨s1,[p0.name],eA,⟨by simp,by simp,λx hx=>by rw [List.mem_singleton] at hx;subst hx;exact .refl,λx hx=>by rw [List.mem_singleton] at hx;subst hx;simp⟩,.inr (by simp),none,none,none,rfl⟩ (λj σ H' _ h=>bH.of (h.1 _ _ eN)) ?_ ?_⟩
  ·rintro j x σ H' hx ⟨s2,xs,eA2,nr,hc,v4,v5,v6,rfl⟩
   refine⟨_,rfl,d,_,rfl,s2 _ _ hE.ed,λo2=>Qu (λi σ H2=>iI d H H2/\H2 d=some (.frz o2 (.dK (ea.map λq=>(q.1,V.ref q.2))))/\∃ys:List Str,H2 A=some (.lst (ys.map V.str))/\Nr (p0:: r0) p0.name ys/\((ys=xs/\∀m q,m <i->ea[m]?=some q->YW (p0:: r0) xs q.1)∨(¬Xv (p0:: r0) xs/\xs.length <ys.length))/\∃v5 v6,σ=[some (.ref d),some (.ref N),v2,some (.ref A),some x,v5,v6]) ⟨λb u hn e=>by rw [aD hn];exact s2 b u e,aq,xs,by rw [aD nAd];exact eA2,nr,.inl ⟨rfl,λm q hm=>absurd hm (Nat.not_lt_zero _)⟩,v5,v6,rfl⟩ (λi σ H2 _ h=>h.2.1) ?_ ?_⟩
   ·rintro i kk w σ H2 hi ⟨bd,hd2,ys,eA3,nr3,hv,v5,v6,rfl⟩
    rw [List.getElem?_map] at hi
    obtain⟨q,hq,e⟩:=Option.map_eq_some_iff.mp hi
    cases e
    have hm:=List.mem_of_getElem? hq
    obtain⟨rq,hrq,erq⟩:∃rq∈aR ls,rq.1=q.1:=by
     have:q.1∈(aR ls).map (·.1):=by rw [<-hE.ks];exact List.mem_map.mpr ⟨q,hm,rfl⟩
     exact List.mem_map.mp this
    have en1:=en rq hrq
    rw [erq] at en1
    rcases wV (f:=(·.outs)) (ps:=p0:: r0) (k:=q.1) with e | ⟨a,ha,l,la,el,ea1⟩
    ·rw [e] at en1;exact absurd en1.1 (by simp)
    rcases wV (f:=(·.ins)) (ps:=p0:: r0) (k:=q.1) with e | ⟨b,hb,l2,lb,el2,eb1⟩
    ·rw [e] at en1;exact absurd en1.2 (by simp)
    obtain rfl:l2=l:=Sum.inr.inj (el2.symm.trans el)
    have hA:H2 q.2=some (.lst [V.str a.name,V.str b.name]):=by
     have:=hE.all q hm
     rw [ea1,eb1] at this
     exact bd _ _ (hE.fr q hm).2 this
    have ev:YW (p0:: r0) xs q.1↔(a.name∈xs↔b.name∈xs):=by
     refine⟨λh=>h a ha b hb _ el la lb,λh a2 ha2 b2 hb2 l2 e2 la2 lb2=>?_⟩
     obtain rfl:l2=_:=Sum.inr.inj (e2.symm.trans el)
     have x1:=fc gP.no ha2 la2
     rw [fc gP.no ha la] at x1
     have x2:=fc gP.ni hb2 lb2
     rw [fc gP.ni hb lb] at x2
     simp only [Option.some.injEq,V.str.injEq] at x1 x2
     rw [<-x1,<-x2]
     exact h
    have put:∀{H3:Hp} {o:HO},iI d H H3->H3 d=some (.frz o2 (.dK (ea.map λq=>(q.1,V.ref q.2))))->iI d H (upd H3 A o)/\upd H3 A o d=some (.frz o2 (.dK (ea.map λq=>(q.1,V.ref q.2)))):=λb1 b2=>⟨λb u hn e=>by rw [aD (aB e nA)];exact b1 b u hn e,by rw [aD nAd.symm];exact b2⟩
    have ma:a.name∈(p0:: r0).map (·.name):=List.mem_map.mpr ⟨a,ha,rfl⟩
    have mb:b.name∈(p0:: r0).map (·.name):=List.mem_map.mpr ⟨b,hb,rfl⟩
    have nr4:=nr3.gr (g:=a.name) (t:=b.name) (λc=>.step ha hb la lb c) mb
    have nr5:=nr4.gr (g:=b.name) (t:=a.name) (λc=>.back ha hb la lb c) ma
    have le3:=Ak nr3.nd nr3.sub
    have le4:=Ak nr4.nd nr4.sub
    rw [lM] at le3 le4
    refine⟨q.2,_,rfl,bH.of hA,rfl,_,_,rfl,_,_,rfl,rfl,?_⟩
    refine⟨λσ H3=>(iI d H H3/\H3 d=some (.frz o2 (.dK (ea.map λq=>(q.1,V.ref q.2)))))/\H3 A=some (.lst ((zE ys a.name b.name).map V.str))/\σ=[some (.ref d),some (.ref N),v2,some (.ref A),some x,some (.str a.name),some (.str b.name)],?_,?_⟩
    ·refine⟨_,rfl,_,rfl,A,_,rfl,.inl (bH.of eA3),rfl,lV _,_,rfl,?_⟩
     change if inV (.str a.name) (ys.map V.str)=true then _ else _
     rw [uK]
     by_cases c1:a.name∈ys
     case neg=>
      rw [decide_eq_false c1]
      exact bW (bW ⟨⟨bd,hd2⟩,by unfold zE;rw [if_neg (λz=>c1 z.1)];exact eA3,rfl⟩)
     rw [decide_eq_true c1]
     refine bK ⟨_,rfl,_,rfl,A,_,rfl,.inl (bH.of eA3),rfl,lV _,_,rfl,?_⟩
     change if (!inV (.str b.name) (ys.map V.str))=true then _ else _
     rw [uK]
     by_cases c2:b.name∈ys
     case pos=>
      rw [decide_eq_true c2]
      exact bW ⟨⟨bd,hd2⟩,by unfold zE;rw [if_neg (λz=>z.2 c2)];exact eA3,rfl⟩
     rw [decide_eq_false c2]
     exact bK ⟨.ref A,rfl,.inl ⟨rfl,_,bH.of eA3⟩,_,rfl,A,_,_,rfl,rfl,eA3,by rw [lM];lia,put bd hd2,by unfold zE;rw [if_pos ⟨c1,c2⟩,List.map_append];exact aq,rfl⟩
    ·rintro σ H3 ⟨⟨bd,hd2⟩,eA4,rfl⟩
     refine⟨λσ H3=>(iI d H H3/\H3 d=some (.frz o2 (.dK (ea.map λq=>(q.1,V.ref q.2)))))/\H3 A=some (.lst ((zE (zE ys a.name b.name) b.name a.name).map V.str))/\σ=[some (.ref d),some (.ref N),v2,some (.ref A),some x,some (.str a.name),some (.str b.name)],?_,?_⟩
     ·refine⟨_,rfl,_,rfl,A,_,rfl,.inl (bH.of eA4),rfl,lV _,_,rfl,?_⟩
      change if inV (.str b.name) ((zE ys a.name b.name).map V.str)=true then _ else _
      rw [uK]
      generalize zE ys a.name b.name=zs at *
      by_cases c1:b.name∈zs
      case neg=>
       rw [decide_eq_false c1]
       exact bW (bW ⟨⟨bd,hd2⟩,by unfold zE;rw [if_neg (λz=>c1 z.1)];exact eA4,rfl⟩)
      rw [decide_eq_true c1]
      refine bK ⟨_,rfl,_,rfl,A,_,rfl,.inl (bH.of eA4),rfl,lV _,_,rfl,?_⟩
      change if (!inV (.str a.name) (zs.map V.str))=true then _ else _
      rw [uK]
      by_cases c2:a.name∈zs
      case pos=>
       rw [decide_eq_true c2]
       exact bW ⟨⟨bd,hd2⟩,by unfold zE;rw [if_neg (λz=>z.2 c2)];exact eA4,rfl⟩
      rw [decide_eq_false c2]
      exact bK ⟨.ref A,rfl,.inl ⟨rfl,_,bH.of eA4⟩,_,rfl,A,_,_,rfl,rfl,eA4,by rw [lM];lia,put bd hd2,by unfold zE;rw [if_pos ⟨c1,c2⟩,List.map_append];exact aq,rfl⟩
     ·rintro σ H3 ⟨⟨bd,hd2⟩,eA5,rfl⟩
      refine⟨bd,hd2,_,eA5,nr5,?_,_,_,rfl⟩
      rcases hv with ⟨rfl,hv⟩ | ⟨nc,hlt⟩
      ·rcases UJ (xs:=ys) (g:=a.name) (t:=b.name) with ⟨e1,e2⟩ | ⟨e1,e2⟩
       ·refine .inl ⟨e1,λm q' hm' hq'=>?_⟩
        rcases Nat.lt_or_ge m i with h | h
        ·exact hv m q' h hq'
        ·obtain rfl:m=i:=by lia
         rw [hq] at hq'
         cases hq'
         exact ev.mpr e2
       ·exact .inr ⟨λc=>e2 (c a ha b hb _ la lb),e1⟩
      ·have h1:=(OJ (xs:=ys) (g:=a.name) (t:=b.name)).1
       have h2:=(OJ (xs:=zE ys a.name b.name) (g:=b.name) (t:=a.name)).1
       exact .inr ⟨nc,by lia⟩
   ·rintro σ H2 ⟨bd,hd2,ys,eA3,nr3,hv,v5,v6,rfl⟩
    refine⟨_,⟨d,o2,_,hd2,mel,rfl⟩,⟨λb u e=>?_,ys,by rw [aD nAd];exact eA3,nr3,?_,_,_,_,rfl⟩⟩
    ·by_cases h:b=d
     ·subst h;rw [aq];rw [hE.ed] at e;exact e
     ·rw [aD h];exact bd b u h e
    rcases hv with ⟨rfl,hv⟩ | ⟨nc,hlt⟩
    ·refine .inl λa ha b hb l la lb=>?_
     have hk:(Sum.inr l:Key)∈ea.map (·.1):=by
      rw [hE.ks,j6]
      exact List.mem_map.mpr ⟨l,gP.so l (List.mem_flatMap.mpr ⟨a,ha,la⟩),rfl⟩
     obtain⟨q,hq,eq⟩:=List.mem_map.mp hk
     obtain⟨m,hm⟩:=List.mem_iff_getElem?.mp hq
     exact hv m q (by rw [lM];exact(List.getElem?_eq_some_iff.mp hm).1) hm a ha b hb l eq la lb
    ·rcases hc with c | c
     ·exact absurd c nc
     ·exact .inr (by lia)
  ·rintro σ H' ⟨s2,xs,eA2,nr,hc,v4,v5,v6,rfl⟩
   have cl:Xv (p0:: r0) xs:=by
    rcases hc with c | c
    ·exact c
    ·have:=Ak nr.nd nr.sub
     rw [lM] at this c
     lia
   have hD:∀p:PD,(!decide (p.name∈xs))=(!@decide (Cn (p0:: r0) p0.name p.name) (Classical.propDecidable _)):=λp=>by
    rw [show decide (p.name∈xs)= @decide (Cn (p0:: r0) p0.name p.name) (Classical.propDecidable _) from Bool.eq_iff_iff.mpr ((decide_eq_true_iff.trans ⟨nr.cn _,λc=>c.closedL cl nr.fst⟩).trans (@decide_eq_true_iff _ (Classical.propDecidable _)).symm)]
   have lo:∀{o:Option PD},(p0:: r0).find? (λp=>!decide (p.name∈xs))=o->looseD (p0:: r0)=o:=λ{o} h=>by
    rw [<-h]
    unfold looseD
    exact congrArg (λf=>(p0:: r0).find? f) (funext λp=>(hD p).symm)
   refine⟨_,rfl,N,rfl,⟨_,bH.of (s2 _ _ eN)⟩,jl (K:=K) (a:=N) (xs:=(p0:: r0).map λp=>V.str p.name) (λj σ H2=>H2=H'/\((p0:: r0).take j).find? (λp=>!decide (p.name∈xs))=none/\∃v4,σ=[some (.ref d),some (.ref N),v2,some (.ref A),v4,v5,v6]) ⟨rfl,rfl,v4,rfl⟩ (λj σ H2 _ ⟨e,_⟩=>by rw [e];exact bH.of (s2 _ _ eN)) ?_ ?_⟩
   ·rintro j x σ H2 hx ⟨rfl,hf2,v4,rfl⟩
    rw [List.getElem?_map] at hx
    obtain⟨p,hp,rfl⟩:=Option.map_eq_some_iff.mp hx
    refine⟨_,rfl,_,rfl,A,_,rfl,.inl (bH.of eA2),rfl,lV _,_,rfl,?_⟩
    change if (!inV (.str p.name) (xs.map V.str))=true then _ else _
    rw [uK]
    cases hb:decide (p.name∈xs) with
    | true=>exact bW ⟨rfl,Ah hf2 hp (by rw [hb];rfl),_,rfl⟩
    | false=>exact bK ⟨_,rfl,by show 2<=sizeLine;lia,λa na=>kL p (lo (rR hf2 hp (by rw [hb];rfl))) _ _ (hE.same.trans (s2.trans (aC na))) ⟨a,_,rfl,rfl,aq⟩⟩
   ·rintro σ H2 ⟨rfl,hf2,v4,rfl⟩
    rw [lM,List.take_length] at hf2
    exact kN (lo hf2) _ (hE.same.trans s2)
inductive qj (H:Hp) (v:V) (x:dH):Prop where
 | mk:∀q f,v=.ref q->H q=some (.tup [x.name,x.room,.ref f])->H f=some (.lst x.first)->jx x.name->jx x.room->((∀v∈x.first,jx v))->x.first.length<=100->qj H v x
inductive zR (H:Hp) (v:V) (x:dI):Prop where
 | mk:∀q a1 a2 a3,v=.ref q->H q=some (.tup [.str x.kind,x.name,.ref a1,.ref a2,.ref a3])->H a1=some (.lst x.nums)->H a2=some (.lst (x.ins.map kO))->H a3=some (.lst (x.outs.map kO))->PyData.strOk x.kind=true->x.kind.length<=100->jx x.name->((∀v∈x.nums,jx v))->x.nums.length<=100->x.ins.length<=100->x.outs.length<=100->zR H v x
structure lu (H:Hp) (Ll Lp:Addr) (lx:List dH) (px:List dI):Prop where
 ll:∃xs,H Ll=some (.lst xs)/\dY (qj H) xs lx
 lp:∃xs,H Lp=some (.lst xs)/\dY (zR H) xs px
noncomputable def BX (lx:List dH) (px:List dI):Prop:=1<=lx.length/\lx.length<=24/\1<=px.length/\px.length<=16
theorem uf.new {H:Hp} {d:Addr} (n:H d=none):uf H (upd H d (.dK [])) d [] [] [] []:=⟨aC n,n,aq,rfl,by simp,by simp,by simp,by simp,by simp,by simp⟩
inductive rQ (K:PySem.W.Frag) (vs:List V) (H:Hp) (Q:VK) (E:XK):Prop where
 | mk:∀(Ll Lp:Addr) (lx:List dH) (px:List dI),vs=[.ref Ll,.ref Lp]->lu H Ll Lp lx px->((¬BX lx px->∀H' a,aM H H'->H' a=some (.tup [.str "TooMany",.non])->Q (.ref a) H'))->((BX lx px->∀H' y,aM H H'->o5 H' y (kj lx px)->Q y H'))->rQ K vs H Q E
theorem Ii (T:Txt w K mg t):FO P w K mg base 4 t.Bo ["_law_lanes", "_law_parts"] (rQ K):=by
 have sc:=T.vL.sc ["_law_lanes", "_law_parts", "_law_ends", "_law_name", "_law_room", "_law_first", "_law_due_here", "_law_names", "_law_one"]
 refine T.vL.F.ok sc ln (λ_ _ _ _ H vs Q E hr h=>?_)
 obtain⟨Ll,Lp,lx,px,rfl,hH,kT,k⟩:=h
 refine⟨_,(aA (bD (PW.pt (j7 (fP (mj lz lz au (bj bI (by rfl) T.dz cj (aa (pv 0) ao aj)) au)) (jr (fP (mj lz lz au (bj bI (by rfl) T.dz cj (aa (pv 1) ao aj)) au)))))
   (az (aY (cB (aa aN (aa jC ao ak) ak))))
   bz)
  (aA (sN sc 2 oY)
  (aA (fM PassesOwn.never rfl (dB (pv 0)) (Gq rfl (bR (gN sc 3) (bR (gN sc 4) (bR (gN sc 5) n8))))
   (aA (sN sc 6 (dF (yM T) T.kh hr (aa (pv 3) (aa (pv 4) (aa (pv 5) (aa (pv 2) ao aj) aj) aj) aj)))
   (az (bD (jE (uF (pv 6)))
    (az (aY (pv 6)))
    bz))))
  (aA (sN sc 7 (aW ao))
  (aA (fM PassesOwn.never rfl (dB (pv 1)) (gN sc 8)
   (aA (sN sc 6 (dF (yz T) T.kZ hr (aa (pv 8) (aa (pv 2) (aa (pv 7) ao aj) aj) aj)))
   (az (bD (jE (uF (pv 6)))
    (az (aY (pv 6)))
    bz))))
  (az (aY (dF (yF T) T.lg hr (aa (pv 2) (aa (pv 7) ao aj) aj))))))))),?_⟩
 have hl:sizeLine=16777216:=sizeLine_eq
 obtain⟨xs,h1,aL⟩:=hH.ll
 obtain⟨ys,h2,aP⟩:=hH.lp
 have h1:=bH.of (K:=K) h1
 have h2:=bH.of (K:=K) h2
 have lxl:=aL.length
 have lyl:=aP.length
 have kT:¬BX lx px->∀a,H a=none->Q (.ref a) (upd H a (.tup [.str "TooMany",.non])):=λc a na=>kT c _ _ (aC na) aq
 refine⟨_,rfl,.ref Ll,xs.length,rfl,.inl ⟨_,h1,rfl⟩,_,_,rfl,rfl,_,rfl,?_⟩
 by_cases c1:1<=xs.length
 case neg=>
  rw [decide_eq_false (show ¬(1:Int)<=(xs.length:Int) by lia)]
  exact bW ⟨_,rfl,bK (bK ⟨by show 2<=sizeLine;lia,λa na=>kT (λz=>c1 (by rw [lxl];exact z.1)) a na⟩)⟩
 rw [decide_eq_true (show(1:Int)<=(xs.length:Int) by lia)]
 refine bK ⟨_,_,rfl,rfl,_,rfl,?_⟩
 by_cases c2:xs.length<=24
 case neg=>
  rw [decide_eq_false (show ¬(xs.length:Int)<=24 by lia)]
  exact bK (bK ⟨by show 2<=sizeLine;lia,λa na=>kT (λz=>c2 (by rw [lxl];exact z.2.1)) a na⟩)
 rw [decide_eq_true (show(xs.length:Int)<=24 by lia)]
 refine bW ?_
 refine⟨_,rfl,.ref Lp,ys.length,rfl,.inl ⟨_,h2,rfl⟩,_,_,rfl,rfl,_,rfl,?_⟩
 by_cases c3:1<=ys.length
 case neg=>
  rw [decide_eq_false (show ¬(1:Int)<=(ys.length:Int) by lia)]
  exact bW ⟨_,rfl,bK ⟨by show 2<=sizeLine;lia,λa na=>kT (λz=>c3 (by rw [lyl];exact z.2.2.1)) a na⟩⟩
 rw [decide_eq_true (show(1:Int)<=(ys.length:Int) by lia)]
 refine bK ⟨_,_,rfl,rfl,_,rfl,?_⟩
 by_cases c4:ys.length<=16
 case neg=>
  rw [decide_eq_false (show ¬(ys.length:Int)<=16 by lia)]
  exact bK ⟨by show 2<=sizeLine;lia,λa na=>kT (λz=>c4 (by rw [lyl];exact z.2.2.2)) a na⟩
 rw [decide_eq_true (show(ys.length:Int)<=16 by lia)]
 refine bW ?_
 have k:=k ⟨by lia,by lia,by lia,by lia⟩
 clear kT
 refine λd nd=>?_
 have E0:=uf.new nd
 generalize upd H d (.dK [])=H1 at E0 ⊢
 refine⟨_,rfl,Ll,rfl,⟨_,E0.same.seq h1⟩,jl (K:=K) (a:=Ll) (xs:=xs) (λj σ H'=>∃ls ea,lx.take j=ls.map Kc/\(lx.take j).foldlM f9 []=.ok (aR ls)/\HN ls/\uf H H' d ea (aR ls) [] []/\ea.length=ls.length/\∃v3 v4 v5 v6,σ=[some (.ref Ll),some (.ref Lp),some (.ref d),v3,v4,v5,v6,none,none]) ⟨[],[],rfl,rfl,⟨by simp,by simp,by simp⟩,E0,rfl,none,none,none,none,rfl⟩ (λj σ H' _ h=>by obtain⟨_,_,_,_,_,e,_⟩:=h;exact e.same.seq h1) ?_ ?_⟩
 ·rintro j x σ H' hx ⟨ls,ea,eLs,fLs,gL,E1,lea,v3,v4,v5,v6,rfl⟩
  obtain⟨X,hlj,q,f,rfl,hq,hf,hT1,hT2,hTf,hfl⟩:=aL.get hx
  have hj:=(List.getElem?_eq_some_iff.mp hlj).1
  have lls:ls.length=j:=by have:=congrArg List.length eLs;rw [lM,List.length_take] at this;lia
  refine⟨q,_,rfl,d7.of (E1.same _ _ hq),rfl,_,_,rfl,_,_,rfl,_,_,rfl,rfl,?_⟩
  refine⟨_,rfl,_,rfl,_,rfl,_,rfl,X.name,X.room,f,d,X.first,H,ea,aR ls,rfl,hT1,hT2.1,E1.same.seq (bH.of hf),by lia,hTf,by lia,E1,λu hu H2 y s2 hD=>?_,λrk' hok H2 ea' E2 le2=>?_⟩
  ·obtain⟨a,z,rfl,e1,e2⟩:=id hD
   exact⟨_,rfl,_,rfl,bK ⟨_,rfl,k _ _ s2 (by rw [Jp (wz fLs hlj hu)];exact hD)⟩⟩
  refine⟨_,rfl,_,rfl,bW ?_⟩
  obtain⟨l,eX,eK,hnm,nin,w1,w2,w3,w4⟩:=Ib hok
  have eX:X=Kc l:=eX
  subst eK
  exact⟨ls ++ [l],ea',by rw [List.take_succ,hlj,eLs,List.map_append,eX];rfl,(oW fLs hlj).trans hok,gL.snoc nin hnm ⟨w1,w2,w3,w4⟩,E2,by rw [le2,lP];simp;lia,_,_,_,_,rfl⟩
 ·rintro σ H' ⟨ls,ea,eLs,fLs,gL,E1,lea,v3,v4,v5,v6,rfl⟩
  rw [lxl,List.take_length] at eLs fLs
  have lls:ls.length=lx.length:=by rw [eLs,lM]
  refine⟨by show 0<=sizeLine;lia,λN nN=>?_⟩
  have E2:=E1.keep (aC (o:=.lst []) nN)
  have eN:upd H' N (.lst []) N=some (.lst []):=aq
  have n0:=E1.same.free nN
  have nNd:N≠d:=Ne.symm (aB E1.ed nN)
  have nNe:N∉ea.map (·.2):=λhm=>by
   obtain⟨q,hq,e⟩:=List.mem_map.mp hm
   have:=E1.all q hq
   rw [e,nN] at this
   cases this
  generalize upd H' N (.lst [])=H2 at E2 eN ⊢
  refine⟨_,rfl,Lp,rfl,⟨_,E2.same.seq h2⟩,jl (K:=K) (a:=Lp) (xs:=ys) (λj σ H'=>∃(ps:List PD) (s:Ro),px.take j=ps.map lR/\(px.take j).foldlM (fW (aR ls)) ⟨[],[],[]⟩=.ok s/\s.pk.map (·.1)=ps.map (λp=>(Sum.inr p.name:Key))/\s.tk=bC (·.ins) ps/\s.gk=bC (·.outs) ps/\Em ls ps/\uf H H' d ea (aR ls) s.gk s.tk/\H' N=some (.lst (ps.map λp=>V.str p.name))/\∃v6 v8,σ=[some (.ref Ll),some (.ref Lp),some (.ref d),v3,v4,v5,v6,some (.ref N),v8]) ⟨[],⟨[],[],[]⟩,rfl,rfl,rfl,rfl,rfl,⟨by simp,by simp,by simp,by simp,by simp,by simp,by simp⟩,E2,eN,v6,none,rfl⟩ (λj σ H' _ h=>by obtain⟨_,_,_,_,_,_,_,_,e,_⟩:=h;exact e.same.seq h2) ?_ ?_⟩
  ·rintro j x σ H' hx ⟨ps,s,ePs,fPs,sp,st,sg,gP,E3,eN3,v6,v8,rfl⟩
   obtain⟨X,hpj,q,a1,a2,a3,rfl,hq,q1,q2,q3,hk,hkl,hT1,hTn,hnl,hil,hol⟩:=aP.get hx
   have hj:=(List.getElem?_eq_some_iff.mp hpj).1
   have lps:ps.length=j:=by have:=congrArg List.length ePs;rw [lM,List.length_take] at this;lia
   have eNs:(ps.map λp=>V.str p.name)=(ps.map (·.name)).map V.str:=by rw [List.map_map];rfl
   refine⟨_,rfl,_,rfl,_,rfl,q,a1,a2,a3,d,N,H,ea,aR ls,s,ps.map (·.name),X,rfl,hq,bH.of q1,bH.of q2,bH.of q3,hk,hkl,hT1,hTn,hnl,hil,hol,E3,by rw [<-eNs];exact eN3,n0,nNd,nNe,by rw [lM];lia,by rw [List.map_map,sp];rfl,λu hu H4 y s4 hD=>?_,λs' hok H4 z ez E4 eN4=>?_⟩
   ·obtain⟨a,z,rfl,e1,e2⟩:=id hD
    exact⟨_,rfl,_,rfl,bK ⟨_,rfl,k _ _ s4 (by rw [Ir fLs (wz fPs hpj hu)];exact hD)⟩⟩
   refine⟨_,rfl,_,rfl,bW ?_⟩
   obtain⟨p,eX,o1,hnm,nin,sp',st',sg',di,do',fi,fo⟩:=Iv sp st sg hok
   have ezp:z=p.name:=by rw [eX] at ez;exact(V.str.inj ez).symm
   subst ezp
   exact⟨ps ++ [p],s',by rw [List.take_succ,hpj,ePs,List.map_append,eX];rfl,(oW fPs hpj).trans hok,sp',st',sg',gP.snoc o1 hnm nin di do' fi fo,E4,by rw [eN4];simp,_,_,rfl⟩
  ·rintro σ H' ⟨ps,s,ePs,fPs,sp,st,sg,gP,E3,eN3,v6,v8,rfl⟩
   rw [lyl,List.take_length] at ePs fPs
   have lps:ps.length=px.length:=by rw [ePs,lM]
   subst ePs
   have e0:=E3
   rw [st,sg] at e0
   refine⟨_,rfl,_,rfl,d,N,H,ea,ls,ps,rfl,e0,eN3,nNd,by lia,by lia,gP,λq hq H4 y s4 hD=>?_,λh3=>⟨λp hp H4 y s4 hD=>?_,λhn H4 s4=>?_⟩⟩
   ·exact k _ _ s4 (by rw [Ls fLs fPs (by rw [st,sg];exact hq)];exact hD)
   ·exact k _ _ s4 (by rw [Ga fLs fPs (by rw [st,sg];exact h3) gP.ok hp];exact hD)
   ·exact k _ _ s4 (by rw [Iz fLs fPs (by rw [st,sg];exact h3) gP.ok hn];rfl)
theorem CN {xs:List V} {i:Int} (h0:0<=i) (h1:i <(xs.length:Int)):∃v,DW xs i=some v/\v∈xs:=by
 obtain⟨j,rfl⟩:=Int.eq_ofNat_of_zero_le h0
 have hj:j <xs.length:=by lia
 exact⟨xs[j],aH (List.getElem?_eq_getElem hj),List.getElem_mem hj⟩
theorem iB (i:Int):jx (.int i):=⟨⟨rfl,λz e=>by cases e⟩,λz e=>by cases e⟩
theorem Ow (b:Bool):jx (.bl b):=⟨⟨rfl,λz e=>by cases e⟩,λz e=>by cases e⟩
theorem GP:jx .non:=⟨⟨rfl,λz e=>by cases e⟩,λz e=>by cases e⟩
theorem nC {z:Str} (h:(PyData.strOk z && decide (z.length<=100))=true):jx (.str z):=by
 rw [Bool.and_eq_true] at h
 exact⟨⟨rfl,λy e=>by cases e;exact of_decide_eq_true h.2⟩,λy e=>by cases e;exact h.1⟩
inductive zj (K:PySem.W.Frag) (vs:List V) (H:Hp) (Q:VK) (E:XK):Prop where
 | mk:∀n:Int,vs=[.int n]->0<=n->(∀H' v,aM H H'->jx v->Q v H')->zj K vs H Q E
theorem ur (T:Txt w K mg t):FO P w K mg base 1 t.Dj ["_law_number"] (zj K):=by
 have sc:=T.mF.sc ["_law_number", "_law_some"]
 refine T.mF.F.ok sc ln (λ_ _ _ _ H vs Q E hr h=>?_)
 obtain⟨n,rfl,h0,k⟩:=h
 refine⟨_,(aA (sN sc 1 (aW (@aa _ _ _ _ _ (SQ Oo au) (@aa _ _ _ _ _ (aK yR au au) (@aa _ _ _ _ _ jA (@aa _ _ _ _ _ jC (@aa _ _ _ _ _ aN (@aa _ _ _ _ _ (aK dG (aK yR au au) (aK bJ (pv 0) (aK yR au au))) ao bG) ak) ak) ak) bG) xG)))
  (az (aY (aZ aU (pv 1) (aK bJ (aK cY (pv 0) au) au) (λ_ _=>rfl))))),?_⟩
 have hl:sizeLine=16777216:=sizeLine_eq
 refine⟨_,rfl,_,_,rfl,rfl,⟨by decide,by decide,by decide⟩,_,_,rfl,rfl,⟨by decide,by decide,by decide⟩,_,rfl,_,_,rfl,rfl,⟨by decide,by decide,by decide⟩,_,_,rfl,rfl,by show(0:Int) <10 ^ 9;decide,_,_,rfl,rfl,by show 6<=sizeLine;lia,λA nA=>?_⟩
 obtain⟨v,hv,hm⟩:=CN (xs:=[V.int (-1),V.int (10 ^ (9:Int).toNat),V.bl true,V.non,V.str "5",V.int (10 ^ (9:Int).toNat+n % 10 ^ (9:Int).toNat)]) (i:=n / 7 % 6) (Int.emod_nonneg _ (by decide)) (Int.emod_lt_of_pos _ (by decide))
 refine⟨_,rfl,_,rfl,_,_,rfl,rfl,jz (by decide) (by decide),_,_,rfl,rfl,by show(0:Int) <6;decide,A,_,n / 7 % 6,v,rfl,rfl,bH.of aq,hv,k _ _ (aC nA) ?_⟩
 simp only [List.mem_cons,List.not_mem_nil,or_false] at hm
 rcases hm with rfl | rfl | rfl | rfl | rfl | rfl
 ·exact iB _
 ·exact iB _
 ·exact Ow _
 ·exact GP
 ·exact nC (by decide +kernel)
 ·exact iB _
noncomputable def Al (v:V):Prop:=jx v/\∃o:Option Key,v=kO o
theorem um {z:Str} (h:(PyData.strOk z && decide (z.length<=100))=true):Al (.str z):=⟨nC h,some (Sum.inr z),rfl⟩
noncomputable def XC:List V:=[.str "",.str "a23456789",.str "A",.str "1a",.str "a_b",.str "a b",.int 7,.non,.str "abcdefghi",.str "z-"]
theorem RP:∀v∈XC,Al v:=λv hm=>by
 unfold XC at hm
 simp only [List.mem_cons,List.not_mem_nil,or_false] at hm
 rcases hm with rfl | rfl | rfl | rfl | rfl | rfl | rfl | rfl | rfl | rfl <;> first | exact um (by decide +kernel) | exact⟨iB 7,some (Sum.inl 7),rfl⟩ | exact⟨GP,none,rfl⟩
inductive rC (K:PySem.W.Frag) (vs:List V) (H:Hp) (Q:VK) (E:XK):Prop where
 | mk:∀n:Int,vs=[.int n]->0<=n->(∀H' v,aM H H'->Al v->Q v H')->rC K vs H Q E
theorem qP (T:Txt w K mg t):FO P w K mg base 1 t.ud ["_law_number"] (rC K):=by
 have sc:=T.ju.sc ["_law_number", "_law_some"]
 refine T.ju.F.ok sc ln (λ_ _ _ _ H vs Q E hr h=>?_)
 obtain⟨n,rfl,h0,k⟩:=h
 refine⟨_,(@YB _ _ _ (Ql (We (i:=1) sc.nd rfl (Or.inl rfl) (Xa (Q0 (vs:=XC) (by rfl))))
  (az (aY (aZ aU (pv 1) (aK bJ (aK cY (pv 0) au) au) (λ_ _=>rfl)))))),?_⟩
 have hl:sizeLine=16777216:=sizeLine_eq
 refine⟨by show 10<=sizeLine;lia,λA nA=>?_⟩
 obtain⟨v,hv,hm⟩:=CN (xs:=XC) (i:=n / 7 % 10) (Int.emod_nonneg _ (by decide)) (Int.emod_lt_of_pos _ (by decide))
 exact⟨_,rfl,_,rfl,_,_,rfl,rfl,jz (by decide) (by decide),_,_,rfl,rfl,by show(0:Int) <10;decide,A,_,n / 7 % 10,v,rfl,rfl,bH.of aq,hv,k _ _ (aC nA) (RP v hm)⟩
structure xN (Ll Lp:Addr) (n:Nat) (H:Hp) (f:Addr) (xs:List V):Prop where
 at_:H f=some (.lst xs)
 n1:f≠Ll
 n2:f≠Lp
 len:xs.length<=n
 all:∀v∈xs,jx v
inductive gW (Ll Lp:Addr) (n:Nat) (H:Hp) (a:Addr):Prop where
 | mk:∀nm rm f xs,H a=some (.lst [nm,rm,.ref f])->Al nm->jx rm->xN Ll Lp n H f xs->gW Ll Lp n H a
inductive gh (Ll Lp:Addr) (n:Nat) (H:Hp) (a:Addr):Prop where
 | mk:∀kd nm f1 f2 f3 ns is os,H a=some (.lst [.str kd,nm,.ref f1,.ref f2,.ref f3])->jx (.str kd)->jx nm->xN Ll Lp n H f1 ns->xN Ll Lp n H f2 is->xN Ll Lp n H f3 os->((∀v∈is,Al v))->(∀v∈os,Al v)->gh Ll Lp n H a
structure mG (H0 H:Hp) (Ll Lp:Addr) (la pa:List Addr) (n:Nat):Prop where
 same:aM H0 H
 ell:H Ll=some (.lst (la.map V.ref))
 elp:H Lp=some (.lst (pa.map V.ref))
 ne:Ll≠Lp
 f1:H0 Ll=none
 f2:H0 Lp=none
 fl:∀a∈la,H0 a=none/\a≠Ll/\a≠Lp
 fp:∀a∈pa,H0 a=none/\a≠Ll/\a≠Lp
 lr:∀a∈la,gW Ll Lp n H a
 pr:∀a∈pa,gh Ll Lp n H a
 hl:la.length<=n
 hp:pa.length<=n
section
variable {H0 H H':Hp} {Ll Lp:Addr} {la pa:List Addr} {n m:Nat} {a f:Addr} {xs:List V} {o:HO}
theorem Rg:¬jx (.ref a):=λh=>by cases h.1.1
theorem xN.same (h:xN Ll Lp n H f xs) (s:aM H H'):xN Ll Lp n H' f xs:=⟨s _ _ h.at_,h.n1,h.n2,h.len,h.all⟩
theorem xN.up (h:xN Ll Lp n H f xs) (l:n<=m):xN Ll Lp m H f xs:=⟨h.at_,h.n1,h.n2,Nat.le_trans h.len l,h.all⟩
theorem xN.wr (h:xN Ll Lp n H f xs) (ne:f≠a):xN Ll Lp n (upd H a o) f xs:=⟨by rw [aD ne];exact h.at_,h.n1,h.n2,h.len,h.all⟩
theorem xN.ne (h:xN Ll Lp n H f xs) {ys:List V} {b:Addr} (e:H a=some (.lst ys)) (hb:V.ref b∈ys):f≠a:=λz=>by
 have:=h.at_
 rw [z,e] at this
 cases this
 exact Rg (h.all _ hb)
theorem gW.same (h:gW Ll Lp n H a) (s:aM H H'):gW Ll Lp n H' a:=by
 obtain⟨nm,rm,f,xs,e,h1,h2,h3⟩:=h
 exact⟨nm,rm,f,xs,s _ _ e,h1,h2,h3.same s⟩
theorem gW.up (h:gW Ll Lp n H a) (l:n<=m):gW Ll Lp m H a:=by
 obtain⟨nm,rm,f,xs,e,h1,h2,h3⟩:=h
 exact⟨nm,rm,f,xs,e,h1,h2,h3.up l⟩
theorem gh.same (h:gh Ll Lp n H a) (s:aM H H'):gh Ll Lp n H' a:=by
 obtain⟨kd,nm,f1,f2,f3,ns,is,os,e,h1,h2,h3,h4,h5,h6,h7⟩:=h
 exact⟨kd,nm,f1,f2,f3,ns,is,os,s _ _ e,h1,h2,h3.same s,h4.same s,h5.same s,h6,h7⟩
theorem gh.up (h:gh Ll Lp n H a) (l:n<=m):gh Ll Lp m H a:=by
 obtain⟨kd,nm,f1,f2,f3,ns,is,os,e,h1,h2,h3,h4,h5,h6,h7⟩:=h
 exact⟨kd,nm,f1,f2,f3,ns,is,os,e,h1,h2,h3.up l,h4.up l,h5.up l,h6,h7⟩
theorem mG.keep (h:mG H0 H Ll Lp la pa n) (s:aM H H'):mG H0 H' Ll Lp la pa n:=
 ⟨h.same.trans s,s _ _ h.ell,s _ _ h.elp,h.ne,h.f1,h.f2,h.fl,h.fp,λa ha=>(h.lr a ha).same s,λa ha=>(h.pr a ha).same s,h.hl,h.hp⟩
theorem mG.up (h:mG H0 H Ll Lp la pa n) (l:n<=m):mG H0 H Ll Lp la pa m:=
 ⟨h.same,h.ell,h.elp,h.ne,h.f1,h.f2,h.fl,h.fp,λa ha=>(h.lr a ha).up l,λa ha=>(h.pr a ha).up l,Nat.le_trans h.hl l,Nat.le_trans h.hp l⟩
theorem gW.other {b:Addr} {ys:List V} {c:Addr} (h:gW Ll Lp n H b) (ne:b≠a) (e:H a=some (.lst ys)) (hc:V.ref c∈ys):gW Ll Lp n (upd H a o) b:=by
 obtain⟨nm,rm,f,xs,e1,h1,h2,h3⟩:=h
 exact⟨nm,rm,f,xs,by rw [aD ne];exact e1,h1,h2,h3.wr (h3.ne e hc)⟩
theorem gh.other {b:Addr} {ys:List V} {c:Addr} (h:gh Ll Lp n H b) (ne:b≠a) (e:H a=some (.lst ys)) (hc:V.ref c∈ys):gh Ll Lp n (upd H a o) b:=by
 obtain⟨kd,nm,f1,f2,f3,ns,is,os,e1,h1,h2,h3,h4,h5,h6,h7⟩:=h
 exact⟨kd,nm,f1,f2,f3,ns,is,os,by rw [aD ne];exact e1,h1,h2,h3.wr (h3.ne e hc),h4.wr (h4.ne e hc),h5.wr (h5.ne e hc),h6,h7⟩
theorem mG.wrL (h:mG H0 H Ll Lp la pa n) (ha:a∈la) (new:gW Ll Lp n (upd H a o) a):mG H0 (upd H a o) Ll Lp la pa n:=by
 obtain⟨nm,rm,f,xs,e,_,_,_⟩:=h.lr a ha
 obtain⟨z1,z2,z3⟩:=h.fl a ha
 refine⟨λb u e=>by rw [aD (λz=>by rw [z,z1] at e;cases e)];exact h.same _ _ e,by rw [aD z2.symm];exact h.ell,by rw [aD z3.symm];exact h.elp,h.ne,h.f1,h.f2,h.fl,h.fp,λb hb=>?_,λb hb=>?_,h.hl,h.hp⟩
 ·by_cases c:b=a
  ·subst c;exact new
  ·exact(h.lr b hb).other c e (c:=f) (by simp)
 ·refine(h.pr b hb).other (λz=>?_) e (c:=f) (by simp)
  obtain⟨_,_,_,_,_,_,_,_,e2,_⟩:=h.pr b hb
  rw [z,e] at e2
  cases e2
theorem mG.wrP (h:mG H0 H Ll Lp la pa n) (ha:a∈pa) (new:gh Ll Lp n (upd H a o) a):mG H0 (upd H a o) Ll Lp la pa n:=by
 obtain⟨kd,nm,f1,f2,f3,ns,is,os,e,_⟩:=h.pr a ha
 obtain⟨z1,z2,z3⟩:=h.fp a ha
 refine⟨λb u e=>by rw [aD (λz=>by rw [z,z1] at e;cases e)];exact h.same _ _ e,by rw [aD z2.symm];exact h.ell,by rw [aD z3.symm];exact h.elp,h.ne,h.f1,h.f2,h.fl,h.fp,λb hb=>?_,λb hb=>?_,h.hl,h.hp⟩
 ·refine(h.lr b hb).other (λz=>?_) e (c:=f1) (by simp)
  obtain⟨_,_,_,_,e2,_⟩:=h.lr b hb
  rw [z,e] at e2
  cases e2
 ·by_cases c:b=a
  ·subst c;exact new
  ·exact(h.pr b hb).other c e (c:=f1) (by simp)
theorem gW.out (h:gW Ll Lp n H a) (n1:a≠Ll):gW Ll Lp n (upd H Ll o) a:=by
 obtain⟨nm,rm,f,xs,e,h1,h2,h3⟩:=h
 exact⟨nm,rm,f,xs,by rw [aD n1];exact e,h1,h2,h3.wr h3.n1⟩
theorem gW.out2 (h:gW Ll Lp n H a) (n1:a≠Lp):gW Ll Lp n (upd H Lp o) a:=by
 obtain⟨nm,rm,f,xs,e,h1,h2,h3⟩:=h
 exact⟨nm,rm,f,xs,by rw [aD n1];exact e,h1,h2,h3.wr h3.n2⟩
theorem gh.out (h:gh Ll Lp n H a) (n1:a≠Ll):gh Ll Lp n (upd H Ll o) a:=by
 obtain⟨kd,nm,f1,f2,f3,ns,is,os,e,h1,h2,h3,h4,h5,h6,h7⟩:=h
 exact⟨kd,nm,f1,f2,f3,ns,is,os,by rw [aD n1];exact e,h1,h2,h3.wr h3.n1,h4.wr h4.n1,h5.wr h5.n1,h6,h7⟩
theorem gh.out2 (h:gh Ll Lp n H a) (n1:a≠Lp):gh Ll Lp n (upd H Lp o) a:=by
 obtain⟨kd,nm,f1,f2,f3,ns,is,os,e,h1,h2,h3,h4,h5,h6,h7⟩:=h
 exact⟨kd,nm,f1,f2,f3,ns,is,os,by rw [aD n1];exact e,h1,h2,h3.wr h3.n2,h4.wr h4.n2,h5.wr h5.n2,h6,h7⟩
theorem mG.setL (h:mG H0 H Ll Lp la pa n) {la':List Addr} (hs:∀a∈la',a∈la∨((H0 a=none/\a≠Ll/\a≠Lp)/\gW Ll Lp n H a)) (hl:la'.length<=n):mG H0 (upd H Ll (.lst (la'.map V.ref))) Ll Lp la' pa n:=by
 have fl:∀a∈la',H0 a=none/\a≠Ll/\a≠Lp:=λa ha=>(hs a ha).elim (h.fl a) (·.1)
 refine⟨λb u e=>by rw [aD (λz=>by rw [z,h.f1] at e;cases e)];exact h.same _ _ e,aq,by rw [aD h.ne.symm];exact h.elp,h.ne,h.f1,h.f2,fl,h.fp,λb hb=>?_,λb hb=>(h.pr b hb).out (h.fp b hb).2.1,hl,h.hp⟩
 exact((hs b hb).elim (h.lr b) (·.2)).out (fl b hb).2.1
theorem mG.setP (h:mG H0 H Ll Lp la pa n) {pa':List Addr} (hs:∀a∈pa',a∈pa∨((H0 a=none/\a≠Ll/\a≠Lp)/\gh Ll Lp n H a)) (hl:pa'.length<=n):mG H0 (upd H Lp (.lst (pa'.map V.ref))) Ll Lp la pa' n:=by
 have fp:∀a∈pa',H0 a=none/\a≠Ll/\a≠Lp:=λa ha=>(hs a ha).elim (h.fp a) (·.1)
 refine⟨λb u e=>by rw [aD (λz=>by rw [z,h.f2] at e;cases e)];exact h.same _ _ e,by rw [aD h.ne];exact h.ell,aq,h.ne,h.f1,h.f2,h.fl,fp,λb hb=>(h.lr b hb).out2 (h.fl b hb).2.2,λb hb=>?_,h.hl,hl⟩
 exact((hs b hb).elim (h.pr b) (·.2)).out2 (fp b hb).2.2
theorem mG.new (h:mG H0 H Ll Lp la pa n) (nf:H f=none) (l:xs.length<=n) (hx:∀v∈xs,jx v):xN Ll Lp n (upd H f (.lst xs)) f xs:=
 ⟨aq,Ne.symm (aB h.ell nf),Ne.symm (aB h.elp nf),l,hx⟩
theorem mG.newA (h:mG H0 H Ll Lp la pa n) (nf:H f=none):H0 f=none/\f≠Ll/\f≠Lp:=
 ⟨h.same.free nf,Ne.symm (aB h.ell nf),Ne.symm (aB h.elp nf)⟩
end
theorem Gx:∀c∈(["t", "r", "s", "q"]:List Str),∀i,i <8->(PyData.strOk (c ++ Str.ofString (toString (0+((i:Nat):Int))) ++ "q") && decide ((c ++ Str.ofString (toString (0+((i:Nat):Int))) ++ "q").length<=100))=true/\c.length+(Str.ofString (toString (0+((i:Nat):Int)))).length<=100/\(c ++ Str.ofString (toString (0+((i:Nat):Int)))).length+("q" :Str).length<=100:=by decide +kernel
theorem GC {c:Str} (hc:c∈(["t", "r", "s", "q"]:List Str)) {i:Nat} (hi:i <8):(PyData.strOk (c ++ Str.ofString (toString (0+((i:Nat):Int))) ++ "q") && decide ((c ++ Str.ofString (toString (0+((i:Nat):Int))) ++ "q").length<=100))=true:=(Gx c hc i hi).1
theorem yw {c:Str} (hc:c∈(["t", "r", "s", "q"]:List Str)) {i:Nat} (hi:i <8):c.length+(Str.ofString (toString (0+((i:Nat):Int)))).length<=sizeLine:=Nat.le_trans (Gx c hc i hi).2.1 (by rw [sizeLine_eq];decide)
theorem yK {c:Str} (hc:c∈(["t", "r", "s", "q"]:List Str)) {i:Nat} (hi:i <8):(c ++ Str.ofString (toString (0+((i:Nat):Int)))).length+("q" :Str).length<=sizeLine:=Nat.le_trans (Gx c hc i hi).2.2 (by rw [sizeLine_eq];decide)
inductive lZ (K:PySem.W.Frag) (vs:List V) (H:Hp) (Q:VK) (E:XK):Prop where
 | mk:∀(Ll Lp:Addr) (m:Int) (fr:Str) (H0:Hp) (la pa:List Addr) (n:Nat),vs=[.ref Ll,.int m,.str fr]->0<=m->Al (.str fr)->mG H0 H Ll Lp la pa n->la≠[]->n<=90->(∀H' la',mG H0 H' Ll Lp la' pa (n+10)->Q .non H')->lZ K vs H Q E
theorem vK (T:Txt w K mg t):FO P w K mg base 2 t.mK ["_law_lanes", "_law_number", "_law_fresh"] (lZ K):=by
 have sc:=T.ji.sc ["_law_lanes", "_law_number", "_law_fresh", "_law_at", "_law_one", "_law_way", "_law_k"]
 refine T.ji.F.ok sc ln (λ_ _ _ _ H vs Q E hr h=>?_)
 obtain⟨Ll,Lp,m,fr,H0,la,pa,n,rfl,hm,hfr,S,hne,hn,k⟩:=h
 refine⟨_,(aA (sN sc 3 (aK bJ (aK cY (pv 1) au) (bj bI (by rfl) T.dz cj (aa (pv 0) ao aj))))
  (aA (sN sc 4 (aZ aU (pv 0) (pv 3) (λ_ _=>rfl)))
  (aA (sN sc 5 (aK bJ (pv 1) au))
  (az (bM (bD (aJ cX (pv 5) au (bu _))
   (az (jn (dF (qP T) T.ju hr (aa (pv 1) ao aj)) (kJ (pv 4) au set_list)))
   (az (bM (bD (aJ cX (pv 5) au (bu _))
    (az (jn (aZ aU (aZ aU (pv 0) (aK bJ (aK cY (pv 1) au) (bj bI (by rfl) T.dz cj (aa (pv 0) ao aj))) (λ_ _=>rfl)) au (λ_ _=>rfl)) (kJ (pv 4) au set_list)))
    (az (bM (bD (aJ qY (pv 5) au (bu _))
     (az (jn (aZ aU (aW (@aa _ _ _ _ _ au (@aa _ _ _ _ _ au (@aa _ _ _ _ _ (SQ Oo au) (@aa _ _ _ _ _ (aK JZ (bj bI (by rfl) T.dz cj (aa (aZ aU (pv 4) au (λ_ _=>rfl)) ao aF)) au) (@aa _ _ _ _ _ jA (@aa _ _ _ _ _ jC (@aa _ _ _ _ _ aN (@aa _ _ _ _ _ au (@aa _ _ _ _ _ au (@aa _ _ _ _ _ au ao ak) ak) ak) ak) ak) ak) bG) xG) ak) ak)) (aK bJ (aK cY (pv 1) au) au) (λ_ _=>rfl)) (kJ (pv 4) au set_list)))
     (az (bM (bD (aJ cX (pv 5) au (bu _))
      (az (jn (aK Ba (aZ aU (pv 4) au (λ_ _=>rfl)) (aW (aa (dF (ur T) T.mF hr (aa (pv 1) ao aj)) ao bc))) (kJ (pv 4) au set_list)))
      (az (bM (bD (aJ cX (pv 5) au (bu _))
       (az (aV (pC PySem.F.plainAttrs_list PySem.F.slot_list_pop PySem.F.type_list_pop pP (pv 0) (aa (pv 3) ao aj))))
       (az (bM (bD (aJ cX (pv 5) au (bu _))
        (az (aV (pC PySem.F.plainAttrs_list PySem.F.slot_list_insert PySem.F.type_list_insert ym (pv 0) (aa (pv 3) (aa (aW (aa (pv 2) (aa au (aa (aW ao) ao aO) ak) aj)) ao aO) aj))))
        (az (bM (bD (aJ cX (pv 5) au (bu _))
         (az (aV (yj PySem.F.plainAttrs_list PySem.F.slot_list_reverse PySem.F.type_list_reverse KQ (pv 0))))
         (az (fM PassesOwn.never rfl (gQ rfl T.lQ (aa au ao ak)) (gN sc 6)
          (az (aV (yU (pv 0) (aa (aW (aa (aK cJ (aK cJ aN (bV fK (by rfl) T.xg qN (aa (pv 6) ao aj))) aN) (aa (aK dG au (pv 6)) (aa (aW ao) ao aO) bG) bG)) ao aO)))))))))))))))))))))))))))))),?_⟩
 have hl:sizeLine=16777216:=sizeLine_eq
 have lap:0 <la.length:=List.length_pos_iff.mpr hne
 have hll:=S.hl
 have ix:∀c:Int,∃b∈la,DW (la.map V.ref) (c % (la.length:Int))=some (.ref b):=λc=>by
  obtain⟨v,hv,hm⟩:=CN (xs:=la.map V.ref) (i:=c % (la.length:Int)) (Int.emod_nonneg _ (by lia)) (by rw [lM];exact Int.emod_lt_of_pos _ (by lia))
  obtain⟨b,hb,rfl⟩:=List.mem_map.mp hm
  exact⟨b,hb,hv⟩
 obtain⟨a,ha,hat⟩:=ix (m / 100)
 refine⟨_,rfl,_,_,rfl,rfl,jz (by decide) (by decide),_,rfl,.ref Ll,la.length,rfl,.inl ⟨_,bH.of S.ell,by rw [lM]⟩,_,_,rfl,rfl,by show(0:Int) <(la.length:Int);lia,?_⟩
 refine⟨_,rfl,_,rfl,Ll,_,_,_,rfl,rfl,bH.of S.ell,hat,?_⟩
 refine⟨_,rfl,_,_,rfl,rfl,by show(0:Int) <9;decide,?_⟩
 obtain⟨nm,rm,f,xs,e,hnm,hrm,hin⟩:=S.lr a ha
 have fin:∀{H1:Hp} {nm' rm':V} {f':Addr} {xs':List V},aM H H1->Al nm'->jx rm'->xN Ll Lp (n+10) H1 f' xs'->Q .non (upd H1 a (.lst [nm',rm',.ref f'])):=λs1 h1 h2 h3=>k _ _ (((S.keep s1).up (by lia)).wrL ha ⟨_,_,_,_,aq,h1,h2,h3.wr (h3.ne (s1 _ _ e) (b:=f) (by simp))⟩)
 have hin':xN Ll Lp (n+10) H f xs:=hin.up (by lia)
 have S':mG H0 H Ll Lp la pa (n+10):=S.up (by lia)
 generalize m % 9=w
 obtain⟨at0,hat0,hatl⟩:∃j:Nat,m / 100 % (la.length:Int)=(j:Int)/\j <la.length:=by
  have h0:=Int.emod_nonneg (m / 100) (show(la.length:Int)≠0 by lia)
  have h1:=Int.emod_lt_of_pos (m / 100) (show(0:Int) <(la.length:Int) by lia)
  exact⟨(m / 100 % (la.length:Int)).toNat,by lia,by lia⟩
 refine⟨λ_ H'=>Q .non H',?_,λ_ _ h=>h⟩
 refine⟨_,rfl,rfl,_,rfl,dN (λ_=>?_) (λ_=>?_)⟩
 ·exact⟨_,rfl,m,rfl,hm,λH1 v s1 hv=>⟨_,rfl,a,_,0,0,rfl,rfl,s1 _ _ e,rfl,fin s1 hv hrm (hin'.same s1)⟩⟩
 refine⟨λ_ H'=>Q .non H',?_,λ_ _ h=>h⟩
 refine⟨_,rfl,rfl,_,rfl,dN (λ_=>?_) (λ_=>?_)⟩
 ·obtain⟨b,hb,hbt⟩:=ix (m / 3000)
  obtain⟨nm2,rm2,f2,xs2,e2,hnm2,_⟩:=S.lr b hb
  exact⟨_,rfl,_,rfl,_,_,rfl,rfl,jz (by decide) (by decide),_,rfl,.ref Ll,la.length,rfl,.inl ⟨_,bH.of S.ell,by rw [lM]⟩,_,_,rfl,rfl,by show(0:Int) <(la.length:Int);lia,Ll,_,_,_,rfl,rfl,bH.of S.ell,hbt,b,_,0,nm2,rfl,rfl,bH.of e2,aH (j:=0) rfl,_,rfl,a,_,0,0,rfl,rfl,e,rfl,fin (aM.refl _) hnm2 hrm hin'⟩
 refine⟨λ_ H'=>Q .non H',?_,λ_ _ h=>h⟩
 refine⟨_,rfl,_,_,rfl,rfl,_,rfl,dN (λ_=>?_) (λ_=>?_)⟩
 ·refine⟨_,rfl,_,rfl,a,_,2,_,rfl,rfl,bH.of e,aH (j:=2) rfl,.ref f,xs.length,rfl,.inl ⟨_,bH.of hin.at_,rfl⟩,_,_,rfl,rfl,by show 10<=sizeLine;lia,λA nA=>?_⟩
  obtain⟨v,hv,hmv⟩:=CN (xs:=[V.int 0,V.int 200,V.int (-1),V.int ((xs.length:Int) - 1),V.bl true,V.non,V.str "3",V.int 199,V.int 1,V.int 300]) (i:=m / 3000 % 10) (Int.emod_nonneg _ (by decide)) (Int.emod_lt_of_pos _ (by decide))
  have tv:jx v:=by
   simp only [List.mem_cons,List.not_mem_nil,or_false] at hmv
   rcases hmv with rfl | rfl | rfl | rfl | rfl | rfl | rfl | rfl | rfl | rfl <;> first | exact iB _ | exact Ow _ | exact GP | exact nC (by decide +kernel)
  have sA:=aC (o:=.lst [V.int 0,V.int 200,V.int (-1),V.int ((xs.length:Int) - 1),V.bl true,V.non,V.str "3",V.int 199,V.int 1,V.int 300]) nA
  exact⟨_,rfl,_,_,rfl,rfl,jz (by decide) (by decide),_,_,rfl,rfl,by show(0:Int) <10;decide,A,_,_,v,rfl,rfl,bH.of aq,hv,_,rfl,a,_,1,1,rfl,rfl,sA _ _ e,rfl,fin sA hnm tv (hin'.same sA)⟩
 refine⟨λ_ H'=>Q .non H',?_,λ_ _ h=>h⟩
 refine⟨_,rfl,rfl,_,rfl,dN (λ_=>?_) (λ_=>?_)⟩
 ·refine⟨_,rfl,a,_,2,_,rfl,rfl,bH.of e,aH (j:=2) rfl,_,rfl,m,rfl,hm,λH1 v s1 hv=>⟨by show 1<=sizeLine;lia,λA nA=>?_⟩⟩
  have sA:=aC (o:=.lst [v]) nA
  refine⟨f,A,xs,[v],rfl,rfl,sA _ _ (s1 _ _ hin.at_),aq,by have:=hin.len;rw [List.length_singleton];lia,λp np=>?_⟩
  have sp:=aC (o:=.lst (xs ++ [v])) np
  have s3:=s1.trans (sA.trans sp)
  have IN:=((S'.keep s1).keep sA).new (xs:=xs ++ [v]) np (by have:=hin.len;rw [lP,List.length_singleton];lia) (λx hx=>by
   rcases List.mem_append.mp hx with h | h
   ·exact hin.all x h
   ·rw [List.mem_singleton] at h;subst h;exact hv)
  exact⟨_,rfl,a,_,2,2,rfl,rfl,s3 _ _ e,rfl,fin s3 hnm hrm IN⟩
 refine⟨λ_ H'=>Q .non H',?_,λ_ _ h=>h⟩
 refine⟨_,rfl,rfl,_,rfl,dN (λ_=>?_) (λ_=>?_)⟩
 ·refine⟨.ref Ll,rfl,.inl ⟨rfl,_,bH.of S.ell⟩,_,rfl,Ll,_,m / 100 % (la.length:Int),at0,.ref la[at0],rfl,rfl,S.ell,by lia,by lia,by rw [lM,hat0];exact yD hatl,by rw [List.getElem?_map,List.getElem?_eq_getElem hatl];rfl,?_⟩
  rw [uL]
  exact k _ _ (S'.setL (la':=la.eraseIdx at0) (λb hb=>.inl (List.mem_of_mem_eraseIdx hb)) (Nat.le_trans (List.length_eraseIdx_le ..) (by lia)))
 refine⟨λ_ H'=>Q .non H',?_,λ_ _ h=>h⟩
 refine⟨_,rfl,rfl,_,rfl,dN (λ_=>?_) (λ_=>?_)⟩
 ·refine⟨.ref Ll,rfl,.inl ⟨rfl,_,bH.of S.ell⟩,_,rfl,_,rfl,by show 0<=sizeLine;lia,λF nF=>⟨by show 3<=sizeLine;lia,λA nA=>?_⟩⟩
  have sF:=aC (o:=.lst []) nF
  have sA:=aC (o:=.lst [V.str fr,V.int 1,.ref F]) nA
  have S2:=(S'.keep sF).keep sA
  refine⟨Ll,_,.ref A,at0,_,rfl,rfl,hat0,by rw [lM];lia,S2.ell,by rw [lM];lia,?_⟩
  have el:(la.map V.ref).take at0 ++ V.ref A:: (la.map V.ref).drop at0=(la.take at0 ++ A:: la.drop at0).map V.ref:=by simp
  rw [el]
  refine k _ _ (S2.setL (λb hb=>?_) (by rw [lP,List.length_cons,List.length_take,List.length_drop];lia))
  rcases List.mem_append.mp hb with h | h
  ·exact .inl (List.mem_of_mem_take h)
  rcases List.mem_cons.mp h with rfl | h
  ·exact .inr ⟨(S'.keep sF).newA nA,_,_,F,[],aq,hfr,iB 1,(S'.new nF (Nat.zero_le _) (by simp)).same sA⟩
  ·exact .inl (List.mem_of_mem_drop h)
 refine⟨λ_ H'=>Q .non H',?_,λ_ _ h=>h⟩
 refine⟨_,rfl,rfl,_,rfl,dN (λ_=>?_) (λ_=>?_)⟩
 ·refine⟨.ref Ll,rfl,.inl ⟨rfl,_,bH.of S.ell⟩,Ll,_,rfl,rfl,S.ell,?_⟩
  rw [<-List.map_reverse]
  exact k _ _ (S'.setL (la':=la.reverse) (λb hb=>.inl (List.mem_reverse.mp hb)) (by rw [List.length_reverse];lia))
 refine⟨8,rfl,by decide,by decide,o8 (λj σ H'=>∃la',mG H0 H' Ll Lp la' pa (n+10)/\la'.length=la.length+j/\∃v6,σ=[some (.ref Ll),some (.int m),some (.str fr),some (.int (m / 100 % (la.length:Int))),some (.ref a),some (.int w),v6]) ⟨la,S',rfl,none,rfl⟩ ?_ ?_⟩
 ·rintro j σ H' hj ⟨la',S2,ll,v6,rfl⟩
  have hj:j <8:=hj
  refine⟨.ref Ll,rfl,.inl ⟨rfl,_,bH.of S2.ell⟩,_,rfl,0+(j:Int),rfl,jJ (by lia) (by lia),_,_,rfl,rfl,yw (c:= "t") (by simp) hj,_,_,rfl,rfl,yK (c:= "t") (by simp) hj,_,rfl,_,_,rfl,rfl,by show 0<=sizeLine;lia,λF nF=>⟨by show 3<=sizeLine;lia,λA nA=>?_⟩⟩
  have sF:=aC (o:=.lst []) nF
  have sA:=aC (o:=.lst [V.str ("t" ++ Str.ofString (toString (0+(j:Int))) ++ "q"),V.int (1+(0+(j:Int))),.ref F]) nA
  have S3:=(S2.keep sF).keep sA
  refine⟨Ll,_,_,rfl,rfl,S3.ell,by rw [lM];lia,?_⟩
  have el:la'.map V.ref ++ [V.ref A]=(la' ++ [A]).map V.ref:=by simp
  rw [el]
  refine⟨la' ++ [A],S3.setL (λb hb=>?_) (by rw [lP,List.length_singleton];lia),by rw [lP,List.length_singleton];lia,_,rfl⟩
  rcases List.mem_append.mp hb with h | h
  ·exact .inl h
  ·rw [List.mem_singleton] at h
   subst h
   exact .inr ⟨(S2.keep sF).newA nA,_,_,F,[],aq,um (GC (c:= "t") (by simp) hj),iB _,(S2.new nF (Nat.zero_le _) (by simp)).same sA⟩
 ·rintro σ H' ⟨la',S2,ll,v6,rfl⟩
  exact k _ _ S2
section
variable {K:PySem.W.Frag} {H0 H:Hp} {Ll Lp:Addr} {la pa:List Addr} {n:Nat}
theorem xN.dt {f:Addr} {xs:List V} (h:xN Ll Lp n H f xs):Dt K H (.ref f) (.list (xs.map oM))/\Gd 2 (.list (xs.map oM)):=
 ⟨.list (bH.of h.at_) (xM h.all),Gd.list λx hx=>by obtain⟨v,hv,rfl⟩:=List.mem_map.mp hx;exact(h.all v hv).gd 1⟩
theorem Ce:∀{la:List Addr},(∀a∈la,gW Ll Lp n H a)->∃ds,JF K H (la.map V.ref) ds/\ds.length=la.length/\∀d∈ds,Gd 3 d
 | [],_=>⟨[],.nil,rfl,by simp⟩
 | a:: r,h=>by
  obtain⟨ds,h1,h2,h3⟩:=Ce (la:=r) λb hb=>h b (.tail _ hb)
  obtain⟨nm,rm,f,xs,e,hnm,hrm,hin⟩:=h a (.head _)
  refine⟨.list [oM nm,oM rm,.list (xs.map oM)]:: ds,.cons (.list (bH.of e) (.cons hnm.1.dt (.cons hrm.dt (.cons hin.dt.1 .nil)))) h1,by rw [List.length_cons,List.length_cons,h2],λd hd=>?_⟩
  rcases List.mem_cons.mp hd with rfl | hd
  ·refine Gd.list λx hx=>?_
   simp only [List.mem_cons,List.not_mem_nil,or_false] at hx
   rcases hx with rfl | rfl | rfl
   ·exact hnm.1.gd 2
   ·exact hrm.gd 2
   ·exact(hin.dt (K:=K)).2
  ·exact h3 d hd
theorem HY:∀{pa:List Addr},(∀a∈pa,gh Ll Lp n H a)->∃ds,JF K H (pa.map V.ref) ds/\ds.length=pa.length/\∀d∈ds,Gd 3 d
 | [],_=>⟨[],.nil,rfl,by simp⟩
 | a:: r,h=>by
  obtain⟨ds,h1,h2,h3⟩:=HY (pa:=r) λb hb=>h b (.tail _ hb)
  obtain⟨kd,nm,f1,f2,f3,ns,is,os,e,hk,hnm,i1,i2,i3,_⟩:=h a (.head _)
  refine⟨.list [oM (.str kd),oM nm,.list (ns.map oM),.list (is.map oM),.list (os.map oM)]:: ds,.cons (.list (bH.of e) (.cons hk.dt (.cons hnm.dt (.cons i1.dt.1 (.cons i2.dt.1 (.cons i3.dt.1 .nil)))))) h1,by rw [List.length_cons,List.length_cons,h2],λd hd=>?_⟩
  rcases List.mem_cons.mp hd with rfl | hd
  ·refine Gd.list λx hx=>?_
   simp only [List.mem_cons,List.not_mem_nil,or_false] at hx
   rcases hx with rfl | rfl | rfl | rfl | rfl
   ·exact hk.gd 2
   ·exact hnm.gd 2
   ·exact(i1.dt (K:=K)).2
   ·exact(i2.dt (K:=K)).2
   ·exact(i3.dt (K:=K)).2
  ·exact h3 d hd
end
inductive mU (K:PySem.W.Frag) (vs:List V) (H:Hp) (Q:VK) (E:XK):Prop where
 | mk:∀(Ll Lp:Addr) (m:Int) (H0:Hp) (la pa:List Addr) (n:Nat),vs=[.ref Ll,.int m]->0<=m->mG H0 H Ll Lp la pa n->n<=100->(∀H' v,aM H H'->Al v->Q v H')->mU K vs H Q E
theorem nW (T:Txt w K mg t):FO P w K mg base 1 t.pH ["_law_lanes", "_law_number"] (mU K):=by
 have sc:=T.gG.sc ["_law_lanes", "_law_number"]
 refine T.gG.F.ok sc ln (λ_ _ _ _ H vs Q E hr h=>?_)
 obtain⟨Ll,Lp,m,H0,la,pa,n,rfl,hm,S,hn,k⟩:=h
 refine⟨_,(aA (bD (PW.pt (j7 (aJ (GF hr.units) (pv 0) (aW ao) (bu _)) (jr (aJ cX (aK bJ (pv 1) au) au (bu _)))))
   (az (aY aN))
   bz)
  (az (aY (aZ aU (aZ aU (pv 0) (aK bJ (aK cY (pv 1) au) (bj bI (by rfl) T.dz cj (aa (pv 0) ao aj))) (λ_ _=>rfl)) au (λ_ _=>rfl))))),?_⟩
 have hl:sizeLine=16777216:=sizeLine_eq
 refine⟨_,rfl,by show 0<=sizeLine;lia,λD nD=>?_⟩
 refine Hh nD λH1 sD eD=>?_
 have S1:=S.keep sD
 obtain⟨ds,h1,h2,h3⟩:=Ce (K:=K) S1.lr
 refine⟨_,_,.list (bH.of S1.ell) h1,.list (bH.of eD) .nil,(Gd.list h3).shaped (by decide),(Gd.list (n:=0) (by simp)).shaped (by decide),?_⟩
 rw [m9]
 by_cases hne:la=[]
 case pos=>
  subst hne
  obtain rfl:ds=[]:=List.length_eq_zero_iff.mp h2
  exact⟨_,rfl,bK (bK (k _ _ sD (um (by decide +kernel))))⟩
 have he:ds.isEmpty=false:=by
  cases ds with
  | nil=>exact absurd (List.length_eq_zero_iff.mp h2.symm) hne
  | cons _ _=>rfl
 rw [he]
 refine⟨_,rfl,bW ⟨_,rfl,_,_,rfl,rfl,by show(0:Int) <5;decide,rfl,_,rfl,dN (λ_=>?_) (λ_=>?_)⟩⟩
 ·exact k _ _ sD (um (by decide +kernel))
 have lap:0 <la.length:=List.length_pos_iff.mpr hne
 obtain⟨v,hv,hmv⟩:=CN (xs:=la.map V.ref) (i:=m / 5 % (la.length:Int)) (Int.emod_nonneg _ (by lia)) (by rw [lM];exact Int.emod_lt_of_pos _ (by lia))
 obtain⟨b,hb,rfl⟩:=List.mem_map.mp hmv
 obtain⟨nm,rm,f,xs,e,hnm,hrm,hin⟩:=S1.lr b hb
 exact⟨_,rfl,_,rfl,_,_,rfl,rfl,jz (by decide) (by decide),_,rfl,.ref Ll,la.length,rfl,.inl ⟨_,bH.of S1.ell,by rw [lM]⟩,_,_,rfl,rfl,by show(0:Int) <(la.length:Int);lia,Ll,_,_,_,rfl,rfl,bH.of S1.ell,hv,b,_,0,nm,rfl,rfl,bH.of e,aH (j:=0) rfl,k _ _ sD hnm⟩
theorem Ri {j n:Nat} (h:j <n):Rz n (j:Int)=some j:=by
 unfold Rz
 rw [if_pos (by lia),if_pos (by lia),Int.toNat_natCast]
inductive lD (K:PySem.W.Frag) (vs:List V) (H:Hp) (Q:VK) (E:XK):Prop where
 | mk:∀(a Ll Lp:Addr) (m:Int) (pl:Nat) (H0:Hp) (la pa:List Addr) (n:Nat),vs=[.ref a,.ref Ll,.int m,.int (pl:Nat)]->0<=m->((pl=3∨pl=4))->mG H0 H Ll Lp la pa n->a∈pa->n<=90->(∀H',mG H0 H' Ll Lp la pa (n+10)->Q .non H')->lD K vs H Q E
theorem uP (T:Txt w K mg t):FO P w K mg base 2 t.my ["_law_one", "_law_lanes", "_law_number", "_law_place"] (lD K):=by
 have sc:=T.iU.sc ["_law_one", "_law_lanes", "_law_number", "_law_place", "_law_some", "_law_at", "_law_way"]
 refine T.iU.F.ok sc ln (λ_ _ _ _ H vs Q E hr h=>?_)
 obtain⟨a,Ll,Lp,m,pl,H0,la,pa,n,rfl,hm,hpl,S,ha,hn,k⟩:=h
 refine⟨_,(aA (sN sc 4 (bV p8 (by rfl) T.v9 qt (aa (aZ aU (pv 0) (pv 3) (λ_ _=>rfl)) ao aF)))
  (aA (sN sc 5 (aK bJ (aK cY (pv 2) au) (aK dG (bj bI (by rfl) T.dz cj (aa (pv 4) ao aj)) au)))
  (aA (sN sc 6 (aK bJ (aK cY (pv 2) au) au))
  (aA (bM (bD (aJ cX (pv 6) au (bu _))
   (az (aV (pC PySem.F.plainAttrs_list PySem.F.slot_list_insert PySem.F.type_list_insert ym (pv 4) (aa (pv 5) (aa (dF (nW T) T.gG hr (aa (pv 1) (aa (aK cY (pv 2) au) ao bG) aj)) ao bc) aj))))
   (az (bM (bD (aJ (vX hr.units) (pv 4) (aW ao) (bu _))
    (aA (sN sc 5 (aK bJ (pv 5) (bj bI (by rfl) T.dz cj (aa (pv 4) ao aj))))
    (az (bM (bD (aJ cX (pv 6) au (bu _))
     (az (aV (pC PySem.F.plainAttrs_list PySem.F.slot_list_pop PySem.F.type_list_pop pP (pv 4) (aa (pv 5) ao aj))))
     (az (jn (dF (nW T) T.gG hr (aa (pv 1) (aa (aK cY (pv 2) au) ao bG) aj)) (kJ (pv 4) (pv 5) set_list)))))))
    bz)))))
  (az (jn (pv 4) (kJ (pv 0) (pv 3) set_list))))))),?_⟩
 have hl:sizeLine=16777216:=sizeLine_eq
 obtain⟨kd,nm,f1,f2,f3,ns,is,os,e,hk,hnm,i1,i2,i3,n2,n3⟩:=S.pr a ha
 obtain⟨f,xs,hat,hin,hxs⟩:∃f xs,DW [V.str kd,nm,.ref f1,.ref f2,.ref f3] (pl:Int)=some (.ref f)/\xN Ll Lp n H f xs/\∀v∈xs,Al v:=by
  rcases hpl with rfl | rfl
  ·exact⟨f2,is,aH (j:=3) rfl,i2,n2⟩
  ·exact⟨f3,os,aH (j:=4) rfl,i3,n3⟩
 have S':mG H0 H Ll Lp la pa (n+10):=S.up (by lia)
 refine⟨_,rfl,_,rfl,a,_,_,_,rfl,rfl,bH.of e,hat,f,xs,rfl,.inl (bH.of hin.at_),λA nA=>?_⟩
 have hxl:=hin.len
 refine Hh nA λH1 sA eA=>?_
 refine⟨_,rfl,_,_,rfl,rfl,jz (by decide) (by decide),_,rfl,.ref A,xs.length,rfl,.inl ⟨_,bH.of eA,rfl⟩,_,_,rfl,rfl,_,_,rfl,rfl,by show(0:Int) <(xs.length:Int)+1;lia,?_⟩
 refine⟨_,rfl,_,_,rfl,rfl,jz (by decide) (by decide),_,_,rfl,rfl,by show(0:Int) <4;decide,?_⟩
 obtain⟨j0,hj0,hjl⟩:∃j:Nat,m / 5000 % ((xs.length:Int)+1)=(j:Int)/\j<=xs.length:=by
  have h0:=Int.emod_nonneg (m / 5000) (show(xs.length:Int)+1≠0 by lia)
  have h1:=Int.emod_lt_of_pos (m / 5000) (show(0:Int) <(xs.length:Int)+1 by lia)
  exact⟨(m / 5000 % ((xs.length:Int)+1)).toNat,by lia,by lia⟩
 rw [hj0]
 generalize m / 11 % 4=w
 have md:(0:Int)<=m / 100:=Int.ediv_nonneg hm (by decide)
 have put:∀{H2:Hp} {o:HO},aM H H2->aM H (upd H2 A o):=λs b u eb=>by rw [aD (aB eb nA)];exact s b u eb
 refine⟨λσ H2=>aM H H2/\∃ys v5,H2 A=some (.lst ys)/\ys.length<=n+10/\(∀v∈ys,Al v)/\σ=[some (.ref a),some (.ref Ll),some (.int m),some (.int (pl:Nat)),some (.ref A),v5,some (.int w)],?_,?_⟩
 ·refine⟨_,rfl,rfl,_,rfl,dN (λ_=>?_) (λ_=>?_)⟩
  ·refine⟨.ref A,rfl,.inl ⟨rfl,_,bH.of eA⟩,_,rfl,_,rfl,_,rfl,_,_,rfl,rfl,jz (by decide) (by decide),Ll,Lp,m / 100,H0,la,pa,n,rfl,md,S.keep sA,by lia,λH2 v s2 hv=>?_⟩
   refine⟨A,xs,v,j0,_,rfl,rfl,rfl,hjl,s2 _ _ eA,by lia,put (sA.trans s2),_,_,aq,by rw [lP,List.length_cons,List.length_take,List.length_drop];lia,λx hx=>?_,rfl⟩
   rcases List.mem_append.mp hx with h | h
   ·exact hxs x (List.mem_of_mem_take h)
   rcases List.mem_cons.mp h with rfl | h
   ·exact hv
   ·exact hxs x (List.mem_of_mem_drop h)
  refine⟨λσ H2=>aM H H2/\∃ys v5,H2 A=some (.lst ys)/\ys.length<=n+10/\(∀v∈ys,Al v)/\σ=[some (.ref a),some (.ref Ll),some (.int m),some (.int (pl:Nat)),some (.ref A),v5,some (.int w)],?_,λ_ _ h=>h⟩
  refine⟨_,rfl,by show 0<=sizeLine;lia,λD nD=>?_⟩
  refine Hh nD λH2 sD eD=>?_
  have eA1:=sD _ _ eA
  have s2:=sA.trans sD
  refine⟨_,_,.list (bH.of eA1) (xM hin.all),.list (bH.of eD) .nil,(Gd.list (n:=1) λx hx=>by obtain⟨v,hv,rfl⟩:=List.mem_map.mp hx;exact(hin.all v hv).gd 1).shaped (by decide),(Gd.list (n:=0) (by simp)).shaped (by decide),?_⟩
  rw [m9]
  by_cases hne:xs=[]
  case pos=>
   subst hne
   exact⟨_,rfl,bW ⟨s2,[],_,eA1,Nat.zero_le _,by simp,rfl⟩⟩
  have he:(xs.map oM).isEmpty=false:=by
   cases xs with
   | nil=>exact absurd rfl hne
   | cons _ _=>rfl
  rw [he]
  have xp:0 <xs.length:=List.length_pos_iff.mpr hne
  refine⟨_,rfl,bK ⟨_,rfl,_,rfl,.ref A,xs.length,rfl,.inl ⟨_,bH.of eA1,rfl⟩,_,_,rfl,rfl,by show(0:Int) <(xs.length:Int);lia,?_⟩⟩
  obtain⟨j1,hj1,hjl1⟩:∃j:Nat,(j0:Int) % (xs.length:Int)=(j:Int)/\j <xs.length:=by
   have h0:=Int.emod_nonneg (j0:Int) (show(xs.length:Int)≠0 by lia)
   have h1:=Int.emod_lt_of_pos (j0:Int) (show(0:Int) <(xs.length:Int) by lia)
   exact⟨((j0:Int) % (xs.length:Int)).toNat,by lia,by lia⟩
  rw [hj1]
  refine⟨λσ H2=>aM H H2/\∃ys v5,H2 A=some (.lst ys)/\ys.length<=n+10/\(∀v∈ys,Al v)/\σ=[some (.ref a),some (.ref Ll),some (.int m),some (.int (pl:Nat)),some (.ref A),v5,some (.int w)],?_,λ_ _ h=>h⟩
  refine⟨_,rfl,rfl,_,rfl,dN (λ_=>?_) (λ_=>?_)⟩
  ·exact⟨.ref A,rfl,.inl ⟨rfl,_,bH.of eA1⟩,_,rfl,A,xs,(j1:Int),j1,xs[j1],rfl,rfl,eA1,by lia,by lia,yD hjl1,List.getElem?_eq_getElem hjl1,put s2,_,_,aq,Nat.le_trans (List.length_eraseIdx_le ..) (by lia),λx hx=>hxs x (List.mem_of_mem_eraseIdx hx),rfl⟩
  ·refine⟨_,rfl,_,rfl,_,_,rfl,rfl,jz (by decide) (by decide),Ll,Lp,m / 100,H0,la,pa,n,rfl,md,S.keep s2,by lia,λH3 v s3 hv=>?_⟩
   refine⟨_,rfl,_,rfl,A,xs,(j1:Int),j1,rfl,rfl,s3 _ _ eA1,Ri hjl1,put (s2.trans s3),_,_,aq,by rw [List.length_set];lia,λx hx=>?_,rfl⟩
   rcases List.mem_or_eq_of_mem_set hx with h | h
   ·exact hxs x h
   ·rw [h];exact hv
 ·rintro σ H2 ⟨s2,ys,v5,eA2,ly,hy,rfl⟩
  have IN:xN Ll Lp (n+10) H2 A ys:=⟨eA2,Ne.symm (aB S.ell nA),Ne.symm (aB S.elp nA),ly,λv hv=>(hy v hv).1⟩
  have S2:=S'.keep s2
  have wr:∀{g:Addr} {zs:List V} {o:HO},xN Ll Lp n H g zs->xN Ll Lp (n+10) (upd H2 a o) g zs:=λh=>((h.up (by lia)).same s2).wr (((h.up (m:=n) (Nat.le_refl _)).ne e (b:=f1) (by simp)))
  have wA:∀{o:HO},xN Ll Lp (n+10) (upd H2 a o) A ys:=IN.wr (IN.ne (s2 _ _ e) (b:=f1) (by simp))
  rcases hpl with rfl | rfl
  ·refine⟨_,rfl,_,rfl,_,rfl,a,_,3,3,rfl,rfl,s2 _ _ e,rfl,k _ (S2.wrP ha ⟨kd,nm,f1,A,f3,ns,ys,os,aq,hk,hnm,wr i1,wA,wr i3,hy,n3⟩)⟩
  ·refine⟨_,rfl,_,rfl,_,rfl,a,_,4,4,rfl,rfl,s2 _ _ e,rfl,k _ (S2.wrP ha ⟨kd,nm,f1,f2,A,ns,is,ys,aq,hk,hnm,wr i1,wr i2,wA,n2,hy⟩)⟩
noncomputable def Xx:List V:=[.str "stage",.str "Give",.str "",.str "part",.str "lane",.str "pass",.str "copy",.str "take"]
theorem RB:∀v∈Xx,∃z,v=.str z/\jx (.str z):=λv hm=>by
 unfold Xx at hm
 simp only [List.mem_cons,List.not_mem_nil,or_false] at hm
 rcases hm with rfl | rfl | rfl | rfl | rfl | rfl | rfl | rfl <;> exact⟨_,rfl,nC (by decide +kernel)⟩
theorem Mg {H0 H:Hp} {Ll Lp:Addr} {la pa:List Addr} {n:Nat} {F A:Addr} {z:Str} (S:mG H0 H Ll Lp la pa n) (hz:Al (.str z)) (hlen:la.length+1<=n) (nF:H F=none) (nA:upd H F (.lst [.int 1]) A=none):mG H0 (upd (upd (upd H F (.lst [.int 1])) A (.lst [.str z,.int 2,.ref F])) Ll (.lst (la.map V.ref ++ [.ref A]))) Ll Lp (la ++ [A]) pa n:=by
 have sF:=aC (o:=.lst [V.int 1]) nF
 have sA:=aC (o:=.lst [V.str z,V.int 2,.ref F]) nA
 have S3:=(S.keep sF).keep sA
 have el:la.map V.ref ++ [V.ref A]=(la ++ [A]).map V.ref:=by simp
 rw [el]
 refine S3.setL (λb hb=>?_) (by rw [lP,List.length_singleton];lia)
 rcases List.mem_append.mp hb with h | h
 ·exact .inl h
 ·rw [List.mem_singleton] at h
  subst h
  refine .inr ⟨(S.keep sF).newA nA,_,_,F,[.int 1],aq,hz,iB 2,(S.new (xs:=[.int 1]) nF (show 1<=n by lia) (λv hv=>?_)).same sA⟩
  rw [List.mem_singleton] at hv
  subst hv
  exact iB 1
theorem Lw {H0 H:Hp} {Ll Lp:Addr} {la pa:List Addr} {n:Nat} {F1 F2 F3 A:Addr} {y z:Str} (S:mG H0 H Ll Lp la pa n) (h1n:1<=n) (hy:Al (.str y)) (hz:Al (.str z)) (n1:H F1=none) (n2:upd H F1 (.lst []) F2=none) (n3:upd (upd H F1 (.lst [])) F2 (.lst [.str z]) F3=none) (nA:upd (upd (upd H F1 (.lst [])) F2 (.lst [.str z])) F3 (.lst [.str z]) A=none):mG H0 (upd (upd (upd (upd H F1 (.lst [])) F2 (.lst [.str z])) F3 (.lst [.str z])) A (.lst [.str "pass",.str y,.ref F1,.ref F2,.ref F3])) Ll Lp la pa n/\(H0 A=none/\A≠Ll/\A≠Lp)/\gh Ll Lp n (upd (upd (upd (upd H F1 (.lst [])) F2 (.lst [.str z])) F3 (.lst [.str z])) A (.lst [.str "pass",.str y,.ref F1,.ref F2,.ref F3])) A:=by
 have s1:=aC (o:=.lst []) n1
 have s2:=aC (o:=.lst [V.str z]) n2
 have s3:=aC (o:=.lst [V.str z]) n3
 have sA:=aC (o:=.lst [V.str "pass",V.str y,.ref F1,.ref F2,.ref F3]) nA
 have S1:=S.keep s1
 have S2:=S1.keep s2
 have S3:=S2.keep s3
 have one:∀v∈[V.str z],Al v:=λv hv=>by rw [List.mem_singleton] at hv;subst hv;exact hz
 exact⟨S3.keep sA,S3.newA nA, "pass",.str y,F1,F2,F3,[],[.str z],[.str z],aq,nC (by decide +kernel),hy.1,(S.new n1 (Nat.zero_le _) (by simp)).same (s2.trans (s3.trans sA)),(S1.new (xs:=[.str z]) n2 h1n λv hv=>(one v hv).1).same (s3.trans sA),(S2.new (xs:=[.str z]) n3 h1n λv hv=>(one v hv).1).same sA,one,one⟩
inductive iJ (K:PySem.W.Frag) (vs:List V) (H:Hp) (Q:VK) (E:XK):Prop where
 | mk:∀(Ll Lp:Addr) (m:Int) (fr:Str) (H0:Hp) (la pa:List Addr) (n:Nat),vs=[.ref Ll,.ref Lp,.int m,.str fr]->0<=m->Al (.str fr)->mG H0 H Ll Lp la pa n->pa≠[]->n<=90->(∀H' la' pa',mG H0 H' Ll Lp la' pa' (n+10)->Q .non H')->iJ K vs H Q E
noncomputable abbrev mZ:List Str:=["_law_lanes", "_law_parts", "_law_number", "_law_fresh", "_law_at", "_law_one", "_law_way", "_law_k"]
theorem wk (T:Txt w K mg t):FO P w K mg base 3 t.nQ ["_law_lanes", "_law_parts", "_law_number", "_law_fresh"] (iJ K):=by
 have sc:=T.jm.sc mZ
 refine T.jm.F.ok sc ln (λ_ _ _ _ H vs Q E hr h=>?_)
 obtain⟨Ll,Lp,m,fr,H0,la,pa,n,rfl,hm,hfr,S,hne,hn,k⟩:=h
 refine⟨_,(aA (sN sc 4 (aK bJ (aK cY (pv 2) au) (bj bI (by rfl) T.dz cj (aa (pv 1) ao aj))))
  (aA (sN sc 5 (aZ aU (pv 1) (pv 4) (λ_ _=>rfl)))
  (aA (sN sc 6 (aK bJ (pv 2) au))
  (az (bM (bD (aJ cX (pv 6) au (bu _))
   (az (jn (aZ aU (aW (@aa _ _ _ _ _ aN (@aa _ _ _ _ _ aN (@aa _ _ _ _ _ aN (@aa _ _ _ _ _ aN (@aa _ _ _ _ _ aN (@aa _ _ _ _ _ aN (@aa _ _ _ _ _ aN (@aa _ _ _ _ _ aN ao ak) ak) ak) ak) ak) ak) ak) ak)) (aK bJ (aK cY (pv 2) au) au) (λ_ _=>rfl)) (kJ (pv 5) au set_list)))
   (az (bM (bD (aJ cX (pv 6) au (bu _))
    (az (jn (dF (qP T) T.ju hr (aa (pv 2) ao aj)) (kJ (pv 5) au set_list)))
    (az (bM (bD (aJ cX (pv 6) au (bu _))
     (az (jn (aZ aU (aZ aU (pv 1) (aK bJ (aK cY (pv 2) au) (bj bI (by rfl) T.dz cj (aa (pv 1) ao aj))) (λ_ _=>rfl)) au (λ_ _=>rfl)) (kJ (pv 5) au set_list)))
     (az (bM (bD (aJ cX (pv 6) au (bu _))
      (az (jn (aK Ba (bV p8 (by rfl) T.v9 qt (aa (aZ aU (pv 5) au (λ_ _=>rfl)) ao aF)) (aW (aa (dF (ur T) T.mF hr (aa (pv 2) ao aj)) ao bc))) (kJ (pv 5) au set_list)))
      (az (bM (bD (aJ cX (pv 6) au (bu _))
       (az (jn (jX [2] mZ (bw (top 81)) rfl (dB (aZ aU (pv 5) au (λ_ _=>rfl))) (λ_ _ _ _ _=>ik) (λ_ _ _ _ _=>(dF (ur T) T.mF hr (aa (pv 1) ao aj)))) (kJ (pv 5) au set_list)))
       (az (bM (bD (aJ qY (pv 6) au (bu _))
        (az (aV (dF (uP T) T.iU hr (aa (pv 5) (aa (pv 0) (aa (pv 2) (aa (aK dG au (aK bJ (aK cY (pv 2) au) au)) ao bG) aj) aj) aj))))
        (az (bM (bD (aJ cX (pv 6) au (bu _))
         (az (aV (pC PySem.F.plainAttrs_list PySem.F.slot_list_pop PySem.F.type_list_pop pP (pv 1) (aa (pv 4) ao aj))))
         (az (bM (bD (aJ cX (pv 6) au (bu _))
          (aA (aV (yU (pv 0) (aa (aW (aa (pv 3) (aa au (aa (aW (aa au ao ak)) ao aO) ak) aj)) ao aO)))
          (az (aV (pC PySem.F.plainAttrs_list PySem.F.slot_list_insert PySem.F.type_list_insert ym (pv 1) (aa (pv 4) (aa (aW (aa aN (aa (pv 3) (aa (aW ao) (aa (aW (aa (pv 3) ao aj)) (aa (aW (aa (pv 3) ao aj)) ao aO) aO) aO) aj) ak)) ao aO) aj)))))
          (az (fM PassesOwn.never rfl (gQ rfl T.lQ (aa au ao ak)) (gN sc 7)
           (aA (aV (yU (pv 0) (aa (aW (aa (aK cJ (aK cJ aN (bV fK (by rfl) T.xg qN (aa (pv 7) ao aj))) aN) (aa au (aa (aW (aa au ao ak)) ao aO) ak) bG)) ao aO)))
           (az (aV (yU (pv 1) (aa (aW (aa aN (aa (aK cJ (aK cJ aN (bV fK (by rfl) T.xg qN (aa (pv 7) ao aj))) aN) (aa (aW ao) (aa (aW (aa (aK cJ (aK cJ aN (bV fK (by rfl) T.xg qN (aa (pv 7) ao aj))) aN) ao bG)) (aa (aW (aa (aK cJ (aK cJ aN (bV fK (by rfl) T.xg qN (aa (pv 7) ao aj))) aN) ao bG)) ao aO) aO) aO) bG) ak)) ao aO)))))))))))))))))))))))))))))))))),?_⟩
 have hl:sizeLine=16777216:=sizeLine_eq
 have pap:0 <pa.length:=List.length_pos_iff.mpr hne
 have hpl:=S.hp
 have hll:=S.hl
 have ix:∀c:Int,∃b∈pa,DW (pa.map V.ref) (c % (pa.length:Int))=some (.ref b):=λc=>by
  obtain⟨v,hv,hm⟩:=CN (xs:=pa.map V.ref) (i:=c % (pa.length:Int)) (Int.emod_nonneg _ (by lia)) (by rw [lM];exact Int.emod_lt_of_pos _ (by lia))
  obtain⟨b,hb,rfl⟩:=List.mem_map.mp hm
  exact⟨b,hb,hv⟩
 obtain⟨a,ha,hat⟩:=ix (m / 100)
 refine⟨_,rfl,_,_,rfl,rfl,jz (by decide) (by decide),_,rfl,.ref Lp,pa.length,rfl,.inl ⟨_,bH.of S.elp,by rw [lM]⟩,_,_,rfl,rfl,by show(0:Int) <(pa.length:Int);lia,?_⟩
 refine⟨_,rfl,_,rfl,Lp,_,_,_,rfl,rfl,bH.of S.elp,hat,?_⟩
 refine⟨_,rfl,_,_,rfl,rfl,by show(0:Int) <11;decide,?_⟩
 obtain⟨kd,nm,f1,f2,f3,ns,is,os,e,hk,hnm,i1,i2,i3,n2,n3⟩:=S.pr a ha
 have S':mG H0 H Ll Lp la pa (n+10):=S.up (by lia)
 have fin:∀{H1:Hp} {kd':Str} {nm':V} {f':Addr} {xs':List V},aM H H1->jx (.str kd')->jx nm'->xN Ll Lp (n+10) H1 f' xs'->Q .non (upd H1 a (.lst [.str kd',nm',.ref f',.ref f2,.ref f3])):=λs1 h1 h2 h3=>
  have wr:∀{g:Addr} {zs:List V} {o:HO},xN Ll Lp (n+10) _ g zs->xN Ll Lp (n+10) (upd _ a o) g zs:=λh=>h.wr (h.ne (s1 _ _ e) (b:=f1) (by simp))
  k _ _ _ ((S'.keep s1).wrP ha ⟨_,_,_,_,_,_,_,_,aq,h1,h2,wr h3,wr ((i2.up (by lia)).same s1),wr ((i3.up (by lia)).same s1),n2,n3⟩)
 have j1:xN Ll Lp (n+10) H f1 ns:=i1.up (by lia)
 generalize m % 11=w
 obtain⟨at0,hat0,hatl⟩:∃j:Nat,m / 100 % (pa.length:Int)=(j:Int)/\j <pa.length:=by
  have h0:=Int.emod_nonneg (m / 100) (show(pa.length:Int)≠0 by lia)
  have h1:=Int.emod_lt_of_pos (m / 100) (show(0:Int) <(pa.length:Int) by lia)
  exact⟨(m / 100 % (pa.length:Int)).toNat,by lia,by lia⟩
 refine⟨λ_ H'=>Q .non H',?_,λ_ _ h=>h⟩
 refine⟨_,rfl,rfl,_,rfl,dN (λ_=>?_) (λ_=>?_)⟩
 ·refine⟨by show 8<=sizeLine;lia,λA nA=>?_⟩
  obtain⟨v,hv,hmv⟩:=CN (xs:=Xx) (i:=m / 3000 % 8) (Int.emod_nonneg _ (by decide)) (Int.emod_lt_of_pos _ (by decide))
  obtain⟨z,rfl,hz⟩:=RB v hmv
  have sA:=aC (o:=.lst Xx) nA
  exact⟨_,rfl,_,_,rfl,rfl,jz (by decide) (by decide),_,_,rfl,rfl,by show(0:Int) <8;decide,A,_,_,_,rfl,rfl,bH.of aq,hv,_,rfl,a,_,0,0,rfl,rfl,sA _ _ e,rfl,fin sA hz hnm (j1.same sA)⟩
 refine⟨λ_ H'=>Q .non H',?_,λ_ _ h=>h⟩
 refine⟨_,rfl,rfl,_,rfl,dN (λ_=>?_) (λ_=>?_)⟩
 ·exact⟨_,rfl,m,rfl,hm,λH1 v s1 hv=>⟨_,rfl,a,_,1,1,rfl,rfl,s1 _ _ e,rfl,fin s1 hk hv.1 (j1.same s1)⟩⟩
 refine⟨λ_ H'=>Q .non H',?_,λ_ _ h=>h⟩
 refine⟨_,rfl,rfl,_,rfl,dN (λ_=>?_) (λ_=>?_)⟩
 ·obtain⟨b,hb,hbt⟩:=ix (m / 3000)
  obtain⟨kd2,nm2,g1,g2,g3,_,_,_,e2,_,hnm2,_⟩:=S.pr b hb
  exact⟨_,rfl,_,rfl,_,_,rfl,rfl,jz (by decide) (by decide),_,rfl,.ref Lp,pa.length,rfl,.inl ⟨_,bH.of S.elp,by rw [lM]⟩,_,_,rfl,rfl,by show(0:Int) <(pa.length:Int);lia,Lp,_,_,_,rfl,rfl,bH.of S.elp,hbt,b,_,1,nm2,rfl,rfl,bH.of e2,aH (j:=1) rfl,_,rfl,a,_,1,1,rfl,rfl,e,rfl,fin (aM.refl _) hk hnm2 j1⟩
 refine⟨λ_ H'=>Q .non H',?_,λ_ _ h=>h⟩
 refine⟨_,rfl,rfl,_,rfl,dN (λ_=>?_) (λ_=>?_)⟩
 ·refine⟨_,rfl,a,_,2,_,rfl,rfl,bH.of e,aH (j:=2) rfl,f1,ns,rfl,.inl (bH.of i1.at_),λB nB=>⟨_,rfl,m,rfl,hm,λH1 v s1 hv=>⟨by show 1<=sizeLine;lia,λA nA=>?_⟩⟩⟩
  have sB:=aC (o:=.lst ns) nB
  have sA:=aC (o:=.lst [v]) nA
  refine⟨B,A,ns,[v],rfl,rfl,sA _ _ (s1 _ _ aq),aq,by have:=i1.len;rw [List.length_singleton];lia,λp np=>?_⟩
  have sp:=aC (o:=.lst (ns ++ [v])) np
  have s3:=sB.trans (s1.trans (sA.trans sp))
  have IN:=(((S'.keep sB).keep s1).keep sA).new (xs:=ns ++ [v]) np (by have:=i1.len;rw [lP,List.length_singleton];lia) (λx hx=>by
   rcases List.mem_append.mp hx with h | h
   ·exact i1.all x h
   ·rw [List.mem_singleton] at h;subst h;exact hv)
  exact⟨_,rfl,a,_,2,2,rfl,rfl,s3 _ _ e,rfl,fin s3 hk hnm IN⟩
 refine⟨λ_ H'=>Q .non H',?_,λ_ _ h=>h⟩
 refine⟨_,rfl,rfl,_,rfl,dN (λ_=>?_) (λ_=>?_)⟩
 ·have hnl:=i1.len
  refine⟨_,rfl,a,_,2,_,rfl,rfl,bH.of e,aH (j:=2) rfl,f1,rfl,⟨_,bH.of i1.at_⟩,jD (K:=K) (a:=f1) (xs:=ns) (λj ys H'=>aM H H'/\ys.length=j/\∀v∈ys,jx v) (by lia) ⟨aM.refl _,rfl,by simp⟩ (λj ys H' h=>Nat.le_of_eq h.2.1) (λj ys H' _ h=>bH.of (h.1 _ _ i1.at_)) ?_ ?_⟩
  ·rintro j x ys H' hx ⟨s1,ly,hy⟩
   refine yes ⟨_,rfl,m,rfl,hm,λH2 v s2 hv=>⟨s1.trans s2,by rw [lP,List.length_singleton,ly],λu hu=>?_⟩⟩
   rcases List.mem_append.mp hu with h | h
   ·exact hy u h
   ·rw [List.mem_singleton] at h;subst h;exact hv
  ·rintro ys H' ⟨s1,ly,hy⟩ D nD
   have sD:=aC (o:=.lst ys) nD
   have IN:=(S'.keep s1).new (xs:=ys) nD (by lia) hy
   exact⟨_,rfl,a,_,2,2,rfl,rfl,sD _ _ (s1 _ _ e),rfl,fin (s1.trans sD) hk hnm IN⟩
 refine⟨λ_ H'=>Q .non H',?_,λ_ _ h=>h⟩
 refine⟨_,rfl,_,_,rfl,rfl,_,rfl,dN (λ_=>?_) (λ_=>?_)⟩
 ·obtain⟨pl,hpl1,hpl2⟩:∃pl:Nat,3+m / 3000 % 2=(pl:Int)/\(pl=3∨pl=4):=by
   have h0:=Int.emod_nonneg (m / 3000) (show(2:Int)≠0 by decide)
   have h1:=Int.emod_lt_of_pos (m / 3000) (show(0:Int) <2 by decide)
   exact⟨(3+m / 3000 % 2).toNat,by lia,by lia⟩
  exact⟨_,rfl,_,rfl,_,rfl,_,rfl,_,_,rfl,rfl,jz (by decide) (by decide),_,_,rfl,rfl,by show(0:Int) <2;decide,_,_,rfl,rfl,a,Ll,Lp,m,pl,H0,la,pa,n,by rw [hpl1];rfl,hm,hpl2,S,ha,hn,λH' S2=>k H' la pa S2⟩
 refine⟨λ_ H'=>Q .non H',?_,λ_ _ h=>h⟩
 refine⟨_,rfl,rfl,_,rfl,dN (λ_=>?_) (λ_=>?_)⟩
 ·refine⟨.ref Lp,rfl,.inl ⟨rfl,_,bH.of S.elp⟩,_,rfl,Lp,_,m / 100 % (pa.length:Int),at0,.ref pa[at0],rfl,rfl,S.elp,by lia,by lia,by rw [lM,hat0];exact yD hatl,by rw [List.getElem?_map,List.getElem?_eq_getElem hatl];rfl,?_⟩
  rw [uL]
  exact k _ _ _ (S'.setP (pa':=pa.eraseIdx at0) (λb hb=>.inl (List.mem_of_mem_eraseIdx hb)) (Nat.le_trans (List.length_eraseIdx_le ..) (by lia)))
 refine⟨λ_ H'=>Q .non H',?_,λ_ _ h=>h⟩
 refine⟨_,rfl,rfl,_,rfl,dN (λ_=>?_) (λ_=>?_)⟩
 ·refine⟨.ref Ll,rfl,.inl ⟨rfl,_,bH.of S.ell⟩,_,rfl,by show 1<=sizeLine;lia,λF nF=>⟨by show 3<=sizeLine;lia,λA nA=>?_⟩⟩
  have sF:=aC (o:=.lst [V.int 1]) nF
  have sA:=aC (o:=.lst [V.str fr,V.int 2,.ref F]) nA
  refine⟨Ll,_,_,rfl,rfl,((S'.keep sF).keep sA).ell,by rw [lM];lia,?_⟩
  have S4:=Mg S' hfr (by lia) nF nA
  generalize upd (upd (upd H F (.lst [.int 1])) A (.lst [.str fr,.int 2,.ref F])) Ll (.lst (la.map V.ref ++ [.ref A]))=H4 at S4 ⊢
  refine⟨.ref Lp,rfl,.inl ⟨rfl,_,bH.of S4.elp⟩,_,rfl,_,rfl,by show 0<=sizeLine;lia,λF1 n1=>⟨_,rfl,by show 1<=sizeLine;lia,λF2 n2=>⟨_,rfl,by show 1<=sizeLine;lia,λF3 n3=>⟨by show 5<=sizeLine;lia,λB nB=>?_⟩⟩⟩⟩
  obtain⟨S5,fB,pB⟩:=Lw S4 (by lia) hfr hfr n1 n2 n3 nB
  generalize upd (upd (upd (upd H4 F1 (.lst [])) F2 (.lst [.str fr])) F3 (.lst [.str fr])) B (.lst [.str "pass",.str fr,.ref F1,.ref F2,.ref F3])=H5 at S5 pB ⊢
  refine⟨Lp,_,.ref B,at0,_,rfl,rfl,hat0,by rw [lM];lia,S5.elp,by rw [lM];lia,?_⟩
  have el:(pa.map V.ref).take at0 ++ V.ref B:: (pa.map V.ref).drop at0=(pa.take at0 ++ B:: pa.drop at0).map V.ref:=by simp
  rw [el]
  refine k _ _ _ (S5.setP (λb hb=>?_) (by rw [lP,List.length_cons,List.length_take,List.length_drop];lia))
  rcases List.mem_append.mp hb with h | h
  ·exact .inl (List.mem_of_mem_take h)
  rcases List.mem_cons.mp h with rfl | h
  ·exact .inr ⟨fB,pB⟩
  ·exact .inl (List.mem_of_mem_drop h)
 refine⟨8,rfl,by decide,by decide,o8 (λj σ H'=>∃la' pa',mG H0 H' Ll Lp la' pa' (n+10)/\la'.length=la.length+j/\pa'.length=pa.length+j/\∃v7,σ=[some (.ref Ll),some (.ref Lp),some (.int m),some (.str fr),some (.int (m / 100 % (pa.length:Int))),some (.ref a),some (.int w),v7]) ⟨la,pa,S',rfl,rfl,none,rfl⟩ ?_ ?_⟩
 ·rintro j σ H' hj ⟨la',pa',S2,ll,lp,v7,rfl⟩
  have hj:j <8:=hj
  refine⟨.ref Ll,rfl,.inl ⟨rfl,_,bH.of S2.ell⟩,_,rfl,0+(j:Int),rfl,jJ (by lia) (by lia),_,_,rfl,rfl,yw (c:= "r") (by simp) hj,_,_,rfl,rfl,yK (c:= "r") (by simp) hj,by show 1<=sizeLine;lia,λF nF=>⟨by show 3<=sizeLine;lia,λA nA=>?_⟩⟩
  have nr:=um (GC (c:= "r") (by simp) hj)
  have ns':=um (GC (c:= "s") (by simp) hj)
  have sF:=aC (o:=.lst [V.int 1]) nF
  have sA:=aC (o:=.lst [V.str ("r" ++ Str.ofString (toString (0+(j:Int))) ++ "q"),V.int 2,.ref F]) nA
  refine⟨Ll,_,_,rfl,rfl,((S2.keep sF).keep sA).ell,by rw [lM];lia,?_⟩
  have S4:=Mg S2 nr (by lia) nF nA
  generalize upd (upd (upd H' F (.lst [.int 1])) A (.lst [.str ("r" ++ Str.ofString (toString (0+(j:Int))) ++ "q"),.int 2,.ref F])) Ll (.lst (la'.map V.ref ++ [.ref A]))=H4 at S4 ⊢
  refine⟨.ref Lp,rfl,.inl ⟨rfl,_,bH.of S4.elp⟩,_,rfl,0+(j:Int),rfl,jJ (by lia) (by lia),_,_,rfl,rfl,yw (c:= "s") (by simp) hj,_,_,rfl,rfl,yK (c:= "s") (by simp) hj,by show 0<=sizeLine;lia,λF1 n1=>⟨_,rfl,0+(j:Int),rfl,jJ (by lia) (by lia),_,_,rfl,rfl,yw (c:= "r") (by simp) hj,_,_,rfl,rfl,yK (c:= "r") (by simp) hj,by show 1<=sizeLine;lia,λF2 n2=>⟨_,rfl,0+(j:Int),rfl,jJ (by lia) (by lia),_,_,rfl,rfl,yw (c:= "r") (by simp) hj,_,_,rfl,rfl,yK (c:= "r") (by simp) hj,by show 1<=sizeLine;lia,λF3 n3=>⟨by show 5<=sizeLine;lia,λB nB=>?_⟩⟩⟩⟩
  obtain⟨S5,fB,pB⟩:=Lw S4 (by lia) ns' nr n1 n2 n3 nB
  refine⟨Lp,_,_,rfl,rfl,S5.elp,by rw [lM];lia,?_⟩
  have el:pa'.map V.ref ++ [V.ref B]=(pa' ++ [B]).map V.ref:=by simp
  rw [el]
  refine⟨la' ++ [A],pa' ++ [B],S5.setP (λb hb=>?_) (by rw [lP,List.length_singleton];lia),by rw [lP,List.length_singleton];lia,by rw [lP,List.length_singleton];lia,_,rfl⟩
  rcases List.mem_append.mp hb with h | h
  ·exact .inl h
  ·rw [List.mem_singleton] at h
   subst h
   exact .inr ⟨fB,pB⟩
 ·rintro σ H' ⟨la',pa',S2,ll,lp,v7,rfl⟩
  exact k _ _ _ S2
inductive vy (K:PySem.W.Frag) (vs:List V) (H:Hp) (Q:VK) (E:XK):Prop where
 | mk:∀(Ll Lp:Addr) (c:Int) (fr:Str) (H0:Hp) (la pa:List Addr) (n:Nat),vs=[.ref Ll,.ref Lp,.int c,.str fr]->Al (.str fr)->mG H0 H Ll Lp la pa n->n<=90->(∀H' la' pa',mG H0 H' Ll Lp la' pa' (n+10)->Q .non H')->vy K vs H Q E
theorem DR (T:Txt w K mg t):FO P w K mg base 4 t.wX ["_law_lanes", "_law_parts", "_law_cell_here", "_law_fresh"] (vy K):=by
 have sc:=T.pU.sc ["_law_lanes", "_law_parts", "_law_cell_here", "_law_fresh", "_law_number"]
 refine T.pU.F.ok sc ln (λ_ _ _ _ H vs Q E hr h=>?_)
 obtain⟨Ll,Lp,c,fr,H0,la,pa,n,rfl,hfr,S,hn,k⟩:=h
 refine⟨_,(aA (sN sc 4 (dF (bh T) T.bA hr (aa (pv 2) (aa au ao ak) aj)))
  (az (bM (bD (PW.pt (tR (aJ (vX hr.units) (pv 0) (aW ao) (bu _)) (pY (aJ cX (aK bJ (pv 4) au) au (bu _)))))
   (az (aV (dF (vK T) T.ji hr (aa (pv 0) (aa (dF (bh T) T.bA hr (aa (pv 2) (aa au ao ak) aj)) (aa (pv 3) ao aj) bc) aj))))
   (az (bM (bD (aJ (vX hr.units) (pv 1) (aW ao) (bu _))
    (az (aV (dF (wk T) T.jm hr (aa (pv 0) (aa (pv 1) (aa (dF (bh T) T.bA hr (aa (pv 2) (aa au ao ak) aj)) (aa (pv 3) ao aj) bc) aj) aj))))
    bz))))))),?_⟩
 have hl:sizeLine=16777216:=sizeLine_eq
 refine⟨_,rfl,c,3,rfl,?_⟩
 generalize cg c 3=w
 refine⟨λ_ H'=>Q .non H',?_,λ_ _ h=>h⟩
 refine⟨_,rfl,by show 0<=sizeLine;lia,λD nD=>?_⟩
 refine Hh nD λH1 sD eD=>?_
 have S1:=S.keep sD
 obtain⟨ds,h1,h2,h3⟩:=Ce (K:=K) S1.lr
 refine⟨_,_,.list (bH.of S1.ell) h1,.list (bH.of eD) .nil,(Gd.list h3).shaped (by decide),(Gd.list (n:=0) (by simp)).shaped (by decide),?_⟩
 rw [m9]
 have other:∀{H1:Hp},mG H0 H1 Ll Lp la pa n->Te (Wb (Oa (V4 (Wh K) (Km 1) (VF IV))) (S6 (Jq (iJ K) [] E0 (Az (Km 0) (Az (Km 1) (Az (Jq tu [] E0 (Az (Km 2) (Az (tC (.int 4)) IV))) (Az (Km 3) IV)))))) TY) { nx:=λ_ H'=>Q .non H',rt:=Q } [some (.ref Ll),some (.ref Lp),some (.int c),some (.str fr),some (.int w)] H1:=λ{H1} S1=>by
  refine⟨λ_ H'=>Q .non H',?_,λ_ _ h=>h⟩
  refine⟨_,rfl,by show 0<=sizeLine;lia,λD nD=>?_⟩
  refine Hh nD λH2 sD eD=>?_
  have S2:=S1.keep sD
  obtain⟨ds,h1,h2,h3⟩:=HY (K:=K) S2.pr
  refine⟨_,_,.list (bH.of S2.elp) h1,.list (bH.of eD) .nil,(Gd.list h3).shaped (by decide),(Gd.list (n:=0) (by simp)).shaped (by decide),?_⟩
  rw [m9]
  by_cases hne:pa=[]
  case pos=>
   subst hne
   obtain rfl:ds=[]:=List.length_eq_zero_iff.mp h2
   exact⟨_,rfl,bW (k _ _ _ (S2.up (by lia)))⟩
  have he:ds.isEmpty=false:=by
   cases ds with
   | nil=>exact absurd (List.length_eq_zero_iff.mp h2.symm) hne
   | cons _ _=>rfl
  rw [he]
  exact⟨_,rfl,bK ⟨_,rfl,_,rfl,_,rfl,c,4,rfl,_,rfl,Ll,Lp,_,fr,H0,la,pa,n,rfl,nZ c 4,hfr,S2,hne,hn,k⟩⟩
 by_cases hne:la=[]
 case pos=>
  subst hne
  obtain rfl:ds=[]:=List.length_eq_zero_iff.mp h2
  exact⟨_,rfl,bW (bW (other S1))⟩
 have he:ds.isEmpty=false:=by
  cases ds with
  | nil=>exact absurd (List.length_eq_zero_iff.mp h2.symm) hne
  | cons _ _=>rfl
 rw [he]
 refine⟨_,rfl,bK ⟨_,rfl,_,_,rfl,rfl,by show(0:Int) <2;decide,rfl,_,rfl,dN (λ_=>?_) (λ_=>?_)⟩⟩
 ·exact⟨_,rfl,_,rfl,c,4,rfl,_,rfl,Ll,Lp,_,fr,H0,la,pa,n,rfl,nZ c 4,hfr,S1,hne,hn,λH' la' S'=>k H' la' pa S'⟩
 ·exact other S1
theorem qj.same {H H':Hp} {v:V} {x:dH} (h:qj H v x) (s:aM H H'):qj H' v x:=by
 obtain⟨q,f,e,h1,h2,h3,h4,h5,h6⟩:=h
 exact⟨q,f,e,s _ _ h1,s _ _ h2,h3,h4,h5,h6⟩
theorem zR.same {H H':Hp} {v:V} {x:dI} (h:zR H v x) (s:aM H H'):zR H' v x:=by
 obtain⟨q,a1,a2,a3,e,h1,h2,h3,h4,h5,h6,h7,h8,h9,h10,h11⟩:=h
 exact⟨q,a1,a2,a3,e,s _ _ h1,s _ _ h2,s _ _ h3,s _ _ h4,h5,h6,h7,h8,h9,h10,h11⟩
theorem lu.same {H H':Hp} {Ll Lp:Addr} {lx:List dH} {px:List dI} (h:lu H Ll Lp lx px) (s:aM H H'):lu H' Ll Lp lx px:=by
 obtain⟨⟨xs,h1,h2⟩,ys,h3,h4⟩:=h
 exact⟨⟨xs,s _ _ h1,h2.imp λ_ _ h=>h.same s⟩,ys,s _ _ h3,h4.imp λ_ _ h=>h.same s⟩
theorem dY.memR {α β:Type} {R:α->β->Prop}:∀{l:List α} {m:List β},dY R l m->∀b∈m,∃a,R a b
 | _,_,.nil,b,hb=>by cases hb
 | _,_,.cons h t,b,hb=>by
  rcases List.mem_cons.mp hb with rfl | hb
  ·exact⟨_,h⟩
  ·exact t.memR b hb
theorem lu.thl {H:Hp} {Ll Lp:Addr} {lx:List dH} {px:List dI} (h:lu H Ll Lp lx px):∀x∈lx,jx x.name:=λx hx=>by
 obtain⟨xs,_,a⟩:=h.ll
 obtain⟨v,q,f,_,_,_,t,_⟩:=a.memR x hx
 exact t
theorem lu.thp {H:Hp} {Ll Lp:Addr} {lx:List dH} {px:List dI} (h:lu H Ll Lp lx px):∀x∈px,jx x.name/\jx (.str x.kind):=λx hx=>by
 obtain⟨xs,_,a⟩:=h.lp
 obtain⟨v,q,a1,a2,a3,_,_,_,_,_,o,l,t,_⟩:=a.memR x hx
 exact⟨t,nC (by rw [o,decide_eq_true l];rfl)⟩
theorem Be {σ α ε:Type} {f:σ->α->Except ε σ} {I:σ->Prop} {E:ε->Prop}:∀{xs:List α},(∀s x s',x∈xs->I s->f s x=.ok s'->I s')->(∀s x e,x∈xs->I s->f s x=.error e->E e)->∀s,I s->(∀e,xs.foldlM f s=.error e->E e)/\∀s',xs.foldlM f s=.ok s'->I s'
 | [],_,_,s,hs=>⟨λe h=>(by cases h),λs' h=>(by cases h;exact hs)⟩
 | x:: r,h1,h2,s,hs=>by
  cases hf:f s x with
  | error e0=>
   have e1:(x:: r).foldlM f s=.error e0:=by rw [List.foldlM_cons,hf];rfl
   exact⟨λe h=>by rw [e1] at h;cases h;exact h2 s x _ (.head _) hs hf,λs' h=>by rw [e1] at h;cases h⟩
  | ok s1=>
   have e1:(x:: r).foldlM f s=r.foldlM f s1:=by rw [List.foldlM_cons,hf];rfl
   rw [e1]
   exact Be (λs x s' hx=>h1 s x s' (.tail _ hx)) (λs x e hx=>h2 s x e (.tail _ hx)) s1 (h1 s x s1 (.head _) hs hf)
theorem Bv {v:V} {kvs:List (Key×V)} {d:Nat×V} (h:freshD v kvs=some d):d.1<=7/\d.2=v:=by
 cases v with
 | str z=>
  have h:(if nameB z=true then(if (bx kvs (Sum.inr z)).isSome=true then some (1,V.str z) else none) else some (0,V.str z))=some d:=h
  split at h
  ·split at h
   ·cases h;exact⟨Nat.le_of_ble_eq_true rfl,rfl⟩
   ·cases h
  ·cases h;exact⟨Nat.le_of_ble_eq_true rfl,rfl⟩
 | _=>cases h;exact⟨Nat.le_of_ble_eq_true rfl,rfl⟩
theorem Ko {lx:List dH} {px:List dI} (hl:∀x∈lx,jx x.name) (hp:∀x∈px,jx x.name/\jx (.str x.kind)) {i:Nat} {v:V} (h:kj lx px=some (i,v)):i<=7/\jx v:=by
 have A:=Be (f:=f9) (I:=λrk=>∀q∈rk,jx (kV q.1)) (E:=λe=>e.1<=7/\jx e.2) (xs:=lx) (λs x s' hx hs hf=>by
  unfold f9 at hf
  split at hf
  ·cases hf
  rename_i e1
  split at hf
  ·cases hf
  cases hf
  obtain⟨z,ez,_,_⟩:=lY e1
  intro q hq
  rcases List.mem_append.mp hq with hq | hq
  ·exact hs q hq
  ·rw [List.mem_singleton] at hq
   subst hq
   have:=hl x hx
   rw [ez] at this ⊢
   exact this) (λs x e hx hs hf=>by
  unfold f9 at hf
  split at hf
  ·rename_i e1;cases hf;have:=Bv e1;exact⟨this.1,by rw [this.2];exact hl x hx⟩
  split at hf
  ·rename_i e2
   cases hf
   unfold iY at e2
   split at e2
   ·split at e2
    ·cases e2
    ·cases e2;exact⟨Nat.le_of_ble_eq_true rfl,hl x hx⟩
   ·cases e2;exact⟨Nat.le_of_ble_eq_true rfl,hl x hx⟩
  ·cases hf) [] (by simp)
 unfold kj at h
 cases hA:lx.foldlM f9 [] with
 | error d=>
  rw [hA] at h
  cases h
  exact A.1 _ hA
 | ok rk=>
  rw [hA] at h
  dsimp only at h
  have hk:=A.2 _ hA
  have B:=Be (f:=fW rk) (I:=λ_=>True) (E:=λe=>e.1<=7/\jx e.2) (xs:=px) (λ_ _ _ _ _ _=>trivial) (λs x e hx _ hf=>by
   unfold fW at hf
   split at hf
   ·cases hf;exact⟨Nat.le_of_ble_eq_true rfl,(hp x hx).2⟩
   split at hf
   ·rename_i e1;cases hf;have:=Bv e1;exact⟨this.1,by rw [this.2];exact(hp x hx).1⟩
   split at hf
   ·rename_i e2
    cases hf
    unfold oV at e2
    split at e2
    ·split at e2
     ·cases e2
     ·cases e2;exact⟨Nat.le_of_ble_eq_true rfl,(hp x hx).1⟩
    ·cases e2;exact⟨Nat.le_of_ble_eq_true rfl,(hp x hx).1⟩
   split at hf
   ·split at hf
    ·cases hf
    ·cases hf;exact⟨Nat.le_of_ble_eq_true rfl,(hp x hx).1⟩
   ·cases hf;exact⟨Nat.le_of_ble_eq_true rfl,(hp x hx).1⟩) ⟨[],[],[]⟩ trivial
  cases hB:px.foldlM (fW rk) ⟨[],[],[]⟩ with
  | error d=>
   rw [hB] at h
   cases h
   exact B.1 _ hB
  | ok s=>
   rw [hB] at h
   dsimp only at h
   cases hC:rn rk s.gk s.tk with
   | some q=>
    rw [hC] at h
    cases h
    exact⟨Nat.le_of_ble_eq_true rfl,hk q (List.mem_of_find?_eq_some hC)⟩
   | none=>
    rw [hC] at h
    dsimp only at h
    cases hD:looseD (px.map Mw) with
    | none=>rw [hD] at h;cases h
    | some p=>
     rw [hD] at h
     cases h
     refine⟨Nat.le_of_ble_eq_true rfl,?_⟩
     have hm:p∈px.map Mw:=by
      unfold looseD at hD
      split at hD
      ·cases hD
      ·exact List.mem_of_find?_eq_some hD
     obtain⟨x,hx,rfl⟩:=List.mem_map.mp hm
     show jx (.str (Wo x.name))
     have:=(hp x hx).1
     cases hv:x.name with
     | str z=>rw [hv] at this;exact this
     | _=>exact nC (show(PyData.strOk "" && decide (("" :Str).length<=100))=true by decide +kernel)
theorem qj.x {K:PySem.W.Frag} {H:Hp} {v:V} {x:dH} (h:qj H v x):Kl K H v x:=by
 obtain⟨q,f,e,h1,h2,h3,h4,h5,h6⟩:=h
 exact⟨q,f,e,h1,.inl (bH.of h2),h3.1,h4.1,λv hv=>(h5 v hv).1,by lia⟩
theorem zR.x {K:PySem.W.Frag} {H:Hp} {v:V} {x:dI} (h:zR H v x):O9 K H v x:=by
 obtain⟨q,a1,a2,a3,e,h1,h2,h3,h4,_,_,h5,h6,h7,_⟩:=h
 exact⟨q,a1,a2,a3,e,h1,.inl (bH.of h2),.inl (bH.of h3),.inl (bH.of h4),h5.1,λv hv=>(h6 v hv).1,by lia⟩
theorem lu.x {K:PySem.W.Frag} {H:Hp} {Ll Lp:Addr} {lx:List dH} {px:List dI} (h:lu H Ll Lp lx px):Ua K H Ll Lp lx px:=by
 obtain⟨⟨xs,h1,h2⟩,ys,h3,h4⟩:=h
 exact⟨⟨xs,bH.of h1,h2.imp λ_ _ h=>h.x⟩,ys,bH.of h3,h4.imp λ_ _ h=>h.x⟩
inductive km (K:PySem.W.Frag) (vs:List V) (H:Hp) (Q:VK) (E:XK):Prop where
 | mk:∀(Ll Lp:Addr) (lx:List dH) (px:List dI),vs=[.ref Ll,.ref Lp]->lu H Ll Lp lx px->((¬BX lx px->∀H' a,aM H H'->H' a=some (.tup [.str "TooMany",.non])->Q (.ref a) H'))->((BX lx px->∀H' y,aM H H'->o5 H' y (kj lx px)->Q y H'))->km K vs H Q E
theorem qR (T:Txt w K mg t):FO P w K mg base 8 t.tE ["_law_lanes", "_law_parts"] (km K):=by
 have sc:=T.jg.sc ["_law_lanes", "_law_parts", "_law_told_here", "e"]
 refine T.jg.F.ok sc ln (λ_ _ _ _ H vs Q E hr h=>?_)
 obtain⟨Ll,Lp,lx,px,rfl,hH,kT,k⟩:=h
 refine⟨_,(aA (sN sc 2 jC)
  (aA (bM (Q9 rfl rfl rfl (λ_ _ _ hx=>(az (aV (QZ (T.bT.M T.eZ) (qQ T) (hr.mono (by decide)) (by rfl) T.bT.m T.eZ.b hx (aa (pv 0) (aa (pv 1) ao aj) aj)))))
   (YG (K:=K) rfl (by rfl) T.wy T.JT (λ_=>(az (sN sc 2 (cB (aa aN (aa jC ao ak) ak)))))
   (Jj (K:=K) (i:=3) rfl sc.nd rfl rfl (by rfl) T.Aq T.JX (λ_=>(az (sN sc 2 (cB (aa aN (aa (n6 (K:=K) rfl (pv 3) rfl) ao aQ) ak)))))
   (Jj (K:=K) (i:=3) rfl sc.nd rfl rfl (by rfl) T.BP T.Ke (λ_=>(az (sN sc 2 (cB (aa aN (aa (n6 (K:=K) rfl (pv 3) rfl) ao aQ) ak)))))
   (Jj (K:=K) (i:=3) rfl sc.nd rfl rfl (by rfl) T.Ci T.Kp (λ_=>(az (sN sc 2 (cB (aa aN (aa (n6 (K:=K) rfl (pv 3) rfl) ao aQ) ak)))))
   (Jj (K:=K) (i:=3) rfl sc.nd rfl rfl (by rfl) T.oG T.DQ (λ_=>(az (sN sc 2 (cB (aa aN (aa (n6 (K:=K) rfl (pv 3) rfl) ao aQ) ak)))))
   (Jj (K:=K) (i:=3) rfl sc.nd rfl rfl (by rfl) T.yQ T.M8 (λ_=>(az (sN sc 2 (cB (aa aN (aa (n6 (K:=K) rfl (pv 3) rfl) ao aQ) ak)))))
   (Jj (K:=K) (i:=3) rfl sc.nd rfl rfl (by rfl) T.uw T.Ie (λ_=>(az (sN sc 2 (cB (aa aN (aa (n6 (K:=K) rfl (pv 3) rfl) ao aQ) ak)))))
   (Jj (K:=K) (i:=3) rfl sc.nd rfl rfl (by rfl) T.Li T.Rn (λ_=>(az (sN sc 2 (cB (aa aN (aa (n6 (K:=K) rfl (pv 3) rfl) ao aQ) ak)))))
   (Jj (K:=K) (i:=3) rfl sc.nd rfl rfl (by rfl) T.Jr T.Qg (λ_=>(az (sN sc 2 (cB (aa aN (aa (n6 (K:=K) rfl (pv 3) rfl) ao aQ) ak)))))
   Vs)))))))))))
  (az (aY (pv 2))))),?_⟩
 have hl:sizeLine=16777216:=sizeLine_eq
 refine⟨λσ H'=>∃y v3,σ=[some (.ref Ll),some (.ref Lp),some y,v3]/\Q y H',?_,?_⟩
 rotate_left
 ·rintro σ H' ⟨y,v3,rfl,q⟩
  exact⟨_,rfl,q⟩
 refine⟨λσ' cls d H'=>σ'=[some (.ref Ll),some (.ref Lp),some .non,none]/\aM H H'/\((cls=.ref t.dw/\¬BX lx px)∨(BX lx px/\∃i v dx,kj lx px=some (i,v)/\cls=.ref (Vn t i)/\d=some dx/\H' dx=some (.xd [(tK i,v)]))),?_,?_⟩
 ·rintro σ' cls d H' ⟨rfl,s1,h⟩
  rcases h with ⟨rfl,cn⟩ | ⟨cn,i,v,dx,e,rfl,rfl,hdx⟩
  ·exact .inl ⟨rfl,by show 2<=sizeLine;lia,λa na=>⟨.ref a,none,rfl,kT cn _ _ (s1.trans (aC na)) aq⟩⟩
  have fin:∀{y:Addr} {o:HO} {z:Str} {a:Addr},H' y=none->upd H' y o a=none->Uz[i]?=some z->Q (.ref a) (upd (upd H' y o) a (.tup [.str z,v])):=λny na ez=>k cn _ _ (s1.trans ((aC ny).trans (aC na))) (by rw [e];exact⟨_,_,rfl,ez,aq⟩)
  have hx:∀{y:Addr} {o:HO},H' y=none->upd H' y o dx=some (.xd [(tK i,v)]):=λny=>by rw [aD (aB hdx ny)];exact hdx
  have hi:=(Ko hH.thl hH.thp e).1
  clear e k kT
  rcases(show i=0∨i=1∨i=2∨i=3∨i=4∨i=5∨i=6∨i=7 by lia) with rfl | rfl | rfl | rfl | rfl | rfl | rfl | rfl
  ·exact .inr ⟨_,rfl,T.vW,.inl ⟨rfl,λy ny=>⟨_,rfl,y,t.cQ,dx,_,v,rfl,aq,hx ny,T.Ck,T.Cm,rfl,by show 2<=sizeLine;lia,λa na=>⟨.ref a,none,rfl,fin ny na rfl⟩⟩⟩⟩
  ·exact .inr ⟨_,rfl,T.vZ,.inr ⟨_,rfl,T.vO,.inl ⟨rfl,λy ny=>⟨_,rfl,y,t.cP,dx,_,v,rfl,aq,hx ny,T.Cv,T.Ao,rfl,by show 2<=sizeLine;lia,λa na=>⟨.ref a,none,rfl,fin ny na rfl⟩⟩⟩⟩⟩
  ·exact .inr ⟨_,rfl,T.vG,.inr ⟨_,rfl,T.wg,.inr ⟨_,rfl,T.wu,.inl ⟨rfl,λy ny=>⟨_,rfl,y,t.cL,dx,_,v,rfl,aq,hx ny,T.Di,T.BL,rfl,by show 2<=sizeLine;lia,λa na=>⟨.ref a,none,rfl,fin ny na rfl⟩⟩⟩⟩⟩⟩
  ·exact .inr ⟨_,rfl,T.rG,.inr ⟨_,rfl,T.rJ,.inr ⟨_,rfl,T.rE,.inr ⟨_,rfl,T.rF,.inl ⟨rfl,λy ny=>⟨_,rfl,y,t.bO,dx,_,v,rfl,aq,hx ny,T.u5,T.vd,rfl,by show 2<=sizeLine;lia,λa na=>⟨.ref a,none,rfl,fin ny na rfl⟩⟩⟩⟩⟩⟩⟩
  ·exact .inr ⟨_,rfl,T.wB,.inr ⟨_,rfl,T.yc,.inr ⟨_,rfl,T.xU,.inr ⟨_,rfl,T.yg,.inr ⟨_,rfl,T.tG,.inl ⟨rfl,λy ny=>⟨_,rfl,y,t.dD,dx,_,v,rfl,aq,hx ny,T.Ew,T.Er,rfl,by show 2<=sizeLine;lia,λa na=>⟨.ref a,none,rfl,fin ny na rfl⟩⟩⟩⟩⟩⟩⟩⟩
  ·exact .inr ⟨_,rfl,T.uY,.inr ⟨_,rfl,T.uO,.inr ⟨_,rfl,T.uU,.inr ⟨_,rfl,T.uW,.inr ⟨_,rfl,T.qD,.inr ⟨_,rfl,T.vU,.inl ⟨rfl,λy ny=>⟨_,rfl,y,t.bZ,dx,_,v,rfl,aq,hx ny,T.zW,T.zP,rfl,by show 2<=sizeLine;lia,λa na=>⟨.ref a,none,rfl,fin ny na rfl⟩⟩⟩⟩⟩⟩⟩⟩⟩
  ·exact .inr ⟨_,rfl,T.z7,.inr ⟨_,rfl,T.z8,.inr ⟨_,rfl,T.Aa,.inr ⟨_,rfl,T.z9,.inr ⟨_,rfl,T.vN,.inr ⟨_,rfl,T.Bd,.inr ⟨_,rfl,T.yH,.inl ⟨rfl,λy ny=>⟨_,rfl,y,t.fY,dx,_,v,rfl,aq,hx ny,T.Mj,T.Mm,rfl,by show 2<=sizeLine;lia,λa na=>⟨.ref a,none,rfl,fin ny na rfl⟩⟩⟩⟩⟩⟩⟩⟩⟩⟩
  ·exact .inr ⟨_,rfl,T.yl,.inr ⟨_,rfl,T.yJ,.inr ⟨_,rfl,T.yo,.inr ⟨_,rfl,T.yS,.inr ⟨_,rfl,T.uT,.inr ⟨_,rfl,T.Ab,.inr ⟨_,rfl,T.ye,.inr ⟨_,rfl,T.Dz,.inl ⟨rfl,λy ny=>⟨_,rfl,y,t.dR,dx,_,v,rfl,aq,hx ny,T.Ip,T.Jt,rfl,by show 2<=sizeLine;lia,λa na=>⟨.ref a,none,rfl,fin ny na rfl⟩⟩⟩⟩⟩⟩⟩⟩⟩⟩⟩
 ·refine⟨_,rfl,_,rfl,λx dx nx ndx ne=>?_⟩
  have s1:aM H (upd (upd H dx (.own x)) x (.ins t.cZ dx [])):=(aC ndx).trans (aC (by rw [aD (Ne.symm ne)];exact nx))
  have bt:∀{H':Hp},iI x (upd (upd H dx (.own x)) x (.ins t.cZ dx [])) H'->aM H H':=λb c u e=>b c u (aB e nx) (s1 _ _ e)
  refine⟨x,dx,Ll,Lp,lx,px,rfl,aq,(hH.same s1).x,λcn dn ls ps _ _ _ H' b _=>⟨rfl,.non,none,rfl,k cn _ _ (bt b) (by rw [dn];rfl)⟩,λcn H' b=>⟨rfl,bt b,.inl ⟨rfl,cn⟩⟩,λcn i v e dx' H' b ed=>⟨rfl,bt b,.inr ⟨cn,i,v,dx',e,rfl,rfl,ed⟩⟩⟩
theorem dY.mapR {α β γ:Type} {R:α->γ->Prop} {R':α->β->Prop} {f:β->γ} (h:∀a b,R a (f b)->R' a b):∀{l:List α} {m:List β},dY R l (m.map f)->dY R' l m
 | [],[],_=>.nil
 | _:: _,_:: _,.cons h1 t=>.cons (h _ _ h1) (t.mapR h)
theorem lu.net {H:Hp} {Ll Lp:Addr} {ls:List bB} {ps:List PD} (h:lu H Ll Lp (ls.map Kc) (ps.map lR)):El H Ll Lp ls ps:=by
 obtain⟨⟨xs,h1,h2⟩,ys,h3,h4⟩:=h
 refine⟨⟨xs,h1,h2.mapR λv l h=>?_⟩,ys,h3,h4.mapR λv p h=>?_⟩
 ·obtain⟨q,f,e,e1,e2,_⟩:=h
  exact⟨q,f,e,e1,e2⟩
 ·obtain⟨q,a1,a2,a3,e,e1,e2,e3,e4,_⟩:=h
  have eI:(lR p).ins.map kO=p.ins.map V.str:=by unfold lR;rw [List.map_map];rfl
  have eO:(lR p).outs.map kO=p.outs.map V.str:=by unfold lR;rw [List.map_map];rfl
  rw [eI] at e3
  rw [eO] at e4
  exact⟨q,a1,a2,a3,e,e1,e2,e3,e4⟩
inductive yd (K:PySem.W.Frag) (vs:List V) (H:Hp) (Q:VK) (E:XK):Prop where
 | mk:∀(L P:Addr) (ls:List bB) (ps:List PD),vs=[.ref L,.ref P]->El H L P ls ps->Oi ls ps->(∀T a b H',aM H H'->vM K H' T a b ls ps->Q (.ref T) H')->yd K vs H Q E
noncomputable abbrev sY:List Str:=["_law_lanes", "_law_parts", "_law_first", "_law_second"]
theorem G6 (T:Txt w K mg t):FO P w K mg base 1 t.zu ["_law_lanes", "_law_parts"] (yd K):=by
 have sc:=T.ut.sc sY
 refine T.ut.F.ok sc ln (λ_ _ _ _ H vs Q E hr h=>?_)
 obtain⟨L,P,ls,ps,rfl,N,hF,k⟩:=h
 refine⟨_,(aA (xT (i:=2) ["_law_name", "_law_room", "_law_values"] [] sY (bw (top 75)) rfl sc.nd rfl (dB (pv 0)) (λ_ _ _ _ _=>Am (K:=K) (n:=3) rfl rfl (bR (dX (i:=0) (show(["_law_name", "_law_room", "_law_values"]:List Str).Nodup by decide +kernel) rfl (Or.inl rfl) (.inr rfl)) (bR (dX (i:=1) (show(["_law_name", "_law_room", "_law_values"]:List Str).Nodup by decide +kernel) rfl (Or.inl rfl) (.inr rfl)) (bR (dX (i:=2) (show(["_law_name", "_law_room", "_law_values"]:List Str).Nodup by decide +kernel) rfl (Or.inl rfl) (.inr rfl)) n8)))) (λ_ _ _ _ _=>ik) (λ_ _ _ _ _=>(cB (aa (pv 0) (aa (pv 1) (aa (bV (qL (K:=K) rfl) (by rfl) T.nM j8 (aa (pv 2) ao aj)) ao bc) aj) aj))))
  (aA (xT (i:=3) ["_law_kind", "_law_name", "_law_numbers", "_law_ins", "_law_outs"] [] sY (bw (top 75)) rfl sc.nd rfl (dB (pv 1)) (λ_ _ _ _ _=>Am (K:=K) (n:=5) rfl rfl (bR (dX (i:=0) (show(["_law_kind", "_law_name", "_law_numbers", "_law_ins", "_law_outs"]:List Str).Nodup by decide +kernel) rfl (Or.inl rfl) (.inr rfl)) (bR (dX (i:=1) (show(["_law_kind", "_law_name", "_law_numbers", "_law_ins", "_law_outs"]:List Str).Nodup by decide +kernel) rfl (Or.inl rfl) (.inr rfl)) (bR (dX (i:=2) (show(["_law_kind", "_law_name", "_law_numbers", "_law_ins", "_law_outs"]:List Str).Nodup by decide +kernel) rfl (Or.inl rfl) (.inr rfl)) (bR (dX (i:=3) (show(["_law_kind", "_law_name", "_law_numbers", "_law_ins", "_law_outs"]:List Str).Nodup by decide +kernel) rfl (Or.inl rfl) (.inr rfl)) (bR (dX (i:=4) (show(["_law_kind", "_law_name", "_law_numbers", "_law_ins", "_law_outs"]:List Str).Nodup by decide +kernel) rfl (Or.inl rfl) (.inr rfl)) n8)))))) (λ_ _ _ _ _=>ik) (λ_ _ _ _ _=>(cB (aa (pv 0) (aa (pv 1) (aa (bV (qL (K:=K) rfl) (by rfl) T.nM j8 (aa (pv 2) ao aj)) (aa (bV (qL (K:=K) rfl) (by rfl) T.nM j8 (aa (pv 3) ao aj)) (aa (bV (qL (K:=K) rfl) (by rfl) T.nM j8 (aa (pv 4) ao aj)) ao bc) bc) bc) aj) aj))))
  (az (aY (cB (aa (pv 2) (aa (pv 3) ao aj) aj)))))),?_⟩
 have hl:sizeLine=16777216:=sizeLine_eq
 have l24:=hF.l24
 have p16:=hF.p16
 obtain⟨⟨xs,eL,aL⟩,⟨ys,eP,aP⟩⟩:=N
 have lx:=aL.length
 have ly:=aP.length
 refine⟨_,rfl,L,rfl,⟨_,bH.of eL⟩,?_⟩
 refine qb (K:=K) (a:=L) (xs:=xs) (λj zs H'=>aM H H'/\zs.length<=j/\dY (vB K H') zs (ls.take j)) (by lia) ⟨aM.refl _,Nat.le_refl _,.nil⟩ (λj zs H' h=>h.2.1) (λj zs H' _ h=>h.1.seq (bH.of eL)) ?_ ?_
 ·rintro j x zs H' hx ⟨s,hz,hA⟩
  obtain⟨l,hlj,q,f,rfl,hq,hf⟩:=aL.get hx
  refine⟨q,_,rfl,d7.of (s _ _ hq),rfl,_,_,rfl,_,_,rfl,_,_,rfl,rfl,rfl,yes ?_⟩
  refine⟨_,rfl,_,rfl,_,rfl,f,_,rfl,.inl (bH.of (s _ _ hf)),λH2 u s2 t2=>⟨by show 3<=sizeLine;lia,λr nr=>?_⟩⟩
  have su:=aC (o:=.tup [.str l.name,.int l.room,.ref u]) nr
  refine⟨s.trans (s2.trans su),by rw [lP,List.length_singleton];lia,?_⟩
  rw [List.take_succ,hlj,Option.toList_some]
  exact(hA.imp λ_ _ h=>h.same (s2.trans su)).app (.cons ⟨r,u,rfl,aq,su.seqT t2⟩ .nil)
 rintro zs H1 ⟨s1,hz,hA⟩ D nD
 rw [lx,List.take_length] at hA
 refine Hh nD λH2 sD eD=>?_
 have s2:=s1.trans sD
 have hA2:=hA.imp λ_ _ h=>vB.same h sD
 refine⟨_,rfl,P,rfl,⟨_,bH.of (s2 _ _ eP)⟩,?_⟩
 refine qb (K:=K) (a:=P) (xs:=ys) (λj zs H'=>aM H2 H'/\zs.length<=j/\dY (Hw K H') zs (ps.take j)) (by lia) ⟨aM.refl _,Nat.le_refl _,.nil⟩ (λj zs H' h=>h.2.1) (λj zs H' _ h=>h.1.seq (bH.of (s2 _ _ eP))) ?_ ?_
 ·rintro j x zs H' hx ⟨s,hz,hA⟩
  obtain⟨p,hpj,q,a1,a2,a3,rfl,hq,q1,q2,q3⟩:=aP.get hx
  have ss:=s2.trans s
  refine⟨q,_,rfl,d7.of (ss _ _ hq),rfl,_,_,rfl,_,_,rfl,_,_,rfl,_,_,rfl,_,_,rfl,rfl,rfl,yes ?_⟩
  refine⟨_,rfl,_,rfl,_,rfl,a1,_,rfl,.inl (bH.of (ss _ _ q1)),λH3 u1 s3 t1=>⟨_,rfl,a2,_,rfl,.inl (bH.of (s3 _ _ (ss _ _ q2))),λH4 u2 s4 t2=>⟨_,rfl,a3,_,rfl,.inl (bH.of (s4 _ _ (s3 _ _ (ss _ _ q3)))),λH5 u3 s5 t3=>⟨by show 5<=sizeLine;lia,λr nr=>?_⟩⟩⟩⟩
  have su:=aC (o:=.tup [.str (cu p.kind),.str p.name,.ref u1,.ref u2,.ref u3]) nr
  refine⟨s.trans (s3.trans (s4.trans (s5.trans su))),by rw [lP,List.length_singleton];lia,?_⟩
  rw [List.take_succ,hpj,Option.toList_some]
  exact(hA.imp λ_ _ h=>h.same (s3.trans (s4.trans (s5.trans su)))).app (.cons ⟨r,u1,u2,u3,rfl,aq,(s4.trans (s5.trans su)).seqT t1,(s5.trans su).seqT t2,su.seqT t3⟩ .nil)
 rintro ws H3 ⟨s3,hw,hB⟩ D2 nD2
 rw [ly,List.take_length] at hB
 have sE:=aC (o:=.lst ws) nD2
 refine⟨_,rfl,_,rfl,by show 2<=sizeLine;lia,λT' nT=>?_⟩
 have sT:=aC (o:=.tup [.ref D,.ref D2]) nT
 have sz:=s3.trans (sE.trans sT)
 exact k T' D D2 _ (s2.trans sz) ⟨aq,⟨zs,sz _ _ eD,hA2.imp λ_ _ h=>vB.same h sz⟩,⟨ws,sT _ _ aq,hB.imp λ_ _ h=>Hw.same h (sE.trans sT)⟩⟩
theorem Ai {z:Str} (h:nameB z=true):Al (.str z):=by
 refine um ?_
 rw [Aj h,Bool.true_and]
 refine decide_eq_true ?_
 unfold nameB at h
 cases e:z.cps.toList with
 | nil=>rw [e] at h;cases h
 | cons c r=>
  rw [e] at h
  have h:(decide (r.length<=7) && (low c && (c:: r).all λd=>low d || rM d))=true:=h
  rw [Bool.and_eq_true] at h
  have:=of_decide_eq_true h.1
  rw [<-iW,e,List.length_cons]
  lia
theorem Hf:∀{xs:List V},(∀v∈xs,Al v)->∃zs:List (Option Key),xs=zs.map kO
 | [],_=>⟨[],rfl⟩
 | v:: r,h=>by
  obtain⟨zs,e⟩:=Hf (xs:=r) λu hu=>h u (.tail _ hu)
  obtain⟨_,o,rfl⟩:=h v (.head _)
  exact⟨o:: zs,by rw [e];rfl⟩
noncomputable def KN (lx:List dH) (px:List dI) (H:Hp) (y:V):Prop:=(¬BX lx px/\∃a,y=.ref a/\H a=some (.tup [.str "TooMany",.non]))∨(BX lx px/\o5 H y (kj lx px))
noncomputable def X7:Option (Nat×V)->PyData
 | none=>.none
 | some p=>.tuple [.str ((Uz[p.1]?).getD ""),oM p.2]
noncomputable def RM (lx:List dH) (px:List dI):PyData:=@ite _ (BX lx px) (Classical.propDecidable _) (X7 (kj lx px)) (.tuple [.str "TooMany",.none])
theorem Vb:∀i,i<=7->PyData.strOk ((Uz[i]?).getD "")=true:=by decide +kernel
theorem KN.same {lx:List dH} {px:List dI} {H H':Hp} {y:V} (h:KN lx px H y) (s:aM H H'):KN lx px H' y:=by
 rcases h with ⟨c,a,e,h⟩ | ⟨c,h⟩
 ·exact .inl ⟨c,a,e,s _ _ h⟩
 ·exact .inr ⟨c,h.same s⟩
theorem KN.dt {K:PySem.W.Frag} {lx:List dH} {px:List dI} {H:Hp} {y:V} (h:KN lx px H y) (hl:∀x∈lx,jx x.name) (hp:∀x∈px,jx x.name/\jx (.str x.kind)):Dt K H y (RM lx px):=by
 unfold RM
 rcases h with ⟨c,a,rfl,h⟩ | ⟨c,h⟩
 ·rw [if_neg c]
  exact .tuple (d7.of h) (.cons (.str _) (.cons .non .nil))
 ·rw [if_pos c]
  cases e:kj lx px with
  | none=>
   rw [e] at h
   obtain rfl:y=.non:=h
   exact .non
  | some p=>
   rw [e] at h
   obtain⟨a,z,rfl,ez,ha⟩:=h
   show Dt K H (.ref a) (.tuple [.str ((Uz[p.1]?).getD ""),oM p.2])
   rw [ez]
   exact .tuple (d7.of ha) (.cons (.str _) (.cons (Ko hl hp e).2.dt .nil))
theorem VD {lx:List dH} {px:List dI} (hl:∀x∈lx,jx x.name) (hp:∀x∈px,jx x.name/\jx (.str x.kind)):Gd 2 (RM lx px):=by
 unfold RM
 by_cases c:BX lx px
 ·rw [if_pos c]
  cases e:kj lx px with
  | none=>exact .non 2
  | some p=>
   have h:=Ko hl hp e
   refine Gd.tuple λd hd=>?_
   simp only [List.mem_cons,List.not_mem_nil,or_false] at hd
   rcases hd with rfl | rfl
   ·exact .str 1 (Vb _ h.1)
   ·exact h.2.gd 1
 ·rw [if_neg c]
  refine Gd.tuple λd hd=>?_
  simp only [List.mem_cons,List.not_mem_nil,or_false] at hd
  rcases hd with rfl | rfl
  ·exact .str 1 (by decide +kernel)
  ·exact .non 1
theorem Oc {K:PySem.W.Frag} {H:Hp} {O1 O2:Addr} {lx:List dH} {px:List dI} {Q:VK} {E:XK} (hH:lu H O1 O2 lx px) (k:∀H' y,aM H H'->KN lx px H' y->Q y H'):rQ K [.ref O1,.ref O2] H Q E:=
 ⟨O1,O2,lx,px,rfl,hH,λcn H' a s e=>k _ _ s (.inl ⟨cn,a,rfl,e⟩),λcn H' y s hD=>k _ _ s (.inr ⟨cn,hD⟩)⟩
theorem xO {K:PySem.W.Frag} {H:Hp} {O1 O2:Addr} {lx:List dH} {px:List dI} {Q:VK} {E:XK} (hH:lu H O1 O2 lx px) (k:∀H' y,aM H H'->KN lx px H' y->Q y H'):km K [.ref O1,.ref O2] H Q E:=
 ⟨O1,O2,lx,px,rfl,hH,λcn H' a s e=>k _ _ s (.inl ⟨cn,a,rfl,e⟩),λcn H' y s hD=>k _ _ s (.inr ⟨cn,hD⟩)⟩
theorem Yu:∀i,i <11->cN i<=40:=by decide +kernel
theorem Vi:∀i,i <11->(PyData.strOk (cu i) && decide ((cu i).length<=100))=true:=by decide +kernel
theorem Oi.inN' {ls:List bB} {ps:List PD} (h:Oi ls ps) {p:PD} (hp:p∈ps):(∀x∈p.ins,nameB x=true)/\∀x∈p.outs,nameB x=true:=by
 have nm:∀x∈ls.map (·.name),nameB x=true:=λx hx=>by
  obtain⟨l,hl,rfl⟩:=List.mem_map.mp hx
  exact h.lnm l hl
 exact⟨λx hx=>nm x (h.whole.ins.mem_iff.mp (List.mem_flatMap.mpr ⟨p,hp,hx⟩)),λx hx=>nm x (h.whole.outs.mem_iff.mp (List.mem_flatMap.mpr ⟨p,hp,hx⟩))⟩
noncomputable def u9 (E:List Addr) (n:Nat) (H:Hp) (a:Addr):Prop:=a∉E/\∃nm rm f xs,H a=some (.lst [nm,rm,.ref f])/\Al nm/\jx rm/\f∉E/\H f=some (.lst xs)/\xs.length<=n/\∀v∈xs,jx v
noncomputable def xV (E:List Addr) (n:Nat) (H:Hp) (a:Addr):Prop:=a∉E/\∃kd nm f1 f2 f3 ns is os,H a=some (.lst [.str kd,nm,.ref f1,.ref f2,.ref f3])/\jx (.str kd)/\jx nm/\(f1∉E/\f2∉E/\f3∉E)/\(H f1=some (.lst ns)/\H f2=some (.lst is)/\H f3=some (.lst os))/\(ns.length<=n/\is.length<=n/\os.length<=n)/\(∀v∈ns,jx v)/\(∀v∈is,Al v)/\∀v∈os,Al v
section
variable {E:List Addr} {n:Nat} {H H':Hp} {a x Ll Lp:Addr}
theorem u9.same (h:u9 E n H a) (s:aM H H'):u9 E n H' a:=by
 obtain⟨h0,nm,rm,f,xs,e,h1,h2,h3,h4,h5,h6⟩:=h
 exact⟨h0,nm,rm,f,xs,s _ _ e,h1,h2,h3,s _ _ h4,h5,h6⟩
theorem u9.more (h:u9 E n H a) (nx:H x=none):u9 (x:: E) n H a:=by
 obtain⟨h0,nm,rm,f,xs,e,h1,h2,h3,h4,h5,h6⟩:=h
 exact⟨λz=>(List.mem_cons.mp z).elim (aB e nx) h0,nm,rm,f,xs,e,h1,h2,λz=>(List.mem_cons.mp z).elim (aB h4 nx) h3,h4,h5,h6⟩
theorem xV.same (h:xV E n H a) (s:aM H H'):xV E n H' a:=by
 obtain⟨h0,kd,nm,f1,f2,f3,ns,is,os,e,h1,h2,h3,⟨g1,g2,g3⟩,h5⟩:=h
 exact⟨h0,kd,nm,f1,f2,f3,ns,is,os,s _ _ e,h1,h2,h3,⟨s _ _ g1,s _ _ g2,s _ _ g3⟩,h5⟩
theorem xV.more (h:xV E n H a) (nx:H x=none):xV (x:: E) n H a:=by
 obtain⟨h0,kd,nm,f1,f2,f3,ns,is,os,e,h1,h2,⟨i1,i2,i3⟩,⟨g1,g2,g3⟩,h5⟩:=h
 exact⟨λz=>(List.mem_cons.mp z).elim (aB e nx) h0,kd,nm,f1,f2,f3,ns,is,os,e,h1,h2,⟨λz=>(List.mem_cons.mp z).elim (aB g1 nx) i1,λz=>(List.mem_cons.mp z).elim (aB g2 nx) i2,λz=>(List.mem_cons.mp z).elim (aB g3 nx) i3⟩,⟨g1,g2,g3⟩,h5⟩
theorem u9.r (h:u9 [Lp,Ll] n H a):(a≠Ll/\a≠Lp)/\gW Ll Lp n H a:=by
 obtain⟨h0,nm,rm,f,xs,e,h1,h2,h3,h4,h5,h6⟩:=h
 simp only [List.mem_cons,List.not_mem_nil,or_false,not_or] at h0 h3
 exact⟨⟨h0.2,h0.1⟩,nm,rm,f,xs,e,h1,h2,h4,h3.2,h3.1,h5,h6⟩
theorem xV.r (h:xV [Lp,Ll] n H a):(a≠Ll/\a≠Lp)/\gh Ll Lp n H a:=by
 obtain⟨h0,kd,nm,f1,f2,f3,ns,is,os,e,h1,h2,⟨i1,i2,i3⟩,⟨g1,g2,g3⟩,⟨l1,l2,l3⟩,v1,v2,v3⟩:=h
 simp only [List.mem_cons,List.not_mem_nil,or_false,not_or] at h0 i1 i2 i3
 exact⟨⟨h0.2,h0.1⟩,kd,nm,f1,f2,f3,ns,is,os,e,h1,h2,⟨g1,i1.2,i1.1,l1,v1⟩,⟨g2,i2.2,i2.1,l2,λv hv=>(v2 v hv).1⟩,⟨g3,i3.2,i3.1,l3,λv hv=>(v3 v hv).1⟩,v2,v3⟩
end
inductive Bk (K:PySem.W.Frag) (vs:List V) (H:Hp) (Q:VK) (E:XK):Prop where
 | mk:∀(a:Addr) (ns:List Int),vs=[.ref a]->bH K H a (ns.map V.int)->ns.length<=63->(∀H',Q (.bl true) H')->Bk K vs H Q E
noncomputable abbrev Jz:List Str:=["_law_script", "_law_cell_here", "_law_some", "_law_others", "_law_lanes", "_law_parts", "_law_k", "_law_one", "_law_other", "_law_due_here"]
theorem Uy (T:Txt w K mg t):FO P w K mg base 9 t.SX ["_law_script"] (Bk K):=by
 have sc:=T.Ma.sc Jz
 refine T.Ma.F.ok sc ln (λ_ _ _ _ H vs Q E hr h=>?_)
 obtain⟨a,ns,rfl,hS,hlen,k⟩:=h
 refine⟨_,(aA (sN sc 1 (dF (jw T) T.gm hr (aa (pv 0) (aa au ao ak) aj)))
  (aA (jn (dF (JC T) T.vH hr (aa (pv 0) (aa au (aa (aK dG au (aK bJ (pv 1) au)) (aa jA ao ak) bG) ak) aj)) (Gq rfl (bR (gN sc 2) (bR (gN sc 3) n8))))
  (aA (xT (i:=4) ["_law_name", "_law_room", "_law_first"] [] Jz (bw (top 84)) rfl sc.nd rfl (dB (pv 2)) (λ_ _ _ _ _=>Am (K:=K) (n:=3) rfl rfl (bR (dX (i:=0) (show(["_law_name", "_law_room", "_law_first"]:List Str).Nodup by decide +kernel) rfl (Or.inl rfl) (.inr rfl)) (bR (dX (i:=1) (show(["_law_name", "_law_room", "_law_first"]:List Str).Nodup by decide +kernel) rfl (Or.inl rfl) (.inr rfl)) (bR (dX (i:=2) (show(["_law_name", "_law_room", "_law_first"]:List Str).Nodup by decide +kernel) rfl (Or.inl rfl) (.inr rfl)) n8)))) (λ_ _ _ _ _=>ik) (λ_ _ _ _ _=>(aW (aa (pv 0) (aa (pv 1) (aa (bV (ql (K:=K) rfl) (by rfl) T.v9 qt (aa (pv 2) ao aj)) ao bc) aj) aj))))
  (aA (xT (i:=5) ["_law_kind", "_law_name", "_law_numbers", "_law_ins", "_law_outs"] [] Jz (bw (top 84)) rfl sc.nd rfl (dB (pv 3)) (λ_ _ _ _ _=>Am (K:=K) (n:=5) rfl rfl (bR (dX (i:=0) (show(["_law_kind", "_law_name", "_law_numbers", "_law_ins", "_law_outs"]:List Str).Nodup by decide +kernel) rfl (Or.inl rfl) (.inr rfl)) (bR (dX (i:=1) (show(["_law_kind", "_law_name", "_law_numbers", "_law_ins", "_law_outs"]:List Str).Nodup by decide +kernel) rfl (Or.inl rfl) (.inr rfl)) (bR (dX (i:=2) (show(["_law_kind", "_law_name", "_law_numbers", "_law_ins", "_law_outs"]:List Str).Nodup by decide +kernel) rfl (Or.inl rfl) (.inr rfl)) (bR (dX (i:=3) (show(["_law_kind", "_law_name", "_law_numbers", "_law_ins", "_law_outs"]:List Str).Nodup by decide +kernel) rfl (Or.inl rfl) (.inr rfl)) (bR (dX (i:=4) (show(["_law_kind", "_law_name", "_law_numbers", "_law_ins", "_law_outs"]:List Str).Nodup by decide +kernel) rfl (Or.inl rfl) (.inr rfl)) n8)))))) (λ_ _ _ _ _=>ik) (λ_ _ _ _ _=>(aW (aa (pv 0) (aa (pv 1) (aa (bV (ql (K:=K) rfl) (by rfl) T.v9 qt (aa (pv 2) ao aj)) (aa (bV (ql (K:=K) rfl) (by rfl) T.v9 qt (aa (pv 3) ao aj)) (aa (bV (ql (K:=K) rfl) (by rfl) T.v9 qt (aa (pv 4) ao aj)) ao bc) bc) bc) aj) aj))))
  (aA (bM (bD (aJ cX (aK bJ (aK cY (pv 1) au) au) au (bu _))
   (az (aV (yj PySem.F.plainAttrs_list PySem.F.slot_list_clear PySem.F.type_list_clear Jv (pv 4))))
   bz))
  (aA (bM (bD (aJ cX (aK bJ (aK cY (pv 1) au) au) au (bu _))
   (az (aV (yj PySem.F.plainAttrs_list PySem.F.slot_list_clear PySem.F.type_list_clear Jv (pv 5))))
   bz))
  (aA (fM PassesOwn.never rfl (gQ rfl T.lQ (aa (aK bJ (aK cY (pv 1) au) au) ao bG)) (gN sc 6)
   (az (aV (dF (DR T) T.pU hr (aa (pv 4) (aa (pv 5) (aa (dF (jw T) T.gm hr (aa (pv 0) (aa (aK dG au (pv 6)) ao bG) aj)) (aa (aK cJ (aK cJ aN (bV fK (by rfl) T.xg qN (aa (pv 6) ao aj))) aN) ao bG) bc) aj) aj)))))
  (aA (j4 (i:=7) [] Jz (bw (top 84)) rfl sc.nd rfl (dB (pv 4)) (λ_ _ _ _ _=>ik) (λ_ _ _ _ _=>(cB (aa (aZ (jR (K:=K) rfl) (pv 0) au (λ_ _=>rfl)) (aa (aZ (jR (K:=K) rfl) (pv 0) au (λ_ _=>rfl)) (aa (aZ (jR (K:=K) rfl) (pv 0) au (λ_ _=>rfl)) ao aF) aF) aF))))
  (aA (j4 (i:=8) [] Jz (bw (top 84)) rfl sc.nd rfl (dB (pv 5)) (λ_ _ _ _ _=>ik) (λ_ _ _ _ _=>(cB (aa (aZ (jR (K:=K) rfl) (pv 0) au (λ_ _=>rfl)) (aa (aZ (jR (K:=K) rfl) (pv 0) au (λ_ _=>rfl)) (aa (aZ (jR (K:=K) rfl) (pv 0) au (λ_ _=>rfl)) (aa (aZ (jR (K:=K) rfl) (pv 0) au (λ_ _=>rfl)) (aa (aZ (jR (K:=K) rfl) (pv 0) au (λ_ _=>rfl)) ao aF) aF) aF) aF) aF))))
  (aA (sN sc 9 (dF (Ii T) T.vL hr (aa (pv 7) (aa (pv 8) ao aj) aj)))
  (aA (bD (PW.pt (j7 (aJ (vX hr.units) (dF (qR T) T.jg hr (aa (pv 7) (aa (pv 8) ao aj) aj)) (pv 9) (bu _)) (jr (aJ (vX hr.units) (dF (qR T) T.jg hr (aa (pv 7) (aa (pv 8) ao aj) aj)) (pv 9) (bu _)))))
   (az (aY jA))
   bz)
  (az (aY (Ti (GD (uF (pv 9))) (sU (wM (GF hr.units) (pm0 (iz (T.bT.M T.eZ) (qQ T) (hr.mono (by decide)) (by rfl) T.bT.m T.eZ.b .nil U5 (aa (pv 7) (aa (pv 8) ao aj) aj)) T.bT T.bT.me.2.1 (HX T) T.vJ hr) (dF (G6 T) T.ut hr (aa (pv 7) (aa (pv 8) ao aj) aj)) (bu _))))))))))))))))),?_⟩
 have hl:sizeLine=16777216:=sizeLine_eq
 refine⟨_,rfl,a,ns,0,rfl,hS,?_⟩
 generalize j5 ns 0=c
 have c0:=Int.emod_nonneg c (show(4:Int)≠0 by decide)
 have c1:=Int.emod_lt_of_pos c (show(0:Int) <4 by decide)
 obtain⟨st,hst,hst4⟩:∃st:Nat,1+c % 4=(st:Int)/\st<=4:=⟨(1+c % 4).toNat,by lia,by lia⟩
 refine⟨_,rfl,_,rfl,_,_,rfl,rfl,by show(0:Int) <4;decide,_,_,rfl,rfl,a,ns,4,st,true,by rw [hst];rfl,hS,hst4,λT' L P ls ps H1 s1 nL nP nLP eT A D=>?_⟩
 refine⟨T',_,rfl,d7.of eT,rfl,_,_,rfl,_,_,rfl,rfl,?_⟩
 have hF:=D.fit
 have l17:=D.l17
 have p16:=hF.p16
 have hS1:=s1.seq hS
 obtain⟨⟨xs,eL,aL⟩,⟨ys,eP,aP⟩⟩:=id A
 have lxl:=aL.length
 have lyl:=aP.length
 refine⟨_,rfl,L,rfl,⟨_,bH.of eL⟩,?_⟩
 refine qb (K:=K) (a:=L) (xs:=xs) (λj zs H'=>aM H1 H'/\∃la:List Addr,zs=la.map V.ref/\la.length=j/\∀b∈la,H1 b=none/\u9 [] 40 H' b) (by lia) ⟨aM.refl _,[],rfl,rfl,by simp⟩ (λj zs H' h=>by obtain⟨_,la,rfl,h2,_⟩:=h;rw [lM];lia) (λj zs H' _ h=>h.1.seq (bH.of eL)) ?_ ?_
 ·rintro j x zs H' hx ⟨s2,la,rfl,lla,hla⟩
  obtain⟨l,hlj,q,f,rfl,hq,hf⟩:=aL.get hx
  have hlm:=List.mem_of_getElem? hlj
  have lok:=D.lok l hlm
  have lnm:=hF.lnm l hlm
  refine⟨q,_,rfl,d7.of (s2 _ _ hq),rfl,_,_,rfl,_,_,rfl,_,_,rfl,rfl,rfl,yes ?_⟩
  refine⟨_,rfl,_,rfl,_,rfl,f,_,rfl,.inl (bH.of (s2 _ _ hf)),λF nF=>⟨by show 3<=sizeLine;lia,λB nB=>?_⟩⟩
  have sF:=aC (o:=.lst (l.first.map V.int)) nF
  have sB:=aC (o:=.lst [.str l.name,.int l.room,.ref F]) nB
  refine⟨s2.trans (sF.trans sB),la ++ [B],by rw [List.map_append];rfl,by rw [lP,List.length_singleton,lla],λb hb=>?_⟩
  rcases List.mem_append.mp hb with h | h
  ·exact⟨(hla b h).1,(hla b h).2.same (sF.trans sB)⟩
  ·rw [List.mem_singleton] at h
   subst h
   exact⟨(s2.trans sF).free nB,by simp,_,_,F,_,aq,Ai lnm,iB _,by simp,sB _ _ aq,by rw [lM];have:=lok.2.1;have:=lok.2.2.1;lia,λv hv=>by obtain⟨i,_,rfl⟩:=List.mem_map.mp hv;exact iB i⟩
 rintro zs H2 ⟨s2,la,rfl,lla,hla⟩ Ll nLl
 rw [lxl] at lla
 have sLl:=aC (o:=.lst (la.map V.ref)) nLl
 have eLl:upd H2 Ll (.lst (la.map V.ref)) Ll=some (.lst (la.map V.ref)):=aq
 have f1Ll:=s2.free nLl
 have hla:∀b∈la,H1 b=none/\u9 [Ll] 40 (upd H2 Ll (.lst (la.map V.ref))) b:=λb hb=>⟨(hla b hb).1,((hla b hb).2.more nLl).same sLl⟩
 have s3:=s2.trans sLl
 generalize upd H2 Ll (.lst (la.map V.ref))=H3 at eLl hla s3 ⊢
 clear sLl nLl s2
 refine⟨_,rfl,P,rfl,⟨_,bH.of (s3 _ _ eP)⟩,?_⟩
 refine qb (K:=K) (a:=P) (xs:=ys) (λj zs H'=>aM H3 H'/\∃pa:List Addr,zs=pa.map V.ref/\pa.length=j/\∀b∈pa,H1 b=none/\xV [Ll] 40 H' b) (by lia) ⟨aM.refl _,[],rfl,rfl,by simp⟩ (λj zs H' h=>by obtain⟨_,la,rfl,h2,_⟩:=h;rw [lM];lia) (λj zs H' _ h=>h.1.seq (bH.of (s3 _ _ eP))) ?_ ?_
 ·rintro j x zs H' hx ⟨s4,pa,rfl,lpa,hpa⟩
  obtain⟨p,hpj,q,a1,a2,a3,rfl,hq,q1,q2,q3⟩:=aP.get hx
  have hpm:=List.mem_of_getElem? hpj
  have pok:=hF.pok p hpm
  have ss:=s3.trans s4
  have cn:cN p.kind<=40/\cI p.kind<=40/\cO p.kind<=40:=⟨Yu _ pok.1,Nat.le_trans (PB _) (by decide),Nat.le_trans (Le _) (by decide)⟩
  have inN:=hF.inN' hpm
  refine⟨q,_,rfl,d7.of (ss _ _ hq),rfl,_,_,rfl,_,_,rfl,_,_,rfl,_,_,rfl,_,_,rfl,rfl,rfl,yes ?_⟩
  refine⟨_,rfl,_,rfl,_,rfl,a1,_,rfl,.inl (bH.of (ss _ _ q1)),λF1 n1=>?_⟩
  have t1:=aC (o:=.lst (p.nums.map V.int)) n1
  refine⟨_,rfl,a2,_,rfl,.inl (bH.of (t1 _ _ (ss _ _ q2))),λF2 n2=>?_⟩
  have t2:=aC (o:=.lst (p.ins.map V.str)) n2
  refine⟨_,rfl,a3,_,rfl,.inl (bH.of (t2 _ _ (t1 _ _ (ss _ _ q3)))),λF3 n3=>⟨by show 5<=sizeLine;lia,λB nB=>?_⟩⟩
  have t3:=aC (o:=.lst (p.outs.map V.str)) n3
  have tB:=aC (o:=.lst [.str (cu p.kind),.str p.name,.ref F1,.ref F2,.ref F3]) nB
  have e0:=s4 _ _ eLl
  have e1:=t1 _ _ e0
  have e2:=t2 _ _ e1
  have e3:=t3 _ _ e2
  have out:∀{x:Addr},Ll≠x->x∉[Ll]:=λh z=>h (List.mem_singleton.mp z).symm
  refine⟨s4.trans (t1.trans (t2.trans (t3.trans tB))),pa ++ [B],by rw [List.map_append];rfl,by rw [lP,List.length_singleton,lpa],λb hb=>?_⟩
  rcases List.mem_append.mp hb with h | h
  ·exact⟨(hpa b h).1,(hpa b h).2.same (t1.trans (t2.trans (t3.trans tB)))⟩
  ·rw [List.mem_singleton] at h
   subst h
   exact⟨(ss.trans (t1.trans (t2.trans t3))).free nB,out (aB e3 nB),_,_,F1,F2,F3,_,_,_,aq,nC (Vi _ pok.1),(Ai (hF.pnm p hpm)).1,⟨out (aB e0 n1),out (aB e1 n2),out (aB e2 n3)⟩,⟨tB _ _ (t3 _ _ (t2 _ _ aq)),tB _ _ (t3 _ _ aq),tB _ _ aq⟩,⟨by rw [lM,pok.2.1];exact cn.1,by rw [lM,pok.2.2.1];exact cn.2.1,by rw [lM,pok.2.2.2.1];exact cn.2.2⟩,λv hv=>by obtain⟨i,_,rfl⟩:=List.mem_map.mp hv;exact iB i,λv hv=>by obtain⟨z,hz,rfl⟩:=List.mem_map.mp hv;exact Ai (inN.1 z hz),λv hv=>by obtain⟨z,hz,rfl⟩:=List.mem_map.mp hv;exact Ai (inN.2 z hz)⟩
 rintro zs H4 ⟨s4,pa,rfl,lpa,hpa⟩ Lp nLp
 rw [lyl] at lpa
 have S:mG H1 (upd H4 Lp (.lst (pa.map V.ref))) Ll Lp la pa 40:=by
  have sL:=aC (o:=.lst (pa.map V.ref)) nLp
  have lr:∀b∈la,(b≠Ll/\b≠Lp)/\gW Ll Lp 40 (upd H4 Lp (.lst (pa.map V.ref))) b:=λb hb=>((((hla b hb).2.same s4).more nLp).same sL).r
  have pr:∀b∈pa,(b≠Ll/\b≠Lp)/\gh Ll Lp 40 (upd H4 Lp (.lst (pa.map V.ref))) b:=λb hb=>(((hpa b hb).2.more nLp).same sL).r
  exact⟨s3.trans (s4.trans sL),sL _ _ (s4 _ _ eLl),aq,aB (s4 _ _ eLl) nLp,f1Ll,(s3.trans s4).free nLp,λb hb=>⟨(hla b hb).1,(lr b hb).1⟩,λb hb=>⟨(hpa b hb).1,(pr b hb).1⟩,λb hb=>(lr b hb).2,λb hb=>(pr b hb).2,by lia,by lia⟩
 generalize upd H4 Lp (.lst (pa.map V.ref))=H5 at S ⊢
 clear hla hpa s3 s4 eLl nLp f1Ll A aL aP eL eP eT D hF
 refine⟨λσ H'=>∃la,mG H1 H' Ll Lp la pa 40/\σ=[some (.ref a),some (.int c),some (.ref L),some (.ref P),some (.ref Ll),some (.ref Lp),none,none,none,none],?_,?_⟩
 ·refine⟨_,rfl,_,_,rfl,rfl,jz (by decide) (by decide),_,_,rfl,rfl,by show(0:Int) <24;decide,rfl,_,rfl,dN (λ_=>?_) (λ_=>?_)⟩
  ·exact⟨.ref Ll,rfl,.inl ⟨rfl,_,bH.of S.ell⟩,Ll,_,rfl,rfl,S.ell,[],S.setL (la':=[]) (by simp) (Nat.zero_le _),rfl⟩
  ·exact⟨la,S,rfl⟩
 rintro σ H6 ⟨la,S,rfl⟩
 refine⟨λσ H'=>∃pa,mG H1 H' Ll Lp la pa 40/\σ=[some (.ref a),some (.int c),some (.ref L),some (.ref P),some (.ref Ll),some (.ref Lp),none,none,none,none],?_,?_⟩
 ·refine⟨_,rfl,_,_,rfl,rfl,jz (by decide) (by decide),_,_,rfl,rfl,by show(0:Int) <24;decide,rfl,_,rfl,dN (λ_=>?_) (λ_=>?_)⟩
  ·exact⟨.ref Lp,rfl,.inl ⟨rfl,_,bH.of S.elp⟩,Lp,_,rfl,rfl,S.elp,[],S.setP (pa':=[]) (by simp) (Nat.zero_le _),rfl⟩
  ·exact⟨pa,S,rfl⟩
 rintro σ H7 ⟨pa,S,rfl⟩
 have d0:=Int.emod_nonneg (c / 96) (show(4:Int)≠0 by decide)
 have d1:=Int.emod_lt_of_pos (c / 96) (show(0:Int) <4 by decide)
 refine⟨_,rfl,_,_,rfl,rfl,jz (by decide) (by decide),_,_,rfl,rfl,by show(0:Int) <4;decide,c / 96 % 4,rfl,by lia,by lia,?_⟩
 obtain⟨g,hg,hg4⟩:∃g:Nat,(c / 96 % 4).toNat=g/\g <4:=⟨_,rfl,by lia⟩
 rw [hg]
 refine o8 (λj σ H'=>∃la pa,mG H1 H' Ll Lp la pa (40+10 * j)/\∃v6,σ=[some (.ref a),some (.int c),some (.ref L),some (.ref P),some (.ref Ll),some (.ref Lp),v6,none,none,none]) ⟨la,pa,S,none,rfl⟩ ?_ ?_
 ·rintro j σ H' hj ⟨la,pa,S,v6,rfl⟩
  exact⟨_,rfl,_,rfl,_,rfl,_,rfl,_,_,rfl,rfl,a,ns,1+j,by rw [Int.zero_add];simp,S.same.seq hS1,_,rfl,0+(j:Int),rfl,jJ (by lia) (by lia),_,_,rfl,rfl,yw (c:= "q") (by simp) (show j <8 by lia),_,_,rfl,rfl,yK (c:= "q") (by simp) (show j <8 by lia),Ll,Lp,_,_,H1,la,pa,_,rfl,um (GC (c:= "q") (by simp) (show j <8 by lia)),S,by lia,λH' la' pa' S'=>⟨la',pa',S',_,rfl⟩⟩
 rintro σ H8 ⟨la,pa,S,v6,rfl⟩
 have S:mG H1 H8 Ll Lp la pa 80:=S.up (by lia)
 clear hst4 hst c0 c1 d0 d1 hg hg4
 have hll:=S.hl
 have hlp:=S.hp
 refine⟨_,rfl,Ll,rfl,⟨_,bH.of S.ell⟩,jD (K:=K) (a:=Ll) (xs:=la.map V.ref) (λj zs H'=>aM H8 H'/\zs.length<=j/\∃lx:List dH,dY (qj H') zs lx) (by rw [lM];lia) ⟨aM.refl _,Nat.le_refl _,[],.nil⟩ (λj zs H' h=>h.2.1) (λj zs H' _ h=>bH.of (h.1 _ _ S.ell)) ?_ ?_⟩
 ·rintro j x zs H' hx ⟨s2,hz,lx,hA⟩
  rw [List.getElem?_map] at hx
  obtain⟨b,hb,rfl⟩:=Option.map_eq_some_iff.mp hx
  obtain⟨nm,rm,f,xs,e,hnm,hrm,hin⟩:=S.lr b (List.mem_of_getElem? hb)
  have e:=s2 _ _ e
  refine yes ⟨_,rfl,b,_,0,_,rfl,rfl,bH.of e,aH (j:=0) rfl,_,rfl,b,_,1,_,rfl,rfl,bH.of e,aH (j:=1) rfl,_,rfl,b,_,2,_,rfl,rfl,bH.of e,aH (j:=2) rfl,by show 3<=sizeLine;lia,λT3 nT=>?_⟩
  have sT:=aC (o:=.tup [nm,rm,.ref f]) nT
  exact⟨s2.trans sT,by rw [lP,List.length_singleton];lia,lx ++ [⟨nm,rm,xs⟩],(hA.imp λ_ _ h=>h.same sT).app (.cons ⟨T3,f,rfl,aq,sT _ _ (s2 _ _ hin.at_),hnm.1,hrm,hin.all,Nat.le_trans hin.len (by decide)⟩ .nil)⟩
 rintro zs H9 ⟨s9,hz,lx,hA⟩ O1 nO1
 refine Hh nO1 λH10 sO eO1=>?_
 have hA:=hA.imp λ_ _ h=>qj.same h sO
 have s9:=s9.trans sO
 clear sO nO1
 refine⟨_,rfl,Lp,rfl,⟨_,bH.of (s9 _ _ S.elp)⟩,jD (K:=K) (a:=Lp) (xs:=pa.map V.ref) (λj zs H'=>aM H10 H'/\zs.length<=j/\∃px:List dI,dY (zR H') zs px) (by rw [lM];lia) ⟨aM.refl _,Nat.le_refl _,[],.nil⟩ (λj zs H' h=>h.2.1) (λj zs H' _ h=>bH.of (h.1 _ _ (s9 _ _ S.elp))) ?_ ?_⟩
 ·rintro j x zs H' hx ⟨s2,hz,px,hB⟩
  rw [List.getElem?_map] at hx
  obtain⟨b,hb,rfl⟩:=Option.map_eq_some_iff.mp hx
  obtain⟨kd,nm,f1,f2,f3,ns',is,os,e,hk,hnm,i1,i2,i3,n2,n3⟩:=S.pr b (List.mem_of_getElem? hb)
  have ss:=s9.trans s2
  have e:=ss _ _ e
  obtain⟨zi,rfl⟩:=Hf n2
  obtain⟨zo,rfl⟩:=Hf n3
  refine yes ⟨_,rfl,b,_,0,_,rfl,rfl,bH.of e,aH (j:=0) rfl,_,rfl,b,_,1,_,rfl,rfl,bH.of e,aH (j:=1) rfl,_,rfl,b,_,2,_,rfl,rfl,bH.of e,aH (j:=2) rfl,_,rfl,b,_,3,_,rfl,rfl,bH.of e,aH (j:=3) rfl,_,rfl,b,_,4,_,rfl,rfl,bH.of e,aH (j:=4) rfl,by show 5<=sizeLine;lia,λT3 nT=>?_⟩
  have sT:=aC (o:=.tup [.str kd,nm,.ref f1,.ref f2,.ref f3]) nT
  have k2:=i2.len
  have k3:=i3.len
  rw [lM] at k2 k3
  exact⟨s2.trans sT,by rw [lP,List.length_singleton];lia,px ++ [⟨kd,nm,ns',zi,zo⟩],(hB.imp λ_ _ h=>h.same sT).app (.cons ⟨T3,f1,f2,f3,rfl,aq,sT _ _ (ss _ _ i1.at_),sT _ _ (ss _ _ i2.at_),sT _ _ (ss _ _ i3.at_),hk.2 _ rfl,hk.1.2 _ rfl,hnm,i1.all,Nat.le_trans i1.len (by decide),Nat.le_trans k2 (by decide),Nat.le_trans k3 (by decide)⟩ .nil)⟩
 rintro ws H11 ⟨s11,hw,px,hB⟩ O2 nO2
 have sO:=aC (o:=.lst ws) nO2
 have hH:lu (upd H11 O2 (.lst ws)) O1 O2 lx px:=⟨⟨zs,sO _ _ (s11 _ _ eO1),hA.imp λ_ _ h=>h.same (s11.trans sO)⟩,ws,aq,hB.imp λ_ _ h=>h.same sO⟩
 generalize upd H11 O2 (.lst ws)=H12 at hH ⊢
 clear sO nO2 hB s11 hA s9 eO1 S hll hlp hz hw
 have g:=VD hH.thl hH.thp
 refine⟨_,rfl,_,rfl,Oc hH λH13 y s13 o13=>?_⟩
 have hH:=hH.same s13
 refine⟨_,rfl,_,rfl,xO hH λH14 y2 s14 o14=>⟨_,rfl,_,_,o14.dt hH.thl hH.thp,(o13.same s14).dt hH.thl hH.thp,g.shaped (by decide),g.shaped (by decide),?_⟩⟩
 rw [g.eq]
 refine⟨_,rfl,bW ?_⟩
 have hH:=hH.same s14
 have o13:=o13.same s14
 refine⟨_,rfl,_,rfl,xO hH λH15 y3 s15 o15=>⟨_,rfl,_,_,o15.dt hH.thl hH.thp,(o13.same s15).dt hH.thl hH.thp,g.shaped (by decide),g.shaped (by decide),?_⟩⟩
 rw [g.eq]
 refine⟨_,rfl,bW ?_⟩
 have hH:=hH.same s15
 refine⟨_,rfl,_,rfl,?_⟩
 by_cases hy:y=.non
 case neg=>
  rw [decide_eq_false hy]
  exact bK (k _)
 subst hy
 rcases o13 with ⟨_,_,z,_⟩ | ⟨cn,hD⟩
 ·cases z
 have dn:kj lx px=none:=by
  cases e:kj lx px with
  | none=>rfl
  | some p=>rw [e] at hD;obtain⟨_,_,z,_⟩:=hD;cases z
 refine bW ⟨_,rfl,_,rfl,λx dx nx ndx ne=>?_⟩
 have s16:aM H15 (upd (upd H15 dx (.own x)) x (.ins t.cZ dx [])):=(aC ndx).trans (aC (by rw [aD (Ne.symm ne)];exact nx))
 refine⟨x,dx,O1,O2,lx,px,rfl,aq,(hH.same s16).x,λ_ _ ls' ps' el ep F H17 b N=>⟨rfl,?_⟩,λcn'=>absurd cn cn',λ_ i v e=>by rw [dn] at e;cases e⟩
 subst el ep
 have s17:aM H15 H17:=λc u e=>b c u (aB e nx) (s16 _ _ e)
 obtain⟨dx',fs,R,F',Pd,G,Tk,FL,PL,W⟩:=N
 refine⟨x,dx',fs,rfl,W.obj,W.fl.no _ (by decide +kernel),x,ls',ps',rfl,W.s,λT2 b5 b6 HA sA _ _ _ TA=>?_⟩
 refine⟨_,rfl,_,rfl,O1,O2,ls',ps',rfl,(hH.same (s17.trans sA)).net,F,λT3 b7 b8 HB sB TB=>?_⟩
 have g2:=F.told
 refine⟨_,_,(TA.same sB).dt,TB.dt,g2.shaped (by decide),g2.shaped (by decide),?_⟩
 rw [g2.eq]
 exact k _
end
theorem fin {l:PySem.W.OpenLaw} {w:World} {K:PySem.W.Frag} {mg:Str->Option Value} {fa r0 r1 r2 r3 r4 r5 r6 r7 r8 r9 r10 r11 r12 r13 r14 r15 r16 r17 r18 r19 r20 r21 r22 r23 r24 r25 r26 r27 r28 r29 r30 r31 r32 r33 r34 r35 r36 r37 r38 r39 r40 r41 r42 r43 r44 r45 r46 r47 r48 r49 r50 r51 r52 r53 r54 r55 r56 r57 r58 r59 r60 r61 r62 r63 r64 r65 r66 r67 r68 r69 r70 r71 r72 r73 r74 r75 r76 r77 r78 r79 r80 r81 r82 r83 r84 r85 r86 r87 r88 r89 r90 r91 r92:Addr} (hfa:mg "law" =some (.ref fa)) (T:Txt w K mg ⟨r0,r1,r2,r3,r4,r5,r6,r7,r8,r9,r10,r11,r12,r13,r14,r15,r16,r17,r18,r19,r20,r21,r22,r23,r24,r25,r26,r27,r28,r29,r30,r31,r32,r33,r34,r35,r36,r37,r38,r39,r40,r41,r42,r43,r44,r45,r46,r47,r48,r49,r50,r51,r52,r53,r54,r55,r56,r57,r58,r59,r60,r61,r62,r63,r64,r65,r66,r67,r68,r69,r70,r71,r72,r73,r74,r75,r76,r77,r78,r79,r80,r81,r82,r83,r84,r85,r86,r87,r88,r89,r90,r91,r92⟩):∃fd:FuncData,(∀(s:Shared) (v:Value),BindsTo s fd ⟨[v],[]⟩ [("_law_script",v)])/\∀base:Heap,K.In base->base.Ns mainGlobals mg->jd l.prog w K mg base PK 9 fa fd ["_law_script"] (Bk K):=by
 have e:=hfa.symm.trans T.Ma.m
 cases e
 exact⟨_,Uo T.Ma.F λ_ _ _ _ _ _ _=>rfl,λbase _ _=>Uy T⟩
theorem walk {l:PySem.W.OpenLaw} {q:Program} {loose:List Str} {XP:(Str->Option Value)->Heap->Prop} {YP:World->Heap->Prop} {d:DefRec} {K:Params->PySem.W.Frag} (hn:l.most=some 63) (hdf:d.params.defaults=[])
  (hY:∀(w:World) (h:Heap),YP w h->(K w.params).In h)
  (F:∀(w:World) (mg:Str->Option Value) (fa:Addr) (h:Heap),(K w.params).In h->h.Ns mainGlobals mg->mg d.name=some (.ref fa)->
   ∃fd:FuncData,(∀(s:Shared) (u:Value),BindsTo s fd ⟨[u],[]⟩ [("_law_script",u)])/\∀base:Heap,(K w.params).In base->base.Ns mainGlobals mg->jd l.prog w (K w.params) mg base PK 9 fa fd ["_law_script"] (Bk (K w.params))):
  PySem.W.WalkO q loose XP YP l.row.toRowW d [] (λf vs=>PySem.call f vs):=
 L2.Rt (n:=63) (k:=9) (x:= "_law_script") (CX:=λ_=>PK) (sp:=λw=>Bk (K w.params)) hn (by decide) hdf ⟨rfl,by decide,by decide⟩ hY F (λ_ _ a ns hl _ hS=>⟨a,ns,rfl,hS,hl,λ_=>rfl⟩) λ_ _ _ _ _ z=>z
end K22
open PySem PySem.W PyProof.Rows L2
set_option maxRecDepth 100000 in
set_option maxHeartbeats 0 in
theorem PySem.Challenge.cw_holdlane_k22_nets_refused_holds : PySem.Challenge.rw_holdlane_k22_nets_refused.Holds := by
 w_on;o_law
 refine HD.head (by rfl) (by rfl) (by rfl) (by rfl) (by first | assumption | decide +kernel) (by decide +kernel) ⟨rfl,rfl,rfl,rfl,rfl,by decide +kernel⟩ rfl (λ_=>rfl) ?_ ?_
 ·w_witness2
 k_fill
 refine K22.walk (l:=PySem.Challenge.rw_holdlane_k22_nets_refused) rfl rfl (λw h Y=>PySem.W.kIn_of Y) ?F
 case F=>
  intro w mg fa h KX G hmg
  refine' K22.fin hmg ⟨?q0,?q1,?q2,?q3,?q4,?q5,?q6,?q7,?q8,?q9,?q10,?q11,?q12,?q13,?q14,?q15,?q16,?q17,?q18,?q19,?q20,?q21,?q22,?q23,?q24,?q25,?q26,?q27,?q28,?q29,?q30,?q31,?q32,?q33,?q34,?q35,?q36,?q37,?q38,?q39,?q40,?q41,?q42,?q43,?q44,?q45,?q46,?q47,?q48,?q49,?q50,?q51,?q52,?q53,?q54,?q55,?q56,?q57,?q58,?q59,?q60,?q61,?q62,?q63,?q64,?q65,?q66,?q67,?q68,?q69,?q70,?q71,?q72,?q73,?q74,?q75,?q76,?q77,?q78,?q79,?q80,?q81,?q82,?q83,?q84,?q85,?q86,?q87,?q88,?q89,?q90,?q91,?q92,?q93,?q94,?q95,?q96,?q97,?q98,?q99,?q100,?q101,?q102,?q103,?q104,?q105,?q106,?q107,?q108,?q109,?q110,?q111,?q112,?q113,?q114,?q115,?q116,?q117,?q118,?q119,?q120,?q121,?q122,?q123,?q124,?q125,?q126,?q127,?q128,?q129,?q130,?q131,?q132,?q133,?q134,?q135,?q136,?q137,?q138,?q139,?q140,?q141,?q142,?q143,?q144,?q145,?q146,?q147,?q148,?q149,?q150,?q151,?q152,?q153,?q154,?q155,?q156,?q157,?q158,?q159,?q160,?q161,?q162,?q163,?q164,?q165,?q166,?q167,?q168,?q169,?q170,?q171,?q172,?q173,?q174,?q175,?q176,?q177,?q178,?q179,?q180,?q181,?q182,?q183,?q184,?q185,?q186,?q187,?q188,?q189,?q190⟩
  all_goals try dsimp only
  (case q0 | q1 | q2 | q3 | q4 | q5 | q6 | q7 | q8 | q9 | q10=>refine' ⟨mg_of KX G ?_,⟨?_,?_,?_,?_⟩,?_,?_,⟨?_,?_,trivial⟩,⟨?_,?_,?_,?_,trivial⟩⟩ <;> (try dsimp only) <;> k_is)
  (case q11=>refine' ⟨mg_of KX G ?_,⟨?_,?_,?_,?_⟩,?_,?_,⟨?_,?_,trivial⟩,⟨?_,?_,?_,?_,?_,trivial⟩⟩ <;> (try dsimp only) <;> k_is)
  (case q12 | q13 | q14 | q15 | q16 | q17 | q18 | q19 | q20 | q21=>refine' mg_of KX G ?_ <;> k_is)
  (case q22 | q23 | q24 | q25 | q26 | q27 | q28 | q29=>k_is)
  (case q30=>refine' ⟨?_,?_,?_⟩ <;> kernel_rfl)
  (case q31 | q32 | q33 | q34 | q35 | q36 | q37 | q38 | q39 | q40 | q41 | q42 | q43 | q44 | q45 | q46 | q47 | q48 | q49 | q50 | q51 | q52 | q53 | q54 | q55 | q56 | q57 | q58 | q59 | q60 | q61 | q62 | q63 | q64 | q65 | q66=>kernel_rfl)
  (case q67=>refine' ul.ofIn ?_ <;> kernel_rfl)
  (case q68=>refine' (ul.ofIn ?_).at <;> kernel_rfl)
  (case q69=>refine' U9.ofIn ?_ <;> kernel_rfl)
  (case q70=>refine' ⟨gZ.ofIn ?_,?_,?_⟩ <;> first | k_is | kernel_rfl)
  (case q71=>refine' yr.ofIn ?_ <;> kernel_rfl)
  (case q72=>unfold cU;kernel_rfl)
  (case q73=>refine' yX KX ?_ ?_ <;> (try k_is);all_goals kernel_rfl)
  (case q74=>refine' ⟨gZ.ofIn ?_,?_,?_⟩ <;> first | k_is | kernel_rfl)
  (case q75=>refine' yr.ofIn ?_ <;> kernel_rfl)
  (case q76=>unfold cU;kernel_rfl)
  (case q77=>refine' yX KX ?_ ?_ <;> (try k_is);all_goals kernel_rfl)
  (case q78=>refine' ⟨gZ.ofIn ?_,?_,?_⟩ <;> first | k_is | kernel_rfl)
  (case q79=>refine' yr.ofIn ?_ <;> kernel_rfl)
  (case q80=>unfold cU;kernel_rfl)
  (case q81=>refine' yX KX ?_ ?_ <;> (try k_is);all_goals kernel_rfl)
  (case q82=>refine' ⟨gZ.ofIn ?_,?_,?_⟩ <;> first | k_is | kernel_rfl)
  (case q83=>refine' yr.ofIn ?_ <;> kernel_rfl)
  (case q84=>unfold cU;kernel_rfl)
  (case q85=>refine' yX KX ?_ ?_ <;> (try k_is);all_goals kernel_rfl)
  (case q86=>refine' ⟨gZ.ofIn ?_,?_,?_⟩ <;> first | k_is | kernel_rfl)
  (case q87=>refine' yr.ofIn ?_ <;> kernel_rfl)
  (case q88=>unfold cU;kernel_rfl)
  (case q89=>refine' yX KX ?_ ?_ <;> (try k_is);all_goals kernel_rfl)
  (case q90=>refine' ⟨gZ.ofIn ?_,?_,?_⟩ <;> first | k_is | kernel_rfl)
  (case q91=>refine' yr.ofIn ?_ <;> kernel_rfl)
  (case q92=>unfold cU;kernel_rfl)
  (case q93=>refine' yX KX ?_ ?_ <;> (try k_is);all_goals kernel_rfl)
  (case q94=>refine' ⟨gZ.ofIn ?_,?_,?_⟩ <;> first | k_is | kernel_rfl)
  (case q95=>refine' yr.ofIn ?_ <;> kernel_rfl)
  (case q96=>unfold cU;kernel_rfl)
  (case q97=>refine' yX KX ?_ ?_ <;> (try k_is);all_goals kernel_rfl)
  (case q98=>refine' ⟨gZ.ofIn ?_,?_,?_⟩ <;> first | k_is | kernel_rfl)
  (case q99=>refine' yr.ofIn ?_ <;> kernel_rfl)
  (case q100=>unfold cU;kernel_rfl)
  (case q101=>refine' yX KX ?_ ?_ <;> (try k_is);all_goals kernel_rfl)
  (case q102 | q103 | q104 | q105 | q106 | q107 | q108 | q109=>refine' il.of ?_ ?_ ?_ ?_ (λ_ _ _ _ _ _=>GZ λ_ _=>rfl) <;> try k_is)
  (case q110 | q111=>refine' .of (mg_of KX G ?_) (il.of ?_ ?_ ?_ ?_ (λ_ _ _ _ _ _=>Hu λ_=>rfl)) <;> (try k_is);all_goals try k_is)
  (case q112=>refine' il.of ?_ ?_ ?_ ?_ (λ_ _ _ _ _ _=>Wr λ_ _ _ _ _=>rfl) <;> try k_is)
  (case q113 | q114 | q115 | q116 | q117 | q118 | q119 | q120 | q121 | q122 | q123=>refine' il.of ?_ ?_ ?_ ?_ (λ_ _ _ _ _ _=>Hu λ_=>rfl) <;> try k_is)
  (case q124=>refine' .of (mg_of KX G ?_) (il.of ?_ ?_ ?_ ?_ (λ_ _ _ _ _ _=>Hu λ_=>rfl)) <;> (try k_is);all_goals try k_is)
  (case q125 | q126 | q127=>refine' .of (mg_of KX G ?_) (il.of ?_ ?_ ?_ ?_ (λ_ _ _ _ _ _=>Wr λ_ _ _ _ _=>rfl)) <;> (try k_is);all_goals try k_is)
  (case q128 | q129 | q130 | q131=>refine' .of (mg_of KX G ?_) (il.of ?_ ?_ ?_ ?_ (λ_ _ _ _ _ _=>GZ λ_ _=>rfl)) <;> (try k_is);all_goals try k_is)
  (case q132=>refine' .of (mg_of KX G ?_) (il.of ?_ ?_ ?_ ?_ (λ_ _ _ _ _ _=>KD λ_ _ _=>rfl)) <;> (try k_is);all_goals try k_is)
  (case q133=>refine' .of (mg_of KX G ?_) (il.of ?_ ?_ ?_ ?_ (λ_ _ _ _ _ _=>GZ λ_ _=>rfl)) <;> (try k_is);all_goals try k_is)
  (case q134=>refine' .of (mg_of KX G ?_) (il.of ?_ ?_ ?_ ?_ (λ_ _ _ _ _ _=>Yc λ_ _ _ _ _ _=>rfl)) <;> (try k_is);all_goals try k_is)
  (case q135=>refine' .of (mg_of KX G ?_) (il.of ?_ ?_ ?_ ?_ (λ_ _ _ _ _ _=>NT λ_ _ _ _=>rfl)) <;> (try k_is);all_goals try k_is)
  (case q136 | q137 | q138=>refine' .of (mg_of KX G ?_) (il.of ?_ ?_ ?_ ?_ (λ_ _ _ _ _ _=>KD λ_ _ _=>rfl)) <;> (try k_is);all_goals try k_is)
  (case q139=>refine' .of (mg_of KX G ?_) (il.of ?_ ?_ ?_ ?_ (λ_ _ _ _ _ _=>NT λ_ _ _ _=>rfl)) <;> (try k_is);all_goals try k_is)
  (case q140=>refine' .of (mg_of KX G ?_) (il.of ?_ ?_ ?_ ?_ (λ_ _ _ _ _ _=>Hu λ_=>rfl)) <;> (try k_is);all_goals try k_is)
  (case q141 | q142=>refine' .of (mg_of KX G ?_) (il.of ?_ ?_ ?_ ?_ (λ_ _ _ _ _ _=>GZ λ_ _=>rfl)) <;> (try k_is);all_goals try k_is)
  (case q143=>refine' .of (mg_of KX G ?_) (il.of ?_ ?_ ?_ ?_ (λ_ _ _ _ _ _=>KD λ_ _ _=>rfl)) <;> (try k_is);all_goals try k_is)
  (case q144=>refine' .of (mg_of KX G ?_) (il.of ?_ ?_ ?_ ?_ (λ_ _ _ _ _ _=>GZ λ_ _=>rfl)) <;> (try k_is);all_goals try k_is)
  (case q145=>refine' .of (mg_of KX G ?_) (il.of ?_ ?_ ?_ ?_ (λ_ _ _ _ _ _=>NT λ_ _ _ _=>rfl)) <;> (try k_is);all_goals try k_is)
  (case q146 | q147 | q148=>refine' .of (mg_of KX G ?_) (il.of ?_ ?_ ?_ ?_ (λ_ _ _ _ _ _=>KD λ_ _ _=>rfl)) <;> (try k_is);all_goals try k_is)
  (case q149=>refine' .of (mg_of KX G ?_) (il.of ?_ ?_ ?_ ?_ (λ_ _ _ _ _ _=>Hu λ_=>rfl)) <;> (try k_is);all_goals try k_is)
  (case q150=>refine' il.of ?_ ?_ ?_ ?_ (λ_ _ _ _ _ _=>Hu λ_=>rfl) <;> try k_is)
  (case q151=>refine' il.of ?_ ?_ ?_ ?_ (λ_ _ _ _ _ _=>KD λ_ _ _=>rfl) <;> try k_is)
  (case q152=>refine' .of (mg_of KX G ?_) (il.of ?_ ?_ ?_ ?_ (λ_ _ _ _ _ _=>Yq rfl)) <;> (try k_is);all_goals try k_is)
  (case q153 | q154 | q155=>refine' .of (mg_of KX G ?_) (il.of ?_ ?_ ?_ ?_ (λ_ _ _ _ _ _=>Hu λ_=>rfl)) <;> (try k_is);all_goals try k_is)
  (case q156=>refine' .of (mg_of KX G ?_) (il.of ?_ ?_ ?_ ?_ (λ_ _ _ _ _ _=>GZ λ_ _=>rfl)) <;> (try k_is);all_goals try k_is)
  (case q157 | q158=>refine' .of (mg_of KX G ?_) (il.of ?_ ?_ ?_ ?_ (λ_ _ _ _ _ _=>NT λ_ _ _ _=>rfl)) <;> (try k_is);all_goals try k_is)
  (case q159=>refine' .of (mg_of KX G ?_) (il.of ?_ ?_ ?_ ?_ (λ_ _ _ _ _ _=>KD λ_ _ _=>rfl)) <;> (try k_is);all_goals try k_is)
  (case q160 | q161=>refine' .of (mg_of KX G ?_) (il.of ?_ ?_ ?_ ?_ (λ_ _ _ _ _ _=>GZ λ_ _=>rfl)) <;> (try k_is);all_goals try k_is)
  (case q162 | q163=>refine' .of (mg_of KX G ?_) (il.of ?_ ?_ ?_ ?_ (λ_ _ _ _ _ _=>Hu λ_=>rfl)) <;> (try k_is);all_goals try k_is)
  (case q164=>refine' .of (mg_of KX G ?_) (il.of ?_ ?_ ?_ ?_ (λ_ _ _ _ _ _=>KD λ_ _ _=>rfl)) <;> (try k_is);all_goals try k_is)
  (case q165=>refine' .of (mg_of KX G ?_) (il.of ?_ ?_ ?_ ?_ (λ_ _ _ _ _ _=>GZ λ_ _=>rfl)) <;> (try k_is);all_goals try k_is)
  (case q166 | q167 | q168=>refine' .of (mg_of KX G ?_) (il.of ?_ ?_ ?_ ?_ (λ_ _ _ _ _ _=>NT λ_ _ _ _=>rfl)) <;> (try k_is);all_goals try k_is)
  (case q169 | q170=>refine' .of (mg_of KX G ?_) (il.of ?_ ?_ ?_ ?_ (λ_ _ _ _ _ _=>GZ λ_ _=>rfl)) <;> (try k_is);all_goals try k_is)
  (case q171=>refine' .of (mg_of KX G ?_) (il.of ?_ ?_ ?_ ?_ (λ_ _ _ _ _ _=>Hu λ_=>rfl)) <;> (try k_is);all_goals try k_is)
  (case q172=>refine' mg_of KX G ?_;k_is)
  (case q173=>
   refine' L2.KTab.mk' ?lk ?c1 ?c2 ?c3 ?c4 ?sm ?rows ?nd
   (case lk=>k_is)
   (case c1=>exact rfl)
   (case c2=>exact rfl)
   (case c3=>exact rfl)
   (case c4=>exact rfl)
   (case sm=>exact rfl)
   (case nd=>decide +kernel)
   (case rows=>
    refine' L2.iZ.cons ?hh0 ?lk0 ?cc0 ?dd0 ?vv0 ?zz0 ?rest0
    (case hh0=>exact rfl)
    (case lk0=>k_is)
    (case cc0=>exact rfl)
    (case dd0=>exact rfl)
    (case vv0=>exact .cons ⟨_,rfl⟩ (.cons ⟨_,rfl⟩ (.cons ⟨_,rfl⟩ .nil)))
    (case zz0=>decide)
    refine' L2.iZ.cons ?hh1 ?lk1 ?cc1 ?dd1 ?vv1 ?zz1 ?rest1
    (case hh1=>exact rfl)
    (case lk1=>k_is)
    (case cc1=>exact rfl)
    (case dd1=>exact rfl)
    (case vv1=>exact .cons ⟨_,rfl⟩ (.cons ⟨_,rfl⟩ (.cons ⟨_,rfl⟩ .nil)))
    (case zz1=>decide)
    refine' L2.iZ.cons ?hh2 ?lk2 ?cc2 ?dd2 ?vv2 ?zz2 ?rest2
    (case hh2=>exact rfl)
    (case lk2=>k_is)
    (case cc2=>exact rfl)
    (case dd2=>exact rfl)
    (case vv2=>exact .cons ⟨_,rfl⟩ (.cons ⟨_,rfl⟩ (.cons ⟨_,rfl⟩ .nil)))
    (case zz2=>decide)
    refine' L2.iZ.cons ?hh3 ?lk3 ?cc3 ?dd3 ?vv3 ?zz3 ?rest3
    (case hh3=>exact rfl)
    (case lk3=>k_is)
    (case cc3=>exact rfl)
    (case dd3=>exact rfl)
    (case vv3=>exact .cons ⟨_,rfl⟩ (.cons ⟨_,rfl⟩ (.cons ⟨_,rfl⟩ .nil)))
    (case zz3=>decide)
    refine' L2.iZ.cons ?hh4 ?lk4 ?cc4 ?dd4 ?vv4 ?zz4 ?rest4
    (case hh4=>exact rfl)
    (case lk4=>k_is)
    (case cc4=>exact rfl)
    (case dd4=>exact rfl)
    (case vv4=>exact .cons ⟨_,rfl⟩ (.cons ⟨_,rfl⟩ (.cons ⟨_,rfl⟩ .nil)))
    (case zz4=>decide)
    refine' L2.iZ.cons ?hh5 ?lk5 ?cc5 ?dd5 ?vv5 ?zz5 ?rest5
    (case hh5=>exact rfl)
    (case lk5=>k_is)
    (case cc5=>exact rfl)
    (case dd5=>exact rfl)
    (case vv5=>exact .cons ⟨_,rfl⟩ (.cons ⟨_,rfl⟩ (.cons ⟨_,rfl⟩ .nil)))
    (case zz5=>decide)
    refine' L2.iZ.cons ?hh6 ?lk6 ?cc6 ?dd6 ?vv6 ?zz6 ?rest6
    (case hh6=>exact rfl)
    (case lk6=>k_is)
    (case cc6=>exact rfl)
    (case dd6=>exact rfl)
    (case vv6=>exact .cons ⟨_,rfl⟩ (.cons ⟨_,rfl⟩ (.cons ⟨_,rfl⟩ .nil)))
    (case zz6=>decide)
    refine' L2.iZ.cons ?hh7 ?lk7 ?cc7 ?dd7 ?vv7 ?zz7 ?rest7
    (case hh7=>exact rfl)
    (case lk7=>k_is)
    (case cc7=>exact rfl)
    (case dd7=>exact rfl)
    (case vv7=>exact .cons ⟨_,rfl⟩ (.cons ⟨_,rfl⟩ (.cons ⟨_,rfl⟩ .nil)))
    (case zz7=>decide)
    refine' L2.iZ.cons ?hh8 ?lk8 ?cc8 ?dd8 ?vv8 ?zz8 ?rest8
    (case hh8=>exact rfl)
    (case lk8=>k_is)
    (case cc8=>exact rfl)
    (case dd8=>exact rfl)
    (case vv8=>exact .cons ⟨_,rfl⟩ (.cons ⟨_,rfl⟩ (.cons ⟨_,rfl⟩ .nil)))
    (case zz8=>decide)
    refine' L2.iZ.cons ?hh9 ?lk9 ?cc9 ?dd9 ?vv9 ?zz9 ?rest9
    (case hh9=>exact rfl)
    (case lk9=>k_is)
    (case cc9=>exact rfl)
    (case dd9=>exact rfl)
    (case vv9=>exact .cons ⟨_,rfl⟩ (.cons ⟨_,rfl⟩ (.cons ⟨_,rfl⟩ .nil)))
    (case zz9=>decide)
    refine' L2.iZ.cons ?hh10 ?lk10 ?cc10 ?dd10 ?vv10 ?zz10 ?rest10
    (case hh10=>exact rfl)
    (case lk10=>k_is)
    (case cc10=>exact rfl)
    (case dd10=>exact rfl)
    (case vv10=>exact .cons ⟨_,rfl⟩ (.cons ⟨_,rfl⟩ (.cons ⟨_,rfl⟩ .nil)))
    (case zz10=>decide)
    exact .nil))
  (case q174 | q175 | q176 | q177 | q178 | q179 | q180 | q181 | q182 | q183=>refine' mg_none_of KX G ?_;k_is)
  (case q184 | q185 | q186 | q187 | q188 | q189 | q190=>refine' gC (mg_of KX G ?_) ?_ <;> (try k_is);all_goals exact⟨_,rfl⟩)
