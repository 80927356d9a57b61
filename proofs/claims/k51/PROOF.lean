import PyProof.Rows.All
import Wide.All
import OpenK.AllK
import Wide.FinOn
import Lean
import PyProof.EqAt
import PyProof.EqKinds
import PyProof.TupleCall
import PyProof.StrLawsChain
import PyProof.StrLawsOccR
import PyProof.StrLawsReplace
import PyProof.NeKinds
import PyProof.EnumStmt
import PyProof.EnumMake
import PyProof.ListRange
import PyProof.StationsW
import PyProof.ExcClass2
import PyProof.ExcInit
import PyProof.InstStoreFacts
import OpenK.KRaise
import PyProof.NsDelKeeps
import PyProof.RulesAs
import PyProof.Rows.Catch
import OpenK.KOwn
import PyProof.ExcArgsOwn
import PyProof.ExcAttrAll.ValueError
import PyProof.IsiBase
import PyProof.MaxThree
import PyProof.SeqI3
import KE.KIsAll
import KE.IntTextLaws
import PyProof.StrLawsIdx
import PyProof.FitsInt
import PySem.Challenge.RW_holdlane_k51_what_each_part_waits_for
set_option Elab.async false
set_option linter.all false
set_option maxRecDepth 100000
namespace L2
open PySem PySem.Spec PyProof.Rows
noncomputable abbrev Key:=Sum Int Str
noncomputable def FQ:Key->Value->Bool
 | .inl k,v=>Value.isInt k v
 | .inr x,v=>Value.isStrOf x v
noncomputable def YM (w:World):Key->Int
 | .inl k=>hashInt k
 | .inr x=>hashStr w x
theorem eO:∀{k:Key} {v:Value},FQ k v=true->(∃i t,k=Sum.inl i/\v=Value.int i t)∨(∃x t,k=Sum.inr x/\v=Value.str x t)
 | .inl i,v,h=>by
  obtain⟨t,e⟩:=Value.isInt_shape (k:=i) (v:=v) h
  exact .inl ⟨i,t,rfl,e⟩
 | .inr x,v,h=>by
  obtain⟨t,e⟩:=Value.isStrOf_shape (x:=x) (v:=v) h
  exact .inr ⟨x,t,rfl,e⟩
theorem Nf (i:Int) (t:Tok):FQ (.inl i) (.int i t)=true:=by simp [FQ,Value.isInt]
theorem Nz (x:Str) (t:Tok):FQ (.inr x) (.str x t)=true:=by simp [FQ,Value.isStrOf]
theorem Vi (a b:Int):decide ((Sum.inl a:Key)=Sum.inl b)=(a == b):=by
 by_cases e:a=b
 ·subst e;simp
 ·have h:¬(Sum.inl a:Key)=Sum.inl b:=fun q=>e (Sum.inl.inj q)
  rw [decide_eq_false h]
  exact(beq_eq_false_iff_ne.mpr e).symm
theorem Vq (a b:Str):decide ((Sum.inr a:Key)=Sum.inr b)=decide (a=b):=by
 by_cases e:a=b
 ·subst e;simp
 ·have h:¬(Sum.inr a:Key)=Sum.inr b:=fun q=>e (Sum.inr.inj q)
  rw [decide_eq_false h,decide_eq_false e]
theorem Vg (a:Int) (b:Str):decide ((Sum.inl a:Key)=Sum.inr b)=false:=decide_eq_false (fun q=>nomatch q)
theorem Vt (a:Str) (b:Int):decide ((Sum.inr a:Key)=Sum.inl b)=false:=decide_eq_false (fun q=>nomatch q)
noncomputable def cj (prog:Program) (w:World):PySem.KeyKind prog w Key where
 is:=FQ
 hash:=YM w
 inj:=fun v a b ha hb=>by
  rcases eO ha with ⟨i,t,rfl,rfl⟩ | ⟨x,t,rfl,rfl⟩
  ·rcases eO hb with ⟨j,u,rfl,e⟩ | ⟨y,u,rfl,e⟩
   ·injection e with e1 _;rw [e1]
   ·exact nomatch e
  ·rcases eO hb with ⟨j,u,rfl,e⟩ | ⟨y,u,rfl,e⟩
   ·exact nomatch e
   ·injection e with e1 _;rw [e1]
 byValue:=fun k v h=>by
  rcases eO h with ⟨i,t,rfl,rfl⟩ | ⟨x,t,rfl,rfl⟩ <;> rfl
 pyHash:=fun hv h=>by
  rcases eO hv with ⟨i,t,rfl,rfl⟩ | ⟨x,t,rfl,rfl⟩
  ·exact wpAny_pyHash_int h
  ·exact wpAny_pyHash_str h
 eqBool:=fun hu hv h=>by
  rcases eO hu with ⟨i,t,rfl,rfl⟩ | ⟨x,t,rfl,rfl⟩
  ·rcases eO hv with ⟨j,u,rfl,rfl⟩ | ⟨y,u,rfl,rfl⟩
   ·rw [Vi] at h;exact wpAny_eqBool_int h
   ·rw [Vg] at h;exact SeqAt.EqAt.int_str i t y u _ _ _ _ h
  ·rcases eO hv with ⟨j,u,rfl,rfl⟩ | ⟨y,u,rfl,rfl⟩
   ·rw [Vt] at h;exact SeqAt.EqAt.str_int x t j u _ _ _ _ h
   ·rw [Vq] at h;exact wpAny_eqBool_str h
 «strs» :=fun k x t v h=>by
  rcases eO h with ⟨i,u,rfl,e⟩ | ⟨y,u,rfl,e⟩
  ·exact nomatch e
  ·injection e with e1 _
   subst e1
   cases v <;> rfl
theorem Ij (prog:Program) (w:World) (i:Int) (t:Tok):(cj prog w).is (.inl i) (.int i t)=true:=Nf i t
theorem lQ (prog:Program) (w:World) (x:Str) (t:Tok):(cj prog w).is (.inr x) (.str x t)=true:=Nz x t
inductive V where
 | non | bl (b:Bool) | int (i:Int) | str (x:Str) | byt (b:Array UInt8) | flt (b:UInt64) | ref (a:Addr) | ty (n:String)
 deriving DecidableEq
noncomputable def RelV:V->Value->Prop
 | .non,u=>u=Value.none
 | .bl b,u=>u=Value.bool b
 | .int i,u=>∃t,u=Value.int i t
 | .str x,u=>∃t,u=Value.str x t
 | .byt b,u=>∃t,u=Value.bytes b t
 | .flt b,u=>∃t,u=Value.float b t
 | .ref a,u=>u=Value.ref a
 | .ty n,u=>u=Value.type n
noncomputable abbrev Vals:List V->List Value->Prop:=Paired RelV
theorem Vals.length {xs:List V} {us:List Value} (r:Vals xs us):xs.length=us.length:=Paired.length r
theorem Vals.get:∀{xs:List V} {us:List Value} {i:Nat} {x:V},Vals xs us->xs[i]?=some x->∃u,us[i]?=some u/\RelV x u
 | _,_,_,_,.nil,e=>by simp at e
 | _,_,0,_,.cons r _,e=>by simp at e;subst e;exact⟨_,rfl,r⟩
 | _,_,i+1,x,.cons _ t,e=>by
  obtain⟨u,h1,h2⟩:=Vals.get (i:=i) (x:=x) t (by simpa using e)
  exact⟨u,by simpa using h1,h2⟩
theorem Vals.append:∀{xs ys:List V} {us ws:List Value},Vals xs us->Vals ys ws->Vals (xs ++ ys) (us ++ ws)
 | _,_,_,_,.nil,s=>s
 | _,_,_,_,.cons r t,s=>.cons r (Vals.append t s)
theorem Vals.take:∀{xs:List V} {us:List Value} (n:Nat),Vals xs us->Vals (xs.take n) (us.take n)
 | _,_,0,_=>.nil
 | _,_,_+1,.nil=>.nil
 | _,_,n+1,.cons r t=>.cons r (Vals.take n t)
theorem Vals.drop:∀{xs:List V} {us:List Value} (n:Nat),Vals xs us->Vals (xs.drop n) (us.drop n)
 | _,_,0,r=>r
 | _,_,_+1,.nil=>.nil
 | _,_,n+1,.cons _ t=>Vals.drop n t
noncomputable def rT:Option V->Option Value->Prop
 | some v,some u=>RelV v u
 | none,none=>True
 | _,_=>False
noncomputable def KV {κ:Type}:List (κ×V)->List (κ×Value)->Prop:=Paired fun(p:κ×V) (q:κ×Value)=>p.1=q.1/\RelV p.2 q.2
noncomputable def kV:Key->V
 | .inl i=>.int i
 | .inr x=>.str x
inductive HO where
  | lst (xs:List V)
  | tup (xs:List V)
  | dK (kvs:List (Key×V)) | dT (kvs:List (List Key×V))
  | set (S:Int->Bool) (n:Nat)
  | ins (C dx:Addr) (fs:List (Str×V))
  | own (x:Addr)
  | xd (fs:List (Str×V))
  | met (f x:Addr)
  | rng (lo hi:Int)
  | frz (o:Obj) (u:HO)
  | tbl (ps:Array Value)
  | ext (φ:Heap->Prop)
noncomputable abbrev Hp:=Addr->Option HO
noncomputable def upd (H:Hp) (a:Addr) (o:HO):Hp:=fun b=>if b=a then some o else H b
theorem az {H:Hp} {a:Addr} {o:HO}:upd H a o a=some o:=by unfold upd;rw [if_pos rfl]
theorem aK {H:Hp} {a b:Addr} {o:HO} (h:b≠a):upd H a o b=H b:=by unfold upd;rw [if_neg h]
theorem sS {H:Hp} {a:Addr} {o u:HO}:upd (upd H a o) a u=upd H a u:=by
 funext b;unfold upd;split <;> rfl
theorem vW {H:Hp} {a b:Addr} {o u:HO} (h:H a=some o) (h':H b=some u) (d:o≠u):a≠b:=by
 intro e;subst e;rw [h] at h';exact d (Option.some.inj h')
theorem aD {H:Hp} {a b:Addr} {o:HO} (h:H a=some o) (h':H b=none):a≠b:=by
 intro e;subst e;rw [h] at h';cases h'
section
variable (P:Program) (w:World)
noncomputable def fQ (H:Hp) (h:Heap) (a:Addr):HO->Prop
 | .lst xs=>xs.length<=sizeLine/\∃(its:List Value) (n:Nat),Vals xs its/\h.get? a=some { cls:=.type "list",data:=.seq its.toArray n }
 | .tup xs=>xs.length<=sizeLine/\∃its:List Value,Vals xs its/\IsTup h a its.toArray
 | .dK kvs=>kvs.length<=sizeLine/\(a == sysModules)=false/\∃vs,KV kvs vs/\h.DictOf (cj P w) a vs
 | .dT kvs=>kvs.length<=sizeLine/\(a == sysModules)=false/\∃xs:List (List Key×Addr×Value),
   Paired (fun(p:List Key×V) (q:List Key×Addr×Value)=>p.1=q.1/\H q.2.1=some (.tup (p.1.map kV))/\RelV p.2 q.2.2) kvs xs/\
   ∃o es ep,h.get? a=some o/\o.ExactDict/\o.data=.dict es ep/\es.toList=xs.map (entryOfKey (tupleKind (cj P w)))/\(xs.map (·.1)).Nodup
 | .set S n=>h.SetOf (intKind P w) a S n
 | .ins C dx fs=>H dx=some (.own a)/\fs.length<=1000/\dx≠a/\h.get? a=some (PySem.W.instObj C dx)/\
   ∃mA,h.Ns1 dx mA/\(∀f,rT (fs.lookup f) (mA f))/\PySem.Within mA (fs.map (·.1))
 | .own _=>∃o,h.get? a=some o
 | .xd fs=>∃mA,h.Ns1 a mA/\∀f,rT (fs.lookup f) (mA f)
 | .rng lo hi=>∃t u v,h.get? a=some { cls:=.type "range",data:=.fields #[.int lo t,.int hi u,.int 1 v] }
 | .frz o u=>h.get? a=some o/\fQ H h a u
 | .tbl ps=>h.get? a=some { cls:=.none,data:=.fields ps }
 | .met f x=>h.get? a=some (PySem.W.methodObj (.ref f) (.ref x))
 | .ext φ=>φ h/\(∃o,h.get? a=some o)/\∀h1 h2:Heap,φ h1->(∀o,h1.get? a=some o->h2.get? a=some o)->φ h2
noncomputable def vp (H:Hp) (h:Heap):Prop:=∀a o,H a=some o->fQ P w H h a o
end
section
variable {P:Program} {w:World} {H H':Hp} {h h':Heap} {a:Addr} {o:HO}
theorem fQ.lt (x:fQ P w H h a o):a <h.objs.size:=by
 cases o with
 | lst xs=>obtain⟨_,_,_,_,e⟩:=x;exact Heap.lt_size e
 | tup xs=>obtain⟨_,_,_,p⟩:=x;exact p.lt
 | dK kvs=>obtain⟨_,_,_,_,o,_,_,e,_⟩:=x;exact Heap.lt_size e
 | dT kvs=>obtain⟨_,_,_,_,o,_,_,e,_⟩:=x;exact Heap.lt_size e
 | set S n=>obtain⟨o,_,_,_,e,_⟩:=x;exact Heap.lt_size e
 | ins C dx fs=>obtain⟨_,_,_,e,_⟩:=x;exact Heap.lt_size e
 | own y=>obtain⟨_,e⟩:=x;exact Heap.lt_size e
 | xd fs=>obtain⟨_,⟨_,_,_,e,_⟩,_⟩:=x;exact Heap.lt_size e
 | rng lo hi=>obtain⟨_,_,_,e⟩:=x;exact Heap.lt_size e
 | frz ob u=>obtain⟨e,_⟩:=x;exact Heap.lt_size e
 | tbl ps=>exact Heap.lt_size (show h.get? a=some _ from x)
 | met f y=>exact Heap.lt_size (show h.get? a=some _ from x)
 | ext φ=>obtain⟨_,⟨_,e⟩,_⟩:=x;exact Heap.lt_size e
theorem Paired.mapP {α β:Type} {F G:α->β->Prop}:∀{l₁:List α} {l₂:List β},Paired F l₁ l₂->(∀a b,F a b->G a b)->Paired G l₁ l₂
 | _,_,.nil,_=>.nil
 | _,_,.cons r t,f=>.cons (f _ _ r) (Paired.mapP t f)
theorem fQ.stay (x:fQ P w H h a o) (k:∀b u,(b=a∨H b=some (.own a))->h.get? b=some u->h'.get? b=some u)
  (ho:∀b,H b=some (.own a)->H' b=some (.own a)) (ht:∀b xs,H b=some (.tup xs)->H' b=some (.tup xs)):fQ P w H' h' a o:=by
 induction o with
 | lst xs=>obtain⟨z,its,n,r,e⟩:=x;exact⟨z,its,n,r,k _ _ (.inl rfl) e⟩
 | tup xs=>obtain⟨z,its,r,ob,e,c⟩:=x;exact⟨z,its,r,ob,k _ _ (.inl rfl) e,c⟩
 | dK kvs=>obtain⟨z,y,vs,r,ob,es,ep,e,c⟩:=x;exact⟨z,y,vs,r,ob,es,ep,k _ _ (.inl rfl) e,c⟩
 | dT kvs=>
  obtain⟨z,y,xs,r,ob,es,ep,e,c⟩:=x
  exact⟨z,y,xs,Paired.mapP r fun p q z=>⟨z.1,ht _ _ z.2.1,z.2.2⟩,ob,es,ep,k _ _ (.inl rfl) e,c⟩
 | set S n=>obtain⟨ob,es,ep,t,e,c⟩:=x;exact⟨ob,es,ep,t,k _ _ (.inl rfl) e,c⟩
 | ins C dx fs=>
  obtain⟨d,z,ne,e,mA,⟨od,es,ep,e2,c⟩,r⟩:=x
  exact⟨ho _ d,z,ne,k _ _ (.inl rfl) e,mA,⟨od,es,ep,k _ _ (.inr d) e2,c⟩,r⟩
 | own y=>obtain⟨ob,e⟩:=x;exact⟨ob,k _ _ (.inl rfl) e⟩
 | xd fs=>obtain⟨mA,⟨od,es,ep,e,c⟩,r⟩:=x;exact⟨mA,⟨od,es,ep,k _ _ (.inl rfl) e,c⟩,r⟩
 | rng lo hi=>obtain⟨t,u,v,e⟩:=x;exact⟨t,u,v,k _ _ (.inl rfl) e⟩
 | frz ob u ih=>obtain⟨e,q⟩:=x;exact⟨k _ _ (.inl rfl) e,ih q⟩
 | tbl ps=>
  have e:h.get? a=some { cls:=.none,data:=.fields ps }:=x
  show h'.get? a=some { cls:=.none,data:=.fields ps }
  exact k a _ (.inl rfl) e
 | met f y=>
  have e:h.get? a=some (PySem.W.methodObj (.ref f) (.ref y)):=x
  show h'.get? a=some (PySem.W.methodObj (.ref f) (.ref y))
  exact k a _ (.inl rfl) e
 | ext φ=>obtain⟨p,⟨o,e⟩,st⟩:=x;exact⟨st _ _ p fun o q=>k _ _ (.inl rfl) q,⟨o,k _ _ (.inl rfl) e⟩,st⟩
theorem vp.lt (x:vp P w H h) (e:H a=some o):a <h.objs.size:=(x a o e).lt
theorem vp.fresh (x:vp P w H h) (e:h.objs.size<=a):H a=none:=by
 cases q:H a with
 | none=>rfl
 | some u=>exact absurd (Nat.lt_of_lt_of_le (x.lt q) e) (Nat.lt_irrefl _)
theorem vp.kept (x:vp P w H h) (k:∀b u,h.get? b=some u->h'.get? b=some u):vp P w H h':=fun a o e=>
 (x a o e).stay (fun b u _ q=>k b u q) (fun _ q=>q) fun _ _ q=>q
theorem vp.laid (x:vp P w H h) (k:∀b u,h.get? b=some u->h'.get? b=some u) (hp:h.objs.size<=a) (new:fQ P w (upd H a o) h' a o):vp P w (upd H a o) h':=fun b u e=>by
 have hn:=x.fresh hp
 by_cases hb:b=a
 ·subst hb;rw [az] at e;cases e;exact new
 ·rw [aK hb] at e
  exact(x b u e).stay (fun c v _ q=>k c v q) (fun c q=>by rw [aK (aD q hn)];exact q) fun c xs q=>by rw [aK (aD q hn)];exact q
end
noncomputable def Rd (H:Hp) (a:Addr) (u:HO):Prop:=H a=some u∨∃o,H a=some (.frz o u)
theorem Rd.ok {P:Program} {w:World} {H:Hp} {h:Heap} {a:Addr} {u:HO} (r:Rd H a u) (x:vp P w H h):fQ P w H h a u:=by
 rcases r with r | ⟨o,r⟩
 ·exact x a u r
 ·obtain⟨_,q⟩:=x a _ r
  exact q
noncomputable def W9:Option HO->Prop
 | some (.lst _)=>True
 | some (.dK _)=>True
 | some (.dT _)=>True
 | some (.set _ _)=>True
 | some (.ins _ _ _)=>True
 | some (.ext _)=>True
 | _=>False
section
variable {P:Program} {w:World} {H:Hp} {h h':Heap} {x e:Addr} {o':HO}
theorem vp.write (ok:vp P w H h) (mu:W9 (H x)) (he:e=x∨H e=some (.own x)) (k:∀b u,b≠e->h.get? b=some u->h'.get? b=some u) (heo:∃u,h'.get? e=some u)
  (new:fQ P w (upd H x o') h' x o'):vp P w (upd H x o') h':=fun b u q=>by
 have nown:∀c y,H c=some (.own y)->c≠x:=fun c y r z=>by subst z;rw [r] at mu;exact mu
 have ntup:∀c xs,H c=some (.tup xs)->c≠x:=fun c xs r z=>by subst z;rw [r] at mu;exact mu
 by_cases hb:b=x
 ·subst hb;rw [az] at q;cases q;exact new
 ·rw [aK hb] at q
  by_cases hbe:b=e
  ·have q':H b=some (.own x):=by
    rcases he with z | z
    ·exact absurd (hbe.trans z) hb
    ·rw [hbe];exact z
   rw [q] at q';cases q'
   obtain⟨v,hv⟩:=heo
   exact⟨v,by rw [hbe];exact hv⟩
  ·refine(ok b u q).stay (fun c v hc r=>k c v ?_ r) (fun c r=>by rw [aK (nown c b r)];exact r) fun c xs r=>by rw [aK (ntup c xs r)];exact r
   rcases hc with rfl | hc
   ·exact hbe
   ·rintro rfl
    rcases he with z | z
    ·exact nown c b hc z
    ·rw [hc] at z;cases z;exact hb rfl
end
structure Un (fs ex:List Addr) (H H':Hp) (h h':Heap):Prop where
 keep:∀b o,h.get? b=some o->H b=none->b∉fs->b∉ex->h'.get? b=some o
 slot:∀b o,h.get? b=some o->H b=none->b∈fs->b∉ex->∃sl,h'.get? b=some { o with slots:=sl }
 free:∀b o,h.get? b=some o->H b=none->b∉ex->H' b=none
 there:∀b o,h.get? b=some o->b∉ex->∃o',h'.get? b=some o'
 tups:∀b xs,H b=some (.tup xs)->H' b=some (.tup xs)
 frzs:∀b o u,H b=some (.frz o u)->H' b=some (.frz o u)
 tbls:∀b ps,H b=some (.tbl ps)->∃more,H' b=some (.tbl (ps ++ more))
section
variable {fs fs' ex ex':List Addr} {H H1 H2:Hp} {h h1 h2 h':Heap} {a x e:Addr} {o:HO}
theorem Un.any (u:Un fs ex H H1 h h1) {b:Addr} {ob:Obj} (q:h.get? b=some ob) (n:H b=none) (hx:b∉ex):∃sl,h1.get? b=some { ob with slots:=sl }:=by
 by_cases hb:b∈fs
 ·exact u.slot b ob q n hb hx
 ·exact⟨ob.slots,u.keep b ob q n hb hx⟩
theorem Un.kept (k:∀b u,h.get? b=some u->h'.get? b=some u):Un fs ex H H h h':=
 ⟨fun b ob q _ _ _=>k b ob q,fun b ob q _ _ _=>⟨ob.slots,k b ob q⟩,fun _ _ _ n _=>n,fun b ob q _=>⟨ob,k b ob q⟩,fun _ _ q=>q,fun _ _ _ q=>q,fun _ ps q=>⟨#[],by rw [q];simp⟩⟩
theorem Un.refl:Un fs ex H H h h:=Un.kept fun _ _ q=>q
theorem Un.laid (k:∀b u,h.get? b=some u->h'.get? b=some u) (hp:h.objs.size<=a) (hn:H a=none):Un fs ex H (upd H a o) h h' where
 keep:=fun b u q _ _ _=>k b u q
 slot:=fun b u q _ _ _=>⟨u.slots,k b u q⟩
 free:=fun b u q n _=>by rw [aK (Nat.ne_of_lt (Nat.lt_of_lt_of_le (Heap.lt_size q) hp))];exact n
 there:=fun b u q _=>⟨u,k b u q⟩
 tups:=fun b xs q=>by rw [aK (aD q hn)];exact q
 frzs:=fun b u xs q=>by rw [aK (aD q hn)];exact q
 tbls:=fun b ps q=>⟨#[],by rw [aK (aD q hn),q];simp⟩
theorem Un.write (mu:W9 (H x)) (he:e=x∨H e=some (.own x)) (k:∀b u,b≠e->h.get? b=some u->h'.get? b=some u) (heo:∃u,h'.get? e=some u):Un fs ex H (upd H x o) h h':=by
 have hx:∀b,H b=none->b≠x:=fun b n z=>by subst z;rw [n] at mu;exact mu
 have hb:∀b,H b=none->b≠e:=fun b n z=>by
  subst z
  rcases he with r | r
  ·exact hx b n r
  ·rw [n] at r;cases r
 have hm:∀b u,H b=some u->¬W9 (some u)->b≠x:=fun b u q nm z=>by subst z;rw [q] at mu;exact nm mu
 refine⟨fun b u q n _ _=>k b u (hb b n) q,fun b u q n _ _=>⟨u.slots,k b u (hb b n) q⟩,fun b u q n _=>by rw [aK (hx b n)];exact n,fun b u q _=>?_,
  fun b xs q=>by rw [aK (hm b _ q fun z=>z)];exact q,fun b u xs q=>by rw [aK (hm b _ q fun z=>z)];exact q,fun b ps q=>⟨#[],by rw [aK (hm b _ q fun z=>z),q];simp⟩⟩
 by_cases hbe:b=e
 ·subst hbe;exact heo
 ·exact⟨u,k b u hbe q⟩
end
noncomputable def X3 (h:Heap) (H:Hp):List Addr:=(List.range h.objs.size).filter fun a=>(H a).isSome
noncomputable def HJ (h:Heap) (H:Hp):Heap:=PySem.W.hideAll h (X3 h H)
theorem Nj (h:Heap) (H:Hp):(HJ h H).objs.size=h.objs.size:=PySem.W.hideAll_size _ _
theorem Qo {h:Heap} {H:Hp} {b:Addr} {o:Obj} (e:h.get? b=some o) (n:H b=none):(HJ h H).get? b=some o:=
 PySem.W.hideAll_get _ e fun hm=>by
  have q:(H b).isSome=true:=(List.mem_filter.mp hm).2
  rw [n] at q;simp at q
theorem S5 {h:Heap} {H:Hp} {b:Addr} {o:Obj} (e:(HJ h H).get? b=some o):h.get? b=some o/\H b=none:=by
 have e':h.get? b=some o:=PySem.W.of_hideAll (X3 h H) e
 refine⟨e',?_⟩
 cases q:H b with
 | none=>rfl
 | some x=>
  have hm:b∈X3 h H:=List.mem_filter.mpr ⟨List.mem_range.mpr (Heap.lt_size e'),by simp [q]⟩
  have z:(HJ h H).get? b=none:=PySem.W.hideAll_none (X3 h H) hm
  rw [z] at e;cases e
structure Mod (K:PySem.W.Frag) (mg:Str->Option Value) (base:Heap):Prop where
 kin:K.In base
 glob:base.Ns mainGlobals mg
 blt:∃mb,base.Ns builtinsNs mb/\∀x:Str,x≠ "__name__" ->mb x=bootBuiltins x
 nolimit:base.NoLimit
structure Cx where
 prog:Program
 w:World
 K:PySem.W.Frag
 mg:Str->Option Value
 base:Heap
 A:Around
 N:List Str
 s₀:Shared
 H₀:Hp
 env:Env
 outer:List Env
 stack:List Env
 ex:List Addr
 fn:Str->Bool
 calm:Bool
 pn:List (Addr×Obj)
 xe:Value->Shared->Prop
noncomputable def frs (l:List Env):List Addr:=l.filterMap (·.frame)
noncomputable abbrev Cx.fs (X:Cx):List Addr:=frs X.outer
noncomputable def X5 (sc:Scope) (x:Str):Prop:=sc.names.lookup x=some .local∨sc.names.lookup x=some .cell∨sc.names.lookup x=some .free
noncomputable def Loc (sc:Scope) (x:Str):Prop:=sc.names.lookup x=some .local∨sc.names.lookup x=some .cell
noncomputable def Look (env:Env) (h:Heap) (m:Str->Option Value) (x:Str) (u:Value):Prop:=
 (env.kindOf x=some .local/\m x=some u)∨((env.kindOf x=some .cell∨env.kindOf x=some .free)/\∃c,env.cells.lookup x=some c/\h.IsCell c (some u))
structure Cx.Ok (X:Cx):Prop where
 mod:Mod X.K X.mg X.base
 kind:X.env.scope.kind=.function
 glob:X.env.globals=mainGlobals
 blt:X.env.builtins=builtinsNs
 above:X.s₀.heap.objs.size<=X.env.locals
 inj:∀x y c,X.env.cells.lookup x=some c->X.env.cells.lookup y=some c->x=y
 has:∀x,(X.env.kindOf x=some .cell∨X.env.kindOf x=some .free)->∃c,X.env.cells.lookup x=some c
 cab:∀x c,X.fn x=true->X.env.cells.lookup x=some c->X.s₀.heap.objs.size<=c
 hd:X.calm=true->X.A.handled=none
 frames:X.A.frames=some X.stack
 stk:X.stack=X.outer∨(X.stack=X.env:: X.outer/\X.env.frame=some X.env.locals)
 exf:∀b∈X.ex,b≠X.env.locals/\∀x c,X.env.cells.lookup x=some c->c≠b
 bs:∀b o,X.base.get? b=some o->X.s₀.heap.get? b=some o/\X.H₀ b=none
 bsz:X.base.objs.size<=X.s₀.heap.objs.size
 noex:∀b o,X.base.get? b=some o->b∉X.ex
 exfs:∀b∈X.ex,b∉X.fs
 funs:X.s₀.heap.FunFrames X.base X.outer
 frf:∀b∈X.fs,X.H₀ b=none
structure Inv (X:Cx) (pins:List (Addr×Obj)) (σ:List (Option V)) (H:Hp) (s:Shared):Prop where
 ok:X.Ok
 os:s.os=X.s₀.os
 bare:AllBare s.gens
 base:Un X.fs X.ex X.H₀ H X.s₀.heap s.heap
 loc:∃m,s.heap.Ns X.env.locals m/\∀(i:Nat) (x:Str) (v:V),X.N[i]?=some x->σ[i]?=some (some v)->X5 X.env.scope x->∃u,RelV v u/\Look X.env s.heap m x u
 cell:∀x c,X.env.cells.lookup x=some c->∃v,s.heap.IsCell c v
 free:H X.env.locals=none
 freeC:∀x c,X.env.cells.lookup x=some c->H c=none
 pin:∀p∈X.pn ++ pins,s.heap.get? p.1=some p.2/\H p.1=none/\p.1≠X.env.locals/\p.1∉X.fs/\∀v,p.2.data≠.cell v
 hok:vp X.prog X.w H s.heap
 len:σ.length=X.N.length
section
variable {X:Cx} {pins:List (Addr×Obj)} {σ:List (Option V)} {H H':Hp} {s:Shared} {h':Heap}
theorem Cx.Ok.nofr (ok:X.Ok) {b:Addr} {o:Obj} (e:X.base.get? b=some o):b∉X.fs:=fun hb=>by
 have:=(ok.funs.mem hb).1
 rw [e] at this;cases this
theorem Inv.bs (I:Inv X pins σ H s):∀b o,X.base.get? b=some o->s.heap.get? b=some o/\H b=none:=fun b o e=>
 ⟨I.base.keep b o (I.ok.bs b o e).1 (I.ok.bs b o e).2 (I.ok.nofr e) (I.ok.noex b o e),I.base.free b o (I.ok.bs b o e).1 (I.ok.bs b o e).2 (I.ok.noex b o e)⟩
theorem Inv.bk (I:Inv X pins σ H s):∀b o,X.base.get? b=some o->s.heap.get? b=some o:=fun b o e=>(I.bs b o e).1
theorem Inv.mod (I:Inv X pins σ H s):Mod X.K X.mg X.base:=I.ok.mod
theorem Inv.kIn (I:Inv X pins σ H s):X.K.In s.heap:=I.ok.mod.kin.keeps I.bk
theorem Inv.lt (I:Inv X pins σ H s):X.env.locals <s.heap.objs.size:=let ⟨_,hn,_⟩:=I.loc;hn.lt
theorem Inv.sz (I:Inv X pins σ H s):X.s₀.heap.objs.size<=s.heap.objs.size:=Nat.le_trans I.ok.above (Nat.le_of_lt I.lt)
theorem Inv.nofs (I:Inv X pins σ H s) {a:Addr} (h:s.heap.objs.size<=a):a∉X.fs:=fun hb=>by
 obtain⟨_,o,ho,_⟩:=I.ok.funs.mem hb
 exact absurd (Nat.lt_of_lt_of_le (Heap.lt_size ho) (Nat.le_trans I.sz h)) (Nat.lt_irrefl _)
theorem Inv.cne (I:Inv X pins σ H s):∀x c,X.env.cells.lookup x=some c->c≠X.env.locals:=fun x c e z=>by
 obtain⟨v,o,ho,hd⟩:=I.cell x c e
 obtain⟨m,⟨o',es,ep,ho',hd',_⟩,_⟩:=I.loc
 rw [z,ho'] at ho;cases ho;rw [hd'] at hd;cases hd
theorem Inv.funs (I:Inv X pins σ H s):s.heap.FunFrames X.base X.outer:=by
 have all:∀(l:List Env),(∀b∈frs l,b∈X.fs)->X.s₀.heap.FunFrames X.base l->s.heap.FunFrames X.base l:=by
  intro l
  induction l with
  | nil=>intro _ _;trivial
  | cons env r ih=>
   intro hs hl
   obtain⟨hk,⟨L,o,hf,hn,ho,hd⟩,hr⟩:=hl
   have hL:L∈X.fs:=hs L (by unfold frs;rw [List.filterMap_cons,hf];exact List.mem_cons_self)
   obtain⟨sl,e⟩:=I.base.slot L o ho (I.ok.frf L hL) hL fun z=>I.ok.exfs L z hL
   exact⟨hk,⟨L,_,hf,hn,e,hd⟩,ih (fun b hb=>hs b (by unfold frs;rw [List.filterMap_cons,hf];exact List.mem_cons_of_mem _ hb)) hr⟩
 exact all X.outer (fun _ hb=>hb) I.ok.funs
theorem Inv.stack (I:Inv X pins σ H s):s.heap.FunFrames X.base X.stack:=by
 rcases I.ok.stk with e | ⟨e,hf⟩
 ·rw [e];exact I.funs
 ·rw [e]
  obtain⟨m,hn,_⟩:=I.loc
  refine .cons (by rw [I.ok.kind];decide) hf hn ?_ I.funs
  exact Heap.get?_none_of_le (Nat.le_trans I.ok.bsz I.ok.above)
theorem Inv.stkSub (I:Inv X pins σ H s):∀b∈frs X.stack,b∈X.env.locals:: X.fs:=fun b hb=>by
 rcases I.ok.stk with e | ⟨e,hf⟩
 ·rw [e] at hb;exact List.mem_cons_of_mem _ hb
 ·rw [e] at hb
  unfold frs at hb
  rw [List.filterMap_cons,hf] at hb
  exact hb
theorem Inv.stkFree (I:Inv X pins σ H s):∀b∈frs X.stack,H b=none:=fun b hb=>by
 rcases List.mem_cons.mp (I.stkSub b hb) with e | hb
 ·rw [e];exact I.free
 ·obtain⟨_,o,ho,_⟩:=I.ok.funs.mem hb
  exact I.base.free b o ho (I.ok.frf b hb) fun z=>I.ok.exfs b z hb
theorem Inv.step {g':Array GenState} {t':Nat} {d':Drawn} {ch:List Addr} (I:Inv X pins σ H s)
  (hch:∀b∈ch,(b∈X.ex∨X.s₀.heap.objs.size<=b)/\b≠X.env.locals/\(∀x c,X.env.cells.lookup x=some c->c≠b)/\∀p∈X.pn ++ pins,p.1≠b)
  (keep:∀b o,b≠X.env.locals->b∉X.fs->b∉ch->s.heap.get? b=some o->H b=none->h'.get? b=some o)
  (slot:∀b o,b≠X.env.locals->b∈X.fs->b∉ch->s.heap.get? b=some o->H b=none->∃sl,h'.get? b=some { o with slots:=sl }) (free:∀b o,b∉ch->s.heap.get? b=some o->H b=none->H' b=none)
  (there:∀b o,b∉ch->s.heap.get? b=some o->∃o',h'.get? b=some o')
  (tups:∀b xs,H b=some (.tup xs)->H' b=some (.tup xs)) (frzs:∀b o u,H b=some (.frz o u)->H' b=some (.frz o u)) (tbls:∀b ps,H b=some (.tbl ps)->∃more,H' b=some (.tbl (ps ++ more)))
  (ns:∀m,s.heap.Ns X.env.locals m->h'.Ns X.env.locals m) (hok:vp X.prog X.w H' h') (hg:AllBare g'):
  Inv X pins σ H' { s with heap:=h',gens:=g',drawn:=d',toks:=t' }:=by
 have neL:∀b o,X.s₀.heap.get? b=some o->b≠X.env.locals:=fun b o e=>Nat.ne_of_lt (Nat.lt_of_lt_of_le (Heap.lt_size e) I.ok.above)
 have neC:∀b o,X.s₀.heap.get? b=some o->b∉X.ex->b∉ch:=fun b o e hx hb=>by
  rcases(hch b hb).1 with z | z
  ·exact hx z
  ·exact absurd (Nat.lt_of_lt_of_le (Heap.lt_size e) z) (Nat.lt_irrefl _)
 have cellK:∀x c,X.env.cells.lookup x=some c->∀v,s.heap.IsCell c v->h'.IsCell c v:=fun x c e v ⟨o,ho,hd⟩=>by
  have nch:c∉ch:=fun z=>(hch c z).2.2.1 x c e rfl
  by_cases hc:c∈X.fs
  ·obtain⟨sl,q⟩:=slot c o (I.cne x c e) hc nch ho (I.freeC x c e)
   exact⟨_,q,hd⟩
  ·exact⟨o,keep c o (I.cne x c e) hc nch ho (I.freeC x c e),hd⟩
 refine⟨I.ok,I.os,hg,⟨fun b o e n hb hx=>?_,fun b o e n hb hx=>?_,fun b o e n hx=>?_,fun b o e hx=>?_,fun b xs e=>tups b xs (I.base.tups b xs e),fun b o xs e=>frzs b o xs (I.base.frzs b o xs e),fun b ps e=>?_⟩,?_,fun x c e=>?_,?_,fun x c e=>?_,fun p hp=>?_,hok,I.len⟩
 ·exact keep b o (neL b o e) hb (neC b o e hx) (I.base.keep b o e n hb hx) (I.base.free b o e n hx)
 ·obtain⟨sl,e1⟩:=I.base.slot b o e n hb hx
  obtain⟨sl',e2⟩:=slot b _ (neL b o e) hb (neC b o e hx) e1 (I.base.free b o e n hx)
  exact⟨sl',e2⟩
 ·obtain⟨o',e1⟩:=I.base.there b o e hx
  exact free b o' (neC b o e hx) e1 (I.base.free b o e n hx)
 ·obtain⟨o',e1⟩:=I.base.there b o e hx
  exact there b o' (neC b o e hx) e1
 ·obtain⟨m1,e1⟩:=I.base.tbls b ps e
  obtain⟨m2,e2⟩:=tbls b _ e1
  exact⟨m1 ++ m2,by rw [e2,Array.append_assoc]⟩
 ·obtain⟨m,hn,hl⟩:=I.loc
  refine⟨m,ns m hn,fun i x v e1 e2 e3=>?_⟩
  obtain⟨u,r,l⟩:=hl i x v e1 e2 e3
  refine⟨u,r,?_⟩
  rcases l with l | ⟨k,c,e,z⟩
  ·exact .inl l
  ·exact .inr ⟨k,c,e,cellK x c e _ z⟩
 ·obtain⟨v,z⟩:=I.cell x c e
  exact⟨v,cellK x c e v z⟩
 ·obtain⟨m,⟨o,_,_,ho,_⟩,_⟩:=I.loc
  exact free _ o (fun z=>(hch _ z).2.1 rfl) ho I.free
 ·obtain⟨v,o,ho,hd⟩:=I.cell x c e
  exact free c o (fun z=>(hch c z).2.2.1 x c e rfl) ho (I.freeC x c e)
 ·obtain⟨e,n,ne,nf,d⟩:=I.pin p hp
  have nch:p.1∉ch:=fun z=>(hch p.1 z).2.2.2 p hp rfl
  exact⟨keep p.1 p.2 ne nf nch e n,free p.1 p.2 nch e n,ne,nf,d⟩
theorem Inv.un {t':Nat} (I:Inv X pins σ H s) (u:Un X.fs [] H H' s.heap h') (hok:vp X.prog X.w H' h'):Inv X pins σ H' { s with heap:=h',toks:=t' }:=by
 obtain⟨m,⟨o,es,ep,ho,r⟩,_⟩:=id I.loc
 obtain⟨sl,hL⟩:=u.any ho I.free (by simp)
 exact I.step (g':=s.gens) (d':=s.drawn) (ch:=[]) (fun _ z=>nomatch z) (fun b o _ hb _ e n=>u.keep b o e n hb (by simp)) (fun b o _ hb _ e n=>u.slot b o e n hb (by simp)) (fun b o _ e n=>u.free b o e n (by simp)) (fun b o _ e=>u.there b o e (by simp)) u.tups u.frzs u.tbls (fun m' hm=>by
  obtain⟨o',es',ep',ho',r'⟩:=hm
  rw [ho] at ho';cases ho'
  exact⟨_,es',ep',hL,r'⟩) hok I.bare
theorem Inv.call {g':Array GenState} {t':Nat} {d':Drawn} {ch:List Addr} (I:Inv X pins σ H s) (u:Un (frs X.stack) ch H H' s.heap h') (hok:vp X.prog X.w H' h') (hg:AllBare g')
  (hch:∀b∈ch,(b∈X.ex∨X.s₀.heap.objs.size<=b)/\b≠X.env.locals/\(∀x c,X.env.cells.lookup x=some c->c≠b)/\∀p∈X.pn ++ pins,p.1≠b):
  Inv X pins σ H' { s with heap:=h',gens:=g',drawn:=d',toks:=t' }:=by
 obtain⟨m,⟨o,es,ep,ho,r⟩,_⟩:=id I.loc
 obtain⟨sl,hL⟩:=u.any ho I.free fun z=>(hch _ z).2.1 rfl
 exact I.step (ch:=ch) hch (fun b o hL hb hc e n=>u.keep b o e n (fun z=>(List.mem_cons.mp (I.stkSub b z)).elim hL hb) hc) (fun b o _ _ hc e n=>u.any e n hc) (fun b o hc e n=>u.free b o e n hc) (fun b o hc e=>u.there b o e hc) u.tups u.frzs u.tbls (fun m' hm=>by
  obtain⟨o',es',ep',ho',r'⟩:=hm
  rw [ho] at ho';cases ho'
  exact⟨_,es',ep',hL,r'⟩) hok hg
theorem Inv.turned {t':Nat} {it:Addr} (I:Inv X pins σ H s) (k:∀b o,b≠it->s.heap.get? b=some o->h'.get? b=some o) (hn:H it=none) (hL:it≠X.env.locals)
  (h1:it∈X.ex∨X.s₀.heap.objs.size<=it) (h2:∀x c,X.env.cells.lookup x=some c->c≠it) (h3:∀p∈X.pn ++ pins,p.1≠it):Inv X pins σ H { s with heap:=h',toks:=t' }:=by
 have nit:∀b u,H b=some u->b≠it:=fun b u e z=>by rw [z,hn] at e;cases e
 refine I.step (g':=s.gens) (d':=s.drawn) (ch:=[it]) (fun b hb=>?_) (fun b o _ _ hc e _=>k b o (fun z=>hc (by simp [z])) e) (fun b o _ _ hc e _=>⟨o.slots,k b o (fun z=>hc (by simp [z])) e⟩) (fun _ _ _ _ n=>n)
  (fun b o hc e=>⟨o,k b o (fun z=>hc (by simp [z])) e⟩) (fun _ _ e=>e) (fun _ _ _ e=>e) (fun b ps e=>⟨#[],by rw [e];simp⟩) (fun m hm=>?_) (fun b u e=>?_) I.bare
 ·have e:b=it:=by simpa using hb
  subst e
  exact⟨h1,hL,h2,h3⟩
 ·obtain⟨o,es,ep,ho,r⟩:=hm
  exact⟨o,es,ep,k _ o (Ne.symm hL) ho,r⟩
 ·refine(I.hok b u e).stay (fun c v hc q=>k c v ?_ q) (fun _ q=>q) fun _ _ q=>q
  rcases hc with z | z
  ·rw [z];exact nit b u e
  ·exact nit c _ z
theorem Inv.tok (I:Inv X pins σ H s) (t:Nat):Inv X pins σ H { s with toks:=t }:=I.un (h':=s.heap) (t':=t) Un.refl I.hok
theorem Inv.kept {t':Nat} (I:Inv X pins σ H s) (k:∀b u,s.heap.get? b=some u->h'.get? b=some u):Inv X pins σ H { s with heap:=h',toks:=t' }:=I.un (Un.kept k) (I.hok.kept k)
theorem Inv.laid {a:Addr} {o:HO} {t':Nat} (I:Inv X pins σ H s) (k:∀b u,s.heap.get? b=some u->h'.get? b=some u) (hp:s.heap.objs.size<=a) (new:fQ X.prog X.w (upd H a o) h' a o):
  Inv X pins σ (upd H a o) { s with heap:=h',toks:=t' }:=I.un (Un.laid k hp (I.hok.fresh hp)) (I.hok.laid k hp new)
theorem Inv.write {x e:Addr} {o:HO} {t':Nat} (I:Inv X pins σ H s) (mu:W9 (H x)) (he:e=x∨H e=some (.own x)) (k:∀b u,b≠e->s.heap.get? b=some u->h'.get? b=some u) (heo:∃u,h'.get? e=some u)
  (new:fQ X.prog X.w (upd H x o) h' x o):Inv X pins σ (upd H x o) { s with heap:=h',toks:=t' }:=I.un (Un.write mu he k heo) (I.hok.write mu he k heo new)
theorem Inv.weak {σ':List (Option V)} (I:Inv X pins σ H s) (hl:σ'.length=σ.length) (w:∀(i:Nat) v,σ'[i]?=some (some v)->σ[i]?=some (some v)):Inv X pins σ' H s:=
 ⟨I.ok,I.os,I.bare,I.base,let ⟨m,hn,hl'⟩:=I.loc;⟨m,hn,fun i x v e1 e2 e3=>hl' i x v e1 (w i v e2) e3⟩,I.cell,I.free,I.freeC,I.pin,I.hok,hl.trans I.len⟩
theorem Inv.pins_of {pins':List (Addr×Obj)} (I:Inv X pins σ H s) (h:∀p∈pins',s.heap.get? p.1=some p.2/\H p.1=none/\p.1≠X.env.locals/\p.1∉X.fs/\∀v,p.2.data≠.cell v):Inv X pins' σ H s:=
 ⟨I.ok,I.os,I.bare,I.base,I.loc,I.cell,I.free,I.freeC,fun p hp=>(List.mem_append.mp hp).elim (fun z=>I.pin p (List.mem_append_left _ z)) (h p),I.hok,I.len⟩
theorem Ii {N:List Str} (hN:N.Nodup) {i j:Nat} {x:Str} (a:N[i]?=some x) (b:N[j]?=some x):i=j:=by
 obtain⟨h1,e1⟩:=List.getElem?_eq_some_iff.mp a
 obtain⟨h2,e2⟩:=List.getElem?_eq_some_iff.mp b
 exact(List.getElem_inj hN).mp (e1.trans e2.symm)
theorem zf {M:Model} {A:Around} {E:Value->Shared->Prop} {i:Nat} {x:Str} {v:V} {u:Value} {Q:Unit->Shared->Prop} (I:Inv X pins σ H s) (hN:X.N.Nodup) (hi:X.N[i]?=some x) (hx:Loc X.env.scope x) (r:RelV v u)
  (h:∀s',Inv X pins (σ.set i (some v)) H s'->(∃a,Heap.SameBut a s.heap s'.heap/\(a=X.env.locals∨X.env.cells.lookup x=some a))->Q () s') (hf:X.fn x=true∨X.env.scope.names.lookup x=some .local:=by first | exact .inl rfl | exact .inr rfl | assumption):wpAny M A (storeName X.env x u) Q E s:=by
 obtain⟨m,hn,hl⟩:=id I.loc
 have hcls:(X.env.scope.kind == .class || (X.env.scope.kind == .module && X.env.locals != X.env.globals))=false:=by rw [I.ok.kind];rfl
 have hiσ:i <σ.length:=by rw [I.len];exact(List.getElem?_eq_some_iff.mp hi).1
 have cne:=I.cne
 have tracked:∀{a:Addr} {h':Heap},(∃o,s.heap.get? a=some o/\H a=none)->Heap.SameBut a s.heap h'->vp X.prog X.w H h':=fun {a h'} ha hs b ob e=>by
  obtain⟨_,_,hfree⟩:=ha
  refine(I.hok b ob e).stay (fun c w' hc q=>(hs.2 c ?_).trans q) (fun _ q=>q) fun _ _ q=>q
  rintro rfl
  rcases hc with rfl | hc
  ·rw [hfree] at e;cases e
  ·rw [hfree] at hc;cases hc
 rcases hx with hk | hk
 ·refine wpAny_storeName_local hk hn (fun h' hn' hs=>?_) hcls
  obtain⟨oL,_,_,hoL,_⟩:=id hn
  refine h _ ⟨I.ok,I.os,I.bare,⟨fun b o e n hb hx=>?_,fun b o e n hb hx=>?_,I.base.free,fun b o e hx=>?_,I.base.tups,I.base.frzs,I.base.tbls⟩,⟨_,hn',fun j y v' e1 e2 e3=>?_⟩,fun y c e=>?_,I.free,I.freeC,fun p hp=>?_,tracked ⟨oL,hoL,I.free⟩ hs,by simpa using I.len⟩ ⟨_,hs,.inl rfl⟩
  ·exact(hs.2 b (Nat.ne_of_lt (Nat.lt_of_lt_of_le (Heap.lt_size e) I.ok.above))).trans (I.base.keep b o e n hb hx)
  ·obtain⟨sl,e1⟩:=I.base.slot b o e n hb hx
   exact⟨sl,(hs.2 b (Nat.ne_of_lt (Nat.lt_of_lt_of_le (Heap.lt_size e) I.ok.above))).trans e1⟩
  ·obtain⟨o',e1⟩:=I.base.there b o e hx
   exact⟨o',(hs.2 b (Nat.ne_of_lt (Nat.lt_of_lt_of_le (Heap.lt_size e) I.ok.above))).trans e1⟩
  ·by_cases hj:j=i
   ·subst hj
    rw [hi] at e1;cases e1
    rw [List.getElem?_set_self hiσ] at e2
    cases e2
    exact⟨u,r,.inl ⟨hk,by simp⟩⟩
   ·rw [List.getElem?_set_ne (Ne.symm hj)] at e2
    obtain⟨u',r',q⟩:=hl j y v' e1 e2 e3
    refine⟨u',r',?_⟩
    rcases q with ⟨k,e⟩ | ⟨k,c,e,z⟩
    ·refine .inl ⟨k,?_⟩
     have:y≠x:=fun e=>hj (Ii hN e1 (e ▸ hi))
     simp [this,e]
    ·exact .inr ⟨k,c,e,z.sameBut hs (cne y c e)⟩
  ·obtain⟨w',z⟩:=I.cell y c e
   exact⟨w',z.sameBut hs (cne y c e)⟩
  ·obtain⟨e,n,ne,nf,d⟩:=I.pin p hp
   exact⟨(hs.2 p.1 ne).trans e,n,ne,nf,d⟩
 ·have hfn:X.fn x=true:=by
   rcases hf with z | z
   ·exact z
   ·rw [z] at hk;cases hk
  obtain⟨c,hc⟩:=I.ok.has x (.inl hk)
  obtain⟨w',z⟩:=I.cell x c hc
  refine wpAny_storeName_cell I.ok.kind hk hc z (fun h' hc' hs=>?_)
  obtain⟨oc,hoc,hocd⟩:=id z
  refine h { s with heap:=h' } ⟨I.ok,I.os,I.bare,⟨fun b o e n hb hx=>?_,fun b o e n hb hx=>?_,I.base.free,fun b o e hx=>?_,I.base.tups,I.base.frzs,I.base.tbls⟩,⟨m,hn.sameBut hs (Ne.symm (cne x c hc)),fun j y v' e1 e2 e3=>?_⟩,fun y c' e=>?_,I.free,I.freeC,fun p hp=>?_,tracked ⟨oc,hoc,I.freeC x c hc⟩ hs,by simpa using I.len⟩ ⟨c,hs,.inr hc⟩
  ·exact(hs.2 b (Nat.ne_of_lt (Nat.lt_of_lt_of_le (Heap.lt_size e) (I.ok.cab x c hfn hc)))).trans (I.base.keep b o e n hb hx)
  ·obtain⟨sl,e1⟩:=I.base.slot b o e n hb hx
   exact⟨sl,(hs.2 b (Nat.ne_of_lt (Nat.lt_of_lt_of_le (Heap.lt_size e) (I.ok.cab x c hfn hc)))).trans e1⟩
  ·obtain⟨o',e1⟩:=I.base.there b o e hx
   exact⟨o',(hs.2 b (Nat.ne_of_lt (Nat.lt_of_lt_of_le (Heap.lt_size e) (I.ok.cab x c hfn hc)))).trans e1⟩
  ·by_cases hj:j=i
   ·subst hj
    rw [hi] at e1;cases e1
    rw [List.getElem?_set_self hiσ] at e2
    cases e2
    exact⟨u,r,.inr ⟨.inl hk,c,hc,hc'⟩⟩
   ·rw [List.getElem?_set_ne (Ne.symm hj)] at e2
    obtain⟨u',r',q⟩:=hl j y v' e1 e2 e3
    refine⟨u',r',?_⟩
    rcases q with q | ⟨k,c',e,z'⟩
    ·exact .inl q
    ·refine .inr ⟨k,c',e,z'.sameBut hs ?_⟩
     rintro rfl
     exact hj (Ii hN e1 (I.ok.inj _ _ _ e hc ▸ hi))
  ·by_cases hcc:c'=c
   ·subst hcc;exact⟨_,hc'⟩
   ·obtain⟨w2,z2⟩:=I.cell y c' e
    exact⟨w2,z2.sameBut hs hcc⟩
  ·obtain⟨e,n,ne,nf,d⟩:=I.pin p hp
   refine⟨(hs.2 p.1 ?_).trans e,n,ne,nf,d⟩
   intro q
   rw [q,hoc] at e
   have q':oc=p.2:=Option.some.inj e
   exact d w' (by rw [<-q'];exact hocd)
theorem Jr {M:Model} {A:Around} {E:Value->Shared->Prop} {i:Nat} {x:Str} {v:V} {u:Value} {Q:Unit->Shared->Prop} (I:Inv X pins σ H s) (hN:X.N.Nodup) (hi:X.N[i]?=some x) (hx:Loc X.env.scope x) (r:RelV v u)
  (h:∀s',Inv X pins (σ.set i (some v)) H s'->Q () s') (hf:X.fn x=true∨X.env.scope.names.lookup x=some .local:=by first | exact .inl rfl | exact .inr rfl | assumption):wpAny M A (storeName X.env x u) Q E s:=
 zf I hN hi hx r (fun s' I' _=>h s' I') hf
theorem Inv.call' {s':Shared} {ch:List Addr} (I:Inv X pins σ H s) (ho:s'.os=s.os) (u:Un (frs X.stack) ch H H' s.heap s'.heap) (hok:vp X.prog X.w H' s'.heap) (hg:AllBare s'.gens)
  (hch:∀b∈ch,(b∈X.ex∨X.s₀.heap.objs.size<=b)/\b≠X.env.locals/\(∀x c,X.env.cells.lookup x=some c->c≠b)/\∀p∈X.pn ++ pins,p.1≠b):Inv X pins σ H' s':=by
 obtain⟨h',g',d',t',o'⟩:=s'
 have e:o'=s.os:=ho
 subst e
 exact I.call (g':=g') (t':=t') (d':=d') u hok hg hch
end
noncomputable abbrev XK:=Value->Option Addr->Hp->Prop
noncomputable abbrev St:=List (Option V)
noncomputable abbrev VK:=V->Hp->Prop
noncomputable abbrev TE:=St->Hp->VK->Prop
noncomputable abbrev TT:=St->Hp->(Bool->Hp->Prop)->Prop
noncomputable abbrev TA:=St->Hp->(List V->Hp->Prop)->Prop
structure Ends where
 nx:St->Hp->Prop
 rt:VK
 bk:St->Hp->Prop:=fun _ _=>False
 ct:St->Hp->Prop:=fun _ _=>False
noncomputable abbrev TS:=Ends->St->Hp->Prop
noncomputable def EP (X:Cx) (pins:List (Addr×Obj)) (σ:St) (Q:VK) (u:Value) (s':Shared):Prop:=∃v H',Inv X pins σ H' s'/\RelV v u/\Q v H'
noncomputable def TP (X:Cx) (pins:List (Addr×Obj)) (σ:St) (Q:Bool->Hp->Prop) (b:Bool) (s':Shared):Prop:=∃H',Inv X pins σ H' s'/\Q b H'
noncomputable def AP (X:Cx) (pins:List (Addr×Obj)) (σ:St) (Q:List V->Hp->Prop) (us:List Value) (s':Shared):Prop:=∃vs H',Inv X pins σ H' s'/\Vals vs us/\Q vs H'
noncomputable def SP (X:Cx) (pins:List (Addr×Obj)) (D:Ends) (f:Flow) (s':Shared):Prop:=
 match f with
 | .next=>∃σ' H',Inv X pins σ' H' s'/\D.nx σ' H'
 | .brk=>∃σ' H',Inv X pins σ' H' s'/\D.bk σ' H'
 | .cont=>∃σ' H',Inv X pins σ' H' s'/\D.ct σ' H'
 | .ret u=>∃v σ' H',Inv X pins σ' H' s'/\RelV v u/\D.rt v H'
noncomputable def PE (X:Cx) (e:Expr) (t:TE):Prop:=
 ∀(pins:List (Addr×Obj)) (s:Shared) (σ:St) (H:Hp) (Q:VK),Inv X pins σ H s->t σ H Q->wpAny (model X.prog X.w) X.A (eval e X.env) (EP X pins σ Q) X.xe s
noncomputable def PT (X:Cx) (e:Expr) (t:TT):Prop:=
 ∀(pins:List (Addr×Obj)) (s:Shared) (σ:St) (H:Hp) (Q:Bool->Hp->Prop),Inv X pins σ H s->t σ H Q->wpAny (model X.prog X.w) X.A (isTrue e X.env (eval e X.env)) (TP X pins σ Q) X.xe s
noncomputable def PW (X:Cx) (e:Expr) (t:TT):Prop:=
 ∀(whole:Sem Value) (pins:List (Addr×Obj)) (s:Shared) (σ:St) (H:Hp) (Q:Bool->Hp->Prop),Inv X pins σ H s->t σ H Q->wpAny (model X.prog X.w) X.A (isTrue e X.env whole) (TP X pins σ Q) X.xe s
theorem PW.pt {X:Cx} {e:Expr} {t:TT} (h:PW X e t):PT X e t:=h _
noncomputable def PA (X:Cx) (es:List Expr) (t:TA):Prop:=
 ∀(pos:Pos) (pins:List (Addr×Obj)) (s:Shared) (σ:St) (H:Hp) (Q:List V->Hp->Prop),Inv X pins σ H s->t σ H Q->wpAny (model X.prog X.w) X.A (spliced (backTo pos (starEach es X.env))) (AP X pins σ Q) X.xe s
noncomputable def PS (X:Cx) (st:Stmt) (t:TS):Prop:=
 ∀(pins:List (Addr×Obj)) (s:Shared) (σ:St) (H:Hp) (D:Ends),Inv X pins σ H s->t D σ H->wpAny (model X.prog X.w) X.A (exec st X.env) (SP X pins D) X.xe s
noncomputable def Mr (X:Cx) (st:List Stmt) (t:TS):Prop:=
 ∀(pins:List (Addr×Obj)) (s:Shared) (σ:St) (H:Hp) (D:Ends),Inv X pins σ H s->t D σ H->wpAny (model X.prog X.w) X.A (execs st X.env) (SP X pins D) X.xe s
theorem dI {α:Type} {t:Sem α} {Q Q':α->Shared->Prop} {M:Model} {A:Around} {E:Value->Shared->Prop} {s:Shared} (h:wpAny M A t Q E s) (hQ:∀a s,Q a s->Q' a s):wpAny M A t Q' E s:=wpAny_mono h hQ fun _ _ x=>x
section
variable {X:Cx}
inductive Ut (i:Nat) (σ:St) (H:Hp) (Q:VK):Prop where
 | mk:∀v,σ[i]?=some (some v)->Q v H->Ut i σ H Q
noncomputable def Xv (i:Nat):TE:=fun σ H Q=>Ut i σ H Q
noncomputable def tC (v:V):TE:=fun _ H Q=>Q v H
theorem VH {i:Nat} {x:Str} {pos:Pos} (hN:X.N[i]?=some x) (hv:X5 X.env.scope x) (hd:(x == ("__debug__" :Str))=false:=by decide) (hcd:(x == ("__classdict__" :Str))=false:=by decide):PE X (.Name x pos) (Xv i):=by
 intro pins s σ H Q I h
 obtain⟨v,e,h⟩:=h
 obtain⟨m,hn,hl⟩:=I.loc
 obtain⟨u,r,l⟩:=hl i x v hN e hv
 have fin:EP X pins σ Q u s:=⟨v,H,I,r,h⟩
 rcases l with ⟨hk,hm⟩ | ⟨hk,c,hc,hcell⟩
 ·exact wpAny_Name (wpAny_loadName_local I.ok.kind hk hn hm fin) hd
 ·rcases hk with hk | hk
  ·exact wpAny_Name (wpAny_loadName_cell I.ok.kind hk hc hcell fin) hd
  ·exact wpAny_Name (wpAny_loadName_free I.ok.kind hk hc hcell fin hcd) hd
theorem au {i j pos}:PE X (.Constant (.int i) j pos) (tC (.int i)):=fun _ _ _ H _ I h=>wpAny_Constant_int ⟨.int i,H,I.tok _,⟨_,rfl⟩,h⟩
theorem jT {b j pos}:PE X (.Constant (.bool b) j pos) (tC (.bl b)):=fun _ _ _ H _ I h=>Constant_bool ⟨.bl b,H,I,rfl,h⟩
theorem uO {j pos}:PE X (.Constant .none j pos) (tC .non):=fun _ _ _ H _ I h=>Constant_none ⟨.non,H,I,rfl,h⟩
theorem bG {x j pos}:PE X (.Constant (.str x) j pos) (tC (.str x)):=fun _ _ _ H _ I h=>Calls.Constant_str ⟨.str x,H,I.tok _,⟨_,rfl⟩,h⟩
noncomputable def Gl (X:Cx) (x:Str):Prop:=X.env.kindOf x=some .globalImplicit
theorem Hx {E:Value->Shared->Prop} {pins:List (Addr×Obj)} {s:Shared} {σ:St} {H:Hp} {x:Str} {u:Value} {pos:Pos} {Q:Value->Shared->Prop} (I:Inv X pins σ H s) (hg:Gl X x) (hm:X.mg x=some u) (h:Q u s)
  (hd:(x == ("__debug__" :Str))=false:=by decide):wpAny (model X.prog X.w) X.A (eval (.Name x pos) X.env) Q E s:=
 Calls.Name_function_global I.ok.kind hg (Calls.loadGlobal_global (by rw [I.ok.glob];exact I.mod.glob.keeps I.bk) hm h) hd
theorem Ib {E:Value->Shared->Prop} {pins:List (Addr×Obj)} {s:Shared} {σ:St} {H:Hp} {x:Str} {u:Value} {pos:Pos} {Q:Value->Shared->Prop} (I:Inv X pins σ H s) (hg:Gl X x) (hm:X.mg x=none) (hv:bootBuiltins x=some u) (h:Q u s)
  (hn:x≠ "__name__" :=by decide) (hd:(x == ("__debug__" :Str))=false:=by decide):wpAny (model X.prog X.w) X.A (eval (.Name x pos) X.env) Q E s:=by
 obtain⟨mb,h1,h2⟩:=I.mod.blt
 exact Calls.Name_function_global I.ok.kind hg (Calls.loadGlobal_builtin (by rw [I.ok.glob];exact I.mod.glob.keeps I.bk) hm (by rw [I.ok.blt];exact h1.keeps I.bk) ((h2 x hn).trans hv) h) hd
theorem Gr {x:Str} {v:V} {u:Value} {pos:Pos} (hg:Gl X x) (hm:X.mg x=some u) (r:RelV v u) (hd:(x == ("__debug__" :Str))=false:=by decide):PE X (.Name x pos) (tC v):=
 fun _ _ _ H _ I h=>Hx I hg hm ⟨v,H,I,r,h⟩ hd
theorem S6 {x:Str} {v:V} {u:Value} {pos:Pos} (hg:Gl X x) (hm:X.mg x=none) (hv:bootBuiltins x=some u) (r:RelV v u) (hn:x≠ "__name__" :=by decide) (hd:(x == ("__debug__" :Str))=false:=by decide):PE X (.Name x pos) (tC v):=
 fun _ _ _ H _ I h=>Ib I hg hm hv ⟨v,H,I,r,h⟩ hn hd
variable {a b:Expr} {ta tb:TE} {pos:Pos}
noncomputable def PC (X:Cx) (op:CmpOp) (a b:Expr) (t:TE):Prop:=
 ∀(pins:List (Addr×Obj)) (s:Shared) (σ:St) (H:Hp) (Q:VK),Inv X pins σ H s->t σ H Q->
  wpAny (model X.prog X.w) X.A (eval a X.env) (fun v s₁=>wpAny (model X.prog X.w) X.A (eval b X.env) (fun u s₂=>wpAny (model X.prog X.w) X.A (compareOp op v u) (EP X pins σ Q) X.xe s₂) X.xe s₁) X.xe s
theorem JD (b:Expr) {op:CmpOp} (h:op≠.In) (h2:op≠.NotIn):behindInMarks op b=false:=by
 have e1:(op == CmpOp.In)=false:=by cases op <;> first | rfl | exact absurd rfl h
 have e2:(op == CmpOp.NotIn)=false:=by cases op <;> first | rfl | exact absurd rfl h2
 cases b <;> simp [behindInMarks,e1,e2]
noncomputable def Yw (ta:TE):TE:=fun σ H Q=>ta σ H fun x H1=>Q (.bl (decide (x=.non))) H1
noncomputable def WL (ta:TE):TE:=fun σ H Q=>ta σ H fun x H1=>Q (.bl (!decide (x=.non))) H1
theorem RelV.none_iff {x:V} {v:Value} (r:RelV x v):(v == Value.none)=decide (x=.non):=by
 cases x with
 | non=>cases r;rfl
 | bl _=>cases r;rfl
 | int _=>obtain⟨t,rfl⟩:=r;rfl
 | str _=>obtain⟨t,rfl⟩:=r;rfl
 | byt _=>obtain⟨t,rfl⟩:=r;rfl
 | flt _=>obtain⟨t,rfl⟩:=r;rfl
 | ref _=>cases r;rfl
 | ty _=>cases r;rfl
theorem zy {j pos'} (ha:PE X a ta):PC X .Is a (.Constant .none j pos') (Yw ta):=by
 intro pins s σ H Q I h
 refine dI (ha pins s σ H _ I h) fun v s1 hpt=>?_
 obtain⟨x,H1,I1,r1,q1⟩:=hpt
 exact Constant_none (is_none_gen ⟨.bl _,H1,I1,by rw [r1.none_iff];rfl,q1⟩)
theorem rP {j pos'} (ha:PE X a ta):PC X .IsNot a (.Constant .none j pos') (WL ta):=by
 intro pins s σ H Q I h
 refine dI (ha pins s σ H _ I h) fun v s1 hpt=>?_
 obtain⟨x,H1,I1,r1,q1⟩:=hpt
 exact Constant_none (isnot_none_gen ⟨.bl _,H1,I1,by rw [r1.none_iff];rfl,q1⟩)
inductive Y4 (Q:Bool->Hp->Prop) (x:V) (H1:Hp):Prop where
 | mk:∀c,x=.bl c->Q c H1->Y4 Q x H1
noncomputable def tB (t:TE):TT:=fun σ H Q=>t σ H fun x H1=>Y4 Q x H1
theorem Bx {op:CmpOp} {t:TE} (h:PC X op a b t) (h1:behindInMarks op b=false:=by first | exact JD _ (by decide) (by decide) | rfl):PE X (.Compare a [op] [b] pos) t:=fun pins s σ H Q I hw=>wpAny_Compare1 (h pins s σ H Q I hw) h1
theorem gH {op:CmpOp} {t:TE} (h:PC X op a b t) (h1:behindInMarks op b=false:=by first | exact JD _ (by decide) (by decide) | rfl):PT X (.Compare a [op] [b] pos) (tB t):=by
 intro pins s σ H Q I hw
 refine wpAny_isTrue_Compare1 (dI (h pins s σ H _ I hw) fun v s1 h1=>dI h1 fun u s2 h2=>dI h2 fun c s3 hpt=>?_) h1
 obtain⟨x,H1,I1,r1,q1⟩:=hpt
 obtain⟨d,rfl,q⟩:=q1
 cases r1
 exact wpAny_truthy_bool ⟨H1,I1,q⟩
theorem fW {e:Expr} {t:TE} (h:PE X e t) (he:∀whole,isTrue e X.env whole=(do let v <-whole;standAt e.pos;holding [v] (truthy v)):=by intro _;rfl):PT X e (tB t):=by
 intro pins s σ H Q I hw
 refine isTrue_plain (dI (h pins s σ H _ I hw) fun v s1 ⟨x,H1,I1,r1,q1⟩=>?_) (he _)
 obtain⟨d,rfl,q⟩:=q1
 cases r1
 exact wpAny_truthy_bool ⟨H1,I1,q⟩
variable {tA tB':TT} {rest:List Expr}
noncomputable def Yc (t u:TT):TT:=fun σ H Q=>t σ H fun c H1=>if c=true then u σ H1 Q else Q false H1
noncomputable def tOr (t u:TT):TT:=fun σ H Q=>t σ H fun c H1=>if c=true then Q true H1 else u σ H1 Q
noncomputable def Yr (t:TT):TT:=fun σ H Q=>t σ H fun c H1=>Q (!c) H1
theorem u5 (ha:PT X a tA):PW X (.BoolOp .And [a] pos) tA:=by
 intro wh pins s σ H Q I h
 refine isTrue_and (dI (ha pins s σ H Q I h) fun c s1 e=>?_)
 cases c with
 | true=>exact isTrue_and_nil e
 | false=>exact e
theorem mq (ha:PT X a tA):PW X (.BoolOp .Or [a] pos) tA:=by
 intro wh pins s σ H Q I h
 refine isTrue_or (dI (ha pins s σ H Q I h) fun c s1 e=>?_)
 cases c with
 | false=>exact isTrue_or_nil e
 | true=>exact e
theorem wB (ha:PT X a tA) (hb:PW X (.BoolOp .And (b:: rest) pos) tB'):PW X (.BoolOp .And (a:: b:: rest) pos) (Yc tA tB'):=by
 intro wh pins s σ H Q I h
 refine isTrue_and (dI (ha pins s σ H _ I h) fun c s1 hpt=>?_)
 obtain⟨H1,I1,q1⟩:=hpt
 cases c with
 | true=>exact hb wh pins s1 σ H1 Q I1 q1
 | false=>exact⟨H1,I1,q1⟩
theorem tE (ha:PT X a tA) (hb:PW X (.BoolOp .Or (b:: rest) pos) tB'):PW X (.BoolOp .Or (a:: b:: rest) pos) (tOr tA tB'):=by
 intro wh pins s σ H Q I h
 refine isTrue_or (dI (ha pins s σ H _ I h) fun c s1 hpt=>?_)
 obtain⟨H1,I1,q1⟩:=hpt
 cases c with
 | true=>exact⟨H1,I1,q1⟩
 | false=>exact hb wh pins s1 σ H1 Q I1 q1
theorem gK (ha:PT X a tA):PT X (.UnaryOp .Not a pos) (Yr tA):=by
 intro pins s σ H Q I h
 exact isTrue_not (ha pins s σ H (fun c H1=>Q (!c) H1) I h)
inductive Qc (tb:TE) (σ:St) (Q:VK) (x:V) (H1:Hp):Prop where
 | mk:∀c,x=.bl c->(if c=true then tb σ H1 Q else Q (.bl false) H1)->Qc tb σ Q x H1
noncomputable def WK (ta tb:TE):TE:=fun σ H Q=>ta σ H fun x H1=>Qc tb σ Q x H1
inductive Um (tb:TE) (σ:St) (Q:VK) (x:V) (H1:Hp):Prop where
 | mk:∀c,x=.bl c->(if c=true then Q (.bl true) H1 else tb σ H1 Q)->Um tb σ Q x H1
noncomputable def YZ (ta tb:TE):TE:=fun σ H Q=>ta σ H fun x H1=>Um tb σ Q x H1
inductive QB (Q:VK) (x:V) (H1:Hp):Prop where
 | mk:∀c,x=.bl c->Q (.bl (!c)) H1->QB Q x H1
noncomputable def Wy (ta:TE):TE:=fun σ H Q=>ta σ H fun x H1=>QB Q x H1
theorem zj {op} {t:TE} (h:PE X a t):PE X (.BoolOp op [a] pos) t:=fun pins s σ H Q I hw=>BoolOp_one (h pins s σ H Q I hw)
theorem yQ (ha:PE X a ta) (hb:PE X (.BoolOp .And (b:: rest) pos) tb):PE X (.BoolOp .And (a:: b:: rest) pos) (WK ta tb):=by
 intro pins s σ H Q I h
 refine BoolOp_and (dI (ha pins s σ H _ I h) fun v s1 hpt=>?_)
 obtain⟨x,H1,I1,r1,q1⟩:=hpt
 obtain⟨c,rfl,q1⟩:=q1
 cases r1
 refine wpAny_truthy_bool ?_
 cases c with
 | true=>exact hb pins s1 σ H1 Q I1 q1
 | false=>exact⟨.bl false,H1,I1,rfl,q1⟩
theorem Wt (ha:PE X a ta) (hb:PE X (.BoolOp .Or (b:: rest) pos) tb):PE X (.BoolOp .Or (a:: b:: rest) pos) (YZ ta tb):=by
 intro pins s σ H Q I h
 refine BoolOp_or (dI (ha pins s σ H _ I h) fun v s1 hpt=>?_)
 obtain⟨x,H1,I1,r1,q1⟩:=hpt
 obtain⟨c,rfl,q1⟩:=q1
 cases r1
 refine wpAny_truthy_bool ?_
 cases c with
 | false=>exact hb pins s1 σ H1 Q I1 q1
 | true=>exact⟨.bl true,H1,I1,rfl,q1⟩
theorem Vs (ha:PE X a ta):PE X (.UnaryOp .Not a pos) (Wy ta):=by
 intro pins s σ H Q I h
 refine UnaryOp_ (dI (ha pins s σ H _ I h) fun v s1 hpt=>?_)
 obtain⟨x,H1,I1,r1,q1⟩:=hpt
 obtain⟨c,rfl,q1⟩:=q1
 cases r1
 exact not_of (wpAny_truthy_bool ⟨.bl (!c),H1,I1,rfl,q1⟩)
noncomputable def tIf (t:TT) (ta tb:TE):TE:=fun σ H Q=>t σ H fun c H1=>if c=true then ta σ H1 Q else tb σ H1 Q
theorem rH {c:Expr} (hc:PT X c tA) (ha:PE X a ta) (hb:PE X b tb):PE X (.IfExp c a b pos) (tIf tA ta tb):=by
 intro pins s σ H Q I h
 refine wpAny_IfExp (dI (hc pins s σ H _ I h) fun d s1 hpt=>?_)
 obtain⟨H1,I1,q1⟩:=hpt
 cases d with
 | true=>exact ha pins s1 σ H1 Q I1 q1
 | false=>exact hb pins s1 σ H1 Q I1 q1
end
noncomputable def bI (K:PySem.W.Frag) (H:Hp) (a:Addr) (xs:List V):Prop:=
 Rd H a (.lst xs)∨
  ∃(o:Obj) (its:Array Value) (n:Nat),K.lookup a=some o/\o.cls=.type "list" /\o.dict=none/\o.data=.seq its n/\its.size<=sizeLine/\Vals xs its.toList
noncomputable def fC (K:PySem.W.Frag) (H:Hp) (a:Addr) (xs:List V):Prop:=
 Rd H a (.tup xs)∨
  ∃(o:Obj) (its:Array Value) (n:Nat),K.lookup a=some o/\o.cls=.type "tuple" /\o.data=.seq its n/\its.size<=sizeLine/\Vals xs its.toList
noncomputable def Yn:Value->Option V
 | .none=>some .non
 | .bool b=>some (.bl b)
 | .int i _=>some (.int i)
 | .str x _=>some (.str x)
 | .bytes b _=>some (.byt b)
 | .float b _=>some (.flt b)
 | .ref a=>some (.ref a)
 | .type n=>some (.ty n)
 | _=>none
theorem RelV.abs {x:V} {u:Value} (r:RelV x u):Yn u=some x:=by
 cases x with
 | non=>cases r;rfl
 | bl _=>cases r;rfl
 | int _=>obtain⟨t,rfl⟩:=r;rfl
 | str _=>obtain⟨t,rfl⟩:=r;rfl
 | byt _=>obtain⟨t,rfl⟩:=r;rfl
 | flt _=>obtain⟨t,rfl⟩:=r;rfl
 | ref _=>cases r;rfl
 | ty _=>cases r;rfl
theorem RelV.inj {x y:V} {u:Value} (r:RelV x u) (q:RelV y u):x=y:=Option.some.inj (r.abs.symm.trans q.abs)
theorem Vals.inj:∀{xs ys:List V} {us:List Value},Vals xs us->Vals ys us->xs=ys
 | _,_,_,.nil,.nil=>rfl
 | _,_,_,.cons r t,.cons r' t'=>by rw [r.inj r',Vals.inj t t']
section
variable {X:Cx} {pins:List (Addr×Obj)} {σ:St} {H:Hp} {s:Shared} {a:Addr} {xs ys:List V}
theorem bI.of {K:PySem.W.Frag} (h:H a=some (.lst xs)):bI K H a xs:=.inl (.inl h)
theorem fC.of {K:PySem.W.Frag} (h:H a=some (.tup xs)):fC K H a xs:=.inl (.inl h)
theorem Inv.list (I:Inv X pins σ H s) (h:bI X.K H a xs):∃its:List Value,Vals xs its/\PlainL s.heap a its.toArray/\xs.length<=sizeLine:=by
 rcases h with h | ⟨o,its,n,hk,hc,hd,hs,hz,r⟩
 ·obtain⟨z,its,n,r,e⟩:=h.ok I.hok
  exact⟨its,r,⟨_,n,e,rfl,rfl,rfl⟩,z⟩
 ·refine⟨its.toList,r,⟨o,n,I.kIn a o hk,hc,hd,by simpa using hs⟩,?_⟩
  have e:=r.length
  simp only [Array.length_toList] at e
  omega
theorem Inv.tuple (I:Inv X pins σ H s) (h:fC X.K H a xs):∃its:List Value,Vals xs its/\IsTup s.heap a its.toArray/\xs.length<=sizeLine:=by
 rcases h with h | ⟨o,its,n,hk,hc,hs,hz,r⟩
 ·obtain⟨z,its,r,p⟩:=h.ok I.hok
  exact⟨its,r,p,z⟩
 ·refine⟨its.toList,r,⟨o,I.kIn a o hk,hc,n,by simpa using hs⟩,?_⟩
  have e:=r.length
  simp only [Array.length_toList] at e
  omega
theorem Inv.list_inj (I:Inv X pins σ H s) (h:bI X.K H a xs) (h':bI X.K H a ys):xs=ys:=by
 obtain⟨its,r,⟨o,n,e,_,_,d⟩,_⟩:=I.list h
 obtain⟨its',r',⟨o',n',e',_,_,d'⟩,_⟩:=I.list h'
 rw [e] at e';cases e'
 rw [d] at d'
 injection d' with d1 _
 have:its=its':=by simpa using congrArg Array.toList d1
 subst this
 exact r.inj r'
theorem Inv.tuple_inj (I:Inv X pins σ H s) (h:fC X.K H a xs) (h':fC X.K H a ys):xs=ys:=by
 obtain⟨its,r,⟨o,e,_,n,d⟩,_⟩:=I.tuple h
 obtain⟨its',r',⟨o',e',_,n',d'⟩,_⟩:=I.tuple h'
 rw [e] at e';cases e'
 rw [d] at d'
 injection d' with d1 _
 have:its=its':=by simpa using congrArg Array.toList d1
 subst this
 exact r.inj r'
end
noncomputable abbrev Cx.wish (X:Cx) (E:Value->Shared->Prop):Cx:={ X with xe:=E }
noncomputable abbrev Cx.nox (X:Cx):Cx:=X.wish fun _ _=>False
theorem Cx.Ok.wish {X:Cx} (ok:X.Ok) (E:Value->Shared->Prop):(X.wish E).Ok:=
 ⟨ok.mod,ok.kind,ok.glob,ok.blt,ok.above,ok.inj,ok.has,ok.cab,ok.hd,ok.frames,ok.stk,ok.exf,ok.bs,ok.bsz,ok.noex,ok.exfs,ok.funs,ok.frf⟩
theorem Cx.Ok.unwish {X:Cx} {E:Value->Shared->Prop} (ok:(X.wish E).Ok):X.Ok:=
 ⟨ok.mod,ok.kind,ok.glob,ok.blt,ok.above,ok.inj,ok.has,ok.cab,ok.hd,ok.frames,ok.stk,ok.exf,ok.bs,ok.bsz,ok.noex,ok.exfs,ok.funs,ok.frf⟩
section
variable {X:Cx} {pins:List (Addr×Obj)} {σ:St} {H:Hp} {s:Shared} {E:Value->Shared->Prop}
theorem Inv.wish (I:Inv X pins σ H s) (E:Value->Shared->Prop):Inv (X.wish E) pins σ H s:=⟨I.ok.wish E,I.os,I.bare,I.base,I.loc,I.cell,I.free,I.freeC,I.pin,I.hok,I.len⟩
theorem Inv.unwish (I:Inv (X.wish E) pins σ H s):Inv X pins σ H s:=⟨I.ok.unwish,I.os,I.bare,I.base,I.loc,I.cell,I.free,I.freeC,I.pin,I.hok,I.len⟩
theorem SP.unwish {D:Ends} {f:Flow} {s':Shared} (h:SP (X.wish E) pins D f s'):SP X pins D f s':=by
 cases f with
 | next=>obtain⟨σ',H',I,q⟩:=h;exact⟨σ',H',I.unwish,q⟩
 | brk=>obtain⟨σ',H',I,q⟩:=h;exact⟨σ',H',I.unwish,q⟩
 | cont=>obtain⟨σ',H',I,q⟩:=h;exact⟨σ',H',I.unwish,q⟩
 | ret u=>obtain⟨v,σ',H',I,r,q⟩:=h;exact⟨v,σ',H',I.unwish,r,q⟩
theorem Mr.nox {st:List Stmt} {t:TS} (h:Mr X.nox st t):Mr X st t:=fun pins s σ H D I hw=>
 wpAny_mono (h pins s σ H D (I.wish _) hw) (fun _ _ q=>q.unwish) fun _ _ z=>False.elim z
end
section
variable {X:Cx} {st:Stmt} {rest:List Stmt} {t u:TS} {e:Expr} {te:TE} {pos:Pos}
noncomputable def Xz:TS:=fun D σ H=>D.nx σ H
noncomputable def xV (t u:TS):TS:=fun D σ H=>t { D with nx:=u D } σ H
theorem bu:Mr X [] Xz:=fun _ _ σ H _ I h=>wpAny_execs_nil ⟨σ,H,I,h⟩
theorem aq (h1:PS X st t) (h2:Mr X rest u):Mr X (st:: rest) (xV t u):=by
 intro pins s σ H D I h
 refine wpAny_execs_cons (dI (h1 pins s σ H { D with nx:=u D } I h) fun f s1 q=>?_)
 cases f with
 | next=>
  obtain⟨σ',H',I',q⟩:=q
  exact h2 pins s1 σ' H' D I' q
 | ret v=>exact q
 | brk=>exact q
 | cont=>exact q
theorem aA (h1:PS X st t):Mr X [st] t:=by
 intro pins s σ H D I h
 refine wpAny_execs_cons (dI (h1 pins s σ H D I h) fun f s1 q=>?_)
 cases f with
 | next=>exact wpAny_execs_nil q
 | ret v=>exact q
 | brk=>exact q
 | cont=>exact q
theorem Inv.quiet {pins:List (Addr×Obj)} {σ:St} {H:Hp} {s:Shared} (I:Inv X pins σ H s):interactive X.env=false:=by simp [interactive,I.ok.kind]
noncomputable def Xr (te:TE):TS:=fun D σ H=>te σ H fun _ H1=>D.nx σ H1
theorem bK (he:PE X e te) (hs:swapsWith e none pos.line X.env=pure false:=by rfl):PS X (.Expr e pos) (Xr te):=by
 intro pins s σ H D I h
 exact wpAny_Expr_any (dI (he pins s σ H _ I h) fun v s1 ⟨x,H1,I1,r1,q1⟩=>⟨σ,H1,I1,q1⟩) I.quiet hs
noncomputable def YG (te:TE):TS:=fun D σ H=>te σ H D.rt
theorem aN (he:PE X e te):PS X (.Return (some e) pos) (YG te):=by
 intro pins s σ H D I h
 exact wpAny_Return_some (dI (he pins s σ H _ I h) fun v s1 ⟨x,H1,I1,r1,q1⟩=>⟨x,σ,H1,I1,r1,q1⟩)
noncomputable def Yb (c:TT) (t u:TS):TS:=fun D σ H=>c σ H fun b H1=>if b=true then t D σ H1 else u D σ H1
theorem bM {c:Expr} {a b:List Stmt} {tc:TT} (hc:PT X c tc) (ha:Mr X a t) (hb:Mr X b u):PS X (.If c a b pos) (Yb tc t u):=by
 intro pins s σ H D I h
 refine wpAny_If (dI (hc pins s σ H _ I h) fun d s1 hpt=>?_)
 obtain⟨H1,I1,q1⟩:=hpt
 cases d with
 | true=>exact ha pins s1 σ H1 D I1 q1
 | false=>exact hb pins s1 σ H1 D I1 q1
noncomputable def Vj:TS:=fun _ _ _=>False
theorem dN:PS X st Vj:=fun _ _ _ _ _ _ h=>h.elim
end
noncomputable abbrev TG:=V->St->Hp->(St->Hp->Prop)->Prop
noncomputable abbrev RJ:=List V->St->Hp->(St->Hp->Prop)->Prop
noncomputable def PG (X:Cx) (target:Expr) (t:TG):Prop:=
 ∀(pins:List (Addr×Obj)) (s:Shared) (σ:St) (H:Hp) (v:V) (u:Value) (Q:St->Hp->Prop),Inv X pins σ H s->RelV v u->t v σ H Q->
  wpAny (model X.prog X.w) X.A (assign target X.env u) (fun _ s'=>∃σ' H',Inv X pins σ' H' s'/\Q σ' H') X.xe s
noncomputable def Wz (X:Cx) (ts:List Expr) (t:RJ):Prop:=
 ∀(pins:List (Addr×Obj)) (s:Shared) (σ:St) (H:Hp) (vs:List V) (us:List Value) (Q:St->Hp->Prop),Inv X pins σ H s->Vals vs us->t vs σ H Q->
  wpAny (model X.prog X.w) X.A (assignInOrder ((assignEach ts X.env).map (·.2)) us) (fun _ s'=>∃σ' H',Inv X pins σ' H' s'/\Q σ' H') X.xe s
section
variable {X:Cx} {pos:Pos}
noncomputable def xQ (i:Nat):TG:=fun v σ H Q=>Q (σ.set i (some v)) H
theorem vh {i:Nat} {x:Str} (hN:X.N.Nodup) (hi:X.N[i]?=some x) (hx:Loc X.env.scope x) (hf:X.fn x=true∨X.env.scope.names.lookup x=some .local:=by first | exact .inl rfl | exact .inr rfl | assumption):PG X (.Name x pos) (xQ i):=by
 intro pins s σ H v u Q I r h
 exact wpAny_assign_Name (Jr I hN hi hx r (fun s' I'=>⟨_,H,I',h⟩) hf)
noncomputable def Yz:RJ:=fun vs σ H Q=>vs=[]/\Q σ H
inductive Qq (t:TG) (u:RJ) (vs:List V) (σ:St) (H:Hp) (Q:St->Hp->Prop):Prop where
 | mk:∀v r,vs=v:: r->(t v σ H fun σ' H'=>u r σ' H' Q)->Qq t u vs σ H Q
noncomputable def WR (t:TG) (u:RJ):RJ:=fun vs σ H Q=>Qq t u vs σ H Q
theorem qx:Wz X [] Yz:=by
 intro pins s σ H vs us Q I r h
 obtain⟨e,h⟩:=h
 subst e
 cases r
 exact assignInOrder_nil ⟨σ,H,I,h⟩
theorem dg {e:Expr} {es:List Expr} {t:TG} {u:RJ} (h1:PG X e t) (h2:Wz X es u)
  (hs:(assignEach (e:: es) X.env).map (·.2)=assign e X.env:: (assignEach es X.env).map (·.2):=by rfl):Wz X (e:: es) (WR t u):=by
 intro pins s σ H vs us Q I r h
 obtain⟨v,vr,e1,h⟩:=h
 subst e1
 cases r with
 | cons r rr=>
  rw [hs]
  refine assignInOrder_cons (dI (h1 pins s σ H _ _ _ I r h) fun _ s1 hpt=>?_)
  obtain⟨σ1,H1,I1,q1⟩:=hpt
  exact h2 pins s1 σ1 H1 _ _ Q I1 rr q1
inductive UL (K:PySem.W.Frag) (n:Nat) (t:RJ) (v:V) (σ:St) (H:Hp) (Q:St->Hp->Prop):Prop where
 | mk:∀a xs,v=.ref a->fC K H a xs->xs.length=n->t xs σ H Q->UL K n t v σ H Q
noncomputable def WP (K:PySem.W.Frag) (n:Nat) (t:RJ):TG:=fun v σ H Q=>UL K n t v σ H Q
theorem wH {es:List Expr} {k:Nat} {t:RJ} {n:Nat} (hc:X.calm=true) (h:Wz X es t)
  (hn:(assignEach es X.env).length=n:=by rfl) (hst:(assignEach es X.env).findIdx? (·.1)=none:=by rfl):PG X (.Tuple es k pos) (WP X.K n t):=by
 intro pins s σ H v u Q I r hw
 obtain⟨a,xs,e1,hq,hl,hw⟩:=hw
 subst e1
 cases r
 obtain⟨its,rv,ht,hz⟩:=I.tuple hq
 refine assign_Tuple_tuple (I.ok.hd hc) ht (by simp [hn,<-hl,rv.length]) hst fun h' hx=>?_
 have I1:Inv X pins σ H { s with heap:=h' }:=I.kept (t':=s.toks) fun b o e=>hx b o (Nat.ne_of_lt (Heap.lt_size e)) e
 exact h pins _ σ H xs _ Q I1 (by simpa using rv) hw
noncomputable def PN (te:TE) (g:TG):TS:=fun D σ H=>te σ H fun x H1=>g x σ H1 D.nx
theorem Ri {tg e:Expr} {te:TE} {g:TG} (he:PE X e te) (hg:PG X tg g) (hs:swapsWithSole [tg] e pos.line X.env=pure false:=by rfl) (hw:swappedStores [tg] e X.env=pure none:=by rfl)
  (h1:(assignEach [tg] X.env).map (·.2)=[assign tg X.env]:=by rfl):PS X (.Assign [tg] e pos) (PN te g):=by
 intro pins s σ H D I h
 refine wpAny_Assign_stores (dI (he pins s σ H _ I h) fun v s1 hpt=>?_) hs hw
 obtain⟨x,H1,I1,r1,q1⟩:=hpt
 rw [h1]
 exact dI (hg pins s1 σ H1 x v _ I1 r1 q1) fun _ s2 q=>q
theorem V6 {i:Nat} {x:Str} {e:Expr} {te:TE} {pos':Pos} (hN:X.N.Nodup) (hi:X.N[i]?=some x) (hx:Loc X.env.scope x) (he:PE X e te) (hs:swapsWith e (some (.Name x pos')) pos.line X.env=pure false:=by rfl) (hf:X.fn x=true∨X.env.scope.names.lookup x=some .local:=by first | exact .inl rfl | exact .inr rfl | assumption):
  PS X (.Assign [.Name x pos'] e pos) (PN te (xQ i)):=by
 intro pins s σ H D I h
 refine wpAny_Assign_Name (dI (he pins s σ H _ I h) fun v s1 hpt=>?_) hs
 obtain⟨y,H1,I1,r1,q1⟩:=hpt
 exact Jr I1 hN hi hx r1 (fun s2 I2=>⟨_,H1,I2,q1⟩) hf
end
section
variable {X:Cx} {pos:Pos}
inductive K7 (c:TT) (tb:TS) (D:Ends) (σ:St) (H:Hp):Prop where
 | mk:∀W:Nat->St->Hp->Prop,((∃m,W m σ H))->(∀m σ H,W m σ H->
 c σ H fun b H1=>if b=true then ∃N:St->Hp->Prop,(∀σ' H',N σ' H'->∃m',m' <m/\W m' σ' H')/\tb { D with nx:=N,ct:=N,bk:=D.nx } σ H1 else D.nx σ H1)->K7 c tb D σ H
noncomputable def O3 (c:TT) (tb:TS):TS:=fun D σ H=>K7 c tb D σ H
theorem Ih {c:Expr} {body:List Stmt} {tc:TT} {tb:TS} (hp:PassesOwn (model X.prog X.w) X.A X.env X.xe) (hc:PT X c tc) (hb:Mr X body tb):PS X (.While c body [] pos) (O3 tc tb):=by
 intro pins s σ H D I h
 obtain⟨W,⟨m0,w0⟩,turn⟩:=h
 refine wpAny_While (codeAny_whileLoop (fun n s'=>∃σ' H',Inv X pins σ' H' s'/\W n σ' H') ?_ m0 ⟨σ,H,I,w0⟩)
 rintro n s1 ⟨σ1,H1,I1,w1⟩
 refine wpAny_passesOwn hp (dI (hc pins s1 σ1 H1 _ I1 (turn n σ1 H1 w1)) fun b s2 hpt=>?_)
 obtain⟨H2,I2,q2⟩:=hpt
 cases b with
 | true=>
  obtain⟨N,hN,q2⟩:=q2
  rw [if_pos rfl]
  refine wpAny_passesOwn hp (dI (hb pins s2 σ1 H2 _ I2 q2) fun f s3 q3=>?_)
  cases f with
  | next=>
   obtain⟨σ3,H3,I3,n3⟩:=q3
   obtain⟨m',hm,w3⟩:=hN σ3 H3 n3
   exact⟨m',hm,σ3,H3,I3,w3⟩
  | cont=>
   obtain⟨σ3,H3,I3,n3⟩:=q3
   obtain⟨m',hm,w3⟩:=hN σ3 H3 n3
   exact⟨m',hm,σ3,H3,I3,w3⟩
  | brk=>exact q3
  | ret v=>exact q3
 | false=>
  rw [if_neg Bool.false_ne_true]
  exact wpAny_execs_nil ⟨σ1,H2,I2,q2⟩
end
structure It where
 go:Nat->Hp->Prop
 yld:Nat->Hp->V->Hp->Prop
 stop:Nat->Hp->Prop
noncomputable def Gq (X:Cx) (pins:List (Addr×Obj)) (H:Hp) (b:Addr):Prop:=
 H b=none/\b≠X.env.locals/\b∉X.fs/\(b∈X.ex∨X.s₀.heap.objs.size<=b)/\(∀x c,X.env.cells.lookup x=some c->c≠b)/\∀p∈X.pn ++ pins,p.1≠b
theorem Inv.fpOk {X:Cx} {pins:List (Addr×Obj)} {σ:St} {H H':Hp} {s:Shared} {b:Addr} (I:Inv X pins σ H s) (hb:s.heap.objs.size<=b) (hn:H' b=none):Gq X pins H' b:=by
 refine⟨hn,Nat.ne_of_gt (Nat.lt_of_lt_of_le I.lt hb),I.nofs hb,.inr (Nat.le_trans I.sz hb),fun x c e z=>?_,fun p hp z=>?_⟩
 ·obtain⟨v,q⟩:=I.cell x c e
  exact absurd (Nat.lt_of_lt_of_le q.lt (by rw [z];exact hb)) (Nat.lt_irrefl _)
 ·exact absurd (Nat.lt_of_lt_of_le (Heap.lt_size (I.pin p hp).1) (by rw [z];exact hb)) (Nat.lt_irrefl _)
structure Turn (P:Program) (w:World) (K:PySem.W.Frag) (tg:Expr) (J:It) (fp:List Addr) (it:Addr) (tn:Nat->Heap->Prop):Prop where
 mem:it∈fp
 obj:∀i h,tn i h->∀b∈fp,∃o,h.get? b=some o/\∀v,o.data≠.cell v
 keep:∀i h h',tn i h->(∀b∈fp,∀o,h.get? b=some o->h'.get? b=some o)->tn i h'
 item:∀(X:Cx),X.prog=P->X.w=w->X.K=K->X.calm=true->∀(i:Nat) (pins:List (Addr×Obj)) (s:Shared) (σ:St) (H:Hp) (E:Value->Shared->Prop),Inv X pins σ H s->(∀b∈fp,Gq X pins H b)->tn i s.heap->J.go i H->
  wpAny (model P w) X.A (pyNext (.ref it)) (fun r s1=>∃u,r=some u/\
   wpAny (model P w) X.A (letOwnedTupleGo tg (.ref it) u) (fun _ s2=>∃x H',Inv X pins σ H' s2/\RelV x u/\J.yld i H x H'/\tn (i+1) s2.heap/\∀b∈fp,H' b=none) E s1) E s
 done:∀(X:Cx),X.prog=P->X.w=w->X.K=K->X.calm=true->∀(i:Nat) (pins:List (Addr×Obj)) (s:Shared) (σ:St) (H:Hp) (E:Value->Shared->Prop),Inv X pins σ H s->(∀b∈fp,Gq X pins H b)->tn i s.heap->J.stop i H->
  wpAny (model P w) X.A (pyNext (.ref it)) (fun r s1=>r=none/\Inv X pins σ H s1) E s
 self:∀(A:Around) (i:Nat) (s:Shared) (Q:Value->Shared->Prop) (E:Value->Shared->Prop),tn i s.heap->Q (.ref it) s->wpAny (model P w) A (pyIter (.ref it)) Q E s
noncomputable abbrev TI:=St->Hp->(It->Hp->Prop)->Prop
noncomputable def PIE (X:Cx) (pins:List (Addr×Obj)) (σ:St) (tg:Expr) (R:It->Hp->Prop) (itv:Value) (s2:Shared):Prop:=
 ∃(it:Addr) (fp:List Addr) (tn:Nat->Heap->Prop) (J:It) (H':Hp),itv=.ref it/\Inv X pins σ H' s2/\Turn X.prog X.w X.K tg J fp it tn/\tn 0 s2.heap/\(∀b∈fp,Gq X pins H' b)/\R J H'
noncomputable def PI (X:Cx) (tg iter:Expr) (wi:TI):Prop:=
 ∀(pins:List (Addr×Obj)) (s:Shared) (σ:St) (H:Hp) (R:It->Hp->Prop),Inv X pins σ H s->wi σ H R->
  wpAny (model X.prog X.w) X.A (eval iter X.env) (fun v s1=>wpAny (model X.prog X.w) X.A (pyIter v) (PIE X pins σ tg R) X.xe s1) X.xe s
theorem Jl {M:Model} {A:Around} {E:Value->Shared->Prop} {s:Shared} {tg:Expr} {it:Addr} {u:Value} {o:Obj} {n:String} {vs:Array Value} {Q:Unit->Shared->Prop} (ho:s.heap.get? it=some o) (hc:o.cls=.type n) (hd:o.data=.fields vs)
  (hn:["enumerate", "zip", "dict_itemiterator", "dict_reverseitemiterator", "odict_iterator", "itertools.zip_longest", "itertools.pairwise"].contains n=false) (hQ:Q () s):wpAny M A (letOwnedTupleGo tg (.ref it) u) Q E s:=by
 unfold letOwnedTupleGo
 cases tg <;> first
  | exact wpAny_pure hQ
  | (cases u <;> first
    | exact wpAny_pure hQ
    | (refine wpAny_bind (wpAny_load ho ?_)
       rw [hc,hd]
       show wpAny M A (if (["enumerate", "zip", "dict_itemiterator", "dict_reverseitemiterator", "odict_iterator", "itertools.zip_longest", "itertools.pairwise"].contains n && vs[0]? == some (rawInt _))=true then _ else _) Q E s
       rw [if_neg (by intro h;rw [hn,Bool.false_and] at h;cases h)]
       exact wpAny_pure hQ))
noncomputable def Vd (K:PySem.W.Frag) (a:Addr):It:=
 ⟨fun i H=>∃xs x,bI K H a xs/\xs[i]?=some x,fun i H x H'=>H'=H/\∀xs,bI K H a xs->xs[i]?=some x,fun i H=>∃xs,bI K H a xs/\xs.length<=i⟩
noncomputable def Wg (K:PySem.W.Frag) (a:Addr):It:=
 ⟨fun i H=>∃xs x,fC K H a xs/\xs[i]?=some x,fun i H x H'=>H'=H/\∀xs,fC K H a xs->xs[i]?=some x,fun i H=>∃xs,fC K H a xs/\xs.length<=i⟩
noncomputable def Wb (lo:Int) (n:Nat):It:=⟨fun i _=>i <n,fun i H x H'=>H'=H/\x=.int (lo+i),fun i _=>n<=i⟩
theorem Og {P:Program} {w:World} {K:PySem.W.Frag} {tg:Expr} (a it:Addr):Turn P w K tg (Vd K a) [it] it (fun i h=>h.IsListIter it a i) where
 mem:=by simp
 obj:=fun i h st b hb=>by
  have e:b=it:=by simpa using hb
  subst e
  obtain⟨o,e,c,d⟩:=st
  exact⟨o,e,fun v z=>by rw [d] at z;cases z⟩
 keep:=fun i h h' st k=>st.at fun o e=>k it (by simp) o e
 item:=by
  intro X hP hw hK hc i pins s σ H E I hf st hg
  subst hP hw hK
  obtain⟨xs,x,hq,hx⟩:=hg
  obtain⟨its,rv,p,hz⟩:=I.list hq
  obtain⟨u,hu,ru⟩:=rv.get hx
  obtain⟨f0,f1,f2,f3,f4,f5⟩:=hf it (by simp)
  refine wpAny_pyNext_list_item st p.isList (x:=u) (by simpa using hu) fun h' st' sb=>?_
  have I1:Inv X pins σ H { s with heap:=h' }:=I.turned (t':=s.toks) (fun b o hb e=>(sb.2 b hb).trans e) f0 f1 f3 f4 f5
  obtain⟨o,e,c,d⟩:=id st'
  exact⟨u,rfl,Jl (s:={ s with heap:=h' }) e c d (by decide) ⟨x,H,I1,ru,⟨rfl,fun ys hy=>by rw [I.list_inj hy hq];exact hx⟩,st',fun b hb=>(hf b hb).1⟩⟩
 done:=by
  intro X hP hw hK hc i pins s σ H E I hf st hg
  subst hP hw hK
  obtain⟨xs,hq,hx⟩:=hg
  obtain⟨its,rv,p,hz⟩:=I.list hq
  obtain⟨f0,f1,f2,f3,f4,f5⟩:=hf it (by simp)
  have hl:=rv.length
  exact wpAny_pyNext_list_end (I.ok.hd hc) st p.isList (by simp;omega) fun h' eb=>⟨rfl,I.turned (t':=s.toks) (fun b o hb e=>eb b o hb e) f0 f1 f3 f4 f5⟩
 self:=fun _ _ _ _ _ st h=>wpAny_pyIter_listiter st h
theorem Ky {P:Program} {w:World} {K:PySem.W.Frag} {tg:Expr} (a it:Addr):Turn P w K tg (Wg K a) [it] it (fun i h=>h.IsTupleIter it a i) where
 mem:=by simp
 obj:=fun i h st b hb=>by
  have e:b=it:=by simpa using hb
  subst e
  obtain⟨o,e,c,d⟩:=st
  exact⟨o,e,fun v z=>by rw [d] at z;cases z⟩
 keep:=fun i h h' st k=>st.at fun o e=>k it (by simp) o e
 item:=by
  intro X hP hw hK hc i pins s σ H E I hf st hg
  subst hP hw hK
  obtain⟨xs,x,hq,hx⟩:=hg
  obtain⟨its,rv,p,hz⟩:=I.tuple hq
  obtain⟨u,hu,ru⟩:=rv.get hx
  obtain⟨f0,f1,f2,f3,f4,f5⟩:=hf it (by simp)
  refine wpAny_pyNext_tuple_item st (show s.heap.IsTuple a its.toArray from p) (x:=u) (by simpa using hu) fun h' st' sb=>?_
  have I1:Inv X pins σ H { s with heap:=h' }:=I.turned (t':=s.toks) (fun b o hb e=>(sb.2 b hb).trans e) f0 f1 f3 f4 f5
  obtain⟨o,e,c,d⟩:=id st'
  exact⟨u,rfl,Jl (s:={ s with heap:=h' }) e c d (by decide) ⟨x,H,I1,ru,⟨rfl,fun ys hy=>by rw [I.tuple_inj hy hq];exact hx⟩,st',fun b hb=>(hf b hb).1⟩⟩
 done:=by
  intro X hP hw hK hc i pins s σ H E I hf st hg
  subst hP hw hK
  obtain⟨xs,hq,hx⟩:=hg
  obtain⟨its,rv,p,hz⟩:=I.tuple hq
  obtain⟨f0,f1,f2,f3,f4,f5⟩:=hf it (by simp)
  have hl:=rv.length
  exact wpAny_pyNext_tuple_end (I.ok.hd hc) st (show s.heap.IsTuple a its.toArray from p) (by simp;omega) fun h' eb=>⟨rfl,I.turned (t':=s.toks) (fun b o hb e=>eb b o hb e) f0 f1 f3 f4 f5⟩
 self:=fun _ _ _ _ _ st h=>wpAny_pyIter_tupleiter st h
theorem KR {P:Program} {w:World} {K:PySem.W.Frag} {tg:Expr} (it:Addr) (lo:Int) (n:Nat):Turn P w K tg (Wb lo n) [it] it (fun i h=>IsRangeIter h it (lo+(i:Nat) * 1) ((n:Int) - (i:Nat)) 1) where
 mem:=by simp
 obj:=fun i h st b hb=>by
  have e:b=it:=by simpa using hb
  subst e
  exact⟨_,st,fun v z=>by
   have z':Data.fields _=Data.cell v:=z
   cases z'⟩
 keep:=fun i h h' st k=>k it (by simp) _ st
 item:=by
  intro X hP hw hK hc i pins s σ H E I hf st hg
  subst hP hw hK
  obtain⟨f0,f1,f2,f3,f4,f5⟩:=hf it (by simp)
  have W:=Walks.range (prog:=X.prog) (w:=X.w) (I.ok.hd hc) it lo 1 n
  refine W.item i s _ _ hg st fun v h' tk hv st' kk=>?_
  obtain⟨t,rfl⟩:=hv
  have I1:Inv X pins σ H { s with heap:=h',toks:=tk }:=I.turned (fun b o hb e=>kk b o (by simpa using hb) e) f0 f1 f3 f4 f5
  refine⟨_,rfl,Jl (s:={ s with heap:=h',toks:=tk }) (n:= "range_iterator") st' rfl rfl (by decide) ⟨.int (lo+i),H,I1,⟨t,?_⟩,⟨rfl,rfl⟩,st',fun b hb=>(hf b hb).1⟩⟩
  rw [Int.mul_one]
 done:=by
  intro X hP hw hK hc i pins s σ H E I hf st hg
  subst hP hw hK
  obtain⟨f0,f1,f2,f3,f4,f5⟩:=hf it (by simp)
  exact wpAny_pyNext_range_end (I.ok.hd hc) st (by have:n<=i:=hg;omega) fun h' eb=>⟨rfl,I.turned (t':=s.toks) (fun b o hb e=>eb b o hb e) f0 f1 f3 f4 f5⟩
 self:=fun _ _ _ _ _ st h=>wpAny_pyIter_rangeiter st h
section
variable {X:Cx} {tg:Expr}
inductive Q9 (K:PySem.W.Frag) (R:It->Hp->Prop) (x:V) (H1:Hp):Prop where
 | mk:∀a,x=.ref a->((∃xs,bI K H1 a xs))->R (Vd K a) H1->Q9 K R x H1
noncomputable def Ul (K:PySem.W.Frag) (tl:TE):TI:=fun σ H R=>tl σ H fun x H1=>Q9 K R x H1
inductive U7 (K:PySem.W.Frag) (R:It->Hp->Prop) (x:V) (H1:Hp):Prop where
 | mk:∀a,x=.ref a->((∃xs,fC K H1 a xs))->R (Wg K a) H1->U7 K R x H1
noncomputable def Xy (K:PySem.W.Frag) (tl:TE):TI:=fun σ H R=>tl σ H fun x H1=>U7 K R x H1
theorem bN {l:Expr} {tl:TE} (hl:PE X l tl):PI X tg l (Ul X.K tl):=by
 intro pins s σ H R I h
 refine dI (hl pins s σ H _ I h) fun v s1 hpt=>?_
 obtain⟨x,H1,I1,r1,q1⟩:=hpt
 obtain⟨a,e,⟨xs,hq⟩,q⟩:=q1
 subst e
 cases r1
 obtain⟨its,rv,p,hz⟩:=I1.list hq
 refine wpAny_pyIter_list p.isList ?_
 refine⟨s1.heap.objs.size,[s1.heap.objs.size],_,_,H1,rfl,I1.kept (t':=s1.toks) fun b o e=>Heap.get?_push_of_some _ e,Og a _,⟨_,Heap.get?_push_size _ rfl,rfl,rfl⟩,fun b hb=>?_,q⟩
 have e:b=s1.heap.objs.size:=by simpa using hb
 subst e
 exact I1.fpOk (Nat.le_refl _) (I1.hok.fresh (Nat.le_refl _))
theorem Dp {l:Expr} {tl:TE} (hl:PE X l tl):PI X tg l (Xy X.K tl):=by
 intro pins s σ H R I h
 refine dI (hl pins s σ H _ I h) fun v s1 hpt=>?_
 obtain⟨x,H1,I1,r1,q1⟩:=hpt
 obtain⟨a,e,⟨xs,hq⟩,q⟩:=q1
 subst e
 cases r1
 obtain⟨its,rv,p,hz⟩:=I1.tuple hq
 refine wpAny_pyIter_tuple (show s1.heap.IsTuple a its.toArray from p) ?_
 refine⟨s1.heap.objs.size,[s1.heap.objs.size],_,_,H1,rfl,I1.kept (t':=s1.toks) fun b o e=>Heap.get?_push_of_some _ e,Ky a _,⟨_,Heap.get?_push_size _ rfl,rfl,rfl⟩,fun b hb=>?_,q⟩
 have e:b=s1.heap.objs.size:=by simpa using hb
 subst e
 exact I1.fpOk (Nat.le_refl _) (I1.hok.fresh (Nat.le_refl _))
theorem PP {pins:List (Addr×Obj)} {σ:St} {H:Hp} {s:Shared} {R:It->Hp->Prop} {E:Value->Shared->Prop} {lo hi:Int} {t u v:Tok} {tk:Nat} (I:Inv X pins σ H s) (h1: -(2 ^ 62)<=lo) (h2:lo <2 ^ 62) (h3: -(2 ^ 62)<=hi) (h4:hi <2 ^ 62)
  (q:R (Wb lo (hi - lo).toNat) H):wpAny (model X.prog X.w) X.A (pyIter (.ref s.heap.objs.size)) (PIE X pins σ tg R) E { s with heap:=s.heap.push { cls:=.type "range",data:=.fields #[.int lo t,.int hi u,.int 1 v] },toks:=tk }:=by
 refine wpAny_pyIter_range (IsRange.new ..) (small_one h1 h2 h3 h4) ?_
 have I1:Inv X pins σ H { s with heap:=s.heap.push { cls:=.type "range",data:=.fields #[.int lo t,.int hi u,.int 1 v] },toks:=tk }:=I.kept fun b o e=>Heap.get?_push_of_some _ e
 refine⟨(s.heap.push { cls:=.type "range",data:=.fields #[.int lo t,.int hi u,.int 1 v] }).objs.size,[(s.heap.push { cls:=.type "range",data:=.fields #[.int lo t,.int hi u,.int 1 v] }).objs.size],_,_,H,rfl,
  I1.kept (t':=tk) fun b o e=>Heap.get?_push_of_some _ e,KR _ lo (hi - lo).toNat,?_,fun b hb=>?_,q⟩
 ·have e1:lo+((0:Nat):Int) * 1=lo:=by simp
  have e2:(((hi - lo).toNat:Nat):Int) - ((0:Nat):Int)=Builtin.Range.rangeSize lo hi 1:=by rw [rangeSize_one];split <;> omega
  show IsRangeIter _ _ (lo+((0:Nat):Int) * 1) ((((hi - lo).toNat:Nat):Int) - ((0:Nat):Int)) 1
  rw [e1,e2]
  exact Heap.get?_push_size _ rfl
 ·have e:b=(s.heap.push { cls:=.type "range",data:=.fields #[.int lo t,.int hi u,.int 1 v] }).objs.size:=by simpa using hb
  subst e
  exact I1.fpOk (Nat.le_refl _) (I1.hok.fresh (Nat.le_refl _))
inductive Q5 (R:It->Hp->Prop) (vs:List V) (H1:Hp):Prop where
 | mk:∀j:Int,vs=[.int j]-> -(2 ^ 62)<=j->j <2 ^ 62->R (Wb 0 j.toNat) H1->Q5 R vs H1
noncomputable def WT (ta:TA):TI:=fun σ H R=>ta σ H fun vs H1=>Q5 R vs H1
theorem iY {a:Expr} {ta:TA} {p pos:Pos} (hg:Gl X "range") (hm:X.mg "range" =none) (ha:PA X [a] ta) (hs:starEach [a] X.env=[(false,eval a X.env)]:=by rfl):PI X tg (.Call (.Name "range" p) [a] [] pos) (WT ta):=by
 intro pins s σ H R I h
 refine Call_ (Ib I hg hm boot_range (PyProof.Rows.callWith_type1 (dI (ha pos pins s σ H _ I h) fun us s1 ⟨vs,H1,I1,r1,q1⟩=>?_) hs rfl))
 obtain⟨j,e,q1,q2,q⟩:=q1
 subst e
 cases r1 with
 | cons r rr=>
  cases rr
  obtain⟨t,rfl⟩:=r
  exact call_range_1 (PP I1 (by omega) (by omega) q1 q2 (by simpa using q))
noncomputable def Yt (wi:TI) (g:TG) (tb:TS):TS:=fun D σ H=>wi σ H fun J H1=>∃W:Nat->Nat->St->Hp->Prop,(∃m,W 0 m σ H1)/\∀i m σ H,W i m σ H->
 (J.stop i H/\D.nx σ H)∨(J.go i H/\∃N:St->Hp->Prop,(∀σ' H',N σ' H'->∃m',m' <m/\W (i+1) m' σ' H')/\∀x H',J.yld i H x H'->g x σ H' fun σ2 H2=>tb { D with nx:=N,ct:=N,bk:=D.nx } σ2 H2)
noncomputable def Hf (fp:List Addr) (h:Heap):List (Addr×Obj):=fp.filterMap fun b=>(h.get? b).map fun o=>(b,o)
theorem sG {fp:List Addr} {h:Heap} {b:Addr} {o:Obj} (hb:b∈fp) (e:h.get? b=some o):(b,o)∈Hf fp h:=List.mem_filterMap.mpr ⟨b,hb,by rw [e];rfl⟩
theorem Np {fp:List Addr} {h:Heap} {p:Addr×Obj} (hp:p∈Hf fp h):p.1∈fp/\h.get? p.1=some p.2:=by
 obtain⟨b,hb,e⟩:=List.mem_filterMap.mp hp
 cases q:h.get? b with
 | none=>rw [q] at e;cases e
 | some o=>
  rw [q] at e
  have e':(b,o)=p:=Option.some.inj e
  subst e'
  exact⟨hb,q⟩
theorem Inv.pinned {pins:List (Addr×Obj)} {σ:St} {H:Hp} {s:Shared} {fp:List Addr} (I:Inv X pins σ H s) (hf:∀b∈fp,Gq X pins H b) (ho:∀b∈fp,∃o,s.heap.get? b=some o/\∀v,o.data≠.cell v):Inv X (pins ++ Hf fp s.heap) σ H s:=
 I.pins_of fun p hp=>(List.mem_append.mp hp).elim (fun z=>I.pin p (List.mem_append_right _ z)) fun z=>by
  obtain⟨hb,e⟩:=Np z
  obtain⟨f0,f1,f2,_⟩:=hf p.1 hb
  obtain⟨o,e',d⟩:=ho p.1 hb
  rw [e] at e';cases e'
  exact⟨e,f0,f1,f2,d⟩
theorem Inv.unpinned {pins pl:List (Addr×Obj)} {σ:St} {H:Hp} {s:Shared} (I:Inv X (pins ++ pl) σ H s):Inv X pins σ H s:=I.pins_of fun p hp=>I.pin p (List.mem_append_right _ (List.mem_append_left _ hp))
theorem du {iter:Expr} {body:List Stmt} {wi:TI} {g:TG} {tb:TS} {pos:Pos} (hp:PassesOwn (model X.prog X.w) X.A X.env X.xe) (hc:X.calm=true) (hi:PI X tg iter wi) (hg:PG X tg g) (hb:Mr X body tb)
  (hs:∀x,foldedSetIterable iter X.env x=pure x:=by intro _;rfl):PS X (.For tg iter body [] pos) (Yt wi g tb):=by
 intro pins s σ H D I h
 refine wpAny_For (dI (hi pins s σ H _ I h) fun v s1 h1=>dI h1 fun itv s2 h2=>?_) hs
 obtain⟨it,fp,tn,J,H2,e,I2,T,st2,f2,W,⟨m0,w0⟩,turn⟩:=h2
 subst e
 have stat:∀{H':Hp},(∀b∈fp,H' b=none)->∀b∈fp,Gq X pins H' b:=fun hn b hb=>⟨hn b hb,(f2 b hb).2⟩
 refine codeAny_forLoop_any (fun n s'=>∃i σ' H',Inv X pins σ' H' s'/\tn i s'.heap/\(∀b∈fp,H' b=none)/\W i n σ' H') ?_ m0 ⟨0,σ,H2,I2,st2,fun b hb=>(f2 b hb).1,w0⟩
 rintro n s3 ⟨i,σ3,H3,I3,st3,fr3,w3⟩
 rcases turn i n σ3 H3 w3 with ⟨stop,qn⟩ | ⟨go,N,hN,step⟩
 ·refine wpAny_passesOwn hp (dI (T.done X rfl rfl rfl hc i pins s3 σ3 H3 X.xe I3 (stat fr3) st3 stop) fun r s4 hpt=>?_)
  obtain⟨hr,I4⟩:=hpt
  subst hr
  exact wpAny_execs_nil ⟨σ3,H3,I4,qn⟩
 ·refine wpAny_passesOwn hp (dI (T.item X rfl rfl rfl hc i pins s3 σ3 H3 X.xe I3 (stat fr3) st3 go) fun r s4 hpt=>?_)
  obtain⟨u,hr,h4⟩:=hpt
  subst hr
  refine wpAny_passesOwn hp (dI h4 fun _ s5 hpt=>?_)
  obtain⟨x,H5,I5,r5,y5,st5,fr5⟩:=hpt
  have I5':=I5.pinned (stat fr5) (T.obj _ _ st5)
  refine wpAny_passesOwn hp (dI (hg _ s5 σ3 H5 x u _ I5' r5 (step x H5 y5)) fun _ s6 hpt=>?_)
  obtain⟨σ6,H6,I6,q6⟩:=hpt
  refine wpAny_passesOwn hp (dI (hb _ s6 σ6 H6 _ I6 q6) fun f s7 q7=>?_)
  have again:∀{σ7:St} {H7:Hp},Inv X (pins ++ Hf fp s5.heap) σ7 H7 s7->N σ7 H7->∃m,m <n/\∃i σ' H',Inv X pins σ' H' s7/\tn i s7.heap/\(∀b∈fp,H' b=none)/\W i m σ' H':=fun {σ7 H7} I7 n7=>by
   obtain⟨m',hm,w7⟩:=hN σ7 H7 n7
   refine⟨m',hm,i+1,σ7,H7,I7.unpinned,T.keep _ _ _ st5 fun b hb o e=>(I7.pin (b,o) (List.mem_append_right _ (List.mem_append_right _ (sG hb e)))).1,fun b hb=>?_,w7⟩
   obtain⟨o,e,d⟩:=T.obj _ _ st5 b hb
   exact(I7.pin (b,o) (List.mem_append_right _ (List.mem_append_right _ (sG hb e)))).2.1
  cases f with
  | next=>obtain⟨σ7,H7,I7,n7⟩:=q7;exact again I7 n7
  | cont=>obtain⟨σ7,H7,I7,n7⟩:=q7;exact again I7 n7
  | brk=>obtain⟨σ7,H7,I7,q7⟩:=q7;exact⟨σ7,H7,I7.unpinned,q7⟩
  | ret v=>obtain⟨x7,σ7,H7,I7,r7,q7⟩:=q7;exact⟨x7,σ7,H7,I7.unpinned,r7,q7⟩
end
theorem cJ {K:PySem.W.Frag} {a:Addr} {xs:List V} {g:TG} {tb:TS} {D:Ends} {σ:St} {H:Hp} (Pv:Nat->St->Hp->Prop) (h0:Pv 0 σ H) (hl:∀i σ H,i<=xs.length->Pv i σ H->bI K H a xs)
  (hs:∀i x σ H,xs[i]?=some x->Pv i σ H->g x σ H fun σ2 H2=>tb { D with nx:=Pv (i+1),ct:=Pv (i+1),bk:=D.nx } σ2 H2) (hd:∀σ H,Pv xs.length σ H->D.nx σ H):
  ∃W:Nat->Nat->St->Hp->Prop,(∃m,W 0 m σ H)/\∀i m σ H,W i m σ H->
   ((Vd K a).stop i H/\D.nx σ H)∨((Vd K a).go i H/\∃N:St->Hp->Prop,(∀σ' H',N σ' H'->∃m',m' <m/\W (i+1) m' σ' H')/\∀x H',(Vd K a).yld i H x H'->g x σ H' fun σ2 H2=>tb { D with nx:=N,ct:=N,bk:=D.nx } σ2 H2):=by
 refine⟨fun i m σ H=>m=xs.length - i/\i<=xs.length/\Pv i σ H,⟨xs.length,by simp,Nat.zero_le _,h0⟩,?_⟩
 rintro i m σ H ⟨rfl,hi,p⟩
 have q:=hl i σ H hi p
 by_cases hlt:i <xs.length
 ·refine .inr ⟨⟨xs,xs[i],q,by simp [hlt]⟩,Pv (i+1),fun σ' H' p'=>⟨xs.length - (i+1),by omega,rfl,hlt,p'⟩,fun x H' y=>?_⟩
  obtain⟨e,y⟩:=y
  subst e
  exact hs i x σ _ (y xs q) p
 ·have e:i=xs.length:=by omega
  subst e
  exact .inl ⟨⟨xs,q,Nat.le_refl _⟩,hd σ H p⟩
theorem TJ {K:PySem.W.Frag} {a:Addr} {xs:List V} {g:TG} {tb:TS} {D:Ends} {σ:St} {H:Hp} (Pv:Nat->St->Hp->Prop) (h0:Pv 0 σ H) (hl:∀i σ H,i<=xs.length->Pv i σ H->fC K H a xs)
  (hs:∀i x σ H,xs[i]?=some x->Pv i σ H->g x σ H fun σ2 H2=>tb { D with nx:=Pv (i+1),ct:=Pv (i+1),bk:=D.nx } σ2 H2) (hd:∀σ H,Pv xs.length σ H->D.nx σ H):
  ∃W:Nat->Nat->St->Hp->Prop,(∃m,W 0 m σ H)/\∀i m σ H,W i m σ H->
   ((Wg K a).stop i H/\D.nx σ H)∨((Wg K a).go i H/\∃N:St->Hp->Prop,(∀σ' H',N σ' H'->∃m',m' <m/\W (i+1) m' σ' H')/\∀x H',(Wg K a).yld i H x H'->g x σ H' fun σ2 H2=>tb { D with nx:=N,ct:=N,bk:=D.nx } σ2 H2):=by
 refine⟨fun i m σ H=>m=xs.length - i/\i<=xs.length/\Pv i σ H,⟨xs.length,by simp,Nat.zero_le _,h0⟩,?_⟩
 rintro i m σ H ⟨rfl,hi,p⟩
 have q:=hl i σ H hi p
 by_cases hlt:i <xs.length
 ·refine .inr ⟨⟨xs,xs[i],q,by simp [hlt]⟩,Pv (i+1),fun σ' H' p'=>⟨xs.length - (i+1),by omega,rfl,hlt,p'⟩,fun x H' y=>?_⟩
  obtain⟨e,y⟩:=y
  subst e
  exact hs i x σ _ (y xs q) p
 ·have e:i=xs.length:=by omega
  subst e
  exact .inl ⟨⟨xs,q,Nat.le_refl _⟩,hd σ H p⟩
theorem yR {lo:Int} {n:Nat} {g:TG} {tb:TS} {D:Ends} {σ:St} {H:Hp} (Pv:Nat->St->Hp->Prop) (h0:Pv 0 σ H)
  (hs:∀i σ H,i <n->Pv i σ H->g (.int (lo+i)) σ H fun σ2 H2=>tb { D with nx:=Pv (i+1),ct:=Pv (i+1),bk:=D.nx } σ2 H2) (hd:∀σ H,Pv n σ H->D.nx σ H):
  ∃W:Nat->Nat->St->Hp->Prop,(∃m,W 0 m σ H)/\∀i m σ H,W i m σ H->
   ((Wb lo n).stop i H/\D.nx σ H)∨((Wb lo n).go i H/\∃N:St->Hp->Prop,(∀σ' H',N σ' H'->∃m',m' <m/\W (i+1) m' σ' H')/\∀x H',(Wb lo n).yld i H x H'->g x σ H' fun σ2 H2=>tb { D with nx:=N,ct:=N,bk:=D.nx } σ2 H2):=by
 refine⟨fun i m σ H=>m=n - i/\i<=n/\Pv i σ H,⟨n,by simp,Nat.zero_le _,h0⟩,?_⟩
 rintro i m σ H ⟨rfl,hi,p⟩
 by_cases hlt:i <n
 ·refine .inr ⟨hlt,Pv (i+1),fun σ' H' p'=>⟨n - (i+1),by omega,rfl,hlt,p'⟩,fun x H' y=>?_⟩
  obtain⟨e,y⟩:=y
  subst e y
  exact hs i σ _ hlt p
 ·have e:i=n:=by omega
  subst e
  exact .inl ⟨Nat.le_refl _,hd σ H p⟩
theorem Jv {c:TT} {tb:TS} {D:Ends} {σ:St} {H:Hp} (Pv:St->Hp->Prop) (μ:St->Hp->Nat) (h0:Pv σ H)
  (hs:∀σ H,Pv σ H->c σ H fun b H1=>if b=true then tb { D with nx:=fun σ' H'=>Pv σ' H'/\μ σ' H' <μ σ H,ct:=fun σ' H'=>Pv σ' H'/\μ σ' H' <μ σ H,bk:=D.nx } σ H1 else D.nx σ H1)
  (mono:∀σ H Q Q',(∀b H1,Q b H1->Q' b H1)->c σ H Q->c σ H Q'):O3 c tb D σ H:=by
 refine⟨fun m σ H=>m=μ σ H/\Pv σ H,⟨_,rfl,h0⟩,?_⟩
 rintro m σ H ⟨rfl,p⟩
 refine mono σ H _ _ (fun b H1 q=>?_) (hs σ H p)
 cases b with
 | true=>exact⟨_,fun σ' H' ⟨p',l⟩=>⟨_,l,rfl,p'⟩,q⟩
 | false=>exact q
noncomputable abbrev R2:=V->V->Hp->VK->Prop
noncomputable def wA (X:Cx) (f:Value->Value->Sem Value) (r:R2):Prop:=
 ∀(pins:List (Addr×Obj)) (s:Shared) (σ:St) (H:Hp) (x y:V) (v u:Value) (Q:VK),Inv X pins σ H s->RelV x v->RelV y u->r x y H Q->
  wpAny (model X.prog X.w) X.A (f v u) (EP X pins σ Q) X.xe s
noncomputable def jZ (X:Cx) (f:Value) (r:List V->Hp->VK->Prop):Prop:=
 ∀(pins:List (Addr×Obj)) (s:Shared) (σ:St) (H:Hp) (xs:List V) (us:List Value) (Q:VK),Inv X pins σ H s->Vals xs us->r xs H Q->
  wpAny (model X.prog X.w) X.A (call f us) (EP X pins σ Q) X.xe s
noncomputable def Wj (r:R2) (ta tb:TE):TE:=fun σ H Q=>ta σ H fun x H1=>tb σ H1 fun y H2=>r x y H2 Q
inductive Y9 (C:Int->Int->Prop) (g:Int->Int->V) (x:V) (y:V) (H:Hp) (Q:VK):Prop where
 | mk:∀i j,x=.int i->y=.int j->C i j->Q (g i j) H->Y9 C g x y H Q
noncomputable def rI (C:Int->Int->Prop) (g:Int->Int->V):R2:=fun x y H Q=>Y9 C g x y H Q
inductive XC (g:Int->Int->V) (x:V) (y:V) (H:Hp) (Q:VK):Prop where
 | mk:∀i j,x=.int i->y=.int j->Q (g i j) H->XC g x y H Q
noncomputable def Ss (g:Int->Int->V):R2:=fun x y H Q=>XC g x y H Q
section
variable {X:Cx} {a b c:Expr} {ta tb tc:TE} {pos:Pos}
theorem VG (ha:PE X a ta) (hb:PE X b tb) {pins:List (Addr×Obj)} {s:Shared} {σ:St} {H:Hp} {R:V->V->Hp->Prop} (I:Inv X pins σ H s)
  (h:ta σ H fun x H1=>tb σ H1 fun y H2=>R x y H2) {Q:Value->Shared->Prop} {f:Value->Value->Sem Value}
  (hf:∀v u s2 x y H2,Inv X pins σ H2 s2->RelV x v->RelV y u->R x y H2->wpAny (model X.prog X.w) X.A (f v u) Q X.xe s2):
  wpAny (model X.prog X.w) X.A (eval a X.env) (fun v s₁=>wpAny (model X.prog X.w) X.A (eval b X.env) (fun u s₂=>wpAny (model X.prog X.w) X.A (f v u) Q X.xe s₂) X.xe s₁) X.xe s:=by
 refine dI (ha pins s σ H _ I h) fun v s1 hpt=>?_
 obtain⟨x,H1,I1,r1,q1⟩:=hpt
 refine dI (hb pins s1 σ H1 _ I1 q1) fun u s2 hpt=>?_
 obtain⟨y,H2,I2,r2,q2⟩:=hpt
 exact hf v u s2 x y H2 I2 r1 r2 q2
theorem bx {op:Operator} {r:R2} (ho:wA X (binaryOp op) r) (ha:PE X a ta) (hb:PE X b tb):PE X (.BinOp a op b pos) (Wj r ta tb):=by
 intro pins s σ H Q I h
 exact wpAny_BinOp (VG ha hb I h fun v u s2 x y H2 I2 rx ry q=>ho pins s2 σ H2 x y v u Q I2 rx ry q)
theorem X8 {f:Value->Value->Sem Value} {C:Int->Int->Prop} {g:Int->Int->Int}
  (rule:∀(i j:Int) (t u:Tok) (s:Shared) (Q:Value->Shared->Prop) (E:Value->Shared->Prop),C i j->Q (.int (g i j) s.toks) { s with toks:=s.toks+1 }->wpAny (model X.prog X.w) X.A (f (.int i t) (.int j u)) Q E s):
  wA X f (rI C fun i j=>.int (g i j)):=by
 intro pins s σ H x y v u Q I rx ry h
 obtain⟨i,j,rfl,rfl,hc,q⟩:=h
 obtain⟨t,rfl⟩:=rx
 obtain⟨t',rfl⟩:=ry
 exact rule i j t t' s _ _ hc ⟨.int (g i j),H,I.tok _,⟨_,rfl⟩,q⟩
theorem Wa {f:Value->Value->Sem Value} {g:Int->Int->Int}
  (rule:∀(i j:Int) (t u:Tok) (s:Shared) (Q:Value->Shared->Prop) (E:Value->Shared->Prop),Q (.int (g i j) s.toks) { s with toks:=s.toks+1 }->wpAny (model X.prog X.w) X.A (f (.int i t) (.int j u)) Q E s):
  wA X f (Ss fun i j=>.int (g i j)):=by
 intro pins s σ H x y v u Q I rx ry h
 obtain⟨i,j,rfl,rfl,q⟩:=h
 obtain⟨t,rfl⟩:=rx
 obtain⟨t',rfl⟩:=ry
 exact rule i j t t' s _ _ ⟨.int (g i j),H,I.tok _,⟨_,rfl⟩,q⟩
theorem S8 {f:Value->Value->Sem Value} {g:Int->Int->Bool}
  (rule:∀(i j:Int) (t u:Tok) (s:Shared) (Q:Value->Shared->Prop) (E:Value->Shared->Prop),Q (.bool (g i j)) s->wpAny (model X.prog X.w) X.A (f (.int i t) (.int j u)) Q E s):
  wA X f (Ss fun i j=>.bl (g i j)):=by
 intro pins s σ H x y v u Q I rx ry h
 obtain⟨i,j,rfl,rfl,q⟩:=h
 obtain⟨t,rfl⟩:=rx
 obtain⟨t',rfl⟩:=ry
 exact rule i j t t' s _ _ ⟨.bl (g i j),H,I,rfl,q⟩
noncomputable def Yq (i j:Int):Prop:=0<=j/\j<=1000000/\i.natAbs <2 ^ 64
theorem dm:wA X (binaryOp .Add) (Ss fun i j=>.int (i+j)):=Wa fun _ _ _ _ _ _ _ q=>add_int q
theorem JW:wA X (binaryOp .Sub) (Ss fun i j=>.int (i - j)):=Wa fun _ _ _ _ _ _ _ q=>sub_int q
theorem bW:wA X (binaryOp .Mod) (rI (fun _ j=>0 <j) fun i j=>.int (i % j)):=X8 fun i j _ _ _ _ _ hc q=>by
 have h1:(0:Int) <j:=hc
 exact mod_int' (by omega) (by rw [Int.fmod_eq_emod_of_nonneg i (by omega)];exact q)
theorem Rc:wA X (binaryOp .Pow) (rI Yq fun i j=>.int (i ^ j.toNat)):=X8 fun _ _ _ _ _ _ _ hc q=>pow_int_small hc.1 hc.2.1 hc.2.2 q
theorem Gm:wA X (inplaceOp .Add) (Ss fun i j=>.int (i+j)):=Wa fun _ _ _ _ _ _ _ q=>iadd_int q
end
noncomputable def Wi:V->V->Bool
 | .non,.non=>true | .non,.int _=>true | .int _,.non=>true | .non,.bl _=>true | .bl _,.non=>true | .non,.str _=>true | .str _,.non=>true
 | .int _,.int _=>true | .bl _,.bl _=>true | .str _,.str _=>true | .byt _,.byt _=>true
 | .int _,.str _=>true | .str _,.int _=>true | .bl _,.str _=>true | .str _,.bl _=>true
 | _,_=>false
noncomputable def rEq:R2:=fun x y H Q=>Wi x y=true/\Q (.bl (decide (x=y))) H
noncomputable def rNe:R2:=fun x y H Q=>Wi x y=true/\Q (.bl (!decide (x=y))) H
theorem Mh {i j:Int}:decide (V.int i=V.int j)=(i == j):=by
 rw [Bool.eq_iff_iff]
 simp
theorem Q8 {i j:Bool}:decide (V.bl i=V.bl j)=(i == j):=by
 rw [Bool.eq_iff_iff]
 simp
theorem M5 {i j:Str}:decide (V.str i=V.str j)=(i == j):=by
 rw [Bool.eq_iff_iff]
 simp
theorem MF {i j:Array UInt8}:decide (V.byt i=V.byt j)=(i.toList == j.toList):=by
 rw [Bool.eq_iff_iff]
 cases i
 cases j
 simp
section
variable {X:Cx} {a b c:Expr} {ta tb tc:TE} {pos:Pos}
theorem cM {pins:List (Addr×Obj)} {σ:St} {H:Hp} {s:Shared} {Q:VK} {k k':Bool} (I:Inv X pins σ H s) (q:Q (.bl k) H) (e:k=k'):EP X pins σ Q (.bool k') s:=by
 subst e
 exact⟨.bl k,H,I,rfl,q⟩
theorem fc:wA X (compareOp .Eq) rEq:=by
 intro pins s σ H x y v u Q I rx ry h
 obtain⟨hs,q⟩:=h
 cases x with
 | non=>
  cases rx
  cases y with
  | non=>cases ry;exact PySem.EqNone.eq_none_none (cM I q (by simp))
  | bl j=>cases ry;exact PySem.EqNone.eq_none_bool (cM I q (by simp))
  | int j=>obtain⟨t',rfl⟩:=ry;exact PySem.EqNone.eq_none_int (cM I q (by simp))
  | str j=>obtain⟨t',rfl⟩:=ry;exact PySem.EqNone.eq_none_str (cM I q (by simp))
  | _=>exact absurd (show false=true from hs) Bool.false_ne_true
 | bl i=>
  cases rx
  cases y with
  | non=>cases ry;exact PySem.EqNone.eq_bool_none (cM I q (by simp))
  | bl j=>cases ry;exact eq_bool (cM I q Q8)
  | str j=>obtain⟨t',rfl⟩:=ry;exact PySem.EqMixed.eq_bool_str (cM I q (by simp))
  | _=>exact absurd (show false=true from hs) Bool.false_ne_true
 | int i=>
  obtain⟨t,rfl⟩:=rx
  cases y with
  | non=>cases ry;exact PySem.EqNone.eq_int_none (cM I q (by simp))
  | int j=>obtain⟨t',rfl⟩:=ry;exact eq_int (cM I q Mh)
  | str j=>obtain⟨t',rfl⟩:=ry;exact PySem.EqMixed.eq_int_str (cM I q (by simp))
  | _=>exact absurd (show false=true from hs) Bool.false_ne_true
 | str i=>
  obtain⟨t,rfl⟩:=rx
  cases y with
  | non=>cases ry;exact PySem.EqNone.eq_str_none (cM I q (by simp))
  | bl j=>cases ry;exact PySem.EqMixed.eq_str_bool (cM I q (by simp))
  | int j=>obtain⟨t',rfl⟩:=ry;exact PySem.EqMixed.eq_str_int (cM I q (by simp))
  | str j=>obtain⟨t',rfl⟩:=ry;exact eq_str (cM I q M5)
  | _=>exact absurd (show false=true from hs) Bool.false_ne_true
 | byt i=>
  obtain⟨t,rfl⟩:=rx
  cases y with
  | byt j=>obtain⟨t',rfl⟩:=ry;exact PySem.W.eq_bytes (cM I q MF)
  | _=>exact absurd (show false=true from hs) Bool.false_ne_true
 | _=>cases y <;> exact absurd (show false=true from hs) Bool.false_ne_true
theorem Jm:wA X (compareOp .NotEq) rNe:=by
 intro pins s σ H x y v u Q I rx ry h
 obtain⟨hs,q⟩:=h
 cases x with
 | non=>
  cases rx
  cases y with
  | non=>cases ry;exact PySem.EqNone.ne_none_none (cM I q (by simp))
  | bl j=>cases ry;exact PySem.EqNone.ne_none_bool (cM I q (by simp))
  | int j=>obtain⟨t',rfl⟩:=ry;exact PySem.EqNone.ne_none_int (cM I q (by simp))
  | str j=>obtain⟨t',rfl⟩:=ry;exact PySem.EqNone.ne_none_str (cM I q (by simp))
  | _=>exact absurd (show false=true from hs) Bool.false_ne_true
 | bl i=>
  cases rx
  cases y with
  | non=>cases ry;exact PySem.EqNone.ne_bool_none (cM I q (by simp))
  | bl j=>cases ry;exact ne_bool (cM I q (congrArg not Q8))
  | str j=>obtain⟨t',rfl⟩:=ry;exact PySem.EqMixed.ne_bool_str (cM I q (by simp))
  | _=>exact absurd (show false=true from hs) Bool.false_ne_true
 | int i=>
  obtain⟨t,rfl⟩:=rx
  cases y with
  | non=>cases ry;exact PySem.EqNone.ne_int_none (cM I q (by simp))
  | int j=>obtain⟨t',rfl⟩:=ry;exact ne_int (cM I q (congrArg not Mh))
  | str j=>obtain⟨t',rfl⟩:=ry;exact PySem.EqMixed.ne_int_str (cM I q (by simp))
  | _=>exact absurd (show false=true from hs) Bool.false_ne_true
 | str i=>
  obtain⟨t,rfl⟩:=rx
  cases y with
  | non=>cases ry;exact PySem.EqNone.ne_str_none (cM I q (by simp))
  | bl j=>cases ry;exact PySem.EqMixed.ne_str_bool (cM I q (by simp))
  | int j=>obtain⟨t',rfl⟩:=ry;exact PySem.EqMixed.ne_str_int (cM I q (by simp))
  | str j=>obtain⟨t',rfl⟩:=ry;exact ne_str (cM I q (congrArg not M5))
  | _=>exact absurd (show false=true from hs) Bool.false_ne_true
 | byt i=>
  obtain⟨t,rfl⟩:=rx
  cases y with
  | byt j=>obtain⟨t',rfl⟩:=ry;exact PySem.W.ne_bytes (cM I q (congrArg not MF))
  | _=>exact absurd (show false=true from hs) Bool.false_ne_true
 | _=>cases y <;> exact absurd (show false=true from hs) Bool.false_ne_true
theorem yh:wA X (compareOp .Lt) (Ss fun i j=>.bl (decide (i <j))):=S8 fun _ _ _ _ _ _ _ q=>lt_int q
theorem vN:wA X (compareOp .LtE) (Ss fun i j=>.bl (decide (i<=j))):=S8 fun _ _ _ _ _ _ _ q=>le_int q
theorem Iv:wA X (compareOp .Gt) (Ss fun i j=>.bl (decide (j <i))):=S8 fun _ _ _ _ _ _ _ q=>gt_int q
theorem Xh:wA X (compareOp .GtE) (Ss fun i j=>.bl (decide (j<=i))):=S8 fun _ _ _ _ _ _ _ q=>ge_int q
theorem yW:wA X (compareOp .In) (fun x y H Q=>∃i j,x=.str i/\y=.str j/\Q (.bl (!(Builtin.Str.occurrences j i 0 j.length 1).isEmpty)) H):=by
 intro pins s σ H x y v u Q I rx ry h
 obtain⟨i,j,rfl,rfl,q⟩:=h
 obtain⟨t,rfl⟩:=rx
 obtain⟨t',rfl⟩:=ry
 exact in_str (cM I q rfl)
theorem bH (b:Expr) {op:CmpOp} (h:op≠.In:=by decide) (h2:op≠.NotIn:=by decide):behindInMarks op b=false:=by
 have e1:(op == CmpOp.In)=false:=by cases op <;> first | rfl | exact absurd rfl h
 have e2:(op == CmpOp.NotIn)=false:=by cases op <;> first | rfl | exact absurd rfl h2
 cases b <;> simp [behindInMarks,e1,e2]
theorem p7 {op:CmpOp} {r:R2} (ho:wA X (compareOp op) r) (ha:PE X a ta) (hb:PE X b tb) (hm:behindInMarks op b=false):PE X (.Compare a [op] [b] pos) (Wj r ta tb):=by
 intro pins s σ H Q I h
 exact wpAny_Compare1 (VG ha hb I h fun v u s2 x y H2 I2 rx ry q=>ho pins s2 σ H2 x y v u Q I2 rx ry q) hm
inductive QV (Q:Bool->Hp->Prop) (x:V) (H':Hp):Prop where
 | mk:∀k,x=.bl k->Q k H'->QV Q x H'
noncomputable def Uj (t:TE):TT:=fun σ H Q=>t σ H fun x H'=>QV Q x H'
theorem bc {op:CmpOp} {r:R2} (ho:wA X (compareOp op) r) (ha:PE X a ta) (hb:PE X b tb) (hm:behindInMarks op b=false):PT X (.Compare a [op] [b] pos) (Uj (Wj r ta tb)):=by
 intro pins s σ H Q I h
 refine wpAny_isTrue_Compare1 (dI (ha pins s σ H _ I h) fun v s1 ⟨x,H1,I1,r1,q1⟩=>dI (hb pins s1 σ H1 _ I1 q1) fun u s2 ⟨y,H2,I2,r2,q2⟩=>
  dI (ho pins s2 σ H2 x y v u _ I2 r1 r2 q2) fun c s3 ⟨z,H3,I3,r3,k,e,q3⟩=>?_) hm
 subst e
 cases r3
 exact wpAny_truthy_bool ⟨H3,I3,q3⟩
inductive Ma (r':R2) (tc:TE) (σ:St) (Q:VK) (y:V) (z:V) (H3:Hp):Prop where
 | mk:∀k,z=.bl k->((if k=true then tc σ H3 fun w' H4=>r' y w' H4 Q else Q (.bl false) H3))->Ma r' tc σ Q y z H3
noncomputable def Ry (r r':R2) (ta tb tc:TE):TE:=fun σ H Q=>ta σ H fun x H1=>tb σ H1 fun y H2=>r x y H2 fun z H3=>Ma r' tc σ Q y z H3
theorem QK {op op':CmpOp} {r r':R2} (ho:wA X (compareOp op) r) (ho':wA X (compareOp op') r') (ha:PE X a ta) (hb:PE X b tb) (hc:PE X c tc)
  (hm:lastMarks [op,op'] [b,c]=false:=by with_unfolding_all rfl):PE X (.Compare a [op,op'] [b,c] pos) (Ry r r' ta tb tc):=by
 intro pins s σ H Q I h
 refine Compare_chain (dI (ha pins s σ H _ I h) fun v s1 ⟨x,H1,I1,r1,q1⟩=>chain_link (dI (hb pins s1 σ H1 _ I1 q1) fun u s2 ⟨y,H2,I2,r2,q2⟩=>
  dI (ho pins s2 σ H2 x y v u _ I2 r1 r2 q2) fun d s3 ⟨z,H3,I3,r3,k,e,q3⟩=>?_)) hm
 subst e
 cases r3
 refine wpAny_truthy_bool ?_
 cases k with
 | false=>exact ite_ff ⟨.bl false,H3,I3,rfl,q3⟩
 | true=>exact ite_tt (chain_last (dI (hc pins s3 σ H3 _ I3 q3) fun w' s4 ⟨z',H4,I4,r4,q4⟩=>ho' pins s4 σ H4 y z' u w' Q I4 r2 r4 q4))
theorem xU {op op':CmpOp} {r r':R2} (ho:wA X (compareOp op) r) (ho':wA X (compareOp op') r') (ha:PE X a ta) (hb:PE X b tb) (hc:PE X c tc)
  (hm:lastMarks [op,op'] [b,c]=false:=by with_unfolding_all rfl):PT X (.Compare a [op,op'] [b,c] pos) (Uj (Ry r r' ta tb tc)):=by
 intro pins s σ H Q I h
 refine isTrue_chain (dI (ha pins s σ H _ I h) fun v s1 ⟨x,H1,I1,r1,q1⟩=>test_link (dI (hb pins s1 σ H1 _ I1 q1) fun u s2 ⟨y,H2,I2,r2,q2⟩=>
  dI (ho pins s2 σ H2 x y v u _ I2 r1 r2 q2) fun d s3 ⟨z,H3,I3,r3,k,e,q3⟩=>?_)) hm
 subst e
 cases r3
 refine wpAny_truthy_bool ?_
 cases k with
 | false=>
  obtain⟨k',e',q'⟩:=q3
  cases e'
  exact ite_ff ⟨H3,I3,q'⟩
 | true=>
  refine ite_tt (test_last (dI (hc pins s3 σ H3 _ I3 q3) fun w' s4 ⟨z',H4,I4,r4,q4⟩=>dI (ho' pins s4 σ H4 y z' u w' _ I4 r2 r4 q4) fun d' s5 hpt=>?_))
  obtain⟨z2,H5,I5,r5,k2,e2,q5⟩:=hpt
  subst e2
  cases r5
  exact wpAny_truthy_bool ⟨H5,I5,q5⟩
theorem Ho:(sizeLine:Nat) <2 ^ 63:=by rw [sizeLine_eq];decide
theorem wI:wA X (binaryOp .Add) (fun x y H Q=>∃i j,x=.str i/\y=.str j/\i.length+j.length<=sizeLine/\Q (.str (i ++ j)) H):=by
 intro pins s σ H x y v u Q I rx ry h
 obtain⟨i,j,rfl,rfl,hz,q⟩:=h
 obtain⟨t,rfl⟩:=rx
 obtain⟨t',rfl⟩:=ry
 exact add_str (fun t' tk=>⟨.str (i ++ j),H,I.tok _,⟨_,rfl⟩,q⟩) hz
theorem vals1 {x:V} {us:List Value} (r:Vals [x] us):∃u,us=[u]/\RelV x u:=by
 cases r with
 | cons r1 r2=>cases r2;exact⟨_,rfl,r1⟩
theorem vals2 {x y:V} {us:List Value} (r:Vals [x,y] us):∃u w',us=[u,w']/\RelV x u/\RelV y w':=by
 cases r with
 | cons r1 r2=>
  cases r2 with
  | cons r3 r4=>cases r4;exact⟨_,_,rfl,r1,r3⟩
theorem Fx (hc:X.calm=true):jZ X (.builtin "max") (fun xs H Q=>∃i j,xs=[.int i,.int j]/\Q (.int (if j >i then j else i)) H):=by
 intro pins s σ H xs us Q I r h
 obtain⟨i,j,rfl,q⟩:=h
 obtain⟨u,w',rfl,⟨t,rfl⟩,⟨t',rfl⟩⟩:=vals2 r
 refine max_two_ints (I.ok.hd hc) fun h' tk k=>⟨_,H,I.kept k,?_,q⟩
 by_cases hj:j >i
 ·rw [if_pos hj,if_pos hj];exact⟨_,rfl⟩
 ·rw [if_neg hj,if_neg hj];exact⟨_,rfl⟩
theorem Hv:jZ X (.type "str") (fun xs H Q=>∃i,xs=[.int i]/\i.natAbs.log2 <1920/\Q (.str (toString i)) H):=by
 intro pins s σ H xs us Q I r h
 obtain⟨i,rfl,hz,q⟩:=h
 obtain⟨u,rfl,t,rfl⟩:=vals1 r
 exact PySem.P.str_of_int hz ⟨.str _,H,I.tok _,⟨_,rfl⟩,q⟩
noncomputable def XH (K:PySem.W.Frag) (x:V) (H:Hp) (n:Nat):Prop:=
 match x with
 | .str y=>y.length<=sizeLine/\n=y.length
 | .byt y=>y.size<=sizeLine/\n=y.size
 | .ref p=>(∃xs,bI K H p xs/\n=xs.length)∨∃xs,fC K H p xs/\n=xs.length
 | _=>False
theorem bV:jZ X (.builtin "len") (fun xs H Q=>∃x n,xs=[x]/\XH X.K x H n/\Q (.int n) H):=by
 intro pins s σ H xs us Q I r h
 obtain⟨x,n,rfl,e,q⟩:=h
 obtain⟨u,rfl,rx⟩:=vals1 r
 have hl:=Ho
 have hs:sizeLine=16777216:=sizeLine_eq
 cases x with
 | str y=>
  obtain⟨t,rfl⟩:=rx
  obtain⟨hy,e'⟩:y.length<=sizeLine/\n=y.length:=e
  subst e'
  exact len_str (by omega) ⟨.int _,H,I.tok _,⟨_,rfl⟩,q⟩
 | byt y=>
  obtain⟨t,rfl⟩:=rx
  obtain⟨hy,e'⟩:y.size<=sizeLine/\n=y.size:=e
  subst e'
  exact PySem.W.len_bytes (by omega) ⟨.int _,H,I.tok _,⟨_,rfl⟩,q⟩
 | ref p=>
  cases rx
  have e':(∃xs,bI X.K H p xs/\n=xs.length)∨∃xs,fC X.K H p xs/\n=xs.length:=e
  rcases e' with ⟨xs,hx,e'⟩ | ⟨xs,hx,e'⟩
  ·subst e'
   obtain⟨its,r',pl,hz⟩:=I.list hx
   have hlen:=r'.length
   exact Calls.call_len_list pl.isList (by simp only [List.size_toArray];omega) ⟨.int xs.length,H,I.tok _,⟨_,by simp only [List.size_toArray];rw [hlen]⟩,q⟩
  ·subst e'
   obtain⟨its,r',pl,hz⟩:=I.tuple hx
   have hlen:=r'.length
   exact len_tuple pl (by simp only [List.size_toArray];omega) ⟨.int xs.length,H,I.tok _,⟨_,by simp only [List.size_toArray];rw [hlen]⟩,q⟩
 | _=>exact(show False from e).elim
end
structure J2 (h:Heap) (x dx C:Addr) (mA:Str->Option Value):Prop where
 obj:h.get? x=some (PySem.W.instObj C dx)
 ns:h.Ns1 dx mA
 ne:dx≠x
theorem Nh {h:Heap} {dx:Addr} {mA:Str->Option Value} (n:h.Ns1 dx mA):∃od,h.get? dx=some od/\∀name,PySem.W.lookIn name od=some (mA name):=by
 obtain⟨o,es,ep,ho,hd,hk,_,hm⟩:=n
 refine⟨o,ho,fun name=>?_⟩
 have e:=hm name
 unfold nsFind findBy at e
 rw [<-Array.find?_toList] at e
 unfold PySem.W.lookIn
 rw [hd]
 dsimp only
 split
 ·rename_i y q
  rw [q] at e
  exact congrArg some e
 ·rename_i q
  rw [q] at e
  have a:es.toList.any (·.refKey)=false:=by
   rw [List.any_eq_false]
   intro y hy
   obtain⟨z,t,hkey⟩:=hk y (Array.mem_toList_iff.mp hy)
   simp [DictEntry.refKey,hkey]
  have a':¬es.toList.any (·.refKey)=true:=by rw [a];exact Bool.false_ne_true
  rw [if_neg a']
  exact congrArg some e
theorem J2.look {h:Heap} {x dx C:Addr} {mA:Str->Option Value} (I:J2 h x dx C mA):∃od,PySem.W.InstAt h x (PySem.W.instObj C dx) C (some od)/\∀name,PySem.W.lookIn name od=some (mA name):=
 let ⟨od,ho,hl⟩:=Nh I.ns
 ⟨od,⟨I.obj,rfl,rfl,ho⟩,hl⟩
section
variable {prog:Program} {w:World} {A:Around} {E:Value->Shared->Prop} {s:Shared} {K:PySem.W.Frag} {x dx C f:Addr} {mA:Str->Option Value} {name:Str} {v:Value}
theorem TX {expr:Bool} {Q:Value->Shared->Prop} (X:K.In s.heap) (I:J2 s.heap x dx C mA) (hg:PySem.W.plainGet K C name=true) (hh:PySem.W.hasDictIn K C=true)
  (ha:PySem.W.findIn K (.ref C) name=some none) (hv:mA name=some v) (hv':PySem.W.handedIn v=true) (h:Q v { s with toks:=s.toks+1 }):
  wpAny (model prog w) A (getAttr (.ref x) name expr) Q E s:=by
 obtain⟨od,J,hl⟩:=I.look
 exact PySem.W.get_value X J (PySem.W.plainGet_of hg).1 (PySem.W.findObj_own hh ha rfl (by rw [hl,hv])) hv' h
theorem O7 {pl:Sem Bool} {Q:Value×List Value->Shared->Prop} (X:K.In s.heap) (I:J2 s.heap x dx C mA) (hg:PySem.W.plainGet K C name=true)
  (hf:PySem.W.findIn K (.ref C) name=some (some (.ref f))) (ht:PySem.W.isFn K (.ref f)=true) (hv:mA name=none) (h:Q (.ref f,[.ref x]) s):
  wpAny (model prog w) A (getMethod (.ref x) name pl) Q E s:=by
 obtain⟨od,J,hl⟩:=I.look
 exact PySem.W.method_fn X J (PySem.W.plainGet_of hg).1 (PySem.W.plainGet_of hg).2 hf (beq_iff_eq.mp ht) (by show(PySem.W.lookIn name od).map (·.isSome)=some false;rw [hl,hv];rfl) h
theorem Tn {ns:List Str} {Q:Unit->Shared->Prop} (X:K.In s.heap) (I:J2 s.heap x dx C mA)
  (hs:PySem.W.findIn K (.ref C) "__setattr__" =some (some (.builtin "object.__setattr__"))) (hp:PySem.W.plainOver K C=true) (ht:PySem.W.takerIn K C name=some none) (hh:PySem.W.hasDictIn K C=true)
  (hw:PySem.Within mA ns) (hsz:ns.length<=sizeLine)
  (h:∀h',J2 h' x dx C (fun y=>if y=name then some v else mA y)->Heap.SameBut dx s.heap h'->Q () { s with heap:=h',toks:=s.toks+2 }):
  wpAny (model prog w) A (setAttr (.ref x) name v) Q E s:=by
 obtain⟨od,J,hl⟩:=I.look
 refine PySem.W.set_plain X J hs (PySem.W.osa_open (s:={ s with toks:=s.toks+1 }) (r:=none) X J hp ht fun b=>?_)
 obtain⟨cd,hc,hd'⟩:=PySem.W.any_some hh
 have hx:s.heap.get? x=some ⟨.ref C,some dx,.plain,#[]⟩:=I.obj
 refine wpAny_bind (wpAny_pure (wpAny_bind (wpAny_bind (wpAny_loadPart hx (wpAny_bind (PySem.W.Looks.here (s:={ s with toks:=s.toks+1 }) (PySem.W.looks_clsIn X hc) ?_))))))
 rw [hd']
 refine wpAny_pure (a:=some dx) (wpAny_bind (wpAny_pure (wpAny_bind ?_)))
 refine wpAny_nsSet1 (s:={ s with toks:=s.toks+1 }) I.ns fun h' hn2 hs2=>?_
 obtain⟨oD,esD,epD,hoD,hdD,hcD⟩:=hn2.count (PySem.Within.cons name v hw)
 refine wpAny_bind (wpAny_lookBehind hoD (by rw [hdD];exact pastItsLine_dict (Nat.le_trans hcD (by rw [List.length_cons];omega))) ?_)
 exact wpAny_pure (h _ ⟨(hs2.2 _ (Ne.symm I.ne)).trans I.obj,hn2,I.ne⟩ hs2)
theorem PK {R:Result->Shared->Prop} {vs:List Value} {kw:List (Str×Value)} (X:K.In s.heap) (hm:PySem.W.makesIn K C=true)
  (hi:PySem.W.findIn K (.ref C) "__init__" =some (some (.ref f))) (hf:PySem.W.typeIn K (.ref f)=some (.type "function"))
  (h:codeAny (model prog w) (A.under (.builtin "type.__call__" ⟨.ref C:: vs,kw⟩)) (.call (.ref f) ⟨.ref (s.heap.objs.size+1):: vs,kw⟩) (PySem.W.InitBack (s.heap.objs.size+1) R)
   { s with heap:=(s.heap.push PySem.W.emptyDict).push (PySem.W.instObj C s.heap.objs.size) }):
  codeAny (model prog w) A (.call (.ref C) ⟨vs,kw⟩) R s:=by
 obtain⟨hh,g,d,t,os⟩:=s
 exact PySem.W.make_core (PySem.W.makes_of X hm) (PySem.W.looks_findIn X hi) (fun self=>PySem.W.bind_fn X self hf) (.inl rfl) h
end
noncomputable def aH (f:Str) (v:V):List (Str×V)->List (Str×V)
 | []=>[(f,v)]
 | (g,x):: r=>if g=f then(g,v):: r else(g,x):: aH f v r
theorem aC (f g:Str) (v:V):∀fs:List (Str×V),(aH f v fs).lookup g=if g=f then some v else fs.lookup g
 | []=>by
  show List.lookup g [(f,v)]=_
  by_cases h:g=f
  ·have hb:(g == f)=true:=beq_iff_eq.mpr h
   simp only [List.lookup,hb,if_pos h]
  ·have hb:(g == f)=false:=beq_eq_false_iff_ne.mpr h
   simp only [List.lookup,hb,if_neg h]
 | (k,x):: r=>by
  have ih:=aC f g v r
  rw [show aH f v ((k,x):: r)=(if k=f then(k,v):: r else(k,x):: aH f v r) from rfl]
  by_cases hk:k=f
  ·rw [if_pos hk]
   by_cases h:g=k
   ·have hb:(g == k)=true:=beq_iff_eq.mpr h
    simp only [List.lookup,hb,if_pos (h.trans hk)]
   ·have hb:(g == k)=false:=beq_eq_false_iff_ne.mpr h
    simp only [List.lookup,hb,if_neg (fun e:g=f=>h (e.trans hk.symm))]
  ·rw [if_neg hk]
   by_cases h:g=k
   ·have hb:(g == k)=true:=beq_iff_eq.mpr h
    simp only [List.lookup,hb,if_neg (fun e:g=f=>hk (h.symm.trans e))]
   ·have hb:(g == k)=false:=beq_eq_false_iff_ne.mpr h
    simp only [List.lookup,hb]
    exact ih
theorem zm (f:Str) (v:V):∀fs:List (Str×V),f∈(aH f v fs).map (·.1)/\∀g,g∈fs.map (·.1)->g∈(aH f v fs).map (·.1)
 | []=>⟨by simp [aH],fun g h=>by simp at h⟩
 | (k,x):: r=>by
  obtain⟨i1,i2⟩:=zm f v r
  rw [show aH f v ((k,x):: r)=(if k=f then(k,v):: r else(k,x):: aH f v r) from rfl]
  by_cases hk:k=f
  ·rw [if_pos hk]
   subst hk
   exact⟨by simp,fun g h=>by simpa using h⟩
  ·rw [if_neg hk]
   refine⟨?_,fun g h=>?_⟩
   ·rw [List.map_cons]
    exact List.mem_cons_of_mem _ i1
   ·rw [List.map_cons] at h ⊢
    rcases List.mem_cons.mp h with e | e
    ·exact List.mem_cons.mpr (.inl e)
    ·exact List.mem_cons_of_mem _ (i2 g e)
theorem uB (f:Str) (v:V):∀fs:List (Str×V),(aH f v fs).length<=fs.length+1
 | []=>by simp [aH]
 | (k,x):: r=>by
  have ih:=uB f v r
  rw [show aH f v ((k,x):: r)=(if k=f then(k,v):: r else(k,x):: aH f v r) from rfl]
  by_cases hk:k=f
  ·rw [if_pos hk,List.length_cons,List.length_cons];omega
  ·rw [if_neg hk,List.length_cons,List.length_cons];omega
theorem rT.some_of {v:V} {o:Option Value} (r:rT (some v) o):∃u,o=some u/\RelV v u:=by
 cases o with
 | none=>exact(show False from r).elim
 | some u=>exact⟨u,rfl,r⟩
theorem rT.none_of {o:Option Value} (r:rT none o):o=none:=by
 cases o with
 | none=>rfl
 | some u=>exact(show False from r).elim
theorem Ob {v:V} {u:Value} (r:RelV v u):PySem.W.handedIn u=true:=by
 cases v with
 | non=>cases (show u=Value.none from r);rfl
 | bl b=>cases (show u=Value.bool b from r);rfl
 | int i=>obtain⟨t,e⟩:=(show ∃t,u=Value.int i t from r);cases e;rfl
 | str x=>obtain⟨t,e⟩:=(show ∃t,u=Value.str x t from r);cases e;rfl
 | byt b=>obtain⟨t,e⟩:=(show ∃t,u=Value.bytes b t from r);cases e;rfl
 | flt b=>obtain⟨t,e⟩:=(show ∃t,u=Value.float b t from r);cases e;rfl
 | ref a=>cases (show u=Value.ref a from r);rfl
 | ty n=>cases (show u=Value.type n from r);rfl
section
variable {P:Program} {w:World} {H H':Hp} {h h':Heap} {a C dx:Addr} {fs fs':List (Str×V)}
theorem Gh (hok:vp P w H h) (e:H a=some (.ins C dx fs)):∃mA,J2 h a dx C mA/\(∀f,rT (fs.lookup f) (mA f))/\PySem.Within mA (fs.map (·.1))/\fs.length<=1000/\H dx=some (.own a):=by
 obtain⟨d,z,ne,ob,mA,n,r,q⟩:=(show fQ P w H h a (.ins C dx fs) from hok a _ e)
 exact⟨mA,⟨ob,n,ne⟩,r,q,z,d⟩
end
structure Nu (K:PySem.W.Frag) (C:Addr):Prop where
 pg:PySem.W.plainGet K C Str.empty=true
 hd:PySem.W.hasDictIn K C=true
 po:PySem.W.plainOver K C=true
 sa:PySem.W.findIn K (.ref C) "__setattr__" =some (some (.builtin "object.__setattr__"))
theorem Nu.get {K:PySem.W.Frag} {C:Addr} (c:Nu K C) (f:Str):PySem.W.plainGet K C f=true:=c.pg
noncomputable def pB (K:PySem.W.Frag) (C:Addr) (f:Str):Prop:=PySem.W.findIn K (.ref C) f=some none
theorem pB.taker {K:PySem.W.Frag} {C:Addr} {f:Str} (n:pB K C f):PySem.W.takerIn K C f=some none:=by
 unfold PySem.W.takerIn
 rw [show PySem.W.findIn K (.ref C) f=some none from n]
 rfl
structure Meth (K:PySem.W.Frag) (C:Addr) (m:Str) (f:Addr):Prop where
 at_:PySem.W.findIn K (.ref C) m=some (some (.ref f))
 fn:PySem.W.isFn K (.ref f)=true
 kp:PySem.W.keepIn K (.ref f)=true
section
variable {X:Cx} {pins:List (Addr×Obj)} {σ:St} {H:Hp} {s:Shared} {a C dx:Addr} {fs:List (Str×V)} {f:Str} {v:V} {A:Around} {E:Value->Shared->Prop}
theorem CP {b:Bool} {Q:Value->Shared->Prop} (I:Inv X pins σ H s) (e:H a=some (.ins C dx fs)) (c:Nu X.K C) (n:pB X.K C f) (l:fs.lookup f=some v)
  (h:∀u s',Inv X pins σ H s'->RelV v u->Q u s'):wpAny (model X.prog X.w) A (getAttr (.ref a) f b) Q E s:=by
 obtain⟨mA,O,r,_,_,_⟩:=Gh I.hok e
 obtain⟨u,hu,ru⟩:=rT.some_of (v:=v) (o:=mA f) (by rw [<-l];exact r f)
 exact TX I.kIn O (c.get f) c.hd n hu (Ob ru) (h u _ (I.tok _) ru)
theorem sW {m:Str} {g:Addr} {pl:Sem Bool} {Q:Value×List Value->Shared->Prop} (I:Inv X pins σ H s) (e:H a=some (.ins C dx fs)) (c:Nu X.K C) (k:Meth X.K C m g) (l:fs.lookup m=none)
  (h:Q (.ref g,[.ref a]) s):wpAny (model X.prog X.w) A (getMethod (.ref a) m pl) Q E s:=by
 obtain⟨mA,O,r,_,_,_⟩:=Gh I.hok e
 have hn:mA m=none:=rT.none_of (by rw [<-l];exact r m)
 exact O7 I.kIn O (c.get m) k.at_ k.fn hn h
theorem CZ {y:V} {u:Value} {Q:Unit->Shared->Prop} (I:Inv X pins σ H s) (e:H a=some (.ins C dx fs)) (c:Nu X.K C) (n:pB X.K C f) (hl:fs.length <1000) (ry:RelV y u)
  (h:∀s',Inv X pins σ (upd H a (.ins C dx (aH f y fs))) s'->Q () s'):wpAny (model X.prog X.w) A (setAttr (.ref a) f u) Q E s:=by
 obtain⟨mA,O,r,wi,_,ho⟩:=Gh I.hok e
 have hz:(fs.map (·.1)).length<=sizeLine:=by rw [List.length_map,sizeLine_eq];omega
 refine Tn I.kIn O c.sa c.po n.taker c.hd wi hz fun h' O' sb=>h _ ?_
 have hd:∃o,h'.get? dx=some o:=let ⟨o,_,_,e',_⟩:=O'.ns;⟨o,e'⟩
 refine I.write (x:=a) (e:=dx) (by rw [e];exact True.intro) (.inr ho) (fun b q hb z=>(sb.2 b hb).trans z) hd ?_
 refine⟨by rw [aK O.ne];exact ho,?_,O.ne,O'.obj,_,O'.ns,fun g=>?_,fun g hg=>?_⟩
 ·have:=uB f y fs;omega
 ·show rT ((aH f y fs).lookup g) (if g=f then some u else mA g)
  rw [aC]
  by_cases q:g=f
  ·rw [if_pos q,if_pos q];exact ry
  ·rw [if_neg q,if_neg q];exact r g
 ·by_cases q:g=f
  ·rw [q];exact(zm f y fs).1
  ·refine(zm f y fs).2 g (wi g fun z=>hg ?_)
   show(if g=f then some u else mA g)=none
   rw [if_neg q];exact z
theorem Inv.made (I:Inv X pins σ H s):Inv X pins σ (upd (upd H s.heap.objs.size (.own (s.heap.objs.size+1))) (s.heap.objs.size+1) (.ins C s.heap.objs.size []))
  { s with heap:=(s.heap.push PySem.W.emptyDict).push (PySem.W.instObj C s.heap.objs.size) }:=by
 have e1:(s.heap.push PySem.W.emptyDict).get? s.heap.objs.size=some PySem.W.emptyDict:=Heap.get?_push_size s.heap rfl
 have e2:((s.heap.push PySem.W.emptyDict).push (PySem.W.instObj C s.heap.objs.size)).get? (s.heap.objs.size+1)=some (PySem.W.instObj C s.heap.objs.size):=by
  have:=Heap.get?_push_size (s.heap.push PySem.W.emptyDict) (o:=PySem.W.instObj C s.heap.objs.size) rfl
  rwa [Heap.size_push] at this
 have e3:(s.heap.push PySem.W.emptyDict).Ns s.heap.objs.size (fun _=>none):=⟨PySem.W.emptyDict,#[],_,e1,rfl,(fun e he=>absurd he (by simp)),fun _=>rfl⟩
 have I1:=I.laid (a:=s.heap.objs.size) (o:=.own (s.heap.objs.size+1)) (h':=s.heap.push PySem.W.emptyDict) (t':=s.toks) (fun b u q=>Heap.get?_push_of_some _ q) (Nat.le_refl _) ⟨_,e1⟩
 refine I1.laid (a:=s.heap.objs.size+1) (o:=.ins C s.heap.objs.size []) (t':=s.toks) (fun b u q=>Heap.get?_push_of_some _ q) (Nat.le_of_eq (Heap.size_push _ _)) ?_
 have ne:s.heap.objs.size≠s.heap.objs.size+1:=Nat.ne_of_lt (Nat.lt_succ_self _)
 refine⟨by rw [aK ne,az],Nat.zero_le _,ne,e2,fun _=>none,(Heap.Ns1.of_empty e3).at fun o q=>Heap.get?_push_of_some _ q,fun _=>True.intro,fun y hy=>absurd rfl hy⟩
theorem Te {prog:Program} {w:World} {env:Env} {e:Expr} {f:Str} {pos:Pos} {s:Shared} {Q:Value->Shared->Prop} (hb:attributeBase e f env (eval e env)=eval e env)
  (h:wpAny (model prog w) A (eval e env) (fun o s₁=>wpAny (model prog w) A (getAttr o f true) Q E s₁) E s):wpAny (model prog w) A (eval (.Attribute e f pos) env) Q E s:=
 Attribute_any_ h (by rw [arm_eval_Attribute,hb])
end
inductive U4 (K:PySem.W.Frag) (f:Str) (Q:VK) (x:V) (H1:Hp):Prop where
 | mk:∀a C dx fs v,x=.ref a->H1 a=some (.ins C dx fs)->Nu K C->pB K C f->fs.lookup f=some v->Q v H1->U4 K f Q x H1
noncomputable def Xj (K:PySem.W.Frag) (ta:TE) (f:Str):TE:=fun σ H Q=>ta σ H fun x H1=>U4 K f Q x H1
inductive TY (K:PySem.W.Frag) (f:Str) (D:Ends) (σ:St) (y:V) (x:V) (H2:Hp):Prop where
 | mk:∀a C dx fs,x=.ref a->H2 a=some (.ins C dx fs)->Nu K C->pB K C f->fs.length <1000->D.nx σ (upd H2 a (.ins C dx (aH f y fs)))->TY K f D σ y x H2
noncomputable def YF (K:PySem.W.Frag) (ta tv:TE) (f:Str):TS:=fun D σ H=>tv σ H fun y H1=>ta σ H1 fun x H2=>TY K f D σ y x H2
noncomputable def Xg (X:Cx) (op:Operator) (rd:V->V->Hp->VK->Prop):Prop:=
 ∀(pins:List (Addr×Obj)) (s:Shared) (σ:St) (H:Hp) (x y:V) (u v:Value) (Q:VK),Inv X pins σ H s->RelV x u->RelV y v->rd x y H Q->wpAny (model X.prog X.w) X.A (inplaceOp op u v) (EP X pins σ Q) X.xe s
inductive Ja (K:PySem.W.Frag) (tv:TE) (rd:V->V->Hp->VK->Prop) (f:Str) (D:Ends) (σ:St) (x:V) (H1:Hp):Prop where
 | mk:∀a C dx fs v,x=.ref a->H1 a=some (.ins C dx fs)->Nu K C->pB K C f->fs.lookup f=some v->(tv σ H1 fun y H2=>rd v y H2 fun z H3=>∃dx' fs',H3 a=some (.ins C dx' fs')/\fs'.length <1000/\D.nx σ (upd H3 a (.ins C dx' (aH f z fs'))))->Ja K tv rd f D σ x H1
noncomputable def RT (K:PySem.W.Frag) (ta tv:TE) (rd:V->V->Hp->VK->Prop) (f:Str):TS:=fun D σ H=>ta σ H fun x H1=>Ja K tv rd f D σ x H1
section
variable {X:Cx} {o e value:Expr} {f:Str} {pos pos' tpos:Pos} {ta tv:TE}
theorem bh (he:PE X e ta) (hb:attributeBase e f X.env (eval e X.env)=eval e X.env):PE X (.Attribute e f pos) (Xj X.K ta f):=by
 intro pins s σ H Q I h
 refine Te hb (dI (he pins s σ H _ I h) fun u s1 hpt=>?_)
 obtain⟨x,H1,I1,rx,a,C,dx,fs,v,ex,ea,c,n,l,q⟩:=hpt
 subst ex
 obtain rfl:u=Value.ref a:=rx
 exact CP I1 ea c n l fun u' s2 I2 ru=>⟨v,H1,I2,ru,q⟩
theorem ik (ha:PE X o ta) (hv:PE X value tv) (hs:swapsWith value (some (.Attribute o f pos')) pos.line X.env=pure false):PS X (.Assign [.Attribute o f pos'] value pos) (YF X.K ta tv f):=by
 intro pins s σ H D I h
 refine plainObj_wpAny_Assign_Attribute (dI (hv pins s σ H _ I h) fun u s1 ⟨y,H1,I1,ry,q⟩=>dI (ha pins s1 σ H1 _ I1 q) fun ov s2 hpt=>?_) hs
 obtain⟨x,H2,I2,rx,a,C,dx,fs,ex,ea,c,n,l,q2⟩:=hpt
 subst ex
 obtain rfl:ov=Value.ref a:=rx
 exact CZ I2 ea c n l ry fun s3 I3=>⟨σ,_,I3,q2⟩
theorem Nq {op:Operator} {rd:V->V->Hp->VK->Prop} (ha:PE X o ta) (hv:PE X value tv) (hop:Xg X op rd):PS X (.AugAssign (.Attribute o f tpos) op value pos) (RT X.K ta tv rd f):=by
 intro pins s σ H D I h
 refine wpAny_AugAssign_AttributeAny (dI (ha pins s σ H _ I h) fun ov s1 hpt=>?_)
 obtain⟨x,H1,I1,rx,a,C,dx,fs,v,ex,ea,c,n,l,q⟩:=hpt
 subst ex
 obtain rfl:ov=Value.ref a:=rx
 refine CP I1 ea c n l fun u s2 I2 ru=>dI (hv pins s2 σ H1 _ I2 q) fun w3 s3 ⟨y,H2,I3,ry,q3⟩=>dI (hop pins s3 σ H2 v y u w3 _ I3 ru ry q3) fun w4 s4 hpt=>?_
 obtain⟨z,H3,I4,rz,dx',fs',ea',l',q4⟩:=hpt
 exact CZ I4 ea' c n l' rz fun s5 I5=>⟨σ,_,I5,q4⟩
end
section
variable {X:Cx} {pins:List (Addr×Obj)} {σ:St} {H:Hp} {s:Shared} {A:Around} {E:Value->Shared->Prop} {Q:Value->Shared->Prop} {c:Value} {b:Bool}
end
structure jg (k:Nat) (A:Around):Prop where
 hd:A.handled=none
 dp:A.depth+3 * k+5 <recursionLimit
 un:A.units+16 * k+200 <cLine
theorem jg.mono {j k:Nat} {A:Around} (r:jg k A) (h:j<=k):jg j A:=⟨r.hd,by have:=r.dp;omega,by have:=r.un;omega⟩
theorem jg.deeper {k:Nat} {A:Around} (r:jg (k+1) A) (env:Env):jg k (A.deeper env):=
 ⟨r.hd,by have:=r.dp;show A.depth+1+3 * k+5 <_;omega,by have:=r.un;show A.units+3+16 * k+200 <_;omega⟩
theorem J6 {A:Around} {C:Addr} {us:List Value} {kw:List (Str×Value)}:(A.under (.builtin "type.__call__" ⟨.ref C:: us,kw⟩)).depth=A.depth+1:=by
 first | rfl | simp [Around.under,Code.weight,Code.isCreation,Code.isGuard,Code.isCaller,Code.frames,Code.isFrame,guardIds]
theorem Kf {A:Around} {C:Addr} {us:List Value} {kw:List (Str×Value)}:(A.under (.builtin "type.__call__" ⟨.ref C:: us,kw⟩)).units=A.units+1:=by
 first | rfl | simp [Around.under,Code.cUnits,Code.frames,Code.isFrame]
theorem jg.make {k:Nat} {A:Around} (r:jg (k+1) A) (C:Addr) (us:List Value) (kw:List (Str×Value)):jg k (A.under (.builtin "type.__call__" ⟨.ref C:: us,kw⟩)):=
 ⟨r.hd,by have:=r.dp;rw [J6];omega,by have:=r.un;rw [Kf];omega⟩
theorem jg.depth {k:Nat} {A:Around} (r:jg k A):A.depth <recursionLimit:=by have:=r.dp;omega
theorem jg.units {k:Nat} {A:Around} (r:jg k A):A.units+64 <cLine:=by have:=r.un;omega
noncomputable def Q7:TA:=fun _ H Q=>Q [] H
noncomputable def Wo (ta:TE) (tr:TA):TA:=fun σ H Q=>ta σ H fun x H1=>tr σ H1 fun xs H2=>Q (x:: xs) H2
section
variable {X:Cx} {e:Expr} {es:List Expr} {te:TE} {t:TA} {pos:Pos}
theorem ak:PA X [] Q7:=fun _ _ _ _ H Q I h=>Calls.spliced_nil ⟨[],H,I,.nil,h⟩
theorem aa (ha:PE X e te) (hr:PA X es t) (hs:starEach (e:: es) X.env=(false,eval e X.env):: starEach es X.env:=by rfl):PA X (e:: es) (Wo te t):=by
 intro pos pins s σ H Q I h
 rw [hs]
 show wpAny _ _ (spliced ((false,eval e X.env):: backTo pos (starEach es X.env))) _ _ s
 refine Calls.spliced_cons (dI (ha pins s σ H _ I h) fun u s1 hpt=>?_)
 obtain⟨x,H1,I1,r1,q1⟩:=hpt
 exact dI (hr pos pins s1 σ H1 _ I1 q1) fun us s2 ⟨xs,H2,I2,r2,q2⟩=>⟨x:: xs,H2,I2,.cons r1 r2,q2⟩
noncomputable def YX (t:TA):TE:=fun σ H Q=>t σ H fun xs H1=>xs.length<=sizeLine/\∀p,H1 p=none->Q (.ref p) (upd H1 p (.tup xs))
noncomputable def Yo (t:TA):TE:=fun σ H Q=>t σ H fun xs H1=>xs.length<=sizeLine/\∀p,H1 p=none->Q (.ref p) (upd H1 p (.lst xs))
theorem cg {x1} (h:PA X es t):PE X (.Tuple es x1 pos) (YX t):=by
 intro pins s σ H Q I hq
 refine wpAny_Tuple_spliced (dI (h pos pins s σ H _ I hq) fun us s1 ⟨xs,H1,I1,r,z,q⟩=>⟨by rw [<-r.length];exact z,?_⟩)
 have hf:H1 s1.heap.objs.size=none:=I1.hok.fresh (Nat.le_refl _)
 refine⟨.ref s1.heap.objs.size,upd H1 s1.heap.objs.size (.tup xs),I1.laid (t':=s1.toks) (fun b u e=>Heap.get?_push_of_some _ e) (Nat.le_refl _) ?_,rfl,q _ hf⟩
 exact⟨z,us,r,⟨_,Heap.get?_push_size _ rfl,rfl,_,rfl⟩⟩
theorem bz (h:PA X es t):PE X (.List es pos) (Yo t):=by
 intro pins s σ H Q I hq
 refine wpAny_List_spliced (dI (h pos pins s σ H _ I hq) fun us s1 ⟨xs,H1,I1,r,z,q⟩=>⟨by rw [<-r.length];exact z,?_⟩)
 have hf:H1 s1.heap.objs.size=none:=I1.hok.fresh (Nat.le_refl _)
 refine⟨.ref s1.heap.objs.size,upd H1 s1.heap.objs.size (.lst xs),I1.laid (t':=s1.toks) (fun b u e=>Heap.get?_push_of_some _ e) (Nat.le_refl _) ?_,rfl,q _ hf⟩
 exact⟨z,us,0,r,Heap.get?_push_size _ rfl⟩
end
noncomputable abbrev Sp:=List V->Hp->VK->XK->Prop
noncomputable abbrev Et:=List Env->Hp->Shared->XK->Value->Shared->Prop
structure KY (P:Program) (w:World) (K:PySem.W.Frag) (mg:Str->Option Value) (base:Heap) (A:Around) (outer:List Env) (s:Shared) (H:Hp):Prop where
 frames:A.frames=some outer
 mod:Mod K mg base
 bs:∀b o,base.get? b=some o->s.heap.get? b=some o/\H b=none
 bsz:base.objs.size<=s.heap.objs.size
 funs:s.heap.FunFrames base outer
 frf:∀b∈frs outer,H b=none
 hok:vp P w H s.heap
 bare:AllBare s.gens
noncomputable def CE (outer:List Env) (P:Program) (w:World) (H:Hp) (s:Shared) (Q:VK) (u:Value) (s':Shared):Prop:=
 ∃v H',s'.os=s.os/\AllBare s'.gens/\Un (frs outer) [] H H' s.heap s'.heap/\vp P w H' s'.heap/\RelV v u/\Q v H'
noncomputable def CR (CX:Et) (outer:List Env) (P:Program) (w:World) (H:Hp) (s:Shared) (Q:VK) (E:XK) (r:Result) (s':Shared):Prop:=
 match r with
 | .ok (.ret u)=>CE outer P w H s Q u s'
 | .ok _=>False
 | .error e=>CX outer H s E e s'
structure iB (P:Program) (w:World) (K:PySem.W.Frag) (mg:Str->Option Value) (base:Heap) (CX:Et) (k:Nat) (f:Addr) (fd:FuncData) (ps:List Str) (sp:Sp):Prop where
 len:∀vs H Q E,sp vs H Q E->vs.length=ps.length
 run:∀(A:Around) (outer:List Env) (s:Shared) (H:Hp) (args:Args) (us:List Value) (vs:List V) (Q:VK) (E:XK),jg k A->KY P w K mg base A outer s H->BindsTo s fd args (ps.zip us)->Vals vs us->sp vs H Q E->
  codeAny (model P w) A (.call (.ref f) args) (CR CX outer P w H s Q E) s
theorem iB.mono {P:Program} {w:World} {K:PySem.W.Frag} {mg:Str->Option Value} {base:Heap} {CX:Et} {j k:Nat} {f:Addr} {fd:FuncData} {ps:List Str} {sp:Sp} (F:iB P w K mg base CX j f fd ps sp) (h:j<=k):
  iB P w K mg base CX k f fd ps sp:=⟨F.len,fun A outer s H args us vs Q E hr=>F.run A outer s H args us vs Q E (hr.mono h)⟩
theorem iB.imp {P:Program} {w:World} {K:PySem.W.Frag} {mg:Str->Option Value} {base:Heap} {CX:Et} {k:Nat} {f:Addr} {fd:FuncData} {ps:List Str} {sp sp':Sp} (F:iB P w K mg base CX k f fd ps sp)
  (h:∀vs H Q E,sp' vs H Q E->sp vs H Q E):iB P w K mg base CX k f fd ps sp':=
 ⟨fun vs H Q E q=>F.len vs H Q E (h _ _ _ _ q),fun A outer s H args us vs Q E hr he hb hv hs=>F.run A outer s H args us vs Q E hr he hb hv (h _ _ _ _ hs)⟩
theorem KY.make {P:Program} {w:World} {K:PySem.W.Frag} {mg:Str->Option Value} {base:Heap} {A:Around} {outer:List Env} {s:Shared} {H:Hp} (e:KY P w K mg base A outer s H) (C:Addr) (us:List Value) (kw:List (Str×Value)):
  KY P w K mg base (A.under (.builtin "type.__call__" ⟨.ref C:: us,kw⟩)) outer s H:=⟨by first | exact e.frames | (simpa [Around.under,Code.envs,Code.isFrame,pushEnvs] using e.frames),e.mod,e.bs,e.bsz,e.funs,e.frf,e.hok,e.bare⟩
section
variable {X:Cx} {pins:List (Addr×Obj)} {σ:St} {H:Hp} {s s':Shared}
theorem Inv.env0 (I:Inv X pins σ H s):KY X.prog X.w X.K X.mg X.base X.A X.stack s H:=
 ⟨I.ok.frames,I.ok.mod,I.bs,Nat.le_trans I.ok.bsz I.sz,I.stack,I.stkFree,I.hok,I.bare⟩
theorem Inv.after {Q:VK} {u:Value} (I:Inv X pins σ H s) (h:CE X.stack X.prog X.w H s Q u s'):EP X pins σ Q u s':=by
 obtain⟨v,H',os,bare,un,hok,r,q⟩:=h
 obtain⟨hh,g,d,t,os'⟩:=s'
 obtain rfl:os'=s.os:=os
 exact⟨v,H',I.call (h':=hh) (g':=g) (d':=d) (t':=t) (ch:=[]) un hok bare (fun b z=>absurd z (by simp)),r,q⟩
end
noncomputable def Up (sp:Sp) (dvs:List V) (E:XK) (t:TA):TE:=fun σ H Q=>t σ H fun vs H1=>sp (vs ++ dvs) H1 Q E
inductive Qi (C:Addr) (m:Str) (sp:Sp) (dvs:List V) (E:XK) (t:TA) (σ:St) (Q:VK) (x:V) (H1:Hp):Prop where
 | mk:∀a dx fs,x=.ref a->H1 a=some (.ins C dx fs)->fs.lookup m=none->(t σ H1 fun vs H2=>sp (x:: (vs ++ dvs)) H2 Q E)->Qi C m sp dvs E t σ Q x H1
noncomputable def LQ (C:Addr) (m:Str) (sp:Sp) (dvs:List V) (E:XK) (ta:TE) (t:TA):TE:=fun σ H Q=>ta σ H fun x H1=>Qi C m sp dvs E t σ Q x H1
noncomputable def WX (C:Addr) (sp:Sp) (dvs:List V) (E:XK) (t:TA):TE:=fun σ H Q=>t σ H fun vs H1=>∀x dx,H1 x=none->H1 dx=none->dx≠x->
 sp (.ref x:: (vs ++ dvs)) (upd (upd H1 dx (.own x)) x (.ins C dx [])) (fun v H2=>v=.non/\Q (.ref x) H2) E
noncomputable def Binds (K:PySem.W.Frag) (fd:FuncData) (ps:List Str) (ds:List Value):Prop:=
 ∀(s:Shared) (us:List Value),K.In s.heap->(us ++ ds).length=ps.length->BindsTo s fd ⟨us,[]⟩ (ps.zip (us ++ ds))
theorem Binds.all {K:PySem.W.Frag} {fd:FuncData} {ps:List Str} (h:∀us:List Value,us.length=ps.length->bindArgs fd ⟨us,[]⟩=pure (ps.zip us)):Binds K fd ps []:=fun s us _ hl=>by
 rw [List.append_nil] at hl ⊢
 exact .of_eq (h us hl)
noncomputable def qP (CX:Et) (X:Cx) (E:XK):Prop:=∀(pins:List (Addr×Obj)) (σ:St) (H:Hp) (s:Shared) (e:Value) (s':Shared),Inv X pins σ H s->CX X.stack H s E e s'->X.xe e s'
section
variable {X:Cx} {CX:Et} {k:Nat} {f C:Addr} {fd:FuncData} {ps:List Str} {sp:Sp} {dvs:List V} {ds:List Value} {E:XK} {x m:Str} {p pos apos:Pos} {e o:Expr} {es:List Expr} {ta:TE} {t:TA}
theorem Ds {pins:List (Addr×Obj)} {σ:St} {H:Hp} {s:Shared} {Q:VK} {us:List Value} {vs:List V} (F:iB X.prog X.w X.K X.mg X.base CX k f fd ps sp) (hr:jg k X.A) (hb:Binds X.K fd ps ds) (hd:Vals dvs ds) (hx:qP CX X E)
  (I:Inv X pins σ H s) (r:Vals vs us) (h:sp (vs ++ dvs) H Q E):wpAny (model X.prog X.w) X.A (call (.ref f) us) (EP X pins σ Q) X.xe s:=by
 have r2:Vals (vs ++ dvs) (us ++ ds):=r.append hd
 have hl:(us ++ ds).length=ps.length:=by rw [<-r2.length];exact F.len _ _ _ _ h
 refine wpAny_call (codeAny_mono (F.run X.A X.stack s H ⟨us,[]⟩ (us ++ ds) (vs ++ dvs) Q E hr I.env0 (hb s us I.kIn hl) r2 h) fun r s' hq=>?_)
 cases r with
 | error e=>exact hx pins σ H s e s' I hq
 | ok fl=>
  cases fl with
  | ret u=>exact I.after hq
  | next=>exact False.elim hq
  | brk=>exact False.elim hq
  | cont=>exact False.elim hq
theorem TV (F:iB X.prog X.w X.K X.mg X.base CX k f fd ps sp) (hr:jg k X.A) (hg:Gl X x) (hm:X.mg x=some (.ref f)) (hk:PySem.W.keepIn X.K (.ref f)=true) (hb:Binds X.K fd ps ds) (hd:Vals dvs ds) (hx:qP CX X E)
  (ha:PA X (e:: es) t) (hdb:(x == ("__debug__" :Str))=false:=by decide) (he:starEach (e:: es) X.env=(false,eval e X.env):: starEach es X.env:=by rfl) (hpl:(backTo pos (starEach es X.env)).any (·.1)=false:=by rfl):
  PE X (.Call (.Name x p) (e:: es) [] pos) (Up sp dvs E t):=by
 intro pins s σ H Q I h
 refine wpAny_Call_Name_kw (Hx I hg hm ?_ hdb)
 refine PySem.W.callWith_K (h₀:=X.base) I.ok.mod.kin hk (dI (ha pos pins s σ H _ I h) fun us s1 ⟨vs,H1,I1,r,q⟩=>⟨I1.kIn,?_⟩) he hpl
 exact Ds F hr hb hd hx I1 r q
theorem Ms {pl:Sem Bool} (he:PE X o ta) (c:Nu X.K C) (hm:Meth X.K C m f) (F:iB X.prog X.w X.K X.mg X.base CX k f fd ps sp) (hr:jg k X.A) (hb:Binds X.K fd ps ds) (hd:Vals dvs ds) (hx:qP CX X E) (ha:PA X (e:: es) t)
  (hst:starEach (e:: es) X.env=(false,eval e X.env):: starEach es X.env:=by rfl) (hpl:(backTo pos (starEach es X.env)).any (·.1)=false:=by rfl)
  (ht:eval (.Call (.Attribute o m apos) (e:: es) [] pos) X.env=(do
   let ov <-eval o X.env
   standAt apos.atName
   let (f,first) <-holding [ov] (getMethod ov m pl)
   callWith pos f first (backTo pos (starEach (e:: es) X.env)) (backToKw pos (keywordEach [] X.env))):=by rfl):
  PE X (.Call (.Attribute o m apos) (e:: es) [] pos) (LQ C m sp dvs E ta t):=by
 intro pins s σ H Q I h
 refine PySem.W.methodCall_KW (pl:=pl) (dI (he pins s σ H _ I h) fun u s1 hpt=>?_) ht
 obtain⟨x,H1,I1,rx,a,dx,fs,ex,ea,l,q⟩:=hpt
 subst ex
 obtain rfl:u=Value.ref a:=rx
 refine sW I1 ea c hm l ?_
 refine PySem.W.callWith_K (first:=[.ref a]) (h₀:=X.base) I.ok.mod.kin hm.kp (dI (ha pos pins s1 σ H1 _ I1 q) fun us s2 ⟨vs,H2,I2,r,q2⟩=>⟨I2.kIn,?_⟩) hst hpl
 exact Ds (us:=.ref a:: us) (vs:=.ref a:: vs) F hr hb hd hx I2 (.cons rfl r) q2
theorem Qh {pl:Sem Bool} (he:PE X o ta) (c:Nu X.K C) (hm:Meth X.K C m f) (F:iB X.prog X.w X.K X.mg X.base CX k f fd ps sp) (hr:jg k X.A) (hb:Binds X.K fd ps ds) (hd:Vals dvs ds) (hx:qP CX X E)
  (ht:eval (.Call (.Attribute o m apos) [] [] pos) X.env=(do
   let ov <-eval o X.env
   standAt apos.atName
   let (f,first) <-holding [ov] (getMethod ov m pl)
   callWith pos f first (backTo pos (starEach [] X.env)) (backToKw pos (keywordEach [] X.env))):=by rfl):
  PE X (.Call (.Attribute o m apos) [] [] pos) (LQ C m sp dvs E ta Q7):=by
 intro pins s σ H Q I h
 refine PySem.W.methodCall_KW (pl:=pl) (dI (he pins s σ H _ I h) fun u s1 hpt=>?_) ht
 obtain⟨x,H1,I1,rx,a,dx,fs,ex,ea,l,q⟩:=hpt
 subst ex
 obtain rfl:u=Value.ref a:=rx
 refine sW I1 ea c hm l ?_
 exact PySem.W.callWith_K0 (first:=[.ref a]) I1.kIn hm.kp (Ds (us:=[.ref a]) (vs:=[.ref a]) F hr hb hd hx I1 (.cons rfl .nil) q)
structure Mk (K:PySem.W.Frag) (C f:Addr):Prop where
 makes:PySem.W.makesIn K C=true
 init:PySem.W.findIn K (.ref C) "__init__" =some (some (.ref f))
 fn:PySem.W.isFn K (.ref f)=true
 kp:PySem.W.keepIn K (.ref C)=true
theorem Rr {pins:List (Addr×Obj)} {σ:St} {H:Hp} {s:Shared} {Q:VK} {us:List Value} {vs:List V} (M:Mk X.K C f) (F:iB X.prog X.w X.K X.mg X.base CX k f fd ps sp) (hr:jg (k+1) X.A) (hb:Binds X.K fd ps ds) (hd:Vals dvs ds)
  (hx:qP CX X E) (I:Inv X pins σ H s) (r:Vals vs us)
  (h:∀x dx,H x=none->H dx=none->dx≠x->sp (.ref x:: (vs ++ dvs)) (upd (upd H dx (.own x)) x (.ins C dx [])) (fun v H2=>v=.non/\Q (.ref x) H2) E):
  wpAny (model X.prog X.w) X.A (call (.ref C) us) (EP X pins σ Q) X.xe s:=by
 have hq:=h (s.heap.objs.size+1) s.heap.objs.size (I.hok.fresh (Nat.le_succ _)) (I.hok.fresh (Nat.le_refl _)) (Nat.ne_of_lt (Nat.lt_succ_self _))
 have I2:=Inv.made (C:=C) I
 have r2:Vals (V.ref (s.heap.objs.size+1):: (vs ++ dvs)) (Value.ref (s.heap.objs.size+1):: (us ++ ds)):=.cons rfl (r.append hd)
 have hl:(Value.ref (s.heap.objs.size+1):: us ++ ds).length=ps.length:=by
  have e:=r2.length
  rw [F.len _ _ _ _ hq] at e
  exact e.symm
 refine wpAny_call (PK (f:=f) I.kIn M.makes M.init (beq_iff_eq.mp M.fn) (codeAny_mono (F.run _ X.stack _ _ ⟨Value.ref (s.heap.objs.size+1):: us,[]⟩ (Value.ref (s.heap.objs.size+1):: (us ++ ds)) _ _ E (hr.make C us [])
  (I2.env0.make C us []) (hb _ (Value.ref (s.heap.objs.size+1):: us) I2.kIn hl) r2 hq) fun r s' hq'=>?_))
 cases r with
 | error e=>exact hx pins σ _ _ e s' I2 hq'
 | ok fl=>
  cases fl with
  | ret u=>
   obtain⟨v,H',I3,rv,ev,q3⟩:=I2.after hq'
   subst ev
   exact⟨rv,⟨V.ref (s.heap.objs.size+1),H',I3,rfl,q3⟩⟩
  | next=>exact False.elim hq'
  | brk=>exact False.elim hq'
  | cont=>exact False.elim hq'
theorem iu (M:Mk X.K C f) (F:iB X.prog X.w X.K X.mg X.base CX k f fd ps sp) (hr:jg (k+1) X.A) (hg:Gl X x) (hm:X.mg x=some (.ref C)) (hb:Binds X.K fd ps ds) (hd:Vals dvs ds) (hx:qP CX X E)
  (ha:PA X (e:: es) t) (hdb:(x == ("__debug__" :Str))=false:=by decide) (he:starEach (e:: es) X.env=(false,eval e X.env):: starEach es X.env:=by rfl) (hpl:(backTo pos (starEach es X.env)).any (·.1)=false:=by rfl):
  PE X (.Call (.Name x p) (e:: es) [] pos) (WX C sp dvs E t):=by
 intro pins s σ H Q I h
 refine wpAny_Call_Name_kw (Hx I hg hm ?_ hdb)
 refine PySem.W.callWith_K (h₀:=X.base) I.ok.mod.kin M.kp (dI (ha pos pins s σ H _ I h) fun us s1 ⟨vs,H1,I1,r,q⟩=>⟨I1.kIn,?_⟩) he hpl
 exact Rr M F hr hb hd hx I1 r q
end
section
variable {X:Cx} {CX:Et} {k:Nat} {f C:Addr} {fd:FuncData} {ps ks:List Str} {sp:Sp} {E:XK} {x m:Str} {p pos apos kpos:Pos} {e o:Expr} {es:List Expr} {kws:List Keyword} {te ta:TE} {t tk:TA} {nm:Option Str}
variable {g:List Value->List Value->List Value} {gV:List V->List V->List V}
end
structure fZ (N P:List Str) (sc:Scope):Prop where
 kind:sc.kind=.function
 co:sc.isCoroutine=false
 gen:sc.isGenerator=false
 nd:N.Nodup
 pre:N.take P.length=P
 par:∀x∈P,sc.names.lookup x=some .local∨sc.names.lookup x=some .cell
 nofree:∀y∈sc.names,y.2≠.free
theorem Gb {kindOf:Str->Option NameKind} {x:Str}:∀{binds:List (Str×Value)} {m:Str->Option Value},(∀v,(x,v)∉binds)->bindL kindOf binds m x=m x
 | [],_,_=>rfl
 | (n,v):: r,m,h=>by
  unfold bindL
  rw [Gb fun w hw=>h w (List.mem_cons_of_mem _ hw)]
  split
  ·have:x≠n:=by rintro rfl;exact h v List.mem_cons_self
   simp [this]
  ·rfl
theorem FJ {kindOf:Str->Option NameKind} {x:Str}:∀{binds:List (Str×Value)} {m:Str->Option Value},(∀v,(x,v)∉binds)->bindC kindOf binds m x=m x
 | [],_,_=>rfl
 | (n,v):: r,m,h=>by
  unfold bindC
  rw [FJ fun w hw=>h w (List.mem_cons_of_mem _ hw)]
  split
  ·rfl
  ·have:x≠n:=by rintro rfl;exact h v List.mem_cons_self
   simp [this]
theorem Fp {kindOf:Str->Option NameKind} {x:Str} {v:Value}:∀{P:List Str} {vs:List Value} {i:Nat} {m:Str->Option Value},P.Nodup->P[i]?=some x->vs[i]?=some v->kindOf x=some .local->
  bindL kindOf (P.zip vs) m x=some v
 | [],_,_,_,_,h,_,_=>by simp at h
 | _:: _,[],_,_,_,_,h,_=>by simp at h
 | p:: P,w:: vs,0,m,nd,h1,h2,hk=>by
  simp at h1 h2;subst h1;subst h2
  show bindL kindOf ((p,w):: P.zip vs) m p=_
  unfold bindL
  rw [Gb fun v hv=>(List.nodup_cons.mp nd).1 (List.of_mem_zip hv).1,if_pos hk]
  simp
 | p:: P,w:: vs,i+1,m,nd,h1,h2,hk=>by
  show bindL kindOf ((p,w):: P.zip vs) m x=_
  unfold bindL
  exact Fp (i:=i) (List.nodup_cons.mp nd).2 (by simpa using h1) (by simpa using h2) hk
theorem Ft {kindOf:Str->Option NameKind} {x:Str} {v:Value}:∀{P:List Str} {vs:List Value} {i:Nat} {m:Str->Option Value},P.Nodup->P[i]?=some x->vs[i]?=some v->kindOf x≠some .local->
  bindC kindOf (P.zip vs) m x=some v
 | [],_,_,_,_,h,_,_=>by simp at h
 | _:: _,[],_,_,_,_,h,_=>by simp at h
 | p:: P,w:: vs,0,m,nd,h1,h2,hk=>by
  simp at h1 h2;subst h1;subst h2
  show bindC kindOf ((p,w):: P.zip vs) m p=_
  unfold bindC
  rw [FJ fun v hv=>(List.nodup_cons.mp nd).1 (List.of_mem_zip hv).1,if_neg hk]
  simp
 | p:: P,w:: vs,i+1,m,nd,h1,h2,hk=>by
  show bindC kindOf ((p,w):: P.zip vs) m x=_
  unfold bindC
  exact Ft (i:=i) (List.nodup_cons.mp nd).2 (by simpa using h1) (by simpa using h2) hk
noncomputable def start (N:List Str) (vs:List V):St:=vs.map some ++ List.replicate (N.length - vs.length) none
noncomputable def Km (CX:Et) (P:Program) (w:World) (K:PySem.W.Frag) (mg:Str->Option Value) (base:Heap) (N:List Str) (qual:Str) (scope:Scope) (f:Addr) (cd:Value) (A:Around) (outer:List Env) (s:Shared) (H:Hp) (E:XK):Cx where
 prog:=P
 w:=w
 K:=K
 mg:=mg
 base:=base
 A:=A.deeper (envOfC qual scope s.heap.objs.size f cd)
 N:=N
 s₀:=s
 H₀:=H
 env:=envOfC qual scope s.heap.objs.size f cd
 outer:=outer
 stack:=envOfC qual scope s.heap.objs.size f cd:: outer
 ex:=[]
 calm:=true
 fn:=fun _=>true
 pn:=[]
 xe:=fun e s'=>wpAny (model P w) (A.deeper (envOfC qual scope s.heap.objs.size f cd)) (leaving (envOfC qual scope s.heap.objs.size f cd) e) (fun _ s''=>CX outer H s E e s'') (fun e' s''=>CX outer H s E e' s'') s'
theorem Ik {sc:Scope} {n:Nat} {x:Str} (h:sc.names.lookup x=some .cell):∃c,(cellsFrom n sc.names []).lookup x=some c:=by
 have q:=PySem.W.cellsFrom_some sc.names n [] (.inl h)
 exact Option.isSome_iff_exists.mp q
theorem Ng {CX:Et} {P:Program} {w:World} {K:PySem.W.Frag} {mg:Str->Option Value} {base:Heap} {N ps:List Str} {qual:Str} {scope:Scope} {f:Addr} {cd:Value} {A:Around} {outer:List Env} {s s1:Shared} {H:Hp} {E:XK} {us:List Value} {vs:List V}
  (S:fZ N ps scope) (hd:A.handled=none) (e0:KY P w K mg base A outer s H) (hl:vs.length=ps.length) (r:Vals vs us)
  (x:InCallC s s.heap.objs.size (bindL (envOfC qual scope s.heap.objs.size f cd).kindOf (ps.zip us) fun _=>none) (cellsFrom (s.heap.objs.size+1) scope.names []) (bindC (envOfC qual scope s.heap.objs.size f cd).kindOf (ps.zip us) fun _=>none) s1):
  Inv (Km CX P w K mg base N qual scope f cd A outer s H E) [] (start N vs) H s1:=by
 have hpl:ps.length<=N.length:=by have:=congrArg List.length S.pre;rw [List.length_take] at this;omega
 obtain⟨h1,tk,rfl,hk⟩:=x.done
 have noA:∀b:Addr,b∉(Km CX P w K mg base N qual scope f cd A outer s H E).ex:=fun b z=>absurd (show b∈([]:List Addr) from z) (by simp)
 refine⟨⟨e0.mod,S.kind,rfl,rfl,Nat.le_refl _,fun y z c h1 h2=>?_,fun y hy=>?_,fun y c _ h=>?_,fun _=>hd,Around.frames_deeper e0.frames,.inr ⟨rfl,rfl⟩,fun b z=>absurd z (noA b),e0.bs,e0.bsz,fun b _ _=>noA b,fun b z=>absurd z (noA b),e0.funs,e0.frf⟩,
  rfl,e0.bare,Un.kept hk,⟨_,x.toInCall.ns,fun i y v h1 h2 h3=>?_⟩,fun y c h=>⟨_,x.cell y c h⟩,e0.hok.fresh (Nat.le_refl _),fun y c h=>?_,fun p hp=>absurd (show p∈([]:List (Addr×Obj)) from hp) (by simp),e0.hok.kept hk,?_⟩
 ·exact name_of_addr x.apart (PySem.mem_of_lookup h1) (PySem.mem_of_lookup h2)
 ·have hy:scope.names.lookup y=some .cell∨scope.names.lookup y=some .free:=hy
  rcases hy with hy | hy
  ·exact Ik hy
  ·exact absurd rfl (S.nofree _ (PySem.mem_of_lookup hy))
 ·exact Nat.le_of_lt (x.above y c (PySem.mem_of_lookup h))
 ·have hi:i <vs.length:=by
   unfold start at h2
   by_cases hi:i <vs.length
   ·exact hi
   ·rw [List.getElem?_append_right (by simpa using hi)] at h2
    rw [List.getElem?_replicate] at h2
    split at h2 <;> cases h2
  have ha:vs[i]?=some v:=by
   unfold start at h2
   rw [List.getElem?_append_left (by simpa using hi),List.getElem?_map] at h2
   cases e:vs[i]? with
   | none=>rw [e] at h2;cases h2
   | some a=>rw [e] at h2;cases h2;rfl
  obtain⟨u,hu,rv⟩:=r.get ha
  have hp:ps[i]?=some y:=by
   rw [<-S.pre,List.getElem?_take_of_lt (by omega)];exact h1
  have ndP:ps.Nodup:=by rw [<-S.pre];exact S.nd.sublist (List.take_sublist _ _)
  refine⟨u,rv,?_⟩
  rcases S.par y (List.mem_of_getElem? hp) with k | k
  ·exact .inl ⟨k,Fp ndP hp hu k⟩
  ·obtain⟨c,e⟩:=Ik (n:=s.heap.objs.size+1) k
   refine .inr ⟨.inl k,c,e,?_⟩
   have q:=x.cell y c e
   rw [Ft ndP hp hu (by show scope.names.lookup y≠_;rw [k];decide)] at q
   exact q
 ·exact e0.hok.fresh (Nat.le_of_lt (x.above y c (PySem.mem_of_lookup h)))
 ·unfold start
  show _=N.length
  rw [List.length_append,List.length_map,List.length_replicate]
  omega
theorem Ui {CX:Et} {P:Program} {w:World} {K:PySem.W.Frag} {mg:Str->Option Value} {base:Heap} {k:Nat} {f:Addr} {name qual:Str} {params:Arguments} {body:List Stmt} {scope:Scope} {dV kV doc pm cdv ct oc:Value} {an od:Option Addr}
  {osl:Array (Option Value)} {N ps:List Str} {sp:Sp} (lk:K.lookup f=some ⟨oc,od,.func (PySem.W.fnOf name qual params body scope dV kV doc pm an cdv ct),osl⟩) (hcd:PySem.W.codeIn K cdv qual=true) (S:fZ N ps scope)
  (len:∀vs H Q E,sp vs H Q E->vs.length=ps.length)
  (hbody:∀(A:Around) (outer:List Env) (s:Shared) (H:Hp) (vs:List V) (Q:VK) (E:XK),jg k (A.deeper (envOfC qual scope s.heap.objs.size f cdv))->sp vs H Q E->
   ∃t,Mr (Km CX P w K mg base N qual scope f cdv A outer s H E) body t/\t { nx:=fun _ H'=>Q .non H',rt:=Q } (start N vs) H):
  iB P w K mg base CX (k+1) f (PySem.W.fnOf name qual params body scope dV kV doc pm an cdv ct) ps sp:=by
 refine⟨len,fun A outer s H args us vs Q E hr e0 hb r hsp=>?_⟩
 have hl:=len _ _ _ _ hsp
 have KX:K.In s.heap:=e0.mod.kin.keeps fun b o e=>(e0.bs b o e).1
 have lim:s.heap.NoLimit:=e0.mod.nolimit.keeps fun b o e=>(e0.bs b o e).1
 have hkind:∀y∈ps.zip us,scope.names.lookup y.1=some .local∨(scope.names.lookup y.1=some .cell/\((cellsFrom (s.heap.objs.size+1) scope.names []).lookup y.1).isSome=true):=fun⟨n,v⟩ hy=>by
  rcases S.par n (List.of_mem_zip hy).1 with q | q
  ·exact .inl q
  ·exact .inr ⟨q,PySem.W.cellsFrom_some _ _ _ (.inl q)⟩
 refine codeAny_call_function hr.depth (KX _ _ lk) rfl S.co S.gen rfl (PySem.W.codeRec_of KX hcd) (hb _ _ _ _ ?_)
 refine wpAny_newFunctionEnv_cells S.kind hkind fun env he s1 x=>?_
 subst he
 refine⟨lim.keeps x.toInCall.keep,codeAny_func ?_⟩
 obtain⟨t,ht,hq⟩:=hbody A outer s H vs Q E (hr.deeper _) hsp
 have I:Inv (Km CX P w K mg base N qual scope f cdv A outer s H E) [] (start N vs) H s1:=Ng S hr.hd e0 hl r x
 refine wpAny_mono (ht [] s1 (start N vs) H _ I hq) (fun fl s' hs=>?_) fun e s' hs=>hs
 have fin:∀{σ':St} {H':Hp} {v:V} {u:Value},Inv (Km CX P w K mg base N qual scope f cdv A outer s H E) [] σ' H' s'->RelV v u->Q v H'->CE outer P w H s Q u s':=
  fun {σ' H' v u} J rv q=>⟨v,H',J.os,J.bare,J.base,J.hok,rv,q⟩
 cases fl with
 | ret u=>
  obtain⟨v,σ',H',J,rv,q⟩:=hs
  exact fin J rv q
 | next=>
  obtain⟨σ',H',J,q⟩:=hs
  exact fin (v:=V.non) (u:=Value.none) J rfl q
 | brk=>
  obtain⟨_,_,_,q⟩:=hs
  exact False.elim q
 | cont=>
  obtain⟨_,_,_,q⟩:=hs
  exact False.elim q
section
variable {X:Cx} {x:Str} {p pos:Pos} {e:Expr} {es:List Expr} {t:TA} {id T:String} {r:List V->Hp->VK->Prop}
noncomputable def Y0 (r:List V->Hp->VK->Prop) (t:TA):TE:=fun σ H Q=>t σ H fun vs H1=>r vs H1 Q
theorem bw (hc:jZ X (.builtin id) r) (hg:Gl X x) (hm:X.mg x=none) (hv:bootBuiltins x=some (.builtin id)) (ha:PA X (e:: es) t) (hn:x≠ "__name__" :=by decide) (hdb:(x == ("__debug__" :Str))=false:=by decide)
  (he:starEach (e:: es) X.env=(false,eval e X.env):: starEach es X.env:=by rfl) (hpl:(backTo pos (starEach es X.env)).any (·.1)=false:=by rfl):PE X (.Call (.Name x p) (e:: es) [] pos) (Y0 r t):=by
 intro pins s σ H Q I h
 refine wpAny_Call_Name_kw (Ib I hg hm hv ?_ hn hdb)
 exact PyProof.Rows.callWith_builtin1 (dI (ha pos pins s σ H _ I h) fun us s1 ⟨vs,H1,I1,r1,q1⟩=>hc pins s1 σ H1 vs us Q I1 r1 q1) he hpl
theorem fB (hc:jZ X (.type T) r) (hg:Gl X x) (hm:X.mg x=none) (hv:bootBuiltins x=some (.type T)) (ha:PA X (e:: es) t) (hn:x≠ "__name__" :=by decide) (hdb:(x == ("__debug__" :Str))=false:=by decide)
  (he:starEach (e:: es) X.env=(false,eval e X.env):: starEach es X.env:=by rfl) (hpl:(backTo pos (starEach es X.env)).any (·.1)=false:=by rfl):PE X (.Call (.Name x p) (e:: es) [] pos) (Y0 r t):=by
 intro pins s σ H Q I h
 refine wpAny_Call_Name_kw (Ib I hg hm hv ?_ hn hdb)
 exact PyProof.Rows.callWith_type1 (dI (ha pos pins s σ H _ I h) fun us s1 ⟨vs,H1,I1,r1,q1⟩=>hc pins s1 σ H1 vs us Q I1 r1 q1) he hpl
end
end L2
namespace HT
open PySem PyProof.Rows
section
open PySem.SeqAt
open PySem.AutoSeq1 (wpAny_loadPart')
open PySem.MeetsSeq PySem.MeetsSeq2 PySem.MeetsSeq3
end
section
variable {prog:Program} {w:World} {A:Around} {E:Value->Shared->Prop} {s:Shared}
noncomputable def JH (n d:Nat):Option Int->Nat
 | none=>d
 | some v=>if v <0 then(v+(n:Int)).toNat else min v.toNat n
theorem yx (n d:Nat):JH n d none=d:=rfl
theorem uX (n d k:Nat):JH n d (some (k:Int))=min k n:=by
 show(if (k:Int) <0 then((k:Int)+(n:Int)).toNat else min (k:Int).toNat n)=min k n
 rw [if_neg (by omega),Int.toNat_natCast]
end
end HT
namespace L2
open PySem PySem.Spec PyProof.Rows
noncomputable abbrev TO:=St->Hp->(Option Int->Hp->Prop)->Prop
noncomputable def PO (X:Cx) (e:Option Expr) (t:TO):Prop:=
 ∀(pins:List (Addr×Obj)) (s:Shared) (σ:St) (H:Hp) (Q:Option Int->Hp->Prop),Inv X pins σ H s->t σ H Q->
  wpAny (model X.prog X.w) X.A (evalPart e X.env) (fun u s'=>∃o H',Inv X pins σ H' s'/\IsPart u o/\Q o H') X.xe s
noncomputable def Tj:TO:=fun _ H Q=>Q none H
inductive Ra (Q:Option Int->Hp->Prop) (x:V) (H1:Hp):Prop where
 | mk:∀i,x=.int i->Q (some i) H1->Ra Q x H1
noncomputable def Xk (t:TE):TO:=fun σ H Q=>t σ H fun x H1=>Ra Q x H1
section
variable {X:Cx} {e:Expr} {te:TE} {lo hi:Option Expr} {tl th:TO} {pos p2:Pos}
theorem sI:PO X none Tj:=by
 intro pins s σ H Q I h
 rw [evalPart_none]
 exact wpAny_pure ⟨none,H,I,.none,h⟩
theorem jK (h:PE X e te):PO X (some e) (Xk te):=by
 intro pins s σ H Q I hw
 rw [evalPart_some]
 refine dI (h pins s σ H _ I hw) fun u s1 hpt=>?_
 obtain⟨x,H1,I1,r1,q1⟩:=hpt
 obtain⟨i,rfl,q⟩:=q1
 obtain⟨t,rfl⟩:=r1
 exact⟨some i,H1,I1,.int i t,q⟩
noncomputable def YS (X:Cx) (r:V->Option Int->Option Int->Hp->VK->Prop):Prop:=
 ∀(pins:List (Addr×Obj)) (s:Shared) (σ:St) (H:Hp) (x:V) (v vl vu:Value) (lo hi:Option Int) (sl:Addr) (Q:VK),Inv X pins σ H s->RelV x v->s.heap.IsSliceOf sl vl vu .none->IsPart vl lo->IsPart vu hi->r x lo hi H Q->
  ∃T id,typeLookup (.type T) "__getitem__" =pure (some (.builtin id))/\s.TypeIs v T/\wpAny (model X.prog X.w) X.A (getItem v (.ref sl)) (EP X pins σ Q) X.xe s
noncomputable def tSl (r:V->Option Int->Option Int->Hp->VK->Prop) (te:TE) (tl th:TO):TE:=fun σ H Q=>te σ H fun x H1=>tl σ H1 fun l H2=>th σ H2 fun u H3=>r x l u H3 Q
theorem jU {r:V->Option Int->Option Int->Hp->VK->Prop} (hr:YS X r) (he:PE X e te) (hl:PO X lo tl) (hu:PO X hi th):PE X (.Subscript e (.Slice lo hi none p2) pos) (tSl r te tl th):=by
 intro pins s σ H Q I h
 refine Subscript_ (dI (he pins s σ H _ I h) fun v s1 hpt=>?_)
 obtain⟨x,H1,I1,r1,q1⟩:=hpt
 refine wpAny_Slice (dI (hl pins s1 σ H1 _ I1 q1) fun vl s2 ⟨l,H2,I2,pl,q2⟩=>dI (hu pins s2 σ H2 _ I2 q2) fun vu s3 hpt=>?_)
 obtain⟨u,H3,I3,pu,q3⟩:=hpt
 rw [evalPart_none]
 refine wpAny_pure ?_
 have I4:Inv X pins σ H3 { s3 with heap:=s3.heap.push { cls:=.type "slice",data:=.fields #[vl,vu,.none] } }:=I3.kept (t':=s3.toks) fun b ob q=>Heap.get?_push_of_some _ q
 obtain⟨T,id,hT,ht,hg⟩:=hr pins { s3 with heap:=s3.heap.push { cls:=.type "slice",data:=.fields #[vl,vu,.none] } } σ H3 x v vl vu l u s3.heap.objs.size Q I4 r1 (Heap.IsSliceOf.new ..) pl pu q3
 show wpAny (model X.prog X.w) X.A (subscriptTail e (.Slice lo hi none p2) v (.ref s3.heap.objs.size)) (EP X pins σ Q) X.xe { s3 with heap:=s3.heap.push { cls:=.type "slice",data:=.fields #[vl,vu,.none] } }
 exact tail_any (ops:=[.ref s3.heap.objs.size,v]) ht hT hg (by with_unfolding_all rfl)
noncomputable def uD (xs:List V) (lo hi:Option Int):List V:=(xs.drop (HT.JH xs.length 0 lo)).take (HT.JH xs.length xs.length hi - HT.JH xs.length 0 lo)
theorem Js (xs:List V) (lo hi:Option Int):(uD xs lo hi).length<=xs.length:=by
 unfold uD
 rw [List.length_take,List.length_drop]
 omega
end
noncomputable def Wf (n:Nat) (i:Int):Option Nat:=if 0<=i then(if i <n then some i.toNat else none) else if -(n:Int)<=i then some (i+n).toNat else none
noncomputable def BP {α:Type} (xs:List α) (i:Int):Option α:=(Wf xs.length i).bind fun j=>xs[j]?
theorem Tw {n:Nat} {i:Int} {j:Nat} (h:Wf n i=some j):seqIndex? i n=some j/\j <n/\ -(n:Int)<=i/\i <n:=by
 unfold Wf at h
 by_cases h0:0<=i
 ·rw [if_pos h0] at h
  by_cases h1:i <n
  ·rw [if_pos h1] at h
   have e:i.toNat=j:=Option.some.inj h
   exact⟨by rw [seqIndex_of h0 h1,e],by omega,by omega,h1⟩
  ·rw [if_neg h1] at h;cases h
 ·rw [if_neg h0] at h
  by_cases h1: -(n:Int)<=i
  ·rw [if_pos h1] at h
   have e:(i+n).toNat=j:=Option.some.inj h
   exact⟨by rw [seqIndex_neg (by omega) h1,e],by omega,h1,by omega⟩
  ·rw [if_neg h1] at h;cases h
theorem G4 {α:Type} {xs:List α} {i:Int} {v:α} (h:BP xs i=some v):∃j,seqIndex? i xs.length=some j/\xs[j]?=some v/\j <xs.length/\ -(xs.length:Int)<=i/\i <xs.length:=by
 unfold BP at h
 cases e:Wf xs.length i with
 | none=>rw [e] at h;cases h
 | some j=>
  rw [e] at h
  obtain⟨h1,h2,h3,h4⟩:=Tw e
  exact⟨j,h1,h,h2,h3,h4⟩
theorem aM {α:Type} {xs:List α} {j:Nat} {v:α} (h:xs[j]?=some v):BP xs (j:Int)=some v:=by
 have hj:j <xs.length:=(List.getElem?_eq_some_iff.mp h).1
 have e:Wf xs.length (j:Int)=some j:=by
  unfold Wf
  rw [if_pos (by omega),if_pos (by omega)];simp
 unfold BP;rw [e];exact h
noncomputable def Lk (b:Expr):Prop:=∀o i,subscripted b false o i=operate [o,i] (getItem o i)
noncomputable def Ox (X:Cx) (r:R2):Prop:=
 ∀(value slice:Expr) (pins:List (Addr×Obj)) (s:Shared) (σ:St) (H:Hp) (x y:V) (v u:Value) (Q:VK),Inv X pins σ H s->RelV x v->RelV y u->r x y H Q->
  subscripted slice false v u=operate [v,u] (getItem v u)->wpAny (model X.prog X.w) X.A (subscriptTail value slice v u) (EP X pins σ Q) X.xe s
noncomputable def Ym (X:Cx) (id:String) (r:V->List V->Hp->VK->Prop):Prop:=
 ∀(pins:List (Addr×Obj)) (s:Shared) (σ:St) (H:Hp) (x:V) (xs:List V) (v:Value) (us:List Value) (Q:VK),Inv X pins σ H s->RelV x v->Vals xs us->r x xs H Q->
  wpAny (model X.prog X.w) X.A (call (.builtin id) (v:: us)) (EP X pins σ Q) X.xe s
section
variable {X:Cx} {a b:Expr} {ta tb:TE} {pos:Pos}
theorem Ox.or {r r':R2} (h:Ox X r) (h':Ox X r'):Ox X (fun x y H Q=>r x y H Q∨r' x y H Q):=by
 intro value slice pins s σ H x y v u Q I rx ry q hs
 rcases q with q | q
 ·exact h value slice pins s σ H x y v u Q I rx ry q hs
 ·exact h' value slice pins s σ H x y v u Q I rx ry q hs
theorem aR {r:R2} (hr:Ox X r) (ha:PE X a ta) (hb:PE X b tb) (hs:Lk b):PE X (.Subscript a b pos) (Wj r ta tb):=by
 intro pins s σ H Q I h
 exact Subscript_ (VG ha hb I h fun v u s2 x y H2 I2 rx ry q=>hr a b pins s2 σ H2 x y v u Q I2 rx ry q (hs _ _))
inductive UJ (K:PySem.W.Frag) (x:V) (y:V) (H:Hp) (Q:VK):Prop where
 | mk:∀p xs i v,x=.ref p->y=.int i->bI K H p xs->BP xs i=some v->Q v H->UJ K x y H Q
noncomputable def V0 (K:PySem.W.Frag):R2:=fun x y H Q=>UJ K x y H Q
inductive Uu (K:PySem.W.Frag) (x:V) (y:V) (H:Hp) (Q:VK):Prop where
 | mk:∀p xs i v,x=.ref p->y=.int i->fC K H p xs->BP xs i=some v->Q v H->Uu K x y H Q
noncomputable def VN (K:PySem.W.Frag):R2:=fun x y H Q=>Uu K x y H Q
inductive Uv (x:V) (y:V) (H:Hp) (Q:VK):Prop where
 | mk:∀z i c,x=.str z->y=.int i->z.length<=sizeLine->BP z.cps.toList i=some c->Q (.str ⟨#[c]⟩) H->Uv x y H Q
noncomputable def WQ:R2:=fun x y H Q=>Uv x y H Q
theorem aQ:Ox X (V0 X.K):=by
 intro value slice pins s σ H x y v u Q I rx ry h hs
 obtain⟨p,xs,i,z,rfl,rfl,hq,he,q⟩:=h
 cases rx
 obtain⟨t,rfl⟩:=ry
 obtain⟨its,r,pl,hz⟩:=I.list hq
 obtain⟨j,h1,h2,h3,h4,h5⟩:=G4 he
 obtain⟨w,ew,rw'⟩:=r.get h2
 have hl:=r.length
 have hn:=Ho
 have fin:EP X pins σ Q w s:=⟨z,H,I,rw',q⟩
 by_cases h0:0<=i
 ·have hj:i.toNat=j:=by
   rw [seqIndex_of h0 h5] at h1
   exact Option.some.inj h1
  exact item_listR pl.isList h0 (by omega) (by rw [hj];simpa using ew) fin hs
 ·have hj:(i+(its.toArray.size:Int)).toNat=j:=by
   rw [seqIndex_neg (by omega) h4] at h1
   rw [List.size_toArray,<-hl]
   exact Option.some.inj h1
  exact subscriptTail_builtinR (x:=w) pl.isList.typeIs slot_list_getitem.lookup
   (wpAny_getItem_list_neg (Q:=fun r s'=>r=w/\EP X pins σ Q r s') pl.isList (by omega) (by rw [List.size_toArray] <;> omega) (by omega) (by rw [hj];simpa using ew) ⟨rfl,fin⟩) hs
theorem cZ:Ox X (VN X.K):=by
 intro value slice pins s σ H x y v u Q I rx ry h hs
 obtain⟨p,xs,i,z,rfl,rfl,hq,he,q⟩:=h
 cases rx
 obtain⟨t,rfl⟩:=ry
 obtain⟨its,r,pl,hz⟩:=I.tuple hq
 obtain⟨j,h1,h2,h3,h4,h5⟩:=G4 he
 obtain⟨w,ew,rw'⟩:=r.get h2
 have hl:=r.length
 have hn:=Ho
 have fin:EP X pins σ Q w s:=⟨z,H,I,rw',q⟩
 exact subscriptTail_builtinR (x:=w) pl.typeIs slot_tuple_getitem.lookup
  (getItem_tuple (j:=j) (Q:=fun r s'=>r=w/\EP X pins σ Q r s') pl (by omega) (by omega) (by rw [List.size_toArray,<-hl];exact h1) (by simpa using ew) ⟨rfl,fin⟩) hs
theorem CQ:Ox X WQ:=by
 intro value slice pins s σ H x y v u Q I rx ry h hs
 obtain⟨z,i,c,rfl,rfl,hz,he,q⟩:=h
 obtain⟨t,rfl⟩:=rx
 obtain⟨t',rfl⟩:=ry
 obtain⟨j,h1,h2,h3,h4,h5⟩:=G4 he
 have hl:z.cps.toList.length=z.length:=by simp [Str.length]
 rw [hl] at h1 h4 h5
 have hn:=Ho
 exact tail_any (typeIs_str s z t) slot_str_getitem.lookup (getItem_str (c:=c) (by
  have e1:decide (i < -(2 ^ 63:Int))=false:=decide_eq_false (by omega)
  have e2:decide (i≥2 ^ 63)=false:=decide_eq_false (by omega)
  rw [e1,e2,Bool.or_false]) (by rw [h1];simpa using h2) ⟨.str ⟨#[c]⟩,H,I.tok _,⟨_,rfl⟩,q⟩) hs
noncomputable def rIx (K:PySem.W.Frag):R2:=fun x y H Q=>V0 K x y H Q∨VN K x y H Q∨WQ x y H Q
theorem J3:Ox X (rIx X.K):=aQ.or (cZ.or CQ)
theorem Hq (lo hi:Option Int) (n:Nat):(sliceBounds lo hi none n).1=((HT.JH n 0 lo:Nat):Int)/\(sliceBounds lo hi none n).2.1=((HT.JH n n hi:Nat):Int)/\(sliceBounds lo hi none n).2.2=1:=by
 refine⟨?_,?_,rfl⟩
 ·cases lo with
  | none=>simp [sliceBounds,HT.JH]
  | some i=>
   simp only [sliceBounds,HT.JH,Option.getD_none,show(1:Int) >0 by decide,if_true]
   by_cases h:i <0
   ·simp only [h,if_true] <;> omega
   ·simp only [h,if_false] <;> omega
 ·cases hi with
  | none=>simp [sliceBounds,HT.JH]
  | some i=>
   simp only [sliceBounds,HT.JH,Option.getD_none,show(1:Int) >0 by decide,if_true]
   by_cases h:i <0
   ·simp only [h,if_true] <;> omega
   ·simp only [h,if_false] <;> omega
theorem DP (its:List Value) (lo hi:Option Int):slicePick its.toArray lo hi none=((its.drop (HT.JH its.length 0 lo)).take (HT.JH its.length its.length hi - HT.JH its.length 0 lo)).toArray:=by
 obtain⟨h1,h2,h3⟩:=Hq lo hi its.toArray.size
 unfold slicePick
 rw [h1,h2,h3]
 simp only [sliceRange_one,pick_run,List.size_toArray] <;> rfl
inductive Uy (K:PySem.W.Frag) (x:V) (lo:Option Int) (hi:Option Int) (H:Hp) (Q:VK):Prop where
 | mk:∀a xs,x=.ref a->bI K H a xs->(∀p,H p=none->Q (.ref p) (upd H p (.lst (uD xs lo hi))))->Uy K x lo hi H Q
noncomputable def Yl (K:PySem.W.Frag):V->Option Int->Option Int->Hp->VK->Prop:=fun x lo hi H Q=>Uy K x lo hi H Q
theorem rO:YS X (Yl X.K):=by
 intro pins s σ H x v vl vu lo hi sl Q I rx hs pl pu h
 obtain⟨a,xs,rfl,hx,q⟩:=h
 cases rx
 obtain⟨its,r,ht,hz⟩:=I.list hx
 have hlen:=r.length
 refine⟨"list",_,slot_list_getitem.lookup,ht.isList.typeIs,?_⟩
 refine wpAny_getItem_list_slice ht.isList hs pl pu .none (by simp) ?_ (by rw [List.size_toArray] <;> omega)
 rw [DP,<-hlen]
 refine⟨.ref s.heap.objs.size,_,I.laid (t':=s.toks) (o:=.lst (uD xs lo hi)) (fun b ob q=>Heap.get?_push_of_some _ q) (Nat.le_refl _) ?_,rfl,q _ (I.hok.fresh (Nat.le_refl _))⟩
 exact⟨Nat.le_trans (Js xs lo hi) hz,_,0,(r.drop (HT.JH xs.length 0 lo)).take (HT.JH xs.length xs.length hi - HT.JH xs.length 0 lo),Heap.get?_push_size _ rfl⟩
noncomputable def jz:V->Bool
 | .non=>true
 | .bl _=>true
 | .int _=>true
 | .str _=>true
 | _=>false
noncomputable def JV:V->V->Bool
 | .non,.non=>true
 | .bl a,.bl b=>a == b
 | .bl a,.int b=>(if a then 1 else 0) == b
 | .int a,.bl b=>a == (if b then 1 else 0)
 | .int a,.int b=>a == b
 | .str a,.str b=>a == b
 | _,_=>false
theorem V4 {A:Around} {s:Shared} {y x:V} {u v:Value} (ry:RelV y u) (rx:RelV x v) (fy:jz y=true) (fx:jz x=true):SeqAt.EqAt A s u v (JV y x):=by
 cases y with
 | non=>
  cases ry
  cases x with
  | non=>cases rx;exact SeqAt.EqAt.same _
  | bl b=>cases rx;exact SeqAt.EqAt.none_bool b
  | int b=>obtain⟨t,rfl⟩:=rx;exact SeqAt.EqAt.none_int b t
  | str b=>obtain⟨t,rfl⟩:=rx;exact SeqAt.EqAt.none_str b t
  | _=>exact absurd (show false=true from fx) Bool.false_ne_true
 | bl a=>
  cases ry
  cases x with
  | non=>cases rx;exact SeqAt.EqAt.bool_none a
  | bl b=>cases rx;exact SeqAt.EqAt.bool_bool a b
  | int b=>obtain⟨t,rfl⟩:=rx;exact SeqAt.EqAt.bool_int a b t
  | str b=>obtain⟨t,rfl⟩:=rx;exact SeqAt.EqAt.bool_str a b t
  | _=>exact absurd (show false=true from fx) Bool.false_ne_true
 | int a=>
  obtain⟨t',rfl⟩:=ry
  cases x with
  | non=>cases rx;exact SeqAt.EqAt.int_none a t'
  | bl b=>cases rx;exact SeqAt.EqAt.int_bool a t' b
  | int b=>obtain⟨t,rfl⟩:=rx;exact SeqAt.EqAt.int_int a t' b t
  | str b=>obtain⟨t,rfl⟩:=rx;exact SeqAt.EqAt.int_str a t' b t
  | _=>exact absurd (show false=true from fx) Bool.false_ne_true
 | str a=>
  obtain⟨t',rfl⟩:=ry
  cases x with
  | non=>cases rx;exact SeqAt.EqAt.str_none a t'
  | bl b=>cases rx;exact SeqAt.EqAt.str_bool a t' b
  | int b=>obtain⟨t,rfl⟩:=rx;exact SeqAt.EqAt.str_int a t' b t
  | str b=>obtain⟨t,rfl⟩:=rx;exact SeqAt.EqAt.str_str a t' b t
  | _=>exact absurd (show false=true from fx) Bool.false_ne_true
 | _=>exact absurd (show false=true from fy) Bool.false_ne_true
noncomputable def Kv (x:V) (u:Value):Bool:=match u with
 | .none=>JV .non x
 | .bool b=>JV (.bl b) x
 | .int i _=>JV (.int i) x
 | .str z _=>JV (.str z) x
 | _=>false
theorem Px {x y:V} {u:Value} (r:RelV y u) (f:jz y=true):Kv x u=JV y x:=by
 cases y with
 | non=>cases r;rfl
 | bl b=>cases r;rfl
 | int i=>obtain⟨t,rfl⟩:=r;rfl
 | str z=>obtain⟨t,rfl⟩:=r;rfl
 | _=>exact absurd (show false=true from f) Bool.false_ne_true
theorem xq {x:V}:∀{xs:List V} {us:List Value},Vals xs us->xs.all jz=true->us.any (Kv x)=xs.any fun y=>JV y x
 | _,_,.nil,_=>rfl
 | y:: xs,u:: us,.cons r t,f=>by
  rw [List.all_cons,Bool.and_eq_true] at f
  rw [List.any_cons,List.any_cons,Px r f.1,xq t f.2]
theorem uH {A:Around} {s:Shared} {x:V} {v:Value} (rx:RelV x v) (fx:jz x=true):∀{xs:List V} {us:List Value},Vals xs us->xs.all jz=true->∀u∈us,SeqAt.EqAt A s u v (Kv x u)
 | _,_,.nil,_=>fun u hu=>by cases hu
 | y:: xs,u:: us,.cons r t,f=>fun u' hu=>by
  rw [List.all_cons,Bool.and_eq_true] at f
  rcases List.mem_cons.mp hu with rfl | hu
  ·rw [Px r f.1];exact V4 r rx f.1 fx
  ·exact uH rx fx t f.2 u' hu
noncomputable def inV (x:V) (xs:List V):Bool:=xs.any fun y=>JV y x
inductive Wl (K:PySem.W.Frag) (neg:Bool) (x:V) (y:V) (H:Hp) (Q:VK):Prop where
 | mk:∀p xs,y=.ref p->((bI K H p xs∨fC K H p xs))->jz x=true->xs.all jz=true->(Q (.bl (if neg then !inV x xs else inV x xs)) H)->Wl K neg x y H Q
noncomputable def Ys (K:PySem.W.Frag) (neg:Bool):R2:=fun x y H Q=>Wl K neg x y H Q
theorem Oc:wA X (compareOp .In) (Ys X.K false):=by
 intro pins s σ H x y v u Q I rx ry h
 obtain⟨p,xs,rfl,hq,fx,fs,q⟩:=h
 cases ry
 rcases hq with hq | hq
 ·obtain⟨its,r,pl,hz⟩:=I.list hq
  refine SeqAt.in_listAt (Kv x) pl.isList (fun w hw=>uH rx fx r fs w (by simpa using hw)) ⟨.bl _,H,I,rfl,?_⟩
  rw [show its.toArray.any (Kv x)=its.any (Kv x) by simp,xq r fs]
  exact q
 ·obtain⟨its,r,pl,hz⟩:=I.tuple hq
  refine SeqAt.in_tupleAt (Kv x) pl (fun w hw=>uH rx fx r fs w (by simpa using hw)) ⟨.bl _,H,I,rfl,?_⟩
  rw [show its.toArray.any (Kv x)=its.any (Kv x) by simp,xq r fs]
  exact q
theorem jQ:wA X (compareOp .NotIn) (Ys X.K true):=by
 intro pins s σ H x y v u Q I rx ry h
 obtain⟨p,xs,rfl,hq,fx,fs,q⟩:=h
 cases ry
 rcases hq with hq | hq
 ·obtain⟨its,r,pl,hz⟩:=I.list hq
  refine SeqAt.notIn_listAt (Kv x) pl.isList (fun w hw=>uH rx fx r fs w (by simpa using hw)) ⟨.bl _,H,I,rfl,?_⟩
  rw [show its.toArray.any (Kv x)=its.any (Kv x) by simp,xq r fs]
  exact q
 ·obtain⟨its,r,pl,hz⟩:=I.tuple hq
  refine SeqAt.notIn_tupleAt (Kv x) pl (fun w hw=>uH rx fx r fs w (by simpa using hw)) ⟨.bl _,H,I,rfl,?_⟩
  rw [show its.toArray.any (Kv x)=its.any (Kv x) by simp,xq r fs]
  exact q
theorem wX:jZ X (.type "list") (fun xs H Q=>∃p ys,xs=[.ref p]/\(bI X.K H p ys∨fC X.K H p ys)/\∀l,H l=none->Q (.ref l) (upd H l (.lst ys))):=by
 intro pins s σ H xs us Q I r h
 obtain⟨p,ys,rfl,hq,q⟩:=h
 obtain⟨u,rfl,rx⟩:=vals1 r
 cases rx
 have fin:∀(its:List Value),Vals ys its->ys.length<=sizeLine->∀(h':Heap) (c':Nat),(∀b o',s.heap.get? b=some o'->h'.get? b=some o')->
   h'.get? s.heap.objs.size=some { cls:=.type "list",dict:=none,data:=.seq its.toArray c',slots:=#[] }->EP X pins σ Q (.ref s.heap.objs.size) { s with heap:=h' }:=fun its r' hz h' c' kp e=>
  ⟨.ref s.heap.objs.size,_,I.laid (t':=s.toks) kp (Nat.le_refl _) (show fQ X.prog X.w _ h' _ (.lst ys) from⟨hz,its,c',r',e⟩),rfl,q _ (I.hok.fresh (Nat.le_refl _))⟩
 rcases hq with hq | hq
 ·obtain⟨its,r',pl,hz⟩:=I.list hq
  have hlen:=r'.length
  obtain⟨o,ho,hc,n,hd⟩:=pl.isList
  exact call_list_seq p (.inl rfl) ho hc hd (fun h' c' kp e=>fin its r' hz h' c' kp e) (by simp only [List.size_toArray] <;> omega)
 ·obtain⟨its,r',pl,hz⟩:=I.tuple hq
  have hlen:=r'.length
  obtain⟨o,ho,hc,n,hd⟩:=pl
  exact call_list_seq p (.inr rfl) ho hc hd (fun h' c' kp e=>fin its r' hz h' c' kp e) (by simp only [List.size_toArray] <;> omega)
theorem DW:jZ X (.type "tuple") (fun xs H Q=>∃p ys,xs=[.ref p]/\((bI X.K H p ys/\∀l,H l=none->Q (.ref l) (upd H l (.tup ys)))∨(fC X.K H p ys/\Q (.ref p) H))):=by
 intro pins s σ H xs us Q I r h
 obtain⟨p,ys,rfl,h⟩:=h
 obtain⟨u,rfl,rx⟩:=vals1 r
 cases rx
 rcases h with ⟨hq,q⟩ | ⟨hq,q⟩
 ·obtain⟨its,r',pl,hz⟩:=I.list hq
  have hlen:=r'.length
  refine call_tuple_list pl.isList (fun h' kp=>?_) (by simp only [List.size_toArray] <;> omega)
  have I1:Inv X pins σ H { s with heap:=h' }:=I.kept (t':=s.toks) kp
  have I2:Inv X pins σ (upd H h'.objs.size (.tup ys)) { s with heap:=h'.push { cls:=.type "tuple",data:=.seq its.toArray } }:=
   I1.laid (t':=s.toks) (fun b o e=>Heap.get?_push_of_some _ e) (Nat.le_refl _) (show fQ X.prog X.w _ _ _ (.tup ys) from⟨hz,its,r',IsTup.new _ _⟩)
  exact⟨.ref h'.objs.size,_,I2,rfl,q _ (I1.hok.fresh (Nat.le_refl _))⟩
 ·obtain⟨its,r',pl,hz⟩:=I.tuple hq
  exact call_tuple_same pl ⟨.ref p,H,I,rfl,q⟩
noncomputable def YC (K:PySem.W.Frag) (T:String) (x:V) (H:Hp):Prop:=match x with
 | .str _=>T= "str"
 | .int _=>T= "int"
 | .ref p=>(T= "list" /\∃xs,bI K H p xs)∨(T= "tuple" /\∃o,K.lookup p=some o/\o.cls=.type "tuple" /\o.dict=none)∨
   (T= "dict" /\((∃kvs,H p=some (.dK kvs))∨∃kvs,H p=some (.dT kvs)))∨(T= "set" /\∃S n,H p=some (.set S n))
 | _=>False
theorem RC {pins:List (Addr×Obj)} {σ:St} {H:Hp} {s:Shared} {T:String} {x:V} {v:Value} (I:Inv X pins σ H s) (r:RelV x v) (ty:YC X.K T x H):
  s.TypeIs v T/\∀a,v=.ref a->∃ob,s.heap.get? a=some ob/\ob.dict=none:=by
 cases x with
 | str z=>
  obtain⟨t,rfl⟩:=r
  cases (show T= "str" from ty)
  exact⟨typeIs_str s z t,fun _ e=>nomatch e⟩
 | int i=>
  obtain⟨t,rfl⟩:=r
  cases (show T= "int" from ty)
  exact⟨typeIs_int s i t,fun _ e=>nomatch e⟩
 | ref p=>
  cases r
  rcases ty with ⟨rfl,xs,hq⟩ | ⟨rfl,o,hk,hc,hd⟩ | ⟨rfl,hk⟩ | ⟨rfl,S,n,hk⟩
  ·obtain⟨its,_,pl,_⟩:=I.list hq
   refine⟨pl.isList.typeIs,fun a e=>?_⟩
   cases e
   obtain⟨o,n,e,c,hd,_⟩:=pl
   exact⟨o,e,hd⟩
  ·refine⟨⟨o,I.kIn p o hk,hc⟩,fun a e=>?_⟩
   cases e
   exact⟨o,I.kIn _ o hk,hd⟩
  ·have z:∃o,s.heap.get? p=some o/\o.ExactDict:=by
    rcases hk with ⟨kvs,hk⟩ | ⟨kvs,hk⟩
    ·obtain⟨_,_,_,_,o,_,_,e,ex,_⟩:=I.hok p _ hk
     exact⟨o,e,ex⟩
    ·obtain⟨_,_,_,_,o,_,_,e,ex,_⟩:=I.hok p _ hk
     exact⟨o,e,ex⟩
   obtain⟨o,e,ex⟩:=z
   refine⟨⟨o,e,ex.1⟩,fun a e2=>?_⟩
   cases e2
   exact⟨o,e,ex.2.1⟩
  ·obtain⟨o,_,_,_,e,ex,_⟩:=I.hok p _ hk
   refine⟨⟨o,e,ex.1⟩,fun a e2=>?_⟩
   cases e2
   exact⟨o,e,ex.2.1⟩
 | _=>exact False.elim ty
noncomputable def YJ (K:PySem.W.Frag) (T:String) (r:V->List V->Hp->VK->Prop) (to:TE):TE:=fun σ H Q=>to σ H fun x H1=>YC K T x H1/\r x [] H1 Q
noncomputable def Y5 (K:PySem.W.Frag) (T:String) (r:V->List V->Hp->VK->Prop) (to:TE) (t:TA):TE:=fun σ H Q=>to σ H fun x H1=>YC K T x H1/\t σ H1 fun xs H2=>r x xs H2 Q
variable {o e:Expr} {es:List Expr} {to:TE} {t:TA} {name:Str} {apos cpos:Pos} {T id:String} {r:V->List V->Hp->VK->Prop}
theorem Gp (pa:PlainAttrs T) (slot:Slot T name id) (hty:typeOf (.builtin id)=pure (.type "method_descriptor")) (hm:Ym X id r) (ho:PE X o to)
  (hbase:attributeBase o name X.env (eval o X.env)=eval o X.env:=by rfl) (hline:(apos.endLine == cpos.line)=true:=by rfl):PE X (.Call (.Attribute o name apos) [] [] cpos) (YJ X.K T r to):=by
 intro pins s σ H Q I h
 refine wpAny_Call_method0_late hbase hline (dI (ho pins s σ H _ I h) fun v s1 hpt=>?_)
 obtain⟨x,H1,I1,r1,ty,q1⟩:=hpt
 obtain⟨h1,h2⟩:=RC I1 r1 ty
 exact⟨T,id,pa,slot,hty,h1,h2,Calls.callWith_builtin rfl (PySem.evalArgs_none (hm pins s1 σ H1 x [] v [] Q I1 r1 .nil q1))⟩
theorem Dq (pa:PlainAttrs T) (slot:Slot T name id) (hty:typeOf (.builtin id)=pure (.type "method_descriptor")) (hm:Ym X id r) (ho:PE X o to) (ha:PA X (e:: es) t)
  (hbase:attributeBase o name X.env (eval o X.env)=eval o X.env:=by rfl)
  (hfew:((backTo cpos (starEach (e:: es) X.env)).all (fun x=>!x.1) && (backToKw cpos (keywordEach [] X.env)).all (fun x=>x.1.isSome)
   && decide ((e:: es).length+([]:List Keyword).length+(if ([]:List Keyword).isEmpty then 0 else 1) <30))=true:=by rfl)
  (hline:(apos.endLine == cpos.line)=true:=by rfl) (hs:starEach (e:: es) X.env=(false,eval e X.env):: starEach es X.env:=by rfl) (hplain:(backTo cpos (starEach es X.env)).any (·.1)=false:=by rfl):
  PE X (.Call (.Attribute o name apos) (e:: es) [] cpos) (Y5 X.K T r to t):=by
 intro pins s σ H Q I h
 refine wpAny_Call_method_late hbase hfew hline rfl (dI (ho pins s σ H _ I h) fun v s1 hpt=>?_)
 obtain⟨x,H1,I1,r1,ty,q1⟩:=hpt
 obtain⟨h1,h2⟩:=RC I1 r1 ty
 refine⟨T,id,pa,slot,hty,h1,h2,?_⟩
 have hA:=ha cpos pins s1 σ H1 _ I1 q1
 rw [hs] at hA ⊢
 refine Calls.callWith_builtin (by show(false || (backTo cpos (starEach es X.env)).any (·.1))=false;rw [hplain] <;> rfl) (Calls.evalArgs_plain ?_)
 exact dI hA fun us s2 ⟨vs,H2,I2,r2,q2⟩=>hm pins s2 σ H2 x vs v us Q I2 r1 r2 q2
end
noncomputable def XJ (X:Cx) (id:String) (r:V->List V->Hp->VK->Prop):Prop:=
 ∀(pins:List (Addr×Obj)) (s:Shared) (σ:St) (H:Hp) (x:V) (xs:List V) (v:Value) (us:List Value) (Q:VK),Inv X pins σ H s->RelV x v->Vals xs us->r x xs H Q->
  wpAny (model X.prog X.w) X.A (call (.builtin id) (v:: us)) (EP X pins σ Q) X.xe s
theorem Vals.one:∀{x:V} {us:List Value},Vals [x] us->∃u,us=[u]/\RelV x u
 | _,_,.cons r .nil=>⟨_,rfl,r⟩
theorem Vals.zero:∀{us:List Value},Vals [] us->us=[]
 | _,.nil=>rfl
theorem Vals.dropLast {xs:List V} {us:List Value} (h:Vals xs us):Vals xs.dropLast us.dropLast:=by
 induction h with
 | nil=>exact .nil
 | cons r t ih=>
  cases t with
  | nil=>exact .nil
  | cons q t'=>exact .cons r ih
theorem Vals.eraseIdx:∀{xs:List V} {us:List Value} (i:Nat),Vals xs us->Vals (xs.eraseIdx i) (us.eraseIdx i)
 | _,_,_,.nil=>.nil
 | _,_,0,.cons _ t=>t
 | _,_,i+1,.cons r t=>.cons r (Vals.eraseIdx i t)
theorem KD {α:Type} (l:List α):l.eraseIdx (l.length - 1)=l.dropLast:=by
 induction l with
 | nil=>rfl
 | cons a r ih=>
  cases r with
  | nil=>rfl
  | cons b r=>
   have e:(a:: b:: r).length - 1=((b:: r).length - 1)+1:=by
    have h1:(a:: b:: r).length=r.length+2:=rfl
    have h2:(b:: r).length=r.length+1:=rfl
    omega
   rw [e,List.eraseIdx_cons_succ,ih]
   all_goals rfl
theorem Ey {α:Type}:∀(l:List α) (i:Nat),(l.eraseIdx i).length<=l.length
 | [],_=>Nat.le_refl _
 | _:: _,0=>Nat.le_succ _
 | _:: r,i+1=>Nat.succ_le_succ (Ey r i)
section
variable {X:Cx} {pins:List (Addr×Obj)} {σ:St} {H:Hp} {s:Shared} {l b:Addr} {xs ys zs:List V}
theorem Inv.lset {its its':List Value} {n:Nat} {f:Array Value->Array Value} {t':Nat} (I:Inv X pins σ H s) (hH:H l=some (.lst xs))
  (e:s.heap.get? l=some { cls:=.type "list",data:=.seq its.toArray n }) (hf:f its.toArray=its'.toArray) (hv:Vals ys its') (hz:ys.length<=sizeLine):
  Inv X pins σ (upd H l (.lst ys)) { s with heap:=s.heap.update l (Obj.mapSeq f),toks:=t' }:=by
 have q:=PySem.IsL.update e f
 rw [hf] at q
 refine I.write (x:=l) (e:=l) (by rw [hH];exact trivial) (.inl rfl) (fun b' u hb hu=>(Heap.get?_update_other s.heap (Obj.mapSeq f) (Ne.symm hb)).trans hu) ⟨_,q⟩ ?_
 exact⟨hz,its',_,hv,q⟩
theorem Inv.lnew {its:List Value} {t':Nat} (I:Inv X pins σ H s) (hv:Vals ys its) (hz:ys.length<=sizeLine):
  Inv X pins σ (upd H s.heap.objs.size (.lst ys)) { s with heap:=s.heap.push { cls:=.type "list",data:=.seq its.toArray },toks:=t' }:=
 I.laid (fun _ _ q=>Heap.get?_push_of_some _ q) (Nat.le_refl _) ⟨hz,its,0,hv,Heap.get?_push_size _ rfl⟩
theorem Inv.fresh (I:Inv X pins σ H s):H s.heap.objs.size=none:=I.hok.fresh (Nat.le_refl _)
theorem Inv.lstM (I:Inv X pins σ H s) (hH:H l=some (.lst xs)):xs.length<=sizeLine/\∃(its:List Value) (n:Nat),Vals xs its/\xs.length=its.length/\s.heap.get? l=some { cls:=.type "list",data:=.seq its.toArray n }:=by
 obtain⟨z,its,n,r,e⟩:=I.hok l _ hH
 exact⟨z,its,n,r,r.length,e⟩
theorem Rq {n:Nat} (h:n<=sizeLine):Builtin.List.listTooLong n=false:=by
 unfold Builtin.List.listTooLong
 exact decide_eq_false (by omega)
end
section
variable {X:Cx}
inductive Jz (x:V) (vs:List V) (H:Hp) (Q:VK):Prop where
 | mk:∀l xs y,x=.ref l->vs=[y]->H l=some (.lst xs)->xs.length <sizeLine->Q .non (upd H l (.lst (xs ++ [y])))->Jz x vs H Q
noncomputable def M6:V->List V->Hp->VK->Prop:=fun x vs H Q=>Jz x vs H Q
theorem N8:XJ X "list.append" M6:=by
 intro pins s σ H x vs v us Q I rx rv h
 obtain⟨l,xs,y,rfl,rfl,hH,hz,q⟩:=h
 cases rx
 obtain⟨u,rfl,ru⟩:=rv.one
 obtain⟨z,its,n,r,hl,e⟩:=I.lstM hH
 refine call_meets F.slot_list_append ⟨_,e,rfl⟩ F.entry_list_append (F.args_list_append_2 _ _) (PySem.list_append l its.toArray n u (by rw [List.size_toArray];omega)) ⟨e,?_⟩
 refine⟨.non,_,I.lset (its':=its ++ [u]) hH e (by simp) (r.append (.cons ru .nil)) ?_,rfl,q⟩
 rw [List.length_append,List.length_singleton]
 omega
inductive Iu (x:V) (vs:List V) (H:Hp) (Q:VK):Prop where
 | mk:∀l b xs zs,x=.ref l->vs=[.ref b]->H l=some (.lst xs)->H b=some (.lst zs)->xs.length+zs.length<=sizeLine->Q .non (upd H l (.lst (xs ++ zs)))->Iu x vs H Q
noncomputable def RN:V->List V->Hp->VK->Prop:=fun x vs H Q=>Iu x vs H Q
theorem Em:XJ X "list.extend" RN:=by
 intro pins s σ H x vs v us Q I rx rv h
 obtain⟨l,b,xs,zs,rfl,rfl,hH,hB,hz,q⟩:=h
 cases rx
 obtain⟨u,rfl,ru⟩:=rv.one
 cases ru
 obtain⟨z,its,n,r,hl,e⟩:=I.lstM hH
 obtain⟨z2,its2,n2,r2,hl2,e2⟩:=I.lstM hB
 have hsz:its.toArray.size+its2.toArray.size<=sizeLine:=by rw [List.size_toArray,List.size_toArray];omega
 have hlong:¬(!its.toArray.isEmpty && Builtin.List.listTooLong (its.toArray.size+its2.toArray.size))=true:=by
  rw [Rq hsz,Bool.and_false]
  exact Bool.false_ne_true
 refine call_meets F.slot_list_extend ⟨_,e,rfl⟩ F.entry_list_extend (F.args_list_extend_2 _ _)
  (AutoSeq1.list_extend_list_list_0 l its.toArray n b its2.toArray n2 hlong (by rw [List.size_toArray];omega) (by omega)) ⟨e,e2,?_⟩
 refine⟨.non,_,I.lset (its':=its ++ its2) hH e (by simp) (r.append r2) ?_,rfl,q⟩
 rw [List.length_append]
 omega
inductive Ub (x:V) (vs:List V) (H:Hp) (Q:VK):Prop where
 | mk:∀l xs y,x=.ref l->vs=[]->H l=some (.lst xs)->xs[xs.length - 1]?=some y->Q y (upd H l (.lst xs.dropLast))->Ub x vs H Q
noncomputable def Yg:V->List V->Hp->VK->Prop:=fun x vs H Q=>Ub x vs H Q
theorem Ka:XJ X "list.pop" Yg:=by
 intro pins s σ H x vs v us Q I rx rv h
 obtain⟨l,xs,y,rfl,rfl,hH,hy,q⟩:=h
 cases rx
 have hus:=rv.zero
 subst hus
 obtain⟨z,its,n,r,hl,e⟩:=I.lstM hH
 obtain⟨u,hu,ru⟩:=r.get hy
 have hy':its.toArray[its.toArray.size - 1]?=some u:=by
  show its.toArray[its.length - 1]?=some u
  rw [<-Array.getElem?_toList,<-hl]
  exact hu
 refine call_meets F.slot_list_pop ⟨_,e,rfl⟩ F.entry_list_pop (F.args_list_pop_1 _) (MeetsSeq.list_pop_last l its.toArray n u hy' (by rw [List.size_toArray];omega)) ⟨e,?_⟩
 refine⟨y,_,I.lset (its':=its.dropLast) hH e ?_ r.dropLast ?_,ru,q⟩
 ·show its.toArray.eraseIdxIfInBounds (its.toArray.size - 1)=its.dropLast.toArray
  rw [List.size_toArray,List.eraseIdxIfInBounds_toArray,KD]
 ·rw [List.length_dropLast]
  omega
inductive MN (x:V) (vs:List V) (H:Hp) (Q:VK):Prop where
 | mk:∀l xs i k y,x=.ref l->vs=[.int i]->H l=some (.lst xs)-> -(2 ^ 63)<=i->i <2 ^ 63->seqIndex? i xs.length=some k->xs[k]?=some y->Q y (upd H l (.lst (xs.eraseIdx k)))->MN x vs H Q
noncomputable def Va:V->List V->Hp->VK->Prop:=fun x vs H Q=>MN x vs H Q
theorem Cw:XJ X "list.pop" Va:=by
 intro pins s σ H x vs v us Q I rx rv h
 obtain⟨l,xs,i,k,y,rfl,rfl,hH,h1,h2,hk,hy,q⟩:=h
 cases rx
 obtain⟨u,rfl,ru⟩:=rv.one
 obtain⟨t,rfl⟩:=ru
 obtain⟨z,its,n,r,hl,e⟩:=I.lstM hH
 obtain⟨w,hw,rw'⟩:=r.get hy
 refine call_meets F.slot_list_pop ⟨_,e,rfl⟩ F.entry_list_pop (F.args_list_pop_2 _ _)
  (MeetsSeq.list_pop_at l its.toArray n i t k w (fitsIndex_both h1 h2) (by rw [List.size_toArray,<-hl];exact hk) (by rw [<-Array.getElem?_toList];exact hw) (by rw [List.size_toArray];omega)) ⟨e,?_⟩
 refine⟨y,_,I.lset (its':=its.eraseIdx k) hH e ?_ (r.eraseIdx k) ?_,rw',q⟩
 ·show its.toArray.eraseIdxIfInBounds k=(its.eraseIdx k).toArray
  rw [List.eraseIdxIfInBounds_toArray]
 ·have:=Ey xs k
  omega
inductive K8 (x:V) (vs:List V) (H:Hp) (Q:VK):Prop where
 | mk:∀l xs,x=.ref l->vs=[]->H l=some (.lst xs)->Q .non (upd H l (.lst []))->K8 x vs H Q
noncomputable def Vh:V->List V->Hp->VK->Prop:=fun x vs H Q=>K8 x vs H Q
theorem O2:XJ X "list.clear" Vh:=by
 intro pins s σ H x vs v us Q I rx rv h
 obtain⟨l,xs,rfl,rfl,hH,q⟩:=h
 cases rx
 have hus:=rv.zero
 subst hus
 obtain⟨z,its,n,r,hl,e⟩:=I.lstM hH
 refine call_meets F.slot_list_clear ⟨_,e,rfl⟩ F.entry_list_clear (F.args_list_clear_1 _) (AutoSeq1.list_clear_list_0 l its.toArray n (by rw [List.size_toArray];omega)) ⟨e,?_⟩
 exact⟨.non,_,I.lset (its':=[]) (ys:=[]) hH e rfl .nil (Nat.zero_le _),rfl,q⟩
inductive Uk (x:V) (y:V) (H:Hp) (Q:VK):Prop where
 | mk:∀l b xs zs,x=.ref l->y=.ref b->H l=some (.lst xs)->H b=some (.lst zs)->xs.length+zs.length<=sizeLine->(∀p,H p=none->Q (.ref p) (upd H p (.lst (xs ++ zs))))->Uk x y H Q
noncomputable def YL:R2:=fun x y H Q=>Uk x y H Q
theorem Rv:wA X (binaryOp .Add) YL:=by
 intro pins s σ H x y v u Q I rx ry h
 obtain⟨l,b,xs,zs,rfl,rfl,hH,hB,hz,q⟩:=h
 cases rx
 cases ry
 obtain⟨z,its,n,r,hl,e⟩:=I.lstM hH
 obtain⟨z2,its2,n2,r2,hl2,e2⟩:=I.lstM hB
 refine PySem.P.add_list e e2 ?_ (by rw [List.size_toArray,List.size_toArray];omega)
 have ea:its.toArray ++ its2.toArray=(its ++ its2).toArray:=by simp
 rw [ea]
 exact⟨.ref _,_,I.lnew (t':=s.toks) (r.append r2) (by rw [List.length_append];omega),rfl,q _ I.fresh⟩
end
section
variable {prog:Program} {w:World} {A:Around} {E:Value->Shared->Prop} {s:Shared}
end
section
variable {X:Cx}
end
end L2
namespace Att
open PySem PySem.W PySem.Calls PyProof.Rows
theorem Aw {P:Params} {h:Heap}:∀(ns:List Int) (vs:List Value),WellAll P h vs (ns.map WData.int)->IntsAre vs ns:=by
 intro ns
 induction ns with
 | nil=>
  intro vs w
  rw [List.map_nil] at w
  cases w
  exact .nil
 | cons n ns ih=>
  intro vs w
  rw [List.map_cons] at w
  cases w with
  | cons a b=>
   cases a
   exact .cons _ _ (ih _ b)
theorem M8 {l:OpenLaw} {n:Nat} (hn:l.most=some n) {P:Params} {h:Heap} {args:List WData} {vals:List Value}
  (hpre:l.row.toRowW.claim.pre args=true) (hwl:WellAll P h vals args):
  ∃a vs ns,vals=[Value.ref a]/\args=[WData.list (ns.map WData.int)]/\h.get? a=some { cls:=.type "list",data:=.seq vs.toArray }/\IntsAre vs ns/\ns.length<=n:=by
 have hsh:WShape.hasAll [] args [.list .int]=true:=(pre_splitW hpre).1
 have hc:l.pre.holds [] { args:=args }=true:=(pre_splitW hpre).2
 obtain⟨d,r,rfl,h1,h2⟩:=hasAllW_cons hsh
 obtain rfl:=hasAllW_nil h2
 obtain⟨xs,rfl,h3⟩:=hasW_list h1
 obtain⟨ns,rfl⟩:=items_int h3
 have hlen:ns.length<=n:=by
  unfold OpenLaw.pre at hc
  have h4:(WTm.not (.lt (.lit (.int (n:Int))) (.len (.arg 0)))).holds [] { args:=[.list (ns.map .int)] }=true:=by
   have h4:=(holds_andW hc).1
   rw [hn] at h4
   exact h4
  have h5:=condW_of h4 (w_not (w_lt w_lit (w_len_list (w_arg rfl))))
  rw [List.length_map] at h5
  refine Nat.le_of_not_lt fun q=>?_
  have q':(n:Int) <((ns.length:Nat):Int):=by omega
  first
   | (rw [decide_eq_true q'] at h5;exact absurd h5 (by decide))
   | (simp at h5;omega)
 cases hwl with
 | cons w1 w2=>
  cases w2
  cases w1 with
  | list ho hall=>exact⟨_,_,ns,rfl,rfl,ho,Aw ns _ hall,hlen⟩
theorem Ot (l:OpenLaw) (args:List WData):l.row.toRowW.claim.post args (.bool true) args=true:=
 postW_of (r:=l.row.toRowW) (X:=(true == true))
  (show WShape.has [] (.bool true) .bool=true by first | rfl | decide | simp [WShape.has,WShape.arms,WShape.armsAll])
  (show(WTm.eq .res (.lit (.bool true))).value [] { args:=args,res:=some (.bool true),after:=args }=some (.bool (true == true)) from w_eq_bool (w_res rfl) w_lit) rfl
theorem Jt {l:OpenLaw} {n:Nat} {q:Program} {loose:List Str} {XP:(Str->Option Value)->Heap->Prop} {YP:World->Heap->Prop} {d:DefRec}
  (hn:l.most=some n) (hdf:d.params.defaults=[])
  (call:∀(w:World) (s₀ s₁:Shared) (mg mb:Str->Option Value) (fa:Addr) (o:Obj) (pm cd doc:Value) (a:Addr) (vs:List Value) (ns:List Int),
   Ground q loose [] XP w s₀ mg mb s₁.heap->YP w s₁.heap->
   s₁.heap.get? fa=some o->o.data=.func (docDef d.name d.params d.body d.scope pm cd doc)->s₁.heap.CodeRec cd d.name->mg d.name=some (.ref fa)->
   s₁.heap.get? a=some { cls:=.type "list",data:=.seq vs.toArray }->IntsAre vs ns->ns.length<=n->s₁.gens= #[]->
   codeAny (model l.prog w) callerA (.call (.ref fa) ⟨[.ref a],[]⟩) (fun r s'=>r=.ok (.ret (.bool true))/\OldK s₁.heap s'.heap/\s'.os=s₁.os/\AllBare s'.gens) s₁):
  WalkO q loose XP YP l.row.toRowW d [] (fun f vs=>PySem.call f vs):=by
 intro w s₀ s₁ mg mb G Y fa o pm cd doc dV kV ho hd hcd hD hmg hg args vals as hpre hlay hrd hwl hlo
 obtain rfl:dV=.none:=Dflts.none hD hdf
 obtain rfl:kV=.none:=Dflts.noKw hD
 obtain⟨a,vs,ns,rfl,rfl,hobj,hints,hlen⟩:=M8 hn hpre hwl
 refine enter_call (codeAny_mono (call w s₀ s₁ mg mb fa o pm cd doc a vs ns G Y ho (fd_plain hd) hcd hmg hobj hints hlen hg) fun r s' hq=>?_)
 obtain⟨rfl,h2,h3,h4⟩:=hq
 exact⟨.inl ⟨.bool true,.bool true,[],rfl,fun _=>rfl,.bool true,Ot l _,fun _=>⟨List.Pairwise.nil,fun _ hm=>(nomatch hm)⟩⟩,h2,h3,h4⟩
section
variable {prog:Program} {w:World} {A:Around} {E:Value->Shared->Prop} {s:Shared} {K:Frag}
end
end Att
namespace L2
open PySem PySem.Spec PyProof.Rows
theorem El:∀{vs:List Value} {ns:List Int},IntsAre vs ns->Vals (ns.map V.int) vs
 | _,_,.nil=>.nil
 | _,_,.cons n t h=>.cons ⟨t,rfl⟩ (El h)
noncomputable def Only (H:Hp):Prop:=∀b,H b=none∨∃o xs,H b=some (.frz o (.lst xs))
theorem Rj {P:Program} {w:World} {K:PySem.W.Frag} {mg mb:Str->Option Value} {CX:Et} {k:Nat} {fa a:Addr} {fd:FuncData} {x:Str} {sp:Sp} {s₁:Shared} {vs:List Value} {ns:List Int}
  (KX:K.In s₁.heap) (hns:s₁.heap.Ns mainGlobals mg) (hb:s₁.heap.Ns builtinsNs mb) (hbb:∀x:Str,x≠ "__name__" ->mb x=bootBuiltins x) (hlim:s₁.heap.NoLimit) (hg:s₁.gens= #[])
  (ha:s₁.heap.get? a=some { cls:=.type "list",data:=.seq vs.toArray }) (hi:IntsAre vs ns) (hl:ns.length<=sizeLine) (hr:jg k callerA)
  (F:∀base:Heap,K.In base->base.Ns mainGlobals mg->iB P w K mg base CX k fa fd [x] sp) (hbind:∀(s:Shared) (u:Value),BindsTo s fd ⟨[u],[]⟩ [(x,u)])
  (hsp:∀H:Hp,Only H->bI K H a (ns.map V.int)->sp [.ref a] H (fun v _=>v=.bl true) fun _ _ _=>False)
  (hCX:∀H e s',CX [] H s₁ (fun _ _ _=>False) e s'->False):
  codeAny (model P w) callerA (.call (.ref fa) ⟨[.ref a],[]⟩) (fun r s'=>r=.ok (.ret (.bool true))/\OldK s₁.heap s'.heap/\s'.os=s₁.os/\AllBare s'.gens) s₁:=by
 have rv:=El hi
 have lenV:=hi.length
 have core:∀H:Hp,Only H->bI K H a (ns.map V.int)->vp P w H s₁.heap->(∀b,H b≠none->b=a)->(H a≠none->K.lookup a=none)->
   codeAny (model P w) callerA (.call (.ref fa) ⟨[.ref a],[]⟩) (fun r s'=>r=.ok (.ret (.bool true))/\OldK s₁.heap s'.heap/\s'.os=s₁.os/\AllBare s'.gens) s₁:=by
  intro H hO hS hok hA hK
  have base_of:∀{b:Addr} {o:Obj},s₁.heap.get? b=some o->H b=none->(HJ s₁.heap H).get? b=some o:=fun e n=>Qo e n
  have noA:∀{b:Addr} {o:Obj} {es:Array DictEntry} {ep:Nat},s₁.heap.get? b=some o->o.data=.dict es ep->H b=none:=fun {b o es ep} e d=>by
   cases q:H b with
   | none=>rfl
   | some u=>
    have e':b=a:=hA b (by rw [q];simp)
    subst e'
    rw [ha] at e;cases e
    have d':Data.seq vs.toArray _=Data.dict es ep:=d
    cases d'
  have OD:∀{b:Addr} {m:Str->Option Value},s₁.heap.Ns b m->(HJ s₁.heap H).Ns b m:=fun {b m} ⟨o,es,ep,e,d,r⟩=>⟨o,es,ep,base_of e (noA e d),d,r⟩
  have hKb:K.In (HJ s₁.heap H):=fun b o e=>base_of (KX b o e) (by
   cases q:H b with
   | none=>rfl
   | some u=>
    have e':b=a:=hA b (by rw [q];simp)
    subst e'
    rw [hK (by rw [q];simp)] at e;cases e)
  have hM:Mod K mg (HJ s₁.heap H):=⟨hKb,OD hns,⟨mb,OD hb,hbb⟩,let ⟨mc,h1,h2⟩:=hlim;⟨mc,OD h1,h2⟩⟩
  have e0:KY P w K mg (HJ s₁.heap H) callerA [] s₁ H:=⟨rfl,hM,fun b o e=>S5 e,Nat.le_of_eq (Nj _ _),trivial,fun b hb=>absurd (show b∈([]:List Addr) from hb) (by simp),hok,.of_eq hg⟩
  refine codeAny_mono ((F _ hKb (OD hns)).run callerA [] s₁ H ⟨[.ref a],[]⟩ [.ref a] [.ref a] _ _ hr e0 (hbind s₁ (.ref a)) (.cons rfl .nil) (hsp H hO hS)) fun r s' h=>?_
  cases r with
  | error e=>exact(hCX H e s' h).elim
  | ok fl=>
   cases fl with
   | next=>exact False.elim h
   | brk=>exact False.elim h
   | cont=>exact False.elim h
   | ret u=>
    obtain⟨v,H',os,bare,un,hok',r',q⟩:=h
    have q':v=.bl true:=q
    subst q'
    obtain rfl:u=Value.bool true:=r'
    refine⟨rfl,OldK.of_keep fun b o e=>?_,os,bare⟩
    cases q:H b with
    | none=>exact un.keep b o e q (by intro z;exact absurd (show b∈([]:List Addr) from z) (by simp)) (by simp)
    | some u=>
     rcases hO b with z | ⟨ob,xs,z⟩
     ·rw [q] at z;cases z
     ·have z2:=un.frzs b ob _ z
      obtain⟨e1,_⟩:=hok b _ z
      obtain⟨e2,_⟩:=hok' b _ z2
      rw [e] at e1;cases e1
      exact e2
 cases hk:K.lookup a with
 | some o=>
  have e:=KX a o hk
  rw [ha] at e
  cases e
  refine core (fun _=>none) (fun _=>.inl rfl) (.inr ⟨_,vs.toArray,_,hk,rfl,rfl,rfl,by rw [List.size_toArray,lenV];exact hl,by simpa using rv⟩) (fun b u z=>by have z':(none:Option HO)=some u:=z;cases z') (fun b z=>absurd rfl z) fun z=>absurd rfl z
 | none=>
  refine core (fun b=>if b=a then some (.frz { cls:=.type "list",data:=.seq vs.toArray } (.lst (ns.map V.int))) else none) (fun b=>?_) (.inl (.inr ⟨{ cls:=.type "list",data:=.seq vs.toArray },if_pos rfl⟩)) (fun b u z=>?_) (fun b z=>?_) fun _=>hk
  ·by_cases hb:b=a
   ·exact .inr ⟨_,_,if_pos hb⟩
   ·exact .inl (if_neg hb)
  ·by_cases hb:b=a
   ·have z':=(if_pos hb).symm.trans z
    cases z'
    subst hb
    exact⟨ha,by rw [List.length_map];exact hl,vs,_,rv,ha⟩
   ·have z':=(if_neg hb).symm.trans z
    cases z'
  ·by_cases hb:b=a
   ·exact hb
   ·exact absurd (if_neg hb) z
theorem Td {l:PySem.W.OpenLaw} {n k:Nat} {q:Program} {loose:List Str} {XP:(Str->Option Value)->Heap->Prop} {YP:World->Heap->Prop} {d:DefRec} {K:Params->PySem.W.Frag} {CX:World->Et} {sp:World->Sp} {x:Str}
  (hn:l.most=some n) (hn2:n<=sizeLine) (hdf:d.params.defaults=[]) (hr:jg k callerA)
  (hY:∀(w:World) (h:Heap),YP w h->(K w.params).In h)
  (F:∀(w:World) (mg:Str->Option Value) (fa:Addr) (h:Heap),(K w.params).In h->h.Ns mainGlobals mg->mg d.name=some (.ref fa)->
   ∃fd:FuncData,(∀(s:Shared) (u:Value),BindsTo s fd ⟨[u],[]⟩ [(x,u)])/\
    ∀base:Heap,(K w.params).In base->base.Ns mainGlobals mg->iB l.prog w (K w.params) mg base (CX w) k fa fd [x] (sp w))
  (hsp:∀(w:World) (H:Hp) (a:Addr) (ns:List Int),ns.length<=n->Only H->bI (K w.params) H a (ns.map V.int)->sp w [.ref a] H (fun v _=>v=.bl true) fun _ _ _=>False)
  (hCX:∀(w:World) (H:Hp) (s:Shared) (e:Value) (s':Shared),CX w [] H s (fun _ _ _=>False) e s'->False):
  PySem.W.WalkO q loose XP YP l.row.toRowW d [] (fun f vs=>PySem.call f vs):=by
 refine Att.Jt hn hdf fun w s₀ s₁ mg mb fa o pm cd doc a vs ns G Y ho hd hcd hmg hobj hints hlen hg=>?_
 have KX:=hY w _ Y
 obtain⟨fd,hb,hF⟩:=F w mg fa _ KX G.T.g hmg
 exact Rj KX G.T.g G.T.b G.T.builtins G.T.nolimit hg hobj hints (Nat.le_trans hlen hn2) hr hF hb (fun H hO hS=>hsp w H a ns hlen hO hS) fun H e s'=>hCX w H s₁ e s'
noncomputable def inClass (s:Stmt) (j:Nat):Stmt:=match s with
 | .ClassDef _ _ _ body _ _ _ _ _ _ _=>body.getD j (.Pass ⟨0,0,0,0⟩)
 | _=>.Pass ⟨0,0,0,0⟩
noncomputable def iV (s:Stmt):Arguments:=match s with
 | .FunctionDef _ a _ _ _ _ _ _ _ _=>a
 | _=>{ posonlyargs:=[],args:=[],vararg:=none,kwonlyargs:=[],kw_defaults:=[],kwarg:=none,defaults:=[] }
noncomputable def gM (s:Stmt):List Stmt:=match s with
 | .FunctionDef _ _ b _ _ _ _ _ _ _=>b
 | _=>[]
noncomputable def aU (s:Stmt):Scope:=match s with
 | .FunctionDef _ _ _ _ _ _ sc _ _ _=>sc
 | _=>{ kind:=.function,names:=[],isGenerator:=false,isCoroutine:=false }
noncomputable abbrev Cq:Et:=fun _ _ _ _ _ _=>False
noncomputable abbrev E0:XK:=fun _ _ _=>False
theorem ir {X:Cx}:qP Cq X E0:=fun _ _ _ _ _ _ _ h=>h.elim
structure Uw (K:PySem.W.Frag) (x qual:Str) (st:Stmt) (f:Addr) (fd:FuncData):Prop where
 ex:∃(oc:Value) (od:Option Addr) (kV doc pm:Value) (an:Option Addr) (cdv ct:Value) (osl:Array (Option Value)),
  fd=PySem.W.fnOf x qual (iV st) (gM st) (aU st) .none kV doc pm an cdv ct/\K.lookup f=some ⟨oc,od,.func fd,osl⟩/\PySem.W.codeIn K cdv qual=true
 kp:PySem.W.keepIn K (.ref f)=true
section
variable {P:Program} {w:World} {K:PySem.W.Frag} {mg:Str->Option Value} {base:Heap}
theorem Uw.ok {x qual:Str} {st:Stmt} {f:Addr} {fd:FuncData} {N ps:List Str} {k:Nat} {sp:Sp} (F:Uw K x qual st f fd) (S:fZ N ps (aU st)) (len:∀vs H Q E,sp vs H Q E->vs.length=ps.length)
  (hbody:∀(cdv:Value) (A:Around) (outer:List Env) (s:Shared) (H:Hp) (vs:List V) (Q:VK) (E:XK),jg k (A.deeper (envOfC qual (aU st) s.heap.objs.size f cdv))->sp vs H Q E->
   ∃t,Mr (Km Cq P w K mg base N qual (aU st) f cdv A outer s H E).nox (gM st) t/\t { nx:=fun _ H'=>Q .non H',rt:=Q } (start N vs) H):iB P w K mg base Cq (k+1) f fd ps sp:=by
 obtain⟨oc,od,kV,doc,pm,an,cdv,ct,osl,rfl,lk,hcd⟩:=F.ex
 refine Ui lk hcd S len fun A outer s H vs Q E hr hsp=>?_
 obtain⟨t,h,q⟩:=hbody cdv A outer s H vs Q E hr hsp
 exact⟨t,h.nox,q⟩
theorem Uw.binds {x qual:Str} {st:Stmt} {f:Addr} {fd:FuncData} {ps:List Str} (F:Uw K x qual st f fd)
  (h:∀(kV doc pm:Value) (an:Option Addr) (cdv ct:Value) (us:List Value),us.length=ps.length->bindArgs (PySem.W.fnOf x qual (iV st) (gM st) (aU st) .none kV doc pm an cdv ct) ⟨us,[]⟩=pure (ps.zip us)):Binds K fd ps []:=by
 obtain⟨oc,od,kV,doc,pm,an,cdv,ct,osl,rfl,lk,hcd⟩:=F.ex
 exact .all (h kV doc pm an cdv ct)
theorem Vu {x qual:Str} {st:Stmt} {f:Addr} {oc:Value} {od an:Option Addr} {osl:Array (Option Value)} {kV doc pm cdv ct:Value} (l:K.lookup f=some ⟨oc,od,.func (PySem.W.fnOf x qual (iV st) (gM st) (aU st) .none kV doc pm an cdv ct),osl⟩)
  (c:PySem.W.codeIn K cdv qual=true) (k:PySem.W.keepIn K (.ref f)=true):Uw K x qual st f (PySem.W.fnOf x qual (iV st) (gM st) (aU st) .none kV doc pm an cdv ct):=⟨⟨oc,od,kV,doc,pm,an,cdv,ct,osl,rfl,l,c⟩,k⟩
end
section
variable {X:Cx}
theorem pv (i:Nat) {x:Str} {pos:Pos} (hN:X.N[i]?=some x:=by rfl) (hv:X5 X.env.scope x:=by first | exact Or.inl rfl | exact Or.inr (Or.inl rfl) | exact Or.inr (Or.inr rfl)) (hd:(x == ("__debug__" :Str))=false:=by decide)
  (hcd:(x == ("__classdict__" :Str))=false:=by decide):PE X (.Name x pos) (Xv i):=VH hN hv hd hcd
end
theorem cz {A B:Prop} (h:B):if false=true then A else B:=by
 rw [if_neg Bool.false_ne_true]
 exact h
theorem fU {A B:Prop} (h:A):if true=true then A else B:=by
 rw [if_pos rfl]
 exact h
theorem jG {c A B:Prop} [Decidable c] (h1:c->A) (h2:¬c->B):if c then A else B:=by
 by_cases h:c
 ·rw [if_pos h]
  exact h1 h
 ·rw [if_neg h]
  exact h2 h
theorem XQ {c A B:Prop} [Decidable c] (hc:c) (h:B):if (!decide c)=true then A else B:=by
 rw [decide_eq_true hc]
 exact cz h
noncomputable def aJ (H H':Hp):Prop:=∀b o,H b=some o->H' b=some o
theorem aJ.refl (H:Hp):aJ H H:=fun _ _ h=>h
theorem aJ.trans {H H1 H2:Hp} (a:aJ H H1) (b:aJ H1 H2):aJ H H2:=fun c o h=>b c o (a c o h)
theorem aJ.free {H H':Hp} (e:aJ H H') {l:Addr} (h:H' l=Option.none):H l=Option.none:=by
 cases q:H l with
 | none=>rfl
 | some o=>
  rw [e l o q] at h
  cases h
theorem aJ.seq {K:PySem.W.Frag} {H H':Hp} {a:Addr} {xs:List V} (e:aJ H H') (h:bI K H a xs):bI K H' a xs:=by
 rcases h with (h | ⟨o,h⟩) | h
 ·exact .inl (.inl (e _ _ h))
 ·exact .inl (.inr ⟨o,e _ _ h⟩)
 ·exact .inr h
end L2
set_option maxHeartbeats 4000000
namespace L2
open PySem PySem.Spec PyProof.Rows
theorem Ol {P:Program} {w:World} {H:Hp} {h:Heap} {a:Addr} {o:HO} (x:vp P w H h) (hn:H a=none) (new:fQ P w (upd H a o) h a o):vp P w (upd H a o) h:=fun b u e=>by
 by_cases hb:b=a
 ·subst hb;rw [az] at e;cases e;exact new
 ·rw [aK hb] at e
  exact(x b u e).stay (fun c v _ q=>q) (fun c q=>by rw [aK (aD q hn)];exact q) fun c xs q=>by rw [aK (aD q hn)];exact q
theorem Cv {α β:Type} {f:α->β->Sem (ForInStep β)} (g:α->β->β):∀(l:List α) (c:β),(∀x∈l,∀c,f x c=pure (.yield (g x c)))->forIn l c f=pure (l.foldl (fun c x=>g x c) c)
 | [],_,_=>rfl
 | x:: l,c,h=>by
  rw [List.forIn_cons,h x List.mem_cons_self,pure_bind]
  exact Cv g l (g x c) fun y hy=>h y (List.mem_cons_of_mem _ hy)
noncomputable def ww (env:Env) (x:Str×NameKind) (cs:List (Str×Addr)):List (Str×Addr):=
 if x.2=.free then(match env.cells.lookup x.1 with | some c=>(x.1,c):: cs | none=>cs) else cs
noncomputable def clos (env:Env) (l:List (Str×NameKind)) (c:List (Str×Addr)):List (Str×Addr):=l.foldl (fun c x=>ww env x c) c
theorem kI {env:Env} {scope:Scope} (h:∀y∈scope.names,y.2=.free->∃c,env.cells.lookup y.1=some c):closureFor scope env=pure (clos env scope.names []):=by
 simp only [closureFor]
 rw [Cv (ww env) scope.names [] fun x hx c=>?_]
 ·rfl
 ·obtain⟨n,k⟩:=x
  by_cases hk:k=.free
  ·subst hk
   obtain⟨a,ha⟩:=h _ hx rfl
   have ha':env.cells.lookup n=some a:=ha
   simp [cellOf,ha',ww]
  ·have:(k == NameKind.free)=false:=by simpa using hk
   simp [this,ww,hk]
theorem Jp {env:Env}:∀(l:List (Str×NameKind)) (c:List (Str×Addr)),(∀y a,c.lookup y=some a->env.cells.lookup y=some a)->∀y a,(clos env l c).lookup y=some a->env.cells.lookup y=some a
 | [],_,h=>h
 | x:: l,c,h=>by
  refine Jp l (ww env x c) fun y a e=>?_
  unfold ww at e
  by_cases hk:x.2=.free
  ·rw [if_pos hk] at e
   cases q:env.cells.lookup x.1 with
   | none=>rw [q] at e;exact h y a e
   | some b=>
    rw [q] at e
    by_cases hy:(y == x.1)=true
    ·have:y=x.1:=by simpa using hy
     subst this
     have e':((x.1,b):: c).lookup x.1=some a:=e
     simp [List.lookup_cons] at e'
     rw [q,e']
    ·have hy':(y == x.1)=false:=by simpa using hy
     have e':((x.1,b):: c).lookup y=some a:=e
     rw [List.lookup_cons,hy'] at e'
     exact h y a e'
  ·rw [if_neg hk] at e;exact h y a e
theorem Cj {env:Env}:∀(l:List (Str×NameKind)) (c:List (Str×Addr)) (y:Str),((∃a,c.lookup y=some a)∨∃k∈l,k.1=y/\k.2=.free/\∃a,env.cells.lookup y=some a)->∃a,(clos env l c).lookup y=some a
 | [],_,_,h=>by
  rcases h with h | ⟨k,hk,_⟩
  ·exact h
  ·cases hk
 | x:: l,c,y,h=>by
  refine Cj l (ww env x c) y ?_
  have up:(∃a,c.lookup y=some a)->∃a,(ww env x c).lookup y=some a:=fun⟨a,e⟩=>by
   unfold ww
   split
   ·split
    ·rename_i b q
     by_cases hy:(y == x.1)=true
     ·exact⟨b,by rw [List.lookup_cons,hy]⟩
     ·have hy':(y == x.1)=false:=by simpa using hy
      exact⟨a,by rw [List.lookup_cons,hy'];exact e⟩
    ·exact⟨a,e⟩
   ·exact⟨a,e⟩
  rcases h with h | ⟨k,hk,h1,h2,a,h3⟩
  ·exact .inl (up h)
  ·rcases List.mem_cons.mp hk with e | hk
   ·subst e
    left
    unfold ww
    rw [if_pos h2,h1,h3]
    exact⟨a,by simp [List.lookup_cons]⟩
   ·exact .inr ⟨k,hk,h1,h2,a,h3⟩
theorem uc (scope:Scope) (env:Env) (y:Str):(relabel scope env).names.lookup y=(scope.names.lookup y).map fun k=>if (k == NameKind.free && env.scope.kind == .function && env.kindOf y == some .cell)=true then .cell else k:=by
 show(scope.names.map _).lookup y=_
 induction scope.names with
 | nil=>rfl
 | cons p l ih=>
  obtain⟨n,k⟩:=p
  rw [List.map_cons]
  show List.lookup y ((if (k == NameKind.free && env.scope.kind == .function && env.kindOf n == some .cell)=true then(n,NameKind.cell) else(n,k)):: _)=_
  by_cases hy:(y == n)=true
  ·have:y=n:=by simpa using hy
   subst this
   by_cases hc:(k == NameKind.free && env.scope.kind == .function && env.kindOf y == some .cell)=true
   ·rw [if_pos hc]
    simp only [List.lookup_cons,beq_self_eq_true,Option.map_some]
    rw [if_pos hc]
   ·rw [if_neg hc]
    simp only [List.lookup_cons,beq_self_eq_true,Option.map_some]
    rw [if_neg hc]
  ·have hy':(y == n)=false:=by simpa using hy
   by_cases hc:(k == NameKind.free && env.scope.kind == .function && env.kindOf n == some .cell)=true
   ·rw [if_pos hc]
    simp only [List.lookup_cons,hy']
    exact ih
   ·rw [if_neg hc]
    simp only [List.lookup_cons,hy']
    exact ih
noncomputable def dj (N:List Str) (js:List Nat):List Str:=js.map fun j=>(N[j]?).getD Str.empty
noncomputable def dO (σ:St) (js:List Nat):St:=js.map fun j=>(σ[j]?).join
noncomputable def za (X:Cx) (scope:Scope) (x:Str) (js:List Nat) (cl:List (Str×Addr)) (C:Addr) (s:Shared) (H:Hp) (ex:List Addr):Cx where
 prog:=X.prog
 w:=X.w
 K:=X.K
 mg:=X.mg
 base:=X.base
 A:=X.A
 N:=x:: dj X.N js
 s₀:=s
 H₀:=H
 env:=compEnvC scope cl C X.env
 outer:=X.stack
 stack:=X.stack
 ex:=ex
 fn:=fun _=>false
 calm:=X.calm
 pn:=[]
 xe:=fun _ _=>False
noncomputable def PF (X:Cx) (ifs:List Expr) (t:TT):Prop:=
 ∀(pins:List (Addr×Obj)) (s:Shared) (σ:St) (H:Hp) (Q:Bool->Hp->Prop),Inv X pins σ H s->t σ H Q->
  wpAny (model X.prog X.w) X.A (forIn ifs true fun c r=>if r=true then do let ok <-isTrue c X.env (eval c X.env);pure (ForInStep.yield ok) else pure (ForInStep.yield r)) (TP X pins σ Q) X.xe s
noncomputable def WY:TT:=fun _ H Q=>Q true H
theorem iC {X:Cx}:PF X [] WY:=fun _ _ _ H _ I h=>wpAny_pure ⟨H,I,h⟩
theorem qR {X:Cx} {c:Expr} {t:TT} (hc:PT X c t):PF X [c] t:=by
 intro pins s σ H Q I h
 rw [List.forIn_cons,if_pos rfl]
 refine wpAny_bind (wpAny_bind (dI (hc pins s σ H Q I h) fun b s1 q=>wpAny_pure ?_))
 show wpAny (model X.prog X.w) X.A (pure b) (TP X pins σ Q) X.xe s1
 exact wpAny_pure q
inductive CompEnd (js:List Nat) (tt:TT) (te:TE) (σ:St) (Qd:List V->Hp->Prop) (J:It) (H1:Hp):Prop where
 | mk:∀W:Nat->Nat->List V->Hp->Prop,((∃m,W 0 m [] H1))->(∀i m ys H2,W i m ys H2->
 (J.stop i H2/\ys.length<=sizeLine/\Qd ys H2)∨
 (J.go i H2/\ys.length <sizeLine/\∃N:List V->Hp->Prop,(∀ys' H',N ys' H'->∃m',m' <m/\W (i+1) m' ys' H')/\∀x H3,J.yld i H2 x H3->tt (some x:: dO σ js) H3 fun b H4=>
  if b=true then te (some x:: dO σ js) H4 fun y H5=>N (ys ++ [y]) H5 else N ys H4))->CompEnd js tt te σ Qd J H1
noncomputable def Ug (js:List Nat) (wi:TI) (tt:TT) (te:TE):TE:=fun σ H Q=>wi σ H (CompEnd js tt te σ fun ys H2=>∀D,H2 D=none->Q (.ref D) (upd H2 D (.lst ys)))
section
variable {X:Cx} {x:Str} {px pos:Pos} {iter elt:Expr} {ifs:List Expr} {scope:Scope} {wi:TI} {tt:TT} {te:TE}
end
section
variable {X:Cx}
theorem mY:wA X (binaryOp .Mult) (rI IntMulOk fun i j=>.int (i * j)):=X8 fun _ _ _ _ _ _ _ hc q=>mul_int q hc
noncomputable def Uz (_ j:Int):Prop:=0 <j/\j.natAbs.log2 <9000
theorem OJ:wA X (binaryOp .FloorDiv) (rI Uz fun i j=>.int (i / j)):=X8 fun i j _ _ _ _ _ hc q=>by
 have h1:(0:Int) <j:=hc.1
 exact floordiv_int (by omega) (by rw [Int.fdiv_eq_ediv_of_nonneg i (by omega)];exact q) (.inl (PyProof.noPylong_of_log2 hc.2))
theorem Ww {i j:Int} (h0:0 <j) (h:j.natAbs <2 ^ 9000):Uz i j:=⟨h0,(Nat.log2_lt (by omega)).mpr h⟩
noncomputable def Xu (K:PySem.W.Frag) (H:Hp) (x:V) (T:String):Prop:=match x with
 | .non=>T= "NoneType"
 | .bl _=>T= "bool"
 | .int _=>T= "int"
 | .str _=>T= "str"
 | .ref p=>(T= "list" /\∃xs,bI K H p xs)∨(T= "tuple" /\∃xs,fC K H p xs)∨(T= "dict" /\∃kvs,H p=some (.dK kvs))
 | _=>False
noncomputable def Gu (a b:String):Bool:=a == b || (a == "bool" && b == "int")
noncomputable def Jy:List String:=["int", "bool", "str", "list", "tuple", "dict"]
noncomputable def qj:List String:=["NoneType", "bool", "int", "str", "list", "tuple", "dict"]
theorem QJ:∀T∈Jy,PySem.W.kitMeta T=true:=by decide +kernel
theorem SJ:∀a∈qj,∀b∈Jy,(PySem.fastBuiltinMro a).map (·.contains (.type b))=some (Gu a b):=by decide +kernel
theorem Tg (K:PySem.W.Frag) {a b:String} (ha:a∈qj) (hb:b∈Jy):PySem.W.kitOne K (.type a) (.type b)=some (Gu a b):=by
 unfold PySem.W.kitOne
 by_cases h:(Value.type a == Value.type b)=true
 ·rw [if_pos h]
  have e:a=b:=by
   have:=beq_iff_eq.mp h
   injection this
  subst e
  simp [Gu]
 ·rw [if_neg h]
  show(if PySem.W.kitMeta b=true then PySem.W.subIn K (.type a) (.type b) else none)=_
  rw [if_pos (QJ b hb)]
  exact SJ a ha b hb
theorem lV:jZ X (.builtin "isinstance") (fun xs H Q=>∃x Tx T b,xs=[x,.ty T]/\Xu X.K H x Tx/\T∈Jy/\Gu Tx T=b/\Q (.bl b) H):=by
 intro pins s σ H xs us Q I r h
 obtain⟨x,Tx,T,b,rfl,ty,hT,rfl,q⟩:=h
 obtain⟨u,w',rfl,rx,ry⟩:=vals2 r
 cases ry
 have fin:∀{b:Bool},b=Gu Tx T->∀tk,EP X pins σ Q (.bool b) { s with toks:=tk }:=fun e tk=>⟨.bl (Gu Tx T),H,I.tok tk,by rw [e];rfl,q⟩
 have go:∀{P:Heap->Prop},PySem.W.KitX X.K u (.type Tx) P->P s.heap->Tx∈qj->u≠.builtin "__main__.__loader__#opaque" ->wpAny (model X.prog X.w) X.A (call (.builtin "isinstance") [u,.type T]) (EP X pins σ Q) X.xe s:=fun Z p hm hx=>
  PySem.W.kia_one Z I.kIn p (Tg X.K hm hT) hx fun tk=>fin rfl tk
 cases x with
 | non=>cases rx;cases (show Tx= "NoneType" from ty);exact go PySem.W.kitx_none trivial (by decide) (by intro e;cases e)
 | bl b=>cases rx;cases (show Tx= "bool" from ty);exact go PySem.W.kitx_bool trivial (by decide) (by intro e;cases e)
 | int i=>obtain⟨t,rfl⟩:=rx;cases (show Tx= "int" from ty);exact go PySem.W.kitx_int trivial (by decide) (by intro e;cases e)
 | str z=>obtain⟨t,rfl⟩:=rx;cases (show Tx= "str" from ty);exact go PySem.W.kitx_str trivial (by decide) (by intro e;cases e)
 | ref p=>
  cases rx
  rcases ty with ⟨rfl,ys,hq⟩ | ⟨rfl,ys,hq⟩ | ⟨rfl,kvs,hq⟩
  ·obtain⟨its,_,pl,_⟩:=I.list hq
   obtain⟨o,n,e,c,_,_⟩:=pl
   exact go PySem.W.kitx_list ⟨o,e,c⟩ (by decide) (by intro e;cases e)
  ·obtain⟨its,_,⟨o,e,c,_⟩,_⟩:=I.tuple hq
   exact go PySem.W.kitx_tuple ⟨o,e,c⟩ (by decide) (by intro e;cases e)
  ·obtain⟨_,_,_,_,o,_,_,e,ex,_⟩:=I.hok p _ hq
   exact go PySem.W.kitx_dict ⟨o,e,ex.1⟩ (by decide) (by intro e;cases e)
 | _=>exact(show False from ty).elim
inductive QF (K:PySem.W.Frag) (x:V) (xs:List V) (H:Hp) (Q:VK):Prop where
 | mk:∀z p ys,x=.str z->xs=[.ref p]->bI K H p (ys.map V.str)->(ys.map (·.length)).sum+ys.length * z.length<=16777216->Q (.str (Txt.join z ys)) H->QF K x xs H Q
noncomputable def rJoin (K:PySem.W.Frag):V->List V->Hp->VK->Prop:=fun x xs H Q=>QF K x xs H Q
theorem wz:∀{ys:List Str} {us:List Value},Vals (ys.map V.str) us->StrsAre us ys
 | [],us,r=>by rw [List.map_nil] at r;cases r;exact .nil
 | y:: ys,us,r=>by
  rw [List.map_cons] at r
  cases r with
  | cons r1 r2=>
   obtain⟨t,e⟩:=r1
   subst e
   exact .cons y t (wz r2)
theorem Sx:Ym X "str.join" (rJoin X.K):=by
 intro pins s σ H x xs v us Q I rx rs h
 obtain⟨z,p,ys,rfl,rfl,hq,hz,q⟩:=h
 obtain⟨t,rfl⟩:=rx
 obtain⟨u,rfl,ru⟩:=vals1 rs
 cases ru
 obtain⟨its,rv,pl,_⟩:=I.list hq
 exact join_list (items:=its.toArray) pl.isList (by simpa using wz rv) hz fun t' k=>⟨.str (Txt.join z ys),H,I.tok k,⟨_,rfl⟩,q⟩
end
theorem Vf:bootBuiltins "int" =some (.type "int"):=by decide +kernel
theorem Ln:bootBuiltins "bool" =some (.type "bool"):=by decide +kernel
theorem JX:bootBuiltins "str" =some (.type "str"):=by decide +kernel
theorem qu:bootBuiltins "list" =some (.type "list"):=by decide +kernel
theorem ue:bootBuiltins "tuple" =some (.type "tuple"):=by decide +kernel
theorem dG:bootBuiltins "len" =some (.builtin "len"):=by decide +kernel
theorem eN:bootBuiltins "isinstance" =some (.builtin "isinstance"):=by decide +kernel
theorem VB:bootBuiltins "min" =some (.builtin "min"):=by decide +kernel
theorem J8:bootBuiltins "max" =some (.builtin "max"):=by decide +kernel
theorem GQ:bootBuiltins "all" =some (.builtin "all"):=by decide +kernel
section
variable {X:Cx} {pos:Pos}
theorem jm {x:Str} {v:V} (hg:Gl X x) (hm:∃u,X.mg x=some u/\RelV v u) (hd:(x == ("__debug__" :Str))=false:=by decide):PE X (.Name x pos) (tC v):=by
 obtain⟨u,h1,h2⟩:=hm
 exact Gr hg h1 h2 hd
theorem pN {x:Str} {T:String} (hg:Gl X x) (hm:X.mg x=none) (hv:bootBuiltins x=some (.type T)) (hn:x≠ "__name__" :=by decide) (hd:(x == ("__debug__" :Str))=false:=by decide):PE X (.Name x pos) (tC (.ty T)):=
 S6 hg hm hv rfl hn hd
end
theorem lG {a b:Int} (h: -(2 ^ 64) <a/\a <2 ^ 64:=by decide):IntMulOk a b:=.of_left (intBits_le_64 h.1 h.2)
theorem Gi {a b:Int} (h: -(2 ^ 64) <b/\b <2 ^ 64:=by decide):IntMulOk a b:=.of_right (intBits_le_64 h.1 h.2)
inductive QH (t:TS) (D:Ends) (σ:St) (H:Hp):Prop where
 | mk:∀J:St->Hp->Prop,t { D with nx:=J } σ H->(∀σ' H',J σ' H'->D.nx σ' H')->QH t D σ H
noncomputable def Xl (t:TS):TS:=fun D σ H=>QH t D σ H
theorem eG {X:Cx} {st:Stmt} {t:TS} (h:PS X st t):PS X st (Xl t):=by
 intro pins s σ H D I hw
 obtain⟨J,h1,h2⟩:=hw
 refine dI (h pins s σ H { D with nx:=J } I h1) fun f s1 q=>?_
 cases f with
 | next=>obtain⟨σ',H',I',q⟩:=q;exact⟨σ',H',I',h2 _ _ q⟩
 | ret v=>exact q
 | brk=>exact q
 | cont=>exact q
theorem dJ {c A B:Prop} [Decidable c] (hc:¬c) (h:B):if decide c=true then A else B:=by rw [decide_eq_false hc];exact cz h
theorem wM {c A B:Prop} [Decidable c] (hc:c) (h:A):if decide c=true then A else B:=by rw [decide_eq_true hc];exact fU h
mutual
inductive Dt (K:PySem.W.Frag) (H:Hp):V->PyData->Prop
 | non:Dt K H .non .none
 | bl (b:Bool):Dt K H (.bl b) (.bool b)
 | int (i:Int):Dt K H (.int i) (.int i)
 | str (x:Str):Dt K H (.str x) (.str x)
 | list {p:Addr} {xs:List V} {ds:List PyData}:bI K H p xs->Nt K H xs ds->Dt K H (.ref p) (.list ds)
 | tuple {p:Addr} {xs:List V} {ds:List PyData}:fC K H p xs->Nt K H xs ds->Dt K H (.ref p) (.tuple ds)
inductive Nt (K:PySem.W.Frag) (H:Hp):List V->List PyData->Prop
 | nil:Nt K H [] []
 | cons {x:V} {xs:List V} {d:PyData} {ds:List PyData}:Dt K H x d->Nt K H xs ds->Nt K H (x:: xs) (d:: ds)
end
section
variable {X:Cx} {pins:List (Addr×Obj)} {σ:St} {H:Hp} {s:Shared}
mutual
theorem Dt.reads (I:Inv X pins σ H s):∀{x:V} {d:PyData},Dt X.K H x d->∀{u:Value},RelV x u->∃as,Reads s.heap u d as
 | _,_,.non,_,r=>by cases r;exact⟨_,.none⟩
 | _,_,.bl b,_,r=>by cases r;exact⟨_,.bool b⟩
 | _,_,.int i,_,r=>by obtain⟨t,rfl⟩:=r;exact⟨_,.int i t⟩
 | _,_,.str x,_,r=>by obtain⟨t,rfl⟩:=r;exact⟨_,.str x t⟩
 | _,_,.list hq hd,_,r=>by
  cases r
  obtain⟨its,rv,⟨o,n,e,c,_,d⟩,_⟩:=I.list hq
  obtain⟨as,q⟩:=Nt.reads I hd rv
  exact⟨_,.list e c d (by simpa using q)⟩
 | _,_,.tuple hq hd,_,r=>by
  cases r
  obtain⟨its,rv,⟨o,e,c,n,d⟩,_⟩:=I.tuple hq
  obtain⟨as,q⟩:=Nt.reads I hd rv
  exact⟨_,.tuple e c d (by simpa using q)⟩
theorem Nt.reads (I:Inv X pins σ H s):∀{xs:List V} {ds:List PyData},Nt X.K H xs ds->∀{us:List Value},Vals xs us->∃as,ReadsAll s.heap us ds as
 | _,_,.nil,_,r=>by cases r;exact⟨_,.nil⟩
 | _,_,.cons h t,_,r=>by
  cases r with
  | cons r1 r2=>
   obtain⟨as,q⟩:=Dt.reads I h r1
   obtain⟨bs,q'⟩:=Nt.reads I t r2
   exact⟨_,.cons q q'⟩
end
inductive UV (K:PySem.W.Frag) (x:V) (y:V) (H:Hp) (Q:VK):Prop where
 | mk:∀da db,Dt K H x da->Dt K H y db->SeqAt.shaped da=true->SeqAt.shaped db=true->Q (.bl (PyData.eqv da db)) H->UV K x y H Q
noncomputable def Ye (K:PySem.W.Frag):R2:=fun x y H Q=>UV K x y H Q
inductive UG (K:PySem.W.Frag) (x:V) (y:V) (H:Hp) (Q:VK):Prop where
 | mk:∀da db,Dt K H x da->Dt K H y db->SeqAt.shaped da=true->SeqAt.shaped db=true->Q (.bl (!PyData.eqv da db)) H->UG K x y H Q
noncomputable def YB (K:PySem.W.Frag):R2:=fun x y H Q=>UG K x y H Q
theorem Hd (hu:X.A.units+64 <cLine):wA X (compareOp .Eq) (Ye X.K):=by
 intro pins s σ H x y v u Q I rx ry h
 obtain⟨da,db,h1,h2,s1,s2,q⟩:=h
 obtain⟨as,r1⟩:=h1.reads I rx
 obtain⟨bs,r2⟩:=h2.reads I ry
 exact eq_dataH r1 r2 s1 s2 hu (cM I q rfl)
theorem Kr (hu:X.A.units+64 <cLine):wA X (compareOp .NotEq) (YB X.K):=by
 intro pins s σ H x y v u Q I rx ry h
 obtain⟨da,db,h1,h2,s1,s2,q⟩:=h
 obtain⟨as,r1⟩:=h1.reads I rx
 obtain⟨bs,r2⟩:=h2.reads I ry
 exact ne_dataH r1 r2 s1 s2 hu (cM I q rfl)
end
noncomputable def X7 (x:Str):It:=⟨fun i _=>i <x.cps.size,fun i H v H'=>H'=H/\∃c,x.cps[i]?=some c/\v=.str ⟨#[c]⟩,fun i _=>x.cps.size<=i⟩
theorem Ip {P:Program} {w:World} {K:PySem.W.Frag} {tg:Expr} (it:Addr) (x:Str) (t:Tok) {ty:String} (hty:ty= "str_ascii_iterator" ∨ty= "str_iterator"):Turn P w K tg (X7 x) [it] it (fun i h=>h.IsStrIter it ty x t i) where
 mem:=by simp
 obj:=fun i h st b hb=>by
  have e:b=it:=by simpa using hb
  subst e
  obtain⟨o,e,c,d⟩:=st
  exact⟨o,e,fun v z=>by rw [d] at z;cases z⟩
 keep:=fun i h h' st k=>by
  obtain⟨o,e,r⟩:=st
  exact⟨o,k it (by simp) o e,r⟩
 item:=by
  intro X hP hw hK hc i pins s σ H E I hf st hg
  subst hP hw hK
  obtain⟨f0,f1,f2,f3,f4,f5⟩:=hf it (by simp)
  have fin:∀(v:Value) (h':Heap) (tk:Nat),SignAt x i v->h'.IsStrIter it ty x t (i+1)->(∀b o,b∉[it]->s.heap.get? b=some o->h'.get? b=some o)->
    ∃u,some v=some u/\wpAny (model X.prog X.w) X.A (letOwnedTupleGo tg (.ref it) u) (fun _ s2=>∃x' H',Inv X pins σ H' s2/\RelV x' u/\(X7 x).yld i H x' H'/\s2.heap.IsStrIter it ty x t (i+1)/\∀b∈[it],H' b=none) E { s with heap:=h',toks:=tk }:=by
   intro v h' tk hv st' kk
   obtain⟨c,u,hcc,rfl⟩:=hv
   have I1:Inv X pins σ H { s with heap:=h',toks:=tk }:=I.turned (fun b o hb e=>kk b o (by simpa using hb) e) f0 f1 f3 f4 f5
   obtain⟨o,e,c',d⟩:=id st'
   refine⟨_,rfl,Jl (s:={ s with heap:=h',toks:=tk }) (n:=ty) e c' d (by rcases hty with rfl | rfl <;> decide) ⟨.str ⟨#[c]⟩,H,I1,⟨u,rfl⟩,⟨rfl,c,hcc,rfl⟩,st',fun b hb=>(hf b hb).1⟩⟩
  rcases hty with rfl | rfl
  ·exact(Walks.strAscii (prog:=X.prog) (w:=X.w) (I.ok.hd hc) it x t).item i s _ _ hg st fun v h' tk hv st' kk=>fin v h' tk hv st' kk
  ·exact(Walks.strWide (prog:=X.prog) (w:=X.w) (I.ok.hd hc) it x t).item i s _ _ hg st fun v h' tk hv st' kk=>fin v h' tk hv st' kk
 done:=by
  intro X hP hw hK hc i pins s σ H E I hf st hg
  subst hP hw hK
  obtain⟨f0,f1,f2,f3,f4,f5⟩:=hf it (by simp)
  have hx:x.cps[i]?=none:=by
   have hg':x.cps.size<=i:=hg
   simp;omega
  rcases hty with rfl | rfl
  ·exact wpAny_pyNext_ascii_end (I.ok.hd hc) st hx fun h' eb=>⟨rfl,I.turned (t':=s.toks) (fun b o hb e=>eb b o hb e) f0 f1 f3 f4 f5⟩
  ·exact wpAny_pyNext_wide_end (I.ok.hd hc) st hx fun h' eb=>⟨rfl,I.turned (t':=s.toks) (fun b o hb e=>eb b o hb e) f0 f1 f3 f4 f5⟩
 self:=fun _ _ _ _ _ st h=>by
  rcases hty with rfl | rfl
  ·exact wpAny_pyIter_striter_ascii st h
  ·exact wpAny_pyIter_striter_wide st h
section
variable {X:Cx} {tg:Expr}
inductive Ud (R:It->Hp->Prop) (x:V) (H1:Hp):Prop where
 | mk:∀z,x=.str z->R (X7 z) H1->Ud R x H1
noncomputable def Yh (tl:TE):TI:=fun σ H R=>tl σ H fun x H1=>Ud R x H1
theorem Vc {l:Expr} {tl:TE} (hl:PE X l tl):PI X tg l (Yh tl):=by
 intro pins s σ H R I h
 refine dI (hl pins s σ H _ I h) fun v s1 hpt=>?_
 obtain⟨x,H1,I1,r1,q1⟩:=hpt
 obtain⟨z,e,q⟩:=q1
 subst e
 obtain⟨t,rfl⟩:=r1
 cases ha:z.cps.all (· <128)
 ·refine wpAny_pyIter_wide ha ?_
  refine⟨s1.heap.objs.size,[s1.heap.objs.size],_,_,H1,rfl,I1.kept (t':=s1.toks) fun b o e=>Heap.get?_push_of_some _ e,Ip _ z t (ty:= "str_iterator") (.inr rfl),⟨_,Heap.get?_push_size _ rfl,rfl,rfl⟩,fun b hb=>?_,q⟩
  have e:b=s1.heap.objs.size:=by simpa using hb
  subst e
  exact I1.fpOk (Nat.le_refl _) (I1.hok.fresh (Nat.le_refl _))
 ·refine wpAny_pyIter_ascii ha ?_
  refine⟨s1.heap.objs.size,[s1.heap.objs.size],_,_,H1,rfl,I1.kept (t':=s1.toks) fun b o e=>Heap.get?_push_of_some _ e,Ip _ z t (ty:= "str_ascii_iterator") (.inl rfl),⟨_,Heap.get?_push_size _ rfl,rfl,rfl⟩,fun b hb=>?_,q⟩
  have e:b=s1.heap.objs.size:=by simpa using hb
  subst e
  exact I1.fpOk (Nat.le_refl _) (I1.hok.fresh (Nat.le_refl _))
end
theorem yes {A B:Hp->Prop} {σ:St} {H:Hp} (h:A H):WY σ H (fun b H4=>if b=true then A H4 else B H4):=by
 show if true=true then A H else B H
 exact fU h
section
variable {js:List Nat} {tt:TT} {te:TE} {σ:St} {Qd:List V->Hp->Prop}
theorem kj {lo:Int} {n:Nat} {H:Hp} (Pv:Nat->List V->Hp->Prop) (hn:n<=sizeLine) (h0:Pv 0 [] H) (hl:∀i ys H,Pv i ys H->ys.length<=i)
  (hs:∀i ys H,i <n->Pv i ys H->tt (some (.int (lo+i)):: dO σ js) H fun b H4=>if b=true then te (some (.int (lo+i)):: dO σ js) H4 fun y H5=>Pv (i+1) (ys ++ [y]) H5 else Pv (i+1) ys H4)
  (hd:∀ys H,Pv n ys H->Qd ys H):CompEnd js tt te σ Qd (Wb lo n) H:=by
 refine⟨fun i m ys H=>m=n - i/\i<=n/\Pv i ys H,⟨n,by simp,Nat.zero_le _,h0⟩,?_⟩
 rintro i m ys H ⟨rfl,hi,p⟩
 have hlen:=hl i ys H p
 by_cases hlt:i <n
 ·refine .inr ⟨hlt,by omega,Pv (i+1),fun ys' H' p'=>⟨n - (i+1),by omega,rfl,hlt,p'⟩,fun x H' y=>?_⟩
  obtain⟨e,y⟩:=y
  subst e y
  exact hs i ys _ hlt p
 ·have e:i=n:=by omega
  subst e
  exact .inl ⟨Nat.le_refl _,by omega,hd ys H p⟩
theorem d7 {K:PySem.W.Frag} {a:Addr} {xs:List V} {H:Hp} (Pv:Nat->List V->Hp->Prop) (hn:xs.length<=sizeLine) (h0:Pv 0 [] H) (hl:∀i ys H,Pv i ys H->ys.length<=i) (hq:∀i ys H,i<=xs.length->Pv i ys H->bI K H a xs)
  (hs:∀i x ys H,xs[i]?=some x->Pv i ys H->tt (some x:: dO σ js) H fun b H4=>if b=true then te (some x:: dO σ js) H4 fun y H5=>Pv (i+1) (ys ++ [y]) H5 else Pv (i+1) ys H4)
  (hd:∀ys H,Pv xs.length ys H->Qd ys H):CompEnd js tt te σ Qd (Vd K a) H:=by
 refine⟨fun i m ys H=>m=xs.length - i/\i<=xs.length/\Pv i ys H,⟨xs.length,by simp,Nat.zero_le _,h0⟩,?_⟩
 rintro i m ys H ⟨rfl,hi,p⟩
 have hlen:=hl i ys H p
 have q:=hq i ys H hi p
 by_cases hlt:i <xs.length
 ·refine .inr ⟨⟨xs,xs[i],q,by simp [hlt]⟩,by omega,Pv (i+1),fun ys' H' p'=>⟨xs.length - (i+1),by omega,rfl,hlt,p'⟩,fun x H' y=>?_⟩
  obtain⟨e,y⟩:=y
  subst e
  exact hs i x ys _ (y xs q) p
 ·have e:i=xs.length:=by omega
  subst e
  exact .inl ⟨⟨xs,q,Nat.le_refl _⟩,by omega,hd ys H p⟩
theorem QD {z:Str} {H:Hp} (Pv:Nat->List V->Hp->Prop) (hn:z.cps.size<=sizeLine) (h0:Pv 0 [] H) (hl:∀i ys H,Pv i ys H->ys.length<=i)
  (hs:∀i c ys H,z.cps[i]?=some c->Pv i ys H->tt (some (.str ⟨#[c]⟩):: dO σ js) H fun b H4=>if b=true then te (some (.str ⟨#[c]⟩):: dO σ js) H4 fun y H5=>Pv (i+1) (ys ++ [y]) H5 else Pv (i+1) ys H4)
  (hd:∀ys H,Pv z.cps.size ys H->Qd ys H):CompEnd js tt te σ Qd (X7 z) H:=by
 refine⟨fun i m ys H=>m=z.cps.size - i/\i<=z.cps.size/\Pv i ys H,⟨z.cps.size,by simp,Nat.zero_le _,h0⟩,?_⟩
 rintro i m ys H ⟨rfl,hi,p⟩
 have hlen:=hl i ys H p
 by_cases hlt:i <z.cps.size
 ·refine .inr ⟨hlt,by omega,Pv (i+1),fun ys' H' p'=>⟨z.cps.size - (i+1),by omega,rfl,hlt,p'⟩,fun x H' y=>?_⟩
  obtain⟨e,c,hc,y⟩:=y
  subst e y
  exact hs i c ys _ hc p
 ·have e:i=z.cps.size:=by omega
  subst e
  exact .inl ⟨Nat.le_refl _,by omega,hd ys H p⟩
end
section
variable {X:Cx}
inductive Ue (x:V) (lo:Option Int) (hi:Option Int) (H:Hp) (Q:VK):Prop where
 | mk:∀z,x=.str z->z.length<=sizeLine->Q (.str (Txt.slice z lo hi)) H->Ue x lo hi H Q
noncomputable def Yp:V->Option Int->Option Int->Hp->VK->Prop:=fun x lo hi H Q=>Ue x lo hi H Q
theorem Ph:YS X Yp:=by
 intro pins s σ H x v vl vu lo hi sl Q I rx hs pl pu h
 obtain⟨z,rfl,hz,q⟩:=h
 obtain⟨t,rfl⟩:=rx
 refine⟨"str",_,PySem.F.slot_str_getitem.lookup,typeIs_str _ _ _,?_⟩
 have fin:∀t' k,EP X pins σ Q (.str (Txt.slice z lo hi) t') { s with toks:=k }:=fun t' k=>⟨.str _,H,I.tok k,⟨_,rfl⟩,q⟩
 cases pl with
 | none=>
  cases pu with
  | none=>exact wpAny_getItem_str_slice (l:=none) (u:=none) (st:=none) hs rfl (post_val_or_str ⟨Nat.le_trans (Txt.slice_le z _ _) hz,fin⟩)
  | int j tj=>exact wpAny_getItem_str_slice (l:=none) (u:=some (j,tj)) (st:=none) hs rfl (post_val_or_str ⟨Nat.le_trans (Txt.slice_le z _ _) hz,fin⟩)
 | int i ti=>
  cases pu with
  | none=>exact wpAny_getItem_str_slice (l:=some (i,ti)) (u:=none) (st:=none) hs rfl (post_val_or_str ⟨Nat.le_trans (Txt.slice_le z _ _) hz,fin⟩)
  | int j tj=>exact wpAny_getItem_str_slice (l:=some (i,ti)) (u:=some (j,tj)) (st:=none) hs rfl (post_val_or_str ⟨Nat.le_trans (Txt.slice_le z _ _) hz,fin⟩)
theorem yD (hc:X.calm=true):jZ X (.builtin "all") (fun xs H Q=>∃(p:Addr) (bs:List Bool),xs=[.ref p]/\bI X.K H p (bs.map V.bl)/\Q (.bl (bs.all id)) H):=by
 intro pins s σ H xs us Q I r h
 obtain⟨p,bs,rfl,hq,q⟩:=h
 obtain⟨u,rfl,rx⟩:=vals1 r
 cases rx
 obtain⟨its,rv,pl,_⟩:=I.list hq
 have hl:=pl.isList
 have hlt:p <s.heap.objs.size:=by obtain⟨_,e,_⟩:=hl;exact Heap.lt_size e
 have hb:∀i v,its[i]?=some v->∃b,bs[i]?=some b/\v=Value.bool b:=fun i v e=>by
  have hi:i <its.length:=(List.getElem?_eq_some_iff.mp e).1
  have hi':i <bs.length:=by have:=rv.length;rw [List.length_map] at this;omega
  obtain⟨u,e',r'⟩:=rv.get (i:=i) (x:=.bl bs[i]) (by rw [List.getElem?_map,List.getElem?_eq_getElem hi'];rfl)
  rw [e] at e'
  cases e'
  exact⟨bs[i],List.getElem?_eq_getElem hi',r'⟩
 refine call_all_walk (wpAny_pyIter_list hl ?_)
 refine⟨s.heap.objs.size,[s.heap.objs.size,p],[s.heap.objs.size],its.toArray.size,_,_,fun i=>(bs[i]?).getD true,rfl,Walks.list (A:=X.A.in1) (I.ok.hd hc) _ p (Nat.ne_of_lt hlt) its.toArray,
  ⟨⟨_,Heap.get?_push_size _ rfl,rfl,rfl⟩,hl.push _⟩,fun i v s' Q' E' hP hQ=>?_,fun h' tk hk=>?_⟩
 ·obtain⟨b,e,rfl⟩:=hb i v (by simpa using hP)
  simp only [e,Option.getD_some] at hQ
  exact wpAny_truthy_bool hQ
 ·have e:((List.range its.toArray.size).all fun i=>(bs[i]?).getD true)=bs.all id:=by
   have hlen:=rv.length
   rw [List.length_map] at hlen
   rw [List.size_toArray,<-hlen];exact LSm.range_all bs
  rw [e]
  exact⟨.bl _,H,I.kept (LSm.kept_iter hk),rfl,q⟩
end
end L2
namespace L2
open PySem PySem.StrLaws PySem.Builtin PySem.Builtin.Str
end L2
namespace L2
open PySem
theorem aB {H:L2.Hp} {p:Addr} {o:L2.HO} (hp:H p=none):L2.aJ H (L2.upd H p o):=fun b o' e=>by rw [L2.aK (L2.aD e hp)];exact e
end L2
namespace L2
open PySem PySem.SeqAt
open AutoSeq1 (wpAny_loadPart')
open MeetsSeq MeetsSeq2 MeetsSeq3 SeqRoads2
section
variable {A:Around} {s:Shared}
end
open PySem.Spec PyProof.Rows
end L2
namespace L2
open PySem PySem.Spec PyProof.Rows
structure MethAt (P:Program) (w:World) (K:PySem.W.Frag) (mg:Str->Option Value) (base:Heap) (CX:Et) (k:Nat) (C:Addr) (m:Str) (sp:Sp):Prop where
 ex:∃(f:Addr) (fd:FuncData) (ps:List Str),Nu K C/\Meth K C m f/\Binds K fd ps []/\iB P w K mg base CX k f fd ps sp
inductive Li (P:Program) (w:World) (K:PySem.W.Frag) (mg:Str->Option Value) (base:Heap) (CX:Et) (k:Nat) (m:Str) (E:XK) (t:TA) (σ:St) (Q:VK) (x:V) (H1:Hp):Prop where
 | mk:∀a C dx fs sp,x=.ref a->H1 a=some (.ins C dx fs)->fs.lookup m=none->MethAt P w K mg base CX k C m sp->(t σ H1 fun vs H2=>sp (x:: vs) H2 Q E)->Li P w K mg base CX k m E t σ Q x H1
noncomputable def Kq (P:Program) (w:World) (K:PySem.W.Frag) (mg:Str->Option Value) (base:Heap) (CX:Et) (k:Nat) (m:Str) (E:XK) (ta:TE) (t:TA):TE:=fun σ H Q=>ta σ H fun x H1=>Li P w K mg base CX k m E t σ Q x H1
section
variable {X:Cx} {CX:Et} {k:Nat} {E:XK} {m:Str} {pos apos:Pos} {e o:Expr} {es:List Expr} {ta:TE} {t:TA}
theorem yE {pl:Sem Bool} (he:PE X o ta) (hr:jg k X.A) (hx:qP CX X E) (ha:PA X (e:: es) t)
  (hst:starEach (e:: es) X.env=(false,eval e X.env):: starEach es X.env:=by rfl) (hpl:(backTo pos (starEach es X.env)).any (·.1)=false:=by rfl)
  (ht:eval (.Call (.Attribute o m apos) (e:: es) [] pos) X.env=(do
   let ov <-eval o X.env
   standAt apos.atName
   let (f,first) <-holding [ov] (getMethod ov m pl)
   callWith pos f first (backTo pos (starEach (e:: es) X.env)) (backToKw pos (keywordEach [] X.env))):=by rfl):
  PE X (.Call (.Attribute o m apos) (e:: es) [] pos) (Kq X.prog X.w X.K X.mg X.base CX k m E ta t):=by
 intro pins s σ H Q I h
 refine PySem.W.methodCall_KW (pl:=pl) (dI (he pins s σ H _ I h) fun u s1 hpt=>?_) ht
 obtain⟨x,H1,I1,rx,a,C,dx,fs,sp,ex,ea,l,⟨f,fd,ps,c,hm,hb,F⟩,q⟩:=hpt
 subst ex
 obtain rfl:u=Value.ref a:=rx
 refine sW I1 ea c hm l ?_
 refine PySem.W.callWith_K (first:=[.ref a]) (h₀:=X.base) I.ok.mod.kin hm.kp (dI (ha pos pins s1 σ H1 _ I1 q) fun us s2 ⟨vs,H2,I2,r,q2⟩=>⟨I2.kIn,?_⟩) hst hpl
 exact Ds (us:=.ref a:: us) (vs:=.ref a:: vs) (ds:=[]) (dvs:=[]) F hr hb .nil hx I2 (.cons rfl r) (by rw [List.append_nil];exact q2)
theorem Eu {pl:Sem Bool} (he:PE X o ta) (hr:jg k X.A) (hx:qP CX X E)
  (ht:eval (.Call (.Attribute o m apos) [] [] pos) X.env=(do
   let ov <-eval o X.env
   standAt apos.atName
   let (f,first) <-holding [ov] (getMethod ov m pl)
   callWith pos f first (backTo pos (starEach [] X.env)) (backToKw pos (keywordEach [] X.env))):=by rfl):
  PE X (.Call (.Attribute o m apos) [] [] pos) (Kq X.prog X.w X.K X.mg X.base CX k m E ta Q7):=by
 intro pins s σ H Q I h
 refine PySem.W.methodCall_KW (pl:=pl) (dI (he pins s σ H _ I h) fun u s1 hpt=>?_) ht
 obtain⟨x,H1,I1,rx,a,C,dx,fs,sp,ex,ea,l,⟨f,fd,ps,c,hm,hb,F⟩,q⟩:=hpt
 subst ex
 obtain rfl:u=Value.ref a:=rx
 refine sW I1 ea c hm l ?_
 exact PySem.W.callWith_K0 (first:=[.ref a]) I1.kIn hm.kp (Ds (us:=[.ref a]) (vs:=[.ref a]) (ds:=[]) (dvs:=[]) F hr hb .nil hx I1 (.cons rfl .nil) (by rw [List.append_nil];exact q))
end
section
variable {X:Cx}
theorem QC:bootBuiltins "range" =some (.type "range"):=by decide +kernel
theorem Jd:jZ X (.type "range") (fun xs H Q=>∃j:Int,xs=[.int j]/\∀r,H r=none->Q (.ref r) (upd H r (.rng 0 j))):=by
 intro pins s σ H xs us Q I r h
 obtain⟨j,rfl,q⟩:=h
 obtain⟨u,rfl,t,rfl⟩:=vals1 r
 refine call_range_1 ⟨.ref s.heap.objs.size,upd H s.heap.objs.size (.rng 0 j),I.laid (fun b o e=>Heap.get?_push_of_some _ e) (Nat.le_refl _) ?_,rfl,q _ (I.hok.fresh (Nat.le_refl _))⟩
 exact⟨_,_,_,Heap.get?_push_size _ rfl⟩
noncomputable def RK (n:Nat):List V:=(List.range n).map fun i=>V.int (i:Nat)
theorem Tt (n:Nat):(RK n).length=n:=by simp [RK]
theorem Qk:∀(n:Nat) (us:List Value),us.length=n->(∀(j:Nat) (v:Value),us[j]?=some v->∃t,v=.int (j:Nat) t)->Vals (RK n) us:=by
 intro n
 induction n with
 | zero=>intro us hl _;cases us with | nil=>exact .nil | cons _ _=>cases hl
 | succ n ih=>
  intro us hl h
  have e1:RK (n+1)=RK n ++ [V.int (n:Nat)]:=by simp [RK,List.range_succ]
  have hn:n <us.length:=by omega
  have e2:us=us.take n ++ [us[n]]:=by
   have:=List.take_append_drop n us
   rw [List.drop_eq_getElem_cons hn] at this
   rw [List.drop_eq_nil_of_le (by omega)] at this
   exact this.symm
  rw [e1,e2]
  refine Vals.append (ih _ (by simp;omega) fun j v e=>?_) (.cons ?_ .nil)
  ·rw [List.getElem?_take] at e
   split at e
   ·exact h j v e
   ·cases e
  ·obtain⟨t,e⟩:=h n us[n] (by simp [hn])
   exact⟨t,e⟩
theorem Ed (hc:X.calm=true):jZ X (.type "list") (fun xs H Q=>∃(r:Addr) (n:Nat),xs=[.ref r]/\H r=some (.rng 0 n)/\n<=1000000/\∀l,H l=none->Q (.ref l) (upd H l (.lst (RK n)))):=by
 intro pins s σ H xs us Q I rx h
 obtain⟨r,n,rfl,hr,hn,q⟩:=h
 obtain⟨u,rfl,ru⟩:=vals1 rx
 cases ru
 have hl:sizeLine=16777216:=sizeLine_eq
 obtain⟨t,u,v,e⟩:=(show fQ X.prog X.w H s.heap r (.rng 0 n) from I.hok r _ hr)
 refine call_list_range (n:=n) (I.ok.hd hc) e (small_one (by omega) (by omega) (by omega) (by omega)) (by rw [rangeSize_one];split <;> omega) (by omega) fun h' tk acc' c' kp e' hi=>?_
 refine⟨.ref s.heap.objs.size,_,I.laid (t':=tk) kp (Nat.le_refl _) (show fQ X.prog X.w _ h' _ (.lst (RK n)) from⟨by rw [Tt];omega,acc'.toList,c',Qk n _ (by simpa using hi.1) fun j v ej=>?_,by simpa using e'⟩),rfl,q _ (I.hok.fresh (Nat.le_refl _))⟩
 obtain⟨t,ev⟩:=hi.2 j v (by simpa using ej)
 exact⟨t,by rw [ev];congr 1;omega⟩
end
inductive jC (w:World) (K:PySem.W.Frag):List DictEntry->List (Str×List Int)->Prop
 | nil:jC w K [] []
 | cons {x:Str} {t:Tok} {ad:Addr} {ns:List Int} {es:List DictEntry} {rows:List (Str×List Int)} {h:Int} {its:Array Value} {n:Nat} {o:Obj}:
   h=hashStr w x->K.lookup ad=some o->o.cls=.type "tuple" ->o.data=.seq its n->Vals (ns.map V.int) its.toList->ns.length<=1000->jC w K es rows->jC w K (⟨h,.str x t,.ref ad⟩:: es) ((x,ns):: rows)
inductive KTab (w:World) (K:PySem.W.Frag) (a:Addr) (rows:List (Str×List Int)):Prop where
 | mk:∀(o:Obj) (es:Array DictEntry) (ep:Nat),K.lookup a=some o->o.cls=.type "dict" ->o.dict=none->o.slots= #[]->o.data=.dict es ep->(a == sysModules)=false->jC w K es.toList rows->(rows.map (·.1)).Nodup->KTab w K a rows
theorem KTab.mk' {w:World} {K:PySem.W.Frag} {a:Addr} {rows:List (Str×List Int)} {o:Obj} {es:Array DictEntry} {ep:Nat} (lk:K.lookup a=some o) (c1:o.cls=.type "dict") (c2:o.dict=none) (c3:o.slots= #[]) (c4:o.data=.dict es ep) (sm:(a == sysModules)=false)
  (rw':jC w K es.toList rows) (nd:(rows.map (·.1)).Nodup):KTab w K a rows:=⟨o,es,ep,lk,c1,c2,c3,c4,sm,rw',nd⟩
noncomputable def rowOf (rows:List (Str×List Int)) (z:Str):Option (List Int):=(rows.find? fun r=>decide (r.1=z)).map (·.2)
section
variable {P:Program} {w:World} {K:PySem.W.Frag}
theorem jC.kvs:∀{es:List DictEntry} {rows:List (Str×List Int)},jC w K es rows->∃kvs:List (Key×Value),Pairs (cj P w) es kvs/\kvs.map (·.1)=rows.map (fun r=>(Sum.inr r.1:Key))/\
  (∀e∈es,∃k,(cj P w).is k e.key=true/\e.hash=(cj P w).hash k)/\
  ∀z,(rowOf rows z=none->valueAt kvs (Sum.inr z)=none)/\∀ns,rowOf rows z=some ns->∃ad,valueAt kvs (Sum.inr z)=some (.ref ad)/\∀H,fC K H ad (ns.map V.int)
 | _,_,.nil=>⟨[],.nil,rfl,fun e he=>(by cases he),fun z=>⟨fun _=>rfl,fun ns e=>by cases e⟩⟩
 | _,_,@jC.cons _ _ x t ad ns es rows h its n o hh hl hc hdt hv hz hr=>by
  obtain⟨kvs,p,hk,ho,hf⟩:=jC.kvs hr
  refine⟨(Sum.inr x,.ref ad):: kvs,.cons (lQ P w x t) rfl p,by rw [List.map_cons,List.map_cons,hk],fun e he=>?_,fun z=>?_⟩
  ·rcases List.mem_cons.mp he with e1 | he
   ·subst e1
    exact⟨Sum.inr x,lQ P w x t,hh⟩
   ·exact ho e he
  ·by_cases hx:x=z
   ·subst hx
    have e1:rowOf ((x,ns):: rows) x=some ns:=by simp [rowOf]
    have e2:valueAt ((Sum.inr x,Value.ref ad):: kvs) (Sum.inr x:Key)=some (.ref ad):=by simp [valueAt]
    rw [e1,e2]
    refine⟨fun e=>by (cases e),fun ms e=>⟨ad,rfl,fun H=>.inr ⟨_,its,n,hl,hc,hdt,?_,?_⟩⟩⟩
    ·have:=hv.length
     have hs:sizeLine=16777216:=sizeLine_eq
     simp at this
     omega
    ·cases e;exact hv
   ·have e1:rowOf ((x,ns):: rows) z=rowOf rows z:=by simp [rowOf,hx]
    have hx':¬(Sum.inr x:Key)=Sum.inr z:=fun q=>hx (Sum.inr.inj q)
    have e2:valueAt ((Sum.inr x,Value.ref ad):: kvs) (Sum.inr z:Key)=valueAt kvs (Sum.inr z):=by simp [valueAt,hx']
    rw [e1,e2]
    exact hf z
theorem KTab.map {a:Addr} {rows:List (Str×List Int)} {h:Heap} (T:KTab w K a rows) (hk:K.In h):∃f:Key->Option Value,h.MapOf (cj P w) a f/\(a == sysModules)=false/\
  ∀z,(rowOf rows z=none->f (Sum.inr z)=none)/\∀ns,rowOf rows z=some ns->∃ad,f (Sum.inr z)=some (.ref ad)/\∀H,fC K H ad (ns.map V.int):=by
 obtain⟨o,es,ep,hl,c1,c2,c3,c4,hs,hr,nd⟩:=T
 obtain⟨kvs,p,hkk,ho,hf⟩:=hr.kvs (P:=P)
 have D:h.DictOf (cj P w) a kvs:=⟨o,es,ep,hk a _ hl,⟨c1,c2,c3⟩,c4,fun e he=>ho e (by simpa using he),p,?_⟩
 ·exact⟨_,D.mapOf,hs,hf⟩
 ·rw [hkk]
  have:rows.map (fun r=>(Sum.inr r.1:Key))=(rows.map (·.1)).map Sum.inr:=by rw [List.map_map];rfl
  rw [this]
  exact List.Pairwise.map _ (fun a b hab e=>hab (Sum.inr.inj e)) nd
end
section
variable {X:Cx} {i o:Expr} {ty td:TE} {pos:Pos}
inductive Ua (w:World) (K:PySem.W.Frag) (Q:VK) (y:V) (x:V) (H2:Hp):Prop where
 | mk:∀a rows z,x=.ref a->KTab w K a rows->y=.str z->Q (.bl (rowOf rows z).isSome) H2->Ua w K Q y x H2
noncomputable def YT (w:World) (K:PySem.W.Frag) (ty td:TE):TE:=fun σ H Q=>ty σ H fun y H1=>td σ H1 fun x H2=>Ua w K Q y x H2
theorem Vx (hi:PE X i ty) (ho:PE X o td):PC X .In i o (YT X.w X.K ty td):=by
 intro pins s σ H Q I h
 refine dI (hi pins s σ H _ I h) fun iv s1 ⟨y,H1,I1,ry,q1⟩=>dI (ho pins s1 σ H1 _ I1 q1) fun u s2 hpt=>?_
 obtain⟨x,H2,I2,rx,a,rows,z,ex,T,ey,q2⟩:=hpt
 subst ex
 subst ey
 obtain rfl:u=Value.ref a:=rx
 obtain⟨t,rfl⟩:=ry
 obtain⟨f,M,hs,hf⟩:=T.map (P:=X.prog) I2.kIn
 refine wpAny_in_of (k:=(Sum.inr z:Key)) (lQ X.prog X.w z t) hs M ?_
 refine⟨.bl (rowOf rows z).isSome,H2,I2.tok _,?_,q2⟩
 cases e:rowOf rows z with
 | none=>rw [(hf z).1 e];rfl
 | some ns=>obtain⟨ad,e1,_⟩:=(hf z).2 ns e;rw [e1];rfl
inductive Uh (w:World) (K:PySem.W.Frag) (x:V) (y:V) (H:Hp) (Q:VK):Prop where
 | mk:∀a rows z ns,x=.ref a->KTab w K a rows->y=.str z->rowOf rows z=some ns->(∀ad,fC K H ad (ns.map V.int)->Q (.ref ad) H)->Uh w K x y H Q
noncomputable def WD (w:World) (K:PySem.W.Frag):R2:=fun x y H Q=>Uh w K x y H Q
theorem YK:Ox X (WD X.w X.K):=by
 intro value slice pins s σ H x y v u Q I rx ry h hs
 obtain⟨a,rows,z,ns,rfl,T,rfl,e,q⟩:=h
 cases rx
 obtain⟨t,rfl⟩:=ry
 obtain⟨f,M,hsm,hf⟩:=T.map (P:=X.prog) I.kIn
 obtain⟨ad,e1,e2⟩:=(hf z).2 ns e
 exact tail_any M.typeIs PySem.F.slot_dict_getitem.lookup (wpAny_getItem_of (k:=(Sum.inr z:Key)) (lQ X.prog X.w z t) M e1 ⟨.ref ad,H,I.tok _,rfl,q ad (e2 H)⟩) hs
theorem SX (ho:PE X o td) (hi:PE X i ty) (hs:Lk i):PE X (.Subscript o i pos) (Wj (WD X.w X.K) td ty):=aR YK ho hi hs
end
noncomputable def xO (K:PySem.W.Frag) (H:Hp) (a:Addr) (xs:List V):Prop:=bI K H a xs∨fC K H a xs
theorem aJ.seqT {K:PySem.W.Frag} {H H':Hp} {a:Addr} {xs:List V} (e:aJ H H') (h:fC K H a xs):fC K H' a xs:=by
 rcases h with (h | ⟨o,h⟩) | h
 ·exact .inl (.inl (e _ _ h))
 ·exact .inl (.inr ⟨o,e _ _ h⟩)
 ·exact .inr h
theorem aJ.seqA {K:PySem.W.Frag} {H H':Hp} {a:Addr} {xs:List V} (e:aJ H H') (h:xO K H a xs):xO K H' a xs:=h.elim (fun h=>.inl (e.seq h)) fun h=>.inr (e.seqT h)
noncomputable def lX (p:Addr) (H H':Hp):Prop:=∀b o,b≠p->H b=some o->H' b=some o
theorem lX.refl {p:Addr} (H:Hp):lX p H H:=fun _ _ _ e=>e
theorem lX.trans {p:Addr} {H H1 H2:Hp} (a:lX p H H1) (b:lX p H1 H2):lX p H H2:=fun c o n e=>b c o n (a c o n e)
theorem lX.of_same {p:Addr} {H H1:Hp} (a:aJ H H1):lX p H H1:=fun c o _ e=>a c o e
theorem lX.write {p:Addr} {H:Hp} {o:HO}:lX p H (upd H p o):=fun b u n e=>by rw [aK n];exact e
theorem lX.seqT {K:PySem.W.Frag} {H H':Hp} {p a C dx:Addr} {fs:List (Str×V)} {xs:List V} (e:lX p H H') (hp:H p=some (.ins C dx fs)) (h:fC K H a xs):fC K H' a xs:=by
 rcases h with (h | ⟨o,h⟩) | h
 ·exact .inl (.inl (e _ _ (vW h hp (by intro z;cases z)) h))
 ·exact .inl (.inr ⟨o,e _ _ (vW h hp (by intro z;cases z)) h⟩)
 ·exact .inr h
theorem lX.seqL {K:PySem.W.Frag} {H H':Hp} {p a C dx:Addr} {fs:List (Str×V)} {xs:List V} (e:lX p H H') (hp:H p=some (.ins C dx fs)) (h:bI K H a xs):bI K H' a xs:=by
 rcases h with (h | ⟨o,h⟩) | h
 ·exact .inl (.inl (e _ _ (vW h hp (by intro z;cases z)) h))
 ·exact .inl (.inr ⟨o,e _ _ (vW h hp (by intro z;cases z)) h⟩)
 ·exact .inr h
theorem lX.seqA {K:PySem.W.Frag} {H H':Hp} {p a C dx:Addr} {fs:List (Str×V)} {xs:List V} (e:lX p H H') (hp:H p=some (.ins C dx fs)) (h:xO K H a xs):xO K H' a xs:=h.elim (fun h=>.inl (e.seqL hp h)) fun h=>.inr (e.seqT hp h)
theorem QR {K:PySem.W.Frag} {H:Hp} {a:Addr} {xs:List V} {Q:VK} (h:xO K H a xs) (k:∀H' u,aJ H H'->fC K H' u xs->Q (.ref u) H'):
  ∃p ys,[V.ref a]=[.ref p]/\((bI K H p ys/\∀l,H l=none->Q (.ref l) (upd H l (.tup ys)))∨(fC K H p ys/\Q (.ref p) H)):=by
 rcases h with h | h
 ·exact⟨a,xs,rfl,.inl ⟨h,fun l hl=>k _ _ (aB hl) (fC.of az)⟩⟩
 ·exact⟨a,xs,rfl,.inr ⟨h,k _ _ (aJ.refl _) h⟩⟩
theorem u0 {X:Cx}:jZ X (.type "tuple") (fun xs H Q=>∃a ys,xs=[.ref a]/\xO X.K H a ys/\∀H' u,aJ H H'->fC X.K H' u ys->Q (.ref u) H'):=by
 intro pins s σ H xs us Q I r h
 obtain⟨a,ys,rfl,hq,q⟩:=h
 exact DW pins s σ H _ us Q I r (QR hq q)
section
variable {es:List Expr} {env:Env}
theorem cP {a b c}:starEach (.Tuple a b c:: es) env=(false,eval (.Tuple a b c) env):: starEach es env:=rfl
theorem aV {a b}:starEach (.List a b:: es) env=(false,eval (.List a b) env):: starEach es env:=rfl
theorem ao {a b c}:starEach (.Constant a b c:: es) env=(false,eval (.Constant a b c) env):: starEach es env:=rfl
theorem aj {a b}:starEach (.Name a b:: es) env=(false,eval (.Name a b) env):: starEach es env:=rfl
theorem aY {a b c d}:starEach (.Call a b c d:: es) env=(false,eval (.Call a b c d) env):: starEach es env:=rfl
theorem bL {a b c d}:starEach (.BinOp a b c d:: es) env=(false,eval (.BinOp a b c d) env):: starEach es env:=rfl
theorem bF {a b c}:starEach (.Attribute a b c:: es) env=(false,eval (.Attribute a b c) env):: starEach es env:=rfl
theorem aF {a b c}:starEach (.Subscript a b c:: es) env=(false,eval (.Subscript a b c) env):: starEach es env:=rfl
theorem gZ {a b c d}:starEach (.ListComp a b c d:: es) env=(false,eval (.ListComp a b c d) env):: starEach es env:=rfl
theorem KQ {a b c d}:starEach (.IfExp a b c d:: es) env=(false,eval (.IfExp a b c d) env):: starEach es env:=rfl
end
section
variable {X:Cx} {scope:Scope} {x:Str} {js:List Nat} {cl:List (Str×Addr)} {C:Addr} {s:Shared} {H:Hp} {ex:List Addr}
end
noncomputable def eE (H:Hp):List Addr->List (List V)->Prop:=Paired fun r vs=>H r=some (.tup vs)
theorem eE.same {H H':Hp} (s:aJ H H'):∀{rs:List Addr} {vss:List (List V)},eE H rs vss->eE H' rs vss
 | _,_,.nil=>.nil
 | _,_,.cons h t=>.cons (s _ _ h) (eE.same s t)
theorem eE.append {H:Hp}:∀{rs rs':List Addr} {vss vss':List (List V)},eE H rs vss->eE H rs' vss'->eE H (rs ++ rs') (vss ++ vss')
 | _,_,_,_,.nil,q=>q
 | _,_,_,_,.cons h t,q=>.cons h (eE.append t q)
section
variable {X:Cx}
end
section
variable {X:Cx}
end
section
variable {P:Program} {w:World} {K:PySem.W.Frag} {mg:Str->Option Value} {base:Heap} {N:List Str} {qual:Str} {scope:Scope} {f:Addr} {cd:Value} {A:Around} {outer:List Env} {s:Shared} {H:Hp} {E:XK}
end
structure Rt (K:PySem.W.Frag) (C:Addr):Prop where
 ex:∃(nm q:Str) (Nn:Addr) (bs bm bmB:List Value) (hdct:Bool) (sn:List Str) (sub:List Value) (ab:Bool) (col:Option Bool) (dd:Option Addr) (k0 k1 k2 k3 k5:Option Value) (B newId initId:String) (mN:Str->Option Value),
  ExcBaseFacts B newId initId bmB/\bm.contains (.type "BaseException")=true/\mN "__init__" =none/\
  ∀h:Heap,K.In h->h.get? C=some (excClassObj nm q C Nn bs bm hdct sn sub ab col dd k0 k1 k2 k3 k5 newId)/\h.Ns Nn mN/\OwnTail h bmB bm
section
variable {P:Program} {w:World} {K:PySem.W.Frag} {mg:Str->Option Value} {base:Heap} {N:List Str} {qual:Str} {scope:Scope} {f:Addr} {cd:Value} {A:Around} {outer:List Env} {s:Shared} {H:Hp} {E:XK}
end
section
variable {X:Cx} {pins:List (Addr×Obj)} {σ:St} {H:Hp} {s:Shared} {E:Value->Shared->Prop}
end
section
variable {X:Cx} {pins:List (Addr×Obj)} {σ:St} {H:Hp} {s:Shared}
end
structure ExcAt (K:PySem.W.Frag) (C:Addr):Prop where
 ex:∃(nm q:Str) (Nn:Addr) (bs bm:List Value) (hdct:Bool) (sn:List Str) (sub:List Value) (ab:Bool) (col:Option Bool) (dd:Option Addr) (k0 k1 k2 k3 k5:Option Value) (newId:String),bm.contains (.type "BaseException")=true/\
  ∀h:Heap,K.In h->h.get? C=some (excClassObj nm q C Nn bs bm hdct sn sub ab col dd k0 k1 k2 k3 k5 newId)
section
variable {prog:Program} {w:World} {A:Around} {E:Value->Shared->Prop} {h:Heap} {g:Array GenState} {d:Drawn} {t:Nat} {os:OsState} {a:Addr} {o:Obj} {C:Addr}
end
noncomputable abbrev Ke:List Value:=[.type "ValueError",.type "Exception",.type "BaseException",.type "object"]
noncomputable def OD (K:PySem.W.Frag) (N:Addr) (x:Str):Option Value:=match K.lookup N with
 | some o=>(match o.data with | .dict es _=>nsFind es x | _=>none)
 | none=>none
theorem RD {K:PySem.W.Frag} {h:Heap} {N:Addr} (X:K.In h) (ok:PySem.W.nsOkIn K N=true):h.nsMap N=OD K N:=by
 funext x
 unfold PySem.W.nsOkIn at ok
 split at ok
 ·rename_i look
  unfold Heap.nsMap OD
  rw [X _ _ look,look]
 ·cases ok
theorem Rp {K:PySem.W.Frag} {N:Addr} {x:Str} (e:PySem.W.nsIn K N x=some none):OD K N x=none:=by
 unfold PySem.W.nsIn at e
 split at e
 ·rename_i look
  split at e
  ·cases e
  ·rename_i f
   unfold OD
   rw [look]
   show nsFind _ _=none
   unfold nsFind findBy
   rw [<-Array.find?_toList,f]
   rfl
 ·cases e
theorem Ej {K:PySem.W.Frag}:∀{l:List Value},PySem.W.tailIn K Ke l=true->l.contains (.type "BaseException")=true
 | [],e=>by simp [PySem.W.tailIn,Ke] at e
 | v:: r,e=>by
  unfold PySem.W.tailIn at e
  rcases Bool.or_eq_true_iff.mp e with z | z
  ·rw [beq_iff_eq.mp z];decide +kernel
  ·split at z
   ·split at z
    ·simp only [Bool.and_eq_true] at z
     rw [List.contains_cons,Ej z.2,Bool.or_true]
    ·cases z
   ·cases z
theorem Rt.ofIn {K:PySem.W.Frag} {C:Addr} (z:PySem.W.excIn K C Ke "ValueError.__new__" =true):Rt K C:=by
 unfold PySem.W.excIn at z
 split at z
 ·rename_i od kd slo look
  split at z
  ·rename_i C1 up a0 a1 a2 a3 nid a5 em es
   simp only [Bool.and_eq_true,beq_iff_eq,Bool.not_eq_true'] at z
   obtain⟨⟨⟨⟨⟨x1,x2⟩,x3⟩,x4⟩,x5⟩,x6⟩:=z
   subst x1 x2
   obtain⟨g1,g2,g3,g4,g5,g6,g7,g8,g9,g10,g11⟩:=kd
   dsimp only at em x3 x5 x6
   subst em x3
   have hs:slo= #[a0,a1,a2,a3,some (.builtin "ValueError.__new__"),a5]:=by
    obtain⟨l⟩:=slo
    simp only at es
    rw [es]
   subst hs
   refine⟨⟨g1,g5,g4,g2,up,Ke,g6,g7,g8,g9,g10,od,a0,a1,a2,a3,a5, "ValueError", "ValueError.__new__", "ValueError.__init__",OD K g4,PySem.F.excBase_ValueError,Ej x4,Rp x6,fun h X=>⟨X _ _ look,?_,PySem.W.tail_of_in X x4⟩⟩⟩
   rw [<-RD X x5]
   exact .of_isNs (PySem.W.isNs_of_in X x5)
  ·cases z
 ·cases z
structure Yx (K:PySem.W.Frag) (C:Addr):Prop where
 cls:(PySem.W.clsIn K C).isSome=true
 ga:PySem.W.findIn K (.ref C) "__getattribute__" =some (some (.builtin "BaseException.__getattribute__"))
 gn:PySem.W.findIn K (.ref C) "__getattr__" =some none
 cl:PySem.W.findIn K (.ref C) "__class__" =some (some (.builtin "object.__class__"))
 ob:PySem.W.subIn K (.ref C) (.type "object")=some true
 be:PySem.W.subIn K (.ref C) (.type "BaseException")=some true
section
variable {P:Program} {w:World} {K:PySem.W.Frag} {mg:Str->Option Value} {base:Heap}
end
end L2
namespace L2
open PySem
section
variable {prog:Program} {w:World} {A:Around} {E:Value->Shared->Prop} {h:Heap} {g:Array GenState} {d:Drawn} {t:Nat} {os:OsState}
variable {nm q:Str} {C N:Addr} {bs bm bmB:List Value} {hdct:Bool} {sn:List Str} {sub:List Value} {ab:Bool} {col:Option Bool} {dd:Option Addr} {k0 k1 k2 k3 k5:Option Value} {B newId initId:String}
end
section
variable {prog:Program} {w:World} {A:Around} {E:Value->Shared->Prop} {h:Heap} {g:Array GenState} {d:Drawn} {t:Nat} {os:OsState}
variable {nm q:Str} {C N:Addr} {bs bm bmB:List Value} {hdct:Bool} {sn:List Str} {sub:List Value} {ab:Bool} {col:Option Bool} {dd:Option Addr} {k0 k1 k2 k3 k5:Option Value} {B newId initId:String}
end
end L2
namespace L2
open PySem Builtin Builtin.ObjectAttr
noncomputable def GJ:List Value->Bool
 | .ref _:: r=>GJ r
 | l=>l == Ke
structure Y7 (K:PySem.W.Frag) (C:Addr):Prop where
 xc:Yx K C
 sa:PySem.W.findIn K (.ref C) "__setattr__" =some (some (.builtin "object.__setattr__"))
 ov:(PySem.W.clsIn K C).any (fun cd=>GJ cd.mro && cd.hasDict)=true
section
variable {prog:Program} {w:World} {A:Around} {E:Value->Shared->Prop} {h:Heap} {g:Array GenState} {d:Drawn} {t:Nat} {os:OsState} {x C:Addr} {K:PySem.W.Frag} {mA:Str->Option Value} {name:Str} {v:Value}
end
end L2
namespace L2
open PySem PySem.Spec PyProof.Rows
section
variable {X:Cx} {pins:List (Addr×Obj)} {σ:St} {H:Hp} {s:Shared} {a C dx:Addr} {fs:List (Str×V)} {f:Str} {v:V} {A:Around} {E:Value->Shared->Prop}
end
section
variable {X:Cx} {e o value:Expr} {f:Str} {pos pos':Pos} {ta tv:TE}
end
noncomputable def Ql (K:PySem.W.Frag) (C f:Addr):Bool:=match K.lookup C with
 | some o=>(match o.data with
  | .cls kd=>o.cls == .type "type" && kd.mro.head? == some (.ref C) && PySem.W.tailIn K Ke kd.mro.tail && !kd.hasDel && PySem.W.nsOkIn K kd.ns && OD K kd.ns "__init__" == some (.ref f) && o.slots.size == 6 && o.slots[4]? == some (some (.builtin "ValueError.__new__"))
  | _=>false)
 | none=>false
structure Dy (K:PySem.W.Frag) (C f:Addr):Prop where
 ex:∃(nm q:Str) (Nn:Addr) (bs bm:List Value) (hdct:Bool) (sn:List Str) (sub:List Value) (ab:Bool) (col:Option Bool) (dd:Option Addr) (k0 k1 k2 k3 k5:Option Value) (mN:Str->Option Value),
  mN "__init__" =some (.ref f)/\∀h:Heap,K.In h->h.get? C=some (excClassObj nm q C Nn bs bm hdct sn sub ab col dd k0 k1 k2 k3 k5 "ValueError.__new__")/\h.Ns Nn mN/\OwnTail h Ke bm
theorem Yk {α:Type}:∀{l:List α},l.length=6->∃a b c d e f,l=[a,b,c,d,e,f]
 | [a,b,c,d,e,f],_=>⟨a,b,c,d,e,f,rfl⟩
theorem Dy.ofIn {K:PySem.W.Frag} {C f:Addr} (z:Ql K C f=true):Dy K C f:=by
 unfold Ql at z
 split at z
 ·rename_i o look
  obtain⟨oc,od,dt,slo⟩:=o
  dsimp only at z
  split at z
  ·rename_i kd
   simp only [Bool.and_eq_true,beq_iff_eq,Bool.not_eq_true'] at z
   obtain⟨⟨⟨⟨⟨⟨⟨x1,x2⟩,x3⟩,x4⟩,x5⟩,x6⟩,x7⟩,x8⟩:=z
   subst x1
   obtain⟨g1,g2,g3,g4,g5,g6,g7,g8,g9,g10,g11⟩:=kd
   dsimp only at x2 x3 x4 x5 x6
   obtain⟨sl⟩:=slo
   obtain⟨a0,a1,a2,a3,a5,rfl⟩:∃a0 a1 a2 a3 a5,sl=[a0,a1,a2,a3,some (.builtin "ValueError.__new__"),a5]:=by
    obtain⟨a0,a1,a2,a3,a4,a5,rfl⟩:=Yk (show sl.length=6 from x7)
    have e:a4=some (.builtin "ValueError.__new__"):=Option.some.inj (show some a4=_ from x8)
    subst e
    exact⟨a0,a1,a2,a3,a5,rfl⟩
   obtain⟨up,rfl⟩:∃up,g3=.ref C:: up:=by
    cases g3 with
    | nil=>cases x2
    | cons v r=>cases (show some v=some (Value.ref C) from x2);exact⟨r,rfl⟩
   subst x4
   refine⟨⟨g1,g5,g4,g2,up,g6,g7,g8,g9,g10,od,a0,a1,a2,a3,a5,OD K g4,x6,fun h X=>⟨X _ _ look,?_,PySem.W.tail_of_in X x3⟩⟩⟩
   rw [<-RD X x5]
   exact .of_isNs (PySem.W.isNs_of_in X x5)
  ·cases z
 ·cases z
section
variable {X:Cx} {CX:Et} {k:Nat} {C B f:Addr} {fd:FuncData} {ps:List Str} {sp:Sp} {E:XK} {x:Str} {p pos apos:Pos} {e:Expr} {es:List Expr} {t:TA}
end
section
variable {X:Cx} {CX:Et} {k:Nat} {C f:Addr} {fd:FuncData} {ps:List Str} {sp:Sp} {E:XK} {x:Str} {p pos:Pos} {e:Expr} {es:List Expr} {t:TA}
end
section
variable {X:Cx} {C:Addr} {x:Str} {p pos:Pos} {e:Expr} {es:List Expr} {t:TA}
end
end L2
namespace L2
open PySem
noncomputable def VL (K:PySem.W.Frag) (C:Addr):Bool:=(PySem.W.clsIn K C).isSome && PySem.W.findIn K (.ref C) "__getattribute__" == some (some (.builtin "BaseException.__getattribute__")) && PySem.W.findIn K (.ref C) "__getattr__" == some none &&
 PySem.W.findIn K (.ref C) "__class__" == some (some (.builtin "object.__class__")) && PySem.W.subIn K (.ref C) (.type "object") == some true && PySem.W.subIn K (.ref C) (.type "BaseException") == some true
theorem Yx.ofIn {K:PySem.W.Frag} {C:Addr} (h:VL K C=true):Yx K C:=by
 simp only [VL,Bool.and_eq_true,beq_iff_eq] at h
 obtain⟨⟨⟨⟨⟨a,b⟩,c⟩,d⟩,e⟩,f⟩:=h
 exact⟨a,b,c,d,e,f⟩
noncomputable def Xc (K:PySem.W.Frag) (C:Addr):Bool:=VL K C && PySem.W.findIn K (.ref C) "__setattr__" == some (some (.builtin "object.__setattr__")) && (PySem.W.clsIn K C).any (fun cd=>GJ cd.mro && cd.hasDict)
theorem Y7.ofIn {K:PySem.W.Frag} {C:Addr} (h:Xc K C=true):Y7 K C:=by
 simp only [Xc,Bool.and_eq_true,beq_iff_eq] at h
 obtain⟨⟨a,b⟩,c⟩:=h
 exact⟨.ofIn a,b,c⟩
end L2
namespace L2
open PySem PySem.Spec PyProof.Rows
section
variable {P:Program} {w:World} {K:PySem.W.Frag} {mg:Str->Option Value} {base:Heap} {N:List Str} {qual:Str} {scope:Scope} {f:Addr} {cd:Value} {A:Around} {outer:List Env} {s:Shared} {H:Hp} {E:XK}
end
section
variable {M:Model} {A:Around} {E:Value->Shared->Prop} {s:Shared} {env:Env} {nm q:Str} {C N:Addr} {bs bm:List Value} {hdct:Bool} {sn:List Str} {sub:List Value} {ab:Bool} {col:Option Bool} {dd:Option Addr} {k0 k1 k2 k3 k5:Option Value} {newId:String}
end
section
variable {P:Program} {w:World} {K:PySem.W.Frag} {mg:Str->Option Value} {base:Heap} {N:List Str} {qual:Str} {scope:Scope} {f:Addr} {cd:Value} {A:Around} {outer:List Env} {s:Shared} {H:Hp} {E:XK}
end
section
variable {M:Model} {A:Around} {E:Value->Shared->Prop} {nm q:Str} {C N:Addr} {bs bm:List Value} {hdct:Bool} {sn:List Str} {sub:List Value} {ab:Bool} {col:Option Bool} {dd:Option Addr} {k0 k1 k2 k3 k5:Option Value} {newId:String}
end
section
variable {P:Program} {w:World} {K:PySem.W.Frag} {mg:Str->Option Value} {base:Heap}
end
theorem Dy.at {K:PySem.W.Frag} {C f:Addr} (c:Dy K C f) {h:Heap} (X:K.In h):ExcAt K C:=by
 obtain⟨nm,q,Nn,bs,bm,hdct,sn,sub,ab,col,dd,k0,k1,k2,k3,k5,mN,_,hf⟩:=c.ex
 exact⟨⟨nm,q,Nn,bs,bm,hdct,sn,sub,ab,col,dd,k0,k1,k2,k3,k5,_,(hf h X).2.2.hasType (X:= "BaseException") (b:=true) (by decide +kernel),fun h X=>(hf h X).1⟩⟩
noncomputable def Y6 (a b:TI):TI:=fun σ H R=>a σ H R∨b σ H R
theorem U3 {X:Cx} {tg it:Expr} {a b:TI} (h1:PI X tg it a) (h2:PI X tg it b):PI X tg it (Y6 a b):=fun pins s σ H R I h=>h.elim (h1 pins s σ H R I) (h2 pins s σ H R I)
theorem Bm {js:List Nat} {tt:TT} {te:TE} {σ:St} {Qd:List V->Hp->Prop} {K:PySem.W.Frag} {a:Addr} {xs:List V} {H:Hp} (Pv:Nat->List V->Hp->Prop) (hn:xs.length<=sizeLine) (h0:Pv 0 [] H) (hl:∀i ys H,Pv i ys H->ys.length<=i) (hq:∀i ys H,i<=xs.length->Pv i ys H->fC K H a xs)
  (hs:∀i x ys H,xs[i]?=some x->Pv i ys H->tt (some x:: dO σ js) H fun b H4=>if b=true then te (some x:: dO σ js) H4 fun y H5=>Pv (i+1) (ys ++ [y]) H5 else Pv (i+1) ys H4)
  (hd:∀ys H,Pv xs.length ys H->Qd ys H):CompEnd js tt te σ Qd (Wg K a) H:=by
 refine⟨fun i m ys H=>m=xs.length - i/\i<=xs.length/\Pv i ys H,⟨xs.length,by simp,Nat.zero_le _,h0⟩,?_⟩
 rintro i m ys H ⟨rfl,hi,p⟩
 have hlen:=hl i ys H p
 have q:=hq i ys H hi p
 by_cases hlt:i <xs.length
 ·refine .inr ⟨⟨xs,xs[i],q,by simp [hlt]⟩,by omega,Pv (i+1),fun ys' H' p'=>⟨xs.length - (i+1),by omega,rfl,hlt,p'⟩,fun x H' y=>?_⟩
  obtain⟨e,y⟩:=y
  subst e
  exact hs i x ys _ (y xs q) p
 ·have e:i=xs.length:=by omega
  subst e
  exact .inl ⟨⟨xs,q,Nat.le_refl _⟩,by omega,hd ys H p⟩
theorem Rm {js:List Nat} {tt:TT} {te:TE} {σ σ0:St} {Qd:List V->Hp->Prop} {K:PySem.W.Frag} {a:Addr} {xs:List V} {H:Hp} {tl:TE} (ht:∀R:V->Hp->Prop,R (.ref a) H->tl σ0 H R) (ha:xO K H a xs) (Pv:Nat->List V->Prop) (hn:xs.length<=sizeLine) (h0:Pv 0 []) (hl:∀i ys,Pv i ys->ys.length<=i)
  (hs:∀i x ys,xs[i]?=some x->Pv i ys->tt (some x:: dO σ js) H fun b H4=>if b=true then te (some x:: dO σ js) H4 fun y H5=>H5=H/\Pv (i+1) (ys ++ [y]) else H4=H/\Pv (i+1) ys)
  (hd:∀ys,Pv xs.length ys->Qd ys H):Y6 (Ul K tl) (Xy K tl) σ0 H (CompEnd js tt te σ Qd):=by
 rcases ha with ha | ha
 ·refine .inl (ht _ ⟨a,rfl,⟨xs,ha⟩,d7 (K:=K) (a:=a) (xs:=xs) (fun i ys H'=>H'=H/\Pv i ys) hn ⟨rfl,h0⟩ (fun i ys _ z=>hl i ys z.2) (fun i ys H' _ z=>by rw [z.1];exact ha) (fun i x ys H' hx z=>?_) fun ys H' z=>?_⟩)
  ·obtain⟨rfl,z⟩:=z;exact hs i x ys hx z
  ·obtain⟨rfl,z⟩:=z;exact hd ys z
 ·refine .inr (ht _ ⟨a,rfl,⟨xs,ha⟩,Bm (K:=K) (a:=a) (xs:=xs) (fun i ys H'=>H'=H/\Pv i ys) hn ⟨rfl,h0⟩ (fun i ys _ z=>hl i ys z.2) (fun i ys H' _ z=>by rw [z.1];exact ha) (fun i x ys H' hx z=>?_) fun ys H' z=>?_⟩)
  ·obtain⟨rfl,z⟩:=z;exact hs i x ys hx z
  ·obtain⟨rfl,z⟩:=z;exact hd ys z
theorem xO.len {K:PySem.W.Frag} {H:Hp} {a:Addr} {xs:List V} (h:xO K H a xs):XH K (.ref a) H xs.length:=h.elim (fun h=>.inl ⟨xs,h,rfl⟩) fun h=>.inr ⟨xs,h,rfl⟩
theorem Jo {X:Cx} {K:PySem.W.Frag} (hK:X.K=K):Ox X (V0 K):=by subst hK;exact aQ
theorem mX {X:Cx} {K:PySem.W.Frag} (hK:X.K=K):Ox X (VN K):=by subst hK;exact cZ
section
variable {P:Program} {w:World} {K:PySem.W.Frag} {mg:Str->Option Value} {base:Heap} {N:List Str} {qual:Str} {scope:Scope} {f:Addr} {cd:Value} {A:Around} {outer:List Env} {s:Shared} {H:Hp} {E:XK}
end
section
variable {κ:Type} [DecidableEq κ]
noncomputable def bT (kvs:List (κ×V)) (k:κ):Option V:=(kvs.find? fun kv=>decide (kv.1=k)).map (·.2)
noncomputable def putK (kvs:List (κ×V)) (k:κ) (v:V):List (κ×V):=
 if (kvs.any fun kv=>decide (kv.1=k))=true then kvs.map (fun kv=>if kv.1=k then(kv.1,v) else kv) else kvs ++ [(k,v)]
noncomputable def Dg (kvs:List (κ×V)) (k:κ):List (κ×V):=kvs.filter fun kv=>decide (kv.1≠k)
theorem gQ {p:κ×V} {r:List (κ×V)} {k:κ} (e:p.1=k):bT (p:: r) k=some p.2:=by simp [bT,List.find?_cons,e]
theorem gm {p:κ×V} {r:List (κ×V)} {k:κ} (e:¬p.1=k):bT (p:: r) k=bT r k:=by simp [bT,List.find?_cons,e]
theorem rA (k:κ):∀kvs:List (κ×V),(kvs.any fun kv=>decide (kv.1=k))=(bT kvs k).isSome
 | []=>rfl
 | p:: r=>by
  rw [List.any_cons]
  by_cases e:p.1=k
  ·simp only [gQ e,decide_eq_true e,Bool.true_or,Option.isSome_some]
  ·rw [gm e,decide_eq_false e,Bool.false_or];exact rA k r
theorem Il (k j:κ) (y:V):∀kvs:List (κ×V),bT (kvs.map fun kv=>if kv.1=k then(kv.1,y) else kv) j=(bT kvs j).map fun x=>if j=k then y else x
 | []=>rfl
 | p:: r=>by
  have ih:=Il k j y r
  rw [List.map_cons]
  by_cases h:p.1=k
  ·rw [if_pos h]
   by_cases e:p.1=j
   ·rw [gQ (p:=(p.1,y)) e,gQ e,Option.map_some,if_pos (e.symm.trans h)]
   ·rw [gm (p:=(p.1,y)) e,gm e,ih]
  ·rw [if_neg h]
   by_cases e:p.1=j
   ·rw [gQ (p:=p) e,gQ e,Option.map_some,if_neg (fun z=>h (e.trans z))]
   ·rw [gm (p:=p) e,gm e,ih]
theorem FT (k j:κ) (y:V):∀kvs:List (κ×V),bT kvs k=none->bT (kvs ++ [(k,y)]) j=if j=k then some y else bT kvs j
 | [],_=>by
  by_cases e:k=j
  ·rw [if_pos e.symm];exact gQ (p:=(k,y)) e
  ·rw [if_neg (fun z=>e z.symm)];exact gm (p:=(k,y)) e
 | p:: r,hn=>by
  rw [List.cons_append]
  have hk:¬p.1=k:=fun z=>by rw [gQ z] at hn;cases hn
  rw [gm hk] at hn
  have ih:=FT k j y r hn
  by_cases e:p.1=j
  ·rw [gQ e,gQ e,if_neg (fun z=>hk (e.trans z))]
  ·rw [gm e,gm e,ih]
theorem RB (kvs:List (κ×V)) (k j:κ) (y:V):bT (putK kvs k y) j=if j=k then some y else bT kvs j:=by
 unfold putK
 by_cases a:(kvs.any fun kv=>decide (kv.1=k))=true
 ·rw [if_pos a,Il]
  rw [rA] at a
  by_cases e:j=k
  ·obtain⟨x,hx⟩:=Option.isSome_iff_exists.mp a
   rw [if_pos e,e,hx,Option.map_some,if_pos rfl]
  ·rw [if_neg e]
   cases bT kvs j with
   | none=>rfl
   | some x=>rw [Option.map_some,if_neg e]
 ·rw [if_neg a]
  refine FT k j y kvs ?_
  rw [rA] at a
  cases q:bT kvs k with
  | none=>rfl
  | some x=>rw [q] at a;exact(a rfl).elim
theorem lL (kvs:List (κ×V)) (k:κ) (v:V):(putK kvs k v).length<=kvs.length+1:=by
 unfold putK
 split
 ·rw [List.length_map];omega
 ·rw [List.length_append,List.length_cons,List.length_nil];omega
theorem iR {kvs:List (κ×V)} {k:κ} (v:V) (h:bT kvs k=none):putK kvs k v=kvs ++ [(k,v)]:=by
 unfold putK
 rw [rA,h]
 exact if_neg (by decide)
theorem rT.isSome_eq {o:Option V} {u:Option Value} (r:rT o u):o.isSome=u.isSome:=by
 cases o with
 | none=>cases u with
  | none=>rfl
  | some _=>exact(show False from r).elim
 | some _=>cases u with
  | none=>exact(show False from r).elim
  | some _=>rfl
theorem rT.getD {o:Option V} {u:Option Value} {d:V} {d':Value} (r:rT o u) (rd:RelV d d'):RelV (o.getD d) (u.getD d'):=by
 cases o with
 | none=>cases u with
  | none=>exact rd
  | some _=>exact(show False from r).elim
 | some _=>cases u with
  | none=>exact(show False from r).elim
  | some _=>exact r
theorem KV.val {kvs:List (κ×V)} {vs:List (κ×Value)} (r:KV kvs vs) (k:κ):rT (bT kvs k) (valueAt vs k):=by
 unfold KV at r
 induction r with
 | nil=>exact True.intro
 | @cons p q ps qs h t ih=>
  obtain⟨h1,h2⟩:=h
  by_cases e:p.1=k
  ·have e':q.1=k:=h1.symm.trans e
   have b:valueAt (q:: qs) k=some q.2:=by simp [valueAt,List.find?_cons,e']
   rw [gQ e,b];exact h2
  ·have e':¬q.1=k:=fun z=>e (h1.trans z)
   have b:valueAt (q:: qs) k=valueAt qs k:=by simp [valueAt,List.find?_cons,e']
   rw [gm e,b];exact ih
theorem KV.any {kvs:List (κ×V)} {vs:List (κ×Value)} (r:KV kvs vs) (k:κ):(kvs.any fun kv=>decide (kv.1=k))=vs.any fun kv=>decide (kv.1=k):=by
 unfold KV at r
 induction r with
 | nil=>rfl
 | cons h t ih=>rw [List.any_cons,List.any_cons,ih,h.1]
theorem KV.repl {kvs:List (κ×V)} {vs:List (κ×Value)} (r:KV kvs vs) (k:κ) {y:V} {u:Value} (ry:RelV y u):
  KV (kvs.map fun kv=>if kv.1=k then(kv.1,y) else kv) (vs.map fun kv=>if kv.1=k then(kv.1,u) else kv):=by
 unfold KV at r ⊢
 induction r with
 | nil=>exact .nil
 | @cons p q ps qs h t ih=>
  rw [List.map_cons,List.map_cons]
  refine .cons ?_ ih
  obtain⟨h1,h2⟩:=h
  by_cases e:p.1=k
  ·rw [if_pos e,if_pos (h1.symm.trans e)];exact⟨h1,ry⟩
  ·rw [if_neg e,if_neg (fun z=>e (h1.trans z))];exact⟨h1,h2⟩
theorem KV.put {kvs:List (κ×V)} {vs:List (κ×Value)} (r:KV kvs vs) (k:κ) {y:V} {u:Value} (ry:RelV y u):KV (putK kvs k y) (stored vs k u):=by
 unfold putK stored
 rw [r.any k]
 by_cases e:(vs.any fun kv=>decide (kv.1=k))=true
 ·rw [if_pos e,if_pos e];exact r.repl k ry
 ·rw [if_neg e,if_neg e];exact Paired.snoc r ⟨rfl,ry⟩
theorem KV.drop {kvs:List (κ×V)} {vs:List (κ×Value)} (r:KV kvs vs) (k:κ):KV (Dg kvs k) (without vs k):=by
 unfold KV at r ⊢
 unfold Dg without
 induction r with
 | nil=>exact .nil
 | @cons p q ps qs h t ih=>
  obtain⟨h1,h2⟩:=h
  rw [List.filter_cons,List.filter_cons]
  by_cases e:p.1=k
  ·have a:¬decide (p.1≠k)=true:=by simp [e]
   have b:¬decide (q.1≠k)=true:=by simp [h1.symm.trans e]
   rw [if_neg a,if_neg b];exact ih
  ·have e':¬q.1=k:=fun z=>e (h1.trans z)
   have a:decide (p.1≠k)=true:=by simp [e]
   have b:decide (q.1≠k)=true:=by simp [e']
   rw [if_pos a,if_pos b];exact .cons ⟨h1,h2⟩ ih
theorem KV.length {kvs:List (κ×V)} {vs:List (κ×Value)} (r:KV kvs vs):kvs.length=vs.length:=Paired.length r
theorem P0 (kvs:List (κ×V)) (k:κ):(Dg kvs k).length<=kvs.length:=List.length_filter_le _ _
end
theorem zN {P:Program} {w:World} {k:Key} {u:Value} (r:RelV (kV k) u):(cj P w).is k u=true:=by
 cases k with
 | inl i=>obtain⟨t,e⟩:=(show ∃t,u=Value.int i t from r);subst e;exact Ij P w i t
 | inr x=>obtain⟨t,e⟩:=(show ∃t,u=Value.str x t from r);subst e;exact lQ P w x t
theorem EY {P:Program} {w:World}:∀{ks:List Key} {us:List Value},Vals (ks.map kV) us->ItemsAre (cj P w) ks us
 | [],_,r=>by rw [List.map_nil] at r;cases r;exact .nil
 | k:: ks,_,r=>by
  rw [List.map_cons] at r
  cases r with
  | cons h t=>exact .cons (zN h) (EY t)
noncomputable abbrev KT (H:Hp):List (List Key×V)->List (List Key×Addr×Value)->Prop:=Paired fun p q=>p.1=q.1/\H q.2.1=some (.tup (p.1.map kV))/\RelV p.2 q.2.2
theorem KT.val {H:Hp} {kvs:List (List Key×V)} {xs:List (List Key×Addr×Value)} (r:KT H kvs xs) (k:List Key):rT (bT kvs k) ((atKey xs k).map (·.2)):=by
 induction r with
 | nil=>exact True.intro
 | @cons p q ps qs h t ih=>
  obtain⟨h1,_,h2⟩:=h
  by_cases e:p.1=k
  ·have e':q.1=k:=h1.symm.trans e
   have b:atKey (q:: qs) k=some q.2:=by simp [atKey,List.find?_cons,e']
   rw [gQ e,b];exact h2
  ·have e':¬q.1=k:=fun z=>e (h1.trans z)
   have b:atKey (q:: qs) k=atKey qs k:=by simp [atKey,List.find?_cons,e']
   rw [gm e,b];exact ih
theorem KT.repl {H:Hp} {kvs:List (List Key×V)} {xs:List (List Key×Addr×Value)} (r:KT H kvs xs) (k:List Key) {y:V} {u:Value} (ry:RelV y u):
  KT H (kvs.map fun kv=>if kv.1=k then(kv.1,y) else kv) (xs.map (putAt k u)):=by
 induction r with
 | nil=>exact .nil
 | @cons p q ps qs h t ih=>
  rw [List.map_cons,List.map_cons]
  refine .cons ?_ ih
  obtain⟨h1,h2,h3⟩:=h
  unfold putAt
  by_cases e:p.1=k
  ·rw [if_pos e,if_pos (h1.symm.trans e)];exact⟨h1,h2,ry⟩
  ·rw [if_neg e,if_neg (fun z=>e (h1.trans z))];exact⟨h1,h2,h3⟩
theorem KT.put {H:Hp} {kvs:List (List Key×V)} {xs:List (List Key×Addr×Value)} (r:KT H kvs xs) (k:List Key) {b:Addr} {y:V} {u:Value} (hb:H b=some (.tup (k.map kV))) (ry:RelV y u):
  KT H (putK kvs k y) (storedH xs k b u):=by
 have e:(kvs.any fun kv=>decide (kv.1=k))=(atKey xs k).isSome:=by
  rw [rA,(r.val k).isSome_eq,Option.isSome_map]
 unfold putK storedH
 rw [e]
 by_cases q:(atKey xs k).isSome=true
 ·rw [if_pos q,if_pos q];exact r.repl k ry
 ·rw [if_neg q,if_neg q];exact Paired.snoc r ⟨rfl,hb,ry⟩
theorem KT.keeps {H H':Hp} {kvs:List (List Key×V)} {xs:List (List Key×Addr×Value)} (r:KT H kvs xs) (ht:∀b ys,H b=some (.tup ys)->H' b=some (.tup ys)):KT H' kvs xs:=
 Paired.mapP r fun _ _ z=>⟨z.1,ht _ _ z.2.1,z.2.2⟩
section
variable {P:Program} {w:World} {H:Hp} {h:Heap} {a:Addr}
theorem Ux {u:HO} (ok:vp P w H h) (e:Rd H a u):fQ P w H h a u:=e.ok ok
theorem vV {kvs:List (Key×V)} (ok:vp P w H h) (e:Rd H a (.dK kvs)):kvs.length<=sizeLine/\(a == sysModules)=false/\∃vs,KV kvs vs/\h.DictOf (cj P w) a vs:=
 show fQ P w H h a (.dK kvs) from Ux ok e
theorem QZ {kvs:List (Key×V)} (ok:vp P w H h) (e:H a=some (.dK kvs)):kvs.length<=sizeLine/\(a == sysModules)=false/\∃vs,KV kvs vs/\h.DictOf (cj P w) a vs:=vV ok (.inl e)
theorem yL {ks:List Key} (ok:vp P w H h) (e:H a=some (.tup (ks.map kV))):(tupleKind (cj P w)).is h ks a:=by
 obtain⟨_,its,r,o,h1,h2,n,h3⟩:=(show fQ P w H h a (.tup (ks.map kV)) from ok a _ e)
 exact⟨o,its.toArray,n,h1,h2,h3,by simpa using EY r⟩
theorem Bv {kvs:List (List Key×V)} (ok:vp P w H h) (e:Rd H a (.dT kvs)):kvs.length<=sizeLine/\(a == sysModules)=false/\
  ∃xs,KT H kvs xs/\h.DictOfH (tupleKind (cj P w)) a xs:=by
 obtain⟨z,y,xs,r,o,es,ep,h1,h2,h3,h4,h5⟩:=(show fQ P w H h a (.dT kvs) from Ux ok e)
 refine⟨z,y,xs,r,o,es,ep,h1,h2,h3,h4,fun x hx=>?_,h5⟩
 have all:∀{l:List (List Key×V)} {m:List (List Key×Addr×Value)},KT H l m->∀x∈m,(tupleKind (cj P w)).is h x.1 x.2.1:=by
  intro l m q
  induction q with
  | nil=>intro x hx;exact nomatch hx
  | @cons p q ps qs hq t ih=>
   intro x hx
   rcases List.mem_cons.mp hx with e | hx
   ·subst e
    exact yL ok (by rw [<-hq.1];exact hq.2.1)
   ·exact ih x hx
 exact all r x hx
theorem Wx {kvs:List (List Key×V)} (ok:vp P w H h) (e:H a=some (.dT kvs)):kvs.length<=sizeLine/\(a == sysModules)=false/\
  ∃xs,KT H kvs xs/\h.DictOfH (tupleKind (cj P w)) a xs:=Bv ok (.inl e)
end
noncomputable def d9 (H:Hp) (a:Addr) (y:V) (r:Option V):Prop:=
 (∃kvs k,Rd H a (.dK kvs)/\y=kV k/\r=bT kvs k)∨∃kvs k b,Rd H a (.dT kvs)/\y=.ref b/\H b=some (.tup (k.map kV))/\r=bT kvs k
noncomputable def ph (H:Hp) (a:Addr) (y v:V) (H':Hp):Prop:=
 (∃kvs k,H a=some (.dK kvs)/\y=kV k/\kvs.length <sizeLine/\H'=upd H a (.dK (putK kvs k v)))∨
 ∃kvs k b,H a=some (.dT kvs)/\y=.ref b/\H b=some (.tup (k.map kV))/\kvs.length <sizeLine/\H'=upd H a (.dT (putK kvs k v))
theorem d9.k {H:Hp} {a:Addr} {kvs:List (Key×V)} {k:Key} (e:H a=some (.dK kvs)):d9 H a (kV k) (bT kvs k):=.inl ⟨kvs,k,.inl e,rfl,rfl⟩
theorem ph.k {H:Hp} {a:Addr} {kvs:List (Key×V)} {k:Key} {v:V} (e:H a=some (.dK kvs)) (hl:kvs.length <sizeLine):ph H a (kV k) v (upd H a (.dK (putK kvs k v))):=.inl ⟨kvs,k,e,rfl,hl,rfl⟩
section
variable {X:Cx} {pins:List (Addr×Obj)} {σ:St} {H:Hp} {s:Shared} {a:Addr} {y v:V} {u r:Value} {o:Option V} {A:Around} {E:Value->Shared->Prop}
theorem Inv.big (I:Inv X pins σ H s):sysModules <s.heap.objs.size:=by
 have h:mainGlobals <s.heap.objs.size:=(I.mod.glob.keeps I.bk).lt
 exact Nat.lt_trans (by decide) h
theorem Eo {Q:Value->Shared->Prop} (hu:A.units+1 <cLine) (I:Inv X pins σ H s) (g:d9 H a y (some v)) (ry:RelV y u) (h:∀w' s',Inv X pins σ H s'->RelV v w'->Q w' s'):
  wpAny (model X.prog X.w) A (getItem (.ref a) u) Q E s:=by
 rcases g with ⟨kvs,k,e,ey,l⟩ | ⟨kvs,k,b,e,ey,eb,l⟩
 ·subst ey
  obtain⟨z,hd,vs,rel,dd⟩:=vV I.hok e
  obtain⟨w',hw,rw'⟩:=rT.some_of (v:=v) (o:=valueAt vs k) (by rw [l];exact rel.val k)
  exact wpAny_getItem_of (zN ry) dd.mapOf hw (h w' _ (I.tok _) rw')
 ·subst ey
  cases (show u=Value.ref b from ry)
  obtain⟨z,hd,xs,rel,dd⟩:=Bv I.hok e
  obtain⟨w',hw,rw'⟩:=rT.some_of (v:=v) (o:=(atKey xs k).map (·.2)) (by rw [l];exact rel.val k)
  obtain⟨p,hp,hp2⟩:=Option.map_eq_some_iff.mp hw
  refine wpAny_getItem_heap (tupleKind_room_in1 hu) (yL I.hok eb) dd hp ?_
  rw [hp2]
  exact h w' _ (I.tok _) rw'
theorem Yv {Q:Value->Shared->Prop} (hu:A.units+1 <cLine) (I:Inv X pins σ H s) (g:d9 H a y o) (ry:RelV y u) (h:∀s',Inv X pins σ H s'->Q (.bool o.isSome) s'):
  wpAny (model X.prog X.w) A (compareOp .In u (.ref a)) Q E s:=by
 rcases g with ⟨kvs,k,e,ey,l⟩ | ⟨kvs,k,b,e,ey,eb,l⟩
 ·subst ey
  obtain⟨z,hd,vs,rel,dd⟩:=vV I.hok e
  refine wpAny_in_of (zN ry) hd dd.mapOf ?_
  rw [<-(rel.val k).isSome_eq,<-l]
  exact h _ (I.tok _)
 ·subst ey
  cases (show u=Value.ref b from ry)
  obtain⟨z,hd,xs,rel,dd⟩:=Bv I.hok e
  refine wpAny_in_heap (tupleKind_room_in1 hu) (yL I.hok eb) hd dd ?_
  have q:=(rel.val k).isSome_eq
  rw [Option.isSome_map] at q
  rw [<-q,<-l]
  exact h _ (I.tok _)
theorem Tq {Q:Value->Shared->Prop} (hu:A.units+1 <cLine) (I:Inv X pins σ H s) (g:d9 H a y o) (ry:RelV y u) (h:∀s',Inv X pins σ H s'->Q (.bool (!o.isSome)) s'):
  wpAny (model X.prog X.w) A (compareOp .NotIn u (.ref a)) Q E s:=by
 rcases g with ⟨kvs,k,e,ey,l⟩ | ⟨kvs,k,b,e,ey,eb,l⟩
 ·subst ey
  obtain⟨z,hd,vs,rel,dd⟩:=vV I.hok e
  refine wpAny_notIn_of (zN ry) hd dd.mapOf ?_
  rw [<-(rel.val k).isSome_eq,<-l]
  exact h _ (I.tok _)
 ·subst ey
  cases (show u=Value.ref b from ry)
  obtain⟨z,hd,xs,rel,dd⟩:=Bv I.hok e
  refine wpAny_notIn_heap (tupleKind_room_in1 hu) (yL I.hok eb) hd dd ?_
  have q:=(rel.val k).isSome_eq
  rw [Option.isSome_map] at q
  rw [<-q,<-l]
  exact h _ (I.tok _)
theorem Bd {h':Heap} {t':Nat} {ob:HO} (I:Inv X pins σ H s) (mu:W9 (H a)) (hs:Heap.SameBut a s.heap h') (he:∃q,h'.get? a=some q) (new:fQ X.prog X.w (upd H a ob) h' a ob):
  Inv X pins σ (upd H a ob) { s with heap:=h',toks:=t' }:=
 I.write (x:=a) (e:=a) mu (.inl rfl) (fun b q hb z=>(hs.2 b hb).trans z) he new
theorem Ko {P:Program} {w:World} {H':Hp} {h':Heap} {kvs:List (Key×V)} {vs:List (Key×Value)} (z:kvs.length<=sizeLine) (hd:(a == sysModules)=false) (rel:KV kvs vs) (dd:h'.DictOf (cj P w) a vs):
  fQ P w H' h' a (.dK kvs):=⟨z,hd,vs,rel,dd⟩
theorem Fb {H':Hp} {Q:Unit->Shared->Prop} (hu:A.units+1 <cLine) (I:Inv X pins σ H s) (g:ph H a y v H') (ry:RelV y u) (rv:RelV v r) (h:∀s',Inv X pins σ H' s'->Q () s'):
  wpAny (model X.prog X.w) A (setItem (.ref a) u r) Q E s:=by
 rcases g with ⟨kvs,k,e,ey,l,eH⟩ | ⟨kvs,k,b,e,ey,eb,l,eH⟩
 ·subst ey eH
  obtain⟨z,hd,vs,rel,dd⟩:=QZ I.hok e
  have hz:vs.length<=sizeLine:=by rw [<-rel.length];exact z
  have hl:(putK kvs k v).length<=sizeLine:=by have:=lL kvs k v;omega
  refine wpAny_setItem_pairs (hsz:=hz) (zN ry) dd fun h' dd' hs=>h _ ?_
  have he:∃q,h'.get? a=some q:=let ⟨q,_,_,hq,_⟩:=dd';⟨q,hq⟩
  exact Bd I (by rw [e];exact True.intro) hs he (Ko hl hd (rel.put k rv) dd')
 ·subst ey eH
  cases (show u=Value.ref b from ry)
  obtain⟨z,hd,xs,rel,dd⟩:=Wx I.hok e
  have hz:xs.length<=sizeLine:=by rw [<-Paired.length rel];exact z
  have hl:(putK kvs k v).length<=sizeLine:=by have:=lL kvs k v;omega
  refine wpAny_setItem_heap (hsz:=hz) (tupleKind_room_in1 hu) (yL I.hok eb) dd fun h' dd' hs=>h _ ?_
  obtain⟨q,es,ep,hq,h2,h3,h4,_,h5⟩:=dd'
  refine Bd I (by rw [e];exact True.intro) hs ⟨q,hq⟩ ⟨hl,hd,_,(rel.put k eb rv).keeps fun c ys ec=>?_,q,es,ep,hq,h2,h3,h4,h5⟩
  rw [aK (vW ec e (fun z=>nomatch z))]
  exact ec
end
section
variable {X:Cx} {pins:List (Addr×Obj)} {σ:St} {H:Hp} {s:Shared} {a:Addr} {kvs:List (Key×V)} {k:Key} {u:Value} {A:Around} {E:Value->Shared->Prop}
theorem Wq {v:V} {more:List Value} {Q:Value->Shared->Prop} (I:Inv X pins σ H s) (e:H a=some (.dK kvs)) (ry:RelV (kV k) u) (l:bT kvs k=some v) (hm:more=[]∨∃x,more=[x])
  (h:∀w' s',Inv X pins σ (upd H a (.dK (Dg kvs k))) s'->RelV v w'->Q w' s'):wpAny (model X.prog X.w) A (call (.builtin "dict.pop") (.ref a:: u:: more)) Q E s:=by
 obtain⟨z,hd,vs,rel,dd⟩:=QZ I.hok e
 obtain⟨w',hw,rw'⟩:=rT.some_of (v:=v) (o:=valueAt vs k) (by rw [<-l];exact rel.val k)
 have hp:(keyPart u).isSome=true:=by
  cases k with
  | inl i=>obtain⟨t,q⟩:=(show ∃t,u=Value.int i t from ry);subst q;rfl
  | inr x=>obtain⟨t,q⟩:=(show ∃t,u=Value.str x t from ry);subst q;rfl
 have ha:argsOk "dict.pop" ⟨.ref a:: u:: more,[]⟩:=by
  rcases hm with q | ⟨x,q⟩
  ·subst q;exact PySem.F.args_dict_pop_2 _ _
  ·subst q;exact PySem.F.args_dict_pop_3 _ _ _
 refine call_meetsIn PySem.F.slot_dict_pop dd.typeIs PySem.F.entry_dict_pop ha (meets_dict_pop_there (cj X.prog X.w) a (zN ry) more hm hp)
  ⟨vs,w',dd,by rw [<-rel.length];exact z,hw,fun h' dd' hs=>h w' _ ?_ rw'⟩
 have he:∃q,h'.get? a=some q:=let ⟨q,_,_,hq,_⟩:=dd';⟨q,hq⟩
 exact Bd I (by rw [e];exact True.intro) hs he (Ko (Nat.le_trans (P0 kvs k) z) hd (rel.drop k) dd')
end
noncomputable def Wr (i:Expr):Prop:=∀ov iv,subscripted i false ov iv=operate [ov,iv] (getItem ov iv)
theorem RQ {prog:Program} {w:World} {A:Around} {E:Value->Shared->Prop} {s:Shared} {env:Env} {value slice:Expr} {pos:Pos} {T id:String} {Q:Value->Shared->Prop}
  (hl:typeLookup (.type T) "__getitem__" =pure (some (.builtin id))) (hs:Wr slice)
  (h:wpAny (model prog w) A (eval value env) (fun o s₁=>wpAny (model prog w) A (eval slice env) (fun i s₂=>s₂.TypeIs o T/\wpAny (model prog w) A (getItem o i) Q E s₂) E s₁) E s):
  wpAny (model prog w) A (eval (.Subscript value slice pos) env) Q E s:=by
 refine Subscript_ (wpAny_mono h (fun o s₁ h₁=>wpAny_mono h₁ (fun i s₂ h₂=>?_) fun _ _ x=>x) fun _ _ x=>x)
 obtain⟨hT,h₂⟩:=h₂
 unfold subscriptTail
 refine wpAny_bind ?_
 rw [getitemInPython_of_ne hT.not_modules]
 refine wpAny_bind (wpAny_specialOf hT hl ?_)
 have fin:wpAny (model prog w) A (subscripted slice false o i) (fun r s₃=>wpAny (model prog w) A (letTemporaryGo value o r >>= fun _=>pure r) Q E s₃) E s₂:=by
  rw [hs o i]
  exact wpAny_operating (wpAny_mono h₂ (fun r s₃ h₃=>wpAny_bind (wpAny_letTemporaryGo (wpAny_pure h₃))) fun _ _ x=>x)
 first
  | exact wpAny_pure (wpAny_bind fin)
  | exact wpAny_bind (wpAny_pure (wpAny_bind fin))
  | exact wpAny_bind fin
theorem Iz {X:Cx} {pins:List (Addr×Obj)} {σ:St} {H:Hp} {s:Shared} {a:Addr} {y:V} {o:Option V} (I:Inv X pins σ H s) (g:d9 H a y o):s.TypeIs (.ref a) "dict" :=by
 rcases g with ⟨kvs,k,e,_,_⟩ | ⟨kvs,k,b,e,_,_,_⟩
 ·obtain⟨_,_,vs,_,dd⟩:=vV I.hok e
  exact dd.typeIs
 ·obtain⟨_,_,xs,_,dd⟩:=Bv I.hok e
  exact dd.typeIs
inductive Qu (Q:VK) (x:V) (y:V) (H2:Hp):Prop where
 | mk:∀a v,x=.ref a->d9 H2 a y (some v)->Q v H2->Qu Q x y H2
noncomputable def WN (td ty:TE):TE:=fun σ H Q=>td σ H fun x H1=>ty σ H1 fun y H2=>Qu Q x y H2
inductive Us (Q:VK) (y:V) (x:V) (H2:Hp):Prop where
 | mk:∀a o,x=.ref a->d9 H2 a y o->Q (.bl o.isSome) H2->Us Q y x H2
noncomputable def Yy (ty td:TE):TE:=fun σ H Q=>ty σ H fun y H1=>td σ H1 fun x H2=>Us Q y x H2
inductive Io (Q:VK) (y:V) (x:V) (H2:Hp):Prop where
 | mk:∀a o,x=.ref a->d9 H2 a y o->Q (.bl (!o.isSome)) H2->Io Q y x H2
noncomputable def Sy (ty td:TE):TE:=fun σ H Q=>ty σ H fun y H1=>td σ H1 fun x H2=>Io Q y x H2
inductive Q6 (D:Ends) (σ:St) (v:V) (x:V) (y:V) (H3:Hp):Prop where
 | mk:∀a H4,x=.ref a->ph H3 a y v H4->D.nx σ H4->Q6 D σ v x y H3
noncomputable def Xi (td ty tv:TE):TS:=fun D σ H=>tv σ H fun v H1=>td σ H1 fun x H2=>ty σ H2 fun y H3=>Q6 D σ v x y H3
inductive Pg (tv:TE) (rd:V->V->Hp->VK->Prop) (D:Ends) (σ:St) (x:V) (y:V) (H2:Hp):Prop where
 | mk:∀a v,x=.ref a->d9 H2 a y (some v)->(tv σ H2 fun y2 H3=>rd v y2 H3 fun z H4=>∃H5,ph H4 a y z H5/\D.nx σ H5)->Pg tv rd D σ x y H2
noncomputable def Xo (td ty tv:TE) (rd:V->V->Hp->VK->Prop):TS:=fun D σ H=>td σ H fun x H1=>ty σ H1 fun y H2=>Pg tv rd D σ x y H2
section
variable {X:Cx} {o i e value:Expr} {pos pos' tpos:Pos} {td ty tv:TE}
theorem b8 (hu:X.A.units+1 <cLine) (ho:PE X o td) (hi:PE X i ty) (hs:Wr i):PE X (.Subscript o i pos) (WN td ty):=by
 intro pins s σ H Q I h
 refine RQ PySem.F.slot_dict_getitem.lookup hs (dI (ho pins s σ H _ I h) fun u s1 ⟨x,H1,I1,rx,q1⟩=>dI (hi pins s1 σ H1 _ I1 q1) fun iv s2 hpt=>?_)
 obtain⟨y,H2,I2,ry,a,v,ex,g,q2⟩:=hpt
 subst ex
 obtain rfl:u=Value.ref a:=rx
 exact⟨Iz I2 g,Eo hu I2 g ry fun w' s3 I3 rw'=>⟨v,H2,I3,rw',q2⟩⟩
theorem zu (hu:X.A.units+1 <cLine) (hi:PE X i ty) (ho:PE X o td):PC X .In i o (Yy ty td):=by
 intro pins s σ H Q I h
 refine dI (hi pins s σ H _ I h) fun iv s1 ⟨y,H1,I1,ry,q1⟩=>dI (ho pins s1 σ H1 _ I1 q1) fun u s2 hpt=>?_
 obtain⟨x,H2,I2,rx,a,ov,ex,g,q2⟩:=hpt
 subst ex
 obtain rfl:u=Value.ref a:=rx
 exact Yv hu I2 g ry fun s3 I3=>⟨.bl ov.isSome,H2,I3,rfl,q2⟩
theorem uW (hu:X.A.units+1 <cLine) (hi:PE X i ty) (ho:PE X o td):PC X .NotIn i o (Sy ty td):=by
 intro pins s σ H Q I h
 refine dI (hi pins s σ H _ I h) fun iv s1 ⟨y,H1,I1,ry,q1⟩=>dI (ho pins s1 σ H1 _ I1 q1) fun u s2 hpt=>?_
 obtain⟨x,H2,I2,rx,a,ov,ex,g,q2⟩:=hpt
 subst ex
 obtain rfl:u=Value.ref a:=rx
 exact Tq hu I2 g ry fun s3 I3=>⟨.bl (!ov.isSome),H2,I3,rfl,q2⟩
theorem gh (hu:X.A.units+1 <cLine) (ho:PE X o td) (hi:PE X i ty) (hv:PE X value tv) (hs:swapsWith value (some (.Subscript o i pos')) pos.line X.env=pure false):
  PS X (.Assign [.Subscript o i pos'] value pos) (Xi td ty tv):=by
 intro pins s σ H D I h
 refine wpAny_Assign_Subscript (dI (hv pins s σ H _ I h) fun r s1 ⟨v,H1,I1,rv,q1⟩=>dI (ho pins s1 σ H1 _ I1 q1) fun u s2 ⟨x,H2,I2,rx,q2⟩=>dI (hi pins s2 σ H2 _ I2 q2) fun iv s3 hpt=>?_) hs
 obtain⟨y,H3,I3,ry,a,H4,ex,g,q3⟩:=hpt
 subst ex
 obtain rfl:u=Value.ref a:=rx
 exact Fb hu I3 g ry rv fun s4 I4=>⟨σ,H4,I4,q3⟩
theorem M4 {op:Operator} {rd:V->V->Hp->VK->Prop} (hu:X.A.units+1 <cLine) (ho:PE X o td) (hi:PE X i ty) (hv:PE X value tv) (hop:Xg X op rd)
  (ha:∀ov iv new,augStore i ov iv new=(do holding [new,ov,iv] (setItem ov iv new);release [new,ov,iv] [];pure .next)):PS X (.AugAssign (.Subscript o i tpos) op value pos) (Xo td ty tv rd):=by
 intro pins s σ H D I h
 refine wpAny_AugAssign_SubscriptAny (dI (ho pins s σ H _ I h) fun u s1 ⟨x,H1,I1,rx,q1⟩=>dI (hi pins s1 σ H1 _ I1 q1) fun iv s2 hpt=>?_) ha
 obtain⟨y,H2,I2,ry,a,v,ex,g,q2⟩:=hpt
 subst ex
 obtain rfl:u=Value.ref a:=rx
 refine Eo hu I2 g ry fun w' s3 I3 rw'=>dI (hv pins s3 σ H2 _ I3 q2) fun w2 s4 ⟨y2,H3,I4,ry2,q3⟩=>dI (hop pins s4 σ H3 v y2 w' w2 _ I4 rw' ry2 q3) fun w3 s5 hpt=>?_
 obtain⟨z,H4,I5,rz,H5,g5,q4⟩:=hpt
 exact Fb hu I5 g5 ry rz fun s6 I6=>⟨σ,H5,I6,q4⟩
end
theorem Jk {P:Program} {w:World} {H:Hp} (h:Heap) (hb:sysModules <h.objs.size):fQ P w H (h.push { cls:=.type "dict",data:=.dict #[] }) h.objs.size (.dK []):=
 ⟨Nat.zero_le _,beq_eq_false_iff_ne.mpr (Ne.symm (Nat.ne_of_lt hb)),[],.nil,Heap.DictOf.new h⟩
noncomputable def VR:TE:=fun _ H Q=>∀p,H p=none->Q (.ref p) (upd H p (.dK []))
section
variable {X:Cx} {pos:Pos}
theorem fM:PE X (.Dict [] [] pos) VR:=fun pins s σ H Q I h=>
 wpAny_Dict_empty ⟨.ref s.heap.objs.size,_,I.laid (a:=s.heap.objs.size) (o:=.dK []) (t':=s.toks) (fun _ _ q=>Heap.get?_push_of_some _ q) (Nat.le_refl _) (Jk s.heap I.big),rfl,h _ (I.hok.fresh (Nat.le_refl _))⟩
end
noncomputable def J0:List (TE×TE)->St->Hp->(List (V×V)->Hp->Prop)->Prop
 | [],_,H,Q=>Q [] H
 | (tk,tv):: r,σ,H,Q=>tk σ H fun x H1=>tv σ H1 fun y H2=>J0 r σ H2 fun ps H3=>Q ((x,y):: ps) H3
noncomputable abbrev VV:List (V×V)->List (Value×Value)->Prop:=Paired fun p q=>RelV p.1 q.1/\RelV p.2 q.2
noncomputable def X4 (X:Cx) (pos:Pos) (keys:List (Option Expr)) (values:List Expr) (trs:List (TE×TE)):Prop:=
 ∀(pins:List (Addr×Obj)) (s:Shared) (σ:St) (H:Hp) (Q:List (V×V)->Hp->Prop),Inv X pins σ H s->J0 trs σ H Q->
  wpAny (model X.prog X.w) X.A (evalPairs (pairTrees keys values X.env pos)) (fun vs s'=>∃ps H',Inv X pins σ H' s'/\VV ps vs/\Q ps H') X.xe s
theorem Sd {X:Cx} {pos:Pos}:X4 X pos [] [] []:=fun pins s σ H Q I h=>pairTrees_nil_walk ⟨[],H,I,.nil,h⟩
theorem Pb {X:Cx} {pos:Pos} {k v:Expr} {ks:List (Option Expr)} {vs:List Expr} {tk tv:TE} {trs:List (TE×TE)} (hk:PE X k tk) (hv:PE X v tv) (hr:X4 X pos ks vs trs):
  X4 X pos (some k:: ks) (v:: vs) ((tk,tv):: trs):=fun pins s σ H Q I h=>
 pairTrees_cons_walk (dI (hk pins s σ H _ I h) fun u s1 ⟨x,H1,I1,rx,q1⟩=>dI (hv pins s1 σ H1 _ I1 q1) fun w2 s2 ⟨y,H2,I2,ry,q2⟩=>
  dI (hr pins s2 σ H2 _ I2 q2) fun ws s3 ⟨ps,H3,I3,rel,q3⟩=>⟨(x,y):: ps,H3,I3,.cons ⟨rx,ry⟩ rel,q3⟩)
noncomputable def uV (kvs more:List (Key×V)):List (Key×V):=more.foldl (fun acc kv=>putK acc kv.1 kv.2) kvs
theorem KV.merge:∀{more:List (Key×V)} {rs:List (Key×Value)} {kvs:List (Key×V)} {vs:List (Key×Value)},KV more rs->KV kvs vs->KV (uV kvs more) (merged vs rs):=by
 intro more rs kvs vs r
 unfold KV at r
 induction r generalizing kvs vs with
 | nil=>intro q;exact q
 | @cons p q ps qs h t ih=>
  intro r0
  have e:KV (putK kvs p.1 p.2) (stored vs q.1 q.2):=by
   have:=r0.put p.1 h.2
   rw [<-h.1];exact this
  exact ih e
theorem vJ:∀(more kvs:List (Key×V)),(uV kvs more).length<=kvs.length+more.length
 | [],kvs=>by show kvs.length<=kvs.length+0;omega
 | p:: r,kvs=>by
  have h1:=vJ r (putK kvs p.1 p.2)
  have h2:=lL kvs p.1 p.2
  show(uV (putK kvs p.1 p.2) r).length<=_
  rw [List.length_cons];omega
theorem Cp {P:Program} {w:World}:∀{kvs:List (Key×V)} {ws:List (Value×Value)},VV (kvs.map fun kv=>(kV kv.1,kv.2)) ws->∃rs,Carries (cj P w) ws rs/\KV kvs rs
 | [],_,r=>by rw [List.map_nil] at r;cases r;exact⟨[],True.intro,.nil⟩
 | p:: kvs,_,r=>by
  rw [List.map_cons] at r
  cases r with
  | @cons a b as bs h t=>
   obtain⟨rs,c,q⟩:=Cp (P:=P) (w:=w) t
   obtain⟨b1,b2⟩:=b
   exact⟨(p.1,b2):: rs,⟨zN h.1,rfl,c⟩,.cons ⟨rfl,h.2⟩ q⟩
noncomputable def Ws (trs:List (TE×TE)):TE:=fun σ H Q=>∀p,H p=none->J0 trs σ (upd H p (.dK [])) fun ps H2=>H2 p=some (.dK [])/\∃kvs:List (Key×V),ps=kvs.map (fun kv=>(kV kv.1,kv.2))/\kvs.length<=15/\Q (.ref p) (upd H2 p (.dK (uV [] kvs)))
theorem RV {X:Cx} {pos:Pos} {keys:List (Option Expr)} {values:List Expr} {trs:List (TE×TE)} (h:X4 X pos keys values trs) (hall:keys.all (·.isSome)=true) (hl:keys.length=values.length) (h0:keys≠[])
  (h15:keys.length<=15):PE X (.Dict keys values pos) (Ws trs):=by
 intro pins s σ H Q I q
 have hn:=I.hok.fresh (Nat.le_refl s.heap.objs.size)
 have I1:=I.laid (a:=s.heap.objs.size) (o:=.dK []) (h':=s.heap.push { cls:=.type "dict",data:=.dict #[] }) (t':=s.toks) (fun _ _ q=>Heap.get?_push_of_some _ q) (Nat.le_refl _) (Jk s.heap I.big)
 refine wpAny_Dict_walk (knd:=cj X.prog X.w) hall hl h0 h15 (dI (h pins _ σ _ _ I1 (q _ hn)) fun ws s2 hpt=>?_)
 obtain⟨ps,H2,I2,rel,e,kvs,ep,lk,q2⟩:=hpt
 subst ep
 obtain⟨rs,c,rk⟩:=Cp (P:=X.prog) (w:=X.w) rel
 obtain⟨z,hd,vs0,r0,dd⟩:=QZ I2.hok e
 cases r0
 refine⟨rs,c,dd,fun h' dd' hs=>⟨.ref s.heap.objs.size,_,?_,rfl,q2⟩⟩
 have hz:(uV [] kvs).length<=sizeLine:=by
  have h1:=vJ kvs []
  rw [List.length_nil] at h1
  rw [sizeLine_eq];omega
 have he:∃q,h'.get? s.heap.objs.size=some q:=let ⟨q,_,_,hq,_⟩:=dd';⟨q,hq⟩
 exact Bd I2 (by rw [e];exact True.intro) hs he (Ko hz hd (rk.merge .nil) dd')
structure M1 (X:Cx) (o:Expr) (m:Str) (apos:Pos) (e:Expr) (cpos:Pos):Prop where
 base:attributeBase o m X.env (eval o X.env)=eval o X.env
 few:((backTo cpos (starEach [e] X.env)).all (fun x=>!x.1) && (backToKw cpos (keywordEach [] X.env)).all (fun x=>x.1.isSome)
  && decide (([e]:List Expr).length+([]:List Keyword).length+(if ([]:List Keyword).isEmpty then 0 else 1) <30))=true
 line:(apos.endLine == cpos.line)=true
 trees:backTo cpos (starEach [e] X.env)=[(false,eval e X.env)]
structure M2 (X:Cx) (o:Expr) (m:Str) (apos:Pos) (e f:Expr) (cpos:Pos):Prop where
 base:attributeBase o m X.env (eval o X.env)=eval o X.env
 few:((backTo cpos (starEach [e,f] X.env)).all (fun x=>!x.1) && (backToKw cpos (keywordEach [] X.env)).all (fun x=>x.1.isSome)
  && decide (([e,f]:List Expr).length+([]:List Keyword).length+(if ([]:List Keyword).isEmpty then 0 else 1) <30))=true
 line:(apos.endLine == cpos.line)=true
 trees:backTo cpos (starEach [e,f] X.env)=[(false,eval e X.env),(false,eval f X.env)]
noncomputable def YW (H:Hp) (a:Addr):Prop:=(∃kvs,Rd H a (.dK kvs))∨∃kvs,Rd H a (.dT kvs)
theorem Rz {X:Cx} {pins:List (Addr×Obj)} {σ:St} {H:Hp} {s:Shared} {a:Addr} (I:Inv X pins σ H s) (d:YW H a):
  s.TypeIs (.ref a) "dict" /\(∀b,Value.ref a=.ref b->∃ob,s.heap.get? b=some ob/\ob.dict=none)/\(a == sysModules)=false:=by
 rcases d with ⟨kvs,e⟩ | ⟨kvs,e⟩
 ·obtain⟨_,hd,vs,_,dd⟩:=vV I.hok e
  refine⟨dd.typeIs,fun b q=>?_,hd⟩
  cases q
  obtain⟨ob,_,_,h1,h2,_⟩:=dd
  exact⟨ob,h1,h2.2.1⟩
 ·obtain⟨_,hd,xs,_,dd⟩:=Bv I.hok e
  refine⟨dd.typeIs,fun b q=>?_,hd⟩
  cases q
  obtain⟨ob,_,_,h1,h2,_⟩:=dd
  exact⟨ob,h1,h2.2.1⟩
section
variable {X:Cx} {pins:List (Addr×Obj)} {σ:St} {H:Hp} {s:Shared} {a:Addr} {y d:V} {u r:Value} {o:Option V} {A:Around} {E:Value->Shared->Prop}
theorem V7 {Q:Value->Shared->Prop} (hu:A.units+1 <cLine) (I:Inv X pins σ H s) (g:d9 H a y o) (ry:RelV y u) (rd:RelV d r) (h:∀w' s',Inv X pins σ H s'->RelV (o.getD d) w'->Q w' s'):
  wpAny (model X.prog X.w) A (call (.builtin "dict.get") [.ref a,u,r]) Q E s:=by
 rcases g with ⟨kvs,k,e,ey,l⟩ | ⟨kvs,k,b,e,ey,eb,l⟩
 ·subst ey
  obtain⟨z,hd,vs,rel,dd⟩:=vV I.hok e
  refine call_meetsIn PySem.F.slot_dict_get dd.typeIs PySem.F.entry_dict_get (PySem.F.args_dict_get_3 _ _ _) (meets_dict_get_default (cj X.prog X.w) a (zN ry) hd r) ⟨_,dd.mapOf,h _ _ (I.tok _) ?_⟩
  rw [l]
  exact(rel.val k).getD rd
 ·subst ey
  cases (show u=Value.ref b from ry)
  obtain⟨z,hd,xs,rel,dd⟩:=Bv I.hok e
  refine call_meetsIn PySem.F.slot_dict_get dd.typeIs PySem.F.entry_dict_get (PySem.F.args_dict_get_3 _ _ _) (meetsH_dict_get_default (tupleKind (cj X.prog X.w)) a b hd r) ⟨tupleKind_room_in1 hu,k,xs,yL I.hok eb,dd,h _ _ (I.tok _) ?_⟩
  rw [l]
  exact(rel.val k).getD rd
end
inductive Mm (ty:TE) (tx:TE) (σ:St) (Q:VK) (x:V) (H1:Hp):Prop where
 | mk:∀a,x=.ref a->YW H1 a->(ty σ H1 fun y H2=>tx σ H2 fun z H3=>∃o,d9 H3 a y o/\Q (o.getD z) H3)->Mm ty tx σ Q x H1
noncomputable def Vo (td ty tx:TE):TE:=fun σ H Q=>td σ H fun x H1=>Mm ty tx σ Q x H1
inductive Mf (ty:TE) (σ:St) (Q:VK) (x:V) (H1:Hp):Prop where
 | mk:∀a,x=.ref a->YW H1 a->(ty σ H1 fun y H2=>∃kvs k v,H2 a=some (.dK kvs)/\y=kV k/\bT kvs k=some v/\Q v (upd H2 a (.dK (Dg kvs k))))->Mf ty σ Q x H1
noncomputable def V5 (td ty:TE):TE:=fun σ H Q=>td σ H fun x H1=>Mf ty σ Q x H1
section
variable {X:Cx} {o e f:Expr} {apos cpos:Pos} {td ty tx:TE}
theorem Qa (hu:X.A.units+1 <cLine) (ho:PE X o td) (he:PE X e ty) (hf:PE X f tx) (m:M2 X o "get" apos e f cpos):PE X (.Call (.Attribute o "get" apos) [e,f] [] cpos) (Vo td ty tx):=by
 intro pins s σ H Q I h
 refine wpAny_Call_method m.base m.few m.line PySem.F.plainAttrs_dict PySem.F.slot_dict_get PySem.F.type_dict_get (dI (ho pins s σ H _ I h) fun u s1 hpt=>?_)
 obtain⟨x,H1,I1,rx,a,ex,d,q1⟩:=hpt
 subst ex
 obtain rfl:u=Value.ref a:=rx
 obtain⟨t1,t2,_⟩:=Rz I1 d
 refine⟨t1,t2,?_⟩
 rw [m.trees]
 refine Calls.callWith_builtin rfl (Calls.evalArgs_plain (Calls.spliced_cons (dI (he pins s1 σ H1 _ I1 q1) fun iv s2 ⟨y,H2,I2,ry,q2⟩=>
  Calls.spliced_cons (dI (hf pins s2 σ H2 _ I2 q2) fun fv s3 ⟨z,H3,I3,rz,ov,g,q3⟩=>Calls.spliced_nil ?_))))
 exact V7 hu I3 g ry rz fun w' s4 I4 rw'=>⟨_,H3,I4,rw',q3⟩
theorem Rf (ho:PE X o td) (he:PE X e ty) (m:M1 X o "pop" apos e cpos):PE X (.Call (.Attribute o "pop" apos) [e] [] cpos) (V5 td ty):=by
 intro pins s σ H Q I h
 refine wpAny_Call_method m.base m.few m.line PySem.F.plainAttrs_dict PySem.F.slot_dict_pop PySem.F.type_dict_pop (dI (ho pins s σ H _ I h) fun u s1 hpt=>?_)
 obtain⟨x,H1,I1,rx,a,ex,d,q1⟩:=hpt
 subst ex
 obtain rfl:u=Value.ref a:=rx
 obtain⟨t1,t2,_⟩:=Rz I1 d
 refine⟨t1,t2,?_⟩
 rw [m.trees]
 refine Calls.callWith_builtin rfl (Calls.evalArgs_plain (Calls.spliced_cons (dI (he pins s1 σ H1 _ I1 q1) fun iv s2 ⟨y,H2,I2,ry,kvs,k,v,ea,ey,l,q2⟩=>Calls.spliced_nil ?_)))
 subst ey
 exact Wq I2 ea ry l (.inl rfl) fun w' s3 I3 rw'=>⟨v,_,I3,rw',q2⟩
end
section
variable {X:Cx} {pins:List (Addr×Obj)} {σ:St} {H:Hp} {s:Shared} {a:Addr} {kvs:List (Key×V)} {A:Around} {E:Value->Shared->Prop}
end
section
variable {X:Cx} {pins:List (Addr×Obj)} {σ:St} {H:Hp} {s:Shared} {a:Addr} {y:V} {u:Value} {A:Around} {E:Value->Shared->Prop}
end
section
variable {X:Cx} {pins:List (Addr×Obj)} {σ:St} {H:Hp} {s:Shared} {d:Addr} {kvs:List (Key×V)}
theorem Inv.chill (I:Inv X pins σ H s) (e:H d=some (.dK kvs)):∃o,s.heap.get? d=some o/\Inv X pins σ (upd H d (.frz o (.dK kvs))) s:=by
 obtain⟨z,hd,vs,rel,o,es,ep,ho,r⟩:=(show fQ X.prog X.w H s.heap d (.dK kvs) from I.hok d _ e)
 refine⟨o,ho,?_⟩
 have:=I.write (x:=d) (e:=d) (o:=.frz o (.dK kvs)) (h':=s.heap) (t':=s.toks) (by rw [e];exact True.intro) (.inl rfl) (fun b u _ q=>q) ⟨o,ho⟩ ⟨ho,z,hd,vs,rel,o,es,ep,ho,r⟩
 exact this
theorem Inv.melt {o:Obj} (I:Inv X pins σ H s) (e:H d=some (.frz o (.dK kvs))) (h0:∀o u,X.H₀ d≠some (.frz o u)):Inv X pins σ (upd H d (.dK kvs)) s:=by
 have ne:∀b u,H b=some u->(∀o v,u≠.frz o v)->b≠d:=fun b u q n z=>by
  rw [z,e] at q
  exact n _ _ (Option.some.inj q).symm
 have no:∀b,H b=none->b≠d:=fun b q z=>by rw [z,e] at q;cases q
 refine⟨I.ok,I.os,I.bare,⟨I.base.keep,I.base.slot,fun b u q n hx=>?_,I.base.there,fun b xs q=>?_,fun b u v q=>?_,fun b ps q=>?_⟩,I.loc,I.cell,?_,fun y c q=>?_,fun p h=>?_,fun b u q=>?_,I.len⟩
 ·have z:=I.base.free b u q n hx
  rw [aK (no b z)];exact z
 ·have z:=I.base.tups b xs q
  rw [aK (ne b _ z (by intro _ _ w;cases w))];exact z
 ·have z:=I.base.frzs b u v q
  rw [aK (fun w=>by rw [w] at q;exact h0 _ _ q)];exact z
 ·obtain⟨m,z⟩:=I.base.tbls b ps q
  exact⟨m,by rw [aK (ne b _ z (by intro _ _ w;cases w))];exact z⟩
 ·rw [aK (no _ I.free)];exact I.free
 ·rw [aK (no _ (I.freeC y c q))];exact I.freeC y c q
 ·obtain⟨z1,z2,r⟩:=I.pin p h
  exact⟨z1,by rw [aK (no _ z2)];exact z2,r⟩
 ·by_cases w:b=d
  ·subst w
   rw [az] at q
   cases q
   exact(I.hok b _ e).2
  ·rw [aK w] at q
   exact(I.hok b u q).stay (fun _ _ _ z=>z) (fun c z=>by rw [aK (ne c _ z (by intro _ _ w;cases w))];exact z) fun c xs z=>by rw [aK (ne c _ z (by intro _ _ w;cases w))];exact z
end
inductive VD (H0 H H':Hp):Prop where
 | mk:∀d o kvs,H d=some (.frz o (.dK kvs))->((∀o u,H0 d≠some (.frz o u)))->H'=upd H d (.dK kvs)->VD H0 H H'
section
variable {X:Cx} {H0:Hp} {st:Stmt} {sts:List Stmt} {e:Expr} {t:TS} {te:TE}
theorem xY (hH:X.H₀=H0) (h:PS X st t):PS X st (fun D σ H=>t { D with nx:=fun σ' H'=>∃H'',VD H0 H' H''/\D.nx σ' H'' } σ H):=by
 subst hH
 intro pins s σ H D I hh
 refine dI (h pins s σ H _ I hh) fun f s1 q=>?_
 cases f with
 | next=>obtain⟨σ',H',I',H'',⟨d,o,kvs,e,n,rfl⟩,q⟩:=q;exact⟨σ',_,I'.melt e n,q⟩
 | ret v=>exact q
 | brk=>exact q
 | cont=>exact q
theorem S7 (hH:X.H₀=H0) (h:PE X e te):PE X e (fun σ H Q=>te σ H fun v H1=>∃H2,VD H0 H1 H2/\Q v H2):=by
 subst hH
 intro pins s σ H Q I hh
 refine dI (h pins s σ H _ I hh) fun u s1 q=>?_
 obtain⟨v,H1,I1,r,H2,⟨d,o,kvs,e,n,rfl⟩,q⟩:=q
 exact⟨v,_,I1.melt e n,r,q⟩
end
noncomputable def We (d:Addr) (o:Obj) (kvs:List (Key×V)):It:=
 ⟨fun i H=>H d=some (.frz o (.dK kvs))/\i <kvs.length,fun i H x H'=>H'=H/\∃k v,kvs[i]?=some (k,v)/\x=kV k,fun i H=>H d=some (.frz o (.dK kvs))/\kvs.length<=i⟩
theorem JQ {P:Program} {w:World} {k:Key} {u:Value} (h:(cj P w).is k u=true):RelV (kV k) u:=by
 rcases eO (k:=k) (v:=u) h with ⟨i,t,rfl,rfl⟩ | ⟨x,t,rfl,rfl⟩
 ·exact⟨t,rfl⟩
 ·exact⟨t,rfl⟩
theorem Hg:∀{kvs:List (Key×V)} {vs:List (Key×Value)} {i:Nat} {k:Key} {v:V},KV kvs vs->kvs[i]?=some (k,v)->∃v',vs[i]?=some (k,v')
 | _,_,0,k,v,.cons h _,e=>by
  cases (Option.some.inj e)
  exact⟨_,by rw [List.getElem?_cons_zero,show k=_ from h.1]⟩
 | _,_,i+1,k,v,.cons _ t,e=>by
  obtain⟨v',z⟩:=Hg (i:=i) (k:=k) (v:=v) t (by simpa using e)
  exact⟨v',by simpa using z⟩
theorem Nv {P:Program} {w:World} {K:PySem.W.Frag} {tg:Expr} {d it:Addr} {o:Obj} {kvs:List (Key×V)} {vs:List (Key×Value)} {ep:Nat} (rel:KV kvs vs) (hD:∀h:Heap,h.get? d=some o->h.DictAt (cj P w) d vs ep):
  Turn P w K tg (We d o kvs) [it] it (fun i h=>h.IsKeyIter it d i vs.length ep) where
 mem:=by simp
 obj:=fun i h st b hb=>by
  have e:b=it:=by simpa using hb
  subst e
  obtain⟨o,e,c,d⟩:=st
  exact⟨o,e,fun v z=>by rw [d] at z;cases z⟩
 keep:=fun i h h' st k=>st.at fun o e=>k it (by simp) o e
 item:=by
  intro X hP hw hK hc i pins s σ H E I hf st hg
  subst hP hw hK
  obtain⟨hq,hi⟩:=hg
  obtain⟨f0,f1,f2,f3,f4,f5⟩:=hf it (by simp)
  have ho:s.heap.get? d=some o:=(I.hok d _ hq).1
  have hl:kvs.length=vs.length:=Paired.length rel
  obtain⟨k,v,ek⟩:∃k v,kvs[i]?=some (k,v):=⟨_,_,List.getElem?_eq_getElem hi⟩
  obtain⟨v',ev⟩:=Hg rel ek
  refine wpAny_pyNext_dict_item st (hD _ ho) ev fun key h' hk st' sb=>?_
  have I1:Inv X pins σ H { s with heap:=h' }:=I.turned (t':=s.toks) (fun b o hb e=>(sb.2 b hb).trans e) f0 f1 f3 f4 f5
  obtain⟨o',e,c,dd⟩:=id st'
  exact⟨key,rfl,Jl (s:={ s with heap:=h' }) e c dd (by decide) ⟨kV k,H,I1,JQ hk,⟨rfl,k,v,ek,rfl⟩,st',fun b hb=>(hf b hb).1⟩⟩
 done:=by
  intro X hP hw hK hc i pins s σ H E I hf st hg
  subst hP hw hK
  obtain⟨hq,hi⟩:=hg
  obtain⟨f0,f1,f2,f3,f4,f5⟩:=hf it (by simp)
  have ho:s.heap.get? d=some o:=(I.hok d _ hq).1
  have hl:kvs.length=vs.length:=Paired.length rel
  exact wpAny_pyNext_dict_end (I.ok.hd hc) st (hD _ ho) (List.getElem?_eq_none (by omega)) fun h' eb=>⟨rfl,I.turned (t':=s.toks) (fun b o hb e=>eb b o hb e) f0 f1 f3 f4 f5⟩
 self:=fun _ _ _ _ _ st h=>wpAny_pyIter_keyiter st h
inductive QX (R:It->Hp->Prop) (x:V) (H1:Hp):Prop where
 | mk:∀d kvs,x=.ref d->H1 d=some (.dK kvs)->(∀o,R (We d o kvs) (upd H1 d (.frz o (.dK kvs))))->QX R x H1
noncomputable def Xp (td:TE):TI:=fun σ H R=>td σ H fun x H1=>QX R x H1
theorem xW {X:Cx} {tg l:Expr} {td:TE} (hl:PE X l td):PI X tg l (Xp td):=by
 intro pins s σ H R I h
 refine dI (hl pins s σ H _ I h) fun v s1 hpt=>?_
 obtain⟨x,H1,I1,r1,q1⟩:=hpt
 obtain⟨d,kvs,e,ed,q⟩:=q1
 subst e
 cases r1
 obtain⟨_,hd,vs,rel,o0,es,ep,ho0,r⟩:=(show fQ X.prog X.w H1 s1.heap d (.dK kvs) from I1.hok d _ ed)
 obtain⟨o,ho,I2⟩:=I1.chill ed
 obtain rfl:o0=o:=Option.some.inj (ho0.symm.trans ho)
 have hD:∀h:Heap,h.get? d=some o0->h.DictAt (cj X.prog X.w) d vs ep:=fun h z=>⟨o0,es,z,r⟩
 refine wpAny_pyIter_dict hd (hD _ ho) ?_
 refine⟨s1.heap.objs.size,[s1.heap.objs.size],_,_,_,rfl,I2.kept (t':=s1.toks) fun b o e=>Heap.get?_push_of_some _ e,Nv rel hD,⟨_,Heap.get?_push_size _ rfl,rfl,rfl⟩,fun b hb=>?_,q o0⟩
 have e:b=s1.heap.objs.size:=by simpa using hb
 subst e
 exact I2.fpOk (Nat.le_refl _) (I2.hok.fresh (Nat.le_refl _))
theorem wZ {d:Addr} {o:Obj} {kvs:List (Key×V)} {g:TG} {tb:TS} {D:Ends} {σ:St} {H:Hp} (Pv:Nat->St->Hp->Prop) (h0:Pv 0 σ H) (hl:∀i σ H,i<=kvs.length->Pv i σ H->H d=some (.frz o (.dK kvs)))
  (hs:∀i k v σ H,kvs[i]?=some (k,v)->Pv i σ H->g (kV k) σ H fun σ2 H2=>tb { D with nx:=Pv (i+1),ct:=Pv (i+1),bk:=D.nx } σ2 H2) (hd:∀σ H,Pv kvs.length σ H->D.nx σ H):
  ∃W:Nat->Nat->St->Hp->Prop,(∃m,W 0 m σ H)/\∀i m σ H,W i m σ H->
   ((We d o kvs).stop i H/\D.nx σ H)∨((We d o kvs).go i H/\∃N:St->Hp->Prop,(∀σ' H',N σ' H'->∃m',m' <m/\W (i+1) m' σ' H')/\∀x H',(We d o kvs).yld i H x H'->g x σ H' fun σ2 H2=>tb { D with nx:=N,ct:=N,bk:=D.nx } σ2 H2):=by
 refine⟨fun i m σ H=>m=kvs.length - i/\i<=kvs.length/\Pv i σ H,⟨kvs.length,by simp,Nat.zero_le _,h0⟩,?_⟩
 rintro i m σ H ⟨rfl,hi,p⟩
 have q:=hl i σ H hi p
 by_cases hlt:i <kvs.length
 ·refine .inr ⟨⟨q,hlt⟩,Pv (i+1),fun σ' H' p'=>⟨kvs.length - (i+1),by omega,rfl,hlt,p'⟩,fun x H' y=>?_⟩
  obtain⟨rfl,k,v,ek,rfl⟩:=y
  exact hs i k v σ _ ek p
 ·obtain rfl:i=kvs.length:=by omega
  exact .inl ⟨⟨q,Nat.le_refl _⟩,hd σ H p⟩
theorem Oi {js:List Nat} {tt:TT} {te:TE} {σ:St} {Qd:List V->Hp->Prop} {d:Addr} {o:Obj} {kvs:List (Key×V)} {H:Hp} (Pv:Nat->List V->Hp->Prop) (hn:kvs.length<=sizeLine) (h0:Pv 0 [] H) (hl:∀i ys H,Pv i ys H->ys.length<=i) (hq:∀i ys H,i<=kvs.length->Pv i ys H->H d=some (.frz o (.dK kvs)))
  (hs:∀i k v ys H,kvs[i]?=some (k,v)->Pv i ys H->tt (some (kV k):: dO σ js) H fun b H4=>if b=true then te (some (kV k):: dO σ js) H4 fun y H5=>Pv (i+1) (ys ++ [y]) H5 else Pv (i+1) ys H4)
  (hd:∀ys H,Pv kvs.length ys H->Qd ys H):CompEnd js tt te σ Qd (We d o kvs) H:=by
 refine⟨fun i m ys H=>m=kvs.length - i/\i<=kvs.length/\Pv i ys H,⟨kvs.length,by simp,Nat.zero_le _,h0⟩,?_⟩
 rintro i m ys H ⟨rfl,hi,p⟩
 have hlen:=hl i ys H p
 have q:=hq i ys H hi p
 by_cases hlt:i <kvs.length
 ·refine .inr ⟨⟨q,hlt⟩,by omega,Pv (i+1),fun ys' H' p'=>⟨kvs.length - (i+1),by omega,rfl,hlt,p'⟩,fun x H' y=>?_⟩
  obtain⟨rfl,k,v,ek,rfl⟩:=y
  exact hs i k v ys _ ek p
 ·obtain rfl:i=kvs.length:=by omega
  exact .inl ⟨⟨q,Nat.le_refl _⟩,by omega,hd ys H p⟩
theorem uR:∀{xs:List V} {us:List Value},us.length=xs.length->(∀(j:Nat) x u,xs[j]?=some x->us[j]?=some u->RelV x u)->Vals xs us
 | [],[],_,_=>.nil
 | [],_:: _,h,_=>by simp at h
 | _:: _,[],h,_=>by simp at h
 | x:: xs,u:: us,h,r=>.cons (r 0 x u rfl rfl) (uR (by simpa using h) fun j y v h1 h2=>r (j+1) y v (by simpa using h1) (by simpa using h2))
theorem oW {X:Cx} (hc:X.calm=true):jZ X (.type "list") (fun xs H Q=>∃d kvs,xs=[.ref d]/\Rd H d (.dK kvs)/\∀l,H l=none->Q (.ref l) (upd H l (.lst (kvs.map fun p=>kV p.1)))):=by
 intro pins s σ H xs us Q I rx h
 obtain⟨d,kvs,rfl,hr,q⟩:=h
 obtain⟨u,rfl,ru⟩:=vals1 rx
 cases ru
 obtain⟨z,hd,vs,rel,dd⟩:=vV I.hok hr
 obtain⟨ep,da⟩:=dd.dictAt
 have hl:kvs.length=vs.length:=Paired.length rel
 refine PySem.W.kdl_call (PySem.W.kdl_dict (knd:=cj X.prog X.w) (kvs:=vs) (ep:=ep) hd) (I.ok.hd hc) da (by omega) fun h' tk acc' c' kp e' hi=>?_
 refine⟨.ref s.heap.objs.size,_,I.laid (t':=tk) kp (Nat.le_refl _) (show fQ X.prog X.w _ h' _ (.lst (kvs.map fun p=>kV p.1)) from⟨by rw [List.length_map];exact z,acc'.toList,c',uR (by rw [Array.length_toList,hi.1,List.length_map,hl]) fun j x u hx hu=>?_,by simpa using e'⟩),rfl,q _ (I.hok.fresh (Nat.le_refl _))⟩
 obtain⟨k,v,hkv,hk⟩:=hi.2 j u (by rw [<-Array.getElem?_toList];exact hu)
 rw [List.getElem?_map] at hx
 obtain⟨p,hp,rfl⟩:=Option.map_eq_some_iff.mp hx
 obtain⟨v',hv'⟩:=Hg rel (k:=p.1) (v:=p.2) hp
 rw [hkv] at hv'
 cases hv'
 exact JQ hk
section
variable {X:Cx} {pins:List (Addr×Obj)} {σ:St} {H:Hp} {s:Shared}
end
section
variable {X:Cx} {tg:Expr}
end
theorem jg.u1 {k:Nat} {A:Around} (r:jg k A):A.units+1 <cLine:=by have:=r.units;omega
section
variable {prog:Program} {w:World} {A:Around} {E:Value->Shared->Prop} {s:Shared}
end
theorem Oh {X:Cx} {K:PySem.W.Frag} (hK:X.K=K):jZ X (.builtin "isinstance") (fun xs H Q=>∃x Tx T b,xs=[x,.ty T]/\Xu K H x Tx/\T∈Jy/\Gu Tx T=b/\Q (.bl b) H):=by subst hK;exact lV
theorem Hu {X:Cx} {K:PySem.W.Frag} {e:Expr} {f:Str} {pos:Pos} {ta:TE} (hK:X.K=K) (he:PE X e ta) (hb:attributeBase e f X.env (eval e X.env)=eval e X.env):PE X (.Attribute e f pos) (Xj K ta f):=by subst hK;exact bh he hb
theorem qW {X:Cx} {K:PySem.W.Frag} (hK:X.K=K):wA X (compareOp .NotIn) (Ys K true):=by subst hK;exact jQ
section
variable {X:Cx} {P:Program} {w:World} {K:PySem.W.Frag} {mg:Str->Option Value} {base:Heap} {CX:Et} {k:Nat} {E:XK} {m:Str} {pos apos:Pos} {e o:Expr} {es:List Expr} {ta:TE} {t:TA}
theorem KH {pl:Sem Bool} (hP:X.prog=P) (hw:X.w=w) (hK:X.K=K) (hm:X.mg=mg) (hb:X.base=base) (he:PE X o ta) (hr:jg k X.A) (hx:qP CX X E)
  (ht:eval (.Call (.Attribute o m apos) [] [] pos) X.env=(do
   let ov <-eval o X.env
   standAt apos.atName
   let (f,first) <-holding [ov] (getMethod ov m pl)
   callWith pos f first (backTo pos (starEach [] X.env)) (backToKw pos (keywordEach [] X.env))):=by rfl):
  PE X (.Call (.Attribute o m apos) [] [] pos) (Kq P w K mg base CX k m E ta Q7):=by
 subst hP hw hK hm hb
 exact Eu he hr hx ht
end
section
variable {prog:Program} {w:World} {A:Around} {R:Result->Shared->Prop} {s:Shared}
theorem WM {elt tg iter:Expr} {ifs:List Expr} {scope:Scope} {pos:Pos} {it acc:Value} {env:Env} (J:Nat->Shared->Prop)
  (turn:∀k s1,J k s1->wpAny (model prog w) A (pyNext it) (fun r s2=>match r with
   | none=>R (.ok .next) s2
   | some v=>wpAny (model prog w) A (letOwnedTupleGo tg it v) (fun _ s3=>wpAny (model prog w) A (assign tg env v) (fun _ s4=>
     wpAny (model prog w) A (forIn ifs true fun c r=>if r=true then do let ok <-isTrue c env (eval c env);pure (ForInStep.yield ok) else pure (ForInStep.yield r)) (fun ok s5=>
      if ok=true then wpAny (model prog w) A (eval elt env) (fun y s6=>wpAny (model prog w) A (call (.builtin "list.append") [acc,y]) (fun _ s7=>∃m,m <k/\J m s7) (notedBy (model prog w) A env fun e s'=>R (.error e) s') s6)
       (notedBy (model prog w) A env fun e s'=>R (.error e) s') s5
      else ∃m,m <k/\J m s5) (notedBy (model prog w) A env fun e s'=>R (.error e) s') s4) (notedBy (model prog w) A env fun e s'=>R (.error e) s') s3) (notedBy (model prog w) A env fun e s'=>R (.error e) s') s2)
   (notedBy (model prog w) A env fun e s'=>R (.error e) s') s1)
  (k:Nat) (h:J k s):codeAny (model prog w) A (.compLoop (.ListComp elt [⟨tg,iter,ifs,0⟩] scope pos) 0 it acc env) R s:=by
 refine codeAny_loop rfl J (fun k s1 hJ=>?_) k h
 show wpAny _ A ((compTurn (.ListComp elt [⟨tg,iter,ifs,0⟩] scope pos) 0 it acc env).onRaise (fun e=>do noteFrame e env;theTreesLotGoes e)) _ _ s1
 refine wpAny_noted ?_
 rw [compTurn_list]
 refine wpAny_bind (wpAny_standAt (wpAny_bind (wpAny_mono (turn k s1 hJ) (fun r s2 h2=>?_) fun _ _ z=>z)))
 cases r with
 | none=>exact wpAny_pure h2
 | some v=>
  refine wpAny_bind (wpAny_mono h2 (fun _ s3 h3=>wpAny_bind (wpAny_mono h3 (fun _ s4 h4=>wpAny_bind (wpAny_mono h4 (fun ok s5 h5=>?_) fun _ _ z=>z)) fun _ _ z=>z)) fun _ _ z=>z)
  cases ok with
  | false=>exact wpAny_pure ⟨rfl,h5⟩
  | true=>exact wpAny_bind (wpAny_bind (wpAny_mono h5 (fun y s6 h6=>wpAny_bind (wpAny_mono h6 (fun _ s7 h7=>wpAny_pure (wpAny_pure ⟨rfl,h7⟩)) fun _ _ z=>z)) fun _ _ z=>z))
end
section
variable {X:Cx} {tg:Expr} {g:TG} {pos:Pos} {iter elt:Expr} {ifs:List Expr} {scope:Scope} {wi:TI} {tt:TT} {te:TE}
end
theorem Ou {X:Cx} (hc:X.calm=true):jZ X (.builtin "min") (fun xs H Q=>∃(p:Addr) (a b:Int),xs=[.ref p]/\bI X.K H p [.int a,.int b]/\Q (.int (if b <a then b else a)) H):=by
 intro pins s σ H xs us Q I r h
 obtain⟨p,a,b,rfl,hq,q⟩:=h
 obtain⟨u,rfl,rx⟩:=vals1 r
 cases rx
 obtain⟨its,rv,pl,_⟩:=I.list hq
 obtain⟨v1,v2,rfl,⟨t1,rfl⟩,⟨t2,rfl⟩⟩:=vals2 rv
 have hl:s.heap.IsList p (intItems #[(a,t1),(b,t2)]):=by simpa [intItems] using pl.isList
 refine min_intList (I.ok.hd hc) hl (by simp) fun v h' tk hv hk=>?_
 obtain⟨t,rfl⟩:=intItems_at hv
 obtain⟨h1,h2⟩:=argBest_lt (numAt #[(a,t1),(b,t2)]) (#[(a,t1),(b,t2)].size - 1)
 have h1':argBest (fun i j=>decide (numAt #[(a,t1),(b,t2)] i <numAt #[(a,t1),(b,t2)] j)) (#[(a,t1),(b,t2)].size - 1)<=1:=h1
 have ha:_<=a:=h2 0 (Nat.zero_le _)
 have hb:_<=b:=h2 1 (by simp)
 generalize argBest (fun i j=>decide (numAt #[(a,t1),(b,t2)] i <numAt #[(a,t1),(b,t2)] j)) (#[(a,t1),(b,t2)].size - 1)=k at h1' ha hb ⊢
 refine⟨.int (numAt #[(a,t1),(b,t2)] k),H,I.kept hk,⟨_,rfl⟩,?_⟩
 have e:numAt #[(a,t1),(b,t2)] k=if b <a then b else a:=by
  match k,h1',ha,hb with
  | 0,_,_,hb=>
   have hb':a<=b:=hb
   rw [if_neg (by omega)];rfl
  | 1,_,ha,_=>
   have ha':b<=a:=ha
   show b=_
   by_cases z:b <a
   ·rw [if_pos z]
   ·rw [if_neg z];omega
 rw [e]
 exact q
theorem Nx {X:Cx} (hc:X.calm=true):jZ X (.builtin "max") (fun xs H Q=>∃(p:Addr) (a b:Int),xs=[.ref p]/\bI X.K H p [.int a,.int b]/\Q (.int (if b <a then a else b)) H):=by
 intro pins s σ H xs us Q I r h
 obtain⟨p,a,b,rfl,hq,q⟩:=h
 obtain⟨u,rfl,rx⟩:=vals1 r
 cases rx
 obtain⟨its,rv,pl,_⟩:=I.list hq
 obtain⟨v1,v2,rfl,⟨t1,rfl⟩,⟨t2,rfl⟩⟩:=vals2 rv
 have hl:s.heap.IsList p (intItems #[(a,t1),(b,t2)]):=by simpa [intItems] using pl.isList
 refine max_intList (I.ok.hd hc) hl (by simp) fun v h' tk hv hk=>?_
 obtain⟨t,rfl⟩:=intItems_at hv
 obtain⟨h1,h2⟩:=argBest_gt (numAt #[(a,t1),(b,t2)]) (#[(a,t1),(b,t2)].size - 1)
 have h1':argBest (fun i j=>decide (numAt #[(a,t1),(b,t2)] i >numAt #[(a,t1),(b,t2)] j)) (#[(a,t1),(b,t2)].size - 1)<=1:=h1
 have ha:a<=_:=h2 0 (Nat.zero_le _)
 have hb:b<=_:=h2 1 (by simp)
 generalize argBest (fun i j=>decide (numAt #[(a,t1),(b,t2)] i >numAt #[(a,t1),(b,t2)] j)) (#[(a,t1),(b,t2)].size - 1)=k at h1' ha hb ⊢
 refine⟨.int (numAt #[(a,t1),(b,t2)] k),H,I.kept hk,⟨_,rfl⟩,?_⟩
 have e:numAt #[(a,t1),(b,t2)] k=if b <a then a else b:=by
  match k,h1',ha,hb with
  | 0,_,_,hb=>
   have hb':b<=a:=hb
   show a=_
   by_cases z:b <a
   ·rw [if_pos z]
   ·rw [if_neg z];omega
  | 1,_,ha,_=>
   have ha':a<=b:=ha
   rw [if_neg (by omega)];rfl
 rw [e]
 exact q
theorem Lz {X:Cx} {K:PySem.W.Frag} {es:List Expr} {k:Nat} {pos:Pos} {t:RJ} {n:Nat} (hK:X.K=K) (hc:X.calm=true) (h:Wz X es t)
  (hn:(assignEach es X.env).length=n:=by rfl) (hst:(assignEach es X.env).findIdx? (·.1)=none:=by rfl):PG X (.Tuple es k pos) (WP K n t):=by
 subst hK
 exact wH hc h hn hst
noncomputable def lC (X:Cx) (scope:Scope) (xs:List Str) (js:List Nat) (cl:List (Str×Addr)) (C:Addr) (s:Shared) (H:Hp) (ex:List Addr):Cx where
 prog:=X.prog
 w:=X.w
 K:=X.K
 mg:=X.mg
 base:=X.base
 A:=X.A
 N:=xs ++ dj X.N js
 s₀:=s
 H₀:=H
 env:=compEnvC scope cl C X.env
 outer:=X.stack
 stack:=X.stack
 ex:=ex
 fn:=fun _=>false
 calm:=X.calm
 pn:=[]
 xe:=fun _ _=>False
noncomputable def BW (xs:List Str) (js:List Nat) (σ:St) (g:TG) (tt:TT) (te:TE) (Qd:List V->Hp->Prop) (J:It) (H1:Hp):Prop:=∃W:Nat->Nat->List V->Hp->Prop,(∃m,W 0 m [] H1)/\∀i m ys H2,W i m ys H2->
 (J.stop i H2/\ys.length<=sizeLine/\Qd ys H2)∨
 (J.go i H2/\ys.length <sizeLine/\∃N:List V->Hp->Prop,(∀ys' H',N ys' H'->∃m',m' <m/\W (i+1) m' ys' H')/\∀x H3,J.yld i H2 x H3->g x ((xs.map fun _=>none) ++ dO σ js) H3 fun σ2 H4=>σ2.drop xs.length=dO σ js/\tt σ2 H4 fun b H5=>
  if b=true then te σ2 H5 fun y H6=>N (ys ++ [y]) H6 else N ys H5)
noncomputable def Py (xs:List Str) (js:List Nat) (wi:TI) (g:TG) (tt:TT) (te:TE):TE:=fun σ H Q=>wi σ H (BW xs js σ g tt te fun ys H2=>∀D,H2 D=none->Q (.ref D) (upd H2 D (.lst ys)))
section
variable {X:Cx} {tg:Expr} {g:TG} {pos:Pos} {iter elt:Expr} {ifs:List Expr} {scope:Scope} {wi:TI} {tt:TT} {te:TE}
theorem uU (xs:List Str) (js:List Nat) {pins:List (Addr×Obj)} {σ:St} {s:Shared} {itv:Value} {Q:List V->Hp->Prop} {RR:Value->Addr->Result->Shared->Prop} {E:Value->Shared->Prop}
  (hc:X.calm=true) (hk:scope.kind=.function) (hcell:∀y∈scope.names,y.2≠.cell)
  (hfree:∀y∈scope.names,y.2=.free->X.env.kindOf y.1=some .cell∨X.env.kindOf y.1=some .free)
  (hg:∀cl C s H ex,PG (lC X scope xs js cl C s H ex) tg g)
  (hif:∀cl C s H ex,PF (lC X scope xs js cl C s H ex) ifs tt) (he:∀cl C s H ex,PE (lC X scope xs js cl C s H ex) elt te)
  (hjs:∀y∈dj X.N js,scope.names.lookup y=some .free) (hit:PIE X pins σ tg (BW xs js σ g tt te Q) itv s)
  (hR:∀D C s' H2 ys m,Inv X pins σ (upd H2 D (.lst ys)) s'->H2 D=none->s'.heap.Ns C m->(∀h',Heap.SameBut C s'.heap h'->Inv X pins σ (upd H2 D (.lst ys)) { s' with heap:=h' })->Gq X pins (upd H2 D (.lst ys)) C->C≠D->Q ys H2->RR (.ref D) C (.ok .next) s'):
  wpAny (model X.prog X.w) X.A (newList []) (fun acc s₃=>wpAny (model X.prog X.w) X.A (newFunctionEnv scope X.env.globals (clos X.env scope.names []) [] X.env.qual none .none (some X.env)) (fun cenv s₄=>
   codeAny (model X.prog X.w) X.A (.compStart (.ListComp elt [⟨tg,iter,ifs,0⟩] scope pos) 0 itv acc { cenv with scope:=relabel scope X.env }) (RR acc cenv.locals) s₄) E s₃) E s:=by
 obtain⟨it,fp,tn,J,H1,rfl,I1,T,st1,f1,W,⟨m0,w0⟩,turn⟩:=hit
 refine wpAny_newObj_type (wpAny_newFunctionEnv hcell (by intro y hy;simp at hy) (fun h₁ hns₁ hsb₁=>?_) hk)
 dsimp only at hns₁ hsb₁ ⊢
 generalize hH2:s.heap.push { cls:=.type "list",dict:=none,data:=.seq ([]:List Value).toArray }=Hl at hns₁ hsb₁ ⊢
 generalize hDe:s.heap.objs.size=D
 have hCe:Hl.objs.size=D+1:=by rw [<-hH2,Heap.size_push,hDe]
 generalize hC:Hl.objs.size=C at hns₁ hsb₁ hCe ⊢
 subst hCe
 have hDC:D≠D+1:=Nat.ne_of_lt (Nat.lt_succ_self _)
 have lt:∀b o,s.heap.get? b=some o->b <D:=fun b o e=>hDe ▸ Heap.lt_size e
 have old:∀b o,s.heap.get? b=some o->h₁.get? b=some o:=fun b o e=>by
  have hb:=lt b o e
  refine hsb₁.extBut b o (Nat.ne_of_lt (Nat.lt_succ_of_lt hb)) (Heap.get?_push_of_some _ ?_)
  rw [<-hH2];exact Heap.get?_push_of_some _ e
 have accD:h₁.get? D=some { cls:=.type "list",dict:=none,data:=.seq ([]:List Value).toArray }:=by
  refine hsb₁.extBut _ _ hDC (Heap.get?_push_of_some _ ?_)
  rw [<-hH2,<-hDe];exact Heap.get?_push_size _ rfl
 have fresh:∀a,D<=a->H1 a=none:=fun a ha=>I1.hok.fresh (by rw [hDe];exact ha)
 have fpD:∀b∈fp,b <D:=fun b hb=>by
  obtain⟨o,e,_⟩:=T.obj 0 s.heap st1 b hb
  exact lt b o e
 have cellD:∀y c,X.env.cells.lookup y=some c->c <D:=fun y c e=>by
  obtain⟨v,q⟩:=I1.cell y c e
  exact hDe ▸ q.lt
 generalize hcl:clos X.env scope.names []=cl
 have clsub:∀y c,cl.lookup y=some c->X.env.cells.lookup y=some c:=by
  rw [<-hcl];exact Jp scope.names [] fun y a e=>by simp at e
 have frD:∀b∈frs X.stack,b <D:=fun b hb=>by
  obtain⟨_,o,ho,_⟩:=I1.stack.mem hb
  exact lt b o ho
 let Y:Cx:=lC X scope xs js cl (D+1) s H1 fp
 have kinds:∀y,Y.env.kindOf y=some .cell∨Y.env.kindOf y=some .free->∃k∈scope.names,k.1=y/\k.2=.free:=fun y hy=>by
  have hy':(relabel scope X.env).names.lookup y=some .cell∨(relabel scope X.env).names.lookup y=some .free:=hy
  rw [uc] at hy'
  cases q:scope.names.lookup y with
  | none=>rw [q] at hy';simp at hy'
  | some k=>
   have hm:=PySem.mem_of_lookup q
   refine⟨(y,k),hm,rfl,?_⟩
   have h1:k≠.cell:=hcell _ hm
   rw [q] at hy'
   simp only [Option.map_some,Option.some.injEq] at hy'
   by_cases hkf:k=.free
   ·exact hkf
   ·have:(k == NameKind.free)=false:=by simpa using hkf
    simp only [this,Bool.false_and,Bool.false_eq_true,if_false] at hy'
    rcases hy' with e | e
    ·exact absurd e h1
    ·exact absurd e hkf
 have okY:Y.Ok:=by
  refine⟨I1.ok.mod,hk,I1.ok.glob,I1.ok.blt,(by show s.heap.objs.size<=D+1;rw [hDe];exact Nat.le_succ _),fun y z c h1 h2=>I1.ok.inj y z c (clsub y c h1) (clsub z c h2),fun y hy=>?_,fun y c h _=>absurd h (by show ¬(false=true);decide),I1.ok.hd,I1.ok.frames,.inl rfl,fun b hb=>⟨Nat.ne_of_lt (Nat.lt_succ_of_lt (fpD b hb)),fun y c e z=>(f1 b hb).2.2.2.2.1 y c (clsub y c e) z⟩,
   fun b o e=>I1.bs b o e,Nat.le_trans I1.ok.bsz I1.sz,fun b o e hb=>?_,fun b hb hf=>?_,I1.stack,I1.stkFree⟩
  ·obtain⟨k,hm,e1,e2⟩:=kinds y hy
   show ∃c,cl.lookup y=some c
   rw [<-hcl]
   refine Cj scope.names [] y (.inr ⟨k,hm,e1,e2,?_⟩)
   have:=hfree k hm e2
   rw [e1] at this
   exact I1.ok.has y this
  ·obtain⟨_,_,_,h4,_,_⟩:=f1 b hb
   rcases h4 with z | z
   ·exact I1.ok.noex b o e z
   ·exact absurd (Nat.lt_of_lt_of_le (Heap.lt_size e) (Nat.le_trans I1.ok.bsz z)) (Nat.lt_irrefl _)
  ·rcases List.mem_cons.mp (I1.stkSub b hf) with z | z
   ·exact(f1 b hb).2.1 z
   ·exact(f1 b hb).2.2.1 z
 let σ0:St:=(xs.map fun _=>none) ++ dO σ js
 have IY:Inv Y [] σ0 H1 { s with heap:=h₁,toks:=s.toks+([]:List (Str×Value)).length }:=by
  refine⟨okY,rfl,I1.bare,Un.kept old,⟨_,hns₁,fun i y v e1 e2 e3=>?_⟩,fun y c e=>?_,fresh _ (Nat.le_succ _),fun y c e=>I1.freeC y c (clsub y c e),fun p hp=>absurd (show p∈([]:List (Addr×Obj)) from hp) (by simp),I1.hok.kept old,?_⟩
  ·by_cases hi:i <xs.length
   ·exfalso
    have e2':((xs.map fun _=>(none:Option V)) ++ dO σ js)[i]?=some (some v):=e2
    rw [List.getElem?_append_left (by rw [List.length_map];exact hi),List.getElem?_map,List.getElem?_eq_getElem hi] at e2'
    cases e2'
   ·have e1':(xs ++ dj X.N js)[i]?=some y:=e1
    have e2':((xs.map fun _=>(none:Option V)) ++ dO σ js)[i]?=some (some v):=e2
    rw [List.getElem?_append_right (by omega)] at e1'
    rw [List.getElem?_append_right (by rw [List.length_map];omega),List.length_map] at e2'
    generalize i - xs.length=i at e1' e2'
    unfold dj at e1'
    unfold dO at e2'
    rw [List.getElem?_map] at e1' e2'
    cases q:js[i]? with
    | none=>rw [q] at e1';cases e1'
    | some j=>
     rw [q] at e1' e2'
     simp only [Option.map_some,Option.some.injEq] at e1' e2'
     have hv:σ[j]?=some (some v):=by
      cases z:σ[j]? with
      | none=>rw [z] at e2';cases e2'
      | some w=>rw [z] at e2';simpa using e2'
     have hj:j <X.N.length:=by
      rw [<-I1.len];exact(List.getElem?_eq_some_iff.mp hv).1
     have hy:X.N[j]?=some y:=by
      rw [List.getElem?_eq_getElem hj] at e1' ⊢
      rw [<-e1'];rfl
     obtain⟨m,hn,hl⟩:=I1.loc
     have hmem:y∈dj X.N js:=List.mem_map.mpr ⟨j,List.mem_of_getElem? q,by rw [hy];rfl⟩
     have hfr:=hjs y hmem
     have hkx:=hfree _ (PySem.mem_of_lookup hfr) rfl
     have hvis:X5 X.env.scope y:=hkx.elim (fun z=>.inr (.inl z)) fun z=>.inr (.inr z)
     obtain⟨u,r,l⟩:=hl j y v hy hv hvis
     refine⟨u,r,?_⟩
     rcases l with ⟨kl,_⟩ | ⟨_,c,hc1,z⟩
     ·exfalso
      have kl':X.env.kindOf y=some .local:=kl
      rcases hkx with w | w <;> · rw [show X.env.kindOf y=_ from w] at kl';cases kl'
     ·obtain⟨c',hc'⟩:=Cj (env:=X.env) scope.names [] y (.inr ⟨_,PySem.mem_of_lookup hfr,rfl,rfl,c,hc1⟩)
      rw [hcl] at hc'
      have e4:=clsub y c' hc'
      rw [hc1] at e4
      cases e4
      obtain⟨o,ho,hd⟩:=z
      refine .inr ⟨?_,c,hc',o,old c o ho,hd⟩
      rcases e3 with e3 | e3 | e3
      ·exfalso
       have e3':(relabel scope X.env).names.lookup y=some .local:=e3
       rw [uc,hfr] at e3'
       simp only [Option.map_some,Option.some.injEq] at e3'
       split at e3' <;> cases e3'
      ·exact .inl e3
      ·exact .inr e3
  ·obtain⟨v,q⟩:=I1.cell y c (clsub y c e)
   obtain⟨o,ho,hd⟩:=q
   exact⟨v,o,old c o ho,hd⟩
  ·show((xs.map fun _=>(none:Option V)) ++ dO σ js).length=(xs ++ dj X.N js).length
   unfold dO dj
   rw [List.length_append,List.length_append,List.length_map,List.length_map,List.length_map]
 have mkR:∀(s':Shared) (H2:Hp) (ys:List V) (its:List Value) (σ':St),Inv Y [] σ' H2 s'->s'.heap.PlainList D its.toArray->Vals ys its->ys.length<=sizeLine->H2 D=none->Q ys H2->RR (.ref D) (D+1) (.ok .next) s':=by
  intro s' H2 ys its σ' I' pl rv hz hD hq
  obtain⟨m,hn,_⟩:=I'.loc
  have hn':s'.heap.Ns (D+1) m:=hn
  have hCn:H2 (D+1)=none:=I'.free
  have hch:∀b∈fp,(b∈X.ex∨X.s₀.heap.objs.size<=b)/\b≠X.env.locals/\(∀x c,X.env.cells.lookup x=some c->c≠b)/\∀p∈X.pn ++ pins,p.1≠b:=fun b hb=>by
   obtain⟨_,h2,_,h4,h5,h6⟩:=f1 b hb
   exact⟨h4,h2,h5,h6⟩
  have bs:Un (frs X.stack) fp H1 H2 s.heap s'.heap:=I'.base
  have all:∀h',Heap.SameBut (D+1) s'.heap h'->Inv X pins σ (upd H2 D (.lst ys)) { s' with heap:=h' }:=fun h' sb=>by
   have neD:∀b o,s.heap.get? b=some o->b≠D:=fun b o e=>Nat.ne_of_lt (lt b o e)
   have neC:∀b o,s.heap.get? b=some o->b≠D+1:=fun b o e=>Nat.ne_of_lt (Nat.lt_succ_of_lt (lt b o e))
   refine I1.call' (s':={ s' with heap:=h' }) (ch:=fp) I'.os ⟨fun b o e n hb hx=>?_,fun b o e n hb hx=>?_,fun b o e n hx=>?_,fun b o e hx=>?_,fun b xs e=>?_,fun b o u e=>?_,fun b ps e=>?_⟩ ?_ I'.bare hch
   ·exact(sb.2 b (neC b o e)).trans (bs.keep b o e n hb hx)
   ·obtain⟨sl,q⟩:=bs.slot b o e n hb hx
    exact⟨sl,(sb.2 b (neC b o e)).trans q⟩
   ·rw [aK (neD b o e)];exact bs.free b o e n hx
   ·obtain⟨o',q⟩:=bs.there b o e hx
    exact⟨o',(sb.2 b (neC b o e)).trans q⟩
   ·have:=bs.tups b xs e
    rw [aK (aD this hD)];exact this
   ·have:=bs.frzs b o u e
    rw [aK (aD this hD)];exact this
   ·obtain⟨more,q⟩:=bs.tbls b ps e
    exact⟨more,by rw [aK (aD q hD)];exact q⟩
   ·have h0:vp X.prog X.w H2 h':=fun b u e=>(I'.hok b u e).stay (fun c v hc q=>(sb.2 c (by
     rintro rfl
     rcases hc with z | z
     ·rw [z,e] at hCn;cases hCn
     ·rw [z] at hCn;cases hCn)).trans q) (fun _ q=>q) fun _ _ q=>q
    refine Ol h0 hD ?_
    obtain⟨n,e⟩:=pl
    exact⟨hz,its,n,rv,(sb.2 D hDC).trans e⟩
  have hall:=all s'.heap (.refl ..)
  refine hR D (D+1) s' H2 ys m hall hD hn' all ?_ hDC.symm hq
  refine⟨by rw [aK hDC.symm];exact hCn,?_,?_,.inr (Nat.le_trans I1.sz (by rw [hDe];exact Nat.le_succ _)),fun y c e z=>?_,fun p hp z=>?_⟩
  ·exact Nat.ne_of_gt (Nat.lt_trans (hDe ▸ I1.lt) (Nat.lt_succ_self _))
  ·exact I1.nofs (by rw [hDe];exact Nat.le_succ _)
  ·exact absurd z (Nat.ne_of_lt (Nat.lt_succ_of_lt (cellD y c e)))
  ·exact absurd z (Nat.ne_of_lt (Nat.lt_succ_of_lt (lt _ _ (I1.pin p hp).1)))
 have loop:∀s₃:Shared,s₃={ s with heap:=h₁,toks:=s.toks+([]:List (Str×Value)).length }->
   codeAny (model X.prog X.w) X.A (.compLoop (.ListComp elt [⟨tg,iter,ifs,0⟩] scope pos) 0 (.ref it) (.ref D) Y.env) (RR (.ref D) (D+1)) s₃:=by
  rintro s₃ rfl
  have stat:∀{H':Hp} {ob:Obj},(∀b∈fp,H' b=none)->∀b∈fp,Gq Y [(D,ob)] H' b:=fun {H'} {ob} hn b hb=>by
   refine⟨hn b hb,Nat.ne_of_lt (Nat.lt_succ_of_lt (fpD b hb)),fun hf=>okY.exfs b hb hf,.inl hb,fun y c e=>(okY.exf b hb).2 y c e,fun p hp z=>?_⟩
   have hp':p∈[(D,ob)]:=hp
   have e:p=(D,ob):=by simpa using hp'
   rw [e] at z
   exact absurd z (Ne.symm (Nat.ne_of_lt (fpD b hb)))
  refine WM (fun n s'=>∃i ys its H',∃ob:Obj,Inv Y [(D,ob)] σ0 H' s'/\(∃n,ob={ cls:=.type "list",data:=.seq its.toArray n })/\Vals ys its/\H' D=none/\tn i s'.heap/\(∀b∈fp,H' b=none)/\W i n ys H') ?_ m0
   ⟨0,[],[],H1,{ cls:=.type "list",dict:=none,data:=.seq ([]:List Value).toArray },?_,⟨_,rfl⟩,.nil,fresh _ (Nat.le_refl _),T.keep _ _ _ st1 fun b _ o e=>old b o e,fun b hb=>(f1 b hb).1,w0⟩
  ·rintro n s3 ⟨i,ys,its,H3,ob,I3,⟨cap,rfl⟩,rv,hD,st3,fr3,w3⟩
   rcases turn i n ys H3 w3 with ⟨stop,hz,hq⟩ | ⟨go,hz,N,hN7,step⟩
   ·refine wpAny_mono (T.done Y rfl rfl rfl hc i _ s3 σ0 H3 (fun _ _=>False) I3 (stat fr3) st3 stop) (fun r s4 ⟨hr,I4⟩=>?_) fun _ _ f=>f.elim
    subst hr
    exact mkR s4 H3 ys its σ0 (I4.pins_of fun p hp=>absurd hp (by simp)) ⟨cap,(I4.pin _ (List.mem_append_right _ List.mem_cons_self)).1⟩ rv hz hD hq
   ·refine wpAny_mono (T.item Y rfl rfl rfl hc i _ s3 σ0 H3 (fun _ _=>False) I3 (stat fr3) st3 go) (fun r s4 ⟨u,hr,h4⟩=>?_) fun _ _ f=>f.elim
    subst hr
    refine wpAny_mono h4 (fun _ s4 ⟨xv,H5,I5,r5,y5,st5,fr5⟩=>?_) fun _ _ f=>f.elim
    have I5':=I5.pinned (stat fr5) (T.obj _ _ st5)
    refine wpAny_mono (hg cl (D+1) s H1 fp _ _ σ0 H5 xv u _ I5' r5 (step xv H5 y5)) (fun _ s6 ⟨σ6,H6,I6,hσ6,q6⟩=>?_) fun _ _ f=>False.elim f
    have again:∀{s7:Shared} {H7:Hp} {ys7:List V} {its7:List Value} {cap7:Nat} {pl:List (Addr×Obj)},Inv Y ([(D,{ cls:=.type "list",data:=.seq its7.toArray cap7 })] ++ pl) σ6 H7 s7->(∀b∈fp,∀o,s4.heap.get? b=some o->s7.heap.get? b=some o/\H7 b=none)->Vals ys7 its7->(∃m',m' <n/\W (i+1) m' ys7 H7)->
      ∃m,m <n/\∃i ys its H',∃ob:Obj,Inv Y [(D,ob)] σ0 H' s7/\(∃n,ob={ cls:=.type "list",data:=.seq its.toArray n })/\Vals ys its/\H' D=none/\tn i s7.heap/\(∀b∈fp,H' b=none)/\W i m ys H':=by
     intro s7 H7 ys7 its7 cap7 pl I7 kf rv7 ⟨m',hm,w7⟩
     refine⟨m',hm,i+1,ys7,its7,H7,_,I7.unpinned.weak (by rw [I7.len];show((xs.map fun _=>(none:Option V)) ++ dO σ js).length=(xs ++ dj X.N js).length;unfold dO dj;rw [List.length_append,List.length_append,List.length_map,List.length_map,List.length_map]) fun j v e=>?_,⟨cap7,rfl⟩,rv7,(I7.pin _ (List.mem_append_right _ (List.mem_append_left _ List.mem_cons_self))).2.1,T.keep _ _ _ st5 fun b hb o e=>(kf b hb o e).1,fun b hb=>?_,w7⟩
     ·have e':((xs.map fun _=>(none:Option V)) ++ dO σ js)[j]?=some (some v):=e
      by_cases hj:j <xs.length
      ·exfalso
       rw [List.getElem?_append_left (by rw [List.length_map];exact hj),List.getElem?_map,List.getElem?_eq_getElem hj] at e'
       cases e'
      ·rw [List.getElem?_append_right (by rw [List.length_map];omega),List.length_map,<-hσ6,List.getElem?_drop] at e'
       rw [show xs.length+(j - xs.length)=j by omega] at e'
       exact e'
     ·obtain⟨o,e,_⟩:=T.obj _ _ st5 b hb
      exact(kf b hb o e).2
    refine wpAny_mono (hif cl (D+1) s H1 fp _ s6 _ H6 _ I6 q6) (fun ok s7 ⟨H7,I7,q7⟩=>?_) fun _ _ f=>False.elim f
    have kf7:∀b∈fp,∀o,s4.heap.get? b=some o->s7.heap.get? b=some o/\H7 b=none:=fun b hb o e=>
     have z:=I7.pin (b,o) (List.mem_append_right _ (List.mem_append_right _ (sG hb e)))
     ⟨z.1,z.2.1⟩
    cases ok with
    | false=>
     rw [if_neg Bool.false_ne_true] at q7 ⊢
     exact again I7 kf7 rv (hN7 _ _ q7)
    | true=>
     rw [if_pos rfl] at q7 ⊢
     refine wpAny_mono (he cl (D+1) s H1 fp _ s7 _ H7 _ I7 q7) (fun yv s8 ⟨y,H8,I8,r8,q8⟩=>?_) fun _ _ f=>False.elim f
     have pD:=I8.pin _ (List.mem_append_right _ (List.mem_append_left _ List.mem_cons_self))
     have hlen:=rv.length
     refine wpAny_list_append_plain (items:=its.toArray) ⟨cap,pD.1⟩ (fun h9 pl9 sb9=>?_) (by rw [List.size_toArray];omega)
     obtain⟨cap9,e9⟩:=pl9
     have I9:Inv Y [] σ6 H8 { s8 with heap:=h9 }:=(I8.pins_of (pins':=[]) fun p hp=>absurd hp (by simp)).turned (t':=s8.toks) (it:=D) (fun b o hb e=>(sb9.2 b hb).trans e) pD.2.1 hDC
      (.inr (Nat.le_of_eq hDe)) (fun y c e z=>absurd z (Nat.ne_of_lt (cellD y c (clsub y c e)))) fun p hp=>absurd (show p∈([]:List (Addr×Obj)) from hp) (by simp)
     have kf9:∀b∈fp,∀o,s4.heap.get? b=some o->h9.get? b=some o/\H8 b=none:=fun b hb o e=>by
      have z:=I8.pin (b,o) (List.mem_append_right _ (List.mem_append_right _ (sG hb e)))
      exact⟨(sb9.2 b (Nat.ne_of_lt (fpD b hb))).trans z.1,z.2.1⟩
     refine again (s7:={ s8 with heap:=h9 }) (its7:=its ++ [yv]) (cap7:=cap9) (pl:=[]) (I9.pins_of fun p hp=>?_) kf9 (rv.append (.cons r8 .nil)) (hN7 _ _ q8)
     have hp':p=(D,{ cls:=.type "list",data:=.seq (its ++ [yv]).toArray cap9 }):=by simpa using hp
     subst hp'
     refine⟨?_,pD.2.1,pD.2.2.1,pD.2.2.2.1,fun v z=>by cases z⟩
     rw [e9]
     simp
  ·refine IY.pins_of fun p hp=>?_
   have hp':p=(D,{ cls:=.type "list",dict:=none,data:=.seq ([]:List Value).toArray }):=by simpa using hp
   subst hp'
   exact⟨accD,fresh _ (Nat.le_refl _),hDC,fun hf=>Nat.lt_irrefl _ (frD _ hf),fun v z=>by cases z⟩
 exact codeAny_compStart_list (loop _ rfl) (wpAny_mono (T.self X.A 0 _ (fun v s'=>v=.ref it/\s'={ s with heap:=h₁,toks:=s.toks+([]:List (Str×Value)).length }) (fun _ _=>False) (T.keep _ _ _ st1 fun b _ o e=>old b o e) ⟨rfl,rfl⟩) (fun v s' ⟨e1,e2⟩=>by subst e1 e2;exact loop _ rfl) fun _ _ f=>f.elim)
theorem Qz (xs:List Str) (js:List Nat) (N0:List Str) (sc0:Scope) (hc:X.calm=true) (hi:PI X tg iter wi) (hg:∀cl C s H ex,PG (lC X scope xs js cl C s H ex) tg g)
  (hif:∀cl C s H ex,PF (lC X scope xs js cl C s H ex) ifs tt) (he:∀cl C s H ex,PE (lC X scope xs js cl C s H ex) elt te)
  (hk:scope.kind=.function:=by rfl) (hcell:∀y∈scope.names,y.2≠.cell:=by decide +kernel)
  (hnames:∀y∈scope.names,y.2=.local->scope.names.lookup y.1=some .local:=by decide +kernel)
  (hsc:X.env.scope=sc0:=by rfl) (hfree0:∀y∈scope.names,y.2=.free->sc0.names.lookup y.1=some .cell∨sc0.names.lookup y.1=some .free:=by decide +kernel)
  (hNN:X.N=N0:=by rfl) (hj0:∀y∈dj N0 js,scope.names.lookup y=some .free:=by decide +kernel)
  (hs:∀x,foldedSetIterable iter X.env x=pure x:=by intro _;rfl):
  PE X (.ListComp elt [⟨tg,iter,ifs,0⟩] scope pos) (Py xs js wi g tt te):=by
 intro pins s σ H Q I h
 have hfree:∀y∈scope.names,y.2=.free->X.env.kindOf y.1=some .cell∨X.env.kindOf y.1=some .free:=fun y hy e=>by
  show X.env.scope.names.lookup y.1=some .cell∨X.env.scope.names.lookup y.1=some .free
  rw [hsc];exact hfree0 y hy e
 rw [eval_ListComp]
 have hcl:closureFor scope X.env=pure (clos X.env scope.names []):=kI fun y hy e=>I.ok.has y.1 (hfree y hy e)
 refine wpAny_comprehension_free (use:=none) rfl hs hcl hk hnames (dI (hi pins s σ H _ I h) fun xv s1 h1=>dI h1 fun it s2 h2=>?_)
 have hjs:∀y∈dj X.N js,scope.names.lookup y=some .free:=by rw [hNN];exact hj0
 refine uU xs js (RR:=fun acc C=>compPost (model X.prog X.w) X.A X.xe none (EP X pins σ Q) acc C) (Q:=fun ys H2=>∀D,H2 D=none->Q (.ref D) (upd H2 D (.lst ys))) hc hk hcell hfree hg hif he hjs h2 ?_
 intro D C s' H2 ys m I' hD hn all fpC hCD hq
 exact⟨m,hn,fun h' sb=>⟨.ref D,_,all h' sb,rfl,hq D hD⟩⟩
theorem Qx {i:Nat} {y:Str} {py spos:Pos} (xs:List Str) (js:List Nat) (N0:List Str) (sc0:Scope) (hc:X.calm=true) (hNX:X.N.Nodup) (hiy:X.N[i]?=some y) (hi:PI X tg iter wi) (hg:∀cl C s H ex,PG (lC X scope xs js cl C s H ex) tg g)
  (hif:∀cl C s H ex,PF (lC X scope xs js cl C s H ex) ifs tt) (he:∀cl C s H ex,PE (lC X scope xs js cl C s H ex) elt te)
  (hsw:swapsWith (.ListComp elt [⟨tg,iter,ifs,0⟩] scope pos) (some (.Name y py)) spos.line X.env=pure true:=by rfl) (hy:X.env.scope.names.lookup y=some .local:=by rfl)
  (hk:scope.kind=.function:=by rfl) (hcell:∀y∈scope.names,y.2≠.cell:=by decide +kernel)
  (hnames:∀y∈scope.names,y.2=.local->scope.names.lookup y.1=some .local:=by decide +kernel)
  (hsc:X.env.scope=sc0:=by rfl) (hfree0:∀y∈scope.names,y.2=.free->sc0.names.lookup y.1=some .cell∨sc0.names.lookup y.1=some .free:=by decide +kernel)
  (hNN:X.N=N0:=by rfl) (hj0:∀y∈dj N0 js,scope.names.lookup y=some .free:=by decide +kernel)
  (hs:∀x,foldedSetIterable iter X.env x=pure x:=by intro _;rfl):
  PS X (.Assign [.Name y py] (.ListComp elt [⟨tg,iter,ifs,0⟩] scope pos) spos) (PN (Py xs js wi g tt te) (xQ i)):=by
 intro pins s σ H D I h
 have hfree:∀y∈scope.names,y.2=.free->X.env.kindOf y.1=some .cell∨X.env.kindOf y.1=some .free:=fun y hy e=>by
  show X.env.scope.names.lookup y.1=some .cell∨X.env.scope.names.lookup y.1=some .free
  rw [hsc];exact hfree0 y hy e
 have hjs:∀y∈dj X.N js,scope.names.lookup y=some .free:=by rw [hNN];exact hj0
 rw [exec_Assign_Name_used _ _ _ _ hsw]
 refine wpAny_bind (wpAny_standAt (wpAny_bind ?_))
 show wpAny _ X.A (do let _ <-comprehension (.ListComp elt [⟨tg,iter,ifs,0⟩] scope pos) scope X.env _ (newList []) false (eval iter X.env) (some (assign (.Name y py) X.env))) _ _ s
 have hcl:closureFor scope X.env=pure (clos X.env scope.names []):=kI fun y hy e=>I.ok.has y.1 (hfree y hy e)
 refine wpAny_bind (wpAny_mono (wpAny_comprehension_free (use:=some (assign (.Name y py) X.env)) (Q:=fun _ s'=>SP X pins D .next s') rfl hs hcl hk hnames
  (dI (hi pins s σ H _ I h) fun xv s1 h1=>dI h1 fun it s2 h2=>?_)) (fun _ s' hq=>wpAny_pure (wpAny_pure hq)) fun _ _ e=>e)
 refine uU xs js (RR:=fun acc C=>compPost (model X.prog X.w) X.A X.xe (some (assign (.Name y py) X.env)) (fun _ s'=>SP X pins D .next s') acc C) (Q:=fun ys H2=>∀D',H2 D'=none->D.nx (σ.set i (some (.ref D'))) (upd H2 D' (.lst ys))) hc hk hcell hfree hg hif he hjs h2 ?_
 intro D' C s' H2 ys m I' hD hn all fpC hCD hq
 show wpAny _ X.A (assign (.Name y py) X.env (.ref D')) _ _ _
 refine wpAny_assign_Name (zf I' hNX hiy (.inl hy) (v:=.ref D') rfl (fun s'' I'' ⟨a,sb,ha⟩=>?_) (.inr hy))
 obtain⟨f1,f2,f3,f4,f5,f6⟩:=fpC
 have hCa:C≠a:=by
  rcases ha with z | z
  ·rw [z];exact f2
  ·exact fun w=>f5 _ _ z w.symm
 exact⟨m,hn.sameBut sb hCa,fun h' sb'=>⟨_,_,I''.turned (t':=s''.toks) (it:=C) (fun b o hb e=>(sb'.2 b hb).trans e) f1 f2 f4 f5 f6,hq D' hD⟩⟩
end
theorem Cr {ts:List Str} {js:List Nat} {σ:St} {g:TG} {tt:TT} {te:TE} {Qd:List V->Hp->Prop} {K:PySem.W.Frag} {a:Addr} {xs:List V} {H:Hp} (Pv:Nat->List V->Hp->Prop) (hn:xs.length<=sizeLine) (h0:Pv 0 [] H) (hl:∀i ys H,Pv i ys H->ys.length<=i) (hq:∀i ys H,i<=xs.length->Pv i ys H->bI K H a xs)
  (hs:∀i x ys H,xs[i]?=some x->Pv i ys H->g x ((ts.map fun _=>none) ++ dO σ js) H fun σ2 H3=>σ2.drop ts.length=dO σ js/\tt σ2 H3 fun b H4=>if b=true then te σ2 H4 fun y H5=>Pv (i+1) (ys ++ [y]) H5 else Pv (i+1) ys H4)
  (hd:∀ys H,Pv xs.length ys H->Qd ys H):BW ts js σ g tt te Qd (Vd K a) H:=by
 refine⟨fun i m ys H=>m=xs.length - i/\i<=xs.length/\Pv i ys H,⟨xs.length,by simp,Nat.zero_le _,h0⟩,?_⟩
 rintro i m ys H ⟨rfl,hi,p⟩
 have hlen:=hl i ys H p
 have q:=hq i ys H hi p
 by_cases hlt:i <xs.length
 ·refine .inr ⟨⟨xs,xs[i],q,by simp [hlt]⟩,by omega,Pv (i+1),fun ys' H' p'=>⟨xs.length - (i+1),by omega,rfl,hlt,p'⟩,fun x H' y=>?_⟩
  obtain⟨e,y⟩:=y
  subst e
  exact hs i x ys _ (y xs q) p
 ·have e:i=xs.length:=by omega
  subst e
  exact .inl ⟨⟨xs,q,Nat.le_refl _⟩,by omega,hd ys H p⟩
structure JR (K:PySem.W.Frag) (x qual:Str) (st:Stmt) (f:Addr) (fd:FuncData) (its:Array Value):Prop where
 ex:∃(oc:Value) (od:Option Addr) (T:Addr) (kV doc pm:Value) (an:Option Addr) (cdv ct:Value) (osl:Array (Option Value)) (o:Obj) (n:Nat),
  fd=PySem.W.fnOf x qual (iV st) (gM st) (aU st) (.ref T) kV doc pm an cdv ct/\K.lookup f=some ⟨oc,od,.func fd,osl⟩/\PySem.W.codeIn K cdv qual=true/\K.lookup T=some o/\o.data=.seq its n
 kp:PySem.W.keepIn K (.ref f)=true
section
variable {P:Program} {w:World} {K:PySem.W.Frag} {mg:Str->Option Value} {base:Heap} {its:Array Value}
theorem JR.ok {x qual:Str} {st:Stmt} {f:Addr} {fd:FuncData} {N ps:List Str} {k:Nat} {sp:Sp} (F:JR K x qual st f fd its) (S:fZ N ps (aU st)) (len:∀vs H Q E,sp vs H Q E->vs.length=ps.length)
  (hbody:∀(cdv:Value) (A:Around) (outer:List Env) (s:Shared) (H:Hp) (vs:List V) (Q:VK) (E:XK),jg k (A.deeper (envOfC qual (aU st) s.heap.objs.size f cdv))->sp vs H Q E->
   ∃t,Mr (Km Cq P w K mg base N qual (aU st) f cdv A outer s H E).nox (gM st) t/\t { nx:=fun _ H'=>Q .non H',rt:=Q } (start N vs) H):iB P w K mg base Cq (k+1) f fd ps sp:=by
 obtain⟨oc,od,T,kV,doc,pm,an,cdv,ct,osl,o,n,rfl,lk,hcd,_⟩:=F.ex
 refine Ui lk hcd S len fun A outer s H vs Q E hr hsp=>?_
 obtain⟨t,h,q⟩:=hbody cdv A outer s H vs Q E hr hsp
 exact⟨t,h.nox,q⟩
theorem JR.binds {x qual:Str} {st:Stmt} {f:Addr} {fd:FuncData} {ps:List Str} (F:JR K x qual st f fd its)
  (h:∀(T:Addr) (kV doc pm:Value) (an:Option Addr) (cdv ct:Value) (us:List Value),us.length=ps.length->∃k,bindArgs (PySem.W.fnOf x qual (iV st) (gM st) (aU st) (.ref T) kV doc pm an cdv ct) ⟨us,[]⟩=seqItems? (.ref T) >>= k/\k (some its)=pure (ps.zip us)):Binds K fd ps []:=by
 obtain⟨oc,od,T,kV,doc,pm,an,cdv,ct,osl,o,n,rfl,lk,hcd,hT,ho⟩:=F.ex
 intro s us X hl
 rw [List.append_nil] at hl ⊢
 obtain⟨k,h1,h2⟩:=h T kV doc pm an cdv ct us hl
 exact .of_defaults rfl (X _ _ hT) ho h1 h2
theorem Ti {x qual:Str} {st:Stmt} {f T:Addr} {oc:Value} {od an:Option Addr} {osl:Array (Option Value)} {kV doc pm cdv ct:Value} {o:Obj} {n:Nat} (l:K.lookup f=some ⟨oc,od,.func (PySem.W.fnOf x qual (iV st) (gM st) (aU st) (.ref T) kV doc pm an cdv ct),osl⟩)
  (c:PySem.W.codeIn K cdv qual=true) (k:PySem.W.keepIn K (.ref f)=true) (d:K.lookup T=some o) (e:o.data=.seq its n):JR K x qual st f (PySem.W.fnOf x qual (iV st) (gM st) (aU st) (.ref T) kV doc pm an cdv ct) its:=⟨⟨oc,od,T,kV,doc,pm,an,cdv,ct,osl,o,n,rfl,l,c,d,e⟩,k⟩
end
section
variable {X:Cx} {e:Expr} {es:List Expr} {te:TE} {t:TA} {pos:Pos} {st:Stmt} {rest:List Stmt} {ts us:TS}
end
section
variable {X:Cx}
end
section
variable {X:Cx}
end
section
variable {prog:Program} {w:World} {A:Around} {E:Value->Shared->Prop}
end
section
variable {X:Cx} {tg:Expr}
end
section
variable {X:Cx} {e:Expr}
end
section
variable {X:Cx}
theorem xf:∀{us:List Value} {ys:List Str},StrsAre us ys->Vals (ys.map V.str) us
 | _,_,.nil=>.nil
 | _,_,.cons _ _ t=>.cons ⟨_,rfl⟩ (xf t)
theorem NK:bootBuiltins "sorted" =some (.builtin "sorted"):=by decide +kernel
theorem Kl (hc:X.calm=true):jZ X (.builtin "sorted") (fun xs H Q=>∃d kvs ys,xs=[.ref d]/\Rd H d (.dK kvs)/\kvs.map (·.1)=ys.map (fun y=>(Sum.inr y:Key))/\ys.length <64/\∀l zs,H l=none->zs.Perm ys->sortedS zs=true->Q (.ref l) (upd H l (.lst (zs.map V.str)))):=by
 intro pins s σ H xs us Q I rx h
 obtain⟨d,kvs,ys,rfl,hr,hk,hl,q⟩:=h
 obtain⟨u,rfl,ru⟩:=vals1 rx
 cases ru
 obtain⟨z,hd,vs,rel,dd⟩:=vV I.hok hr
 obtain⟨ep,da⟩:=dd.dictAt
 have hlv:kvs.length=vs.length:=Paired.length rel
 have hly:kvs.length=ys.length:=by have:=congrArg List.length hk;rwa [List.length_map,List.length_map] at this
 have hsz:sizeLine=16777216:=sizeLine_eq
 refine Calls.call_function_entry kind_sorted plain_sorted entry_sorted (args_sorted1 _) ?_
 unfold Builtin.«sorted»
 refine wpAny_bind (m:=checkCount "sorted" 1 1 _) (wpAny_pure ?_)
 refine wpAny_bind (PySem.W.kdu_collect (A:=X.A.in1) (PySem.W.kdl_dict (knd:=cj X.prog X.w) (kvs:=vs) (ep:=ep) hd) (I.ok.hd hc) da (by omega) fun h' tk acc kp hacc=>?_)
 have hla:acc.toList.length=vs.length:=by rw [Array.length_toList];exact hacc.1
 refine wpAny_bind (wpAny_newList ?_ (by rw [hla];omega))
 have hS:StrsAre acc.toList ys:=by
  refine wz (uR (by rw [hla,List.length_map];omega) fun j x u hx hu=>?_)
  obtain⟨k,v,hkv,hki⟩:=hacc.2 j u (by rw [<-Array.getElem?_toList];exact hu)
  rw [List.getElem?_map] at hx
  obtain⟨y,hy,rfl⟩:=Option.map_eq_some_iff.mp hx
  have e1:(kvs.map (·.1))[j]?=some (Sum.inr y):=by rw [hk,List.getElem?_map,hy];rfl
  rw [List.getElem?_map] at e1
  obtain⟨p,hp,e2⟩:=Option.map_eq_some_iff.mp e1
  obtain⟨v',hv'⟩:=Hg rel (k:=p.1) (v:=p.2) hp
  rw [hkv] at hv'
  cases hv'
  rw [e2] at hki
  exact JQ (k:=Sum.inr y) hki
 have hoL:(h'.push (seqObj "list" acc.toList.toArray 0)).get? h'.objs.size=some (seqObj "list" acc.toList.toArray 0):=Heap.get?_push_size _ rfl
 show wpAny _ _ _ _ _ { s with heap:=h'.push (seqObj "list" acc.toList.toArray 0),toks:=tk }
 refine wpAny_bind (wpAny_holding (wpAny_call_entry slot_list_sort ⟨_,hoL,rfl⟩ entry_list_sort (list_sort_treeK strKind_oneLt hoL hS.keysOf (fun v₁ v₂ rest e=>keyKind_strs (by rw [<-e];exact hS)) (by omega) fun st' a1 a2=>⟨_,rfl,?_⟩) (args_list_sort _)))
 obtain⟨ss',b1,b2,b3⟩:=sorted_out_str hS a1 a2
 generalize (arrOf st').map (·.2)=out at b1 ⊢
 obtain⟨e,he⟩:=sortedHeap_at (out:=out) hoL
 have hl':=b2.length_eq
 have I1:Inv X pins σ H { s with heap:=h',toks:=tk }:=I.kept kp
 refine wpAny_pure ⟨_,rfl,.ref h'.objs.size,_,I1.laid (t':=tk) (fun b o eb=>?_) (Nat.le_refl _) (show fQ X.prog X.w _ _ _ (.lst (ss'.map V.str)) from⟨by rw [List.length_map];omega,out.toList,e,xf b1,by simpa [seqObj] using he⟩),rfl,q _ _ (I1.hok.fresh (Nat.le_refl _)) b2 b3⟩
 have hlt:b <h'.objs.size:=Heap.lt_size eb
 rw [sortedHeap_old (Nat.ne_of_lt hlt) (by rw [size_push'];exact Nat.lt_succ_of_lt hlt),Heap.get?_push_ne _ _ _ (Nat.ne_of_lt hlt)]
 exact eb
end
section
variable {M:Model} {A:Around} {E:Value->Shared->Prop} {nm q:Str} {C N:Addr} {bs bm:List Value} {hdct:Bool} {sn:List Str} {sub:List Value} {ab:Bool} {col:Option Bool} {dd:Option Addr} {k0 k1 k2 k3 k5:Option Value} {newId:String}
end
end L2
namespace L2
open PySem PyProof
section
variable {X:Cx} {x:Str} {px pos:Pos} {iter elt:Expr} {ifs:List Expr} {scope:Scope} {wi:TI} {tt:TT} {te:TE}
theorem zL (js:List Nat) {pins:List (Addr×Obj)} {σ:St} {s:Shared} {itv:Value} {Q:List V->Hp->Prop} {RR:Value->Addr->Result->Shared->Prop} {E:Value->Shared->Prop}
  (hc:X.calm=true) (hk:scope.kind=.function) (hx:scope.names.lookup x=some .local) (hcell:∀y∈scope.names,y.2≠.cell)
  (hfree:∀y∈scope.names,y.2=.free->X.env.kindOf y.1=some .cell∨X.env.kindOf y.1=some .free)
  (hN:(x:: dj X.N js).Nodup) (hjs:∀y∈dj X.N js,scope.names.lookup y=some .free)
  (hif:∀cl C s H ex,PF (za X scope x js cl C s H ex) ifs tt) (he:∀cl C s H ex,PE (za X scope x js cl C s H ex) elt te)
  (hit:PIE X pins σ (.Name x px) (CompEnd js tt te σ Q) itv s)
  (hR:∀D C s' H2 ys m,Inv X pins σ (upd H2 D (.lst ys)) s'->H2 D=none->s'.heap.Ns C m->(∀h',Heap.SameBut C s'.heap h'->Inv X pins σ (upd H2 D (.lst ys)) { s' with heap:=h' })->Gq X pins (upd H2 D (.lst ys)) C->C≠D->Q ys H2->RR (.ref D) C (.ok .next) s'):
  wpAny (model X.prog X.w) X.A (newList []) (fun acc s₃=>wpAny (model X.prog X.w) X.A (newFunctionEnv scope X.env.globals (clos X.env scope.names []) [] X.env.qual none .none (some X.env)) (fun cenv s₄=>
   codeAny (model X.prog X.w) X.A (.compStart (.ListComp elt [⟨.Name x px,iter,ifs,0⟩] scope pos) 0 itv acc { cenv with scope:=relabel scope X.env }) (RR acc cenv.locals) s₄) E s₃) E s:=
 uU (tg:=.Name x px) (g:=xQ 0) [x] js hc hk hcell hfree (fun cl C s H ex=>vh (i:=0) hN rfl (.inl (lookup_relabel_local hx)) (.inr (lookup_relabel_local hx))) hif he hjs
  (by
   obtain⟨it,fp,tn,J,H',e,I,T,t0,hf,W,h0,hW⟩:=hit
   exact⟨it,fp,tn,J,H',e,I,T,t0,hf,W,h0,fun i m ys H2 w=>(hW i m ys H2 w).imp_right fun⟨a,b,N,c,d⟩=>⟨a,b,N,c,fun y H3 z=>⟨rfl,d y H3 z⟩⟩⟩) hR
theorem eX (js:List Nat) (N0:List Str) (sc0:Scope) (hc:X.calm=true) (hi:PI X (.Name x px) iter wi)
  (hif:∀cl C s H ex,PF (za X scope x js cl C s H ex) ifs tt) (he:∀cl C s H ex,PE (za X scope x js cl C s H ex) elt te)
  (hk:scope.kind=.function:=by rfl) (hx:scope.names.lookup x=some .local:=by rfl) (hcell:∀y∈scope.names,y.2≠.cell:=by decide +kernel)
  (hnames:∀y∈scope.names,y.2=.local->scope.names.lookup y.1=some .local:=by decide +kernel)
  (hsc:X.env.scope=sc0:=by rfl) (hfree0:∀y∈scope.names,y.2=.free->sc0.names.lookup y.1=some .cell∨sc0.names.lookup y.1=some .free:=by decide +kernel)
  (hNN:X.N=N0:=by rfl) (hN0:(x:: dj N0 js).Nodup:=by decide +kernel) (hj0:∀y∈dj N0 js,scope.names.lookup y=some .free:=by decide +kernel)
  (hs:∀x,foldedSetIterable iter X.env x=pure x:=by intro _;rfl):
  PE X (.ListComp elt [⟨.Name x px,iter,ifs,0⟩] scope pos) (Ug js wi tt te):=by
 intro pins s σ H Q I h
 have hN:(x:: dj X.N js).Nodup:=by rw [hNN];exact hN0
 have hfree:∀y∈scope.names,y.2=.free->X.env.kindOf y.1=some .cell∨X.env.kindOf y.1=some .free:=fun y hy e=>by
  show X.env.scope.names.lookup y.1=some .cell∨X.env.scope.names.lookup y.1=some .free
  rw [hsc];exact hfree0 y hy e
 have hjs:∀y∈dj X.N js,scope.names.lookup y=some .free:=by rw [hNN];exact hj0
 rw [eval_ListComp]
 have hcl:closureFor scope X.env=pure (clos X.env scope.names []):=kI fun y hy e=>I.ok.has y.1 (hfree y hy e)
 refine wpAny_comprehension_free (use:=none) rfl hs hcl hk hnames (dI (hi pins s σ H _ I h) fun xv s1 h1=>dI h1 fun it s2 h2=>?_)
 refine zL js (RR:=fun acc C=>compPost (model X.prog X.w) X.A X.xe none (EP X pins σ Q) acc C) (Q:=fun ys H2=>∀D,H2 D=none->Q (.ref D) (upd H2 D (.lst ys))) hc hk hx hcell hfree hN hjs hif he h2 ?_
 intro D C s' H2 ys m I' hD hn all fpC hCD hq
 exact⟨m,hn,fun h' sb=>⟨.ref D,_,all h' sb,rfl,hq D hD⟩⟩
theorem jn {i:Nat} {y:Str} {py spos:Pos} (js:List Nat) (N0:List Str) (sc0:Scope) (hc:X.calm=true) (hNX:X.N.Nodup) (hiy:X.N[i]?=some y) (hi:PI X (.Name x px) iter wi)
  (hif:∀cl C s H ex,PF (za X scope x js cl C s H ex) ifs tt) (he:∀cl C s H ex,PE (za X scope x js cl C s H ex) elt te)
  (hsw:swapsWith (.ListComp elt [⟨.Name x px,iter,ifs,0⟩] scope pos) (some (.Name y py)) spos.line X.env=pure true:=by rfl) (hy:X.env.scope.names.lookup y=some .local:=by rfl)
  (hk:scope.kind=.function:=by rfl) (hx:scope.names.lookup x=some .local:=by rfl) (hcell:∀y∈scope.names,y.2≠.cell:=by decide +kernel)
  (hnames:∀y∈scope.names,y.2=.local->scope.names.lookup y.1=some .local:=by decide +kernel)
  (hsc:X.env.scope=sc0:=by rfl) (hfree0:∀y∈scope.names,y.2=.free->sc0.names.lookup y.1=some .cell∨sc0.names.lookup y.1=some .free:=by decide +kernel)
  (hNN:X.N=N0:=by rfl) (hN0:(x:: dj N0 js).Nodup:=by decide +kernel) (hj0:∀y∈dj N0 js,scope.names.lookup y=some .free:=by decide +kernel)
  (hs:∀x,foldedSetIterable iter X.env x=pure x:=by intro _;rfl):
  PS X (.Assign [.Name y py] (.ListComp elt [⟨.Name x px,iter,ifs,0⟩] scope pos) spos) (PN (Ug js wi tt te) (xQ i)):=by
 intro pins s σ H D I h
 have hN:(x:: dj X.N js).Nodup:=by rw [hNN];exact hN0
 have hfree:∀y∈scope.names,y.2=.free->X.env.kindOf y.1=some .cell∨X.env.kindOf y.1=some .free:=fun y hy e=>by
  show X.env.scope.names.lookup y.1=some .cell∨X.env.scope.names.lookup y.1=some .free
  rw [hsc];exact hfree0 y hy e
 have hjs:∀y∈dj X.N js,scope.names.lookup y=some .free:=by rw [hNN];exact hj0
 rw [exec_Assign_Name_used _ _ _ _ hsw]
 refine wpAny_bind (wpAny_standAt (wpAny_bind ?_))
 show wpAny _ X.A (do let _ <-comprehension (.ListComp elt [⟨.Name x px,iter,ifs,0⟩] scope pos) scope X.env _ (newList []) false (eval iter X.env) (some (assign (.Name y py) X.env))) _ _ s
 have hcl:closureFor scope X.env=pure (clos X.env scope.names []):=kI fun y hy e=>I.ok.has y.1 (hfree y hy e)
 refine wpAny_bind (wpAny_mono (wpAny_comprehension_free (use:=some (assign (.Name y py) X.env)) (Q:=fun _ s'=>SP X pins D .next s') rfl hs hcl hk hnames
  (dI (hi pins s σ H _ I h) fun xv s1 h1=>dI h1 fun it s2 h2=>?_)) (fun _ s' hq=>wpAny_pure (wpAny_pure hq)) fun _ _ e=>e)
 refine zL js (RR:=fun acc C=>compPost (model X.prog X.w) X.A X.xe (some (assign (.Name y py) X.env)) (fun _ s'=>SP X pins D .next s') acc C) (Q:=fun ys H2=>∀D',H2 D'=none->D.nx (σ.set i (some (.ref D'))) (upd H2 D' (.lst ys))) hc hk hx hcell hfree hN hjs hif he h2 ?_
 intro D' C s' H2 ys m I' hD hn all fpC hCD hq
 show wpAny _ X.A (assign (.Name y py) X.env (.ref D')) _ _ _
 refine wpAny_assign_Name (zf I' hNX hiy (.inl hy) (v:=.ref D') rfl (fun s'' I'' ⟨a,sb,ha⟩=>?_) (.inr hy))
 obtain⟨f1,f2,f3,f4,f5,f6⟩:=fpC
 have hCa:C≠a:=by
  rcases ha with z | z
  ·rw [z];exact f2
  ·exact fun w=>f5 _ _ z w.symm
 exact⟨m,hn.sameBut sb hCa,fun h' sb'=>⟨_,_,I''.turned (t':=s''.toks) (it:=C) (fun b o hb e=>(sb'.2 b hb).trans e) f1 f2 f4 f5 f6,hq D' hD⟩⟩
end
end L2
namespace L2
open PySem PySem.Spec PyProof.Rows
noncomputable def fdOf (K:PySem.W.Frag) (f:Addr):FuncData:=match K.lookup f with
 | some ⟨_,_,.func d,_⟩=>d
 | _=>default
theorem TQ {K:PySem.W.Frag} {f:Addr} {oc:Value} {od:Option Addr} {fd:FuncData} {osl:Array (Option Value)} (l:K.lookup f=some ⟨oc,od,.func fd,osl⟩):fdOf K f=fd:=by
 unfold fdOf
 rw [l]
structure dM (K:PySem.W.Frag) (nm qn:Str) (s:Stmt) (f:Addr) (ps:List Str):Prop where
 F:Uw K nm qn s f (fdOf K f)
 b:Binds K (fdOf K f) ps []
 i:PySem.W.isFn K (.ref f)=true
theorem dM.me {K:PySem.W.Frag} {nm qn m:Str} {s:Stmt} {f C:Addr} {ps:List Str} (x:dM K nm qn s f ps) (h:PySem.W.findIn K (.ref C) m=some (some (.ref f))):Meth K C m f:=⟨h,x.i,x.F.kp⟩
theorem dM.of {K:PySem.W.Frag} {nm qn:Str} {s:Stmt} {f:Addr} {ps:List Str} {oc:Value} {od an:Option Addr} {osl:Array (Option Value)} {kV doc pm cdv ct:Value}
  (l:K.lookup f=some ⟨oc,od,.func (PySem.W.fnOf nm qn (iV s) (gM s) (aU s) .none kV doc pm an cdv ct),osl⟩) (c:PySem.W.codeIn K cdv qn=true) (k:PySem.W.keepIn K (.ref f)=true) (i:PySem.W.isFn K (.ref f)=true)
  (h:∀(kV doc pm:Value) (an:Option Addr) (cdv ct:Value) (us:List Value),us.length=ps.length->bindArgs (PySem.W.fnOf nm qn (iV s) (gM s) (aU s) .none kV doc pm an cdv ct) ⟨us,[]⟩=pure (ps.zip us)):dM K nm qn s f ps:=by
 have e:fdOf K f=PySem.W.fnOf nm qn (iV s) (gM s) (aU s) .none kV doc pm an cdv ct:=by
  unfold fdOf
  rw [l]
 have F:=Vu l c k
 have b:=F.binds h
 rw [<-e] at F b
 exact⟨F,b,i⟩
structure Wh (K:PySem.W.Frag) (nm qn:Str) (s:Stmt) (f:Addr) (ps:List Str):Prop where
 F:JR K nm qn s f (fdOf K f) #[.none]
 b:Binds K (fdOf K f) ps []
 i:PySem.W.isFn K (.ref f)=true
theorem Wh.me {K:PySem.W.Frag} {nm qn m:Str} {s:Stmt} {f C:Addr} {ps:List Str} (x:Wh K nm qn s f ps) (h:PySem.W.findIn K (.ref C) m=some (some (.ref f))):Meth K C m f:=⟨h,x.i,x.F.kp⟩
theorem Wh.of {K:PySem.W.Frag} {nm qn:Str} {s:Stmt} {f T:Addr} {ps:List Str} {oc oe:Value} {od an oh:Option Addr} {osl osm:Array (Option Value)} {kV doc pm cdv ct:Value} {n:Nat}
  (l:K.lookup f=some ⟨oc,od,.func (PySem.W.fnOf nm qn (iV s) (gM s) (aU s) (.ref T) kV doc pm an cdv ct),osl⟩) (d:K.lookup T=some ⟨oe,oh,.seq #[.none] n,osm⟩) (c:PySem.W.codeIn K cdv qn=true) (k:PySem.W.keepIn K (.ref f)=true) (i:PySem.W.isFn K (.ref f)=true)
  (h:∀fd:FuncData,JR K nm qn s f fd #[.none]->Binds K fd ps []):Wh K nm qn s f ps:=by
 have F:=Ti (its:=#[.none]) l c k d rfl
 have b:=h _ F
 rw [<-TQ l] at F b
 exact⟨F,b,i⟩
structure n6 (K:PySem.W.Frag) (mg:Str->Option Value) (nm:Str) (s:Stmt) (f:Addr) (ps:List Str):Prop where
 x:dM K nm nm s f ps
 m:mg nm=some (.ref f)
theorem n6.of {K:PySem.W.Frag} {mg:Str->Option Value} {nm:Str} {s:Stmt} {f:Addr} {ps:List Str} (m:mg nm=some (.ref f)) (x:dM K nm nm s f ps):n6 K mg nm s f ps:=⟨x,m⟩
theorem gC {mg:Str->Option Value} {nm:Str} {u:Value} {v:V} (m:mg nm=some u) (r:RelV v u):∃u,mg nm=some u/\RelV v u:=⟨u,m,r⟩
theorem n6.F {K:PySem.W.Frag} {mg:Str->Option Value} {nm:Str} {s:Stmt} {f:Addr} {ps:List Str} (h:n6 K mg nm s f ps):Uw K nm nm s f (fdOf K f):=h.x.F
theorem n6.b {K:PySem.W.Frag} {mg:Str->Option Value} {nm:Str} {s:Stmt} {f:Addr} {ps:List Str} (h:n6 K mg nm s f ps):Binds K (fdOf K f) ps []:=h.x.b
noncomputable def MB (K:PySem.W.Frag) (C:Addr):List (Str×Addr)->Prop
 | []=>True
 | (m,f):: r=>PySem.W.findIn K (.ref C) m=some (some (.ref f))/\MB K C r
noncomputable def NB (K:PySem.W.Frag) (C:Addr):List Str->Prop
 | []=>True
 | f:: r=>PySem.W.findIn K (.ref C) f=some none/\NB K C r
structure Ig (K:PySem.W.Frag) (mg:Str->Option Value) (nm:Str) (C:Addr) (ms:List (Str×Addr)) (as:List Str):Prop where
 m:mg nm=some (.ref C)
 c:Nu K C
 mks:PySem.W.makesIn K C=true
 kp:PySem.W.keepIn K (.ref C)=true
 me:MB K C ms
 na:NB K C as
theorem Ig.M {K:PySem.W.Frag} {mg:Str->Option Value} {nm:Str} {C f:Addr} {ms:List (Str×Addr)} {as ps:List Str} {n q:Str} {s:Stmt} (h:Ig K mg nm C (("__init__",f):: ms) as) (x:dM K n q s f ps):Mk K C f:=⟨h.mks,h.me.1,x.i,h.kp⟩
theorem U9 {K:PySem.W.Frag} {nm qn:Str} {st:Stmt} {f:Addr} {x:Str} (F:Uw K nm qn st f (fdOf K f))
  (h:∀(kV doc pm:Value) (an:Option Addr) (cdv ct v:Value),bindArgs (PySem.W.fnOf nm qn (iV st) (gM st) (aU st) .none kV doc pm an cdv ct) ⟨[v],[]⟩=pure [(x,v)]) (s:Shared) (v:Value):BindsTo s (fdOf K f) ⟨[v],[]⟩ [(x,v)]:=by
 obtain⟨oc,od,kV,doc,pm,an,cdv,ct,osl,e,lk,hcd⟩:=F.ex
 rw [e]
 exact .of_eq (h kV doc pm an cdv ct v)
theorem Y8 {K:PySem.W.Frag} {h:Heap} {C f:Addr} (X:K.In h) (_:PySem.W.findIn K (.ref C) "__init__" =some (some (.ref f))) (b:Ql K C f=true):ExcAt K C:=(Dy.ofIn b).at X
theorem us_0 {α:Type} {P:List α->Prop} (h:P []):∀us:List α,us.length=0->P us
 | [],_=>h
theorem zq {α:Type} {P:List α->Prop} (h:∀a,P [a]):∀us:List α,us.length=1->P us
 | [a],_=>h a
theorem wQ {α:Type} {P:List α->Prop} (h:∀a b,P [a,b]):∀us:List α,us.length=2->P us
 | [a,b],_=>h a b
theorem DN {α:Type} {P:List α->Prop} (h:∀a b c,P [a,b,c]):∀us:List α,us.length=3->P us
 | [a,b,c],_=>h a b c
theorem Qe {α:Type} {P:List α->Prop} (h:∀a b c d,P [a,b,c,d]):∀us:List α,us.length=4->P us
 | [a,b,c,d],_=>h a b c d
theorem Xm {α:Type} {P:List α->Prop} (h:∀a b c d e,P [a,b,c,d,e]):∀us:List α,us.length=5->P us
 | [a,b,c,d,e],_=>h a b c d e
theorem Yj {α:Type} {P:List α->Prop} (h:∀a b c d e f,P [a,b,c,d,e,f]):∀us:List α,us.length=6->P us
 | [a,b,c,d,e,f],_=>h a b c d e f
theorem us_7 {α:Type} {P:List α->Prop} (h:∀a b c d e f g,P [a,b,c,d,e,f,g]):∀us:List α,us.length=7->P us
 | [a,b,c,d,e,f,g],_=>h a b c d e f g
theorem dM.sc {K:PySem.W.Frag} {nm qn:Str} {s:Stmt} {f:Addr} {ps:List Str} (_:dM K nm qn s f ps) (N:List Str) (h:fZ N ps (aU s):=by exact⟨rfl,rfl,rfl,by decide +kernel,rfl,by decide +kernel,by decide +kernel⟩):fZ N ps (aU s):=h
theorem n6.sc {K:PySem.W.Frag} {mg:Str->Option Value} {nm:Str} {s:Stmt} {f:Addr} {ps:List Str} (_:n6 K mg nm s f ps) (N:List Str) (h:fZ N ps (aU s):=by exact⟨rfl,rfl,rfl,by decide +kernel,rfl,by decide +kernel,by decide +kernel⟩):fZ N ps (aU s):=h
noncomputable abbrev FO (P:Program) (w:World) (K:PySem.W.Frag) (mg:Str->Option Value) (base:Heap) (k:Nat) (f:Addr) (ps:List Str) (sp:Sp):Prop:=iB P w K mg base Cq k f (fdOf K f) ps sp
theorem Mu {N ps:List Str} {sc:Scope} (h:fZ N ps sc:=by exact⟨rfl,rfl,rfl,by decide +kernel,rfl,by decide +kernel,by decide +kernel⟩):fZ N ps sc:=h
section
variable {X:Cx} {k k' i:Nat} {f C:Addr} {ps as:List Str} {ms:List (Str×Addr)} {sp:Sp} {x m nm qn n:Str} {p pos apos pos':Pos} {e o:Expr} {es:List Expr} {ta te:TE} {t:TA} {s:Stmt} {N:List Str}
theorem dC (F:iB X.prog X.w X.K X.mg X.base Cq k f (fdOf X.K f) ps sp) (g:n6 X.K X.mg x s f ps) (hr:jg k' X.A) (ha:PA X (e:: es) t) (hk:k<=k':=by decide) (hg:Gl X x:=by rfl)
  (hdb:(x == ("__debug__" :Str))=false:=by decide) (he:starEach (e:: es) X.env=(false,eval e X.env):: starEach es X.env:=by rfl) (hpl:(backTo pos (starEach es X.env)).any (·.1)=false:=by rfl):
  PE X (.Call (.Name x p) (e:: es) [] pos) (Up sp [] E0 t):=TV F (hr.mono hk) hg g.m g.F.kp g.b .nil ir ha hdb he hpl
theorem wD {pl:Sem Bool} (he:PE X o ta) (c:Ig X.K X.mg n C ms as) (hm:PySem.W.findIn X.K (.ref C) m=some (some (.ref f))) (F:iB X.prog X.w X.K X.mg X.base Cq k f (fdOf X.K f) ps sp) (g:dM X.K nm qn s f ps) (hr:jg k' X.A) (ha:PA X (e:: es) t)
  (hk:k<=k':=by decide) (hst:starEach (e:: es) X.env=(false,eval e X.env):: starEach es X.env:=by rfl) (hpl:(backTo pos (starEach es X.env)).any (·.1)=false:=by rfl)
  (ht:eval (.Call (.Attribute o m apos) (e:: es) [] pos) X.env=(do
   let ov <-eval o X.env
   standAt apos.atName
   let (f,first) <-holding [ov] (getMethod ov m pl)
   callWith pos f first (backTo pos (starEach (e:: es) X.env)) (backToKw pos (keywordEach [] X.env))):=by rfl):
  PE X (.Call (.Attribute o m apos) (e:: es) [] pos) (LQ C m sp [] E0 ta t):=Ms he c.c (g.me hm) F (hr.mono hk) g.b .nil ir ha hst hpl ht
theorem Oz {pl:Sem Bool} (he:PE X o ta) (c:Ig X.K X.mg n C ms as) (hm:PySem.W.findIn X.K (.ref C) m=some (some (.ref f))) (F:iB X.prog X.w X.K X.mg X.base Cq k f (fdOf X.K f) ps sp) (g:dM X.K nm qn s f ps) (hr:jg k' X.A)
  (hk:k<=k':=by decide) (ht:eval (.Call (.Attribute o m apos) [] [] pos) X.env=(do
   let ov <-eval o X.env
   standAt apos.atName
   let (f,first) <-holding [ov] (getMethod ov m pl)
   callWith pos f first (backTo pos (starEach [] X.env)) (backToKw pos (keywordEach [] X.env))):=by rfl):
  PE X (.Call (.Attribute o m apos) [] [] pos) (LQ C m sp [] E0 ta Q7):=Qh he c.c (g.me hm) F (hr.mono hk) g.b .nil ir ht
theorem gN {sc:Scope} (S:fZ X.N ps sc) (i:Nat) (hi:X.N[i]?=some x:=by rfl) (hx:Loc X.env.scope x:=by first | exact Or.inl rfl | exact Or.inr rfl) (hf:X.fn x=true∨X.env.scope.names.lookup x=some .local:=by first | exact .inl rfl | exact .inr rfl | assumption):PG X (.Name x pos) (xQ i):=vh S.nd hi hx hf
theorem sN {sc:Scope} (S:fZ X.N ps sc) (i:Nat) (he:PE X e te) (hi:X.N[i]?=some x:=by rfl) (hx:Loc X.env.scope x:=by first | exact Or.inl rfl | exact Or.inr rfl) (hs:swapsWith e (some (.Name x pos')) pos.line X.env=pure false:=by rfl) (hf:X.fn x=true∨X.env.scope.names.lookup x=some .local:=by first | exact .inl rfl | exact .inr rfl | assumption):
  PS X (.Assign [.Name x pos'] e pos) (PN te (xQ i)):=V6 S.nd hi hx he hs hf
theorem Jw (h1:PE X o ta) (h2:PA X (e:: es) t) (hbase:attributeBase o "append" X.env (eval o X.env)=eval o X.env:=by rfl)
  (hfew:((backTo pos (starEach (e:: es) X.env)).all (fun x=>!x.1) && (backToKw pos (keywordEach [] X.env)).all (fun x=>x.1.isSome) && decide ((e:: es).length+([]:List Keyword).length+(if ([]:List Keyword).isEmpty then 0 else 1) <30))=true:=by rfl)
  (hline:(apos.endLine == pos.line)=true:=by rfl) (hs:starEach (e:: es) X.env=(false,eval e X.env):: starEach es X.env:=by rfl) (hplain:(backTo pos (starEach es X.env)).any (·.1)=false:=by rfl):
  PE X (.Call (.Attribute o "append" apos) (e:: es) [] pos) (Y5 X.K "list" M6 ta t):=Dq PySem.F.plainAttrs_list PySem.F.slot_list_append PySem.F.type_list_append N8 h1 h2 hbase hfew hline hs hplain
end
theorem ln {sp:Sp} {ps:List Str} (h:∀vs H Q E,sp vs H Q E->vs.length=ps.length:=by
 intro _ _ _ _ h
 first
 | (cases h;subst_vars;rfl)
 | (cases h;rename_i h;cases h;subst_vars;rfl)
 | (obtain⟨_,rfl,_⟩:=h;rfl)
 | (obtain⟨_,_,rfl,_⟩:=h;rfl)
 | (obtain⟨_,_,_,rfl,_⟩:=h;rfl)):∀vs H Q E,sp vs H Q E->vs.length=ps.length:=h
theorem Nr {X:Cx}:jZ X (.builtin "len") (fun xs H Q=>∃d kvs,xs=[.ref d]/\Rd H d (.dK kvs)/\Q (.int (kvs.length:Nat)) H):=by
 intro pins s σ H xs us Q I rx h
 obtain⟨d,kvs,rfl,hr,q⟩:=h
 obtain⟨u,rfl,ru⟩:=vals1 rx
 cases ru
 obtain⟨z,hd,vs,rel,dd⟩:=vV I.hok hr
 have hl:kvs.length=vs.length:=Paired.length rel
 have hs:sizeLine=16777216:=sizeLine_eq
 refine call_len_dict (knd:=cj X.prog X.w) hd dd (by omega) ?_
 rw [<-hl]
 exact⟨.int _,H,I.tok _,⟨_,rfl⟩,q⟩
end L2
namespace One
open PySem PySem.W PySem.Calls PyProof.Rows
def Ga:Nat->BT->List Obj->BT
 | _,t,[]=>t
 | n,t,o:: r=>Ga (n+1) (t.ins n o) r
def GK:Nat->BT->List Obj->Bool
 | _,_,[]=>true
 | n,t,o:: r=>((t.ins n o).get n).isSome && GK (n+1) (t.ins n o) r
theorem Fv {life:Life}:∀(l:List Obj) (n:Nat) (t:BT) (as:List Obj),absHeap t n life=⟨as.toArray,life⟩->GK n t l=true->absHeap (Ga n t l) (n+l.length) life=⟨(as ++ l).toArray,life⟩
 | [],n,t,as,h,_=>by simpa [Ga] using h
 | o:: r,n,t,as,h,k=>by
  simp only [GK,Bool.and_eq_true] at k
  have e:=absHeap_ins (life:=life) k.1
  rw [h] at e
  have:=Fv r (n+1) (t.ins n o) (as ++ [o]) (by rw [e];simp [Heap.push]) k.2
  rw [List.append_assoc] at this
  rw [List.length_cons,show n+(r.length+1)=n+1+r.length by omega]
  exact this
def XM (tb:String->Option Builtin) (p:Program) (w:World) (m:Nat) (an:Option Value):Nat->SharedT->Thread->Option (SharedT×Thread)
 | 0,s,t=>some (s,t)
 | n+1,s,t=>match through t with
  | true=>some (s,t)
  | false=>match stepOk m an t with
   | false=>none
   | true=>match stepT (denote tb) p w s t with
    | some (s',t')=>XM tb p w m an n s' t'
    | none=>none
theorem Pj {tb:String->Option Builtin} {p:Program} {w:World} {m:Nat} {an:Option Value}:∀{n:Nat} {s s':SharedT} {t t':Thread},XM tb p w m an n s t=some (s',t')->through t'=true->topRun tb p w m an (n+1) s.abs t=some s'.abs
 | 0,s,s',t,t',h,z=>by
  obtain⟨rfl,rfl⟩:=Prod.mk.inj (Option.some.inj h)
  unfold topRun
  rw [z]
 | n+1,s,s',t,t',h,z=>by
  unfold XM at h
  unfold topRun
  cases e1:through t with
  | true=>
   rw [e1] at h
   obtain⟨rfl,rfl⟩:=Prod.mk.inj (Option.some.inj h)
   rfl
  | false=>
   rw [e1] at h
   cases e2:stepOk m an t with
   | false=>rw [e2] at h;cases h
   | true=>
    rw [e2] at h
    cases e3:stepT (denote tb) p w s t with
    | none=>rw [e3] at h;cases h
    | some r=>
     obtain⟨s2,t2⟩:=r
     rw [e3] at h
     rw [stepT_spec e3]
     exact Pj h z
def ends (r:SharedT×Thread):Option SharedT:=match through r.2 with
 | true=>some r.1
 | false=>none
theorem Tv {tb:String->Option Builtin} {p:Program} {w:World} {m:Nat} {an:Option Value} {n:Nat} {s s':SharedT} {t:Thread} (h:(XM tb p w m an n s t).bind ends=some s'):topRun tb p w m an (n+1) s.abs t=some s'.abs:=by
 obtain⟨⟨s2,t2⟩,e1,e2⟩:=Option.bind_eq_some_iff.mp h
 unfold ends at e2
 cases z:through t2 with
 | false=>simp only [z] at e2;cases e2
 | true=>
  simp only [z] at e2
  cases e2
  exact Pj e1 z
noncomputable def Xa (P:Params):Option Value:=(boot_heap P).nsMap mainGlobals "__annotations__"
noncomputable def S0 (w:World) (os:OsState):SharedT:=⟨Ga 0 .nil (boot_heap w.params).objs.toList,11,{},Array.mk [],boot_drawn,boot_toks,os⟩
theorem Vn (w:World) (os:OsState):(S0 w os).abs=⟨boot_heap w.params,Array.mk [],boot_drawn,boot_toks,os⟩:=by
 have e:=Fv (life:={}) (boot_heap w.params).objs.toList 0 .nil [] rfl (by rfl)
 have e2:absHeap (Ga 0 .nil (boot_heap w.params).objs.toList) 11 {}=boot_heap w.params:=e
 show(⟨absHeap (Ga 0 .nil (boot_heap w.params).objs.toList) 11 {},_,_,_,_⟩:Shared)=_
 rw [e2]
 rfl
noncomputable def VJ (p:Program) (M:Nat) (w:World) (os:OsState):Option SharedT:=(XM treeTable p w 11 (Xa w.params) M (S0 w os) (topStub p)).bind ends
noncomputable def Pk (p q:Program) (loose:List Str) (Xt:Shared->Bool) (M:Nat) (w:World) (os:OsState):=
 (VJ p M w os).map fun s=>(staticsOk (importedModules p.main.body) (boot_heap w.params) s.abs.heap && namesBound p s.abs.heap && gensDone s.abs && laidKept (boot_heap w.params) s.abs.heap,openSeen q loose (importedModules p.main.body) Xt true s.abs)
theorem Tp {p q:Program} {loose:List Str} {Xt:Shared->Bool} {α:Type} {Yf:Shared->α} {Ya:World->α} {N M:Nat} (e:opening p=plainProg p.main.scope.names) (hN:Nat.ble 600 N=true) (f:∀s,fenceModules? p s=some s) (le:Nat.ble (M+1) N=true)
  (A:∀w os,Pk p q loose Xt M w os=some (true,openGood q loose)) (B:∀w os,(VJ p M w os).map (fun s=>Yf s.abs)=some (Ya w)):LeftO p q loose Xt Yf Ya N:=fun w=>by
 obtain⟨⟨h,gs,d,k,os⟩,e1,e2⟩:=Option.map_eq_some_iff.mp (boot_open e hN f w)
 obtain⟨rfl,rfl,rfl,rfl⟩:h=boot_heap w.params/\gs=Array.mk []/\d=boot_drawn/\k=boot_toks:=by simpa using e2
 obtain⟨s1,r1,l1⟩:=Option.map_eq_some_iff.mp (A w os)
 obtain⟨s2,r2,l2⟩:=Option.map_eq_some_iff.mp (B w os)
 rw [r1] at r2
 cases r2
 obtain⟨l3,l4⟩:=Prod.mk.inj l1
 have r3:=Tv r1
 rw [Vn] at r3
 have r4:=topRun_mono (N - (M+1)) _ _ _ _ r3
 rw [show M+1+(N - (M+1))=N by have:=Nat.le_of_ble_eq_true le;omega] at r4
 have t:topFrom treeTable p w N ⟨boot_heap w.params,Array.mk [],boot_drawn,boot_toks,os⟩=some s1.abs:=by
  unfold topFrom
  have z1:((boot_heap w.params).isNs mainGlobals && (Array.mk []:Array GenState).size == 0)=true:=by kernel_rfl
  dsimp only
  rw [z1]
  show((topRun treeTable p w 11 (Xa w.params) N _ _).bind _)=_
  rw [r4]
  show(match staticsOk (importedModules p.main.body) (boot_heap w.params) s1.abs.heap && namesBound p s1.abs.heap && gensDone s1.abs && laidKept (boot_heap w.params) s1.abs.heap with | true=>_ | false=>_)=_
  rw [l3]
 unfold openEnds
 rw [e1]
 show(topFrom treeTable p w N _).map _=_
 rw [t]
 exact congrArg some (Prod.ext l4 l2)
def yr (s:SharedT) (a:Addr):Option Obj:=match Nat.blt a s.n with
 | true=>(match s.tree.get a with | some o=>alive o | none=>none)
 | false=>none
theorem QW {s:SharedT} {a:Addr} {o:Obj} (h:yr s a=some o):s.abs.heap.get? a=some o:=by
 unfold yr at h
 cases e:Nat.blt a s.n with
 | false=>rw [e] at h;cases h
 | true=>
  rw [e] at h
  cases g:s.tree.get a with
  | none=>rw [g] at h;cases h
  | some x=>
   rw [g] at h
   exact(abs_get (Nat.le_of_ble_eq_true e) g).trans h
theorem Mj {s:SharedT}:∀{as:List Addr} {l:List (Addr×Obj)},as.map (yr s)=l.map (fun p=>some p.2)->as.map s.abs.heap.get?=l.map fun p=>some p.2
 | [],[],_=>rfl
 | [],_:: _,h=>by cases h
 | _:: _,[],h=>by cases h
 | a:: as,x:: l,h=>by
  have h1:=List.cons.inj h
  show s.abs.heap.get? a:: as.map _=_
  rw [QW h1.1,Mj h1.2]
  rfl
theorem chunk {o:Option SharedT} {as:List Addr} {l:List (Addr×Obj)} (n:Nat) (h1:o.map (fun s=>(as.take n).map (yr s))=some ((l.take n).map fun p=>some p.2)) (h2:o.map (fun s=>(as.drop n).map (yr s))=some ((l.drop n).map fun p=>some p.2)):
  o.map (fun s=>as.map (yr s))=some (l.map fun p=>some p.2):=by
 obtain⟨s,e1,e2⟩:=Option.map_eq_some_iff.mp h1
 subst e1
 have e3:=Option.some.inj h2
 show some (as.map (yr s))=_
 rw [<-List.take_append_drop n as,<-List.take_append_drop n l,List.map_append,List.map_append]
 exact congrArg some (congr (congrArg _ e2) e3)
theorem Tz {o:Option SharedT} {w:World} {K:Params->Frag} {as:List Addr} {e:∀P,as=(K P).map (·.1)} (h:o.map (fun s=>as.map (yr s))=some ((K w.params).map fun p=>some p.2)):
  o.map (fun s=>Hook.obs (kHook K as e) s.abs)=some (Hook.val (kHook K as e) w):=by
 obtain⟨s,h1,h2⟩:=Option.map_eq_some_iff.mp h
 rw [h1]
 exact congrArg some (Mj h2)
end One
namespace HD
open PySem PySem.W PySem.Calls PyProof.Rows
abbrev rr:OpenRow:=OpenLaw.row PySem.Challenge.rw_holdlane_k51_what_each_part_waits_for
def q:Program:=view PySem.Challenge.pw_holdlane_k51_what_each_part_waits_for [84]
def loose:List PySem.Str:=(["_wall", "wait_of", "waits_of", "LaneError", "TooMany", "NoKind", "BadName", "Doubled", "NoSuch", "BadNumbers", "BadLanes", "BadRoom", "Open", "Loose", "BadRow", "VALUES"]:List PySem.Str) ++ (["FIGURES", "LETTERS", "LONGEST_NAME", "is_whole", "is_value", "is_name", "rest", "COUNTS", "Part", "Give", "Take", "Pass", "Copy", "Turn", "Heap", "Add"]:List PySem.Str) ++ (["Less", "Order", "Choose", "Split", "is_kind", "need_fit", "made_of", "part_made", "MOST_LANES", "MOST_PARTS", "MOST_ROOM", "need_counts", "need_fresh", "need_lane", "fresh_part", "tie_lanes"]:List PySem.Str) ++ (["need_ends", "joined_with", "need_joined", "Net", "Flow", "LONGEST_ROW", "is_row", "need_rows", "Run", "_law_cell", "_law_mix", "_law_value", "_law_word", "_law_lane", "_law_part", "_law_pick"]:List PySem.Str) ++ (["_law_two", "_law_loop", "_law_step", "_law_closed", "_law_net", "_law_rows", "_law_wait", "_law_waits", "_law_held", "_law_told", "_law_turn"]:List PySem.Str)
def Xt (s:Shared):Bool:=xlAt q [] s && recOk (RowW.records (OpenRow.toRowW (OpenLaw.row PySem.Challenge.rw_holdlane_k51_what_each_part_waits_for))) s
structure KA where
 K:Params->Frag
 as:List Addr
def pickK {r:OpenRow} {K:Params->Frag} {as:List Addr} (_:(∀H:Hook,(∃e,H=kHook K as e)->r.Holds)->r.Holds):KA:=⟨K,as⟩
local macro_rules | `(tactic| o_head $H)=>`(tactic| (rename_i hh;exact hh $H ⟨_,rfl⟩))
noncomputable def ka:KA:=pickK (r:=rr) (fun _=>by k_head)
theorem RM (P:Params):KA.as ka=(ka.heap_1 P).map (·.1):=by kernel_rfl
noncomputable def runC:World->OsState->Option SharedT:=fun w os=>One.VJ PySem.Challenge.pw_holdlane_k51_what_each_part_waits_for 14060 w os
noncomputable def Hj:=fun(w:World) (os:OsState)=>One.Pk PySem.Challenge.pw_holdlane_k51_what_each_part_waits_for q loose Xt 14060 w os
noncomputable def Mt:=some (true,openGood q loose)
theorem Vk:runC=runC:=rfl
name_quick runQ for HD.runC by HD.Vk
theorem PJ:Hj=Hj:=rfl
name_quick looksQ for HD.Hj by HD.PJ
theorem RZ:Mt=Mt:=rfl
name_quick goodQ for HD.Mt by HD.RZ
theorem A0 (w:World) (os:OsState):PySem.W.Fast.looksQ (w.withFollow "special-get-raises" false) os=PySem.W.Fast.goodQ:=by kernel_rfl
theorem YQ (w:World) (os:OsState):(PySem.W.Fast.runQ (w.withFollow "special-get-raises" false) os).map (fun s=>(KA.as ka).map (One.yr s))=some ((ka.heap_1 (w.withFollow "special-get-raises" false).params).map fun p=>some p.2):=by kernel_rfl
theorem B0 (w:World) (os:OsState):(PySem.W.Fast.runQ (w.withFollow "special-get-raises" false) os).map (fun s=>(KA.as ka).map (One.yr s))=some ((ka.heap_1 (w.withFollow "special-get-raises" false).params).map fun p=>some p.2):=YQ w os
theorem A1 (w:World) (os:OsState):PySem.W.Fast.looksQ (w.withFollow "special-get-raises" true) os=PySem.W.Fast.goodQ:=by kernel_rfl
theorem Yu (w:World) (os:OsState):(PySem.W.Fast.runQ (w.withFollow "special-get-raises" true) os).map (fun s=>(KA.as ka).map (One.yr s))=some ((ka.heap_1 (w.withFollow "special-get-raises" true).params).map fun p=>some p.2):=by kernel_rfl
theorem B1 (w:World) (os:OsState):(PySem.W.Fast.runQ (w.withFollow "special-get-raises" true) os).map (fun s=>(KA.as ka).map (One.yr s))=some ((ka.heap_1 (w.withFollow "special-get-raises" true).params).map fun p=>some p.2):=Yu w os
theorem A (w:World):∀os,Hj w os=Mt:=by
 rw [PySem.W.Fast.looksQ_eq,PySem.W.Fast.goodQ_eq]
 exact byRow2 "special-get-raises" (P:=fun w=>∀os,PySem.W.Fast.looksQ w os=PySem.W.Fast.goodQ) A0 A1 w
theorem B (w:World):∀os,(runC w os).map (fun s=>(KA.as ka).map (One.yr s))=some ((ka.heap_1 w.params).map fun p=>some p.2):=by
 rw [PySem.W.Fast.runQ_eq]
 exact byRow2 "special-get-raises" (P:=fun w=>∀os,(PySem.W.Fast.runQ w os).map (fun s=>(KA.as ka).map (One.yr s))=some ((ka.heap_1 w.params).map fun p=>some p.2)) B0 B1 w
theorem head {d:DefRec} {kwd:List (PySem.Str×Expr)}
  (hdef:defOf q rr.name=some (d,kwd)) (hp:rr.prog.theDef rr.name=some (d.params,d.body,d.scope)) (hk:kwWritten? d.params.kwonlyargs d.params.kw_defaults=some kwd) (hwr:(!rr.writes || rr.records.isEmpty)=true)
  (k1:rr.wellSaid=true) (ok:(chainsOk q && opensWell rr.prog && (frees rr.toRowW && rr.within.isEmpty))=true) (hb:rr.prog.bare) (ho:opening PySem.Challenge.pw_holdlane_k51_what_each_part_waits_for=plainProg (PySem.Challenge.pw_holdlane_k51_what_each_part_waits_for).main.scope.names) (f:∀s,fenceModules? PySem.Challenge.pw_holdlane_k51_what_each_part_waits_for s=some s)
  (hw:rr.toRowW.promised) (hc:WalkO q loose (XL q []) (Hook.says (kHook ka.heap_1 (KA.as ka) RM)) rr.toRowW d kwd fun f vs=>PySem.call f vs):rr.Holds:=by
 have left:LeftO PySem.Challenge.pw_holdlane_k51_what_each_part_waits_for q loose Xt (Hook.obs (kHook ka.heap_1 (KA.as ka) RM)) (Hook.val (kHook ka.heap_1 (KA.as ka) RM)) 28700:=One.Tp (M:=14060) ho rfl f rfl A fun w os=>One.Tz (B w os)
 exact holds_open (XP:=XL q []) (YP:=Hook.says (kHook ka.heap_1 (KA.as ka) RM)) left (Hook.of _) (Hook.keeps _) (fun s z=>xl_of s (Bool.and_eq_true_iff.mp z).1) XL.keeps hdef hp hk (fun s z=>recFacts_of (Bool.and_eq_true_iff.mp z).2) hwr k1 ok hb hw hc
end HD
namespace K51
open PySem L2
theorem lM {α β:Type} {f:α->β} {l:List α}:(l.map f).length=l.length:=List.length_map ..
theorem lP {α:Type} {l m:List α}:(l ++ m).length=l.length+m.length:=List.length_append ..
theorem iw {n:Nat} (h:Nat.ble n 16777216=true:=by rfl):n<=sizeLine:=by rw [sizeLine_eq];exact Nat.le_of_ble_eq_true h
noncomputable def top (i:Nat):Stmt:=PySem.Challenge.pw_holdlane_k51_what_each_part_waits_for.main.body.getD i (.Pass ⟨0,0,0,0⟩)
set_option genInjectivity false in
structure ji where
 (Dn BZ bO um tY uq ut uv uf wL uJ rQ qJ sH Fl Bq En zU O5 cD mO cG cW sE qM qz qU qO rU qN pA mL pF qL qG Cd zV wY zF Aa Aj Ak DK zH zX wu BR Ge vZ yw z6 xH Ao Ad vO wy j7 km jh uC uy iK qK oR qI pJ rY mC uF j9 rN pI ug zp mG my mK oO zP oJ Di kh wG Jb zG pq mH mQ Fq Dj Am Af yt zA Ag zK U8 J9 Kw KZ Kc KN K3 Q0 Ks GF Cu G6 dF bY pH xT:Addr)
noncomputable abbrev ROWS:List (Str×List Int):=[("give",[0,0,1]),("take",[0,1,0]),("pass",[0,1,1]),("copy",[0,1,2]),("turn",[2,1,1]),("heap",[1,1,1]),("add",[0,2,1]),("less",[0,2,1]),("order",[0,2,2]),("choose",[0,3,1]),("split",[0,2,2])]
structure Txt (w:World) (K:PySem.W.Frag) (mg:Str->Option Value) (t:ji):Prop where
 iM:Ig K mg "Give" t.J9 [("__init__",t.bO),("kind",t.um),("taking",t.cD),("lacks",t.cG),("worked",t.qL),("start",t.cW)] ["name", "numbers", "ins", "outs"]
 iy:Ig K mg "Take" t.Kw [("__init__",t.bO),("kind",t.tY),("taking",t.cD),("lacks",t.cG),("worked",t.qG),("start",t.cW)] ["name", "numbers", "ins", "outs"]
 iH:Ig K mg "Pass" t.KZ [("__init__",t.bO),("kind",t.uq),("taking",t.cD),("lacks",t.cG),("worked",t.qM),("start",t.cW)] ["name", "numbers", "ins", "outs"]
 iI:Ig K mg "Copy" t.Kc [("__init__",t.bO),("kind",t.ut),("taking",t.cD),("lacks",t.cG),("worked",t.qz),("start",t.cW)] ["name", "numbers", "ins", "outs"]
 iJ:Ig K mg "Turn" t.KN [("__init__",t.bO),("kind",t.uv),("taking",t.cD),("lacks",t.cG),("worked",t.qU),("start",t.cW)] ["name", "numbers", "ins", "outs"]
 iD:Ig K mg "Heap" t.K3 [("__init__",t.bO),("kind",t.uf),("taking",t.cD),("lacks",t.cG),("worked",t.qO),("start",t.sE)] ["name", "numbers", "ins", "outs"]
 lO:Ig K mg "Add" t.Q0 [("__init__",t.bO),("kind",t.wL),("taking",t.cD),("lacks",t.cG),("worked",t.rU),("start",t.cW)] ["name", "numbers", "ins", "outs"]
 iz:Ig K mg "Less" t.Ks [("__init__",t.bO),("kind",t.uJ),("taking",t.cD),("lacks",t.cG),("worked",t.qN),("start",t.cW)] ["name", "numbers", "ins", "outs"]
 fH:Ig K mg "Order" t.GF [("__init__",t.bO),("kind",t.rQ),("taking",t.cD),("lacks",t.cG),("worked",t.pA),("start",t.cW)] ["name", "numbers", "ins", "outs"]
 dY:Ig K mg "Choose" t.Cu [("__init__",t.bO),("kind",t.qJ),("taking",t.mO),("lacks",t.cG),("worked",t.mL),("start",t.cW)] ["name", "numbers", "ins", "outs"]
 fP:Ig K mg "Split" t.G6 [("__init__",t.bO),("kind",t.sH),("taking",t.cD),("lacks",t.cG),("worked",t.pF),("start",t.cW)] ["name", "numbers", "ins", "outs"]
 bj:Ig K mg "Net" t.dF [("__init__",t.pJ),("lane_names",t.j7),("part_names",t.km),("names_of_kind",t.jh),("gives",t.uC),("takes",t.uy),("need_lane_name",t.iK),("room_of",t.qK),("first_of",t.oR),("part_of",t.qI)] ["rooms", "firsts", "parts", "givers", "takers"]
 aO:Ig K mg "Flow" t.bY [("__init__",t.mG),("holds",t.rY),("held_now",t.mC),("head",t.uF),("row_ended",t.j9),("heads",t.rN),("lacking",t.pI),("deed",t.ug),("do",t.zp),("row_left",t.mH)] ["net", "ever", "gone", "kept", "done", "rows"]
 bQ:Ig K mg "Run" t.pH [("__init__",t.pq),("full_lane",t.my),("next_deed",t.mK),("need_doors",t.kh),("step",t.wG),("can_work",t.oO),("works",t.zP),("lane_now",t.oJ),("turn",t.Di),("rows_left",t.mQ)] ["net", "flow", "turns"]
 rW:n6 K mg "is_whole" (top 22) t.Dn ["thing"]
 oH:n6 K mg "is_value" (top 23) t.BZ ["thing"]
 aZ:dM K "__init__" "Part.__init__" (inClass (top 28) 0) t.bO ["self", "name", "numbers", "ins", "outs"]
 qi:dM K "kind" "Give.kind" (inClass (top 29) 0) t.um ["self"]
 qm:dM K "kind" "Take.kind" (inClass (top 30) 0) t.tY ["self"]
 pP:dM K "kind" "Pass.kind" (inClass (top 31) 0) t.uq ["self"]
 qd:dM K "kind" "Copy.kind" (inClass (top 32) 0) t.ut ["self"]
 qb:dM K "kind" "Turn.kind" (inClass (top 33) 0) t.uv ["self"]
 qw:dM K "kind" "Heap.kind" (inClass (top 34) 0) t.uf ["self"]
 sU:dM K "kind" "Add.kind" (inClass (top 35) 0) t.wL ["self"]
 qe:dM K "kind" "Less.kind" (inClass (top 36) 0) t.uJ ["self"]
 m5:dM K "kind" "Order.kind" (inClass (top 37) 0) t.rQ ["self"]
 lB:dM K "kind" "Choose.kind" (inClass (top 38) 0) t.qJ ["self"]
 nZ:dM K "kind" "Split.kind" (inClass (top 39) 0) t.sH ["self"]
 uZ:n6 K mg "is_kind" (top 40) t.Fl ["word"]
 wK:n6 K mg "need_fit" (top 41) t.Bq ["kind", "name", "numbers", "ins", "outs"]
 Fw:n6 K mg "made_of" (top 42) t.En ["kind", "name", "numbers", "ins", "outs"]
 zZ:n6 K mg "part_made" (top 43) t.zU ["kind", "name", "numbers", "ins", "outs"]
 Bw:n6 K mg "rest" (top 25) t.O5 ["number"]
 bB:dM K "taking" "Part.taking" (inClass (top 28) 4) t.cD ["self", "heads"]
 jw:dM K "taking" "Choose.taking" (inClass (top 38) 1) t.mO ["self", "heads"]
 bC:dM K "lacks" "Part.lacks" (inClass (top 28) 3) t.cG ["self", "heads"]
 bJ:dM K "start" "Part.start" (inClass (top 28) 2) t.cW ["self"]
 nQ:dM K "start" "Heap.start" (inClass (top 34) 1) t.sE ["self"]
 lD:dM K "worked" "Pass.worked" (inClass (top 31) 1) t.qM ["self", "values", "kept"]
 kO:dM K "worked" "Copy.worked" (inClass (top 32) 1) t.qz ["self", "values", "kept"]
 kW:dM K "worked" "Turn.worked" (inClass (top 33) 1) t.qU ["self", "values", "kept"]
 kJ:dM K "worked" "Heap.worked" (inClass (top 34) 2) t.qO ["self", "values", "kept"]
 nH:dM K "worked" "Add.worked" (inClass (top 35) 1) t.rU ["self", "values", "kept"]
 lg:dM K "worked" "Less.worked" (inClass (top 36) 1) t.qN ["self", "values", "kept"]
 jP:dM K "worked" "Order.worked" (inClass (top 37) 1) t.pA ["self", "values", "kept"]
 jr:dM K "worked" "Choose.worked" (inClass (top 38) 2) t.mL ["self", "values", "kept"]
 jM:dM K "worked" "Split.worked" (inClass (top 39) 1) t.pF ["self", "values", "kept"]
 kZ:dM K "worked" "Give.worked" (inClass (top 29) 1) t.qL ["self", "values", "kept"]
 lA:dM K "worked" "Take.worked" (inClass (top 30) 1) t.qG ["self", "values", "kept"]
 bf:n6 K mg "_law_mix" (top 67) t.Cd ["_law_cell_here", "_law_k"]
 fO:n6 K mg "_law_cell" (top 66) t.zV ["_law_script", "_law_k"]
 fK:n6 K mg "_law_value" (top 68) t.wY ["_law_cell_here", "_law_k"]
 jB:n6 K mg "_law_word" (top 69) t.zF ["_law_cell_here", "_law_k"]
 iT:n6 K mg "_law_lane" (top 70) t.Aa ["_law_state", "_law_cell_here", "_law_back"]
 lH:n6 K mg "_law_pick" (top 72) t.Aj ["_law_state", "_law_number"]
 cC:n6 K mg "_law_part" (top 71) t.Ak ["_law_state", "_law_cell_here", "_law_kind", "_law_numbers", "_law_ins", "_law_many"]
 wV:n6 K mg "_law_two" (top 73) t.DK ["_law_state", "_law_cell_here", "_law_one", "_law_odd"]
 ur:n6 K mg "_law_loop" (top 74) t.zH ["_law_state", "_law_cell_here", "_law_one"]
 uo:n6 K mg "_law_step" (top 75) t.zX ["_law_state", "_law_cell_here", "_law_odd"]
 qQ:n6 K mg "_law_closed" (top 76) t.wu ["_law_state", "_law_cell_here", "_law_back"]
 wJ:n6 K mg "_law_net" (top 77) t.BR ["_law_script", "_law_start", "_law_steps", "_law_odd"]
 zc:n6 K mg "is_name" (top 24) t.Ge ["thing"]
 qD:n6 K mg "need_counts" (top 48) t.vZ ["lanes", "parts"]
 m8:n6 K mg "need_fresh" (top 49) t.yw ["name", "known"]
 uG:n6 K mg "need_lane" (top 50) t.z6 ["name", "room", "first"]
 sV:n6 K mg "fresh_part" (top 51) t.xH ["row", "known"]
 pQ:n6 K mg "tie_lanes" (top 52) t.Ao ["part", "lanes", "rooms", "ends"]
 tV:n6 K mg "need_ends" (top 53) t.Ad ["rooms", "givers", "takers"]
 qH:n6 K mg "joined_with" (top 54) t.vO ["part", "givers", "takers"]
 qC:n6 K mg "need_joined" (top 55) t.wy ["names", "givers", "takers"]
 iW:dM K "lane_names" "Net.lane_names" (inClass (top 56) 1) t.j7 ["self"]
 eU:dM K "part_names" "Net.part_names" (inClass (top 56) 2) t.km ["self"]
 gf:dM K "names_of_kind" "Net.names_of_kind" (inClass (top 56) 5) t.jh ["self", "kind"]
 jA:dM K "gives" "Net.gives" (inClass (top 56) 3) t.uC ["self"]
 tR:dM K "takes" "Net.takes" (inClass (top 56) 4) t.uy ["self"]
 dX:dM K "need_lane_name" "Net.need_lane_name" (inClass (top 56) 12) t.iK ["self", "name"]
 qF:dM K "room_of" "Net.room_of" (inClass (top 56) 7) t.qK ["self", "name"]
 pG:dM K "first_of" "Net.first_of" (inClass (top 56) 8) t.oR ["self", "name"]
 jo:dM K "part_of" "Net.part_of" (inClass (top 56) 11) t.qI ["self", "name"]
 jJ:dM K "__init__" "Net.__init__" (inClass (top 56) 0) t.pJ ["self", "lanes", "parts"]
 mZ:dM K "holds" "Flow.holds" (inClass (top 58) 1) t.rY ["self", "lane"]
 mz:dM K "held_now" "Flow.held_now" (inClass (top 58) 2) t.mC ["self", "lane"]
 uw:dM K "head" "Flow.head" (inClass (top 58) 5) t.uF ["self", "lane"]
 jc:dM K "row_ended" "Flow.row_ended" (inClass (top 58) 8) t.j9 ["self", "name"]
 nC:dM K "heads" "Flow.heads" (inClass (top 58) 6) t.rN ["self", "part"]
 jW:dM K "lacking" "Flow.lacking" (inClass (top 58) 7) t.pI ["self", "name"]
 pU:dM K "deed" "Flow.deed" (inClass (top 58) 9) t.ug ["self", "name"]
 yO:dM K "do" "Flow.do" (inClass (top 58) 10) t.zp ["self", "name", "deed"]
 ju:dM K "__init__" "Flow.__init__" (inClass (top 58) 0) t.mG ["self", "net", "rows"]
 jt:dM K "full_lane" "Run.full_lane" (inClass (top 64) 4) t.my ["self", "deed"]
 jq:dM K "next_deed" "Run.next_deed" (inClass (top 64) 3) t.mK ["self", "name"]
 oX:dM K "can_work" "Run.can_work" (inClass (top 64) 5) t.oO ["self", "name"]
 Uc:dM K "works" "Run.works" (inClass (top 64) 6) t.zP ["self", "name"]
 pK:dM K "lane_now" "Run.lane_now" (inClass (top 64) 8) t.oJ ["self", "name"]
 Wc:dM K "turn" "Run.turn" (inClass (top 64) 10) t.Di ["self"]
 j8:dM K "need_doors" "Run.need_doors" (inClass (top 64) 2) t.kh ["self", "names"]
 wC:Wh K "step" "Run.step" (inClass (top 64) 1) t.wG ["self", "held"]
 Do:n6 K mg "is_row" (top 61) t.Jb ["thing"]
 ud:n6 K mg "need_rows" (top 62) t.zG ["net", "rows"]
 jO:dM K "__init__" "Run.__init__" (inClass (top 64) 0) t.pq ["self", "net", "rows"]
 mU:dM K "row_left" "Flow.row_left" (inClass (top 58) 4) t.mH ["self", "door"]
 mD:dM K "rows_left" "Run.rows_left" (inClass (top 64) 13) t.mQ ["self"]
 zg:n6 K mg "wait_of" (top 2) t.Fq ["run", "name"]
 sJ:n6 K mg "waits_of" (top 3) t.Dj ["run"]
 ul:n6 K mg "_law_rows" (top 78) t.Am ["_law_script", "_law_parts", "_law_start"]
 uM:n6 K mg "_law_wait" (top 79) t.Af ["_law_part_here", "_law_now", "_law_rooms", "_law_left"]
 nY:n6 K mg "_law_waits" (top 80) t.yt ["_law_run", "_law_lanes", "_law_parts"]
 uA:n6 K mg "_law_held" (top 81) t.zA ["_law_parts", "_law_cell_here"]
 pO:n6 K mg "_law_told" (top 82) t.Ag ["_law_run", "_law_due"]
 p8:n6 K mg "_law_turn" (top 83) t.zK ["_law_run", "_law_lanes", "_law_parts", "_law_cell_here"]
 LR:n6 K mg "law" (top 84) t.U8 ["_law_script"]
 Er:mg "COUNTS" =some (.ref t.xT)
 IW:KTab w K t.xT ROWS
 K4:mg "all" =none
 Q3:mg "bool" =none
 Wk:mg "int" =none
 fG:mg "isinstance" =none
 fX:mg "len" =none
 uI:mg "list" =none
 Qf:mg "max" =none
 XF:mg "min" =none
 kY:mg "range" =none
 QT:mg "sorted" =none
 PB:mg "str" =none
 xM:mg "tuple" =none
 Ir:∃u,mg "VALUES" =some u/\RelV (.int 1000000000) u
 Ew:∃u,mg "LETTERS" =some u/\RelV (.str "abcdefghijklmnopqrstuvwxyz") u
 Dm:∃u,mg "LONGEST_NAME" =some u/\RelV (.int 8) u
 M9:∃u,mg "FIGURES" =some u/\RelV (.str "0123456789") u
 G9:∃u,mg "MOST_LANES" =some u/\RelV (.int 24) u
 Ha:∃u,mg "MOST_PARTS" =some u/\RelV (.int 16) u
 Jq:∃u,mg "MOST_ROOM" =some u/\RelV (.int 199) u
 Ec:∃u,mg "LONGEST_ROW" =some u/\RelV (.int 300) u
section
variable {P:Program} {w:World} {K:PySem.W.Frag} {mg:Str->Option Value} {base:Heap} {t:ji}
noncomputable def cX (i:Nat):Str:=match i with
 | 0=> "give"
 | 1=> "take"
 | 2=> "pass"
 | 3=> "copy"
 | 4=> "turn"
 | 5=> "heap"
 | 6=> "add"
 | 7=> "less"
 | 8=> "order"
 | 9=> "choose"
 | _=> "split"
noncomputable def cN (i:Nat):Nat:=match i with
 | 0=>0
 | 1=>0
 | 2=>0
 | 3=>0
 | 4=>2
 | 5=>1
 | 6=>0
 | 7=>0
 | 8=>0
 | 9=>0
 | _=>0
noncomputable def cI (i:Nat):Nat:=match i with
 | 0=>0
 | 1=>1
 | 2=>1
 | 3=>1
 | 4=>1
 | 5=>1
 | 6=>2
 | 7=>2
 | 8=>2
 | 9=>3
 | _=>2
noncomputable def cO (i:Nat):Nat:=match i with
 | 0=>1
 | 1=>0
 | 2=>1
 | 3=>2
 | 4=>1
 | 5=>1
 | 6=>1
 | 7=>1
 | 8=>2
 | 9=>1
 | _=>2
noncomputable def cls (t:ji) (i:Nat):Addr:=match i with
 | 0=>t.J9
 | 1=>t.Kw
 | 2=>t.KZ
 | 3=>t.Kc
 | 4=>t.KN
 | 5=>t.K3
 | 6=>t.Q0
 | 7=>t.Ks
 | 8=>t.GF
 | 9=>t.Cu
 | _=>t.G6
theorem row_of (i:Nat):rowOf ROWS (cX i)=some [((cN i:Nat):Int),((cI i:Nat):Int),((cO i:Nat):Int)]:=match i with
 | 0=>by show rowOf ROWS "give" =some [0,0,1];decide +kernel
 | 1=>by show rowOf ROWS "take" =some [0,1,0];decide +kernel
 | 2=>by show rowOf ROWS "pass" =some [0,1,1];decide +kernel
 | 3=>by show rowOf ROWS "copy" =some [0,1,2];decide +kernel
 | 4=>by show rowOf ROWS "turn" =some [2,1,1];decide +kernel
 | 5=>by show rowOf ROWS "heap" =some [1,1,1];decide +kernel
 | 6=>by show rowOf ROWS "add" =some [0,2,1];decide +kernel
 | 7=>by show rowOf ROWS "less" =some [0,2,1];decide +kernel
 | 8=>by show rowOf ROWS "order" =some [0,2,2];decide +kernel
 | 9=>by show rowOf ROWS "choose" =some [0,3,1];decide +kernel
 | n+10=>by show rowOf ROWS "split" =some [0,2,2];decide +kernel
theorem iQ (T:Txt w K mg t) (i:Nat):Nu K (cls t i):=match i with
 | 0=>T.iM.c
 | 1=>T.iy.c
 | 2=>T.iH.c
 | 3=>T.iI.c
 | 4=>T.iJ.c
 | 5=>T.iD.c
 | 6=>T.lO.c
 | 7=>T.iz.c
 | 8=>T.fH.c
 | 9=>T.dY.c
 | n+10=>T.fP.c
theorem Be (T:Txt w K mg t) (i:Nat):pB K (cls t i) "name" :=match i with
 | 0=>T.iM.na.1
 | 1=>T.iy.na.1
 | 2=>T.iH.na.1
 | 3=>T.iI.na.1
 | 4=>T.iJ.na.1
 | 5=>T.iD.na.1
 | 6=>T.lO.na.1
 | 7=>T.iz.na.1
 | 8=>T.fH.na.1
 | 9=>T.dY.na.1
 | n+10=>T.fP.na.1
theorem sr (T:Txt w K mg t) (i:Nat):pB K (cls t i) "numbers" :=match i with
 | 0=>T.iM.na.2.1
 | 1=>T.iy.na.2.1
 | 2=>T.iH.na.2.1
 | 3=>T.iI.na.2.1
 | 4=>T.iJ.na.2.1
 | 5=>T.iD.na.2.1
 | 6=>T.lO.na.2.1
 | 7=>T.iz.na.2.1
 | 8=>T.fH.na.2.1
 | 9=>T.dY.na.2.1
 | n+10=>T.fP.na.2.1
theorem yV (T:Txt w K mg t) (i:Nat):pB K (cls t i) "ins" :=match i with
 | 0=>T.iM.na.2.2.1
 | 1=>T.iy.na.2.2.1
 | 2=>T.iH.na.2.2.1
 | 3=>T.iI.na.2.2.1
 | 4=>T.iJ.na.2.2.1
 | 5=>T.iD.na.2.2.1
 | 6=>T.lO.na.2.2.1
 | 7=>T.iz.na.2.2.1
 | 8=>T.fH.na.2.2.1
 | 9=>T.dY.na.2.2.1
 | n+10=>T.fP.na.2.2.1
theorem Ia (T:Txt w K mg t) (i:Nat):pB K (cls t i) "outs" :=match i with
 | 0=>T.iM.na.2.2.2.1
 | 1=>T.iy.na.2.2.2.1
 | 2=>T.iH.na.2.2.2.1
 | 3=>T.iI.na.2.2.2.1
 | 4=>T.iJ.na.2.2.2.1
 | 5=>T.iD.na.2.2.2.1
 | 6=>T.lO.na.2.2.2.1
 | 7=>T.iz.na.2.2.2.1
 | 8=>T.fH.na.2.2.2.1
 | 9=>T.dY.na.2.2.2.1
 | n+10=>T.fP.na.2.2.2.1
theorem Wu (i:Nat):cN i<=2:=match i with
 | 0=>by show 0<=2;decide
 | 1=>by show 0<=2;decide
 | 2=>by show 0<=2;decide
 | 3=>by show 0<=2;decide
 | 4=>by show 2<=2;decide
 | 5=>by show 1<=2;decide
 | 6=>by show 0<=2;decide
 | 7=>by show 0<=2;decide
 | 8=>by show 0<=2;decide
 | 9=>by show 0<=2;decide
 | n+10=>by show 0<=2;decide
theorem Bt (i:Nat):cI i<=3:=match i with
 | 0=>by show 0<=3;decide
 | 1=>by show 1<=3;decide
 | 2=>by show 1<=3;decide
 | 3=>by show 1<=3;decide
 | 4=>by show 1<=3;decide
 | 5=>by show 1<=3;decide
 | 6=>by show 2<=3;decide
 | 7=>by show 2<=3;decide
 | 8=>by show 2<=3;decide
 | 9=>by show 3<=3;decide
 | n+10=>by show 2<=3;decide
theorem Lq (i:Nat):cO i<=2:=match i with
 | 0=>by show 1<=2;decide
 | 1=>by show 0<=2;decide
 | 2=>by show 1<=2;decide
 | 3=>by show 2<=2;decide
 | 4=>by show 1<=2;decide
 | 5=>by show 1<=2;decide
 | 6=>by show 1<=2;decide
 | 7=>by show 1<=2;decide
 | 8=>by show 2<=2;decide
 | 9=>by show 1<=2;decide
 | n+10=>by show 2<=2;decide
theorem gW {f:Str} {y:V} {fs:List (Str×V)} {n:Nat} (h:fs.length<=n):(aH f y fs).length<=n+1:=Nat.le_trans (uB f y fs) (Nat.succ_le_succ h)
noncomputable def CK (nm:V) (tn ti to:Addr):List (Str×V):=aH "outs" (.ref to) (aH "ins" (.ref ti) (aH "numbers" (.ref tn) (aH "name" nm [])))
theorem yS (nm:V) (tn ti to:Addr):(CK nm tn ti to).lookup ("name" :Str)=some nm:=by
 unfold CK
 rw [aC,if_neg (by decide +kernel),aC,if_neg (by decide +kernel),aC,if_neg (by decide +kernel),aC,if_pos rfl]
theorem rZ (nm:V) (tn ti to:Addr):(CK nm tn ti to).lookup ("numbers" :Str)=some (.ref tn):=by
 unfold CK
 rw [aC,if_neg (by decide +kernel),aC,if_neg (by decide +kernel),aC,if_pos rfl]
theorem ux (nm:V) (tn ti to:Addr):(CK nm tn ti to).lookup ("ins" :Str)=some (.ref ti):=by
 unfold CK
 rw [aC,if_neg (by decide +kernel),aC,if_pos rfl]
theorem Fd (nm:V) (tn ti to:Addr):(CK nm tn ti to).lookup ("outs" :Str)=some (.ref to):=by
 unfold CK
 rw [aC,if_pos rfl]
theorem vf (nm:V) (tn ti to:Addr) {m:Str} (h1:¬m= "outs") (h2:¬m= "ins") (h3:¬m= "numbers") (h4:¬m= "name"):(CK nm tn ti to).lookup m=none:=by
 unfold CK
 rw [aC,if_neg h1,aC,if_neg h2,aC,if_neg h3,aC,if_neg h4]
 all_goals rfl
structure fj (K:PySem.W.Frag) (t:ji) (H:Hp) (p:Addr) (i:Nat) (nm:V) (ns is os:List V):Prop where
 ex:∃dx tn ti to,H p=some (.ins (cls t i) dx (CK nm tn ti to))/\fC K H tn ns/\fC K H ti is/\fC K H to os
theorem fj.same {H H':Hp} {p:Addr} {i:Nat} {nm:V} {ns is os:List V} (h:fj K t H p i nm ns is os) (s:aJ H H'):fj K t H' p i nm ns is os:=by
 obtain⟨dx,tn,ti,to,h1,h2,h3,h4⟩:=h
 exact⟨dx,tn,ti,to,s _ _ h1,s.seqT h2,s.seqT h3,s.seqT h4⟩
noncomputable def iZ (i:Nat):Sp:=fun vs H Q _=>∃x,vs=[x]/\Q (.str (cX i)) H
noncomputable def nV (j:Nat):V:=.int (j:Nat)
inductive Val (v:V):Prop where
 | mk:∀n:Int,v=.int n->0<=n->n <1000000000->Val v
inductive Flat:PyData->Prop
 | non:Flat .none
 | int (i:Int):Flat (.int i)
noncomputable def places (i:Nat) (hs:List V):List Nat:=if i=9 then(match hs with | .int n:: _=>[0,1+(n % 2).toNat] | _=>[0]) else List.range hs.length
noncomputable def yg (i:Nat) (hs:List V):Prop:=hs.length=cI i/\∀h∈hs,h=.non∨∃n:Int,h=.int n
noncomputable def uT (hs:List V) (q:Nat):Bool:=decide (hs[q]?=some V.non)
noncomputable def MJ (i:Nat) (hs:List V):V:=match (places i hs).find? (uT hs) with
 | some q=>nV q
 | none=>.non
theorem iU {i:Nat} {hs:List V} (h:yg i hs):∀q∈places i hs,q <hs.length:=by
 intro q hq
 unfold places at hq
 by_cases hi:i=9
 ·rw [if_pos hi] at hq
  have hl:hs.length=3:=by rw [h.1,hi];rfl
  rw [hl]
  split at hq
  ·rename_i n r
   have h0:=Int.emod_nonneg n (show(2:Int)≠0 by decide)
   have h1:=Int.emod_lt_of_pos n (show(0:Int) <2 by decide)
   simp at hq
   omega
  ·simp at hq
   omega
 ·rw [if_neg hi] at hq
  simpa using hq
theorem M3 {f:Nat->Bool}:∀{l:List Nat} {j q:Nat},l[j]?=some q->(∀x∈l.take j,f x=false)->f q=true->l.find? f=some q
 | [],_,_,e,_,_=>by simp at e
 | x:: r,0,q,e,_,hq=>by
  simp at e
  subst e
  rw [List.find?_cons,hq]
 | x:: r,j+1,q,e,h,hq=>by
  have hx:f x=false:=h x (by simp)
  rw [List.find?_cons,hx]
  exact M3 (l:=r) (j:=j) (by simpa using e) (fun y hy=>h y (by simp [hy])) hq
theorem Sv {f:Nat->Bool} {l:List Nat} (h:∀x∈l,f x=false):l.find? f=none:=by
 rw [List.find?_eq_none]
 intro x hx
 rw [h x hx]
 decide
inductive ou (K:PySem.W.Frag) (t:ji) (i:Nat) (vs:List V) (H:Hp) (Q:VK) (E:XK):Prop where
 | mk:∀(p a:Addr) (nm:V) (ns is os hs:List V),vs=[.ref p,.ref a]->fj K t H p i nm ns is os->is.length=cI i->bI K H a hs->yg i hs->(∀H' L,aJ H H'->H L=none->H' L=some (.lst ((places i hs).map nV))->Q (.ref L) H')->ou K t i vs H Q E
inductive yz (K:PySem.W.Frag) (t:ji) (i:Nat) (vs:List V) (H:Hp) (Q:VK) (E:XK):Prop where
 | mk:∀(p a:Addr) (nm:V) (ns is os hs:List V),vs=[.ref p,.ref a]->fj K t H p i nm ns is os->is.length=cI i->bI K H a hs->yg i hs->(∀H',aJ H H'->Q (MJ i hs) H')->yz K t i vs H Q E
noncomputable def g0 (l:List Int):Int:=l.getD 0 0
noncomputable def g1 (l:List Int):Int:=l.getD 1 0
noncomputable def cV (i:Nat):Nat:=match i with
 | 0=>1
 | 1=>1
 | 2=>1
 | 3=>1
 | 4=>1
 | 5=>1
 | 6=>2
 | 7=>2
 | 8=>2
 | 9=>2
 | _=>2
noncomputable def cB (i:Nat) (ns ws:List Int) (kp:Int):List (Int×Int):=match i with
 | 0=>[(0,g0 ws)]
 | 1=>[]
 | 2=>[(0,g0 ws)]
 | 3=>[(0,g0 ws),(1,g0 ws)]
 | 4=>[(0,(g0 ns * g0 ws+g1 ns) % 1000000000)]
 | 5=>[(0,(kp+g0 ws) % 1000000000)]
 | 6=>[(0,(g0 ws+g1 ws) % 1000000000)]
 | 7=>[(0,if g0 ws <g1 ws then 1 else 0)]
 | 8=>[(0,if g1 ws <g0 ws then g1 ws else g0 ws),(1,if g1 ws <g0 ws then g0 ws else g1 ws)]
 | 9=>[(0,g1 ws)]
 | _=>[(g0 ws % 2,g1 ws)]
noncomputable def gA (i:Nat) (ws:List Int) (kp:Int):Int:=if i=5 then(kp+g0 ws) % 1000000000 else kp
noncomputable def Ie (ps:List (Int×Int)):List (List V):=ps.map fun p=>[.int p.1,.int p.2]
noncomputable def Wd (ws:List Int):Prop:=∀w∈ws,0<=w/\w <1000000000
inductive dZ (K:PySem.W.Frag) (t:ji) (i:Nat) (vs:List V) (H:Hp) (Q:VK) (E:XK):Prop where
 | mk:∀(p a:Addr) (nm:V) (ns:List Int) (is os:List V) (ws:List Int) (kp:Int),vs=[.ref p,.ref a,.int kp]->fj K t H p i nm (ns.map V.int) is os->ns.length=cN i->bI K H a (ws.map V.int)->ws.length=cV i->Wd ws->(∀H' U L rs,aJ H H'->H L=none->H' U=some (.tup [.ref L,.int (gA i ws kp)])->H' L=some (.lst (rs.map V.ref))->eE H' rs (Ie (cB i ns ws kp))->Q (.ref U) H')->dZ K t i vs H Q E
theorem ye {H:Hp} {Q:VK} {a b x y:Int} (hx:x=a) (hy:y=b) (k:∀H' L rs,aJ H H'->H L=none->H' L=some (.lst (rs.map V.ref))->eE H' rs (Ie [(a,b)])->Q (.ref L) H') {t0 L:Addr} (n0:H t0=none)
  (nL:(upd H t0 (.tup [.int x,.int y])) L=none):Q (.ref L) (upd (upd H t0 (.tup [.int x,.int y])) L (.lst [.ref t0])):=by
 subst hx hy
 have s0:=aB (o:=.tup [.int x,.int y]) n0
 have s1:=aB (o:=.lst [.ref t0]) nL
 exact k _ L [t0] (s0.trans s1) (s0.free nL) az (.cons (s1 _ _ az) .nil)
theorem Uo {H:Hp} {Q:VK} {a b c d x y u v:Int} (hx:x=a) (hy:y=b) (hu:u=c) (hv:v=d) (k:∀H' L rs,aJ H H'->H L=none->H' L=some (.lst (rs.map V.ref))->eE H' rs (Ie [(a,b),(c,d)])->Q (.ref L) H') {t0 t1 L:Addr} (n0:H t0=none)
  (n1:(upd H t0 (.tup [.int x,.int y])) t1=none) (nL:(upd (upd H t0 (.tup [.int x,.int y])) t1 (.tup [.int u,.int v])) L=none):Q (.ref L) (upd (upd (upd H t0 (.tup [.int x,.int y])) t1 (.tup [.int u,.int v])) L (.lst [.ref t0,.ref t1])):=by
 subst hx hy hu hv
 have s0:=aB (o:=.tup [.int x,.int y]) n0
 have s1:=aB (o:=.tup [.int u,.int v]) n1
 have s2:=aB (o:=.lst [.ref t0,.ref t1]) nL
 exact k _ L [t0,t1] (s0.trans (s1.trans s2)) (s0.free (s1.free nL)) az (.cons (s2 _ _ (s1 _ _ az)) (.cons (s2 _ _ az) .nil))
theorem Cy {H:Hp} {Q:VK} {c:Int} {ps:List (Int×Int)} (k:∀H' U L rs,aJ H H'->H L=none->H' U=some (.tup [.ref L,.int c])->H' L=some (.lst (rs.map V.ref))->eE H' rs (Ie ps)->Q (.ref U) H'):
  ∀H' L rs,aJ H H'->H L=none->H' L=some (.lst (rs.map V.ref))->eE H' rs (Ie ps)->∀U,H' U=none->Q (.ref U) (upd H' U (.tup [.ref L,.int c])):=fun H' L rs s nL eL tL U nU=>
 have s2:=aB (o:=.tup [.ref L,.int c]) nU
 k _ U L rs (s.trans s2) nL az (s2 _ _ eL) (tL.same s2)
theorem dR:(2:Nat)<=sizeLine:=by decide
theorem one_le:(1:Nat)<=sizeLine:=by decide
theorem Yd {a b:Int} {ws:List Int} (h:Wd ws) (hb:b∈ws):IntMulOk a b:=.of_right (intBits_le_64 (by have:=(h b hb).1;omega) (by have:=(h b hb).2;omega))
noncomputable def Hr (i:Nat) (ns:List V):V:=if i=5 then ns.headD .non else .int 0
inductive uK (K:PySem.W.Frag) (t:ji) (i:Nat) (vs:List V) (H:Hp) (Q:VK) (E:XK):Prop where
 | mk:∀(p:Addr) (nm:V) (ns is os:List V),vs=[.ref p]->fj K t H p i nm ns is os->ns.length=cN i->Q (Hr i ns) H->uK K t i vs H Q E
noncomputable def VM (i:Nat) (kv:V) (ns:List V):List V:=if i=5 then [kv] else ns
inductive By (K:PySem.W.Frag) (t:ji) (i:Nat) (vs:List V) (H:Hp) (Q:VK) (E:XK):Prop where
 | mk:∀(p:Addr) (kv nm:V) (ns is os:List V),vs=[.ref p,kv]->i<=10->fj K t H p i nm ns is os->(∀H' q,aJ H H'->H q=none->fj K t H' q i nm (VM i kv ns) is os->Q (.ref q) H')->By K t i vs H Q E
noncomputable def b7 (a b:Int):Int:=((((a % 2147483647 * 48271+7919 * b+11) % 2147483647) * ((a % 2147483647 * 48271+7919 * b+11) % 2147483647) % 2147483629+613 * b) * (((a % 2147483647 * 48271+7919 * b+11) % 2147483647) * ((a % 2147483647 * 48271+7919 * b+11) % 2147483647) % 2147483629)) % 2147483587
theorem zJ (a b:Int):0<=b7 a b:=Int.emod_nonneg _ (by decide)
noncomputable def jH (ns:List Int) (j:Nat):Int:=(ns[j]?).getD (41 * (j:Int)+3)
noncomputable def pC (a b:Int):Int:=if b7 a b / 7 % 3=0 then b7 a b % 5 else if b7 a b / 7 % 3=1 then b7 a b % 10 ^ 9 else 10 ^ 9 - 1 - b7 a b % 3
theorem oA (a b:Int):0<=pC a b/\pC a b <1000000000:=by
 unfold pC
 have h0:=zJ a b
 generalize b7 a b=n at h0
 split
 ·omega
 ·split
  ·have h1:=Int.emod_lt_of_pos n (show(0:Int) <10 ^ 9 by decide)
   have h2:=Int.emod_nonneg n (show(10:Int) ^ 9≠0 by decide)
   exact⟨h2,h1⟩
  ·have h1:=Int.emod_lt_of_pos n (show(0:Int) <3 by decide)
   have h2:=Int.emod_nonneg n (show(3:Int)≠0 by decide)
   have e:(10:Int) ^ 9=1000000000:=by decide
   rw [e]
   omega
noncomputable def low (c:Nat):Bool:=decide (97<=c) && decide (c<=122)
noncomputable def J7 (c:Nat):Bool:=decide (48<=c) && decide (c<=57)
noncomputable def nameB (x:Str):Bool:=match x.cps.toList with
 | []=>false
 | c:: r=>decide (r.length<=7) && (low c && (c:: r).all fun d=>low d || J7 d)
theorem oE (x:Str):x.cps.toList.length=x.length:=by simp [Str.length]
theorem Dr:∀(ws:List Str),(Str.join Str.empty ws).cps.toList=(ws.map fun w=>w.cps.toList).flatten
 | []=>rfl
 | [w]=>by simp [Str.join]
 | w:: v:: r=>by
  have ih:=Dr (v:: r)
  show(w.cps ++ #[] ++ (Str.join Str.empty (v:: r)).cps).toList=_
  rw [Array.toList_append,ih]
  simp
theorem Pu {n:Nat}:∀(ws:List Str),(∀w∈ws,w.length<=n)->(ws.map (·.length)).sum<=ws.length * n
 | [],_=>by simp
 | w:: r,h=>by
  have h1:=h w (by simp)
  have h2:=Pu r fun v hv=>h v (by simp [hv])
  simp only [List.map_cons,List.sum_cons,List.length_cons,Nat.add_mul]
  omega
noncomputable def IK (n:Int):Nat:=97+(n % 26).toNat
theorem GZ (n:Int):low (IK n)=true:=by
 unfold low IK
 have h0:=Int.emod_nonneg n (show(26:Int)≠0 by decide)
 have h1:=Int.emod_lt_of_pos n (show(0:Int) <26 by decide)
 simp
 omega
noncomputable abbrev LT:Str:= "abcdefghijklmnopqrstuvwxyz"
theorem Kh:LT.length=26:=by decide +kernel
theorem O4:LT.cps.toList=List.range' 97 26:=by decide +kernel
theorem Ru (n:Int):BP LT.cps.toList (n % 26)=some (IK n):=by
 have h0:=Int.emod_nonneg n (show(26:Int)≠0 by decide)
 have h1:=Int.emod_lt_of_pos n (show(0:Int) <26 by decide)
 obtain⟨j,hj⟩:∃j:Nat,n % 26=(j:Int):=⟨(n % 26).toNat,by omega⟩
 unfold IK
 rw [hj,O4]
 exact aM (by rw [List.getElem?_range' (by omega)];simp)
noncomputable def gB (a:Int):List Nat:=(List.range (b7 a 50 % 7).toNat).map fun j=>IK (b7 a (60+(j:Nat)))
noncomputable def pM (a:Int):Nat:=(b7 a 51 % (b7 a 50 % 7+1)).toNat
noncomputable def JS (n:Nat):List Nat:=(toString (Int.ofNat n):Str).cps.toList
noncomputable def Ac (a:Int) (k:Nat):List Nat:=if b7 a 52 % 3=0 then IK (b7 a 53):: JS (b7 a 54 % 1000+37 * (k:Int)).toNat else(gB a).take (pM a) ++ IK (b7 a 55+k):: (gB a).drop (pM a)
noncomputable def cL (a:Int) (k:Nat):Str:=⟨(Ac a k).toArray⟩
noncomputable def Pa (l:List Nat):Nat:=l.foldl (fun r c=>10 * r+(c - 48)) 0
theorem Th:(List.range 2000).all (fun i=>(JS i).all J7 && decide ((JS i).length<=4) && decide (Pa (JS i)=i))=true:=by decide +kernel
theorem u9 {n:Nat} (h:n <2000):(JS n).all J7=true/\(JS n).length<=4/\Pa (JS n)=n:=by
 have z:=List.all_eq_true.mp Th n (List.mem_range.mpr h)
 simp only [Bool.and_eq_true,decide_eq_true_eq] at z
 exact⟨z.1.1,z.1.2,z.2⟩
theorem CV (a:Int):(gB a).length<=6/\((gB a).length:Int)=b7 a 50 % 7:=by
 unfold gB
 have h0:=Int.emod_nonneg (b7 a 50) (show(7:Int)≠0 by decide)
 have h1:=Int.emod_lt_of_pos (b7 a 50) (show(0:Int) <7 by decide)
 rw [lM,List.length_range]
 omega
theorem Mg (a:Int):pM a<=(gB a).length:=by
 have h:=(CV a).2
 unfold pM
 have h0:=Int.emod_nonneg (b7 a 50) (show(7:Int)≠0 by decide)
 have h1:=Int.emod_lt_of_pos (b7 a 51) (show(0:Int) <b7 a 50 % 7+1 by omega)
 have h2:=Int.emod_nonneg (b7 a 51) (show b7 a 50 % 7+1≠0 by omega)
 omega
theorem Du {x:Str} {c:Nat} {r:List Nat} (e:x.cps.toList=c:: r) (h:r.length<=7) (hc:low c=true) (ha:∀d∈r,low d=true∨J7 d=true):nameB x=true:=by
 unfold nameB
 rw [e]
 simp only [Bool.and_eq_true,decide_eq_true_eq,List.all_eq_true,Bool.or_eq_true]
 refine⟨h,hc,fun d hd=>?_⟩
 rcases List.mem_cons.mp hd with rfl | hd
 ·exact .inl hc
 ·exact ha d hd
theorem BX (a:Int) (k:Nat):(cL a k).cps.toList=Ac a k:=by simp [cL]
theorem LC (a:Int) {k:Nat} (hk:k <26):nameB (cL a k)=true:=by
 have h0:=Int.emod_nonneg (b7 a 54) (show(1000:Int)≠0 by decide)
 have h1:=Int.emod_lt_of_pos (b7 a 54) (show(0:Int) <1000 by decide)
 have e:=BX a k
 unfold Ac at e
 split at e
 ·obtain⟨n1,n2,_⟩:=u9 (n:=(b7 a 54 % 1000+37 * (k:Int)).toNat) (by omega)
  exact Du e (by omega) (GZ _) fun c hc=>.inr (List.all_eq_true.mp n1 c hc)
 ·have b1:=(CV a).1
  have b2:=Mg a
  have all:∀c∈(gB a).take (pM a) ++ IK (b7 a 55+k):: (gB a).drop (pM a),low c=true:=fun c hc=>by
   have hb:∀c∈gB a,low c=true:=fun c hc=>by
    unfold gB at hc
    obtain⟨j,_,rfl⟩:=List.mem_map.mp hc
    exact GZ _
   rcases List.mem_append.mp hc with h | h
   ·exact hb c (List.mem_of_mem_take h)
   ·rcases List.mem_cons.mp h with rfl | h
    ·exact GZ _
    ·exact hb c (List.mem_of_mem_drop h)
  have len:((gB a).take (pM a) ++ IK (b7 a 55+k):: (gB a).drop (pM a)).length<=7:=by
   rw [lP,List.length_take,List.length_cons,List.length_drop]
   omega
  have ne:(gB a).take (pM a) ++ IK (b7 a 55+k):: (gB a).drop (pM a)≠[]:=by simp
  generalize (gB a).take (pM a) ++ IK (b7 a 55+k):: (gB a).drop (pM a)=l at all len ne e
  obtain⟨c,r,rfl⟩:=List.exists_cons_of_ne_nil ne
  rw [List.length_cons] at len
  exact Du e (by omega) (all c List.mem_cons_self) fun d hd=>.inl (all d (List.mem_cons_of_mem _ hd))
theorem JC (a:Int) {j k:Nat} (hj:j <26) (hk:k <26) (h:cL a j=cL a k):j=k:=by
 have e:Ac a j=Ac a k:=by
  have:=congrArg (fun s:Str=>s.cps.toList) h
  simpa [cL] using this
 unfold Ac at e
 split at e
 ·have h0:=Int.emod_nonneg (b7 a 54) (show(1000:Int)≠0 by decide)
  have h1:=Int.emod_lt_of_pos (b7 a 54) (show(0:Int) <1000 by decide)
  have e2:=congrArg Pa (List.cons.inj e).2
  rw [(u9 (by omega)).2.2,(u9 (by omega)).2.2] at e2
  omega
 ·have e2:=(List.cons.inj (List.append_cancel_left e)).1
  unfold IK at e2
  omega
namespace Drawn
variable {S:Type}
structure iG (S:Type) where
 kind:Nat
 name:S
 nums:List Int
 ins:List S
 outs:List S
structure NS (S:Type) where
 lanes:List S
 parts:List (iG S)
 opens:List S
 back:List S
inductive jj (ps:List (iG S)):S->S->Prop
 | refl (x:S):jj ps x x
 | step {x y z:S} {p:iG S}:p∈ps->x∈p.ins ++ p.outs->y∈p.ins ++ p.outs->jj ps y z->jj ps x z
theorem jj.trans {ps:List (iG S)} {x y z:S} (h:jj ps x y) (k:jj ps y z):jj ps x z:=by
 induction h with
 | refl _=>exact k
 | step hp hx hy _ ih=>exact .step hp hx hy (ih k)
theorem jj.symm {ps:List (iG S)} {x y:S} (h:jj ps x y):jj ps y x:=by
 induction h with
 | refl _=>exact .refl _
 | step hp hx hy _ ih=>exact ih.trans (.step hp hy hx (.refl _))
theorem jj.mono {ps qs:List (iG S)} (hs:∀p∈ps,p∈qs) {x y:S} (h:jj ps x y):jj qs x y:=by
 induction h with
 | refl _=>exact .refl _
 | step hp hx hy _ ih=>exact .step (hs _ hp) hx hy ih
theorem jj.part {ps:List (iG S)} {p:iG S} (hp:p∈ps) {x y:S} (hx:x∈p.ins ++ p.outs) (hy:y∈p.ins ++ p.outs):jj ps x y:=.step hp hx hy (.refl _)
structure WF (ns:NS S):Prop where
 nod:ns.lanes.Nodup
 outs:((ns.parts.flatMap (·.outs)) ++ ns.back).Perm ns.lanes
 ins:((ns.parts.flatMap (·.ins)) ++ ns.opens).Perm ns.lanes
 hang:∀p∈ns.parts,∃x∈p.ins ++ p.outs,∃o∈ns.opens,jj ns.parts x o
 touch:∀p∈ns.parts,p.ins ++ p.outs≠[]
theorem WF.add {ns:NS S} (w:WF ns) {p:iG S} {newl opens' back':List S} (hn:(ns.lanes ++ newl).Nodup) (ho:(p.outs ++ back').Perm (ns.back ++ newl)) (hi:(p.ins ++ opens').Perm (ns.opens ++ newl))
  (hg:∀o∈ns.opens,∃o'∈opens',jj (ns.parts ++ [p]) o o') (hp:∃x∈p.ins ++ p.outs,∃o∈opens',jj (ns.parts ++ [p]) x o):
  WF { lanes:=ns.lanes ++ newl,parts:=ns.parts ++ [p],opens:=opens',back:=back' }:=by
 have mono:∀q∈ns.parts,q∈ns.parts ++ [p]:=fun q hq=>List.mem_append.mpr (.inl hq)
 refine⟨hn,?_,?_,?_,?_⟩
 ·have e:(ns.parts ++ [p]).flatMap (·.outs)=ns.parts.flatMap (·.outs) ++ p.outs:=by simp
  show(((ns.parts ++ [p]).flatMap (·.outs)) ++ back').Perm _
  rw [e,List.append_assoc]
  exact(ho.append_left _).trans (by rw [<-List.append_assoc];exact w.outs.append_right _)
 ·have e:(ns.parts ++ [p]).flatMap (·.ins)=ns.parts.flatMap (·.ins) ++ p.ins:=by simp
  show(((ns.parts ++ [p]).flatMap (·.ins)) ++ opens').Perm _
  rw [e,List.append_assoc]
  exact(hi.append_left _).trans (by rw [<-List.append_assoc];exact w.ins.append_right _)
 ·intro q hq
  rcases List.mem_append.mp hq with h | h
  ·obtain⟨x,hx,o,hoq,c⟩:=w.hang q h
   obtain⟨o',ho',c'⟩:=hg o hoq
   exact⟨x,hx,o',ho',(c.mono mono).trans c'⟩
  ·rw [List.mem_singleton] at h
   subst h
   exact hp
 ·intro q hq
  rcases List.mem_append.mp hq with h | h
  ·exact w.touch q h
  ·rw [List.mem_singleton] at h
   subst h
   obtain⟨x,hx,_⟩:=hp
   intro z
   rw [z] at hx
   cases hx
theorem WF.start:WF (⟨[],[],[],[]⟩:NS S):=⟨List.nodup_nil,.refl _,.refl _,fun p hp=>(by cases hp),fun p hp=>(by cases hp)⟩
theorem WF.backLane {ns:NS S} (w:WF ns) {b:S} (hn:(ns.lanes ++ [b]).Nodup):WF { ns with lanes:=ns.lanes ++ [b],opens:=ns.opens ++ [b],back:=ns.back ++ [b] }:=by
 refine⟨hn,?_,?_,fun p hp=>?_,w.touch⟩
 ·show(_ ++ (ns.back ++ [b])).Perm _
  rw [<-List.append_assoc]
  exact w.outs.append_right _
 ·show(_ ++ (ns.opens ++ [b])).Perm _
  rw [<-List.append_assoc]
  exact w.ins.append_right _
 ·obtain⟨x,hx,o,ho,c⟩:=w.hang p hp
  exact⟨x,hx,o,List.mem_append.mpr (.inl ho),c⟩
theorem WF.part {ns:NS S} (w:WF ns) {p:iG S} {rest:List S} (hi:ns.opens.Perm (p.ins ++ rest)) (hf:(ns.lanes ++ p.outs).Nodup) (ho:p.outs≠[]):
  WF { ns with lanes:=ns.lanes ++ p.outs,parts:=ns.parts ++ [p],opens:=rest ++ p.outs }:=by
 have hp:p∈ns.parts ++ [p]:=by simp
 obtain⟨o1,hoo⟩:∃o1,o1∈p.outs:=List.exists_mem_of_ne_nil _ ho
 have h1:o1∈rest ++ p.outs:=List.mem_append.mpr (.inr hoo)
 refine w.add hf List.perm_append_comm ?_ (fun o h=>?_) ⟨o1,List.mem_append.mpr (.inr hoo),o1,h1,.refl _⟩
 ·rw [<-List.append_assoc]
  exact hi.symm.append_right _
 ·rcases List.mem_append.mp (hi.mem_iff.mp h) with h | h
  ·exact⟨o1,h1,jj.part hp (List.mem_append.mpr (.inl h)) (List.mem_append.mpr (.inr hoo))⟩
  ·exact⟨o,List.mem_append.mpr (.inl h),.refl _⟩
theorem WF.take {ns:NS S} (w:WF ns) {p:iG S} {rest:List S} {y x:S} (hi:p.ins=[y]) (ho:p.outs=[]) (hr:ns.opens.Perm (y:: rest)) (hx:x∈rest) (c:jj ns.parts y x):
  WF { ns with parts:=ns.parts ++ [p],opens:=rest }:=by
 have mono:∀q∈ns.parts,q∈ns.parts ++ [p]:=fun q hq=>List.mem_append.mpr (.inl hq)
 have:=w.add (p:=p) (newl:=[]) (opens':=rest) (back':=ns.back) (by rw [List.append_nil];exact w.nod) (by rw [ho,List.append_nil];exact .refl _) (by rw [hi,List.append_nil];exact hr.symm)
  (fun o h=>by
   rcases List.mem_cons.mp (hr.mem_iff.mp h) with rfl | h
   ·exact⟨x,hx,c.mono mono⟩
   ·exact⟨o,h,.refl _⟩) ⟨y,by simp [hi],x,hx,c.mono mono⟩
 rw [List.append_nil] at this
 exact this
theorem WF.loop {ns:NS S} (w:WF ns) {p:iG S} {rest:List S} {one own fresh:S} (hi:p.ins=[one,own]) (ho:p.outs=[own,fresh]) (hr:ns.opens.Perm (one:: rest)) (hn:(ns.lanes ++ [own,fresh]).Nodup):
  WF { ns with lanes:=ns.lanes ++ [own,fresh],parts:=ns.parts ++ [p],opens:=rest ++ [fresh] }:=by
 have hp:p∈ns.parts ++ [p]:=by simp
 have hf:fresh∈rest ++ [fresh]:=by simp
 refine w.add hn (by rw [ho];exact List.perm_append_comm) ?_ (fun o h=>?_) ⟨fresh,by simp [ho],fresh,hf,.refl _⟩
 ·rw [hi]
  show(one:: own:: (rest ++ [fresh])).Perm (ns.opens ++ [own,fresh])
  refine .trans ?_ (hr.symm.append_right _)
  refine .cons _ ?_
  show(own:: (rest ++ [fresh])).Perm (rest ++ ([own] ++ [fresh]))
  rw [<-List.append_assoc]
  exact(List.perm_append_comm (l₁:=[own]) (l₂:=rest)).append_right [fresh]
 ·rcases List.mem_cons.mp (hr.mem_iff.mp h) with rfl | h
  ·exact⟨fresh,hf,jj.part hp (by simp [hi]) (by simp [ho])⟩
  ·exact⟨o,List.mem_append.mpr (.inl h),.refl _⟩
theorem WF.closeBack {ns:NS S} (w:WF ns) {p:iG S} {rest:List S} {one b fresh:S} (hi:p.ins=[one]) (ho:p.outs=[b,fresh]) (hb:ns.back.Perm (b:: rest)) (h1:ns.opens=[one]) (hn:(ns.lanes ++ [fresh]).Nodup):
  WF { lanes:=ns.lanes ++ [fresh],parts:=ns.parts ++ [p],opens:=[fresh],back:=rest }:=by
 have hp:p∈ns.parts ++ [p]:=by simp
 refine w.add hn ?_ (by rw [hi,h1]) (fun o h=>?_) ⟨fresh,by simp [ho],fresh,by simp,.refl _⟩
 ·rw [ho]
  show(b:: fresh:: rest).Perm (ns.back ++ [fresh])
  refine .trans ?_ (hb.symm.append_right _)
  exact .cons _ (List.perm_append_comm (l₁:=[fresh]) (l₂:=rest))
 ·rw [h1,List.mem_singleton] at h
  subst h
  exact⟨fresh,by simp,jj.part hp (by simp [hi]) (by simp [ho])⟩
theorem WF.last {ns:NS S} (w:WF ns) {p:iG S} {y:S} (hb:ns.back=[]) (h1:ns.opens=[y]) (hi:p.ins=[y]) (ho:p.outs=[]):
  ((ns.parts ++ [p]).flatMap (·.outs)).Perm ns.lanes/\((ns.parts ++ [p]).flatMap (·.ins)).Perm ns.lanes/\∀q∈ns.parts ++ [p],∃x∈q.ins ++ q.outs,jj (ns.parts ++ [p]) x y:=by
 have mono:∀q∈ns.parts,q∈ns.parts ++ [p]:=fun q hq=>List.mem_append.mpr (.inl hq)
 refine⟨?_,?_,?_⟩
 ·have e:(ns.parts ++ [p]).flatMap (·.outs)=ns.parts.flatMap (·.outs):=by simp [ho]
  rw [e]
  have:=w.outs
  rw [hb,List.append_nil] at this
  exact this
 ·have e:(ns.parts ++ [p]).flatMap (·.ins)=ns.parts.flatMap (·.ins) ++ [y]:=by simp [hi]
  rw [e]
  have:=w.ins
  rw [h1] at this
  exact this
 ·intro q hq
  rcases List.mem_append.mp hq with h | h
  ·obtain⟨x,hx,o,hoq,c⟩:=w.hang q h
   rw [h1,List.mem_singleton] at hoq
   subst hoq
   exact⟨x,hx,c.mono mono⟩
  ·rw [List.mem_singleton] at h
   subst h
   exact⟨y,by simp [hi],.refl _⟩
theorem KJ {ps:List (iG S)} {J:iG S->Prop} (closed:∀(l:S) (p q:iG S),p∈ps->q∈ps->l∈p.ins ++ p.outs->l∈q.ins ++ q.outs->J p->J q) {y:S} (hang:∀q∈ps,∃x∈q.ins ++ q.outs,jj ps x y)
  {p0:iG S} (hp0:p0∈ps) (h0:J p0):∀q∈ps,J q:=by
 have go:∀{x z:S},jj ps x z->(∃p∈ps,x∈p.ins ++ p.outs/\J p)->∃p∈ps,z∈p.ins ++ p.outs/\J p:=by
  intro x z c
  induction c with
  | refl _=>exact id
  | step hp hx hy _ ih=>
   rintro⟨p',hp',hx',hJ⟩
   exact ih ⟨_,hp,hy,closed _ _ _ hp' hp hx' hx hJ⟩
 obtain⟨x0,hx0,c0⟩:=hang p0 hp0
 have hy:=go c0 ⟨p0,hp0,hx0,h0⟩
 intro q hq
 obtain⟨x,hx,c⟩:=hang q hq
 obtain⟨p',hp',hx',hJ⟩:=go c.symm hy
 exact closed _ _ _ hp' hq hx' hx hJ
theorem Oe {ps:List (iG S)} (f:iG S->List S) (h:(ps.flatMap f).Nodup) {i j:Nat} {p q:iG S} {l:S} (hi:ps[i]?=some p) (hj:ps[j]?=some q) (hp:l∈f p) (hq:l∈f q):i=j:=by
 induction ps generalizing i j with
 | nil=>cases hi
 | cons r rs ih=>
  rw [List.flatMap_cons,List.nodup_append] at h
  obtain⟨h1,h2,h3⟩:=h
  have far:∀{k:Nat} {s:iG S},rs[k]?=some s->l∈f s->l∈rs.flatMap f:=fun e hs=>List.mem_flatMap.mpr ⟨_,List.mem_of_getElem? e,hs⟩
  match i,j with
  | 0,0=>rfl
  | 0,j+1=>
   simp only [List.getElem?_cons_zero,Option.some.injEq] at hi
   subst hi
   exact absurd rfl (h3 l hp l (far (by simpa using hj) hq))
  | i+1,0=>
   simp only [List.getElem?_cons_zero,Option.some.injEq] at hj
   subst hj
   exact absurd rfl (h3 l hq l (far (by simpa using hi) hp))
  | i+1,j+1=>exact congrArg (· +1) (ih h2 (by simpa using hi) (by simpa using hj))
end Drawn
structure aG where
 name:Str
 room:Int
 first:List Int
noncomputable def aG.ok (l:aG):Prop:=1<=l.room/\l.room<=10/\(l.first.length:Int)<=l.room/\∀v∈l.first,0<=v/\v <1000000000
noncomputable abbrev PD:=Drawn.iG Str
noncomputable def jL (p:PD):Prop:=p.kind <11/\p.nums.length=cN p.kind/\p.ins.length=cI p.kind/\p.outs.length=cO p.kind/\∀v∈p.nums,0<=v/\v <1000000000
noncomputable def bA (E:List Addr) (H:Hp):Hp:=fun b=>if b∈E then none else H b
theorem bR {E:List Addr} {H:Hp}:aJ (bA E H) H:=fun b o e=>by
 unfold bA at e
 split at e
 ·cases e
 ·exact e
theorem Bh {E:List Addr} {H:Hp} {p:Addr} {o:HO} (h:H p=none):aJ (bA E H) (bA E (upd H p o)):=fun b u e=>by
 have e':=bR b u e
 unfold bA at e ⊢
 split at e
 ·cases e
 ·rename_i n
  rw [if_neg n,aK (aD e' h)]
  exact e
theorem dU {E:List Addr} {H:Hp} {p:Addr} {o:HO} (h:H p=some o) (n:p∉E):bA E H p=some o:=by
 unfold bA
 rw [if_neg n]
 exact h
theorem dW {E:List Addr} {H:Hp} {a:Addr} {o:HO} (h:a∈E):bA E (upd H a o)=bA E H:=by
 funext b
 unfold bA
 split
 ·rfl
 ·rename_i n
  rw [aK (fun z=>n (by rw [z];exact h))]
theorem CJ {E:List Addr} {H H':Hp} (s:aJ H H') (hE:∀a∈E,∃o,H a=some o):aJ (bA E H) (bA E H'):=fun b o e=>by
 have e':=bR b o e
 unfold bA at e ⊢
 split at e
 ·cases e
 ·rename_i n
  rw [if_neg n]
  exact s _ _ e'
inductive jE {α β:Type} (R:α->β->Prop):List α->List β->Prop
 | nil:jE R [] []
 | cons {a:α} {b:β} {l:List α} {m:List β}:R a b->jE R l m->jE R (a:: l) (b:: m)
theorem jE.imp {α β:Type} {R R':α->β->Prop} (h:∀a b,R a b->R' a b):∀{l:List α} {m:List β},jE R l m->jE R' l m
 | _,_,.nil=>.nil
 | _,_,.cons r t=>.cons (h _ _ r) (t.imp h)
theorem jE.length {α β:Type} {R:α->β->Prop}:∀{l:List α} {m:List β},jE R l m->l.length=m.length
 | _,_,.nil=>rfl
 | _,_,.cons _ t=>by rw [List.length_cons,List.length_cons,t.length]
theorem jE.app {α β:Type} {R:α->β->Prop}:∀{l l':List α} {m m':List β},jE R l m->jE R l' m'->jE R (l ++ l') (m ++ m')
 | _,_,_,_,.nil,h=>h
 | _,_,_,_,.cons r t,h=>.cons r (t.app h)
theorem jE.get {α β:Type} {R:α->β->Prop}:∀{l:List α} {m:List β},jE R l m->∀{i:Nat} {a:α},l[i]?=some a->∃b,m[i]?=some b/\R a b
 | _,_,.nil,_,_,h=>by simp at h
 | _,_,.cons r t,0,_,h=>by
  simp only [List.getElem?_cons_zero,Option.some.injEq] at h
  subst h
  exact⟨_,rfl,r⟩
 | _,_,.cons r t,i+1,_,h=>t.get (i:=i) (by simpa using h)
theorem jE.take {α β:Type} {R:α->β->Prop}:∀{l:List α} {m:List β},jE R l m->∀n:Nat,jE R (l.take n) (m.take n)
 | _,_,.nil,_=>by simp;exact .nil
 | _,_,.cons r t,0=>by simp;exact .nil
 | _,_,.cons r t,n+1=>by simp;exact .cons r (t.take n)
theorem jE.drop {α β:Type} {R:α->β->Prop}:∀{l:List α} {m:List β},jE R l m->∀n:Nat,jE R (l.drop n) (m.drop n)
 | _,_,.nil,_=>by simp;exact .nil
 | _,_,.cons r t,0=>.cons r t
 | _,_,.cons r t,n+1=>by simp;exact t.drop n
inductive wO (G:Hp) (v:V) (l:aG):Prop where
 | mk:∀q f,v=.ref q->G q=some (.tup [.str l.name,.int l.room,.ref f])->G f=some (.lst (l.first.map V.int))->wO G v l
inductive tZ (G:Hp) (v:V) (p:PD):Prop where
 | mk:∀q a1 a2 a3,v=.ref q->G q=some (.tup [.str (cX p.kind),.str p.name,.ref a1,.ref a2,.ref a3])->G a1=some (.lst (p.nums.map V.int))->G a2=some (.lst (p.ins.map V.str))->G a3=some (.lst (p.outs.map V.str))->tZ G v p
theorem wO.same {G G':Hp} {v:V} {l:aG} (h:wO G v l) (s:aJ G G'):wO G' v l:=by
 obtain⟨q,f,e,h1,h2⟩:=h
 exact⟨q,f,e,s _ _ h1,s _ _ h2⟩
theorem tZ.same {G G':Hp} {v:V} {p:PD} (h:tZ G v p) (s:aJ G G'):tZ G' v p:=by
 obtain⟨q,a1,a2,a3,e,h1,h2,h3,h4⟩:=h
 exact⟨q,a1,a2,a3,e,s _ _ h1,s _ _ h2,s _ _ h3,s _ _ h4⟩
structure Dw where
 S:Addr
 L:Addr
 P:Addr
 O:Addr
 c3:Int
 c4:Int
noncomputable abbrev Dw.E (d:Dw):List Addr:=[d.L,d.P,d.O]
structure nW (d:Dw) (H:Hp) (ls:List aG) (ps:List PD) (os:List Str):Prop where
 top:bA d.E H d.S=some (.lst [.ref d.L,.ref d.P,.ref d.O,.int d.c3,.int d.c4])
 lanes:∃xs,H d.L=some (.lst xs)/\jE (wO (bA d.E H)) xs ls
 parts:∃xs,H d.P=some (.lst xs)/\jE (tZ (bA d.E H)) xs ps
 opens:H d.O=some (.lst (os.map V.str))
 ne:d.L≠d.P/\d.L≠d.O/\d.P≠d.O
 lok:∀l∈ls,l.ok
 pok:∀p∈ps,jL p
 ln:ls.map (·.name)=(List.range ls.length).map (cL d.c3)
 pn:ps.map (·.name)=(List.range ps.length).map (cL d.c4)
theorem nW.seqS {d:Dw} {H:Hp} {ls:List aG} {ps:List PD} {os:List Str} (D:nW d H ls ps os):bI K H d.S [.ref d.L,.ref d.P,.ref d.O,.int d.c3,.int d.c4]:=bI.of (bR _ _ D.top)
theorem nW.has {d:Dw} {H:Hp} {ls:List aG} {ps:List PD} {os:List Str} (D:nW d H ls ps os) {a:Addr} (h:a∈d.E):∃o,H a=some o:=by
 obtain⟨_,e1,_⟩:=D.lanes
 obtain⟨_,e2,_⟩:=D.parts
 rcases List.mem_cons.mp h with rfl | h
 ·exact⟨_,e1⟩
 ·rcases List.mem_cons.mp h with rfl | h
  ·exact⟨_,e2⟩
  ·rw [List.mem_singleton] at h
   subst h
   exact⟨_,D.opens⟩
theorem nW.out {d:Dw} {H:Hp} {ls:List aG} {ps:List PD} {os:List Str} (D:nW d H ls ps os) {p:Addr} (h:H p=none):p∉d.E:=fun z=>by
 obtain⟨o,e⟩:=D.has z
 rw [h] at e
 cases e
theorem nW.keep {d:Dw} {H H':Hp} {ls:List aG} {ps:List PD} {os:List Str} (D:nW d H ls ps os) (s:aJ H H'):nW d H' ls ps os:=by
 obtain⟨xs,e1,a1⟩:=D.lanes
 obtain⟨ys,e2,a2⟩:=D.parts
 have c:=CJ (E:=d.E) s (fun a h=>D.has h)
 exact⟨c _ _ D.top,⟨xs,s _ _ e1,a1.imp fun _ _ h=>h.same c⟩,⟨ys,s _ _ e2,a2.imp fun _ _ h=>h.same c⟩,s _ _ D.opens,D.ne,D.lok,D.pok,D.ln,D.pn⟩
theorem nW.cut {d:Dw} {H H':Hp} {ls:List aG} {ps:List PD} {os:List Str} (D:nW d H ls ps os) (s:aJ H H'):aJ (bA d.E H) (bA d.E H'):=CJ s (fun _ h=>D.has h)
theorem Fi {α:Type} {f:α->Str} {w:Nat->Str} {l:List α} {x:α} (h:l.map f=(List.range l.length).map w) (hx:f x=w l.length):(l ++ [x]).map f=(List.range (l ++ [x]).length).map w:=by
 rw [List.map_append,lP,List.length_singleton,List.range_succ,List.map_append,h,List.map_singleton,List.map_singleton,hx]
theorem nW.lane {d:Dw} {H:Hp} {ls:List aG} {ps:List PD} {os:List Str} (D:nW d H ls ps os) {v:V} {l:aG} (h:wO (bA d.E H) v l) (hl:l.ok) (hn:l.name=cL d.c3 ls.length) {xs:List V} (e:H d.L=some (.lst xs)):
  nW d (upd H d.L (.lst (xs ++ [v]))) (ls ++ [l]) ps os:=by
 obtain⟨xs',e1,a1⟩:=D.lanes
 obtain⟨ys,e2,a2⟩:=D.parts
 rw [e] at e1
 cases e1
 have c:bA d.E (upd H d.L (.lst (xs ++ [v])))=bA d.E H:=dW (by simp)
 refine⟨by rw [c];exact D.top,⟨_,az,by rw [c];exact a1.app (.cons h .nil)⟩,⟨ys,by rw [aK (Ne.symm D.ne.1)];exact e2,by rw [c];exact a2⟩,by rw [aK (Ne.symm D.ne.2.1)];exact D.opens,D.ne,fun x hx=>?_,D.pok,Fi D.ln hn,D.pn⟩
 rcases List.mem_append.mp hx with hx | hx
 ·exact D.lok x hx
 ·rw [List.mem_singleton] at hx
  subst hx
  exact hl
theorem nW.part {d:Dw} {H:Hp} {ls:List aG} {ps:List PD} {os:List Str} (D:nW d H ls ps os) {v:V} {p:PD} (h:tZ (bA d.E H) v p) (hl:jL p) (hn:p.name=cL d.c4 ps.length) {xs:List V} (e:H d.P=some (.lst xs)):
  nW d (upd H d.P (.lst (xs ++ [v]))) ls (ps ++ [p]) os:=by
 obtain⟨xs',e1,a1⟩:=D.lanes
 obtain⟨ys,e2,a2⟩:=D.parts
 rw [e] at e2
 cases e2
 have c:bA d.E (upd H d.P (.lst (xs ++ [v])))=bA d.E H:=dW (by simp)
 refine⟨by rw [c];exact D.top,⟨_,by rw [aK D.ne.1];exact e1,by rw [c];exact a1⟩,⟨_,az,by rw [c];exact a2.app (.cons h .nil)⟩,by rw [aK (Ne.symm D.ne.2.2)];exact D.opens,D.ne,D.lok,fun x hx=>?_,D.ln,Fi D.pn hn⟩
 rcases List.mem_append.mp hx with hx | hx
 ·exact D.pok x hx
 ·rw [List.mem_singleton] at hx
  subst hx
  exact hl
theorem nW.open {d:Dw} {H:Hp} {ls:List aG} {ps:List PD} {os os':List Str} (D:nW d H ls ps os):nW d (upd H d.O (.lst (os'.map V.str))) ls ps os':=by
 obtain⟨xs,e1,a1⟩:=D.lanes
 obtain⟨ys,e2,a2⟩:=D.parts
 have c:bA d.E (upd H d.O (.lst (os'.map V.str)))=bA d.E H:=dW (by simp)
 exact⟨by rw [c];exact D.top,⟨xs,by rw [aK D.ne.2.1];exact e1,by rw [c];exact a1⟩,⟨ys,by rw [aK D.ne.2.2];exact e2,by rw [c];exact a2⟩,az,D.ne,D.lok,D.pok,D.ln,D.pn⟩
theorem zB (a:Int) {n:Nat} (h:n<=26):((List.range n).map (cL a)).Nodup:=by
 induction n with
 | zero=>exact List.nodup_nil
 | succ n ih=>
  rw [List.range_succ,List.map_append,List.nodup_append]
  refine⟨ih (by omega),by simp,fun x hx y hy=>?_⟩
  obtain⟨j,hj,rfl⟩:=List.mem_map.mp hx
  rw [List.map_singleton,List.mem_singleton] at hy
  subst hy
  have hj':=List.mem_range.mp hj
  intro z
  have:=JC a (by omega) (by omega) z
  omega
noncomputable abbrev uQ (ls:List aG) (ps:List PD) (os back:List Str):Drawn.NS Str:=⟨ls.map (·.name),ps,os,back⟩
theorem nW.nod {d:Dw} {H:Hp} {ls:List aG} {ps:List PD} {os:List Str} (D:nW d H ls ps os) (h:ls.length<=26):(ls.map (·.name)).Nodup:=by
 rw [D.ln]
 exact zB _ h
theorem VF {ns:Drawn.NS Str} (w:Drawn.WF ns) {os:List Str} (h:ns.opens.Perm os):Drawn.WF { ns with opens:=os }:=
 ⟨w.nod,w.outs,(h.symm.append_left _).trans w.ins,fun p hp=>by
  obtain⟨x,hx,o,ho,c⟩:=w.hang p hp
  exact⟨x,hx,o,h.mem_iff.mp ho,c⟩,w.touch⟩
theorem rF {d:Dw} {H:Hp} {ls newl:List aG} {ps:List PD} {p:PD} {os ops back:List Str} (w:Drawn.WF (uQ ls ps ops back)) (ho:p.outs=newl.map (·.name)) (D:nW d H (ls ++ newl) (ps ++ [p]) (os ++ newl.map (·.name))) (hi:ops.Perm (p.ins ++ os)) (hne:newl.length≠0) (hl:(ls ++ newl).length<=26):
  Drawn.WF (uQ (ls ++ newl) (ps ++ [p]) (os ++ newl.map (·.name)) back):=by
 have nd:=D.nod hl
 rw [List.map_append] at nd
 have:=w.part (p:=p) hi (by rw [ho];exact nd) (by rw [ho];intro z;exact hne (by rw [<-lM (f:=fun l:aG=>l.name),z];rfl))
 rw [ho] at this
 unfold uQ
 rw [List.map_append]
 exact this
noncomputable def JN (ps:List PD):Prop:=ps.any (fun p=>p.kind == 0)=true
theorem JN.app {ps:List PD} {p:PD} (h:JN ps):JN (ps ++ [p]):=by unfold JN at h ⊢;rw [List.any_append,h];rfl
structure Yi (d:Dw) (H H':Hp) (ls:List aG) (ps:List PD) (back:List Str) (ls':List aG) (ps':List PD) (os':List Str):Prop where
 cut:aJ (bA d.E H) (bA d.E H')
 at':nW d H' ls' ps' os'
 wf:Drawn.WF (uQ ls' ps' os' back)
 o1:1<=os'.length
 o4:os'.length<=4
 l2:ls'.length<=ls.length+2
 p2:ps'.length<=ps.length+2
 gv:JN ps->JN ps'
theorem Dc {c X Y B:Prop} [Decidable c] (k:B) (hx:c->B->X) (hy:B->Y):if c then X else Y:=by
 split
 ·rename_i h;exact hx h k
 ·exact hy k
theorem hide {t u:TS} {D:Ends} {σ:St} {H:Hp} (h:∀v,v=u->xV t v D σ H):xV t u D σ H:=h u rfl
theorem RG {i:Nat} {x:V} {t u:TS} {D:Ends} {σ:St} {H:Hp} (h:∀E,E=D->∀v,v=u->xV t v E (σ.set i (some x)) H):xQ i x σ H fun σ2 H2=>xV t u D σ2 H2:=h D rfl u rfl
theorem Uq {i:Nat} {x:V} {t:TS} {D:Ends} {σ:St} {H:Hp} (h:∀E,E=D->t E (σ.set i (some x)) H):xQ i x σ H fun σ2 H2=>t D σ2 H2:=h D rfl
theorem XD {t u:TS} {D:Ends} {σ:St} {H:Hp} (h:∀E,E=D->∀v,v=u->xV t v E σ H):xV t u D σ H:=h D rfl u rfl
theorem dh {t u v:TS} {D:Ends} {σ:St} {H:Hp} (hv:v=xV t u) (h:∀w,w=u->xV t w D σ H):v D σ H:=by
 subst hv
 exact h u rfl
theorem nW.two {d:Dw} {H:Hp} {ls:List aG} {ps:List PD} {os:List Str} (D:nW d H ls ps os) {a1 a2:Addr} {x y:HO} (n1:H a1=none) (n2:upd H a1 x a2=none):
  nW d (upd (upd H a1 x) a2 y) ls ps os/\bA d.E (upd (upd H a1 x) a2 y) a1=some x/\bA d.E (upd (upd H a1 x) a2 y) a2=some y/\aJ (bA d.E H) (bA d.E (upd (upd H a1 x) a2 y)):=by
 have s1:=aB (o:=x) n1
 have s2:=aB (o:=y) n2
 have s:=s1.trans s2
 exact⟨D.keep s,dU (s2 _ _ az) (D.out n1),dU az (D.out (s1.free n2)),D.cut s⟩
structure Ei (lanes:List Str) (ps:List PD):Prop where
 nod:lanes.Nodup
 outs:(ps.flatMap (·.outs)).Perm lanes
 ins:(ps.flatMap (·.ins)).Perm lanes
 hang:∃y,∀q∈ps,∃x∈q.ins ++ q.outs,Drawn.jj ps x y
noncomputable def Rx (H:Hp) (a:Addr):Nat:=match H a with
 | some (.lst xs)=>xs.length
 | _=>0
theorem JF {H:Hp} {a:Addr} {xs:List V} (h:H a=some (.lst xs)):Rx H a=xs.length:=by
 unfold Rx
 rw [h]
theorem Ku (m:Int) {n:Int} {k:Nat} (h0:0 <n) (hk:n=k):∃j:Nat,m % n=(j:Int)/\j <k:=by
 have h1:=Int.emod_nonneg m (Int.ne_of_gt h0)
 have h2:=Int.emod_lt_of_pos m h0
 exact⟨(m % n).toNat,(Int.toNat_of_nonneg h1).symm,by omega⟩
theorem Wm (m:Int):∃i:Nat,BP [V.str "add",V.str "less",V.str "add"] (m % 3)=some (.str (cX i))/\(i=6∨i=7):=by
 have key:∀j,j <3->BP [V.str "add",V.str "less",V.str "add"] ((j:Nat):Int)=some (.str (cX (([6,7,6]:List Nat).getD j 0)))/\(([6,7,6]:List Nat).getD j 0=6∨([6,7,6]:List Nat).getD j 0=7):=by decide +kernel
 obtain⟨j,e,hj⟩:=Ku m (n:=3) (k:=3) (by decide) rfl
 rw [e]
 exact⟨_,key j hj⟩
structure PX (c3 c4:Int) (ls:List aG) (ps:List PD):Prop where
 lok:∀l∈ls,l.ok
 pok:∀p∈ps,jL p
 ln:ls.map (·.name)=(List.range ls.length).map (cL c3)
 pn:((List.range ps.length).map (cL c4)).Perm (ps.map (·.name))
 whole:Ei (ls.map (·.name)) ps
 l1:1<=ls.length
 l17:ls.length<=17
 p1:1<=ps.length
 p16:ps.length<=16
 giv:JN ps
structure FP (H:Hp) (L P:Addr) (ls:List aG) (ps:List PD):Prop where
 lanes:∃xs,H L=some (.lst xs)/\jE (wO H) xs ls
 parts:∃xs,H P=some (.lst xs)/\jE (tZ H) xs ps
theorem FP.same {H H':Hp} {L P:Addr} {ls:List aG} {ps:List PD} (h:FP H L P ls ps) (s:aJ H H'):FP H' L P ls ps:=by
 obtain⟨⟨xs,e1,a1⟩,⟨ys,e2,a2⟩⟩:=h
 exact⟨⟨xs,s _ _ e1,a1.imp fun _ _ h=>h.same s⟩,⟨ys,s _ _ e2,a2.imp fun _ _ h=>h.same s⟩⟩
theorem Nm {ps qs:List PD} (h:ps.Perm qs) {x y:Str} (c:Drawn.jj ps x y):Drawn.jj qs x y:=c.mono fun _ hp=>h.mem_iff.mp hp
theorem Ei.perm {ns:List Str} {ps qs:List PD} (w:Ei ns ps) (h:ps.Perm qs):Ei ns qs:=by
 obtain⟨y,hy⟩:=w.hang
 exact⟨w.nod,(h.symm.flatMap_right _).trans w.outs,(h.symm.flatMap_right _).trans w.ins,y,fun q hq=>by
  obtain⟨x,hx,c⟩:=hy q (h.mem_iff.mpr hq)
  exact⟨x,hx,Nm h c⟩⟩
theorem QQ {α:Type} (l:List α) (n:Nat):l.Perm (l.drop n ++ l.take n):=by
 have h:l.Perm (l.take n ++ l.drop n):=by rw [List.take_append_drop]
 exact h.trans List.perm_append_comm
theorem Oj (xs:List V) (g:Nat):uD xs (some (g:Int)) none=xs.drop g:=by
 unfold uD
 rw [HT.yx,HT.uX,<-List.length_drop,List.take_length]
 rcases Nat.le_total g xs.length with h | h
 ·rw [Nat.min_eq_left h]
 ·rw [Nat.min_eq_right h,List.drop_length,List.drop_eq_nil_of_le h]
theorem Tu (xs:List V) (g:Nat):uD xs none (some (g:Int))=xs.take g:=by
 unfold uD
 rw [HT.yx,HT.uX,List.drop_zero,Nat.sub_zero]
 rcases Nat.le_total g xs.length with h | h
 ·rw [Nat.min_eq_left h]
 ·rw [Nat.min_eq_right h,List.take_length,List.take_of_length_le h]
theorem nW.init {H:Hp} {S L P O:Addr} (c3 c4:Int) (nL:H L=none) (nP:upd H L (.lst []) P=none) (nO:upd (upd H L (.lst [])) P (.lst []) O=none) (nS:upd (upd (upd H L (.lst [])) P (.lst [])) O (.lst []) S=none):
  nW ⟨S,L,P,O,c3,c4⟩ (upd (upd (upd (upd H L (.lst [])) P (.lst [])) O (.lst [])) S (.lst [.ref L,.ref P,.ref O,.int c3,.int c4])) [] [] []/\aJ H (bA [L,P,O] (upd (upd (upd (upd H L (.lst [])) P (.lst [])) O (.lst [])) S (.lst [.ref L,.ref P,.ref O,.int c3,.int c4])))/\H P=none:=by
 have s1:=aB (o:=.lst []) nL
 have s2:=aB (o:=.lst []) nP
 have s3:=aB (o:=.lst []) nO
 have s4:=aB (o:=.lst [.ref L,.ref P,.ref O,.int c3,.int c4]) nS
 have e1:=s4 _ _ (s3 _ _ (s2 L (.lst []) az))
 have e2:=s4 _ _ (s3 P (.lst []) az)
 have e3:=s4 O (.lst []) az
 have n1:L≠P:=aD (az (H:=H) (o:=.lst [])) nP
 have n2:L≠O:=aD (s2 L (.lst []) az) nO
 have n3:P≠O:=aD (az (H:=upd H L (.lst [])) (o:=.lst [])) nO
 have m1:L≠S:=aD (s3 _ _ (s2 L (.lst []) az)) nS
 have m2:P≠S:=aD (s3 P (.lst []) az) nS
 have m3:O≠S:=aD (az (H:=upd (upd H L (.lst [])) P (.lst [])) (o:=.lst [])) nS
 refine⟨⟨dU az ?_,⟨[],e1,.nil⟩,⟨[],e2,.nil⟩,e3,⟨n1,n2,n3⟩,(fun _ h=>by cases h),(fun _ h=>by cases h),rfl,rfl⟩,fun b o e=>dU (s4 _ _ (s3 _ _ (s2 _ _ (s1 _ _ e)))) ?_,s1.free nP⟩
 ·show S∉[L,P,O]
  simp [m1.symm,m2.symm,m3.symm]
 ·have q1:=aD e nL
  have q2:=aD (s1 _ _ e) nP
  have q3:=aD (s2 _ _ (s1 _ _ e)) nO
  simp [q1,q2,q3]
noncomputable abbrev LET:Str:= "abcdefghijklmnopqrstuvwxyz"
noncomputable abbrev YD:Str:= "0123456789"
theorem NT:LET.cps.toList=List.range' 97 26:=by decide +kernel
theorem Om:YD.cps.toList=List.range' 48 10:=by decide +kernel
theorem PQ (c:Nat):(!(Builtin.Str.occurrences LET ⟨#[c]⟩ 0 LET.length 1).isEmpty)=low c:=by
 rw [StrLaws.found_one,NT]
 unfold low
 rw [Bool.eq_iff_iff]
 simp [List.mem_range'_1]
 omega
theorem Vv (c:Nat):(!(Builtin.Str.occurrences YD ⟨#[c]⟩ 0 YD.length 1).isEmpty)=J7 c:=by
 rw [StrLaws.found_one,Om]
 unfold J7
 rw [Bool.eq_iff_iff]
 simp [List.mem_range'_1]
 omega
structure R4 (ms:List Str) (want:List (Str×V)) (fs:List (Str×V)):Prop where
 has:∀p∈want,fs.lookup p.1=some p.2
 no:∀m∈ms,fs.lookup m=none
theorem jD {H:Hp} {d:Addr} {kvs:List (Key×V)} {v:HO} (e:H d=some (.dK kvs)) {b:Addr} {u:HO} (h:H b=some u) (hu:∀ks,u≠.dK ks):upd H d v b=some u:=by
 rw [aK]
 ·exact h
 ·rintro rfl
  rw [e] at h
  exact hu _ (Option.some.inj h).symm
theorem fV {H:Hp} {d a:Addr} {kvs:List (Key×V)} {v:HO} {xs:List V} (e:H d=some (.dK kvs)) (h:fC K H a xs):fC K (upd H d v) a xs:=by
 rcases h with (h | ⟨o,h⟩) | h
 ·exact .inl (.inl (jD e h (by intro _ z;cases z)))
 ·exact .inl (.inr ⟨o,jD e h (by intro _ z;cases z)⟩)
 ·exact .inr h
theorem fj.chill {H:Hp} {d p:Addr} {kvs:List (Key×V)} {v:HO} {i:Nat} {nm:V} {ns is os:List V} (e:H d=some (.dK kvs)) (h:fj K t H p i nm ns is os):fj K t (upd H d v) p i nm ns is os:=by
 obtain⟨dx,tn,ti,to,h1,h2,h3,h4⟩:=h
 exact⟨dx,tn,ti,to,jD e h1 (by intro _ z;cases z),fV e h2,fV e h3,fV e h4⟩
theorem Ny {H:Hp} {d D:Addr} {kvs:List (Key×V)} {o:Obj} {u:HO} (e:H d=some (.dK kvs)) (hD:(upd H d (.frz o (.dK kvs))) D=none):upd (upd (upd H d (.frz o (.dK kvs))) D u) d (.dK kvs)=upd H D u:=by
 have n:D≠d:=by rintro rfl;rw [az] at hD;cases hD
 funext b
 by_cases h:b=d
 ·subst h
  rw [az,aK (Ne.symm n)]
  exact e.symm
 ·rw [aK h]
  unfold upd
  rw [if_neg h]
theorem J1 {H:Hp} {d D:Addr} {v:HO} (hD:(upd H d v) D=none):H D=none:=by
 by_cases h:D=d
 ·subst h;rw [az] at hD;cases hD
 ·rw [aK h] at hD;exact hD
theorem Hm {H:Hp} {a:Addr} {o:HO} (e:H a=some o):upd H a o=H:=by
 funext b
 unfold upd
 split
 ·rename_i h;rw [h];exact e.symm
 ·rfl
theorem fJ {κ:Type} [DecidableEq κ] {kvs:List (κ×V)} {k:κ} (h:k∉kvs.map (·.1)):bT kvs k=none:=by
 induction kvs with
 | nil=>rfl
 | cons p r ih=>
  simp only [List.map_cons,List.mem_cons,not_or] at h
  rw [gm (Ne.symm h.1)]
  exact ih h.2
theorem gq {κ:Type} [DecidableEq κ] {kvs:List (κ×V)} {k:κ} {v:V} (nd:(kvs.map (·.1)).Nodup) (h:(k,v)∈kvs):bT kvs k=some v:=by
 induction kvs with
 | nil=>cases h
 | cons p r ih=>
  simp only [List.map_cons,List.nodup_cons] at nd
  rcases List.mem_cons.mp h with h | h
  ·subst h
   exact gQ rfl
  ·have:¬p.1=k:=fun z=>nd.1 (List.mem_map.mpr ⟨_,h,z.symm⟩)
   rw [gm this]
   exact ih nd.2 h
noncomputable def cQ (f:PD->List Str) (ps:List PD):List (Key×V):=ps.flatMap fun p=>(f p).map fun l=>((Sum.inr l:Key),V.str p.name)
theorem wN (f:PD->List Str) (ps:List PD):(cQ f ps).map (·.1)=(ps.flatMap f).map (fun l=>(Sum.inr l:Key)):=by
 induction ps with
 | nil=>rfl
 | cons p r ih=>
  unfold cQ at ih ⊢
  simp only [List.flatMap_cons,List.map_append,ih,List.map_map]
  rfl
theorem eQ {l:List Str} (h:l.Nodup):(l.map (fun x=>(Sum.inr x:Key))).Nodup:=by
 induction l with
 | nil=>exact List.nodup_nil
 | cons a r ih=>
  simp only [List.map_cons,List.nodup_cons,List.mem_map] at h ⊢
  refine⟨?_,ih h.2⟩
  rintro⟨b,hb,e⟩
  cases e
  exact h.1 hb
theorem jd {f:PD->List Str} {ps:List PD} (nd:(ps.flatMap f).Nodup) {p:PD} (hp:p∈ps) {l:Str} (hl:l∈f p):bT (cQ f ps) (Sum.inr l)=some (.str p.name):=
 gq (by rw [wN];exact eQ nd) (List.mem_flatMap.mpr ⟨p,hp,List.mem_map.mpr ⟨l,hl,rfl⟩⟩)
theorem Ck {f:PD->List Str} {ps:List PD} {l:Str} (h:l∉ps.flatMap f):bT (cQ f ps) (Sum.inr l)=none:=fJ (by
 rw [wN]
 intro z
 obtain⟨b,hb,e⟩:=List.mem_map.mp z
 cases e
 exact h hb)
theorem Oq (f:PD->List Str) (ps:List PD):(cQ f ps).length=(ps.flatMap f).length:=by
 have:=congrArg List.length (wN f ps)
 simpa using this
theorem Cz (f:PD->List Str) (ps:List PD) (p:PD):cQ f (ps ++ [p])=cQ f ps ++ (f p).map fun l=>((Sum.inr l:Key),V.str p.name):=by
 unfold cQ
 rw [List.flatMap_append]
 simp
theorem Ls {α:Type} {f g:α->Bool}:∀{l:List α},(∀a∈l,g a=true->f a=true)->(∃a∈l,f a=true/\g a=false)->(l.filter g).length <(l.filter f).length
 | [],_,h=>by obtain⟨a,ha,_⟩:=h;cases ha
 | x:: r,h,h2=>by
  have le:∀r:List α,(∀a∈r,g a=true->f a=true)->(r.filter g).length<=(r.filter f).length:=fun r=>by
   induction r with
   | nil=>intro _;exact Nat.le_refl _
   | cons y t ih=>
    intro q
    have:=ih fun a ha=>q a (List.mem_cons_of_mem _ ha)
    have q0:=q y List.mem_cons_self
    rw [List.filter_cons,List.filter_cons]
    cases hg:g y
    ·simp only [Bool.false_eq_true,if_false]
     split
     ·rw [List.length_cons];omega
     ·exact this
    ·rw [q0 hg]
     simp only [if_true,List.length_cons]
     omega
  obtain⟨a,ha,hf,hg⟩:=h2
  have hr:=fun a ha=>h a (List.mem_cons_of_mem x ha)
  rw [List.filter_cons,List.filter_cons]
  rcases List.mem_cons.mp ha with rfl | ha
  ·rw [hf,hg]
   have:=le r hr
   simp
   omega
  ·have ih:=Ls hr ⟨a,ha,hf,hg⟩
   have q0:=h x List.mem_cons_self
   cases hx:g x
   ·simp only [Bool.false_eq_true,if_false]
    split
    ·rw [List.length_cons];omega
    ·exact ih
   ·rw [q0 hx]
    simp only [if_true,List.length_cons]
    omega
noncomputable def gO (jk:List (Key×V)) (x:Str):Bool:=(bT jk (Sum.inr x)).isSome
noncomputable def oK (ps:List PD) (jk:List (Key×V)):Nat:=(ps.filter fun p=>!gO jk p.name).length
theorem IV (jk:List (Key×V)) (x y:Str) (v:V):gO (putK jk (Sum.inr x) v) y=(decide (y=x) || gO jk y):=by
 unfold gO
 rw [RB]
 by_cases h:y=x
 ·subst h;simp
 ·have:¬(Sum.inr y:Key)=Sum.inr x:=fun z=>h (Sum.inr.inj z)
  rw [if_neg this]
  simp [h]
theorem Ju {ps:List PD} {jk jk':List (Key×V)} (h:∀x,gO jk x=true->gO jk' x=true) {p:PD} (hp:p∈ps) (h1:gO jk p.name=false) (h2:gO jk' p.name=true):oK ps jk' <oK ps jk:=by
 refine Ls (fun a _ q=>?_) ⟨p,hp,by simp [h1],by simp [h2]⟩
 cases hj:gO jk a.name
 ·rfl
 ·rw [h _ hj] at q;cases q
theorem Ov {ps:List PD} (pm:(ps.flatMap (·.outs)).Perm (ps.flatMap (·.ins))) {l:Str} (h:l∈ps.flatMap (·.outs)):∃a∈ps,∃b∈ps,l∈a.outs/\l∈b.ins:=by
 obtain⟨a,ha,hl⟩:=List.mem_flatMap.mp h
 obtain⟨b,hb,hl2⟩:=List.mem_flatMap.mp (pm.mem_iff.mp h)
 exact⟨a,ha,b,hb,hl,hl2⟩
theorem V8 {ps:List PD} (no:(ps.flatMap (·.outs)).Nodup) (ni:(ps.flatMap (·.ins)).Nodup) (pm:(ps.flatMap (·.outs)).Perm (ps.flatMap (·.ins))) {jk:List (Key×V)} (hang:∃y,∀q∈ps,∃x∈q.ins ++ q.outs,Drawn.jj ps x y)
  (cl:∀a∈ps,∀b∈ps,∀l,l∈a.outs->l∈b.ins->gO jk a.name=gO jk b.name) {p0:PD} (hp0:p0∈ps) (h0:gO jk p0.name=true):∀q∈ps,gO jk q.name=true:=by
 obtain⟨y,hy⟩:=hang
 refine Drawn.KJ (J:=fun p=>gO jk p.name=true) (fun l p q hp hq hlp hlq hJ=>?_) hy hp0 h0
 have same:∀{f:PD->List Str},(ps.flatMap f).Nodup->∀{a b:PD},a∈ps->b∈ps->l∈f a->l∈f b->a.name=b.name:=fun {f} nd {a b} ha hb h1 h2=>by
  obtain⟨i,hi,ei⟩:=List.mem_iff_getElem.mp ha
  obtain⟨j,hj,ej⟩:=List.mem_iff_getElem.mp hb
  have:=Drawn.Oe f nd (i:=i) (j:=j) (p:=a) (q:=b) (l:=l) (by rw [List.getElem?_eq_getElem hi,ei]) (by rw [List.getElem?_eq_getElem hj,ej]) h1 h2
  subst this
  rw [<-ei,<-ej]
 have hl:l∈ps.flatMap (·.outs):=by
  rcases List.mem_append.mp hlp with h | h
  ·exact pm.mem_iff.mpr (List.mem_flatMap.mpr ⟨p,hp,h⟩)
  ·exact List.mem_flatMap.mpr ⟨p,hp,h⟩
 obtain⟨a,ha,b,hb,la,lb⟩:=Ov pm hl
 have e:=cl a ha b hb l la lb
 have np:p.name=a.name∨p.name=b.name:=(List.mem_append.mp hlp).elim (fun h=>.inr (same ni hp hb h lb)) fun h=>.inl (same no hp ha h la)
 have nq:q.name=a.name∨q.name=b.name:=(List.mem_append.mp hlq).elim (fun h=>.inr (same ni hq hb h lb)) fun h=>.inl (same no hq ha h la)
 show gO jk q.name=true
 change gO jk p.name=true at hJ
 rcases np with np | np <;> rcases nq with nq | nq <;> rw [np] at hJ <;> rw [nq]
 ·exact hJ
 ·rw [<-e];exact hJ
 ·rw [e];exact hJ
 ·exact hJ
theorem FN {z:Str} (h:nameB z=true):z.length<=100:=by
 unfold nameB at h
 rw [<-oE]
 split at h
 ·simp_all
 ·rename_i e
  rw [e]
  simp only [Bool.and_eq_true,decide_eq_true_eq] at h
  rw [List.length_cons]
  omega
structure wg (ls:List aG) (ps:List PD):Prop where
 lok:∀l∈ls,1<=l.room/\l.room<=199/\(l.first.length:Int)<=l.room/\∀v∈l.first,0<=v/\v <1000000000
 pok:∀p∈ps,jL p
 lnm:∀l∈ls,nameB l.name=true
 pnm:∀p∈ps,nameB p.name=true
 pnd:(ps.map (·.name)).Nodup
 whole:Ei (ls.map (·.name)) ps
 l1:1<=ls.length
 l24:ls.length<=24
 p1:1<=ps.length
 p16:ps.length<=16
theorem HR {c:Int} {n:Nat} (hn:n<=26) {x:Str} (h:x∈(List.range n).map (cL c)):∃k,k <n/\x=cL c k:=by
 obtain⟨k,hk,rfl⟩:=List.mem_map.mp h
 exact⟨k,List.mem_range.mp hk,rfl⟩
theorem PX.fit {c3 c4:Int} {ls:List aG} {ps:List PD} (h:PX c3 c4 ls ps):wg ls ps:=by
 have a:=h.l17
 have b:=h.p16
 refine⟨fun l hl=>?_,h.pok,fun l hl=>?_,fun p hp=>?_,?_,h.whole,h.l1,by omega,h.p1,h.p16⟩
 ·obtain⟨x1,x2,x3,x4⟩:=h.lok l hl
  exact⟨x1,by omega,x3,x4⟩
 ·obtain⟨k,hk,e⟩:=HR (c:=c3) (n:=ls.length) (by omega) (by rw [<-h.ln];exact List.mem_map.mpr ⟨l,hl,rfl⟩)
  rw [e]
  exact LC _ (by omega)
 ·obtain⟨k,hk,e⟩:=HR (c:=c4) (n:=ps.length) (by omega) (h.pn.mem_iff.mpr (List.mem_map.mpr ⟨p,hp,rfl⟩))
  rw [e]
  exact LC _ (by omega)
 ·exact h.pn.nodup_iff.mp (zB _ (by omega))
theorem PX.lane20 {c3 c4:Int} {ls:List aG} {ps:List PD} (h:PX c3 c4 ls ps):cL c3 20∉ls.map (·.name):=fun z=>by
 have a:=h.l17
 rw [h.ln] at z
 obtain⟨k,hk,e⟩:=HR (by omega) z
 have:=JC _ (by omega) (by omega) e
 omega
noncomputable def dq (ls:List aG):List (Key×V):=ls.map fun l=>((Sum.inr l.name:Key),V.int l.room)
noncomputable def bD (FL:List (aG×Addr)):List (Key×V):=FL.map fun q=>((Sum.inr q.1.name:Key),V.ref q.2)
noncomputable def d8 (PL:List (PD×Addr)):List (Key×V):=PL.map fun q=>((Sum.inr q.1.name:Key),V.ref q.2)
theorem lF (ls:List aG):(dq ls).map (·.1)=(ls.map (·.name)).map (fun x=>(Sum.inr x:Key)):=by unfold dq;rw [List.map_map,List.map_map];rfl
theorem m9 (FL:List (aG×Addr)):(bD FL).map (·.1)=((FL.map (·.1)).map (·.name)).map (fun x=>(Sum.inr x:Key)):=by unfold bD;rw [List.map_map,List.map_map,List.map_map];rfl
theorem Ab (PL:List (PD×Addr)):(d8 PL).map (·.1)=((PL.map (·.1)).map (·.name)).map (fun x=>(Sum.inr x:Key)):=by unfold d8;rw [List.map_map,List.map_map,List.map_map];rfl
structure vo (K:PySem.W.Frag) (t:ji) (H:Hp) (n:Addr) (ls:List aG) (ps:List PD) (dx:Addr) (fs:List (Str×V)) (R F Pd G Tk:Addr) (FL:List (aG×Addr)) (PL:List (PD×Addr)):Prop where
 obj:H n=some (.ins t.dF dx fs)
 fl:R4 ["lane_names", "part_names", "names_of_kind", "gives", "takes", "need_lane_name", "room_of", "first_of", "part_of", "__init__"] [("rooms",.ref R),("firsts",.ref F),("parts",.ref Pd),("givers",.ref G),("takers",.ref Tk)] fs
 rooms:H R=some (.dK (dq ls))
 firsts:H F=some (.dK (bD FL))
 parts:H Pd=some (.dK (d8 PL))
 givers:H G=some (.dK (cQ (·.outs) ps))
 takers:H Tk=some (.dK (cQ (·.ins) ps))
 fls:FL.map (·.1)=ls
 pls:PL.map (·.1)=ps
 tups:∀q∈FL,fC K H q.2 (q.1.first.map V.int)
 pats:∀q∈PL,fj K t H q.2 q.1.kind (.str q.1.name) (q.1.nums.map V.int) (q.1.ins.map V.str) (q.1.outs.map V.str)
 fit:wg ls ps
 neRF:R≠F
inductive gJ (K:PySem.W.Frag) (t:ji) (H:Hp) (n:Addr) (ls:List aG) (ps:List PD):Prop where
 | mk:∀dx fs R F Pd G Tk FL PL,vo K t H n ls ps dx fs R F Pd G Tk FL PL->gJ K t H n ls ps
section
variable {H H':Hp} {n dx R F Pd G Tk:Addr} {ls:List aG} {ps:List PD} {fs:List (Str×V)} {FL:List (aG×Addr)} {PL:List (PD×Addr)}
theorem vo.same (N:vo K t H n ls ps dx fs R F Pd G Tk FL PL) (s:aJ H H'):vo K t H' n ls ps dx fs R F Pd G Tk FL PL:=
 ⟨s _ _ N.obj,N.fl,s _ _ N.rooms,s _ _ N.firsts,s _ _ N.parts,s _ _ N.givers,s _ _ N.takers,N.fls,N.pls,fun q hq=>s.seqT (N.tups q hq),fun q hq=>(N.pats q hq).same s,N.fit,N.neRF⟩
theorem gJ.same (N:gJ K t H n ls ps) (s:aJ H H'):gJ K t H' n ls ps:=by
 obtain⟨dx,fs,R,F,Pd,G,Tk,FL,PL,N⟩:=N
 exact⟨dx,fs,R,F,Pd,G,Tk,FL,PL,N.same s⟩
theorem vo.s (N:vo K t H n ls ps dx fs R F Pd G Tk FL PL):gJ K t H n ls ps:=⟨dx,fs,R,F,Pd,G,Tk,FL,PL,N⟩
theorem vo.room (N:vo K t H n ls ps dx fs R F Pd G Tk FL PL) {l:aG} (hl:l∈ls):bT (dq ls) (Sum.inr l.name)=some (.int l.room):=
 gq (by rw [lF];exact eQ N.fit.whole.nod) (List.mem_map.mpr ⟨l,hl,rfl⟩)
theorem vo.firstV (N:vo K t H n ls ps dx fs R F Pd G Tk FL PL) {q:aG×Addr} (hq:q∈FL):bT (bD FL) (Sum.inr q.1.name)=some (.ref q.2):=
 gq (by rw [m9,N.fls];exact eQ N.fit.whole.nod) (List.mem_map.mpr ⟨q,hq,rfl⟩)
theorem vo.partV (N:vo K t H n ls ps dx fs R F Pd G Tk FL PL) {q:PD×Addr} (hq:q∈PL):bT (d8 PL) (Sum.inr q.1.name)=some (.ref q.2):=
 gq (by rw [Ab,N.pls];exact eQ N.fit.pnd) (List.mem_map.mpr ⟨q,hq,rfl⟩)
theorem vo.ono (N:vo K t H n ls ps dx fs R F Pd G Tk FL PL):(ps.flatMap (·.outs)).Nodup:=N.fit.whole.outs.nodup_iff.mpr N.fit.whole.nod
theorem vo.ini (N:vo K t H n ls ps dx fs R F Pd G Tk FL PL):(ps.flatMap (·.ins)).Nodup:=N.fit.whole.ins.nodup_iff.mpr N.fit.whole.nod
end
theorem JK {α:Type} {f:α->Str} {xs:List α} {x:Str}:inV (.str x) (xs.map fun p=>V.str (f p))=decide (x∈xs.map f):=by
 rw [Bool.eq_iff_iff]
 unfold inV
 rw [List.any_eq_true,decide_eq_true_eq]
 constructor
 ·rintro⟨v,hv,e⟩
  obtain⟨p,hp,rfl⟩:=List.mem_map.mp hv
  exact List.mem_map.mpr ⟨p,hp,by simpa [JV] using e⟩
 ·intro h
  obtain⟨p,hp,rfl⟩:=List.mem_map.mp h
  exact⟨.str (f p),List.mem_map.mpr ⟨p,hp,rfl⟩,by simp [JV]⟩
noncomputable def dH (ps:List PD) (x:Str):List V:=(ps.filter fun p=>decide (cX p.kind=x)).map fun p=>V.str p.name
theorem NQ (ps:List PD) (x:Str) (p:PD):dH (ps ++ [p]) x=if cX p.kind=x then dH ps x ++ [V.str p.name] else dH ps x:=by
 unfold dH
 rw [List.filter_append,List.map_append]
 by_cases h:cX p.kind=x
 ·rw [if_pos h];simp [h]
 ·rw [if_neg h];simp [h]
theorem xj (ps:List PD) (x:Str):(dH ps x).length<=ps.length:=by
 unfold dH
 rw [lM]
 exact List.length_filter_le _ _
noncomputable def YH (p:PD):Bool:=decide (cX p.kind= "choose") || decide (cX p.kind= "split")
noncomputable def oddN (ps:List PD):V:=match ps.find? YH with
 | some p=>.str p.name
 | none=>.non
inductive Iw (K:PySem.W.Frag) (H:Hp) (v:V) (l:aG):Prop where
 | mk:∀q f,v=.ref q->H q=some (.tup [.str l.name,.int l.room,.ref f])->fC K H f (l.first.map V.int)->Iw K H v l
inductive QM (K:PySem.W.Frag) (H:Hp) (v:V) (p:PD):Prop where
 | mk:∀q a1 a2 a3,v=.ref q->H q=some (.tup [.str (cX p.kind),.str p.name,.ref a1,.ref a2,.ref a3])->fC K H a1 (p.nums.map V.int)->fC K H a2 (p.ins.map V.str)->fC K H a3 (p.outs.map V.str)->QM K H v p
theorem Iw.same {H H':Hp} {v:V} {l:aG} (h:Iw K H v l) (s:aJ H H'):Iw K H' v l:=by
 obtain⟨q,f,e,h1,h2⟩:=h
 exact⟨q,f,e,s _ _ h1,s.seqT h2⟩
theorem QM.same {H H':Hp} {v:V} {p:PD} (h:QM K H v p) (s:aJ H H'):QM K H' v p:=by
 obtain⟨q,a1,a2,a3,e,h1,h2,h3,h4⟩:=h
 exact⟨q,a1,a2,a3,e,s _ _ h1,s.seqT h2,s.seqT h3,s.seqT h4⟩
structure JT (K:PySem.W.Frag) (H:Hp) (T a b:Addr) (ls:List aG) (ps:List PD):Prop where
 tup:H T=some (.tup [.ref a,.ref b])
 lanes:∃xs,H a=some (.lst xs)/\jE (Iw K H) xs ls
 parts:∃xs,H b=some (.lst xs)/\jE (QM K H) xs ps
theorem JT.same {H H':Hp} {T a b:Addr} {ls:List aG} {ps:List PD} (h:JT K H T a b ls ps) (s:aJ H H'):JT K H' T a b ls ps:=by
 obtain⟨h1,⟨xs,e1,a1⟩,⟨ys,e2,a2⟩⟩:=h
 exact⟨s _ _ h1,⟨xs,s _ _ e1,a1.imp fun _ _ h=>h.same s⟩,⟨ys,s _ _ e2,a2.imp fun _ _ h=>h.same s⟩⟩
structure Tr (H:Hp) (f:Addr) (L:List (Addr×HO)) (Hk:Hp):Prop where
 but:lX f H Hk
 all:∀p∈L,Hk p.1=some p.2
 fre:∀p∈L,p.1=f∨H p.1=none
 nod:(L.map Prod.fst).Nodup
 obj:∃o,(f,o)∈L
theorem Tr.free {H Hk:Hp} {f x:Addr} {L:List (Addr×HO)} (T:Tr H f L Hk) (nx:Hk x=none):H x=none:=by
 cases e:H x with
 | none=>rfl
 | some o=>
  by_cases h:x=f
  ·obtain⟨u,hu⟩:=T.obj
   have:=T.all _ hu
   rw [h] at nx
   rw [nx] at this
   cases this
  ·rw [T.but x o h e] at nx
   cases nx
theorem Tr.new {H Hk:Hp} {f x:Addr} {L:List (Addr×HO)} {o:HO} (T:Tr H f L Hk) (nx:Hk x=none):Tr H f (L ++ [(x,o)]) (upd Hk x o):=by
 have hne:∀p∈L,p.1≠x:=fun p hp z=>by have:=T.all p hp;rw [z,nx] at this;cases this
 have hx:=T.free nx
 refine⟨fun b u n e=>by rw [aK (aD e hx)];exact T.but b u n e,fun p hp=>?_,fun p hp=>?_,?_,?_⟩
 ·rcases List.mem_append.mp hp with h | h
  ·rw [aK (hne p h)];exact T.all p h
  ·rw [List.mem_singleton] at h;subst h;exact az
 ·rcases List.mem_append.mp hp with h | h
  ·exact T.fre p h
  ·rw [List.mem_singleton] at h;subst h;exact .inr hx
 ·rw [List.map_append,List.nodup_append]
  refine⟨T.nod,by simp,fun a ha b hb=>?_⟩
  obtain⟨p,hp,rfl⟩:=List.mem_map.mp ha
  simp at hb
  subst hb
  exact hne p hp
 ·obtain⟨u,hu⟩:=T.obj
  exact⟨u,List.mem_append.mpr (.inl hu)⟩
theorem Tr.same {H Hk Hk':Hp} {f:Addr} {L:List (Addr×HO)} (T:Tr H f L Hk) (s:aJ Hk Hk'):Tr H f L Hk':=
 ⟨fun b u n e=>s _ _ (T.but b u n e),fun p hp=>s _ _ (T.all p hp),T.fre,T.nod,T.obj⟩
theorem Tr.put {H Hk:Hp} {f x:Addr} {o o':HO} {L1 L2:List (Addr×HO)} (T:Tr H f (L1 ++ (x,o):: L2) Hk):Tr H f (L1 ++ (x,o'):: L2) (upd Hk x o'):=by
 have hx:x=f∨H x=none:=T.fre (x,o) (by simp)
 have nd:=T.nod
 rw [List.map_append,List.map_cons,List.nodup_append] at nd
 obtain⟨n1,n2,n3⟩:=nd
 rw [List.nodup_cons] at n2
 refine⟨fun b u n e=>?_,fun p hp=>?_,fun p hp=>?_,?_,?_⟩
 ·have:b≠x:=by
   rcases hx with rfl | hx
   ·exact n
   ·exact aD e hx
  rw [aK this];exact T.but b u n e
 ·rcases List.mem_append.mp hp with h | h
  ·have:p.1≠x:=n3 p.1 (List.mem_map.mpr ⟨p,h,rfl⟩) x (by simp)
   rw [aK this];exact T.all p (by simp [h])
  ·rcases List.mem_cons.mp h with rfl | h
   ·exact az
   ·have:p.1≠x:=fun z=>n2.1 (by rw [<-z];exact List.mem_map.mpr ⟨p,h,rfl⟩)
    rw [aK this];exact T.all p (by simp [h])
 ·rcases List.mem_append.mp hp with h | h
  ·exact T.fre p (by simp [h])
  ·rcases List.mem_cons.mp h with rfl | h
   ·exact hx
   ·exact T.fre p (by simp [h])
 ·have:=T.nod
  rw [List.map_append,List.map_cons] at this ⊢
  exact this
 ·obtain⟨u,hu⟩:=T.obj
  rcases List.mem_append.mp hu with h | h
  ·exact⟨u,by simp [h]⟩
  ·rcases List.mem_cons.mp h with h | h
   ·cases h;exact⟨o',by simp⟩
   ·exact⟨u,by simp [h]⟩
theorem Tr.start {H:Hp} {f:Addr} {o:HO} (e:H f=some o):Tr H f [(f,o)] H:=⟨lX.refl _,fun p hp=>by rw [List.mem_singleton] at hp;subst hp;exact e,fun p hp=>by rw [List.mem_singleton] at hp;subst hp;exact .inl rfl,by simp,o,by simp⟩
inductive UT (K:PySem.W.Frag) (H:Hp) (v:V) (l:aG):Prop where
 | mk:∀q f,v=.ref q->H q=some (.tup [.str l.name,.int l.room,.ref f])->xO K H f (l.first.map V.int)->UT K H v l
inductive Xb (K:PySem.W.Frag) (H:Hp) (v:V) (p:PD):Prop where
 | mk:∀q a1 a2 a3,v=.ref q->H q=some (.tup [.str (cX p.kind),.str p.name,.ref a1,.ref a2,.ref a3])->xO K H a1 (p.nums.map V.int)->xO K H a2 (p.ins.map V.str)->xO K H a3 (p.outs.map V.str)->Xb K H v p
structure Hand (K:PySem.W.Frag) (H:Hp) (Ll Lp:Addr) (ls:List aG) (ps:List PD):Prop where
 ll:∃xs,bI K H Ll xs/\jE (UT K H) xs ls
 lp:∃xs,bI K H Lp xs/\jE (Xb K H) xs ps
theorem mj {α:Type} {f:α->Str} {xs:List α} (nd:(xs.map f).Nodup) {j:Nat} {x:α} (h:xs[j]?=some x):f x∉(xs.take j).map f:=fun hm=>by
 have hj:=(List.getElem?_eq_some_iff.mp h).1
 have e:xs[j]=x:=(List.getElem?_eq_some_iff.mp h).2
 rw [List.map_take] at hm
 obtain⟨i,hi,ei⟩:=List.mem_iff_getElem.mp hm
 rw [List.length_take,lM] at hi
 rw [List.getElem_take] at ei
 have e2:(xs.map f)[j]'(by rw [lM];exact hj)=f x:=by rw [List.getElem_map,e]
 have:=(List.getElem_inj nd).mp (ei.trans e2.symm)
 omega
theorem M7 {f:PD->List Str} {ps:List PD} (nd:(ps.flatMap f).Nodup) {j:Nat} {p:PD} (h:ps[j]?=some p):(f p).Nodup/\∀z∈f p,z∉(ps.take j).flatMap f:=by
 have hj:=(List.getElem?_eq_some_iff.mp h).1
 have e:ps[j]=p:=(List.getElem?_eq_some_iff.mp h).2
 have e2:ps=ps.take j ++ p:: ps.drop (j+1):=by rw [<-e,<-List.drop_eq_getElem_cons hj,List.take_append_drop]
 rw [e2,List.flatMap_append,List.flatMap_cons,List.nodup_append] at nd
 obtain⟨n1,n2,n3⟩:=nd
 rw [List.nodup_append] at n2
 exact⟨n2.1,fun z hz hm=>n3 z hm z (List.mem_append.mpr (.inl hz)) rfl⟩
theorem Jc (xs:List V) (g:Nat):uD xs (some (g:Int)) none=xs.drop g:=by
 unfold uD
 rw [HT.yx,HT.uX,<-List.length_drop,List.take_length]
 rcases Nat.le_total g xs.length with h | h
 ·rw [Nat.min_eq_left h]
 ·rw [Nat.min_eq_right h,List.drop_eq_nil_of_le h,List.drop_eq_nil_of_le (Nat.le_refl _)]
structure o9 (K:PySem.W.Frag) (t:ji) (H:Hp) (f n E G Kp D Rw:Addr):Prop where
 ex:∃dx fs,H f=some (.ins t.bY dx fs)/\R4 ["holds", "held_now", "gone_by", "row_left", "head", "heads", "lacking", "row_ended", "deed", "do"] [("net",.ref n),("ever",.ref E),("gone",.ref G),("kept",.ref Kp),("done",.ref D),("rows",.ref Rw)] fs
theorem o9.same {H H':Hp} {f n E G Kp D Rw:Addr} (h:o9 K t H f n E G Kp D Rw) (s:aJ H H'):o9 K t H' f n E G Kp D Rw:=by
 obtain⟨dx,fs,h1,h2⟩:=h
 exact⟨dx,fs,s _ _ h1,h2⟩
noncomputable def dz (i:Nat) (xs:List Str) (hs:List V):V:=match (places i hs).find? (uT hs) with
 | some q=>((xs[q]?).map V.str).getD .non
 | none=>.non
theorem qZ {H:Hp}:∀{rs:List Addr} {vss:List (List V)} {j:Nat} {r:Addr},eE H rs vss->rs[j]?=some r->∃vs,vss[j]?=some vs/\H r=some (.tup vs)
 | _,_,_,_,.nil,e=>by simp at e
 | _,_,0,_,.cons h _,e=>by simp at e;subst e;exact⟨_,rfl,h⟩
 | _,_,j+1,_,.cons _ t,e=>by
  obtain⟨vs,h1,h2⟩:=qZ (j:=j) t (by simpa using e)
  exact⟨vs,by simpa using h1,h2⟩
theorem places_len {i:Nat} {hs:List V} (h:yg i hs):(places i hs).length<=3:=by
 have h3:=Bt i
 have h1:=h.1
 unfold places
 by_cases hi:i=9
 ·rw [if_pos hi]
  split <;> simp
 ·rw [if_neg hi,List.length_range]
  omega
theorem Tr.got {H Hk Hk':Hp} {f x:Addr} {L:List (Addr×HO)} {o:HO} (T:Tr H f L Hk) (s:aJ Hk Hk') (nx:Hk x=none) (ex:Hk' x=some o):Tr H f (L ++ [(x,o)]) Hk':=by
 have T':=T.same s
 have hx:=T.free nx
 refine⟨T'.but,fun p hp=>?_,fun p hp=>?_,?_,?_⟩
 ·rcases List.mem_append.mp hp with h | h
  ·exact T'.all p h
  ·rw [List.mem_singleton] at h;subst h;exact ex
 ·rcases List.mem_append.mp hp with h | h
  ·exact T.fre p h
  ·rw [List.mem_singleton] at h;subst h;exact .inr hx
 ·rw [List.map_append,List.nodup_append]
  refine⟨T.nod,by simp,fun a ha b hb z=>?_⟩
  obtain⟨p,hp,rfl⟩:=List.mem_map.mp ha
  simp at hb
  have:=T.all p hp
  rw [z,hb,nx] at this
  cases this
 ·obtain⟨u,hu⟩:=T.obj
  exact⟨u,List.mem_append.mpr (.inl hu)⟩
theorem Ff {α:Type} {a b c d e f g x:α} {M:List α} (h:x∈M):x∈a:: b:: c:: d:: e:: f:: g:: M:=by simp [h]
theorem Tr.perm {H Hk:Hp} {f:Addr} {L L':List (Addr×HO)} (T:Tr H f L Hk) (h:L.Perm L'):Tr H f L' Hk:=
 ⟨T.but,fun p hp=>T.all p (h.mem_iff.mpr hp),fun p hp=>T.fre p (h.mem_iff.mpr hp),(h.map _).nodup_iff.mp T.nod,by obtain⟨o,ho⟩:=T.obj;exact⟨o,h.mem_iff.mp ho⟩⟩
theorem Tr.sub {H Hk:Hp} {f:Addr} {L L':List (Addr×HO)} (T:Tr H f L Hk) (h:L'.Sublist L) (hf:∃o,(f,o)∈L'):Tr H f L' Hk:=
 ⟨T.but,fun p hp=>T.all p (h.subset hp),fun p hp=>T.fre p (h.subset hp),T.nod.sublist (h.map _),hf⟩
noncomputable def j4 (EL:List (aG×Addr)):List (Addr×HO):=EL.map fun q=>(q.2,HO.lst (q.1.first.map V.int))
noncomputable def cY (g:Str->Nat) (ls:List aG):List (Key×V):=ls.map fun l=>((Sum.inr l.name:Key),V.int (g l.name:Nat))
noncomputable def bZ (k:Str->Int) (ps:List PD):List (Key×V):=ps.map fun p=>((Sum.inr p.name:Key),V.int (k p.name))
theorem Bu (g:Str->Nat) (ls:List aG):(cY g ls).map (·.1)=(ls.map (·.name)).map (fun x=>(Sum.inr x:Key)):=by unfold cY;rw [List.map_map,List.map_map];rfl
theorem Bo (k:Str->Int) (ps:List PD):(bZ k ps).map (·.1)=(ps.map (·.name)).map (fun x=>(Sum.inr x:Key)):=by unfold bZ;rw [List.map_map,List.map_map];rfl
noncomputable def f9 (ps:List PD) (x:Str):Int:=((ps.find? fun p=>decide (p.name=x)).map fun p=>if p.kind=5 then p.nums.headD 0 else 0).getD 0
noncomputable def GC (p:PD):Int:=if p.kind=5 then p.nums.headD 0 else 0
theorem find_name {α:Type} {f:α->Str}:∀{ls:List α} (_:(ls.map f).Nodup) {l:α} (_:l∈ls),ls.find? (fun x=>decide (f x=f l))=some l
 | a:: r,nd,l,hl=>by
  rw [List.map_cons,List.nodup_cons] at nd
  rcases List.mem_cons.mp hl with rfl | h
  ·rw [List.find?_cons_of_pos (by simp)]
  ·have:¬f a=f l:=fun z=>nd.1 (by rw [z];exact List.mem_map.mpr ⟨l,h,rfl⟩)
   rw [List.find?_cons_of_neg (by simp [this])]
   exact find_name nd.2 h
theorem wg.inL {ls:List aG} {ps:List PD} (F:wg ls ps) {p:PD} (hp:p∈ps) {x:Str} (hx:x∈p.ins ++ p.outs):∃l∈ls,l.name=x:=by
 rcases List.mem_append.mp hx with h | h
 ·exact List.mem_map.mp (F.whole.ins.mem_iff.mp (List.mem_flatMap.mpr ⟨p,hp,h⟩))
 ·exact List.mem_map.mp (F.whole.outs.mem_iff.mp (List.mem_flatMap.mpr ⟨p,hp,h⟩))
theorem BV {α β:Type} {f:α->β}:∀{l:List α},(l.map f).Nodup->∀{a b:α},a∈l->b∈l->f a=f b->a=b
 | x:: r,nd,a,b,ha,hb,e=>by
  rw [List.map_cons,List.nodup_cons] at nd
  rcases List.mem_cons.mp ha with h1 | h1
  ·rcases List.mem_cons.mp hb with h2 | h2
   ·rw [h1,h2]
   ·exact absurd (List.mem_map.mpr ⟨b,h2,by rw [<-e,h1]⟩) nd.1
  ·rcases List.mem_cons.mp hb with h2 | h2
   ·exact absurd (List.mem_map.mpr ⟨a,h1,by rw [e,h2]⟩) nd.1
   ·exact BV nd.2 h1 h2 e
noncomputable def Vr:V->Int
 | .int n=>n
 | _=>0
structure FS where
 ev:Str->List Int
 g:Str->Nat
 k:Str->Int
 d:Str->Nat
 r:Str->List Int
structure mF where
 (f n E G Kp D Rw:Addr)
 (ea ra:Str->Addr)
noncomputable def jx (ps:List PD):List PD:=ps.filter fun p=>decide (p.kind=0)
noncomputable def Ni (ea:Str->Addr) (ls:List aG):List (Key×V):=ls.map fun l=>((Sum.inr l.name:Key),V.ref (ea l.name))
noncomputable def Ef (ra:Str->Addr) (ps:List PD):List (Key×V):=(jx ps).map fun p=>((Sum.inr p.name:Key),V.ref (ra p.name))
noncomputable def mF.cells (A:mF) (ls:List aG) (ps:List PD):List Addr:=A.E:: A.G:: A.Kp:: A.D:: A.Rw:: (ls.map (fun l=>A.ea l.name) ++ (jx ps).map (fun p=>A.ra p.name))
structure dD (K:PySem.W.Frag) (t:ji) (H:Hp) (A:mF) (ls:List aG) (ps:List PD) (S:FS):Prop where
 at':o9 K t H A.f A.n A.E A.G A.Kp A.D A.Rw
 ever:H A.E=some (.dK (Ni A.ea ls))
 lists:∀l∈ls,H (A.ea l.name)=some (.lst ((S.ev l.name).map V.int))
 gone:H A.G=some (.dK (cY S.g ls))
 kept:H A.Kp=some (.dK (bZ S.k ps))
 done:H A.D=some (.dK (bZ (fun x=>(S.d x:Int)) ps))
 rows:H A.Rw=some (.dK (Ef A.ra ps))
 rlst:∀p∈ps,p.kind=0->H (A.ra p.name)=some (.lst ((S.r p.name).map V.int))
 nod:(A.cells ls ps).Nodup
theorem dD.same {H H':Hp} {A:mF} {ls:List aG} {ps:List PD} {S:FS} (h:dD K t H A ls ps S) (s:aJ H H'):dD K t H' A ls ps S:=
 ⟨h.at'.same s,s _ _ h.ever,fun l hl=>s _ _ (h.lists l hl),s _ _ h.gone,s _ _ h.kept,s _ _ h.done,s _ _ h.rows,fun p hp h0=>s _ _ (h.rlst p hp h0),h.nod⟩
structure Bc (b:Nat) (ls:List aG) (ps:List PD) (S:FS):Prop where
 vb:∀l∈ls,∀v∈S.ev l.name,0<=v/\v <1000000000
 rb:∀p∈ps,p.kind=0->∀v∈S.r p.name,0<=v/\v <1000000000
 dl:∀p∈ps,p.kind=0->S.d p.name<=(S.r p.name).length
 len:∀l∈ls,(S.ev l.name).length<=b
 rl:∀p∈ps,p.kind=0->(S.r p.name).length<=300
theorem Qp (ea:Str->Addr) (ls:List aG):(Ni ea ls).map (·.1)=(ls.map (·.name)).map (fun x=>(Sum.inr x:Key)):=by unfold Ni;rw [List.map_map,List.map_map];rfl
theorem lE {ea:Str->Addr} {ls:List aG} (nd:(ls.map (·.name)).Nodup) {l:aG} (hl:l∈ls):bT (Ni ea ls) (Sum.inr l.name)=some (.ref (ea l.name)):=
 gq (by rw [Qp];exact eQ nd) (List.mem_map.mpr ⟨l,hl,rfl⟩)
theorem rM {g:Str->Nat} {ls:List aG} (nd:(ls.map (·.name)).Nodup) {l:aG} (hl:l∈ls):bT (cY g ls) (Sum.inr l.name)=some (.int (g l.name:Nat)):=
 gq (by rw [Bu];exact eQ nd) (List.mem_map.mpr ⟨l,hl,rfl⟩)
theorem rB {k:Str->Int} {ps:List PD} (nd:(ps.map (·.name)).Nodup) {p:PD} (hp:p∈ps):bT (bZ k ps) (Sum.inr p.name)=some (.int (k p.name)):=
 gq (by rw [Bo];exact eQ nd) (List.mem_map.mpr ⟨p,hp,rfl⟩)
theorem FZ (ra:Str->Addr) (ps:List PD):(Ef ra ps).map (·.1)=((jx ps).map (·.name)).map (fun x=>(Sum.inr x:Key)):=by unfold Ef;rw [List.map_map,List.map_map];rfl
theorem Gj {ps:List PD} (nd:(ps.map (·.name)).Nodup):((jx ps).map (·.name)).Nodup:=nd.sublist (List.filter_sublist.map _)
theorem o7 {ra:Str->Addr} {ps:List PD} (nd:(ps.map (·.name)).Nodup) {p:PD} (hp:p∈ps) (h0:p.kind=0):bT (Ef ra ps) (Sum.inr p.name)=some (.ref (ra p.name)):=
 gq (by rw [FZ];exact eQ (Gj nd)) (List.mem_map.mpr ⟨p,List.mem_filter.mpr ⟨hp,by simp [h0]⟩,rfl⟩)
theorem HQ {ra:Str->Addr} {ps:List PD} (nd:(ps.map (·.name)).Nodup) {p:PD} (hp:p∈ps) (h0:p.kind≠0):bT (Ef ra ps) (Sum.inr p.name)=none:=by
 refine fJ ?_
 rw [FZ]
 intro z
 obtain⟨b,hb,e⟩:=List.mem_map.mp z
 cases e
 obtain⟨p',hp',en⟩:=List.mem_map.mp hb
 have hf:=List.mem_filter.mp hp'
 have a1:=find_name nd hf.1
 have a2:=find_name nd hp
 rw [en] at a1
 rw [a1] at a2
 cases a2
 exact h0 (by simpa using hf.2)
noncomputable def fL (S:FS) (x:Str):V:=(((S.ev x)[S.g x]?).map V.int).getD .non
noncomputable def aW (S:FS) (p:PD):List V:=p.ins.map (fL S)
structure jV where
 tk:List Str
 gv:List (Str×Int)
 kv:Int
noncomputable def strAt (xs:List Str) (q:Nat):Str:=(xs[q]?).getD Str.empty
noncomputable def yI (S:FS) (p:PD):List Int:=if p.kind=0 then((S.r p.name)[S.d p.name]?).toList else(places p.kind (aW S p)).map fun q=>Vr (((aW S p)[q]?).getD .non)
noncomputable def qT (S:FS) (p:PD):Bool:=decide (p.kind=0) && decide (S.d p.name=(S.r p.name).length)
noncomputable def jl (S:FS) (p:PD):Option jV:=if dz p.kind p.ins (aW S p)≠.non then none else if qT S p=true then none else
 some ⟨(places p.kind (aW S p)).map (strAt p.ins),(cB p.kind p.nums (yI S p) (S.k p.name)).map fun pv=>(strAt p.outs pv.1.toNat,pv.2),gA p.kind (yI S p) (S.k p.name)⟩
inductive mV (M:List Addr) (H:Hp) (U:Addr) (dd:jV):Prop where
 | mk:∀La Lg rs,H U=some (.tup [.ref La,.ref Lg,.int dd.kv])->H La=some (.lst (dd.tk.map V.str))->H Lg=some (.lst (rs.map V.ref))->(eE H rs (dd.gv.map fun q=>[.str q.1,.int q.2]))->La∉M->Lg∉M->mV M H U dd
theorem mV.same {M:List Addr} {H H':Hp} {U:Addr} {dd:jV} (h:mV M H U dd) (s:aJ H H'):mV M H' U dd:=by
 obtain⟨La,Lg,rs,a,b,c,d,e,f⟩:=h
 exact⟨La,Lg,rs,s _ _ a,s _ _ b,s _ _ c,eE.same s d,e,f⟩
theorem lY (S:FS) (p:PD) (h:jL p):yg p.kind (aW S p):=by
 refine⟨by unfold aW;rw [lM];exact h.2.2.1,fun v hv=>?_⟩
 obtain⟨x,_,rfl⟩:=List.mem_map.mp hv
 unfold fL
 cases (S.ev x)[S.g x]? with
 | none=>exact .inl rfl
 | some n=>exact .inr ⟨n,rfl⟩
theorem dD.cell {H:Hp} {A:mF} {ls:List aG} {ps:List PD} {S:FS} (h:dD K t H A ls ps S) {a:Addr} (ha:H a=none):a∉A.cells ls ps:=by
 intro z
 have no:∀{b:Addr} {u:HO},H b=some u->a=b->False:=fun e q=>by rw [<-q,ha] at e;cases e
 unfold mF.cells at z
 simp only [List.mem_cons,List.mem_append,List.mem_map] at z
 rcases z with z | z | z | z | z | ⟨l,hl,z⟩ | ⟨p,hp,z⟩
 ·exact no h.ever z
 ·exact no h.gone z
 ·exact no h.kept z
 ·exact no h.done z
 ·exact no h.rows z
 ·exact no (h.lists l hl) z.symm
 ·have hf:=List.mem_filter.mp hp
  exact no (h.rlst p hf.1 (by simpa using hf.2)) z.symm
noncomputable def lJ (t:ji) (H:Hp) (r n f:Addr) (k:Nat):Prop:=∃dx fs,(H r=some (.ins t.pH dx fs)/\fs.length<=k+3)/\R4 ["step", "need_doors", "next_deed", "full_lane", "can_work", "works", "lane_now", "turn", "rows_left"] [("net",.ref n),("flow",.ref f),("turns",.int (k:Nat))] fs
theorem lJ.same {H H':Hp} {r n f:Addr} {k:Nat} (h:lJ t H r n f k) (s:aJ H H'):lJ t H' r n f k:=by
 obtain⟨dx,fs,h1,h2⟩:=h
 exact⟨dx,fs,⟨s _ _ h1.1,h1.2⟩,h2⟩
structure Gd (n:Nat) (d:PyData):Prop where
 eq:PyData.eqv d d=true
 lay:PyData.canLay0 d=true
 dep:PyData.depth d<=n
theorem Gd.all {n:Nat}:∀{ds:List PyData},(∀d∈ds,Gd n d)->PyData.eqvAll ds ds=true/\PyData.canLayAll0 ds=true/\PyData.depthAll ds<=n
 | [],_=>⟨by simp [PyData.eqvAll],by simp [PyData.canLayAll0],by simp [PyData.depthAll]⟩
 | d:: r,h=>by
  obtain⟨h1,h2,h3⟩:=Gd.all (ds:=r) fun x hx=>h x (List.mem_cons_of_mem _ hx)
  have g:=h d List.mem_cons_self
  have g3:=g.dep
  refine⟨by simp [PyData.eqvAll,g.eq,h1],by simp [PyData.canLayAll0,g.lay,h2],?_⟩
  simp only [PyData.depthAll]
  omega
theorem Gd.list {n:Nat} {ds:List PyData} (h:∀d∈ds,Gd n d):Gd (n+1) (.list ds):=by
 obtain⟨h1,h2,h3⟩:=Gd.all h
 exact⟨by simp [PyData.eqv,h1],by simp [PyData.canLay0,h2],by simp only [PyData.depth];omega⟩
theorem Gd.tuple {n:Nat} {ds:List PyData} (h:∀d∈ds,Gd n d):Gd (n+1) (.tuple ds):=by
 obtain⟨h1,h2,h3⟩:=Gd.all h
 exact⟨by simp [PyData.eqv,h1],by simp [PyData.canLay0,h2],by simp only [PyData.depth];omega⟩
theorem Gd.int (n:Nat) (i:Int):Gd n (.int i):=⟨by simp [PyData.eqv],by simp [PyData.canLay0],by simp [PyData.depth]⟩
theorem Gd.str (n:Nat) {x:Str} (h:PyData.strOk x=true):Gd n (.str x):=⟨by simp [PyData.eqv],by simp [PyData.canLay0,h],by simp [PyData.depth]⟩
theorem Gd.ints (n:Nat) (ws:List Int):∀d∈ws.map PyData.int,Gd n d:=fun d hd=>by
 obtain⟨i,_,rfl⟩:=List.mem_map.mp hd
 exact .int n i
theorem Gd.strs (n:Nat) {xs:List Str} (h:∀x∈xs,PyData.strOk x=true):∀d∈xs.map PyData.str,Gd n d:=fun d hd=>by
 obtain⟨x,hx,rfl⟩:=List.mem_map.mp hd
 exact .str n (h x hx)
theorem Gd.shaped {n:Nat} {d:PyData} (h:Gd n d) (hn:n<=64):SeqAt.shaped d=true:=by
 have:=h.dep
 unfold SeqAt.shaped
 rw [h.lay,decide_eq_true (show d.depth<=64 by omega)]
 rfl
theorem Hc {z:Str} (h:nameB z=true):PyData.strOk z=true:=by
 have e:∀c∈z.cps.toList,c <0x110000:=fun c hc=>by
  unfold nameB at h
  split at h
  ·cases h
  ·rename_i c0 r e
   rw [e] at hc
   simp only [Bool.and_eq_true,List.all_eq_true,Bool.or_eq_true] at h
   have:=h.2.2 c hc
   unfold low J7 at this
   simp only [Bool.and_eq_true,decide_eq_true_eq] at this
   omega
 unfold PyData.strOk
 rw [Array.all_eq_true']
 intro c hc
 exact decide_eq_true (e c (by simpa using hc))
theorem Ml {H:Hp}:∀ws:List Int,Nt K H (ws.map V.int) (ws.map PyData.int)
 | []=>.nil
 | i:: r=>.cons (.int i) (Ml r)
theorem Mp {H:Hp}:∀xs:List Str,Nt K H (xs.map V.str) (xs.map PyData.str)
 | []=>.nil
 | x:: r=>.cons (.str x) (Mp r)
theorem qy {H:Hp} {p:Addr} {ws:List Int} (h:bI K H p (ws.map V.int)):Dt K H (.ref p) (.list (ws.map PyData.int)):=.list h (Ml ws)
theorem Lx {H:Hp} {p:Addr} {xs:List Str} (h:bI K H p (xs.map V.str)):Dt K H (.ref p) (.list (xs.map PyData.str)):=.list h (Mp xs)
theorem Jh (xs:List V) (a b:Nat):uD xs (some (a:Int)) (some (b:Int))=(xs.drop (min a xs.length)).take (min b xs.length - min a xs.length):=by
 unfold uD
 rw [HT.uX,HT.uX]
inductive zO (K:PySem.W.Frag) (vs:List V) (H:Hp) (Q:VK) (E:XK):Prop where
 | mk:∀x Tx b,vs=[x]->Xu K H x Tx->Tx∈qj->decide (Tx= "int")=b->Q (.bl b) H->zO K vs H Q E
theorem zW (T:Txt w K mg t):FO P w K mg base 1 t.Dn ["thing"] (zO K):=by
 have sc:=T.rW.sc ["thing"]
 refine T.rW.F.ok sc ln (fun _ _ _ _ H vs Q E hr h=>?_)
 obtain⟨x,Tx,b,rfl,ty,hm,rfl,k⟩:=h
 refine⟨_,(aA (aN (yQ (bw lV (by rfl) T.fG eN (aa (pv 0) (aa (pN (by rfl) T.Wk Vf) ak aj) aj)) (zj (Vs (bw lV (by rfl) T.fG eN (aa (pv 0) (aa (pN (by rfl) T.Q3 Ln) ak aj) aj))))))),?_⟩
 have hm':Tx= "int" ∨Tx= "bool" ∨(Gu Tx "int" =false/\Tx≠ "int"):=by
  simp only [qj,List.mem_cons,List.not_mem_nil,or_false] at hm
  rcases hm with rfl | rfl | rfl | rfl | rfl | rfl | rfl
  ·exact .inr (.inr (by decide))
  ·exact .inr (.inl rfl)
  ·exact .inl rfl
  ·exact .inr (.inr (by decide))
  ·exact .inr (.inr (by decide))
  ·exact .inr (.inr (by decide))
  ·exact .inr (.inr (by decide))
 rcases hm' with rfl | rfl | ⟨h1,h2⟩
 ·exact⟨_,rfl,x, "int", "int",true,rfl,ty,by decide,by decide,true,rfl,fU ⟨_,rfl,x, "int", "bool",false,rfl,ty,by decide,by decide,_,rfl,k⟩⟩
 ·exact⟨_,rfl,x, "bool", "int",true,rfl,ty,by decide,by decide,true,rfl,fU ⟨_,rfl,x, "bool", "bool",true,rfl,ty,by decide,by decide,_,rfl,k⟩⟩
 ·rw [decide_eq_false h2] at k
  exact⟨_,rfl,x,Tx, "int",false,rfl,ty,by decide,h1,false,rfl,cz k⟩
inductive zR (K:PySem.W.Frag) (vs:List V) (H:Hp) (Q:VK) (E:XK):Prop where
 | mk:∀x,vs=[x]->(((∃i:Int,x=.int i/\Q (.bl (decide (0<=i) && decide (i <1000000000))) H)∨∃Tx,Xu K H x Tx/\Tx∈qj/\Tx≠ "int" /\Q (.bl false) H))->zR K vs H Q E
theorem tM (T:Txt w K mg t):FO P w K mg base 2 t.BZ ["thing"] (zR K):=by
 have sc:=T.oH.sc ["thing"]
 refine T.oH.F.ok sc ln (fun _ _ _ _ H vs Q E hr h=>?_)
 obtain⟨x,rfl,h⟩:=h
 refine⟨_,(aA (aN (yQ (dC (zW T) T.rW hr (aa (pv 0) ak aj)) (zj (QK vN yh au (pv 0) (jm (by rfl) T.Ir)))))),?_⟩
 rcases h with ⟨i,rfl,k⟩ | ⟨Tx,ty,hm,hne,k⟩
 ·refine⟨_,rfl,.int i, "int",true,rfl,rfl,by decide,by decide,true,rfl,fU ⟨_,rfl,_,_,rfl,rfl,_,rfl,jG (fun h=>?_) (fun h=>?_)⟩⟩
  ·have h':0<=i:=of_decide_eq_true h
   rw [decide_eq_true h',Bool.true_and] at k
   exact⟨_,_,rfl,rfl,k⟩
  ·have h':¬0<=i:=fun z=>h (decide_eq_true z)
   rw [decide_eq_false h',Bool.false_and] at k
   exact k
 ·exact⟨_,rfl,x,Tx,false,rfl,ty,hm,decide_eq_false hne,false,rfl,cz k⟩
inductive rD (K:PySem.W.Frag) (t:ji) (vs:List V) (H:Hp) (Q:VK) (E:XK):Prop where
 | mk:∀(i:Nat) (p dx a1 a2 a3:Addr) (nm:V) (ns is os:List V),vs=[.ref p,nm,.ref a1,.ref a2,.ref a3]->H p=some (.ins (cls t i) dx [])->xO K H a1 ns->xO K H a2 is->xO K H a3 os->(∀H',lX p H H'->fj K t H' p i nm ns is os->Q .non H')->rD K t vs H Q E
noncomputable abbrev mJ:List Str:=["self", "name", "numbers", "ins", "outs"]
theorem bU (T:Txt w K mg t):FO P w K mg base 1 t.bO mJ (rD K t):=by
 have sc:fZ mJ mJ (aU (inClass (top 28) 0)):=Mu
 refine T.aZ.F.ok sc ln (fun _ _ _ _ H vs Q E hr h=>?_)
 obtain⟨i,p,dx,a1,a2,a3,nm,ns,is,os,rfl,hp,q1,q2,q3,k⟩:=h
 refine⟨_,(aq (ik (pv 0) (pv 1) rfl)
  (aq (ik (pv 0) (fB u0 (by rfl) T.xM ue (aa (pv 2) ak aj)) rfl)
  (aq (ik (pv 0) (fB u0 (by rfl) T.xM ue (aa (pv 3) ak aj)) rfl)
  (aA (ik (pv 0) (fB u0 (by rfl) T.xM ue (aa (pv 4) ak aj)) rfl))))),?_⟩
 refine⟨_,rfl,_,rfl,p,cls t i,dx,[],rfl,hp,iQ T i,Be T i,by show 0 <1000;decide,?_⟩
 have b1:lX p H (upd H p (.ins (cls t i) dx (aH "name" nm []))):=lX.write
 have e1:(upd H p (.ins (cls t i) dx (aH "name" nm []))) p=some (.ins (cls t i) dx (aH "name" nm [])):=az
 generalize upd H p (.ins (cls t i) dx (aH "name" nm []))=H1 at b1 e1 ⊢
 have r2:=b1.seqA hp q2
 have r3:=b1.seqA hp q3
 refine⟨_,rfl,a1,ns,rfl,b1.seqA hp q1,fun H2 u2 s2 t2=>⟨_,rfl,p,cls t i,dx,_,rfl,s2 _ _ e1,iQ T i,sr T i,Nat.lt_of_le_of_lt (gW (Nat.zero_le 0)) (by decide),?_⟩⟩
 have e2:=s2 _ _ e1
 have b2:lX p H2 (upd H2 p (.ins (cls t i) dx (aH "numbers" (.ref u2) (aH "name" nm [])))):=lX.write
 have e3:(upd H2 p (.ins (cls t i) dx (aH "numbers" (.ref u2) (aH "name" nm [])))) p=some (.ins (cls t i) dx (aH "numbers" (.ref u2) (aH "name" nm []))):=az
 generalize upd H2 p (.ins (cls t i) dx (aH "numbers" (.ref u2) (aH "name" nm [])))=H3 at b2 e3 ⊢
 have r2':=b2.seqA e2 (s2.seqA r2)
 have r3':=b2.seqA e2 (s2.seqA r3)
 have t2':=b2.seqT e2 t2
 refine⟨_,rfl,a2,is,rfl,r2',fun H4 u4 s4 t4=>⟨_,rfl,p,cls t i,dx,_,rfl,s4 _ _ e3,iQ T i,yV T i,Nat.lt_of_le_of_lt (gW (gW (Nat.zero_le 0))) (by decide),?_⟩⟩
 have e4:=s4 _ _ e3
 have b4:lX p H4 (upd H4 p (.ins (cls t i) dx (aH "ins" (.ref u4) (aH "numbers" (.ref u2) (aH "name" nm []))))):=lX.write
 have e5:(upd H4 p (.ins (cls t i) dx (aH "ins" (.ref u4) (aH "numbers" (.ref u2) (aH "name" nm []))))) p=some (.ins (cls t i) dx (aH "ins" (.ref u4) (aH "numbers" (.ref u2) (aH "name" nm [])))):=az
 generalize upd H4 p (.ins (cls t i) dx (aH "ins" (.ref u4) (aH "numbers" (.ref u2) (aH "name" nm []))))=H5 at b4 e5 ⊢
 have r3'':=b4.seqA e4 (s4.seqA r3')
 have t2'':=b4.seqT e4 (s4.seqT t2')
 have t4':=b4.seqT e4 t4
 refine⟨_,rfl,a3,os,rfl,r3'',fun H6 u6 s6 t6=>⟨_,rfl,p,cls t i,dx,_,rfl,s6 _ _ e5,iQ T i,Ia T i,Nat.lt_of_le_of_lt (gW (gW (gW (Nat.zero_le 0)))) (by decide),?_⟩⟩
 have e6:=s6 _ _ e5
 refine k _ (b1.trans ((lX.of_same s2).trans (b2.trans ((lX.of_same s4).trans (b4.trans ((lX.of_same s6).trans lX.write)))))) ⟨dx,u2,u4,u6,az,?_,?_,?_⟩
 ·exact lX.write.seqT e6 (s6.seqT t2'')
 ·exact lX.write.seqT e6 (s6.seqT t4')
 ·exact lX.write.seqT e6 t6
theorem Hs (T:Txt w K mg t):FO P w K mg base 1 t.um ["self"] (iZ 0):=by
 have sc:=T.qi.sc ["self"]
 refine T.qi.F.ok sc ln (fun _ _ _ _ H vs Q E hr h=>?_)
 obtain⟨x,rfl,k⟩:=h
 refine⟨_,(aA (aN bG)),?_⟩
 exact k
theorem Gk (T:Txt w K mg t):FO P w K mg base 1 t.tY ["self"] (iZ 1):=by
 have sc:=T.qm.sc ["self"]
 refine T.qm.F.ok sc ln (fun _ _ _ _ H vs Q E hr h=>?_)
 obtain⟨x,rfl,k⟩:=h
 refine⟨_,(aA (aN bG)),?_⟩
 exact k
theorem Gs (T:Txt w K mg t):FO P w K mg base 1 t.uq ["self"] (iZ 2):=by
 have sc:=T.pP.sc ["self"]
 refine T.pP.F.ok sc ln (fun _ _ _ _ H vs Q E hr h=>?_)
 obtain⟨x,rfl,k⟩:=h
 refine⟨_,(aA (aN bG)),?_⟩
 exact k
theorem Gg (T:Txt w K mg t):FO P w K mg base 1 t.ut ["self"] (iZ 3):=by
 have sc:=T.qd.sc ["self"]
 refine T.qd.F.ok sc ln (fun _ _ _ _ H vs Q E hr h=>?_)
 obtain⟨x,rfl,k⟩:=h
 refine⟨_,(aA (aN bG)),?_⟩
 exact k
theorem GR (T:Txt w K mg t):FO P w K mg base 1 t.uv ["self"] (iZ 4):=by
 have sc:=T.qb.sc ["self"]
 refine T.qb.F.ok sc ln (fun _ _ _ _ H vs Q E hr h=>?_)
 obtain⟨x,rfl,k⟩:=h
 refine⟨_,(aA (aN bG)),?_⟩
 exact k
theorem Gy (T:Txt w K mg t):FO P w K mg base 1 t.uf ["self"] (iZ 5):=by
 have sc:=T.qw.sc ["self"]
 refine T.qw.F.ok sc ln (fun _ _ _ _ H vs Q E hr h=>?_)
 obtain⟨x,rfl,k⟩:=h
 refine⟨_,(aA (aN bG)),?_⟩
 exact k
theorem Jf (T:Txt w K mg t):FO P w K mg base 1 t.wL ["self"] (iZ 6):=by
 have sc:=T.sU.sc ["self"]
 refine T.sU.F.ok sc ln (fun _ _ _ _ H vs Q E hr h=>?_)
 obtain⟨x,rfl,k⟩:=h
 refine⟨_,(aA (aN bG)),?_⟩
 exact k
theorem G5 (T:Txt w K mg t):FO P w K mg base 1 t.uJ ["self"] (iZ 7):=by
 have sc:=T.qe.sc ["self"]
 refine T.qe.F.ok sc ln (fun _ _ _ _ H vs Q E hr h=>?_)
 obtain⟨x,rfl,k⟩:=h
 refine⟨_,(aA (aN bG)),?_⟩
 exact k
theorem DY (T:Txt w K mg t):FO P w K mg base 1 t.rQ ["self"] (iZ 8):=by
 have sc:=T.m5.sc ["self"]
 refine T.m5.F.ok sc ln (fun _ _ _ _ H vs Q E hr h=>?_)
 obtain⟨x,rfl,k⟩:=h
 refine⟨_,(aA (aN bG)),?_⟩
 exact k
theorem Bk (T:Txt w K mg t):FO P w K mg base 1 t.qJ ["self"] (iZ 9):=by
 have sc:=T.lB.sc ["self"]
 refine T.lB.F.ok sc ln (fun _ _ _ _ H vs Q E hr h=>?_)
 obtain⟨x,rfl,k⟩:=h
 refine⟨_,(aA (aN bG)),?_⟩
 exact k
theorem DQ (T:Txt w K mg t):FO P w K mg base 1 t.sH ["self"] (iZ 10):=by
 have sc:=T.nZ.sc ["self"]
 refine T.nZ.F.ok sc ln (fun _ _ _ _ H vs Q E hr h=>?_)
 obtain⟨x,rfl,k⟩:=h
 refine⟨_,(aA (aN bG)),?_⟩
 exact k
inductive BL (vs:List V) (H:Hp) (Q:VK) (E:XK):Prop where
 | mk:∀z:Str,vs=[.str z]->Q (.bl (rowOf ROWS z).isSome) H->BL vs H Q E
theorem Br (T:Txt w K mg t):FO P w K mg base 1 t.Fl ["word"] (BL):=by
 have sc:=T.uZ.sc ["word"]
 refine T.uZ.F.ok sc ln (fun _ _ _ _ H vs Q E hr h=>?_)
 obtain⟨z,rfl,k⟩:=h
 refine⟨_,(aA (aN (Bx (Vx (pv 0) (Gr (v:=.ref _) (by rfl) T.Er rfl)) (by with_unfolding_all rfl)))),?_⟩
 exact⟨_,rfl,t.xT,ROWS,z,rfl,T.IW,rfl,k⟩
inductive Ae (K:PySem.W.Frag) (vs:List V) (H:Hp) (Q:VK) (E:XK):Prop where
 | mk:∀(i:Nat) (nm:V) (a1 a2 a3:Addr) (ns is os:List V),vs=[.str (cX i),nm,.ref a1,.ref a2,.ref a3]->xO K H a1 ns->xO K H a2 is->xO K H a3 os->ns.length=cN i->is.length=cI i->os.length=cO i->((∀v∈ns,Val v))->(∀H',aJ H H'->Q .non H')->Ae K vs H Q E
noncomputable abbrev CT:List Str:=["kind", "name", "numbers", "ins", "outs", "counts"]
theorem JM (T:Txt w K mg t):FO P w K mg base 3 t.Bq ["kind", "name", "numbers", "ins", "outs"] (Ae K):=by
 have sc:=T.wK.sc CT
 refine T.wK.F.ok sc ln (fun _ _ _ _ H vs Q E hr h=>?_)
 obtain⟨i,nm,a1,a2,a3,ns,is,os,rfl,h1,h2,h3,l1,l2,l3,hv,k⟩:=h
 refine⟨_,(aq (bM (gK (fW (dC (Br T) T.uZ hr (aa (pv 0) ak aj))))
   (aA dN)
   bu)
  (aq (sN sc 5 (SX (Gr (v:=.ref _) (by rfl) T.Er rfl) (pv 0) (fun _ _=>rfl)))
  (aq (bM (PW.pt (tE (bc Jm (bw bV (by rfl) T.fX dG (aa (pv 2) ak aj)) (aR cZ (pv 5) au (fun _ _=>rfl)) (bH _)) (mq (gK (fW (bw (yD rfl) (by rfl) T.K4 GQ (aa (eX [] CT (aU (top 41)) rfl (U3 (bN (pv 2)) (Dp (pv 2))) (fun _ _ _ _ _=>iC) (fun _ _ _ _ _=>(dC (tM T) T.oH hr (aa (pv 0) ak aj)))) ak gZ)))))))
   (aA dN)
   bu)
  (aA (bM (PW.pt (tE (bc Jm (bw bV (by rfl) T.fX dG (aa (pv 3) ak aj)) (aR cZ (pv 5) au (fun _ _=>rfl)) (bH _)) (mq (bc Jm (bw bV (by rfl) T.fX dG (aa (pv 4) ak aj)) (aR cZ (pv 5) au (fun _ _=>rfl)) (bH _)))))
   (aA dN)
   bu))))),?_⟩
 have hl:sizeLine=16777216:=sizeLine_eq
 have hN:=Wu i
 have hI:=Bt i
 have hO:=Lq i
 refine⟨_,rfl,cX i,rfl,true,by rw [row_of];rfl,cz ?_⟩
 refine⟨_,rfl,t.xT,ROWS,cX i,_,rfl,T.IW,rfl,row_of i,fun ad had=>?_⟩
 refine⟨_,rfl,.ref a1,ns.length,rfl,h1.len,_,rfl,ad,_,0,_,rfl,rfl,had,aM (j:=0) rfl,rfl,_,rfl,?_⟩
 rw [show(!decide (V.int ((ns.length:Nat):Int)=V.int ((cN i:Nat):Int)))=false by rw [l1];simp]
 refine cz ?_
 refine Rm (a:=a1) (xs:=ns) ?_ h1 (fun j ys=>ys=(List.replicate j true).map V.bl) (by omega) rfl (fun j ys e=>by rw [e];simp) (fun j x ys hx e=>?_) (fun ys e D hD=>?_)
 ·exact fun R r=>⟨_,rfl,r⟩
 ·subst e
  obtain⟨n,rfl,n0,n1⟩:=hv x (List.mem_of_getElem? hx)
  refine yes ⟨_,rfl,.int n,rfl,.inl ⟨n,rfl,rfl,?_⟩⟩
  rw [decide_eq_true n0,decide_eq_true n1,List.replicate_succ']
  simp
 ·subst e
  refine⟨D,_,rfl,bI.of az,_,rfl,?_⟩
  rw [show((List.replicate ns.length true).all id)=true by simp]
  refine cz ?_
  have s1:aJ H (upd H D (.lst ((List.replicate ns.length true).map V.bl))):=aB hD
  refine⟨_,rfl,.ref a2,is.length,rfl,(s1.seqA h2).len,_,rfl,ad,_,1,_,rfl,rfl,s1.seqT had,aM (j:=1) rfl,rfl,_,rfl,?_⟩
  rw [show(!decide (V.int ((is.length:Nat):Int)=V.int ((cI i:Nat):Int)))=false by rw [l2];simp]
  refine cz ?_
  refine⟨_,rfl,.ref a3,os.length,rfl,(s1.seqA h3).len,_,rfl,ad,_,2,_,rfl,rfl,s1.seqT had,aM (j:=2) rfl,rfl,_,rfl,?_⟩
  rw [show(!decide (V.int ((os.length:Nat):Int)=V.int ((cO i:Nat):Int)))=false by rw [l3];simp]
  exact cz (k _ s1)
inductive BJ (K:PySem.W.Frag) (t:ji) (vs:List V) (H:Hp) (Q:VK) (E:XK):Prop where
 | mk:∀(i:Nat) (nm:V) (a1 a2 a3:Addr) (ns is os:List V),vs=[.str (cX i),nm,.ref a1,.ref a2,.ref a3]->i<=10->xO K H a1 ns->xO K H a2 is->xO K H a3 os->(∀H' p,aJ H H'->H p=none->fj K t H' p i nm ns is os->Q (.ref p) H')->BJ K t vs H Q E
noncomputable abbrev yK:List Str:=["kind", "name", "numbers", "ins", "outs"]
theorem JZ (T:Txt w K mg t):FO P w K mg base 3 t.En yK (BJ K t):=by
 have sc:fZ yK yK (aU (top 42)):=Mu
 refine T.Fw.F.ok sc ln (fun _ _ _ _ H vs Q E hr h=>?_)
 obtain⟨i,nm,a1,a2,a3,ns,is,os,rfl,hi,h1,h2,h3,k⟩:=h
 refine⟨_,(aq (bM (bc fc (pv 0) bG (bH _))
   (aA (aN (iu (T.iM.M T.aZ) (bU T) (hr.mono (by decide)) (by rfl) T.iM.m T.aZ.b .nil ir (aa (pv 1) (aa (pv 2) (aa (pv 3) (aa (pv 4) ak aj) aj) aj) aj))))
   bu)
  (aq (bM (bc fc (pv 0) bG (bH _))
   (aA (aN (iu (T.iy.M T.aZ) (bU T) (hr.mono (by decide)) (by rfl) T.iy.m T.aZ.b .nil ir (aa (pv 1) (aa (pv 2) (aa (pv 3) (aa (pv 4) ak aj) aj) aj) aj))))
   bu)
  (aq (bM (bc fc (pv 0) bG (bH _))
   (aA (aN (iu (T.iH.M T.aZ) (bU T) (hr.mono (by decide)) (by rfl) T.iH.m T.aZ.b .nil ir (aa (pv 1) (aa (pv 2) (aa (pv 3) (aa (pv 4) ak aj) aj) aj) aj))))
   bu)
  (aq (bM (bc fc (pv 0) bG (bH _))
   (aA (aN (iu (T.iI.M T.aZ) (bU T) (hr.mono (by decide)) (by rfl) T.iI.m T.aZ.b .nil ir (aa (pv 1) (aa (pv 2) (aa (pv 3) (aa (pv 4) ak aj) aj) aj) aj))))
   bu)
  (aq (bM (bc fc (pv 0) bG (bH _))
   (aA (aN (iu (T.iJ.M T.aZ) (bU T) (hr.mono (by decide)) (by rfl) T.iJ.m T.aZ.b .nil ir (aa (pv 1) (aa (pv 2) (aa (pv 3) (aa (pv 4) ak aj) aj) aj) aj))))
   bu)
  (aq (bM (bc fc (pv 0) bG (bH _))
   (aA (aN (iu (T.iD.M T.aZ) (bU T) (hr.mono (by decide)) (by rfl) T.iD.m T.aZ.b .nil ir (aa (pv 1) (aa (pv 2) (aa (pv 3) (aa (pv 4) ak aj) aj) aj) aj))))
   bu)
  (aq (bM (bc fc (pv 0) bG (bH _))
   (aA (aN (iu (T.lO.M T.aZ) (bU T) (hr.mono (by decide)) (by rfl) T.lO.m T.aZ.b .nil ir (aa (pv 1) (aa (pv 2) (aa (pv 3) (aa (pv 4) ak aj) aj) aj) aj))))
   bu)
  (aq (bM (bc fc (pv 0) bG (bH _))
   (aA (aN (iu (T.iz.M T.aZ) (bU T) (hr.mono (by decide)) (by rfl) T.iz.m T.aZ.b .nil ir (aa (pv 1) (aa (pv 2) (aa (pv 3) (aa (pv 4) ak aj) aj) aj) aj))))
   bu)
  (aq (bM (bc fc (pv 0) bG (bH _))
   (aA (aN (iu (T.fH.M T.aZ) (bU T) (hr.mono (by decide)) (by rfl) T.fH.m T.aZ.b .nil ir (aa (pv 1) (aa (pv 2) (aa (pv 3) (aa (pv 4) ak aj) aj) aj) aj))))
   bu)
  (aq (bM (bc fc (pv 0) bG (bH _))
   (aA (aN (iu (T.dY.M T.aZ) (bU T) (hr.mono (by decide)) (by rfl) T.dY.m T.aZ.b .nil ir (aa (pv 1) (aa (pv 2) (aa (pv 3) (aa (pv 4) ak aj) aj) aj) aj))))
   bu)
  (aA (aN (iu (T.fP.M T.aZ) (bU T) (hr.mono (by decide)) (by rfl) T.fP.m T.aZ.b .nil ir (aa (pv 1) (aa (pv 2) (aa (pv 3) (aa (pv 4) ak aj) aj) aj) aj)))))))))))))),?_⟩
 match i,hi with
 | 0,_=>
  refine⟨_,rfl,rfl,_,rfl,wM rfl ?_⟩
  refine⟨_,rfl,_,rfl,_,rfl,_,rfl,fun x dx nx ndx nex=>?_⟩
  have s0:aJ H (upd (upd H dx (.own x)) x (.ins t.J9 dx [])):=fun b o e=>by rw [aK (aD e nx),aK (aD e ndx)];exact e
  exact⟨0,x,dx,a1,a2,a3,nm,ns,is,os,rfl,az,s0.seqA h1,s0.seqA h2,s0.seqA h3,fun H' b P=>⟨rfl,k H' x (fun c o e=>b c o (aD e nx) (s0 c o e)) nx P⟩⟩
 | 1,_=>
  refine⟨_,rfl,rfl,_,rfl,dJ (by decide +kernel) ?_⟩
  refine⟨_,rfl,rfl,_,rfl,wM rfl ?_⟩
  refine⟨_,rfl,_,rfl,_,rfl,_,rfl,fun x dx nx ndx nex=>?_⟩
  have s0:aJ H (upd (upd H dx (.own x)) x (.ins t.Kw dx [])):=fun b o e=>by rw [aK (aD e nx),aK (aD e ndx)];exact e
  exact⟨1,x,dx,a1,a2,a3,nm,ns,is,os,rfl,az,s0.seqA h1,s0.seqA h2,s0.seqA h3,fun H' b P=>⟨rfl,k H' x (fun c o e=>b c o (aD e nx) (s0 c o e)) nx P⟩⟩
 | 2,_=>
  refine⟨_,rfl,rfl,_,rfl,dJ (by decide +kernel) ?_⟩
  refine⟨_,rfl,rfl,_,rfl,dJ (by decide +kernel) ?_⟩
  refine⟨_,rfl,rfl,_,rfl,wM rfl ?_⟩
  refine⟨_,rfl,_,rfl,_,rfl,_,rfl,fun x dx nx ndx nex=>?_⟩
  have s0:aJ H (upd (upd H dx (.own x)) x (.ins t.KZ dx [])):=fun b o e=>by rw [aK (aD e nx),aK (aD e ndx)];exact e
  exact⟨2,x,dx,a1,a2,a3,nm,ns,is,os,rfl,az,s0.seqA h1,s0.seqA h2,s0.seqA h3,fun H' b P=>⟨rfl,k H' x (fun c o e=>b c o (aD e nx) (s0 c o e)) nx P⟩⟩
 | 3,_=>
  refine⟨_,rfl,rfl,_,rfl,dJ (by decide +kernel) ?_⟩
  refine⟨_,rfl,rfl,_,rfl,dJ (by decide +kernel) ?_⟩
  refine⟨_,rfl,rfl,_,rfl,dJ (by decide +kernel) ?_⟩
  refine⟨_,rfl,rfl,_,rfl,wM rfl ?_⟩
  refine⟨_,rfl,_,rfl,_,rfl,_,rfl,fun x dx nx ndx nex=>?_⟩
  have s0:aJ H (upd (upd H dx (.own x)) x (.ins t.Kc dx [])):=fun b o e=>by rw [aK (aD e nx),aK (aD e ndx)];exact e
  exact⟨3,x,dx,a1,a2,a3,nm,ns,is,os,rfl,az,s0.seqA h1,s0.seqA h2,s0.seqA h3,fun H' b P=>⟨rfl,k H' x (fun c o e=>b c o (aD e nx) (s0 c o e)) nx P⟩⟩
 | 4,_=>
  refine⟨_,rfl,rfl,_,rfl,dJ (by decide +kernel) ?_⟩
  refine⟨_,rfl,rfl,_,rfl,dJ (by decide +kernel) ?_⟩
  refine⟨_,rfl,rfl,_,rfl,dJ (by decide +kernel) ?_⟩
  refine⟨_,rfl,rfl,_,rfl,dJ (by decide +kernel) ?_⟩
  refine⟨_,rfl,rfl,_,rfl,wM rfl ?_⟩
  refine⟨_,rfl,_,rfl,_,rfl,_,rfl,fun x dx nx ndx nex=>?_⟩
  have s0:aJ H (upd (upd H dx (.own x)) x (.ins t.KN dx [])):=fun b o e=>by rw [aK (aD e nx),aK (aD e ndx)];exact e
  exact⟨4,x,dx,a1,a2,a3,nm,ns,is,os,rfl,az,s0.seqA h1,s0.seqA h2,s0.seqA h3,fun H' b P=>⟨rfl,k H' x (fun c o e=>b c o (aD e nx) (s0 c o e)) nx P⟩⟩
 | 5,_=>
  refine⟨_,rfl,rfl,_,rfl,dJ (by decide +kernel) ?_⟩
  refine⟨_,rfl,rfl,_,rfl,dJ (by decide +kernel) ?_⟩
  refine⟨_,rfl,rfl,_,rfl,dJ (by decide +kernel) ?_⟩
  refine⟨_,rfl,rfl,_,rfl,dJ (by decide +kernel) ?_⟩
  refine⟨_,rfl,rfl,_,rfl,dJ (by decide +kernel) ?_⟩
  refine⟨_,rfl,rfl,_,rfl,wM rfl ?_⟩
  refine⟨_,rfl,_,rfl,_,rfl,_,rfl,fun x dx nx ndx nex=>?_⟩
  have s0:aJ H (upd (upd H dx (.own x)) x (.ins t.K3 dx [])):=fun b o e=>by rw [aK (aD e nx),aK (aD e ndx)];exact e
  exact⟨5,x,dx,a1,a2,a3,nm,ns,is,os,rfl,az,s0.seqA h1,s0.seqA h2,s0.seqA h3,fun H' b P=>⟨rfl,k H' x (fun c o e=>b c o (aD e nx) (s0 c o e)) nx P⟩⟩
 | 6,_=>
  refine⟨_,rfl,rfl,_,rfl,dJ (by decide +kernel) ?_⟩
  refine⟨_,rfl,rfl,_,rfl,dJ (by decide +kernel) ?_⟩
  refine⟨_,rfl,rfl,_,rfl,dJ (by decide +kernel) ?_⟩
  refine⟨_,rfl,rfl,_,rfl,dJ (by decide +kernel) ?_⟩
  refine⟨_,rfl,rfl,_,rfl,dJ (by decide +kernel) ?_⟩
  refine⟨_,rfl,rfl,_,rfl,dJ (by decide +kernel) ?_⟩
  refine⟨_,rfl,rfl,_,rfl,wM rfl ?_⟩
  refine⟨_,rfl,_,rfl,_,rfl,_,rfl,fun x dx nx ndx nex=>?_⟩
  have s0:aJ H (upd (upd H dx (.own x)) x (.ins t.Q0 dx [])):=fun b o e=>by rw [aK (aD e nx),aK (aD e ndx)];exact e
  exact⟨6,x,dx,a1,a2,a3,nm,ns,is,os,rfl,az,s0.seqA h1,s0.seqA h2,s0.seqA h3,fun H' b P=>⟨rfl,k H' x (fun c o e=>b c o (aD e nx) (s0 c o e)) nx P⟩⟩
 | 7,_=>
  refine⟨_,rfl,rfl,_,rfl,dJ (by decide +kernel) ?_⟩
  refine⟨_,rfl,rfl,_,rfl,dJ (by decide +kernel) ?_⟩
  refine⟨_,rfl,rfl,_,rfl,dJ (by decide +kernel) ?_⟩
  refine⟨_,rfl,rfl,_,rfl,dJ (by decide +kernel) ?_⟩
  refine⟨_,rfl,rfl,_,rfl,dJ (by decide +kernel) ?_⟩
  refine⟨_,rfl,rfl,_,rfl,dJ (by decide +kernel) ?_⟩
  refine⟨_,rfl,rfl,_,rfl,dJ (by decide +kernel) ?_⟩
  refine⟨_,rfl,rfl,_,rfl,wM rfl ?_⟩
  refine⟨_,rfl,_,rfl,_,rfl,_,rfl,fun x dx nx ndx nex=>?_⟩
  have s0:aJ H (upd (upd H dx (.own x)) x (.ins t.Ks dx [])):=fun b o e=>by rw [aK (aD e nx),aK (aD e ndx)];exact e
  exact⟨7,x,dx,a1,a2,a3,nm,ns,is,os,rfl,az,s0.seqA h1,s0.seqA h2,s0.seqA h3,fun H' b P=>⟨rfl,k H' x (fun c o e=>b c o (aD e nx) (s0 c o e)) nx P⟩⟩
 | 8,_=>
  refine⟨_,rfl,rfl,_,rfl,dJ (by decide +kernel) ?_⟩
  refine⟨_,rfl,rfl,_,rfl,dJ (by decide +kernel) ?_⟩
  refine⟨_,rfl,rfl,_,rfl,dJ (by decide +kernel) ?_⟩
  refine⟨_,rfl,rfl,_,rfl,dJ (by decide +kernel) ?_⟩
  refine⟨_,rfl,rfl,_,rfl,dJ (by decide +kernel) ?_⟩
  refine⟨_,rfl,rfl,_,rfl,dJ (by decide +kernel) ?_⟩
  refine⟨_,rfl,rfl,_,rfl,dJ (by decide +kernel) ?_⟩
  refine⟨_,rfl,rfl,_,rfl,dJ (by decide +kernel) ?_⟩
  refine⟨_,rfl,rfl,_,rfl,wM rfl ?_⟩
  refine⟨_,rfl,_,rfl,_,rfl,_,rfl,fun x dx nx ndx nex=>?_⟩
  have s0:aJ H (upd (upd H dx (.own x)) x (.ins t.GF dx [])):=fun b o e=>by rw [aK (aD e nx),aK (aD e ndx)];exact e
  exact⟨8,x,dx,a1,a2,a3,nm,ns,is,os,rfl,az,s0.seqA h1,s0.seqA h2,s0.seqA h3,fun H' b P=>⟨rfl,k H' x (fun c o e=>b c o (aD e nx) (s0 c o e)) nx P⟩⟩
 | 9,_=>
  refine⟨_,rfl,rfl,_,rfl,dJ (by decide +kernel) ?_⟩
  refine⟨_,rfl,rfl,_,rfl,dJ (by decide +kernel) ?_⟩
  refine⟨_,rfl,rfl,_,rfl,dJ (by decide +kernel) ?_⟩
  refine⟨_,rfl,rfl,_,rfl,dJ (by decide +kernel) ?_⟩
  refine⟨_,rfl,rfl,_,rfl,dJ (by decide +kernel) ?_⟩
  refine⟨_,rfl,rfl,_,rfl,dJ (by decide +kernel) ?_⟩
  refine⟨_,rfl,rfl,_,rfl,dJ (by decide +kernel) ?_⟩
  refine⟨_,rfl,rfl,_,rfl,dJ (by decide +kernel) ?_⟩
  refine⟨_,rfl,rfl,_,rfl,dJ (by decide +kernel) ?_⟩
  refine⟨_,rfl,rfl,_,rfl,wM rfl ?_⟩
  refine⟨_,rfl,_,rfl,_,rfl,_,rfl,fun x dx nx ndx nex=>?_⟩
  have s0:aJ H (upd (upd H dx (.own x)) x (.ins t.Cu dx [])):=fun b o e=>by rw [aK (aD e nx),aK (aD e ndx)];exact e
  exact⟨9,x,dx,a1,a2,a3,nm,ns,is,os,rfl,az,s0.seqA h1,s0.seqA h2,s0.seqA h3,fun H' b P=>⟨rfl,k H' x (fun c o e=>b c o (aD e nx) (s0 c o e)) nx P⟩⟩
 | 10,_=>
  refine⟨_,rfl,rfl,_,rfl,dJ (by decide +kernel) ?_⟩
  refine⟨_,rfl,rfl,_,rfl,dJ (by decide +kernel) ?_⟩
  refine⟨_,rfl,rfl,_,rfl,dJ (by decide +kernel) ?_⟩
  refine⟨_,rfl,rfl,_,rfl,dJ (by decide +kernel) ?_⟩
  refine⟨_,rfl,rfl,_,rfl,dJ (by decide +kernel) ?_⟩
  refine⟨_,rfl,rfl,_,rfl,dJ (by decide +kernel) ?_⟩
  refine⟨_,rfl,rfl,_,rfl,dJ (by decide +kernel) ?_⟩
  refine⟨_,rfl,rfl,_,rfl,dJ (by decide +kernel) ?_⟩
  refine⟨_,rfl,rfl,_,rfl,dJ (by decide +kernel) ?_⟩
  refine⟨_,rfl,rfl,_,rfl,dJ (by decide +kernel) ?_⟩
  refine⟨_,rfl,_,rfl,_,rfl,_,rfl,fun x dx nx ndx nex=>?_⟩
  have s0:aJ H (upd (upd H dx (.own x)) x (.ins t.G6 dx [])):=fun b o e=>by rw [aK (aD e nx),aK (aD e ndx)];exact e
  exact⟨10,x,dx,a1,a2,a3,nm,ns,is,os,rfl,az,s0.seqA h1,s0.seqA h2,s0.seqA h3,fun H' b P=>⟨rfl,k H' x (fun c o e=>b c o (aD e nx) (s0 c o e)) nx P⟩⟩
 | (n+11),h=>exact absurd h (by omega)
inductive xN (K:PySem.W.Frag) (t:ji) (vs:List V) (H:Hp) (Q:VK) (E:XK):Prop where
 | mk:∀(i:Nat) (nm:V) (a1 a2 a3:Addr) (ns is os:List V),vs=[.str (cX i),nm,.ref a1,.ref a2,.ref a3]->i<=10->xO K H a1 ns->xO K H a2 is->xO K H a3 os->ns.length=cN i->is.length=cI i->os.length=cO i->((∀v∈ns,Val v))->(∀H' p,aJ H H'->H p=none->fj K t H' p i nm ns is os->Q (.ref p) H')->xN K t vs H Q E
noncomputable abbrev tW:List Str:=["kind", "name", "numbers", "ins", "outs"]
theorem G7 (T:Txt w K mg t):FO P w K mg base 4 t.zU tW (xN K t):=by
 have sc:fZ tW tW (aU (top 43)):=Mu
 refine T.zZ.F.ok sc ln (fun _ _ _ _ H vs Q E hr h=>?_)
 obtain⟨i,nm,a1,a2,a3,ns,is,os,rfl,hi,h1,h2,h3,l1,l2,l3,hv,k⟩:=h
 refine⟨_,(aq (bK (dC (JM T) T.wK hr (aa (pv 0) (aa (pv 1) (aa (pv 2) (aa (pv 3) (aa (pv 4) ak aj) aj) aj) aj) aj)))
  (aA (aN (dC (JZ T) T.Fw hr (aa (pv 0) (aa (pv 1) (aa (pv 2) (aa (pv 3) (aa (pv 4) ak aj) aj) aj) aj) aj))))),?_⟩
 refine⟨_,rfl,_,rfl,_,rfl,_,rfl,_,rfl,i,nm,a1,a2,a3,ns,is,os,rfl,h1,h2,h3,l1,l2,l3,hv,fun H1 s1=>?_⟩
 exact⟨_,rfl,_,rfl,_,rfl,_,rfl,_,rfl,i,nm,a1,a2,a3,ns,is,os,rfl,hi,s1.seqA h1,s1.seqA h2,s1.seqA h3,fun H2 p s2 np P=>k H2 p (s1.trans s2) (s1.free np) P⟩
inductive Mq (vs:List V) (H:Hp) (Q:VK) (E:XK):Prop where
 | mk:∀a:Int,vs=[.int a]->Q (.int (a % 1000000000)) H->Mq vs H Q E
theorem HY (T:Txt w K mg t):FO P w K mg base 1 t.O5 ["number"] (Mq):=by
 have sc:=T.Bw.sc ["number"]
 refine T.Bw.F.ok sc ln (fun _ _ _ _ H vs Q E hr h=>?_)
 obtain⟨a,rfl,k⟩:=h
 refine⟨_,(aA (aN (bx bW (pv 0) (jm (by rfl) T.Ir)))),?_⟩
 exact⟨_,rfl,_,_,rfl,rfl,by show(0:Int) <1000000000;decide,k⟩
inductive uN (K:PySem.W.Frag) (t:ji) (vs:List V) (H:Hp) (Q:VK) (E:XK):Prop where
 | mk:∀i,i≠9->ou K t i vs H Q E->uN K t vs H Q E
theorem cT (T:Txt w K mg t):FO P w K mg base 1 t.cD ["self", "heads"] (uN K t):=by
 have sc:=T.bB.sc ["self", "heads"]
 refine T.bB.F.ok sc ln (fun _ _ _ _ H vs Q E hr h=>?_)
 obtain⟨i,hi,p,a,nm,ns,is,os,hs,rfl,hP,hI,hS,hH,k⟩:=h
 refine⟨_,(aA (aN (fB (Ed rfl) (by rfl) T.uI qu (aa (fB Jd (by rfl) T.kY QC (aa (bw bV (by rfl) T.fX dG (aa (bh (pv 0) rfl) ak bF)) ak aY)) ak aY)))),?_⟩
 obtain⟨dx,tn,ti,to,hp,h2,h3,h4⟩:=id hP.ex
 have h3':=Bt i
 refine⟨_,rfl,p,cls t i,dx,_,.ref ti,rfl,hp,iQ T i,yV T i,ux _ _ _ _,.ref ti,is.length,rfl,.inr ⟨is,h3,rfl⟩,_,rfl,fun r hr=>⟨r,is.length,rfl,az,by omega,fun l hl=>?_⟩⟩
 have e:(places i hs).map nV=RK is.length:=by
  unfold places RK
  rw [if_neg hi,hH.1,hI]
  rfl
 refine k _ l ((aB hr).trans (aB hl)) ((aB hr).free hl) ?_
 rw [e]
 exact az
theorem zz (T:Txt w K mg t):FO P w K mg base 1 t.mO ["self", "heads"] (ou K t 9):=by
 have sc:=T.jw.sc ["self", "heads"]
 refine T.jw.F.ok sc ln (fun _ _ _ _ H vs Q E hr h=>?_)
 obtain⟨p,a,nm,ns,is,os,hs,rfl,hP,hI,hS,hH,k⟩:=h
 refine⟨_,(aq (bM (gH (zy (aR aQ (pv 1) au (fun _ _=>rfl))))
   (aA (aN (bz (aa au ak ao))))
   bu)
  (aA (aN (bz (aa au (aa (bx dm au (bx bW (aR aQ (pv 1) au (fun _ _=>rfl)) au)) ak bL) ao))))),?_⟩
 have hl:sizeLine=16777216:=sizeLine_eq
 have hlen:hs.length=3:=hH.1
 match hs,hlen,hH with
 | h0:: r,hlen,hH=>
  have ea:BP (h0:: r) 0=some h0:=aM (xs:=h0:: r) (j:=0) rfl
  rcases hH.2 h0 List.mem_cons_self with e | ⟨n,e⟩
  ·subst e
   refine⟨_,rfl,a,_,0,_,rfl,rfl,hS,ea,_,rfl,wM rfl ?_⟩
   exact⟨iw,fun L hL=>k _ L (aB hL) hL az⟩
  ·subst e
   refine⟨_,rfl,a,_,0,_,rfl,rfl,hS,ea,_,rfl,dJ (by intro z;cases z) ?_⟩
   refine⟨_,rfl,a,_,0,_,rfl,rfl,hS,ea,_,_,rfl,rfl,by show(0:Int) <2;decide,_,_,rfl,rfl,iw,fun L hL=>k _ L (aB hL) hL ?_⟩
   have h0:=Int.emod_nonneg n (show(2:Int)≠0 by decide)
   have e1:(1:Int)+n % 2=((1+(n % 2).toNat:Nat):Int):=by omega
   rw [az]
   show some (HO.lst [.int 0,.int (1+n % 2)])=some (HO.lst [.int ((0:Nat):Int),.int ((1+(n % 2).toNat:Nat):Int)])
   rw [e1]
   rfl
theorem Eh (T:Txt w K mg t) (i:Nat):MethAt P w K mg base Cq 1 (cls t i) "taking" (ou K t i):=match i with
 | 0=>⟨_,_,_,T.iM.c,(T.bB.me T.iM.me.2.2.1),T.bB.b,(cT T).imp fun _ _ _ _ h=>⟨_,by omega,h⟩⟩
 | 1=>⟨_,_,_,T.iy.c,(T.bB.me T.iy.me.2.2.1),T.bB.b,(cT T).imp fun _ _ _ _ h=>⟨_,by omega,h⟩⟩
 | 2=>⟨_,_,_,T.iH.c,(T.bB.me T.iH.me.2.2.1),T.bB.b,(cT T).imp fun _ _ _ _ h=>⟨_,by omega,h⟩⟩
 | 3=>⟨_,_,_,T.iI.c,(T.bB.me T.iI.me.2.2.1),T.bB.b,(cT T).imp fun _ _ _ _ h=>⟨_,by omega,h⟩⟩
 | 4=>⟨_,_,_,T.iJ.c,(T.bB.me T.iJ.me.2.2.1),T.bB.b,(cT T).imp fun _ _ _ _ h=>⟨_,by omega,h⟩⟩
 | 5=>⟨_,_,_,T.iD.c,(T.bB.me T.iD.me.2.2.1),T.bB.b,(cT T).imp fun _ _ _ _ h=>⟨_,by omega,h⟩⟩
 | 6=>⟨_,_,_,T.lO.c,(T.bB.me T.lO.me.2.2.1),T.bB.b,(cT T).imp fun _ _ _ _ h=>⟨_,by omega,h⟩⟩
 | 7=>⟨_,_,_,T.iz.c,(T.bB.me T.iz.me.2.2.1),T.bB.b,(cT T).imp fun _ _ _ _ h=>⟨_,by omega,h⟩⟩
 | 8=>⟨_,_,_,T.fH.c,(T.bB.me T.fH.me.2.2.1),T.bB.b,(cT T).imp fun _ _ _ _ h=>⟨_,by omega,h⟩⟩
 | 9=>⟨_,_,_,T.dY.c,(T.jw.me T.dY.me.2.2.1),T.jw.b,zz T⟩
 | n+10=>⟨_,_,_,T.fP.c,(T.bB.me T.fP.me.2.2.1),T.bB.b,(cT T).imp fun _ _ _ _ h=>⟨_,by omega,h⟩⟩
inductive vA (K:PySem.W.Frag) (t:ji) (vs:List V) (H:Hp) (Q:VK) (E:XK):Prop where
 | mk:∀i,yz K t i vs H Q E->vA K t vs H Q E
theorem cU (T:Txt w K mg t):FO P w K mg base 2 t.cG ["self", "heads"] (vA K t):=by
 have sc:=T.bC.sc ["self", "heads", "place"]
 refine T.bC.F.ok sc ln (fun _ _ _ _ H vs Q E hr h=>?_)
 obtain⟨i,p,a,nm,ns,is,os,hs,rfl,hP,hI,hS,hH,k⟩:=h
 refine⟨_,(aq (du PassesOwn.never rfl (bN (yE (CX:=Cq) (k:=1) (E:=E0) (pv 0) (hr.mono (by decide)) ir (aa (pv 1) ak aj))) (gN sc 2)
   (aA (bM (gH (zy (aR aQ (pv 1) (pv 2) (fun _ _=>rfl))))
    (aA (aN (pv 2)))
    bu)))
  (aA (aN uO))),?_⟩
 obtain⟨dx,tn,ti,to,hp,h2,h3,h4⟩:=id hP.ex
 refine⟨_,rfl,p,cls t i,dx,_,ou K t i,rfl,hp,vf _ _ _ _ (by decide +kernel) (by decide +kernel) (by decide +kernel) (by decide +kernel),Eh T i,_,rfl,p,a,nm,ns,is,os,hs,rfl,hP,hI,hS,hH,fun H1 L s1 nL eL=>⟨L,rfl,⟨_,bI.of eL⟩,?_⟩⟩
 refine cJ (K:=K) (a:=L) (xs:=(places i hs).map nV) (fun j σ H2=>H2=H1/\∃v,σ=[some (.ref p),some (.ref a),v]/\∀q∈(places i hs).take j,uT hs q=false)
  ⟨rfl,none,rfl,by simp⟩ (fun j σ H2 _ ⟨e,_⟩=>by rw [e];exact bI.of eL) ?_ ?_
 ·rintro j x σ H2 hx ⟨rfl,v,rfl,hno⟩
  rw [List.getElem?_map] at hx
  obtain⟨q,hq,rfl⟩:=Option.map_eq_some_iff.mp hx
  have hlt:=iU hH q (List.mem_of_getElem? hq)
  obtain⟨hv,ev⟩:∃hv,hs[q]?=some hv:=⟨hs[q],List.getElem?_eq_getElem hlt⟩
  refine⟨_,rfl,_,rfl,a,hs,_,hv,rfl,rfl,s1.seq hS,aM ev,_,rfl,jG (fun hn=>?_) (fun hn=>?_)⟩
  ·have hn':hv=.non:=of_decide_eq_true hn
   refine⟨_,rfl,?_⟩
   have:=k H2 s1
   unfold MJ at this
   rw [M3 hq hno (by unfold uT;rw [ev,hn'];simp)] at this
   exact this
  ·have hn':¬hv=.non:=fun z=>hn (decide_eq_true z)
   refine⟨rfl,_,rfl,fun y hy=>?_⟩
   rw [List.take_add_one,hq] at hy
   rcases List.mem_append.mp hy with hy | hy
   ·exact hno y hy
   ·have e:y=q:=by simpa using hy
    subst e
    unfold uT
    rw [ev]
    simpa using hn'
 ·rintro σ H2 ⟨rfl,v,rfl,hno⟩
  have:=k H2 s1
  unfold MJ at this
  rw [lM,List.take_of_length_le (Nat.le_refl _)] at hno
  rw [Sv hno] at this
  exact this
inductive vI (K:PySem.W.Frag) (t:ji) (vs:List V) (H:Hp) (Q:VK) (E:XK):Prop where
 | mk:∀i,i≠5->uK K t i vs H Q E->vI K t vs H Q E
theorem dw (T:Txt w K mg t):FO P w K mg base 1 t.cW ["self"] (vI K t):=by
 have sc:=T.bJ.sc ["self"]
 refine T.bJ.F.ok sc ln (fun _ _ _ _ H vs Q E hr h=>?_)
 obtain⟨i,hi,p,nm,ns,is,os,rfl,hP,hn,k⟩:=h
 refine⟨_,(aA (aN au)),?_⟩
 unfold Hr at k
 rw [if_neg hi] at k
 exact k
theorem DR (T:Txt w K mg t):FO P w K mg base 1 t.sE ["self"] (uK K t 5):=by
 have sc:=T.nQ.sc ["self"]
 refine T.nQ.F.ok sc ln (fun _ _ _ _ H vs Q E hr h=>?_)
 obtain⟨p,nm,ns,is,os,rfl,hP,hn,k⟩:=h
 refine⟨_,(aA (aN (aR J3 (bh (pv 0) rfl) au (fun _ _=>rfl)))),?_⟩
 obtain⟨dx,tn,ti,to,hp,h2,h3,h4⟩:=id hP.ex
 match ns,hn with
 | v:: r,hn=>
  exact⟨_,rfl,p,cls t 5,dx,_,.ref tn,rfl,hp,iQ T 5,sr T 5,rZ _ _ _ _,.inr (.inl ⟨tn,_,0,v,rfl,rfl,h2,aM (xs:=v:: r) (j:=0) rfl,k⟩)⟩
theorem Bj (T:Txt w K mg t):FO P w K mg base 1 t.qM ["self", "values", "kept"] (dZ K t 2):=by
 have sc:=T.lD.sc ["self", "values", "kept"]
 refine T.lD.F.ok sc ln (fun _ _ _ _ H vs Q E hr h=>?_)
 obtain⟨p,a,nm,ns,is,os,ws,kp,rfl,hP,ln,hS,lw,hB,k⟩:=h
 refine⟨_,(aA (aN (cg (aa (bz (aa (cg (aa au (aa (aR aQ (pv 1) au (fun _ _=>rfl)) ak aF) ao)) ak cP)) (aa (pv 2) ak aj) aV)))),?_⟩
 obtain⟨dx,tn,ti,to,hp,h2,h3,h4⟩:=id hP.ex
 match ws,lw with
 | [v],_=>
  have fin:∀H' L rs,aJ H H'->H L=none->H' L=some (.lst (rs.map V.ref))->eE H' rs (Ie (cB 2 ns [v] kp))->∀U,H' U=none->Q (.ref U) (upd H' U (.tup [.ref L,.int (gA 2 [v] kp)])):=Cy k
  exact⟨_,rfl,a,_,0,_,rfl,rfl,hS,rfl,dR,fun t0 n0=>⟨one_le,fun L nL=>⟨_,rfl,dR,fun U nU=>ye (Q:=fun x H'=>∀U,H' U=none->Q (.ref U) (upd H' U (.tup [x,.int (gA 2 [v] kp)]))) rfl rfl fin n0 nL U nU⟩⟩⟩
theorem Dz (T:Txt w K mg t):FO P w K mg base 1 t.qz ["self", "values", "kept"] (dZ K t 3):=by
 have sc:=T.kO.sc ["self", "values", "kept"]
 refine T.kO.F.ok sc ln (fun _ _ _ _ H vs Q E hr h=>?_)
 obtain⟨p,a,nm,ns,is,os,ws,kp,rfl,hP,ln,hS,lw,hB,k⟩:=h
 refine⟨_,(aA (aN (cg (aa (bz (aa (cg (aa au (aa (aR aQ (pv 1) au (fun _ _=>rfl)) ak aF) ao)) (aa (cg (aa au (aa (aR aQ (pv 1) au (fun _ _=>rfl)) ak aF) ao)) ak cP) cP)) (aa (pv 2) ak aj) aV)))),?_⟩
 obtain⟨dx,tn,ti,to,hp,h2,h3,h4⟩:=id hP.ex
 match ws,lw with
 | [v],_=>
  have fin:∀H' L rs,aJ H H'->H L=none->H' L=some (.lst (rs.map V.ref))->eE H' rs (Ie (cB 3 ns [v] kp))->∀U,H' U=none->Q (.ref U) (upd H' U (.tup [.ref L,.int (gA 3 [v] kp)])):=Cy k
  exact⟨_,rfl,a,_,0,_,rfl,rfl,hS,rfl,dR,fun t0 n0=>⟨_,rfl,a,_,0,_,rfl,rfl,((aB n0).seq hS),rfl,dR,fun t1 n1=>⟨dR,fun L nL=>⟨_,rfl,dR,fun U nU=>Uo (Q:=fun x H'=>∀U,H' U=none->Q (.ref U) (upd H' U (.tup [x,.int (gA 3 [v] kp)]))) rfl rfl rfl rfl fin n0 n1 nL U nU⟩⟩⟩⟩
theorem Bp (T:Txt w K mg t):FO P w K mg base 2 t.qU ["self", "values", "kept"] (dZ K t 4):=by
 have sc:=T.kW.sc ["self", "values", "kept"]
 refine T.kW.F.ok sc ln (fun _ _ _ _ H vs Q E hr h=>?_)
 obtain⟨p,a,nm,ns,is,os,ws,kp,rfl,hP,ln,hS,lw,hB,k⟩:=h
 refine⟨_,(aA (aN (cg (aa (bz (aa (cg (aa au (aa (dC (HY T) T.Bw hr (aa (bx dm (bx mY (aR J3 (bh (pv 0) rfl) au (fun _ _=>rfl)) (aR aQ (pv 1) au (fun _ _=>rfl))) (aR J3 (bh (pv 0) rfl) au (fun _ _=>rfl))) ak bL)) ak aY) ao)) ak cP)) (aa (pv 2) ak aj) aV)))),?_⟩
 obtain⟨dx,tn,ti,to,hp,h2,h3,h4⟩:=id hP.ex
 match ws,lw,ns,ln with
 | [v],_,[m,m1],_=>
  have fin:∀H' L rs,aJ H H'->H L=none->H' L=some (.lst (rs.map V.ref))->eE H' rs (Ie (cB 4 [m,m1] [v] kp))->∀U,H' U=none->Q (.ref U) (upd H' U (.tup [.ref L,.int (gA 4 [v] kp)])):=Cy k
  exact⟨_,rfl,p,cls t 4,dx,_,.ref tn,rfl,hp,iQ T 4,sr T 4,rZ _ _ _ _,.inr (.inl ⟨tn,_,0,_,rfl,rfl,h2,rfl,_,rfl,a,_,0,_,rfl,rfl,hS,rfl,_,_,rfl,rfl,Yd hB (by simp),_,rfl,p,cls t 4,dx,_,.ref tn,rfl,hp,iQ T 4,sr T 4,rZ _ _ _ _,.inr (.inl ⟨tn,_,1,_,rfl,rfl,h2,rfl,_,_,rfl,rfl,_,rfl,dR,fun t0 n0=>⟨one_le,fun L nL=>⟨_,rfl,dR,fun U nU=>ye (Q:=fun x H'=>∀U,H' U=none->Q (.ref U) (upd H' U (.tup [x,.int (gA 4 [v] kp)]))) rfl rfl fin n0 nL U nU⟩⟩⟩)⟩)⟩
theorem Dk (T:Txt w K mg t):FO P w K mg base 2 t.qO ["self", "values", "kept"] (dZ K t 5):=by
 have sc:=T.kJ.sc ["self", "values", "kept", "together"]
 refine T.kJ.F.ok sc ln (fun _ _ _ _ H vs Q E hr h=>?_)
 obtain⟨p,a,nm,ns,is,os,ws,kp,rfl,hP,ln,hS,lw,hB,k⟩:=h
 refine⟨_,(aq (sN sc 3 (dC (HY T) T.Bw hr (aa (bx dm (pv 2) (aR aQ (pv 1) au (fun _ _=>rfl))) ak bL)))
  (aA (aN (cg (aa (bz (aa (cg (aa au (aa (pv 3) ak aj) ao)) ak cP)) (aa (pv 3) ak aj) aV))))),?_⟩
 obtain⟨dx,tn,ti,to,hp,h2,h3,h4⟩:=id hP.ex
 match ws,lw with
 | [v],_=>
  have fin:∀H' L rs,aJ H H'->H L=none->H' L=some (.lst (rs.map V.ref))->eE H' rs (Ie (cB 5 ns [v] kp))->∀U,H' U=none->Q (.ref U) (upd H' U (.tup [.ref L,.int (gA 5 [v] kp)])):=Cy k
  exact⟨_,rfl,_,rfl,a,_,0,_,rfl,rfl,hS,rfl,_,_,rfl,rfl,_,rfl,_,rfl,dR,fun t0 n0=>⟨one_le,fun L nL=>⟨_,rfl,dR,fun U nU=>ye (Q:=fun x H'=>∀U,H' U=none->Q (.ref U) (upd H' U (.tup [x,.int (gA 5 [v] kp)]))) rfl rfl fin n0 nL U nU⟩⟩⟩
theorem DX (T:Txt w K mg t):FO P w K mg base 2 t.rU ["self", "values", "kept"] (dZ K t 6):=by
 have sc:=T.nH.sc ["self", "values", "kept"]
 refine T.nH.F.ok sc ln (fun _ _ _ _ H vs Q E hr h=>?_)
 obtain⟨p,a,nm,ns,is,os,ws,kp,rfl,hP,ln,hS,lw,hB,k⟩:=h
 refine⟨_,(aA (aN (cg (aa (bz (aa (cg (aa au (aa (dC (HY T) T.Bw hr (aa (bx dm (aR aQ (pv 1) au (fun _ _=>rfl)) (aR aQ (pv 1) au (fun _ _=>rfl))) ak bL)) ak aY) ao)) ak cP)) (aa (pv 2) ak aj) aV)))),?_⟩
 obtain⟨dx,tn,ti,to,hp,h2,h3,h4⟩:=id hP.ex
 match ws,lw with
 | [v,v1],_=>
  have fin:∀H' L rs,aJ H H'->H L=none->H' L=some (.lst (rs.map V.ref))->eE H' rs (Ie (cB 6 ns [v,v1] kp))->∀U,H' U=none->Q (.ref U) (upd H' U (.tup [.ref L,.int (gA 6 [v,v1] kp)])):=Cy k
  exact⟨_,rfl,a,_,0,_,rfl,rfl,hS,rfl,_,rfl,a,_,1,_,rfl,rfl,hS,rfl,_,_,rfl,rfl,_,rfl,dR,fun t0 n0=>⟨one_le,fun L nL=>⟨_,rfl,dR,fun U nU=>ye (Q:=fun x H'=>∀U,H' U=none->Q (.ref U) (upd H' U (.tup [x,.int (gA 6 [v,v1] kp)]))) rfl rfl fin n0 nL U nU⟩⟩⟩
theorem Cm (T:Txt w K mg t):FO P w K mg base 1 t.qN ["self", "values", "kept"] (dZ K t 7):=by
 have sc:=T.lg.sc ["self", "values", "kept"]
 refine T.lg.F.ok sc ln (fun _ _ _ _ H vs Q E hr h=>?_)
 obtain⟨p,a,nm,ns,is,os,ws,kp,rfl,hP,ln,hS,lw,hB,k⟩:=h
 refine⟨_,(aA (aN (cg (aa (bz (aa (cg (aa au (aa (rH (bc yh (aR aQ (pv 1) au (fun _ _=>rfl)) (aR aQ (pv 1) au (fun _ _=>rfl)) (bH _)) au au) ak KQ) ao)) ak cP)) (aa (pv 2) ak aj) aV)))),?_⟩
 obtain⟨dx,tn,ti,to,hp,h2,h3,h4⟩:=id hP.ex
 match ws,lw with
 | [v,v1],_=>
  have fin:∀H' L rs,aJ H H'->H L=none->H' L=some (.lst (rs.map V.ref))->eE H' rs (Ie (cB 7 ns [v,v1] kp))->∀U,H' U=none->Q (.ref U) (upd H' U (.tup [.ref L,.int (gA 7 [v,v1] kp)])):=Cy k
  refine⟨_,rfl,a,_,0,_,rfl,rfl,hS,rfl,_,rfl,a,_,1,_,rfl,rfl,hS,rfl,_,_,rfl,rfl,_,rfl,jG (fun h=>?_) (fun h=>?_)⟩
  ·have h':v <v1:=of_decide_eq_true h
   exact⟨dR,fun t0 n0=>⟨one_le,fun L nL=>⟨_,rfl,dR,fun U nU=>ye (Q:=fun x H'=>∀U,H' U=none->Q (.ref U) (upd H' U (.tup [x,.int (gA 7 [v,v1] kp)]))) rfl (by show(1:Int)=if v <v1 then 1 else 0;rw [if_pos h']) fin n0 nL U nU⟩⟩⟩
  ·have h':¬v <v1:=fun z=>h (decide_eq_true z)
   exact⟨dR,fun t0 n0=>⟨one_le,fun L nL=>⟨_,rfl,dR,fun U nU=>ye (Q:=fun x H'=>∀U,H' U=none->Q (.ref U) (upd H' U (.tup [x,.int (gA 7 [v,v1] kp)]))) rfl (by show(0:Int)=if v <v1 then 1 else 0;rw [if_neg h']) fin n0 nL U nU⟩⟩⟩
theorem Ba (T:Txt w K mg t):FO P w K mg base 1 t.pA ["self", "values", "kept"] (dZ K t 8):=by
 have sc:=T.jP.sc ["self", "values", "kept"]
 refine T.jP.F.ok sc ln (fun _ _ _ _ H vs Q E hr h=>?_)
 obtain⟨p,a,nm,ns,is,os,ws,kp,rfl,hP,ln,hS,lw,hB,k⟩:=h
 refine⟨_,(aA (aN (cg (aa (bz (aa (cg (aa au (aa (bw (Ou rfl) (by rfl) T.XF VB (aa (pv 1) ak aj)) ak aY) ao)) (aa (cg (aa au (aa (bw (Nx rfl) (by rfl) T.Qf J8 (aa (pv 1) ak aj)) ak aY) ao)) ak cP) cP)) (aa (pv 2) ak aj) aV)))),?_⟩
 obtain⟨dx,tn,ti,to,hp,h2,h3,h4⟩:=id hP.ex
 match ws,lw with
 | [v,v1],_=>
  have fin:∀H' L rs,aJ H H'->H L=none->H' L=some (.lst (rs.map V.ref))->eE H' rs (Ie (cB 8 ns [v,v1] kp))->∀U,H' U=none->Q (.ref U) (upd H' U (.tup [.ref L,.int (gA 8 [v,v1] kp)])):=Cy k
  exact⟨_,rfl,a,v,v1,rfl,hS,dR,fun t0 n0=>⟨_,rfl,a,v,v1,rfl,(aB n0).seq hS,dR,fun t1 n1=>⟨dR,fun L nL=>⟨_,rfl,dR,fun U nU=>Uo (Q:=fun x H'=>∀U,H' U=none->Q (.ref U) (upd H' U (.tup [x,.int (gA 8 [v,v1] kp)]))) rfl rfl rfl rfl fin n0 n1 nL U nU⟩⟩⟩⟩
theorem zx (T:Txt w K mg t):FO P w K mg base 1 t.mL ["self", "values", "kept"] (dZ K t 9):=by
 have sc:=T.jr.sc ["self", "values", "kept"]
 refine T.jr.F.ok sc ln (fun _ _ _ _ H vs Q E hr h=>?_)
 obtain⟨p,a,nm,ns,is,os,ws,kp,rfl,hP,ln,hS,lw,hB,k⟩:=h
 refine⟨_,(aA (aN (cg (aa (bz (aa (cg (aa au (aa (aR aQ (pv 1) au (fun _ _=>rfl)) ak aF) ao)) ak cP)) (aa (pv 2) ak aj) aV)))),?_⟩
 obtain⟨dx,tn,ti,to,hp,h2,h3,h4⟩:=id hP.ex
 match ws,lw with
 | [v,v1],_=>
  have fin:∀H' L rs,aJ H H'->H L=none->H' L=some (.lst (rs.map V.ref))->eE H' rs (Ie (cB 9 ns [v,v1] kp))->∀U,H' U=none->Q (.ref U) (upd H' U (.tup [.ref L,.int (gA 9 [v,v1] kp)])):=Cy k
  exact⟨_,rfl,a,_,1,_,rfl,rfl,hS,rfl,dR,fun t0 n0=>⟨one_le,fun L nL=>⟨_,rfl,dR,fun U nU=>ye (Q:=fun x H'=>∀U,H' U=none->Q (.ref U) (upd H' U (.tup [x,.int (gA 9 [v,v1] kp)]))) rfl rfl fin n0 nL U nU⟩⟩⟩
theorem Ar (T:Txt w K mg t):FO P w K mg base 1 t.pF ["self", "values", "kept"] (dZ K t 10):=by
 have sc:=T.jM.sc ["self", "values", "kept"]
 refine T.jM.F.ok sc ln (fun _ _ _ _ H vs Q E hr h=>?_)
 obtain⟨p,a,nm,ns,is,os,ws,kp,rfl,hP,ln,hS,lw,hB,k⟩:=h
 refine⟨_,(aA (aN (cg (aa (bz (aa (cg (aa (bx bW (aR aQ (pv 1) au (fun _ _=>rfl)) au) (aa (aR aQ (pv 1) au (fun _ _=>rfl)) ak aF) bL)) ak cP)) (aa (pv 2) ak aj) aV)))),?_⟩
 obtain⟨dx,tn,ti,to,hp,h2,h3,h4⟩:=id hP.ex
 match ws,lw with
 | [v,v1],_=>
  have fin:∀H' L rs,aJ H H'->H L=none->H' L=some (.lst (rs.map V.ref))->eE H' rs (Ie (cB 10 ns [v,v1] kp))->∀U,H' U=none->Q (.ref U) (upd H' U (.tup [.ref L,.int (gA 10 [v,v1] kp)])):=Cy k
  exact⟨_,rfl,a,_,0,_,rfl,rfl,hS,rfl,_,_,rfl,rfl,by show(0:Int) <2;decide,_,rfl,a,_,1,_,rfl,rfl,hS,rfl,dR,fun t0 n0=>⟨one_le,fun L nL=>⟨_,rfl,dR,fun U nU=>ye (Q:=fun x H'=>∀U,H' U=none->Q (.ref U) (upd H' U (.tup [x,.int (gA 10 [v,v1] kp)]))) rfl rfl fin n0 nL U nU⟩⟩⟩
theorem CW (T:Txt w K mg t):FO P w K mg base 1 t.qL ["self", "values", "kept"] (dZ K t 0):=by
 have sc:=T.kZ.sc ["self", "values", "kept"]
 refine T.kZ.F.ok sc ln (fun _ _ _ _ H vs Q E hr h=>?_)
 obtain⟨p,a,nm,ns,is,os,ws,kp,rfl,hP,ln,hS,lw,hB,k⟩:=h
 refine⟨_,(aA (aN (cg (aa (bz (aa (cg (aa au (aa (aR aQ (pv 1) au (fun _ _=>rfl)) ak aF) ao)) ak cP)) (aa (pv 2) ak aj) aV)))),?_⟩
 obtain⟨dx,tn,ti,to,hp,h2,h3,h4⟩:=id hP.ex
 match ws,lw with
 | [v],_=>
  have fin:∀H' L rs,aJ H H'->H L=none->H' L=some (.lst (rs.map V.ref))->eE H' rs (Ie (cB 0 ns [v] kp))->∀U,H' U=none->Q (.ref U) (upd H' U (.tup [.ref L,.int (gA 0 [v] kp)])):=Cy k
  exact⟨_,rfl,a,_,0,_,rfl,rfl,hS,rfl,dR,fun t0 n0=>⟨one_le,fun L nL=>⟨_,rfl,dR,fun U nU=>ye (Q:=fun x H'=>∀U,H' U=none->Q (.ref U) (upd H' U (.tup [x,.int (gA 0 [v] kp)]))) rfl rfl fin n0 nL U nU⟩⟩⟩
theorem DG (T:Txt w K mg t):FO P w K mg base 1 t.qG ["self", "values", "kept"] (dZ K t 1):=by
 have sc:=T.lA.sc ["self", "values", "kept"]
 refine T.lA.F.ok sc ln (fun _ _ _ _ H vs Q E hr h=>?_)
 obtain⟨p,a,nm,ns,is,os,ws,kp,rfl,hP,ln,hS,lw,hB,k⟩:=h
 refine⟨_,(aA (aN (cg (aa (bz ak) (aa (pv 2) ak aj) aV)))),?_⟩
 obtain⟨dx,tn,ti,to,hp,h2,h3,h4⟩:=id hP.ex
 match ws,lw with
 | [v],_=>
  have fin:∀H' L rs,aJ H H'->H L=none->H' L=some (.lst (rs.map V.ref))->eE H' rs (Ie (cB 1 ns [v] kp))->∀U,H' U=none->Q (.ref U) (upd H' U (.tup [.ref L,.int (gA 1 [v] kp)])):=Cy k
  exact⟨by show 0<=sizeLine;decide,fun L nL=>⟨_,rfl,dR,fun U nU=>fin _ L [] (aB nL) nL az .nil U nU⟩⟩
inductive Ah (vs:List V) (H:Hp) (Q:VK) (E:XK):Prop where
 | mk:∀a b:Int,vs=[.int a,.int b]->Q (.int (b7 a b)) H->Ah vs H Q E
theorem aX (T:Txt w K mg t):FO P w K mg base 1 t.Cd ["_law_cell_here", "_law_k"] (Ah):=by
 have sc:=T.bf.sc ["_law_cell_here", "_law_k", "_law_number"]
 refine T.bf.F.ok sc ln (fun _ _ _ _ H vs Q E hr h=>?_)
 obtain⟨a,b,rfl,k⟩:=h
 refine⟨_,(aq (sN sc 2 (bx bW (bx dm (bx dm (bx mY (bx bW (pv 0) au) au) (bx mY au (pv 1))) au) au))
  (aq (sN sc 2 (bx bW (bx mY (pv 2) (pv 2)) au))
  (aA (aN (bx bW (bx mY (bx dm (pv 2) (bx mY au (pv 1))) (pv 2)) au))))),?_⟩
 refine⟨_,rfl,_,_,rfl,rfl,by show(0:Int) <2147483647;decide,_,_,rfl,rfl,Gi,_,rfl,_,_,rfl,rfl,lG,_,_,rfl,rfl,_,_,rfl,rfl,_,_,rfl,rfl,by show(0:Int) <2147483647;decide,?_⟩
 unfold b7 at k
 have y0:0<=(a % 2147483647 * 48271+7919 * b+11) % 2147483647:=Int.emod_nonneg _ (by decide)
 have y1:(a % 2147483647 * 48271+7919 * b+11) % 2147483647 <2147483647:=Int.emod_lt_of_pos _ (by decide)
 refine⟨_,rfl,_,rfl,_,_,rfl,rfl,.of_right (intBits_le_64 (Int.lt_of_lt_of_le (show -(2 ^ 64) <(0:Int) by decide) y0) (Int.lt_trans y1 (by decide))),_,_,rfl,rfl,by show(0:Int) <2147483629;decide,?_⟩
 have z0:0<=((a % 2147483647 * 48271+7919 * b+11) % 2147483647) * ((a % 2147483647 * 48271+7919 * b+11) % 2147483647) % 2147483629:=Int.emod_nonneg _ (by decide)
 have z1:((a % 2147483647 * 48271+7919 * b+11) % 2147483647) * ((a % 2147483647 * 48271+7919 * b+11) % 2147483647) % 2147483629 <2147483629:=Int.emod_lt_of_pos _ (by decide)
 exact⟨_,rfl,_,rfl,_,_,rfl,rfl,lG,_,_,rfl,rfl,_,rfl,_,_,rfl,rfl,.of_right (intBits_le_64 (Int.lt_of_lt_of_le (show -(2 ^ 64) <(0:Int) by decide) z0) (Int.lt_trans z1 (by decide))),_,_,rfl,rfl,by show(0:Int) <2147483587;decide,k⟩
inductive yC (K:PySem.W.Frag) (vs:List V) (H:Hp) (Q:VK) (E:XK):Prop where
 | mk:∀(a:Addr) (ns:List Int) (j:Nat),vs=[.ref a,.int (j:Nat)]->bI K H a (ns.map V.int)->Q (.int (jH ns j)) H->yC K vs H Q E
theorem gP (T:Txt w K mg t):FO P w K mg base 1 t.zV ["_law_script", "_law_k"] (yC K):=by
 have sc:=T.fO.sc ["_law_script", "_law_k"]
 refine T.fO.F.ok sc ln (fun _ _ _ _ H vs Q E hr h=>?_)
 obtain⟨a,ns,j,rfl,hS,k⟩:=h
 refine⟨_,(aq (bM (bc yh (pv 1) (bw bV (by rfl) T.fX dG (aa (pv 0) ak aj)) (bH _))
   (aA (aN (aR aQ (pv 0) (pv 1) (fun _ _=>rfl))))
   bu)
  (aA (aN (bx dm (bx mY au (pv 1)) au)))),?_⟩
 unfold jH at k
 refine⟨_,rfl,_,rfl,.ref a,ns.length,rfl,.inl ⟨_,hS,by simp⟩,_,_,rfl,rfl,_,rfl,jG (fun h=>?_) (fun h=>?_)⟩
 ·have h':j <ns.length:=by have:=of_decide_eq_true h;omega
  rw [List.getElem?_eq_getElem h'] at k
  exact⟨_,rfl,_,rfl,a,_,j,_,rfl,rfl,hS,aM (by rw [List.getElem?_map,List.getElem?_eq_getElem h'];rfl),k⟩
 ·have h':¬j <ns.length:=fun z=>h (decide_eq_true (by omega))
  rw [List.getElem?_eq_none (by omega)] at k
  exact⟨_,rfl,_,_,rfl,rfl,lG,_,_,rfl,rfl,k⟩
inductive vY (vs:List V) (H:Hp) (Q:VK) (E:XK):Prop where
 | mk:∀a b:Int,vs=[.int a,.int b]->Q (.int (pC a b)) H->vY vs H Q E
theorem ie (T:Txt w K mg t):FO P w K mg base 2 t.wY ["_law_cell_here", "_law_k"] (vY):=by
 have sc:=T.fK.sc ["_law_cell_here", "_law_k", "_law_number", "_law_way"]
 refine T.fK.F.ok sc ln (fun _ _ _ _ H vs Q E hr h=>?_)
 obtain⟨a,b,rfl,k⟩:=h
 refine⟨_,(aq (sN sc 2 (dC (aX T) T.bf hr (aa (pv 0) (aa (pv 1) ak aj) aj)))
  (aq (sN sc 3 (bx bW (bx OJ (pv 2) au) au))
  (aq (bM (bc fc (pv 3) au (bH _))
   (aA (aN (bx bW (pv 2) au)))
   bu)
  (aq (bM (bc fc (pv 3) au (bH _))
   (aA (aN (bx bW (pv 2) (bx Rc au au))))
   bu)
  (aA (aN (bx JW (bx JW (bx Rc au au) au) (bx bW (pv 2) au)))))))),?_⟩
 refine⟨_,rfl,_,rfl,a,b,rfl,?_⟩
 unfold pC at k
 have n0:=zJ a b
 generalize b7 a b=n at n0 k ⊢
 refine⟨_,rfl,_,_,rfl,rfl,Ww (by decide) (by decide),_,_,rfl,rfl,by show(0:Int) <3;decide,?_⟩
 refine⟨_,rfl,rfl,_,rfl,jG (fun h=>?_) (fun h=>?_)⟩
 ·have h':n / 7 % 3=0:=by simpa using of_decide_eq_true h
  rw [if_pos h'] at k
  exact⟨_,rfl,_,_,rfl,rfl,by show(0:Int) <5;decide,k⟩
 have h':¬n / 7 % 3=0:=fun z=>h (decide_eq_true (by show V.int (n / 7 % 3)=V.int 0;rw [z]))
 rw [if_neg h'] at k
 refine⟨_,rfl,rfl,_,rfl,jG (fun h2=>?_) (fun h2=>?_)⟩
 ·have h2':n / 7 % 3=1:=by simpa using of_decide_eq_true h2
  rw [if_pos h2'] at k
  exact⟨_,rfl,_,_,rfl,rfl,⟨by decide,by decide,by decide⟩,_,_,rfl,rfl,by show(0:Int) <10 ^ 9;decide,k⟩
 have h2':¬n / 7 % 3=1:=fun z=>h2 (decide_eq_true (by show V.int (n / 7 % 3)=V.int 1;rw [z]))
 rw [if_neg h2'] at k
 exact⟨_,_,rfl,rfl,⟨by decide,by decide,by decide⟩,_,_,rfl,rfl,_,rfl,_,_,rfl,rfl,by show(0:Int) <3;decide,_,_,rfl,rfl,k⟩
theorem Lj {x y:Str} (h:x.cps.toList=y.cps.toList):x=y:=PyProof.Rows.ext_toList h
theorem N7 {n:Int} (h0:0<=n) (h1:n <2000):n.natAbs.log2 <1920:=by
 by_cases z:n.natAbs=0
 ·rw [z]
  decide
 ·have:n.natAbs.log2 <11:=(Nat.log2_lt z).mpr (by omega)
  omega
theorem join_ones (cs:List Nat):(Txt.join Str.empty (cs.map fun c=>(⟨#[c]⟩:Str))).cps.toList=cs:=by
 unfold Txt.join
 rw [StrLaws.glued_eq_join,Dr]
 induction cs with
 | nil=>rfl
 | cons c r ih=>simpa using ih
theorem Vz {x:Str} {n:Nat} (h:n<=x.length):(Txt.slice x none (some (n:Int))).cps.toList=x.cps.toList.take n:=by
 have e:=beq_iff_eq.mp (PyProof.Rows.slice_closes_toL (x:=x) (j:=(n:Int)) (by omega) (by omega))
 rw [e]
 simp
theorem Qj {x:Str} {n:Nat} (h:n<=x.length):(Txt.slice x (some (n:Int)) none).cps.toList=x.cps.toList.drop n:=by
 have e:=PyProof.Rows.slice_from_eq (x:=x) (i:=(n:Int)) (b:=(x.length:Int)) (by omega) (by omega) rfl
 rw [e]
 show List.take ((x.length:Int) - n).toNat (List.drop ((n:Int)).toNat x.cps.toList)=_
 rw [Int.toNat_natCast,List.take_of_length_le (by rw [List.length_drop,oE];omega)]
inductive xm (vs:List V) (H:Hp) (Q:VK) (E:XK):Prop where
 | mk:∀(a:Int) (b:Nat),vs=[.int a,.int (b:Nat)]->b<=25->(∀H':Hp,aJ H H'->Q (.str (cL a b)) H')->xm vs H Q E
noncomputable abbrev zM:List Str:=["_law_cell_here", "_law_k", "_law_letters", "_law_many", "_law_base", "_law_at"]
theorem mW (T:Txt w K mg t):FO P w K mg base 2 t.zF ["_law_cell_here", "_law_k"] (xm):=by
 have sc:=T.jB.sc zM
 refine T.jB.F.ok sc ln (fun _ _ _ _ H vs Q E hr h=>?_)
 obtain⟨a,b,rfl,b1,k⟩:=h
 refine⟨_,(aq (sN sc 2 bG)
  (aq (bM (bc fc (bx bW (dC (aX T) T.bf hr (aa (pv 0) (aa au ak ao) aj)) au) au (bH _))
   (aA (aN (bx wI (aR CQ (pv 2) (bx bW (dC (aX T) T.bf hr (aa (pv 0) (aa au ak ao) aj)) au) (fun _ _=>rfl)) (fB Hv (by rfl) T.PB JX (aa (bx dm (bx bW (dC (aX T) T.bf hr (aa (pv 0) (aa au ak ao) aj)) au) (bx mY au (pv 1))) ak bL)))))
   bu)
  (aq (sN sc 3 (bx bW (dC (aX T) T.bf hr (aa (pv 0) (aa au ak ao) aj)) au))
  (aq (sN sc 4 (Dq PySem.F.plainAttrs_str PySem.F.slot_str_join PySem.F.type_str_join Sx bG (aa (eX [0,2] zM (aU (top 69)) rfl (iY rfl T.kY (aa (pv 3) ak aj)) (fun _ _ _ _ _=>iC) (fun _ _ _ _ _=>(aR CQ (pv 2) (bx bW (dC (aX T) T.bf hr (aa (pv 1) (aa (bx dm au (pv 0)) ak bL) aj)) au) (fun _ _=>rfl)))) ak gZ)))
  (aq (sN sc 5 (bx bW (dC (aX T) T.bf hr (aa (pv 0) (aa au ak ao) aj)) (bx dm (pv 3) au)))
  (aA (aN (bx wI (bx wI (jU Ph (pv 4) sI (jK (pv 5))) (aR CQ (pv 2) (bx bW (bx dm (dC (aX T) T.bf hr (aa (pv 0) (aa au ak ao) aj)) (pv 1)) au) (fun _ _=>rfl))) (jU Ph (pv 4) (jK (pv 5)) sI))))))))),?_⟩
 have hl:sizeLine=16777216:=sizeLine_eq
 have hF:(cL a b).cps.toList=Ac a b:=BX a b
 unfold Ac at hF
 refine⟨_,rfl,_,_,rfl,⟨_,_,rfl,rfl,by show(0:Int) <3;decide,rfl,_,rfl,jG (fun hw=>?_) (fun hw=>?_)⟩⟩
 ·have hw':b7 a 52 % 3=0:=by simpa using of_decide_eq_true hw
  rw [if_pos hw'] at hF
  refine⟨_,rfl,_,rfl,_,_,rfl,?_⟩
  refine⟨_,_,rfl,rfl,by show(0:Int) <26;decide,LT,_,_,rfl,rfl,by rw [Kh];omega,Ru _,?_⟩
  refine⟨_,rfl,_,_,rfl,⟨_,_,rfl,rfl,by show(0:Int) <1000;decide,_,rfl,_,_,rfl,rfl,lG,_,_,rfl,rfl,?_⟩⟩
  have q0:=Int.emod_nonneg (b7 a 54) (show(1000:Int)≠0 by decide)
  have q1:=Int.emod_lt_of_pos (b7 a 54) (show(0:Int) <1000 by decide)
  obtain⟨m,hm⟩:∃m:Nat,b7 a 54 % 1000+37 * (b:Int)=(m:Int):=⟨(b7 a 54 % 1000+37 * (b:Int)).toNat,by omega⟩
  obtain⟨_,g2,_⟩:=u9 (n:=m) (by omega)
  have g3:(toString (m:Int):Str).length<=4:=by rw [<-oE];exact g2
  have e:(⟨#[IK (b7 a 53)]⟩:Str) ++ (toString (m:Int):Str)=cL a b:=Lj (by
   rw [hF,Str.cps_append,hm,Int.toNat_natCast]
   simp only [Array.toList_append]
   rfl)
  have k':=k H (aJ.refl _)
  rw [<-e] at k'
  dsimp only
  rw [hm]
  exact⟨_,rfl,N7 (by omega) (by omega),_,_,rfl,rfl,by show 1+_<=sizeLine;omega,k'⟩
 have hw':¬b7 a 52 % 3=0:=fun z=>hw (decide_eq_true (by show V.int (b7 a 52 % 3)=V.int 0;rw [z]))
 rw [if_neg hw'] at hF
 refine⟨_,rfl,_,_,rfl,⟨_,_,rfl,rfl,by show(0:Int) <7;decide,?_⟩⟩
 have z0:=Int.emod_nonneg (b7 a 50) (show(7:Int)≠0 by decide)
 have z1:=Int.emod_lt_of_pos (b7 a 50) (show(0:Int) <7 by decide)
 refine⟨rfl,_,rfl,b7 a 50 % 7,rfl,by omega,by omega,?_⟩
 refine kj (fun i ys H'=>H'=H/\ys=((List.range i).map fun j=>IK (b7 a (60+(j:Nat)))).map fun c=>V.str ⟨#[c]⟩) (by omega) ⟨rfl,rfl⟩ (fun i ys H' ⟨_,e⟩=>by rw [e,lM,lM,List.length_range];omega) ?_ ?_
 ·rintro i ys H' hi ⟨rfl,rfl⟩
  refine yes ?_
  refine⟨_,rfl,_,rfl,_,rfl,_,_,rfl,rfl,_,_,rfl,?_⟩
  refine⟨_,_,rfl,rfl,by show(0:Int) <26;decide,LT,_,_,rfl,rfl,by rw [Kh];omega,Ru _,rfl,?_⟩
  rw [List.range_succ,List.map_append,List.map_append]
  simp
 rintro ys H' ⟨rfl,rfl⟩ D hD
 have eb:((List.range (b7 a 50 % 7).toNat).map fun j=>IK (b7 a (60+(j:Nat))))=gB a:=rfl
 rw [eb]
 have s1:aJ H' (upd H' D (.lst ((gB a).map fun c=>V.str ⟨#[c]⟩))):=aB hD
 have bl:=(CV a).1
 have es:((gB a).map fun c=>V.str ⟨#[c]⟩)=((gB a).map fun c=>(⟨#[c]⟩:Str)).map V.str:=by rw [List.map_map];rfl
 refine⟨Str.empty,D,(gB a).map fun c=>(⟨#[c]⟩:Str),rfl,rfl,bI.of (by rw [<-es];exact az),?_,?_⟩
 ·have:=Pu (n:=1) ((gB a).map fun c=>(⟨#[c]⟩:Str)) fun w h=>by
   obtain⟨c,_,rfl⟩:=List.mem_map.mp h
   exact Nat.le_refl 1
  have he:Str.empty.length=0:=rfl
  rw [he]
  rw [lM] at this
  omega
 have ej:=join_ones (gB a)
 generalize upd H' D (.lst ((gB a).map fun c=>V.str ⟨#[c]⟩))=H1 at s1 ⊢
 generalize Txt.join Str.empty ((gB a).map fun c=>(⟨#[c]⟩:Str))=x0 at ej ⊢
 have hx0:x0.length=(gB a).length:=by rw [<-oE,ej]
 refine⟨_,rfl,_,_,rfl,⟨_,rfl,_,_,rfl,rfl,_,_,rfl,rfl,by show(0:Int) <b7 a 50 % 7+1;omega,?_⟩⟩
 have hsp:=Mg a
 obtain⟨n,hn,hn2⟩:∃n:Nat,b7 a 51 % (b7 a 50 % 7+1)=(n:Int)/\n=pM a:=⟨pM a,(Int.toNat_of_nonneg (Int.emod_nonneg _ (by omega))).symm,rfl⟩
 rw [<-hn2] at hsp hF
 dsimp only
 rw [hn]
 have s0:=Txt.slice_le x0 none (some (n:Int))
 have s2:=Txt.slice_le x0 (some (n:Int)) none
 refine⟨_,rfl,_,rfl,_,rfl,x0,rfl,by omega,_,rfl,_,rfl,_,_,rfl,⟨_,rfl,_,_,rfl,rfl,?_⟩⟩
 have h1:(⟨#[IK (b7 a 55+(b:Int))]⟩:Str).length=1:=rfl
 refine⟨_,_,rfl,rfl,by show(0:Int) <26;decide,LT,_,_,rfl,rfl,by rw [Kh];omega,Ru _,_,_,rfl,rfl,by rw [h1];omega,?_⟩
 refine⟨_,rfl,_,rfl,_,rfl,x0,rfl,by omega,_,_,rfl,rfl,by rw [Str.length_append,h1];omega,?_⟩
 have e:Txt.slice x0 none (some (n:Int)) ++ (⟨#[IK (b7 a 55+(b:Int))]⟩:Str) ++ Txt.slice x0 (some (n:Int)) none=cL a b:=Lj (by
  rw [hF,Str.cps_append,Str.cps_append]
  simp only [Array.toList_append]
  rw [Vz (by omega),Qj (by omega),ej]
  simp)
 rw [e]
 exact k H1 s1
theorem Xq (m:Int):∃c:Nat,BP [V.int 0,.int 0,.int 0,.int 1,.int 2] (m % 5)=some (.int (c:Nat))/\c<=2:=by
 have key:∀j,j <5->BP [V.int 0,.int 0,.int 0,.int 1,.int 2] ((j:Nat):Int)=some (.int (([0,0,0,1,2]:List Nat).getD j 0:Nat))/\([0,0,0,1,2]:List Nat).getD j 0<=2:=by decide +kernel
 obtain⟨j,e,hj⟩:=Ku m (n:=5) (k:=5) (by decide) rfl
 rw [e]
 exact⟨_,key j hj⟩
theorem XR (m:Int):∃c:Nat,BP [V.int 0,.int 0,.int 1,.int 1,.int 2,.int 7] (m % 6)=some (.int (c:Nat))/\c<=7:=by
 have key:∀j,j <6->BP [V.int 0,.int 0,.int 1,.int 1,.int 2,.int 7] ((j:Nat):Int)=some (.int (([0,0,1,1,2,7]:List Nat).getD j 0:Nat))/\([0,0,1,1,2,7]:List Nat).getD j 0<=7:=by decide +kernel
 obtain⟨j,e,hj⟩:=Ku m (n:=6) (k:=6) (by decide) rfl
 rw [e]
 exact⟨_,key j hj⟩
inductive yo (vs:List V) (H:Hp) (Q:VK) (E:XK):Prop where
 | mk:∀(d:Dw) (ls:List aG) (ps:List PD) (os:List Str) (c:Int) (b:Bool),vs=[.ref d.S,.int c,.bl b]->nW d H ls ps os->ls.length<=24->(∀(l:aG) (H':Hp),l.name=cL d.c3 ls.length->aJ (bA d.E H) (bA d.E H')->nW d H' (ls ++ [l]) ps os->Q (.str l.name) H')->yo vs H Q E
noncomputable abbrev zT:List Str:=["_law_state", "_law_cell_here", "_law_back", "_law_many", "_law_first", "_law_room", "_law_name"]
theorem jX (T:Txt w K mg t):FO P w K mg base 3 t.Aa ["_law_state", "_law_cell_here", "_law_back"] (yo):=by
 have sc:=T.iT.sc zT
 refine T.iT.F.ok sc ln (fun _ _ _ _ H vs Q E hr h=>?_)
 obtain⟨d,ls,ps,os,c,b,rfl,D,hn,k⟩:=h
 refine⟨_,(aq (sN sc 3 (aR aQ (bz (aa au (aa au (aa au (aa au (aa au ak ao) ao) ao) ao) ao)) (bx bW (dC (aX T) T.bf hr (aa (pv 1) (aa au ak ao) aj)) au) (fun _ _=>rfl)))
  (aq (eG (bM (fW (pv 2))
   (aA (sN sc 3 (bx bW (dC (aX T) T.bf hr (aa (pv 1) (aa au ak ao) aj)) au)))
   bu))
  (aq (jn (i:=4) [1] zT (aU (top 70)) rfl sc.nd rfl (iY rfl T.kY (aa (pv 3) ak aj)) (fun _ _ _ _ _=>iC) (fun _ _ _ _ _=>(dC (ie T) T.fK hr (aa (pv 1) (aa (bx dm au (pv 0)) ak bL) aj))))
  (aq (sN sc 5 (bx dm (bw (Fx rfl) (by rfl) T.Qf J8 (aa au (aa (pv 3) ak aj) ao)) (aR aQ (bz (aa au (aa au (aa au (aa au (aa au (aa au ak ao) ao) ao) ao) ao) ao)) (bx bW (dC (aX T) T.bf hr (aa (pv 1) (aa au ak ao) aj)) au) (fun _ _=>rfl))))
  (aq (sN sc 6 (dC (mW T) T.jB hr (aa (aR aQ (pv 0) au (fun _ _=>rfl)) (aa (bw bV (by rfl) T.fX dG (aa (aR aQ (pv 0) au (fun _ _=>rfl)) ak aF)) ak aY) aF)))
  (aq (bK (Jw (aR aQ (pv 0) au (fun _ _=>rfl)) (aa (cg (aa (pv 6) (aa (pv 5) (aa (pv 4) ak aj) aj) aj)) ak cP)))
  (aA (aN (pv 6))))))))),?_⟩
 have hl:sizeLine=16777216:=sizeLine_eq
 refine⟨iw,fun l0 n0=>?_⟩
 have s0:=aB (o:=.lst [.int 0,.int 0,.int 0,.int 1,.int 2]) n0
 obtain⟨c0,e0,h0⟩:=Xq (b7 c 1)
 refine⟨_,rfl,_,_,rfl,_,_,rfl,rfl,by show(0:Int) <5;decide,l0,_,_,_,rfl,rfl,bI.of az,e0,?_⟩
 generalize upd H l0 (.lst [.int 0,.int 0,.int 0,.int 1,.int 2])=H0 at s0 ⊢
 refine⟨fun σ H1=>∃m:Nat,m<=3/\H1=H0/\σ=[some (.ref d.S),some (.int c),some (.bl b),some (.int (m:Nat)),none,none,none],?_,?_⟩
 ·cases b
  ·exact⟨_,rfl,false,rfl,cz ⟨c0,by omega,rfl,rfl⟩⟩
  ·refine⟨_,rfl,true,rfl,fU ⟨_,rfl,_,_,rfl,_,_,rfl,rfl,by show(0:Int) <4;decide,?_⟩⟩
   have h1:=Int.emod_nonneg (b7 c 1) (show(4:Int)≠0 by decide)
   have h2:=Int.emod_lt_of_pos (b7 c 1) (show(0:Int) <4 by decide)
   refine⟨(b7 c 1 % 4).toNat,by omega,rfl,?_⟩
   rw [Int.toNat_of_nonneg h1]
   rfl
 rintro σ H1 ⟨m,hm,rfl,rfl⟩
 refine⟨_,rfl,(m:Int),rfl,by omega,by omega,?_⟩
 rw [Int.toNat_natCast]
 refine kj (fun i ys H'=>H'=H1/\∃ws:List Int,ys=ws.map V.int/\ws.length=i/\∀v∈ws,0<=v/\v <1000000000) (by omega) ⟨rfl,[],rfl,rfl,by simp⟩ (fun i ys H' ⟨_,ws,e,e2,_⟩=>by rw [e,lM];omega) ?_ ?_
 ·rintro i ys H' hi ⟨rfl,ws,rfl,hw,hB⟩
  refine yes ⟨_,rfl,_,rfl,_,_,rfl,rfl,c,10+(0+(i:Int)),rfl,rfl,ws ++ [pC c (10+(0+(i:Int)))],by simp,by simp [hw],fun v hv=>?_⟩
  rcases List.mem_append.mp hv with hv | hv
  ·exact hB v hv
  ·rw [List.mem_singleton] at hv
   subst hv
   exact oA _ _
 rintro ys H' ⟨rfl,ws,rfl,hw,hB⟩ F nF
 have t1:=aB (o:=.lst (ws.map V.int)) nF
 have sF:=s0.trans t1
 have eF:upd H' F (.lst (ws.map V.int)) F=some (.lst (ws.map V.int)):=az
 have oF:F∉d.E:=D.out (s0.free nF)
 generalize upd H' F (.lst (ws.map V.int))=H2 at t1 sF eF ⊢
 refine⟨_,rfl,_,_,rfl,iw,fun l1 n1=>?_⟩
 have t2:=aB (o:=.lst [.int 0,.int 0,.int 1,.int 1,.int 2,.int 7]) n1
 obtain⟨c1,e1,h1⟩:=XR (b7 c 2)
 refine⟨_,rfl,_,_,rfl,_,_,rfl,rfl,by show(0:Int) <6;decide,l1,_,_,_,rfl,rfl,bI.of az,e1,_,_,rfl,rfl,?_⟩
 have s2:=sF.trans t2
 have eF2:=t2 _ _ eF
 generalize upd H2 l1 (.lst [.int 0,.int 0,.int 1,.int 1,.int 2,.int 7])=H3 at t2 s2 eF2 ⊢
 have D3:=D.keep s2
 obtain⟨xs,eL,aL⟩:=D3.lanes
 have xl:=aL.length
 refine⟨_,rfl,d.S,_,3,_,rfl,rfl,D3.seqS,aM (j:=3) rfl,?_⟩
 refine⟨_,rfl,d.S,_,0,_,rfl,rfl,D3.seqS,aM (j:=0) rfl,.ref d.L,ls.length,rfl,.inl ⟨_,bI.of eL,xl.symm⟩,?_⟩
 refine⟨d.c3,ls.length,rfl,by omega,fun H4 s4=>?_⟩
 have D4:=D3.keep s4
 have eL4:=s4 _ _ eL
 have eF4:=s4 _ _ eF2
 have s04:=s2.trans s4
 refine⟨_,rfl,d.S,_,0,_,rfl,rfl,D4.seqS,aM (j:=0) rfl,?_⟩
 refine⟨.inl ⟨rfl,_,bI.of eL4⟩,_,rfl,_,rfl,_,rfl,iw,fun q nq=>?_⟩
 have t5:=aB (o:=.tup [.str (cL d.c3 ls.length),.int ((if (m:Int) >1 then(m:Int) else 1)+(c1:Int)),.ref F]) nq
 have s5:=s04.trans t5
 have D5:=D4.keep t5
 have oq:q∉d.E:=D4.out nq
 have eq:upd H4 q (.tup [.str (cL d.c3 ls.length),.int ((if (m:Int) >1 then(m:Int) else 1)+(c1:Int)),.ref F]) q=some (.tup [.str (cL d.c3 ls.length),.int ((if (m:Int) >1 then(m:Int) else 1)+(c1:Int)),.ref F]):=az
 have eL5:=t5 _ _ eL4
 have eF5:=t5 _ _ eF4
 refine⟨d.L,xs,_,rfl,rfl,eL5,by omega,_,rfl,?_⟩
 refine k ⟨cL d.c3 ls.length,(if (m:Int) >1 then(m:Int) else 1)+(c1:Int),ws⟩ _ rfl ?_ (D5.lane ⟨q,F,rfl,dU eq oq,dU eF5 oF⟩ ⟨by dsimp only;split <;> omega,by dsimp only;split <;> omega,by dsimp only;split <;> omega,hB⟩ rfl eL5)
 rw [dW (by simp)]
 exact D.cut s5
theorem pop_at:∀{os:List Str} {j:Nat} (h:j <os.length),os.Perm (os[j]:: os.eraseIdx j)
 | [],_,h=>absurd h (by simp)
 | a:: l,0,_=>.refl _
 | a:: l,j+1,h=>by
  have h':j <l.length:=by simpa using h
  show(a:: l).Perm (l[j]:: a:: l.eraseIdx j)
  exact((pop_at (os:=l) (j:=j) (by simpa using h)).cons a).trans (.swap _ _ _)
theorem Ez {α β:Type} {f:α->β}:∀(l:List α) (j:Nat),(l.map f).eraseIdx j=(l.eraseIdx j).map f
 | [],_=>rfl
 | a:: l,0=>rfl
 | a:: l,j+1=>by
  show f a:: (l.map f).eraseIdx j=f a:: (l.eraseIdx j).map f
  rw [Ez l j]
theorem Kg {j n:Nat} (h:j <n):seqIndex? (j:Int) n=some j:=by
 unfold seqIndex?
 have z:¬(j:Int) <0:=by omega
 simp [h,z]
inductive yG (vs:List V) (H:Hp) (Q:VK) (E:XK):Prop where
 | mk:∀(d:Dw) (ls:List aG) (ps:List PD) (os:List Str) (n:Int),vs=[.ref d.S,.int n]->nW d H ls ps os->os≠[]->os.length<=100->(∀(x:Str) (os':List Str) (H':Hp),os.Perm (x:: os')->aJ (bA d.E H) (bA d.E H')->nW d H' ls ps os'->Q (.str x) H')->yG vs H Q E
theorem sO (T:Txt w K mg t):FO P w K mg base 1 t.Aj ["_law_state", "_law_number"] (yG):=by
 have sc:=T.lH.sc ["_law_state", "_law_number"]
 refine T.lH.F.ok sc ln (fun _ _ _ _ H vs Q E hr h=>?_)
 obtain⟨d,ls,ps,os,n,rfl,D,hne,hs,k⟩:=h
 refine⟨_,(aA (aN (Dq PySem.F.plainAttrs_list PySem.F.slot_list_pop PySem.F.type_list_pop Cw (aR aQ (pv 0) au (fun _ _=>rfl)) (aa (bx bW (pv 1) (bw bV (by rfl) T.fX dG (aa (aR aQ (pv 0) au (fun _ _=>rfl)) ak aF))) ak bL)))),?_⟩
 have hpos:0 <os.length:=List.length_pos_iff.mpr hne
 refine⟨_,rfl,d.S,_,2,_,rfl,rfl,D.seqS,aM (j:=2) rfl,.inl ⟨rfl,_,bI.of D.opens⟩,?_⟩
 refine⟨_,rfl,_,rfl,d.S,_,2,_,rfl,rfl,D.seqS,aM (j:=2) rfl,.ref d.O,os.length,rfl,.inl ⟨_,bI.of D.opens,by simp⟩,n,(os.length:Int),rfl,rfl,by omega,?_⟩
 have h0:=Int.emod_nonneg n (show(os.length:Int)≠0 by omega)
 have h1:=Int.emod_lt_of_pos n (show(0:Int) <(os.length:Int) by omega)
 obtain⟨j,hj⟩:∃j:Nat,n % (os.length:Int)=(j:Int):=⟨(n % (os.length:Int)).toNat,by omega⟩
 have hj':j <os.length:=by omega
 refine⟨d.O,_,(j:Int),j,.str os[j],rfl,by show [V.int (n % (os.length:Int))]=_;rw [hj],D.opens,by omega,by omega,by rw [lM];exact Kg hj',by rw [List.getElem?_map,List.getElem?_eq_getElem hj'];rfl,?_⟩
 rw [Ez]
 exact k os[j] (os.eraseIdx j) _ (pop_at hj') (by rw [dW (by simp)];exact aJ.refl _) D.open
inductive xn (vs:List V) (H:Hp) (Q:VK) (E:XK):Prop where
 | mk:∀(d:Dw) (ls:List aG) (ps:List PD) (os:List Str) (c:Int) (i:Nat) (a1 a2:Addr) (nums:List Int) (ins:List Str) (many:Nat),vs=[.ref d.S,.int c,.str (cX i),.ref a1,.ref a2,.int (many:Nat)]->nW d H ls ps os->bA d.E H a1=some (.lst (nums.map V.int))->bA d.E H a2=some (.lst (ins.map V.str))->i <11->nums.length=cN i->((∀v∈nums,0<=v/\v <1000000000))->ins.length=cI i->many=cO i->ls.length<=22->ps.length<=25->os.length<=100->(∀(newl:List aG) (H':Hp),newl.length=many->aJ (bA d.E H) (bA d.E H')->nW d H' (ls ++ newl) (ps ++ [⟨i,cL d.c4 ps.length,nums,ins,newl.map (·.name)⟩]) (os ++ newl.map (·.name))->Q .non H')->xn vs H Q E
noncomputable abbrev zY:List Str:=["_law_state", "_law_cell_here", "_law_kind", "_law_numbers", "_law_ins", "_law_many", "_law_outs"]
theorem cH (T:Txt w K mg t):FO P w K mg base 4 t.Ak ["_law_state", "_law_cell_here", "_law_kind", "_law_numbers", "_law_ins", "_law_many"] (xn):=by
 have sc:=T.cC.sc zY
 refine T.cC.F.ok sc ln (fun _ _ _ _ H vs Q E hr h=>?_)
 obtain⟨d,ls,ps,os,c,i,a1,a2,nums,ins,many,rfl,D,e1,e2,hi,hN,hB,hI,hO,hls,hps,hos,k⟩:=h
 refine⟨_,(aq (jn (i:=6) [0,1] zY (aU (top 71)) rfl sc.nd rfl (iY rfl T.kY (aa (pv 5) ak aj)) (fun _ _ _ _ _=>iC) (fun _ _ _ _ _=>(dC (jX T) T.iT hr (aa (pv 1) (aa (dC (aX T) T.bf hr (aa (pv 2) (aa (bx dm au (pv 0)) ak bL) aj)) (aa jT ak ao) aY) aj))))
  (aq (bK (Jw (aR aQ (pv 0) au (fun _ _=>rfl)) (aa (cg (aa (pv 2) (aa (dC (mW T) T.jB hr (aa (aR aQ (pv 0) au (fun _ _=>rfl)) (aa (bw bV (by rfl) T.fX dG (aa (aR aQ (pv 0) au (fun _ _=>rfl)) ak aF)) ak aY) aF)) (aa (pv 3) (aa (pv 4) (aa (pv 6) ak aj) aj) aj) aY) aj)) ak cP)))
  (aA (bK (Dq PySem.F.plainAttrs_list PySem.F.slot_list_extend PySem.F.type_list_extend Em (aR aQ (pv 0) au (fun _ _=>rfl)) (aa (pv 6) ak aj)))))),?_⟩
 have hl:sizeLine=16777216:=sizeLine_eq
 have hm2:many<=2:=by rw [hO];exact Lq i
 refine⟨_,rfl,(many:Int),rfl,by omega,by omega,?_⟩
 rw [Int.toNat_natCast]
 refine kj (fun i ys H'=>∃newl:List aG,newl.length=i/\ys=newl.map (fun l=>V.str l.name)/\aJ (bA d.E H) (bA d.E H')/\nW d H' (ls ++ newl) ps os) (by omega) ⟨[],rfl,rfl,aJ.refl _,by rw [List.append_nil];exact D⟩ (fun i ys H' ⟨newl,e,e2,_⟩=>by rw [e2,lM];omega) ?_ ?_
 ·rintro j ys H' hj ⟨newl,hn,rfl,s,D'⟩
  refine yes ⟨_,rfl,_,rfl,_,rfl,_,_,rfl,rfl,c,20+(0+(j:Int)),rfl,?_⟩
  refine⟨d,ls ++ newl,ps,os,_,false,rfl,D',by rw [lP];omega,fun l H1 _ s1 D1=>?_⟩
  exact⟨newl ++ [l],by simp [hn],by simp,s.trans s1,by rw [<-List.append_assoc];exact D1⟩
 rintro ys H1 ⟨newl,hn,rfl,s1,D1⟩ F nF
 have t1:=aB (o:=.lst (newl.map fun l=>V.str l.name)) nF
 have eF:upd H1 F (.lst (newl.map fun l=>V.str l.name)) F=some (.lst ((newl.map (·.name)).map V.str)):=by rw [List.map_map];exact az
 have oF:=D1.out nF
 have D2:=D1.keep t1
 have s2:=s1.trans (D1.cut t1)
 generalize upd H1 F (.lst (newl.map fun l=>V.str l.name))=H2 at t1 eF D2 s2 ⊢
 obtain⟨xs,eP,aP⟩:=D2.parts
 have xl:=aP.length
 refine⟨_,rfl,d.S,_,1,_,rfl,rfl,D2.seqS,aM (j:=1) rfl,.inl ⟨rfl,_,bI.of eP⟩,?_⟩
 refine⟨_,rfl,_,rfl,d.S,_,4,_,rfl,rfl,D2.seqS,aM (j:=4) rfl,?_⟩
 refine⟨_,rfl,d.S,_,1,_,rfl,rfl,D2.seqS,aM (j:=1) rfl,.ref d.P,ps.length,rfl,.inl ⟨_,bI.of eP,xl.symm⟩,?_⟩
 refine⟨d.c4,ps.length,rfl,by omega,fun H3 s3=>?_⟩
 have D3:=D2.keep s3
 have t3:=s2.trans (D2.cut s3)
 have eP3:=s3 _ _ eP
 have eF3:=s3 _ _ eF
 refine⟨_,rfl,_,rfl,_,rfl,iw,fun q nq=>?_⟩
 have s4:=aB (o:=.tup [.str (cX i),.str (cL d.c4 ps.length),.ref a1,.ref a2,.ref F]) nq
 have D4:=D3.keep s4
 have t4:=t3.trans (D3.cut s4)
 have eP4:=s4 _ _ eP3
 have eF4:=s4 _ _ eF3
 have oq:=D3.out nq
 have eq:upd H3 q (.tup [.str (cX i),.str (cL d.c4 ps.length),.ref a1,.ref a2,.ref F]) q=some (.tup [.str (cX i),.str (cL d.c4 ps.length),.ref a1,.ref a2,.ref F]):=az
 refine⟨d.P,xs,_,rfl,rfl,eP4,by omega,?_⟩
 generalize upd H3 q (.tup [.str (cX i),.str (cL d.c4 ps.length),.ref a1,.ref a2,.ref F])=H4 at s4 D4 t4 eP4 eF4 eq ⊢
 have D5:=D4.part (p:=⟨i,cL d.c4 ps.length,nums,ins,newl.map (·.name)⟩) ⟨q,a1,a2,F,rfl,dU eq oq,t4 _ _ e1,t4 _ _ e2,dU eF4 oF⟩ ⟨hi,hN,hI,by show(newl.map _).length=_;rw [lM,hn];exact hO,hB⟩ rfl eP4
 have hcu:bA d.E (upd H4 d.P (.lst (xs ++ [.ref q])))=bA d.E H4:=dW (by simp)
 have eF5:upd H4 d.P (.lst (xs ++ [.ref q])) F=some (.lst ((newl.map (·.name)).map V.str)):=by rw [aK (fun z=>oF (by rw [z];simp))];exact eF4
 generalize upd H4 d.P (.lst (xs ++ [.ref q]))=H5 at D5 hcu eF5 ⊢
 refine⟨_,rfl,d.S,_,2,_,rfl,rfl,D5.seqS,aM (j:=2) rfl,.inl ⟨rfl,_,bI.of D5.opens⟩,?_⟩
 refine⟨_,rfl,d.O,F,_,_,rfl,rfl,D5.opens,eF5,by rw [lM,lM,lM];omega,?_⟩
 rw [<-List.map_append]
 exact k newl _ hn (by rw [dW (by simp),hcu];exact t4) D5.open
theorem U6 (m:Int):∃i:Nat,BP [V.str "add",V.str "less"] (m % 2)=some (.str (cX i))/\(i=6∨i=7):=by
 have h0:=Int.emod_nonneg m (show(2:Int)≠0 by decide)
 have h1:=Int.emod_lt_of_pos m (show(0:Int) <2 by decide)
 have:m % 2=0∨m % 2=1:=by omega
 rcases this with e | e <;> rw [e]
 ·exact⟨6,rfl,.inl rfl⟩
 ·exact⟨7,rfl,.inr rfl⟩
theorem JL {one other:Str} {os os1:List Str} (h:os.Perm (other:: os1)):(one:: os).Perm ([one,other] ++ os1):=h.cons one
theorem Wv {one other third:Str} {os os1 os2:List Str} (h:os.Perm (other:: os1)) (h2:os1.Perm (third:: os2)):(one:: os).Perm ([one,other,third] ++ os2):=(h.trans (h2.cons other)).cons one
inductive An (vs:List V) (H:Hp) (Q:VK) (E:XK):Prop where
 | mk:∀(d:Dw) (ls:List aG) (ps:List PD) (os:List Str) (c:Int) (one:Str) (back:List Str) (odd:Bool),vs=[.ref d.S,.int c,.str one,.bl odd]->nW d H ls ps os->Drawn.WF (uQ ls ps (one:: os) back)->os≠[]->os.length<=3->ls.length<=20->ps.length<=22->(∀ls' ps' os' H',Yi d H H' ls ps back ls' ps' os'->Q .non H')->An vs H Q E
theorem Je (T:Txt w K mg t):FO P w K mg base 5 t.DK ["_law_state", "_law_cell_here", "_law_one", "_law_odd"] (An):=by
 have sc:=T.wV.sc ["_law_state", "_law_cell_here", "_law_one", "_law_odd", "_law_other", "_law_way", "_law_third"]
 refine T.wV.F.ok sc ln (fun _ _ _ _ H vs Q E hr h=>?_)
 obtain⟨d,ls,ps,os,c,one,back,odd,rfl,D,w,hne,ho,hls,hps,k⟩:=h
 refine⟨_,(aq (sN sc 4 (dC (sO T) T.lH hr (aa (pv 0) (aa (dC (aX T) T.bf hr (aa (pv 1) (aa au ak ao) aj)) ak aY) aj)))
  (aq (sN sc 5 (bx bW (dC (aX T) T.bf hr (aa (pv 1) (aa au ak ao) aj)) au))
  (aA (eG (bM (PW.pt (wB (fW (pv 3)) (wB (bc yh (pv 5) au (bH _)) (u5 (bc Iv (bw bV (by rfl) T.fX dG (aa (aR aQ (pv 0) au (fun _ _=>rfl)) ak aF)) au (bH _))))))
   (aq (sN sc 6 (dC (sO T) T.lH hr (aa (pv 0) (aa (dC (aX T) T.bf hr (aa (pv 1) (aa au ak ao) aj)) ak aY) aj)))
   (aA (bK (dC (cH T) T.cC hr (aa (pv 0) (aa (pv 1) (aa bG (aa (bz ak) (aa (bz (aa (pv 2) (aa (pv 4) (aa (pv 6) ak aj) aj) aj)) (aa au ak ao) aV) aV) ao) aj) aj)))))
   (aA (eG (bM (PW.pt (wB (fW (pv 3)) (u5 (bc yh (pv 5) au (bH _)))))
    (aA (bK (dC (cH T) T.cC hr (aa (pv 0) (aa (pv 1) (aa bG (aa (bz ak) (aa (bz (aa (pv 2) (aa (pv 4) ak aj) aj)) (aa au ak ao) aV) aV) ao) aj) aj))))
    (aA (eG (bM (bc fc (bx bW (pv 5) au) au (bH _))
     (aA (bK (dC (cH T) T.cC hr (aa (pv 0) (aa (pv 1) (aa bG (aa (bz ak) (aa (bz (aa (pv 2) (aa (pv 4) ak aj) aj)) (aa au ak ao) aV) aV) ao) aj) aj))))
     (aA (bK (dC (cH T) T.cC hr (aa (pv 0) (aa (pv 1) (aa (aR aQ (bz (aa bG (aa bG ak ao) ao)) (bx bW (pv 5) au) (fun _ _=>rfl)) (aa (bz ak) (aa (bz (aa (pv 2) (aa (pv 4) ak aj) aj)) (aa au ak ao) aV) aV) aF) aj) aj))))))))))))))),?_⟩
 have hl:sizeLine=16777216:=sizeLine_eq
 refine⟨_,rfl,_,rfl,_,_,rfl,d,ls,ps,os,_,rfl,D,hne,by omega,fun other os1 H1 p1 s1 D1=>?_⟩
 have l1:=p1.length_eq
 rw [List.length_cons] at l1
 refine⟨_,rfl,_,_,rfl,_,_,rfl,rfl,by show(0:Int) <6;decide,?_⟩
 refine⟨fun _ H'=>Q .non H',?_,fun _ _ h=>h⟩
 have fin:∀{i:Nat} {nm:Str} {newl:List aG} {ins os2:List Str} {H':Hp},aJ (bA d.E H) (bA d.E H')->nW d H' (ls ++ newl) (ps ++ [⟨i,nm,[],ins,newl.map (·.name)⟩]) (os2 ++ newl.map (·.name))->(one:: os).Perm (ins ++ os2)->newl.length≠0->newl.length<=2->os2.length+newl.length<=4->Q .non H':=fun s DD hp h1 h2 h4=>
  k _ _ _ _ ⟨s,DD,rF w rfl DD hp h1 (by rw [lP];omega),by rw [lP,lM];omega,by rw [lP,lM];omega,by rw [lP];omega,by rw [lP,List.length_singleton];omega,fun c=>c.app⟩
 cases odd
 ·refine⟨_,rfl,false,rfl,cz (cz ?_)⟩
  refine⟨fun _ H'=>Q .non H',?_,fun _ _ h=>h⟩
  refine⟨_,rfl,false,rfl,cz (cz ?_)⟩
  refine⟨fun _ H'=>Q .non H',?_,fun _ _ h=>h⟩
  refine⟨_,rfl,_,_,rfl,rfl,by show(0:Int) <3;decide,rfl,_,rfl,jG (fun _=>?_) (fun _=>?_)⟩
  ·refine⟨_,rfl,_,rfl,iw,fun a1 n1=>⟨_,rfl,_,rfl,iw,fun a2 n2=>?_⟩⟩
   obtain⟨D9,z1,z2,z3⟩:=D1.two n1 n2 (y:=.lst [.str one,.str other])
   refine⟨d,_,_,os1,_,8,a1,a2,[],[one,other],2,rfl,D9,z1,z2,by omega,rfl,by simp,rfl,rfl,by omega,by omega,by omega,fun newl H8 hn s8 D8=>?_⟩
   exact fin (s1.trans (z3.trans s8)) D8 (JL p1) (by omega) (by omega) (by omega)
  ·refine⟨_,rfl,_,rfl,iw,fun a0 n0=>?_⟩
   have s0:=aB (o:=.lst [.str "add",.str "less"]) n0
   have D0:=D1.keep s0
   have c0:=D1.cut s0
   refine⟨_,rfl,_,_,rfl,rfl,by show(0:Int) <2;decide,?_⟩
   obtain⟨i,ei,hi⟩:=U6 (b7 c 6 % 6)
   refine⟨a0,_,_,_,rfl,rfl,bI.of az,ei,?_⟩
   generalize upd H1 a0 (.lst [.str "add",.str "less"])=H0 at s0 D0 c0 ⊢
   have hN:([]:List Int).length=cN i:=by rcases hi with rfl | rfl <;> rfl
   have hI:[one,other].length=cI i:=by rcases hi with rfl | rfl <;> rfl
   have hO:1=cO i:=by rcases hi with rfl | rfl <;> rfl
   refine⟨iw,fun a1 n1=>⟨_,rfl,_,rfl,iw,fun a2 n2=>?_⟩⟩
   obtain⟨D9,z1,z2,z3⟩:=D0.two n1 n2 (y:=.lst [.str one,.str other])
   refine⟨d,_,_,os1,_,i,a1,a2,[],[one,other],1,rfl,D9,z1,z2,by omega,hN,by simp,hI,hO,by omega,by omega,by omega,fun newl H8 hn s8 D8=>?_⟩
   exact fin (s1.trans (c0.trans (z3.trans s8))) D8 (JL p1) (by omega) (by omega) (by omega)
 ·refine⟨_,rfl,true,rfl,fU ⟨_,rfl,_,_,rfl,rfl,_,rfl,Dc ?_ (fun h2 b=>?_) (fun b=>b)⟩⟩
  ·refine⟨fun _ H'=>Q .non H',?_,fun _ _ h=>h⟩
   refine⟨_,rfl,true,rfl,fU ?_⟩
   refine⟨_,rfl,_,_,rfl,rfl,_,rfl,jG (fun h5=>?_) (fun h5=>?_)⟩
   ·refine⟨_,rfl,_,rfl,iw,fun a1 n1=>⟨_,rfl,_,rfl,iw,fun a2 n2=>?_⟩⟩
    obtain⟨D9,z1,z2,z3⟩:=D1.two n1 n2 (y:=.lst [.str one,.str other])
    refine⟨d,_,_,os1,_,10,a1,a2,[],[one,other],2,rfl,D9,z1,z2,by omega,rfl,by simp,rfl,rfl,by omega,by omega,by omega,fun newl H8 hn s8 D8=>?_⟩
    exact fin (s1.trans (z3.trans s8)) D8 (JL p1) (by omega) (by omega) (by omega)
   ·refine⟨fun _ H'=>Q .non H',?_,fun _ _ h=>h⟩
    refine⟨_,rfl,_,_,rfl,rfl,by show(0:Int) <3;decide,rfl,_,rfl,jG (fun _=>?_) (fun _=>?_)⟩
    ·refine⟨_,rfl,_,rfl,iw,fun a1 n1=>⟨_,rfl,_,rfl,iw,fun a2 n2=>?_⟩⟩
     obtain⟨D9,z1,z2,z3⟩:=D1.two n1 n2 (y:=.lst [.str one,.str other])
     refine⟨d,_,_,os1,_,8,a1,a2,[],[one,other],2,rfl,D9,z1,z2,by omega,rfl,by simp,rfl,rfl,by omega,by omega,by omega,fun newl H8 hn s8 D8=>?_⟩
     exact fin (s1.trans (z3.trans s8)) D8 (JL p1) (by omega) (by omega) (by omega)
    ·refine⟨_,rfl,_,rfl,iw,fun a0 n0=>?_⟩
     have s0:=aB (o:=.lst [.str "add",.str "less"]) n0
     have D0:=D1.keep s0
     have c0:=D1.cut s0
     refine⟨_,rfl,_,_,rfl,rfl,by show(0:Int) <2;decide,?_⟩
     obtain⟨i,ei,hi⟩:=U6 (b7 c 6 % 6)
     refine⟨a0,_,_,_,rfl,rfl,bI.of az,ei,?_⟩
     generalize upd H1 a0 (.lst [.str "add",.str "less"])=H0 at s0 D0 c0 ⊢
     have hN:([]:List Int).length=cN i:=by rcases hi with rfl | rfl <;> rfl
     have hI:[one,other].length=cI i:=by rcases hi with rfl | rfl <;> rfl
     have hO:1=cO i:=by rcases hi with rfl | rfl <;> rfl
     refine⟨iw,fun a1 n1=>⟨_,rfl,_,rfl,iw,fun a2 n2=>?_⟩⟩
     obtain⟨D9,z1,z2,z3⟩:=D0.two n1 n2 (y:=.lst [.str one,.str other])
     refine⟨d,_,_,os1,_,i,a1,a2,[],[one,other],1,rfl,D9,z1,z2,by omega,hN,by simp,hI,hO,by omega,by omega,by omega,fun newl H8 hn s8 D8=>?_⟩
     exact fin (s1.trans (c0.trans (z3.trans s8))) D8 (JL p1) (by omega) (by omega) (by omega)
  ·refine⟨_,rfl,d.S,_,2,_,rfl,rfl,D1.seqS,aM (j:=2) rfl,.ref d.O,os1.length,rfl,.inl ⟨_,bI.of D1.opens,by simp⟩,_,_,rfl,rfl,_,rfl,jG (fun h3=>?_) (fun _=>b)⟩
   have hne1:os1≠[]:=fun z=>by rw [z] at h3;exact absurd (of_decide_eq_true h3) (by decide)
   refine⟨_,rfl,_,rfl,_,_,rfl,d,ls,ps,os1,_,rfl,D1,hne1,by omega,fun third os2 H2 p2 s2 D2=>?_⟩
   have l2:=p2.length_eq
   rw [List.length_cons] at l2
   refine⟨_,rfl,_,rfl,iw,fun a1 n1=>⟨_,rfl,_,rfl,_,rfl,iw,fun a2 n2=>?_⟩⟩
   obtain⟨D9,z1,z2,z3⟩:=D2.two n1 n2 (y:=.lst [.str one,.str other,.str third])
   refine⟨d,_,_,os2,_,9,a1,a2,[],[one,other,third],1,rfl,D9,z1,z2,by omega,rfl,by simp,rfl,rfl,by omega,by omega,by omega,fun newl H8 hn s8 D8=>?_⟩
   exact fin (s1.trans (s2.trans (z3.trans s8))) D8 (Wv p1 p2) (by omega) (by omega) (by omega)
inductive yH (vs:List V) (H:Hp) (Q:VK) (E:XK):Prop where
 | mk:∀(d:Dw) (ls:List aG) (ps:List PD) (os:List Str) (c:Int) (one:Str) (back:List Str),vs=[.ref d.S,.int c,.str one]->nW d H ls ps os->Drawn.WF (uQ ls ps (one:: os) back)->os.length<=3->ls.length<=20->ps.length<=22->(∀ls' ps' os' H',Yi d H H' ls ps back ls' ps' os'->Q .non H')->yH vs H Q E
theorem Hz (T:Txt w K mg t):FO P w K mg base 4 t.zH ["_law_state", "_law_cell_here", "_law_one"] (yH):=by
 have sc:=T.ur.sc ["_law_state", "_law_cell_here", "_law_one", "_law_own", "_law_fresh"]
 refine T.ur.F.ok sc ln (fun _ _ _ _ H vs Q E hr h=>?_)
 obtain⟨d,ls,ps,os,c,one,back,rfl,D,w,ho,hls,hps,k⟩:=h
 refine⟨_,(aq (sN sc 3 (dC (jX T) T.iT hr (aa (pv 0) (aa (dC (aX T) T.bf hr (aa (pv 1) (aa au ak ao) aj)) (aa jT ak ao) aY) aj)))
  (aq (sN sc 4 (dC (jX T) T.iT hr (aa (pv 0) (aa (dC (aX T) T.bf hr (aa (pv 1) (aa au ak ao) aj)) (aa jT ak ao) aY) aj)))
  (aq (bK (Jw (aR aQ (pv 0) au (fun _ _=>rfl)) (aa (cg (aa bG (aa (dC (mW T) T.jB hr (aa (aR aQ (pv 0) au (fun _ _=>rfl)) (aa (bw bV (by rfl) T.fX dG (aa (aR aQ (pv 0) au (fun _ _=>rfl)) ak aF)) ak aY) aF)) (aa (bz ak) (aa (bz (aa (pv 2) (aa (pv 3) ak aj) aj)) (aa (bz (aa (pv 3) (aa (pv 4) ak aj) aj)) ak aV) aV) aV) aY) ao)) ak cP)))
  (aA (bK (Jw (aR aQ (pv 0) au (fun _ _=>rfl)) (aa (pv 4) ak aj))))))),?_⟩
 have hl:sizeLine=16777216:=sizeLine_eq
 refine⟨_,rfl,_,rfl,_,_,rfl,d,ls,ps,os,_,true,rfl,D,by omega,fun l1 H1 e1 s1 D1=>?_⟩
 refine⟨_,rfl,_,rfl,_,_,rfl,d,ls ++ [l1],ps,os,_,false,rfl,D1,by rw [lP,List.length_singleton];omega,fun l2 H2 e2 s2 D2=>?_⟩
 have s12:=s1.trans s2
 obtain⟨xs,eP,aP⟩:=D2.parts
 have xl:=aP.length
 refine⟨_,rfl,d.S,_,1,_,rfl,rfl,D2.seqS,aM (j:=1) rfl,.inl ⟨rfl,_,bI.of eP⟩,?_⟩
 refine⟨_,rfl,d.S,_,4,_,rfl,rfl,D2.seqS,aM (j:=4) rfl,?_⟩
 refine⟨_,rfl,d.S,_,1,_,rfl,rfl,D2.seqS,aM (j:=1) rfl,.ref d.P,ps.length,rfl,.inl ⟨_,bI.of eP,xl.symm⟩,?_⟩
 refine⟨d.c4,ps.length,rfl,by omega,fun H3 s3=>?_⟩
 have D3:=D2.keep s3
 have c3:=s12.trans (D2.cut s3)
 have eP3:=s3 _ _ eP
 refine⟨iw,fun a1 n1=>⟨_,rfl,_,rfl,iw,fun a2 n2=>⟨_,rfl,_,rfl,iw,fun a3 n3=>⟨iw,fun q nq=>?_⟩⟩⟩⟩
 obtain⟨D4,z1,z2,z3⟩:=D3.two n1 n2 (y:=.lst [.str one,.str l1.name])
 have t4:aJ H3 (upd (upd H3 a1 (.lst [])) a2 (.lst [.str one,.str l1.name])):=(aB n1).trans (aB n2)
 have eP4:=t4 _ _ eP3
 generalize upd (upd H3 a1 (.lst [])) a2 (.lst [.str one,.str l1.name])=H4 at D4 z1 z2 z3 t4 eP4 n3 nq ⊢
 obtain⟨D5,y1,y2,y3⟩:=D4.two n3 nq (y:=.tup [.str "order",.str (cL d.c4 ps.length),.ref a1,.ref a2,.ref a3])
 have t5:aJ H4 (upd (upd H4 a3 (.lst [.str l1.name,.str l2.name])) q (.tup [.str "order",.str (cL d.c4 ps.length),.ref a1,.ref a2,.ref a3])):=(aB n3).trans (aB nq)
 have eP5:=t5 _ _ eP4
 generalize upd (upd H4 a3 (.lst [.str l1.name,.str l2.name])) q (.tup [.str "order",.str (cL d.c4 ps.length),.ref a1,.ref a2,.ref a3])=H5 at D5 y1 y2 y3 t5 eP5 ⊢
 have c5:=c3.trans (z3.trans y3)
 refine⟨d.P,xs,_,rfl,rfl,eP5,by omega,?_⟩
 have D6:=D5.part (p:=⟨8,cL d.c4 ps.length,[],[one,l1.name],[l1.name,l2.name]⟩) ⟨q,a1,a2,a3,rfl,y2,y3 _ _ z1,y3 _ _ z2,y1⟩ ⟨by show 8 <11;omega,rfl,rfl,rfl,by simp⟩ rfl eP5
 have c6:bA d.E (upd H5 d.P (.lst (xs ++ [.ref q])))=bA d.E H5:=dW (by simp)
 generalize upd H5 d.P (.lst (xs ++ [.ref q]))=H6 at D6 c6 ⊢
 refine⟨_,rfl,d.S,_,2,_,rfl,rfl,D6.seqS,aM (j:=2) rfl,.inl ⟨rfl,_,bI.of D6.opens⟩,_,rfl,d.O,_,_,rfl,rfl,D6.opens,by rw [lM];omega,?_⟩
 have D7:=D6.open (os':=os ++ [l2.name])
 rw [List.map_append] at D7
 have nd:=D7.nod (by rw [lP,lP,List.length_singleton,List.length_singleton];omega)
 have wl:=w.loop (p:=⟨8,cL d.c4 ps.length,[],[one,l1.name],[l1.name,l2.name]⟩) (rest:=os) (one:=one) (own:=l1.name) (fresh:=l2.name) rfl rfl (.refl _) (by simpa using nd)
 refine k _ _ _ _ ⟨by rw [dW (by simp),c6];exact c5,D7,by simpa [uQ] using wl,by rw [lP,List.length_singleton];omega,by rw [lP,List.length_singleton];omega,by simp,by simp,fun c=>c.app⟩
inductive xK (vs:List V) (H:Hp) (Q:VK) (E:XK):Prop where
 | mk:∀(d:Dw) (ls:List aG) (ps:List PD) (os:List Str) (c:Int) (back:List Str) (odd:Bool),vs=[.ref d.S,.int c,.bl odd]->nW d H ls ps os->Drawn.WF (uQ ls ps os back)->os≠[]->os.length<=4->ls.length<=20->ps.length<=22->(∀ls' ps' os' H',Yi d H H' ls ps back ls' ps' os'->Q .non H')->xK vs H Q E
theorem Hb (T:Txt w K mg t):FO P w K mg base 6 t.zX ["_law_state", "_law_cell_here", "_law_odd"] (xK):=by
 have sc:=T.uo.sc ["_law_state", "_law_cell_here", "_law_odd", "_law_way", "_law_one"]
 refine T.uo.F.ok sc ln (fun _ _ _ _ H vs Q E hr h=>?_)
 obtain⟨d,ls,ps,os,c,back,odd,rfl,D,w,hne,ho,hls,hps,k⟩:=h
 refine⟨_,(aq (sN sc 3 (bx bW (dC (aX T) T.bf hr (aa (pv 1) (aa au ak ao) aj)) au))
  (aq (sN sc 4 (dC (sO T) T.lH hr (aa (pv 0) (aa (dC (aX T) T.bf hr (aa (pv 1) (aa au ak ao) aj)) ak aY) aj)))
  (aA (eG (bM (PW.pt (wB (bc yh (pv 3) au (bH _)) (u5 (bc yh (bw bV (by rfl) T.fX dG (aa (aR aQ (pv 0) au (fun _ _=>rfl)) ak aF)) au (bH _)))))
   (aA (bK (dC (cH T) T.cC hr (aa (pv 0) (aa (pv 1) (aa bG (aa (bz ak) (aa (bz (aa (pv 4) ak aj)) (aa au ak ao) aV) aV) ao) aj) aj))))
   (aA (eG (bM (bc fc (pv 3) au (bH _))
    (aq (bK (dC (cH T) T.cC hr (aa (pv 0) (aa (pv 1) (aa bG (aa (bz ak) (aa (bz (aa (pv 4) ak aj)) (aa au ak ao) aV) aV) ao) aj) aj)))
    (aA (bK (dC (cH T) T.cC hr (aa (pv 0) (aa (pv 1) (aa bG (aa (bz ak) (aa (bz (aa (Gp PySem.F.plainAttrs_list PySem.F.slot_list_pop PySem.F.type_list_pop Ka (aR aQ (pv 0) au (fun _ _=>rfl))) ak aY)) (aa au ak ao) aV) aV) ao) aj) aj)))))
    (aA (eG (bM (PW.pt (wB (bc yh (pv 3) au (bH _)) (u5 (bc Iv (bw bV (by rfl) T.fX dG (aa (aR aQ (pv 0) au (fun _ _=>rfl)) ak aF)) au (bH _)))))
     (aA (bK (dC (Je T) T.wV hr (aa (pv 0) (aa (pv 1) (aa (pv 4) (aa (pv 2) ak aj) aj) aj) aj))))
     (aA (eG (bM (bc yh (pv 3) au (bH _))
      (aA (bK (dC (cH T) T.cC hr (aa (pv 0) (aa (pv 1) (aa bG (aa (bz (aa (dC (ie T) T.fK hr (aa (pv 1) (aa au ak ao) aj)) (aa (dC (ie T) T.fK hr (aa (pv 1) (aa au ak ao) aj)) ak aY) aY)) (aa (bz (aa (pv 4) ak aj)) (aa au ak ao) aV) aV) ao) aj) aj))))
      (aA (eG (bM (bc fc (pv 3) au (bH _))
       (aA (bK (dC (cH T) T.cC hr (aa (pv 0) (aa (pv 1) (aa bG (aa (bz (aa (dC (ie T) T.fK hr (aa (pv 1) (aa au ak ao) aj)) ak aY)) (aa (bz (aa (pv 4) ak aj)) (aa au ak ao) aV) aV) ao) aj) aj))))
       (aA (eG (bM (bc fc (bx bW (dC (aX T) T.bf hr (aa (pv 1) (aa au ak ao) aj)) au) au (bH _))
        (aA (bK (dC (Hz T) T.ur hr (aa (pv 0) (aa (pv 1) (aa (pv 4) ak aj) aj) aj))))
        (aA (bK (dC (cH T) T.cC hr (aa (pv 0) (aa (pv 1) (aa bG (aa (bz ak) (aa (bz (aa (pv 4) ak aj)) (aa au ak ao) aV) aV) ao) aj) aj)))))))))))))))))))))))),?_⟩
 have hl:sizeLine=16777216:=sizeLine_eq
 refine⟨_,rfl,_,_,rfl,_,_,rfl,rfl,by show(0:Int) <9;decide,?_⟩
 refine⟨_,rfl,_,rfl,_,_,rfl,d,ls,ps,os,_,rfl,D,hne,by omega,fun one os1 H1 p1 s1 D1=>?_⟩
 have w1:Drawn.WF (uQ ls ps (one:: os1) back):=VF w p1
 have lo:=p1.length_eq
 rw [List.length_cons] at lo
 have fin:∀{i:Nat} {nm:Str} {nums:List Int} {newl:List aG} {ins os2:List Str} {H':Hp},aJ (bA d.E H) (bA d.E H')->nW d H' (ls ++ newl) (ps ++ [⟨i,nm,nums,ins,newl.map (·.name)⟩]) (os2 ++ newl.map (·.name))->(one:: os1).Perm (ins ++ os2)->newl.length≠0->newl.length<=2->os2.length+newl.length<=4->Q .non H':=fun s DD hp h1 h2 h4=>
  k _ _ _ _ ⟨s,DD,rF w1 rfl DD hp h1 (by rw [lP];omega),by rw [lP,lM];omega,by rw [lP,lM];omega,by rw [lP];omega,by rw [lP,List.length_singleton];omega,fun c=>c.app⟩
 refine⟨fun _ H'=>Q .non H',?_,fun _ _ h=>h⟩
 refine⟨_,rfl,_,_,rfl,rfl,_,rfl,Dc ?_ (fun h2 b=>?_) (fun b=>b)⟩
 ·refine⟨fun _ H'=>Q .non H',?_,fun _ _ h=>h⟩
  refine⟨_,rfl,rfl,_,rfl,jG (fun _=>?_) (fun _=>?_)⟩
  ·refine⟨_,rfl,_,rfl,iw,fun a1 n1=>⟨_,rfl,iw,fun a2 n2=>?_⟩⟩
   obtain⟨D9,z1,z2,z3⟩:=D1.two n1 n2 (y:=.lst [.str one])
   refine⟨d,_,_,os1,_,3,a1,a2,[],[one],2,rfl,D9,z1,z2,by omega,rfl,by simp,rfl,rfl,by omega,by omega,by omega,fun newl H8 hn s8 D8=>?_⟩
   obtain⟨l1,l2,rfl⟩:∃l1 l2,newl=[l1,l2]:=by
    match newl,hn with
    | [x,y],_=>exact⟨x,y,rfl⟩
   have w8:=rF w1 rfl D8 (.refl _) (by simp) (by simp;omega)
   have s18:=s1.trans (z3.trans s8)
   clear D9 z1 z2 z3 n1 n2 s8
   refine⟨_,rfl,_,rfl,iw,fun a3 n3=>?_⟩
   have s3:=aB (o:=.lst []) n3
   have D3:=D8.keep s3
   have c3:=s18.trans (D8.cut s3)
   have o3:=D8.out n3
   have e3:upd H8 a3 (.lst []) a3=some (.lst ([]:List V)):=az
   generalize upd H8 a3 (.lst [])=H3 at s3 D3 c3 e3 ⊢
   have eo:((os1 ++ [l1,l2].map (·.name)).map V.str)=((os1 ++ [l1.name]).map V.str) ++ [.str l2.name]:=by simp
   have hop:=D3.opens
   rw [eo] at hop
   refine⟨_,rfl,d.S,_,2,_,rfl,rfl,D3.seqS,aM (j:=2) rfl,.inl ⟨rfl,_,bI.of D3.opens⟩,d.O,_,.str l2.name,rfl,rfl,hop,by rw [lP,List.length_singleton,Nat.add_sub_cancel];exact List.getElem?_concat_length,?_⟩
   rw [List.dropLast_concat]
   have D4:=D3.open (os':=os1 ++ [l1.name])
   have c4:bA d.E (upd H3 d.O (.lst ((os1 ++ [l1.name]).map V.str)))=bA d.E H3:=dW (by simp)
   have e4:=dU e3 o3
   generalize upd H3 d.O (.lst ((os1 ++ [l1.name]).map V.str))=H4 at D4 c4 ⊢
   refine⟨iw,fun a4 n4=>?_⟩
   have s5:=aB (o:=.lst [.str l2.name]) n4
   have D5:=D4.keep s5
   have c5:=D4.cut s5
   rw [c4] at c5
   have e5:=dU (E:=d.E) (H:=upd H4 a4 (.lst [.str l2.name])) az (D4.out n4)
   refine⟨d,ls ++ [l1,l2],_,os1 ++ [l1.name],_,1,a3,a4,[],[l2.name],0,rfl,D5,c5 _ _ e4,e5,by omega,rfl,by simp,rfl,rfl,by simp;omega,by simp;omega,by simp;omega,fun newl2 H9 hn2 s9 D9=>?_⟩
   have hz:newl2=[]:=List.length_eq_zero_iff.mp hn2
   subst hz
   have wt:=w8.take (p:=⟨1,cL d.c4 (ps ++ [(⟨3,cL d.c4 ps.length,[],[one],[l1,l2].map (·.name)⟩:PD)]).length,[],[l2.name],[]⟩) (rest:=os1 ++ [l1.name]) (y:=l2.name) (x:=l1.name) rfl rfl (by
     show(os1 ++ [l1.name,l2.name]).Perm (l2.name:: (os1 ++ [l1.name]))
     rw [show os1 ++ [l1.name,l2.name]=(os1 ++ [l1.name]) ++ [l2.name] by simp]
     exact List.perm_append_comm) (by simp) (Drawn.jj.part (p:=⟨3,cL d.c4 ps.length,[],[one],[l1,l2].map (·.name)⟩) (by simp) (by simp) (by simp))
   rw [List.map_nil,List.append_nil,List.append_nil] at D9
   exact k _ _ _ _ ⟨c3.trans (c5.trans s9),D9,wt,by simp,by simp;omega,by simp,by simp,fun c=>c.app.app⟩
  ·refine⟨fun _ H'=>Q .non H',?_,fun _ _ h=>h⟩
   refine⟨_,rfl,_,_,rfl,rfl,_,rfl,Dc ?_ (fun h2 b=>?_) (fun b=>b)⟩
   ·refine⟨fun _ H'=>Q .non H',?_,fun _ _ h=>h⟩
    refine⟨_,rfl,_,_,rfl,rfl,_,rfl,jG (fun _=>?_) (fun _=>?_)⟩
    ·refine⟨_,rfl,_,rfl,_,rfl,c,8,rfl,_,rfl,c,9,rfl,iw,fun a1 n1=>⟨_,rfl,iw,fun a2 n2=>?_⟩⟩
     obtain⟨D9,z1,z2,z3⟩:=D1.two n1 n2 (y:=.lst [.str one])
     refine⟨d,_,_,os1,_,4,a1,a2,[pC c 8,pC c 9],[one],1,rfl,D9,z1,z2,by omega,rfl,?_,rfl,rfl,by omega,by omega,by omega,fun newl H8 hn s8 D8=>?_⟩
     ·intro v hv
      rcases List.mem_cons.mp hv with rfl | hv
      ·exact oA _ _
      ·rw [List.mem_singleton] at hv
       subst hv
       exact oA _ _
     exact fin (s1.trans (z3.trans s8)) D8 (.refl _) (by omega) (by omega) (by omega)
    ·refine⟨fun _ H'=>Q .non H',?_,fun _ _ h=>h⟩
     refine⟨_,rfl,rfl,_,rfl,jG (fun _=>?_) (fun _=>?_)⟩
     ·refine⟨_,rfl,_,rfl,_,rfl,c,8,rfl,iw,fun a1 n1=>⟨_,rfl,iw,fun a2 n2=>?_⟩⟩
      obtain⟨D9,z1,z2,z3⟩:=D1.two n1 n2 (y:=.lst [.str one])
      refine⟨d,_,_,os1,_,5,a1,a2,[pC c 8],[one],1,rfl,D9,z1,z2,by omega,rfl,?_,rfl,rfl,by omega,by omega,by omega,fun newl H8 hn s8 D8=>?_⟩
      ·intro v hv
       rw [List.mem_singleton] at hv
       subst hv
       exact oA _ _
      exact fin (s1.trans (z3.trans s8)) D8 (.refl _) (by omega) (by omega) (by omega)
     ·refine⟨fun _ H'=>Q .non H',?_,fun _ _ h=>h⟩
      refine⟨_,rfl,_,_,rfl,_,_,rfl,rfl,by show(0:Int) <2;decide,rfl,_,rfl,jG (fun _=>?_) (fun _=>?_)⟩
      ·exact⟨_,rfl,_,rfl,_,rfl,d,ls,ps,os1,c,one,back,rfl,D1,w1,by omega,hls,hps,fun ls' ps' os' H' X=>k ls' ps' os' H' ⟨s1.trans X.cut,X.at',X.wf,X.o1,X.o4,X.l2,X.p2,X.gv⟩⟩
      ·refine⟨_,rfl,_,rfl,iw,fun a1 n1=>⟨_,rfl,iw,fun a2 n2=>?_⟩⟩
       obtain⟨D9,z1,z2,z3⟩:=D1.two n1 n2 (y:=.lst [.str one])
       refine⟨d,_,_,os1,_,2,a1,a2,[],[one],1,rfl,D9,z1,z2,by omega,rfl,by simp,rfl,rfl,by omega,by omega,by omega,fun newl H8 hn s8 D8=>?_⟩
       exact fin (s1.trans (z3.trans s8)) D8 (.refl _) (by omega) (by omega) (by omega)
   ·refine⟨_,rfl,d.S,_,2,_,rfl,rfl,D1.seqS,aM (j:=2) rfl,.ref d.O,os1.length,rfl,.inl ⟨_,bI.of D1.opens,by simp⟩,_,_,rfl,rfl,_,rfl,jG (fun h3=>?_) (fun _=>b)⟩
    have hne1:os1≠[]:=fun z=>by rw [z] at h3;exact absurd (of_decide_eq_true h3) (by decide)
    exact⟨_,rfl,_,rfl,_,rfl,_,rfl,d,ls,ps,os1,c,one,back,odd,rfl,D1,w1,hne1,by omega,hls,hps,fun ls' ps' os' H' X=>k ls' ps' os' H' ⟨s1.trans X.cut,X.at',X.wf,X.o1,X.o4,X.l2,X.p2,X.gv⟩⟩
 ·refine⟨_,rfl,d.S,_,2,_,rfl,rfl,D1.seqS,aM (j:=2) rfl,.ref d.O,os1.length,rfl,.inl ⟨_,bI.of D1.opens,by simp⟩,_,_,rfl,rfl,_,rfl,jG (fun h3=>?_) (fun _=>b)⟩
  have h3:os1.length <3:=by have:=of_decide_eq_true h3;omega
  refine⟨_,rfl,_,rfl,iw,fun a1 n1=>⟨_,rfl,iw,fun a2 n2=>?_⟩⟩
  obtain⟨D9,z1,z2,z3⟩:=D1.two n1 n2 (y:=.lst [.str one])
  refine⟨d,_,_,os1,_,3,a1,a2,[],[one],2,rfl,D9,z1,z2,by omega,rfl,by simp,rfl,rfl,by omega,by omega,by omega,fun newl H8 hn s8 D8=>?_⟩
  exact fin (s1.trans (z3.trans s8)) D8 (.refl _) (by omega) (by omega) (by omega)
inductive tX (vs:List V) (H:Hp) (Q:VK) (E:XK):Prop where
 | mk:∀(d:Dw) (ls:List aG) (ps:List PD) (os:List Str) (c:Int) (B:Addr) (back:List Str),vs=[.ref d.S,.int c,.ref B]->nW d H ls ps os->Drawn.WF (uQ ls ps os back)->bA d.E H B=some (.lst (back.map V.str))->os≠[]->os.length<=4->back.length<=2->ls.length<=12->ps.length<=10->JN ps->(∀ls' ps' H',aJ (bA d.E H) (bA d.E H')->nW d H' ls' ps' []->Ei (ls'.map (·.name)) ps'->ls'.length<=17->ls.length<=ls'.length->ps'.length<=16->1<=ps'.length->JN ps'->Q .non H')->tX vs H Q E
theorem Dh (T:Txt w K mg t):FO P w K mg base 5 t.wu ["_law_state", "_law_cell_here", "_law_back"] (tX):=by
 have sc:=T.qQ.sc ["_law_state", "_law_cell_here", "_law_back", "_law_one", "_law_other", "_law_kind", "_law_lane_here", "_law_fresh"]
 refine T.qQ.F.ok sc ln (fun _ _ _ _ H vs Q E hr h=>?_)
 obtain⟨d,ls,ps,os,c,B,back,rfl,D,w,eB,hne,ho,hb,hls,hps,hC,k⟩:=h
 refine⟨_,(aq (Ih PassesOwn.never (bc Iv (bw bV (by rfl) T.fX dG (aa (aR aQ (pv 0) au (fun _ _=>rfl)) ak aF)) au (bH _))
   (aq (sN sc 3 (Dq PySem.F.plainAttrs_list PySem.F.slot_list_pop PySem.F.type_list_pop Cw (aR aQ (pv 0) au (fun _ _=>rfl)) (aa au ak ao)))
   (aq (sN sc 4 (Dq PySem.F.plainAttrs_list PySem.F.slot_list_pop PySem.F.type_list_pop Cw (aR aQ (pv 0) au (fun _ _=>rfl)) (aa au ak ao)))
   (aq (sN sc 5 (aR aQ (bz (aa bG (aa bG (aa bG ak ao) ao) ao)) (bx bW (dC (aX T) T.bf hr (aa (pv 1) (aa (bw bV (by rfl) T.fX dG (aa (aR aQ (pv 0) au (fun _ _=>rfl)) ak aF)) ak aY) aj)) au) (fun _ _=>rfl)))
   (aA (bK (dC (cH T) T.cC hr (aa (pv 0) (aa (dC (aX T) T.bf hr (aa (pv 1) (aa (bx dm au (bw bV (by rfl) T.fX dG (aa (aR aQ (pv 0) au (fun _ _=>rfl)) ak aF))) ak bL) aj)) (aa (pv 5) (aa (bz ak) (aa (bz (aa (pv 3) (aa (pv 4) ak aj) aj)) (aa au ak ao) aV) aV) aj) aY) aj))))))))
  (aq (du PassesOwn.never rfl (bN (pv 2)) (gN sc 6)
   (aq (sN sc 3 (Gp PySem.F.plainAttrs_list PySem.F.slot_list_pop PySem.F.type_list_pop Ka (aR aQ (pv 0) au (fun _ _=>rfl))))
   (aq (sN sc 7 (dC (jX T) T.iT hr (aa (pv 0) (aa (dC (aX T) T.bf hr (aa (pv 1) (aa (bx dm au (bw bV (by rfl) T.fX dG (aa (aR aQ (pv 0) au (fun _ _=>rfl)) ak aF))) ak bL) aj)) (aa jT ak ao) aY) aj)))
   (aq (bK (Jw (aR aQ (pv 0) au (fun _ _=>rfl)) (aa (cg (aa bG (aa (dC (mW T) T.jB hr (aa (aR aQ (pv 0) au (fun _ _=>rfl)) (aa (bw bV (by rfl) T.fX dG (aa (aR aQ (pv 0) au (fun _ _=>rfl)) ak aF)) ak aY) aF)) (aa (bz ak) (aa (bz (aa (pv 3) ak aj)) (aa (bz (aa (pv 6) (aa (pv 7) ak aj) aj)) ak aV) aV) aV) aY) ao)) ak cP)))
   (aA (bK (Jw (aR aQ (pv 0) au (fun _ _=>rfl)) (aa (pv 7) ak aj))))))))
  (aA (bK (dC (cH T) T.cC hr (aa (pv 0) (aa (pv 1) (aa bG (aa (bz ak) (aa (bz (aa (Gp PySem.F.plainAttrs_list PySem.F.slot_list_pop PySem.F.type_list_pop Ka (aR aQ (pv 0) au (fun _ _=>rfl))) ak aY)) (aa au ak ao) aV) aV) ao) aj) aj)))))),?_⟩
 have hl:sizeLine=16777216:=sizeLine_eq
 have hpos:0 <os.length:=List.length_pos_iff.mpr hne
 refine hide fun u hu=>?_
 refine Jv (fun σ H1=>∃(ls1:List aG) (ps1:List PD) (os1:List Str) (v3 v4 v5:Option V),σ=[some (.ref d.S),some (.int c),some (.ref B),v3,v4,v5,none,none]/\aJ (bA d.E H) (bA d.E H1)/\nW d H1 ls1 ps1 os1/\Drawn.WF (uQ ls1 ps1 os1 back)/\1<=os1.length/\os1.length<=4/\ls.length<=ls1.length/\ls1.length+os1.length<=16/\ps1.length+os1.length<=14/\JN ps1)
  (fun _ H1=>Rx H1 d.O) ⟨ls,ps,os,none,none,none,rfl,aJ.refl _,D,w,by omega,ho,Nat.le_refl _,by omega,by omega,hC⟩ ?_ ?_
 ·rintro σ H1 ⟨ls1,ps1,os1,v3,v4,v5,rfl,s1,D1,w1,o1,o4,hl1,hl2,hp2,hC1⟩
  refine⟨_,rfl,d.S,_,2,_,rfl,rfl,D1.seqS,aM (j:=2) rfl,.ref d.O,os1.length,rfl,.inl ⟨_,bI.of D1.opens,by simp⟩,_,_,rfl,rfl,_,rfl,jG (fun h3=>?_) (fun h3=>?_)⟩
  ·have h3:1 <os1.length:=by have:=of_decide_eq_true h3;omega
   obtain⟨one,other,os2,rfl⟩:∃one other os2,os1=one:: other:: os2:=by
    match os1,h3 with
    | x:: y:: r,_=>exact⟨x,y,r,rfl⟩
   rw [List.length_cons,List.length_cons] at h3 o1 o4 hl2 hp2
   have lm:=JF D1.opens
   refine XD fun De hD u hu=>?_
   refine⟨_,rfl,d.S,_,2,_,rfl,rfl,D1.seqS,aM (j:=2) rfl,.inl ⟨rfl,_,bI.of D1.opens⟩,d.O,_,0,0,.str one,rfl,rfl,D1.opens,by decide,by decide,Kg (by simp),rfl,?_⟩
   have D2:=D1.open (os':=other:: os2)
   have c2:bA d.E (upd H1 d.O (.lst ((other:: os2).map V.str)))=bA d.E H1:=dW (by simp)
   refine dh (v:=u) hu fun u hu=>?_
   change xV _ _ _ _ (upd H1 d.O (.lst ((other:: os2).map V.str)))
   generalize upd H1 d.O (.lst ((other:: os2).map V.str))=H2 at D2 c2 ⊢
   refine⟨_,rfl,d.S,_,2,_,rfl,rfl,D2.seqS,aM (j:=2) rfl,.inl ⟨rfl,_,bI.of D2.opens⟩,d.O,_,0,0,.str other,rfl,rfl,D2.opens,by decide,by decide,Kg (by simp),rfl,?_⟩
   have D3:=D2.open (os':=os2)
   have c3:bA d.E (upd H2 d.O (.lst (os2.map V.str)))=bA d.E H2:=dW (by simp)
   refine dh (v:=u) hu fun u hu=>?_
   change xV _ _ _ _ (upd H2 d.O (.lst (os2.map V.str)))
   generalize upd H2 d.O (.lst (os2.map V.str))=H3 at D3 c3 ⊢
   have s3:aJ (bA d.E H) (bA d.E H3):=by rw [c3,c2];exact s1
   refine⟨iw,fun a0 n0=>?_⟩
   have s0:=aB (o:=.lst [.str "add",.str "less",.str "add"]) n0
   have D0:=D3.keep s0
   have c0:=s3.trans (D3.cut s0)
   refine⟨_,rfl,_,rfl,d.S,_,2,_,rfl,rfl,D0.seqS,aM (j:=2) rfl,.ref d.O,os2.length,rfl,.inl ⟨_,bI.of D0.opens,by simp⟩,c,(os2.length:Int),rfl,_,_,rfl,rfl,by show(0:Int) <3;decide,?_⟩
   obtain⟨i,ei,hi⟩:=Wm (b7 c (os2.length:Int))
   refine⟨a0,_,_,_,rfl,rfl,bI.of az,ei,?_⟩
   generalize upd H3 a0 (.lst [.str "add",.str "less",.str "add"])=H0 at s0 D0 c0 ⊢
   obtain⟨xs,eP,aP⟩:=D0.parts
   have xl:=aP.length
   have hN:([]:List Int).length=cN i:=by rcases hi with rfl | rfl <;> rfl
   have hI:[one,other].length=cI i:=by rcases hi with rfl | rfl <;> rfl
   have hO:1=cO i:=by rcases hi with rfl | rfl <;> rfl
   subst hu
   refine⟨_,rfl,_,rfl,_,rfl,d.S,_,1,_,rfl,rfl,D0.seqS,aM (j:=1) rfl,.ref d.P,ps1.length,rfl,.inl ⟨_,bI.of eP,xl.symm⟩,_,_,rfl,rfl,_,_,rfl,?_⟩
   refine⟨_,rfl,iw,fun a1 n1=>⟨_,rfl,_,rfl,iw,fun a2 n2=>?_⟩⟩
   obtain⟨D9,z1,z2,z3⟩:=D0.two n1 n2 (y:=.lst [.str one,.str other])
   refine⟨d,_,_,os2,_,i,a1,a2,[],[one,other],1,rfl,D9,z1,z2,by omega,hN,by simp,hI,hO,by omega,by omega,by omega,fun newl H8 hn s8 D8=>?_⟩
   have w8:=rF w1 rfl D8 (.refl _) (by omega) (by rw [lP];omega)
   subst hD
   refine⟨⟨_,_,_,_,_,_,rfl,c0.trans (z3.trans s8),D8,w8,?_,?_,?_,?_,?_,hC1.app⟩,?_⟩
   ·rw [lP,lM];omega
   ·rw [lP,lM];omega
   ·rw [lP];omega
   ·rw [lP,lP,lM];omega
   ·rw [lP,lP,lM,List.length_singleton];omega
   ·rw [JF D8.opens,lm,lM,lM,lP,lM,List.length_cons,List.length_cons]
    omega
  ·have h3:os1.length=1:=by
    have:¬(1:Int) <(os1.length:Int):=fun z=>h3 (decide_eq_true z)
    omega
   obtain⟨y,rfl⟩:=List.length_eq_one_iff.mp h3
   refine dh (v:=u) hu fun u hu=>?_
   refine⟨_,rfl,B,rfl,⟨_,bI.of (bR _ _ (s1 _ _ eB))⟩,?_⟩
   refine cJ (K:=K) (a:=B) (xs:=back.map V.str) (fun j σ H2=>∃(ls2:List aG) (ps2:List PD) (y:Str) (u3 u6 u7:Option V),σ=[some (.ref d.S),some (.int c),some (.ref B),u3,v4,v5,u6,u7]/\aJ (bA d.E H) (bA d.E H2)/\nW d H2 ls2 ps2 [y]/\Drawn.WF (uQ ls2 ps2 [y] (back.drop j))/\ls.length<=ls2.length/\ls2.length<=15+j/\ps2.length<=13+j/\JN ps2) ⟨ls1,ps1,y,v3,none,none,rfl,s1,D1,w1,hl1,by have z:=hl2;rw [List.length_singleton] at z;omega,by have z:=hp2;rw [List.length_singleton] at z;omega,hC1⟩ (fun j σ H2 _ ⟨ls2,ps2,y,u3,u6,u7,e,s2,h⟩=>bI.of (bR _ _ (s2 _ _ eB))) ?_ ?_
   ·rintro j x σ H2 hx ⟨ls2,ps2,y2,u3,u6,u7,rfl,s2,D2,w2,hl2',hl3,hp3,hC2⟩
    rw [List.getElem?_map] at hx
    obtain⟨bn,hbn,rfl⟩:=Option.map_eq_some_iff.mp hx
    have hj:j <back.length:=by
     rcases Nat.lt_or_ge j back.length with h | h
     ·exact h
     ·rw [List.getElem?_eq_none h] at hbn;cases hbn
    have hdr:back.drop j=bn:: back.drop (j+1):=by
     rw [List.drop_eq_getElem_cons hj]
     rw [List.getElem?_eq_getElem hj,Option.some.injEq] at hbn
     rw [hbn]
    refine RG fun De hD u hu=>?_
    refine⟨_,rfl,d.S,_,2,_,rfl,rfl,D2.seqS,aM (j:=2) rfl,.inl ⟨rfl,_,bI.of D2.opens⟩,d.O,_,.str y2,rfl,rfl,D2.opens,rfl,?_⟩
    have D3:=D2.open (os':=[])
    have c3:bA d.E (upd H2 d.O (.lst (([]:List Str).map V.str)))=bA d.E H2:=dW (by simp)
    refine dh (v:=u) hu fun u hu=>?_
    change xV _ _ _ _ (upd H2 d.O (.lst (([]:List Str).map V.str)))
    generalize upd H2 d.O (.lst (([]:List Str).map V.str))=H3 at D3 c3 ⊢
    obtain⟨xs,eP,aP⟩:=D3.parts
    have xl:=aP.length
    refine⟨_,rfl,_,rfl,_,rfl,d.S,_,1,_,rfl,rfl,D3.seqS,aM (j:=1) rfl,.ref d.P,ps2.length,rfl,.inl ⟨_,bI.of eP,xl.symm⟩,_,_,rfl,rfl,_,_,rfl,d,ls2,ps2,[],_,false,rfl,D3,by omega,fun l H4 _ s4 D4=>?_⟩
    rw [c3] at s4
    have s24:=s2.trans s4
    obtain⟨xs4,eP4,aP4⟩:=D4.parts
    have xl4:=aP4.length
    refine dh (v:=u) hu fun u hu=>?_
    refine⟨_,rfl,d.S,_,1,_,rfl,rfl,D4.seqS,aM (j:=1) rfl,.inl ⟨rfl,_,bI.of eP4⟩,?_⟩
    refine⟨_,rfl,d.S,_,4,_,rfl,rfl,D4.seqS,aM (j:=4) rfl,?_⟩
    refine⟨_,rfl,d.S,_,1,_,rfl,rfl,D4.seqS,aM (j:=1) rfl,.ref d.P,ps2.length,rfl,.inl ⟨_,bI.of eP4,xl4.symm⟩,?_⟩
    refine⟨d.c4,ps2.length,rfl,by omega,fun H5 s5=>?_⟩
    have D5:=D4.keep s5
    have c5:=s24.trans (D4.cut s5)
    have eP5:=s5 _ _ eP4
    refine⟨iw,fun a1 n1=>⟨_,rfl,iw,fun a2 n2=>⟨_,rfl,_,rfl,iw,fun a3 n3=>⟨iw,fun q nq=>?_⟩⟩⟩⟩
    obtain⟨D6,z1,z2,z3⟩:=D5.two n1 n2 (y:=.lst [.str y2])
    have t6:aJ H5 (upd (upd H5 a1 (.lst [])) a2 (.lst [.str y2])):=(aB n1).trans (aB n2)
    have eP6:=t6 _ _ eP5
    generalize upd (upd H5 a1 (.lst [])) a2 (.lst [.str y2])=H6 at D6 z1 z2 z3 t6 eP6 n3 nq ⊢
    obtain⟨D7,y1,y2',y3⟩:=D6.two n3 nq (y:=.tup [.str "copy",.str (cL d.c4 ps2.length),.ref a1,.ref a2,.ref a3])
    have t7:aJ H6 (upd (upd H6 a3 (.lst [.str bn,.str l.name])) q (.tup [.str "copy",.str (cL d.c4 ps2.length),.ref a1,.ref a2,.ref a3])):=(aB n3).trans (aB nq)
    have eP7:=t7 _ _ eP6
    generalize upd (upd H6 a3 (.lst [.str bn,.str l.name])) q (.tup [.str "copy",.str (cL d.c4 ps2.length),.ref a1,.ref a2,.ref a3])=H7 at D7 y1 y2' y3 t7 eP7 ⊢
    have c7:=c5.trans (z3.trans y3)
    refine⟨d.P,xs4,_,rfl,rfl,eP7,by omega,?_⟩
    have D8:=D7.part (p:=⟨3,cL d.c4 ps2.length,[],[y2],[bn,l.name]⟩) ⟨q,a1,a2,a3,rfl,y2',y3 _ _ z1,y3 _ _ z2,y1⟩ ⟨by show 3 <11;omega,rfl,rfl,rfl,by simp⟩ rfl eP7
    have c8:bA d.E (upd H7 d.P (.lst (xs4 ++ [.ref q])))=bA d.E H7:=dW (by simp)
    generalize upd H7 d.P (.lst (xs4 ++ [.ref q]))=H8 at D8 c8 ⊢
    subst hu
    refine⟨_,rfl,d.S,_,2,_,rfl,rfl,D8.seqS,aM (j:=2) rfl,.inl ⟨rfl,_,bI.of D8.opens⟩,_,rfl,d.O,_,_,rfl,rfl,D8.opens,by simp;omega,?_⟩
    have D9:=D8.open (os':=[l.name])
    have nd:=D9.nod (by rw [lP,List.length_singleton];omega)
    rw [hdr] at w2
    have wc:=w2.closeBack (p:=⟨3,cL d.c4 ps2.length,[],[y2],[bn,l.name]⟩) (rest:=back.drop (j+1)) (one:=y2) (b:=bn) (fresh:=l.name) rfl rfl (.refl _) rfl (by simpa using nd)
    subst hD
    exact⟨ls2 ++ [l],_,l.name,_,_,_,rfl,by rw [dW (by simp),c8];exact c7,D9,by simpa [uQ] using wc,by rw [lP];omega,by rw [lP,List.length_singleton];omega,by rw [lP,List.length_singleton];omega,hC2.app⟩
   rintro σ H2 ⟨ls2,ps2,y2,u3,u6,u7,rfl,s2,D2,w2,hl2',hl3,hp3,hC2⟩
   rw [lM] at w2 hl3 hp3
   rw [List.drop_length] at w2
   subst hu
   refine⟨_,rfl,_,rfl,iw,fun a3 n3=>?_⟩
   have t3:=aB (o:=.lst []) n3
   have D3:=D2.keep t3
   have c3:=s2.trans (D2.cut t3)
   have o3:=D2.out n3
   have e3:=dU (az (H:=H2) (a:=a3) (o:=.lst ([]:List V))) o3
   generalize upd H2 a3 (.lst [])=H3 at t3 D3 c3 e3 ⊢
   refine⟨_,rfl,d.S,_,2,_,rfl,rfl,D3.seqS,aM (j:=2) rfl,.inl ⟨rfl,_,bI.of D3.opens⟩,d.O,_,.str y2,rfl,rfl,D3.opens,rfl,?_⟩
   have D4:=D3.open (os':=[])
   have c4:bA d.E (upd H3 d.O (.lst (([]:List Str).map V.str)))=bA d.E H3:=dW (by simp)
   rw [show([y2].map V.str).dropLast=([]:List Str).map V.str from rfl]
   refine⟨iw,fun a4 n4=>?_⟩
   generalize upd H3 d.O (.lst (([]:List Str).map V.str))=H4 at D4 c4 n4 ⊢
   have s5:=aB (o:=.lst [.str y2]) n4
   have D5:=D4.keep s5
   have c5:=D4.cut s5
   rw [c4] at c5
   have e5:=dU (E:=d.E) (H:=upd H4 a4 (.lst [.str y2])) az (D4.out n4)
   refine⟨d,ls2,ps2,[],_,1,a3,a4,[],[y2],0,rfl,D5,c5 _ _ e3,e5,by omega,rfl,by simp,rfl,rfl,by omega,by omega,by simp,fun newl2 H9 hn2 s9 D9=>?_⟩
   have hz:newl2=[]:=List.length_eq_zero_iff.mp hn2
   subst hz
   rw [List.map_nil,List.append_nil,List.append_nil] at D9
   obtain⟨x1,x2,x3⟩:=w2.last (p:=⟨1,cL d.c4 ps2.length,[],[y2],[]⟩) (y:=y2) rfl rfl rfl rfl
   exact k ls2 _ H9 (c3.trans (c5.trans s9)) D9 ⟨w2.nod,x1,x2,y2,x3⟩ (by omega) hl2' (by rw [lP,List.length_singleton];omega) (by rw [lP,List.length_singleton];omega) hC2.app
 ·intro σ H' Q' Q'' hm hq
  obtain⟨x1,x2,x3,x4,x5,x6,x7,x8,x9,x10,x11,x12,x13,x14,x15,x16,x17,x18,x19,x20,q⟩:=hq
  exact⟨x1,x2,x3,x4,x5,x6,x7,x8,x9,x10,x11,x12,x13,x14,x15,x16,x17,x18,x19,x20,hm _ _ q⟩
inductive Ai (K:PySem.W.Frag) (vs:List V) (H:Hp) (Q:VK) (E:XK):Prop where
 | mk:∀(a:Addr) (ns:List Int) (start steps:Nat) (odd:Bool),vs=[.ref a,.int (start:Nat),.int (steps:Nat),.bl odd]->bI K H a (ns.map V.int)->steps<=4->(∀(T L P:Addr) (ls:List aG) (ps:List PD) (H':Hp),aJ H H'->H L=none->H P=none->L≠P->H' T=some (.tup [.ref L,.ref P])->FP H' L P ls ps->PX (jH ns start) (jH ns (start+1)) ls ps->Q (.ref T) H')->Ai K vs H Q E
noncomputable abbrev CG:List Str:=["_law_script", "_law_start", "_law_steps", "_law_odd", "_law_one", "_law_other", "_law_state", "_law_k", "_law_back", "_law_at"]
theorem JB (T:Txt w K mg t):FO P w K mg base 7 t.BR ["_law_script", "_law_start", "_law_steps", "_law_odd"] (Ai K):=by
 have sc:=T.wJ.sc CG
 refine T.wJ.F.ok sc ln (fun _ _ _ _ H vs Q E hr h=>?_)
 obtain⟨a,ns,start,steps,odd,rfl,hS,hst,k⟩:=h
 refine⟨_,(aq (sN sc 4 (dC (gP T) T.fO hr (aa (pv 0) (aa (pv 1) ak aj) aj)))
  (aq (sN sc 5 (dC (gP T) T.fO hr (aa (pv 0) (aa (bx dm (pv 1) au) ak bL) aj)))
  (aq (sN sc 6 (bz (aa (bz ak) (aa (bz ak) (aa (bz ak) (aa (pv 4) (aa (pv 5) ak aj) aj) aV) aV) aV)))
  (aq (du PassesOwn.never rfl (iY rfl T.kY (aa (bx dm au (bx bW (dC (aX T) T.bf hr (aa (pv 4) (aa au ak ao) aj)) au)) ak bL)) (gN sc 7)
   (aA (bK (dC (cH T) T.cC hr (aa (pv 6) (aa (dC (aX T) T.bf hr (aa (pv 5) (aa (pv 7) ak aj) aj)) (aa bG (aa (bz ak) (aa (bz ak) (aa au ak ao) aV) aV) ao) aY) aj)))))
  (aq (jn (i:=8) [5,6] CG (aU (top 77)) rfl sc.nd rfl (iY rfl T.kY (aa (bx bW (dC (aX T) T.bf hr (aa (pv 4) (aa au ak ao) aj)) au) ak bL)) (fun _ _ _ _ _=>iC) (fun _ _ _ _ _=>(dC (jX T) T.iT hr (aa (pv 2) (aa (dC (aX T) T.bf hr (aa (pv 1) (aa (bx dm au (pv 0)) ak bL) aj)) (aa jT ak ao) aY) aj))))
  (aq (bK (Dq PySem.F.plainAttrs_list PySem.F.slot_list_extend PySem.F.type_list_extend Em (aR aQ (pv 6) au (fun _ _=>rfl)) (aa (pv 8) ak aj)))
  (aq (du PassesOwn.never rfl (iY rfl T.kY (aa (pv 2) ak aj)) (gN sc 7)
   (aA (bK (dC (Hb T) T.uo hr (aa (pv 6) (aa (dC (gP T) T.fO hr (aa (pv 0) (aa (bx dm (bx dm (pv 1) au) (pv 7)) ak bL) aj)) (aa (pv 3) ak aj) aY) aj)))))
  (aq (bK (dC (Dh T) T.qQ hr (aa (pv 6) (aa (pv 5) (aa (pv 8) ak aj) aj) aj)))
  (aq (sN sc 9 (bx bW (dC (aX T) T.bf hr (aa (pv 4) (aa au ak ao) aj)) (bw bV (by rfl) T.fX dG (aa (aR aQ (pv 6) au (fun _ _=>rfl)) ak aF))))
  (aA (aN (cg (aa (aR aQ (pv 6) au (fun _ _=>rfl)) (aa (bx Rv (jU rO (aR aQ (pv 6) au (fun _ _=>rfl)) (jK (pv 9)) sI) (jU rO (aR aQ (pv 6) au (fun _ _=>rfl)) sI (jK (pv 9)))) ak bL) aF))))))))))))),?_⟩
 have hl:sizeLine=16777216:=sizeLine_eq
 refine hide fun u hu=>?_
 refine⟨_,rfl,_,rfl,a,ns,start,rfl,hS,?_⟩
 refine dh (v:=u) hu fun u hu=>?_
 refine⟨_,rfl,_,rfl,_,_,rfl,rfl,a,ns,start+1,rfl,hS,?_⟩
 refine dh (v:=u) hu fun u hu=>?_
 refine⟨iw,fun L nL=>⟨iw,fun P' nP=>⟨iw,fun O nO=>⟨_,rfl,_,rfl,iw,fun S nS=>?_⟩⟩⟩⟩
 obtain⟨D1,s1,nP0⟩:=nW.init (jH ns start) (jH ns (start+1)) nL nP nO nS
 have nLP:L≠P':=D1.ne.1
 refine dh (v:=u) hu fun u hu=>?_
 change xV _ _ _ [some (.ref a),some (.int (start:Nat)),some (.int (steps:Nat)),some (.bl odd),some (.int (jH ns start)),some (.int (jH ns (start+1))),some (.ref S),none,none,none] (upd (upd (upd (upd H L (.lst [])) P' (.lst [])) O (.lst [])) S (.lst [.ref L,.ref P',.ref O,.int (jH ns start),.int (jH ns (start+1))]))
 generalize upd (upd (upd (upd H L (.lst [])) P' (.lst [])) O (.lst [])) S (.lst [.ref L,.ref P',.ref O,.int (jH ns start),.int (jH ns (start+1))])=H1 at D1 s1 ⊢
 obtain⟨d,hd⟩:∃d:Dw,d=⟨S,L,P',O,jH ns start,jH ns (start+1)⟩:=⟨_,rfl⟩
 rw [<-hd] at D1
 have hE:[L,P',O]=d.E:=by rw [hd]
 have hSd:S=d.S:=by rw [hd]
 have hLd:L=d.L:=by rw [hd]
 have hc3:jH ns start=d.c3:=by rw [hd]
 have hc4:jH ns (start+1)=d.c4:=by rw [hd]
 rw [hE] at s1
 rw [hLd] at nL nLP
 rw [hc3,hc4] at k
 rw [hSd,hc3,hc4]
 clear hd hE nP nO nS
 have g0:=Int.emod_nonneg (b7 d.c3 5) (show(2:Int)≠0 by decide)
 have g1:=Int.emod_lt_of_pos (b7 d.c3 5) (show(0:Int) <2 by decide)
 refine⟨_,rfl,_,_,rfl,_,_,rfl,rfl,by show(0:Int) <2;decide,_,_,rfl,rfl,1+b7 d.c3 5 % 2,rfl,by omega,by omega,?_⟩
 obtain⟨g,hg,hg1,hg2⟩:∃g:Nat,(1+b7 d.c3 5 % 2).toNat=g/\1<=g/\g<=2:=⟨_,rfl,by omega,by omega⟩
 rw [hg]
 refine yR (fun j σ H2=>∃(ls:List aG) (ps:List PD) (os:List Str) (v7:Option V),σ=[some (.ref a),some (.int (start:Nat)),some (.int (steps:Nat)),some (.bl odd),some (.int d.c3),some (.int d.c4),some (.ref d.S),v7,none,none]/\aJ (bA d.E H1) (bA d.E H2)/\nW d H2 ls ps os/\Drawn.WF (uQ ls ps os [])/\ls.length=j/\ps.length=j/\os.length=j/\(1<=j->JN ps)) ⟨[],[],[],none,rfl,aJ.refl _,D1,Drawn.WF.start,rfl,rfl,rfl,fun h=>absurd h (by decide)⟩ ?_ ?_
 ·rintro j σ H2 hj ⟨ls,ps,os,v7,rfl,s2,D2,w2,h1,h2,h3,hC⟩
  refine Uq fun De hD=>?_
  refine⟨_,rfl,_,rfl,_,rfl,_,_,rfl,iw,fun a1 n1=>⟨iw,fun a2 n2=>?_⟩⟩
  obtain⟨D9,z1,z2,z3⟩:=D2.two n1 n2 (y:=.lst [])
  refine⟨d,ls,ps,os,_,0,a1,a2,[],[],1,rfl,D9,z1,z2,by omega,rfl,by simp,rfl,rfl,by omega,by omega,by omega,fun newl H8 hn s8 D8=>?_⟩
  have w8:=rF w2 rfl D8 (.refl _) (by omega) (by rw [lP];omega)
  subst hD
  exact⟨_,_,_,_,rfl,s2.trans (z3.trans s8),D8,w8,by rw [lP];omega,by rw [lP,List.length_singleton];omega,by rw [lP,lM];omega,fun _=>by unfold JN;rw [List.any_append];simp⟩
 rintro σ H2 ⟨ls,ps,os,v7,rfl,s2,D2,w2,h1,h2,h3,hC⟩
 have b0:=Int.emod_nonneg (b7 d.c3 6) (show(3:Int)≠0 by decide)
 have b1:=Int.emod_lt_of_pos (b7 d.c3 6) (show(0:Int) <3 by decide)
 refine dh (v:=u) hu fun u hu=>?_
 refine⟨_,rfl,_,_,rfl,_,_,rfl,rfl,by show(0:Int) <3;decide,b7 d.c3 6 % 3,rfl,by omega,by omega,?_⟩
 obtain⟨nb,hnb,hnb2⟩:∃nb:Nat,(b7 d.c3 6 % 3).toNat=nb/\nb<=2:=⟨_,rfl,by omega⟩
 rw [hnb]
 refine kj (fun j ys H3=>∃(ls3:List aG) (bl:List Str),ys=bl.map V.str/\bl.length=j/\aJ (bA d.E H1) (bA d.E H3)/\nW d H3 ls3 ps os/\Drawn.WF (uQ ls3 ps (os ++ bl) bl)/\ls3.length=g+j) (by omega) ⟨ls,[],rfl,rfl,s2,D2,by rw [List.append_nil];exact w2,by omega⟩ (fun j ys H3 ⟨_,bl,e,e2,_⟩=>by rw [e,lM];omega) ?_ ?_
 ·rintro j ys H3 hj ⟨ls3,bl,rfl,hb,s3,D3,w3,h4⟩
  refine yes ⟨_,rfl,_,rfl,_,rfl,_,_,rfl,rfl,_,_,rfl,d,ls3,ps,os,_,true,rfl,D3,by omega,fun l H4 _ s4 D4=>?_⟩
  have nd:=D4.nod (by rw [lP,List.length_singleton];omega)
  have wb:=w3.backLane (b:=l.name) (by simpa using nd)
  exact⟨ls3 ++ [l],bl ++ [l.name],by simp,by simp [hb],s3.trans s4,D4,by simpa [uQ] using wb,by rw [lP,List.length_singleton];omega⟩
 rintro ys H3 ⟨ls3,bl,rfl,hbl,s3,D3,w3,h4⟩ B nB
 have t4:=aB (o:=.lst (bl.map V.str)) nB
 have D4:=D3.keep t4
 have s4:=s3.trans (D3.cut t4)
 have eB:=dU (az (H:=H3) (a:=B) (o:=.lst (bl.map V.str))) (D3.out nB)
 generalize upd H3 B (.lst (bl.map V.str))=H4 at t4 D4 s4 eB ⊢
 refine dh (v:=u) hu fun u hu=>?_
 refine⟨_,rfl,d.S,_,2,_,rfl,rfl,D4.seqS,aM (j:=2) rfl,.inl ⟨rfl,_,bI.of D4.opens⟩,_,rfl,d.O,B,_,_,rfl,rfl,D4.opens,bR _ _ eB,by rw [lM,lM];omega,?_⟩
 rw [<-List.map_append]
 have D5:=D4.open (os':=os ++ bl)
 have c5:bA d.E (upd H4 d.O (.lst ((os ++ bl).map V.str)))=bA d.E H4:=dW (by simp)
 generalize upd H4 d.O (.lst ((os ++ bl).map V.str))=H5 at D5 c5 ⊢
 rw [<-c5] at s4 eB
 refine dh (v:=u) hu fun u hu=>?_
 refine⟨_,rfl,(steps:Int),rfl,by omega,by omega,?_⟩
 rw [Int.toNat_natCast]
 refine yR (fun j σ H6=>∃(ls6:List aG) (ps6:List PD) (os6:List Str) (v7:Option V),σ=[some (.ref a),some (.int (start:Nat)),some (.int (steps:Nat)),some (.bl odd),some (.int d.c3),some (.int d.c4),some (.ref d.S),v7,some (.ref B),none]/\aJ (bA d.E H5) (bA d.E H6)/\nW d H6 ls6 ps6 os6/\Drawn.WF (uQ ls6 ps6 os6 bl)/\1<=ls6.length/\ls6.length<=4+2 * j/\ps6.length<=2+2 * j/\os6≠[]/\os6.length<=4/\JN ps6) ⟨ls3,ps,os ++ bl,v7,rfl,aJ.refl _,D5,w3,by omega,by omega,by omega,by intro z;have:=congrArg List.length z;rw [lP,List.length_nil] at this;omega,by rw [lP];omega,hC (by omega)⟩ ?_ ?_
 ·rintro j σ H6 hj ⟨ls6,ps6,os6,u7,rfl,s6,D6,w6,l0,l6,p6,o0,o6,hC6⟩
  have hS6:bI K H6 a (ns.map V.int):=bR.seq ((s1.trans (s4.trans s6)).seq hS)
  refine Uq fun De hD=>?_
  refine⟨_,rfl,_,rfl,_,rfl,_,_,rfl,rfl,_,rfl,_,_,rfl,rfl,a,ns,start+2+(0+j),rfl,hS6,_,rfl,d,ls6,ps6,os6,_,bl,odd,rfl,D6,w6,o0,o6,by omega,by omega,fun ls' ps' os' H' X=>?_⟩
  subst hD
  exact⟨ls',ps',os',_,rfl,s6.trans X.cut,X.at',X.wf,by have h1:=X.wf.ins.length_eq;have h2:=X.o1;rw [lP,lM] at h1;change _+os'.length=_ at h1;omega,by have:=X.l2;omega,by have:=X.p2;omega,by intro z;have:=X.o1;rw [z] at this;simp at this,X.o4,X.gv hC6⟩
 rintro σ H6 ⟨ls6,ps6,os6,u7,rfl,s6,D6,w6,l0,l6,p6,o0,o6,hC6⟩
 refine dh (v:=u) hu fun u hu=>?_
 refine⟨_,rfl,_,rfl,_,rfl,d,ls6,ps6,os6,_,B,bl,rfl,D6,w6,s6 _ _ eB,o0,o6,by omega,by omega,by omega,hC6,fun ls7 ps7 H7 s7 D7 W7 l17 l7 p16 p1 hC7=>?_⟩
 obtain⟨xsL,eL,aL⟩:=D7.lanes
 obtain⟨xsP,eP,aP⟩:=D7.parts
 have xl:=aP.length
 refine dh (v:=u) hu fun u hu=>?_
 refine⟨_,rfl,_,_,rfl,_,rfl,d.S,_,1,_,rfl,rfl,D7.seqS,aM (j:=1) rfl,.ref d.P,ps7.length,rfl,.inl ⟨_,bI.of eP,xl.symm⟩,b7 d.c3 7,(ps7.length:Int),rfl,rfl,by omega,?_⟩
 have r0:=Int.emod_nonneg (b7 d.c3 7) (show(ps7.length:Int)≠0 by omega)
 obtain⟨r,hr'⟩:∃r:Nat,b7 d.c3 7 % (ps7.length:Int)=(r:Int):=⟨_,(Int.toNat_of_nonneg r0).symm⟩
 dsimp only
 rw [hr']
 subst hu
 refine⟨_,rfl,d.S,_,0,_,rfl,rfl,D7.seqS,aM (j:=0) rfl,?_⟩
 refine⟨_,rfl,d.S,_,1,_,rfl,rfl,D7.seqS,aM (j:=1) rfl,?_⟩
 refine⟨_,rfl,_,rfl,d.P,_,rfl,bI.of eP,fun q1 m1=>?_⟩
 rw [Oj]
 have t1:=aB (o:=.lst (xsP.drop r)) m1
 have f1:upd H7 q1 (.lst (xsP.drop r)) q1=some (.lst (xsP.drop r)):=az
 have D8:=D7.keep t1
 have eP8:=t1 _ _ eP
 have eL8:=t1 _ _ eL
 generalize upd H7 q1 (.lst (xsP.drop r))=H8 at t1 f1 D8 eP8 eL8 ⊢
 refine⟨_,rfl,d.S,_,1,_,rfl,rfl,D8.seqS,aM (j:=1) rfl,_,rfl,_,rfl,d.P,_,rfl,bI.of eP8,fun q2 m2=>?_⟩
 rw [Tu]
 have t2:=aB (o:=.lst (xsP.take r)) m2
 have f2:upd H8 q2 (.lst (xsP.take r)) q2=some (.lst (xsP.take r)):=az
 have f12:=t2 _ _ f1
 have eL9:=t2 _ _ eL8
 generalize upd H8 q2 (.lst (xsP.take r))=H9 at t2 f2 f12 eL9 ⊢
 refine⟨q1,q2,_,_,rfl,rfl,f12,f2,by rw [List.length_drop,List.length_take];omega,fun q3 m3=>?_⟩
 have t3:=aB (o:=.lst (xsP.drop r ++ xsP.take r)) m3
 have f3:upd H9 q3 (.lst (xsP.drop r ++ xsP.take r)) q3=some (.lst (xsP.drop r ++ xsP.take r)):=az
 have eLA:=t3 _ _ eL9
 generalize upd H9 q3 (.lst (xsP.drop r ++ xsP.take r))=HA at t3 f3 eLA ⊢
 refine⟨iw,fun T' nT=>?_⟩
 have t4:=aB (o:=.tup [.ref d.L,.ref q3]) nT
 have sA:aJ H7 (upd HA T' (.tup [.ref d.L,.ref q3])):=t1.trans (t2.trans (t3.trans t4))
 have s17:aJ H (bA d.E H7):=s1.trans (s4.trans (s6.trans s7))
 have s07:aJ H H7:=s17.trans bR
 have free3:H q3=none:=s07.free (t1.free (t2.free m3))
 have cA:aJ (bA d.E H7) (upd HA T' (.tup [.ref d.L,.ref q3])):=bR.trans sA
 have nq:d.L≠q3:=aD eL9 m3
 have rp:=QQ ps7 r
 refine k T' d.L q3 ls7 (ps7.drop r ++ ps7.take r) _ (s07.trans sA) nL free3 nq az ⟨⟨xsL,t4 _ _ eLA,aL.imp fun _ _ h=>h.same cA⟩,⟨_,t4 _ _ f3,((aP.drop r).app (aP.take r)).imp fun _ _ h=>h.same cA⟩⟩ ⟨D7.lok,fun p hp=>D7.pok p (rp.mem_iff.mpr hp),D7.ln,?_,W7.perm rp,by omega,l17,by rw [<-rp.length_eq];exact p1,by rw [<-rp.length_eq];exact p16,by unfold JN at hC7 ⊢;rw [<-rp.any_eq];exact hC7⟩
 rw [<-rp.length_eq,<-D7.pn]
 exact rp.map _
inductive Dv (K:PySem.W.Frag) (vs:List V) (H:Hp) (Q:VK) (E:XK):Prop where
 | mk:∀x,vs=[x]->(((∃z:Str,x=.str z/\z.length<=100/\∀H',aJ H H'->Q (.bl (nameB z)) H')∨∃Tx,Xu K H x Tx/\Tx∈qj/\Tx≠ "str" /\Q (.bl false) H))->Dv K vs H Q E
theorem JP (T:Txt w K mg t):FO P w K mg base 1 t.Ge ["thing"] (Dv K):=by
 have sc:=T.zc.sc ["thing"]
 refine T.zc.F.ok sc ln (fun _ _ _ _ H vs Q E hr h=>?_)
 obtain⟨x,rfl,h⟩:=h
 refine⟨_,(aq (bM (PW.pt (tE (gK (fW (bw lV (by rfl) T.fG eN (aa (pv 0) (aa (pN (by rfl) T.PB JX) ak aj) aj)))) (mq (gK (xU vN vN au (bw bV (by rfl) T.fX dG (aa (pv 0) ak aj)) (jm (by rfl) T.Dm))))))
   (aA (aN jT))
   bu)
  (aA (aN (yQ (p7 yW (aR CQ (pv 0) au (fun _ _=>rfl)) (jm (by rfl) T.Ew) (by with_unfolding_all rfl)) (zj (bw (yD rfl) (by rfl) T.K4 GQ (aa (eX [] ["thing"] (aU (top 24)) rfl (Vc (pv 0)) (fun _ _ _ _ _=>iC) (fun _ _ _ _ _=>(Wt (p7 yW (pv 0) (jm (by rfl) T.Ew) (by with_unfolding_all rfl)) (zj (p7 yW (pv 0) (jm (by rfl) T.M9) (by with_unfolding_all rfl)))))) ak gZ))))))),?_⟩
 have hl:sizeLine=16777216:=sizeLine_eq
 rcases h with ⟨z,rfl,hz,k⟩ | ⟨Tx,ty,hm,hne,k⟩
 ·refine⟨_,rfl,.str z, "str", "str",true,rfl,rfl,by decide,by decide,_,rfl,cz ?_⟩
  refine⟨_,rfl,.str z,z.length,rfl,⟨by omega,rfl⟩,_,_,rfl,rfl,_,rfl,?_⟩
  cases e:z.cps.toList with
  | nil=>
   have h0:z.length=0:=by rw [<-oE,e];rfl
   rw [h0]
   refine cz ⟨_,rfl,fU ?_⟩
   have:=k H (aJ.refl _)
   unfold nameB at this
   rw [e] at this
   exact this
  | cons c r=>
   have hlen:z.length=r.length+1:=by rw [<-oE,e];rfl
   refine wM (by omega) ⟨_,_,rfl,rfl,_,rfl,jG (fun h=>?_) (fun h=>?_)⟩
   ·have h8:¬(z.length:Int)<=8:=by simpa using h
    have:=k H (aJ.refl _)
    unfold nameB at this
    rw [e] at this
    simp only [show ¬r.length<=7 by omega,decide_false,Bool.false_and] at this
    exact this
   ·have h8:(z.length:Int)<=8:=by simpa using h
    have hc0:BP z.cps.toList 0=some c:=by rw [e];exact aM (xs:=c:: r) (j:=0) rfl
    refine⟨_,rfl,z,_,c,rfl,rfl,by omega,hc0,_,_,rfl,rfl,_,rfl,?_⟩
    have kk:∀H',aJ H H'->Q (.bl (low c && z.cps.toList.all fun d=>low d || J7 d)) H':=fun H' s'=>by
     have:=k H' s'
     unfold nameB at this
     rw [e] at this ⊢
     simp only [show r.length<=7 by omega,decide_true,Bool.true_and] at this
     exact this
    rw [PQ]
    refine jG (fun hc=>?_) (fun hc=>?_)
    ·rw [hc,Bool.true_and] at kk
     refine⟨_,rfl,z,rfl,QD (fun i ys H'=>H'=H/\ys=((z.cps.toList.take i).map fun d=>low d || J7 d).map V.bl) (by simp only [Str.length] at hz;omega) ⟨rfl,by simp⟩ (fun i ys H' ⟨_,e⟩=>by rw [e];simp only [lM,List.length_take];omega) ?_ ?_⟩
     ·rintro i d ys H' hd ⟨rfl,rfl⟩
      refine yes ⟨_,rfl,_,_,rfl,rfl,_,rfl,?_⟩
      have hd':z.cps.toList[i]?=some d:=by simpa using hd
      have next:∀b,b=(low d || J7 d)->(((z.cps.toList.take i).map fun d=>low d || J7 d).map V.bl) ++ [V.bl b]=((z.cps.toList.take (i+1)).map fun d=>low d || J7 d).map V.bl:=fun b hb=>by
       rw [List.take_add_one,hd',hb]
       simp
      rw [PQ]
      refine jG (fun hl'=>?_) (fun hl'=>?_)
      ·exact⟨rfl,next true (by rw [hl'];rfl)⟩
      ·have hl2:low d=false:=by simpa using hl'
       refine⟨_,rfl,_,_,rfl,rfl,rfl,next _ ?_⟩
       rw [Vv,hl2,Bool.false_or]
     ·rintro ys H' ⟨rfl,rfl⟩ D hD
      refine⟨D,(z.cps.toList.take z.cps.size).map fun d=>low d || J7 d,rfl,bI.of az,?_⟩
      have hall:((z.cps.toList.take z.cps.size).map fun d=>low d || J7 d).all id=z.cps.toList.all fun d=>low d || J7 d:=by
       rw [List.take_of_length_le (by simp),List.all_map]
       rfl
      rw [hall]
      exact kk _ (aB hD)
    ·have hc':low c=false:=by simpa using hc
     rw [hc',Bool.false_and] at kk
     exact kk H (aJ.refl _)
 ·have hb:Gu Tx "str" =false:=by
   simp only [qj,List.mem_cons,List.not_mem_nil,or_false] at hm
   rcases hm with rfl | rfl | rfl | rfl | rfl | rfl | rfl <;> first | decide | exact absurd rfl hne
  exact⟨_,rfl,x,Tx, "str",false,rfl,ty,by decide,hb,_,rfl,fU (fU k)⟩
inductive tO (K:PySem.W.Frag) (vs:List V) (H:Hp) (Q:VK) (E:XK):Prop where
 | mk:∀(a b:Addr) (xs ys:List V),vs=[.ref a,.ref b]->bI K H a xs->bI K H b ys->1<=xs.length->xs.length<=24->1<=ys.length->ys.length<=16->Q .non H->tO K vs H Q E
theorem Dl (T:Txt w K mg t):FO P w K mg base 1 t.vZ ["lanes", "parts"] (tO K):=by
 have sc:=T.qD.sc ["lanes", "parts"]
 refine T.qD.F.ok sc ln (fun _ _ _ _ H vs Q E hr h=>?_)
 obtain⟨a,b,xs,ys,rfl,h1,h2,c1,c2,c3,c4,k⟩:=h
 refine⟨_,(aq (bM (gK (xU vN vN au (bw bV (by rfl) T.fX dG (aa (pv 0) ak aj)) (jm (by rfl) T.G9)))
   (aA dN)
   bu)
  (aA (bM (gK (xU vN vN au (bw bV (by rfl) T.fX dG (aa (pv 1) ak aj)) (jm (by rfl) T.Ha)))
   (aA dN)
   bu))),?_⟩
 have hl:sizeLine=16777216:=sizeLine_eq
 refine⟨_,rfl,.ref a,xs.length,rfl,.inl ⟨_,h1,rfl⟩,_,_,rfl,rfl,_,rfl,wM (by omega) ⟨_,_,rfl,rfl,_,rfl,?_⟩⟩
 rw [show decide ((xs.length:Int)<=24)=true from decide_eq_true (by omega)]
 refine cz ?_
 refine⟨_,rfl,.ref b,ys.length,rfl,.inl ⟨_,h2,rfl⟩,_,_,rfl,rfl,_,rfl,wM (by omega) ⟨_,_,rfl,rfl,_,rfl,?_⟩⟩
 rw [show decide ((ys.length:Int)<=16)=true from decide_eq_true (by omega)]
 exact cz k
inductive vQ (K:PySem.W.Frag) (vs:List V) (H:Hp) (Q:VK) (E:XK):Prop where
 | mk:∀(z:Str) (d:Addr) (kvs:List (Key×V)),vs=[.str z,.ref d]->H d=some (.dK kvs)->nameB z=true->z.length<=100->bT kvs (Sum.inr z)=none->(∀H',aJ H H'->Q .non H')->vQ K vs H Q E
theorem vL (T:Txt w K mg t):FO P w K mg base 2 t.yw ["name", "known"] (vQ K):=by
 have sc:=T.m8.sc ["name", "known"]
 refine T.m8.F.ok sc ln (fun _ _ _ _ H vs Q E hr h=>?_)
 obtain⟨z,d,kvs,rfl,hd,hz,hl,hv,k⟩:=h
 refine⟨_,(aq (bM (gK (fW (dC (JP T) T.zc hr (aa (pv 0) ak aj))))
   (aA dN)
   bu)
  (aA (bM (gH (zu hr.u1 (pv 0) (pv 1)))
   (aA dN)
   bu))),?_⟩
 refine⟨_,rfl,.str z,rfl,.inl ⟨z,rfl,hl,fun H1 s1=>?_⟩⟩
 rw [hz]
 refine⟨_,rfl,cz ?_⟩
 refine⟨_,rfl,_,rfl,d,_,rfl,d9.k (k:=Sum.inr z) (s1 _ _ hd),?_⟩
 rw [hv]
 exact⟨_,rfl,cz (k _ s1)⟩
inductive wW (K:PySem.W.Frag) (vs:List V) (H:Hp) (Q:VK) (E:XK):Prop where
 | mk:∀(nm:V) (room:Int) (L:Addr) (ws:List Int),vs=[nm,.int room,.ref L]->xO K H L (ws.map V.int)->ws.length<=1000->((∀v∈ws,0<=v/\v <1000000000))->1<=room->(ws.length:Int)<=room->room<=199->(∀H',aJ H H'->Q .non H')->wW K vs H Q E
theorem Hh (T:Txt w K mg t):FO P w K mg base 3 t.z6 ["name", "room", "first"] (wW K):=by
 have sc:=T.uG.sc ["name", "room", "first"]
 refine T.uG.F.ok sc ln (fun _ _ _ _ H vs Q E hr h=>?_)
 obtain⟨nm,room,L,ws,rfl,hL,hw,hB,c1,c2,c3,k⟩:=h
 refine⟨_,(aq (bM (PW.pt (tE (gK (fW (dC (zW T) T.rW hr (aa (pv 1) ak aj)))) (mq (gK (xU vN vN (bw (Fx rfl) (by rfl) T.Qf J8 (aa au (aa (bw bV (by rfl) T.fX dG (aa (pv 2) ak aj)) ak aY) ao)) (pv 1) (jm (by rfl) T.Jq))))))
   (aA dN)
   bu)
  (aA (bM (gK (fW (bw (yD rfl) (by rfl) T.K4 GQ (aa (eX [] ["name", "room", "first"] (aU (top 50)) rfl (U3 (bN (pv 2)) (Dp (pv 2))) (fun _ _ _ _ _=>iC) (fun _ _ _ _ _=>(dC (tM T) T.oH hr (aa (pv 0) ak aj)))) ak gZ))))
   (aA dN)
   bu))),?_⟩
 have hl:sizeLine=16777216:=sizeLine_eq
 have hlw:(ws.map V.int).length=ws.length:=lM ..
 refine⟨_,rfl,.int room, "int",true,rfl,rfl,by decide,by decide,true,rfl,cz ?_⟩
 refine⟨_,rfl,.ref L,(ws.map V.int).length,rfl,hL.len,_,_,rfl,_,rfl,_,_,rfl,rfl,_,rfl,wM ?_ ⟨_,_,rfl,rfl,_,rfl,?_⟩⟩
 ·split <;> omega
 rw [show decide (room<=199)=true from decide_eq_true c3]
 refine cz ?_
 refine Rm (a:=L) (xs:=ws.map V.int) ?_ hL (fun j ys=>ys=(List.replicate j true).map V.bl) (by rw [lM];omega) rfl (fun j ys e=>by rw [e];simp) (fun j x ys hx e=>?_) (fun ys e D hD=>?_)
 ·exact fun R r=>⟨_,rfl,r⟩
 ·subst e
  rw [List.getElem?_map] at hx
  obtain⟨n,hn,rfl⟩:=Option.map_eq_some_iff.mp hx
  obtain⟨n0,n1⟩:=hB n (List.mem_of_getElem? hn)
  refine yes ⟨_,rfl,.int n,rfl,.inl ⟨n,rfl,rfl,?_⟩⟩
  rw [decide_eq_true n0,decide_eq_true n1,List.replicate_succ']
  simp
 ·subst e
  refine⟨D,_,rfl,bI.of az,_,rfl,?_⟩
  rw [show((List.replicate (ws.map V.int).length true).all id)=true by simp]
  exact cz (k _ (aB hD))
inductive wk (K:PySem.W.Frag) (t:ji) (vs:List V) (H:Hp) (Q:VK) (E:XK):Prop where
 | mk:∀(i:Nat) (nm:Str) (r d a1 a2 a3:Addr) (ns is os:List V) (kvs:List (Key×V)),vs=[.ref r,.ref d]->H r=some (.tup [.str (cX i),.str nm,.ref a1,.ref a2,.ref a3])->i<=10->H d=some (.dK kvs)->nameB nm=true->nm.length<=100->bT kvs (Sum.inr nm)=none->xO K H a1 ns->xO K H a2 is->xO K H a3 os->ns.length=cN i->is.length=cI i->os.length=cO i->((∀v∈ns,Val v))->(∀H' p,aJ H H'->H p=none->fj K t H' p i (.str nm) ns is os->Q (.ref p) H')->wk K t vs H Q E
theorem Ea (T:Txt w K mg t):FO P w K mg base 5 t.xH ["row", "known"] (wk K t):=by
 have sc:=T.sV.sc ["row", "known"]
 refine T.sV.F.ok sc ln (fun _ _ _ _ H vs Q E hr h=>?_)
 obtain⟨i,nm,r,d,a1,a2,a3,ns,is,os,kvs,rfl,hr1,hi,hd,hz,hl,hv,q1,q2,q3,l1,l2,l3,hV,k⟩:=h
 refine⟨_,(aq (bM (gK (fW (dC (Br T) T.uZ hr (aa (aR cZ (pv 0) au (fun _ _=>rfl)) ak aF))))
   (aA dN)
   bu)
  (aq (bK (dC (vL T) T.m8 hr (aa (aR cZ (pv 0) au (fun _ _=>rfl)) (aa (pv 1) ak aj) aF)))
  (aA (aN (dC (G7 T) T.zZ hr (aa (aR cZ (pv 0) au (fun _ _=>rfl)) (aa (aR cZ (pv 0) au (fun _ _=>rfl)) (aa (aR cZ (pv 0) au (fun _ _=>rfl)) (aa (aR cZ (pv 0) au (fun _ _=>rfl)) (aa (aR cZ (pv 0) au (fun _ _=>rfl)) ak aF) aF) aF) aF) aF)))))),?_⟩
 refine⟨_,rfl,r,_,0,_,rfl,rfl,fC.of hr1,aM (j:=0) rfl,cX i,rfl,?_⟩
 rw [row_of]
 refine⟨_,rfl,cz ?_⟩
 refine⟨_,rfl,r,_,1,_,rfl,rfl,fC.of hr1,aM (j:=1) rfl,_,rfl,nm,d,kvs,rfl,hd,hz,hl,hv,fun H1 s1=>?_⟩
 have e1:=fC.of (K:=K) (s1 _ _ hr1)
 exact⟨_,rfl,r,_,0,_,rfl,rfl,e1,aM (j:=0) rfl,_,rfl,r,_,1,_,rfl,rfl,e1,aM (j:=1) rfl,_,rfl,r,_,2,_,rfl,rfl,e1,aM (j:=2) rfl,_,rfl,r,_,3,_,rfl,rfl,e1,aM (j:=3) rfl,_,rfl,r,_,4,_,rfl,rfl,e1,aM (j:=4) rfl,i,.str nm,a1,a2,a3,ns,is,os,rfl,hi,s1.seqA q1,s1.seqA q2,s1.seqA q3,l1,l2,l3,hV,fun H2 p s2 np P=>k _ p (s1.trans s2) (s1.free np) P⟩
inductive yf (K:PySem.W.Frag) (vs:List V) (H:Hp) (Q:VK) (E:XK):Prop where
 | mk:∀(y:Str) (a rd d:Addr) (zs:List Str) (rk kvs:List (Key×V)),vs=[.str y,.ref a,.ref rd,.ref d]->fC K H a (zs.map V.str)->H rd=some (.dK rk)->rd≠d->H d=some (.dK kvs)->zs.Nodup->((∀z∈zs,(bT rk (Sum.inr z)).isSome=true/\bT kvs (Sum.inr z)=none))->kvs.length+zs.length<=1000->(Q .non (upd H d (.dK (kvs ++ zs.map fun l=>((Sum.inr l:Key),V.str y)))))->yf K vs H Q E
theorem xP (T:Txt w K mg t):FO P w K mg base 1 t.Ao ["part", "lanes", "rooms", "ends"] (yf K):=by
 have sc:=T.pQ.sc ["part", "lanes", "rooms", "ends", "lane"]
 refine T.pQ.F.ok sc ln (fun _ _ _ _ H vs Q E hr h=>?_)
 obtain⟨y,a,rd,d,zs,rk,kvs,rfl,hT,hrd,hne,hd,nd,hz,hlen,k⟩:=h
 refine⟨_,(aA (du PassesOwn.never rfl (Dp (pv 1)) (gN sc 4)
   (aq (bM (PW.pt (tE (gH (uW hr.u1 (pv 4) (pv 2))) (mq (gH (zu hr.u1 (pv 4) (pv 3))))))
    (aA dN)
    bu)
   (aA (gh hr.u1 (pv 3) (pv 4) (pv 0) rfl))))),?_⟩
 have hl:sizeLine=16777216:=sizeLine_eq
 refine⟨_,rfl,a,rfl,⟨_,hT⟩,TJ (K:=K) (a:=a) (xs:=zs.map V.str) (fun j σ H'=>H'=upd H d (.dK (kvs ++ (zs.take j).map fun l=>((Sum.inr l:Key),V.str y)))/\∃v4,σ=[some (.str y),some (.ref a),some (.ref rd),some (.ref d),v4]) ⟨by rw [List.take_zero,List.map_nil,List.append_nil,Hm hd],none,rfl⟩ (fun j σ H' _ ⟨e,_⟩=>by rw [e];exact fV hd hT) ?_ ?_⟩
 ·rintro j x σ H' hx ⟨rfl,v4,rfl⟩
  rw [List.getElem?_map] at hx
  obtain⟨z,hzj,rfl⟩:=Option.map_eq_some_iff.mp hx
  have hj:j <zs.length:=(List.getElem?_eq_some_iff.mp hzj).1
  obtain⟨r1,r2⟩:=hz z (List.mem_of_getElem? hzj)
  obtain⟨rv,hrv⟩:=Option.isSome_iff_exists.mp r1
  have erd:upd H d (.dK (kvs ++ (zs.take j).map fun l=>((Sum.inr l:Key),V.str y))) rd=some (.dK rk):=by rw [aK hne];exact hrd
  have nin:z∉zs.take j:=fun hm=>by
   obtain⟨i,hi,ei⟩:=List.mem_iff_getElem.mp hm
   rw [List.length_take] at hi
   rw [List.getElem_take] at ei
   have e2:zs[j]=z:=by rw [List.getElem?_eq_getElem hj] at hzj;exact Option.some.inj hzj
   have:=(List.getElem_inj nd).mp (ei.trans e2.symm)
   omega
  have none':bT (kvs ++ (zs.take j).map fun l=>((Sum.inr l:Key),V.str y)) (Sum.inr z)=none:=fJ (by
   rw [List.map_append,List.mem_append,not_or]
   refine⟨fun hm=>?_,fun hm=>?_⟩
   ·have:(bT kvs (Sum.inr z)).isSome=true:=by rw [<-rA];obtain⟨p,hp,e⟩:=List.mem_map.mp hm;exact List.any_eq_true.mpr ⟨p,hp,decide_eq_true e⟩
    rw [r2] at this
    cases this
   ·rw [List.map_map] at hm
    obtain⟨b,hb,e⟩:=List.mem_map.mp hm
    cases e
    exact nin hb)
  refine⟨_,rfl,_,rfl,rd,some rv,rfl,(by rw [<-hrv];exact d9.k (k:=Sum.inr z) erd),_,rfl,cz ?_⟩
  refine⟨_,rfl,_,rfl,d,none,rfl,(by rw [<-none'];exact d9.k (k:=Sum.inr z) az),_,rfl,cz ?_⟩
  refine⟨_,rfl,_,rfl,_,rfl,d,_,rfl,ph.k (k:=Sum.inr z) az (by rw [lP,lM,List.length_take];omega),?_,_,rfl⟩
  rw [sS,iR _ none',List.append_assoc,List.take_succ,hzj,Option.toList_some,List.map_append]
  rfl
 ·rintro σ H' ⟨rfl,v4,rfl⟩
  rw [lM,List.take_length]
  exact k
inductive xg (K:PySem.W.Frag) (vs:List V) (H:Hp) (Q:VK) (E:XK):Prop where
 | mk:∀(r g d:Addr) (rk gk tk:List (Key×V)),vs=[.ref r,.ref g,.ref d]->H r=some (.dK rk)->H g=some (.dK gk)->H d=some (.dK tk)->r≠g->r≠d->((∀q∈rk,(bT gk q.1).isSome=true/\(bT tk q.1).isSome=true))->Q .non H->xg K vs H Q E
theorem Hw (T:Txt w K mg t):FO P w K mg base 1 t.Ad ["rooms", "givers", "takers"] (xg K):=by
 have sc:=T.tV.sc ["rooms", "givers", "takers", "lane"]
 refine T.tV.F.ok sc ln (fun _ _ _ _ H vs Q E hr h=>?_)
 obtain⟨r,g,d,rk,gk,tk,rfl,h1,h2,h3,n1,n2,hA,k⟩:=h
 refine⟨_,(aA (xY (H0:=H) rfl (du PassesOwn.never rfl (xW (pv 0)) (gN sc 3)
   (aA (bM (PW.pt (tE (gH (uW hr.u1 (pv 3) (pv 1))) (mq (gH (uW hr.u1 (pv 3) (pv 2))))))
    (aA dN)
    bu))))),?_⟩
 refine⟨_,rfl,r,_,rfl,h1,fun o=>wZ (fun j σ H'=>H'=upd H r (.frz o (.dK rk))/\∃v3,σ=[some (.ref r),some (.ref g),some (.ref d),v3]) ⟨rfl,none,rfl⟩ (fun j σ H' _ ⟨e,_⟩=>by rw [e];exact az) ?_ ?_⟩
 ·rintro j kk w σ H' hj ⟨rfl,v3,rfl⟩
  obtain⟨a1,a2⟩:=hA _ (List.mem_of_getElem? hj)
  obtain⟨u1,b1⟩:=Option.isSome_iff_exists.mp a1
  obtain⟨u2,b2⟩:=Option.isSome_iff_exists.mp a2
  have e2:upd H r (.frz o (.dK rk)) g=some (.dK gk):=by rw [aK (Ne.symm n1)];exact h2
  have e3:upd H r (.frz o (.dK rk)) d=some (.dK tk):=by rw [aK (Ne.symm n2)];exact h3
  exact⟨_,rfl,_,rfl,g,some u1,rfl,(by rw [<-b1];exact d9.k e2),_,rfl,cz ⟨_,rfl,_,rfl,d,some u2,rfl,(by rw [<-b2];exact d9.k e3),_,rfl,cz ⟨rfl,_,rfl⟩⟩⟩
 ·rintro σ H' ⟨rfl,v3,rfl⟩
  refine⟨_,⟨r,o,_,az,?_,rfl⟩,?_⟩
  ·intro o' u' z
   rw [show H r=_ from h1] at z
   cases z
  ·rw [sS,Hm h1]
   exact k
noncomputable def Pn (H:Hp) (J:Addr):List (Key×V):=match H J with
 | some (.dK jk)=>jk
 | _=>[]
theorem Mx {H:Hp} {J:Addr} {jk:List (Key×V)} (h:H J=some (.dK jk)):Pn H J=jk:=by
 unfold Pn
 rw [h]
theorem Rg {f:PD->List Str} {ps:List PD} {j:Nat} {k:Key} {v:V} (h:(cQ f ps)[j]?=some (k,v)):∃p∈ps,∃l∈f p,k=Sum.inr l/\v=.str p.name:=by
 have:=List.mem_of_getElem? h
 unfold cQ at this
 obtain⟨p,hp,hm⟩:=List.mem_flatMap.mp this
 obtain⟨l,hl,e⟩:=List.mem_map.mp hm
 cases e
 exact⟨p,hp,l,hl,rfl,rfl⟩
noncomputable def Rb (ps:List PD) (jk:List (Key×V)) (j:Nat):Prop:=∀i k v,i <j->(cQ (·.outs) ps)[i]?=some (k,v)->∀a∈ps,∀b∈ps,∀l,k=Sum.inr l->l∈a.outs->l∈b.ins->gO jk a.name=gO jk b.name
theorem Rb.all {ps:List PD} {jk:List (Key×V)} (h:Rb ps jk (cQ (·.outs) ps).length):∀a∈ps,∀b∈ps,∀l,l∈a.outs->l∈b.ins->gO jk a.name=gO jk b.name:=fun a ha b hb l la lb=>by
 have hm:((Sum.inr l:Key),V.str a.name)∈cQ (·.outs) ps:=List.mem_flatMap.mpr ⟨a,ha,List.mem_map.mpr ⟨l,la,rfl⟩⟩
 obtain⟨i,hi,ei⟩:=List.mem_iff_getElem.mp hm
 exact h i _ _ hi (by rw [List.getElem?_eq_getElem hi,ei]) a ha b hb l rfl la lb
inductive uh (K:PySem.W.Frag) (vs:List V) (H:Hp) (Q:VK) (E:XK):Prop where
 | mk:∀(p0:PD) (g d:Addr) (ps:List PD),vs=[.str p0.name,.ref g,.ref d]->p0∈ps->ps.length<=16->H g=some (.dK (cQ (·.outs) ps))->H d=some (.dK (cQ (·.ins) ps))->g≠d->(ps.flatMap (·.outs)).Nodup->(ps.flatMap (·.ins)).Nodup->(ps.flatMap (·.outs)).Perm (ps.flatMap (·.ins))->((∃y,∀q∈ps,∃x∈q.ins ++ q.outs,Drawn.jj ps x y))->(∀H' J jk,aJ H H'->H' J=some (.dK jk)->(∀p∈ps,gO jk p.name=true)->Q (.ref J) H')->uh K vs H Q E
theorem Ci (T:Txt w K mg t):FO P w K mg base 1 t.vO ["part", "givers", "takers"] (uh K):=by
 have sc:=T.qH.sc ["part", "givers", "takers", "joined", "grown", "lane"]
 refine T.qH.F.ok sc ln (fun _ _ _ _ H vs Q E hr h=>?_)
 obtain⟨p0,g,d,ps,rfl,hp0,hps,h1,h2,n1,no,ni,pm,hang,k⟩:=h
 refine⟨_,(aq (sN sc 3 (RV (Pb (pv 0) jT Sd) rfl rfl (by simp) (by decide)))
  (aq (sN sc 4 jT)
  (aq (Ih PassesOwn.never (fW (pv 4))
   (aq (sN sc 4 jT)
   (aA (xY (H0:=H) rfl (du PassesOwn.never rfl (xW (pv 1)) (gN sc 5)
    (aA (eG (bM (bc Jm (Bx (zu hr.u1 (b8 hr.u1 (pv 1) (pv 5) (fun _ _=>rfl)) (pv 3))) (Bx (zu hr.u1 (b8 hr.u1 (pv 2) (pv 5) (fun _ _=>rfl)) (pv 3))) (bH _))
     (aq (gh hr.u1 (pv 3) (b8 hr.u1 (pv 1) (pv 5) (fun _ _=>rfl)) jT rfl)
     (aq (gh hr.u1 (pv 3) (b8 hr.u1 (pv 2) (pv 5) (fun _ _=>rfl)) jT rfl)
     (aA (sN sc 4 jT))))
     bu))))))))
  (aA (aN (pv 3)))))),?_⟩
 have hl:sizeLine=16777216:=sizeLine_eq
 refine fun J nJ=>⟨_,rfl,az,[((Sum.inr p0.name:Key),V.bl true)],rfl,by show 1<=15;decide,?_⟩
 rw [sS]
 have s0:aJ H (upd H J (.dK (uV [] [((Sum.inr p0.name:Key),V.bl true)]))):=aB nJ
 have e0:(upd H J (.dK (uV [] [((Sum.inr p0.name:Key),V.bl true)]))) J=some (.dK [((Sum.inr p0.name:Key),V.bl true)]):=az
 generalize upd H J (.dK (uV [] [((Sum.inr p0.name:Key),V.bl true)]))=H0 at s0 e0 ⊢
 have ngJ:J≠g:=Ne.symm (aD h1 nJ)
 have ndJ:J≠d:=Ne.symm (aD h2 nJ)
 have melt:∀{H':Hp} {o:Obj},lX g H H'->H' g=some (.frz o (.dK (cQ (·.outs) ps)))->aJ H (upd H' g (.dK (cQ (·.outs) ps))):=fun hb hg b u e=>by
  by_cases h:b=g
  ·subst h;rw [az];rw [h1] at e;exact e
  ·rw [aK h];exact hb b u h e
 have m0:oK ps [((Sum.inr p0.name:Key),V.bl true)]<=16:=Nat.le_trans (List.length_filter_le _ _) hps
 refine Jv (fun σ H'=>aJ H H'/\∃b v5 jk,σ=[some (.str p0.name),some (.ref g),some (.ref d),some (.ref J),some (.bl b),v5]/\H' J=some (.dK jk)/\gO jk p0.name=true/\jk.length+2 * oK ps jk<=40/\(b=false->Rb ps jk (cQ (·.outs) ps).length))
  (fun σ H'=>match σ with | [_,_,_,_,some (.bl b),_]=>(if b then 1 else 0)+2 * oK ps (Pn H' J) | _=>0) ⟨s0,true,none,_,rfl,e0,by simp [gO,bT],by rw [List.length_singleton];omega,by intro z;cases z⟩ ?_ ?_
 ·rintro σ H1 ⟨s1,b,v5,jk,rfl,hJ,hp,hlen,hev⟩
  cases b with
  | false=>exact⟨_,rfl,_,rfl,cz ⟨_,rfl,k _ J jk s1 hJ (V8 no ni pm hang (hev rfl).all hp0 hp)⟩⟩
  | true=>
   refine⟨_,rfl,_,rfl,fU ?_⟩
   refine⟨_,rfl,g,_,rfl,s1 _ _ h1,fun o=>?_⟩
   have gD:∀{H':Hp},lX g H H'->H' d=some (.dK (cQ (·.ins) ps)):=fun hb=>hb d _ (Ne.symm n1) h2
   refine wZ (fun j σ H'=>lX g H H'/\H' g=some (.frz o (.dK (cQ (·.outs) ps)))/\∃b v5 jk',σ=[some (.str p0.name),some (.ref g),some (.ref d),some (.ref J),some (.bl b),v5]/\H' J=some (.dK jk')/\gO jk' p0.name=true/\jk'.length+2 * oK ps jk'<=40/\((b=false/\jk'=jk/\Rb ps jk j)∨(b=true/\oK ps jk' <oK ps jk)))
    ⟨fun b u hn e=>by rw [aK hn];exact s1 b u e,az,false,v5,jk,rfl,by rw [aK ngJ];exact hJ,hp,hlen,.inl ⟨rfl,rfl,fun i _ _ hi=>absurd hi (by omega)⟩⟩ (fun j σ H' _ h=>h.2.1) ?_ ?_
   ·rintro j kk w σ H' hj ⟨hb,hg,b,v5,jk',rfl,hJ',hp',hlen',hv⟩
    obtain⟨a,ha,l,la,rfl,rfl⟩:=Rg hj
    obtain⟨b',hb',lb⟩:=List.mem_flatMap.mp (pm.mem_iff.mp (List.mem_flatMap.mpr ⟨a,ha,la⟩))
    have ga:d9 H' g (.str l) (some (.str a.name)):=.inl ⟨_,Sum.inr l,.inr ⟨o,hg⟩,rfl,(jd no ha la).symm⟩
    have gb:d9 H' d (.str l) (some (.str b'.name)):=by rw [<-jd ni hb' lb];exact d9.k (k:=Sum.inr l) (gD hb)
    have ja:d9 H' J (.str a.name) (bT jk' (Sum.inr a.name)):=d9.k (k:=Sum.inr a.name) hJ'
    have jb:d9 H' J (.str b'.name) (bT jk' (Sum.inr b'.name)):=d9.k (k:=Sum.inr b'.name) hJ'
    have nm:∀a2∈ps,∀b2∈ps,l∈a2.outs->l∈b2.ins->a2.name=a.name/\b2.name=b'.name:=fun a2 ha2 b2 hb2 q1 q2=>by
     have e1:=jd no ha2 q1
     rw [jd no ha la] at e1
     have e2:=jd ni hb2 q2
     rw [jd ni hb' lb] at e2
     simp only [Option.some.injEq,V.str.injEq] at e1 e2
     exact⟨e1.symm,e2.symm⟩
    refine⟨fun σ H''=>lX g H H''/\H'' g=some (.frz o (.dK (cQ (·.outs) ps)))/\∃b jk'',σ=[some (.str p0.name),some (.ref g),some (.ref d),some (.ref J),some (.bl b),some (.str l)]/\H'' J=some (.dK jk'')/\gO jk'' p0.name=true/\jk''.length+2 * oK ps jk''<=40/\((b=false/\jk''=jk/\Rb ps jk (j+1))∨(b=true/\oK ps jk'' <oK ps jk)),?_,?_⟩
    ·refine⟨_,rfl,_,rfl,g,_,rfl,ga,_,rfl,J,_,rfl,ja,?_⟩
     refine⟨_,rfl,_,rfl,d,_,rfl,gb,_,rfl,J,_,rfl,jb,rfl,_,rfl,?_⟩
     change if (!decide (V.bl (gO jk' a.name)=V.bl (gO jk' b'.name)))=true then _ else _
     refine jG (fun hne=>?_) (fun heq=>?_)
     ·have hne':gO jk' a.name≠gO jk' b'.name:=fun z=>by rw [z] at hne;simp at hne
      refine⟨_,rfl,_,rfl,_,rfl,g,_,rfl,ga,J,_,rfl,ph.k (k:=Sum.inr a.name) hJ' (by omega),?_⟩
      have b2:lX g H (upd H' J (.dK (putK jk' (Sum.inr a.name) (.bl true)))):=fun x u hn e=>by rw [aK (aD e nJ)];exact hb x u hn e
      have g2:(upd H' J (.dK (putK jk' (Sum.inr a.name) (.bl true)))) g=some (.frz o (.dK (cQ (·.outs) ps))):=by rw [aK (Ne.symm ngJ)];exact hg
      have gb2:d9 (upd H' J (.dK (putK jk' (Sum.inr a.name) (.bl true)))) d (.str l) (some (.str b'.name)):=by rw [<-jd ni hb' lb];exact d9.k (k:=Sum.inr l) (gD b2)
      have len1:=lL jk' (Sum.inr a.name:Key) (.bl true)
      have len2:=lL (putK jk' (Sum.inr a.name) (.bl true)) (Sum.inr b'.name:Key) (.bl true)
      refine⟨_,rfl,_,rfl,_,rfl,d,_,rfl,gb2,J,_,rfl,ph.k (k:=Sum.inr b'.name) az (by omega),?_⟩
      rw [sS]
      have has2:∀x,gO (putK (putK jk' (Sum.inr a.name) (.bl true)) (Sum.inr b'.name) (.bl true)) x=(decide (x=b'.name) || (decide (x=a.name) || gO jk' x)):=fun x=>by rw [IV,IV]
      have mono:∀x,gO jk' x=true->gO (putK (putK jk' (Sum.inr a.name) (.bl true)) (Sum.inr b'.name) (.bl true)) x=true:=fun x hx=>by rw [has2,hx];simp
      have lt:oK ps (putK (putK jk' (Sum.inr a.name) (.bl true)) (Sum.inr b'.name) (.bl true)) <oK ps jk':=by
       cases hA:gO jk' a.name
       ·exact Ju mono ha hA (by rw [has2];simp)
       ·cases hB:gO jk' b'.name
        ·exact Ju mono hb' hB (by rw [has2];simp)
        ·rw [hA,hB] at hne';exact absurd rfl hne'
      refine⟨fun x u hn e=>by rw [aK (aD e nJ)];exact hb x u hn e,by rw [aK (Ne.symm ngJ)];exact hg,true,_,rfl,az,mono _ hp',by omega,.inr ⟨rfl,?_⟩⟩
      rcases hv with ⟨_,rfl,_⟩ | ⟨_,hv⟩
      ·exact lt
      ·omega
     ·have heq':gO jk' a.name=gO jk' b'.name:=by
       cases hA:gO jk' a.name <;> cases hB:gO jk' b'.name <;> rw [hA,hB] at heq <;> simp_all
      refine⟨hb,hg,b,jk',rfl,hJ',hp',hlen',?_⟩
      rcases hv with ⟨rfl,rfl,hE⟩ | hv
      ·refine .inl ⟨rfl,rfl,fun i k2 v2 hi e2 a2 ha2 b2 hb2 l2 ek q1 q2=>?_⟩
       rcases Nat.lt_or_ge i j with h | h
       ·exact hE i k2 v2 h e2 a2 ha2 b2 hb2 l2 ek q1 q2
       ·have:i=j:=by omega
        subst this
        rw [hj] at e2
        cases e2
        cases ek
        obtain⟨x1,x2⟩:=nm a2 ha2 b2 hb2 q1 q2
        rw [x1,x2]
        exact heq'
      ·exact .inr hv
    ·rintro σ H'' ⟨hb,hg,b,jk'',rfl,r⟩
     exact⟨hb,hg,b,_,jk'',rfl,r⟩
   ·rintro σ H' ⟨hb,hg,b,v5',jk',rfl,hJ',hp',hlen',hv⟩
    refine⟨_,⟨g,o,_,hg,(fun o' u' z=>by rw [show H g=_ from h1] at z;cases z),rfl⟩,?_⟩
    have eJ:(upd H' g (.dK (cQ (·.outs) ps))) J=some (.dK jk'):=by rw [aK ngJ];exact hJ'
    refine⟨⟨melt hb hg,b,v5',jk',rfl,eJ,hp',hlen',fun z=>?_⟩,?_⟩
    ·rcases hv with ⟨_,rfl,hE⟩ | ⟨h,_⟩
     ·exact hE
     ·rw [h] at z;cases z
    ·show(if b=true then 1 else 0)+2 * oK ps (Pn _ J) <(if true=true then 1 else 0)+2 * oK ps (Pn _ J)
     rw [Mx eJ,Mx hJ]
     rcases hv with ⟨rfl,rfl,_⟩ | ⟨rfl,h⟩
     ·simp
     ·simp;omega
 ·intro σ H' Q' Q'' hm hq
  obtain⟨v,e,b,e2,q⟩:=hq
  exact⟨v,e,b,e2,hm _ _ q⟩
inductive tQ (K:PySem.W.Frag) (vs:List V) (H:Hp) (Q:VK) (E:XK):Prop where
 | mk:∀(L g d:Addr) (ps:List PD),vs=[.ref L,.ref g,.ref d]->(bI K H L (ps.map fun p=>V.str p.name))->1<=ps.length->ps.length<=16->H g=some (.dK (cQ (·.outs) ps))->H d=some (.dK (cQ (·.ins) ps))->g≠d->(ps.flatMap (·.outs)).Nodup->(ps.flatMap (·.ins)).Nodup->(ps.flatMap (·.outs)).Perm (ps.flatMap (·.ins))->((∃y,∀q∈ps,∃x∈q.ins ++ q.outs,Drawn.jj ps x y))->(∀H',aJ H H'->Q .non H')->tQ K vs H Q E
theorem Df (T:Txt w K mg t):FO P w K mg base 2 t.wy ["names", "givers", "takers"] (tQ K):=by
 have sc:=T.qC.sc ["names", "givers", "takers", "joined", "name"]
 refine T.qC.F.ok sc ln (fun _ _ _ _ H vs Q E hr h=>?_)
 obtain⟨L,g,d,ps,rfl,hL,hp1,hps,h1,h2,n1,no,ni,pm,hang,k⟩:=h
 refine⟨_,(aq (sN sc 3 (dC (Ci T) T.qH hr (aa (aR aQ (pv 0) au (fun _ _=>rfl)) (aa (pv 1) (aa (pv 2) ak aj) aj) aF)))
  (aA (du PassesOwn.never rfl (bN (pv 0)) (gN sc 4)
   (aA (bM (gH (uW hr.u1 (pv 4) (pv 3)))
    (aA dN)
    bu))))),?_⟩
 obtain⟨p0,pr,rfl⟩:∃p0 pr,ps=p0:: pr:=by
  cases ps with
  | nil=>simp at hp1
  | cons a r=>exact⟨a,r,rfl⟩
 refine⟨_,rfl,L,_,0,_,rfl,rfl,hL,aM (j:=0) rfl,_,rfl,_,rfl,p0,g,d,_,rfl,List.mem_cons_self,hps,h1,h2,n1,no,ni,pm,hang,fun H1 J jk s1 eJ hA=>?_⟩
 refine⟨_,rfl,L,rfl,⟨_,s1.seq hL⟩,cJ (K:=K) (a:=L) (xs:=(p0:: pr).map fun p=>V.str p.name) (fun j σ H'=>H'=H1/\∃v4,σ=[some (.ref L),some (.ref g),some (.ref d),some (.ref J),v4]) ⟨rfl,none,rfl⟩ (fun j σ H' _ ⟨e,_⟩=>by rw [e];exact s1.seq hL) ?_ ?_⟩
 ·rintro j x σ H' hx ⟨rfl,v4,rfl⟩
  rw [List.getElem?_map] at hx
  obtain⟨p,hp,rfl⟩:=Option.map_eq_some_iff.mp hx
  obtain⟨u,hu⟩:=Option.isSome_iff_exists.mp (hA p (List.mem_of_getElem? hp))
  exact⟨_,rfl,_,rfl,J,some u,rfl,(by rw [<-hu];exact d9.k (k:=Sum.inr p.name) eJ),_,rfl,cz ⟨rfl,_,rfl⟩⟩
 ·rintro σ H' ⟨rfl,v4,rfl⟩
  exact k _ s1
inductive qg (K:PySem.W.Frag) (t:ji) (vs:List V) (H:Hp) (Q:VK) (E:XK):Prop where
 | mk:∀(n:Addr) (ls:List aG) (ps:List PD),vs=[.ref n]->gJ K t H n ls ps->(∀l,H l=none->Q (.ref l) (upd H l (.lst (ls.map fun x=>V.str x.name))))->qg K t vs H Q E
theorem pZ (T:Txt w K mg t):FO P w K mg base 1 t.j7 ["self"] (qg K t):=by
 have sc:=T.iW.sc ["self"]
 refine T.iW.F.ok sc ln (fun _ _ _ _ H vs Q E hr h=>?_)
 obtain⟨n,ls,ps,rfl,N,k⟩:=h
 refine⟨_,(aA (aN (fB (oW rfl) (by rfl) T.uI qu (aa (bh (pv 0) rfl) ak bF)))),?_⟩
 obtain⟨dx,fs,R,F,Pd,G,Tk,FL,PL,W⟩:=id N
 refine⟨_,rfl,n,_,dx,fs,_,rfl,W.obj,T.bj.c,T.bj.na.1,W.fl.has ("rooms",.ref R) (by simp),R,_,rfl,.inl W.rooms,fun l hl=>?_⟩
 unfold dq
 rw [List.map_map]
 exact k l hl
inductive ql (K:PySem.W.Frag) (t:ji) (vs:List V) (H:Hp) (Q:VK) (E:XK):Prop where
 | mk:∀(n:Addr) (ls:List aG) (ps:List PD),vs=[.ref n]->gJ K t H n ls ps->(∀l,H l=none->Q (.ref l) (upd H l (.lst (ps.map fun x=>V.str x.name))))->ql K t vs H Q E
theorem il (T:Txt w K mg t):FO P w K mg base 1 t.km ["self"] (ql K t):=by
 have sc:=T.eU.sc ["self"]
 refine T.eU.F.ok sc ln (fun _ _ _ _ H vs Q E hr h=>?_)
 obtain⟨n,ls,ps,rfl,N,k⟩:=h
 refine⟨_,(aA (aN (fB (oW rfl) (by rfl) T.uI qu (aa (bh (pv 0) rfl) ak bF)))),?_⟩
 obtain⟨dx,fs,R,F,Pd,G,Tk,FL,PL,W⟩:=id N
 refine⟨_,rfl,n,_,dx,fs,_,rfl,W.obj,T.bj.c,T.bj.na.2.2.1,W.fl.has ("parts",.ref Pd) (by simp),Pd,_,rfl,.inl W.parts,fun l hl=>?_⟩
 unfold d8
 rw [List.map_map]
 have e:ps.map (fun x=>V.str x.name)=PL.map (fun q=>V.str q.1.name):=by rw [<-W.pls,List.map_map];rfl
 rw [e] at k
 exact k l hl
theorem Tf (T:Txt w K mg t) (i:Nat):MethAt P w K mg base Cq 1 (cls t i) "kind" (iZ i):=match i with
 | 0=>⟨_,_,_,T.iM.c,(T.qi.me T.iM.me.2.1),T.qi.b,Hs T⟩
 | 1=>⟨_,_,_,T.iy.c,(T.qm.me T.iy.me.2.1),T.qm.b,Gk T⟩
 | 2=>⟨_,_,_,T.iH.c,(T.pP.me T.iH.me.2.1),T.pP.b,Gs T⟩
 | 3=>⟨_,_,_,T.iI.c,(T.qd.me T.iI.me.2.1),T.qd.b,Gg T⟩
 | 4=>⟨_,_,_,T.iJ.c,(T.qb.me T.iJ.me.2.1),T.qb.b,GR T⟩
 | 5=>⟨_,_,_,T.iD.c,(T.qw.me T.iD.me.2.1),T.qw.b,Gy T⟩
 | 6=>⟨_,_,_,T.lO.c,(T.sU.me T.lO.me.2.1),T.sU.b,Jf T⟩
 | 7=>⟨_,_,_,T.iz.c,(T.qe.me T.iz.me.2.1),T.qe.b,G5 T⟩
 | 8=>⟨_,_,_,T.fH.c,(T.m5.me T.fH.me.2.1),T.m5.b,DY T⟩
 | 9=>⟨_,_,_,T.dY.c,(T.lB.me T.dY.me.2.1),T.lB.b,Bk T⟩
 | n+10=>⟨_,_,_,T.fP.c,(T.nZ.me T.fP.me.2.1),T.nZ.b,DQ T⟩
inductive lN (K:PySem.W.Frag) (t:ji) (vs:List V) (H:Hp) (Q:VK) (E:XK):Prop where
 | mk:∀(n:Addr) (ls:List aG) (ps:List PD) (x:Str),vs=[.ref n,.str x]->gJ K t H n ls ps->(∀p,H p=none->Q (.ref p) (upd H p (.lst (dH ps x))))->lN K t vs H Q E
theorem lW (T:Txt w K mg t):FO P w K mg base 2 t.jh ["self", "kind"] (lN K t):=by
 have sc:=T.gf.sc ["self", "kind"]
 refine T.gf.F.ok sc ln (fun _ _ _ _ H vs Q E hr h=>?_)
 obtain⟨n,ls,ps,x,rfl,N,k⟩:=h
 refine⟨_,(aA (aN (S7 (H0:=H) rfl (eX [0,1] ["self", "kind"] (aU (inClass (top 56) 5)) rfl (xW (bh (pv 0) rfl)) (fun _ _ _ _ _=>(qR (bc fc (KH (P:=P) (w:=w) (K:=K) (mg:=mg) (base:=base) (CX:=Cq) (k:=1) (E:=E0) rfl rfl rfl rfl rfl (b8 hr.u1 (Hu (K:=K) rfl (pv 1) rfl) (pv 0) (fun _ _=>rfl)) (hr.mono (by decide)) ir) (pv 2) (bH _)))) (fun _ _ _ _ _=>(pv 0)))))),?_⟩
 obtain⟨dx,fs,R,F,Pd,G,Tk,FL,PL,W⟩:=id N
 have hz:sizeLine=16777216:=sizeLine_eq
 have hp:=W.fit.p16
 have h5:=W.parts
 have lpl:PL.length=ps.length:=by rw [<-W.pls,lM]
 refine⟨_,rfl,n,_,dx,fs,_,rfl,W.obj,T.bj.c,T.bj.na.2.2.1,W.fl.has ("parts",.ref Pd) (by simp),Pd,_,rfl,h5,fun o=>?_⟩
 refine Oi (fun j ys H'=>H'=upd H Pd (.frz o (.dK (d8 PL)))/\ys=dH ((PL.take j).map (·.1)) x) (by unfold d8;rw [lM];omega) ⟨rfl,by simp [dH]⟩ ?_ ?_ ?_ ?_
 ·rintro j ys H' ⟨_,rfl⟩
  have:=xj ((PL.take j).map (·.1)) x
  rw [lM,List.length_take] at this
  omega
 ·rintro j ys H' _ ⟨rfl,_⟩
  exact az
 ·rintro j kk v ys H' hj ⟨rfl,rfl⟩
  unfold d8 at hj
  rw [List.getElem?_map] at hj
  obtain⟨q,hq,e⟩:=Option.map_eq_some_iff.mp hj
  cases e
  have hm:=List.mem_of_getElem? hq
  obtain⟨dxp,tn,ti,to,p1,p2,p3,p4⟩:=((W.pats q hm).chill (v:=.frz o (.dK (d8 PL))) h5).ex
  refine⟨_,rfl,n,_,dx,fs,_,rfl,jD h5 W.obj (by intro _ z;cases z),T.bj.c,T.bj.na.2.2.1,W.fl.has ("parts",.ref Pd) (by simp),_,rfl,Pd,_,rfl,(by rw [<-W.partV hm];exact .inl ⟨_,Sum.inr q.1.name,.inr ⟨o,az⟩,rfl,rfl⟩),?_⟩
  refine⟨q.2,cls t q.1.kind,dxp,_,iZ q.1.kind,rfl,p1,vf _ _ _ _ (by decide +kernel) (by decide +kernel) (by decide +kernel) (by decide +kernel),Tf T q.1.kind,_,rfl,_,rfl,rfl,_,rfl,?_⟩
  rw [List.take_succ,hq,Option.toList_some,List.map_append,List.map_singleton,NQ]
  refine jG (fun e=>?_) (fun e=>?_)
  ·have e':cX q.1.kind=x:=by simpa using e
   rw [if_pos e']
   exact⟨_,rfl,rfl,rfl⟩
  ·have e':¬cX q.1.kind=x:=by simpa using e
   rw [if_neg e']
   exact⟨rfl,rfl⟩
 ·rintro ys H' ⟨rfl,rfl⟩ D hD
  refine⟨_,⟨Pd,o,d8 PL,?_,?_,rfl⟩,?_⟩
  ·rw [aK (by rintro rfl;rw [az] at hD;cases hD)]
   exact az
  ·intro o' u z
   rw [show H Pd=_ from h5] at z
   cases z
  ·rw [Ny h5 hD]
   have:=k D (J1 hD)
   rw [show(d8 PL).length=PL.length by unfold d8;rw [lM],List.take_length,W.pls]
   exact this
inductive xr (K:PySem.W.Frag) (t:ji) (vs:List V) (H:Hp) (Q:VK) (E:XK):Prop where
 | mk:∀(n:Addr) (ls:List aG) (ps:List PD),vs=[.ref n]->gJ K t H n ls ps->(∀p,H p=none->Q (.ref p) (upd H p (.lst (dH ps "give"))))->xr K t vs H Q E
theorem nj (T:Txt w K mg t):FO P w K mg base 3 t.uC ["self"] (xr K t):=by
 have sc:=T.jA.sc ["self"]
 refine T.jA.F.ok sc ln (fun _ _ _ _ H vs Q E hr h=>?_)
 obtain⟨n,ls,ps,rfl,N,k⟩:=h
 refine⟨_,(aA (aN (wD (pv 0) T.bj T.bj.me.2.2.2.1 (lW T) T.gf hr (aa bG ak ao)))),?_⟩
 obtain⟨dx,fs,R,F,Pd,G,Tk,FL,PL,W⟩:=id N
 exact⟨_,rfl,n,dx,fs,rfl,W.obj,W.fl.no _ (by decide +kernel),n,ls,ps,_,rfl,N,k⟩
inductive ym (K:PySem.W.Frag) (t:ji) (vs:List V) (H:Hp) (Q:VK) (E:XK):Prop where
 | mk:∀(n:Addr) (ls:List aG) (ps:List PD),vs=[.ref n]->gJ K t H n ls ps->(∀p,H p=none->Q (.ref p) (upd H p (.lst (dH ps "take"))))->ym K t vs H Q E
theorem Ht (T:Txt w K mg t):FO P w K mg base 3 t.uy ["self"] (ym K t):=by
 have sc:=T.tR.sc ["self"]
 refine T.tR.F.ok sc ln (fun _ _ _ _ H vs Q E hr h=>?_)
 obtain⟨n,ls,ps,rfl,N,k⟩:=h
 refine⟨_,(aA (aN (wD (pv 0) T.bj T.bj.me.2.2.2.1 (lW T) T.gf hr (aa bG ak ao)))),?_⟩
 obtain⟨dx,fs,R,F,Pd,G,Tk,FL,PL,W⟩:=id N
 exact⟨_,rfl,n,dx,fs,rfl,W.obj,W.fl.no _ (by decide +kernel),n,ls,ps,_,rfl,N,k⟩
inductive j0 (K:PySem.W.Frag) (t:ji) (vs:List V) (H:Hp) (Q:VK) (E:XK):Prop where
 | mk:∀(n:Addr) (ls:List aG) (ps:List PD) (x:Str),vs=[.ref n,.str x]->gJ K t H n ls ps->(((x∈ls.map (·.name)/\∀H',aJ H H'->Q .non H')∨False))->j0 K t vs H Q E
theorem ig (T:Txt w K mg t):FO P w K mg base 2 t.iK ["self", "name"] (j0 K t):=by
 have sc:=T.dX.sc ["self", "name"]
 refine T.dX.F.ok sc ln (fun _ _ _ _ H vs Q E hr h=>?_)
 obtain⟨n,ls,ps,x,rfl,N,h⟩:=h
 refine⟨_,(aA (bM (bc jQ (pv 1) (Oz (pv 0) T.bj T.bj.me.2.1 (pZ T) T.iW hr) (by with_unfolding_all rfl))
   (aA dN)
   bu)),?_⟩
 obtain⟨dx,fs,R,F,Pd,G,Tk,FL,PL,W⟩:=id N
 refine⟨_,rfl,_,rfl,n,dx,fs,rfl,W.obj,W.fl.no _ (by decide +kernel),n,ls,ps,rfl,N,fun l hl=>?_⟩
 have s1:=aB (o:=.lst (ls.map fun x=>V.str x.name)) hl
 refine⟨l,_,rfl,.inl (bI.of az),rfl,by simp [jz],_,rfl,?_⟩
 rw [JK (f:=fun x:aG=>x.name)]
 rcases h with ⟨hx,k⟩ | h
 ·rw [decide_eq_true hx]
  exact cz (k _ s1)
 ·exact h.elim
inductive uL (K:PySem.W.Frag) (t:ji) (vs:List V) (H:Hp) (Q:VK) (E:XK):Prop where
 | mk:∀(n:Addr) (ls:List aG) (ps:List PD) (x:Str),vs=[.ref n,.str x]->gJ K t H n ls ps->(((∃l∈ls,l.name=x/\∀H',aJ H H'->Q (.int l.room) H')∨False))->uL K t vs H Q E
theorem Cg (T:Txt w K mg t):FO P w K mg base 3 t.qK ["self", "name"] (uL K t):=by
 have sc:=T.qF.sc ["self", "name"]
 refine T.qF.F.ok sc ln (fun _ _ _ _ H vs Q E hr h=>?_)
 obtain⟨n,ls,ps,x,rfl,N,h⟩:=h
 refine⟨_,(aq (bK (wD (pv 0) T.bj T.bj.me.2.2.2.2.2.2.1 (ig T) T.dX hr (aa (pv 1) ak aj)))
  (aA (aN (b8 hr.u1 (bh (pv 0) rfl) (pv 1) (fun _ _=>rfl))))),?_⟩
 obtain⟨dx,fs,R,F,Pd,G,Tk,FL,PL,W⟩:=id N
 refine⟨_,rfl,n,dx,fs,rfl,W.obj,W.fl.no _ (by decide +kernel),_,rfl,n,ls,ps,x,rfl,N,?_⟩
 rcases h with ⟨l,hl,rfl,k⟩ | h
 ·refine .inl ⟨List.mem_map.mpr ⟨l,hl,rfl⟩,fun H1 s1=>?_⟩
  have W1:=W.same s1
  have hv:=W1.room hl
  refine⟨_,rfl,n,_,dx,fs,_,rfl,W1.obj,T.bj.c,T.bj.na.1,W1.fl.has ("rooms",.ref R) (by simp),_,rfl,R,_,rfl,(by rw [<-hv];exact d9.k (k:=Sum.inr l.name) W1.rooms),?_⟩
  exact k _ s1
 ·exact .inr h
inductive sY (K:PySem.W.Frag) (t:ji) (vs:List V) (H:Hp) (Q:VK) (E:XK):Prop where
 | mk:∀(n:Addr) (ls:List aG) (ps:List PD) (x:Str),vs=[.ref n,.str x]->gJ K t H n ls ps->(((∃l∈ls,l.name=x/\∀H' p,aJ H H'->H p=none->H' p=some (.lst (l.first.map V.int))->Q (.ref p) H')∨False))->sY K t vs H Q E
theorem Ax (T:Txt w K mg t):FO P w K mg base 3 t.oR ["self", "name"] (sY K t):=by
 have sc:=T.pG.sc ["self", "name"]
 refine T.pG.F.ok sc ln (fun _ _ _ _ H vs Q E hr h=>?_)
 obtain⟨n,ls,ps,x,rfl,N,h⟩:=h
 refine⟨_,(aq (bK (wD (pv 0) T.bj T.bj.me.2.2.2.2.2.2.1 (ig T) T.dX hr (aa (pv 1) ak aj)))
  (aA (aN (fB wX (by rfl) T.uI qu (aa (b8 hr.u1 (bh (pv 0) rfl) (pv 1) (fun _ _=>rfl)) ak aF))))),?_⟩
 obtain⟨dx,fs,R,F,Pd,G,Tk,FL,PL,W⟩:=id N
 refine⟨_,rfl,n,dx,fs,rfl,W.obj,W.fl.no _ (by decide +kernel),_,rfl,n,ls,ps,x,rfl,N,?_⟩
 rcases h with ⟨l,hl,rfl,k⟩ | h
 ·refine .inl ⟨List.mem_map.mpr ⟨l,hl,rfl⟩,fun H1 s1=>?_⟩
  have W1:=W.same s1
  obtain⟨q,hq,eq⟩:∃q∈FL,q.1=l:=by
   rw [<-W.fls] at hl
   obtain⟨q,hq,e⟩:=List.mem_map.mp hl
   exact⟨q,hq,e⟩
  subst eq
  have hv:=W1.firstV hq
  refine⟨_,rfl,n,_,dx,fs,_,rfl,W1.obj,T.bj.c,T.bj.na.2.1,W1.fl.has ("firsts",.ref F) (by simp),_,rfl,F,_,rfl,(by rw [<-hv];exact d9.k (k:=Sum.inr q.1.name) W1.firsts),?_⟩
  exact⟨q.2,_,rfl,.inr (W1.tups q hq),fun p hp=>k _ p (s1.trans (aB hp)) (s1.free hp) az⟩
 ·exact .inr h
inductive uz (K:PySem.W.Frag) (t:ji) (vs:List V) (H:Hp) (Q:VK) (E:XK):Prop where
 | mk:∀(n:Addr) (ls:List aG) (ps:List PD) (x:Str),vs=[.ref n,.str x]->gJ K t H n ls ps->(((∃p∈ps,p.name=x/\∀H' q,aJ H H'->fj K t H' q p.kind (.str p.name) (p.nums.map V.int) (p.ins.map V.str) (p.outs.map V.str)->Q (.ref q) H')∨False))->uz K t vs H Q E
theorem oM (T:Txt w K mg t):FO P w K mg base 2 t.qI ["self", "name"] (uz K t):=by
 have sc:=T.jo.sc ["self", "name"]
 refine T.jo.F.ok sc ln (fun _ _ _ _ H vs Q E hr h=>?_)
 obtain⟨n,ls,ps,x,rfl,N,h⟩:=h
 refine⟨_,(aq (bM (bc jQ (pv 1) (Oz (pv 0) T.bj T.bj.me.2.2.1 (il T) T.eU hr) (by with_unfolding_all rfl))
   (aA dN)
   bu)
  (aA (aN (b8 hr.u1 (bh (pv 0) rfl) (pv 1) (fun _ _=>rfl))))),?_⟩
 obtain⟨dx,fs,R,F,Pd,G,Tk,FL,PL,W⟩:=id N
 refine⟨_,rfl,_,rfl,n,dx,fs,rfl,W.obj,W.fl.no _ (by decide +kernel),n,ls,ps,rfl,N,fun l hl=>?_⟩
 have s1:=aB (o:=.lst (ps.map fun x=>V.str x.name)) hl
 refine⟨l,_,rfl,.inl (bI.of az),rfl,by simp [jz],_,rfl,?_⟩
 rw [JK (f:=fun x:PD=>x.name)]
 rcases h with ⟨p,hp,rfl,k⟩ | h
 ·rw [decide_eq_true (List.mem_map.mpr ⟨p,hp,rfl⟩)]
  refine cz ?_
  obtain⟨q,hq,eq⟩:∃q∈PL,q.1=p:=by
   rw [<-W.pls] at hp
   obtain⟨q,hq,e⟩:=List.mem_map.mp hp
   exact⟨q,hq,e⟩
  subst eq
  have W1:=W.same s1
  have hv:=W1.partV hq
  exact⟨_,rfl,n,_,dx,fs,_,rfl,W1.obj,T.bj.c,T.bj.na.2.2.1,W1.fl.has ("parts",.ref Pd) (by simp),_,rfl,Pd,_,rfl,(by rw [<-hv];exact d9.k (k:=Sum.inr q.1.name) W1.parts),k _ q.2 s1 (W1.pats q hq)⟩
 ·exact h.elim
inductive sZ (K:PySem.W.Frag) (t:ji) (vs:List V) (H:Hp) (Q:VK) (E:XK):Prop where
 | mk:∀(n dx Ll Lp:Addr) (ls:List aG) (ps:List PD),vs=[.ref n,.ref Ll,.ref Lp]->H n=some (.ins t.dF dx [])->Hand K H Ll Lp ls ps->wg ls ps->(∀H',lX n H H'->gJ K t H' n ls ps->Q .non H')->sZ K t vs H Q E
theorem Ay (T:Txt w K mg t):FO P w K mg base 6 t.pJ ["self", "lanes", "parts"] (sZ K t):=by
 have sc:=T.jJ.sc ["self", "lanes", "parts", "lane", "row", "part"]
 refine T.jJ.F.ok sc ln (fun _ _ _ _ H vs Q E hr h=>?_)
 obtain⟨n,dx,Ll,Lp,ls,ps,rfl,hn,hH,hF,k⟩:=h
 refine⟨_,(aq (bK (dC (Dl T) T.qD hr (aa (pv 1) (aa (pv 2) ak aj) aj)))
  (aq (ik (pv 0) fM rfl)
  (aq (ik (pv 0) fM rfl)
  (aq (du PassesOwn.never rfl (bN (pv 1)) (gN sc 3)
   (aq (bK (dC (vL T) T.m8 hr (aa (aR cZ (pv 3) au (fun _ _=>rfl)) (aa (bh (pv 0) rfl) ak bF) aF)))
   (aq (bK (dC (Hh T) T.uG hr (aa (aR cZ (pv 3) au (fun _ _=>rfl)) (aa (aR cZ (pv 3) au (fun _ _=>rfl)) (aa (aR cZ (pv 3) au (fun _ _=>rfl)) ak aF) aF) aF)))
   (aq (gh hr.u1 (bh (pv 0) rfl) (aR cZ (pv 3) au (fun _ _=>rfl)) (aR cZ (pv 3) au (fun _ _=>rfl)) rfl)
   (aA (gh hr.u1 (bh (pv 0) rfl) (aR cZ (pv 3) au (fun _ _=>rfl)) (fB u0 (by rfl) T.xM ue (aa (aR cZ (pv 3) au (fun _ _=>rfl)) ak aF)) rfl))))))
  (aq (ik (pv 0) fM rfl)
  (aq (ik (pv 0) fM rfl)
  (aq (ik (pv 0) fM rfl)
  (aq (du PassesOwn.never rfl (bN (pv 2)) (gN sc 4)
   (aq (sN sc 5 (dC (Ea T) T.sV hr (aa (pv 4) (aa (bh (pv 0) rfl) ak bF) aj)))
   (aq (bK (dC (xP T) T.pQ hr (aa (bh (pv 5) rfl) (aa (bh (pv 5) rfl) (aa (bh (pv 0) rfl) (aa (bh (pv 0) rfl) ak bF) bF) bF) bF)))
   (aq (bK (dC (xP T) T.pQ hr (aa (bh (pv 5) rfl) (aa (bh (pv 5) rfl) (aa (bh (pv 0) rfl) (aa (bh (pv 0) rfl) ak bF) bF) bF) bF)))
   (aA (gh hr.u1 (bh (pv 0) rfl) (bh (pv 5) rfl) (pv 5) rfl))))))
  (aq (bK (dC (Hw T) T.tV hr (aa (bh (pv 0) rfl) (aa (bh (pv 0) rfl) (aa (bh (pv 0) rfl) ak bF) bF) bF)))
  (aA (bK (dC (Df T) T.qC hr (aa (fB (oW rfl) (by rfl) T.uI qu (aa (bh (pv 0) rfl) ak bF)) (aa (bh (pv 0) rfl) (aa (bh (pv 0) rfl) ak bF) bF) aY))))))))))))),?_⟩
 have hl:sizeLine=16777216:=sizeLine_eq
 obtain⟨xs,hLl,aL⟩:=hH.ll
 obtain⟨ys,hLp,aP⟩:=hH.lp
 have lx:=aL.length
 have ly:=aP.length
 have l1:=hF.l1
 have l24:=hF.l24
 have p1:=hF.p1
 have p16:=hF.p16
 refine⟨_,rfl,_,rfl,Ll,Lp,_,_,rfl,hLl,hLp,by omega,by omega,by omega,by omega,?_⟩
 have T0:=Tr.start hn
 refine fun R nR=>?_
 have T1:=T0.new (o:=.dK []) nR
 have gR:=aB (o:=.dK []) nR
 generalize upd H R (.dK [])=H1 at T1 gR ⊢
 have cR:=T1.all (n,.ins t.dF dx []) (.head _)
 refine⟨_,rfl,n,_,dx,_,rfl,cR,T.bj.c,T.bj.na.1,Nat.lt_of_le_of_lt (show 0<=0 from Nat.le_refl 0) (by decide),?_⟩
 have T2:=T1.put (L1:=[]) (o':=.ins t.dF dx (aH "rooms" (.ref R) []))
 have wR:lX n H1 (upd H1 n (.ins t.dF dx (aH "rooms" (.ref R) []))):=lX.write
 generalize upd H1 n (.ins t.dF dx (aH "rooms" (.ref R) []))=H2 at T2 wR ⊢
 refine fun F nF=>?_
 have T3:=T2.new (o:=.dK []) nF
 have gF:=aB (o:=.dK []) nF
 generalize upd H2 F (.dK [])=H3 at T3 gF ⊢
 have cF:=T3.all (n,.ins t.dF dx (aH "rooms" (.ref R) [])) (.head _)
 refine⟨_,rfl,n,_,dx,_,rfl,cF,T.bj.c,T.bj.na.2.1,Nat.lt_of_le_of_lt (gW (Nat.zero_le 0)) (by decide),?_⟩
 have T4:=T3.put (L1:=[]) (o':=.ins t.dF dx (aH "firsts" (.ref F) (aH "rooms" (.ref R) [])))
 have wF:lX n H3 (upd H3 n (.ins t.dF dx (aH "firsts" (.ref F) (aH "rooms" (.ref R) [])))):=lX.write
 generalize upd H3 n (.ins t.dF dx (aH "firsts" (.ref F) (aH "rooms" (.ref R) [])))=H4 at T4 wF ⊢
 have kb:∀{Hk:Hp} {q:Addr} {u:HO},lX n H Hk->H q=some u->(∀C d f,u≠.ins C d f)->Hk q=some u:=fun b h hu=>b _ _ (vW h hn (by intro z;exact hu _ _ _ z)) h
 refine⟨_,rfl,Ll,rfl,⟨_,T4.but.seqL hn hLl⟩,cJ (K:=K) (a:=Ll) (xs:=xs) (fun j σ H'=>(∃x3,σ=[some (.ref n),some (.ref Ll),some (.ref Lp),x3,none,none])/\∃FL:List (aG×Addr),FL.map (·.1)=ls.take j/\Tr H n [(n,.ins t.dF dx (aH "firsts" (.ref F) (aH "rooms" (.ref R) []))),(R,.dK (dq (ls.take j))),(F,.dK (bD FL))] H'/\∀q∈FL,fC K H' q.2 (q.1.first.map V.int)) ⟨⟨none,rfl⟩,[],rfl,T4,by simp⟩ (fun j σ H' _ ⟨_,_,_,T',_⟩=>T'.but.seqL hn hLl) ?_ ?_⟩
 ·rintro j x σ H' hx ⟨⟨x3,rfl⟩,FL,eFL,T4,hS⟩
  obtain⟨l,hlj,q,f,rfl,hq,hf⟩:=aL.get hx
  have hm:=List.mem_of_getElem? hlj
  obtain⟨v1,v2,v3,v4⟩:=hF.lok l hm
  have hnm:=hF.lnm l hm
  have hj:=(List.getElem?_eq_some_iff.mp hlj).1
  have kq:∀{Hk:Hp},lX n H Hk->Hk q=some (.tup [.str l.name,.int l.room,.ref f]):=fun b=>kb b hq (by intro _ _ _ z;cases z)
  have nin:=mj hF.whole.nod hlj
  have vR:bT (dq (ls.take j)) (Sum.inr l.name)=none:=fJ (by rw [lF];intro z;obtain⟨b,hb,e⟩:=List.mem_map.mp z;cases e;exact nin hb)
  have vF:bT (bD FL) (Sum.inr l.name)=none:=fJ (by rw [m9,eFL];intro z;obtain⟨b,hb,e⟩:=List.mem_map.mp z;cases e;exact nin hb)
  have tk:ls.take (j+1)=ls.take j ++ [l]:=by rw [List.take_succ,hlj];rfl
  have e4:=T4.all (n,.ins t.dF dx (aH "firsts" (.ref F) (aH "rooms" (.ref R) []))) (.head _)
  refine RG fun De hD u hu=>?_
  refine⟨_,rfl,q,_,0,_,rfl,rfl,fC.of (kq T4.but),aM (j:=0) rfl,_,rfl,n,_,dx,_,_,rfl,e4,T.bj.c,T.bj.na.1,(by (repeat first | (rw [aC,if_pos rfl];done) | rw [aC,if_neg (by decide +kernel)])),l.name,R,_,rfl,T4.all (R,.dK (dq (ls.take j))) (by simp),hnm,FN hnm,vR,fun H5 s5=>?_⟩
  have T5:=T4.same s5
  refine dh (v:=u) hu fun u hu=>?_
  refine⟨_,rfl,q,_,0,_,rfl,rfl,fC.of (kq T5.but),aM (j:=0) rfl,_,rfl,q,_,1,_,rfl,rfl,fC.of (kq T5.but),aM (j:=1) rfl,_,rfl,q,_,2,_,rfl,rfl,fC.of (kq T5.but),aM (j:=2) rfl,.str l.name,l.room,f,l.first,rfl,T5.but.seqA hn hf,by omega,v4,v1,v3,v2,fun H6 s6=>?_⟩
  have T6:=T5.same s6
  have e6:=T6.all (n,.ins t.dF dx (aH "firsts" (.ref F) (aH "rooms" (.ref R) []))) (.head _)
  have eR6:=T6.all (R,.dK (dq (ls.take j))) (by simp)
  refine dh (v:=u) hu fun u hu=>?_
  refine⟨_,rfl,q,_,1,_,rfl,rfl,fC.of (kq T6.but),aM (j:=1) rfl,_,rfl,n,_,dx,_,_,rfl,e6,T.bj.c,T.bj.na.1,(by (repeat first | (rw [aC,if_pos rfl];done) | rw [aC,if_neg (by decide +kernel)])),_,rfl,q,_,0,_,rfl,rfl,fC.of (kq T6.but),aM (j:=0) rfl,R,_,rfl,ph.k (k:=Sum.inr l.name) eR6 (by unfold dq;rw [lM,List.length_take];omega),?_⟩
  have e7:putK (dq (ls.take j)) (Sum.inr l.name) (.int l.room)=dq (ls.take (j+1)):=by rw [iR _ vR,tk];unfold dq;rw [List.map_append];rfl
  have T7:=T6.put (L1:=[_]) (o':=.dK (dq (ls.take (j+1))))
  rw [e7]
  have hS7:∀q∈FL,fC K (upd H6 R (.dK (dq (ls.take (j+1))))) q.2 (q.1.first.map V.int):=fun q hq=>fV eR6 (s6.seqT (s5.seqT (hS q hq)))
  generalize upd H6 R (.dK (dq (ls.take (j+1))))=H7 at T7 hS7 ⊢
  subst hu
  refine⟨_,rfl,q,_,2,_,rfl,rfl,fC.of (kq T7.but),aM (j:=2) rfl,f,_,rfl,T7.but.seqA hn hf,fun H8 F0 s8 t8=>?_⟩
  have T8:=T7.same s8
  have e8:=T8.all (n,.ins t.dF dx (aH "firsts" (.ref F) (aH "rooms" (.ref R) []))) (.head _)
  have eF8:=T8.all (F,.dK (bD FL)) (by simp)
  have lFL:FL.length<=24:=by have:=congrArg List.length eFL;rw [lM,List.length_take] at this;omega
  refine⟨_,rfl,n,_,dx,_,_,rfl,e8,T.bj.c,T.bj.na.2.1,(by (repeat first | (rw [aC,if_pos rfl];done) | rw [aC,if_neg (by decide +kernel)])),_,rfl,q,_,0,_,rfl,rfl,fC.of (kq T8.but),aM (j:=0) rfl,F,_,rfl,ph.k (k:=Sum.inr l.name) eF8 (by unfold bD;rw [lM];omega),?_⟩
  have e9:putK (bD FL) (Sum.inr l.name) (.ref F0)=bD (FL ++ [(l,F0)]):=by rw [iR _ vF];unfold bD;rw [List.map_append];rfl
  have T9:=T8.put (L1:=[_,_]) (o':=.dK (bD (FL ++ [(l,F0)])))
  rw [e9]
  subst hD
  refine⟨⟨_,rfl⟩,FL ++ [(l,F0)],by rw [List.map_append,eFL,tk];rfl,T9,fun q hq=>?_⟩
  rcases List.mem_append.mp hq with h | h
  ·exact fV eF8 (s8.seqT (hS7 q h))
  ·rw [List.mem_singleton] at h
   subst h
   exact fV eF8 t8
 rintro σ H9 ⟨⟨x3,rfl⟩,FL,eFL,T9,t9⟩
 rw [lx,List.take_length] at eFL T9
 clear T0 T1 T2 T3 T4
 refine fun Pd nPd=>?_
 have T10:=T9.new (o:=.dK []) nPd
 have gPd:=aB (o:=.dK []) nPd
 generalize upd H9 Pd (.dK [])=H10 at T10 gPd ⊢
 have cPd:=T10.all (n,.ins t.dF dx (aH "firsts" (.ref F) (aH "rooms" (.ref R) []))) (.head _)
 refine⟨_,rfl,n,_,dx,_,rfl,cPd,T.bj.c,T.bj.na.2.2.1,Nat.lt_of_le_of_lt (gW (gW (Nat.zero_le 0))) (by decide),?_⟩
 have T11:=T10.put (L1:=[]) (o':=.ins t.dF dx (aH "parts" (.ref Pd) (aH "firsts" (.ref F) (aH "rooms" (.ref R) []))))
 have wPd:lX n H10 (upd H10 n (.ins t.dF dx (aH "parts" (.ref Pd) (aH "firsts" (.ref F) (aH "rooms" (.ref R) []))))):=lX.write
 generalize upd H10 n (.ins t.dF dx (aH "parts" (.ref Pd) (aH "firsts" (.ref F) (aH "rooms" (.ref R) []))))=H11 at T11 wPd ⊢
 refine fun Gv nGv=>?_
 have T12:=T11.new (o:=.dK []) nGv
 have gGv:=aB (o:=.dK []) nGv
 generalize upd H11 Gv (.dK [])=H12 at T12 gGv ⊢
 have cGv:=T12.all (n,.ins t.dF dx (aH "parts" (.ref Pd) (aH "firsts" (.ref F) (aH "rooms" (.ref R) [])))) (.head _)
 refine⟨_,rfl,n,_,dx,_,rfl,cGv,T.bj.c,T.bj.na.2.2.2.1,Nat.lt_of_le_of_lt (gW (gW (gW (Nat.zero_le 0)))) (by decide),?_⟩
 have T13:=T12.put (L1:=[]) (o':=.ins t.dF dx (aH "givers" (.ref Gv) (aH "parts" (.ref Pd) (aH "firsts" (.ref F) (aH "rooms" (.ref R) [])))))
 have wGv:lX n H12 (upd H12 n (.ins t.dF dx (aH "givers" (.ref Gv) (aH "parts" (.ref Pd) (aH "firsts" (.ref F) (aH "rooms" (.ref R) [])))))):=lX.write
 generalize upd H12 n (.ins t.dF dx (aH "givers" (.ref Gv) (aH "parts" (.ref Pd) (aH "firsts" (.ref F) (aH "rooms" (.ref R) [])))))=H13 at T13 wGv ⊢
 refine fun Tk nTk=>?_
 have T14:=T13.new (o:=.dK []) nTk
 have gTk:=aB (o:=.dK []) nTk
 generalize upd H13 Tk (.dK [])=H14 at T14 gTk ⊢
 have cTk:=T14.all (n,.ins t.dF dx (aH "givers" (.ref Gv) (aH "parts" (.ref Pd) (aH "firsts" (.ref F) (aH "rooms" (.ref R) []))))) (.head _)
 refine⟨_,rfl,n,_,dx,_,rfl,cTk,T.bj.c,T.bj.na.2.2.2.2.1,Nat.lt_of_le_of_lt (gW (gW (gW (gW (Nat.zero_le 0))))) (by decide),?_⟩
 have T15:=T14.put (L1:=[]) (o':=.ins t.dF dx (aH "takers" (.ref Tk) (aH "givers" (.ref Gv) (aH "parts" (.ref Pd) (aH "firsts" (.ref F) (aH "rooms" (.ref R) []))))))
 have wTk:lX n H14 (upd H14 n (.ins t.dF dx (aH "takers" (.ref Tk) (aH "givers" (.ref Gv) (aH "parts" (.ref Pd) (aH "firsts" (.ref F) (aH "rooms" (.ref R) []))))))):=lX.write
 generalize upd H14 n (.ins t.dF dx (aH "takers" (.ref Tk) (aH "givers" (.ref Gv) (aH "parts" (.ref Pd) (aH "firsts" (.ref F) (aH "rooms" (.ref R) []))))))=H15 at T15 wTk ⊢
 have T15:Tr H n [(n,.ins t.dF dx (aH "takers" (.ref Tk) (aH "givers" (.ref Gv) (aH "parts" (.ref Pd) (aH "firsts" (.ref F) (aH "rooms" (.ref R) [])))))),(R,.dK (dq ls)),(F,.dK (bD FL)),(Pd,.dK []),(Gv,.dK []),(Tk,.dK [])] H15:=T15
 have t15:∀q∈FL,fC K H15 q.2 (q.1.first.map V.int):=fun q hq=>wTk.seqT cTk (gTk.seqT (wGv.seqT cGv (gGv.seqT (wPd.seqT cPd (gPd.seqT (t9 q hq))))))
 have nod:=T15.nod
 simp only [List.map_append,List.map_cons,List.map_nil,List.nil_append,List.cons_append,List.nodup_cons,List.mem_cons,List.not_mem_nil,or_false,not_or] at nod
 have nRF:R≠F:=nod.2.1.1
 have nRT:R≠Tk:=nod.2.1.2.2.2
 have nRG:R≠Gv:=nod.2.1.2.2.1
 have nGT:Gv≠Tk:=nod.2.2.2.2.1
 clear nod
 have ono:(ps.flatMap (·.outs)).Nodup:=hF.whole.outs.nodup_iff.mpr hF.whole.nod
 have ini:(ps.flatMap (·.ins)).Nodup:=hF.whole.ins.nodup_iff.mpr hF.whole.nod
 have inR:∀z∈ls.map (·.name),(bT (dq ls) (Sum.inr z)).isSome=true:=fun z hz=>by
  obtain⟨l,hl,rfl⟩:=List.mem_map.mp hz
  have e:bT (dq ls) (Sum.inr l.name)=some (.int l.room):=gq (by rw [lF];exact eQ hF.whole.nod) (List.mem_map.mpr ⟨l,hl,rfl⟩)
  rw [e]
  rfl
 have lenE:∀(f:PD->List Str) (j:Nat),(ps.flatMap f).Perm (ls.map (·.name))->(cQ f (ps.take j)).length<=24:=fun f j pm=>by
  rw [Oq]
  have e1:((ps.take j).flatMap f).length+((ps.drop j).flatMap f).length=(ps.flatMap f).length:=by rw [<-lP,<-List.flatMap_append,List.take_append_drop]
  have e2:=pm.length_eq
  rw [lM] at e2
  omega
 refine⟨_,rfl,Lp,rfl,⟨_,T15.but.seqL hn hLp⟩,cJ (K:=K) (a:=Lp) (xs:=ys) (fun j σ H'=>(∃x3 x4 x5,σ=[some (.ref n),some (.ref Ll),some (.ref Lp),x3,x4,x5])/\∃PL:List (PD×Addr),PL.map (·.1)=ps.take j/\Tr H n [(n,.ins t.dF dx (aH "takers" (.ref Tk) (aH "givers" (.ref Gv) (aH "parts" (.ref Pd) (aH "firsts" (.ref F) (aH "rooms" (.ref R) [])))))),(R,.dK (dq ls)),(F,.dK (bD FL)),(Pd,.dK (d8 PL)),(Gv,.dK (cQ (·.outs) (ps.take j))),(Tk,.dK (cQ (·.ins) (ps.take j)))] H'/\(∀q∈FL,fC K H' q.2 (q.1.first.map V.int))/\∀q∈PL,fj K t H' q.2 q.1.kind (.str q.1.name) (q.1.nums.map V.int) (q.1.ins.map V.str) (q.1.outs.map V.str)) ⟨⟨x3,none,none,rfl⟩,[],rfl,T15,t15,by simp⟩ (fun j σ H' _ ⟨_,_,_,T',_⟩=>T'.but.seqL hn hLp) ?_ ?_⟩
 ·rintro j x σ H' hx ⟨⟨x3,x4,x5,rfl⟩,PL,ePL,T15,hS,hP⟩
  obtain⟨p,hpj,r,a1,a2,a3,rfl,hr,q1,q2,q3⟩:=aP.get hx
  have hm:=List.mem_of_getElem? hpj
  have hj:=(List.getElem?_eq_some_iff.mp hpj).1
  obtain⟨o1,o2,o3,o4,o5⟩:=hF.pok p hm
  have hnm:=hF.pnm p hm
  have nin:=mj hF.pnd hpj
  have tk:ps.take (j+1)=ps.take j ++ [p]:=by rw [List.take_succ,hpj];rfl
  have vP:bT (d8 PL) (Sum.inr p.name)=none:=fJ (by rw [Ab,ePL];intro z;obtain⟨b,hb,e⟩:=List.mem_map.mp z;cases e;exact nin hb)
  obtain⟨di,fi⟩:=M7 ini hpj
  obtain⟨do',fo⟩:=M7 ono hpj
  have e15:=T15.all (n,.ins t.dF dx (aH "takers" (.ref Tk) (aH "givers" (.ref Gv) (aH "parts" (.ref Pd) (aH "firsts" (.ref F) (aH "rooms" (.ref R) [])))))) (.head _)
  refine RG fun De hD u hu=>?_
  refine⟨_,rfl,_,rfl,n,_,dx,_,_,rfl,e15,T.bj.c,T.bj.na.2.2.1,(by (repeat first | (rw [aC,if_pos rfl];done) | rw [aC,if_neg (by decide +kernel)])),p.kind,p.name,r,Pd,a1,a2,a3,_,_,_,_,rfl,kb T15.but hr (by intro _ _ _ z;cases z),by omega,T15.all (Pd,.dK (d8 PL)) (by simp),hnm,FN hnm,vP,T15.but.seqA hn q1,T15.but.seqA hn q2,T15.but.seqA hn q3,by rw [lM];exact o2,by rw [lM];exact o3,by rw [lM];exact o4,?_,fun H16 pp s16 npp Pp=>?_⟩
  ·intro v hv
   obtain⟨i,hi,rfl⟩:=List.mem_map.mp hv
   exact⟨i,rfl,(o5 i hi).1,(o5 i hi).2⟩
  have T16:=T15.same s16
  obtain⟨dxp,tn,ti,to,z1,z2,z3,z4⟩:=id Pp.ex
  have e16:=T16.all (n,.ins t.dF dx (aH "takers" (.ref Tk) (aH "givers" (.ref Gv) (aH "parts" (.ref Pd) (aH "firsts" (.ref F) (aH "rooms" (.ref R) [])))))) (.head _)
  have eTk:=T16.all (Tk,.dK (cQ (·.ins) (ps.take j))) (by simp)
  have li:=lenE (·.ins) j hF.whole.ins
  have lo:=lenE (·.outs) j hF.whole.outs
  have h3I:p.ins.length<=3:=by rw [o3];exact Bt _
  have h3O:p.outs.length<=2:=by rw [o4];exact Lq _
  refine dh (v:=u) hu fun u hu=>?_
  refine⟨_,rfl,pp,_,dxp,_,_,rfl,z1,iQ T p.kind,Be T p.kind,yS _ _ _ _,_,rfl,pp,_,dxp,_,_,rfl,z1,iQ T p.kind,yV T p.kind,ux _ _ _ _,_,rfl,n,_,dx,_,_,rfl,e16,T.bj.c,T.bj.na.1,(by (repeat first | (rw [aC,if_pos rfl];done) | rw [aC,if_neg (by decide +kernel)])),_,rfl,n,_,dx,_,_,rfl,e16,T.bj.c,T.bj.na.2.2.2.2.1,(by (repeat first | (rw [aC,if_pos rfl];done) | rw [aC,if_neg (by decide +kernel)])),p.name,ti,R,Tk,p.ins,_,_,rfl,z3,T16.all (R,.dK (dq ls)) (by simp),nRT,eTk,di,fun z hz=>⟨inR z (hF.whole.ins.mem_iff.mp (List.mem_flatMap.mpr ⟨p,hm,hz⟩)),Ck (fi z hz)⟩,by omega,?_⟩
  rw [<-Cz (·.ins) (ps.take j) p,<-tk]
  have T17:=T16.put (L1:=[_,_,_,_,_]) (o':=.dK (cQ (·.ins) (ps.take (j+1))))
  have Pp17:=Pp.chill (v:=.dK (cQ (·.ins) (ps.take (j+1)))) eTk
  have hS17:∀q∈FL,fC K (upd H16 Tk (.dK (cQ (·.ins) (ps.take (j+1))))) q.2 (q.1.first.map V.int):=fun q hq=>fV eTk (s16.seqT (hS q hq))
  have hP17:∀q∈PL,fj K t (upd H16 Tk (.dK (cQ (·.ins) (ps.take (j+1))))) q.2 q.1.kind (.str q.1.name) (q.1.nums.map V.int) (q.1.ins.map V.str) (q.1.outs.map V.str):=fun q hq=>((hP q hq).same s16).chill eTk
  generalize upd H16 Tk (.dK (cQ (·.ins) (ps.take (j+1))))=H17 at T17 Pp17 hS17 hP17 ⊢
  clear z1 z2 z3 z4 e16
  obtain⟨dxp,tn,ti,to,z1,z2,z3,z4⟩:=id Pp17.ex
  have e17:=T17.all (n,.ins t.dF dx (aH "takers" (.ref Tk) (aH "givers" (.ref Gv) (aH "parts" (.ref Pd) (aH "firsts" (.ref F) (aH "rooms" (.ref R) [])))))) (.head _)
  have eGv:=T17.all (Gv,.dK (cQ (·.outs) (ps.take j))) (by simp)
  refine dh (v:=u) hu fun u hu=>?_
  refine⟨_,rfl,pp,_,dxp,_,_,rfl,z1,iQ T p.kind,Be T p.kind,yS _ _ _ _,_,rfl,pp,_,dxp,_,_,rfl,z1,iQ T p.kind,Ia T p.kind,Fd _ _ _ _,_,rfl,n,_,dx,_,_,rfl,e17,T.bj.c,T.bj.na.1,(by (repeat first | (rw [aC,if_pos rfl];done) | rw [aC,if_neg (by decide +kernel)])),_,rfl,n,_,dx,_,_,rfl,e17,T.bj.c,T.bj.na.2.2.2.1,(by (repeat first | (rw [aC,if_pos rfl];done) | rw [aC,if_neg (by decide +kernel)])),p.name,to,R,Gv,p.outs,_,_,rfl,z4,T17.all (R,.dK (dq ls)) (by simp),nRG,eGv,do',fun z hz=>⟨inR z (hF.whole.outs.mem_iff.mp (List.mem_flatMap.mpr ⟨p,hm,hz⟩)),Ck (fo z hz)⟩,by omega,?_⟩
  rw [<-Cz (·.outs) (ps.take j) p,<-tk]
  have T18:=T17.put (L1:=[_,_,_,_]) (o':=.dK (cQ (·.outs) (ps.take (j+1))))
  have Pp18:=Pp17.chill (v:=.dK (cQ (·.outs) (ps.take (j+1)))) eGv
  have hS18:∀q∈FL,fC K (upd H17 Gv (.dK (cQ (·.outs) (ps.take (j+1))))) q.2 (q.1.first.map V.int):=fun q hq=>fV eGv (hS17 q hq)
  have hP18:∀q∈PL,fj K t (upd H17 Gv (.dK (cQ (·.outs) (ps.take (j+1))))) q.2 q.1.kind (.str q.1.name) (q.1.nums.map V.int) (q.1.ins.map V.str) (q.1.outs.map V.str):=fun q hq=>(hP17 q hq).chill eGv
  generalize upd H17 Gv (.dK (cQ (·.outs) (ps.take (j+1))))=H18 at T18 Pp18 hS18 hP18 ⊢
  clear z1 z2 z3 z4 e17
  obtain⟨dxp,tn,ti,to,z1,z2,z3,z4⟩:=id Pp18.ex
  have e18:=T18.all (n,.ins t.dF dx (aH "takers" (.ref Tk) (aH "givers" (.ref Gv) (aH "parts" (.ref Pd) (aH "firsts" (.ref F) (aH "rooms" (.ref R) [])))))) (.head _)
  have ePd:=T18.all (Pd,.dK (d8 PL)) (by simp)
  have lPL:PL.length<=16:=by have:=congrArg List.length ePL;rw [lM,List.length_take] at this;omega
  subst hu
  refine⟨_,rfl,_,rfl,n,_,dx,_,_,rfl,e18,T.bj.c,T.bj.na.2.2.1,(by (repeat first | (rw [aC,if_pos rfl];done) | rw [aC,if_neg (by decide +kernel)])),_,rfl,pp,_,dxp,_,_,rfl,z1,iQ T p.kind,Be T p.kind,yS _ _ _ _,Pd,_,rfl,ph.k (k:=Sum.inr p.name) ePd (by unfold d8;rw [lM];omega),?_⟩
  have e19:putK (d8 PL) (Sum.inr p.name) (.ref pp)=d8 (PL ++ [(p,pp)]):=by rw [iR _ vP];unfold d8;rw [List.map_append];rfl
  have T19:=T18.put (L1:=[_,_,_]) (o':=.dK (d8 (PL ++ [(p,pp)])))
  rw [e19]
  subst hD
  refine⟨⟨_,_,_,rfl⟩,PL ++ [(p,pp)],by rw [List.map_append,ePL,tk];rfl,T19,fun q hq=>fV ePd (hS18 q hq),fun q hq=>?_⟩
  rcases List.mem_append.mp hq with h | h
  ·exact(hP18 q h).chill ePd
  ·rw [List.mem_singleton] at h
   subst h
   exact Pp18.chill ePd
 rintro σ H18 ⟨⟨x3,x4,x5,rfl⟩,PL,ePL,T18,hS,hP⟩
 rw [ly,List.take_length] at ePL T18
 have e18:=T18.all (n,.ins t.dF dx (aH "takers" (.ref Tk) (aH "givers" (.ref Gv) (aH "parts" (.ref Pd) (aH "firsts" (.ref F) (aH "rooms" (.ref R) [])))))) (.head _)
 have eR:=T18.all (R,.dK (dq ls)) (by simp)
 have eF:=T18.all (F,.dK (bD FL)) (by simp)
 have ePd:=T18.all (Pd,.dK (d8 PL)) (by simp)
 have eGv:=T18.all (Gv,.dK (cQ (·.outs) ps)) (by simp)
 have eTk:=T18.all (Tk,.dK (cQ (·.ins) ps)) (by simp)
 refine⟨_,rfl,n,_,dx,_,_,rfl,e18,T.bj.c,T.bj.na.1,(by (repeat first | (rw [aC,if_pos rfl];done) | rw [aC,if_neg (by decide +kernel)])),_,rfl,n,_,dx,_,_,rfl,e18,T.bj.c,T.bj.na.2.2.2.1,(by (repeat first | (rw [aC,if_pos rfl];done) | rw [aC,if_neg (by decide +kernel)])),_,rfl,n,_,dx,_,_,rfl,e18,T.bj.c,T.bj.na.2.2.2.2.1,(by (repeat first | (rw [aC,if_pos rfl];done) | rw [aC,if_neg (by decide +kernel)])),R,Gv,Tk,_,_,_,rfl,eR,eGv,eTk,nRG,nRT,?_,?_⟩
 ·intro q hq
  obtain⟨l,hl,rfl⟩:=List.mem_map.mp hq
  have hln:l.name∈ls.map (·.name):=List.mem_map.mpr ⟨l,hl,rfl⟩
  obtain⟨pa,ha,la⟩:=List.mem_flatMap.mp (hF.whole.outs.mem_iff.mpr hln)
  obtain⟨pb,hb,lb⟩:=List.mem_flatMap.mp (hF.whole.ins.mem_iff.mpr hln)
  exact⟨by rw [jd ono ha la];rfl,by rw [jd ini hb lb];rfl⟩
 refine⟨_,rfl,n,_,dx,_,_,rfl,e18,T.bj.c,T.bj.na.2.2.1,(by (repeat first | (rw [aC,if_pos rfl];done) | rw [aC,if_neg (by decide +kernel)])),Pd,_,rfl,.inl ePd,fun l nl=>?_⟩
 have s19:=aB (o:=.lst ((d8 PL).map fun p=>kV p.1)) nl
 have eL:(d8 PL).map (fun p=>kV p.1)=ps.map fun p=>V.str p.name:=by unfold d8;rw [List.map_map,<-ePL,List.map_map];rfl
 refine⟨_,rfl,n,_,dx,_,_,rfl,(s19 _ _ e18),T.bj.c,T.bj.na.2.2.2.1,(by (repeat first | (rw [aC,if_pos rfl];done) | rw [aC,if_neg (by decide +kernel)])),_,rfl,n,_,dx,_,_,rfl,(s19 _ _ e18),T.bj.c,T.bj.na.2.2.2.2.1,(by (repeat first | (rw [aC,if_pos rfl];done) | rw [aC,if_neg (by decide +kernel)])),l,Gv,Tk,ps,rfl,bI.of (by rw [<-eL];exact az),by omega,by omega,s19 _ _ eGv,s19 _ _ eTk,nGT,ono,ini,hF.whole.outs.trans hF.whole.ins.symm,hF.whole.hang,fun H20 s20=>?_⟩
 have s:=s19.trans s20
 refine k _ (fun b u hb e=>s _ _ (T18.but b u hb e)) ⟨dx,_,R,F,Pd,Gv,Tk,FL,PL,s _ _ e18,⟨?_,?_⟩,s _ _ eR,s _ _ eF,s _ _ ePd,s _ _ eGv,s _ _ eTk,eFL,ePL,fun q hq=>s.seqT (hS q hq),fun q hq=>(hP q hq).same s,hF,nRF⟩
 ·intro q hq
  simp only [List.mem_cons,List.not_mem_nil,or_false] at hq
  rcases hq with rfl | rfl | rfl | rfl | rfl <;> (dsimp only;(repeat first | (rw [aC,if_pos rfl];done) | rw [aC,if_neg (by decide +kernel)]))
 ·intro m hm
  have hne:∀m∈(["lane_names", "part_names", "names_of_kind", "gives", "takes", "need_lane_name", "room_of", "first_of", "part_of", "__init__"]:List Str),∀g∈(["takers", "givers", "parts", "firsts", "rooms"]:List Str),¬m=g:=by decide +kernel
  have h:=hne m hm
  rw [aC,if_neg (h _ (by simp)),aC,if_neg (h _ (by simp)),aC,if_neg (h _ (by simp)),aC,if_neg (h _ (by simp)),aC,if_neg (h _ (by simp))]
  rfl
inductive vM (K:PySem.W.Frag) (t:ji) (vs:List V) (H:Hp) (Q:VK) (E_:XK):Prop where
 | mk:∀(f n E G Kp D Rw l:Addr) (ed gd:List (Key×V)) (x:Str) (vs':List V) (g:Nat),vs=[.ref f,.str x]->o9 K t H f n E G Kp D Rw->H E=some (.dK ed)->H G=some (.dK gd)->bT ed (Sum.inr x)=some (.ref l)->bT gd (Sum.inr x)=some (.int g)->bI K H l vs'->Q (.int (vs'.length - g)) H->vM K t vs H Q E_
theorem vB (T:Txt w K mg t):FO P w K mg base 1 t.rY ["self", "lane"] (vM K t):=by
 have sc:=T.mZ.sc ["self", "lane"]
 refine T.mZ.F.ok sc ln (fun _ _ _ _ H vs Q E hr h=>?_)
 obtain⟨f,n,E,G,Kp,D,Rw,l,ed,gd,x,vs',g,rfl,N,hE,hG,h3,h4,h5,k⟩:=h
 refine⟨_,(aA (aN (bx JW (bw bV (by rfl) T.fX dG (aa (b8 hr.u1 (bh (pv 0) rfl) (pv 1) (fun _ _=>rfl)) ak aF)) (b8 hr.u1 (bh (pv 0) rfl) (pv 1) (fun _ _=>rfl))))),?_⟩
 obtain⟨dx,fs,h1,h2⟩:=id N.ex
 refine⟨_,rfl,f,_,dx,fs,_,rfl,h1,T.aO.c,T.aO.na.2.1,h2.has ("ever",.ref E) (by simp),_,rfl,E,_,rfl,(by rw [<-h3];exact d9.k (k:=Sum.inr x) hE),?_⟩
 refine⟨.ref l,vs'.length,rfl,.inl ⟨vs',h5,rfl⟩,_,rfl,f,_,dx,fs,_,rfl,h1,T.aO.c,T.aO.na.2.2.1,h2.has ("gone",.ref G) (by simp),_,rfl,G,_,rfl,(by rw [<-h4];exact d9.k (k:=Sum.inr x) hG),?_⟩
 refine⟨_,_,rfl,rfl,?_⟩
 exact k
inductive qY (K:PySem.W.Frag) (t:ji) (vs:List V) (H:Hp) (Q:VK) (E_:XK):Prop where
 | mk:∀(f n E G Kp D Rw l:Addr) (ed gd:List (Key×V)) (x:Str) (vs':List V) (g:Nat),vs=[.ref f,.str x]->o9 K t H f n E G Kp D Rw->H E=some (.dK ed)->H G=some (.dK gd)->bT ed (Sum.inr x)=some (.ref l)->bT gd (Sum.inr x)=some (.int g)->bI K H l vs'->(∀p,H p=none->Q (.ref p) (upd H p (.lst (vs'.drop g))))->qY K t vs H Q E_
theorem zb (T:Txt w K mg t):FO P w K mg base 1 t.mC ["self", "lane"] (qY K t):=by
 have sc:=T.mz.sc ["self", "lane"]
 refine T.mz.F.ok sc ln (fun _ _ _ _ H vs Q E hr h=>?_)
 obtain⟨f,n,E,G,Kp,D,Rw,l,ed,gd,x,vs',g,rfl,N,hE,hG,h3,h4,h5,k⟩:=h
 refine⟨_,(aA (aN (jU rO (b8 hr.u1 (bh (pv 0) rfl) (pv 1) (fun _ _=>rfl)) (jK (b8 hr.u1 (bh (pv 0) rfl) (pv 1) (fun _ _=>rfl))) sI))),?_⟩
 obtain⟨dx,fs,h1,h2⟩:=id N.ex
 refine⟨_,rfl,f,_,dx,fs,_,rfl,h1,T.aO.c,T.aO.na.2.1,h2.has ("ever",.ref E) (by simp),_,rfl,E,_,rfl,(by rw [<-h3];exact d9.k (k:=Sum.inr x) hE),?_⟩
 refine⟨_,rfl,f,_,dx,fs,_,rfl,h1,T.aO.c,T.aO.na.2.2.1,h2.has ("gone",.ref G) (by simp),_,rfl,G,_,rfl,(by rw [<-h4];exact d9.k (k:=Sum.inr x) hG),?_⟩
 refine⟨_,rfl,l,vs',rfl,h5,fun p hp=>?_⟩
 rw [Jc]
 exact k p hp
inductive xZ (K:PySem.W.Frag) (t:ji) (vs:List V) (H:Hp) (Q:VK) (E_:XK):Prop where
 | mk:∀(f n E G Kp D Rw l:Addr) (ed gd:List (Key×V)) (x:Str) (vs':List V) (g:Nat),vs=[.ref f,.str x]->o9 K t H f n E G Kp D Rw->H E=some (.dK ed)->H G=some (.dK gd)->bT ed (Sum.inr x)=some (.ref l)->bT gd (Sum.inr x)=some (.int g)->bI K H l vs'->Q ((vs'[g]?).getD .non) H->xZ K t vs H Q E_
theorem Gw (T:Txt w K mg t):FO P w K mg base 2 t.uF ["self", "lane"] (xZ K t):=by
 have sc:=T.uw.sc ["self", "lane"]
 refine T.uw.F.ok sc ln (fun _ _ _ _ H vs Q E hr h=>?_)
 obtain⟨f,n,E,G,Kp,D,Rw,l,ed,gd,x,vs',g,rfl,N,hE,hG,h3,h4,h5,k⟩:=h
 refine⟨_,(aA (aN (rH (bc Iv (wD (pv 0) T.aO T.aO.me.2.1 (vB T) T.mZ hr (aa (pv 1) ak aj)) au (bH _)) (aR aQ (b8 hr.u1 (bh (pv 0) rfl) (pv 1) (fun _ _=>rfl)) (b8 hr.u1 (bh (pv 0) rfl) (pv 1) (fun _ _=>rfl)) (fun _ _=>rfl)) uO))),?_⟩
 obtain⟨dx,fs,h1,h2⟩:=id N.ex
 refine⟨_,rfl,f,dx,fs,rfl,h1,h2.no _ (by decide +kernel),_,rfl,f,n,E,G,Kp,D,Rw,l,ed,gd,x,vs',g,rfl,N,hE,hG,h3,h4,h5,?_⟩
 refine⟨_,_,rfl,rfl,_,rfl,jG (fun e=>?_) (fun e=>?_)⟩
 ·have e':g <vs'.length:=by have:=of_decide_eq_true e;omega
  refine⟨_,rfl,f,_,dx,fs,_,rfl,h1,T.aO.c,T.aO.na.2.1,h2.has ("ever",.ref E) (by simp),_,rfl,E,_,rfl,(by rw [<-h3];exact d9.k (k:=Sum.inr x) hE),?_⟩
  refine⟨_,rfl,f,_,dx,fs,_,rfl,h1,T.aO.c,T.aO.na.2.2.1,h2.has ("gone",.ref G) (by simp),_,rfl,G,_,rfl,(by rw [<-h4];exact d9.k (k:=Sum.inr x) hG),?_⟩
  rw [List.getElem?_eq_getElem e'] at k
  exact⟨l,vs',g,_,rfl,rfl,h5,aM (List.getElem?_eq_getElem e'),k⟩
 ·have e':¬g <vs'.length:=fun z=>e (decide_eq_true (by omega))
  rw [List.getElem?_eq_none (by omega)] at k
  exact k
inductive pL (K:PySem.W.Frag) (t:ji) (vs:List V) (H:Hp) (Q:VK):Prop where
 | mk:∀(f n E G Kp D Rw:Addr) (rd dd:List (Key×V)) (x:Str),vs=[.ref f,.str x]->o9 K t H f n E G Kp D Rw->H Rw=some (.dK rd)->H D=some (.dK dd)->(((bT rd (Sum.inr x)=none/\Q (.bl false) H)∨∃(l:Addr) (vs':List V) (g:Nat),bT rd (Sum.inr x)=some (.ref l)/\bT dd (Sum.inr x)=some (.int g)/\bI K H l vs'/\Q (.bl (decide (g=vs'.length))) H))->pL K t vs H Q
@[irreducible] noncomputable def dB (K:PySem.W.Frag) (t:ji):Sp:=fun vs H Q _=>pL K t vs H Q
theorem pW (T:Txt w K mg t):FO P w K mg base 1 t.j9 ["self", "name"] (dB K t):=by
 have sc:=T.jc.sc ["self", "name"]
 refine T.jc.F.ok sc (fun vs H Q E h=>?_) (fun cdv A outer s H vs Q E hr h=>?_)
 ·unfold dB at h
  obtain⟨f,n,E,G,Kp,D,Rw,rd,dd,x,rfl,_⟩:=h
  rfl
 ·unfold dB at h
  obtain⟨f,n,E,G,Kp,D,Rw,rd,dd,x,rfl,N,hR,hD,k⟩:=h
  refine⟨_,(aA (aN (yQ (Bx (zu hr.u1 (pv 1) (bh (pv 0) rfl))) (zj (p7 fc (b8 hr.u1 (bh (pv 0) rfl) (pv 1) (fun _ _=>rfl)) (bw bV (by rfl) T.fX dG (aa (b8 hr.u1 (bh (pv 0) rfl) (pv 1) (fun _ _=>rfl)) ak aF)) (bH _)))))),?_⟩
  obtain⟨dx,fs,h1,h2⟩:=id N.ex
  refine⟨_,rfl,_,rfl,f,_,dx,fs,_,rfl,h1,T.aO.c,T.aO.na.2.2.2.2.2.1,h2.has ("rows",.ref Rw) (by simp),Rw,_,rfl,d9.k (k:=Sum.inr x) hR,?_⟩
  rcases k with ⟨k1,k⟩ | ⟨l,vs',g,k1,k2,k3,k⟩
  ·rw [k1]
   exact⟨_,rfl,cz k⟩
  ·rw [k1]
   refine⟨_,rfl,fU ?_⟩
   refine⟨_,rfl,f,_,dx,fs,_,rfl,h1,T.aO.c,T.aO.na.2.2.2.2.1,h2.has ("done",.ref D) (by simp),_,rfl,D,_,rfl,(by rw [<-k2];exact d9.k (k:=Sum.inr x) hD),?_⟩
   refine⟨_,rfl,f,_,dx,fs,_,rfl,h1,T.aO.c,T.aO.na.2.2.2.2.2.1,h2.has ("rows",.ref Rw) (by simp),_,rfl,Rw,_,rfl,(by rw [<-k1];exact d9.k (k:=Sum.inr x) hR),?_⟩
   refine⟨.ref l,vs'.length,rfl,.inl ⟨vs',k3,rfl⟩,rfl,?_⟩
   rw [show decide (V.int (g:Int)=V.int (vs'.length:Int))=decide (g=vs'.length) by rw [decide_eq_decide,V.int.injEq];omega]
   exact k
inductive vz (K:PySem.W.Frag) (t:ji) (vs:List V) (H:Hp) (Q:VK) (E_:XK):Prop where
 | mk:∀(f n E G Kp D Rw p:Addr) (ed gd:List (Key×V)) (i:Nat) (nm:V) (ns os:List V) (xs:List Str) (hv:Str->V),vs=[.ref f,.ref p]->o9 K t H f n E G Kp D Rw->H E=some (.dK ed)->H G=some (.dK gd)->fj K t H p i nm ns (xs.map V.str) os->xs.length<=3->((∀x∈xs,∃(l:Addr) (vs':List V) (g:Nat),bT ed (Sum.inr x)=some (.ref l)/\bT gd (Sum.inr x)=some (.int g)/\bI K H l vs'/\hv x=(vs'[g]?).getD .non))->(∀d,H d=none->Q (.ref d) (upd H d (.lst (xs.map hv))))->vz K t vs H Q E_
theorem v9 (T:Txt w K mg t):FO P w K mg base 3 t.rN ["self", "part"] (vz K t):=by
 have sc:=T.nC.sc ["self", "part"]
 refine T.nC.F.ok sc ln (fun _ _ _ _ H vs Q E hr h=>?_)
 obtain⟨f,n,E,G,Kp,D,Rw,p,ed,gd,i,nm,ns,os,xs,hv,rfl,N,hE,hG,hP,hx,hh,k⟩:=h
 refine⟨_,(aA (aN (eX [0] ["self", "part"] (aU (inClass (top 58) 6)) rfl (Dp (bh (pv 1) rfl)) (fun _ _ _ _ _=>iC) (fun _ _ _ _ _=>(wD (pv 1) T.aO T.aO.me.2.2.2.1 (Gw T) T.uw hr (aa (pv 0) ak aj)))))),?_⟩
 obtain⟨dx,fs,h1,h2⟩:=id N.ex
 obtain⟨dxp,tn,ti,to,p1,p2,p3,p4⟩:=id hP.ex
 have hz:sizeLine=16777216:=sizeLine_eq
 refine⟨_,rfl,p,_,dxp,_,_,rfl,p1,iQ T i,yV T i,ux _ _ _ _,ti,rfl,⟨_,p3⟩,?_⟩
 refine Bm (K:=K) (a:=ti) (xs:=xs.map V.str) (fun j ys H'=>H'=H/\ys=(xs.take j).map hv) (by simp;omega) ⟨rfl,rfl⟩ (fun j ys H' ⟨_,e⟩=>by rw [e];simp;omega) (fun j ys H' _ ⟨e,_⟩=>by rw [e];exact p3) ?_ ?_
 ·rintro j y ys H' hy ⟨rfl,rfl⟩
  rw [List.getElem?_map] at hy
  obtain⟨x,hq,rfl⟩:=Option.map_eq_some_iff.mp hy
  obtain⟨l,vs',g,g1,g2,g3,g4⟩:=hh x (List.mem_of_getElem? hq)
  refine yes ⟨_,rfl,f,dx,fs,rfl,h1,h2.no _ (by decide +kernel),_,rfl,f,n,E,G,Kp,D,Rw,l,ed,gd,x,vs',g,rfl,N,hE,hG,g1,g2,g3,rfl,?_⟩
  rw [List.take_succ,hq,Option.toList_some,List.map_append,<-g4]
  rfl
 ·rintro ys H' ⟨rfl,rfl⟩ d hd
  rw [lM,List.take_length]
  exact k d hd
theorem Pz (T:Txt w K mg t) (i:Nat):MethAt P w K mg base Cq 2 (cls t i) "lacks" (yz K t i):=match i with
 | 0=>⟨_,_,_,T.iM.c,(T.bC.me T.iM.me.2.2.2.1),T.bC.b,(cU T).imp fun _ _ _ _ h=>⟨_,h⟩⟩
 | 1=>⟨_,_,_,T.iy.c,(T.bC.me T.iy.me.2.2.2.1),T.bC.b,(cU T).imp fun _ _ _ _ h=>⟨_,h⟩⟩
 | 2=>⟨_,_,_,T.iH.c,(T.bC.me T.iH.me.2.2.2.1),T.bC.b,(cU T).imp fun _ _ _ _ h=>⟨_,h⟩⟩
 | 3=>⟨_,_,_,T.iI.c,(T.bC.me T.iI.me.2.2.2.1),T.bC.b,(cU T).imp fun _ _ _ _ h=>⟨_,h⟩⟩
 | 4=>⟨_,_,_,T.iJ.c,(T.bC.me T.iJ.me.2.2.2.1),T.bC.b,(cU T).imp fun _ _ _ _ h=>⟨_,h⟩⟩
 | 5=>⟨_,_,_,T.iD.c,(T.bC.me T.iD.me.2.2.2.1),T.bC.b,(cU T).imp fun _ _ _ _ h=>⟨_,h⟩⟩
 | 6=>⟨_,_,_,T.lO.c,(T.bC.me T.lO.me.2.2.2.1),T.bC.b,(cU T).imp fun _ _ _ _ h=>⟨_,h⟩⟩
 | 7=>⟨_,_,_,T.iz.c,(T.bC.me T.iz.me.2.2.2.1),T.bC.b,(cU T).imp fun _ _ _ _ h=>⟨_,h⟩⟩
 | 8=>⟨_,_,_,T.fH.c,(T.bC.me T.fH.me.2.2.2.1),T.bC.b,(cU T).imp fun _ _ _ _ h=>⟨_,h⟩⟩
 | 9=>⟨_,_,_,T.dY.c,(T.bC.me T.dY.me.2.2.2.1),T.bC.b,(cU T).imp fun _ _ _ _ h=>⟨_,h⟩⟩
 | n+10=>⟨_,_,_,T.fP.c,(T.bC.me T.fP.me.2.2.2.1),T.bC.b,(cU T).imp fun _ _ _ _ h=>⟨_,h⟩⟩
inductive tH (K:PySem.W.Frag) (t:ji) (vs:List V) (H:Hp) (Q:VK) (E:XK):Prop where
 | mk:∀(A:mF) (ls:List aG) (ps:List PD) (S:FS) (p:PD),vs=[.ref A.f,.str p.name]->gJ K t H A.n ls ps->dD K t H A ls ps S->p∈ps->(∀H',aJ H H'->Q (dz p.kind p.ins (aW S p)) H')->tH K t vs H Q E
theorem tD (T:Txt w K mg t):FO P w K mg base 4 t.pI ["self", "name"] (tH K t):=by
 have sc:=T.jW.sc ["self", "name", "part", "place"]
 refine T.jW.F.ok sc ln (fun _ _ _ _ H vs Q E hr h=>?_)
 obtain⟨A,ls,ps,S,p,rfl,N,W,hp,k⟩:=h
 refine⟨_,(aq (sN sc 2 (wD (bh (pv 0) rfl) T.bj T.bj.me.2.2.2.2.2.2.2.2.2.1 (oM T) T.jo hr (aa (pv 1) ak aj)))
  (aq (sN sc 3 (yE (CX:=Cq) (k:=2) (E:=E0) (pv 2) (hr.mono (by decide)) ir (aa (wD (pv 0) T.aO T.aO.me.2.2.2.2.2.1 (v9 T) T.nC hr (aa (pv 2) ak aj)) ak aY)))
  (aA (aN (rH (gH (zy (pv 3))) uO (aR cZ (bh (pv 2) rfl) (pv 3) (fun _ _=>rfl))))))),?_⟩
 obtain⟨dxn,fsn,R,F,Pd,Gn,Tk,FL,PL,Wn⟩:=id N
 have F:=Wn.fit
 obtain⟨dx,fs,h1,h2⟩:=id W.at'.ex
 have hh1:∀{H':Hp},aJ H H'->(∀x∈p.ins,∃(l:Addr) (vs':List V) (g:Nat),bT (Ni A.ea ls) (Sum.inr x)=some (.ref l)/\bT (cY S.g ls) (Sum.inr x)=some (.int g)/\bI K H' l vs'/\fL S x=(vs'[g]?).getD .non):=fun s x hx=>by
  obtain⟨l,hl,rfl⟩:=F.inL hp (List.mem_append.mpr (.inl hx))
  exact⟨A.ea l.name,_,S.g l.name,lE F.whole.nod hl,rM F.whole.nod hl,bI.of (s _ _ (W.lists l hl)),by unfold fL;rw [List.getElem?_map]⟩
 refine⟨_,rfl,A.f,_,dx,fs,_,rfl,h1,T.aO.c,T.aO.na.1,h2.has ("net",.ref A.n) (by simp),A.n,dxn,fsn,rfl,Wn.obj,Wn.fl.no _ (by decide +kernel),_,rfl,A.n,ls,ps,p.name,rfl,N,.inl ⟨p,hp,rfl,fun H1 q s1 P1=>?_⟩⟩
 obtain⟨dxp,tn,ti,to,p1,p2,p3,p4⟩:=id P1.ex
 have W1:=W.same s1
 have hI:=(F.pok p hp).2.2.1
 have hO:=lY S p (F.pok p hp)
 refine⟨_,rfl,q,cls t p.kind,dxp,_,yz K t p.kind,rfl,p1,vf _ _ _ _ (by decide +kernel) (by decide +kernel) (by decide +kernel) (by decide +kernel),Pz T p.kind,?_⟩
 refine⟨_,rfl,A.f,dx,fs,rfl,s1 _ _ h1,h2.no _ (by decide +kernel),_,rfl,A.f,A.n,A.E,A.G,A.Kp,A.D,A.Rw,q,_,_,p.kind,_,_,_,p.ins,fL S,rfl,W1.at',W1.ever,W1.gone,P1,(by have:=Bt p.kind;omega),hh1 s1,fun d hd=>?_⟩
 have s2:aJ H1 (upd H1 d (.lst (p.ins.map (fL S)))):=aB hd
 refine⟨q,d,_,_,_,_,aW S p,rfl,P1.same s2,by rw [lM];exact hI,bI.of az,hO,fun H3 s3=>?_⟩
 have s23:=s2.trans s3
 have k':=k H3 (s1.trans s23)
 have hlt:=iU hO
 unfold dz at k'
 unfold MJ
 cases hf:(places p.kind (aW S p)).find? (uT (aW S p)) with
 | none=>
  rw [hf] at k'
  exact⟨_,rfl,_,rfl,fU k'⟩
 | some j=>
  rw [hf] at k'
  have hq:j <p.ins.length:=by have:=hlt j (List.mem_of_find?_eq_some hf);unfold aW at this;rwa [lM] at this
  have k':Q (V.str p.ins[j]) H3:=by simpa only [List.getElem?_eq_getElem hq,Option.map_some,Option.getD_some] using k'
  exact⟨_,rfl,_,rfl,cz ⟨_,rfl,q,_,dxp,_,_,rfl,s23 _ _ p1,iQ T p.kind,yV T p.kind,ux _ _ _ _,_,rfl,ti,p.ins.map V.str,j,_,rfl,rfl,s23.seqT p3,aM (j:=j) (by rw [List.getElem?_map,List.getElem?_eq_getElem hq];rfl),k'⟩⟩
theorem Nb (T:Txt w K mg t) {i:Nat} (hi:i <11):MethAt P w K mg base Cq 2 (cls t i) "worked" (dZ K t i):=match i,hi with
 | 0,_=>⟨_,_,_,T.iM.c,(T.kZ.me T.iM.me.2.2.2.2.1),T.kZ.b,iB.mono (k:=2) (CW T) (by decide)⟩
 | 1,_=>⟨_,_,_,T.iy.c,(T.lA.me T.iy.me.2.2.2.2.1),T.lA.b,iB.mono (k:=2) (DG T) (by decide)⟩
 | 2,_=>⟨_,_,_,T.iH.c,(T.lD.me T.iH.me.2.2.2.2.1),T.lD.b,iB.mono (k:=2) (Bj T) (by decide)⟩
 | 3,_=>⟨_,_,_,T.iI.c,(T.kO.me T.iI.me.2.2.2.2.1),T.kO.b,iB.mono (k:=2) (Dz T) (by decide)⟩
 | 4,_=>⟨_,_,_,T.iJ.c,(T.kW.me T.iJ.me.2.2.2.2.1),T.kW.b,iB.mono (k:=2) (Bp T) (by decide)⟩
 | 5,_=>⟨_,_,_,T.iD.c,(T.kJ.me T.iD.me.2.2.2.2.1),T.kJ.b,iB.mono (k:=2) (Dk T) (by decide)⟩
 | 6,_=>⟨_,_,_,T.lO.c,(T.nH.me T.lO.me.2.2.2.2.1),T.nH.b,iB.mono (k:=2) (DX T) (by decide)⟩
 | 7,_=>⟨_,_,_,T.iz.c,(T.lg.me T.iz.me.2.2.2.2.1),T.lg.b,iB.mono (k:=2) (Cm T) (by decide)⟩
 | 8,_=>⟨_,_,_,T.fH.c,(T.jP.me T.fH.me.2.2.2.2.1),T.jP.b,iB.mono (k:=2) (Ba T) (by decide)⟩
 | 9,_=>⟨_,_,_,T.dY.c,(T.jr.me T.dY.me.2.2.2.2.1),T.jr.b,iB.mono (k:=2) (zx T) (by decide)⟩
 | 10,_=>⟨_,_,_,T.fP.c,(T.jM.me T.fP.me.2.2.2.2.1),T.jM.b,iB.mono (k:=2) (Ar T) (by decide)⟩
theorem W8 (ns ws:List Int) (kp:Int):∀pv∈cB 0 ns ws kp,∃q:Nat,pv.1=(q:Int)/\q <cO 0:=by
 intro pv h
 simp [cB] at h
 subst h
 exact⟨0,rfl,by decide⟩
theorem XS (ns ws:List Int) (kp:Int):∀pv∈cB 1 ns ws kp,∃q:Nat,pv.1=(q:Int)/\q <cO 1:=by
 intro pv h
 simp [cB] at h
theorem WW (ns ws:List Int) (kp:Int):∀pv∈cB 2 ns ws kp,∃q:Nat,pv.1=(q:Int)/\q <cO 2:=by
 intro pv h
 simp [cB] at h
 subst h
 exact⟨0,rfl,by decide⟩
theorem Xw (ns ws:List Int) (kp:Int):∀pv∈cB 3 ns ws kp,∃q:Nat,pv.1=(q:Int)/\q <cO 3:=by
 intro pv h
 simp [cB] at h
 rcases h with rfl | rfl
 ·exact⟨0,rfl,by decide⟩
 ·exact⟨1,rfl,by decide⟩
theorem XX (ns ws:List Int) (kp:Int):∀pv∈cB 4 ns ws kp,∃q:Nat,pv.1=(q:Int)/\q <cO 4:=by
 intro pv h
 simp [cB] at h
 subst h
 exact⟨0,rfl,by decide⟩
theorem XN (ns ws:List Int) (kp:Int):∀pv∈cB 5 ns ws kp,∃q:Nat,pv.1=(q:Int)/\q <cO 5:=by
 intro pv h
 simp [cB] at h
 subst h
 exact⟨0,rfl,by decide⟩
theorem W0 (ns ws:List Int) (kp:Int):∀pv∈cB 6 ns ws kp,∃q:Nat,pv.1=(q:Int)/\q <cO 6:=by
 intro pv h
 simp [cB] at h
 subst h
 exact⟨0,rfl,by decide⟩
theorem Xn (ns ws:List Int) (kp:Int):∀pv∈cB 7 ns ws kp,∃q:Nat,pv.1=(q:Int)/\q <cO 7:=by
 intro pv h
 simp [cB] at h
 subst h
 exact⟨0,rfl,by decide⟩
theorem Xx (ns ws:List Int) (kp:Int):∀pv∈cB 8 ns ws kp,∃q:Nat,pv.1=(q:Int)/\q <cO 8:=by
 intro pv h
 simp [cB] at h
 rcases h with rfl | rfl
 ·exact⟨0,rfl,by decide⟩
 ·exact⟨1,rfl,by decide⟩
theorem Xd (ns ws:List Int) (kp:Int):∀pv∈cB 9 ns ws kp,∃q:Nat,pv.1=(q:Int)/\q <cO 9:=by
 intro pv h
 simp [cB] at h
 subst h
 exact⟨0,rfl,by decide⟩
theorem Vm (ns ws:List Int) (kp:Int):∀pv∈cB 10 ns ws kp,∃q:Nat,pv.1=(q:Int)/\q <cO 10:=by
 intro pv h
 simp [cB] at h
 subst h
 have h0:=Int.emod_nonneg (g0 ws) (show(2:Int)≠0 by decide)
 have h1:=Int.emod_lt_of_pos (g0 ws) (show(0:Int) <2 by decide)
 exact⟨(g0 ws % 2).toNat,by show g0 ws % 2=_;omega,by show(g0 ws % 2).toNat <2;omega⟩
theorem HS {i:Nat} (hi:i<=10) (ns ws:List Int) (kp:Int):∀pv∈cB i ns ws kp,∃q:Nat,pv.1=(q:Int)/\q <cO i:=by
 match i,hi with
 | 0,_=>exact W8 ns ws kp
 | 1,_=>exact XS ns ws kp
 | 2,_=>exact WW ns ws kp
 | 3,_=>exact Xw ns ws kp
 | 4,_=>exact XX ns ws kp
 | 5,_=>exact XN ns ws kp
 | 6,_=>exact W0 ns ws kp
 | 7,_=>exact Xn ns ws kp
 | 8,_=>exact Xx ns ws kp
 | 9,_=>exact Xd ns ws kp
 | 10,_=>exact Vm ns ws kp
 | (n+11),z=>exact absurd z (by omega)
theorem Jj (i:Nat) (ns ws:List Int) (kp:Int):(cB i ns ws kp).length<=2:=match i with
 | 0=>by simp [cB]
 | 1=>by simp [cB]
 | 2=>by simp [cB]
 | 3=>by simp [cB]
 | 4=>by simp [cB]
 | 5=>by simp [cB]
 | 6=>by simp [cB]
 | 7=>by simp [cB]
 | 8=>by simp [cB]
 | 9=>by simp [cB]
 | n+10=>by simp [cB]
noncomputable def nameAt (xs:List Str) (q:Nat):V:=V.str ((xs[q]?).getD Str.empty)
theorem Mv {H:Hp} {Q:VK} {Ex:XK} {f n E G Kp D Rw:Addr} {rd dd:List (Key×V)} {y:Str} (N:o9 K t H f n E G Kp D Rw) (hR:H Rw=some (.dK rd)) (hD:H D=some (.dK dd))
  (k:(bT rd (Sum.inr y)=none/\Q (.bl false) H)∨∃(l:Addr) (vs':List V) (g:Nat),bT rd (Sum.inr y)=some (.ref l)/\bT dd (Sum.inr y)=some (.int g)/\bI K H l vs'/\Q (.bl (decide (g=vs'.length))) H):dB K t [.ref f,.str y] H Q Ex:=by
 unfold dB
 exact⟨f,n,E,G,Kp,D,Rw,rd,dd,y,rfl,N,hR,hD,k⟩
theorem Xf {i:Nat} (h0:i≠0) (hi:i <11) (h9:i≠9):cV i=cI i:=by
 match i,h0,hi with
 | 1,_,_=>rfl
 | 2,_,_=>rfl
 | 3,_,_=>rfl
 | 4,_,_=>rfl
 | 5,_,_=>rfl
 | 6,_,_=>rfl
 | 7,_,_=>rfl
 | 8,_,_=>rfl
 | 9,_,_=>exact absurd rfl h9
 | 10,_,_=>rfl
theorem Lr {S:FS} {p:PD} (ok:jL p) (hl:dz p.kind p.ins (aW S p)=.non):∀q∈places p.kind (aW S p),∃x n,p.ins[q]?=some x/\(aW S p)[q]?=some (.int n)/\(S.ev x)[S.g x]?=some n:=by
 have hO:=lY S p ok
 have hf:(places p.kind (aW S p)).find? (uT (aW S p))=none:=by
  cases hf:(places p.kind (aW S p)).find? (uT (aW S p)) with
  | none=>rfl
  | some j=>
   unfold dz at hl
   rw [hf] at hl
   have hq:j <p.ins.length:=by have:=iU hO j (List.mem_of_find?_eq_some hf);unfold aW at this;rwa [lM] at this
   simp only [List.getElem?_eq_getElem hq,Option.map_some,Option.getD_some] at hl
   cases hl
 intro q hq
 have h1:=List.find?_eq_none.mp hf q hq
 have hlt:=iU hO q hq
 have hlt':q <p.ins.length:=by unfold aW at hlt;rwa [lM] at hlt
 have e:(aW S p)[q]?=some (fL S p.ins[q]):=by unfold aW;rw [List.getElem?_map,List.getElem?_eq_getElem hlt'];rfl
 refine⟨p.ins[q],?_⟩
 unfold uT at h1
 rw [e] at h1 ⊢
 unfold fL at h1 ⊢
 cases h0:(S.ev p.ins[q])[S.g p.ins[q]]? with
 | none=>rw [h0] at h1;exact absurd (by simp) h1
 | some n=>exact⟨n,List.getElem?_eq_getElem hlt',by simp,rfl⟩
theorem Ur {b:Nat} {ls:List aG} {ps:List PD} {S:FS} (F:wg ls ps) (O:Bc b ls ps S) {p:PD} (hp:p∈ps) (hl:dz p.kind p.ins (aW S p)=.non) (he:qT S p=false):(yI S p).length=cV p.kind/\Wd (yI S p)/\
  (p.kind≠0->(places p.kind (aW S p)).map (fun q=>((aW S p)[q]?).getD .non)=(yI S p).map V.int)/\(p.kind=0->∃w,(S.r p.name)[S.d p.name]?=some w/\yI S p=[w]):=by
 have ok:=F.pok p hp
 have hn:=Lr ok hl
 by_cases h0:p.kind=0
 ·have hd:=O.dl p hp h0
  have hlt:S.d p.name <(S.r p.name).length:=by
   unfold qT at he
   simp [h0] at he
   omega
  have e:=List.getElem?_eq_getElem hlt
  have ew:yI S p=[(S.r p.name)[S.d p.name]]:=by unfold yI;rw [if_pos h0,e];rfl
  refine⟨by rw [ew,h0];rfl,fun w hw=>?_,fun z=>absurd h0 z,fun _=>⟨_,e,ew⟩⟩
  rw [ew,List.mem_singleton] at hw
  subst hw
  exact O.rb p hp h0 _ (List.getElem_mem hlt)
 ·have ew:yI S p=(places p.kind (aW S p)).map fun q=>Vr (((aW S p)[q]?).getD .non):=by unfold yI;rw [if_neg h0]
  refine⟨?_,fun w hw=>?_,fun _=>?_,fun z=>absurd z h0⟩
  ·rw [ew,lM]
   by_cases h9:p.kind=9
   ·have h3:=hn
    unfold places at h3 ⊢
    rw [if_pos h9] at h3 ⊢
    split
    ·rw [h9];rfl
    ·rename_i hno
     obtain⟨x,n,_,h3,_⟩:=h3 0 (by split <;> simp)
     cases hs:aW S p with
     | nil=>rw [hs] at h3;cases h3
     | cons a r=>
      rw [hs] at h3
      have:a=.int n:=by simpa using h3
      exact absurd (by rw [hs,this]) (hno n r)
   ·unfold places
    rw [if_neg h9,List.length_range,(lY S p ok).1,Xf h0 ok.1 h9]
  ·rw [ew] at hw
   obtain⟨q,hq,rfl⟩:=List.mem_map.mp hw
   obtain⟨x,n,hx,h3,h4⟩:=hn q hq
   rw [h3]
   show 0<=n/\n <1000000000
   obtain⟨l,hll,rfl⟩:=F.inL hp (List.mem_append.mpr (.inl (List.mem_of_getElem? hx)))
   exact O.vb l hll n (List.mem_of_getElem? h4)
  ·rw [ew,List.map_map]
   refine List.map_congr_left fun q hq=>?_
   obtain⟨x,n,_,h3,_⟩:=hn q hq
   show _=V.int (Vr _)
   rw [h3]
   rfl
theorem Bs {S:FS} {p:PD} (h:dz p.kind p.ins (aW S p)≠.non):jl S p=none:=by unfold jl;rw [if_pos h]
theorem FW {S:FS} {p:PD} (h:qT S p=true):jl S p=none:=by unfold jl;split <;> simp [h]
inductive vC (K:PySem.W.Frag) (t:ji) (vs:List V) (H:Hp) (Q:VK):Prop where
 | mk:∀(b:Nat) (A:mF) (ls:List aG) (ps:List PD) (S:FS) (p:PD),vs=[.ref A.f,.str p.name]->gJ K t H A.n ls ps->dD K t H A ls ps S->p∈ps->Bc b ls ps S->((jl S p=none->∀H',aJ H H'->Q .non H'))->(∀dd,jl S p=some dd->∀H' U,aJ H H'->H U=none->mV (A.cells ls ps) H' U dd->Q (.ref U) H')->vC K t vs H Q
@[irreducible] noncomputable def jR (K:PySem.W.Frag) (t:ji):Sp:=fun vs H Q _=>vC K t vs H Q
noncomputable abbrev pR:List Str:=["self", "name", "part", "heads", "places", "values", "answer", "given"]
theorem yd (T:Txt w K mg t):FO P w K mg base 5 t.ug ["self", "name"] (jR K t):=by
 have sc:=T.pU.sc pR
 refine T.pU.F.ok sc (fun vs H Q E h=>?_) (fun cdv A outer s H vs Q E hr h=>?_)
 ·unfold jR at h
  obtain⟨b,A,ls,ps,S,p,rfl,_⟩:=h
  rfl
 ·unfold jR at h
  obtain⟨b,A,ls,ps,S,p,rfl,N,W,hp,O,kn,k⟩:=h
  refine⟨_,(aq (bM (PW.pt (tE (gH (rP (wD (pv 0) T.aO T.aO.me.2.2.2.2.2.2.1 (tD T) T.jW hr (aa (pv 1) ak aj)))) (mq (fW (wD (pv 0) T.aO T.aO.me.2.2.2.2.1 (pW T) T.jc hr (aa (pv 1) ak aj))))))
    (aA (aN uO))
    bu)
   (aq (sN sc 2 (wD (bh (pv 0) rfl) T.bj T.bj.me.2.2.2.2.2.2.2.2.2.1 (oM T) T.jo hr (aa (pv 1) ak aj)))
   (aq (sN sc 3 (wD (pv 0) T.aO T.aO.me.2.2.2.2.2.1 (v9 T) T.nC hr (aa (pv 2) ak aj)))
   (aq (sN sc 4 (yE (CX:=Cq) (k:=1) (E:=E0) (pv 2) (hr.mono (by decide)) ir (aa (pv 3) ak aj)))
   (aq (jn (i:=5) [3] pR (aU (inClass (top 58) 9)) rfl sc.nd rfl (bN (pv 4)) (fun _ _ _ _ _=>iC) (fun _ _ _ _ _=>(aR (Jo (K:=K) rfl) (pv 1) (pv 0) (fun _ _=>rfl))))
   (aq (eG (bM (gH (zu hr.u1 (pv 1) (bh (pv 0) rfl)))
    (aA (sN sc 5 (bz (aa (aR aQ (b8 hr.u1 (bh (pv 0) rfl) (pv 1) (fun _ _=>rfl)) (b8 hr.u1 (bh (pv 0) rfl) (pv 1) (fun _ _=>rfl)) (fun _ _=>rfl)) ak aF))))
    bu))
   (aq (sN sc 6 (yE (CX:=Cq) (k:=2) (E:=E0) (pv 2) (hr.mono (by decide)) ir (aa (pv 5) (aa (b8 hr.u1 (bh (pv 0) rfl) (pv 1) (fun _ _=>rfl)) ak aF) aj)))
   (aq (Qx (i:=7) ["place", "value"] [2] pR (aU (inClass (top 58) 9)) rfl sc.nd rfl (bN (aR cZ (pv 6) au (fun _ _=>rfl))) (fun _ _ _ _ _=>Lz (K:=K) (n:=2) rfl rfl (dg (vh (i:=0) (show(["place", "value", "part"]:List Str).Nodup by decide +kernel) rfl (Or.inl rfl) (.inr rfl)) (dg (vh (i:=1) (show(["place", "value", "part"]:List Str).Nodup by decide +kernel) rfl (Or.inl rfl) (.inr rfl)) qx))) (fun _ _ _ _ _=>iC) (fun _ _ _ _ _=>(cg (aa (aR (mX (K:=K) rfl) (Hu (K:=K) rfl (pv 2) rfl) (pv 0) (fun _ _=>rfl)) (aa (pv 1) ak aj) aF))))
   (aA (aN (cg (aa (eX [2] pR (aU (inClass (top 58) 9)) rfl (bN (pv 4)) (fun _ _ _ _ _=>iC) (fun _ _ _ _ _=>(aR (mX (K:=K) rfl) (Hu (K:=K) rfl (pv 1) rfl) (pv 0) (fun _ _=>rfl)))) (aa (pv 7) (aa (aR cZ (pv 6) au (fun _ _=>rfl)) ak aF) aj) gZ)))))))))))),?_⟩
  obtain⟨dxn,fsn,R,F,Pd,Gn,Tk,FL,PL,Wn⟩:=id N
  have F:=Wn.fit
  obtain⟨dx,fs,h1,h2⟩:=id W.at'.ex
  have ok:=F.pok p hp
  have hO:=lY S p ok
  have hI:=ok.2.2.1
  have hh1:∀{H':Hp},aJ H H'->(∀x∈p.ins,∃(l:Addr) (vs':List V) (g:Nat),bT (Ni A.ea ls) (Sum.inr x)=some (.ref l)/\bT (cY S.g ls) (Sum.inr x)=some (.int g)/\bI K H' l vs'/\fL S x=(vs'[g]?).getD .non):=fun s x hx=>by
   obtain⟨l,hl,rfl⟩:=F.inL hp (List.mem_append.mpr (.inl hx))
   exact⟨A.ea l.name,_,S.g l.name,lE F.whole.nod hl,rM F.whole.nod hl,bI.of (s _ _ (W.lists l hl)),by unfold fL;rw [List.getElem?_map]⟩
  have hz:sizeLine=16777216:=sizeLine_eq
  have hpl:(places p.kind (aW S p)).length<=3:=places_len hO
  refine⟨_,rfl,A.f,dx,fs,rfl,h1,h2.no _ (by decide +kernel),_,rfl,A,ls,ps,S,p,rfl,N,W,hp,fun H1 s1=>?_⟩
  by_cases hlk:dz p.kind p.ins (aW S p)≠.non
  ·have e:(!decide (dz p.kind p.ins (aW S p)=V.non))=true:=by simp [hlk]
   refine⟨_,rfl,?_⟩
   rw [e]
   exact fU (fU (kn (Bs hlk) H1 s1))
  have hlk:=Classical.not_not.mp hlk
  rw [hlk]
  have W1:=W.same s1
  refine⟨_,rfl,cz ⟨_,rfl,A.f,dx,fs,rfl,s1 _ _ h1,h2.no _ (by decide +kernel),_,rfl,?_⟩⟩
  have vd:=rB (k:=fun x=>(S.d x:Int)) F.pnd hp
  cases he:qT S p with
  | true=>
   have h0:p.kind=0/\S.d p.name=(S.r p.name).length:=by unfold qT at he;simpa using he
   refine Mv W1.at' W1.rows W1.done (.inr ⟨_,_,S.d p.name,o7 F.pnd hp h0.1,vd,bI.of (W1.rlst p hp h0.1),?_⟩)
   rw [decide_eq_true (by rw [lM];exact h0.2)]
   exact⟨_,rfl,fU (kn (FW he) H1 s1)⟩
  | false=>
  obtain⟨lw,hB,hv,hw0⟩:=Ur F O hp hlk he
  have k':=k _ (show jl S p=some _ by unfold jl;rw [if_neg (by simp [hlk]),if_neg (by simp [he])])
  have hwl:=HS (show p.kind<=10 by have:=ok.1;omega) p.nums (yI S p) (S.k p.name)
  have hw2:=Jj p.kind p.nums (yI S p) (S.k p.name)
  have pick:∀(Q':VK) (E':XK),Q' (.bl false) H1->dB K t [.ref A.f,.str p.name] H1 Q' E':=by
   intro Q' E' z
   refine Mv W1.at' W1.rows W1.done ?_
   by_cases h0:p.kind=0
   ·refine .inr ⟨_,_,S.d p.name,o7 F.pnd hp h0,vd,bI.of (W1.rlst p hp h0),?_⟩
    obtain⟨w,ew,_⟩:=hw0 h0
    have:=(List.getElem?_eq_some_iff.mp ew).1
    rw [decide_eq_false (by rw [lM];omega)]
    exact z
   ·exact .inl ⟨HQ F.pnd hp h0,z⟩
  refine pick _ _ ?_
  clear pick
  refine⟨_,rfl,cz ?_⟩
  have Wn1:=Wn.same s1
  refine⟨_,rfl,A.f,_,dx,fs,_,rfl,s1 _ _ h1,T.aO.c,T.aO.na.1,h2.has ("net",.ref A.n) (by simp),A.n,dxn,fsn,rfl,Wn1.obj,Wn1.fl.no _ (by decide +kernel),_,rfl,A.n,ls,ps,p.name,rfl,Wn1.s,.inl ⟨p,hp,rfl,fun H2 q s2' hP=>?_⟩⟩
  have s2:=s1.trans s2'
  have W2:=W.same s2
  obtain⟨dxp,tn,ti,to,p1,p2,p3,p4⟩:=id hP.ex
  clear s2' W1 Wn1
  refine⟨_,rfl,A.f,dx,fs,rfl,s2 _ _ h1,h2.no _ (by decide +kernel),_,rfl,A.f,A.n,A.E,A.G,A.Kp,A.D,A.Rw,q,_,_,p.kind,_,_,_,p.ins,fL S,rfl,W2.at',W2.ever,W2.gone,hP,(by have:=Bt p.kind;omega),hh1 s2,fun d hd=>?_⟩
  have s3':=aB (o:=.lst (aW S p)) hd
  have ed3:(upd H2 d (.lst (p.ins.map (fL S)))) d=some (.lst (aW S p)):=az
  change aJ H2 (upd H2 d (.lst (p.ins.map (fL S)))) at s3'
  generalize upd H2 d (.lst (p.ins.map (fL S)))=H3 at s3' ed3 ⊢
  have s3:=s2.trans s3'
  refine⟨_,rfl,q,cls t p.kind,dxp,_,ou K t p.kind,rfl,s3' _ _ p1,vf _ _ _ _ (by decide +kernel) (by decide +kernel) (by decide +kernel) (by decide +kernel),Eh T p.kind,_,rfl,q,d,_,_,_,_,aW S p,rfl,hP.same s3',by rw [lM];exact hI,bI.of ed3,hO,fun H4 L s4' nL eL=>?_⟩
  have s24:=s3'.trans s4'
  have s4:=s3.trans s4'
  have ed4:=s4' _ _ ed3
  refine⟨_,rfl,L,rfl,⟨_,bI.of eL⟩,d7 (K:=K) (a:=L) (xs:=(places p.kind (aW S p)).map nV) (fun j ys H'=>H'=H4/\ys=((places p.kind (aW S p)).take j).map (fun q=>((aW S p)[q]?).getD .non)) (by rw [lM];omega) ⟨rfl,rfl⟩ (fun j ys H' ⟨_,e⟩=>by rw [e,lM,List.length_take];omega) (fun j ys H' _ ⟨e,_⟩=>by rw [e];exact bI.of eL) ?_ ?_⟩
  ·rintro j v ys H' hv' ⟨e',rfl⟩
   subst e'
   rw [List.getElem?_map] at hv'
   obtain⟨r,hr',rfl⟩:=Option.map_eq_some_iff.mp hv'
   have hql:r <(aW S p).length:=iU hO r (List.mem_of_getElem? hr')
   refine yes ⟨_,rfl,_,rfl,d,aW S p,r,_,rfl,rfl,bI.of ed4,aM (j:=r) (List.getElem?_eq_getElem hql),rfl,?_⟩
   rw [List.take_succ,hr',Option.toList_some,List.map_append,List.map_cons,List.map_nil,List.getElem?_eq_getElem hql]
   rfl
  rintro ys H' ⟨e',rfl⟩ V1 hV1
  subst e'
  rw [lM,List.take_length]
  have s5':=aB (o:=.lst ((places p.kind (aW S p)).map fun q=>((aW S p)[q]?).getD .non)) hV1
  have eV:(upd H' V1 (.lst ((places p.kind (aW S p)).map fun q=>((aW S p)[q]?).getD .non))) V1=some (.lst ((places p.kind (aW S p)).map fun q=>((aW S p)[q]?).getD .non)):=az
  generalize upd H' V1 (.lst ((places p.kind (aW S p)).map fun q=>((aW S p)[q]?).getD .non))=H5 at s5' eV ⊢
  have s25:=s24.trans s5'
  have s5:=s4.trans s5'
  have W5:=W.same s5
  refine⟨fun σ' H6=>∃V2,aJ H H6/\aJ H2 H6/\aJ H' H6/\σ'=[some (.ref A.f),some (.str p.name),some (.ref q),some (.ref d),some (.ref L),some (.ref V2),none,none]/\H6 V2=some (.lst ((yI S p).map V.int)),?_,?_⟩
  ·refine⟨_,rfl,_,rfl,A.f,_,dx,fs,_,rfl,s5 _ _ h1,T.aO.c,T.aO.na.2.2.2.2.2.1,h2.has ("rows",.ref A.Rw) (by simp),A.Rw,_,rfl,d9.k (k:=Sum.inr p.name) W5.rows,?_⟩
   by_cases h0:p.kind=0
   ·obtain⟨w,ew,eW⟩:=hw0 h0
    have v1:=o7 (ra:=A.ra) F.pnd hp h0
    rw [v1,eW]
    refine⟨_,rfl,fU ?_⟩
    refine⟨_,rfl,A.f,_,dx,fs,_,rfl,s5 _ _ h1,T.aO.c,T.aO.na.2.2.2.2.2.1,h2.has ("rows",.ref A.Rw) (by simp),_,rfl,A.Rw,_,rfl,(by rw [<-v1];exact d9.k (k:=Sum.inr p.name) W5.rows),?_⟩
    refine⟨_,rfl,A.f,_,dx,fs,_,rfl,s5 _ _ h1,T.aO.c,T.aO.na.2.2.2.2.1,h2.has ("done",.ref A.D) (by simp),_,rfl,A.D,_,rfl,(by rw [<-vd];exact d9.k (k:=Sum.inr p.name) W5.done),?_⟩
    refine⟨A.ra p.name,_,S.d p.name,_,rfl,rfl,bI.of (W5.rlst p hp h0),aM (j:=S.d p.name) (by rw [List.getElem?_map,ew];rfl),iw,fun V2 hV2=>?_⟩
    exact⟨V2,s5.trans (aB hV2),s25.trans (aB hV2),s5'.trans (aB hV2),rfl,az⟩
   ·rw [HQ F.pnd hp h0]
    exact⟨_,rfl,cz ⟨V1,s5,s25,s5',rfl,by rw [<-hv h0];exact eV⟩⟩
  rintro σ' H6 ⟨V2,s6,s26,s46,rfl,eV2⟩
  clear W5 W2 s25 s24 s5 s5' s4 s3 s3' eV ed4 ed3
  have W6:=W.same s6
  have hkp:=rB (k:=S.k) F.pnd hp
  refine⟨_,rfl,q,cls t p.kind,dxp,_,dZ K t p.kind,rfl,s26 _ _ p1,vf _ _ _ _ (by decide +kernel) (by decide +kernel) (by decide +kernel) (by decide +kernel),Nb T ok.1,_,rfl,_,rfl,A.f,_,dx,fs,_,rfl,s6 _ _ h1,T.aO.c,T.aO.na.2.2.2.1,h2.has ("kept",.ref A.Kp) (by simp),_,rfl,A.Kp,_,rfl,(by rw [<-hkp];exact d9.k (k:=Sum.inr p.name) W6.kept),?_⟩
  refine⟨q,V2,_,p.nums,_,_,yI S p,S.k p.name,rfl,hP.same s26,ok.2.1,bI.of eV2,lw,hB,fun H7 U0 L0 rs s7 nL0 eU0 eL0 tU=>?_⟩
  have s57:=s6.trans s7
  have s27:=s26.trans s7
  have eL7:=s7 _ _ (s46 _ _ eL)
  have hlr:rs.length=(cB p.kind p.nums (yI S p) (S.k p.name)).length:=by have:=Paired.length tU;unfold Ie at this;rw [lM] at this;exact this
  clear W6
  refine⟨_,rfl,U0,_,0,_,rfl,rfl,fC.of eU0,aM (j:=0) rfl,L0,rfl,⟨_,bI.of eL0⟩,?_⟩
  refine Cr (K:=K) (a:=L0) (xs:=rs.map V.ref) (fun j ys H8=>aJ H7 H8/\∃qs:List Addr,ys=qs.map V.ref/\eE H8 qs (((cB p.kind p.nums (yI S p) (S.k p.name)).take j).map fun pv=>[.str (strAt p.outs pv.1.toNat),.int pv.2])) (by rw [lM];omega) ⟨aJ.refl _,[],rfl,.nil⟩ ?_ (fun j ys H8 _ ⟨e,_⟩=>e.seq (bI.of eL0)) ?_ ?_
  ·rintro j ys H8 ⟨_,qs,rfl,tq⟩
   have:=Paired.length tq
   rw [lM,List.length_take] at this
   rw [lM]
   omega
  ·rintro j v ys H8 hj ⟨s8,qs,rfl,tq⟩
   rw [List.getElem?_map] at hj
   obtain⟨r,hr',rfl⟩:=Option.map_eq_some_iff.mp hj
   have hjl:j <(cB p.kind p.nums (yI S p) (S.k p.name)).length:=by have:=(List.getElem?_eq_some_iff.mp hr').1;omega
   obtain⟨pv,hpv⟩:∃pv,(cB p.kind p.nums (yI S p) (S.k p.name))[j]?=some pv:=⟨_,List.getElem?_eq_getElem hjl⟩
   have hr2:H7 r=some (.tup [.int pv.1,.int pv.2]):=by
    obtain⟨vs2,z1,z2⟩:=qZ tU hr'
    unfold Ie at z1
    rw [List.getElem?_map,hpv] at z1
    cases z1
    exact z2
   obtain⟨o,ho1,ho2⟩:=hwl _ (List.mem_of_getElem? hpv)
   have ho3:o <p.outs.length:=by rw [ok.2.2.2.1];exact ho2
   have hn:strAt p.outs o=p.outs[o]:=by unfold strAt;rw [List.getElem?_eq_getElem ho3];rfl
   refine⟨r,_,rfl,fC.of (s8 _ _ hr2),rfl,_,_,rfl,_,_,rfl,rfl,rfl,?_⟩
   refine yes ⟨_,rfl,q,_,dxp,_,_,rfl,s8 _ _ (s27 _ _ p1),iQ T p.kind,Ia T p.kind,Fd _ _ _ _,_,rfl,to,p.outs.map V.str,_,.str (strAt p.outs o),rfl,rfl,s8.seqT (s27.seqT p4),?_,_,rfl,iw,fun u hu=>⟨s8.trans (aB hu),qs ++ [u],by simp,?_⟩⟩
   ·rw [ho1,hn]
    exact aM (j:=o) (by rw [List.getElem?_map,List.getElem?_eq_getElem ho3];rfl)
   ·rw [List.take_succ,hpv,Option.toList_some,List.map_append]
    refine(eE.same (aB hu) tq).append (.cons ?_ .nil)
    show upd H8 u _ u=some (HO.tup [V.str (strAt p.outs pv.1.toNat),V.int pv.2])
    rw [ho1,Int.toNat_natCast]
    exact az
  rintro ys H8 ⟨s8,qs,rfl,tq⟩ Lg hLg
  rw [lM,hlr,List.take_length] at tq
  have t9:=aB (o:=.lst (qs.map V.ref)) hLg
  have s9':=s8.trans t9
  have tq9:=eE.same t9 tq
  have eLg:(upd H8 Lg (.lst (qs.map V.ref))) Lg=some (.lst (qs.map V.ref)):=az
  generalize upd H8 Lg (.lst (qs.map V.ref))=H9 at t9 s9' tq9 eLg ⊢
  have s9:=s57.trans s9'
  have s29:=s27.trans s9'
  have eL9:=s9' _ _ eL7
  have eU9:=s9' _ _ eU0
  refine⟨_,rfl,L,rfl,⟨_,bI.of eL9⟩,d7 (K:=K) (a:=L) (xs:=(places p.kind (aW S p)).map nV) (fun j ys H'=>H'=H9/\ys=((places p.kind (aW S p)).take j).map (fun q=>V.str (strAt p.ins q))) (by rw [lM];omega) ⟨rfl,rfl⟩ (fun j ys H' ⟨_,e⟩=>by rw [e,lM,List.length_take];omega) (fun j ys H' _ ⟨e,_⟩=>by rw [e];exact bI.of eL9) ?_ ?_⟩
  ·rintro j v ys HX hv' ⟨e',rfl⟩
   subst e'
   rw [List.getElem?_map] at hv'
   obtain⟨r,hr',rfl⟩:=Option.map_eq_some_iff.mp hv'
   have hql:r <p.ins.length:=by have:=iU hO r (List.mem_of_getElem? hr');unfold aW at this;rwa [lM] at this
   have hn:strAt p.ins r=p.ins[r]:=by unfold strAt;rw [List.getElem?_eq_getElem hql];rfl
   refine yes ⟨_,rfl,q,_,dxp,_,_,rfl,s29 _ _ p1,iQ T p.kind,yV T p.kind,ux _ _ _ _,_,rfl,ti,p.ins.map V.str,r,.str (strAt p.ins r),rfl,rfl,s29.seqT p3,by rw [hn];exact aM (j:=r) (by rw [List.getElem?_map,List.getElem?_eq_getElem hql];rfl),rfl,?_⟩
   rw [List.take_succ,hr',Option.toList_some,List.map_append]
   rfl
  rintro ys H10 ⟨e',rfl⟩ La hLa
  subst e'
  rw [lM,List.take_length]
  have s10':=aB (o:=.lst ((places p.kind (aW S p)).map fun q=>V.str (strAt p.ins q))) hLa
  refine⟨_,rfl,_,rfl,U0,_,1,_,rfl,rfl,fC.of (s10' _ _ eU9),aM (j:=1) rfl,iw,fun U hU=>?_⟩
  refine k' _ U ((s9.trans s10').trans (aB hU)) ((s9.trans s10').free hU) ⟨La,Lg,qs,az,?_,aB hU _ _ (s10' _ _ eLg),?_,W.cell (s9.free hLa),W.cell ((s57.trans s8).free hLg)⟩
  ·rw [List.map_map]
   exact aB hU _ _ az
  ·rw [List.map_map]
   exact eE.same (s10'.trans (aB hU)) tq9
theorem Oa (g:Str->Nat) {ls:List aG} {x:Str} (hx:x∈ls.map (·.name)) (v:Nat):putK (cY g ls) (Sum.inr x) (.int (v:Nat))=cY (fun y=>if y=x then v else g y) ls:=by
 unfold putK
 rw [if_pos (by
  obtain⟨l,hl,rfl⟩:=List.mem_map.mp hx
  exact List.any_eq_true.mpr ⟨_,List.mem_map.mpr ⟨l,hl,rfl⟩,by simp⟩)]
 unfold cY
 rw [List.map_map]
 refine List.map_congr_left fun l _=>?_
 by_cases h:l.name=x
 ·simp [h]
 ·simp [h]
theorem Gf (g:Str->Int) {ps:List PD} {x:Str} (hx:x∈ps.map (·.name)) (v:Int):putK (bZ g ps) (Sum.inr x) (.int v)=bZ (fun y=>if y=x then v else g y) ps:=by
 unfold putK
 rw [if_pos (by
  obtain⟨l,hl,rfl⟩:=List.mem_map.mp hx
  exact List.any_eq_true.mpr ⟨_,List.mem_map.mpr ⟨l,hl,rfl⟩,by simp⟩)]
 unfold bZ
 rw [List.map_map]
 refine List.map_congr_left fun l _=>?_
 by_cases h:l.name=x
 ·simp [h]
 ·simp [h]
noncomputable def Ce (S:FS) (x:Str) (dd:jV):FS:=⟨fun y=>S.ev y ++ (dd.gv.filter fun q=>decide (q.1=y)).map (·.2),fun y=>if y∈dd.tk then S.g y+1 else S.g y,fun y=>if y=x then dd.kv else S.k y,fun y=>if y=x then S.d y+1 else S.d y,S.r⟩
noncomputable def Eb (M:List Addr) (H H':Hp):Prop:=∀b,b∉M->H' b=H b
structure GX (ls:List aG) (dd:jV):Prop where
 ntk:dd.tk.Nodup
 tin:∀x∈dd.tk,x∈ls.map (·.name)
 gin:∀q∈dd.gv,q.1∈ls.map (·.name)
 g2:dd.gv.length<=2
inductive z7 (K:PySem.W.Frag) (t:ji) (vs:List V) (H:Hp) (Q:VK):Prop where
 | mk:∀(b:Nat) (A:mF) (ls:List aG) (ps:List PD) (S:FS) (p:PD) (U:Addr) (dd:jV),vs=[.ref A.f,.str p.name,.ref U]->wg ls ps->dD K t H A ls ps S->p∈ps->((∀l∈ls,(S.ev l.name).length<=b))->b<=100000->mV (A.cells ls ps) H U dd->GX ls dd->(∀H',Eb (A.cells ls ps) H H'->dD K t H' A ls ps (Ce S p.name dd)->Q .non H')->z7 K t vs H Q
@[irreducible] noncomputable def oG (K:PySem.W.Frag) (t:ji):Sp:=fun vs H Q _=>z7 K t vs H Q
theorem K1 (T:Txt w K mg t):FO P w K mg base 1 t.zp ["self", "name", "deed"] (oG K t):=by
 have sc:=T.yO.sc ["self", "name", "deed", "lane", "value"]
 refine T.yO.F.ok sc (fun vs H Q E h=>?_) (fun cdv A outer s H vs Q E hr h=>?_)
 ·unfold oG at h
  obtain⟨b,A,ls,ps,S,p,U,dd,rfl,_⟩:=h
  rfl
 ·unfold oG at h
  obtain⟨b,A,ls,ps,S,p,U,dd,rfl,F,W,hp,O,hb,⟨La,Lg,rs,hU,hLa,hLg,hT,na,ng⟩,⟨ntk,hin,hout,hg2⟩,k⟩:=h
  refine⟨_,(aq (du PassesOwn.never rfl (bN (aR cZ (pv 2) au (fun _ _=>rfl))) (gN sc 3)
    (aA (M4 hr.u1 (bh (pv 0) rfl) (pv 3) au Gm (fun _ _ _=>rfl))))
   (aq (du PassesOwn.never rfl (bN (aR cZ (pv 2) au (fun _ _=>rfl))) (wH rfl (dg (gN sc 3) (dg (gN sc 4) qx)))
    (aA (bK (Jw (b8 hr.u1 (bh (pv 0) rfl) (pv 3) (fun _ _=>rfl)) (aa (pv 4) ak aj)))))
   (aq (gh hr.u1 (bh (pv 0) rfl) (pv 1) (aR cZ (pv 2) au (fun _ _=>rfl)) rfl)
   (aA (M4 hr.u1 (bh (pv 0) rfl) (pv 1) au Gm (fun _ _ _=>rfl)))))),?_⟩
  have hl:sizeLine=16777216:=sizeLine_eq
  have l24:=F.l24
  have p16:=F.p16
  obtain⟨dx,fs,h1,h2⟩:=id W.at'.ex
  have hG:=W.gone
  have hn:=W.nod
  unfold mF.cells at hn na ng
  simp only [List.nodup_cons,List.mem_cons,List.mem_append,not_or] at hn na ng
  obtain⟨⟨nEG,nEK,nED,nER,nEE,nE2⟩,⟨nGK,nGD,nGR,nGE,nG2⟩,⟨nKD,nKR,nKE,nK2⟩,⟨nDR,nDE,nD2⟩,⟨nRE,nR2⟩,nA⟩:=hn
  obtain⟨nE1,nR1,nER1⟩:=List.nodup_append.mp nA
  refine⟨_,rfl,U,_,0,_,rfl,rfl,fC.of hU,aM (j:=0) rfl,La,rfl,⟨_,bI.of hLa⟩,cJ (K:=K) (a:=La) (xs:=dd.tk.map V.str) (fun j σ H'=>H'=upd H A.G (.dK (cY (fun x=>if x∈dd.tk.take j then S.g x+1 else S.g x) ls))/\∃v3,σ=[some (.ref A.f),some (.str p.name),some (.ref U),v3,none]) ⟨?_,none,rfl⟩ ?_ ?_ ?_⟩
  ·have:cY (fun x=>if x∈dd.tk.take 0 then S.g x+1 else S.g x) ls=cY S.g ls:=by simp
   rw [this,Hm hG]
  ·rintro j σ H' _ ⟨rfl,_⟩
   exact bI.of (jD hG hLa (by intro _ z;cases z))
  ·rintro j x σ H' hx ⟨rfl,v3,rfl⟩
   rw [List.getElem?_map] at hx
   obtain⟨y,hy,rfl⟩:=Option.map_eq_some_iff.mp hx
   have hym:=hin y (List.mem_of_getElem? hy)
   have nin:y∉dd.tk.take j:=by
    have:=mj (f:=id) (xs:=dd.tk) (by rw [List.map_id];exact ntk) hy
    rwa [List.map_id] at this
   have vg:bT (cY (fun x=>if x∈dd.tk.take j then S.g x+1 else S.g x) ls) (Sum.inr y)=some (.int ((S.g y:Nat):Int)):=by
    obtain⟨l,hl',rfl⟩:=List.mem_map.mp hym
    rw [rM F.whole.nod hl',if_neg nin]
   refine⟨_,rfl,A.f,_,dx,fs,_,rfl,jD hG h1 (by intro _ z;cases z),T.aO.c,T.aO.na.2.2.1,h2.has ("gone",.ref A.G) (by simp),_,rfl,A.G,.int ((S.g y:Nat):Int),rfl,(by rw [<-vg];exact d9.k (k:=Sum.inr y) az),_,_,rfl,rfl,_,ph.k (k:=Sum.inr y) az (by unfold cY;rw [lM];omega),?_,_,rfl⟩
   rw [sS]
   show upd H A.G (.dK (putK _ (Sum.inr y) (.int ((S.g y+1:Nat):Int))))=_
   rw [Oa _ hym (S.g y+1)]
   have:(fun z=>if z=y then S.g y+1 else if z∈dd.tk.take j then S.g z+1 else S.g z)=fun z=>if z∈dd.tk.take (j+1) then S.g z+1 else S.g z:=by
    funext z
    simp only [List.take_succ,hy,Option.toList_some,List.mem_append,List.mem_singleton]
    by_cases h3:z=y <;> by_cases h4:z∈dd.tk.take j <;> simp [h3,h4]
   rw [this]
  rintro σ H' ⟨rfl,v3,rfl⟩
  rw [lM,List.take_length]
  have m1:Eb [A.G] H (upd H A.G (.dK (cY (Ce S p.name dd).g ls))):=fun b hb=>aK (by simpa using hb)
  have gG:upd H A.G (.dK (cY (Ce S p.name dd).g ls)) A.G=some (.dK (cY (Ce S p.name dd).g ls)):=az
  change xV _ _ _ _ (upd H A.G (.dK (cY (Ce S p.name dd).g ls)))
  generalize upd H A.G (.dK (cY (Ce S p.name dd).g ls))=H1 at m1 gG ⊢
  have g1:∀{b:Addr} {u:HO},H b=some u->(∀ks,u≠.dK ks)->H1 b=some u:=fun {b u} h hu=>by
   rw [m1 b (by rw [List.mem_singleton];rintro rfl;rw [hG] at h;exact hu _ (Option.some.inj h).symm)]
   exact h
  have hlr:rs.length=dd.gv.length:=by have:=Paired.length hT;rw [lM] at this;exact this
  have eE1:H1 A.E=some (.dK (Ni A.ea ls)):=by rw [m1 A.E (by simpa using nEG)];exact W.ever
  have lists1:∀l∈ls,H1 (A.ea l.name)=some (.lst ((S.ev l.name).map V.int)):=fun l hl=>g1 (W.lists l hl) (by intro _ z;cases z)
  have nM:∀{b:Addr} {u:HO},H1 b=some u->(∀ks,u≠.lst ks)->b∉ls.map (fun l=>A.ea l.name):=fun {b u} h hu hm=>by
   obtain⟨l,hl,rfl⟩:=List.mem_map.mp hm
   rw [lists1 l hl] at h
   exact hu _ (Option.some.inj h).symm
  refine⟨_,rfl,U,_,1,_,rfl,rfl,fC.of (g1 hU (by intro _ z;cases z)),aM (j:=1) rfl,Lg,rfl,⟨_,bI.of (g1 hLg (by intro _ z;cases z))⟩,cJ (K:=K) (a:=Lg) (xs:=rs.map V.ref) (fun j σ H'=>(Eb (ls.map (fun l=>A.ea l.name)) H1 H'/\∀l∈ls,H' (A.ea l.name)=some (.lst ((S.ev l.name ++ ((dd.gv.take j).filter fun q=>decide (q.1=l.name)).map (·.2)).map V.int)))/\∃v3 v4,σ=[some (.ref A.f),some (.str p.name),some (.ref U),v3,v4]) ⟨⟨fun _ _=>rfl,fun l hl=>?_⟩,v3,none,rfl⟩ ?_ ?_ ?_⟩
  ·rw [lists1 l hl]
   simp
  ·rintro j σ H' _ ⟨⟨m2,_⟩,_⟩
   exact bI.of (by rw [m2 Lg ng.2.2.2.2.2.1];exact g1 hLg (by intro _ z;cases z))
  ·rintro j x σ H' hx ⟨⟨m2,l2⟩,v3,v4,rfl⟩
   rw [List.getElem?_map] at hx
   obtain⟨r,hr',rfl⟩:=Option.map_eq_some_iff.mp hx
   obtain⟨vs2,z1,z2⟩:=qZ hT hr'
   rw [List.getElem?_map] at z1
   obtain⟨w,ew,rfl⟩:=Option.map_eq_some_iff.mp z1
   have hj:=(List.getElem?_eq_some_iff.mp ew).1
   have er:=g1 z2 (by intro _ z;cases z)
   have er':H' r=some (.tup [.str w.1,.int w.2]):=by rw [m2 r (nM er (by intro _ z;cases z))];exact er
   have fe:H' A.f=some (.ins t.bY dx fs):=by
    have e1:=g1 h1 (by intro _ z;cases z)
    rw [m2 A.f (nM e1 (by intro _ z;cases z))]
    exact e1
   have ee:H' A.E=some (.dK (Ni A.ea ls)):=by rw [m2 A.E nEE];exact eE1
   obtain⟨l,hl',hln⟩:=List.mem_map.mp (hout w (List.mem_of_getElem? ew))
   have va:=lE (ea:=A.ea) F.whole.nod hl'
   have ea:=l2 _ hl'
   rw [hln] at va
   refine⟨r,_,rfl,fC.of er',rfl,_,_,rfl,_,_,rfl,rfl,?_⟩
   refine⟨_,rfl,A.f,_,dx,fs,_,rfl,fe,T.aO.c,T.aO.na.2.1,h2.has ("ever",.ref A.E) (by simp),_,rfl,A.E,.ref (A.ea w.1),rfl,(by rw [<-va];exact d9.k (k:=Sum.inr w.1) ee),.inl ⟨rfl,_,bI.of (by rw [<-hln];exact ea)⟩,?_⟩
   refine⟨_,rfl,A.ea w.1,_,.int w.2,rfl,rfl,by rw [<-hln];exact ea,?_,⟨fun b hb=>?_,fun l1 hl1=>?_⟩,some (.str w.1),some (.int w.2),rfl⟩
   ·have h3:=O l hl'
    have h4:=List.length_filter_le (fun q:Str×Int=>decide (q.1=l.name)) (dd.gv.take j)
    rw [List.length_take] at h4
    rw [lM,lP,lM]
    omega
   ·rw [aK (fun z=>hb (by rw [z,<-hln];exact List.mem_map.mpr ⟨l,hl',rfl⟩))]
    exact m2 b hb
   ·rw [List.take_succ,ew,Option.toList_some,List.filter_append,List.map_append]
    by_cases h:w.1=l1.name
    ·have e:l1=l:=by
      have a1:=find_name F.whole.nod hl1
      have a2:=find_name F.whole.nod hl'
      rw [<-h,<-hln,a2] at a1
      exact(Option.some.inj a1).symm
     subst e
     rw [<-hln,az]
     simp [h]
    ·have hne:A.ea l1.name≠A.ea w.1:=fun z=>by
      rw [<-hln] at z
      have:=BV nE1 hl1 hl' z
      exact h (by rw [this,hln])
     rw [aK hne,l2 l1 hl1]
     simp [h]
  rintro σ H2 ⟨⟨m2,l2⟩,v5,v6,rfl⟩
  rw [lM,hlr,List.take_length] at l2
  have fe:H2 A.f=some (.ins t.bY dx fs):=by
   have e1:=g1 h1 (by intro _ z;cases z)
   rw [m2 A.f (nM e1 (by intro _ z;cases z))]
   exact e1
  have uE:H2 U=some (.tup [.ref La,.ref Lg,.int dd.kv]):=by
   have e1:=g1 hU (by intro _ z;cases z)
   rw [m2 U (nM e1 (by intro _ z;cases z))]
   exact e1
  have kE:H2 A.Kp=some (.dK (bZ S.k ps)):=by rw [m2 A.Kp nKE,m1 A.Kp (by simpa using Ne.symm nGK)];exact W.kept
  have dE:H2 A.D=some (.dK (bZ (fun x=>(S.d x:Int)) ps)):=by rw [m2 A.D nDE,m1 A.D (by simpa using Ne.symm nGD)];exact W.done
  have lk:∀k1:Str->Int,(bZ k1 ps).length <sizeLine:=fun k1=>by unfold bZ;rw [lM];omega
  have hpn:p.name∈ps.map (·.name):=List.mem_map.mpr ⟨p,hp,rfl⟩
  refine⟨_,rfl,U,_,2,_,rfl,rfl,fC.of uE,aM (j:=2) rfl,_,rfl,A.f,_,dx,fs,_,rfl,fe,T.aO.c,T.aO.na.2.2.2.1,h2.has ("kept",.ref A.Kp) (by simp),_,rfl,A.Kp,_,rfl,ph.k (k:=Sum.inr p.name) kE (lk _),?_⟩
  rw [Gf S.k hpn]
  have m3:Eb [A.Kp] H2 (upd H2 A.Kp (.dK (bZ (fun y=>if y=p.name then dd.kv else S.k y) ps))):=fun b hb=>aK (by simpa using hb)
  have kE3:upd H2 A.Kp (.dK (bZ (fun y=>if y=p.name then dd.kv else S.k y) ps)) A.Kp=some (.dK (bZ (fun y=>if y=p.name then dd.kv else S.k y) ps)):=az
  generalize upd H2 A.Kp (.dK (bZ (fun y=>if y=p.name then dd.kv else S.k y) ps))=H3 at m3 kE3 ⊢
  have fe3:H3 A.f=some (.ins t.bY dx fs):=by rw [m3 A.f (by simpa using vW fe kE (by intro z;cases z))];exact fe
  have dE3:H3 A.D=some (.dK (bZ (fun x=>(S.d x:Int)) ps)):=by rw [m3 A.D (by simpa using Ne.symm nKD)];exact dE
  have vd:=rB (k:=fun x=>(S.d x:Int)) F.pnd hp
  refine⟨_,rfl,A.f,_,dx,fs,_,rfl,fe3,T.aO.c,T.aO.na.2.2.2.2.1,h2.has ("done",.ref A.D) (by simp),_,rfl,A.D,.int (S.d p.name:Int),rfl,(by rw [<-vd];exact d9.k (k:=Sum.inr p.name) dE3),_,_,rfl,rfl,_,ph.k (k:=Sum.inr p.name) dE3 (lk _),?_⟩
  rw [Gf (fun x=>(S.d x:Int)) hpn]
  have eD:(fun y=>if y=p.name then(S.d p.name:Int)+1 else(S.d y:Int))=fun x=>(((Ce S p.name dd).d x:Nat):Int):=by
   funext y
   unfold Ce
   by_cases h:y=p.name
   ·subst h;simp
   ·simp [h]
  change Q .non (upd H3 A.D (.dK (bZ (fun y=>if y=p.name then(S.d p.name:Int)+1 else(S.d y:Int)) ps)))
  rw [eD]
  have m4:Eb [A.D] H3 (upd H3 A.D (.dK (bZ (fun x=>(((Ce S p.name dd).d x:Nat):Int)) ps))):=fun b hb=>aK (by simpa using hb)
  have dE4:upd H3 A.D (.dK (bZ (fun x=>(((Ce S p.name dd).d x:Nat):Int)) ps)) A.D=some (.dK (bZ (fun x=>(((Ce S p.name dd).d x:Nat):Int)) ps)):=az
  generalize upd H3 A.D (.dK (bZ (fun x=>(((Ce S p.name dd).d x:Nat):Int)) ps))=H4 at m4 dE4 ⊢
  have mv:∀b,b≠A.D->b≠A.Kp->H4 b=H2 b:=fun b a1 a2=>by rw [m4 b (by simpa using a1),m3 b (by simpa using a2)]
  have fe4:H4 A.f=some (.ins t.bY dx fs):=by rw [m4 A.f (by simpa using vW fe3 dE3 (by intro z;cases z))];exact fe3
  refine k H4 (fun b hb=>?_) ⟨⟨dx,fs,fe4,h2⟩,?_,?_,?_,?_,dE4,?_,?_,W.nod⟩
  ·unfold mF.cells at hb
   simp only [List.mem_cons,List.mem_append,not_or] at hb
   rw [mv b hb.2.2.2.1 hb.2.2.1,m2 b hb.2.2.2.2.2.1,m1 b (by simpa using hb.2.1)]
  ·rw [mv A.E nED nEK,m2 A.E nEE,eE1]
  ·intro l hl
   have a2:=l2 l hl
   rw [mv _ (vW a2 dE (by intro z;cases z)) (vW a2 kE (by intro z;cases z))]
   exact a2
  ·rw [mv A.G nGD nGK,m2 A.G nGE,gG]
  ·rw [m4 A.Kp (by simpa using nKD)]
   exact kE3
  ·rw [mv A.Rw (Ne.symm nDR) (Ne.symm nKR),m2 A.Rw nRE,m1 A.Rw (by simpa using Ne.symm nGR)]
   exact W.rows
  ·intro p' hp' h0
   have hm:A.ra p'.name∈(jx ps).map (fun p=>A.ra p.name):=List.mem_map.mpr ⟨p',List.mem_filter.mpr ⟨hp',by simp [h0]⟩,rfl⟩
   rw [mv _ (fun z=>nD2 (by rw [<-z];exact hm)) (fun z=>nK2 (by rw [<-z];exact hm)),m2 _ (fun z=>nER1 _ z _ hm rfl),m1 _ (by simpa using fun z=>nG2 (by rw [<-z];exact hm))]
   exact W.rlst p' hp' h0
theorem Rn (T:Txt w K mg t) (i:Nat):MethAt P w K mg base Cq 1 (cls t i) "start" (uK K t i):=match i with
 | 0=>⟨_,_,_,T.iM.c,(T.bJ.me T.iM.me.2.2.2.2.2.1),T.bJ.b,(dw T).imp fun _ _ _ _ h=>⟨_,by omega,h⟩⟩
 | 1=>⟨_,_,_,T.iy.c,(T.bJ.me T.iy.me.2.2.2.2.2.1),T.bJ.b,(dw T).imp fun _ _ _ _ h=>⟨_,by omega,h⟩⟩
 | 2=>⟨_,_,_,T.iH.c,(T.bJ.me T.iH.me.2.2.2.2.2.1),T.bJ.b,(dw T).imp fun _ _ _ _ h=>⟨_,by omega,h⟩⟩
 | 3=>⟨_,_,_,T.iI.c,(T.bJ.me T.iI.me.2.2.2.2.2.1),T.bJ.b,(dw T).imp fun _ _ _ _ h=>⟨_,by omega,h⟩⟩
 | 4=>⟨_,_,_,T.iJ.c,(T.bJ.me T.iJ.me.2.2.2.2.2.1),T.bJ.b,(dw T).imp fun _ _ _ _ h=>⟨_,by omega,h⟩⟩
 | 5=>⟨_,_,_,T.iD.c,(T.nQ.me T.iD.me.2.2.2.2.2.1),T.nQ.b,DR T⟩
 | 6=>⟨_,_,_,T.lO.c,(T.bJ.me T.lO.me.2.2.2.2.2.1),T.bJ.b,(dw T).imp fun _ _ _ _ h=>⟨_,by omega,h⟩⟩
 | 7=>⟨_,_,_,T.iz.c,(T.bJ.me T.iz.me.2.2.2.2.2.1),T.bJ.b,(dw T).imp fun _ _ _ _ h=>⟨_,by omega,h⟩⟩
 | 8=>⟨_,_,_,T.fH.c,(T.bJ.me T.fH.me.2.2.2.2.2.1),T.bJ.b,(dw T).imp fun _ _ _ _ h=>⟨_,by omega,h⟩⟩
 | 9=>⟨_,_,_,T.dY.c,(T.bJ.me T.dY.me.2.2.2.2.2.1),T.bJ.b,(dw T).imp fun _ _ _ _ h=>⟨_,by omega,h⟩⟩
 | n+10=>⟨_,_,_,T.fP.c,(T.bJ.me T.fP.me.2.2.2.2.2.1),T.bJ.b,(dw T).imp fun _ _ _ _ h=>⟨_,by omega,h⟩⟩
theorem Sq:∀i,i <11->cX i= "give" ->i=0:=by decide +kernel
theorem Nk (p:PD) (h:jL p):Hr p.kind (p.nums.map V.int)=.int (GC p):=by
 unfold Hr GC
 by_cases h5:p.kind=5
 ·rw [if_pos h5,if_pos h5]
  have hl:p.nums.length=1:=by rw [h.2.1,h5];rfl
  match p.nums,hl with
  | [m],_=>rfl
 ·rw [if_neg h5,if_neg h5]
noncomputable def Im (ls:List aG) (x:Str):List Int:=((ls.find? fun l=>decide (l.name=x)).map (·.first)).getD []
theorem xX {ls:List aG} (nd:(ls.map (·.name)).Nodup) {l:aG} (hl:l∈ls):Im ls l.name=l.first:=by
 unfold Im
 rw [find_name nd hl]
 rfl
noncomputable def fD (RW:List (Str×Addr×List Int)):List (Key×V):=RW.map fun q=>((Sum.inr q.1:Key),V.ref q.2.1)
noncomputable def vy (RW:List (Str×Addr×List Int)) (x:Str):List Int:=((RW.find? fun q=>decide (q.1=x)).map (·.2.2)).getD []
structure oU (H:Hp) (rw:Addr) (RW:List (Str×Addr×List Int)):Prop where
 dict:H rw=some (.dK (fD RW))
 lists:∀q∈RW,H q.2.1=some (.lst (q.2.2.map V.int))
 nd:(RW.map (·.1)).Nodup
 len:∀q∈RW,q.2.2.length<=300
theorem oU.same {H H':Hp} {rw:Addr} {RW:List (Str×Addr×List Int)} (h:oU H rw RW) (s:aJ H H'):oU H' rw RW:=⟨s _ _ h.dict,fun q hq=>s _ _ (h.lists q hq),h.nd,h.len⟩
theorem oY (RW:List (Str×Addr×List Int)):(fD RW).map (·.1)=(RW.map (·.1)).map (fun x=>(Sum.inr x:Key)):=by unfold fD;rw [List.map_map,List.map_map];rfl
theorem oU.get {H:Hp} {rw:Addr} {RW:List (Str×Addr×List Int)} (h:oU H rw RW) (x:Str):(bT (fD RW) (Sum.inr x)=none/\vy RW x=[])∨∃a,bT (fD RW) (Sum.inr x)=some (.ref a)/\H a=some (.lst ((vy RW x).map V.int))/\(vy RW x).length<=300:=by
 by_cases hx:x∈RW.map (·.1)
 ·obtain⟨q,hq,rfl⟩:=List.mem_map.mp hx
  have e:vy RW q.1=q.2.2:=by unfold vy;rw [find_name (f:=fun q:Str×Addr×List Int=>q.1) h.nd hq];rfl
  refine .inr ⟨q.2.1,gq (by rw [oY];exact eQ h.nd) (List.mem_map.mpr ⟨q,hq,rfl⟩),?_,?_⟩
  ·rw [e];exact h.lists q hq
  ·rw [e];exact h.len q hq
 ·refine .inl ⟨fJ (by rw [oY];intro z;obtain⟨b,hb,e⟩:=List.mem_map.mp z;cases e;exact hx hb),?_⟩
  unfold vy
  rw [List.find?_eq_none.mpr fun q hq=>by simpa using fun e=>hx (List.mem_map.mpr ⟨q,hq,e⟩)]
  rfl
noncomputable def jf (ls:List aG) (ps:List PD) (RW:List (Str×Addr×List Int)):FS:=⟨Im ls,fun _=>0,f9 ps,fun _=>0,vy RW⟩
noncomputable def Jg (RW:List (Str×Addr×List Int)) (RL:List (PD×Addr)):List (Addr×HO):=RL.map fun q=>(q.2,HO.lst ((vy RW q.1.name).map V.int))
theorem J5 {ps:List PD} (h:∀p∈ps,jL p):(ps.filter fun p=>decide (cX p.kind= "give"))=jx ps:=by
 unfold jx
 refine List.filter_congr fun p hp=>?_
 by_cases h0:p.kind=0
 ·rw [h0];rfl
 ·have:¬cX p.kind= "give" :=fun z=>h0 (Sq _ (h p hp).1 z)
  simp [h0,this]
noncomputable def oV {α:Type} (f:α->Str) (L:List (α×Addr)) (x:Str):Addr:=((L.find? fun q=>decide (f q.1=x)).map (·.2)).getD 0
theorem jN {α:Type} {f:α->Str} {L:List (α×Addr)} (nd:(L.map fun q=>f q.1).Nodup) {q:α×Addr} (hq:q∈L):oV f L (f q.1)=q.2:=by
 unfold oV
 rw [find_name (f:=fun q:α×Addr=>f q.1) nd hq]
 rfl
theorem Ep {α:Type} {f:α->Str} {L:List (α×Addr)} (nd:(L.map fun q=>f q.1).Nodup):(L.map (·.1)).map (fun a=>oV f L (f a))=L.map (·.2):=by
 rw [List.map_map]
 exact List.map_congr_left fun q hq=>jN nd hq
inductive qp (K:PySem.W.Frag) (t:ji) (vs:List V) (H:Hp) (Q:VK):Prop where
 | mk:∀(H0:Hp) (f dx n rw:Addr) (ls:List aG) (ps:List PD) (RW:List (Str×Addr×List Int)),vs=[.ref f,.ref n,.ref rw]->H f=some (.ins t.bY dx [])->aJ H0 H->H0 f=none->gJ K t H0 n ls ps->oU H0 rw RW->(∀H' A,A.f=f->A.n=n->lX f H H'->dD K t H' A ls ps (jf ls ps RW)->(∀a∈A.cells ls ps,H a=none)->Q .non H')->qp K t vs H Q
@[irreducible] noncomputable def gw (K:PySem.W.Frag) (t:ji):Sp:=fun vs H Q _=>qp K t vs H Q
theorem yP (T:Txt w K mg t):FO P w K mg base 4 t.mG ["self", "net", "rows"] (gw K t):=by
 have sc:=T.ju.sc ["self", "net", "rows", "lane", "name", "door"]
 refine T.ju.F.ok sc (fun vs H Q E h=>?_) (fun cdv A outer s H vs Q E hr h=>?_)
 ·unfold gw at h
  obtain⟨H0,f,dx,n,rw,ls,ps,RW,rfl,_⟩:=h
  rfl
 ·unfold gw at h
  obtain⟨H0,f,dx,n,rw,ls,ps,RW,rfl,hf,s0,nf0,N,hrw,k⟩:=h
  refine⟨_,(aq (ik (pv 0) (pv 1) rfl)
   (aq (ik (pv 0) fM rfl)
   (aq (ik (pv 0) fM rfl)
   (aq (du PassesOwn.never rfl (bN (Oz (pv 1) T.bj T.bj.me.2.1 (pZ T) T.iW hr)) (gN sc 3)
    (aq (gh hr.u1 (bh (pv 0) rfl) (pv 3) (wD (pv 1) T.bj T.bj.me.2.2.2.2.2.2.2.2.1 (Ax T) T.pG hr (aa (pv 3) ak aj)) rfl)
    (aA (gh hr.u1 (bh (pv 0) rfl) (pv 3) au rfl))))
   (aq (ik (pv 0) fM rfl)
   (aq (ik (pv 0) fM rfl)
   (aq (du PassesOwn.never rfl (bN (Oz (pv 1) T.bj T.bj.me.2.2.1 (il T) T.eU hr)) (gN sc 4)
    (aq (gh hr.u1 (bh (pv 0) rfl) (pv 4) (Eu (CX:=Cq) (k:=1) (E:=E0) (wD (pv 1) T.bj T.bj.me.2.2.2.2.2.2.2.2.2.1 (oM T) T.jo hr (aa (pv 4) ak aj)) (hr.mono (by decide)) ir) rfl)
    (aA (gh hr.u1 (bh (pv 0) rfl) (pv 4) au rfl))))
   (aq (ik (pv 0) fM rfl)
   (aA (du PassesOwn.never rfl (bN (Oz (pv 1) T.bj T.bj.me.2.2.2.2.1 (nj T) T.jA hr)) (gN sc 5)
    (aA (gh hr.u1 (bh (pv 0) rfl) (pv 5) (fB wX (by rfl) T.uI qu (aa (Qa hr.u1 (pv 2) (pv 5) (bz ak) ⟨rfl,rfl,rfl,rfl⟩) ak aY)) rfl)))))))))))),?_⟩
  obtain⟨dxn,fsn,R,F,Pd,Gn,Tk,FL,PL,W⟩:=id N
  have hl:sizeLine=16777216:=sizeLine_eq
  have l24:=W.fit.l24
  have p16:=W.fit.p16
  have sk:∀{Hk:Hp},lX f H Hk->aJ H0 Hk:=fun b x o e=>b x o (aD e nf0) (s0 x o e)
  have T0:=Tr.start hf
  refine⟨_,rfl,_,rfl,f,_,dx,[],rfl,hf,T.aO.c,T.aO.na.1,by show 0 <1000;decide,?_⟩
  have T1:=T0.put (L1:=[]) (L2:=[]) (o':=.ins t.bY dx (aH "net" (.ref n) []))
  generalize upd H f (.ins t.bY dx (aH "net" (.ref n) []))=H1 at T1 ⊢
  refine fun E nE=>?_
  have T2:=T1.new (o:=.dK []) nE
  generalize upd H1 E (.dK [])=H2 at T2 ⊢
  refine⟨_,rfl,f,_,dx,_,rfl,T2.all (f,_) (.head _),T.aO.c,T.aO.na.2.1,Nat.lt_of_le_of_lt (gW (Nat.zero_le 0)) (by decide),?_⟩
  have T3:=T2.put (L1:=[]) (o':=.ins t.bY dx (aH "ever" (.ref E) (aH "net" (.ref n) [])))
  generalize upd H2 f (.ins t.bY dx (aH "ever" (.ref E) (aH "net" (.ref n) [])))=H3 at T3 ⊢
  refine fun G nG=>?_
  have T4:=T3.new (o:=.dK []) nG
  generalize upd H3 G (.dK [])=H4 at T4 ⊢
  refine⟨_,rfl,f,_,dx,_,rfl,T4.all (f,_) (.head _),T.aO.c,T.aO.na.2.2.1,Nat.lt_of_le_of_lt (gW (gW (Nat.zero_le 0))) (by decide),?_⟩
  have T5:=T4.put (L1:=[]) (o':=.ins t.bY dx (aH "gone" (.ref G) (aH "ever" (.ref E) (aH "net" (.ref n) []))))
  generalize upd H4 f (.ins t.bY dx (aH "gone" (.ref G) (aH "ever" (.ref E) (aH "net" (.ref n) []))))=H5 at T5 ⊢
  have W5:=W.same (sk T5.but)
  refine⟨_,rfl,n,dxn,fsn,rfl,W5.obj,W5.fl.no _ (by decide +kernel),n,ls,ps,rfl,W5.s,fun l nl=>?_⟩
  have T6:Tr H f ((f,.ins t.bY dx (aH "gone" (.ref G) (aH "ever" (.ref E) (aH "net" (.ref n) [])))):: (E,.dK (bD [])):: (G,.dK (cY (fun _=>0) [])):: (l,.lst (ls.map fun x:aG=>V.str x.name)):: j4 []) (upd H5 l (.lst (ls.map fun x:aG=>V.str x.name))):=T5.new nl
  generalize upd H5 l (.lst (ls.map fun x:aG=>V.str x.name))=H6 at T6 ⊢
  clear T0 T1 T2 T3 T4 T5 W5
  refine⟨l,rfl,⟨_,bI.of (T6.all (l,.lst (ls.map fun x:aG=>V.str x.name)) (by simp))⟩,cJ (K:=K) (a:=l) (xs:=ls.map fun x:aG=>V.str x.name) (fun j σ H'=>(∃v3,σ=[some (.ref f),some (.ref n),some (.ref rw),v3,none,none])/\∃EL:List (aG×Addr),EL.map (·.1)=ls.take j/\Tr H f ((f,.ins t.bY dx (aH "gone" (.ref G) (aH "ever" (.ref E) (aH "net" (.ref n) [])))):: (E,.dK (bD EL)):: (G,.dK (cY (fun _=>0) (ls.take j))):: (l,.lst (ls.map fun x:aG=>V.str x.name)):: j4 EL) H') ⟨⟨none,rfl⟩,[],rfl,T6⟩ (fun j σ H' _ ⟨_,_,_,T'⟩=>bI.of (T'.all (l,.lst (ls.map fun x:aG=>V.str x.name)) (by simp))) ?_ ?_⟩
  ·rintro j x σ H' hx ⟨⟨v3,rfl⟩,EL,eEL,T7⟩
   rw [List.getElem?_map] at hx
   obtain⟨ln,hlj,rfl⟩:=Option.map_eq_some_iff.mp hx
   have hm:=List.mem_of_getElem? hlj
   have hj:=(List.getElem?_eq_some_iff.mp hlj).1
   have nin:=mj W.fit.whole.nod hlj
   have vE:bT (bD EL) (Sum.inr ln.name)=none:=fJ (by rw [m9,eEL];intro z;obtain⟨b,hb,e⟩:=List.mem_map.mp z;cases e;exact nin hb)
   have vG:bT (cY (fun _=>0) (ls.take j)) (Sum.inr ln.name)=none:=fJ (by rw [Bu];intro z;obtain⟨b,hb,e⟩:=List.mem_map.mp z;cases e;exact nin hb)
   have tk:ls.take (j+1)=ls.take j ++ [ln]:=by rw [List.take_succ,hlj];rfl
   have lEL:EL.length<=24:=by have:=congrArg List.length eEL;rw [lM,List.length_take] at this;omega
   have W7:=W.same (sk T7.but)
   refine⟨_,rfl,n,dxn,fsn,rfl,W7.obj,W7.fl.no _ (by decide +kernel),_,rfl,n,ls,ps,ln.name,rfl,W7.s,.inl ⟨ln,hm,rfl,fun H8 le s8 nle ele=>?_⟩⟩
   have T8:Tr H f ((f,.ins t.bY dx (aH "gone" (.ref G) (aH "ever" (.ref E) (aH "net" (.ref n) [])))):: (E,.dK (bD EL)):: (G,.dK (cY (fun _=>0) (ls.take j))):: (l,.lst (ls.map fun x:aG=>V.str x.name)):: j4 (EL ++ [(ln,le)])) H8:=by
    unfold j4
    rw [List.map_append]
    exact T7.got s8 nle ele
   refine⟨_,rfl,f,_,dx,_,_,rfl,T8.all (f,_) (.head _),T.aO.c,T.aO.na.2.1,(by (repeat first | (rw [aC,if_pos rfl];done) | rw [aC,if_neg (by decide +kernel)])),_,rfl,E,_,rfl,ph.k (k:=Sum.inr ln.name) (T8.all (E,.dK (bD EL)) (by simp)) (by unfold bD;rw [lM];omega),?_⟩
   have e8:putK (bD EL) (Sum.inr ln.name) (.ref le)=bD (EL ++ [(ln,le)]):=by rw [iR _ vE];unfold bD;rw [List.map_append];rfl
   rw [e8]
   have T9:=T8.put (L1:=[_]) (o':=.dK (bD (EL ++ [(ln,le)])))
   generalize upd H8 E (.dK (bD (EL ++ [(ln,le)])))=H9 at T9 ⊢
   refine⟨_,rfl,f,_,dx,_,_,rfl,T9.all (f,_) (.head _),T.aO.c,T.aO.na.2.2.1,(by (repeat first | (rw [aC,if_pos rfl];done) | rw [aC,if_neg (by decide +kernel)])),_,rfl,G,_,rfl,ph.k (k:=Sum.inr ln.name) (T9.all (G,.dK (cY (fun _=>0) (ls.take j))) (by simp)) (by unfold cY;rw [lM,List.length_take];omega),?_⟩
   have e9:putK (cY (fun _=>0) (ls.take j)) (Sum.inr ln.name) (.int 0)=cY (fun _=>0) (ls.take (j+1)):=by rw [iR _ vG,tk];unfold cY;rw [List.map_append];rfl
   rw [e9]
   have TA:=T9.put (L1:=[_,_]) (o':=.dK (cY (fun _=>0) (ls.take (j+1))))
   exact⟨⟨_,rfl⟩,EL ++ [(ln,le)],by rw [List.map_append,eEL,tk];rfl,TA⟩
  rintro σ H7 ⟨⟨v3,rfl⟩,EL,eEL,T7⟩
  rw [lM,List.take_length] at eEL T7
  have T7:Tr H f ((f,.ins t.bY dx (aH "gone" (.ref G) (aH "ever" (.ref E) (aH "net" (.ref n) [])))):: (E,.dK (bD EL)):: (G,.dK (cY (fun _=>0) ls)):: j4 EL) H7:=T7.sub (.cons₂ _ (.cons₂ _ (.cons₂ _ (.cons _ (List.Sublist.refl _))))) ⟨_,.head _⟩
  clear T6
  refine fun Kp nKp=>?_
  have T8:Tr H f ((f,.ins t.bY dx (aH "gone" (.ref G) (aH "ever" (.ref E) (aH "net" (.ref n) [])))):: (E,.dK (bD EL)):: (G,.dK (cY (fun _=>0) ls)):: (Kp,.dK []):: j4 EL) (upd H7 Kp (.dK [])):=(T7.new nKp).perm (.cons _ (.cons _ (.cons _ (List.perm_append_singleton _ _))))
  generalize upd H7 Kp (.dK [])=H8 at T8 ⊢
  refine⟨_,rfl,f,_,dx,_,rfl,T8.all (f,_) (.head _),T.aO.c,T.aO.na.2.2.2.1,Nat.lt_of_le_of_lt (gW (gW (gW (Nat.zero_le 0)))) (by decide),?_⟩
  have T9:=T8.put (L1:=[]) (o':=.ins t.bY dx (aH "kept" (.ref Kp) (aH "gone" (.ref G) (aH "ever" (.ref E) (aH "net" (.ref n) [])))))
  generalize upd H8 f (.ins t.bY dx (aH "kept" (.ref Kp) (aH "gone" (.ref G) (aH "ever" (.ref E) (aH "net" (.ref n) [])))))=H9 at T9 ⊢
  refine fun D nD=>?_
  have TA:Tr H f ((f,.ins t.bY dx (aH "kept" (.ref Kp) (aH "gone" (.ref G) (aH "ever" (.ref E) (aH "net" (.ref n) []))))):: (E,.dK (bD EL)):: (G,.dK (cY (fun _=>0) ls)):: (Kp,.dK []):: (D,.dK []):: j4 EL) (upd H9 D (.dK [])):=(T9.new nD).perm (.cons _ (.cons _ (.cons _ (.cons _ (List.perm_append_singleton _ _)))))
  generalize upd H9 D (.dK [])=HA at TA ⊢
  refine⟨_,rfl,f,_,dx,_,rfl,TA.all (f,_) (.head _),T.aO.c,T.aO.na.2.2.2.2.1,Nat.lt_of_le_of_lt (gW (gW (gW (gW (Nat.zero_le 0))))) (by decide),?_⟩
  have TB:=TA.put (L1:=[]) (o':=.ins t.bY dx (aH "done" (.ref D) (aH "kept" (.ref Kp) (aH "gone" (.ref G) (aH "ever" (.ref E) (aH "net" (.ref n) []))))))
  generalize upd HA f (.ins t.bY dx (aH "done" (.ref D) (aH "kept" (.ref Kp) (aH "gone" (.ref G) (aH "ever" (.ref E) (aH "net" (.ref n) []))))))=HB at TB ⊢
  have WB:=W.same (sk TB.but)
  refine⟨_,rfl,n,dxn,fsn,rfl,WB.obj,WB.fl.no _ (by decide +kernel),n,ls,ps,rfl,WB.s,fun m nm=>?_⟩
  have TC:Tr H f ((f,.ins t.bY dx (aH "done" (.ref D) (aH "kept" (.ref Kp) (aH "gone" (.ref G) (aH "ever" (.ref E) (aH "net" (.ref n) [])))))):: (E,.dK (bD EL)):: (G,.dK (cY (fun _=>0) ls)):: (Kp,.dK (bZ (f9 ps) [])):: (D,.dK (bZ (fun _=>0) [])):: (m,.lst (ps.map fun x:PD=>V.str x.name)):: j4 EL) (upd HB m (.lst (ps.map fun x:PD=>V.str x.name))):=(TB.new nm).perm (.cons _ (.cons _ (.cons _ (.cons _ (.cons _ (List.perm_append_singleton _ _))))))
  generalize upd HB m (.lst (ps.map fun x:PD=>V.str x.name))=HC at TC ⊢
  clear T7 T8 T9 TA TB WB
  refine⟨m,rfl,⟨_,bI.of (TC.all (m,.lst (ps.map fun x:PD=>V.str x.name)) (by simp))⟩,cJ (K:=K) (a:=m) (xs:=ps.map fun x:PD=>V.str x.name) (fun j σ H'=>(∃v4,σ=[some (.ref f),some (.ref n),some (.ref rw),v3,v4,none])/\Tr H f ((f,.ins t.bY dx (aH "done" (.ref D) (aH "kept" (.ref Kp) (aH "gone" (.ref G) (aH "ever" (.ref E) (aH "net" (.ref n) [])))))):: (E,.dK (bD EL)):: (G,.dK (cY (fun _=>0) ls)):: (Kp,.dK (bZ (f9 ps) (ps.take j))):: (D,.dK (bZ (fun _=>0) (ps.take j))):: (m,.lst (ps.map fun x:PD=>V.str x.name)):: j4 EL) H') ⟨⟨none,rfl⟩,TC⟩ (fun j σ H' _ ⟨_,T'⟩=>bI.of (T'.all (m,.lst (ps.map fun x:PD=>V.str x.name)) (by simp))) ?_ ?_⟩
  ·rintro j x σ H' hx ⟨⟨v4,rfl⟩,T7⟩
   rw [List.getElem?_map] at hx
   obtain⟨p,hpj,rfl⟩:=Option.map_eq_some_iff.mp hx
   have hm:=List.mem_of_getElem? hpj
   have hj:=(List.getElem?_eq_some_iff.mp hpj).1
   have nin:=mj W.fit.pnd hpj
   have vK:∀k0:Str->Int,bT (bZ k0 (ps.take j)) (Sum.inr p.name)=none:=fun k0=>fJ (by rw [Bo];intro z;obtain⟨b,hb,e⟩:=List.mem_map.mp z;cases e;exact nin hb)
   have tk:ps.take (j+1)=ps.take j ++ [p]:=by rw [List.take_succ,hpj];rfl
   have so:f9 ps p.name=GC p:=by unfold f9 GC;rw [find_name W.fit.pnd hm];rfl
   have W7:=W.same (sk T7.but)
   refine⟨_,rfl,n,dxn,fsn,rfl,W7.obj,W7.fl.no _ (by decide +kernel),_,rfl,n,ls,ps,p.name,rfl,W7.s,.inl ⟨p,hm,rfl,fun H8 q s8 P8=>?_⟩⟩
   have T8:=T7.same s8
   obtain⟨dxp,tn,ti,to,p1,p2,p3,p4⟩:=id P8.ex
   refine⟨q,cls t p.kind,dxp,_,uK K t p.kind,rfl,p1,vf _ _ _ _ (by decide +kernel) (by decide +kernel) (by decide +kernel) (by decide +kernel),Rn T p.kind,q,_,_,_,_,rfl,P8,by rw [lM];exact(W.fit.pok p hm).2.1,?_⟩
   rw [Nk p (W.fit.pok p hm),<-so]
   refine⟨_,rfl,f,_,dx,_,_,rfl,T8.all (f,_) (.head _),T.aO.c,T.aO.na.2.2.2.1,(by (repeat first | (rw [aC,if_pos rfl];done) | rw [aC,if_neg (by decide +kernel)])),_,rfl,Kp,_,rfl,ph.k (k:=Sum.inr p.name) (T8.all (Kp,.dK (bZ (f9 ps) (ps.take j))) (by simp)) (by unfold bZ;rw [lM,List.length_take];omega),?_⟩
   have e8:∀k0:Str->Int,putK (bZ k0 (ps.take j)) (Sum.inr p.name) (.int (k0 p.name))=bZ k0 (ps.take (j+1)):=fun k0=>by rw [iR _ (vK k0),tk];unfold bZ;rw [List.map_append];rfl
   rw [e8]
   have T9:=T8.put (L1:=[_,_,_]) (o':=.dK (bZ (f9 ps) (ps.take (j+1))))
   generalize upd H8 Kp (.dK (bZ (f9 ps) (ps.take (j+1))))=H9 at T9 ⊢
   refine⟨_,rfl,f,_,dx,_,_,rfl,T9.all (f,_) (.head _),T.aO.c,T.aO.na.2.2.2.2.1,(by (repeat first | (rw [aC,if_pos rfl];done) | rw [aC,if_neg (by decide +kernel)])),_,rfl,D,_,rfl,ph.k (k:=Sum.inr p.name) (T9.all (D,.dK (bZ (fun _=>0) (ps.take j))) (by simp)) (by unfold bZ;rw [lM,List.length_take];omega),?_⟩
   rw [e8 fun _=>0]
   exact⟨⟨_,rfl⟩,T9.put (L1:=[_,_,_,_])⟩
  rintro σ HD ⟨⟨v4,rfl⟩,TD⟩
  rw [lM,List.take_length] at TD
  have TD:Tr H f ((f,.ins t.bY dx (aH "done" (.ref D) (aH "kept" (.ref Kp) (aH "gone" (.ref G) (aH "ever" (.ref E) (aH "net" (.ref n) [])))))):: (E,.dK (bD EL)):: (G,.dK (cY (fun _=>0) ls)):: (Kp,.dK (bZ (f9 ps) ps)):: (D,.dK (bZ (fun _=>0) ps)):: j4 EL) HD:=TD.sub (.cons₂ _ (.cons₂ _ (.cons₂ _ (.cons₂ _ (.cons₂ _ (.cons _ (List.Sublist.refl _))))))) ⟨_,.head _⟩
  clear TC
  refine fun Rw nRw=>?_
  have TE:Tr H f ((f,.ins t.bY dx (aH "done" (.ref D) (aH "kept" (.ref Kp) (aH "gone" (.ref G) (aH "ever" (.ref E) (aH "net" (.ref n) [])))))):: (E,.dK (bD EL)):: (G,.dK (cY (fun _=>0) ls)):: (Kp,.dK (bZ (f9 ps) ps)):: (D,.dK (bZ (fun _=>0) ps)):: (Rw,.dK []):: j4 EL) (upd HD Rw (.dK [])):=(TD.new nRw).perm (.cons _ (.cons _ (.cons _ (.cons _ (.cons _ (List.perm_append_singleton _ _))))))
  generalize upd HD Rw (.dK [])=HE at TE ⊢
  refine⟨_,rfl,f,_,dx,_,rfl,TE.all (f,_) (.head _),T.aO.c,T.aO.na.2.2.2.2.2.1,Nat.lt_of_le_of_lt (gW (gW (gW (gW (gW (Nat.zero_le 0)))))) (by decide),?_⟩
  have TF:=TE.put (L1:=[]) (o':=.ins t.bY dx (aH "rows" (.ref Rw) (aH "done" (.ref D) (aH "kept" (.ref Kp) (aH "gone" (.ref G) (aH "ever" (.ref E) (aH "net" (.ref n) [])))))))
  generalize upd HE f (.ins t.bY dx (aH "rows" (.ref Rw) (aH "done" (.ref D) (aH "kept" (.ref Kp) (aH "gone" (.ref G) (aH "ever" (.ref E) (aH "net" (.ref n) [])))))))=HF at TF ⊢
  have WF:=W.same (sk TF.but)
  refine⟨_,rfl,n,dxn,fsn,rfl,WF.obj,WF.fl.no _ (by decide +kernel),n,ls,ps,rfl,WF.s,fun d nd=>?_⟩
  have TG:Tr H f ((f,.ins t.bY dx (aH "rows" (.ref Rw) (aH "done" (.ref D) (aH "kept" (.ref Kp) (aH "gone" (.ref G) (aH "ever" (.ref E) (aH "net" (.ref n) []))))))):: (E,.dK (bD EL)):: (G,.dK (cY (fun _=>0) ls)):: (Kp,.dK (bZ (f9 ps) ps)):: (D,.dK (bZ (fun _=>0) ps)):: (Rw,.dK []):: (d,.lst (dH ps "give")):: j4 EL) (upd HF d (.lst (dH ps "give"))):=(TF.new nd).perm (.cons _ (.cons _ (.cons _ (.cons _ (.cons _ (.cons _ (List.perm_append_singleton _ _)))))))
  generalize upd HF d (.lst (dH ps "give"))=HG at TG ⊢
  clear TD TE TF WF
  have lgv:=xj ps "give"
  have ndg:((ps.filter fun p=>decide (cX p.kind= "give")).map (·.name)).Nodup:=W.fit.pnd.sublist ((List.filter_sublist).map _)
  rw [J5 W.fit.pok] at ndg
  have ePg:dH ps "give" =(jx ps).map fun p=>V.str p.name:=by unfold dH;rw [J5 W.fit.pok]
  rw [ePg] at TG
  have lgP:(jx ps).length<=16:=by have:=List.length_filter_le (fun p:PD=>decide (p.kind=0)) ps;unfold jx;omega
  have TG:Tr H f ((f,.ins t.bY dx (aH "rows" (.ref Rw) (aH "done" (.ref D) (aH "kept" (.ref Kp) (aH "gone" (.ref G) (aH "ever" (.ref E) (aH "net" (.ref n) []))))))):: (E,.dK (bD EL)):: (G,.dK (cY (fun _=>0) ls)):: (Kp,.dK (bZ (f9 ps) ps)):: (D,.dK (bZ (fun _=>0) ps)):: (Rw,.dK []):: (d,.lst ((jx ps).map fun p=>V.str p.name)):: (j4 EL ++ Jg RW [])) HG:=by
   unfold Jg
   rw [List.map_nil,List.append_nil]
   exact TG
  refine⟨d,rfl,⟨_,bI.of (TG.all (d,.lst ((jx ps).map fun p=>V.str p.name)) (by simp))⟩,cJ (K:=K) (a:=d) (xs:=(jx ps).map fun p=>V.str p.name) (fun j σ H'=>(∃v5,σ=[some (.ref f),some (.ref n),some (.ref rw),v3,v4,v5])/\∃RL:List (PD×Addr),RL.map (·.1)=(jx ps).take j/\Tr H f ((f,.ins t.bY dx (aH "rows" (.ref Rw) (aH "done" (.ref D) (aH "kept" (.ref Kp) (aH "gone" (.ref G) (aH "ever" (.ref E) (aH "net" (.ref n) []))))))):: (E,.dK (bD EL)):: (G,.dK (cY (fun _=>0) ls)):: (Kp,.dK (bZ (f9 ps) ps)):: (D,.dK (bZ (fun _=>0) ps)):: (Rw,.dK (RL.map fun q=>((Sum.inr q.1.name:Key),V.ref q.2))):: (d,.lst ((jx ps).map fun p=>V.str p.name)):: (j4 EL ++ Jg RW RL)) H') ⟨⟨none,rfl⟩,[],rfl,TG⟩ (fun j σ H' _ ⟨_,_,_,T7⟩=>bI.of (T7.all (d,.lst ((jx ps).map fun p=>V.str p.name)) (by simp))) ?_ ?_⟩
  ·rintro j x σ H' hx ⟨⟨v5,rfl⟩,RL,eRL,T7⟩
   rw [List.getElem?_map] at hx
   obtain⟨p,hpj,rfl⟩:=Option.map_eq_some_iff.mp hx
   have nin:=mj ndg hpj
   have tk:(jx ps).take (j+1)=(jx ps).take j ++ [p]:=by rw [List.take_succ,hpj];rfl
   have vR:bT (RL.map fun q=>((Sum.inr q.1.name:Key),V.ref q.2)) (Sum.inr p.name)=none:=fJ (by
    rw [List.map_map]
    intro z
    obtain⟨q,hq,e⟩:=List.mem_map.mp z
    have hm:q.1∈RL.map (·.1):=List.mem_map.mpr ⟨q,hq,rfl⟩
    rw [eRL] at hm
    exact nin (List.mem_map.mpr ⟨q.1,hm,by injection e⟩))
   have lRL:RL.length<=16:=by
    have:=congrArg List.length eRL
    rw [lM,List.length_take] at this
    omega
   have rw7:=hrw.same (sk T7.but)
   refine⟨_,rfl,rw,rfl,.inl ⟨_,.inl rw7.dict⟩,_,rfl,iw,fun u nu=>?_⟩
   have tu:=aB (o:=.lst []) nu
   have xu:upd H' u (.lst []) u=some (.lst []):=az
   generalize upd H' u (.lst [])=H8 at tu xu ⊢
   have rw8:=rw7.same tu
   refine⟨_,d9.k (k:=Sum.inr p.name) rw8.dict,?_⟩
   obtain⟨y,ey,hy⟩:∃y:Addr,(bT (fD RW) (Sum.inr p.name)).getD (V.ref u)=.ref y/\H8 y=some (.lst ((vy RW p.name).map V.int)):=by
    rcases rw8.get p.name with ⟨e1,e2⟩ | ⟨a,e1,e2,_⟩
    ·rw [e1,e2]
     exact⟨u,rfl,xu⟩
    ·rw [e1]
     exact⟨a,rfl,e2⟩
   refine⟨y,(vy RW p.name).map V.int,by rw [ey],.inl (bI.of hy),fun r nr=>?_⟩
   have T9:Tr H f ((f,.ins t.bY dx (aH "rows" (.ref Rw) (aH "done" (.ref D) (aH "kept" (.ref Kp) (aH "gone" (.ref G) (aH "ever" (.ref E) (aH "net" (.ref n) []))))))):: (E,.dK (bD EL)):: (G,.dK (cY (fun _=>0) ls)):: (Kp,.dK (bZ (f9 ps) ps)):: (D,.dK (bZ (fun _=>0) ps)):: (Rw,.dK (RL.map fun q=>((Sum.inr q.1.name:Key),V.ref q.2))):: (d,.lst ((jx ps).map fun p=>V.str p.name)):: (j4 EL ++ Jg RW (RL ++ [(p,r)]))) (upd H8 r (.lst ((vy RW p.name).map V.int))):=by
    unfold Jg
    rw [List.map_append,<-List.append_assoc]
    exact(T7.same tu).new nr
   generalize upd H8 r (.lst ((vy RW p.name).map V.int))=H9 at T9 ⊢
   refine⟨_,rfl,f,_,dx,_,_,rfl,T9.all (f,_) (.head _),T.aO.c,T.aO.na.2.2.2.2.2.1,(by (repeat first | (rw [aC,if_pos rfl];done) | rw [aC,if_neg (by decide +kernel)])),_,rfl,Rw,_,rfl,ph.k (k:=Sum.inr p.name) (T9.all (Rw,.dK (RL.map fun q=>((Sum.inr q.1.name:Key),V.ref q.2))) (by simp)) (by rw [lM];omega),?_⟩
   rw [iR _ vR]
   refine⟨⟨_,rfl⟩,RL ++ [(p,r)],by rw [List.map_append,eRL,tk];rfl,?_⟩
   rw [List.map_append]
   exact T9.put (L1:=[_,_,_,_,_])
  rintro σ HH ⟨⟨v5,rfl⟩,RL,eRL,TH⟩
  rw [lM,List.take_length] at eRL
  have eo:=TH.all (f,.ins t.bY dx (aH "rows" (.ref Rw) (aH "done" (.ref D) (aH "kept" (.ref Kp) (aH "gone" (.ref G) (aH "ever" (.ref E) (aH "net" (.ref n) []))))))) (.head _)
  have nod:=TH.nod
  have fre:=TH.fre
  have nE:(EL.map fun q=>q.1.name).Nodup:=by
   have:(EL.map (·.1)).map (·.name)=EL.map fun q=>q.1.name:=by rw [List.map_map];rfl
   rw [<-this,eEL]
   exact W.fit.whole.nod
  have nR:(RL.map fun q=>q.1.name).Nodup:=by
   have:(RL.map (·.1)).map (·.name)=RL.map fun q=>q.1.name:=by rw [List.map_map];rfl
   rw [<-this,eRL]
   exact ndg
  let A:mF:=⟨f,n,E,G,Kp,D,Rw,oV (·.name) EL,oV (·.name) RL⟩
  have mE:ls.map (fun l=>A.ea l.name)=EL.map (·.2):=by rw [<-eEL];exact Ep nE
  have mR:(jx ps).map (fun p=>A.ra p.name)=RL.map (·.2):=by rw [<-eRL];exact Ep nR
  have eC:A.cells ls ps=E:: G:: Kp:: D:: Rw:: (EL.map (·.2) ++ RL.map (·.2)):=by unfold mF.cells;rw [mE,mR]
  have e2:(j4 EL ++ Jg RW RL).map Prod.fst=EL.map (·.2) ++ RL.map (·.2):=by unfold j4 Jg;rw [List.map_append,List.map_map,List.map_map];rfl
  refine k HH A rfl rfl TH.but ⟨⟨dx,_,eo,⟨?_,?_⟩⟩,?_,fun l hl=>?_,TH.all (G,.dK (cY (fun _=>0) ls)) (by simp),TH.all (Kp,.dK (bZ (f9 ps) ps)) (by simp),TH.all (D,.dK (bZ (fun _=>0) ps)) (by simp),?_,fun p hp h0=>?_,?_⟩ ?_
  ·intro q hq
   simp only [List.mem_cons,List.not_mem_nil,or_false] at hq
   rcases hq with rfl | rfl | rfl | rfl | rfl | rfl <;> (dsimp only;(repeat first | (rw [aC,if_pos rfl];done) | rw [aC,if_neg (by decide +kernel)]))
  ·intro m hm
   have hne:∀m∈(["holds", "held_now", "gone_by", "row_left", "head", "heads", "lacking", "row_ended", "deed", "do"]:List Str),∀g∈(["rows", "done", "kept", "gone", "ever", "net"]:List Str),¬m=g:=by decide +kernel
   have h:=hne m hm
   rw [aC,if_neg (h _ (by simp)),aC,if_neg (h _ (by simp)),aC,if_neg (h _ (by simp)),aC,if_neg (h _ (by simp)),aC,if_neg (h _ (by simp)),aC,if_neg (h _ (by simp))]
   rfl
  ·have:Ni A.ea ls=bD EL:=by
    unfold Ni bD
    rw [<-eEL,List.map_map]
    refine List.map_congr_left fun q hq=>?_
    show((Sum.inr q.1.name:Key),V.ref (A.ea q.1.name))=_
    rw [show A.ea q.1.name=q.2 from jN nE hq]
   rw [this]
   exact TH.all (E,.dK (bD EL)) (by simp)
  ·rw [<-eEL] at hl
   obtain⟨q,hq,rfl⟩:=List.mem_map.mp hl
   rw [show A.ea q.1.name=q.2 from jN nE hq]
   have hm:q.1∈ls:=by rw [<-eEL];exact List.mem_map.mpr ⟨q,hq,rfl⟩
   show HH q.2=some (.lst ((Im ls q.1.name).map V.int))
   rw [xX W.fit.whole.nod hm]
   exact TH.all (q.2,.lst (q.1.first.map V.int)) (Ff (List.mem_append.mpr (.inl (List.mem_map.mpr ⟨q,hq,rfl⟩))))
  ·have:Ef A.ra ps=RL.map fun q=>((Sum.inr q.1.name:Key),V.ref q.2):=by
    unfold Ef
    rw [<-eRL,List.map_map]
    refine List.map_congr_left fun q hq=>?_
    show((Sum.inr q.1.name:Key),V.ref (A.ra q.1.name))=_
    rw [show A.ra q.1.name=q.2 from jN nR hq]
   rw [this]
   exact TH.all (Rw,.dK (RL.map fun q=>((Sum.inr q.1.name:Key),V.ref q.2))) (by simp)
  ·have hm:p∈RL.map (·.1):=by rw [eRL];exact List.mem_filter.mpr ⟨hp,by simp [h0]⟩
   obtain⟨q,hq,rfl⟩:=List.mem_map.mp hm
   rw [show A.ra q.1.name=q.2 from jN nR hq]
   exact TH.all (q.2,.lst ((vy RW q.1.name).map V.int)) (Ff (List.mem_append.mpr (.inr (List.mem_map.mpr ⟨q,hq,rfl⟩))))
  ·rw [eC,<-e2]
   exact nod.sublist (List.Sublist.cons _ (.cons₂ _ (.cons₂ _ (.cons₂ _ (.cons₂ _ (.cons₂ _ (.cons _ (List.Sublist.refl _))))))))
  ·intro a ha
   rw [eC,<-e2] at ha
   have h2:a∈(((E,.dK (bD EL)):: (G,.dK (cY (fun _=>0) ls)):: (Kp,.dK (bZ (f9 ps) ps)):: (D,.dK (bZ (fun _=>0) ps)):: (Rw,.dK (RL.map fun q=>((Sum.inr q.1.name:Key),V.ref q.2))):: (d,.lst ((jx ps).map fun p=>V.str p.name)):: (j4 EL ++ Jg RW RL):List (Addr×HO))).map Prod.fst:=
    (List.Sublist.cons₂ E (.cons₂ G (.cons₂ Kp (.cons₂ D (.cons₂ Rw (.cons d (List.Sublist.refl _))))))).subset ha
   have hne:a≠f:=fun z=>by
    rw [List.map_cons,List.nodup_cons] at nod
    exact nod.1 (by rw [<-z];exact h2)
   obtain⟨q,hq,hqa⟩:=List.mem_map.mp h2
   have:=fre q (List.mem_cons_of_mem _ hq)
   rw [hqa] at this
   exact this.resolve_left hne
theorem yJ {α:Type} {p:α->Bool} {xs:List α} {j:Nat} {x:α} (h:(xs.take j).find? p=none) (hx:xs[j]?=some x):if p x=true then xs.find? p=some x else(xs.take (j+1)).find? p=none:=by
 split
 ·rename_i e
  have hj:=(List.getElem?_eq_some_iff.mp hx)
  have e2:xs=xs.take j ++ x:: xs.drop (j+1):=by
   rw [<-hj.2,<-List.drop_eq_getElem_cons hj.1,List.take_append_drop]
  rw [e2,List.find?_append,h,List.find?_cons_of_pos e]
  rfl
 ·rename_i e
  rw [List.take_succ,hx,Option.toList_some,List.find?_append,h,List.find?_cons_of_neg e]
  rfl
noncomputable def roomF (ls:List aG) (x:Str):Int:=((ls.find? fun l=>decide (l.name=x)).map (·.room)).getD 0
theorem CN {ls:List aG} (nd:(ls.map (·.name)).Nodup) {l:aG} (hl:l∈ls):roomF ls l.name=l.room:=by
 unfold roomF
 rw [find_name nd hl]
 rfl
noncomputable def oN (ls:List aG) (S:FS) (q:Str×Int):Bool:=decide (roomF ls q.1<=((S.ev q.1).length:Int) - (S.g q.1:Int))
noncomputable def vH (ls:List aG) (S:FS) (dd:jV):V:=match dd.gv.find? (oN ls S) with
 | some q=>.str q.1
 | none=>.non
inductive rC (K:PySem.W.Frag) (t:ji) (vs:List V) (H:Hp) (Q:VK) (E:XK):Prop where
 | mk:∀(r:Addr) (n:Nat) (A:mF) (ls:List aG) (ps:List PD) (S:FS) (M:List Addr) (U:Addr) (dd:jV),vs=[.ref r,.ref U]->lJ t H r A.n A.f n->gJ K t H A.n ls ps->dD K t H A ls ps S->mV M H U dd->((∀q∈dd.gv,q.1∈ls.map (·.name)))->(∀H',aJ H H'->Q (vH ls S dd) H')->rC K t vs H Q E
theorem rJ (T:Txt w K mg t):FO P w K mg base 4 t.my ["self", "deed"] (rC K t):=by
 have sc:=T.jt.sc ["self", "deed", "lane", "value"]
 refine T.jt.F.ok sc ln (fun _ _ _ _ H vs Q E hr h=>?_)
 obtain⟨r,n,A,ls,ps,S,M,U,dd,rfl,hR,N,W,⟨La,Lg,rs,hU,_,hLg,hT,_,_⟩,hout,k⟩:=h
 refine⟨_,(aq (du PassesOwn.never rfl (bN (aR cZ (pv 1) au (fun _ _=>rfl))) (wH rfl (dg (gN sc 2) (dg (gN sc 3) qx)))
   (aA (bM (bc Xh (wD (bh (pv 0) rfl) T.aO T.aO.me.2.1 (vB T) T.mZ hr (aa (pv 2) ak aj)) (wD (bh (pv 0) rfl) T.bj T.bj.me.2.2.2.2.2.2.2.1 (Cg T) T.qF hr (aa (pv 2) ak aj)) (bH _))
    (aA (aN (pv 2)))
    bu)))
  (aA (aN uO))),?_⟩
 have hl:sizeLine=16777216:=sizeLine_eq
 have hlr:rs.length=dd.gv.length:=by have:=Paired.length hT;rw [lM] at this;exact this
 refine⟨_,rfl,U,_,1,_,rfl,rfl,fC.of hU,aM (j:=1) rfl,Lg,rfl,⟨_,bI.of hLg⟩,cJ (K:=K) (a:=Lg) (xs:=rs.map V.ref) (fun j σ H'=>aJ H H'/\(∃v2 v3,σ=[some (.ref r),some (.ref U),v2,v3])/\(dd.gv.take j).find? (oN ls S)=none) ⟨aJ.refl _,⟨_,_,rfl⟩,rfl⟩ (fun j σ H' _ h=>bI.of (h.1 _ _ hLg)) ?_ ?_⟩
 ·rintro j x σ H1 hx ⟨s1,⟨v2,v3,rfl⟩,hf⟩
  rw [List.getElem?_map] at hx
  obtain⟨u,hu,rfl⟩:=Option.map_eq_some_iff.mp hx
  obtain⟨vs2,z1,z2⟩:=qZ hT hu
  rw [List.getElem?_map] at z1
  obtain⟨w,ew,rfl⟩:=Option.map_eq_some_iff.mp z1
  have ft:=yJ hf ew
  obtain⟨dxn,fsn,R,F0,Pd,Gn,Tk,FL,PL,Wn⟩:=N.same s1
  have F:=Wn.fit
  obtain⟨dxr,fsr,R1⟩:=hR.same s1
  have W1:=W.same s1
  obtain⟨dx,fs,h1,h2⟩:=id W1.at'.ex
  obtain⟨l,hl',hln⟩:=List.mem_map.mp (hout w (List.mem_of_getElem? ew))
  have va:=lE (ea:=A.ea) F.whole.nod hl'
  have vg:=rM (g:=S.g) F.whole.nod hl'
  have fb:oN ls S w=decide (l.room<=((S.ev l.name).length:Int) - (S.g l.name:Int)):=by unfold oN;rw [<-hln,CN F.whole.nod hl']
  rw [hln] at va vg
  refine⟨u,_,rfl,fC.of (s1 _ _ z2),rfl,_,_,rfl,_,_,rfl,rfl,?_⟩
  refine⟨_,rfl,r,_,dxr,fsr,_,rfl,R1.1.1,T.bQ.c,T.bQ.na.2.1,R1.2.has ("flow",.ref A.f) (by simp),A.f,dx,fs,rfl,h1,h2.no _ (by decide +kernel),_,rfl,A.f,A.n,A.E,A.G,A.Kp,A.D,A.Rw,A.ea w.1,_,_,w.1,_,S.g w.1,rfl,W1.at',W1.ever,W1.gone,va,vg,bI.of (by rw [<-hln];exact W1.lists l hl'),?_⟩
  refine⟨_,rfl,r,_,dxr,fsr,_,rfl,R1.1.1,T.bQ.c,T.bQ.na.1,R1.2.has ("net",.ref A.n) (by simp),A.n,dxn,fsn,rfl,Wn.obj,Wn.fl.no _ (by decide +kernel),_,rfl,A.n,ls,ps,w.1,rfl,Wn.s,.inl ⟨l,hl',hln,fun H2 s2=>?_⟩⟩
  refine⟨_,_,rfl,rfl,_,rfl,?_⟩
  have e2:decide (l.room<=((((S.ev l.name).map V.int).length:Nat):Int) - ((S.g w.1:Nat):Int))=oN ls S w:=by rw [fb,lM,hln]
  rw [e2]
  cases hb:oN ls S w with
  | true=>
   rw [if_pos hb] at ft
   refine fU ⟨_,rfl,?_⟩
   have k':=k H2 (s1.trans s2)
   unfold vH at k'
   rw [ft] at k'
   exact k'
  | false=>
   rw [if_neg (by simp [hb])] at ft
   exact cz ⟨s1.trans s2,⟨_,_,rfl⟩,ft⟩
 rintro σ H1 ⟨s1,⟨v2,v3,rfl⟩,hf⟩
 rw [lM,hlr,List.take_length] at hf
 have k':=k H1 s1
 unfold vH at k'
 rw [hf] at k'
 exact k'
theorem K6 {H:Hp} {Q:VK} {Ex:XK} {b:Nat} {A:mF} {ls:List aG} {ps:List PD} {S:FS} {p:PD} (N:gJ K t H A.n ls ps) (W:dD K t H A ls ps S) (hp:p∈ps) (O:Bc b ls ps S) (kn:jl S p=none->∀H',aJ H H'->Q .non H')
  (k:∀dd,jl S p=some dd->∀H' U,aJ H H'->H U=none->mV (A.cells ls ps) H' U dd->Q (.ref U) H'):jR K t [.ref A.f,.str p.name] H Q Ex:=by
 unfold jR
 exact⟨b,A,ls,ps,S,p,rfl,N,W,hp,O,kn,k⟩
noncomputable def fY (ls:List aG) (S:FS) (p:PD):Option jV:=match jl S p with
 | none=>none
 | some dd=>if vH ls S dd=.non then some dd else none
theorem oZ {S:FS} {p:PD} {dd:jV} (h:jl S p=some dd):dz p.kind p.ins (aW S p)=.non/\qT S p=false/\dd=⟨(places p.kind (aW S p)).map (strAt p.ins),(cB p.kind p.nums (yI S p) (S.k p.name)).map fun pv=>(strAt p.outs pv.1.toNat,pv.2),gA p.kind (yI S p) (S.k p.name)⟩:=by
 unfold jl at h
 split at h
 ·cases h
 ·rename_i h1
  split at h
  ·cases h
  ·rename_i h2
   exact⟨Classical.not_not.mp h1,by simpa using h2,(Option.some.inj h).symm⟩
theorem uY {xs:List Str} {q:Nat} (h:q <xs.length):strAt xs q∈xs:=by unfold strAt;rw [List.getElem?_eq_getElem h];exact List.getElem_mem h
theorem lZ {xs:List Str} {q:Nat} (h:q <xs.length):strAt xs q=xs[q]:=by unfold strAt;rw [List.getElem?_eq_getElem h];rfl
theorem NZ {i:Nat} {hs:List V}:(places i hs).Nodup:=by
 unfold places
 split
 ·split
  ·rename_i n _
   have h0:=Int.emod_nonneg n (show(2:Int)≠0 by decide)
   simp
   omega
  ·simp
 ·exact List.nodup_range
theorem Sh {xs:List Str} (nd:xs.Nodup) {l:List Nat} (hl:l.Nodup) (h:∀q∈l,q <xs.length):(l.map (strAt xs)).Nodup:=by
 unfold List.Nodup at hl ⊢
 rw [List.pairwise_map]
 refine hl.imp_of_mem fun {a b} ha hb hne e=>hne ?_
 rw [lZ (h a ha),lZ (h b hb)] at e
 exact(List.getElem_inj nd).mp e
theorem Gx {f:PD->List Str}:∀{ps:List PD},(ps.flatMap f).Nodup->∀{p:PD},p∈ps->(f p).Nodup
 | q:: r,nd,p,hp=>by
  rw [List.flatMap_cons,List.nodup_append] at nd
  rcases List.mem_cons.mp hp with h | h
  ·rw [h];exact nd.1
  ·exact Gx nd.2.1 h
theorem yq {ls:List aG} {ps:List PD} {S:FS} (F:wg ls ps) {p:PD} (hp:p∈ps) {dd:jV} (h:jl S p=some dd):GX ls dd:=by
 obtain⟨hl,he,rfl⟩:=oZ h
 have ok:=F.pok p hp
 have hO:=lY S p ok
 have hlt:∀q∈places p.kind (aW S p),q <p.ins.length:=fun q hq=>by
  have:=iU hO q hq
  unfold aW at this
  rwa [lM] at this
 have inL:∀x∈p.ins ++ p.outs,x∈ls.map (·.name):=fun x hx=>by
  obtain⟨l,hl,rfl⟩:=F.inL hp hx
  exact List.mem_map.mpr ⟨l,hl,rfl⟩
 refine⟨?_,fun x hx=>?_,fun q hq=>?_,?_⟩
 ·exact Sh (Gx (F.whole.ins.nodup_iff.mpr F.whole.nod) hp) NZ hlt
 ·obtain⟨q,hq,rfl⟩:=List.mem_map.mp hx
  exact inL _ (List.mem_append.mpr (.inl (uY (hlt q hq))))
 ·obtain⟨pv,hpv,rfl⟩:=List.mem_map.mp hq
  obtain⟨o,ho1,ho2⟩:=HS (show p.kind<=10 by have:=ok.1;omega) _ _ _ _ hpv
  refine inL _ (List.mem_append.mpr (.inr (uY ?_)))
  rw [ho1,Int.toNat_natCast,ok.2.2.2.1]
  exact ho2
 ·show(List.map _ _).length<=2
  rw [lM]
  exact Jj ..
inductive qt (K:PySem.W.Frag) (t:ji) (vs:List V) (H:Hp) (Q:VK):Prop where
 | mk:∀(b:Nat) (r:Addr) (n:Nat) (A:mF) (ls:List aG) (ps:List PD) (S:FS) (p:PD),vs=[.ref r,.str p.name]->lJ t H r A.n A.f n->gJ K t H A.n ls ps->dD K t H A ls ps S->Bc b ls ps S->p∈ps->((fY ls S p=none->∀H',aJ H H'->Q .non H'))->(∀dd,fY ls S p=some dd->∀H' U,aJ H H'->H U=none->mV (A.cells ls ps) H' U dd->Q (.ref U) H')->qt K t vs H Q
@[irreducible] noncomputable def gj (K:PySem.W.Frag) (t:ji):Sp:=fun vs H Q _=>qt K t vs H Q
theorem qX (T:Txt w K mg t):FO P w K mg base 6 t.mK ["self", "name"] (gj K t):=by
 have sc:=T.jq.sc ["self", "name", "deed"]
 refine T.jq.F.ok sc (fun vs H Q E h=>?_) (fun cdv A outer s H vs Q E hr h=>?_)
 ·unfold gj at h
  obtain⟨b,r,n,A,ls,ps,S,p,rfl,_⟩:=h
  rfl
 ·unfold gj at h
  obtain⟨b,r,n,A,ls,ps,S,p,rfl,hR,N,W,O,hp,kn,k⟩:=h
  refine⟨_,(aq (sN sc 2 (wD (bh (pv 0) rfl) T.aO T.aO.me.2.2.2.2.2.2.2.1 (yd T) T.pU hr (aa (pv 1) ak aj)))
   (aA (aN (rH (PW.pt (tE (gH (zy (pv 2))) (mq (gH (rP (wD (pv 0) T.bQ T.bQ.me.2.1 (rJ T) T.jt hr (aa (pv 2) ak aj))))))) uO (pv 2))))),?_⟩
  obtain⟨dxr,fsr,R0⟩:=id hR
  obtain⟨dx,fs,h1,h2⟩:=id W.at'.ex
  have F:wg ls ps:=by obtain⟨_,_,_,_,_,_,_,_,_,Wn⟩:=N;exact Wn.fit
  refine⟨_,rfl,r,_,dxr,fsr,_,rfl,R0.1.1,T.bQ.c,T.bQ.na.2.1,R0.2.has ("flow",.ref A.f) (by simp),A.f,dx,fs,rfl,h1,h2.no _ (by decide +kernel),_,rfl,?_⟩
  refine K6 N W hp O (fun hd H1 s1=>?_) (fun dd hd H1 U s1 nU DA=>?_)
  ·exact⟨_,rfl,_,rfl,fU (fU (kn (by unfold fY;rw [hd]) _ s1))⟩
  ·obtain⟨dxr,fsr,R1⟩:=hR.same s1
   have nx:fY ls S p=if vH ls S dd=.non then some dd else none:=by unfold fY;rw [hd]
   refine⟨_,rfl,_,rfl,cz ?_⟩
   refine⟨_,rfl,r,dxr,fsr,rfl,R1.1.1,R1.2.no _ (by decide +kernel),_,rfl,r,n,A,ls,ps,S,_,U,dd,rfl,⟨dxr,fsr,R1⟩,N.same s1,W.same s1,DA,(yq F hp hd).gin,fun H2 s2=>?_⟩
   by_cases hf:vH ls S dd=.non
   ·rw [hf]
    exact⟨_,rfl,cz ⟨_,rfl,k dd (by rw [nx,if_pos hf]) H2 U (s1.trans s2) nU (DA.same s2)⟩⟩
   ·rw [decide_eq_false hf]
    exact⟨_,rfl,fU (kn (by rw [nx,if_neg hf]) H2 (s1.trans s2))⟩
theorem Mi {H:Hp} {Q:VK} {Ex:XK} {b:Nat} {r:Addr} {n:Nat} {A:mF} {ls:List aG} {ps:List PD} {S:FS} {p:PD} (hR:lJ t H r A.n A.f n) (N:gJ K t H A.n ls ps) (W:dD K t H A ls ps S) (O:Bc b ls ps S) (hp:p∈ps) (kn:fY ls S p=none->∀H',aJ H H'->Q .non H')
  (k:∀dd,fY ls S p=some dd->∀H' U,aJ H H'->H U=none->mV (A.cells ls ps) H' U dd->Q (.ref U) H'):gj K t [.ref r,.str p.name] H Q Ex:=by
 unfold gj
 exact⟨b,r,n,A,ls,ps,S,p,rfl,hR,N,W,O,hp,kn,k⟩
inductive tG (K:PySem.W.Frag) (t:ji) (vs:List V) (H:Hp) (Q:VK) (E:XK):Prop where
 | mk:∀(b:Nat) (r:Addr) (n:Nat) (A:mF) (ls:List aG) (ps:List PD) (S:FS) (p:PD),vs=[.ref r,.str p.name]->lJ t H r A.n A.f n->gJ K t H A.n ls ps->dD K t H A ls ps S->Bc b ls ps S->p∈ps->(∀H',aJ H H'->Q (.bl (fY ls S p).isSome) H')->tG K t vs H Q E
theorem Aq (T:Txt w K mg t):FO P w K mg base 7 t.oO ["self", "name"] (tG K t):=by
 have sc:=T.oX.sc ["self", "name"]
 refine T.oX.F.ok sc ln (fun _ _ _ _ H vs Q E hr h=>?_)
 obtain⟨b,r,n,A,ls,ps,S,p,rfl,hR,N,W,O,hp,k⟩:=h
 refine⟨_,(aA (aN (Bx (rP (wD (pv 0) T.bQ T.bQ.me.2.2.1 (qX T) T.jq hr (aa (pv 1) ak aj)))))),?_⟩
 obtain⟨dxr,fsr,R0⟩:=id hR
 refine⟨_,rfl,r,dxr,fsr,rfl,R0.1.1,R0.2.no _ (by decide +kernel),_,rfl,?_⟩
 refine Mi hR N W O hp (fun hd H1 s1=>?_) (fun dd hd H1 U s1 nU DA=>?_)
 ·have:=k H1 s1
  rw [hd] at this
  exact this
 ·have:=k H1 s1
  rw [hd] at this
  exact this
inductive Hi (K:PySem.W.Frag) (t:ji) (vs:List V) (H:Hp) (Q:VK) (E:XK):Prop where
 | mk:∀(r:Addr) (n:Nat) (A:mF) (ls:List aG) (ps:List PD) (S:FS) (p:PD),vs=[.ref r,.str p.name]->lJ t H r A.n A.f n->gJ K t H A.n ls ps->dD K t H A ls ps S->p∈ps->(∀H',aJ H H'->Q (.int (S.d p.name:Int)) H')->Hi K t vs H Q E
inductive tK (K:PySem.W.Frag) (t:ji) (vs:List V) (H:Hp) (Q:VK) (E:XK):Prop where
 | mk:∀(r:Addr) (n:Nat) (A:mF) (ls:List aG) (ps:List PD) (S:FS) (l:aG),vs=[.ref r,.str l.name]->lJ t H r A.n A.f n->gJ K t H A.n ls ps->dD K t H A ls ps S->l∈ls->(∀H' p,aJ H H'->H p=none->H' p=some (.lst (((S.ev l.name).drop (S.g l.name)).map V.int))->Q (.ref p) H')->tK K t vs H Q E
theorem Bb (T:Txt w K mg t):FO P w K mg base 3 t.oJ ["self", "name"] (tK K t):=by
 have sc:=T.pK.sc ["self", "name"]
 refine T.pK.F.ok sc ln (fun _ _ _ _ H vs Q E hr h=>?_)
 obtain⟨r,n,A,ls,ps,S,l,rfl,hR,N,W,hl,k⟩:=h
 refine⟨_,(aq (bK (wD (bh (pv 0) rfl) T.bj T.bj.me.2.2.2.2.2.2.1 (ig T) T.dX hr (aa (pv 1) ak aj)))
  (aA (aN (wD (bh (pv 0) rfl) T.aO T.aO.me.2.2.1 (zb T) T.mz hr (aa (pv 1) ak aj))))),?_⟩
 obtain⟨dxn,fsn,R,F0,Pd,Gn,Tk,FL,PL,Wn⟩:=id N
 obtain⟨dxr,fsr,R0⟩:=id hR
 refine⟨_,rfl,r,_,dxr,fsr,_,rfl,R0.1.1,T.bQ.c,T.bQ.na.1,R0.2.has ("net",.ref A.n) (by simp),A.n,dxn,fsn,rfl,Wn.obj,Wn.fl.no _ (by decide +kernel),_,rfl,A.n,ls,ps,l.name,rfl,N,.inl ⟨List.mem_map.mpr ⟨l,hl,rfl⟩,fun H1 s1=>?_⟩⟩
 obtain⟨dxr,fsr,R1⟩:=hR.same s1
 have W1:=W.same s1
 obtain⟨dx,fs,h1,h2⟩:=id W1.at'.ex
 refine⟨_,rfl,r,_,dxr,fsr,_,rfl,R1.1.1,T.bQ.c,T.bQ.na.2.1,R1.2.has ("flow",.ref A.f) (by simp),A.f,dx,fs,rfl,h1,h2.no _ (by decide +kernel),_,rfl,A.f,A.n,A.E,A.G,A.Kp,A.D,A.Rw,A.ea l.name,_,_,l.name,_,_,rfl,W1.at',W1.ever,W1.gone,lE Wn.fit.whole.nod hl,rM Wn.fit.whole.nod hl,bI.of (W1.lists l hl),fun p hp=>?_⟩
 rw [<-List.map_drop]
 exact k _ p (s1.trans (aB hp)) (s1.free hp) az
inductive JG (t:ji) (vs:List V) (H:Hp) (Q:VK) (E:XK):Prop where
 | mk:∀(r a f:Addr) (n:Nat),vs=[.ref r]->lJ t H r a f n->Q (.int (n:Nat)) H->JG t vs H Q E
theorem Rk {x:V} {xs:List V} (h:x∈xs) (f:JV x x=true):inV x xs=true:=List.any_eq_true.mpr ⟨x,h,f⟩
inductive pY (K:PySem.W.Frag) (t:ji) (vs:List V) (H:Hp) (Q:VK) (E:XK):Prop where
 | mk:∀(r:Addr) (n:Nat) (A:mF) (ls:List aG) (ps:List PD) (S:FS) (L:Addr) (xs:List Str),vs=[.ref r,.ref L]->lJ t H r A.n A.f n->gJ K t H A.n ls ps->dD K t H A ls ps S->bI K H L (xs.map V.str)->((∀x∈xs,V.str x∈dH ps "give" ++ dH ps "take"))->(∀H',aJ H H'->Q .non H')->pY K t vs H Q E
theorem xG (T:Txt w K mg t):FO P w K mg base 4 t.kh ["self", "names"] (pY K t):=by
 have sc:=T.j8.sc ["self", "names", "doors", "name"]
 refine T.j8.F.ok sc ln (fun _ _ _ _ H vs Q E hr h=>?_)
 obtain⟨r,n,A,ls,ps,S,L,xs,rfl,hR,N,W,hL,hx,k⟩:=h
 refine⟨_,(aq (sN sc 2 (bx Rv (Oz (bh (pv 0) rfl) T.bj T.bj.me.2.2.2.2.1 (nj T) T.jA hr) (Oz (bh (pv 0) rfl) T.bj T.bj.me.2.2.2.2.2.1 (Ht T) T.tR hr)))
  (aA (du PassesOwn.never rfl (bN (pv 1)) (gN sc 3)
   (aA (bM (bc jQ (pv 3) (pv 2) (by with_unfolding_all rfl))
    (aA dN)
    bu))))),?_⟩
 have hz:sizeLine=16777216:=sizeLine_eq
 obtain⟨dxn,fsn,R,F0,Pd,Gn,Tk,FL,PL,Wn⟩:=id N
 have p16:=Wn.fit.p16
 obtain⟨dxr,fsr,R0⟩:=id hR
 have g1:=xj ps "give"
 have g2:=xj ps "take"
 refine⟨_,rfl,r,_,dxr,fsr,_,rfl,R0.1.1,T.bQ.c,T.bQ.na.1,R0.2.has ("net",.ref A.n) (by simp),A.n,dxn,fsn,rfl,Wn.obj,Wn.fl.no _ (by decide +kernel),A.n,ls,ps,rfl,N,fun l nl=>?_⟩
 have s1:=aB (o:=.lst (dH ps "give")) nl
 obtain⟨dxr,fsr,R1⟩:=hR.same s1
 have Wn1:=Wn.same s1
 refine⟨_,rfl,r,_,dxr,fsr,_,rfl,R1.1.1,T.bQ.c,T.bQ.na.1,R1.2.has ("net",.ref A.n) (by simp),A.n,dxn,fsn,rfl,Wn1.obj,Wn1.fl.no _ (by decide +kernel),A.n,ls,ps,rfl,Wn1.s,fun l2 nl2=>?_⟩
 have s2:=aB (o:=.lst (dH ps "take")) nl2
 have e1:=s2 _ _ (az (H:=H) (a:=l) (o:=.lst (dH ps "give")))
 refine⟨l,l2,_,_,rfl,rfl,e1,az,by omega,fun l3 nl3=>?_⟩
 have s13:=s1.trans (s2.trans (aB (o:=.lst (dH ps "give" ++ dH ps "take")) nl3))
 have e3:upd (upd (upd H l (.lst (dH ps "give"))) l2 (.lst (dH ps "take"))) l3 (.lst (dH ps "give" ++ dH ps "take")) l3=some (.lst (dH ps "give" ++ dH ps "take")):=az
 generalize upd (upd (upd H l (.lst (dH ps "give"))) l2 (.lst (dH ps "take"))) l3 (.lst (dH ps "give" ++ dH ps "take"))=H3 at s13 e3 ⊢
 have fl:(dH ps "give" ++ dH ps "take").all jz=true:=by
  rw [List.all_eq_true]
  intro v hv
  rcases List.mem_append.mp hv with h | h <;> (obtain⟨p,_,rfl⟩:=List.mem_map.mp h;rfl)
 refine⟨_,rfl,L,rfl,⟨_,s13.seq hL⟩,cJ (K:=K) (a:=L) (xs:=xs.map V.str) (fun j σ H'=>H'=H3/\∃v3,σ=[some (.ref r),some (.ref L),some (.ref l3),v3]) ⟨rfl,none,rfl⟩ (fun j σ H' _ ⟨e,_⟩=>by rw [e];exact s13.seq hL) ?_ ?_⟩
 ·rintro j x σ H' hx' ⟨rfl,v3,rfl⟩
  rw [List.getElem?_map] at hx'
  obtain⟨y,hy,rfl⟩:=Option.map_eq_some_iff.mp hx'
  refine⟨_,rfl,_,rfl,l3,_,rfl,.inl (bI.of e3),rfl,fl,_,rfl,?_⟩
  rw [Rk (hx y (List.mem_of_getElem? hy)) (by simp [JV])]
  exact cz ⟨rfl,_,rfl⟩
 ·rintro σ H' ⟨rfl,v3,rfl⟩
  exact k _ s13
theorem Bf (y:Str) (xs:List Str):inV (.str y) (xs.map V.str)=decide (y∈xs):=by
 rw [Bool.eq_iff_iff,decide_eq_true_iff]
 unfold inV
 rw [List.any_eq_true]
 constructor
 ·rintro⟨v,hv,e⟩
  obtain⟨z,hz,rfl⟩:=List.mem_map.mp hv
  have:z=y:=by simpa [JV] using e
  rw [<-this];exact hz
 ·intro h
  exact⟨.str y,List.mem_map.mpr ⟨y,h,rfl⟩,by simp [JV]⟩
noncomputable def j6 (xs:List Str) (p:PD):Bool:=!decide (p.name∈xs)
noncomputable def jF (ls:List aG) (ps:List PD) (S:FS) (xs:List Str):List (PD×jV):=(ps.filter (j6 xs)).filterMap fun p=>(fY ls S p).map fun dd=>(p,dd)
noncomputable def je (S:FS) (ws:List (PD×jV)):FS:=ws.foldl (fun S w=>Ce S w.1.name w.2) S
noncomputable def j5 (ls:List aG) (ps:List PD) (S:FS) (xs:List Str):FS:=je S (jF ls ps S xs)
theorem BK (S:FS) (ws:List (PD×jV)) (w:PD×jV):je S (ws ++ [w])=Ce (je S ws) w.1.name w.2:=by unfold je;rw [List.foldl_append];rfl
theorem yU {S:FS} {b:Nat} {x:Str}:∀{ws:List (PD×jV)},(S.ev x).length<=b->(∀w∈ws,w.2.gv.length<=2)->((je S ws).ev x).length<=b+2 * ws.length
 | [],h,_=>by simpa [je] using h
 | w:: r,h,g=>by
  have h1:=g w List.mem_cons_self
  have h2:((Ce S w.1.name w.2).ev x).length<=b+2:=by
   unfold Ce
   rw [lP,lM]
   have:=List.length_filter_le (fun q:Str×Int=>decide (q.1=x)) w.2.gv
   omega
  have h3:=yU (S:=Ce S w.1.name w.2) (ws:=r) h2 (fun w' hw=>g w' (List.mem_cons_of_mem _ hw))
  show((je (Ce S w.1.name w.2) r).ev x).length<=_
  rw [List.length_cons]
  omega
theorem Dd {α β:Type} {F:α->β->Prop}:∀{xs:List α} {ys:List β} {j:Nat} {x:α},Paired F xs ys->xs[j]?=some x->∃y,ys[j]?=some y/\F x y
 | _,_,_,_,.nil,e=>by simp at e
 | _,_,0,_,.cons h _,e=>by simp at e;subst e;exact⟨_,rfl,h⟩
 | _,_,j+1,_,.cons _ r,e=>by
  obtain⟨y,h1,h2⟩:=Dd (j:=j) r (by simpa using e)
  exact⟨y,by simpa using h1,h2⟩
theorem Fj {α β:Type} {F:α->β->Prop}:∀{xs:List α} {ys:List β} {y:β},Paired F xs ys->y∈ys->∃x,F x y
 | _,_,_,.nil,e=>by simp at e
 | _,_,_,.cons h r,e=>by
  rcases List.mem_cons.mp e with rfl | e
  ·exact⟨_,h⟩
  ·exact Fj r e
theorem dD.ncell {H:Hp} {A:mF} {ls:List aG} {ps:List PD} {S:FS} (W:dD K t H A ls ps S) {a:Addr} {u:HO} (h:H a=some u) (h1:∀ks,u≠.dK ks) (h2:∀ks,u≠.lst ks):a∉A.cells ls ps:=by
 intro z
 have no:∀{b:Addr} {v:HO},H b=some v->a=b->u=v:=fun e q=>by rw [<-q,h] at e;exact Option.some.inj e
 unfold mF.cells at z
 simp only [List.mem_cons,List.mem_append,List.mem_map] at z
 rcases z with z | z | z | z | z | ⟨l,hl,z⟩ | ⟨p,hp,z⟩
 ·exact h1 _ (no W.ever z)
 ·exact h1 _ (no W.gone z)
 ·exact h1 _ (no W.kept z)
 ·exact h1 _ (no W.done z)
 ·exact h1 _ (no W.rows z)
 ·exact h2 _ (no (W.lists l hl) z.symm)
 ·have hf:=List.mem_filter.mp hp
  exact h2 _ (no (W.rlst p hf.1 (by simpa using hf.2)) z.symm)
theorem dD.tupMov {H H':Hp} {A:mF} {ls:List aG} {ps:List PD} {S:FS} (W:dD K t H A ls ps S) (m:Eb (A.cells ls ps) H H') {a:Addr} {xs:List V} (h:H a=some (.tup xs)):H' a=some (.tup xs):=by
 rw [m a (W.ncell h (by intro _ z;cases z) (by intro _ z;cases z))]
 exact h
theorem mV.mov {H H':Hp} {A:mF} {ls:List aG} {ps:List PD} {S:FS} {U:Addr} {dd:jV} (h:mV (A.cells ls ps) H U dd) (W:dD K t H A ls ps S) (m:Eb (A.cells ls ps) H H'):mV (A.cells ls ps) H' U dd:=by
 obtain⟨La,Lg,rs,a,b,c,d,e,f⟩:=h
 exact⟨La,Lg,rs,W.tupMov m a,by rw [m La e];exact b,by rw [m Lg f];exact c,Paired.mapP d fun _ _ z=>W.tupMov m z,e,f⟩
theorem lJ.mov {H H':Hp} {r a f:Addr} {n:Nat} {M:List Addr} (h:lJ t H r a f n) (nr:r∉M) (m:Eb M H H'):lJ t H' r a f n:=by
 obtain⟨dx,fs,h1,h2⟩:=h
 exact⟨dx,fs,⟨by rw [m r nr];exact h1.1,h1.2⟩,h2⟩
theorem Xe {H:Hp} {Q:VK} {Ex:XK} {b:Nat} {A:mF} {ls:List aG} {ps:List PD} {S:FS} {p:PD} {U:Addr} {dd:jV} (F:wg ls ps) (W:dD K t H A ls ps S) (hp:p∈ps) (hl:∀l∈ls,(S.ev l.name).length<=b) (hb:b<=100000) (d:mV (A.cells ls ps) H U dd) (o:GX ls dd)
  (k:∀H',Eb (A.cells ls ps) H H'->dD K t H' A ls ps (Ce S p.name dd)->Q .non H'):oG K t [.ref A.f,.str p.name,.ref U] H Q Ex:=by
 unfold oG
 exact⟨b,A,ls,ps,S,p,U,dd,rfl,F,W,hp,hl,hb,d,o,k⟩
theorem lJ.turned {H:Hp} {r a f:Addr} {n:Nat} {dx:Addr} {fs:List (Str×V)} (h:(H r=some (.ins t.pH dx fs)/\fs.length<=n+3)/\R4 ["step", "need_doors", "next_deed", "full_lane", "can_work", "works", "lane_now", "turn", "rows_left"] [("net",.ref a),("flow",.ref f),("turns",.int (n:Nat))] fs):
  lJ t (upd H r (.ins t.pH dx (aH "turns" (.int ((n:Int)+1)) fs))) r a f (n+1):=by
 refine⟨dx,_,⟨az,?_⟩,⟨?_,?_⟩⟩
 ·exact Nat.le_trans (gW h.1.2) (by omega)
 ·intro q hq
  simp only [List.mem_cons,List.not_mem_nil,or_false] at hq
  rcases hq with rfl | rfl | rfl
  ·dsimp only
   rw [aC,if_neg (by decide +kernel)]
   exact h.2.has ("net",.ref a) (by simp)
  ·dsimp only
   rw [aC,if_neg (by decide +kernel)]
   exact h.2.has ("flow",.ref f) (by simp)
  ·dsimp only
   rw [aC,if_pos rfl]
   rfl
 ·intro m hm
  have hne:∀m∈(["step", "need_doors", "next_deed", "full_lane", "can_work", "works", "lane_now", "turn", "rows_left"]:List Str),¬m= "turns" :=by decide +kernel
  rw [aC,if_neg (hne m hm)]
  exact h.2.no m hm
theorem dD.ins {H:Hp} {A:mF} {ls:List aG} {ps:List PD} {S:FS} (W:dD K t H A ls ps S) {x:Addr} (nx:x∉A.cells ls ps) {o:HO} (nf:x≠A.f):dD K t (upd H x o) A ls ps S:=by
 have st:∀a,a∈A.cells ls ps->upd H x o a=H a:=fun a ha=>aK fun z=>nx (by rw [<-z];exact ha)
 obtain⟨dx,fs,h1,h2⟩:=W.at'.ex
 refine⟨⟨dx,fs,by rw [aK (Ne.symm nf)];exact h1,h2⟩,?_,fun l hl=>?_,?_,?_,?_,?_,fun p hp h0=>?_,W.nod⟩
 ·rw [st _ (by simp [mF.cells])];exact W.ever
 ·rw [st _ (by unfold mF.cells;simp only [List.mem_cons,List.mem_append,List.mem_map];exact .inr (.inr (.inr (.inr (.inr (.inl ⟨l,hl,rfl⟩))))))];exact W.lists l hl
 ·rw [st _ (by simp [mF.cells])];exact W.gone
 ·rw [st _ (by simp [mF.cells])];exact W.kept
 ·rw [st _ (by simp [mF.cells])];exact W.done
 ·rw [st _ (by simp [mF.cells])];exact W.rows
 ·rw [st _ (by unfold mF.cells;simp only [List.mem_cons,List.mem_append,List.mem_map];exact .inr (.inr (.inr (.inr (.inr (.inr ⟨p,List.mem_filter.mpr ⟨hp,by simp [h0]⟩,rfl⟩))))))];exact W.rlst p hp h0
inductive Fe (M:List Addr) (ls:List aG) (S:FS) (H:Hp) (q:PD×Addr):Prop where
 | mk:∀u,H q.2=some (.tup [.str q.1.name,u])->(((fY ls S q.1=none/\u=.non)∨∃dd U,fY ls S q.1=some dd/\u=.ref U/\mV M H U dd))->Fe M ls S H q
theorem Fe.same {M:List Addr} {ls:List aG} {S:FS} {H H':Hp} {q:PD×Addr} (h:Fe M ls S H q) (s:aJ H H'):Fe M ls S H' q:=by
 obtain⟨u,h1,h2⟩:=h
 refine⟨u,s _ _ h1,?_⟩
 rcases h2 with h2 | ⟨dd,U,a,b,c⟩
 ·exact .inl h2
 ·exact .inr ⟨dd,U,a,b,c.same s⟩
theorem Qs {ls:List aG} {S:FS}:∀{qs:List (PD×Addr)},(qs.map (·.1)).filterMap (fun p=>(fY ls S p).map fun dd=>(p,dd))=(qs.filter fun q=>(fY ls S q.1).isSome).filterMap (fun q=>(fY ls S q.1).map fun dd=>(q.1,dd))
 | []=>rfl
 | q:: r=>by
  rw [List.map_cons,List.filterMap_cons,List.filter_cons,Qs (qs:=r)]
  cases h:fY ls S q.1 with
  | none=>simp
  | some dd=>simp [List.filterMap_cons,h]
theorem gY {ls:List aG} {S:FS} {p:PD} {dd:jV} (h:fY ls S p=some dd):jl S p=some dd/\vH ls S dd=.non:=by
 unfold fY at h
 split at h
 ·cases h
 ·rename_i d hd
  split at h
  ·rename_i hf
   cases h
   exact⟨hd,hf⟩
  ·cases h
structure sy (K:PySem.W.Frag) (t:ji) (H:Hp) (r:Addr) (n:Nat) (A:mF) (ls:List aG) (ps:List PD) (S:FS):Prop where
 run:lJ t H r A.n A.f n
 net:gJ K t (bA (r:: A.cells ls ps) H) A.n ls ps
 flow:dD K t H A ls ps S
 ne:r≠A.f
theorem sy.netH {H:Hp} {r:Addr} {n:Nat} {A:mF} {ls:List aG} {ps:List PD} {S:FS} (h:sy K t H r n A ls ps S):gJ K t H A.n ls ps:=h.net.same bR
theorem lJ.cell {H:Hp} {r:Addr} {n:Nat} {A:mF} {ls:List aG} {ps:List PD} {S:FS} {a f:Addr} (hR:lJ t H r a f n) (W:dD K t H A ls ps S):r∉A.cells ls ps:=by
 obtain⟨dx,fs,⟨h1,_⟩,_⟩:=hR
 intro z
 have no:∀{b:Addr} {u:HO},H b=some u->(∀C dx fs,u≠.ins C dx fs)->r=b->False:=fun e h q=>by rw [<-q,h1] at e;exact h _ _ _ (Option.some.inj e).symm
 unfold mF.cells at z
 simp only [List.mem_cons,List.mem_append,List.mem_map] at z
 rcases z with z | z | z | z | z | ⟨l,hl,z⟩ | ⟨p,hp,z⟩
 ·exact no W.ever (by intro _ _ _ z;cases z) z
 ·exact no W.gone (by intro _ _ _ z;cases z) z
 ·exact no W.kept (by intro _ _ _ z;cases z) z
 ·exact no W.done (by intro _ _ _ z;cases z) z
 ·exact no W.rows (by intro _ _ _ z;cases z) z
 ·exact no (W.lists l hl) (by intro _ _ _ z;cases z) z.symm
 ·have hf:=List.mem_filter.mp hp
  exact no (W.rlst p hf.1 (by simpa using hf.2)) (by intro _ _ _ z;cases z) z.symm
theorem Vw {ws:List Int} (h:Wd ws):0<=g0 ws/\g0 ws <1000000000:=by
 unfold g0
 match ws,h with
 | [],_=>exact⟨by decide,by decide⟩
 | w:: r,h=>exact h w List.mem_cons_self
theorem V3 {ws:List Int} (h:Wd ws):0<=g1 ws/\g1 ws <1000000000:=by
 unfold g1
 match ws,h with
 | [],_=>exact⟨by decide,by decide⟩
 | [w],_=>exact⟨Int.le_refl 0,by show(0:Int) <1000000000;decide⟩
 | w:: v:: r,h=>exact h v (by simp)
theorem GD (n:Int):0<=n % 1000000000/\n % 1000000000 <1000000000:=⟨Int.emod_nonneg _ (by decide),Int.emod_lt_of_pos _ (by decide)⟩
theorem Qy {i:Nat} (hi:i <11) (ns:List Int) {ws:List Int} (kp:Int) (h:Wd ws):∀pv∈cB i ns ws kp,0<=pv.2/\pv.2 <1000000000:=by
 have a0:=Vw h
 have a1:=V3 h
 match i,hi with
 | 0,_=>simp [cB];exact a0
 | 1,_=>simp [cB]
 | 2,_=>simp [cB];exact a0
 | 3,_=>simp [cB];exact a0
 | 4,_=>simp [cB];exact GD _
 | 5,_=>simp [cB];exact GD _
 | 6,_=>simp [cB];exact GD _
 | 7,_=>simp [cB];split <;> decide
 | 8,_=>simp [cB];constructor <;> split <;> omega
 | 9,_=>simp [cB];exact a1
 | 10,_=>simp [cB];exact a1
theorem yc (x:Str):∀(ws:List (PD×jV)) (S:FS),(je S ws).ev x=S.ev x ++ ws.flatMap fun w=>(w.2.gv.filter fun q=>decide (q.1=x)).map (·.2)
 | [],S=>by simp [je]
 | w:: r,S=>by
  show(je (Ce S w.1.name w.2) r).ev x=_
  rw [yc x r,List.flatMap_cons,<-List.append_assoc]
  rfl
theorem Bg:∀(ws:List (PD×jV)) (S:FS),(je S ws).r=S.r
 | [],_=>rfl
 | w:: r,S=>by show(je (Ce S w.1.name w.2) r).r=_;rw [Bg r];rfl
theorem K5 (x:Str):∀(ws:List (PD×jV)) (S:FS),(je S ws).d x=S.d x+(ws.filter fun w=>decide (w.1.name=x)).length
 | [],S=>by simp [je]
 | w:: r,S=>by
  show(je (Ce S w.1.name w.2) r).d x=_
  rw [K5 x r,List.filter_cons]
  show(if x=w.1.name then S.d x+1 else S.d x)+_=_
  by_cases h:x=w.1.name
  ·rw [if_pos h,if_pos (by simp [h])]
   simp
   omega
  ·rw [if_neg h,if_neg (by simpa using fun e=>h e.symm)]
theorem Gz (x:Str):∀(ws:List (PD×jV)) (S:FS),(je S ws).g x=S.g x+(ws.filter fun w=>decide (x∈w.2.tk)).length
 | [],S=>by simp [je]
 | w:: r,S=>by
  show(je (Ce S w.1.name w.2) r).g x=_
  rw [Gz x r,List.filter_cons]
  show(if x∈w.2.tk then S.g x+1 else S.g x)+_=_
  by_cases h:x∈w.2.tk
  ·rw [if_pos h,if_pos (by simp [h])]
   simp
   omega
  ·rw [if_neg h,if_neg (by simp [h])]
theorem lr {ls:List aG} {ps:List PD} {S:FS} {xs:List Str} {w:PD×jV} (h:w∈jF ls ps S xs):w.1∈ps/\j6 xs w.1=true/\fY ls S w.1=some w.2:=by
 obtain⟨p,hp,e⟩:=List.mem_filterMap.mp h
 obtain⟨dd,hd,rfl⟩:=Option.map_eq_some_iff.mp e
 obtain⟨h1,h2⟩:=List.mem_filter.mp hp
 exact⟨h1,h2,hd⟩
theorem n8 {ls:List aG} {S:FS}:∀{qs:List PD},((qs.filterMap fun p=>(fY ls S p).map fun dd=>(p,dd)).map (·.1)).Sublist qs
 | []=>by simp
 | q:: r=>by
  rw [List.filterMap_cons]
  cases fY ls S q with
  | none=>exact n8.cons _
  | some dd=>exact n8.cons₂ _
theorem VP {ls:List aG} {ps:List PD} {S:FS} {xs:List Str} (nd:(ps.map (·.name)).Nodup):((jF ls ps S xs).map fun w=>w.1.name).Nodup:=by
 have h:((jF ls ps S xs).map (·.1)).Sublist ps:=(n8 (qs:=ps.filter (j6 xs))).trans List.filter_sublist
 have e:(jF ls ps S xs).map (fun w=>w.1.name)=((jF ls ps S xs).map (·.1)).map (·.name):=by rw [List.map_map];rfl
 rw [e]
 exact nd.sublist (h.map _)
theorem SM {ls:List aG} {ps:List PD} {S:FS} {xs:List Str}:(jF ls ps S xs).length<=ps.length:=by
 have h:((jF ls ps S xs).map (·.1)).Sublist ps:=(n8 (qs:=ps.filter (j6 xs))).trans List.filter_sublist
 have:=h.length_le
 rwa [lM] at this
theorem J4 {α:Type} {f:α->Str} {x:Str}:∀{l:List α},(l.map f).Nodup->(l.filter fun a=>decide (f a=x)).length<=1
 | [],_=>by simp
 | a:: r,nd=>by
  rw [List.map_cons,List.nodup_cons] at nd
  rw [List.filter_cons]
  by_cases h:f a=x
  ·rw [if_pos (by simp [h]),List.filter_eq_nil_iff.mpr fun b hb=>by simpa using fun e=>nd.1 (List.mem_map.mpr ⟨b,hb,by rw [e,h]⟩)]
   simp
  ·rw [if_neg (by simp [h])]
   exact J4 nd.2
theorem RP {b:Nat} {ls:List aG} {ps:List PD} {S:FS} (F:wg ls ps) (O:Bc b ls ps S) (xs:List Str):Bc (b+32) ls ps (j5 ls ps S xs):=by
 have dk:∀w∈jF ls ps S xs,GX ls w.2:=fun w hw=>yq F (lr hw).1 (gY (lr hw).2.2).1
 refine⟨fun l hl v hv=>?_,fun p hp h0=>?_,fun p hp h0=>?_,fun l hl=>?_,fun p hp h0=>?_⟩
 ·unfold j5 at hv
  rw [yc] at hv
  rcases List.mem_append.mp hv with h | h
  ·exact O.vb l hl v h
  ·obtain⟨w,hw,hv⟩:=List.mem_flatMap.mp h
   obtain⟨q,hq,rfl⟩:=List.mem_map.mp hv
   obtain⟨h1,_,h3⟩:=lr hw
   obtain⟨e1,e2,e3⟩:=oZ (gY h3).1
   have hq':=(List.mem_filter.mp hq).1
   rw [e3] at hq'
   obtain⟨pv,hpv,rfl⟩:=List.mem_map.mp hq'
   exact Qy (F.pok _ h1).1 _ _ (Ur F O h1 e1 e2).2.1 pv hpv
 ·unfold j5
  rw [Bg]
  exact O.rb p hp h0
 ·unfold j5
  rw [Bg,K5]
  have h1:=J4 (x:=p.name) (VP (ls:=ls) (S:=S) (xs:=xs) F.pnd)
  have h2:=O.dl p hp h0
  by_cases hm:∃w∈jF ls ps S xs,w.1.name=p.name
  ·obtain⟨w,hw,e⟩:=hm
   obtain⟨a1,_,a3⟩:=lr hw
   have ew:w.1=p:=BV F.pnd a1 hp e
   obtain⟨_,e2,_⟩:=oZ (gY a3).1
   rw [ew] at e2
   unfold qT at e2
   simp [h0] at e2
   omega
  ·rw [List.filter_eq_nil_iff.mpr fun w hw=>by simpa using fun e=>hm ⟨w,hw,e⟩]
   simpa using h2
 ·have h1:=yU (O.len l hl) fun w hw=>(dk w hw).g2
  have h2:=SM (ls:=ls) (ps:=ps) (S:=S) (xs:=xs)
  have:=F.p16
  unfold j5
  omega
 ·unfold j5
  rw [Bg]
  exact O.rl p hp h0
inductive xF (K:PySem.W.Frag) (t:ji) (vs:List V) (H:Hp) (Q:VK):Prop where
 | mk:∀(b:Nat) (r:Addr) (n:Nat) (A:mF) (ls:List aG) (ps:List PD) (S:FS) (L:Addr) (xs:List Str),vs=[.ref r,.ref L]->sy K t H r n A ls ps S->Bc b ls ps S->b<=90000->n<=900->bI K H L (xs.map V.str)->L∉A.cells ls ps->((∀x∈xs,V.str x∈dH ps "give" ++ dH ps "take"))->(∀H' p,aJ (bA (r:: A.cells ls ps) H) (bA (r:: A.cells ls ps) H')->sy K t H' r (n+1) A ls ps (j5 ls ps S xs)->H p=none->H' p=some (.lst ((jF ls ps S xs).map fun w=>V.str w.1.name))->Q (.ref p) H')->xF K t vs H Q
@[irreducible] noncomputable def lU (K:PySem.W.Frag) (t:ji):Sp:=fun vs H Q _=>xF K t vs H Q
noncomputable abbrev sX:List Str:=["self", "held", "back", "deeds", "due", "name", "deed"]
theorem Ji (T:Txt w K mg t):FO P w K mg base 7 t.wG ["self", "held"] (lU K t):=by
 have sc:fZ sX ["self", "held"] (aU (inClass (top 64) 1)):=Mu
 refine T.wC.F.ok sc (fun vs H Q E h=>?_) (fun cdv A outer s H vs Q E hr h=>?_)
 ·unfold lU at h
  obtain⟨b,r,n,A,ls,ps,S,L,xs,rfl,_⟩:=h
  rfl
 ·unfold lU at h
  obtain⟨b,r,n,A,ls,ps,S,L,xs,rfl,⟨hR,Nc,W,nrf⟩,O,hb,hn,hL,nL,hx,k⟩:=h
  refine⟨_,(aq (sN sc 2 (rH (gH (zy (pv 1))) (bz ak) (pv 1)))
   (aq (bK (wD (pv 0) T.bQ T.bQ.me.2.2.2.1 (xG T) T.j8 hr (aa (pv 2) ak aj)))
   (aq (jn (i:=3) [0,2] sX (aU (inClass (top 64) 1)) rfl sc.nd rfl (bN (Oz (bh (pv 0) rfl) T.bj T.bj.me.2.2.1 (il T) T.eU hr)) (fun _ _ _ _ _=>(qR (bc (qW (K:=K) rfl) (pv 0) (pv 2) (by with_unfolding_all rfl)))) (fun _ _ _ _ _=>(cg (aa (pv 0) (aa (wD (pv 1) T.bQ T.bQ.me.2.2.1 (qX T) T.jq hr (aa (pv 0) ak aj)) ak aY) aj))))
   (aq (jn (i:=4) [] sX (aU (inClass (top 64) 1)) rfl sc.nd rfl (bN (pv 3)) (fun _ _ _ _ _=>(qR (gH (rP (aR (mX (K:=K) rfl) (pv 0) au (fun _ _=>rfl)))))) (fun _ _ _ _ _=>(pv 0)))
   (aq (du PassesOwn.never rfl (bN (pv 4)) (wH rfl (dg (gN sc 5) (dg (gN sc 6) qx)))
    (aA (bK (wD (bh (pv 0) rfl) T.aO T.aO.me.2.2.2.2.2.2.2.2.1 (K1 T) T.yO hr (aa (pv 5) (aa (pv 6) ak aj) aj)))))
   (aq (Nq (pv 0) au Gm)
   (aA (aN (Qz ["name", "deed"] [] sX (aU (inClass (top 64) 1)) rfl (bN (pv 4)) (fun _ _ _ _ _=>Lz (K:=K) (n:=2) rfl rfl (dg (vh (i:=0) (show(["name", "deed"]:List Str).Nodup by decide +kernel) rfl (Or.inl rfl) (.inr rfl)) (dg (vh (i:=1) (show(["name", "deed"]:List Str).Nodup by decide +kernel) rfl (Or.inl rfl) (.inr rfl)) qx))) (fun _ _ _ _ _=>iC) (fun _ _ _ _ _=>(pv 0))))))))))),?_⟩
  have hz:sizeLine=16777216:=sizeLine_eq
  have N:gJ K t H A.n ls ps:=Nc.same bR
  obtain⟨dxn,fsn,R,F0,Pd,Gn,Tk,FL,PL,Wn⟩:=id N
  have F:=Wn.fit
  have p16:=F.p16
  obtain⟨dxr,fsr,R0⟩:=id hR
  refine⟨_,rfl,_,rfl,cz ⟨_,rfl,?_⟩⟩
  refine⟨_,rfl,r,dxr,fsr,rfl,R0.1.1,R0.2.no _ (by decide +kernel),_,rfl,r,n,A,ls,ps,S,L,xs,rfl,hR,N,W,hL,hx,fun H1 s1=>?_⟩
  obtain⟨dxr,fsr,R1⟩:=hR.same s1
  have Wn1:=Wn.same s1
  refine⟨_,rfl,r,_,dxr,fsr,_,rfl,R1.1.1,T.bQ.c,T.bQ.na.1,R1.2.has ("net",.ref A.n) (by simp),A.n,dxn,fsn,rfl,Wn1.obj,Wn1.fl.no _ (by decide +kernel),A.n,ls,ps,rfl,Wn1.s,fun l nl=>?_⟩
  have s2:=s1.trans (aB (o:=.lst (ps.map fun x=>V.str x.name)) nl)
  have el:(upd H1 l (.lst (ps.map fun x=>V.str x.name))) l=some (.lst (ps.map fun x=>V.str x.name)):=az
  generalize upd H1 l (.lst (ps.map fun x=>V.str x.name))=H2 at s2 el ⊢
  have hflat:(xs.map V.str).all jz=true:=by simp [jz]
  refine⟨l,rfl,⟨_,bI.of el⟩,d7 (K:=K) (a:=l) (xs:=ps.map fun x=>V.str x.name) (fun j ys H'=>aJ H2 H'/\∃qs:List (PD×Addr),ys=qs.map (fun q=>V.ref q.2)/\qs.map (·.1)=(ps.take j).filter (j6 xs)/\∀q∈qs,Fe (A.cells ls ps) ls S H' q) (by rw [lM];omega) ⟨aJ.refl _,[],rfl,rfl,by simp⟩ ?_ (fun j ys H' _ h=>h.1.seq (bI.of el)) ?_ ?_⟩
  ·rintro j ys H' ⟨_,qs,rfl,e,_⟩
   have h1:=congrArg List.length e
   have h2:=List.length_filter_le (j6 xs) (ps.take j)
   rw [lM] at h1
   rw [List.length_take] at h2
   rw [lM]
   omega
  ·rintro j x ys H' hj ⟨s3',qs,rfl,eq,hq⟩
   rw [List.getElem?_map] at hj
   obtain⟨p,hp,rfl⟩:=Option.map_eq_some_iff.mp hj
   have hpm:=List.mem_of_getElem? hp
   have s3:=s2.trans s3'
   obtain⟨dxr,fsr,R2⟩:=hR.same s3
   refine⟨_,rfl,_,rfl,L,_,rfl,.inl (s3.seq hL),rfl,hflat,_,rfl,?_⟩
   rw [Bf]
   have tk:(ps.take (j+1)).filter (j6 xs)=(ps.take j).filter (j6 xs) ++ if j6 xs p=true then [p] else []:=by
    rw [List.take_succ,hp,Option.toList_some,List.filter_append,List.filter_cons]
    rfl
   refine jG (fun e=>?_) (fun e=>?_)
   ·have e':j6 xs p=true:=e
    rw [e',if_pos rfl] at tk
    refine⟨_,rfl,_,rfl,r,dxr,fsr,rfl,R2.1.1,R2.2.no _ (by decide +kernel),_,rfl,?_⟩
    refine Mi (hR.same s3) (N.same s3) (W.same s3) O hpm (fun hd H4 s4=>?_) (fun dd hd H4 U s4 nU DA=>?_)
    ·refine⟨iw,fun q nq=>⟨s3'.trans (s4.trans (aB nq)),qs ++ [(p,q)],by simp,by rw [List.map_append,eq,tk];rfl,fun q' hq'=>?_⟩⟩
     rcases List.mem_append.mp hq' with h | h
     ·exact(hq q' h).same (s4.trans (aB nq))
     ·rw [List.mem_singleton] at h
      subst h
      exact⟨.non,az,.inl ⟨hd,rfl⟩⟩
    ·refine⟨iw,fun q nq=>⟨s3'.trans (s4.trans (aB nq)),qs ++ [(p,q)],by simp,by rw [List.map_append,eq,tk];rfl,fun q' hq'=>?_⟩⟩
     rcases List.mem_append.mp hq' with h | h
     ·exact(hq q' h).same (s4.trans (aB nq))
     ·rw [List.mem_singleton] at h
      subst h
      exact⟨.ref U,az,.inr ⟨dd,U,hd,rfl,DA.same (aB nq)⟩⟩
   ·have e':¬j6 xs p=true:=e
    rw [if_neg e',List.append_nil] at tk
    exact⟨s3',qs,rfl,by rw [eq,tk],hq⟩
  rintro ys H3 ⟨s3',qs,rfl,eq,hq⟩ D1 nD1
  rw [lM,List.take_length] at eq
  have s4':=aB (o:=.lst (qs.map fun q=>V.ref q.2)) nD1
  have s4:=(s2.trans s3').trans s4'
  have eD1:(upd H3 D1 (.lst (qs.map fun q=>V.ref q.2))) D1=some (.lst (qs.map fun q=>V.ref q.2)):=az
  replace hq:=fun q h=>(hq q h).same s4'
  generalize upd H3 D1 (.lst (qs.map fun q=>V.ref q.2))=H4 at s4 s4' eD1 hq ⊢
  clear s4' nD1 s3' nl el
  have lq:qs.length<=16:=by
   have h1:=congrArg List.length eq
   have h2:=List.length_filter_le (j6 xs) ps
   rw [lM] at h1
   omega
  let fS:PD×Addr->Bool:=fun q=>(fY ls S q.1).isSome
  refine⟨_,rfl,D1,rfl,⟨_,bI.of eD1⟩,d7 (K:=K) (a:=D1) (xs:=qs.map fun q=>V.ref q.2) (fun j ys H'=>H'=H4/\ys=((qs.take j).filter fS).map fun q=>V.ref q.2) (by rw [lM];omega) ⟨rfl,rfl⟩ (fun j ys H' ⟨_,e⟩=>by rw [e,lM];exact Nat.le_trans (List.length_filter_le _ _) (by rw [List.length_take];omega)) (fun j ys H' _ ⟨e,_⟩=>by rw [e];exact bI.of eD1) ?_ ?_⟩
  ·rintro j x ys H' hj ⟨rfl,rfl⟩
   rw [List.getElem?_map] at hj
   obtain⟨q,hqj,rfl⟩:=Option.map_eq_some_iff.mp hj
   obtain⟨u,h1,h2⟩:=hq q (List.mem_of_getElem? hqj)
   refine⟨_,rfl,q.2,_,1,_,rfl,rfl,fC.of h1,aM (j:=1) rfl,?_⟩
   rw [List.take_succ,hqj,Option.toList_some,List.filter_append,List.filter_cons,List.map_append]
   rcases h2 with ⟨h2,rfl⟩ | ⟨dd,U,h2,rfl,_⟩
   ·exact⟨_,rfl,cz ⟨rfl,by simp [fS,h2]⟩⟩
   ·exact⟨_,rfl,fU ⟨_,rfl,rfl,by simp [fS,h2]⟩⟩
  rintro ys H' ⟨rfl,rfl⟩ D2 nD2
  rw [lM,List.take_length]
  obtain⟨ws,hws⟩:∃ws:List (PD×jV),ws=jF ls ps S xs:=⟨_,rfl⟩
  have ewq:ws=(qs.filter fS).filterMap (fun q=>(fY ls S q.1).map fun dd=>(q.1,dd)):=by rw [hws];unfold jF;rw [<-eq,Qs]
  have hW:Paired (fun(q:PD×Addr) (w:PD×jV)=>q.1=w.1/\fY ls S w.1=some w.2/\w.1∈ps/\∃U,H' q.2=some (.tup [.str w.1.name,.ref U])/\mV (A.cells ls ps) H' U w.2) (qs.filter fS) ws:=by
   rw [ewq]
   have hall:∀q∈qs.filter fS,Fe (A.cells ls ps) ls S H' q/\q.1∈ps/\fS q=true:=fun q h=>by
    have h':=List.mem_filter.mp h
    refine⟨hq q h'.1,?_,h'.2⟩
    have:q.1∈qs.map (·.1):=List.mem_map.mpr ⟨q,h'.1,rfl⟩
    rw [eq] at this
    exact(List.mem_filter.mp this).1
   generalize qs.filter fS=rs at hall
   clear ewq
   induction rs with
   | nil=>exact .nil
   | cons q r ih=>
    obtain⟨⟨u,h1,h2⟩,hp,hf⟩:=hall q List.mem_cons_self
    rcases h2 with ⟨h2,_⟩ | ⟨dd,U,h2,rfl,h3⟩
    ·simp only [fS,h2] at hf
     cases hf
    ·rw [List.filterMap_cons,h2]
     exact .cons ⟨rfl,h2,hp,U,h1,h3⟩ (ih fun q' hq'=>hall q' (List.mem_cons_of_mem _ hq'))
  have lw:(qs.filter fS).length=ws.length:=Paired.length hW
  have lw16:ws.length<=16:=by have:=List.length_filter_le fS qs;omega
  have s5':=aB (o:=.lst ((qs.filter fS).map fun q=>V.ref q.2)) nD2
  have s5:=s4.trans s5'
  have nD2':=(W.same s4).cell nD2
  have eD2:(upd H' D2 (.lst ((qs.filter fS).map fun q=>V.ref q.2))) D2=some (.lst ((qs.filter fS).map fun q=>V.ref q.2)):=az
  generalize upd H' D2 (.lst ((qs.filter fS).map fun q=>V.ref q.2))=H5 at s5 s5' eD2 ⊢
  generalize qs.filter fS=rs at hW lw eD2 ⊢
  have g2:∀w∈ws,w.2.gv.length<=2:=fun w hw=>by
   obtain⟨q,_,h2,h3,_⟩:=Fj hW hw
   exact(yq F h3 (gY h2).1).g2
  have W5:=W.same s5
  have R5:=hR.same s5
  have nr:=R5.cell W5
  refine⟨_,rfl,D2,rfl,⟨_,bI.of eD2⟩,cJ (K:=K) (a:=D2) (xs:=rs.map fun q=>V.ref q.2) (fun j σ H6=>Eb (A.cells ls ps) H5 H6/\dD K t H6 A ls ps (je S (ws.take j))/\∃v5 v6,σ=[some (.ref r),some (.ref L),some (.ref L),some (.ref D1),some (.ref D2),v5,v6]) ⟨fun _ _=>rfl,by simpa [je] using W5,none,none,rfl⟩ (fun j σ H6 _ h=>bI.of (by rw [h.1 D2 nD2'];exact eD2)) ?_ ?_⟩
  ·rintro j x σ H6 hj ⟨m6,W6,v5,v6,rfl⟩
   rw [List.getElem?_map] at hj
   obtain⟨q,hqj,rfl⟩:=Option.map_eq_some_iff.mp hj
   obtain⟨w,hwj,_,h2,hp,U,t1,d1⟩:=Dd hW hqj
   have t6:=W5.tupMov m6 (s5' _ _ t1)
   have d6:=(d1.same s5').mov W5 m6
   obtain⟨dxr,fsr,R3⟩:=R5.mov nr m6
   obtain⟨dxg,fsg,y1,y2⟩:=id W6.at'.ex
   refine⟨q.2,_,rfl,fC.of t6,rfl,_,_,rfl,_,_,rfl,rfl,?_⟩
   refine⟨_,rfl,r,_,dxr,fsr,_,rfl,R3.1.1,T.bQ.c,T.bQ.na.2.1,R3.2.has ("flow",.ref A.f) (by simp),A.f,dxg,fsg,rfl,y1,y2.no _ (by decide +kernel),_,rfl,_,rfl,?_⟩
   refine Xe F W6 hp (b:=b+2 * (ws.take j).length) (fun l hl=>yU (O.len l hl) fun w' hw'=>g2 w' (List.mem_of_mem_take hw')) (by rw [List.length_take];omega) d6 (yq F hp (gY h2).1) fun H7 m7 W7=>⟨fun a ha=>by rw [m7 a ha,m6 a ha],?_,_,_,rfl⟩
   rw [List.take_succ,hwj,Option.toList_some,BK]
   exact W7
  rintro σ H6 ⟨m6,W6,v5,v6,rfl⟩
  rw [lM,lw,List.take_length] at W6
  obtain⟨dxr,fsr,R3⟩:=R5.mov nr m6
  refine⟨_,rfl,r,_,dxr,fsr,.int (n:Nat),rfl,R3.1.1,T.bQ.c,T.bQ.na.2.2.1,R3.2.has ("turns",.int (n:Nat)) (by simp),_,_,rfl,rfl,dxr,fsr,R3.1.1,by have:=R3.1.2;omega,?_⟩
  have R7:=lJ.turned R3
  have W7:=W6.ins (x:=r) nr (o:=.ins t.pH dxr (aH "turns" (.int ((n:Int)+1)) fsr)) nrf
  have m7:∀a,a≠r->a∉A.cells ls ps->upd H6 r (.ins t.pH dxr (aH "turns" (.int ((n:Int)+1)) fsr)) a=H5 a:=fun a h1 h2=>by rw [aK h1,m6 a h2]
  generalize upd H6 r (.ins t.pH dxr (aH "turns" (.int ((n:Int)+1)) fsr))=H7 at R7 W7 m7 ⊢
  have nD2r:D2≠r:=fun z=>by
   obtain⟨_,_,y1,_⟩:=R5
   rw [<-z,eD2] at y1
   cases y1.1
  have eD7:H7 D2=some (.lst (rs.map fun q=>V.ref q.2)):=by rw [m7 D2 nD2r nD2'];exact eD2
  have t7:∀{a:Addr} {vs:List V},H5 a=some (.tup vs)->H7 a=some (.tup vs):=fun {a vs} h=>by
   rw [m7 a (fun z=>by obtain⟨_,_,y1,_⟩:=R5;rw [<-z,h] at y1;cases y1.1) (W5.ncell h (by intro _ z;cases z) (by intro _ z;cases z))]
   exact h
  have c7:aJ (bA (r:: A.cells ls ps) H) (bA (r:: A.cells ls ps) H7):=fun a o e=>by
   have hn:a∉r:: A.cells ls ps:=fun z=>by unfold bA at e;rw [if_pos z] at e;cases e
   have e':=s5 _ _ (bR a o e)
   unfold bA
   rw [if_neg hn,m7 a (fun z=>hn (by rw [z];exact List.mem_cons_self)) (fun z=>hn (List.mem_cons_of_mem _ z))]
   exact e'
  refine⟨_,rfl,D2,rfl,⟨_,bI.of eD7⟩,?_⟩
  refine Cr (K:=K) (a:=D2) (xs:=rs.map fun q=>V.ref q.2) (fun j ys H8=>H8=H7/\ys=(ws.take j).map fun w=>V.str w.1.name) (by rw [lM];omega) ⟨rfl,rfl⟩ ?_ (fun j ys H8 _ ⟨e,_⟩=>by rw [e];exact bI.of eD7) ?_ ?_
  ·rintro j ys H8 ⟨_,rfl⟩
   rw [lM,List.length_take]
   omega
  ·rintro j v ys H8 hj ⟨rfl,rfl⟩
   rw [List.getElem?_map] at hj
   obtain⟨q,hqj,rfl⟩:=Option.map_eq_some_iff.mp hj
   obtain⟨w,hwj,_,_,_,U,t1,_⟩:=Dd hW hqj
   refine⟨q.2,_,rfl,fC.of (t7 (s5' _ _ t1)),rfl,_,_,rfl,_,_,rfl,rfl,rfl,?_⟩
   refine yes ⟨_,rfl,rfl,?_⟩
   rw [List.take_succ,hwj,Option.toList_some,List.map_append]
   rfl
  rintro ys H8 ⟨rfl,rfl⟩ p np
  rw [lM,lw,List.take_length]
  have s8:=aB (o:=.lst (ws.map fun w=>V.str w.1.name)) np
  have np5:H5 p=none:=by
   cases e:H5 p with
   | none=>rfl
   | some o=>
    have h1:p≠r:=fun z=>by
     obtain⟨_,_,y1,_⟩:=R7
     rw [<-z,np] at y1
     cases y1.1
    rw [<-m7 p h1 (W7.cell np),np] at e
    cases e
  have c8:aJ (bA (r:: A.cells ls ps) H) (bA (r:: A.cells ls ps) (upd H8 p (.lst (ws.map fun w=>V.str w.1.name)))):=c7.trans (Bh np)
  refine k _ p c8 ⟨R7.same s8,Nc.same c8,?_,nrf⟩ (s5.free np5) (by rw [az,hws])
  unfold j5
  rw [<-hws]
  exact W7.same s8
inductive Ek (K:PySem.W.Frag) (vs:List V) (H:Hp) (Q:VK) (E:XK):Prop where
 | mk:∀(a:Addr) (ws:List Int),vs=[.ref a]->bI K H a (ws.map V.int)->ws.length<=300->((∀v∈ws,0<=v/\v <1000000000))->(∀H',aJ H H'->Q (.bl true) H')->Ek K vs H Q E
theorem Oo (T:Txt w K mg t):FO P w K mg base 3 t.Jb ["thing"] (Ek K):=by
 have sc:=T.Do.sc ["thing"]
 refine T.Do.F.ok sc ln (fun _ _ _ _ H vs Q E hr h=>?_)
 obtain⟨a,ws,rfl,hS,hl,hB,k⟩:=h
 refine⟨_,(aA (aN (yQ (bw lV (by rfl) T.fG eN (aa (pv 0) (aa (pN (by rfl) T.uI qu) ak aj) aj)) (yQ (p7 vN (bw bV (by rfl) T.fX dG (aa (pv 0) ak aj)) (jm (by rfl) T.Ec) (bH _)) (zj (bw (yD rfl) (by rfl) T.K4 GQ (aa (eX [] ["thing"] (aU (top 61)) rfl (bN (pv 0)) (fun _ _ _ _ _=>iC) (fun _ _ _ _ _=>(dC (tM T) T.oH hr (aa (pv 0) ak aj)))) ak gZ))))))),?_⟩
 have hz:sizeLine=16777216:=sizeLine_eq
 refine⟨_,rfl,_,_,_,_,rfl,.inl ⟨rfl,_,hS⟩,by decide,rfl,_,rfl,fU ?_⟩
 refine⟨_,rfl,_,(ws.map V.int).length,rfl,.inl ⟨_,hS,by simp⟩,_,_,rfl,rfl,_,rfl,?_⟩
 rw [lM,decide_eq_true (show(ws.length:Int)<=300 by omega)]
 refine fU ?_
 refine⟨_,rfl,a,rfl,⟨_,hS⟩,d7 (K:=K) (a:=a) (xs:=ws.map V.int) (fun j ys H'=>H'=H/\ys=(List.replicate j true).map V.bl) (by rw [lM];omega) ⟨rfl,rfl⟩ (fun j ys H' ⟨_,e⟩=>by rw [e];simp) (fun j ys H' _ ⟨e,_⟩=>by rw [e];exact hS) ?_ ?_⟩
 ·rintro j x ys H' hx ⟨rfl,rfl⟩
  rw [List.getElem?_map] at hx
  obtain⟨n,hn,rfl⟩:=Option.map_eq_some_iff.mp hx
  obtain⟨n0,n1⟩:=hB n (List.mem_of_getElem? hn)
  refine yes ⟨_,rfl,.int n,rfl,.inl ⟨n,rfl,rfl,?_⟩⟩
  rw [decide_eq_true n0,decide_eq_true n1,List.replicate_succ']
  simp
 rintro ys H' ⟨rfl,rfl⟩ D hD
 refine⟨D,List.replicate (ws.map V.int).length true,rfl,bI.of az,?_⟩
 rw [show(List.replicate (ws.map V.int).length true).all id=true by simp]
 exact k _ (aB hD)
structure Kd (ps:List PD) (RW:List (Str×Addr×List Int)):Prop where
 door:∀q∈RW,V.str q.1∈dH ps "give"
 bnd:∀q∈RW,∀v∈q.2.2,0<=v/\v <1000000000
theorem NP {ls:List aG} {ps:List PD} {RW:List (Str×Addr×List Int)} (F:wg ls ps) (hl:∀q∈RW,q.2.2.length<=300) (hb:∀q∈RW,∀v∈q.2.2,0<=v/\v <1000000000):Bc 199 ls ps (jf ls ps RW):=by
 have rq:∀x,vy RW x=[]∨∃q∈RW,vy RW x=q.2.2:=fun x=>by
  unfold vy
  cases e:RW.find? fun q=>decide (q.1=x) with
  | none=>exact .inl rfl
  | some q=>exact .inr ⟨q,List.mem_of_find?_eq_some e,rfl⟩
 refine⟨fun l h v hv=>?_,fun p hp h0 v hv=>?_,fun p hp h0=>Nat.zero_le _,fun l h=>?_,fun p hp h0=>?_⟩
 ·have e:(jf ls ps RW).ev l.name=l.first:=xX F.whole.nod h
  rw [e] at hv
  exact(F.lok l h).2.2.2 v hv
 ·rcases rq p.name with e | ⟨q,hq,e⟩
  ·rw [show(jf ls ps RW).r p.name=[] from e] at hv
   cases hv
  ·rw [show(jf ls ps RW).r p.name=q.2.2 from e] at hv
   exact hb q hq v hv
 ·have e:(jf ls ps RW).ev l.name=l.first:=xX F.whole.nod h
  rw [e]
  have:=F.lok l h
  omega
 ·rcases rq p.name with e | ⟨q,hq,e⟩
  ·rw [show(jf ls ps RW).r p.name=[] from e]
   exact Nat.zero_le _
  ·rw [show(jf ls ps RW).r p.name=q.2.2 from e]
   exact hl q hq
inductive yu (K:PySem.W.Frag) (t:ji) (vs:List V) (H:Hp) (Q:VK) (E:XK):Prop where
 | mk:∀(n rw:Addr) (ls:List aG) (ps:List PD) (RW:List (Str×Addr×List Int)),vs=[.ref n,.ref rw]->gJ K t H n ls ps->oU H rw RW->Kd ps RW->(∀H',aJ H H'->Q .non H')->yu K t vs H Q E
theorem G3 (T:Txt w K mg t):FO P w K mg base 4 t.zG ["net", "rows"] (yu K t):=by
 have sc:=T.ud.sc ["net", "rows", "doors", "door"]
 refine T.ud.F.ok sc ln (fun _ _ _ _ H vs Q E hr h=>?_)
 obtain⟨n,rw,ls,ps,RW,rfl,N,hrw,hO,k⟩:=h
 refine⟨_,(aq (sN sc 2 (Oz (pv 0) T.bj T.bj.me.2.2.2.2.1 (nj T) T.jA hr))
  (aq (xY (H0:=H) rfl (du PassesOwn.never rfl (xW (pv 1)) (gN sc 3)
   (aA (bM (bc jQ (pv 3) (pv 2) (by with_unfolding_all rfl))
    (aA dN)
    bu))))
  (aA (xY (H0:=H) rfl (du PassesOwn.never rfl (xW (pv 1)) (gN sc 3)
   (aA (bM (gK (fW (dC (Oo T) T.Do hr (aa (b8 hr.u1 (pv 1) (pv 3) (fun _ _=>rfl)) ak aF))))
    (aA dN)
    bu))))))),?_⟩
 have hz:sizeLine=16777216:=sizeLine_eq
 obtain⟨dxn,fsn,R,F,Pd,Gn,Tk,FL,PL,Wn⟩:=id N
 refine⟨_,rfl,n,dxn,fsn,rfl,Wn.obj,Wn.fl.no _ (by decide +kernel),n,ls,ps,rfl,N,fun l nl=>?_⟩
 have s1:=aB (o:=.lst (dH ps "give")) nl
 have el:upd H l (.lst (dH ps "give")) l=some (.lst (dH ps "give")):=az
 generalize upd H l (.lst (dH ps "give"))=H1 at s1 el ⊢
 have fl:(dH ps "give").all jz=true:=by
  rw [List.all_eq_true]
  intro v hv
  obtain⟨p,_,rfl⟩:=List.mem_map.mp hv
  rfl
 have w1:=hrw.same s1
 have nf:∀(o':Obj) (u':HO),H rw≠some (.frz o' u'):=fun o' u' z=>by rw [hrw.dict] at z;cases z
 refine⟨_,rfl,rw,_,rfl,w1.dict,fun o=>wZ (fun j σ H'=>H'=upd H1 rw (.frz o (.dK (fD RW)))/\∃v3,σ=[some (.ref n),some (.ref rw),some (.ref l),v3]) ⟨rfl,none,rfl⟩ (fun j σ H' _ ⟨e,_⟩=>by rw [e];exact az) ?_ ?_⟩
 ·rintro j kk v σ H' hj ⟨rfl,v3,rfl⟩
  unfold fD at hj
  rw [List.getElem?_map] at hj
  obtain⟨q,hq,e⟩:=Option.map_eq_some_iff.mp hj
  cases e
  refine⟨_,rfl,_,rfl,l,_,rfl,.inl (bI.of (jD w1.dict el (by intro _ z;cases z))),rfl,fl,_,rfl,?_⟩
  have hin:inV (kV (Sum.inr q.1)) (dH ps "give")=true:=Rk (hO.door q (List.mem_of_getElem? hq)) (by simp [JV,kV])
  rw [hin]
  exact cz ⟨rfl,_,rfl⟩
 rintro σ H' ⟨rfl,v3,rfl⟩
 refine⟨_,⟨rw,o,_,az,nf,rfl⟩,?_⟩
 rw [sS,Hm w1.dict]
 refine⟨_,rfl,rw,_,rfl,w1.dict,fun o=>wZ (fun j σ H'=>aJ (upd H1 rw (.frz o (.dK (fD RW)))) H'/\∃v3,σ=[some (.ref n),some (.ref rw),some (.ref l),v3]) ⟨aJ.refl _,v3,rfl⟩ (fun j σ H' _ ⟨e,_⟩=>e _ _ az) ?_ ?_⟩
 ·rintro j kk v σ H' hj ⟨s2,v3,rfl⟩
  unfold fD at hj
  rw [List.getElem?_map] at hj
  obtain⟨q,hq,e⟩:=Option.map_eq_some_iff.mp hj
  cases e
  have hm:=List.mem_of_getElem? hq
  have vq:bT (fD RW) (Sum.inr q.1)=some (.ref q.2.1):=gq (by rw [oY];exact eQ hrw.nd) (List.mem_map.mpr ⟨q,hm,rfl⟩)
  have eq2:=s2 _ _ (jD w1.dict (w1.lists q hm) (by intro _ z;cases z))
  refine⟨_,rfl,_,rfl,rw,_,rfl,(by rw [<-vq];exact .inl ⟨_,Sum.inr q.1,.inr ⟨o,s2 _ _ az⟩,rfl,rfl⟩),q.2.1,q.2.2,rfl,bI.of eq2,hrw.len q hm,hO.bnd q hm,fun H3 s3=>⟨_,rfl,cz ⟨s2.trans s3,_,rfl⟩⟩⟩
 rintro σ H' ⟨s2,v3,rfl⟩
 refine⟨_,⟨rw,o,_,s2 _ _ az,nf,rfl⟩,?_⟩
 refine k _ fun b u e=>?_
 by_cases hb:b=rw
 ·subst hb
  rw [az]
  rw [hrw.dict] at e
  exact e
 ·rw [aK hb]
  exact s2 _ _ (by rw [aK hb];exact s1 _ _ e)
theorem Qg {H:Hp} {Q:VK} {Ex:XK} {H0:Hp} {f dx n rw:Addr} {ls:List aG} {ps:List PD} {RW:List (Str×Addr×List Int)} (hf:H f=some (.ins t.bY dx [])) (s0:aJ H0 H) (nf:H0 f=none) (N:gJ K t H0 n ls ps) (hrw:oU H0 rw RW)
  (k:∀(H':Hp) (A:mF),A.f=f->A.n=n->lX f H H'->dD K t H' A ls ps (jf ls ps RW)->(∀a∈A.cells ls ps,H a=none)->Q .non H'):gw K t [.ref f,.ref n,.ref rw] H Q Ex:=by
 unfold gw
 exact⟨H0,f,dx,n,rw,ls,ps,RW,rfl,hf,s0,nf,N,hrw,k⟩
inductive rE (K:PySem.W.Frag) (t:ji) (vs:List V) (H:Hp) (Q:VK):Prop where
 | mk:∀(H0:Hp) (r dx n rw:Addr) (ls:List aG) (ps:List PD) (RW:List (Str×Addr×List Int)),vs=[.ref r,.ref n,.ref rw]->H r=some (.ins t.pH dx [])->aJ H0 H->H0 r=none->gJ K t H0 n ls ps->oU H0 rw RW->Kd ps RW->(∀H' A,A.n=n->aJ H0 H'->sy K t H' r 0 A ls ps (jf ls ps RW)->(∀a∈A.cells ls ps,H0 a=none)->Q .non H')->rE K t vs H Q
@[irreducible] noncomputable def gU (K:PySem.W.Frag) (t:ji):Sp:=fun vs H Q _=>rE K t vs H Q
theorem Av (T:Txt w K mg t):FO P w K mg base 6 t.pq ["self", "net", "rows"] (gU K t):=by
 have sc:=T.jO.sc ["self", "net", "rows"]
 refine T.jO.F.ok sc (fun vs H Q E h=>?_) (fun cdv A outer s H vs Q E hr h=>?_)
 ·unfold gU at h
  obtain⟨H0,r,dx,n,rw,ls,ps,RW,rfl,_⟩:=h
  rfl
 ·unfold gU at h
  obtain⟨H0,r,dx,n,rw,ls,ps,RW,rfl,hr1,s0,nr0,N,hrw,hO,k⟩:=h
  refine⟨_,(aq (bK (dC (G3 T) T.ud hr (aa (pv 1) (aa (pv 2) ak aj) aj)))
   (aq (ik (pv 0) (pv 1) rfl)
   (aq (ik (pv 0) (iu (T.aO.M T.ju) (yP T) (hr.mono (by decide)) (by rfl) T.aO.m T.ju.b .nil ir (aa (pv 1) (aa (pv 2) ak aj) aj)) rfl)
   (aA (ik (pv 0) au rfl))))),?_⟩
  refine⟨_,rfl,_,rfl,n,rw,ls,ps,RW,rfl,N.same s0,hrw.same s0,hO,fun H1 s1=>?_⟩
  have T0:=(Tr.start hr1).same s1
  refine⟨_,rfl,_,rfl,r,_,dx,[],rfl,s1 _ _ hr1,T.bQ.c,T.bQ.na.1,by show 0 <1000;decide,?_⟩
  have T1:=T0.put (L1:=[]) (L2:=[]) (o':=.ins t.pH dx (aH "net" (.ref n) []))
  generalize upd H1 r (.ins t.pH dx (aH "net" (.ref n) []))=H2 at T1 ⊢
  have s02:aJ H0 H2:=fun x o e=>T1.but x o (aD e nr0) (s0 x o e)
  have er2:=T1.all (r,.ins t.pH dx (aH "net" (.ref n) [])) (.head _)
  refine⟨_,rfl,_,rfl,fun f dxf nf ndf nef=>?_⟩
  have s3:aJ H2 (upd (upd H2 dxf (.own f)) f (.ins t.bY dxf [])):=fun b o e=>by rw [aK (aD e nf),aK (aD e ndf)];exact e
  have ef:(upd (upd H2 dxf (.own f)) f (.ins t.bY dxf [])) f=some (.ins t.bY dxf []):=az
  generalize upd (upd H2 dxf (.own f)) f (.ins t.bY dxf [])=H3 at s3 ef ⊢
  have s03:=s02.trans s3
  have nfr:r≠f:=aD er2 nf
  refine Qg ef s03 (s02.free nf) N hrw fun H4 A eAf eAn b4 W4 fr4=>⟨rfl,?_⟩
  subst eAf
  subst eAn
  have er4:=b4 r _ nfr (s3 _ _ er2)
  have nrc:r∉A.cells ls ps:=W4.ncell er4 (by intro _ z;cases z) (by intro _ z;cases z)
  refine⟨_,rfl,r,_,dx,_,rfl,er4,T.bQ.c,T.bQ.na.2.1,Nat.lt_of_le_of_lt (gW (Nat.zero_le 0)) (by decide),?_⟩
  have er5:upd H4 r (.ins t.pH dx (aH "flow" (.ref A.f) (aH "net" (.ref A.n) []))) r=some (.ins t.pH dx (aH "flow" (.ref A.f) (aH "net" (.ref A.n) []))):=az
  refine⟨_,rfl,r,_,dx,_,rfl,er5,T.bQ.c,T.bQ.na.2.2.1,Nat.lt_of_le_of_lt (gW (gW (Nat.zero_le 0))) (by decide),?_⟩
  rw [sS]
  have s05:∀o:HO,aJ H0 (upd H4 r o):=fun o b u e=>by
   rw [aK (aD e nr0)]
   exact b4 b u (aD e (s02.free nf)) (s03 b u e)
  have fr0:∀a∈A.cells ls ps,H0 a=none:=fun a ha=>s03.free (fr4 a ha)
  refine k _ A rfl (s05 _) ⟨⟨dx,_,⟨az,gW (gW (gW (Nat.zero_le 0)))⟩,⟨?_,?_⟩⟩,N.same fun b u e=>?_,W4.ins nrc nfr,nfr⟩ fr0
  ·intro q hq
   simp only [List.mem_cons,List.not_mem_nil,or_false] at hq
   rcases hq with rfl | rfl | rfl
   ·dsimp only;(repeat first | (rw [aC,if_pos rfl];done) | rw [aC,if_neg (by decide +kernel)])
   ·dsimp only;(repeat first | (rw [aC,if_pos rfl];done) | rw [aC,if_neg (by decide +kernel)])
   ·dsimp only
    rw [aC,if_pos rfl]
    rfl
  ·intro m hm
   have hne:∀m∈(["step", "need_doors", "next_deed", "full_lane", "can_work", "works", "lane_now", "turn", "rows_left"]:List Str),∀g∈(["turns", "flow", "net"]:List Str),¬m=g:=by decide +kernel
   have h:=hne m hm
   rw [aC,if_neg (h _ (by simp)),aC,if_neg (h _ (by simp)),aC,if_neg (h _ (by simp))]
   rfl
  ·have hn:b∉r:: A.cells ls ps:=fun z=>by
    rcases List.mem_cons.mp z with z | z
    ·rw [z,nr0] at e;cases e
    ·rw [fr0 b z] at e;cases e
   unfold bA
   rw [if_neg hn]
   exact s05 _ b u e
inductive rn (K:PySem.W.Frag) (t:ji) (vs:List V) (H:Hp) (Q:VK) (E_:XK):Prop where
 | mk:∀(f n E G Kp D Rw l:Addr) (ed gd:List (Key×V)) (x:Str) (vs':List V) (g:Nat),vs=[.ref f,.str x]->o9 K t H f n E G Kp D Rw->H Rw=some (.dK ed)->H D=some (.dK gd)->bT ed (Sum.inr x)=some (.ref l)->bT gd (Sum.inr x)=some (.int g)->bI K H l vs'->(∀p,H p=none->Q (.ref p) (upd H p (.lst (vs'.drop g))))->rn K t vs H Q E_
theorem yN (T:Txt w K mg t):FO P w K mg base 1 t.mH ["self", "door"] (rn K t):=by
 have sc:=T.mU.sc ["self", "door"]
 refine T.mU.F.ok sc ln (fun _ _ _ _ H vs Q E hr h=>?_)
 obtain⟨f,n,E,G,Kp,D,Rw,l,ed,gd,x,vs',g,rfl,N,hE,hG,h3,h4,h5,k⟩:=h
 refine⟨_,(aA (aN (jU rO (b8 hr.u1 (bh (pv 0) rfl) (pv 1) (fun _ _=>rfl)) (jK (b8 hr.u1 (bh (pv 0) rfl) (pv 1) (fun _ _=>rfl))) sI))),?_⟩
 obtain⟨dx,fs,h1,h2⟩:=id N.ex
 refine⟨_,rfl,f,_,dx,fs,_,rfl,h1,T.aO.c,T.aO.na.2.2.2.2.2.1,h2.has ("rows",.ref Rw) (by simp),_,rfl,Rw,_,rfl,(by rw [<-h3];exact d9.k (k:=Sum.inr x) hE),?_⟩
 refine⟨_,rfl,f,_,dx,fs,_,rfl,h1,T.aO.c,T.aO.na.2.2.2.2.1,h2.has ("done",.ref D) (by simp),_,rfl,D,_,rfl,(by rw [<-h4];exact d9.k (k:=Sum.inr x) hG),?_⟩
 refine⟨_,rfl,l,vs',rfl,h5,fun p hp=>?_⟩
 rw [Jc]
 exact k p hp
structure yZ (H:Hp) (D:Addr) (ra:Str->Addr) (ps:List PD) (S:FS):Prop where
 dict:H D=some (.dK (Ef ra ps))
 lists:∀p∈ps,p.kind=0->H (ra p.name)=some (.lst (((S.r p.name).drop (S.d p.name)).map V.int))
theorem yZ.same {H H':Hp} {D:Addr} {ra:Str->Addr} {ps:List PD} {S:FS} (h:yZ H D ra ps S) (s:aJ H H'):yZ H' D ra ps S:=⟨s _ _ h.dict,fun p hp h0=>s _ _ (h.lists p hp h0)⟩
inductive rK (K:PySem.W.Frag) (t:ji) (vs:List V) (H:Hp) (Q:VK) (E:XK):Prop where
 | mk:∀(r:Addr) (n:Nat) (A:mF) (ls:List aG) (ps:List PD) (S:FS),vs=[.ref r]->lJ t H r A.n A.f n->gJ K t H A.n ls ps->dD K t H A ls ps S->(∀(H':Hp) (D:Addr) (ra:Str->Addr),aJ H H'->yZ H' D ra ps S->H D=none->Q (.ref D) H')->rK K t vs H Q E
theorem yX (T:Txt w K mg t):FO P w K mg base 4 t.mQ ["self"] (rK K t):=by
 have sc:=T.mD.sc ["self", "left", "door"]
 refine T.mD.F.ok sc ln (fun _ _ _ _ H vs Q E hr h=>?_)
 obtain⟨r,n,A,ls,ps,S,rfl,hR,N,W,k⟩:=h
 refine⟨_,(aq (sN sc 1 fM)
  (aq (du PassesOwn.never rfl (bN (Oz (bh (pv 0) rfl) T.bj T.bj.me.2.2.2.2.1 (nj T) T.jA hr)) (gN sc 2)
   (aA (gh hr.u1 (pv 1) (pv 2) (wD (bh (pv 0) rfl) T.aO T.aO.me.2.2.2.2.2.2.2.2.2.1 (yN T) T.mU hr (aa (pv 2) ak aj)) rfl)))
  (aA (aN (pv 1))))),?_⟩
 have hz:sizeLine=16777216:=sizeLine_eq
 have F:wg ls ps:=by obtain⟨_,_,_,_,_,_,_,_,_,Wn⟩:=N;exact Wn.fit
 have p16:=F.p16
 refine fun D nD=>?_
 have s1:=aB (o:=.dK []) nD
 have eD:upd H D (.dK []) D=some (.dK []):=az
 have sC:aJ H (bA [D] (upd H D (.dK []))):=fun b o e=>dU (s1 _ _ e) (by simpa using aD e nD)
 generalize upd H D (.dK [])=H1 at s1 eD sC ⊢
 obtain⟨dxn,fsn,R,F0,Pd,Gn,Tk,FL,PL,Wn⟩:=N.same s1
 obtain⟨dxr,fsr,R1⟩:=hR.same s1
 refine⟨_,rfl,r,_,dxr,fsr,_,rfl,R1.1.1,T.bQ.c,T.bQ.na.1,R1.2.has ("net",.ref A.n) (by simp),A.n,dxn,fsn,rfl,Wn.obj,Wn.fl.no _ (by decide +kernel),A.n,ls,ps,rfl,Wn.s,fun l nl=>?_⟩
 have ePg:dH ps "give" =(jx ps).map fun p=>V.str p.name:=by unfold dH;rw [J5 F.pok]
 rw [ePg]
 have lgP:(jx ps).length<=16:=by have:=List.length_filter_le (fun p:PD=>decide (p.kind=0)) ps;unfold jx;omega
 have nlD:l∉[D]:=by simp;intro z;rw [z,eD] at nl;cases nl
 have eD2:upd H1 l (.lst ((jx ps).map fun p=>V.str p.name)) D=some (.dK []):=aB nl _ _ eD
 have el:bA [D] (upd H1 l (.lst ((jx ps).map fun p=>V.str p.name))) l=some (.lst ((jx ps).map fun p=>V.str p.name)):=dU az nlD
 have sC2:=sC.trans (Bh (E:=[D]) (o:=.lst ((jx ps).map fun p=>V.str p.name)) nl)
 generalize upd H1 l (.lst ((jx ps).map fun p=>V.str p.name))=H2 at eD2 el sC2 ⊢
 refine⟨l,rfl,⟨_,bI.of (bR _ _ el)⟩,cJ (K:=K) (a:=l) (xs:=(jx ps).map fun p=>V.str p.name) (fun j σ H'=>(∃v2,σ=[some (.ref r),some (.ref D),v2])/\aJ (bA [D] H2) (bA [D] H')/\∃RL:List (PD×Addr),RL.map (·.1)=(jx ps).take j/\H' D=some (.dK (RL.map fun q=>((Sum.inr q.1.name:Key),V.ref q.2)))/\∀q∈RL,bA [D] H' q.2=some (.lst (((S.r q.1.name).drop (S.d q.1.name)).map V.int))) ⟨⟨none,rfl⟩,aJ.refl _,[],rfl,eD2,by simp⟩ (fun j σ H' _ h=>bI.of (bR _ _ (h.2.1 _ _ el))) ?_ ?_⟩
 ·rintro j x σ H3 hx ⟨⟨w2,rfl⟩,c3,RL,eRL,eD3,hRL⟩
  rw [List.getElem?_map] at hx
  obtain⟨p,hpj,rfl⟩:=Option.map_eq_some_iff.mp hx
  have hf:=List.mem_filter.mp (List.mem_of_getElem? hpj)
  have h0:p.kind=0:=by simpa using hf.2
  have s3:=(sC2.trans c3).trans bR
  have W3:=W.same s3
  obtain⟨dxr,fsr,R2⟩:=hR.same s3
  obtain⟨dx,fs,h1,h2⟩:=id W3.at'.ex
  have nin:=mj (Gj F.pnd) hpj
  have lRL:RL.length<=16:=by have:=congrArg List.length eRL;rw [lM,List.length_take] at this;omega
  have vR:bT (RL.map fun q=>((Sum.inr q.1.name:Key),V.ref q.2)) (Sum.inr p.name)=none:=fJ (by
   rw [List.map_map]
   intro z
   obtain⟨q,hq,e⟩:=List.mem_map.mp z
   have hm:q.1∈RL.map (·.1):=List.mem_map.mpr ⟨q,hq,rfl⟩
   rw [eRL] at hm
   exact nin (List.mem_map.mpr ⟨q.1,hm,by injection e⟩))
  refine⟨_,rfl,r,_,dxr,fsr,_,rfl,R2.1.1,T.bQ.c,T.bQ.na.2.1,R2.2.has ("flow",.ref A.f) (by simp),A.f,dx,fs,rfl,h1,h2.no _ (by decide +kernel),_,rfl,A.f,A.n,A.E,A.G,A.Kp,A.D,A.Rw,A.ra p.name,_,_,p.name,_,S.d p.name,rfl,W3.at',W3.rows,W3.done,o7 F.pnd hf.1 h0,rB (k:=fun x=>(S.d x:Int)) F.pnd hf.1,bI.of (W3.rlst p hf.1 h0),fun u nu=>?_⟩
  rw [<-List.map_drop]
  have nuD:u≠D:=fun z=>by rw [z,eD3] at nu;cases nu
  refine⟨_,rfl,_,rfl,D,_,rfl,ph.k (k:=Sum.inr p.name) (by rw [aK (Ne.symm nuD)];exact eD3) (by rw [lM];omega),?_⟩
  rw [iR _ vR]
  refine⟨⟨_,rfl⟩,by rw [dW (by simp)];exact c3.trans (Bh nu),RL ++ [(p,u)],by rw [List.map_append,eRL,List.take_succ,hpj];rfl,by rw [az,List.map_append];rfl,fun q hq=>?_⟩
  rw [dW (by simp)]
  rcases List.mem_append.mp hq with h | h
  ·exact Bh nu _ _ (hRL q h)
  ·rw [List.mem_singleton] at h
   subst h
   exact dU az (by simpa using nuD)
 rintro σ H3 ⟨⟨w2,rfl⟩,c3,RL,eRL,eD3,hRL⟩
 rw [lM,List.take_length] at eRL
 have nR:(RL.map fun q=>q.1.name).Nodup:=by
  have:(RL.map (·.1)).map (·.name)=RL.map fun q=>q.1.name:=by rw [List.map_map];rfl
  rw [<-this,eRL]
  exact Gj F.pnd
 refine⟨_,rfl,k H3 D (oV (·.name) RL) ((sC2.trans c3).trans bR) ⟨?_,fun p hp h0=>?_⟩ nD⟩
 ·have:Ef (oV (·.name) RL) ps=RL.map fun q=>((Sum.inr q.1.name:Key),V.ref q.2):=by
   unfold Ef
   rw [<-eRL,List.map_map]
   refine List.map_congr_left fun q hq=>?_
   show((Sum.inr q.1.name:Key),V.ref (oV (·.name) RL q.1.name))=_
   rw [show oV (·.name) RL q.1.name=q.2 from jN nR hq]
  rw [this]
  exact eD3
 ·have hm:p∈RL.map (·.1):=by rw [eRL];exact List.mem_filter.mpr ⟨hp,by simp [h0]⟩
  obtain⟨q,hq,rfl⟩:=List.mem_map.mp hm
  rw [show oV (·.name) RL q.1.name=q.2 from jN nR hq]
  exact bR _ _ (hRL q hq)
theorem K9 (i:Nat) (xs:List Str) (hs:List V):dz i xs hs=.non∨∃x,dz i xs hs=.str x:=by
 unfold dz
 split
 ·rename_i q _
  cases xs[q]? with
  | none=>exact .inl rfl
  | some x=>exact .inr ⟨x,rfl⟩
 ·exact .inl rfl
noncomputable def Ow (S:FS) (p:PD):List (Str×Int):=(cB p.kind p.nums (yI S p) (S.k p.name)).map fun pv=>(strAt p.outs pv.1.toNat,pv.2)
noncomputable def eY (ls:List aG) (S:FS) (p:PD):Option (Str×Str):=match dz p.kind p.ins (aW S p) with
 | .str x=>some (x,("value" :Str))
 | _=>if qT S p=true then some (("" :Str),("end" :Str)) else match (Ow S p).find? (oN ls S) with
  | some q=>some (q.1,("room" :Str))
  | none=>none
theorem LK {ls:List aG} {S:FS} {p:PD} {x:Str} (h:dz p.kind p.ins (aW S p)=.str x):eY ls S p=some (x,("value" :Str)):=by unfold eY;rw [h]
theorem MT {ls:List aG} {S:FS} {p:PD} (h:dz p.kind p.ins (aW S p)=.non) (he:qT S p=true):eY ls S p=some (("" :Str),("end" :Str)):=by unfold eY;rw [h];exact if_pos he
theorem Lb {ls:List aG} {S:FS} {p:PD} (h:dz p.kind p.ins (aW S p)=.non) (he:qT S p=false):eY ls S p=match (Ow S p).find? (oN ls S) with
  | some q=>some (q.1,("room" :Str))
  | none=>none:=by unfold eY;rw [h];exact if_neg (by simp [he])
inductive Al (K:PySem.W.Frag) (t:ji) (vs:List V) (H:Hp) (Q:VK):Prop where
 | mk:∀(b:Nat) (r:Addr) (n:Nat) (A:mF) (ls:List aG) (ps:List PD) (S:FS) (p:PD),vs=[.ref r,.str p.name]->lJ t H r A.n A.f n->gJ K t H A.n ls ps->dD K t H A ls ps S->Bc b ls ps S->p∈ps->((eY ls S p=none->∀H',aJ H H'->Q .non H'))->(∀x y,eY ls S p=some (x,y)->∀H' u,aJ H H'->H u=none->H' u=some (.tup [.str p.name,.str x,.str y])->Q (.ref u) H')->Al K t vs H Q
@[irreducible] noncomputable def o8 (K:PySem.W.Frag) (t:ji):Sp:=fun vs H Q _=>Al K t vs H Q
theorem KC (T:Txt w K mg t):FO P w K mg base 6 t.Fq ["run", "name"] (o8 K t):=by
 have sc:=T.zg.sc ["run", "name", "lane"]
 refine T.zg.F.ok sc (fun vs H Q E h=>?_) (fun cdv A outer s H vs Q E hr h=>?_)
 ·unfold o8 at h
  obtain⟨b,r,n,A,ls,ps,S,p,rfl,_⟩:=h
  rfl
 ·unfold o8 at h
  obtain⟨b,r,n,A,ls,ps,S,p,rfl,hR,N,W,O,hp,kN,kS⟩:=h
  refine⟨_,(aq (sN sc 2 (wD (bh (pv 0) rfl) T.aO T.aO.me.2.2.2.2.2.2.1 (tD T) T.jW hr (aa (pv 1) ak aj)))
   (aq (bM (gH (rP (pv 2)))
    (aA (aN (cg (aa (pv 1) (aa (pv 2) (aa bG ak ao) aj) aj))))
    bu)
   (aq (bM (fW (wD (bh (pv 0) rfl) T.aO T.aO.me.2.2.2.2.1 (pW T) T.jc hr (aa (pv 1) ak aj)))
    (aA (aN (cg (aa (pv 1) (aa bG (aa bG ak ao) ao) aj))))
    bu)
   (aq (sN sc 2 (wD (pv 0) T.bQ T.bQ.me.2.1 (rJ T) T.jt hr (aa (wD (bh (pv 0) rfl) T.aO T.aO.me.2.2.2.2.2.2.2.1 (yd T) T.pU hr (aa (pv 1) ak aj)) ak aY)))
   (aA (aN (rH (gH (zy (pv 2))) uO (cg (aa (pv 1) (aa (pv 2) (aa bG ak ao) aj) aj))))))))),?_⟩
  have hz:sizeLine=16777216:=sizeLine_eq
  have F:wg ls ps:=by obtain⟨_,_,_,_,_,_,_,_,_,Wn⟩:=N;exact Wn.fit
  obtain⟨dxr,fsr,R0⟩:=id hR
  obtain⟨dx,fs,h1,h2⟩:=id W.at'.ex
  have vd:=rB (k:=fun x=>(S.d x:Int)) F.pnd hp
  refine⟨_,rfl,r,_,dxr,fsr,_,rfl,R0.1.1,T.bQ.c,T.bQ.na.2.1,R0.2.has ("flow",.ref A.f) (by simp),A.f,dx,fs,rfl,h1,h2.no _ (by decide +kernel),_,rfl,A,ls,ps,S,p,rfl,N,W,hp,fun H1 s1=>?_⟩
  rcases K9 p.kind p.ins (aW S p) with hlk | ⟨x,hlk⟩
  rotate_left
  ·rw [hlk]
   exact⟨_,rfl,_,rfl,fU ⟨_,rfl,_,rfl,iw,fun u nu=>kS _ _ (LK hlk) _ u (s1.trans (aB nu)) (s1.free nu) az⟩⟩
  rw [hlk]
  refine⟨_,rfl,_,rfl,cz ?_⟩
  obtain⟨dxr,fsr,R1⟩:=hR.same s1
  have W1:=W.same s1
  refine⟨_,rfl,r,_,dxr,fsr,_,rfl,R1.1.1,T.bQ.c,T.bQ.na.2.1,R1.2.has ("flow",.ref A.f) (by simp),A.f,dx,fs,rfl,s1 _ _ h1,h2.no _ (by decide +kernel),_,rfl,?_⟩
  cases he:qT S p with
  | true=>
   have h0:p.kind=0/\S.d p.name=(S.r p.name).length:=by unfold qT at he;simpa using he
   refine Mv W1.at' W1.rows W1.done (.inr ⟨_,_,S.d p.name,o7 F.pnd hp h0.1,vd,bI.of (W1.rlst p hp h0.1),?_⟩)
   rw [decide_eq_true (by rw [lM];exact h0.2)]
   exact⟨_,rfl,fU ⟨_,rfl,iw,fun u nu=>kS _ _ (MT hlk he) _ u (s1.trans (aB nu)) (s1.free nu) az⟩⟩
  | false=>
  have pick:∀(Q':VK) (E':XK),Q' (.bl false) H1->dB K t [.ref A.f,.str p.name] H1 Q' E':=by
   intro Q' E' z
   refine Mv W1.at' W1.rows W1.done ?_
   by_cases h0:p.kind=0
   ·refine .inr ⟨_,_,S.d p.name,o7 F.pnd hp h0,vd,bI.of (W1.rlst p hp h0),?_⟩
    unfold qT at he
    simp [h0] at he
    rw [decide_eq_false (by rw [lM];exact he)]
    exact z
   ·exact .inl ⟨HQ F.pnd hp h0,z⟩
  refine pick _ _ ⟨_,rfl,cz ?_⟩
  clear pick
  refine⟨_,rfl,r,dxr,fsr,rfl,R1.1.1,R1.2.no _ (by decide +kernel),_,rfl,r,_,dxr,fsr,_,rfl,R1.1.1,T.bQ.c,T.bQ.na.2.1,R1.2.has ("flow",.ref A.f) (by simp),A.f,dx,fs,rfl,s1 _ _ h1,h2.no _ (by decide +kernel),_,rfl,?_⟩
  have hdd:jl S p=some ⟨(places p.kind (aW S p)).map (strAt p.ins),Ow S p,gA p.kind (yI S p) (S.k p.name)⟩:=by unfold jl;rw [if_neg (by simp [hlk]),if_neg (by simp [he])];rfl
  refine K6 (N.same s1) W1 hp O (fun hn=>by rw [hdd] at hn;cases hn) (fun dd hd H2 U s2 nU DA=>?_)
  rw [hdd] at hd
  cases hd
  have s12:=s1.trans s2
  refine⟨r,n,A,ls,ps,S,_,U,_,rfl,hR.same s12,N.same s12,W.same s12,DA,(yq F hp hdd).gin,fun H3 s3=>?_⟩
  have s13:=s12.trans s3
  have ew:=Lb (ls:=ls) hlk he
  unfold vH
  dsimp only
  cases hf:(Ow S p).find? (oN ls S) with
  | none=>
   rw [hf] at ew
   exact⟨_,rfl,_,rfl,fU (kN ew _ s13)⟩
  | some q=>
   rw [hf] at ew
   exact⟨_,rfl,_,rfl,cz ⟨_,rfl,_,rfl,iw,fun u nu=>kS _ _ ew _ u (s13.trans (aB nu)) (s13.free nu) az⟩⟩
theorem Qt {H:Hp} {Q:VK} {Ex:XK} {b:Nat} {r:Addr} {n:Nat} {A:mF} {ls:List aG} {ps:List PD} {S:FS} {p:PD} (hR:lJ t H r A.n A.f n) (N:gJ K t H A.n ls ps) (W:dD K t H A ls ps S) (O:Bc b ls ps S) (hp:p∈ps) (kN:eY ls S p=none->∀H',aJ H H'->Q .non H')
  (kS:∀x y,eY ls S p=some (x,y)->∀H' u,aJ H H'->H u=none->H' u=some (.tup [.str p.name,.str x,.str y])->Q (.ref u) H'):o8 K t [.ref r,.str p.name] H Q Ex:=by
 unfold o8
 exact⟨b,r,n,A,ls,ps,S,p,rfl,hR,N,W,O,hp,kN,kS⟩
noncomputable def wU (ls:List aG) (S:FS) (ps:List PD):List (Str×Str×Str):=ps.filterMap fun p=>(eY ls S p).map fun w=>(p.name,w.1,w.2)
noncomputable def QG (w:Str×Str×Str):List V:=[.str w.1,.str w.2.1,.str w.2.2]
theorem Jx (ls:List aG) (S:FS) (ps:List PD) (p:PD):wU ls S (ps ++ [p])=wU ls S ps ++ ((eY ls S p).map fun w=>(p.name,w.1,w.2)).toList:=by
 unfold wU
 rw [List.filterMap_append,List.filterMap_cons,List.filterMap_nil]
 cases eY ls S p <;> rfl
theorem Mw (ls:List aG) (S:FS) (ps:List PD):(wU ls S ps).length<=ps.length:=List.length_filterMap_le _ _
inductive z9 (K:PySem.W.Frag) (t:ji) (vs:List V) (H:Hp) (Q:VK) (E:XK):Prop where
 | mk:∀(b:Nat) (r:Addr) (n:Nat) (A:mF) (ls:List aG) (ps:List PD) (S:FS),vs=[.ref r]->lJ t H r A.n A.f n->gJ K t H A.n ls ps->dD K t H A ls ps S->Bc b ls ps S->(∀(H':Hp) (L:Addr) (us:List Addr),aJ H H'->H L=none->H' L=some (.lst (us.map V.ref))->eE H' us ((wU ls S ps).map QG)->(∀u∈us,H u=none)->Q (.ref L) H')->z9 K t vs H Q E
theorem zE (T:Txt w K mg t):FO P w K mg base 7 t.Dj ["run"] (z9 K t):=by
 have sc:=T.sJ.sc ["run", "waits"]
 refine T.sJ.F.ok sc ln (fun _ _ _ _ H vs Q E hr h=>?_)
 obtain⟨b,r,n,A,ls,ps,S,rfl,hR,N,W,O,k⟩:=h
 refine⟨_,(aq (jn (i:=1) [0] ["run", "waits"] (aU (top 3)) rfl sc.nd rfl (bN (Oz (bh (pv 0) rfl) T.bj T.bj.me.2.2.1 (il T) T.eU hr)) (fun _ _ _ _ _=>iC) (fun _ _ _ _ _=>(dC (KC T) T.zg hr (aa (pv 1) (aa (pv 0) ak aj) aj))))
  (aA (aN (eX [] ["run", "waits"] (aU (top 3)) rfl (bN (pv 1)) (fun _ _ _ _ _=>(qR (gH (rP (pv 0))))) (fun _ _ _ _ _=>(pv 0)))))),?_⟩
 have hz:sizeLine=16777216:=sizeLine_eq
 obtain⟨dxn,fsn,R,F0,Pd,Gn,Tk,FL,PL,Wn⟩:=id N
 have p16:=Wn.fit.p16
 obtain⟨dxr,fsr,R0⟩:=id hR
 refine⟨_,rfl,r,_,dxr,fsr,_,rfl,R0.1.1,T.bQ.c,T.bQ.na.1,R0.2.has ("net",.ref A.n) (by simp),A.n,dxn,fsn,rfl,Wn.obj,Wn.fl.no _ (by decide +kernel),A.n,ls,ps,rfl,N,fun l nl=>?_⟩
 have s1:=aB (o:=.lst (ps.map fun x=>V.str x.name)) nl
 have el:upd H l (.lst (ps.map fun x=>V.str x.name)) l=some (.lst (ps.map fun x=>V.str x.name)):=az
 generalize upd H l (.lst (ps.map fun x=>V.str x.name))=H1 at s1 el ⊢
 refine⟨l,rfl,⟨_,bI.of el⟩,d7 (K:=K) (a:=l) (xs:=ps.map fun x=>V.str x.name) (fun j ys H'=>aJ H1 H'/\ys.length=j/\∃us:List Addr,ys.filter (fun v=>!decide (v=.non))=us.map V.ref/\eE H' us ((wU ls S (ps.take j)).map QG)/\(∀u∈us,H u=none)/\∀v∈ys,v=.non∨∃u,v=.ref u) (by rw [lM];omega) ⟨aJ.refl _,rfl,[],rfl,.nil,by simp,by simp⟩ (fun j ys H' h=>by omega) (fun j ys H' _ h=>h.1.seq (bI.of el)) ?_ ?_⟩
 ·rintro j x ys H2 hx ⟨s2,ly,us,eu,tu,fu,hv⟩
  rw [List.getElem?_map] at hx
  obtain⟨p,hpj,rfl⟩:=Option.map_eq_some_iff.mp hx
  have s12:=s1.trans s2
  rw [List.take_succ,hpj,Option.toList_some,Jx,List.map_append]
  refine yes ⟨_,rfl,_,rfl,Qt (hR.same s12) (N.same s12) (W.same s12) O (List.mem_of_getElem? hpj) (fun hn H3 s3=>?_) (fun x y hw H3 u s3 nu eu3=>?_)⟩
  ·rw [hn]
   refine⟨s2.trans s3,by rw [lP,ly];rfl,us,by rw [List.filter_append,eu];simp,by simpa using eE.same s3 tu,fu,fun v h=>?_⟩
   rcases List.mem_append.mp h with h | h
   ·exact hv v h
   ·exact .inl (List.mem_singleton.mp h)
  ·rw [hw]
   refine⟨s2.trans s3,by rw [lP,ly];rfl,us ++ [u],by rw [List.filter_append,eu];simp,(eE.same s3 tu).append (.cons eu3 .nil),fun z hz=>?_,fun v h=>?_⟩
   ·rcases List.mem_append.mp hz with h | h
    ·exact fu z h
    ·rw [List.mem_singleton.mp h];exact s12.free nu
   ·rcases List.mem_append.mp h with h | h
    ·exact hv v h
    ·exact .inr ⟨u,List.mem_singleton.mp h⟩
 rintro ys H2 ⟨s2,ly,us,eu,tu,fu,hv⟩ L1 nL1
 rw [lM] at ly
 rw [lM,List.take_length] at tu
 have t3:=aB (o:=.lst ys) nL1
 have eL1:upd H2 L1 (.lst ys) L1=some (.lst ys):=az
 have tu3:=eE.same t3 tu
 have s13:=(s1.trans s2).trans t3
 generalize upd H2 L1 (.lst ys)=H3 at t3 eL1 tu3 s13 ⊢
 refine⟨_,rfl,L1,rfl,⟨_,bI.of eL1⟩,d7 (K:=K) (a:=L1) (xs:=ys) (fun j zs H'=>H'=H3/\zs=(ys.take j).filter (fun v=>!decide (v=.non))) (by omega) ⟨rfl,rfl⟩ (fun j zs H' ⟨_,e⟩=>by rw [e];exact Nat.le_trans (List.length_filter_le _ _) (by rw [List.length_take];omega)) (fun j zs H' _ ⟨e,_⟩=>by rw [e];exact bI.of eL1) ?_ ?_⟩
 ·rintro j v zs H' hj ⟨rfl,rfl⟩
  refine⟨_,rfl,_,rfl,?_⟩
  rw [List.take_succ,hj,Option.toList_some,List.filter_append]
  rcases hv v (List.mem_of_getElem? hj) with rfl | ⟨u,rfl⟩
  ·exact cz ⟨rfl,by simp⟩
  ·exact fU ⟨_,rfl,rfl,by simp⟩
 rintro zs H' ⟨rfl,rfl⟩ L2 nL2
 rw [List.take_length,eu]
 have t4:=aB (o:=.lst (us.map V.ref)) nL2
 exact k _ L2 us (s13.trans t4) (s13.free nL2) az (eE.same t4 tu3) fu
noncomputable def Az (RW:List (Str×Addr×List Int)) (x:Str) (a:Addr) (ws:List Int):List (Str×Addr×List Int):=if x∈RW.map (·.1) then RW.map (fun q=>if q.1=x then(x,a,ws) else q) else RW ++ [(x,a,ws)]
theorem Vb (RW:List (Str×Addr×List Int)) (x:Str) (a:Addr) (ws:List Int):fD (Az RW x a ws)=putK (fD RW) (Sum.inr x) (.ref a):=by
 unfold Az putK
 by_cases h:x∈RW.map (·.1)
 ·rw [if_pos h,if_pos (by
   obtain⟨q,hq,rfl⟩:=List.mem_map.mp h
   exact List.any_eq_true.mpr ⟨_,List.mem_map.mpr ⟨q,hq,rfl⟩,by simp⟩)]
  unfold fD
  rw [List.map_map,List.map_map]
  refine List.map_congr_left fun q _=>?_
  by_cases e:q.1=x
  ·simp [e]
  ·simp [e]
 ·rw [if_neg h,if_neg (by
   intro z
   obtain⟨kv,hk,e⟩:=List.any_eq_true.mp z
   obtain⟨q,hq,rfl⟩:=List.mem_map.mp hk
   exact h (List.mem_map.mpr ⟨q,hq,by simpa using e⟩))]
  unfold fD
  rw [List.map_append]
  rfl
theorem Qv {RW:List (Str×Addr×List Int)} {x:Str} {a:Addr} {ws:List Int} {q:Str×Addr×List Int} (h:q∈Az RW x a ws):q∈RW∨q=(x,a,ws):=by
 unfold Az at h
 split at h
 ·obtain⟨q',hq,e⟩:=List.mem_map.mp h
  split at e
  ·exact .inr e.symm
  ·exact .inl (by rw [<-e];exact hq)
 ·rcases List.mem_append.mp h with h | h
  ·exact .inl h
  ·exact .inr (List.mem_singleton.mp h)
theorem Tc {RW:List (Str×Addr×List Int)} {x:Str} {a:Addr} {ws:List Int} (nd:(RW.map (·.1)).Nodup):((Az RW x a ws).map (·.1)).Nodup:=by
 unfold Az
 split
 ·have e:(RW.map (fun q=>if q.1=x then(x,a,ws) else q)).map (·.1)=RW.map (·.1):=by
   rw [List.map_map]
   refine List.map_congr_left fun q _=>?_
   by_cases h:q.1=x
   ·simp [h]
   ·simp [h]
  rw [e]
  exact nd
 ·rename_i h
  rw [List.map_append,List.nodup_append]
  exact⟨nd,by simp,fun b hb c hc z=>h (by simp at hc;rw [<-hc,<-z];exact hb)⟩
theorem Ro (RW:List (Str×Addr×List Int)) (x:Str) (a:Addr) (ws:List Int):(Az RW x a ws).length<=RW.length+1:=by
 unfold Az
 split
 ·rw [lM];omega
 ·simp
structure vD (B H:Hp) (d:Addr) (m:Nat) (G:List V) (RW:List (Str×Addr×List Int)):Prop where
 at':oU H d RW
 bnd:∀q∈RW,∀v∈q.2.2,0<=v/\v <1000000000
 door:∀q∈RW,V.str q.1∈G
 new:∀q∈RW,B q.2.1=none/\q.2.1≠d
 len:∀q∈RW,q.2.2.length<=m
theorem vD.same {B H H':Hp} {d:Addr} {m:Nat} {G:List V} {RW:List (Str×Addr×List Int)} (h:vD B H d m G RW) (s:aJ H H'):vD B H' d m G RW:=⟨h.at'.same s,h.bnd,h.door,h.new,h.len⟩
theorem vD.put {B H:Hp} {d:Addr} {m:Nat} {G:List V} {RW:List (Str×Addr×List Int)} (h:vD B H d m G RW) {x:Str} {a:Addr} {ws:List Int} (ea:H a=some (.lst (ws.map V.int))) (na:B a=none) (nd:a≠d) (hx:V.str x∈G) (hb:∀v∈ws,0<=v/\v <1000000000) (hl:ws.length<=m) (hm:m<=299):
  vD B (upd H d (.dK (putK (fD RW) (Sum.inr x) (.ref a)))) d m G (Az RW x a ws):=by
 refine⟨⟨by rw [Vb];exact az,fun q hq=>?_,Tc h.at'.nd,fun q hq=>?_⟩,fun q hq=>?_,fun q hq=>?_,fun q hq=>?_,fun q hq=>?_⟩ <;> rcases Qv hq with hq | rfl
 ·rw [aK (h.new q hq).2];exact h.at'.lists q hq
 ·rw [aK nd];exact ea
 ·exact h.at'.len q hq
 ·show ws.length<=300;omega
 ·exact h.bnd q hq
 ·exact hb
 ·exact h.door q hq
 ·exact hx
 ·exact h.new q hq
 ·exact⟨na,nd⟩
 ·exact h.len q hq
 ·exact hl
theorem Su (RW:List (Str×Addr×List Int)) (x:Str) (a:Addr) (ws:List Int):Az RW x a ws≠[]:=by
 unfold Az
 split
 ·rename_i h
  intro z
  rw [List.map_eq_nil_iff.mp z] at h
  cases h
 ·simp
inductive xR (K:PySem.W.Frag) (vs:List V) (H:Hp) (Q:VK) (E:XK):Prop where
 | mk:∀(a P:Addr) (ns:List Int) (xs:List V) (ps:List PD) (st:Nat),vs=[.ref a,.ref P,.int (st:Nat)]->bI K H a (ns.map V.int)->H P=some (.lst xs)->jE (tZ H) xs ps->ps.length<=16->(∀H' d RW,aJ H H'->H d=none->vD H H' d 39 (dH ps "give") RW->RW.length<=16->(JN ps->RW≠[])->Q (.ref d) H')->xR K vs H Q E
noncomputable abbrev zQ:List Str:=["_law_script", "_law_parts", "_law_start", "_law_rows_here", "_law_part_here", "_law_j", "_law_one", "_law_row", "_law_cell_here"]
theorem GP (T:Txt w K mg t):FO P w K mg base 3 t.Am ["_law_script", "_law_parts", "_law_start"] (xR K):=by
 have sc:=T.ul.sc zQ
 refine T.ul.F.ok sc ln (fun _ _ _ _ H vs Q E hr h=>?_)
 obtain⟨a,P,ns,xs,ps,st,rfl,hS,eP,aP,p16,k⟩:=h
 refine⟨_,(aq (sN sc 3 fM)
  (aq (du PassesOwn.never rfl (bN (pv 1)) (gN sc 4)
   (aA (eG (bM (bc fc (aR cZ (pv 4) au (fun _ _=>rfl)) bG (bH _))
    (aq (sN sc 5 (bw Nr (by rfl) T.fX dG (aa (pv 3) ak aj)))
    (aq (sN sc 6 (dC (gP T) T.fO hr (aa (pv 0) (aa (pv 2) ak aj) aj)))
    (aq (jn (i:=7) [5,6] zQ (aU (top 78)) rfl sc.nd rfl (iY rfl T.kY (aa (bx bW (dC (aX T) T.bf hr (aa (pv 6) (aa (bx dm au (pv 5)) ak bL) aj)) au) ak bL)) (fun _ _ _ _ _=>iC) (fun _ _ _ _ _=>(dC (ie T) T.fK hr (aa (pv 2) (aa (bx dm (bx dm au (pv 0)) (bx mY au (pv 1))) ak bL) aj))))
    (aq (du PassesOwn.never rfl (bN (jU rO (pv 0) (jK (pv 2)) (jK (bx dm (pv 2) au)))) (gN sc 8)
     (aA (eG (bM (bc Iv (bx bW (dC (aX T) T.bf hr (aa (pv 8) (aa (bx dm au (pv 5)) ak bL) aj)) au) au (bH _))
      (aA (bK (Jw (pv 7) (aa (dC (ie T) T.fK hr (aa (pv 8) (aa (pv 5) ak aj) aj)) ak aY))))
      bu))))
    (aA (gh hr.u1 (pv 3) (aR cZ (pv 4) au (fun _ _=>rfl)) (pv 7) rfl))))))
    bu))))
  (aA (aN (pv 3))))),?_⟩
 have hz:sizeLine=16777216:=sizeLine_eq
 have xl:=aP.length
 refine fun d nd=>?_
 have s1:=aB (o:=.dK []) nd
 have ed:upd H d (.dK []) d=some (.dK []):=az
 have sB:aJ H (bA [d] (upd H d (.dK []))):=fun b o e=>dU (s1 _ _ e) (by simpa using aD e nd)
 generalize upd H d (.dK [])=H1 at s1 ed sB ⊢
 have upB:∀{H':Hp} {o:HO},aJ H H'->aJ H (upd H' d o):=fun s b o e=>by rw [aK (aD e nd)];exact s b o e
 refine⟨_,rfl,P,rfl,⟨_,bI.of (s1 _ _ eP)⟩,cJ (K:=K) (a:=P) (xs:=xs) (fun j σ H'=>(∃v4 v5 v6 v7 v8,σ=[some (.ref a),some (.ref P),some (.int st),some (.ref d),v4,v5,v6,v7,v8])/\aJ H H'/\∃RW,vD H H' d 39 (dH ps "give") RW/\RW.length<=j/\((ps.take j).any (fun p=>p.kind == 0)=true->RW≠[])) ⟨⟨none,none,none,none,none,rfl⟩,s1,[],⟨⟨ed,by simp,by simp,by simp⟩,by simp,by simp,by simp,by simp⟩,Nat.le_refl _,fun h=>by simp at h⟩ (fun j σ H' _ h=>bI.of (h.2.1 _ _ eP)) ?_ ?_⟩
 ·rintro j x σ H2 hx ⟨⟨w4,w5,w6,w7,w8,rfl⟩,s2,RW,hR,lR,hne⟩
  obtain⟨p,hpj,q,a1,a2,a3,rfl,hq,_⟩:=aP.get hx
  have hj:=(List.getElem?_eq_some_iff.mp hx).1
  have hq2:=s2 _ _ hq
  refine⟨fun σ' H'=>(∃v4 v5 v6 v7 v8,σ'=[some (.ref a),some (.ref P),some (.int st),some (.ref d),v4,v5,v6,v7,v8])/\aJ H H'/\∃RW,vD H H' d 39 (dH ps "give") RW/\RW.length<=j+1/\((ps.take (j+1)).any (fun p=>p.kind == 0)=true->RW≠[]),?_,fun _ _ h=>h⟩
  refine⟨_,rfl,q,_,0,_,rfl,rfl,fC.of hq2,aM (j:=0) rfl,rfl,_,rfl,jG (fun hg=>?_) (fun hng=>⟨⟨_,_,_,_,_,rfl⟩,s2,RW,hR,by omega,fun h=>hne ?_⟩)⟩
  rotate_left
  ·rw [List.take_succ,hpj,Option.toList_some,List.any_append] at h
   have h0:¬p.kind=0:=fun z=>hng (decide_eq_true (by rw [z];rfl))
   simpa [h0] using h
  have hG:V.str p.name∈dH ps "give" :=List.mem_map.mpr ⟨p,List.mem_filter.mpr ⟨List.mem_of_getElem? hpj,by simpa using of_decide_eq_true hg⟩,rfl⟩
  refine⟨_,rfl,d,_,rfl,.inl hR.at'.dict,?_⟩
  have lK:((fD RW).length:Int)=(RW.length:Int):=by unfold fD;rw [lM]
  refine⟨_,rfl,_,rfl,a,ns,st,rfl,s2.seq hS,?_⟩
  generalize jH ns st=c
  have h0:=Int.emod_nonneg (b7 c (7+((fD RW).length:Int))) (show(6:Int)≠0 by decide)
  have h1:=Int.emod_lt_of_pos (b7 c (7+((fD RW).length:Int))) (show(0:Int) <6 by decide)
  refine⟨_,rfl,_,rfl,_,_,rfl,rfl,_,_,rfl,_,_,rfl,rfl,by show(0:Int) <6;decide,_,rfl,by omega,by omega,?_⟩
  refine kj (fun i ys H'=>H'=H2/\∃ws:List Int,ys=ws.map V.int/\ws.length=i/\∀v∈ws,0<=v/\v <1000000000) (by omega) ⟨rfl,[],rfl,rfl,by simp⟩ (fun i ys H' ⟨_,ws,e,e2,_⟩=>by rw [e,lM];omega) ?_ ?_
  ·rintro i ys H' hi ⟨rfl,ws,rfl,hw,hB⟩
   refine yes ⟨_,rfl,_,rfl,_,_,rfl,rfl,_,rfl,_,_,rfl,rfl,lG,_,_,rfl,rfl,_,_,rfl,rfl,ws ++ [pC c (30+(0+(i:Int))+9 * ((fD RW).length:Int))],by simp,by simp [hw],fun v hv=>?_⟩
   rcases List.mem_append.mp hv with hv | hv
   ·exact hB v hv
   ·rw [List.mem_singleton] at hv
    subst hv
    exact oA _ _
  rintro ys H' ⟨rfl,ws,rfl,hw,hB⟩ u nu
  have t3:=aB (o:=.lst (ws.map V.int)) nu
  have eu:upd H' u (.lst (ws.map V.int)) u=some (.lst (ws.map V.int)):=az
  have nud:u≠d:=fun z=>by rw [z,hR.at'.dict] at nu;cases nu
  have nuH:=s2.free nu
  have s3:=s2.trans t3
  generalize upd H' u (.lst (ws.map V.int))=H3 at t3 eu s3 ⊢
  refine⟨_,rfl,_,rfl,_,rfl,_,rfl,_,_,rfl,rfl,_,rfl,a,_,rfl,s3.seq hS,fun Lc nLc=>⟨Lc,rfl,⟨_,bI.of az⟩,?_⟩⟩
  obtain⟨cs,ecs,lcs⟩:∃cs:List Int,uD (ns.map V.int) (some (st:Int)) (some ((st:Int)+34))=cs.map V.int/\cs.length<=34:=by
   refine⟨(ns.drop (min st ns.length)).take (min (st+34) ns.length - min st ns.length),(Jh (ns.map V.int) st (st+34)).trans ?_,?_⟩
   ·rw [List.map_take,List.map_drop,lM]
   ·rw [List.length_take];omega
  rw [ecs]
  have t4:=aB (o:=.lst (cs.map V.int)) nLc
  have eLc:upd H3 Lc (.lst (cs.map V.int)) Lc=some (.lst (cs.map V.int)):=az
  have nLu:Lc≠u:=fun z=>by rw [z,eu] at nLc;cases nLc
  generalize upd H3 Lc (.lst (cs.map V.int))=H4 at t4 eLc ⊢
  have sC:aJ H' (bA [u] H4):=fun b o e=>dU (t4 _ _ (t3 _ _ e)) (by simpa using aD e nu)
  have eLcC:bA [u] H4 Lc=some (.lst (cs.map V.int)):=dU eLc (by simpa using nLu)
  have C4:aJ (bA [u] H4) H4:=bR
  have cu:bA [u] H4 u=none:=by simp [bA]
  generalize bA [u] H4=C at sC eLcC C4 cu
  have hRC:=hR.same sC
  have hqC:=sC _ _ hq2
  refine cJ (K:=K) (a:=Lc) (xs:=cs.map V.int) (fun i σ H5=>(∃v8,σ=[some (.ref a),some (.ref P),some (.int st),some (.ref d),some (.ref q),some (.int ((fD RW).length:Nat)),some (.int c),some (.ref u),v8])/\aJ C H5/\∃ws:List Int,H5 u=some (.lst (ws.map V.int))/\ws.length<=5+i/\∀v∈ws,0<=v/\v <1000000000) ⟨⟨_,rfl⟩,C4,ws,t4 _ _ eu,by omega,hB⟩ (fun i σ H5 _ h=>bI.of (h.2.1 _ _ eLcC)) ?_ ?_
  ·rintro i x σ H5 hx ⟨⟨x8,rfl⟩,s5,ws,eu5,lw,hB⟩
   rw [List.getElem?_map] at hx
   obtain⟨cc,hcc,rfl⟩:=Option.map_eq_some_iff.mp hx
   have hi:=(List.getElem?_eq_some_iff.mp hcc).1
   refine⟨fun σ H5=>(∃v8,σ=[some (.ref a),some (.ref P),some (.int st),some (.ref d),some (.ref q),some (.int ((fD RW).length:Nat)),some (.int c),some (.ref u),v8])/\aJ C H5/\∃ws:List Int,H5 u=some (.lst (ws.map V.int))/\ws.length<=5+(i+1)/\∀v∈ws,0<=v/\v <1000000000,?_,fun _ _ h=>h⟩
   refine⟨_,rfl,_,rfl,_,_,rfl,rfl,_,_,rfl,_,_,rfl,rfl,by show(0:Int) <4;decide,_,_,rfl,rfl,_,rfl,jG (fun _=>?_) (fun _=>⟨⟨_,rfl⟩,s5,ws,eu5,by omega,hB⟩)⟩
   refine⟨_,rfl,.inl ⟨rfl,_,bI.of eu5⟩,_,rfl,_,rfl,_,_,rfl,u,_,.int _,rfl,rfl,eu5,by rw [lM];omega,⟨_,rfl⟩,fun b o e=>?_,ws ++ [pC cc ((fD RW).length:Int)],by rw [az,List.map_append];rfl,by rw [lP,List.length_singleton];omega,fun v hv=>?_⟩
   ·rw [aK (fun z=>by rw [z,cu] at e;cases e)]
    exact s5 b o e
   ·rcases List.mem_append.mp hv with hv | hv
    ·exact hB v hv
    ·rw [List.mem_singleton] at hv
     subst hv
     exact oA _ _
  rintro σ H5 ⟨⟨x8,rfl⟩,s5,ws,eu5,lw,hB⟩
  rw [lM] at lw
  have hR5:=hRC.same s5
  refine⟨_,rfl,_,rfl,_,rfl,q,_,1,_,rfl,rfl,fC.of (s5 _ _ hqC),aM (j:=1) rfl,d,_,rfl,ph.k (k:=Sum.inr p.name) hR5.at'.dict (by unfold fD;rw [lM];omega),⟨_,_,_,_,_,rfl⟩,upB ((s2.trans sC).trans s5),Az RW p.name u ws,hR5.put eu5 nuH nud hG hB (by omega) (by decide),?_,fun _=>Su _ _ _ _⟩
  have:=Ro RW p.name u ws
  omega
 rintro σ H2 ⟨⟨w4,w5,w6,w7,w8,rfl⟩,s2,RW,hR,lR,hne⟩
 rw [xl,List.take_length] at hne
 exact⟨_,rfl,k H2 d RW s2 nd hR (by omega) hne⟩
structure Fz (H:Hp) (N:Addr) (na:Str->Addr) (ls:List aG) (S:FS):Prop where
 dict:H N=some (.dK (Ni na ls))
 lists:∀l∈ls,H (na l.name)=some (.lst (((S.ev l.name).drop (S.g l.name)).map V.int))
theorem Fz.same {H H':Hp} {N:Addr} {na:Str->Addr} {ls:List aG} {S:FS} (h:Fz H N na ls S) (s:aJ H H'):Fz H' N na ls S:=⟨s _ _ h.dict,fun l hl=>s _ _ (h.lists l hl)⟩
theorem Vy {H:Hp} {a:Addr} {kvs:List (Key×V)} {x:Str} {v:V} (e:H a=some (.dK kvs)) (h:bT kvs (Sum.inr x)=some v):d9 H a (.str x) (some v):=by
 rw [<-h]
 exact d9.k (k:=Sum.inr x) e
theorem Bl {α:Type} {p q:α->Bool}:∀{l:List α},(∀a∈l,p a=q a)->l.find? p=l.find? q
 | [],_=>rfl
 | a:: r,h=>by
  rw [List.find?_cons,List.find?_cons,h a List.mem_cons_self,Bl fun b hb=>h b (List.mem_cons_of_mem _ hb)]
noncomputable def jy (S:FS) (x:Str):Bool:=decide (fL S x=.non)
noncomputable def Fg (ls:List aG) (S:FS) (x:Str):Bool:=decide (roomF ls x<=((S.ev x).length:Int) - (S.g x:Int))
noncomputable def vm (S:FS) (p:PD):List Str:=(places p.kind (aW S p)).map (strAt p.ins)
noncomputable def zr (S:FS) (p:PD):List Str:=(Ow S p).map (·.1)
theorem QL {S:FS} {p:PD} (ok:jL p):dz p.kind p.ins (aW S p)=match (vm S p).find? (jy S) with
  | some x=>.str x
  | none=>.non:=by
 have hO:=lY S p ok
 have hlt:∀q∈places p.kind (aW S p),q <p.ins.length:=fun q hq=>by
  have:=iU hO q hq
  unfold aW at this
  rwa [lM] at this
 unfold vm dz
 rw [List.find?_map]
 have e:(places p.kind (aW S p)).find? (uT (aW S p))=(places p.kind (aW S p)).find? (jy S∘strAt p.ins):=Bl fun q hq=>by
  have h:=hlt q hq
  unfold uT jy aW
  rw [List.getElem?_map,List.getElem?_eq_getElem h]
  show _=decide (fL S (strAt p.ins q)=.non)
  rw [lZ h]
  simp
 rw [e]
 cases hf:(places p.kind (aW S p)).find? (jy S∘strAt p.ins) with
 | none=>rfl
 | some q=>
  have h:=hlt q (List.mem_of_find?_eq_some hf)
  simp only [List.getElem?_eq_getElem h,Option.map_some,Option.getD_some]
  rw [lZ h]
theorem Pr (ls:List aG) (S:FS) (p:PD):(zr S p).find? (Fg ls S)=((Ow S p).find? (oN ls S)).map (·.1):=by
 unfold zr
 rw [List.find?_map]
 rfl
theorem Es {ls:List aG} {S:FS} {p:PD} (ok:jL p):eY ls S p=match (vm S p).find? (jy S) with
  | some x=>some (x,("value" :Str))
  | none=>if qT S p=true then some (("" :Str),("end" :Str)) else match (zr S p).find? (Fg ls S) with
   | some x=>some (x,("room" :Str))
   | none=>none:=by
 unfold eY
 rw [QL ok,Pr]
 cases (vm S p).find? (jy S) with
 | some x=>rfl
 | none=>
  dsimp only
  cases (Ow S p).find? (oN ls S) <;> rfl
theorem MK {S:FS} {p:PD} (ok:jL p) (h9:p.kind≠9):vm S p=p.ins:=by
 unfold vm places aW
 rw [if_neg h9,lM]
 refine List.ext_getElem? fun i=>?_
 rw [List.getElem?_map]
 by_cases h:i <p.ins.length
 ·rw [List.getElem?_range h,List.getElem?_eq_getElem h,Option.map_some,lZ h]
 ·rw [List.getElem?_eq_none (by rw [List.length_range];omega),List.getElem?_eq_none (by omega)]
  rfl
theorem Ly {S:FS} {p:PD} (ok:jL p) (hA:p.kind≠10):zr S p=p.outs:=by
 have h:=ok.1
 have hO:=ok.2.2.2.1
 unfold zr Ow
 rw [List.map_map]
 have key:∀i,i <11->i≠10->∀(ns ws:List Int) (k:Int),(cB i ns ws k).map (fun pv=>pv.1.toNat)=List.range (cO i):=by
  intro i hi hn ns ws k
  match i,hi,hn with
  | 0,_,_=>rfl
  | 1,_,_=>rfl
  | 2,_,_=>rfl
  | 3,_,_=>rfl
  | 4,_,_=>rfl
  | 5,_,_=>rfl
  | 6,_,_=>rfl
  | 7,_,_=>rfl
  | 8,_,_=>rfl
  | 9,_,_=>rfl
  | 10,_,hn=>exact absurd rfl hn
 have e:(cB p.kind p.nums (yI S p) (S.k p.name)).map ((fun q:Str×Int=>q.1)∘fun pv=>(strAt p.outs pv.1.toNat,pv.2))=((cB p.kind p.nums (yI S p) (S.k p.name)).map (fun pv=>pv.1.toNat)).map (strAt p.outs):=by rw [List.map_map];rfl
 rw [e,key _ h hA,<-hO]
 refine List.ext_getElem? fun i=>?_
 rw [List.getElem?_map]
 by_cases h:i <p.outs.length
 ·rw [List.getElem?_range h,List.getElem?_eq_getElem h,Option.map_some,lZ h]
 ·rw [List.getElem?_eq_none (by rw [List.length_range];omega),List.getElem?_eq_none (by omega)]
  rfl
theorem HN (ws:List Int):PyData.eqv (.list (ws.map PyData.int)) (.list (([]:List Int).map PyData.int))=ws.isEmpty:=by
 cases ws with
 | nil=>simp [PyData.eqv,PyData.eqvAll]
 | cons a r=>simp [PyData.eqv,PyData.eqvAll]
theorem Eg (S:FS) (x:Str):((S.ev x).drop (S.g x)).isEmpty=jy S x:=by
 unfold jy fL
 cases h:(S.ev x)[S.g x]? with
 | none=>
  rw [List.drop_eq_nil_of_le (List.getElem?_eq_none_iff.mp h)]
  rfl
 | some n=>
  obtain⟨hg,e⟩:=List.getElem?_eq_some_iff.mp h
  rw [List.drop_eq_getElem_cons hg]
  rfl
theorem O1 (xs:List V) (g:Nat):uD xs none (some (g:Int))=xs.take g:=by
 unfold uD
 rw [HT.yx,HT.uX,List.drop_zero,Nat.sub_zero]
 rcases Nat.le_total g xs.length with h | h
 ·rw [Nat.min_eq_left h]
 ·rw [Nat.min_eq_right h,List.take_of_length_le h,List.take_of_length_le (Nat.le_refl _)]
theorem Fo {S:FS} {x:Str} {m:Int} (hm:fL S x=.int m):∃r,((S.ev x).drop (S.g x)).map V.int=V.int m:: r:=by
 unfold fL at hm
 cases h:(S.ev x)[S.g x]? with
 | none=>rw [h] at hm;cases hm
 | some n=>
  rw [h] at hm
  obtain⟨hg',e'⟩:=List.getElem?_eq_some_iff.mp h
  rw [List.drop_eq_getElem_cons hg',e']
  cases hm
  exact⟨_,rfl⟩
theorem Q4 {S:FS} {p:PD} (ok:jL p) {x:Str} (hx:x∈vm S p):x∈p.ins:=by
 obtain⟨q,hq,rfl⟩:=List.mem_map.mp hx
 have:=iU (lY S p ok) q hq
 unfold aW at this
 rw [lM] at this
 exact uY this
theorem Kz {S:FS} {p:PD} (ok:jL p) {x:Str} (hx:x∈zr S p):x∈p.outs:=by
 obtain⟨q,hq,rfl⟩:=List.mem_map.mp hx
 obtain⟨pv,hpv,rfl⟩:=List.mem_map.mp hq
 obtain⟨o,ho1,ho2⟩:=HS (show p.kind<=10 by have:=ok.1;omega) _ _ _ _ hpv
 refine uY ?_
 rw [ho1,Int.toNat_natCast,ok.2.2.2.1]
 exact ho2
theorem N6 {S:FS} {p:PD} (h0:p.kind=0) (h:S.d p.name<=(S.r p.name).length):((S.r p.name).drop (S.d p.name)).isEmpty=qT S p:=by
 unfold qT
 rw [Bool.eq_iff_iff,List.isEmpty_iff,List.drop_eq_nil_iff]
 simp [h0]
 omega
theorem yM:∀i,i <11->decide (V.str (cX i)=V.str "choose")=decide (i=9):=by decide +kernel
theorem Le:∀i,i <11->decide (V.str (cX i)=V.str "give")=decide (i=0):=by decide +kernel
theorem Qn:∀i,i <11->decide (V.str (cX i)=V.str "split")=decide (i=10):=by decide +kernel
inductive vX (vs:List V) (H:Hp) (Q:VK):Prop where
 | mk:∀(b:Nat) (q N M D:Addr) (na ra:Str->Addr) (ls:List aG) (ps:List PD) (S:FS) (p:PD),vs=[.ref q,.ref N,.ref M,.ref D]->tZ H (.ref q) p->p∈ps->wg ls ps->Fz H N na ls S->H M=some (.dK (dq ls))->yZ H D ra ps S->Bc b ls ps S->b<=90000->((∀l∈ls,S.g l.name<=(S.ev l.name).length))->((∀l∈ls,((S.ev l.name).length:Int) - (S.g l.name:Int)<=l.room))->((eY ls S p=none->∀H',aJ H H'->Q .non H'))->(∀x y,eY ls S p=some (x,y)->∀H' u,aJ H H'->H u=none->H' u=some (.tup [.str p.name,.str x,.str y])->Q (.ref u) H')->vX vs H Q
@[irreducible] noncomputable def jY (K:PySem.W.Frag):Sp:=fun vs H Q _=>vX vs H Q
theorem Hy (T:Txt w K mg t):FO P w K mg base 1 t.Af ["_law_part_here", "_law_now", "_law_rooms", "_law_left"] (jY K):=by
 have sc:=T.uM.sc ["_law_part_here", "_law_now", "_law_rooms", "_law_left", "_law_kind", "_law_name", "_law_numbers", "_law_ins", "_law_outs", "_law_asked", "_law_given", "_law_lane_here"]
 refine T.uM.F.ok sc (fun vs H Q E h=>?_) (fun cdv A outer s H vs Q E hr h=>?_)
 ·unfold jY at h
  obtain⟨b,q,N,M,D,na,ra,ls,ps,S,p,rfl,_⟩:=h
  rfl
 ·unfold jY at h
  obtain⟨b,q,N,M,D,na,ra,ls,ps,S,p,rfl,⟨_,a1,a2,a3,eq,q0,q1,q2,q3⟩,hp,F,hN,hM,hD,O,hb,hg,hrm,kN,kS⟩:=h
  refine⟨_,(aq (Ri (pv 0) (wH rfl (dg (gN sc 4) (dg (gN sc 5) (dg (gN sc 6) (dg (gN sc 7) (dg (gN sc 8) qx)))))))
   (aq (sN sc 9 (pv 7))
   (aq (sN sc 10 (pv 8))
   (aq (eG (bM (PW.pt (wB (bc fc (pv 4) bG (bH _)) (u5 (bc (Kr hr.units) (b8 hr.u1 (pv 1) (aR aQ (pv 7) au (fun _ _=>rfl)) (fun _ _=>rfl)) (bz ak) (bH _)))))
    (aA (sN sc 9 (bz (aa (aR aQ (pv 7) au (fun _ _=>rfl)) (aa (aR aQ (pv 7) (bx dm au (bx bW (aR aQ (b8 hr.u1 (pv 1) (aR aQ (pv 7) au (fun _ _=>rfl)) (fun _ _=>rfl)) au (fun _ _=>rfl)) au)) (fun _ _=>rfl)) ak aF) aF))))
    (aA (eG (bM (bc fc (pv 4) bG (bH _))
     (aA (sN sc 9 (jU rO (pv 7) sI (jK au))))
     bu)))))
   (aq (du PassesOwn.never rfl (bN (pv 9)) (gN sc 11)
    (aA (bM (bc (Hd hr.units) (b8 hr.u1 (pv 1) (pv 11) (fun _ _=>rfl)) (bz ak) (bH _))
     (aA (aN (cg (aa (pv 5) (aa (pv 11) (aa bG ak ao) aj) aj))))
     bu)))
   (aq (eG (bM (PW.pt (wB (bc fc (pv 4) bG (bH _)) (u5 (bc (Hd hr.units) (b8 hr.u1 (pv 3) (pv 5) (fun _ _=>rfl)) (bz ak) (bH _)))))
    (aA (aN (cg (aa (pv 5) (aa bG (aa bG ak ao) ao) aj))))
    bu))
   (aq (eG (bM (bc fc (pv 4) bG (bH _))
    (aA (sN sc 10 (bz (aa (aR aQ (pv 8) (bx bW (aR aQ (b8 hr.u1 (pv 1) (aR aQ (pv 7) au (fun _ _=>rfl)) (fun _ _=>rfl)) au (fun _ _=>rfl)) au) (fun _ _=>rfl)) ak aF))))
    bu))
   (aq (du PassesOwn.never rfl (bN (pv 10)) (gN sc 11)
    (aA (bM (bc fc (bw bV (by rfl) T.fX dG (aa (b8 hr.u1 (pv 1) (pv 11) (fun _ _=>rfl)) ak aF)) (b8 hr.u1 (pv 2) (pv 11) (fun _ _=>rfl)) (bH _))
     (aA (aN (cg (aa (pv 5) (aa (pv 11) (aa bG ak ao) aj) aj))))
     bu)))
   (aA (aN uO)))))))))),?_⟩
  cases eq
  have hz:sizeLine=16777216:=sizeLine_eq
  have ok:=F.pok p hp
  have hO:=lY S p ok
  have alt:=Es (ls:=ls) (S:=S) ok
  have h3i:p.ins.length<=3:=by rw [ok.2.2.1];exact Bt _
  have h2o:p.outs.length<=2:=by rw [ok.2.2.2.1];exact Lq _
  have g0:Gd 1 (.list (([]:List Int).map PyData.int)):=.list (.ints 0 _)
  refine⟨_,rfl,q,_,rfl,fC.of q0,rfl,_,_,rfl,_,_,rfl,_,_,rfl,_,_,rfl,_,_,rfl,rfl,?_⟩
  refine⟨_,rfl,_,rfl,?_⟩
  refine⟨fun σ' H1=>∃La,aJ H H1/\H1 La=some (.lst ((vm S p).map V.str))/\σ'=[some (.ref q),some (.ref N),some (.ref M),some (.ref D),some (.str (cX p.kind)),some (.str p.name),some (.ref a1),some (.ref a2),some (.ref a3),some (.ref La),some (.ref a3),none],?_,?_⟩
  ·refine⟨_,rfl,rfl,_,rfl,?_⟩
   rw [yM _ ok.1]
   by_cases h9:p.kind=9
   ·rw [decide_eq_true h9]
    have l3:p.ins.length=3:=by rw [ok.2.2.1,h9];rfl
    obtain⟨x0,x1,x2,ei⟩:∃x0 x1 x2,p.ins=[x0,x1,x2]:=by
     match hi:p.ins,l3 with
     | [a,b,c],_=>exact⟨a,b,c,rfl⟩
    obtain⟨l0,hl0,e0⟩:=F.inL hp (show x0∈p.ins ++ p.outs by rw [ei];simp)
    have at0:BP (p.ins.map V.str) 0=some (.str l0.name):=by rw [ei,e0];rfl
    refine fU ⟨_,rfl,_,rfl,a2,_,_,_,rfl,rfl,bI.of q2,at0,N,_,rfl,Vy hN.dict (lE F.whole.nod hl0),iw,fun e ne=>?_⟩
    have g:Gd 1 (.list (((S.ev l0.name).drop (S.g l0.name)).map PyData.int)):=.list (.ints 0 _)
    have te:=aB (o:=.lst []) ne
    refine⟨_,_,qy (bI.of (te _ _ (hN.lists l0 hl0))),qy (ws:=[]) (bI.of az),g.shaped (by decide),g0.shaped (by decide),_,rfl,?_⟩
    rw [HN,Eg]
    have hh:aW S p=[fL S l0.name,fL S x1,fL S x2]:=by unfold aW;rw [ei,e0];rfl
    cases hE:jy S l0.name with
    | false=>
     obtain⟨m,hm⟩:∃m,fL S l0.name=.int m:=by
      unfold jy at hE
      rcases hO.2 (fL S l0.name) (by rw [hh];simp) with h | h
      ·rw [h] at hE;simp at hE
      ·exact h
     obtain⟨rr,hdr⟩:=Fo hm
     have pl:places p.kind (aW S p)=[0,1+(m % 2).toNat]:=by unfold places;rw [if_pos h9,hh,hm]
     have c0:=Int.emod_nonneg m (show(2:Int)≠0 by decide)
     have c1:=Int.emod_lt_of_pos m (show(0:Int) <2 by decide)
     have hlt:1+(m % 2).toNat <p.ins.length:=by omega
     have at1:BP (p.ins.map V.str) (1+m % 2)=some (.str (strAt p.ins (1+(m % 2).toNat))):=by
      rw [show(1+m % 2:Int)=((1+(m % 2).toNat:Nat):Int) by omega,lZ hlt]
      exact aM (by rw [List.getElem?_map,List.getElem?_eq_getElem hlt];rfl)
     refine fU ⟨_,rfl,a2,_,_,_,rfl,rfl,bI.of (te _ _ q2),at0,_,rfl,_,rfl,_,rfl,a2,_,_,_,rfl,rfl,bI.of (te _ _ q2),at0,N,_,rfl,Vy (te _ _ hN.dict) (lE F.whole.nod hl0),na l0.name,_,0,_,rfl,rfl,bI.of (te _ _ (hN.lists l0 hl0)),by rw [hdr];exact aM (j:=0) rfl,_,_,rfl,rfl,by show(0:Int) <2;decide,_,_,rfl,rfl,a2,_,_,_,rfl,rfl,bI.of (te _ _ q2),at1,iw,fun La nLa=>⟨La,te.trans (aB nLa),?_,rfl⟩⟩
     rw [az]
     unfold vm
     rw [pl]
     show some (HO.lst [V.str l0.name,V.str (strAt p.ins (1+(m % 2).toNat))])=some (.lst [V.str (strAt p.ins 0),V.str (strAt p.ins (1+(m % 2).toNat))])
     have:strAt p.ins 0=l0.name:=by rw [ei,e0];rfl
     rw [this]
    | true=>
     have hm:fL S l0.name=.non:=by unfold jy at hE;exact of_decide_eq_true hE
     have pl:places p.kind (aW S p)=[0]:=by unfold places;rw [if_pos h9,hh,hm]
     refine cz ⟨fun σ' H1=>∃La,aJ H H1/\H1 La=some (.lst ((vm S p).map V.str))/\σ'=[some (.ref q),some (.ref N),some (.ref M),some (.ref D),some (.str (cX p.kind)),some (.str p.name),some (.ref a1),some (.ref a2),some (.ref a3),some (.ref La),some (.ref a3),none],⟨_,rfl,rfl,_,rfl,?_⟩,fun _ _ h=>h⟩
     rw [yM _ ok.1,decide_eq_true h9]
     refine fU ⟨_,rfl,_,rfl,a2,_,rfl,bI.of (te _ _ q2),fun La nLa=>⟨La,te.trans (aB nLa),?_,rfl⟩⟩
     rw [az]
     unfold vm
     rw [pl,show uD (p.ins.map V.str) none (some 1)=(p.ins.map V.str).take 1 from O1 _ 1,ei]
     rfl
   ·rw [decide_eq_false h9]
    refine cz (cz ⟨fun σ' H1=>∃La,aJ H H1/\H1 La=some (.lst ((vm S p).map V.str))/\σ'=[some (.ref q),some (.ref N),some (.ref M),some (.ref D),some (.str (cX p.kind)),some (.str p.name),some (.ref a1),some (.ref a2),some (.ref a3),some (.ref La),some (.ref a3),none],⟨_,rfl,rfl,_,rfl,?_⟩,fun _ _ h=>h⟩)
    rw [yM _ ok.1,decide_eq_false h9]
    exact cz ⟨a2,aJ.refl _,by rw [MK ok h9];exact q2,rfl⟩
  rintro σ' H1 ⟨La,s1,eLa,rfl⟩
  have al3:(vm S p).length<=3:=by unfold vm;rw [lM];exact places_len hO
  refine⟨_,rfl,La,rfl,⟨_,bI.of eLa⟩,cJ (K:=K) (a:=La) (xs:=(vm S p).map V.str) (fun j σ H'=>aJ H1 H'/\(∃v11,σ=[some (.ref q),some (.ref N),some (.ref M),some (.ref D),some (.str (cX p.kind)),some (.str p.name),some (.ref a1),some (.ref a2),some (.ref a3),some (.ref La),some (.ref a3),v11])/\((vm S p).take j).find? (jy S)=none) ⟨aJ.refl _,⟨_,rfl⟩,rfl⟩ (fun j σ H' _ h=>bI.of (h.1 _ _ eLa)) ?_ ?_⟩
  ·rintro j x σ H2 hx ⟨s2,⟨x11,rfl⟩,hf⟩
   rw [List.getElem?_map] at hx
   obtain⟨y,hy,rfl⟩:=Option.map_eq_some_iff.mp hx
   have ft:=yJ hf hy
   obtain⟨l,hl,rfl⟩:=F.inL hp (List.mem_append.mpr (.inl (Q4 ok (List.mem_of_getElem? hy))))
   have s12:=s1.trans s2
   have g:Gd 1 (.list (((S.ev l.name).drop (S.g l.name)).map PyData.int)):=.list (.ints 0 _)
   refine⟨_,rfl,_,rfl,N,_,rfl,Vy (s12 _ _ hN.dict) (lE F.whole.nod hl),iw,fun e ne=>?_⟩
   have te:=aB (o:=.lst []) ne
   refine⟨_,_,qy (bI.of (te _ _ (s12 _ _ (hN.lists l hl)))),qy (ws:=[]) (bI.of az),g.shaped (by decide),g0.shaped (by decide),_,rfl,?_⟩
   rw [HN,Eg]
   cases hb:jy S l.name with
   | true=>
    rw [if_pos hb] at ft
    rw [ft] at alt
    exact fU ⟨_,rfl,_,rfl,iw,fun u nu=>kS _ _ alt _ u ((s12.trans te).trans (aB nu)) ((s12.trans te).free nu) az⟩
   | false=>
    rw [if_neg (by simp [hb])] at ft
    exact cz ⟨s2.trans te,⟨_,rfl⟩,ft⟩
  rintro σ H2 ⟨s2,⟨x11,rfl⟩,hf⟩
  rw [lM,List.take_length] at hf
  rw [hf] at alt
  have s02:=s1.trans s2
  refine⟨fun σ3 H3=>aJ H H3/\qT S p=false/\σ3=[some (.ref q),some (.ref N),some (.ref M),some (.ref D),some (.str (cX p.kind)),some (.str p.name),some (.ref a1),some (.ref a2),some (.ref a3),some (.ref La),some (.ref a3),x11],?_,?_⟩
  ·refine⟨_,rfl,rfl,_,rfl,?_⟩
   rw [Le _ ok.1]
   by_cases h0:p.kind=0
   ·rw [decide_eq_true h0]
    have hdl:=O.dl p hp h0
    refine fU ⟨_,rfl,_,rfl,D,_,rfl,Vy (s02 _ _ hD.dict) (o7 F.pnd hp h0),iw,fun e ne=>?_⟩
    have te:=aB (o:=.lst []) ne
    have g:Gd 1 (.list (((S.r p.name).drop (S.d p.name)).map PyData.int)):=.list (.ints 0 _)
    refine⟨_,_,qy (bI.of (te _ _ (s02 _ _ (hD.lists p hp h0)))),qy (ws:=[]) (bI.of az),g.shaped (by decide),g0.shaped (by decide),_,rfl,?_⟩
    have ee:=N6 h0 hdl
    rw [HN,ee]
    cases he:qT S p with
    | true=>
     dsimp only at alt
     rw [if_pos he] at alt
     exact fU ⟨_,rfl,iw,fun u nu=>kS _ _ alt _ u ((s02.trans te).trans (aB nu)) ((s02.trans te).free nu) az⟩
    | false=>exact cz ⟨s02.trans te,rfl,rfl⟩
   ·rw [decide_eq_false h0]
    exact cz (cz ⟨s02,by unfold qT;simp [h0],rfl⟩)
  rintro σ3 H3 ⟨s3,he,rfl⟩
  dsimp only at alt
  rw [if_neg (by simp [he])] at alt
  refine⟨fun σ4 H4=>∃Lg,aJ H H4/\H4 Lg=some (.lst ((zr S p).map V.str))/\σ4=[some (.ref q),some (.ref N),some (.ref M),some (.ref D),some (.str (cX p.kind)),some (.str p.name),some (.ref a1),some (.ref a2),some (.ref a3),some (.ref La),some (.ref Lg),x11],?_,?_⟩
  ·refine⟨_,rfl,rfl,_,rfl,?_⟩
   rw [Qn _ ok.1]
   by_cases hA:p.kind=10
   ·rw [decide_eq_true hA]
    obtain⟨x0,x1,ei⟩:∃x0 x1,p.ins=[x0,x1]:=by
     have l2:p.ins.length=2:=by rw [ok.2.2.1,hA];rfl
     match hi:p.ins,l2 with
     | [a,b],_=>exact⟨a,b,rfl⟩
    obtain⟨l0,hl0,e0⟩:=F.inL hp (show x0∈p.ins ++ p.outs by rw [ei];simp)
    have at0:BP (p.ins.map V.str) 0=some (.str l0.name):=by rw [ei,e0];rfl
    have hh:aW S p=[fL S l0.name,fL S x1]:=by unfold aW;rw [ei,e0];rfl
    have hE:jy S l0.name=false:=by
     have:=List.find?_eq_none.mp hf l0.name (by rw [MK ok (by omega),ei,e0];simp)
     simpa using this
    obtain⟨m,hm⟩:∃m,fL S l0.name=.int m:=by
     unfold jy at hE
     rcases hO.2 (fL S l0.name) (by rw [hh];simp) with h | h
     ·rw [h] at hE;simp at hE
     ·exact h
    obtain⟨rr,hdr⟩:=Fo hm
    have c0:=Int.emod_nonneg m (show(2:Int)≠0 by decide)
    have c1:=Int.emod_lt_of_pos m (show(0:Int) <2 by decide)
    have l2o:p.outs.length=2:=by rw [ok.2.2.2.1,hA];rfl
    have hlt:(m % 2).toNat <p.outs.length:=by omega
    have at1:BP (p.outs.map V.str) (m % 2)=some (.str (strAt p.outs (m % 2).toNat)):=by
     rw [lZ hlt,show BP (p.outs.map V.str) (m % 2)=BP (p.outs.map V.str) (((m % 2).toNat:Nat):Int) by congr 1;omega]
     exact aM (by rw [List.getElem?_map,List.getElem?_eq_getElem hlt];rfl)
    have eg:zr S p=[strAt p.outs (m % 2).toNat]:=by
     unfold zr Ow yI
     rw [if_neg (by omega),hA]
     unfold places
     rw [if_neg (by decide),hh,hm]
     rfl
    refine fU ⟨_,rfl,_,rfl,_,rfl,a2,_,_,_,rfl,rfl,bI.of (s3 _ _ q2),at0,N,_,rfl,Vy (s3 _ _ hN.dict) (lE F.whole.nod hl0),na l0.name,_,0,_,rfl,rfl,bI.of (s3 _ _ (hN.lists l0 hl0)),by rw [hdr];exact aM (j:=0) rfl,_,_,rfl,rfl,by show(0:Int) <2;decide,a3,_,_,_,rfl,rfl,bI.of (s3 _ _ q3),at1,iw,fun Lg nLg=>⟨Lg,s3.trans (aB nLg),by rw [az,eg];rfl,rfl⟩⟩
   ·rw [decide_eq_false hA]
    exact cz ⟨a3,s3,by rw [Ly ok hA];exact s3 _ _ q3,rfl⟩
  rintro σ4 H4 ⟨Lg,s4,eLg,rfl⟩
  refine⟨_,rfl,Lg,rfl,⟨_,bI.of eLg⟩,cJ (K:=K) (a:=Lg) (xs:=(zr S p).map V.str) (fun j σ H'=>H'=H4/\(∃v11,σ=[some (.ref q),some (.ref N),some (.ref M),some (.ref D),some (.str (cX p.kind)),some (.str p.name),some (.ref a1),some (.ref a2),some (.ref a3),some (.ref La),some (.ref Lg),v11])/\((zr S p).take j).find? (Fg ls S)=none) ⟨rfl,⟨_,rfl⟩,rfl⟩ (fun j σ H' _ h=>by rw [h.1];exact bI.of eLg) ?_ ?_⟩
  ·rintro j x σ H5 hx ⟨rfl,⟨y11,rfl⟩,hf2⟩
   rw [List.getElem?_map] at hx
   obtain⟨y,hy,rfl⟩:=Option.map_eq_some_iff.mp hx
   have ft:=yJ hf2 hy
   obtain⟨l,hl,rfl⟩:=F.inL hp (List.mem_append.mpr (.inr (Kz ok (List.mem_of_getElem? hy))))
   have hgl:=hg l hl
   have hrl:=hrm l hl
   refine⟨_,rfl,_,rfl,N,_,rfl,Vy (s4 _ _ hN.dict) (lE F.whole.nod hl),_,_,rfl,.inl ⟨_,bI.of (s4 _ _ (hN.lists l hl)),rfl⟩,_,rfl,_,rfl,M,_,rfl,Vy (s4 _ _ hM) (gq (by rw [lF];exact eQ F.whole.nod) (List.mem_map.mpr ⟨l,hl,rfl⟩)),rfl,_,rfl,?_⟩
   have e2:decide (V.int ((((S.ev l.name).drop (S.g l.name)).map V.int).length:Int)=V.int l.room)=Fg ls S l.name:=by
    unfold Fg
    rw [CN F.whole.nod hl,lM,List.length_drop,Bool.eq_iff_iff,decide_eq_true_eq,decide_eq_true_eq]
    constructor
    ·intro z;injection z with z;omega
    ·intro z;congr 1;omega
   rw [e2]
   cases hb:Fg ls S l.name with
   | true=>
    rw [if_pos hb] at ft
    rw [ft] at alt
    exact fU ⟨_,rfl,_,rfl,iw,fun u nu=>kS _ _ alt _ u (s4.trans (aB nu)) (s4.free nu) az⟩
   | false=>
    rw [if_neg (by simp [hb])] at ft
    exact cz ⟨rfl,⟨_,rfl⟩,ft⟩
  rintro σ H5 ⟨rfl,⟨y11,rfl⟩,hf2⟩
  rw [lM,List.take_length] at hf2
  rw [hf2] at alt
  exact kN alt _ s4
theorem Rh {H:Hp} {Q:VK} {Ex:XK} {b:Nat} {q N M D:Addr} {na ra:Str->Addr} {ls:List aG} {ps:List PD} {S:FS} {p:PD} (hq:tZ H (.ref q) p) (hp:p∈ps) (F:wg ls ps) (hN:Fz H N na ls S) (hM:H M=some (.dK (dq ls))) (hD:yZ H D ra ps S) (O:Bc b ls ps S) (hb:b<=90000) (hg:∀l∈ls,S.g l.name<=(S.ev l.name).length) (hrm:∀l∈ls,((S.ev l.name).length:Int) - (S.g l.name:Int)<=l.room)
  (kN:eY ls S p=none->∀H',aJ H H'->Q .non H') (kS:∀x y,eY ls S p=some (x,y)->∀H' u,aJ H H'->H u=none->H' u=some (.tup [.str p.name,.str x,.str y])->Q (.ref u) H'):jY K [.ref q,.ref N,.ref M,.ref D] H Q Ex:=by
 unfold jY
 exact⟨b,q,N,M,D,na,ra,ls,ps,S,p,rfl,hq,hp,F,hN,hM,hD,O,hb,hg,hrm,kN,kS⟩
inductive vU (K:PySem.W.Frag) (t:ji) (vs:List V) (H:Hp) (Q:VK) (E:XK):Prop where
 | mk:∀(b:Nat) (r:Addr) (n:Nat) (A:mF) (ls:List aG) (ps:List PD) (S:FS) (L P:Addr),vs=[.ref r,.ref L,.ref P]->lJ t H r A.n A.f n->gJ K t H A.n ls ps->dD K t H A ls ps S->FP H L P ls ps->Bc b ls ps S->b<=90000->((∀l∈ls,S.g l.name<=(S.ev l.name).length))->((∀l∈ls,((S.ev l.name).length:Int) - (S.g l.name:Int)<=l.room))->(∀(H':Hp) (L':Addr) (us:List Addr),aJ H H'->H L'=none->H' L'=some (.lst (us.map V.ref))->eE H' us ((wU ls S ps).map QG)->Q (.ref L') H')->vU K t vs H Q E
noncomputable abbrev rR:List Str:=["_law_run", "_law_lanes", "_law_parts", "_law_now", "_law_rooms", "_law_name", "_law_room", "_law_first", "_law_left", "_law_found"]
theorem wj (T:Txt w K mg t):FO P w K mg base 5 t.yt ["_law_run", "_law_lanes", "_law_parts"] (vU K t):=by
 have sc:=T.nY.sc rR
 refine T.nY.F.ok sc ln (fun _ _ _ _ H vs Q E hr h=>?_)
 obtain⟨b,r,n,A,ls,ps,S,L,P,rfl,hR,N,W,A0,O,hb,hg,hrm,k⟩:=h
 refine⟨_,(aq (sN sc 3 fM)
  (aq (sN sc 4 fM)
  (aq (du PassesOwn.never rfl (bN (pv 1)) (wH rfl (dg (gN sc 5) (dg (gN sc 6) (dg (gN sc 7) qx))))
   (aq (gh hr.u1 (pv 3) (pv 5) (wD (pv 0) T.bQ T.bQ.me.2.2.2.2.2.2.2.1 (Bb T) T.pK hr (aa (pv 5) ak aj)) rfl)
   (aA (gh hr.u1 (pv 4) (pv 5) (pv 6) rfl))))
  (aq (sN sc 8 (Oz (pv 0) T.bQ T.bQ.me.2.2.2.2.2.2.2.2.2.1 (yX T) T.mD hr))
  (aq (jn (i:=9) [3,4,8] rR (aU (top 80)) rfl sc.nd rfl (bN (pv 2)) (fun _ _ _ _ _=>iC) (fun _ _ _ _ _=>(dC (Hy T) T.uM hr (aa (pv 0) (aa (pv 1) (aa (pv 2) (aa (pv 3) ak aj) aj) aj) aj))))
  (aA (aN (eX [] rR (aU (top 80)) rfl (bN (pv 9)) (fun _ _ _ _ _=>(qR (gH (rP (pv 0))))) (fun _ _ _ _ _=>(pv 0)))))))))),?_⟩
 have hz:sizeLine=16777216:=sizeLine_eq
 obtain⟨⟨xs,eL,aL⟩,⟨ys,eP,aP⟩⟩:=id A0
 have F:wg ls ps:=by obtain⟨_,_,_,_,_,_,_,_,_,Wn⟩:=N;exact Wn.fit
 have l24:=F.l24
 have p16:=F.p16
 have xl:=aL.length
 have yl:=aP.length
 have nod:=F.whole.nod
 refine fun Nd nN=>?_
 have s1:aJ H (bA [Nd] (upd H Nd (.dK []))):=fun b o e=>dU (aB nN _ _ e) (by simpa using aD e nN)
 have eN1:upd H Nd (.dK []) Nd=some (.dK []):=az
 generalize upd H Nd (.dK [])=H1 at s1 eN1 ⊢
 refine fun Md nM=>?_
 have nMN:Md≠Nd:=fun z=>by rw [z,eN1] at nM;cases nM
 have nM0:H Md=none:=(s1.trans bR).free nM
 have s2:aJ H (bA [Nd,Md] (upd H1 Md (.dK []))):=fun b o e=>dU (aB nM _ _ (bR _ _ (s1 _ _ e))) (by simp;exact⟨aD e nN,aD e nM0⟩)
 have eN2:upd H1 Md (.dK []) Nd=some (.dK []):=aB nM _ _ eN1
 have eM2:upd H1 Md (.dK []) Md=some (.dK []):=az
 generalize upd H1 Md (.dK [])=H2 at s2 eN2 eM2 ⊢
 refine⟨_,rfl,L,rfl,⟨_,bI.of (bR _ _ (s2 _ _ eL))⟩,cJ (K:=K) (a:=L) (xs:=xs) (fun j σ H'=>(∃v5 v6 v7,σ=[some (.ref r),some (.ref L),some (.ref P),some (.ref Nd),some (.ref Md),v5,v6,v7,none,none])/\aJ H (bA [Nd,Md] H')/\∃EL:List (aG×Addr),EL.map (·.1)=ls.take j/\H' Nd=some (.dK (bD EL))/\H' Md=some (.dK (dq (ls.take j)))/\∀q∈EL,bA [Nd,Md] H' q.2=some (.lst (((S.ev q.1.name).drop (S.g q.1.name)).map V.int))) ⟨⟨none,none,none,rfl⟩,s2,[],rfl,eN2,eM2,by simp⟩ (fun j σ H' _ h=>bI.of (bR _ _ (h.2.1 _ _ eL))) ?_ ?_⟩
 ·rintro j x σ H3 hx ⟨⟨w5,w6,w7,rfl⟩,s3,EL,eEL,eN3,eM3,hEL⟩
  obtain⟨l,hlj,r0,f,rfl,hr,hf⟩:=aL.get hx
  have hlm:=List.mem_of_getElem? hlj
  have hj:=(List.getElem?_eq_some_iff.mp hlj).1
  have nin:=mj nod hlj
  have vR:bT (dq (ls.take j)) (Sum.inr l.name)=none:=fJ (by rw [lF];intro z;obtain⟨b,hb,e⟩:=List.mem_map.mp z;cases e;exact nin hb)
  have vF:bT (bD EL) (Sum.inr l.name)=none:=fJ (by rw [m9,eEL];intro z;obtain⟨b,hb,e⟩:=List.mem_map.mp z;cases e;exact nin hb)
  have tk:ls.take (j+1)=ls.take j ++ [l]:=by rw [List.take_succ,hlj];rfl
  have lEL:EL.length<=24:=by have:=congrArg List.length eEL;rw [lM,List.length_take] at this;omega
  have s03:=s3.trans bR
  have hR3:=hR.same s03
  obtain⟨dxr,fsr,R0⟩:=id hR3
  refine⟨r0,_,rfl,fC.of (s03 _ _ hr),rfl,_,_,rfl,_,_,rfl,_,_,rfl,rfl,?_⟩
  refine⟨_,rfl,r,dxr,fsr,rfl,R0.1.1,R0.2.no _ (by decide +kernel),_,rfl,r,n,A,ls,ps,S,l,rfl,hR3,N.same s03,W.same s03,hlm,fun H4 u s4 nu eu=>?_⟩
  have eN4:=s4 _ _ eN3
  have eM4:=s4 _ _ eM3
  have nuN:u≠Nd:=fun z=>by rw [z,eN3] at nu;cases nu
  have nuM:u≠Md:=fun z=>by rw [z,eM3] at nu;cases nu
  refine⟨_,rfl,_,rfl,Nd,_,rfl,ph.k (k:=Sum.inr l.name) eN4 (by unfold bD;rw [lM];omega),?_⟩
  rw [iR _ vF]
  refine⟨_,rfl,_,rfl,_,rfl,Md,_,rfl,ph.k (k:=Sum.inr l.name) (by rw [aK nMN];exact eM4) (by unfold dq;rw [lM,List.length_take];omega),?_⟩
  rw [iR _ vR]
  have cc:bA [Nd,Md] (upd (upd H4 Nd (.dK (bD EL ++ [(Sum.inr l.name,V.ref u)]))) Md (.dK (dq (ls.take j) ++ [(Sum.inr l.name,V.int l.room)])))=bA [Nd,Md] H4:=by rw [dW (by simp),dW (by simp)]
  have c34:aJ (bA [Nd,Md] H3) (bA [Nd,Md] H4):=CJ s4 fun a ha=>by
   simp at ha
   rcases ha with rfl | rfl
   ·exact⟨_,eN3⟩
   ·exact⟨_,eM3⟩
  refine⟨⟨_,_,_,rfl⟩,by rw [cc];exact s3.trans c34,EL ++ [(l,u)],by rw [List.map_append,eEL,tk];rfl,?_,?_,fun q hq=>?_⟩
  ·rw [aK (Ne.symm nMN),az]
   unfold bD
   rw [List.map_append]
   rfl
  ·rw [az,tk]
   unfold dq
   rw [List.map_append]
   rfl
  ·rw [cc]
   rcases List.mem_append.mp hq with h | h
   ·exact c34 _ _ (hEL q h)
   ·rw [List.mem_singleton] at h
    subst h
    exact dU eu (by simp;exact⟨nuN,nuM⟩)
 rintro σ H3 ⟨⟨w5,w6,w7,rfl⟩,s3,EL,eEL,eN3,eM3,hEL⟩
 rw [xl,List.take_length] at eEL eM3
 have nE:(EL.map fun q=>q.1.name).Nodup:=by
  have:(EL.map (·.1)).map (·.name)=EL.map fun q=>q.1.name:=by rw [List.map_map];rfl
  rw [<-this,eEL]
  exact nod
 have NA:Fz H3 Nd (oV (·.name) EL) ls S:=by
  refine⟨?_,fun l hl=>?_⟩
  ·have:Ni (oV (·.name) EL) ls=bD EL:=by
    unfold Ni bD
    rw [<-eEL,List.map_map]
    refine List.map_congr_left fun q hq=>?_
    show((Sum.inr q.1.name:Key),V.ref (oV (·.name) EL q.1.name))=_
    rw [show oV (·.name) EL q.1.name=q.2 from jN nE hq]
   rw [this]
   exact eN3
  ·rw [<-eEL] at hl
   obtain⟨q,hq,rfl⟩:=List.mem_map.mp hl
   rw [show oV (·.name) EL q.1.name=q.2 from jN nE hq]
   exact bR _ _ (hEL q hq)
 have s03:=s3.trans bR
 clear hEL s3 nE eEL eN3 s1 s2 eN1 eN2 eM2
 have hR3:=hR.same s03
 obtain⟨dxr,fsr,R0⟩:=id hR3
 refine⟨_,rfl,r,dxr,fsr,rfl,R0.1.1,R0.2.no _ (by decide +kernel),r,n,A,ls,ps,S,rfl,hR3,N.same s03,W.same s03,fun H4 D ra s4 hD nD=>?_⟩
 have s04:=s03.trans s4
 have eP4:=s04 _ _ eP
 refine⟨_,rfl,P,rfl,⟨_,bI.of eP4⟩,d7 (K:=K) (a:=P) (xs:=ys) (fun j zs H'=>aJ H4 H'/\zs.length=j/\∃us:List Addr,zs.filter (fun v=>!decide (v=.non))=us.map V.ref/\eE H' us ((wU ls S (ps.take j)).map QG)/\∀v∈zs,v=.non∨∃u,v=.ref u) (by omega) ⟨aJ.refl _,rfl,[],rfl,.nil,by simp⟩ (fun j zs H' h=>by omega) (fun j zs H' _ h=>h.1.seq (bI.of eP4)) ?_ ?_⟩
 ·rintro j x zs H5 hx ⟨s5,lz,us,eu,tu,hv⟩
  obtain⟨p,hpj,hrow⟩:=aP.get hx
  have s05:=s04.trans s5
  obtain⟨q,a1,a2,a3,rfl,hq,hq1,hq2,hq3⟩:=hrow.same s05
  rw [List.take_succ,hpj,Option.toList_some,Jx,List.map_append]
  refine yes ⟨_,rfl,_,rfl,_,rfl,_,rfl,Rh ⟨q,a1,a2,a3,rfl,hq,hq1,hq2,hq3⟩ (List.mem_of_getElem? hpj) F (NA.same (s4.trans s5)) (s5 _ _ (s4 _ _ eM3)) (hD.same s5) O hb hg hrm (fun hn H6 s6=>?_) (fun x y hw H6 u s6 nu eu6=>?_)⟩
  ·rw [hn]
   refine⟨s5.trans s6,by rw [lP,lz];rfl,us,by rw [List.filter_append,eu];simp,by simpa using eE.same s6 tu,fun v h=>?_⟩
   rcases List.mem_append.mp h with h | h
   ·exact hv v h
   ·exact .inl (List.mem_singleton.mp h)
  ·rw [hw]
   refine⟨s5.trans s6,by rw [lP,lz];rfl,us ++ [u],by rw [List.filter_append,eu];simp,(eE.same s6 tu).append (.cons eu6 .nil),fun v h=>?_⟩
   rcases List.mem_append.mp h with h | h
   ·exact hv v h
   ·exact .inr ⟨u,List.mem_singleton.mp h⟩
 rintro zs H5 ⟨s5,lz,us,eu,tu,hv⟩ L1 nL1
 rw [yl,List.take_length] at tu
 have t6:=aB (o:=.lst zs) nL1
 have eL1:upd H5 L1 (.lst zs) L1=some (.lst zs):=az
 have tu6:=eE.same t6 tu
 have s06:=(s04.trans s5).trans t6
 generalize upd H5 L1 (.lst zs)=H6 at t6 eL1 tu6 s06 ⊢
 refine⟨_,rfl,L1,rfl,⟨_,bI.of eL1⟩,d7 (K:=K) (a:=L1) (xs:=zs) (fun j vs H'=>H'=H6/\vs=(zs.take j).filter (fun v=>!decide (v=.non))) (by omega) ⟨rfl,rfl⟩ (fun j vs H' ⟨_,e⟩=>by rw [e];exact Nat.le_trans (List.length_filter_le _ _) (by rw [List.length_take];omega)) (fun j vs H' _ ⟨e,_⟩=>by rw [e];exact bI.of eL1) ?_ ?_⟩
 ·rintro j v vs H' hj ⟨rfl,rfl⟩
  refine⟨_,rfl,_,rfl,?_⟩
  rw [List.take_succ,hj,Option.toList_some,List.filter_append]
  rcases hv v (List.mem_of_getElem? hj) with rfl | ⟨u,rfl⟩
  ·exact cz ⟨rfl,by simp⟩
  ·exact fU ⟨_,rfl,rfl,by simp⟩
 rintro vs H' ⟨rfl,rfl⟩ L2 nL2
 rw [List.take_length,eu]
 have t7:=aB (o:=.lst (us.map V.ref)) nL2
 exact k _ L2 us (s06.trans t7) (s06.free nL2) az (eE.same t7 tu6)
theorem Sw:∀i,i <11->decide (V.str (cX i)=V.str "take")=decide (i=1):=by decide +kernel
inductive xx (K:PySem.W.Frag) (vs:List V) (H:Hp) (Q:VK) (E:XK):Prop where
 | mk:∀(P:Addr) (xs:List V) (ps:List PD) (c:Int),vs=[.ref P,.int c]->H P=some (.lst xs)->jE (tZ H) xs ps->((∀p∈ps,p.kind <11))->ps.length<=16->(∀(H':Hp) (p:Addr) (zs:List Str),aJ H H'->H p=none->H' p=some (.lst (zs.map V.str))->(∀x∈zs,V.str x∈dH ps "give" ++ dH ps "take")->Q (.ref p) H')->xx K vs H Q E
noncomputable abbrev uP:List Str:=["_law_parts", "_law_cell_here", "_law_doors"]
theorem G8 (T:Txt w K mg t):FO P w K mg base 2 t.zA ["_law_parts", "_law_cell_here"] (xx K):=by
 have sc:=T.uA.sc uP
 refine T.uA.F.ok sc ln (fun _ _ _ _ H vs Q E hr h=>?_)
 obtain⟨P,xs,ps,c,rfl,eP,aP,hk,p16,k⟩:=h
 refine⟨_,(aq (sN sc 2 (eX [] uP (aU (top 81)) rfl (bN (pv 0)) (fun _ _ _ _ _=>(qR (PW.pt (tE (bc fc (aR (mX (K:=K) rfl) (pv 0) au (fun _ _=>rfl)) bG (bH _)) (mq (bc fc (aR (mX (K:=K) rfl) (pv 0) au (fun _ _=>rfl)) bG (bH _))))))) (fun _ _ _ _ _=>(aR (mX (K:=K) rfl) (pv 0) au (fun _ _=>rfl)))))
  (aq (bM (bc fc (bx bW (dC (aX T) T.bf hr (aa (pv 1) (aa au ak ao) aj)) au) au (bH _))
   (aA (aN (bz ak)))
   bu)
  (aA (aN (eX [1,2] uP (aU (top 81)) rfl (iY rfl T.kY (aa (bw bV (by rfl) T.fX dG (aa (pv 2) ak aj)) ak aY)) (fun _ _ _ _ _=>(qR (bc fc (bx bW (dC (aX T) T.bf hr (aa (pv 1) (aa (bx dm au (pv 0)) ak bL) aj)) au) au (bH _)))) (fun _ _ _ _ _=>(aR (Jo (K:=K) rfl) (pv 2) (pv 0) (fun _ _=>rfl)))))))),?_⟩
 have hz:sizeLine=16777216:=sizeLine_eq
 have xl:=aP.length
 refine⟨_,rfl,P,rfl,⟨_,bI.of eP⟩,d7 (K:=K) (a:=P) (xs:=xs) (fun j ys H'=>H'=H/\ys=((ps.take j).filter fun p=>decide (p.kind <2)).map fun p=>V.str p.name) (by omega) ⟨rfl,rfl⟩ (fun j ys H' h=>by rw [h.2,lM];exact Nat.le_trans (List.length_filter_le _ _) (by rw [List.length_take];omega)) (fun j ys H' _ h=>by rw [h.1];exact bI.of eP) ?_ ?_⟩
 ·rintro j x ys H1 hx ⟨rfl,rfl⟩
  obtain⟨p,hpj,q,a1,a2,a3,rfl,hq,_⟩:=aP.get hx
  have hk':=hk p (List.mem_of_getElem? hpj)
  refine⟨_,rfl,q,_,0,_,rfl,rfl,fC.of hq,aM (j:=0) rfl,rfl,_,rfl,?_⟩
  rw [Le _ hk',List.take_succ,hpj,Option.toList_some,List.filter_append,List.map_append,List.filter_cons]
  by_cases h0:p.kind=0
  ·rw [decide_eq_true h0]
   exact fU (fU ⟨_,rfl,q,_,1,_,rfl,rfl,fC.of hq,aM (j:=1) rfl,rfl,by rw [if_pos (by simp [h0])];rfl⟩)
  ·rw [decide_eq_false h0]
   refine cz ⟨_,rfl,q,_,0,_,rfl,rfl,fC.of hq,aM (j:=0) rfl,rfl,_,rfl,?_⟩
   rw [Sw _ hk']
   by_cases h1:p.kind=1
   ·rw [decide_eq_true h1]
    exact fU ⟨_,rfl,q,_,1,_,rfl,rfl,fC.of hq,aM (j:=1) rfl,rfl,by rw [if_pos (by simp [h1])];rfl⟩
   ·rw [decide_eq_false h1]
    exact cz ⟨rfl,by rw [if_neg (by simp;omega)];simp⟩
 rintro zs H1 ⟨rfl,rfl⟩ Ld nLd
 rw [xl,List.take_length]
 obtain⟨ds,hds⟩:∃ds:List Str,ds=(ps.filter fun p=>decide (p.kind <2)).map fun p=>p.name:=⟨_,rfl⟩
 have lds:ds.length<=16:=by rw [hds,lM];exact Nat.le_trans (List.length_filter_le _ _) p16
 have dds:∀x∈ds,V.str x∈dH ps "give" ++ dH ps "take" :=fun x hx=>by
  rw [hds] at hx
  obtain⟨p,hp,rfl⟩:=List.mem_map.mp hx
  obtain⟨hp,h2⟩:=List.mem_filter.mp hp
  have h2:=of_decide_eq_true h2
  refine List.mem_append.mpr ?_
  have:p.kind=0∨p.kind=1:=by omega
  rcases this with h | h
  ·exact .inl (List.mem_map.mpr ⟨p,List.mem_filter.mpr ⟨hp,by rw [h];rfl⟩,rfl⟩)
  ·exact .inr (List.mem_map.mpr ⟨p,List.mem_filter.mpr ⟨hp,by rw [h];rfl⟩,rfl⟩)
 have mds:((ps.filter fun p=>decide (p.kind <2)).map fun p=>V.str p.name)=ds.map V.str:=by rw [hds,List.map_map];rfl
 rw [mds]
 have t1:=aB (o:=.lst (ds.map V.str)) nLd
 have eLd:upd H1 Ld (.lst (ds.map V.str)) Ld=some (.lst (ds.map V.str)):=az
 generalize upd H1 Ld (.lst (ds.map V.str))=H2 at t1 eLd ⊢
 refine⟨_,rfl,_,_,rfl,_,_,rfl,rfl,by show(0:Int) <3;decide,rfl,_,rfl,jG (fun _=>?_) (fun _=>?_)⟩
 ·exact⟨iw,fun p np=>k _ p [] (t1.trans (aB np)) (t1.free np) az (by simp)⟩
 refine⟨_,rfl,_,(ds.map V.str).length,rfl,.inl ⟨_,bI.of eLd,rfl⟩,_,rfl,by omega,by rw [lM];omega,?_⟩
 refine kj (fun i ys H'=>H'=H2/\ys.length<=i/\∃zs:List Str,ys=zs.map V.str/\∀x∈zs,x∈ds) (by rw [Int.toNat_natCast,lM];omega) ⟨rfl,Nat.le_refl _,[],rfl,by simp⟩ (fun i ys H' h=>h.2.1) ?_ ?_
 ·rintro i ys H' hi ⟨rfl,ly,zs,rfl,hzs⟩
  rw [Int.toNat_natCast,lM] at hi
  refine⟨_,rfl,_,rfl,_,_,rfl,rfl,_,_,rfl,_,_,rfl,rfl,by show(0:Int) <3;decide,rfl,_,rfl,jG (fun _=>?_) (fun _=>⟨rfl,Nat.le_succ_of_le ly,zs,rfl,hzs⟩)⟩
  refine⟨_,rfl,_,rfl,Ld,_,_,.str ds[i],rfl,rfl,bI.of eLd,?_,rfl,by rw [lP];simp;simpa using ly,zs ++ [ds[i]],by simp,fun x hx=>?_⟩
  ·rw [show(0:Int)+(i:Int)=(i:Int) by omega]
   exact aM (by rw [List.getElem?_map,List.getElem?_eq_getElem hi];rfl)
  ·rcases List.mem_append.mp hx with h | h
   ·exact hzs x h
   ·rw [List.mem_singleton] at h
    rw [h]
    exact List.getElem_mem hi
 rintro ys H' ⟨rfl,_,zs,rfl,hzs⟩ p np
 exact k _ p zs (t1.trans (aB np)) (t1.free np) az fun x hx=>dds x (hzs x hx)
noncomputable def X6 (w:Str×Str×Str):PyData:=.tuple [.str w.1,.str w.2.1,.str w.2.2]
theorem My {H:Hp}:∀{us:List Addr} {ws:List (Str×Str×Str)},eE H us (ws.map QG)->Nt K H (us.map V.ref) (ws.map X6)
 | [],[],_=>.nil
 | [],_:: _,h=>nomatch h
 | _:: _,[],h=>nomatch h
 | u:: us,w:: ws,h=>by
  have h:Paired (fun r vs=>H r=some (.tup vs)) (u:: us) (QG w:: ws.map QG):=h
  cases h with
  | cons a b=>exact .cons (.tuple (fC.of a) (.cons (.str _) (.cons (.str _) (.cons (.str _) .nil)))) (My b)
theorem HW {H:Hp} {L:Addr} {us:List Addr} {ws:List (Str×Str×Str)} (h:bI K H L (us.map V.ref)) (t:eE H us (ws.map QG)):Dt K H (.ref L) (.list (ws.map X6)):=.list h (My t)
theorem RX {ls:List aG} {ps:List PD} {S:FS} (F:wg ls ps) {p:PD} (hp:p∈ps) {x y:Str} (h:eY ls S p=some (x,y)):PyData.strOk x=true/\PyData.strOk y=true:=by
 have ok:=F.pok p hp
 have ln:∀x∈p.ins ++ p.outs,PyData.strOk x=true:=fun x hx=>by
  obtain⟨l,hl,rfl⟩:=F.inL hp hx
  exact Hc (F.lnm l hl)
 have t1:PyData.strOk ("value" :Str)=true:=by decide +kernel
 have t2:PyData.strOk ("end" :Str)=true:=by decide +kernel
 have t3:PyData.strOk ("room" :Str)=true:=by decide +kernel
 have t4:PyData.strOk ("" :Str)=true:=by decide +kernel
 rw [Es ok] at h
 split at h
 ·rename_i z hz
  cases h
  exact⟨ln _ (List.mem_append.mpr (.inl (Q4 ok (List.mem_of_find?_eq_some hz)))),t1⟩
 ·split at h
  ·cases h
   exact⟨t4,t2⟩
  ·split at h
   ·rename_i z hz
    cases h
    exact⟨ln _ (List.mem_append.mpr (.inr (Kz ok (List.mem_of_find?_eq_some hz)))),t3⟩
   ·cases h
theorem MP {ls:List aG} {ps:List PD} {S:FS} {w:Str×Str×Str} (h:w∈wU ls S ps):∃p∈ps,eY ls S p=some w.2/\w.1=p.name:=by
 obtain⟨p,hp,e⟩:=List.mem_filterMap.mp h
 obtain⟨w',hw,rfl⟩:=Option.map_eq_some_iff.mp e
 exact⟨p,hp,hw,rfl⟩
theorem Vp {ls:List aG} {ps:List PD} {S:FS} (F:wg ls ps):Gd 2 (.list ((wU ls S ps).map X6)):=.list fun d hd=>by
 obtain⟨w,hw,rfl⟩:=List.mem_map.mp hd
 obtain⟨p,hp,h1,h2⟩:=MP hw
 have h3:=RX F hp (x:=w.2.1) (y:=w.2.2) h1
 unfold X6
 refine .tuple fun d hd=>?_
 simp only [List.mem_cons,List.not_mem_nil,or_false] at hd
 rcases hd with rfl | rfl | rfl
 ·rw [h2];exact .str 0 (Hc (F.pnm p hp))
 ·exact .str 0 h3.1
 ·exact .str 0 h3.2
inductive yp (K:PySem.W.Frag) (t:ji) (vs:List V) (H:Hp) (Q:VK) (E:XK):Prop where
 | mk:∀(b:Nat) (r:Addr) (n:Nat) (A:mF) (ls:List aG) (ps:List PD) (S:FS) (L:Addr) (us:List Addr),vs=[.ref r,.ref L]->lJ t H r A.n A.f n->gJ K t H A.n ls ps->dD K t H A ls ps S->Bc b ls ps S->H L=some (.lst (us.map V.ref))->eE H us ((wU ls S ps).map QG)->(∀H',aJ H H'->Q (.bl true) H')->yp K t vs H Q E
noncomputable abbrev z8:List Str:=["_law_run", "_law_due", "_law_found", "_law_wait_here"]
theorem yj (T:Txt w K mg t):FO P w K mg base 8 t.Ag ["_law_run", "_law_due"] (yp K t):=by
 have sc:=T.pO.sc z8
 refine T.pO.F.ok sc ln (fun _ _ _ _ H vs Q E hr h=>?_)
 obtain⟨b,r,n,A,ls,ps,S,L,us,rfl,hR,N,W,O,eL,tU,k⟩:=h
 refine⟨_,(aq (sN sc 2 (dC (zE T) T.sJ hr (aa (pv 0) ak aj)))
  (aq (bM (PW.pt (tE (gK (fW (bw lV (by rfl) T.fG eN (aa (pv 2) (aa (pN (by rfl) T.uI qu) ak aj) aj)))) (mq (bc (Kr hr.units) (pv 2) (pv 1) (bH _)))))
   (aA (aN jT))
   bu)
  (aq (du PassesOwn.never rfl (bN (pv 2)) (gN sc 3)
   (aA (bM (PW.pt (tE (gK (fW (bw lV (by rfl) T.fG eN (aa (pv 3) (aa (pN (by rfl) T.xM ue) ak aj) aj)))) (mq (bc (Kr hr.units) (eX [] z8 (aU (top 82)) rfl (Dp (pv 3)) (fun _ _ _ _ _=>(qR (gK (fW (bw (Oh (K:=K) rfl) (by rfl) T.fG eN (aa (pv 0) (aa (pN (by rfl) T.PB JX) ak aj) aj)))))) (fun _ _ _ _ _=>(pv 0))) (bz ak) (bH _)))))
    (aA (aN jT))
    bu)))
  (aq (bK (Gp PySem.F.plainAttrs_list PySem.F.slot_list_clear PySem.F.type_list_clear O2 (pv 2)))
  (aA (aN (p7 (Hd hr.units) (dC (zE T) T.sJ hr (aa (pv 0) ak aj)) (pv 1) (bH _)))))))),?_⟩
 have hz:sizeLine=16777216:=sizeLine_eq
 have F:wg ls ps:=by obtain⟨_,_,_,_,_,_,_,_,_,Wn⟩:=N;exact Wn.fit
 have g:=Vp (S:=S) F
 have p16:=F.p16
 have lw:=Mw ls S ps
 have g0:Gd 1 (.list (([]:List Int).map PyData.int)):=.list (.ints 0 _)
 refine⟨_,rfl,b,r,n,A,ls,ps,S,rfl,hR,N,W,O,fun H1 L1 us1 s1 nL1 eL1 tU1 fu1=>?_⟩
 refine⟨_,rfl,_,_,_,_,rfl,.inl ⟨rfl,_,bI.of eL1⟩,by decide,rfl,_,rfl,cz ?_⟩
 refine⟨_,rfl,_,rfl,_,_,HW (bI.of eL1) tU1,HW (bI.of (s1 _ _ eL)) (eE.same s1 tU),g.shaped (by decide),g.shaped (by decide),_,rfl,?_⟩
 rw [g.eq]
 refine cz ?_
 refine⟨_,rfl,L1,rfl,⟨_,bI.of eL1⟩,cJ (K:=K) (a:=L1) (xs:=us1.map V.ref) (fun j σ H'=>aJ H1 H'/\∃v3,σ=[some (.ref r),some (.ref L),some (.ref L1),v3]) ⟨aJ.refl _,none,rfl⟩ (fun j σ H' _ h=>h.1.seq (bI.of eL1)) ?_ ?_⟩
 ·rintro j x σ H2 hx ⟨s2,v3,rfl⟩
  rw [List.getElem?_map] at hx
  obtain⟨u,hu,rfl⟩:=Option.map_eq_some_iff.mp hx
  obtain⟨vs2,z1,z2⟩:=qZ tU1 hu
  rw [List.getElem?_map] at z1
  obtain⟨w,ew,rfl⟩:=Option.map_eq_some_iff.mp z1
  have eu:=s2 _ _ z2
  refine⟨_,rfl,_,_,_,_,rfl,.inr (.inl ⟨rfl,_,fC.of eu⟩),by decide,rfl,_,rfl,cz ?_⟩
  refine⟨_,rfl,u,rfl,⟨_,fC.of eu⟩,Bm (K:=K) (a:=u) (xs:=QG w) (fun i ys H'=>H'=H2/\ys=[]) (iw) ⟨rfl,rfl⟩ (fun i ys H' h=>by rw [h.2];exact Nat.zero_le _) (fun i ys H' _ h=>by rw [h.1];exact fC.of eu) ?_ ?_⟩
  ·rintro i v ys H' hv ⟨rfl,rfl⟩
   obtain⟨z,rfl⟩:∃z,v=V.str z:=by
    have:=List.mem_of_getElem? hv
    unfold QG at this
    simp only [List.mem_cons,List.not_mem_nil,or_false] at this
    rcases this with h | h | h <;> exact⟨_,h⟩
   exact⟨_,rfl,_,_,_,_,rfl,rfl,by decide,rfl,_,rfl,cz ⟨rfl,rfl⟩⟩
  rintro ys H' ⟨rfl,rfl⟩ e ne
  refine⟨iw,fun e2 ne2=>⟨_,_,qy (ws:=[]) (bI.of (aB ne2 _ _ az)),qy (ws:=[]) (bI.of az),g0.shaped (by decide),g0.shaped (by decide),_,rfl,?_⟩⟩
  rw [g0.eq]
  exact cz ⟨(s2.trans (aB ne)).trans (aB ne2),_,rfl⟩
 rintro σ H2 ⟨s2,v3,rfl⟩
 have eL2:=s2 _ _ eL1
 refine⟨_,rfl,.inl ⟨rfl,_,bI.of eL2⟩,L1,_,rfl,rfl,eL2,?_⟩
 have s3:aJ H (upd H2 L1 (.lst [])):=fun b o e=>by rw [aK (aD e nL1)];exact s2 _ _ (s1 _ _ e)
 generalize upd H2 L1 (.lst [])=H3 at s3 ⊢
 refine⟨_,rfl,b,r,n,A,ls,ps,S,rfl,hR.same s3,N.same s3,W.same s3,O,fun H4 L4 us4 s4 nL4 eL4 tU4 _=>?_⟩
 refine⟨_,rfl,_,_,HW (bI.of eL4) tU4,HW (bI.of (s4 _ _ (s3 _ _ eL))) (eE.same (s3.trans s4) tU),g.shaped (by decide),g.shaped (by decide),?_⟩
 rw [g.eq]
 exact k _ (s3.trans s4)
theorem Mz {α:Type} {f:α->List Str} {g:α->List Int} {x:Str}:∀{l:List α},(l.flatMap f).Nodup->(∀a∈l,(g a).length<=1)->(∀a∈l,g a≠[]->x∈f a)->(l.flatMap g).length<=1
 | [],_,_,_=>by simp
 | a:: r,nd,h1,h2=>by
  rw [List.flatMap_cons,List.nodup_append] at nd
  rw [List.flatMap_cons,lP]
  by_cases h:g a=[]
  ·rw [h]
   have:=Mz nd.2.1 (fun b hb=>h1 b (List.mem_cons_of_mem _ hb)) fun b hb=>h2 b (List.mem_cons_of_mem _ hb)
   simpa using this
  ·have hx:=h2 a List.mem_cons_self h
   have e:r.flatMap g=[]:=List.flatMap_eq_nil_iff.mpr fun b hb=>by
    by_cases hb':g b=[]
    ·exact hb'
    ·exact absurd rfl (nd.2.2 x hx x (List.mem_flatMap.mpr ⟨b,hb,h2 b (List.mem_cons_of_mem _ hb) hb'⟩))
   rw [e]
   have:=h1 a List.mem_cons_self
   simpa using this
theorem yF {α:Type} {f:α->List Str}:∀{l m:List α},l.Sublist m->(l.flatMap f).Sublist (m.flatMap f)
 | _,_,.slnil=>List.Sublist.refl _
 | _,_,.cons a h=>by rw [List.flatMap_cons];exact(yF h).trans (List.sublist_append_right _ _)
 | _,_,.cons₂ a h=>by rw [List.flatMap_cons,List.flatMap_cons];exact(List.Sublist.refl _).append (yF h)
theorem SQ {ls:List aG} {ps:List PD} {S:FS} {xs:List Str} (F:wg ls ps):((jF ls ps S xs).flatMap (·.1.ins)).Nodup:=by
 have h:((jF ls ps S xs).map (·.1)).Sublist ps:=(n8 (qs:=ps.filter (j6 xs))).trans List.filter_sublist
 have h2:=(F.whole.ins.nodup_iff.mpr F.whole.nod).sublist (yF (f:=(·.ins)) h)
 rwa [List.flatMap_map] at h2
theorem UW {ls:List aG} {ps:List PD} {S:FS} (F:wg ls ps) {p:PD} (hp:p∈ps) {dd:jV} (h:jl S p=some dd) {x:Str} (hx:x∈dd.tk):x∈p.ins/\S.g x <(S.ev x).length:=by
 obtain⟨hl,_,rfl⟩:=oZ h
 obtain⟨q,hq,rfl⟩:=List.mem_map.mp hx
 obtain⟨y,n,e1,_,e3⟩:=Lr (F.pok p hp) hl q hq
 have e:strAt p.ins q=y:=by unfold strAt;rw [e1];rfl
 rw [e]
 exact⟨List.mem_of_getElem? e1,(List.getElem?_eq_some_iff.mp e3).1⟩
theorem Pq {α:Type} {l:List α} {j:Nat} {a:α} (h:l[j]?=some a):l=l.take j ++ a:: l.drop (j+1):=by
 obtain⟨hj,e⟩:=List.getElem?_eq_some_iff.mp h
 rw [<-e,<-List.drop_eq_getElem_cons hj,List.take_append_drop]
theorem V9 {ls:List aG} {ps:List PD} {S:FS} {xs:List Str} (F:wg ls ps) {j:Nat} {w:PD×jV} (h:(jF ls ps S xs)[j]?=some w) {x:Str} (hx:x∈w.2.tk):(je S ((jF ls ps S xs).take j)).g x=S.g x/\S.g x <(S.ev x).length:=by
 have hw:=lr (List.mem_of_getElem? h)
 have t1:=UW F hw.1 (gY hw.2.2).1 hx
 refine⟨?_,t1.2⟩
 have nd:=SQ (ls:=ls) (S:=S) (xs:=xs) F
 rw [Pq h,List.flatMap_append,List.flatMap_cons,List.nodup_append] at nd
 rw [Gz,List.filter_eq_nil_iff.mpr fun w' hw'=>?_]
 ·rfl
 ·intro z
  have hx':=of_decide_eq_true z
  have hd:=lr (List.mem_of_mem_take hw')
  have t2:=UW F hd.1 (gY hd.2.2).1 hx'
  exact nd.2.2 x (List.mem_flatMap.mpr ⟨w',hw',t2.1⟩) x (List.mem_append.mpr (.inl t1.1)) rfl
theorem Vl {ls:List aG} {ps:List PD} {S:FS} {xs:List Str} (F:wg ls ps) (G:∀l∈ls,S.g l.name<=(S.ev l.name).length) (l:aG) (hl:l∈ls):(j5 ls ps S xs).g l.name<=(S.ev l.name).length:=by
 have key:∀n,(je S ((jF ls ps S xs).take n)).g l.name<=(S.ev l.name).length:=by
  intro n
  induction n with
  | zero=>exact G l hl
  | succ n ih=>
   cases h:(jF ls ps S xs)[n]? with
   | none=>rw [List.take_succ,h,Option.toList_none,List.append_nil];exact ih
   | some w=>
    rw [List.take_succ,h,Option.toList_some,BK]
    show(if l.name∈w.2.tk then _+1 else _)<=_
    split
    ·rename_i hx
     have:=V9 F h hx
     omega
    ·exact ih
 have:=key (jF ls ps S xs).length
 rwa [List.take_length] at this
theorem Sg {ls:List aG} {ps:List PD} {S:FS} {xs:List Str} (F:wg ls ps) (G:∀l∈ls,S.g l.name<=(S.ev l.name).length):∀l∈ls,(j5 ls ps S xs).g l.name<=((j5 ls ps S xs).ev l.name).length:=fun l hl=>by
 have h:=Vl (xs:=xs) F G l hl
 have e:((j5 ls ps S xs).ev l.name)=_:=yc l.name _ _
 rw [e,lP]
 omega
theorem rG {E:List Addr} {H H':Hp} (s:aJ H H'):aJ (bA E H) (bA E H'):=fun b o e=>by
 have hb:b∉E:=fun z=>by unfold bA at e;rw [if_pos z] at e;cases e
 exact dU (s _ _ (bR _ _ e)) hb
theorem sy.same {H H':Hp} {r:Addr} {n:Nat} {A:mF} {ls:List aG} {ps:List PD} {S:FS} (h:sy K t H r n A ls ps S) (s:aJ H H'):sy K t H' r n A ls ps S:=⟨h.run.same s,h.net.same (rG s),h.flow.same s,h.ne⟩
theorem sy.out {H:Hp} {r:Addr} {n:Nat} {A:mF} {ls:List aG} {ps:List PD} {S:FS} (h:sy K t H r n A ls ps S) {a:Addr} (ha:H a=none):a∉r:: A.cells ls ps:=fun z=>by
 rcases List.mem_cons.mp z with rfl | z
 ·obtain⟨_,_,h1,_⟩:=h.run
  rw [ha] at h1
  cases h1.1
 ·exact h.flow.cell ha z
theorem SN {H:Hp} {Q:VK} {Ex:XK} {b n:Nat} {r L:Addr} {A:mF} {ls:List aG} {ps:List PD} {S:FS} {xs:List Str} (R:sy K t H r n A ls ps S) (O:Bc b ls ps S) (hb:b<=90000) (hn:n<=900) (hL:bI K H L (xs.map V.str)) (nL:L∉A.cells ls ps) (hx:∀x∈xs,V.str x∈dH ps "give" ++ dH ps "take")
  (k:∀H' p,aJ (bA (r:: A.cells ls ps) H) (bA (r:: A.cells ls ps) H')->sy K t H' r (n+1) A ls ps (j5 ls ps S xs)->H p=none->H' p=some (.lst ((jF ls ps S xs).map fun w=>V.str w.1.name))->Q (.ref p) H'):lU K t [.ref r,.ref L] H Q Ex:=by
 unfold lU
 exact⟨b,r,n,A,ls,ps,S,L,xs,rfl,R,O,hb,hn,hL,nL,hx,k⟩
theorem Fy {b:Nat} {ls:List aG} {ps:List PD} {S:FS} (F:wg ls ps) (O:Bc b ls ps S) {p:PD} (hp:p∈ps):(fY ls S p).isSome=(eY ls S p).isNone:=by
 unfold fY
 rcases K9 p.kind p.ins (aW S p) with hlk | ⟨x,hlk⟩
 rotate_left
 ·rw [Bs (by rw [hlk];intro z;cases z),LK hlk]
  rfl
 cases he:qT S p with
 | true=>rw [FW he,MT hlk he];rfl
 | false=>
  have hdd:jl S p=some ⟨(places p.kind (aW S p)).map (strAt p.ins),Ow S p,gA p.kind (yI S p) (S.k p.name)⟩:=by unfold jl;rw [if_neg (by simp [hlk]),if_neg (by simp [he])];rfl
  rw [hdd,Lb hlk he]
  unfold vH
  dsimp only
  cases (Ow S p).find? (oN ls S) <;> simp
theorem QS {b:Nat} {ls:List aG} {ps:List PD} {S:FS} {xs:List Str} (F:wg ls ps) (O:Bc b ls ps S):(((ps.filter fun p=>(eY ls S p).isNone).map fun p=>p.name).filter fun x=>!decide (x∈xs))=(jF ls ps S xs).map fun w=>w.1.name:=by
 have key:∀qs:List PD,(∀p∈qs,p∈ps)->((((qs.filter fun p=>(eY ls S p).isNone).map fun p=>p.name).filter fun x=>!decide (x∈xs))=((qs.filter (j6 xs)).filterMap fun p=>(fY ls S p).map fun dd=>(p,dd)).map fun w=>w.1.name):=by
  intro qs
  induction qs with
  | nil=>intro _;rfl
  | cons q r ih=>
   intro h
   have ih:=ih fun p hp=>h p (List.mem_cons_of_mem _ hp)
   have hn:=Fy F O (h q List.mem_cons_self)
   rw [List.filter_cons,List.filter_cons]
   have ef:j6 xs q=!decide (q.name∈xs):=rfl
   cases hw:(eY ls S q).isNone with
   | true=>
    rw [hw] at hn
    obtain⟨dd,hd⟩:=Option.isSome_iff_exists.mp hn
    rw [if_pos rfl,List.map_cons,List.filter_cons,<-ef]
    cases hf:j6 xs q with
    | true=>rw [if_pos rfl,if_pos rfl,List.filterMap_cons,hd,ih];rfl
    | false=>rw [if_neg (by simp),if_neg (by simp),ih]
   | false=>
    rw [hw] at hn
    rw [if_neg (by simp),ih]
    cases hf:j6 xs q with
    | true=>
     have hd:fY ls S q=none:=by cases h:fY ls S q with
      | none=>rfl
      | some _=>rw [h] at hn;cases hn
     rw [if_pos rfl,List.filterMap_cons,hd]
     rfl
    | false=>rw [if_neg (by simp)]
 exact key ps fun _ h=>h
theorem U5 {ls:List aG} {ps:List PD} {S:FS} (F:wg ls ps) {p:PD} (hp:p∈ps) {dd:jV} (h:jl S p=some dd):(dd.gv.map (·.1)).Nodup/\∀q∈dd.gv,q.1∈p.outs:=by
 obtain⟨_,_,rfl⟩:=oZ h
 have ok:=F.pok p hp
 have eg:((cB p.kind p.nums (yI S p) (S.k p.name)).map fun pv=>(strAt p.outs pv.1.toNat,pv.2)).map (·.1)=zr S p:=rfl
 refine⟨?_,fun q hq=>Kz (S:=S) ok (List.mem_map.mpr ⟨q,hq,rfl⟩)⟩
 show(((cB p.kind p.nums (yI S p) (S.k p.name)).map fun pv=>(strAt p.outs pv.1.toNat,pv.2)).map (·.1)).Nodup
 rw [eg]
 by_cases hA:p.kind=10
 ·unfold zr Ow
  rw [hA]
  show [_].Nodup
  simp
 ·rw [Ly ok hA]
  exact Gx (F.whole.outs.nodup_iff.mpr F.whole.nod) hp
theorem O8 {ls:List aG} {ps:List PD} {S:FS} {xs:List Str} (F:wg ls ps):((jF ls ps S xs).flatMap (·.1.outs)).Nodup:=by
 have h:((jF ls ps S xs).map (·.1)).Sublist ps:=(n8 (qs:=ps.filter (j6 xs))).trans List.filter_sublist
 have h2:=(F.whole.outs.nodup_iff.mpr F.whole.nod).sublist (yF (f:=(·.outs)) h)
 rwa [List.flatMap_map] at h2
theorem Od {ls:List aG} {ps:List PD} {S:FS} {xs:List Str} (F:wg ls ps) (R:∀l∈ls,((S.ev l.name).length:Int) - (S.g l.name:Int)<=l.room):∀l∈ls,(((j5 ls ps S xs).ev l.name).length:Int) - ((j5 ls ps S xs).g l.name:Int)<=l.room:=fun l hl=>by
 have e1:((j5 ls ps S xs).ev l.name)=_:=yc l.name _ _
 have e2:((j5 ls ps S xs).g l.name)=_:=Gz l.name _ _
 have hr:=R l hl
 have c1:((jF ls ps S xs).flatMap fun w=>(w.2.gv.filter fun q=>decide (q.1=l.name)).map (·.2)).length<=1:=Mz (f:=(·.1.outs)) (x:=l.name) (O8 F) (fun w hw=>by
   have h:=lr hw
   rw [lM]
   exact J4 (f:=fun q:Str×Int=>q.1) (U5 F h.1 (gY h.2.2).1).1) fun w hw hne=>by
   have h:=lr hw
   obtain⟨v,hv⟩:=List.exists_mem_of_ne_nil _ hne
   obtain⟨q,hq,_⟩:=List.mem_map.mp hv
   obtain⟨hq1,hq2⟩:=List.mem_filter.mp hq
   have:=(U5 F h.1 (gY h.2.2).1).2 q hq1
   rwa [of_decide_eq_true hq2] at this
 rw [e1,e2,lP]
 by_cases hne:((jF ls ps S xs).flatMap fun w=>(w.2.gv.filter fun q=>decide (q.1=l.name)).map (·.2))=[]
 ·rw [hne,List.length_nil]
  omega
 ·obtain⟨v,hv⟩:=List.exists_mem_of_ne_nil _ hne
  obtain⟨w,hw,hv⟩:=List.mem_flatMap.mp hv
  obtain⟨q,hq,_⟩:=List.mem_map.mp hv
  obtain⟨hq1,hq2⟩:=List.mem_filter.mp hq
  have hq2:=of_decide_eq_true hq2
  have hf:=(gY (lr hw).2.2).2
  unfold vH at hf
  have nf:w.2.gv.find? (oN ls S)=none:=by
   cases h:w.2.gv.find? (oN ls S) with
   | none=>rfl
   | some z=>rw [h] at hf;cases hf
  have:=List.find?_eq_none.mp nf q hq1
  unfold oN at this
  rw [hq2,CN F.whole.nod hl] at this
  have:¬l.room<=((S.ev l.name).length:Int) - (S.g l.name:Int):=fun z=>this (decide_eq_true z)
  omega
theorem Qw {ls:List aG} {ps:List PD} {S:FS} {xs:List Str} (F:wg ls ps):Gd 1 (.list (((jF ls ps S xs).map fun w=>w.1.name).map PyData.str)):=.list (.strs 0 fun x hx=>by
 obtain⟨w,hw,rfl⟩:=List.mem_map.mp hx
 exact Hc (F.pnm _ (lr hw).1))
inductive su (K:PySem.W.Frag) (t:ji) (vs:List V) (H:Hp) (Q:VK) (E:XK):Prop where
 | mk:∀(b:Nat) (r:Addr) (n:Nat) (A:mF) (ls:List aG) (ps:List PD) (S:FS) (L P:Addr) (c:Int),vs=[.ref r,.ref L,.ref P,.int c]->sy K t H r n A ls ps S->FP (bA (r:: A.cells ls ps) H) L P ls ps->Bc b ls ps S->b<=80000->n<=900->((∀l∈ls,S.g l.name<=(S.ev l.name).length))->((∀l∈ls,((S.ev l.name).length:Int) - (S.g l.name:Int)<=l.room))->(∀H' zs,aJ (bA (r:: A.cells ls ps) H) (bA (r:: A.cells ls ps) H')->sy K t H' r (n+1) A ls ps (j5 ls ps S zs)->Q (.bl true) H')->su K t vs H Q E
noncomputable abbrev pX:List Str:=["_law_run", "_law_lanes", "_law_parts", "_law_cell_here", "_law_due", "_law_waiting", "_law_free", "_law_part_here", "_law_found", "_law_held_here"]
theorem xJ (T:Txt w K mg t):FO P w K mg base 9 t.zK ["_law_run", "_law_lanes", "_law_parts", "_law_cell_here"] (su K t):=by
 have sc:=T.p8.sc pX
 refine T.p8.F.ok sc ln (fun _ _ _ _ H vs Q E hr h=>?_)
 obtain⟨b,r,n,A,ls,ps,S,L,P,c,rfl,R0,A0,O,hb,hn,hg,hrm,k⟩:=h
 refine⟨_,(aq (sN sc 4 (dC (wj T) T.nY hr (aa (pv 0) (aa (pv 1) (aa (pv 2) ak aj) aj) aj)))
  (aq (bM (gK (fW (dC (yj T) T.pO hr (aa (pv 0) (aa (pv 4) ak aj) aj))))
   (aA (aN jT))
   bu)
  (aq (sN sc 5 (eX [] pX (aU (top 83)) rfl (bN (pv 4)) (fun _ _ _ _ _=>iC) (fun _ _ _ _ _=>(aR (mX (K:=K) rfl) (pv 0) au (fun _ _=>rfl)))))
  (aq (jn (i:=6) [5] pX (aU (top 83)) rfl sc.nd rfl (bN (pv 2)) (fun _ _ _ _ _=>(qR (bc (qW (K:=K) rfl) (aR (mX (K:=K) rfl) (pv 0) au (fun _ _=>rfl)) (pv 1) (by with_unfolding_all rfl)))) (fun _ _ _ _ _=>(aR (mX (K:=K) rfl) (pv 0) au (fun _ _=>rfl))))
  (aq (du PassesOwn.never rfl (bN (pv 2)) (gN sc 7)
   (aq (sN sc 8 (wD (pv 0) T.bQ T.bQ.me.2.2.2.2.2.1 (Aq T) T.oX hr (aa (aR cZ (pv 7) au (fun _ _=>rfl)) ak aF)))
   (aA (bM (PW.pt (tE (gK (fW (bw lV (by rfl) T.fG eN (aa (pv 8) (aa (pN (by rfl) T.Q3 Ln) ak aj) aj)))) (mq (bc Jm (pv 8) (p7 Oc (aR cZ (pv 7) au (fun _ _=>rfl)) (pv 6) (by with_unfolding_all rfl)) (bH _)))))
    (aA (aN jT))
    bu))))
  (aq (sN sc 9 (dC (G8 T) T.uA hr (aa (pv 2) (aa (pv 3) ak aj) aj)))
  (aA (aN (p7 (Hd hr.units) (Ms (pv 0) T.bQ.c (T.wC.me T.bQ.me.2.2.2.2.1) (Ji T) (hr.mono (by decide)) T.wC.b .nil ir (aa (pv 9) ak aj)) (eX [9] pX (aU (top 83)) rfl (bN (pv 6)) (fun _ _ _ _ _=>(qR (bc (qW (K:=K) rfl) (pv 0) (pv 1) (by with_unfolding_all rfl)))) (fun _ _ _ _ _=>(pv 0))) (bH _)))))))))),?_⟩
 have hz:sizeLine=16777216:=sizeLine_eq
 have F:wg ls ps:=by obtain⟨_,_,_,_,_,_,_,_,_,Wn⟩:=R0.net;exact Wn.fit
 have p16:=F.p16
 have A1:=A0.same bR
 refine⟨_,rfl,_,rfl,_,rfl,b,r,n,A,ls,ps,S,L,P,rfl,R0.run,R0.netH,R0.flow,A1,O,by omega,hg,hrm,fun H1 Lw us s1 nLw eLw tU=>?_⟩
 refine⟨_,rfl,_,rfl,b,r,n,A,ls,ps,S,Lw,us,rfl,R0.run.same s1,R0.netH.same s1,R0.flow.same s1,O,eLw,tU,fun H2 s2=>⟨_,rfl,cz ?_⟩⟩
 have s02:=s1.trans s2
 have eLw2:=s2 _ _ eLw
 have tU2:=eE.same s2 tU
 have lw:=Mw ls S ps
 have lu:us.length=(wU ls S ps).length:=by have:=Paired.length tU;rw [lM] at this;exact this
 refine⟨_,rfl,Lw,rfl,⟨_,bI.of eLw2⟩,d7 (K:=K) (a:=Lw) (xs:=us.map V.ref) (fun j ys H'=>H'=H2/\ys=((wU ls S ps).take j).map fun w=>V.str w.1) (by rw [lM];omega) ⟨rfl,rfl⟩ (fun j ys H' h=>by rw [h.2,lM,List.length_take];omega) (fun j ys H' _ h=>by rw [h.1];exact bI.of eLw2) ?_ ?_⟩
 ·rintro j x ys H3 hx ⟨rfl,rfl⟩
  rw [List.getElem?_map] at hx
  obtain⟨u,hu,rfl⟩:=Option.map_eq_some_iff.mp hx
  obtain⟨vs2,z1,z2⟩:=qZ tU2 hu
  rw [List.getElem?_map] at z1
  obtain⟨w,ew,rfl⟩:=Option.map_eq_some_iff.mp z1
  refine yes ⟨_,rfl,u,_,0,_,rfl,rfl,fC.of z2,aM (j:=0) rfl,rfl,?_⟩
  rw [List.take_succ,ew,Option.toList_some,List.map_append]
  rfl
 rintro zs H3 ⟨rfl,rfl⟩ L5 nL5
 rw [lM,lu,List.take_length]
 obtain⟨wn,hwn⟩:∃wn:List Str,wn=(wU ls S ps).map (·.1):=⟨_,rfl⟩
 have mwn:((wU ls S ps).map fun w=>V.str w.1)=wn.map V.str:=by rw [hwn,List.map_map];rfl
 have wIn:∀p∈ps,(p.name∈wn)↔(eY ls S p).isSome=true:=fun p hp=>by
  rw [hwn]
  constructor
  ·intro h
   obtain⟨w,hw,e⟩:=List.mem_map.mp h
   obtain⟨p',hp',h1,h2⟩:=MP hw
   have:p'=p:=BV F.pnd hp' hp (by rw [<-h2,e])
   rw [<-this,h1]
   rfl
  ·intro h
   obtain⟨w,hw⟩:=Option.isSome_iff_exists.mp h
   exact List.mem_map.mpr ⟨(p.name,w.1,w.2),List.mem_filterMap.mpr ⟨p,hp,by rw [hw];rfl⟩,rfl⟩
 rw [mwn]
 clear mwn hwn tU2 eLw2
 have t4:=aB (o:=.lst (wn.map V.str)) nL5
 have eL5:upd H3 L5 (.lst (wn.map V.str)) L5=some (.lst (wn.map V.str)):=az
 have s04:=s02.trans t4
 generalize upd H3 L5 (.lst (wn.map V.str))=H4 at t4 eL5 s04 ⊢
 obtain⟨_,⟨ys,eP,aP⟩⟩:=id A1
 have yl:=aP.length
 have eP4:=s04 _ _ eP
 have fl5:(wn.map V.str).all jz=true:=by simp [jz]
 refine⟨_,rfl,P,rfl,⟨_,bI.of eP4⟩,d7 (K:=K) (a:=P) (xs:=ys) (fun j zs H'=>H'=H4/\zs=((ps.take j).filter fun p=>(eY ls S p).isNone).map fun p=>V.str p.name) (by omega) ⟨rfl,rfl⟩ (fun j ys H' h=>by rw [h.2,lM];exact Nat.le_trans (List.length_filter_le _ _) (by rw [List.length_take];omega)) (fun j ys H' _ h=>by rw [h.1];exact bI.of eP4) ?_ ?_⟩
 ·rintro j x zs H5 hx ⟨rfl,rfl⟩
  obtain⟨p,hpj,q,a1,a2,a3,rfl,hq,_⟩:=aP.get hx
  have hq4:=s04 _ _ hq
  refine⟨_,rfl,q,_,1,_,rfl,rfl,fC.of hq4,aM (j:=1) rfl,_,rfl,L5,_,rfl,.inl (bI.of eL5),rfl,fl5,_,rfl,?_⟩
  rw [Bf,List.take_succ,hpj,Option.toList_some,List.filter_append,List.map_append,List.filter_cons]
  have hw:=wIn p (List.mem_of_getElem? hpj)
  cases h:eY ls S p with
  | none=>
   rw [h] at hw
   rw [decide_eq_false (fun z=>by have:=hw.mp z;cases this)]
   exact fU ⟨_,rfl,q,_,1,_,rfl,rfl,fC.of hq4,aM (j:=1) rfl,rfl,rfl⟩
  | some w'=>
   rw [h] at hw
   rw [decide_eq_true (hw.mpr rfl)]
   exact cz ⟨rfl,by simp⟩
 rintro zs H5 ⟨rfl,rfl⟩ L6 nL6
 rw [yl,List.take_length]
 obtain⟨fn,hfn⟩:∃fn:List Str,fn=(ps.filter fun p=>(eY ls S p).isNone).map fun p=>p.name:=⟨_,rfl⟩
 have mfn:((ps.filter fun p=>(eY ls S p).isNone).map fun p=>V.str p.name)=fn.map V.str:=by rw [hfn,List.map_map];rfl
 have lfn:fn.length<=16:=by rw [hfn,lM];exact Nat.le_trans (List.length_filter_le _ _) p16
 have fIn:∀p∈ps,decide (p.name∈fn)=(eY ls S p).isNone:=fun p hp=>by
  rw [Bool.eq_iff_iff,decide_eq_true_eq,hfn]
  constructor
  ·intro h
   obtain⟨p',hp',e⟩:=List.mem_map.mp h
   obtain⟨h1,h2⟩:=List.mem_filter.mp hp'
   rw [<-BV F.pnd h1 hp e]
   exact h2
  ·intro h
   exact List.mem_map.mpr ⟨p,List.mem_filter.mpr ⟨hp,h⟩,rfl⟩
 rw [mfn]
 have t6:=aB (o:=.lst (fn.map V.str)) nL6
 have eL6:upd H5 L6 (.lst (fn.map V.str)) L6=some (.lst (fn.map V.str)):=az
 have s06:=s04.trans t6
 have nL60:=s04.free nL6
 generalize upd H5 L6 (.lst (fn.map V.str))=H6 at t6 eL6 s06 ⊢
 have fl6:(fn.map V.str).all jz=true:=by simp [jz]
 have eP6:=s06 _ _ eP
 refine⟨_,rfl,P,rfl,⟨_,bI.of eP6⟩,cJ (K:=K) (a:=P) (xs:=ys) (fun j σ H'=>aJ H6 H'/\∃v7 v8,σ=[some (.ref r),some (.ref L),some (.ref P),some (.int c),some (.ref Lw),some (.ref L5),some (.ref L6),v7,v8,none]) ⟨aJ.refl _,none,none,rfl⟩ (fun j σ H' _ h=>h.1.seq (bI.of eP6)) ?_ ?_⟩
 ·rintro j x σ H7 hx ⟨s7,v7,v8,rfl⟩
  obtain⟨p,hpj,q,a1,a2,a3,rfl,hq,_⟩:=aP.get hx
  have hpm:=List.mem_of_getElem? hpj
  have s07:=s06.trans s7
  have hq7:=s07 _ _ hq
  obtain⟨dxr,fsr,R1⟩:=id (R0.run.same s07)
  refine⟨_,rfl,r,dxr,fsr,rfl,R1.1.1,R1.2.no _ (by decide +kernel),_,rfl,q,_,1,_,rfl,rfl,fC.of hq7,aM (j:=1) rfl,b,r,n,A,ls,ps,S,p,rfl,R0.run.same s07,R0.netH.same s07,R0.flow.same s07,O,hpm,fun H8 s8=>?_⟩
  refine⟨_,rfl,_,_,_,_,rfl,rfl,by decide,rfl,_,rfl,cz ?_⟩
  refine⟨_,rfl,_,rfl,q,_,1,_,rfl,rfl,fC.of (s8 _ _ hq7),aM (j:=1) rfl,_,rfl,L6,_,rfl,.inl (bI.of (s8 _ _ (s7 _ _ eL6))),rfl,fl6,rfl,_,rfl,?_⟩
  rw [Bf,fIn p hpm,Fy F O hpm]
  exact XQ rfl ⟨s7.trans s8,_,_,rfl⟩
 rintro σ H7 ⟨s7,v7,v8,rfl⟩
 have s07:=s06.trans s7
 have A7:=A1.same s07
 obtain⟨_,⟨ys7,eP7,aP7⟩⟩:=id A7
 refine⟨_,rfl,_,rfl,P,ys7,ps,c,rfl,eP7,aP7,fun p hp=>(F.pok p hp).1,p16,fun H8 Lh xs s8 nLh eLh hxs=>?_⟩
 have s08:=s07.trans s8
 have R8:=R0.same s08
 obtain⟨dxr,fsr,R1⟩:=id R8.run
 have eL68:=s8 _ _ (s7 _ _ eL6)
 have nLh0:=s07.free nLh
 refine⟨_,rfl,r,dxr,fsr,rfl,R1.1.1,R1.2.no _ (by decide +kernel),_,rfl,SN R8 O (by omega) hn (bI.of eLh) (fun z=>R0.out nLh0 (.tail _ z)) hxs fun H9 p9 c9 R9 np9 ep9=>?_⟩
 have eL69:=bR _ _ (c9 _ _ (dU eL68 (R0.out nL60)))
 have eLh9:=bR _ _ (c9 _ _ (dU eLh (R0.out nLh0)))
 have fl9:(xs.map V.str).all jz=true:=by simp [jz]
 refine⟨_,rfl,L6,rfl,⟨_,bI.of eL69⟩,d7 (K:=K) (a:=L6) (xs:=fn.map V.str) (fun j zs H'=>H'=H9/\zs=((fn.take j).filter fun x=>!decide (x∈xs)).map V.str) (by rw [lM];omega) ⟨rfl,rfl⟩ (fun j ys H' h=>by rw [h.2,lM];exact Nat.le_trans (List.length_filter_le _ _) (by rw [List.length_take];omega)) (fun j ys H' _ h=>by rw [h.1];exact bI.of eL69) ?_ ?_⟩
 ·rintro j x zs H' hx ⟨rfl,rfl⟩
  rw [List.getElem?_map] at hx
  obtain⟨y,hy,rfl⟩:=Option.map_eq_some_iff.mp hx
  refine⟨_,rfl,_,rfl,Lh,_,rfl,.inl (bI.of eLh9),rfl,fl9,_,rfl,?_⟩
  rw [Bf,List.take_succ,hy,Option.toList_some,List.filter_append,List.map_append,List.filter_cons]
  by_cases hyx:y∈xs
  ·rw [decide_eq_true hyx]
   exact cz ⟨rfl,by simp⟩
  ·rw [decide_eq_false hyx]
   exact fU ⟨_,rfl,rfl,by simp⟩
 rintro zs H' ⟨rfl,rfl⟩ Lf nLf
 rw [lM,List.take_length]
 have ed:(fn.filter fun x=>!decide (x∈xs))=(jF ls ps S xs).map fun w=>w.1.name:=by rw [hfn];exact QS F O
 have gd:=Qw (S:=S) (xs:=xs) F
 have tf:=aB (o:=.lst ((fn.filter fun x=>!decide (x∈xs)).map V.str)) nLf
 refine⟨_,_,Lx (xs:=(jF ls ps S xs).map fun w=>w.1.name) (bI.of (by rw [List.map_map];exact tf _ _ ep9)),Lx (xs:=(jF ls ps S xs).map fun w=>w.1.name) (bI.of (by rw [<-ed];exact az)),gd.shaped (by decide),gd.shaped (by decide),?_⟩
 rw [gd.eq]
 exact k _ xs ((rG s08).trans (c9.trans (rG tf))) (R9.same tf)
theorem Qm {H:Hp} {Q:VK} {Ex:XK} {H0:Hp} {r dx n rw:Addr} {ls:List aG} {ps:List PD} {RW:List (Str×Addr×List Int)} (hr:H r=some (.ins t.pH dx [])) (s0:aJ H0 H) (nr:H0 r=none) (N:gJ K t H0 n ls ps) (hrw:oU H0 rw RW) (hO:Kd ps RW)
  (k:∀(H':Hp) (A:mF),A.n=n->aJ H0 H'->sy K t H' r 0 A ls ps (jf ls ps RW)->(∀a∈A.cells ls ps,H0 a=none)->Q .non H'):gU K t [.ref r,.ref n,.ref rw] H Q Ex:=by
 unfold gU
 exact⟨H0,r,dx,n,rw,ls,ps,RW,rfl,hr,s0,nr,N,hrw,hO,k⟩
inductive Ca (K:PySem.W.Frag) (vs:List V) (H:Hp) (Q:VK) (E:XK):Prop where
 | mk:∀(a:Addr) (ns:List Int),vs=[.ref a]->bI K H a (ns.map V.int)->ns.length<=63->(∀H',Q (.bl true) H')->Ca K vs H Q E
theorem Ve (T:Txt w K mg t):FO P w K mg base 10 t.U8 ["_law_script"] (Ca K):=by
 have sc:=T.LR.sc ["_law_script", "_law_lanes", "_law_parts", "_law_rows_here", "_law_run", "_law_cell_here", "_law_k"]
 refine T.LR.F.ok sc ln (fun _ _ _ _ H vs Q E hr h=>?_)
 obtain⟨a,ns,rfl,hS,hl,k⟩:=h
 refine⟨_,(aq (Ri (dC (JB T) T.wJ hr (aa (pv 0) (aa au (aa au (aa jT ak ao) ao) ao) aj)) (wH rfl (dg (gN sc 1) (dg (gN sc 2) qx))))
  (aq (sN sc 3 (dC (GP T) T.ul hr (aa (pv 0) (aa (pv 2) (aa au ak ao) aj) aj)))
  (aq (eG (bM (bc fc (bx bW (dC (aX T) T.bf hr (aa (dC (gP T) T.fO hr (aa (pv 0) (aa au ak ao) aj)) (aa au ak ao) aY)) au) au (bH _))
   (aA (bK (Rf (pv 3) (aR aQ (bw (Kl rfl) (by rfl) T.QT NK (aa (pv 3) ak aj)) au (fun _ _=>rfl)) ⟨rfl,rfl,rfl,rfl⟩)))
   bu))
  (aq (sN sc 4 (iu (T.bQ.M T.jO) (Av T) (hr.mono (by decide)) (by rfl) T.bQ.m T.jO.b .nil ir (aa (iu (T.bj.M T.jJ) (Ay T) (hr.mono (by decide)) (by rfl) T.bj.m T.jJ.b .nil ir (aa (pv 1) (aa (pv 2) ak aj) aj)) (aa (pv 3) ak aj) aY)))
  (aq (du PassesOwn.never rfl (bN (jU rO (pv 0) (jK au) (jK au))) (gN sc 5)
   (aA (bM (gK (fW (dC (xJ T) T.p8 hr (aa (pv 4) (aa (pv 1) (aa (pv 2) (aa (pv 5) ak aj) aj) aj) aj))))
    (aA (aN jT))
    bu)))
  (aq (du PassesOwn.never rfl (iY rfl T.kY (aa (bx bW (dC (aX T) T.bf hr (aa (dC (gP T) T.fO hr (aa (pv 0) (aa au ak ao) aj)) (aa au ak ao) aY)) au) ak bL)) (gN sc 6)
   (aA (bM (gK (fW (dC (xJ T) T.p8 hr (aa (pv 4) (aa (pv 1) (aa (pv 2) (aa (dC (aX T) T.bf hr (aa (dC (gP T) T.fO hr (aa (pv 0) (aa au ak ao) aj)) (aa (bx dm au (pv 6)) ak bL) aY)) ak aY) aj) aj) aj))))
    (aA (aN jT))
    bu)))
  (aA (aN (dC (yj T) T.pO hr (aa (pv 4) (aa (dC (wj T) T.nY hr (aa (pv 4) (aa (pv 1) (aa (pv 2) ak aj) aj) aj)) ak aY) aj)))))))))),?_⟩
 have hz:sizeLine=16777216:=sizeLine_eq
 refine⟨_,rfl,a,ns,1,3,true,rfl,hS,by decide,fun T' L P ls ps H2 s2 nL nP nLP eT A D=>?_⟩
 refine⟨T',_,rfl,fC.of eT,rfl,_,_,rfl,_,_,rfl,rfl,?_⟩
 have F:=D.fit
 have hgv:=D.giv
 clear eT nL nP nLP D
 have p16:=F.p16
 obtain⟨_,⟨ys,eP,aP⟩⟩:=id A
 refine⟨_,rfl,_,rfl,a,P,ns,ys,ps,6,rfl,s2.seq hS,eP,aP,p16,fun H3 d RW s3 nd hR lR hne=>?_⟩
 replace hne:=hne hgv
 refine⟨fun σ4 H4=>∃RW4,σ4=[some (.ref a),some (.ref L),some (.ref P),some (.ref d),none,none,none]/\aJ H2 H4/\vD H2 H4 d 39 (dH ps "give") RW4,?_,?_⟩
 ·refine⟨_,rfl,a,ns,0,rfl,(s2.trans s3).seq hS,_,_,rfl,_,_,rfl,rfl,by show(0:Int) <4;decide,rfl,_,rfl,jG (fun _=>?_) (fun _=>⟨RW,rfl,s3,hR⟩)⟩
  refine⟨_,rfl,d,rfl,.inl ⟨_,.inl hR.at'.dict⟩,_,rfl,d,_,RW.map (·.1),rfl,.inl hR.at'.dict,oY RW,by rw [lM];omega,fun l zs nl hp hs=>?_⟩
  obtain⟨z,rest,rfl⟩:∃z rest,zs=z:: rest:=by
   cases zs with
   | nil=>
    have:=hp.length_eq
    rw [lM] at this
    exact absurd (List.length_eq_zero_iff.mp this.symm) hne
   | cons z rest=>exact⟨z,rest,rfl⟩
  obtain⟨q,hq,rfl⟩:=List.mem_map.mp (hp.mem_iff.mp List.mem_cons_self)
  have vq:bT (fD RW) (Sum.inr q.1)=some (.ref q.2.1):=gq (by rw [oY];exact eQ hR.at'.nd) (List.mem_map.mpr ⟨q,hq,rfl⟩)
  have tl:=aB (o:=.lst ((q.1:: rest).map V.str)) nl
  have hR4:=hR.same tl
  refine⟨l,_,0,_,rfl,rfl,bI.of az,aM (j:=0) rfl,_,Sum.inr q.1,_,hR4.at'.dict,rfl,vq,?_⟩
  have ek:Dg (fD RW) (Sum.inr q.1)=fD (RW.filter fun p=>decide (p.1≠q.1)):=by
   unfold Dg fD
   rw [List.filter_map]
   congr 1
   refine List.filter_congr fun p _=>?_
   simp
  rw [ek]
  have sub:∀p∈RW.filter fun p=>decide (p.1≠q.1),p∈RW:=fun p hp=>(List.mem_filter.mp hp).1
  refine⟨RW.filter fun p=>decide (p.1≠q.1),rfl,fun b o e=>by rw [aK (aD e nd)];exact tl _ _ (s3 _ _ e),⟨az,fun p hp=>by rw [aK (hR.new p (sub p hp)).2];exact hR4.at'.lists p (sub p hp),hR.at'.nd.sublist (List.filter_sublist.map _),fun p hp=>hR.at'.len p (sub p hp)⟩,fun p hp=>hR.bnd p (sub p hp),fun p hp=>hR.door p (sub p hp),fun p hp=>hR.new p (sub p hp),fun p hp=>hR.len p (sub p hp)⟩
 rintro σ4 H4 ⟨RW4,rfl,s4,hR4⟩
 clear hR s3 hne lR
 refine⟨_,rfl,_,rfl,fun n dxn nn ndn nen=>?_⟩
 have gn:aJ H4 (upd (upd H4 dxn (.own n)) n (.ins t.dF dxn [])):=fun b o e=>by rw [aK (aD e nn),aK (aD e ndn)];exact e
 have en:upd (upd H4 dxn (.own n)) n (.ins t.dF dxn []) n=some (.ins t.dF dxn []):=az
 generalize upd (upd H4 dxn (.own n)) n (.ins t.dF dxn [])=Hn at gn en ⊢
 have hH:Hand K Hn L P ls ps:=by
  obtain⟨⟨x1,x2,x3⟩,⟨y1,y2,y3⟩⟩:=A.same (s4.trans gn)
  refine⟨⟨x1,bI.of x2,x3.imp fun _ _ h=>?_⟩,⟨y1,bI.of y2,y3.imp fun _ _ h=>?_⟩⟩
  ·obtain⟨q,f,e,h1,h2⟩:=h
   exact⟨q,f,e,h1,.inl (bI.of h2)⟩
  ·obtain⟨q,a1,a2,a3,e,h1,h2,h3,h4⟩:=h
   exact⟨q,a1,a2,a3,e,h1,.inl (bI.of h2),.inl (bI.of h3),.inl (bI.of h4)⟩
 refine⟨n,dxn,L,P,ls,ps,rfl,en,hH,F,fun H5 b5 N5=>⟨rfl,?_⟩⟩
 have s45:aJ H4 H5:=fun b o e=>b5 b o (aD e nn) (gn b o e)
 have s25:=s4.trans s45
 refine⟨_,rfl,fun r dxr nr ndr ner=>?_⟩
 have gr:aJ H5 (upd (upd H5 dxr (.own r)) r (.ins t.pH dxr [])):=fun b o e=>by rw [aK (aD e nr),aK (aD e ndr)];exact e
 refine Qm az gr nr N5 (hR4.at'.same s45) ⟨hR4.door,hR4.bnd⟩ fun H6 Z eZ s6 R6 fr6=>⟨rfl,?_⟩
 have eA:∀a∈r:: Z.cells ls ps,H5 a=none:=fun a ha=>by
  rcases List.mem_cons.mp ha with rfl | h
  ·exact nr
  ·exact fr6 a h
 have s26:aJ H2 (bA (r:: Z.cells ls ps) H6):=fun b o e=>dU (s6 _ _ (s25 _ _ e)) fun z=>by
  have e':=s25 _ _ e;rw [eA b z] at e';cases e'
 have O6:=NP F hR4.at'.len hR4.bnd
 have g6:∀l∈ls,(jf ls ps RW4).g l.name<=((jf ls ps RW4).ev l.name).length:=fun _ _=>Nat.zero_le _
 have rm6:∀l∈ls,(((jf ls ps RW4).ev l.name).length:Int) - ((jf ls ps RW4).g l.name:Int)<=l.room:=fun l hl=>by
  show((Im ls l.name).length:Int) - ((0:Nat):Int)<=l.room
  rw [xX F.whole.nod hl]
  have:=(F.lok l hl).2.2.1
  omega
 generalize jf ls ps RW4=S0 at R6 O6 g6 rm6
 clear hR4 N5 gr gn en hH b5 s45 s25 s4 nd
 have hSC:=(s2.trans s26).seq hS
 have AC:=A.same s26
 refine⟨_,rfl,_,rfl,_,rfl,a,_,rfl,bR.seq hSC,fun Lc nLc=>⟨Lc,rfl,⟨_,bI.of az⟩,?_⟩⟩
 obtain⟨cs,ecs,lcs⟩:∃cs:List Int,uD (ns.map V.int) (some 6) (some 40)=cs.map V.int/\cs.length<=34:=by
  refine⟨(ns.drop (min 6 ns.length)).take (min 40 ns.length - min 6 ns.length),(Jh (ns.map V.int) 6 40).trans ?_,?_⟩
  ·rw [List.map_take,List.map_drop,lM]
  ·rw [List.length_take];omega
 rw [ecs]
 have t7:=aB (o:=.lst (cs.map V.int)) nLc
 have R7:=R6.same t7
 have eLc:bA (r:: Z.cells ls ps) (upd H6 Lc (.lst (cs.map V.int))) Lc=some (.lst (cs.map V.int)):=dU az (R6.out nLc)
 have hSC7:=(rG (E:=r:: Z.cells ls ps) t7).seq hSC
 have AC7:=AC.same (rG (E:=r:: Z.cells ls ps) t7)
 generalize upd H6 Lc (.lst (cs.map V.int))=H7 at t7 R7 eLc hSC7 AC7 ⊢
 obtain⟨C,hC⟩:∃C,C=bA (r:: Z.cells ls ps) H7:=⟨_,rfl⟩
 rw [<-hC] at eLc hSC7 AC7
 have st:∀{j:Nat} {H':Hp} {S:FS} {c:Int},sy K t H' r j Z ls ps S->aJ C (bA (r:: Z.cells ls ps) H')->Bc (199+32 * j) ls ps S->(∀l∈ls,S.g l.name<=(S.ev l.name).length)->(∀l∈ls,((S.ev l.name).length:Int) - (S.g l.name:Int)<=l.room)->j<=900->∀{Q':VK} {Ex:XK},(∀H'' S',sy K t H'' r (j+1) Z ls ps S'->aJ C (bA (r:: Z.cells ls ps) H'')->Bc (199+32 * (j+1)) ls ps S'->(∀l∈ls,S'.g l.name<=(S'.ev l.name).length)->(∀l∈ls,((S'.ev l.name).length:Int) - (S'.g l.name:Int)<=l.room)->Q' (.bl true) H'')->su K t [.ref r,.ref L,.ref P,.int c] H' Q' Ex:=fun {j H' S c} R sC O g rm hj {Q' Ex} q=>
  ⟨_,r,j,Z,ls,ps,S,L,P,c,rfl,R,AC7.same sC,O,by omega,hj,g,rm,fun H'' zs c'' R''=>q H'' _ R'' (sC.trans c'') (by rw [show 199+32 * (j+1)=199+32 * j+32 by omega];exact RP F O zs) (Sg F g) (Od F rm)⟩
 refine cJ (K:=K) (a:=Lc) (xs:=cs.map V.int) (fun j σ H'=>∃S,(∃v5,σ=[some (.ref a),some (.ref L),some (.ref P),some (.ref d),some (.ref r),v5,none])/\sy K t H' r j Z ls ps S/\aJ C (bA (r:: Z.cells ls ps) H')/\Bc (199+32 * j) ls ps S/\(∀l∈ls,S.g l.name<=(S.ev l.name).length)/\∀l∈ls,((S.ev l.name).length:Int) - (S.g l.name:Int)<=l.room) ⟨S0,⟨none,rfl⟩,R7,by rw [hC];exact aJ.refl _,O6,g6,rm6⟩ (fun j σ H' _ ⟨_,_,_,sC,_⟩=>bI.of (bR _ _ (sC _ _ eLc))) ?_ ?_
 ·rintro j x σ H8 hx ⟨S,⟨v5,rfl⟩,R8,sC,O,g,rm⟩
  rw [List.getElem?_map] at hx
  obtain⟨c,hc,rfl⟩:=Option.map_eq_some_iff.mp hx
  have hj:=(List.getElem?_eq_some_iff.mp hc).1
  exact⟨_,rfl,_,rfl,_,rfl,_,rfl,st R8 sC O g rm (by omega) fun H9 S9 R9 sC9 O9 g9 rm9=>⟨_,rfl,cz ⟨S9,⟨_,rfl⟩,R9,sC9,O9,g9,rm9⟩⟩⟩
 rintro σ H8 ⟨S,⟨v5,rfl⟩,R8,sC,O,g,rm⟩
 rw [lM] at R8 O
 have hS8:=(sC.trans bR).seq hSC7
 have m0:=Int.emod_nonneg (b7 (jH ns 0) 3) (show(6:Int)≠0 by decide)
 have m1:=Int.emod_lt_of_pos (b7 (jH ns 0) 3) (show(0:Int) <6 by decide)
 refine⟨_,rfl,a,ns,0,rfl,hS8,_,_,rfl,_,_,rfl,rfl,by show(0:Int) <6;decide,_,rfl,by omega,by omega,?_⟩
 refine yR (fun j σ H'=>∃S,(∃v6,σ=[some (.ref a),some (.ref L),some (.ref P),some (.ref d),some (.ref r),v5,v6])/\sy K t H' r (cs.length+j) Z ls ps S/\aJ C (bA (r:: Z.cells ls ps) H')/\Bc (199+32 * (cs.length+j)) ls ps S/\(∀l∈ls,S.g l.name<=(S.ev l.name).length)/\∀l∈ls,((S.ev l.name).length:Int) - (S.g l.name:Int)<=l.room) ⟨S,⟨none,rfl⟩,R8,sC,O,g,rm⟩ ?_ ?_
 ·rintro j σ H9 hj ⟨S,⟨v6,rfl⟩,R9,sC,O,g,rm⟩
  have hS9:=(sC.trans bR).seq hSC7
  exact⟨_,rfl,_,rfl,_,rfl,_,rfl,a,ns,0,rfl,hS9,_,rfl,_,_,rfl,rfl,_,_,rfl,st R9 sC O g rm (by omega) fun H10 S10 R10 sC10 O10 g10 rm10=>⟨_,rfl,cz ⟨S10,⟨_,rfl⟩,R10,sC10,O10,g10,rm10⟩⟩⟩
 rintro σ H9 ⟨S,⟨v6,rfl⟩,R9,sC,O,g,rm⟩
 have N9:=R9.netH
 refine⟨_,rfl,_,rfl,_,rfl,_,rfl,_,r,_,Z,ls,ps,S,L,P,rfl,R9.run,N9,R9.flow,(AC7.same sC).same bR,O,by omega,g,rm,fun H10 Lw us s10 nLw eLw tU=>?_⟩
 exact⟨_,r,_,Z,ls,ps,S,Lw,us,rfl,R9.run.same s10,N9.same s10,R9.flow.same s10,O,eLw,tU,fun H11 s11=>k _⟩
end
theorem fin {l:PySem.W.OpenLaw} {w:World} {K:PySem.W.Frag} {mg:Str->Option Value} {fa r0 r1 r2 r3 r4 r5 r6 r7 r8 r9 r10 r11 r12 r13 r14 r15 r16 r17 r18 r19 r20 r21 r22 r23 r24 r25 r26 r27 r28 r29 r30 r31 r32 r33 r34 r35 r36 r37 r38 r39 r40 r41 r42 r43 r44 r45 r46 r47 r48 r49 r50 r51 r52 r53 r54 r55 r56 r57 r58 r59 r60 r61 r62 r63 r64 r65 r66 r67 r68 r69 r70 r71 r72 r73 r74 r75 r76 r77 r78 r79 r80 r81 r82 r83 r84 r85 r86 r87 r88 r89 r90 r91 r92 r93 r94 r95 r96 r97 r98 r99 r100 r101 r102 r103 r104 r105 r106 r107 r108 r109 r110 r111:Addr} (hfa:mg "law" =some (.ref fa)) (T:Txt w K mg ⟨r0,r1,r2,r3,r4,r5,r6,r7,r8,r9,r10,r11,r12,r13,r14,r15,r16,r17,r18,r19,r20,r21,r22,r23,r24,r25,r26,r27,r28,r29,r30,r31,r32,r33,r34,r35,r36,r37,r38,r39,r40,r41,r42,r43,r44,r45,r46,r47,r48,r49,r50,r51,r52,r53,r54,r55,r56,r57,r58,r59,r60,r61,r62,r63,r64,r65,r66,r67,r68,r69,r70,r71,r72,r73,r74,r75,r76,r77,r78,r79,r80,r81,r82,r83,r84,r85,r86,r87,r88,r89,r90,r91,r92,r93,r94,r95,r96,r97,r98,r99,r100,r101,r102,r103,r104,r105,r106,r107,r108,r109,r110,r111⟩):∃fd:FuncData,(∀(s:Shared) (v:Value),BindsTo s fd ⟨[v],[]⟩ [("_law_script",v)])/\∀base:Heap,K.In base->base.Ns mainGlobals mg->iB l.prog w K mg base Cq 10 fa fd ["_law_script"] (Ca K):=by
 have e:=hfa.symm.trans T.LR.m
 cases e
 exact⟨_,U9 T.LR.F fun _ _ _ _ _ _ _=>rfl,fun base _ _=>Ve T⟩
theorem walk {l:PySem.W.OpenLaw} {q:Program} {loose:List Str} {XP:(Str->Option Value)->Heap->Prop} {YP:World->Heap->Prop} {d:DefRec} {K:Params->PySem.W.Frag} (hn:l.most=some 63) (hdf:d.params.defaults=[])
  (hY:∀(w:World) (h:Heap),YP w h->(K w.params).In h)
  (F:∀(w:World) (mg:Str->Option Value) (fa:Addr) (h:Heap),(K w.params).In h->h.Ns mainGlobals mg->mg d.name=some (.ref fa)->
   ∃fd:FuncData,(∀(s:Shared) (u:Value),BindsTo s fd ⟨[u],[]⟩ [("_law_script",u)])/\∀base:Heap,(K w.params).In base->base.Ns mainGlobals mg->iB l.prog w (K w.params) mg base Cq 10 fa fd ["_law_script"] (Ca (K w.params))):
  PySem.W.WalkO q loose XP YP l.row.toRowW d [] (fun f vs=>PySem.call f vs):=
 L2.Td (n:=63) (k:=10) (x:= "_law_script") (CX:=fun _=>Cq) (sp:=fun w=>Ca (K w.params)) hn (by decide) hdf ⟨rfl,by decide,by decide⟩ hY F (fun _ _ a ns hl _ hS=>⟨a,ns,rfl,hS,hl,fun _=>rfl⟩) fun _ _ _ _ _ z=>z
end K51
open PySem PySem.W PyProof.Rows L2
set_option maxRecDepth 100000 in
set_option maxHeartbeats 0 in
theorem PySem.Challenge.cw_holdlane_k51_what_each_part_waits_for_holds : PySem.Challenge.rw_holdlane_k51_what_each_part_waits_for.Holds := by
 w_on;o_law
 refine HD.head (by rfl) (by rfl) (by rfl) (by rfl) (by first | assumption | decide +kernel) (by decide +kernel) ⟨rfl,rfl,rfl,rfl,rfl,by decide +kernel⟩ rfl (fun _=>rfl) ?_ ?_
 ·w_witness2
 k_fill
 refine K51.walk (l:=PySem.Challenge.rw_holdlane_k51_what_each_part_waits_for) rfl rfl (fun w h Y=>PySem.W.kIn_of Y) ?F
 case F=>
  intro w mg fa h KX G hmg
  refine' K51.fin hmg ⟨?q0,?q1,?q2,?q3,?q4,?q5,?q6,?q7,?q8,?q9,?q10,?q11,?q12,?q13,?q14,?q15,?q16,?q17,?q18,?q19,?q20,?q21,?q22,?q23,?q24,?q25,?q26,?q27,?q28,?q29,?q30,?q31,?q32,?q33,?q34,?q35,?q36,?q37,?q38,?q39,?q40,?q41,?q42,?q43,?q44,?q45,?q46,?q47,?q48,?q49,?q50,?q51,?q52,?q53,?q54,?q55,?q56,?q57,?q58,?q59,?q60,?q61,?q62,?q63,?q64,?q65,?q66,?q67,?q68,?q69,?q70,?q71,?q72,?q73,?q74,?q75,?q76,?q77,?q78,?q79,?q80,?q81,?q82,?q83,?q84,?q85,?q86,?q87,?q88,?q89,?q90,?q91,?q92,?q93,?q94,?q95,?q96,?q97,?q98,?q99,?q100,?q101,?q102,?q103,?q104,?q105,?q106,?q107,?q108,?q109,?q110,?q111,?q112,?q113,?q114,?q115,?q116,?q117,?q118,?q119,?q120,?q121,?q122,?q123,?q124,?q125,?q126,?q127,?q128,?q129,?q130,?q131,?q132⟩
  all_goals try dsimp only
  (case q0 | q1 | q2 | q3 | q4 | q5 | q6 | q7 | q8 | q9 | q10=>refine' ⟨mg_of KX G ?_,⟨?_,?_,?_,?_⟩,?_,?_,⟨?_,?_,?_,?_,?_,?_,trivial⟩,⟨?_,?_,?_,?_,trivial⟩⟩ <;> (try dsimp only) <;> k_is)
  (case q11=>refine' ⟨mg_of KX G ?_,⟨?_,?_,?_,?_⟩,?_,?_,⟨?_,?_,?_,?_,?_,?_,?_,?_,?_,?_,trivial⟩,⟨?_,?_,?_,?_,?_,trivial⟩⟩ <;> (try dsimp only) <;> k_is)
  (case q12=>refine' ⟨mg_of KX G ?_,⟨?_,?_,?_,?_⟩,?_,?_,⟨?_,?_,?_,?_,?_,?_,?_,?_,?_,?_,trivial⟩,⟨?_,?_,?_,?_,?_,?_,trivial⟩⟩ <;> (try dsimp only) <;> k_is)
  (case q13=>refine' ⟨mg_of KX G ?_,⟨?_,?_,?_,?_⟩,?_,?_,⟨?_,?_,?_,?_,?_,?_,?_,?_,?_,?_,trivial⟩,⟨?_,?_,?_,trivial⟩⟩ <;> (try dsimp only) <;> k_is)
  (case q14 | q15=>refine' .of (mg_of KX G ?_) (dM.of ?_ ?_ ?_ ?_ (fun _ _ _ _ _ _=>zq fun _=>rfl)) <;> (try k_is);all_goals try k_is)
  (case q16=>refine' dM.of ?_ ?_ ?_ ?_ (fun _ _ _ _ _ _=>Xm fun _ _ _ _ _=>rfl) <;> try k_is)
  (case q17 | q18 | q19 | q20 | q21 | q22 | q23 | q24 | q25 | q26 | q27=>refine' dM.of ?_ ?_ ?_ ?_ (fun _ _ _ _ _ _=>zq fun _=>rfl) <;> try k_is)
  (case q28=>refine' .of (mg_of KX G ?_) (dM.of ?_ ?_ ?_ ?_ (fun _ _ _ _ _ _=>zq fun _=>rfl)) <;> (try k_is);all_goals try k_is)
  (case q29 | q30 | q31=>refine' .of (mg_of KX G ?_) (dM.of ?_ ?_ ?_ ?_ (fun _ _ _ _ _ _=>Xm fun _ _ _ _ _=>rfl)) <;> (try k_is);all_goals try k_is)
  (case q32=>refine' .of (mg_of KX G ?_) (dM.of ?_ ?_ ?_ ?_ (fun _ _ _ _ _ _=>zq fun _=>rfl)) <;> (try k_is);all_goals try k_is)
  (case q33 | q34 | q35=>refine' dM.of ?_ ?_ ?_ ?_ (fun _ _ _ _ _ _=>wQ fun _ _=>rfl) <;> try k_is)
  (case q36 | q37=>refine' dM.of ?_ ?_ ?_ ?_ (fun _ _ _ _ _ _=>zq fun _=>rfl) <;> try k_is)
  (case q38 | q39 | q40 | q41 | q42 | q43 | q44 | q45 | q46 | q47 | q48=>refine' dM.of ?_ ?_ ?_ ?_ (fun _ _ _ _ _ _=>DN fun _ _ _=>rfl) <;> try k_is)
  (case q49 | q50 | q51 | q52=>refine' .of (mg_of KX G ?_) (dM.of ?_ ?_ ?_ ?_ (fun _ _ _ _ _ _=>wQ fun _ _=>rfl)) <;> (try k_is);all_goals try k_is)
  (case q53=>refine' .of (mg_of KX G ?_) (dM.of ?_ ?_ ?_ ?_ (fun _ _ _ _ _ _=>DN fun _ _ _=>rfl)) <;> (try k_is);all_goals try k_is)
  (case q54=>refine' .of (mg_of KX G ?_) (dM.of ?_ ?_ ?_ ?_ (fun _ _ _ _ _ _=>wQ fun _ _=>rfl)) <;> (try k_is);all_goals try k_is)
  (case q55=>refine' .of (mg_of KX G ?_) (dM.of ?_ ?_ ?_ ?_ (fun _ _ _ _ _ _=>Yj fun _ _ _ _ _ _=>rfl)) <;> (try k_is);all_goals try k_is)
  (case q56=>refine' .of (mg_of KX G ?_) (dM.of ?_ ?_ ?_ ?_ (fun _ _ _ _ _ _=>Qe fun _ _ _ _=>rfl)) <;> (try k_is);all_goals try k_is)
  (case q57 | q58 | q59=>refine' .of (mg_of KX G ?_) (dM.of ?_ ?_ ?_ ?_ (fun _ _ _ _ _ _=>DN fun _ _ _=>rfl)) <;> (try k_is);all_goals try k_is)
  (case q60=>refine' .of (mg_of KX G ?_) (dM.of ?_ ?_ ?_ ?_ (fun _ _ _ _ _ _=>Qe fun _ _ _ _=>rfl)) <;> (try k_is);all_goals try k_is)
  (case q61=>refine' .of (mg_of KX G ?_) (dM.of ?_ ?_ ?_ ?_ (fun _ _ _ _ _ _=>zq fun _=>rfl)) <;> (try k_is);all_goals try k_is)
  (case q62 | q63=>refine' .of (mg_of KX G ?_) (dM.of ?_ ?_ ?_ ?_ (fun _ _ _ _ _ _=>wQ fun _ _=>rfl)) <;> (try k_is);all_goals try k_is)
  (case q64=>refine' .of (mg_of KX G ?_) (dM.of ?_ ?_ ?_ ?_ (fun _ _ _ _ _ _=>DN fun _ _ _=>rfl)) <;> (try k_is);all_goals try k_is)
  (case q65=>refine' .of (mg_of KX G ?_) (dM.of ?_ ?_ ?_ ?_ (fun _ _ _ _ _ _=>wQ fun _ _=>rfl)) <;> (try k_is);all_goals try k_is)
  (case q66=>refine' .of (mg_of KX G ?_) (dM.of ?_ ?_ ?_ ?_ (fun _ _ _ _ _ _=>Qe fun _ _ _ _=>rfl)) <;> (try k_is);all_goals try k_is)
  (case q67 | q68 | q69=>refine' .of (mg_of KX G ?_) (dM.of ?_ ?_ ?_ ?_ (fun _ _ _ _ _ _=>DN fun _ _ _=>rfl)) <;> (try k_is);all_goals try k_is)
  (case q70 | q71=>refine' dM.of ?_ ?_ ?_ ?_ (fun _ _ _ _ _ _=>zq fun _=>rfl) <;> try k_is)
  (case q72=>refine' dM.of ?_ ?_ ?_ ?_ (fun _ _ _ _ _ _=>wQ fun _ _=>rfl) <;> try k_is)
  (case q73 | q74=>refine' dM.of ?_ ?_ ?_ ?_ (fun _ _ _ _ _ _=>zq fun _=>rfl) <;> try k_is)
  (case q75 | q76 | q77 | q78=>refine' dM.of ?_ ?_ ?_ ?_ (fun _ _ _ _ _ _=>wQ fun _ _=>rfl) <;> try k_is)
  (case q79=>refine' dM.of ?_ ?_ ?_ ?_ (fun _ _ _ _ _ _=>DN fun _ _ _=>rfl) <;> try k_is)
  (case q80 | q81 | q82 | q83 | q84 | q85 | q86=>refine' dM.of ?_ ?_ ?_ ?_ (fun _ _ _ _ _ _=>wQ fun _ _=>rfl) <;> try k_is)
  (case q87 | q88=>refine' dM.of ?_ ?_ ?_ ?_ (fun _ _ _ _ _ _=>DN fun _ _ _=>rfl) <;> try k_is)
  (case q89 | q90 | q91 | q92 | q93=>refine' dM.of ?_ ?_ ?_ ?_ (fun _ _ _ _ _ _=>wQ fun _ _=>rfl) <;> try k_is)
  (case q94=>refine' dM.of ?_ ?_ ?_ ?_ (fun _ _ _ _ _ _=>zq fun _=>rfl) <;> try k_is)
  (case q95=>refine' dM.of ?_ ?_ ?_ ?_ (fun _ _ _ _ _ _=>wQ fun _ _=>rfl) <;> try k_is)
  (case q96=>refine' Wh.of ?_ ?_ ?_ ?_ ?_ (fun _ F=>F.binds fun _ _ _ _ _ _ _=>wQ fun _ _=>⟨_,rfl,rfl⟩) <;> (try k_is);all_goals try k_is)
  (case q97=>refine' .of (mg_of KX G ?_) (dM.of ?_ ?_ ?_ ?_ (fun _ _ _ _ _ _=>zq fun _=>rfl)) <;> (try k_is);all_goals try k_is)
  (case q98=>refine' .of (mg_of KX G ?_) (dM.of ?_ ?_ ?_ ?_ (fun _ _ _ _ _ _=>wQ fun _ _=>rfl)) <;> (try k_is);all_goals try k_is)
  (case q99=>refine' dM.of ?_ ?_ ?_ ?_ (fun _ _ _ _ _ _=>DN fun _ _ _=>rfl) <;> try k_is)
  (case q100=>refine' dM.of ?_ ?_ ?_ ?_ (fun _ _ _ _ _ _=>wQ fun _ _=>rfl) <;> try k_is)
  (case q101=>refine' dM.of ?_ ?_ ?_ ?_ (fun _ _ _ _ _ _=>zq fun _=>rfl) <;> try k_is)
  (case q102=>refine' .of (mg_of KX G ?_) (dM.of ?_ ?_ ?_ ?_ (fun _ _ _ _ _ _=>wQ fun _ _=>rfl)) <;> (try k_is);all_goals try k_is)
  (case q103=>refine' .of (mg_of KX G ?_) (dM.of ?_ ?_ ?_ ?_ (fun _ _ _ _ _ _=>zq fun _=>rfl)) <;> (try k_is);all_goals try k_is)
  (case q104=>refine' .of (mg_of KX G ?_) (dM.of ?_ ?_ ?_ ?_ (fun _ _ _ _ _ _=>DN fun _ _ _=>rfl)) <;> (try k_is);all_goals try k_is)
  (case q105=>refine' .of (mg_of KX G ?_) (dM.of ?_ ?_ ?_ ?_ (fun _ _ _ _ _ _=>Qe fun _ _ _ _=>rfl)) <;> (try k_is);all_goals try k_is)
  (case q106=>refine' .of (mg_of KX G ?_) (dM.of ?_ ?_ ?_ ?_ (fun _ _ _ _ _ _=>DN fun _ _ _=>rfl)) <;> (try k_is);all_goals try k_is)
  (case q107 | q108=>refine' .of (mg_of KX G ?_) (dM.of ?_ ?_ ?_ ?_ (fun _ _ _ _ _ _=>wQ fun _ _=>rfl)) <;> (try k_is);all_goals try k_is)
  (case q109=>refine' .of (mg_of KX G ?_) (dM.of ?_ ?_ ?_ ?_ (fun _ _ _ _ _ _=>Qe fun _ _ _ _=>rfl)) <;> (try k_is);all_goals try k_is)
  (case q110=>refine' .of (mg_of KX G ?_) (dM.of ?_ ?_ ?_ ?_ (fun _ _ _ _ _ _=>zq fun _=>rfl)) <;> (try k_is);all_goals try k_is)
  (case q111=>refine' mg_of KX G ?_;k_is)
  (case q112=>
   refine' L2.KTab.mk' ?lk ?c1 ?c2 ?c3 ?c4 ?sm ?rows ?nd
   (case lk=>k_is)
   (case c1=>exact rfl)
   (case c2=>exact rfl)
   (case c3=>exact rfl)
   (case c4=>exact rfl)
   (case sm=>exact rfl)
   (case nd=>decide +kernel)
   (case rows=>
    refine' L2.jC.cons ?hh0 ?lk0 ?cc0 ?dd0 ?vv0 ?zz0 ?rest0
    (case hh0=>exact rfl)
    (case lk0=>k_is)
    (case cc0=>exact rfl)
    (case dd0=>exact rfl)
    (case vv0=>exact .cons ⟨_,rfl⟩ (.cons ⟨_,rfl⟩ (.cons ⟨_,rfl⟩ .nil)))
    (case zz0=>decide)
    refine' L2.jC.cons ?hh1 ?lk1 ?cc1 ?dd1 ?vv1 ?zz1 ?rest1
    (case hh1=>exact rfl)
    (case lk1=>k_is)
    (case cc1=>exact rfl)
    (case dd1=>exact rfl)
    (case vv1=>exact .cons ⟨_,rfl⟩ (.cons ⟨_,rfl⟩ (.cons ⟨_,rfl⟩ .nil)))
    (case zz1=>decide)
    refine' L2.jC.cons ?hh2 ?lk2 ?cc2 ?dd2 ?vv2 ?zz2 ?rest2
    (case hh2=>exact rfl)
    (case lk2=>k_is)
    (case cc2=>exact rfl)
    (case dd2=>exact rfl)
    (case vv2=>exact .cons ⟨_,rfl⟩ (.cons ⟨_,rfl⟩ (.cons ⟨_,rfl⟩ .nil)))
    (case zz2=>decide)
    refine' L2.jC.cons ?hh3 ?lk3 ?cc3 ?dd3 ?vv3 ?zz3 ?rest3
    (case hh3=>exact rfl)
    (case lk3=>k_is)
    (case cc3=>exact rfl)
    (case dd3=>exact rfl)
    (case vv3=>exact .cons ⟨_,rfl⟩ (.cons ⟨_,rfl⟩ (.cons ⟨_,rfl⟩ .nil)))
    (case zz3=>decide)
    refine' L2.jC.cons ?hh4 ?lk4 ?cc4 ?dd4 ?vv4 ?zz4 ?rest4
    (case hh4=>exact rfl)
    (case lk4=>k_is)
    (case cc4=>exact rfl)
    (case dd4=>exact rfl)
    (case vv4=>exact .cons ⟨_,rfl⟩ (.cons ⟨_,rfl⟩ (.cons ⟨_,rfl⟩ .nil)))
    (case zz4=>decide)
    refine' L2.jC.cons ?hh5 ?lk5 ?cc5 ?dd5 ?vv5 ?zz5 ?rest5
    (case hh5=>exact rfl)
    (case lk5=>k_is)
    (case cc5=>exact rfl)
    (case dd5=>exact rfl)
    (case vv5=>exact .cons ⟨_,rfl⟩ (.cons ⟨_,rfl⟩ (.cons ⟨_,rfl⟩ .nil)))
    (case zz5=>decide)
    refine' L2.jC.cons ?hh6 ?lk6 ?cc6 ?dd6 ?vv6 ?zz6 ?rest6
    (case hh6=>exact rfl)
    (case lk6=>k_is)
    (case cc6=>exact rfl)
    (case dd6=>exact rfl)
    (case vv6=>exact .cons ⟨_,rfl⟩ (.cons ⟨_,rfl⟩ (.cons ⟨_,rfl⟩ .nil)))
    (case zz6=>decide)
    refine' L2.jC.cons ?hh7 ?lk7 ?cc7 ?dd7 ?vv7 ?zz7 ?rest7
    (case hh7=>exact rfl)
    (case lk7=>k_is)
    (case cc7=>exact rfl)
    (case dd7=>exact rfl)
    (case vv7=>exact .cons ⟨_,rfl⟩ (.cons ⟨_,rfl⟩ (.cons ⟨_,rfl⟩ .nil)))
    (case zz7=>decide)
    refine' L2.jC.cons ?hh8 ?lk8 ?cc8 ?dd8 ?vv8 ?zz8 ?rest8
    (case hh8=>exact rfl)
    (case lk8=>k_is)
    (case cc8=>exact rfl)
    (case dd8=>exact rfl)
    (case vv8=>exact .cons ⟨_,rfl⟩ (.cons ⟨_,rfl⟩ (.cons ⟨_,rfl⟩ .nil)))
    (case zz8=>decide)
    refine' L2.jC.cons ?hh9 ?lk9 ?cc9 ?dd9 ?vv9 ?zz9 ?rest9
    (case hh9=>exact rfl)
    (case lk9=>k_is)
    (case cc9=>exact rfl)
    (case dd9=>exact rfl)
    (case vv9=>exact .cons ⟨_,rfl⟩ (.cons ⟨_,rfl⟩ (.cons ⟨_,rfl⟩ .nil)))
    (case zz9=>decide)
    refine' L2.jC.cons ?hh10 ?lk10 ?cc10 ?dd10 ?vv10 ?zz10 ?rest10
    (case hh10=>exact rfl)
    (case lk10=>k_is)
    (case cc10=>exact rfl)
    (case dd10=>exact rfl)
    (case vv10=>exact .cons ⟨_,rfl⟩ (.cons ⟨_,rfl⟩ (.cons ⟨_,rfl⟩ .nil)))
    (case zz10=>decide)
    exact .nil))
  (case q113 | q114 | q115 | q116 | q117 | q118 | q119 | q120 | q121 | q122 | q123 | q124=>refine' mg_none_of KX G ?_;k_is)
  (case q125 | q126 | q127 | q128 | q129 | q130 | q131 | q132=>refine' gC (mg_of KX G ?_) ?_ <;> (try k_is);all_goals exact⟨_,rfl⟩)
