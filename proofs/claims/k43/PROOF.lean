import PyProof.Rows.All
import Wide.All
import OpenK.AllK
import Wide.FinOn
import Lean
import PyProof.EqAt
import PyProof.EqKinds
import PyProof.TupleCall
import PyProof.StrLawsChain
import PyProof.StrLawsOccR
import PyProof.StrLawsReplace
import PyProof.NeKinds
import PyProof.EnumStmt
import PyProof.EnumMake
import PyProof.ListRange
import PyProof.StationsW
import PyProof.ExcClass2
import PyProof.ExcInit
import PyProof.InstStoreFacts
import OpenK.KRaise
import PyProof.NsDelKeeps
import PyProof.RulesAs
import PyProof.Rows.Catch
import OpenK.KOwn
import PyProof.ExcArgsOwn
import PyProof.ExcAttrAll.ValueError
import PyProof.IsiBase
import PyProof.MaxThree
import PyProof.SeqI3
import KE.KIsAll
import KE.IntTextLaws
import PyProof.StrLawsIdx
import PyProof.FitsInt
import PySem.Challenge.RW_holdlane_k43_turns_of_a_net
set_option Elab.async false
set_option linter.all false
set_option maxRecDepth 100000
namespace L2
open PySem PySem.Spec PyProof.Rows
noncomputable abbrev Key:=Sum Int Str
noncomputable def Fz:Key->Value->Bool
 | .inl k,v=>Value.isInt k v
 | .inr x,v=>Value.isStrOf x v
noncomputable def Y8 (w:World):Key->Int
 | .inl k=>hashInt k
 | .inr x=>hashStr w x
theorem fj:∀{k:Key} {v:Value},Fz k v=true->(∃i t,k=Sum.inl i/\v=Value.int i t)∨(∃x t,k=Sum.inr x/\v=Value.str x t)
 | .inl i,v,h=>by
  obtain⟨t,e⟩:=Value.isInt_shape (k:=i) (v:=v) h
  exact .inl ⟨i,t,rfl,e⟩
 | .inr x,v,h=>by
  obtain⟨t,e⟩:=Value.isStrOf_shape (x:=x) (v:=v) h
  exact .inr ⟨x,t,rfl,e⟩
theorem Ol (i:Int) (t:Tok):Fz (.inl i) (.int i t)=true:=by simp [Fz,Value.isInt]
theorem Pb (x:Str) (t:Tok):Fz (.inr x) (.str x t)=true:=by simp [Fz,Value.isStrOf]
theorem Wx (a b:Int):decide ((Sum.inl a:Key)=Sum.inl b)=(a == b):=by
 by_cases e:a=b
 ·subst e;simp
 ·have h:¬(Sum.inl a:Key)=Sum.inl b:=fun q=>e (Sum.inl.inj q)
  rw [decide_eq_false h]
  exact(beq_eq_false_iff_ne.mpr e).symm
theorem VN (a b:Str):decide ((Sum.inr a:Key)=Sum.inr b)=decide (a=b):=by
 by_cases e:a=b
 ·subst e;simp
 ·have h:¬(Sum.inr a:Key)=Sum.inr b:=fun q=>e (Sum.inr.inj q)
  rw [decide_eq_false h,decide_eq_false e]
theorem Vx (a:Int) (b:Str):decide ((Sum.inl a:Key)=Sum.inr b)=false:=decide_eq_false (fun q=>nomatch q)
theorem Ws (a:Str) (b:Int):decide ((Sum.inr a:Key)=Sum.inl b)=false:=decide_eq_false (fun q=>nomatch q)
noncomputable def dh (prog:Program) (w:World):PySem.KeyKind prog w Key where
 is:=Fz
 hash:=Y8 w
 inj:=fun v a b ha hb=>by
  rcases fj ha with ⟨i,t,rfl,rfl⟩ | ⟨x,t,rfl,rfl⟩
  ·rcases fj hb with ⟨j,u,rfl,e⟩ | ⟨y,u,rfl,e⟩
   ·injection e with e1 _;rw [e1]
   ·exact nomatch e
  ·rcases fj hb with ⟨j,u,rfl,e⟩ | ⟨y,u,rfl,e⟩
   ·exact nomatch e
   ·injection e with e1 _;rw [e1]
 byValue:=fun k v h=>by
  rcases fj h with ⟨i,t,rfl,rfl⟩ | ⟨x,t,rfl,rfl⟩ <;> rfl
 pyHash:=fun hv h=>by
  rcases fj hv with ⟨i,t,rfl,rfl⟩ | ⟨x,t,rfl,rfl⟩
  ·exact wpAny_pyHash_int h
  ·exact wpAny_pyHash_str h
 eqBool:=fun hu hv h=>by
  rcases fj hu with ⟨i,t,rfl,rfl⟩ | ⟨x,t,rfl,rfl⟩
  ·rcases fj hv with ⟨j,u,rfl,rfl⟩ | ⟨y,u,rfl,rfl⟩
   ·rw [Wx] at h;exact wpAny_eqBool_int h
   ·rw [Vx] at h;exact SeqAt.EqAt.int_str i t y u _ _ _ _ h
  ·rcases fj hv with ⟨j,u,rfl,rfl⟩ | ⟨y,u,rfl,rfl⟩
   ·rw [Ws] at h;exact SeqAt.EqAt.str_int x t j u _ _ _ _ h
   ·rw [VN] at h;exact wpAny_eqBool_str h
 «strs» :=fun k x t v h=>by
  rcases fj h with ⟨i,u,rfl,e⟩ | ⟨y,u,rfl,e⟩
  ·exact nomatch e
  ·injection e with e1 _
   subst e1
   cases v <;> rfl
theorem Ke (prog:Program) (w:World) (i:Int) (t:Tok):(dh prog w).is (.inl i) (.int i t)=true:=Ol i t
theorem mK (prog:Program) (w:World) (x:Str) (t:Tok):(dh prog w).is (.inr x) (.str x t)=true:=Pb x t
inductive V where
 | non | bl (b:Bool) | int (i:Int) | str (x:Str) | byt (b:Array UInt8) | flt (b:UInt64) | ref (a:Addr) | ty (n:String)
 deriving DecidableEq
noncomputable def RelV:V->Value->Prop
 | .non,u=>u=Value.none
 | .bl b,u=>u=Value.bool b
 | .int i,u=>∃t,u=Value.int i t
 | .str x,u=>∃t,u=Value.str x t
 | .byt b,u=>∃t,u=Value.bytes b t
 | .flt b,u=>∃t,u=Value.float b t
 | .ref a,u=>u=Value.ref a
 | .ty n,u=>u=Value.type n
noncomputable abbrev Vals:List V->List Value->Prop:=Paired RelV
theorem Vals.length {xs:List V} {us:List Value} (r:Vals xs us):xs.length=us.length:=Paired.length r
theorem Vals.get:∀{xs:List V} {us:List Value} {i:Nat} {x:V},Vals xs us->xs[i]?=some x->∃u,us[i]?=some u/\RelV x u
 | _,_,_,_,.nil,e=>by simp at e
 | _,_,0,_,.cons r _,e=>by simp at e;subst e;exact⟨_,rfl,r⟩
 | _,_,i+1,x,.cons _ t,e=>by
  obtain⟨u,h1,h2⟩:=Vals.get (i:=i) (x:=x) t (by simpa using e)
  exact⟨u,by simpa using h1,h2⟩
theorem Vals.append:∀{xs ys:List V} {us ws:List Value},Vals xs us->Vals ys ws->Vals (xs ++ ys) (us ++ ws)
 | _,_,_,_,.nil,s=>s
 | _,_,_,_,.cons r t,s=>.cons r (Vals.append t s)
theorem Vals.take:∀{xs:List V} {us:List Value} (n:Nat),Vals xs us->Vals (xs.take n) (us.take n)
 | _,_,0,_=>.nil
 | _,_,_+1,.nil=>.nil
 | _,_,n+1,.cons r t=>.cons r (Vals.take n t)
theorem Vals.drop:∀{xs:List V} {us:List Value} (n:Nat),Vals xs us->Vals (xs.drop n) (us.drop n)
 | _,_,0,r=>r
 | _,_,_+1,.nil=>.nil
 | _,_,n+1,.cons _ t=>Vals.drop n t
noncomputable def ue:Option V->Option Value->Prop
 | some v,some u=>RelV v u
 | none,none=>True
 | _,_=>False
noncomputable def KV {κ:Type}:List (κ×V)->List (κ×Value)->Prop:=Paired fun(p:κ×V) (q:κ×Value)=>p.1=q.1/\RelV p.2 q.2
noncomputable def kV:Key->V
 | .inl i=>.int i
 | .inr x=>.str x
inductive HO where
  | lst (xs:List V)
  | tup (xs:List V)
  | dK (kvs:List (Key×V)) | dT (kvs:List (List Key×V))
  | set (S:Int->Bool) (n:Nat)
  | ins (C dx:Addr) (fs:List (Str×V))
  | own (x:Addr)
  | xd (fs:List (Str×V))
  | met (f x:Addr)
  | rng (lo hi:Int)
  | frz (o:Obj) (u:HO)
  | tbl (ps:Array Value)
  | ext (φ:Heap->Prop)
noncomputable abbrev Hp:=Addr->Option HO
noncomputable def upd (H:Hp) (a:Addr) (o:HO):Hp:=fun b=>if b=a then some o else H b
theorem au {H:Hp} {a:Addr} {o:HO}:upd H a o a=some o:=by unfold upd;rw [if_pos rfl]
theorem aH {H:Hp} {a b:Addr} {o:HO} (h:b≠a):upd H a o b=H b:=by unfold upd;rw [if_neg h]
theorem sX {H:Hp} {a:Addr} {o u:HO}:upd (upd H a o) a u=upd H a u:=by
 funext b;unfold upd;split <;> rfl
theorem wy {H:Hp} {a b:Addr} {o u:HO} (h:H a=some o) (h':H b=some u) (d:o≠u):a≠b:=by
 intro e;subst e;rw [h] at h';exact d (Option.some.inj h')
theorem aD {H:Hp} {a b:Addr} {o:HO} (h:H a=some o) (h':H b=none):a≠b:=by
 intro e;subst e;rw [h] at h';cases h'
section
variable (P:Program) (w:World)
noncomputable def fV (H:Hp) (h:Heap) (a:Addr):HO->Prop
 | .lst xs=>xs.length<=sizeLine/\∃(its:List Value) (n:Nat),Vals xs its/\h.get? a=some { cls:=.type "list",data:=.seq its.toArray n }
 | .tup xs=>xs.length<=sizeLine/\∃its:List Value,Vals xs its/\IsTup h a its.toArray
 | .dK kvs=>kvs.length<=sizeLine/\(a == sysModules)=false/\∃vs,KV kvs vs/\h.DictOf (dh P w) a vs
 | .dT kvs=>kvs.length<=sizeLine/\(a == sysModules)=false/\∃xs:List (List Key×Addr×Value),
   Paired (fun(p:List Key×V) (q:List Key×Addr×Value)=>p.1=q.1/\H q.2.1=some (.tup (p.1.map kV))/\RelV p.2 q.2.2) kvs xs/\
   ∃o es ep,h.get? a=some o/\o.ExactDict/\o.data=.dict es ep/\es.toList=xs.map (entryOfKey (tupleKind (dh P w)))/\(xs.map (·.1)).Nodup
 | .set S n=>h.SetOf (intKind P w) a S n
 | .ins C dx fs=>H dx=some (.own a)/\fs.length<=1000/\dx≠a/\h.get? a=some (PySem.W.instObj C dx)/\
   ∃mA,h.Ns1 dx mA/\(∀f,ue (fs.lookup f) (mA f))/\PySem.Within mA (fs.map (·.1))
 | .own _=>∃o,h.get? a=some o
 | .xd fs=>∃mA,h.Ns1 a mA/\∀f,ue (fs.lookup f) (mA f)
 | .rng lo hi=>∃t u v,h.get? a=some { cls:=.type "range",data:=.fields #[.int lo t,.int hi u,.int 1 v] }
 | .frz o u=>h.get? a=some o/\fV H h a u
 | .tbl ps=>h.get? a=some { cls:=.none,data:=.fields ps }
 | .met f x=>h.get? a=some (PySem.W.methodObj (.ref f) (.ref x))
 | .ext φ=>φ h/\(∃o,h.get? a=some o)/\∀h1 h2:Heap,φ h1->(∀o,h1.get? a=some o->h2.get? a=some o)->φ h2
noncomputable def vN (H:Hp) (h:Heap):Prop:=∀a o,H a=some o->fV P w H h a o
end
section
variable {P:Program} {w:World} {H H':Hp} {h h':Heap} {a:Addr} {o:HO}
theorem fV.lt (x:fV P w H h a o):a <h.objs.size:=by
 cases o with
 | lst xs=>obtain⟨_,_,_,_,e⟩:=x;exact Heap.lt_size e
 | tup xs=>obtain⟨_,_,_,p⟩:=x;exact p.lt
 | dK kvs=>obtain⟨_,_,_,_,o,_,_,e,_⟩:=x;exact Heap.lt_size e
 | dT kvs=>obtain⟨_,_,_,_,o,_,_,e,_⟩:=x;exact Heap.lt_size e
 | set S n=>obtain⟨o,_,_,_,e,_⟩:=x;exact Heap.lt_size e
 | ins C dx fs=>obtain⟨_,_,_,e,_⟩:=x;exact Heap.lt_size e
 | own y=>obtain⟨_,e⟩:=x;exact Heap.lt_size e
 | xd fs=>obtain⟨_,⟨_,_,_,e,_⟩,_⟩:=x;exact Heap.lt_size e
 | rng lo hi=>obtain⟨_,_,_,e⟩:=x;exact Heap.lt_size e
 | frz ob u=>obtain⟨e,_⟩:=x;exact Heap.lt_size e
 | tbl ps=>exact Heap.lt_size (show h.get? a=some _ from x)
 | met f y=>exact Heap.lt_size (show h.get? a=some _ from x)
 | ext φ=>obtain⟨_,⟨_,e⟩,_⟩:=x;exact Heap.lt_size e
theorem Paired.mapP {α β:Type} {F G:α->β->Prop}:∀{l₁:List α} {l₂:List β},Paired F l₁ l₂->(∀a b,F a b->G a b)->Paired G l₁ l₂
 | _,_,.nil,_=>.nil
 | _,_,.cons r t,f=>.cons (f _ _ r) (Paired.mapP t f)
theorem fV.stay (x:fV P w H h a o) (k:∀b u,(b=a∨H b=some (.own a))->h.get? b=some u->h'.get? b=some u)
  (ho:∀b,H b=some (.own a)->H' b=some (.own a)) (ht:∀b xs,H b=some (.tup xs)->H' b=some (.tup xs)):fV P w H' h' a o:=by
 induction o with
 | lst xs=>obtain⟨z,its,n,r,e⟩:=x;exact⟨z,its,n,r,k _ _ (.inl rfl) e⟩
 | tup xs=>obtain⟨z,its,r,ob,e,c⟩:=x;exact⟨z,its,r,ob,k _ _ (.inl rfl) e,c⟩
 | dK kvs=>obtain⟨z,y,vs,r,ob,es,ep,e,c⟩:=x;exact⟨z,y,vs,r,ob,es,ep,k _ _ (.inl rfl) e,c⟩
 | dT kvs=>
  obtain⟨z,y,xs,r,ob,es,ep,e,c⟩:=x
  exact⟨z,y,xs,Paired.mapP r fun p q z=>⟨z.1,ht _ _ z.2.1,z.2.2⟩,ob,es,ep,k _ _ (.inl rfl) e,c⟩
 | set S n=>obtain⟨ob,es,ep,t,e,c⟩:=x;exact⟨ob,es,ep,t,k _ _ (.inl rfl) e,c⟩
 | ins C dx fs=>
  obtain⟨d,z,ne,e,mA,⟨od,es,ep,e2,c⟩,r⟩:=x
  exact⟨ho _ d,z,ne,k _ _ (.inl rfl) e,mA,⟨od,es,ep,k _ _ (.inr d) e2,c⟩,r⟩
 | own y=>obtain⟨ob,e⟩:=x;exact⟨ob,k _ _ (.inl rfl) e⟩
 | xd fs=>obtain⟨mA,⟨od,es,ep,e,c⟩,r⟩:=x;exact⟨mA,⟨od,es,ep,k _ _ (.inl rfl) e,c⟩,r⟩
 | rng lo hi=>obtain⟨t,u,v,e⟩:=x;exact⟨t,u,v,k _ _ (.inl rfl) e⟩
 | frz ob u ih=>obtain⟨e,q⟩:=x;exact⟨k _ _ (.inl rfl) e,ih q⟩
 | tbl ps=>
  have e:h.get? a=some { cls:=.none,data:=.fields ps }:=x
  show h'.get? a=some { cls:=.none,data:=.fields ps }
  exact k a _ (.inl rfl) e
 | met f y=>
  have e:h.get? a=some (PySem.W.methodObj (.ref f) (.ref y)):=x
  show h'.get? a=some (PySem.W.methodObj (.ref f) (.ref y))
  exact k a _ (.inl rfl) e
 | ext φ=>obtain⟨p,⟨o,e⟩,st⟩:=x;exact⟨st _ _ p fun o q=>k _ _ (.inl rfl) q,⟨o,k _ _ (.inl rfl) e⟩,st⟩
theorem vN.lt (x:vN P w H h) (e:H a=some o):a <h.objs.size:=(x a o e).lt
theorem vN.fresh (x:vN P w H h) (e:h.objs.size<=a):H a=none:=by
 cases q:H a with
 | none=>rfl
 | some u=>exact absurd (Nat.lt_of_lt_of_le (x.lt q) e) (Nat.lt_irrefl _)
theorem vN.kept (x:vN P w H h) (k:∀b u,h.get? b=some u->h'.get? b=some u):vN P w H h':=fun a o e=>
 (x a o e).stay (fun b u _ q=>k b u q) (fun _ q=>q) fun _ _ q=>q
theorem vN.laid (x:vN P w H h) (k:∀b u,h.get? b=some u->h'.get? b=some u) (hp:h.objs.size<=a) (new:fV P w (upd H a o) h' a o):vN P w (upd H a o) h':=fun b u e=>by
 have hn:=x.fresh hp
 by_cases hb:b=a
 ·subst hb;rw [au] at e;cases e;exact new
 ·rw [aH hb] at e
  exact(x b u e).stay (fun c v _ q=>k c v q) (fun c q=>by rw [aH (aD q hn)];exact q) fun c xs q=>by rw [aH (aD q hn)];exact q
end
noncomputable def Rd (H:Hp) (a:Addr) (u:HO):Prop:=H a=some u∨∃o,H a=some (.frz o u)
theorem Rd.ok {P:Program} {w:World} {H:Hp} {h:Heap} {a:Addr} {u:HO} (r:Rd H a u) (x:vN P w H h):fV P w H h a u:=by
 rcases r with r | ⟨o,r⟩
 ·exact x a u r
 ·obtain⟨_,q⟩:=x a _ r
  exact q
noncomputable def WT:Option HO->Prop
 | some (.lst _)=>True
 | some (.dK _)=>True
 | some (.dT _)=>True
 | some (.set _ _)=>True
 | some (.ins _ _ _)=>True
 | some (.ext _)=>True
 | _=>False
section
variable {P:Program} {w:World} {H:Hp} {h h':Heap} {x e:Addr} {o':HO}
theorem vN.write (ok:vN P w H h) (mu:WT (H x)) (he:e=x∨H e=some (.own x)) (k:∀b u,b≠e->h.get? b=some u->h'.get? b=some u) (heo:∃u,h'.get? e=some u)
  (new:fV P w (upd H x o') h' x o'):vN P w (upd H x o') h':=fun b u q=>by
 have nown:∀c y,H c=some (.own y)->c≠x:=fun c y r z=>by subst z;rw [r] at mu;exact mu
 have ntup:∀c xs,H c=some (.tup xs)->c≠x:=fun c xs r z=>by subst z;rw [r] at mu;exact mu
 by_cases hb:b=x
 ·subst hb;rw [au] at q;cases q;exact new
 ·rw [aH hb] at q
  by_cases hbe:b=e
  ·have q':H b=some (.own x):=by
    rcases he with z | z
    ·exact absurd (hbe.trans z) hb
    ·rw [hbe];exact z
   rw [q] at q';cases q'
   obtain⟨v,hv⟩:=heo
   exact⟨v,by rw [hbe];exact hv⟩
  ·refine(ok b u q).stay (fun c v hc r=>k c v ?_ r) (fun c r=>by rw [aH (nown c b r)];exact r) fun c xs r=>by rw [aH (ntup c xs r)];exact r
   rcases hc with rfl | hc
   ·exact hbe
   ·rintro rfl
    rcases he with z | z
    ·exact nown c b hc z
    ·rw [hc] at z;cases z;exact hb rfl
end
structure Un (fs ex:List Addr) (H H':Hp) (h h':Heap):Prop where
 keep:∀b o,h.get? b=some o->H b=none->b∉fs->b∉ex->h'.get? b=some o
 slot:∀b o,h.get? b=some o->H b=none->b∈fs->b∉ex->∃sl,h'.get? b=some { o with slots:=sl }
 free:∀b o,h.get? b=some o->H b=none->b∉ex->H' b=none
 there:∀b o,h.get? b=some o->b∉ex->∃o',h'.get? b=some o'
 tups:∀b xs,H b=some (.tup xs)->H' b=some (.tup xs)
 frzs:∀b o u,H b=some (.frz o u)->H' b=some (.frz o u)
 tbls:∀b ps,H b=some (.tbl ps)->∃more,H' b=some (.tbl (ps ++ more))
section
variable {fs fs' ex ex':List Addr} {H H1 H2:Hp} {h h1 h2 h':Heap} {a x e:Addr} {o:HO}
theorem Un.any (u:Un fs ex H H1 h h1) {b:Addr} {ob:Obj} (q:h.get? b=some ob) (n:H b=none) (hx:b∉ex):∃sl,h1.get? b=some { ob with slots:=sl }:=by
 by_cases hb:b∈fs
 ·exact u.slot b ob q n hb hx
 ·exact⟨ob.slots,u.keep b ob q n hb hx⟩
theorem Un.kept (k:∀b u,h.get? b=some u->h'.get? b=some u):Un fs ex H H h h':=
 ⟨fun b ob q _ _ _=>k b ob q,fun b ob q _ _ _=>⟨ob.slots,k b ob q⟩,fun _ _ _ n _=>n,fun b ob q _=>⟨ob,k b ob q⟩,fun _ _ q=>q,fun _ _ _ q=>q,fun _ ps q=>⟨#[],by rw [q];simp⟩⟩
theorem Un.refl:Un fs ex H H h h:=Un.kept fun _ _ q=>q
theorem Un.laid (k:∀b u,h.get? b=some u->h'.get? b=some u) (hp:h.objs.size<=a) (hn:H a=none):Un fs ex H (upd H a o) h h' where
 keep:=fun b u q _ _ _=>k b u q
 slot:=fun b u q _ _ _=>⟨u.slots,k b u q⟩
 free:=fun b u q n _=>by rw [aH (Nat.ne_of_lt (Nat.lt_of_lt_of_le (Heap.lt_size q) hp))];exact n
 there:=fun b u q _=>⟨u,k b u q⟩
 tups:=fun b xs q=>by rw [aH (aD q hn)];exact q
 frzs:=fun b u xs q=>by rw [aH (aD q hn)];exact q
 tbls:=fun b ps q=>⟨#[],by rw [aH (aD q hn),q];simp⟩
theorem Un.write (mu:WT (H x)) (he:e=x∨H e=some (.own x)) (k:∀b u,b≠e->h.get? b=some u->h'.get? b=some u) (heo:∃u,h'.get? e=some u):Un fs ex H (upd H x o) h h':=by
 have hx:∀b,H b=none->b≠x:=fun b n z=>by subst z;rw [n] at mu;exact mu
 have hb:∀b,H b=none->b≠e:=fun b n z=>by
  subst z
  rcases he with r | r
  ·exact hx b n r
  ·rw [n] at r;cases r
 have hm:∀b u,H b=some u->¬WT (some u)->b≠x:=fun b u q nm z=>by subst z;rw [q] at mu;exact nm mu
 refine⟨fun b u q n _ _=>k b u (hb b n) q,fun b u q n _ _=>⟨u.slots,k b u (hb b n) q⟩,fun b u q n _=>by rw [aH (hx b n)];exact n,fun b u q _=>?_,
  fun b xs q=>by rw [aH (hm b _ q fun z=>z)];exact q,fun b u xs q=>by rw [aH (hm b _ q fun z=>z)];exact q,fun b ps q=>⟨#[],by rw [aH (hm b _ q fun z=>z),q];simp⟩⟩
 by_cases hbe:b=e
 ·subst hbe;exact heo
 ·exact⟨u,k b u hbe q⟩
end
noncomputable def Yt (h:Heap) (H:Hp):List Addr:=(List.range h.objs.size).filter fun a=>(H a).isSome
noncomputable def Hs (h:Heap) (H:Hp):Heap:=PySem.W.hideAll h (Yt h H)
theorem Ow (h:Heap) (H:Hp):(Hs h H).objs.size=h.objs.size:=PySem.W.hideAll_size _ _
theorem PK {h:Heap} {H:Hp} {b:Addr} {o:Obj} (e:h.get? b=some o) (n:H b=none):(Hs h H).get? b=some o:=
 PySem.W.hideAll_get _ e fun hm=>by
  have q:(H b).isSome=true:=(List.mem_filter.mp hm).2
  rw [n] at q;simp at q
theorem Ti {h:Heap} {H:Hp} {b:Addr} {o:Obj} (e:(Hs h H).get? b=some o):h.get? b=some o/\H b=none:=by
 have e':h.get? b=some o:=PySem.W.of_hideAll (Yt h H) e
 refine⟨e',?_⟩
 cases q:H b with
 | none=>rfl
 | some x=>
  have hm:b∈Yt h H:=List.mem_filter.mpr ⟨List.mem_range.mpr (Heap.lt_size e'),by simp [q]⟩
  have z:(Hs h H).get? b=none:=PySem.W.hideAll_none (Yt h H) hm
  rw [z] at e;cases e
structure Mod (K:PySem.W.Frag) (mg:Str->Option Value) (base:Heap):Prop where
 kin:K.In base
 glob:base.Ns mainGlobals mg
 blt:∃mb,base.Ns builtinsNs mb/\∀x:Str,x≠ "__name__" ->mb x=bootBuiltins x
 nolimit:base.NoLimit
structure Cx where
 prog:Program
 w:World
 K:PySem.W.Frag
 mg:Str->Option Value
 base:Heap
 A:Around
 N:List Str
 s₀:Shared
 H₀:Hp
 env:Env
 outer:List Env
 stack:List Env
 ex:List Addr
 fn:Str->Bool
 calm:Bool
 pn:List (Addr×Obj)
 xe:Value->Shared->Prop
noncomputable def frs (l:List Env):List Addr:=l.filterMap (·.frame)
noncomputable abbrev Cx.fs (X:Cx):List Addr:=frs X.outer
noncomputable def Yx (sc:Scope) (x:Str):Prop:=sc.names.lookup x=some .local∨sc.names.lookup x=some .cell∨sc.names.lookup x=some .free
noncomputable def Loc (sc:Scope) (x:Str):Prop:=sc.names.lookup x=some .local∨sc.names.lookup x=some .cell
noncomputable def Look (env:Env) (h:Heap) (m:Str->Option Value) (x:Str) (u:Value):Prop:=
 (env.kindOf x=some .local/\m x=some u)∨((env.kindOf x=some .cell∨env.kindOf x=some .free)/\∃c,env.cells.lookup x=some c/\h.IsCell c (some u))
structure Cx.Ok (X:Cx):Prop where
 mod:Mod X.K X.mg X.base
 kind:X.env.scope.kind=.function
 glob:X.env.globals=mainGlobals
 blt:X.env.builtins=builtinsNs
 above:X.s₀.heap.objs.size<=X.env.locals
 inj:∀x y c,X.env.cells.lookup x=some c->X.env.cells.lookup y=some c->x=y
 has:∀x,(X.env.kindOf x=some .cell∨X.env.kindOf x=some .free)->∃c,X.env.cells.lookup x=some c
 cab:∀x c,X.fn x=true->X.env.cells.lookup x=some c->X.s₀.heap.objs.size<=c
 hd:X.calm=true->X.A.handled=none
 frames:X.A.frames=some X.stack
 stk:X.stack=X.outer∨(X.stack=X.env:: X.outer/\X.env.frame=some X.env.locals)
 exf:∀b∈X.ex,b≠X.env.locals/\∀x c,X.env.cells.lookup x=some c->c≠b
 bs:∀b o,X.base.get? b=some o->X.s₀.heap.get? b=some o/\X.H₀ b=none
 bsz:X.base.objs.size<=X.s₀.heap.objs.size
 noex:∀b o,X.base.get? b=some o->b∉X.ex
 exfs:∀b∈X.ex,b∉X.fs
 funs:X.s₀.heap.FunFrames X.base X.outer
 frf:∀b∈X.fs,X.H₀ b=none
structure Inv (X:Cx) (pins:List (Addr×Obj)) (σ:List (Option V)) (H:Hp) (s:Shared):Prop where
 ok:X.Ok
 os:s.os=X.s₀.os
 bare:AllBare s.gens
 base:Un X.fs X.ex X.H₀ H X.s₀.heap s.heap
 loc:∃m,s.heap.Ns X.env.locals m/\∀(i:Nat) (x:Str) (v:V),X.N[i]?=some x->σ[i]?=some (some v)->Yx X.env.scope x->∃u,RelV v u/\Look X.env s.heap m x u
 cell:∀x c,X.env.cells.lookup x=some c->∃v,s.heap.IsCell c v
 free:H X.env.locals=none
 freeC:∀x c,X.env.cells.lookup x=some c->H c=none
 pin:∀p∈X.pn ++ pins,s.heap.get? p.1=some p.2/\H p.1=none/\p.1≠X.env.locals/\p.1∉X.fs/\∀v,p.2.data≠.cell v
 hok:vN X.prog X.w H s.heap
 len:σ.length=X.N.length
section
variable {X:Cx} {pins:List (Addr×Obj)} {σ:List (Option V)} {H H':Hp} {s:Shared} {h':Heap}
theorem Cx.Ok.nofr (ok:X.Ok) {b:Addr} {o:Obj} (e:X.base.get? b=some o):b∉X.fs:=fun hb=>by
 have:=(ok.funs.mem hb).1
 rw [e] at this;cases this
theorem Inv.bs (I:Inv X pins σ H s):∀b o,X.base.get? b=some o->s.heap.get? b=some o/\H b=none:=fun b o e=>
 ⟨I.base.keep b o (I.ok.bs b o e).1 (I.ok.bs b o e).2 (I.ok.nofr e) (I.ok.noex b o e),I.base.free b o (I.ok.bs b o e).1 (I.ok.bs b o e).2 (I.ok.noex b o e)⟩
theorem Inv.bk (I:Inv X pins σ H s):∀b o,X.base.get? b=some o->s.heap.get? b=some o:=fun b o e=>(I.bs b o e).1
theorem Inv.mod (I:Inv X pins σ H s):Mod X.K X.mg X.base:=I.ok.mod
theorem Inv.kIn (I:Inv X pins σ H s):X.K.In s.heap:=I.ok.mod.kin.keeps I.bk
theorem Inv.lt (I:Inv X pins σ H s):X.env.locals <s.heap.objs.size:=let ⟨_,hn,_⟩:=I.loc;hn.lt
theorem Inv.sz (I:Inv X pins σ H s):X.s₀.heap.objs.size<=s.heap.objs.size:=Nat.le_trans I.ok.above (Nat.le_of_lt I.lt)
theorem Inv.nofs (I:Inv X pins σ H s) {a:Addr} (h:s.heap.objs.size<=a):a∉X.fs:=fun hb=>by
 obtain⟨_,o,ho,_⟩:=I.ok.funs.mem hb
 exact absurd (Nat.lt_of_lt_of_le (Heap.lt_size ho) (Nat.le_trans I.sz h)) (Nat.lt_irrefl _)
theorem Inv.cne (I:Inv X pins σ H s):∀x c,X.env.cells.lookup x=some c->c≠X.env.locals:=fun x c e z=>by
 obtain⟨v,o,ho,hd⟩:=I.cell x c e
 obtain⟨m,⟨o',es,ep,ho',hd',_⟩,_⟩:=I.loc
 rw [z,ho'] at ho;cases ho;rw [hd'] at hd;cases hd
theorem Inv.funs (I:Inv X pins σ H s):s.heap.FunFrames X.base X.outer:=by
 have all:∀(l:List Env),(∀b∈frs l,b∈X.fs)->X.s₀.heap.FunFrames X.base l->s.heap.FunFrames X.base l:=by
  intro l
  induction l with
  | nil=>intro _ _;trivial
  | cons env r ih=>
   intro hs hl
   obtain⟨hk,⟨L,o,hf,hn,ho,hd⟩,hr⟩:=hl
   have hL:L∈X.fs:=hs L (by unfold frs;rw [List.filterMap_cons,hf];exact List.mem_cons_self)
   obtain⟨sl,e⟩:=I.base.slot L o ho (I.ok.frf L hL) hL fun z=>I.ok.exfs L z hL
   exact⟨hk,⟨L,_,hf,hn,e,hd⟩,ih (fun b hb=>hs b (by unfold frs;rw [List.filterMap_cons,hf];exact List.mem_cons_of_mem _ hb)) hr⟩
 exact all X.outer (fun _ hb=>hb) I.ok.funs
theorem Inv.stack (I:Inv X pins σ H s):s.heap.FunFrames X.base X.stack:=by
 rcases I.ok.stk with e | ⟨e,hf⟩
 ·rw [e];exact I.funs
 ·rw [e]
  obtain⟨m,hn,_⟩:=I.loc
  refine .cons (by rw [I.ok.kind];decide) hf hn ?_ I.funs
  exact Heap.get?_none_of_le (Nat.le_trans I.ok.bsz I.ok.above)
theorem Inv.stkSub (I:Inv X pins σ H s):∀b∈frs X.stack,b∈X.env.locals:: X.fs:=fun b hb=>by
 rcases I.ok.stk with e | ⟨e,hf⟩
 ·rw [e] at hb;exact List.mem_cons_of_mem _ hb
 ·rw [e] at hb
  unfold frs at hb
  rw [List.filterMap_cons,hf] at hb
  exact hb
theorem Inv.stkFree (I:Inv X pins σ H s):∀b∈frs X.stack,H b=none:=fun b hb=>by
 rcases List.mem_cons.mp (I.stkSub b hb) with e | hb
 ·rw [e];exact I.free
 ·obtain⟨_,o,ho,_⟩:=I.ok.funs.mem hb
  exact I.base.free b o ho (I.ok.frf b hb) fun z=>I.ok.exfs b z hb
theorem Inv.step {g':Array GenState} {t':Nat} {d':Drawn} {ch:List Addr} (I:Inv X pins σ H s)
  (hch:∀b∈ch,(b∈X.ex∨X.s₀.heap.objs.size<=b)/\b≠X.env.locals/\(∀x c,X.env.cells.lookup x=some c->c≠b)/\∀p∈X.pn ++ pins,p.1≠b)
  (keep:∀b o,b≠X.env.locals->b∉X.fs->b∉ch->s.heap.get? b=some o->H b=none->h'.get? b=some o)
  (slot:∀b o,b≠X.env.locals->b∈X.fs->b∉ch->s.heap.get? b=some o->H b=none->∃sl,h'.get? b=some { o with slots:=sl }) (free:∀b o,b∉ch->s.heap.get? b=some o->H b=none->H' b=none)
  (there:∀b o,b∉ch->s.heap.get? b=some o->∃o',h'.get? b=some o')
  (tups:∀b xs,H b=some (.tup xs)->H' b=some (.tup xs)) (frzs:∀b o u,H b=some (.frz o u)->H' b=some (.frz o u)) (tbls:∀b ps,H b=some (.tbl ps)->∃more,H' b=some (.tbl (ps ++ more)))
  (ns:∀m,s.heap.Ns X.env.locals m->h'.Ns X.env.locals m) (hok:vN X.prog X.w H' h') (hg:AllBare g'):
  Inv X pins σ H' { s with heap:=h',gens:=g',drawn:=d',toks:=t' }:=by
 have neL:∀b o,X.s₀.heap.get? b=some o->b≠X.env.locals:=fun b o e=>Nat.ne_of_lt (Nat.lt_of_lt_of_le (Heap.lt_size e) I.ok.above)
 have neC:∀b o,X.s₀.heap.get? b=some o->b∉X.ex->b∉ch:=fun b o e hx hb=>by
  rcases(hch b hb).1 with z | z
  ·exact hx z
  ·exact absurd (Nat.lt_of_lt_of_le (Heap.lt_size e) z) (Nat.lt_irrefl _)
 have cellK:∀x c,X.env.cells.lookup x=some c->∀v,s.heap.IsCell c v->h'.IsCell c v:=fun x c e v ⟨o,ho,hd⟩=>by
  have nch:c∉ch:=fun z=>(hch c z).2.2.1 x c e rfl
  by_cases hc:c∈X.fs
  ·obtain⟨sl,q⟩:=slot c o (I.cne x c e) hc nch ho (I.freeC x c e)
   exact⟨_,q,hd⟩
  ·exact⟨o,keep c o (I.cne x c e) hc nch ho (I.freeC x c e),hd⟩
 refine⟨I.ok,I.os,hg,⟨fun b o e n hb hx=>?_,fun b o e n hb hx=>?_,fun b o e n hx=>?_,fun b o e hx=>?_,fun b xs e=>tups b xs (I.base.tups b xs e),fun b o xs e=>frzs b o xs (I.base.frzs b o xs e),fun b ps e=>?_⟩,?_,fun x c e=>?_,?_,fun x c e=>?_,fun p hp=>?_,hok,I.len⟩
 ·exact keep b o (neL b o e) hb (neC b o e hx) (I.base.keep b o e n hb hx) (I.base.free b o e n hx)
 ·obtain⟨sl,e1⟩:=I.base.slot b o e n hb hx
  obtain⟨sl',e2⟩:=slot b _ (neL b o e) hb (neC b o e hx) e1 (I.base.free b o e n hx)
  exact⟨sl',e2⟩
 ·obtain⟨o',e1⟩:=I.base.there b o e hx
  exact free b o' (neC b o e hx) e1 (I.base.free b o e n hx)
 ·obtain⟨o',e1⟩:=I.base.there b o e hx
  exact there b o' (neC b o e hx) e1
 ·obtain⟨m1,e1⟩:=I.base.tbls b ps e
  obtain⟨m2,e2⟩:=tbls b _ e1
  exact⟨m1 ++ m2,by rw [e2,Array.append_assoc]⟩
 ·obtain⟨m,hn,hl⟩:=I.loc
  refine⟨m,ns m hn,fun i x v e1 e2 e3=>?_⟩
  obtain⟨u,r,l⟩:=hl i x v e1 e2 e3
  refine⟨u,r,?_⟩
  rcases l with l | ⟨k,c,e,z⟩
  ·exact .inl l
  ·exact .inr ⟨k,c,e,cellK x c e _ z⟩
 ·obtain⟨v,z⟩:=I.cell x c e
  exact⟨v,cellK x c e v z⟩
 ·obtain⟨m,⟨o,_,_,ho,_⟩,_⟩:=I.loc
  exact free _ o (fun z=>(hch _ z).2.1 rfl) ho I.free
 ·obtain⟨v,o,ho,hd⟩:=I.cell x c e
  exact free c o (fun z=>(hch c z).2.2.1 x c e rfl) ho (I.freeC x c e)
 ·obtain⟨e,n,ne,nf,d⟩:=I.pin p hp
  have nch:p.1∉ch:=fun z=>(hch p.1 z).2.2.2 p hp rfl
  exact⟨keep p.1 p.2 ne nf nch e n,free p.1 p.2 nch e n,ne,nf,d⟩
theorem Inv.un {t':Nat} (I:Inv X pins σ H s) (u:Un X.fs [] H H' s.heap h') (hok:vN X.prog X.w H' h'):Inv X pins σ H' { s with heap:=h',toks:=t' }:=by
 obtain⟨m,⟨o,es,ep,ho,r⟩,_⟩:=id I.loc
 obtain⟨sl,hL⟩:=u.any ho I.free (by simp)
 exact I.step (g':=s.gens) (d':=s.drawn) (ch:=[]) (fun _ z=>nomatch z) (fun b o _ hb _ e n=>u.keep b o e n hb (by simp)) (fun b o _ hb _ e n=>u.slot b o e n hb (by simp)) (fun b o _ e n=>u.free b o e n (by simp)) (fun b o _ e=>u.there b o e (by simp)) u.tups u.frzs u.tbls (fun m' hm=>by
  obtain⟨o',es',ep',ho',r'⟩:=hm
  rw [ho] at ho';cases ho'
  exact⟨_,es',ep',hL,r'⟩) hok I.bare
theorem Inv.call {g':Array GenState} {t':Nat} {d':Drawn} {ch:List Addr} (I:Inv X pins σ H s) (u:Un (frs X.stack) ch H H' s.heap h') (hok:vN X.prog X.w H' h') (hg:AllBare g')
  (hch:∀b∈ch,(b∈X.ex∨X.s₀.heap.objs.size<=b)/\b≠X.env.locals/\(∀x c,X.env.cells.lookup x=some c->c≠b)/\∀p∈X.pn ++ pins,p.1≠b):
  Inv X pins σ H' { s with heap:=h',gens:=g',drawn:=d',toks:=t' }:=by
 obtain⟨m,⟨o,es,ep,ho,r⟩,_⟩:=id I.loc
 obtain⟨sl,hL⟩:=u.any ho I.free fun z=>(hch _ z).2.1 rfl
 exact I.step (ch:=ch) hch (fun b o hL hb hc e n=>u.keep b o e n (fun z=>(List.mem_cons.mp (I.stkSub b z)).elim hL hb) hc) (fun b o _ _ hc e n=>u.any e n hc) (fun b o hc e n=>u.free b o e n hc) (fun b o hc e=>u.there b o e hc) u.tups u.frzs u.tbls (fun m' hm=>by
  obtain⟨o',es',ep',ho',r'⟩:=hm
  rw [ho] at ho';cases ho'
  exact⟨_,es',ep',hL,r'⟩) hok hg
theorem Inv.turned {t':Nat} {it:Addr} (I:Inv X pins σ H s) (k:∀b o,b≠it->s.heap.get? b=some o->h'.get? b=some o) (hn:H it=none) (hL:it≠X.env.locals)
  (h1:it∈X.ex∨X.s₀.heap.objs.size<=it) (h2:∀x c,X.env.cells.lookup x=some c->c≠it) (h3:∀p∈X.pn ++ pins,p.1≠it):Inv X pins σ H { s with heap:=h',toks:=t' }:=by
 have nit:∀b u,H b=some u->b≠it:=fun b u e z=>by rw [z,hn] at e;cases e
 refine I.step (g':=s.gens) (d':=s.drawn) (ch:=[it]) (fun b hb=>?_) (fun b o _ _ hc e _=>k b o (fun z=>hc (by simp [z])) e) (fun b o _ _ hc e _=>⟨o.slots,k b o (fun z=>hc (by simp [z])) e⟩) (fun _ _ _ _ n=>n)
  (fun b o hc e=>⟨o,k b o (fun z=>hc (by simp [z])) e⟩) (fun _ _ e=>e) (fun _ _ _ e=>e) (fun b ps e=>⟨#[],by rw [e];simp⟩) (fun m hm=>?_) (fun b u e=>?_) I.bare
 ·have e:b=it:=by simpa using hb
  subst e
  exact⟨h1,hL,h2,h3⟩
 ·obtain⟨o,es,ep,ho,r⟩:=hm
  exact⟨o,es,ep,k _ o (Ne.symm hL) ho,r⟩
 ·refine(I.hok b u e).stay (fun c v hc q=>k c v ?_ q) (fun _ q=>q) fun _ _ q=>q
  rcases hc with z | z
  ·rw [z];exact nit b u e
  ·exact nit c _ z
theorem Inv.tok (I:Inv X pins σ H s) (t:Nat):Inv X pins σ H { s with toks:=t }:=I.un (h':=s.heap) (t':=t) Un.refl I.hok
theorem Inv.kept {t':Nat} (I:Inv X pins σ H s) (k:∀b u,s.heap.get? b=some u->h'.get? b=some u):Inv X pins σ H { s with heap:=h',toks:=t' }:=I.un (Un.kept k) (I.hok.kept k)
theorem Inv.laid {a:Addr} {o:HO} {t':Nat} (I:Inv X pins σ H s) (k:∀b u,s.heap.get? b=some u->h'.get? b=some u) (hp:s.heap.objs.size<=a) (new:fV X.prog X.w (upd H a o) h' a o):
  Inv X pins σ (upd H a o) { s with heap:=h',toks:=t' }:=I.un (Un.laid k hp (I.hok.fresh hp)) (I.hok.laid k hp new)
theorem Inv.write {x e:Addr} {o:HO} {t':Nat} (I:Inv X pins σ H s) (mu:WT (H x)) (he:e=x∨H e=some (.own x)) (k:∀b u,b≠e->s.heap.get? b=some u->h'.get? b=some u) (heo:∃u,h'.get? e=some u)
  (new:fV X.prog X.w (upd H x o) h' x o):Inv X pins σ (upd H x o) { s with heap:=h',toks:=t' }:=I.un (Un.write mu he k heo) (I.hok.write mu he k heo new)
theorem Inv.weak {σ':List (Option V)} (I:Inv X pins σ H s) (hl:σ'.length=σ.length) (w:∀(i:Nat) v,σ'[i]?=some (some v)->σ[i]?=some (some v)):Inv X pins σ' H s:=
 ⟨I.ok,I.os,I.bare,I.base,let ⟨m,hn,hl'⟩:=I.loc;⟨m,hn,fun i x v e1 e2 e3=>hl' i x v e1 (w i v e2) e3⟩,I.cell,I.free,I.freeC,I.pin,I.hok,hl.trans I.len⟩
theorem Inv.pins_of {pins':List (Addr×Obj)} (I:Inv X pins σ H s) (h:∀p∈pins',s.heap.get? p.1=some p.2/\H p.1=none/\p.1≠X.env.locals/\p.1∉X.fs/\∀v,p.2.data≠.cell v):Inv X pins' σ H s:=
 ⟨I.ok,I.os,I.bare,I.base,I.loc,I.cell,I.free,I.freeC,fun p hp=>(List.mem_append.mp hp).elim (fun z=>I.pin p (List.mem_append_left _ z)) (h p),I.hok,I.len⟩
theorem JL {N:List Str} (hN:N.Nodup) {i j:Nat} {x:Str} (a:N[i]?=some x) (b:N[j]?=some x):i=j:=by
 obtain⟨h1,e1⟩:=List.getElem?_eq_some_iff.mp a
 obtain⟨h2,e2⟩:=List.getElem?_eq_some_iff.mp b
 exact(List.getElem_inj hN).mp (e1.trans e2.symm)
theorem zV {M:Model} {A:Around} {E:Value->Shared->Prop} {i:Nat} {x:Str} {v:V} {u:Value} {Q:Unit->Shared->Prop} (I:Inv X pins σ H s) (hN:X.N.Nodup) (hi:X.N[i]?=some x) (hx:Loc X.env.scope x) (r:RelV v u)
  (h:∀s',Inv X pins (σ.set i (some v)) H s'->(∃a,Heap.SameBut a s.heap s'.heap/\(a=X.env.locals∨X.env.cells.lookup x=some a))->Q () s') (hf:X.fn x=true∨X.env.scope.names.lookup x=some .local:=by first | exact .inl rfl | exact .inr rfl | assumption):wpAny M A (storeName X.env x u) Q E s:=by
 obtain⟨m,hn,hl⟩:=id I.loc
 have hcls:(X.env.scope.kind == .class || (X.env.scope.kind == .module && X.env.locals != X.env.globals))=false:=by rw [I.ok.kind];rfl
 have hiσ:i <σ.length:=by rw [I.len];exact(List.getElem?_eq_some_iff.mp hi).1
 have cne:=I.cne
 have tracked:∀{a:Addr} {h':Heap},(∃o,s.heap.get? a=some o/\H a=none)->Heap.SameBut a s.heap h'->vN X.prog X.w H h':=fun {a h'} ha hs b ob e=>by
  obtain⟨_,_,hfree⟩:=ha
  refine(I.hok b ob e).stay (fun c w' hc q=>(hs.2 c ?_).trans q) (fun _ q=>q) fun _ _ q=>q
  rintro rfl
  rcases hc with rfl | hc
  ·rw [hfree] at e;cases e
  ·rw [hfree] at hc;cases hc
 rcases hx with hk | hk
 ·refine wpAny_storeName_local hk hn (fun h' hn' hs=>?_) hcls
  obtain⟨oL,_,_,hoL,_⟩:=id hn
  refine h _ ⟨I.ok,I.os,I.bare,⟨fun b o e n hb hx=>?_,fun b o e n hb hx=>?_,I.base.free,fun b o e hx=>?_,I.base.tups,I.base.frzs,I.base.tbls⟩,⟨_,hn',fun j y v' e1 e2 e3=>?_⟩,fun y c e=>?_,I.free,I.freeC,fun p hp=>?_,tracked ⟨oL,hoL,I.free⟩ hs,by simpa using I.len⟩ ⟨_,hs,.inl rfl⟩
  ·exact(hs.2 b (Nat.ne_of_lt (Nat.lt_of_lt_of_le (Heap.lt_size e) I.ok.above))).trans (I.base.keep b o e n hb hx)
  ·obtain⟨sl,e1⟩:=I.base.slot b o e n hb hx
   exact⟨sl,(hs.2 b (Nat.ne_of_lt (Nat.lt_of_lt_of_le (Heap.lt_size e) I.ok.above))).trans e1⟩
  ·obtain⟨o',e1⟩:=I.base.there b o e hx
   exact⟨o',(hs.2 b (Nat.ne_of_lt (Nat.lt_of_lt_of_le (Heap.lt_size e) I.ok.above))).trans e1⟩
  ·by_cases hj:j=i
   ·subst hj
    rw [hi] at e1;cases e1
    rw [List.getElem?_set_self hiσ] at e2
    cases e2
    exact⟨u,r,.inl ⟨hk,by simp⟩⟩
   ·rw [List.getElem?_set_ne (Ne.symm hj)] at e2
    obtain⟨u',r',q⟩:=hl j y v' e1 e2 e3
    refine⟨u',r',?_⟩
    rcases q with ⟨k,e⟩ | ⟨k,c,e,z⟩
    ·refine .inl ⟨k,?_⟩
     have:y≠x:=fun e=>hj (JL hN e1 (e ▸ hi))
     simp [this,e]
    ·exact .inr ⟨k,c,e,z.sameBut hs (cne y c e)⟩
  ·obtain⟨w',z⟩:=I.cell y c e
   exact⟨w',z.sameBut hs (cne y c e)⟩
  ·obtain⟨e,n,ne,nf,d⟩:=I.pin p hp
   exact⟨(hs.2 p.1 ne).trans e,n,ne,nf,d⟩
 ·have hfn:X.fn x=true:=by
   rcases hf with z | z
   ·exact z
   ·rw [z] at hk;cases hk
  obtain⟨c,hc⟩:=I.ok.has x (.inl hk)
  obtain⟨w',z⟩:=I.cell x c hc
  refine wpAny_storeName_cell I.ok.kind hk hc z (fun h' hc' hs=>?_)
  obtain⟨oc,hoc,hocd⟩:=id z
  refine h { s with heap:=h' } ⟨I.ok,I.os,I.bare,⟨fun b o e n hb hx=>?_,fun b o e n hb hx=>?_,I.base.free,fun b o e hx=>?_,I.base.tups,I.base.frzs,I.base.tbls⟩,⟨m,hn.sameBut hs (Ne.symm (cne x c hc)),fun j y v' e1 e2 e3=>?_⟩,fun y c' e=>?_,I.free,I.freeC,fun p hp=>?_,tracked ⟨oc,hoc,I.freeC x c hc⟩ hs,by simpa using I.len⟩ ⟨c,hs,.inr hc⟩
  ·exact(hs.2 b (Nat.ne_of_lt (Nat.lt_of_lt_of_le (Heap.lt_size e) (I.ok.cab x c hfn hc)))).trans (I.base.keep b o e n hb hx)
  ·obtain⟨sl,e1⟩:=I.base.slot b o e n hb hx
   exact⟨sl,(hs.2 b (Nat.ne_of_lt (Nat.lt_of_lt_of_le (Heap.lt_size e) (I.ok.cab x c hfn hc)))).trans e1⟩
  ·obtain⟨o',e1⟩:=I.base.there b o e hx
   exact⟨o',(hs.2 b (Nat.ne_of_lt (Nat.lt_of_lt_of_le (Heap.lt_size e) (I.ok.cab x c hfn hc)))).trans e1⟩
  ·by_cases hj:j=i
   ·subst hj
    rw [hi] at e1;cases e1
    rw [List.getElem?_set_self hiσ] at e2
    cases e2
    exact⟨u,r,.inr ⟨.inl hk,c,hc,hc'⟩⟩
   ·rw [List.getElem?_set_ne (Ne.symm hj)] at e2
    obtain⟨u',r',q⟩:=hl j y v' e1 e2 e3
    refine⟨u',r',?_⟩
    rcases q with q | ⟨k,c',e,z'⟩
    ·exact .inl q
    ·refine .inr ⟨k,c',e,z'.sameBut hs ?_⟩
     rintro rfl
     exact hj (JL hN e1 (I.ok.inj _ _ _ e hc ▸ hi))
  ·by_cases hcc:c'=c
   ·subst hcc;exact⟨_,hc'⟩
   ·obtain⟨w2,z2⟩:=I.cell y c' e
    exact⟨w2,z2.sameBut hs hcc⟩
  ·obtain⟨e,n,ne,nf,d⟩:=I.pin p hp
   refine⟨(hs.2 p.1 ?_).trans e,n,ne,nf,d⟩
   intro q
   rw [q,hoc] at e
   have q':oc=p.2:=Option.some.inj e
   exact d w' (by rw [<-q'];exact hocd)
theorem JD {M:Model} {A:Around} {E:Value->Shared->Prop} {i:Nat} {x:Str} {v:V} {u:Value} {Q:Unit->Shared->Prop} (I:Inv X pins σ H s) (hN:X.N.Nodup) (hi:X.N[i]?=some x) (hx:Loc X.env.scope x) (r:RelV v u)
  (h:∀s',Inv X pins (σ.set i (some v)) H s'->Q () s') (hf:X.fn x=true∨X.env.scope.names.lookup x=some .local:=by first | exact .inl rfl | exact .inr rfl | assumption):wpAny M A (storeName X.env x u) Q E s:=
 zV I hN hi hx r (fun s' I' _=>h s' I') hf
theorem Inv.call' {s':Shared} {ch:List Addr} (I:Inv X pins σ H s) (ho:s'.os=s.os) (u:Un (frs X.stack) ch H H' s.heap s'.heap) (hok:vN X.prog X.w H' s'.heap) (hg:AllBare s'.gens)
  (hch:∀b∈ch,(b∈X.ex∨X.s₀.heap.objs.size<=b)/\b≠X.env.locals/\(∀x c,X.env.cells.lookup x=some c->c≠b)/\∀p∈X.pn ++ pins,p.1≠b):Inv X pins σ H' s':=by
 obtain⟨h',g',d',t',o'⟩:=s'
 have e:o'=s.os:=ho
 subst e
 exact I.call (g':=g') (t':=t') (d':=d') u hok hg hch
end
noncomputable abbrev XK:=Value->Option Addr->Hp->Prop
noncomputable abbrev St:=List (Option V)
noncomputable abbrev VK:=V->Hp->Prop
noncomputable abbrev TE:=St->Hp->VK->Prop
noncomputable abbrev TT:=St->Hp->(Bool->Hp->Prop)->Prop
noncomputable abbrev TA:=St->Hp->(List V->Hp->Prop)->Prop
structure Ends where
 nx:St->Hp->Prop
 rt:VK
 bk:St->Hp->Prop:=fun _ _=>False
 ct:St->Hp->Prop:=fun _ _=>False
noncomputable abbrev TS:=Ends->St->Hp->Prop
noncomputable def EP (X:Cx) (pins:List (Addr×Obj)) (σ:St) (Q:VK) (u:Value) (s':Shared):Prop:=∃v H',Inv X pins σ H' s'/\RelV v u/\Q v H'
noncomputable def TP (X:Cx) (pins:List (Addr×Obj)) (σ:St) (Q:Bool->Hp->Prop) (b:Bool) (s':Shared):Prop:=∃H',Inv X pins σ H' s'/\Q b H'
noncomputable def AP (X:Cx) (pins:List (Addr×Obj)) (σ:St) (Q:List V->Hp->Prop) (us:List Value) (s':Shared):Prop:=∃vs H',Inv X pins σ H' s'/\Vals vs us/\Q vs H'
noncomputable def SP (X:Cx) (pins:List (Addr×Obj)) (D:Ends) (f:Flow) (s':Shared):Prop:=
 match f with
 | .next=>∃σ' H',Inv X pins σ' H' s'/\D.nx σ' H'
 | .brk=>∃σ' H',Inv X pins σ' H' s'/\D.bk σ' H'
 | .cont=>∃σ' H',Inv X pins σ' H' s'/\D.ct σ' H'
 | .ret u=>∃v σ' H',Inv X pins σ' H' s'/\RelV v u/\D.rt v H'
noncomputable def PE (X:Cx) (e:Expr) (t:TE):Prop:=
 ∀(pins:List (Addr×Obj)) (s:Shared) (σ:St) (H:Hp) (Q:VK),Inv X pins σ H s->t σ H Q->wpAny (model X.prog X.w) X.A (eval e X.env) (EP X pins σ Q) X.xe s
noncomputable def PT (X:Cx) (e:Expr) (t:TT):Prop:=
 ∀(pins:List (Addr×Obj)) (s:Shared) (σ:St) (H:Hp) (Q:Bool->Hp->Prop),Inv X pins σ H s->t σ H Q->wpAny (model X.prog X.w) X.A (isTrue e X.env (eval e X.env)) (TP X pins σ Q) X.xe s
noncomputable def PW (X:Cx) (e:Expr) (t:TT):Prop:=
 ∀(whole:Sem Value) (pins:List (Addr×Obj)) (s:Shared) (σ:St) (H:Hp) (Q:Bool->Hp->Prop),Inv X pins σ H s->t σ H Q->wpAny (model X.prog X.w) X.A (isTrue e X.env whole) (TP X pins σ Q) X.xe s
theorem PW.pt {X:Cx} {e:Expr} {t:TT} (h:PW X e t):PT X e t:=h _
noncomputable def PA (X:Cx) (es:List Expr) (t:TA):Prop:=
 ∀(pos:Pos) (pins:List (Addr×Obj)) (s:Shared) (σ:St) (H:Hp) (Q:List V->Hp->Prop),Inv X pins σ H s->t σ H Q->wpAny (model X.prog X.w) X.A (spliced (backTo pos (starEach es X.env))) (AP X pins σ Q) X.xe s
noncomputable def PS (X:Cx) (st:Stmt) (t:TS):Prop:=
 ∀(pins:List (Addr×Obj)) (s:Shared) (σ:St) (H:Hp) (D:Ends),Inv X pins σ H s->t D σ H->wpAny (model X.prog X.w) X.A (exec st X.env) (SP X pins D) X.xe s
noncomputable def Kf (X:Cx) (st:List Stmt) (t:TS):Prop:=
 ∀(pins:List (Addr×Obj)) (s:Shared) (σ:St) (H:Hp) (D:Ends),Inv X pins σ H s->t D σ H->wpAny (model X.prog X.w) X.A (execs st X.env) (SP X pins D) X.xe s
theorem dU {α:Type} {t:Sem α} {Q Q':α->Shared->Prop} {M:Model} {A:Around} {E:Value->Shared->Prop} {s:Shared} (h:wpAny M A t Q E s) (hQ:∀a s,Q a s->Q' a s):wpAny M A t Q' E s:=wpAny_mono h hQ fun _ _ x=>x
section
variable {X:Cx}
inductive Us (i:Nat) (σ:St) (H:Hp) (Q:VK):Prop where
 | mk:∀v,σ[i]?=some (some v)->Q v H->Us i σ H Q
noncomputable def XQ (i:Nat):TE:=fun σ H Q=>Us i σ H Q
noncomputable def tC (v:V):TE:=fun _ H Q=>Q v H
theorem VG {i:Nat} {x:Str} {pos:Pos} (hN:X.N[i]?=some x) (hv:Yx X.env.scope x) (hd:(x == ("__debug__" :Str))=false:=by decide) (hcd:(x == ("__classdict__" :Str))=false:=by decide):PE X (.Name x pos) (XQ i):=by
 intro pins s σ H Q I h
 obtain⟨v,e,h⟩:=h
 obtain⟨m,hn,hl⟩:=I.loc
 obtain⟨u,r,l⟩:=hl i x v hN e hv
 have fin:EP X pins σ Q u s:=⟨v,H,I,r,h⟩
 rcases l with ⟨hk,hm⟩ | ⟨hk,c,hc,hcell⟩
 ·exact wpAny_Name (wpAny_loadName_local I.ok.kind hk hn hm fin) hd
 ·rcases hk with hk | hk
  ·exact wpAny_Name (wpAny_loadName_cell I.ok.kind hk hc hcell fin) hd
  ·exact wpAny_Name (wpAny_loadName_free I.ok.kind hk hc hcell fin hcd) hd
theorem aq {i j pos}:PE X (.Constant (.int i) j pos) (tC (.int i)):=fun _ _ _ H _ I h=>wpAny_Constant_int ⟨.int i,H,I.tok _,⟨_,rfl⟩,h⟩
theorem j0 {b j pos}:PE X (.Constant (.bool b) j pos) (tC (.bl b)):=fun _ _ _ H _ I h=>Constant_bool ⟨.bl b,H,I,rfl,h⟩
theorem lG {j pos}:PE X (.Constant .none j pos) (tC .non):=fun _ _ _ H _ I h=>Constant_none ⟨.non,H,I,rfl,h⟩
theorem bh {x j pos}:PE X (.Constant (.str x) j pos) (tC (.str x)):=fun _ _ _ H _ I h=>Calls.Constant_str ⟨.str x,H,I.tok _,⟨_,rfl⟩,h⟩
noncomputable def Gl (X:Cx) (x:Str):Prop:=X.env.kindOf x=some .globalImplicit
theorem Hg {E:Value->Shared->Prop} {pins:List (Addr×Obj)} {s:Shared} {σ:St} {H:Hp} {x:Str} {u:Value} {pos:Pos} {Q:Value->Shared->Prop} (I:Inv X pins σ H s) (hg:Gl X x) (hm:X.mg x=some u) (h:Q u s)
  (hd:(x == ("__debug__" :Str))=false:=by decide):wpAny (model X.prog X.w) X.A (eval (.Name x pos) X.env) Q E s:=
 Calls.Name_function_global I.ok.kind hg (Calls.loadGlobal_global (by rw [I.ok.glob];exact I.mod.glob.keeps I.bk) hm h) hd
theorem CG {E:Value->Shared->Prop} {pins:List (Addr×Obj)} {s:Shared} {σ:St} {H:Hp} {x:Str} {u:Value} {pos:Pos} {Q:Value->Shared->Prop} (I:Inv X pins σ H s) (hg:Gl X x) (hm:X.mg x=none) (hv:bootBuiltins x=some u) (h:Q u s)
  (hn:x≠ "__name__" :=by decide) (hd:(x == ("__debug__" :Str))=false:=by decide):wpAny (model X.prog X.w) X.A (eval (.Name x pos) X.env) Q E s:=by
 obtain⟨mb,h1,h2⟩:=I.mod.blt
 exact Calls.Name_function_global I.ok.kind hg (Calls.loadGlobal_builtin (by rw [I.ok.glob];exact I.mod.glob.keeps I.bk) hm (by rw [I.ok.blt];exact h1.keeps I.bk) ((h2 x hn).trans hv) h) hd
theorem Il {x:Str} {v:V} {u:Value} {pos:Pos} (hg:Gl X x) (hm:X.mg x=some u) (r:RelV v u) (hd:(x == ("__debug__" :Str))=false:=by decide):PE X (.Name x pos) (tC v):=
 fun _ _ _ H _ I h=>Hg I hg hm ⟨v,H,I,r,h⟩ hd
theorem Tq {x:Str} {v:V} {u:Value} {pos:Pos} (hg:Gl X x) (hm:X.mg x=none) (hv:bootBuiltins x=some u) (r:RelV v u) (hn:x≠ "__name__" :=by decide) (hd:(x == ("__debug__" :Str))=false:=by decide):PE X (.Name x pos) (tC v):=
 fun _ _ _ H _ I h=>CG I hg hm hv ⟨v,H,I,r,h⟩ hn hd
variable {a b:Expr} {ta tb:TE} {pos:Pos}
noncomputable def PC (X:Cx) (op:CmpOp) (a b:Expr) (t:TE):Prop:=
 ∀(pins:List (Addr×Obj)) (s:Shared) (σ:St) (H:Hp) (Q:VK),Inv X pins σ H s->t σ H Q->
  wpAny (model X.prog X.w) X.A (eval a X.env) (fun v s₁=>wpAny (model X.prog X.w) X.A (eval b X.env) (fun u s₂=>wpAny (model X.prog X.w) X.A (compareOp op v u) (EP X pins σ Q) X.xe s₂) X.xe s₁) X.xe s
theorem JF (b:Expr) {op:CmpOp} (h:op≠.In) (h2:op≠.NotIn):behindInMarks op b=false:=by
 have e1:(op == CmpOp.In)=false:=by cases op <;> first | rfl | exact absurd rfl h
 have e2:(op == CmpOp.NotIn)=false:=by cases op <;> first | rfl | exact absurd rfl h2
 cases b <;> simp [behindInMarks,e1,e2]
noncomputable def YQ (ta:TE):TE:=fun σ H Q=>ta σ H fun x H1=>Q (.bl (decide (x=.non))) H1
noncomputable def WQ (ta:TE):TE:=fun σ H Q=>ta σ H fun x H1=>Q (.bl (!decide (x=.non))) H1
theorem RelV.none_iff {x:V} {v:Value} (r:RelV x v):(v == Value.none)=decide (x=.non):=by
 cases x with
 | non=>cases r;rfl
 | bl _=>cases r;rfl
 | int _=>obtain⟨t,rfl⟩:=r;rfl
 | str _=>obtain⟨t,rfl⟩:=r;rfl
 | byt _=>obtain⟨t,rfl⟩:=r;rfl
 | flt _=>obtain⟨t,rfl⟩:=r;rfl
 | ref _=>cases r;rfl
 | ty _=>cases r;rfl
theorem vC {j pos'} (ha:PE X a ta):PC X .Is a (.Constant .none j pos') (YQ ta):=by
 intro pins s σ H Q I h
 refine dU (ha pins s σ H _ I h) fun v s1 hpt=>?_
 obtain⟨x,H1,I1,r1,q1⟩:=hpt
 exact Constant_none (is_none_gen ⟨.bl _,H1,I1,by rw [r1.none_iff];rfl,q1⟩)
theorem vW {j pos'} (ha:PE X a ta):PC X .IsNot a (.Constant .none j pos') (WQ ta):=by
 intro pins s σ H Q I h
 refine dU (ha pins s σ H _ I h) fun v s1 hpt=>?_
 obtain⟨x,H1,I1,r1,q1⟩:=hpt
 exact Constant_none (isnot_none_gen ⟨.bl _,H1,I1,by rw [r1.none_iff];rfl,q1⟩)
inductive Zw (Q:Bool->Hp->Prop) (x:V) (H1:Hp):Prop where
 | mk:∀c,x=.bl c->Q c H1->Zw Q x H1
noncomputable def tB (t:TE):TT:=fun σ H Q=>t σ H fun x H1=>Zw Q x H1
theorem Ed {op:CmpOp} {t:TE} (h:PC X op a b t) (h1:behindInMarks op b=false:=by first | exact JF _ (by decide) (by decide) | rfl):PE X (.Compare a [op] [b] pos) t:=fun pins s σ H Q I hw=>wpAny_Compare1 (h pins s σ H Q I hw) h1
theorem gj {op:CmpOp} {t:TE} (h:PC X op a b t) (h1:behindInMarks op b=false:=by first | exact JF _ (by decide) (by decide) | rfl):PT X (.Compare a [op] [b] pos) (tB t):=by
 intro pins s σ H Q I hw
 refine wpAny_isTrue_Compare1 (dU (h pins s σ H _ I hw) fun v s1 h1=>dU h1 fun u s2 h2=>dU h2 fun c s3 hpt=>?_) h1
 obtain⟨x,H1,I1,r1,q1⟩:=hpt
 obtain⟨d,rfl,q⟩:=q1
 cases r1
 exact wpAny_truthy_bool ⟨H1,I1,q⟩
theorem jj {e:Expr} {t:TE} (h:PE X e t) (he:∀whole,isTrue e X.env whole=(do let v <-whole;standAt e.pos;holding [v] (truthy v)):=by intro _;rfl):PT X e (tB t):=by
 intro pins s σ H Q I hw
 refine isTrue_plain (dU (h pins s σ H _ I hw) fun v s1 ⟨x,H1,I1,r1,q1⟩=>?_) (he _)
 obtain⟨d,rfl,q⟩:=q1
 cases r1
 exact wpAny_truthy_bool ⟨H1,I1,q⟩
variable {tA tB':TT} {rest:List Expr}
noncomputable def Zf (t u:TT):TT:=fun σ H Q=>t σ H fun c H1=>if c=true then u σ H1 Q else Q false H1
noncomputable def tOr (t u:TT):TT:=fun σ H Q=>t σ H fun c H1=>if c=true then Q true H1 else u σ H1 Q
noncomputable def YH (t:TT):TT:=fun σ H Q=>t σ H fun c H1=>Q (!c) H1
theorem yq (ha:PT X a tA):PW X (.BoolOp .And [a] pos) tA:=by
 intro wh pins s σ H Q I h
 refine isTrue_and (dU (ha pins s σ H Q I h) fun c s1 e=>?_)
 cases c with
 | true=>exact isTrue_and_nil e
 | false=>exact e
theorem qK (ha:PT X a tA):PW X (.BoolOp .Or [a] pos) tA:=by
 intro wh pins s σ H Q I h
 refine isTrue_or (dU (ha pins s σ H Q I h) fun c s1 e=>?_)
 cases c with
 | false=>exact isTrue_or_nil e
 | true=>exact e
theorem zP (ha:PT X a tA) (hb:PW X (.BoolOp .And (b:: rest) pos) tB'):PW X (.BoolOp .And (a:: b:: rest) pos) (Zf tA tB'):=by
 intro wh pins s σ H Q I h
 refine isTrue_and (dU (ha pins s σ H _ I h) fun c s1 hpt=>?_)
 obtain⟨H1,I1,q1⟩:=hpt
 cases c with
 | true=>exact hb wh pins s1 σ H1 Q I1 q1
 | false=>exact⟨H1,I1,q1⟩
theorem wM (ha:PT X a tA) (hb:PW X (.BoolOp .Or (b:: rest) pos) tB'):PW X (.BoolOp .Or (a:: b:: rest) pos) (tOr tA tB'):=by
 intro wh pins s σ H Q I h
 refine isTrue_or (dU (ha pins s σ H _ I h) fun c s1 hpt=>?_)
 obtain⟨H1,I1,q1⟩:=hpt
 cases c with
 | true=>exact⟨H1,I1,q1⟩
 | false=>exact hb wh pins s1 σ H1 Q I1 q1
theorem jO (ha:PT X a tA):PT X (.UnaryOp .Not a pos) (YH tA):=by
 intro pins s σ H Q I h
 exact isTrue_not (ha pins s σ H (fun c H1=>Q (!c) H1) I h)
inductive Qq (tb:TE) (σ:St) (Q:VK) (x:V) (H1:Hp):Prop where
 | mk:∀c,x=.bl c->(if c=true then tb σ H1 Q else Q (.bl false) H1)->Qq tb σ Q x H1
noncomputable def Yg (ta tb:TE):TE:=fun σ H Q=>ta σ H fun x H1=>Qq tb σ Q x H1
inductive U3 (tb:TE) (σ:St) (Q:VK) (x:V) (H1:Hp):Prop where
 | mk:∀c,x=.bl c->(if c=true then Q (.bl true) H1 else tb σ H1 Q)->U3 tb σ Q x H1
noncomputable def Ze (ta tb:TE):TE:=fun σ H Q=>ta σ H fun x H1=>U3 tb σ Q x H1
inductive Sd (Q:VK) (x:V) (H1:Hp):Prop where
 | mk:∀c,x=.bl c->Q (.bl (!c)) H1->Sd Q x H1
noncomputable def X3 (ta:TE):TE:=fun σ H Q=>ta σ H fun x H1=>Sd Q x H1
theorem zG {op} {t:TE} (h:PE X a t):PE X (.BoolOp op [a] pos) t:=fun pins s σ H Q I hw=>BoolOp_one (h pins s σ H Q I hw)
theorem zT (ha:PE X a ta) (hb:PE X (.BoolOp .And (b:: rest) pos) tb):PE X (.BoolOp .And (a:: b:: rest) pos) (Yg ta tb):=by
 intro pins s σ H Q I h
 refine BoolOp_and (dU (ha pins s σ H _ I h) fun v s1 hpt=>?_)
 obtain⟨x,H1,I1,r1,q1⟩:=hpt
 obtain⟨c,rfl,q1⟩:=q1
 cases r1
 refine wpAny_truthy_bool ?_
 cases c with
 | true=>exact hb pins s1 σ H1 Q I1 q1
 | false=>exact⟨.bl false,H1,I1,rfl,q1⟩
theorem XN (ha:PE X a ta) (hb:PE X (.BoolOp .Or (b:: rest) pos) tb):PE X (.BoolOp .Or (a:: b:: rest) pos) (Ze ta tb):=by
 intro pins s σ H Q I h
 refine BoolOp_or (dU (ha pins s σ H _ I h) fun v s1 hpt=>?_)
 obtain⟨x,H1,I1,r1,q1⟩:=hpt
 obtain⟨c,rfl,q1⟩:=q1
 cases r1
 refine wpAny_truthy_bool ?_
 cases c with
 | false=>exact hb pins s1 σ H1 Q I1 q1
 | true=>exact⟨.bl true,H1,I1,rfl,q1⟩
theorem Wu (ha:PE X a ta):PE X (.UnaryOp .Not a pos) (X3 ta):=by
 intro pins s σ H Q I h
 refine UnaryOp_ (dU (ha pins s σ H _ I h) fun v s1 hpt=>?_)
 obtain⟨x,H1,I1,r1,q1⟩:=hpt
 obtain⟨c,rfl,q1⟩:=q1
 cases r1
 exact not_of (wpAny_truthy_bool ⟨.bl (!c),H1,I1,rfl,q1⟩)
noncomputable def tIf (t:TT) (ta tb:TE):TE:=fun σ H Q=>t σ H fun c H1=>if c=true then ta σ H1 Q else tb σ H1 Q
theorem ur {c:Expr} (hc:PT X c tA) (ha:PE X a ta) (hb:PE X b tb):PE X (.IfExp c a b pos) (tIf tA ta tb):=by
 intro pins s σ H Q I h
 refine wpAny_IfExp (dU (hc pins s σ H _ I h) fun d s1 hpt=>?_)
 obtain⟨H1,I1,q1⟩:=hpt
 cases d with
 | true=>exact ha pins s1 σ H1 Q I1 q1
 | false=>exact hb pins s1 σ H1 Q I1 q1
end
noncomputable def bL (K:PySem.W.Frag) (H:Hp) (a:Addr) (xs:List V):Prop:=
 Rd H a (.lst xs)∨
  ∃(o:Obj) (its:Array Value) (n:Nat),K.lookup a=some o/\o.cls=.type "list" /\o.dict=none/\o.data=.seq its n/\its.size<=sizeLine/\Vals xs its.toList
noncomputable def eN (K:PySem.W.Frag) (H:Hp) (a:Addr) (xs:List V):Prop:=
 Rd H a (.tup xs)∨
  ∃(o:Obj) (its:Array Value) (n:Nat),K.lookup a=some o/\o.cls=.type "tuple" /\o.data=.seq its n/\its.size<=sizeLine/\Vals xs its.toList
noncomputable def Yy:Value->Option V
 | .none=>some .non
 | .bool b=>some (.bl b)
 | .int i _=>some (.int i)
 | .str x _=>some (.str x)
 | .bytes b _=>some (.byt b)
 | .float b _=>some (.flt b)
 | .ref a=>some (.ref a)
 | .type n=>some (.ty n)
 | _=>none
theorem RelV.abs {x:V} {u:Value} (r:RelV x u):Yy u=some x:=by
 cases x with
 | non=>cases r;rfl
 | bl _=>cases r;rfl
 | int _=>obtain⟨t,rfl⟩:=r;rfl
 | str _=>obtain⟨t,rfl⟩:=r;rfl
 | byt _=>obtain⟨t,rfl⟩:=r;rfl
 | flt _=>obtain⟨t,rfl⟩:=r;rfl
 | ref _=>cases r;rfl
 | ty _=>cases r;rfl
theorem RelV.inj {x y:V} {u:Value} (r:RelV x u) (q:RelV y u):x=y:=Option.some.inj (r.abs.symm.trans q.abs)
theorem Vals.inj:∀{xs ys:List V} {us:List Value},Vals xs us->Vals ys us->xs=ys
 | _,_,_,.nil,.nil=>rfl
 | _,_,_,.cons r t,.cons r' t'=>by rw [r.inj r',Vals.inj t t']
section
variable {X:Cx} {pins:List (Addr×Obj)} {σ:St} {H:Hp} {s:Shared} {a:Addr} {xs ys:List V}
theorem bL.of {K:PySem.W.Frag} (h:H a=some (.lst xs)):bL K H a xs:=.inl (.inl h)
theorem eN.of {K:PySem.W.Frag} (h:H a=some (.tup xs)):eN K H a xs:=.inl (.inl h)
theorem Inv.list (I:Inv X pins σ H s) (h:bL X.K H a xs):∃its:List Value,Vals xs its/\PlainL s.heap a its.toArray/\xs.length<=sizeLine:=by
 rcases h with h | ⟨o,its,n,hk,hc,hd,hs,hz,r⟩
 ·obtain⟨z,its,n,r,e⟩:=h.ok I.hok
  exact⟨its,r,⟨_,n,e,rfl,rfl,rfl⟩,z⟩
 ·refine⟨its.toList,r,⟨o,n,I.kIn a o hk,hc,hd,by simpa using hs⟩,?_⟩
  have e:=r.length
  simp only [Array.length_toList] at e
  omega
theorem Inv.tuple (I:Inv X pins σ H s) (h:eN X.K H a xs):∃its:List Value,Vals xs its/\IsTup s.heap a its.toArray/\xs.length<=sizeLine:=by
 rcases h with h | ⟨o,its,n,hk,hc,hs,hz,r⟩
 ·obtain⟨z,its,r,p⟩:=h.ok I.hok
  exact⟨its,r,p,z⟩
 ·refine⟨its.toList,r,⟨o,I.kIn a o hk,hc,n,by simpa using hs⟩,?_⟩
  have e:=r.length
  simp only [Array.length_toList] at e
  omega
theorem Inv.list_inj (I:Inv X pins σ H s) (h:bL X.K H a xs) (h':bL X.K H a ys):xs=ys:=by
 obtain⟨its,r,⟨o,n,e,_,_,d⟩,_⟩:=I.list h
 obtain⟨its',r',⟨o',n',e',_,_,d'⟩,_⟩:=I.list h'
 rw [e] at e';cases e'
 rw [d] at d'
 injection d' with d1 _
 have:its=its':=by simpa using congrArg Array.toList d1
 subst this
 exact r.inj r'
theorem Inv.tuple_inj (I:Inv X pins σ H s) (h:eN X.K H a xs) (h':eN X.K H a ys):xs=ys:=by
 obtain⟨its,r,⟨o,e,_,n,d⟩,_⟩:=I.tuple h
 obtain⟨its',r',⟨o',e',_,n',d'⟩,_⟩:=I.tuple h'
 rw [e] at e';cases e'
 rw [d] at d'
 injection d' with d1 _
 have:its=its':=by simpa using congrArg Array.toList d1
 subst this
 exact r.inj r'
end
noncomputable abbrev Cx.wish (X:Cx) (E:Value->Shared->Prop):Cx:={ X with xe:=E }
noncomputable abbrev Cx.nox (X:Cx):Cx:=X.wish fun _ _=>False
theorem Cx.Ok.wish {X:Cx} (ok:X.Ok) (E:Value->Shared->Prop):(X.wish E).Ok:=
 ⟨ok.mod,ok.kind,ok.glob,ok.blt,ok.above,ok.inj,ok.has,ok.cab,ok.hd,ok.frames,ok.stk,ok.exf,ok.bs,ok.bsz,ok.noex,ok.exfs,ok.funs,ok.frf⟩
theorem Cx.Ok.unwish {X:Cx} {E:Value->Shared->Prop} (ok:(X.wish E).Ok):X.Ok:=
 ⟨ok.mod,ok.kind,ok.glob,ok.blt,ok.above,ok.inj,ok.has,ok.cab,ok.hd,ok.frames,ok.stk,ok.exf,ok.bs,ok.bsz,ok.noex,ok.exfs,ok.funs,ok.frf⟩
section
variable {X:Cx} {pins:List (Addr×Obj)} {σ:St} {H:Hp} {s:Shared} {E:Value->Shared->Prop}
theorem Inv.wish (I:Inv X pins σ H s) (E:Value->Shared->Prop):Inv (X.wish E) pins σ H s:=⟨I.ok.wish E,I.os,I.bare,I.base,I.loc,I.cell,I.free,I.freeC,I.pin,I.hok,I.len⟩
theorem Inv.unwish (I:Inv (X.wish E) pins σ H s):Inv X pins σ H s:=⟨I.ok.unwish,I.os,I.bare,I.base,I.loc,I.cell,I.free,I.freeC,I.pin,I.hok,I.len⟩
theorem SP.unwish {D:Ends} {f:Flow} {s':Shared} (h:SP (X.wish E) pins D f s'):SP X pins D f s':=by
 cases f with
 | next=>obtain⟨σ',H',I,q⟩:=h;exact⟨σ',H',I.unwish,q⟩
 | brk=>obtain⟨σ',H',I,q⟩:=h;exact⟨σ',H',I.unwish,q⟩
 | cont=>obtain⟨σ',H',I,q⟩:=h;exact⟨σ',H',I.unwish,q⟩
 | ret u=>obtain⟨v,σ',H',I,r,q⟩:=h;exact⟨v,σ',H',I.unwish,r,q⟩
theorem Kf.nox {st:List Stmt} {t:TS} (h:Kf X.nox st t):Kf X st t:=fun pins s σ H D I hw=>
 wpAny_mono (h pins s σ H D (I.wish _) hw) (fun _ _ q=>q.unwish) fun _ _ z=>False.elim z
end
section
variable {X:Cx} {st:Stmt} {rest:List Stmt} {t u:TS} {e:Expr} {te:TE} {pos:Pos}
noncomputable def Ye:TS:=fun D σ H=>D.nx σ H
noncomputable def xR (t u:TS):TS:=fun D σ H=>t { D with nx:=u D } σ H
theorem aY:Kf X [] Ye:=fun _ _ σ H _ I h=>wpAny_execs_nil ⟨σ,H,I,h⟩
theorem az (h1:PS X st t) (h2:Kf X rest u):Kf X (st:: rest) (xR t u):=by
 intro pins s σ H D I h
 refine wpAny_execs_cons (dU (h1 pins s σ H { D with nx:=u D } I h) fun f s1 q=>?_)
 cases f with
 | next=>
  obtain⟨σ',H',I',q⟩:=q
  exact h2 pins s1 σ' H' D I' q
 | ret v=>exact q
 | brk=>exact q
 | cont=>exact q
theorem aA (h1:PS X st t):Kf X [st] t:=by
 intro pins s σ H D I h
 refine wpAny_execs_cons (dU (h1 pins s σ H D I h) fun f s1 q=>?_)
 cases f with
 | next=>exact wpAny_execs_nil q
 | ret v=>exact q
 | brk=>exact q
 | cont=>exact q
theorem Inv.quiet {pins:List (Addr×Obj)} {σ:St} {H:Hp} {s:Shared} (I:Inv X pins σ H s):interactive X.env=false:=by simp [interactive,I.ok.kind]
noncomputable def WR (te:TE):TS:=fun D σ H=>te σ H fun _ H1=>D.nx σ H1
theorem bM (he:PE X e te) (hs:swapsWith e none pos.line X.env=pure false:=by rfl):PS X (.Expr e pos) (WR te):=by
 intro pins s σ H D I h
 exact wpAny_Expr_any (dU (he pins s σ H _ I h) fun v s1 ⟨x,H1,I1,r1,q1⟩=>⟨σ,H1,I1,q1⟩) I.quiet hs
noncomputable def Yz (te:TE):TS:=fun D σ H=>te σ H D.rt
theorem aN (he:PE X e te):PS X (.Return (some e) pos) (Yz te):=by
 intro pins s σ H D I h
 exact wpAny_Return_some (dU (he pins s σ H _ I h) fun v s1 ⟨x,H1,I1,r1,q1⟩=>⟨x,σ,H1,I1,r1,q1⟩)
noncomputable def YD (c:TT) (t u:TS):TS:=fun D σ H=>c σ H fun b H1=>if b=true then t D σ H1 else u D σ H1
theorem bR {c:Expr} {a b:List Stmt} {tc:TT} (hc:PT X c tc) (ha:Kf X a t) (hb:Kf X b u):PS X (.If c a b pos) (YD tc t u):=by
 intro pins s σ H D I h
 refine wpAny_If (dU (hc pins s σ H _ I h) fun d s1 hpt=>?_)
 obtain⟨H1,I1,q1⟩:=hpt
 cases d with
 | true=>exact ha pins s1 σ H1 D I1 q1
 | false=>exact hb pins s1 σ H1 D I1 q1
noncomputable def V4:TS:=fun _ _ _=>False
theorem dY:PS X st V4:=fun _ _ _ _ _ _ h=>h.elim
end
noncomputable abbrev TG:=V->St->Hp->(St->Hp->Prop)->Prop
noncomputable abbrev Sg:=List V->St->Hp->(St->Hp->Prop)->Prop
noncomputable def PG (X:Cx) (target:Expr) (t:TG):Prop:=
 ∀(pins:List (Addr×Obj)) (s:Shared) (σ:St) (H:Hp) (v:V) (u:Value) (Q:St->Hp->Prop),Inv X pins σ H s->RelV v u->t v σ H Q->
  wpAny (model X.prog X.w) X.A (assign target X.env u) (fun _ s'=>∃σ' H',Inv X pins σ' H' s'/\Q σ' H') X.xe s
noncomputable def Xp (X:Cx) (ts:List Expr) (t:Sg):Prop:=
 ∀(pins:List (Addr×Obj)) (s:Shared) (σ:St) (H:Hp) (vs:List V) (us:List Value) (Q:St->Hp->Prop),Inv X pins σ H s->Vals vs us->t vs σ H Q->
  wpAny (model X.prog X.w) X.A (assignInOrder ((assignEach ts X.env).map (·.2)) us) (fun _ s'=>∃σ' H',Inv X pins σ' H' s'/\Q σ' H') X.xe s
section
variable {X:Cx} {pos:Pos}
noncomputable def wN (i:Nat):TG:=fun v σ H Q=>Q (σ.set i (some v)) H
theorem iy {i:Nat} {x:Str} (hN:X.N.Nodup) (hi:X.N[i]?=some x) (hx:Loc X.env.scope x) (hf:X.fn x=true∨X.env.scope.names.lookup x=some .local:=by first | exact .inl rfl | exact .inr rfl | assumption):PG X (.Name x pos) (wN i):=by
 intro pins s σ H v u Q I r h
 exact wpAny_assign_Name (JD I hN hi hx r (fun s' I'=>⟨_,H,I',h⟩) hf)
noncomputable def Zn:Sg:=fun vs σ H Q=>vs=[]/\Q σ H
inductive RM (t:TG) (u:Sg) (vs:List V) (σ:St) (H:Hp) (Q:St->Hp->Prop):Prop where
 | mk:∀v r,vs=v:: r->(t v σ H fun σ' H'=>u r σ' H' Q)->RM t u vs σ H Q
noncomputable def Yh (t:TG) (u:Sg):Sg:=fun vs σ H Q=>RM t u vs σ H Q
theorem fc:Xp X [] Zn:=by
 intro pins s σ H vs us Q I r h
 obtain⟨e,h⟩:=h
 subst e
 cases r
 exact assignInOrder_nil ⟨σ,H,I,h⟩
theorem bD {e:Expr} {es:List Expr} {t:TG} {u:Sg} (h1:PG X e t) (h2:Xp X es u)
  (hs:(assignEach (e:: es) X.env).map (·.2)=assign e X.env:: (assignEach es X.env).map (·.2):=by rfl):Xp X (e:: es) (Yh t u):=by
 intro pins s σ H vs us Q I r h
 obtain⟨v,vr,e1,h⟩:=h
 subst e1
 cases r with
 | cons r rr=>
  rw [hs]
  refine assignInOrder_cons (dU (h1 pins s σ H _ _ _ I r h) fun _ s1 hpt=>?_)
  obtain⟨σ1,H1,I1,q1⟩:=hpt
  exact h2 pins s1 σ1 H1 _ _ Q I1 rr q1
inductive Uw (K:PySem.W.Frag) (n:Nat) (t:Sg) (v:V) (σ:St) (H:Hp) (Q:St->Hp->Prop):Prop where
 | mk:∀a xs,v=.ref a->eN K H a xs->xs.length=n->t xs σ H Q->Uw K n t v σ H Q
noncomputable def Xk (K:PySem.W.Frag) (n:Nat) (t:Sg):TG:=fun v σ H Q=>Uw K n t v σ H Q
theorem jJ {es:List Expr} {k:Nat} {t:Sg} {n:Nat} (hc:X.calm=true) (h:Xp X es t)
  (hn:(assignEach es X.env).length=n:=by rfl) (hst:(assignEach es X.env).findIdx? (·.1)=none:=by rfl):PG X (.Tuple es k pos) (Xk X.K n t):=by
 intro pins s σ H v u Q I r hw
 obtain⟨a,xs,e1,hq,hl,hw⟩:=hw
 subst e1
 cases r
 obtain⟨its,rv,ht,hz⟩:=I.tuple hq
 refine assign_Tuple_tuple (I.ok.hd hc) ht (by simp [hn,<-hl,rv.length]) hst fun h' hx=>?_
 have I1:Inv X pins σ H { s with heap:=h' }:=I.kept (t':=s.toks) fun b o e=>hx b o (Nat.ne_of_lt (Heap.lt_size e)) e
 exact h pins _ σ H xs _ Q I1 (by simpa using rv) hw
noncomputable def Oj (te:TE) (g:TG):TS:=fun D σ H=>te σ H fun x H1=>g x σ H1 D.nx
theorem Ks {tg e:Expr} {te:TE} {g:TG} (he:PE X e te) (hg:PG X tg g) (hs:swapsWithSole [tg] e pos.line X.env=pure false:=by rfl) (hw:swappedStores [tg] e X.env=pure none:=by rfl)
  (h1:(assignEach [tg] X.env).map (·.2)=[assign tg X.env]:=by rfl):PS X (.Assign [tg] e pos) (Oj te g):=by
 intro pins s σ H D I h
 refine wpAny_Assign_stores (dU (he pins s σ H _ I h) fun v s1 hpt=>?_) hs hw
 obtain⟨x,H1,I1,r1,q1⟩:=hpt
 rw [h1]
 exact dU (hg pins s1 σ H1 x v _ I1 r1 q1) fun _ s2 q=>q
theorem QS {i:Nat} {x:Str} {e:Expr} {te:TE} {pos':Pos} (hN:X.N.Nodup) (hi:X.N[i]?=some x) (hx:Loc X.env.scope x) (he:PE X e te) (hs:swapsWith e (some (.Name x pos')) pos.line X.env=pure false:=by rfl) (hf:X.fn x=true∨X.env.scope.names.lookup x=some .local:=by first | exact .inl rfl | exact .inr rfl | assumption):
  PS X (.Assign [.Name x pos'] e pos) (Oj te (wN i)):=by
 intro pins s σ H D I h
 refine wpAny_Assign_Name (dU (he pins s σ H _ I h) fun v s1 hpt=>?_) hs
 obtain⟨y,H1,I1,r1,q1⟩:=hpt
 exact JD I1 hN hi hx r1 (fun s2 I2=>⟨_,H1,I2,q1⟩) hf
end
section
variable {X:Cx} {pos:Pos}
inductive Nf (c:TT) (tb:TS) (D:Ends) (σ:St) (H:Hp):Prop where
 | mk:∀W:Nat->St->Hp->Prop,((∃m,W m σ H))->(∀m σ H,W m σ H->
 c σ H fun b H1=>if b=true then ∃N:St->Hp->Prop,(∀σ' H',N σ' H'->∃m',m' <m/\W m' σ' H')/\tb { D with nx:=N,ct:=N,bk:=D.nx } σ H1 else D.nx σ H1)->Nf c tb D σ H
noncomputable def Qn (c:TT) (tb:TS):TS:=fun D σ H=>Nf c tb D σ H
theorem JG {c:Expr} {body:List Stmt} {tc:TT} {tb:TS} (hp:PassesOwn (model X.prog X.w) X.A X.env X.xe) (hc:PT X c tc) (hb:Kf X body tb):PS X (.While c body [] pos) (Qn tc tb):=by
 intro pins s σ H D I h
 obtain⟨W,⟨m0,w0⟩,turn⟩:=h
 refine wpAny_While (codeAny_whileLoop (fun n s'=>∃σ' H',Inv X pins σ' H' s'/\W n σ' H') ?_ m0 ⟨σ,H,I,w0⟩)
 rintro n s1 ⟨σ1,H1,I1,w1⟩
 refine wpAny_passesOwn hp (dU (hc pins s1 σ1 H1 _ I1 (turn n σ1 H1 w1)) fun b s2 hpt=>?_)
 obtain⟨H2,I2,q2⟩:=hpt
 cases b with
 | true=>
  obtain⟨N,hN,q2⟩:=q2
  rw [if_pos rfl]
  refine wpAny_passesOwn hp (dU (hb pins s2 σ1 H2 _ I2 q2) fun f s3 q3=>?_)
  cases f with
  | next=>
   obtain⟨σ3,H3,I3,n3⟩:=q3
   obtain⟨m',hm,w3⟩:=hN σ3 H3 n3
   exact⟨m',hm,σ3,H3,I3,w3⟩
  | cont=>
   obtain⟨σ3,H3,I3,n3⟩:=q3
   obtain⟨m',hm,w3⟩:=hN σ3 H3 n3
   exact⟨m',hm,σ3,H3,I3,w3⟩
  | brk=>exact q3
  | ret v=>exact q3
 | false=>
  rw [if_neg Bool.false_ne_true]
  exact wpAny_execs_nil ⟨σ1,H2,I2,q2⟩
end
structure It where
 go:Nat->Hp->Prop
 yld:Nat->Hp->V->Hp->Prop
 stop:Nat->Hp->Prop
noncomputable def IV (X:Cx) (pins:List (Addr×Obj)) (H:Hp) (b:Addr):Prop:=
 H b=none/\b≠X.env.locals/\b∉X.fs/\(b∈X.ex∨X.s₀.heap.objs.size<=b)/\(∀x c,X.env.cells.lookup x=some c->c≠b)/\∀p∈X.pn ++ pins,p.1≠b
theorem Inv.fpOk {X:Cx} {pins:List (Addr×Obj)} {σ:St} {H H':Hp} {s:Shared} {b:Addr} (I:Inv X pins σ H s) (hb:s.heap.objs.size<=b) (hn:H' b=none):IV X pins H' b:=by
 refine⟨hn,Nat.ne_of_gt (Nat.lt_of_lt_of_le I.lt hb),I.nofs hb,.inr (Nat.le_trans I.sz hb),fun x c e z=>?_,fun p hp z=>?_⟩
 ·obtain⟨v,q⟩:=I.cell x c e
  exact absurd (Nat.lt_of_lt_of_le q.lt (by rw [z];exact hb)) (Nat.lt_irrefl _)
 ·exact absurd (Nat.lt_of_lt_of_le (Heap.lt_size (I.pin p hp).1) (by rw [z];exact hb)) (Nat.lt_irrefl _)
structure Turn (P:Program) (w:World) (K:PySem.W.Frag) (tg:Expr) (J:It) (fp:List Addr) (it:Addr) (tn:Nat->Heap->Prop):Prop where
 mem:it∈fp
 obj:∀i h,tn i h->∀b∈fp,∃o,h.get? b=some o/\∀v,o.data≠.cell v
 keep:∀i h h',tn i h->(∀b∈fp,∀o,h.get? b=some o->h'.get? b=some o)->tn i h'
 item:∀(X:Cx),X.prog=P->X.w=w->X.K=K->X.calm=true->∀(i:Nat) (pins:List (Addr×Obj)) (s:Shared) (σ:St) (H:Hp) (E:Value->Shared->Prop),Inv X pins σ H s->(∀b∈fp,IV X pins H b)->tn i s.heap->J.go i H->
  wpAny (model P w) X.A (pyNext (.ref it)) (fun r s1=>∃u,r=some u/\
   wpAny (model P w) X.A (letOwnedTupleGo tg (.ref it) u) (fun _ s2=>∃x H',Inv X pins σ H' s2/\RelV x u/\J.yld i H x H'/\tn (i+1) s2.heap/\∀b∈fp,H' b=none) E s1) E s
 done:∀(X:Cx),X.prog=P->X.w=w->X.K=K->X.calm=true->∀(i:Nat) (pins:List (Addr×Obj)) (s:Shared) (σ:St) (H:Hp) (E:Value->Shared->Prop),Inv X pins σ H s->(∀b∈fp,IV X pins H b)->tn i s.heap->J.stop i H->
  wpAny (model P w) X.A (pyNext (.ref it)) (fun r s1=>r=none/\Inv X pins σ H s1) E s
 self:∀(A:Around) (i:Nat) (s:Shared) (Q:Value->Shared->Prop) (E:Value->Shared->Prop),tn i s.heap->Q (.ref it) s->wpAny (model P w) A (pyIter (.ref it)) Q E s
noncomputable abbrev TI:=St->Hp->(It->Hp->Prop)->Prop
noncomputable def PIE (X:Cx) (pins:List (Addr×Obj)) (σ:St) (tg:Expr) (R:It->Hp->Prop) (itv:Value) (s2:Shared):Prop:=
 ∃(it:Addr) (fp:List Addr) (tn:Nat->Heap->Prop) (J:It) (H':Hp),itv=.ref it/\Inv X pins σ H' s2/\Turn X.prog X.w X.K tg J fp it tn/\tn 0 s2.heap/\(∀b∈fp,IV X pins H' b)/\R J H'
noncomputable def PI (X:Cx) (tg iter:Expr) (wi:TI):Prop:=
 ∀(pins:List (Addr×Obj)) (s:Shared) (σ:St) (H:Hp) (R:It->Hp->Prop),Inv X pins σ H s->wi σ H R->
  wpAny (model X.prog X.w) X.A (eval iter X.env) (fun v s1=>wpAny (model X.prog X.w) X.A (pyIter v) (PIE X pins σ tg R) X.xe s1) X.xe s
theorem Jp {M:Model} {A:Around} {E:Value->Shared->Prop} {s:Shared} {tg:Expr} {it:Addr} {u:Value} {o:Obj} {n:String} {vs:Array Value} {Q:Unit->Shared->Prop} (ho:s.heap.get? it=some o) (hc:o.cls=.type n) (hd:o.data=.fields vs)
  (hn:["enumerate", "zip", "dict_itemiterator", "dict_reverseitemiterator", "odict_iterator", "itertools.zip_longest", "itertools.pairwise"].contains n=false) (hQ:Q () s):wpAny M A (letOwnedTupleGo tg (.ref it) u) Q E s:=by
 unfold letOwnedTupleGo
 cases tg <;> first
  | exact wpAny_pure hQ
  | (cases u <;> first
    | exact wpAny_pure hQ
    | (refine wpAny_bind (wpAny_load ho ?_)
       rw [hc,hd]
       show wpAny M A (if (["enumerate", "zip", "dict_itemiterator", "dict_reverseitemiterator", "odict_iterator", "itertools.zip_longest", "itertools.pairwise"].contains n && vs[0]? == some (rawInt _))=true then _ else _) Q E s
       rw [if_neg (by intro h;rw [hn,Bool.false_and] at h;cases h)]
       exact wpAny_pure hQ))
noncomputable def Wz (K:PySem.W.Frag) (a:Addr):It:=
 ⟨fun i H=>∃xs x,bL K H a xs/\xs[i]?=some x,fun i H x H'=>H'=H/\∀xs,bL K H a xs->xs[i]?=some x,fun i H=>∃xs,bL K H a xs/\xs.length<=i⟩
noncomputable def WK (K:PySem.W.Frag) (a:Addr):It:=
 ⟨fun i H=>∃xs x,eN K H a xs/\xs[i]?=some x,fun i H x H'=>H'=H/\∀xs,eN K H a xs->xs[i]?=some x,fun i H=>∃xs,eN K H a xs/\xs.length<=i⟩
noncomputable def Wf (lo:Int) (n:Nat):It:=⟨fun i _=>i <n,fun i H x H'=>H'=H/\x=.int (lo+i),fun i _=>n<=i⟩
theorem O5 {P:Program} {w:World} {K:PySem.W.Frag} {tg:Expr} (a it:Addr):Turn P w K tg (Wz K a) [it] it (fun i h=>h.IsListIter it a i) where
 mem:=by simp
 obj:=fun i h st b hb=>by
  have e:b=it:=by simpa using hb
  subst e
  obtain⟨o,e,c,d⟩:=st
  exact⟨o,e,fun v z=>by rw [d] at z;cases z⟩
 keep:=fun i h h' st k=>st.at fun o e=>k it (by simp) o e
 item:=by
  intro X hP hw hK hc i pins s σ H E I hf st hg
  subst hP hw hK
  obtain⟨xs,x,hq,hx⟩:=hg
  obtain⟨its,rv,p,hz⟩:=I.list hq
  obtain⟨u,hu,ru⟩:=rv.get hx
  obtain⟨f0,f1,f2,f3,f4,f5⟩:=hf it (by simp)
  refine wpAny_pyNext_list_item st p.isList (x:=u) (by simpa using hu) fun h' st' sb=>?_
  have I1:Inv X pins σ H { s with heap:=h' }:=I.turned (t':=s.toks) (fun b o hb e=>(sb.2 b hb).trans e) f0 f1 f3 f4 f5
  obtain⟨o,e,c,d⟩:=id st'
  exact⟨u,rfl,Jp (s:={ s with heap:=h' }) e c d (by decide) ⟨x,H,I1,ru,⟨rfl,fun ys hy=>by rw [I.list_inj hy hq];exact hx⟩,st',fun b hb=>(hf b hb).1⟩⟩
 done:=by
  intro X hP hw hK hc i pins s σ H E I hf st hg
  subst hP hw hK
  obtain⟨xs,hq,hx⟩:=hg
  obtain⟨its,rv,p,hz⟩:=I.list hq
  obtain⟨f0,f1,f2,f3,f4,f5⟩:=hf it (by simp)
  have hl:=rv.length
  exact wpAny_pyNext_list_end (I.ok.hd hc) st p.isList (by simp;omega) fun h' eb=>⟨rfl,I.turned (t':=s.toks) (fun b o hb e=>eb b o hb e) f0 f1 f3 f4 f5⟩
 self:=fun _ _ _ _ _ st h=>wpAny_pyIter_listiter st h
theorem Ky {P:Program} {w:World} {K:PySem.W.Frag} {tg:Expr} (a it:Addr):Turn P w K tg (WK K a) [it] it (fun i h=>h.IsTupleIter it a i) where
 mem:=by simp
 obj:=fun i h st b hb=>by
  have e:b=it:=by simpa using hb
  subst e
  obtain⟨o,e,c,d⟩:=st
  exact⟨o,e,fun v z=>by rw [d] at z;cases z⟩
 keep:=fun i h h' st k=>st.at fun o e=>k it (by simp) o e
 item:=by
  intro X hP hw hK hc i pins s σ H E I hf st hg
  subst hP hw hK
  obtain⟨xs,x,hq,hx⟩:=hg
  obtain⟨its,rv,p,hz⟩:=I.tuple hq
  obtain⟨u,hu,ru⟩:=rv.get hx
  obtain⟨f0,f1,f2,f3,f4,f5⟩:=hf it (by simp)
  refine wpAny_pyNext_tuple_item st (show s.heap.IsTuple a its.toArray from p) (x:=u) (by simpa using hu) fun h' st' sb=>?_
  have I1:Inv X pins σ H { s with heap:=h' }:=I.turned (t':=s.toks) (fun b o hb e=>(sb.2 b hb).trans e) f0 f1 f3 f4 f5
  obtain⟨o,e,c,d⟩:=id st'
  exact⟨u,rfl,Jp (s:={ s with heap:=h' }) e c d (by decide) ⟨x,H,I1,ru,⟨rfl,fun ys hy=>by rw [I.tuple_inj hy hq];exact hx⟩,st',fun b hb=>(hf b hb).1⟩⟩
 done:=by
  intro X hP hw hK hc i pins s σ H E I hf st hg
  subst hP hw hK
  obtain⟨xs,hq,hx⟩:=hg
  obtain⟨its,rv,p,hz⟩:=I.tuple hq
  obtain⟨f0,f1,f2,f3,f4,f5⟩:=hf it (by simp)
  have hl:=rv.length
  exact wpAny_pyNext_tuple_end (I.ok.hd hc) st (show s.heap.IsTuple a its.toArray from p) (by simp;omega) fun h' eb=>⟨rfl,I.turned (t':=s.toks) (fun b o hb e=>eb b o hb e) f0 f1 f3 f4 f5⟩
 self:=fun _ _ _ _ _ st h=>wpAny_pyIter_tupleiter st h
theorem Ls {P:Program} {w:World} {K:PySem.W.Frag} {tg:Expr} (it:Addr) (lo:Int) (n:Nat):Turn P w K tg (Wf lo n) [it] it (fun i h=>IsRangeIter h it (lo+(i:Nat) * 1) ((n:Int) - (i:Nat)) 1) where
 mem:=by simp
 obj:=fun i h st b hb=>by
  have e:b=it:=by simpa using hb
  subst e
  exact⟨_,st,fun v z=>by
   have z':Data.fields _=Data.cell v:=z
   cases z'⟩
 keep:=fun i h h' st k=>k it (by simp) _ st
 item:=by
  intro X hP hw hK hc i pins s σ H E I hf st hg
  subst hP hw hK
  obtain⟨f0,f1,f2,f3,f4,f5⟩:=hf it (by simp)
  have W:=Walks.range (prog:=X.prog) (w:=X.w) (I.ok.hd hc) it lo 1 n
  refine W.item i s _ _ hg st fun v h' tk hv st' kk=>?_
  obtain⟨t,rfl⟩:=hv
  have I1:Inv X pins σ H { s with heap:=h',toks:=tk }:=I.turned (fun b o hb e=>kk b o (by simpa using hb) e) f0 f1 f3 f4 f5
  refine⟨_,rfl,Jp (s:={ s with heap:=h',toks:=tk }) (n:= "range_iterator") st' rfl rfl (by decide) ⟨.int (lo+i),H,I1,⟨t,?_⟩,⟨rfl,rfl⟩,st',fun b hb=>(hf b hb).1⟩⟩
  rw [Int.mul_one]
 done:=by
  intro X hP hw hK hc i pins s σ H E I hf st hg
  subst hP hw hK
  obtain⟨f0,f1,f2,f3,f4,f5⟩:=hf it (by simp)
  exact wpAny_pyNext_range_end (I.ok.hd hc) st (by have:n<=i:=hg;omega) fun h' eb=>⟨rfl,I.turned (t':=s.toks) (fun b o hb e=>eb b o hb e) f0 f1 f3 f4 f5⟩
 self:=fun _ _ _ _ _ st h=>wpAny_pyIter_rangeiter st h
section
variable {X:Cx} {tg:Expr}
inductive Rm (K:PySem.W.Frag) (R:It->Hp->Prop) (x:V) (H1:Hp):Prop where
 | mk:∀a,x=.ref a->((∃xs,bL K H1 a xs))->R (Wz K a) H1->Rm K R x H1
noncomputable def Vf (K:PySem.W.Frag) (tl:TE):TI:=fun σ H R=>tl σ H fun x H1=>Rm K R x H1
inductive Uq (K:PySem.W.Frag) (R:It->Hp->Prop) (x:V) (H1:Hp):Prop where
 | mk:∀a,x=.ref a->((∃xs,eN K H1 a xs))->R (WK K a) H1->Uq K R x H1
noncomputable def Yj (K:PySem.W.Frag) (tl:TE):TI:=fun σ H R=>tl σ H fun x H1=>Uq K R x H1
theorem bW {l:Expr} {tl:TE} (hl:PE X l tl):PI X tg l (Vf X.K tl):=by
 intro pins s σ H R I h
 refine dU (hl pins s σ H _ I h) fun v s1 hpt=>?_
 obtain⟨x,H1,I1,r1,q1⟩:=hpt
 obtain⟨a,e,⟨xs,hq⟩,q⟩:=q1
 subst e
 cases r1
 obtain⟨its,rv,p,hz⟩:=I1.list hq
 refine wpAny_pyIter_list p.isList ?_
 refine⟨s1.heap.objs.size,[s1.heap.objs.size],_,_,H1,rfl,I1.kept (t':=s1.toks) fun b o e=>Heap.get?_push_of_some _ e,O5 a _,⟨_,Heap.get?_push_size _ rfl,rfl,rfl⟩,fun b hb=>?_,q⟩
 have e:b=s1.heap.objs.size:=by simpa using hb
 subst e
 exact I1.fpOk (Nat.le_refl _) (I1.hok.fresh (Nat.le_refl _))
theorem GJ {l:Expr} {tl:TE} (hl:PE X l tl):PI X tg l (Yj X.K tl):=by
 intro pins s σ H R I h
 refine dU (hl pins s σ H _ I h) fun v s1 hpt=>?_
 obtain⟨x,H1,I1,r1,q1⟩:=hpt
 obtain⟨a,e,⟨xs,hq⟩,q⟩:=q1
 subst e
 cases r1
 obtain⟨its,rv,p,hz⟩:=I1.tuple hq
 refine wpAny_pyIter_tuple (show s1.heap.IsTuple a its.toArray from p) ?_
 refine⟨s1.heap.objs.size,[s1.heap.objs.size],_,_,H1,rfl,I1.kept (t':=s1.toks) fun b o e=>Heap.get?_push_of_some _ e,Ky a _,⟨_,Heap.get?_push_size _ rfl,rfl,rfl⟩,fun b hb=>?_,q⟩
 have e:b=s1.heap.objs.size:=by simpa using hb
 subst e
 exact I1.fpOk (Nat.le_refl _) (I1.hok.fresh (Nat.le_refl _))
theorem Q3 {pins:List (Addr×Obj)} {σ:St} {H:Hp} {s:Shared} {R:It->Hp->Prop} {E:Value->Shared->Prop} {lo hi:Int} {t u v:Tok} {tk:Nat} (I:Inv X pins σ H s) (h1: -(2 ^ 62)<=lo) (h2:lo <2 ^ 62) (h3: -(2 ^ 62)<=hi) (h4:hi <2 ^ 62)
  (q:R (Wf lo (hi - lo).toNat) H):wpAny (model X.prog X.w) X.A (pyIter (.ref s.heap.objs.size)) (PIE X pins σ tg R) E { s with heap:=s.heap.push { cls:=.type "range",data:=.fields #[.int lo t,.int hi u,.int 1 v] },toks:=tk }:=by
 refine wpAny_pyIter_range (IsRange.new ..) (small_one h1 h2 h3 h4) ?_
 have I1:Inv X pins σ H { s with heap:=s.heap.push { cls:=.type "range",data:=.fields #[.int lo t,.int hi u,.int 1 v] },toks:=tk }:=I.kept fun b o e=>Heap.get?_push_of_some _ e
 refine⟨(s.heap.push { cls:=.type "range",data:=.fields #[.int lo t,.int hi u,.int 1 v] }).objs.size,[(s.heap.push { cls:=.type "range",data:=.fields #[.int lo t,.int hi u,.int 1 v] }).objs.size],_,_,H,rfl,
  I1.kept (t':=tk) fun b o e=>Heap.get?_push_of_some _ e,Ls _ lo (hi - lo).toNat,?_,fun b hb=>?_,q⟩
 ·have e1:lo+((0:Nat):Int) * 1=lo:=by simp
  have e2:(((hi - lo).toNat:Nat):Int) - ((0:Nat):Int)=Builtin.Range.rangeSize lo hi 1:=by rw [rangeSize_one];split <;> omega
  show IsRangeIter _ _ (lo+((0:Nat):Int) * 1) ((((hi - lo).toNat:Nat):Int) - ((0:Nat):Int)) 1
  rw [e1,e2]
  exact Heap.get?_push_size _ rfl
 ·have e:b=(s.heap.push { cls:=.type "range",data:=.fields #[.int lo t,.int hi u,.int 1 v] }).objs.size:=by simpa using hb
  subst e
  exact I1.fpOk (Nat.le_refl _) (I1.hok.fresh (Nat.le_refl _))
inductive QG (R:It->Hp->Prop) (vs:List V) (H1:Hp):Prop where
 | mk:∀j:Int,vs=[.int j]-> -(2 ^ 62)<=j->j <2 ^ 62->R (Wf 0 j.toNat) H1->QG R vs H1
noncomputable def Yk (ta:TA):TI:=fun σ H R=>ta σ H fun vs H1=>QG R vs H1
theorem jE {a:Expr} {ta:TA} {p pos:Pos} (hg:Gl X "range") (hm:X.mg "range" =none) (ha:PA X [a] ta) (hs:starEach [a] X.env=[(false,eval a X.env)]:=by rfl):PI X tg (.Call (.Name "range" p) [a] [] pos) (Yk ta):=by
 intro pins s σ H R I h
 refine Call_ (CG I hg hm boot_range (PyProof.Rows.callWith_type1 (dU (ha pos pins s σ H _ I h) fun us s1 ⟨vs,H1,I1,r1,q1⟩=>?_) hs rfl))
 obtain⟨j,e,q1,q2,q⟩:=q1
 subst e
 cases r1 with
 | cons r rr=>
  cases rr
  obtain⟨t,rfl⟩:=r
  exact call_range_1 (Q3 I1 (by omega) (by omega) q1 q2 (by simpa using q))
noncomputable def Zc (wi:TI) (g:TG) (tb:TS):TS:=fun D σ H=>wi σ H fun J H1=>∃W:Nat->Nat->St->Hp->Prop,(∃m,W 0 m σ H1)/\∀i m σ H,W i m σ H->
 (J.stop i H/\D.nx σ H)∨(J.go i H/\∃N:St->Hp->Prop,(∀σ' H',N σ' H'->∃m',m' <m/\W (i+1) m' σ' H')/\∀x H',J.yld i H x H'->g x σ H' fun σ2 H2=>tb { D with nx:=N,ct:=N,bk:=D.nx } σ2 H2)
noncomputable def Ho (fp:List Addr) (h:Heap):List (Addr×Obj):=fp.filterMap fun b=>(h.get? b).map fun o=>(b,o)
theorem sZ {fp:List Addr} {h:Heap} {b:Addr} {o:Obj} (hb:b∈fp) (e:h.get? b=some o):(b,o)∈Ho fp h:=List.mem_filterMap.mpr ⟨b,hb,by rw [e];rfl⟩
theorem Oc {fp:List Addr} {h:Heap} {p:Addr×Obj} (hp:p∈Ho fp h):p.1∈fp/\h.get? p.1=some p.2:=by
 obtain⟨b,hb,e⟩:=List.mem_filterMap.mp hp
 cases q:h.get? b with
 | none=>rw [q] at e;cases e
 | some o=>
  rw [q] at e
  have e':(b,o)=p:=Option.some.inj e
  subst e'
  exact⟨hb,q⟩
theorem Inv.pinned {pins:List (Addr×Obj)} {σ:St} {H:Hp} {s:Shared} {fp:List Addr} (I:Inv X pins σ H s) (hf:∀b∈fp,IV X pins H b) (ho:∀b∈fp,∃o,s.heap.get? b=some o/\∀v,o.data≠.cell v):Inv X (pins ++ Ho fp s.heap) σ H s:=
 I.pins_of fun p hp=>(List.mem_append.mp hp).elim (fun z=>I.pin p (List.mem_append_right _ z)) fun z=>by
  obtain⟨hb,e⟩:=Oc z
  obtain⟨f0,f1,f2,_⟩:=hf p.1 hb
  obtain⟨o,e',d⟩:=ho p.1 hb
  rw [e] at e';cases e'
  exact⟨e,f0,f1,f2,d⟩
theorem Inv.unpinned {pins pl:List (Addr×Obj)} {σ:St} {H:Hp} {s:Shared} (I:Inv X (pins ++ pl) σ H s):Inv X pins σ H s:=I.pins_of fun p hp=>I.pin p (List.mem_append_right _ (List.mem_append_left _ hp))
theorem dg {iter:Expr} {body:List Stmt} {wi:TI} {g:TG} {tb:TS} {pos:Pos} (hp:PassesOwn (model X.prog X.w) X.A X.env X.xe) (hc:X.calm=true) (hi:PI X tg iter wi) (hg:PG X tg g) (hb:Kf X body tb)
  (hs:∀x,foldedSetIterable iter X.env x=pure x:=by intro _;rfl):PS X (.For tg iter body [] pos) (Zc wi g tb):=by
 intro pins s σ H D I h
 refine wpAny_For (dU (hi pins s σ H _ I h) fun v s1 h1=>dU h1 fun itv s2 h2=>?_) hs
 obtain⟨it,fp,tn,J,H2,e,I2,T,st2,f2,W,⟨m0,w0⟩,turn⟩:=h2
 subst e
 have stat:∀{H':Hp},(∀b∈fp,H' b=none)->∀b∈fp,IV X pins H' b:=fun hn b hb=>⟨hn b hb,(f2 b hb).2⟩
 refine codeAny_forLoop_any (fun n s'=>∃i σ' H',Inv X pins σ' H' s'/\tn i s'.heap/\(∀b∈fp,H' b=none)/\W i n σ' H') ?_ m0 ⟨0,σ,H2,I2,st2,fun b hb=>(f2 b hb).1,w0⟩
 rintro n s3 ⟨i,σ3,H3,I3,st3,fr3,w3⟩
 rcases turn i n σ3 H3 w3 with ⟨stop,qn⟩ | ⟨go,N,hN,step⟩
 ·refine wpAny_passesOwn hp (dU (T.done X rfl rfl rfl hc i pins s3 σ3 H3 X.xe I3 (stat fr3) st3 stop) fun r s4 hpt=>?_)
  obtain⟨hr,I4⟩:=hpt
  subst hr
  exact wpAny_execs_nil ⟨σ3,H3,I4,qn⟩
 ·refine wpAny_passesOwn hp (dU (T.item X rfl rfl rfl hc i pins s3 σ3 H3 X.xe I3 (stat fr3) st3 go) fun r s4 hpt=>?_)
  obtain⟨u,hr,h4⟩:=hpt
  subst hr
  refine wpAny_passesOwn hp (dU h4 fun _ s5 hpt=>?_)
  obtain⟨x,H5,I5,r5,y5,st5,fr5⟩:=hpt
  have I5':=I5.pinned (stat fr5) (T.obj _ _ st5)
  refine wpAny_passesOwn hp (dU (hg _ s5 σ3 H5 x u _ I5' r5 (step x H5 y5)) fun _ s6 hpt=>?_)
  obtain⟨σ6,H6,I6,q6⟩:=hpt
  refine wpAny_passesOwn hp (dU (hb _ s6 σ6 H6 _ I6 q6) fun f s7 q7=>?_)
  have again:∀{σ7:St} {H7:Hp},Inv X (pins ++ Ho fp s5.heap) σ7 H7 s7->N σ7 H7->∃m,m <n/\∃i σ' H',Inv X pins σ' H' s7/\tn i s7.heap/\(∀b∈fp,H' b=none)/\W i m σ' H':=fun {σ7 H7} I7 n7=>by
   obtain⟨m',hm,w7⟩:=hN σ7 H7 n7
   refine⟨m',hm,i+1,σ7,H7,I7.unpinned,T.keep _ _ _ st5 fun b hb o e=>(I7.pin (b,o) (List.mem_append_right _ (List.mem_append_right _ (sZ hb e)))).1,fun b hb=>?_,w7⟩
   obtain⟨o,e,d⟩:=T.obj _ _ st5 b hb
   exact(I7.pin (b,o) (List.mem_append_right _ (List.mem_append_right _ (sZ hb e)))).2.1
  cases f with
  | next=>obtain⟨σ7,H7,I7,n7⟩:=q7;exact again I7 n7
  | cont=>obtain⟨σ7,H7,I7,n7⟩:=q7;exact again I7 n7
  | brk=>obtain⟨σ7,H7,I7,q7⟩:=q7;exact⟨σ7,H7,I7.unpinned,q7⟩
  | ret v=>obtain⟨x7,σ7,H7,I7,r7,q7⟩:=q7;exact⟨x7,σ7,H7,I7.unpinned,r7,q7⟩
end
theorem cY {K:PySem.W.Frag} {a:Addr} {xs:List V} {g:TG} {tb:TS} {D:Ends} {σ:St} {H:Hp} (Pv:Nat->St->Hp->Prop) (h0:Pv 0 σ H) (hl:∀i σ H,i<=xs.length->Pv i σ H->bL K H a xs)
  (hs:∀i x σ H,xs[i]?=some x->Pv i σ H->g x σ H fun σ2 H2=>tb { D with nx:=Pv (i+1),ct:=Pv (i+1),bk:=D.nx } σ2 H2) (hd:∀σ H,Pv xs.length σ H->D.nx σ H):
  ∃W:Nat->Nat->St->Hp->Prop,(∃m,W 0 m σ H)/\∀i m σ H,W i m σ H->
   ((Wz K a).stop i H/\D.nx σ H)∨((Wz K a).go i H/\∃N:St->Hp->Prop,(∀σ' H',N σ' H'->∃m',m' <m/\W (i+1) m' σ' H')/\∀x H',(Wz K a).yld i H x H'->g x σ H' fun σ2 H2=>tb { D with nx:=N,ct:=N,bk:=D.nx } σ2 H2):=by
 refine⟨fun i m σ H=>m=xs.length - i/\i<=xs.length/\Pv i σ H,⟨xs.length,by simp,Nat.zero_le _,h0⟩,?_⟩
 rintro i m σ H ⟨rfl,hi,p⟩
 have q:=hl i σ H hi p
 by_cases hlt:i <xs.length
 ·refine .inr ⟨⟨xs,xs[i],q,by simp [hlt]⟩,Pv (i+1),fun σ' H' p'=>⟨xs.length - (i+1),by omega,rfl,hlt,p'⟩,fun x H' y=>?_⟩
  obtain⟨e,y⟩:=y
  subst e
  exact hs i x σ _ (y xs q) p
 ·have e:i=xs.length:=by omega
  subst e
  exact .inl ⟨⟨xs,q,Nat.le_refl _⟩,hd σ H p⟩
theorem Tv {K:PySem.W.Frag} {a:Addr} {xs:List V} {g:TG} {tb:TS} {D:Ends} {σ:St} {H:Hp} (Pv:Nat->St->Hp->Prop) (h0:Pv 0 σ H) (hl:∀i σ H,i<=xs.length->Pv i σ H->eN K H a xs)
  (hs:∀i x σ H,xs[i]?=some x->Pv i σ H->g x σ H fun σ2 H2=>tb { D with nx:=Pv (i+1),ct:=Pv (i+1),bk:=D.nx } σ2 H2) (hd:∀σ H,Pv xs.length σ H->D.nx σ H):
  ∃W:Nat->Nat->St->Hp->Prop,(∃m,W 0 m σ H)/\∀i m σ H,W i m σ H->
   ((WK K a).stop i H/\D.nx σ H)∨((WK K a).go i H/\∃N:St->Hp->Prop,(∀σ' H',N σ' H'->∃m',m' <m/\W (i+1) m' σ' H')/\∀x H',(WK K a).yld i H x H'->g x σ H' fun σ2 H2=>tb { D with nx:=N,ct:=N,bk:=D.nx } σ2 H2):=by
 refine⟨fun i m σ H=>m=xs.length - i/\i<=xs.length/\Pv i σ H,⟨xs.length,by simp,Nat.zero_le _,h0⟩,?_⟩
 rintro i m σ H ⟨rfl,hi,p⟩
 have q:=hl i σ H hi p
 by_cases hlt:i <xs.length
 ·refine .inr ⟨⟨xs,xs[i],q,by simp [hlt]⟩,Pv (i+1),fun σ' H' p'=>⟨xs.length - (i+1),by omega,rfl,hlt,p'⟩,fun x H' y=>?_⟩
  obtain⟨e,y⟩:=y
  subst e
  exact hs i x σ _ (y xs q) p
 ·have e:i=xs.length:=by omega
  subst e
  exact .inl ⟨⟨xs,q,Nat.le_refl _⟩,hd σ H p⟩
theorem FJ {lo:Int} {n:Nat} {g:TG} {tb:TS} {D:Ends} {σ:St} {H:Hp} (Pv:Nat->St->Hp->Prop) (h0:Pv 0 σ H)
  (hs:∀i σ H,i <n->Pv i σ H->g (.int (lo+i)) σ H fun σ2 H2=>tb { D with nx:=Pv (i+1),ct:=Pv (i+1),bk:=D.nx } σ2 H2) (hd:∀σ H,Pv n σ H->D.nx σ H):
  ∃W:Nat->Nat->St->Hp->Prop,(∃m,W 0 m σ H)/\∀i m σ H,W i m σ H->
   ((Wf lo n).stop i H/\D.nx σ H)∨((Wf lo n).go i H/\∃N:St->Hp->Prop,(∀σ' H',N σ' H'->∃m',m' <m/\W (i+1) m' σ' H')/\∀x H',(Wf lo n).yld i H x H'->g x σ H' fun σ2 H2=>tb { D with nx:=N,ct:=N,bk:=D.nx } σ2 H2):=by
 refine⟨fun i m σ H=>m=n - i/\i<=n/\Pv i σ H,⟨n,by simp,Nat.zero_le _,h0⟩,?_⟩
 rintro i m σ H ⟨rfl,hi,p⟩
 by_cases hlt:i <n
 ·refine .inr ⟨hlt,Pv (i+1),fun σ' H' p'=>⟨n - (i+1),by omega,rfl,hlt,p'⟩,fun x H' y=>?_⟩
  obtain⟨e,y⟩:=y
  subst e y
  exact hs i σ _ hlt p
 ·have e:i=n:=by omega
  subst e
  exact .inl ⟨Nat.le_refl _,hd σ H p⟩
theorem J4 {c:TT} {tb:TS} {D:Ends} {σ:St} {H:Hp} (Pv:St->Hp->Prop) (μ:St->Hp->Nat) (h0:Pv σ H)
  (hs:∀σ H,Pv σ H->c σ H fun b H1=>if b=true then tb { D with nx:=fun σ' H'=>Pv σ' H'/\μ σ' H' <μ σ H,ct:=fun σ' H'=>Pv σ' H'/\μ σ' H' <μ σ H,bk:=D.nx } σ H1 else D.nx σ H1)
  (mono:∀σ H Q Q',(∀b H1,Q b H1->Q' b H1)->c σ H Q->c σ H Q'):Qn c tb D σ H:=by
 refine⟨fun m σ H=>m=μ σ H/\Pv σ H,⟨_,rfl,h0⟩,?_⟩
 rintro m σ H ⟨rfl,p⟩
 refine mono σ H _ _ (fun b H1 q=>?_) (hs σ H p)
 cases b with
 | true=>exact⟨_,fun σ' H' ⟨p',l⟩=>⟨_,l,rfl,p'⟩,q⟩
 | false=>exact q
noncomputable abbrev R2:=V->V->Hp->VK->Prop
noncomputable def vQ (X:Cx) (f:Value->Value->Sem Value) (r:R2):Prop:=
 ∀(pins:List (Addr×Obj)) (s:Shared) (σ:St) (H:Hp) (x y:V) (v u:Value) (Q:VK),Inv X pins σ H s->RelV x v->RelV y u->r x y H Q->
  wpAny (model X.prog X.w) X.A (f v u) (EP X pins σ Q) X.xe s
noncomputable def mO (X:Cx) (f:Value) (r:List V->Hp->VK->Prop):Prop:=
 ∀(pins:List (Addr×Obj)) (s:Shared) (σ:St) (H:Hp) (xs:List V) (us:List Value) (Q:VK),Inv X pins σ H s->Vals xs us->r xs H Q->
  wpAny (model X.prog X.w) X.A (call f us) (EP X pins σ Q) X.xe s
noncomputable def X7 (r:R2) (ta tb:TE):TE:=fun σ H Q=>ta σ H fun x H1=>tb σ H1 fun y H2=>r x y H2 Q
inductive Zq (C:Int->Int->Prop) (g:Int->Int->V) (x:V) (y:V) (H:Hp) (Q:VK):Prop where
 | mk:∀i j,x=.int i->y=.int j->C i j->Q (g i j) H->Zq C g x y H Q
noncomputable def rI (C:Int->Int->Prop) (g:Int->Int->V):R2:=fun x y H Q=>Zq C g x y H Q
inductive XD (g:Int->Int->V) (x:V) (y:V) (H:Hp) (Q:VK):Prop where
 | mk:∀i j,x=.int i->y=.int j->Q (g i j) H->XD g x y H Q
noncomputable def Sq (g:Int->Int->V):R2:=fun x y H Q=>XD g x y H Q
section
variable {X:Cx} {a b c:Expr} {ta tb tc:TE} {pos:Pos}
theorem VM (ha:PE X a ta) (hb:PE X b tb) {pins:List (Addr×Obj)} {s:Shared} {σ:St} {H:Hp} {R:V->V->Hp->Prop} (I:Inv X pins σ H s)
  (h:ta σ H fun x H1=>tb σ H1 fun y H2=>R x y H2) {Q:Value->Shared->Prop} {f:Value->Value->Sem Value}
  (hf:∀v u s2 x y H2,Inv X pins σ H2 s2->RelV x v->RelV y u->R x y H2->wpAny (model X.prog X.w) X.A (f v u) Q X.xe s2):
  wpAny (model X.prog X.w) X.A (eval a X.env) (fun v s₁=>wpAny (model X.prog X.w) X.A (eval b X.env) (fun u s₂=>wpAny (model X.prog X.w) X.A (f v u) Q X.xe s₂) X.xe s₁) X.xe s:=by
 refine dU (ha pins s σ H _ I h) fun v s1 hpt=>?_
 obtain⟨x,H1,I1,r1,q1⟩:=hpt
 refine dU (hb pins s1 σ H1 _ I1 q1) fun u s2 hpt=>?_
 obtain⟨y,H2,I2,r2,q2⟩:=hpt
 exact hf v u s2 x y H2 I2 r1 r2 q2
theorem bc {op:Operator} {r:R2} (ho:vQ X (binaryOp op) r) (ha:PE X a ta) (hb:PE X b tb):PE X (.BinOp a op b pos) (X7 r ta tb):=by
 intro pins s σ H Q I h
 exact wpAny_BinOp (VM ha hb I h fun v u s2 x y H2 I2 rx ry q=>ho pins s2 σ H2 x y v u Q I2 rx ry q)
theorem XC {f:Value->Value->Sem Value} {C:Int->Int->Prop} {g:Int->Int->Int}
  (rule:∀(i j:Int) (t u:Tok) (s:Shared) (Q:Value->Shared->Prop) (E:Value->Shared->Prop),C i j->Q (.int (g i j) s.toks) { s with toks:=s.toks+1 }->wpAny (model X.prog X.w) X.A (f (.int i t) (.int j u)) Q E s):
  vQ X f (rI C fun i j=>.int (g i j)):=by
 intro pins s σ H x y v u Q I rx ry h
 obtain⟨i,j,rfl,rfl,hc,q⟩:=h
 obtain⟨t,rfl⟩:=rx
 obtain⟨t',rfl⟩:=ry
 exact rule i j t t' s _ _ hc ⟨.int (g i j),H,I.tok _,⟨_,rfl⟩,q⟩
theorem Tf {f:Value->Value->Sem Value} {g:Int->Int->Int}
  (rule:∀(i j:Int) (t u:Tok) (s:Shared) (Q:Value->Shared->Prop) (E:Value->Shared->Prop),Q (.int (g i j) s.toks) { s with toks:=s.toks+1 }->wpAny (model X.prog X.w) X.A (f (.int i t) (.int j u)) Q E s):
  vQ X f (Sq fun i j=>.int (g i j)):=by
 intro pins s σ H x y v u Q I rx ry h
 obtain⟨i,j,rfl,rfl,q⟩:=h
 obtain⟨t,rfl⟩:=rx
 obtain⟨t',rfl⟩:=ry
 exact rule i j t t' s _ _ ⟨.int (g i j),H,I.tok _,⟨_,rfl⟩,q⟩
theorem TQ {f:Value->Value->Sem Value} {g:Int->Int->Bool}
  (rule:∀(i j:Int) (t u:Tok) (s:Shared) (Q:Value->Shared->Prop) (E:Value->Shared->Prop),Q (.bool (g i j)) s->wpAny (model X.prog X.w) X.A (f (.int i t) (.int j u)) Q E s):
  vQ X f (Sq fun i j=>.bl (g i j)):=by
 intro pins s σ H x y v u Q I rx ry h
 obtain⟨i,j,rfl,rfl,q⟩:=h
 obtain⟨t,rfl⟩:=rx
 obtain⟨t',rfl⟩:=ry
 exact rule i j t t' s _ _ ⟨.bl (g i j),H,I,rfl,q⟩
noncomputable def Y0 (i j:Int):Prop:=0<=j/\j<=1000000/\i.natAbs <2 ^ 64
theorem Ku (k:Nat):(0:Int)<=2 ^ k:=by
 rw [two_pow_cast]
 exact Int.natCast_nonneg _
theorem du:vQ X (binaryOp .Add) (Sq fun i j=>.int (i+j)):=Tf fun _ _ _ _ _ _ _ q=>add_int q
theorem KC:vQ X (binaryOp .Sub) (Sq fun i j=>.int (i - j)):=Tf fun _ _ _ _ _ _ _ q=>sub_int q
theorem b7:vQ X (binaryOp .Mod) (rI (fun _ j=>0 <j) fun i j=>.int (i % j)):=XC fun i j _ _ _ _ _ hc q=>by
 have h1:(0:Int) <j:=hc
 exact mod_int' (by omega) (by rw [Int.fmod_eq_emod_of_nonneg i (by omega)];exact q)
theorem xW:vQ X (binaryOp .Pow) (rI Y0 fun i j=>.int (i ^ j.toNat)):=XC fun _ _ _ _ _ _ _ hc q=>pow_int_small hc.1 hc.2.1 hc.2.2 q
theorem RV:vQ X (binaryOp .RShift) (rI (fun _ j=>0<=j) fun i j=>.int (i / 2 ^ j.toNat)):=XC fun i j _ _ _ _ _ hc q=>
 rshift_int hc (by rw [Int.fdiv_eq_ediv_of_nonneg i (Ku _)];exact q)
theorem V7:vQ X (binaryOp .BitAnd) (Sq fun i j=>.int (Builtin.bitAnd i j)):=Tf fun _ _ _ _ _ _ _ q=>and_int q
theorem BR:vQ X (inplaceOp .Add) (Sq fun i j=>.int (i+j)):=Tf fun _ _ _ _ _ _ _ q=>iadd_int q
end
noncomputable def Xb:V->V->Bool
 | .non,.non=>true | .non,.int _=>true | .int _,.non=>true | .non,.bl _=>true | .bl _,.non=>true | .non,.str _=>true | .str _,.non=>true
 | .int _,.int _=>true | .bl _,.bl _=>true | .str _,.str _=>true | .byt _,.byt _=>true
 | .int _,.str _=>true | .str _,.int _=>true | .bl _,.str _=>true | .str _,.bl _=>true
 | _,_=>false
noncomputable def rEq:R2:=fun x y H Q=>Xb x y=true/\Q (.bl (decide (x=y))) H
noncomputable def rNe:R2:=fun x y H Q=>Xb x y=true/\Q (.bl (!decide (x=y))) H
theorem Nk {i j:Int}:decide (V.int i=V.int j)=(i == j):=by
 rw [Bool.eq_iff_iff]
 simp
theorem Ry {i j:Bool}:decide (V.bl i=V.bl j)=(i == j):=by
 rw [Bool.eq_iff_iff]
 simp
theorem MP {i j:Str}:decide (V.str i=V.str j)=(i == j):=by
 rw [Bool.eq_iff_iff]
 simp
theorem Nj {i j:Array UInt8}:decide (V.byt i=V.byt j)=(i.toList == j.toList):=by
 rw [Bool.eq_iff_iff]
 cases i
 cases j
 simp
section
variable {X:Cx} {a b c:Expr} {ta tb tc:TE} {pos:Pos}
theorem cZ {pins:List (Addr×Obj)} {σ:St} {H:Hp} {s:Shared} {Q:VK} {k k':Bool} (I:Inv X pins σ H s) (q:Q (.bl k) H) (e:k=k'):EP X pins σ Q (.bool k') s:=by
 subst e
 exact⟨.bl k,H,I,rfl,q⟩
theorem dW:vQ X (compareOp .Eq) rEq:=by
 intro pins s σ H x y v u Q I rx ry h
 obtain⟨hs,q⟩:=h
 cases x with
 | non=>
  cases rx
  cases y with
  | non=>cases ry;exact PySem.EqNone.eq_none_none (cZ I q (by simp))
  | bl j=>cases ry;exact PySem.EqNone.eq_none_bool (cZ I q (by simp))
  | int j=>obtain⟨t',rfl⟩:=ry;exact PySem.EqNone.eq_none_int (cZ I q (by simp))
  | str j=>obtain⟨t',rfl⟩:=ry;exact PySem.EqNone.eq_none_str (cZ I q (by simp))
  | _=>exact absurd (show false=true from hs) Bool.false_ne_true
 | bl i=>
  cases rx
  cases y with
  | non=>cases ry;exact PySem.EqNone.eq_bool_none (cZ I q (by simp))
  | bl j=>cases ry;exact eq_bool (cZ I q Ry)
  | str j=>obtain⟨t',rfl⟩:=ry;exact PySem.EqMixed.eq_bool_str (cZ I q (by simp))
  | _=>exact absurd (show false=true from hs) Bool.false_ne_true
 | int i=>
  obtain⟨t,rfl⟩:=rx
  cases y with
  | non=>cases ry;exact PySem.EqNone.eq_int_none (cZ I q (by simp))
  | int j=>obtain⟨t',rfl⟩:=ry;exact eq_int (cZ I q Nk)
  | str j=>obtain⟨t',rfl⟩:=ry;exact PySem.EqMixed.eq_int_str (cZ I q (by simp))
  | _=>exact absurd (show false=true from hs) Bool.false_ne_true
 | str i=>
  obtain⟨t,rfl⟩:=rx
  cases y with
  | non=>cases ry;exact PySem.EqNone.eq_str_none (cZ I q (by simp))
  | bl j=>cases ry;exact PySem.EqMixed.eq_str_bool (cZ I q (by simp))
  | int j=>obtain⟨t',rfl⟩:=ry;exact PySem.EqMixed.eq_str_int (cZ I q (by simp))
  | str j=>obtain⟨t',rfl⟩:=ry;exact eq_str (cZ I q MP)
  | _=>exact absurd (show false=true from hs) Bool.false_ne_true
 | byt i=>
  obtain⟨t,rfl⟩:=rx
  cases y with
  | byt j=>obtain⟨t',rfl⟩:=ry;exact PySem.W.eq_bytes (cZ I q Nj)
  | _=>exact absurd (show false=true from hs) Bool.false_ne_true
 | _=>cases y <;> exact absurd (show false=true from hs) Bool.false_ne_true
theorem JQ:vQ X (compareOp .NotEq) rNe:=by
 intro pins s σ H x y v u Q I rx ry h
 obtain⟨hs,q⟩:=h
 cases x with
 | non=>
  cases rx
  cases y with
  | non=>cases ry;exact PySem.EqNone.ne_none_none (cZ I q (by simp))
  | bl j=>cases ry;exact PySem.EqNone.ne_none_bool (cZ I q (by simp))
  | int j=>obtain⟨t',rfl⟩:=ry;exact PySem.EqNone.ne_none_int (cZ I q (by simp))
  | str j=>obtain⟨t',rfl⟩:=ry;exact PySem.EqNone.ne_none_str (cZ I q (by simp))
  | _=>exact absurd (show false=true from hs) Bool.false_ne_true
 | bl i=>
  cases rx
  cases y with
  | non=>cases ry;exact PySem.EqNone.ne_bool_none (cZ I q (by simp))
  | bl j=>cases ry;exact ne_bool (cZ I q (congrArg not Ry))
  | str j=>obtain⟨t',rfl⟩:=ry;exact PySem.EqMixed.ne_bool_str (cZ I q (by simp))
  | _=>exact absurd (show false=true from hs) Bool.false_ne_true
 | int i=>
  obtain⟨t,rfl⟩:=rx
  cases y with
  | non=>cases ry;exact PySem.EqNone.ne_int_none (cZ I q (by simp))
  | int j=>obtain⟨t',rfl⟩:=ry;exact ne_int (cZ I q (congrArg not Nk))
  | str j=>obtain⟨t',rfl⟩:=ry;exact PySem.EqMixed.ne_int_str (cZ I q (by simp))
  | _=>exact absurd (show false=true from hs) Bool.false_ne_true
 | str i=>
  obtain⟨t,rfl⟩:=rx
  cases y with
  | non=>cases ry;exact PySem.EqNone.ne_str_none (cZ I q (by simp))
  | bl j=>cases ry;exact PySem.EqMixed.ne_str_bool (cZ I q (by simp))
  | int j=>obtain⟨t',rfl⟩:=ry;exact PySem.EqMixed.ne_str_int (cZ I q (by simp))
  | str j=>obtain⟨t',rfl⟩:=ry;exact ne_str (cZ I q (congrArg not MP))
  | _=>exact absurd (show false=true from hs) Bool.false_ne_true
 | byt i=>
  obtain⟨t,rfl⟩:=rx
  cases y with
  | byt j=>obtain⟨t',rfl⟩:=ry;exact PySem.W.ne_bytes (cZ I q (congrArg not Nj))
  | _=>exact absurd (show false=true from hs) Bool.false_ne_true
 | _=>cases y <;> exact absurd (show false=true from hs) Bool.false_ne_true
theorem wX:vQ X (compareOp .Lt) (Sq fun i j=>.bl (decide (i <j))):=TQ fun _ _ _ _ _ _ _ q=>lt_int q
theorem wH:vQ X (compareOp .LtE) (Sq fun i j=>.bl (decide (i<=j))):=TQ fun _ _ _ _ _ _ _ q=>le_int q
theorem Ji:vQ X (compareOp .Gt) (Sq fun i j=>.bl (decide (j <i))):=TQ fun _ _ _ _ _ _ _ q=>gt_int q
theorem U6:vQ X (compareOp .GtE) (Sq fun i j=>.bl (decide (j<=i))):=TQ fun _ _ _ _ _ _ _ q=>ge_int q
theorem zE:vQ X (compareOp .In) (fun x y H Q=>∃i j,x=.str i/\y=.str j/\Q (.bl (!(Builtin.Str.occurrences j i 0 j.length 1).isEmpty)) H):=by
 intro pins s σ H x y v u Q I rx ry h
 obtain⟨i,j,rfl,rfl,q⟩:=h
 obtain⟨t,rfl⟩:=rx
 obtain⟨t',rfl⟩:=ry
 exact in_str (cZ I q rfl)
theorem bI (b:Expr) {op:CmpOp} (h:op≠.In:=by decide) (h2:op≠.NotIn:=by decide):behindInMarks op b=false:=by
 have e1:(op == CmpOp.In)=false:=by cases op <;> first | rfl | exact absurd rfl h
 have e2:(op == CmpOp.NotIn)=false:=by cases op <;> first | rfl | exact absurd rfl h2
 cases b <;> simp [behindInMarks,e1,e2]
theorem tD {op:CmpOp} {r:R2} (ho:vQ X (compareOp op) r) (ha:PE X a ta) (hb:PE X b tb) (hm:behindInMarks op b=false):PE X (.Compare a [op] [b] pos) (X7 r ta tb):=by
 intro pins s σ H Q I h
 exact wpAny_Compare1 (VM ha hb I h fun v u s2 x y H2 I2 rx ry q=>ho pins s2 σ H2 x y v u Q I2 rx ry q) hm
inductive RJ (Q:Bool->Hp->Prop) (x:V) (H':Hp):Prop where
 | mk:∀k,x=.bl k->Q k H'->RJ Q x H'
noncomputable def U5 (t:TE):TT:=fun σ H Q=>t σ H fun x H'=>RJ Q x H'
theorem aW {op:CmpOp} {r:R2} (ho:vQ X (compareOp op) r) (ha:PE X a ta) (hb:PE X b tb) (hm:behindInMarks op b=false):PT X (.Compare a [op] [b] pos) (U5 (X7 r ta tb)):=by
 intro pins s σ H Q I h
 refine wpAny_isTrue_Compare1 (dU (ha pins s σ H _ I h) fun v s1 ⟨x,H1,I1,r1,q1⟩=>dU (hb pins s1 σ H1 _ I1 q1) fun u s2 ⟨y,H2,I2,r2,q2⟩=>
  dU (ho pins s2 σ H2 x y v u _ I2 r1 r2 q2) fun c s3 ⟨z,H3,I3,r3,k,e,q3⟩=>?_) hm
 subst e
 cases r3
 exact wpAny_truthy_bool ⟨H3,I3,q3⟩
inductive My (r':R2) (tc:TE) (σ:St) (Q:VK) (y:V) (z:V) (H3:Hp):Prop where
 | mk:∀k,z=.bl k->((if k=true then tc σ H3 fun w' H4=>r' y w' H4 Q else Q (.bl false) H3))->My r' tc σ Q y z H3
noncomputable def Qy (r r':R2) (ta tb tc:TE):TE:=fun σ H Q=>ta σ H fun x H1=>tb σ H1 fun y H2=>r x y H2 fun z H3=>My r' tc σ Q y z H3
theorem Qc {op op':CmpOp} {r r':R2} (ho:vQ X (compareOp op) r) (ho':vQ X (compareOp op') r') (ha:PE X a ta) (hb:PE X b tb) (hc:PE X c tc)
  (hm:lastMarks [op,op'] [b,c]=false:=by with_unfolding_all rfl):PE X (.Compare a [op,op'] [b,c] pos) (Qy r r' ta tb tc):=by
 intro pins s σ H Q I h
 refine Compare_chain (dU (ha pins s σ H _ I h) fun v s1 ⟨x,H1,I1,r1,q1⟩=>chain_link (dU (hb pins s1 σ H1 _ I1 q1) fun u s2 ⟨y,H2,I2,r2,q2⟩=>
  dU (ho pins s2 σ H2 x y v u _ I2 r1 r2 q2) fun d s3 ⟨z,H3,I3,r3,k,e,q3⟩=>?_)) hm
 subst e
 cases r3
 refine wpAny_truthy_bool ?_
 cases k with
 | false=>exact ite_ff ⟨.bl false,H3,I3,rfl,q3⟩
 | true=>exact ite_tt (chain_last (dU (hc pins s3 σ H3 _ I3 q3) fun w' s4 ⟨z',H4,I4,r4,q4⟩=>ho' pins s4 σ H4 y z' u w' Q I4 r2 r4 q4))
theorem yH {op op':CmpOp} {r r':R2} (ho:vQ X (compareOp op) r) (ho':vQ X (compareOp op') r') (ha:PE X a ta) (hb:PE X b tb) (hc:PE X c tc)
  (hm:lastMarks [op,op'] [b,c]=false:=by with_unfolding_all rfl):PT X (.Compare a [op,op'] [b,c] pos) (U5 (Qy r r' ta tb tc)):=by
 intro pins s σ H Q I h
 refine isTrue_chain (dU (ha pins s σ H _ I h) fun v s1 ⟨x,H1,I1,r1,q1⟩=>test_link (dU (hb pins s1 σ H1 _ I1 q1) fun u s2 ⟨y,H2,I2,r2,q2⟩=>
  dU (ho pins s2 σ H2 x y v u _ I2 r1 r2 q2) fun d s3 ⟨z,H3,I3,r3,k,e,q3⟩=>?_)) hm
 subst e
 cases r3
 refine wpAny_truthy_bool ?_
 cases k with
 | false=>
  obtain⟨k',e',q'⟩:=q3
  cases e'
  exact ite_ff ⟨H3,I3,q'⟩
 | true=>
  refine ite_tt (test_last (dU (hc pins s3 σ H3 _ I3 q3) fun w' s4 ⟨z',H4,I4,r4,q4⟩=>dU (ho' pins s4 σ H4 y z' u w' _ I4 r2 r4 q4) fun d' s5 hpt=>?_))
  obtain⟨z2,H5,I5,r5,k2,e2,q5⟩:=hpt
  subst e2
  cases r5
  exact wpAny_truthy_bool ⟨H5,I5,q5⟩
theorem Hx:(sizeLine:Nat) <2 ^ 63:=by rw [sizeLine_eq];decide
theorem xO:vQ X (binaryOp .Add) (fun x y H Q=>∃i j,x=.str i/\y=.str j/\i.length+j.length<=sizeLine/\Q (.str (i ++ j)) H):=by
 intro pins s σ H x y v u Q I rx ry h
 obtain⟨i,j,rfl,rfl,hz,q⟩:=h
 obtain⟨t,rfl⟩:=rx
 obtain⟨t',rfl⟩:=ry
 exact add_str (fun t' tk=>⟨.str (i ++ j),H,I.tok _,⟨_,rfl⟩,q⟩) hz
theorem vals1 {x:V} {us:List Value} (r:Vals [x] us):∃u,us=[u]/\RelV x u:=by
 cases r with
 | cons r1 r2=>cases r2;exact⟨_,rfl,r1⟩
theorem vals2 {x y:V} {us:List Value} (r:Vals [x,y] us):∃u w',us=[u,w']/\RelV x u/\RelV y w':=by
 cases r with
 | cons r1 r2=>
  cases r2 with
  | cons r3 r4=>cases r4;exact⟨_,_,rfl,r1,r3⟩
theorem zM (hc:X.calm=true):mO X (.builtin "max") (fun xs H Q=>∃i j,xs=[.int i,.int j]/\Q (.int (if j >i then j else i)) H):=by
 intro pins s σ H xs us Q I r h
 obtain⟨i,j,rfl,q⟩:=h
 obtain⟨u,w',rfl,⟨t,rfl⟩,⟨t',rfl⟩⟩:=vals2 r
 refine max_two_ints (I.ok.hd hc) fun h' tk k=>⟨_,H,I.kept k,?_,q⟩
 by_cases hj:j >i
 ·rw [if_pos hj,if_pos hj];exact⟨_,rfl⟩
 ·rw [if_neg hj,if_neg hj];exact⟨_,rfl⟩
theorem Og (hc:X.calm=true):mO X (.builtin "min") (fun xs H Q=>∃i j,xs=[.int i,.int j]/\Q (.int (if j <i then j else i)) H):=by
 intro pins s σ H xs us Q I r h
 obtain⟨i,j,rfl,q⟩:=h
 obtain⟨u,w',rfl,⟨t,rfl⟩,⟨t',rfl⟩⟩:=vals2 r
 refine min_two_ints (I.ok.hd hc) fun h' tk k=>⟨_,H,I.kept k,?_,q⟩
 by_cases hj:j <i
 ·rw [if_pos hj,if_pos hj];exact⟨_,rfl⟩
 ·rw [if_neg hj,if_neg hj];exact⟨_,rfl⟩
theorem O7:mO X (.type "int") (fun xs H Q=>(∃i,xs=[.int i]/\Q (.int i) H)∨∃k,xs=[.bl k]/\Q (.int (if k then 1 else 0)) H):=by
 intro pins s σ H xs us Q I r h
 rcases h with ⟨i,rfl,q⟩ | ⟨k,rfl,q⟩
 ·obtain⟨u,rfl,t,rfl⟩:=vals1 r
  exact call_int_int ⟨.int i,H,I,⟨_,rfl⟩,q⟩
 ·obtain⟨u,rfl,r1⟩:=vals1 r
  cases r1
  exact call_int_bool ⟨.int (if k then 1 else 0),H,I.tok _,⟨_,rfl⟩,q⟩
theorem Hi:mO X (.type "str") (fun xs H Q=>∃i,xs=[.int i]/\i.natAbs.log2 <1920/\Q (.str (toString i)) H):=by
 intro pins s σ H xs us Q I r h
 obtain⟨i,rfl,hz,q⟩:=h
 obtain⟨u,rfl,t,rfl⟩:=vals1 r
 exact PySem.P.str_of_int hz ⟨.str _,H,I.tok _,⟨_,rfl⟩,q⟩
noncomputable def X5 (K:PySem.W.Frag) (x:V) (H:Hp) (n:Nat):Prop:=
 match x with
 | .str y=>y.length<=sizeLine/\n=y.length
 | .byt y=>y.size<=sizeLine/\n=y.size
 | .ref p=>(∃xs,bL K H p xs/\n=xs.length)∨∃xs,eN K H p xs/\n=xs.length
 | _=>False
theorem cj:mO X (.builtin "len") (fun xs H Q=>∃x n,xs=[x]/\X5 X.K x H n/\Q (.int n) H):=by
 intro pins s σ H xs us Q I r h
 obtain⟨x,n,rfl,e,q⟩:=h
 obtain⟨u,rfl,rx⟩:=vals1 r
 have hl:=Hx
 have hs:sizeLine=16777216:=sizeLine_eq
 cases x with
 | str y=>
  obtain⟨t,rfl⟩:=rx
  obtain⟨hy,e'⟩:y.length<=sizeLine/\n=y.length:=e
  subst e'
  exact len_str (by omega) ⟨.int _,H,I.tok _,⟨_,rfl⟩,q⟩
 | byt y=>
  obtain⟨t,rfl⟩:=rx
  obtain⟨hy,e'⟩:y.size<=sizeLine/\n=y.size:=e
  subst e'
  exact PySem.W.len_bytes (by omega) ⟨.int _,H,I.tok _,⟨_,rfl⟩,q⟩
 | ref p=>
  cases rx
  have e':(∃xs,bL X.K H p xs/\n=xs.length)∨∃xs,eN X.K H p xs/\n=xs.length:=e
  rcases e' with ⟨xs,hx,e'⟩ | ⟨xs,hx,e'⟩
  ·subst e'
   obtain⟨its,r',pl,hz⟩:=I.list hx
   have hlen:=r'.length
   exact Calls.call_len_list pl.isList (by simp only [List.size_toArray];omega) ⟨.int xs.length,H,I.tok _,⟨_,by simp only [List.size_toArray];rw [hlen]⟩,q⟩
  ·subst e'
   obtain⟨its,r',pl,hz⟩:=I.tuple hx
   have hlen:=r'.length
   exact len_tuple pl (by simp only [List.size_toArray];omega) ⟨.int xs.length,H,I.tok _,⟨_,by simp only [List.size_toArray];rw [hlen]⟩,q⟩
 | _=>exact(show False from e).elim
end
structure KR (h:Heap) (x dx C:Addr) (mA:Str->Option Value):Prop where
 obj:h.get? x=some (PySem.W.instObj C dx)
 ns:h.Ns1 dx mA
 ne:dx≠x
theorem Ou {h:Heap} {dx:Addr} {mA:Str->Option Value} (n:h.Ns1 dx mA):∃od,h.get? dx=some od/\∀name,PySem.W.lookIn name od=some (mA name):=by
 obtain⟨o,es,ep,ho,hd,hk,_,hm⟩:=n
 refine⟨o,ho,fun name=>?_⟩
 have e:=hm name
 unfold nsFind findBy at e
 rw [<-Array.find?_toList] at e
 unfold PySem.W.lookIn
 rw [hd]
 dsimp only
 split
 ·rename_i y q
  rw [q] at e
  exact congrArg some e
 ·rename_i q
  rw [q] at e
  have a:es.toList.any (·.refKey)=false:=by
   rw [List.any_eq_false]
   intro y hy
   obtain⟨z,t,hkey⟩:=hk y (Array.mem_toList_iff.mp hy)
   simp [DictEntry.refKey,hkey]
  have a':¬es.toList.any (·.refKey)=true:=by rw [a];exact Bool.false_ne_true
  rw [if_neg a']
  exact congrArg some e
theorem KR.look {h:Heap} {x dx C:Addr} {mA:Str->Option Value} (I:KR h x dx C mA):∃od,PySem.W.InstAt h x (PySem.W.instObj C dx) C (some od)/\∀name,PySem.W.lookIn name od=some (mA name):=
 let ⟨od,ho,hl⟩:=Ou I.ns
 ⟨od,⟨I.obj,rfl,rfl,ho⟩,hl⟩
section
variable {prog:Program} {w:World} {A:Around} {E:Value->Shared->Prop} {s:Shared} {K:PySem.W.Frag} {x dx C f:Addr} {mA:Str->Option Value} {name:Str} {v:Value}
theorem S8 {expr:Bool} {Q:Value->Shared->Prop} (X:K.In s.heap) (I:KR s.heap x dx C mA) (hg:PySem.W.plainGet K C name=true) (hh:PySem.W.hasDictIn K C=true)
  (ha:PySem.W.findIn K (.ref C) name=some none) (hv:mA name=some v) (hv':PySem.W.handedIn v=true) (h:Q v { s with toks:=s.toks+1 }):
  wpAny (model prog w) A (getAttr (.ref x) name expr) Q E s:=by
 obtain⟨od,J,hl⟩:=I.look
 exact PySem.W.get_value X J (PySem.W.plainGet_of hg).1 (PySem.W.findObj_own hh ha rfl (by rw [hl,hv])) hv' h
theorem Q7 {pl:Sem Bool} {Q:Value×List Value->Shared->Prop} (X:K.In s.heap) (I:KR s.heap x dx C mA) (hg:PySem.W.plainGet K C name=true)
  (hf:PySem.W.findIn K (.ref C) name=some (some (.ref f))) (ht:PySem.W.isFn K (.ref f)=true) (hv:mA name=none) (h:Q (.ref f,[.ref x]) s):
  wpAny (model prog w) A (getMethod (.ref x) name pl) Q E s:=by
 obtain⟨od,J,hl⟩:=I.look
 exact PySem.W.method_fn X J (PySem.W.plainGet_of hg).1 (PySem.W.plainGet_of hg).2 hf (beq_iff_eq.mp ht) (by show(PySem.W.lookIn name od).map (·.isSome)=some false;rw [hl,hv];rfl) h
theorem Uc {ns:List Str} {Q:Unit->Shared->Prop} (X:K.In s.heap) (I:KR s.heap x dx C mA)
  (hs:PySem.W.findIn K (.ref C) "__setattr__" =some (some (.builtin "object.__setattr__"))) (hp:PySem.W.plainOver K C=true) (ht:PySem.W.takerIn K C name=some none) (hh:PySem.W.hasDictIn K C=true)
  (hw:PySem.Within mA ns) (hsz:ns.length<=sizeLine)
  (h:∀h',KR h' x dx C (fun y=>if y=name then some v else mA y)->Heap.SameBut dx s.heap h'->Q () { s with heap:=h',toks:=s.toks+2 }):
  wpAny (model prog w) A (setAttr (.ref x) name v) Q E s:=by
 obtain⟨od,J,hl⟩:=I.look
 refine PySem.W.set_plain X J hs (PySem.W.osa_open (s:={ s with toks:=s.toks+1 }) (r:=none) X J hp ht fun b=>?_)
 obtain⟨cd,hc,hd'⟩:=PySem.W.any_some hh
 have hx:s.heap.get? x=some ⟨.ref C,some dx,.plain,#[]⟩:=I.obj
 refine wpAny_bind (wpAny_pure (wpAny_bind (wpAny_bind (wpAny_loadPart hx (wpAny_bind (PySem.W.Looks.here (s:={ s with toks:=s.toks+1 }) (PySem.W.looks_clsIn X hc) ?_))))))
 rw [hd']
 refine wpAny_pure (a:=some dx) (wpAny_bind (wpAny_pure (wpAny_bind ?_)))
 refine wpAny_nsSet1 (s:={ s with toks:=s.toks+1 }) I.ns fun h' hn2 hs2=>?_
 obtain⟨oD,esD,epD,hoD,hdD,hcD⟩:=hn2.count (PySem.Within.cons name v hw)
 refine wpAny_bind (wpAny_lookBehind hoD (by rw [hdD];exact pastItsLine_dict (Nat.le_trans hcD (by rw [List.length_cons];omega))) ?_)
 exact wpAny_pure (h _ ⟨(hs2.2 _ (Ne.symm I.ne)).trans I.obj,hn2,I.ne⟩ hs2)
theorem RG {R:Result->Shared->Prop} {vs:List Value} {kw:List (Str×Value)} (X:K.In s.heap) (hm:PySem.W.makesIn K C=true)
  (hi:PySem.W.findIn K (.ref C) "__init__" =some (some (.ref f))) (hf:PySem.W.typeIn K (.ref f)=some (.type "function"))
  (h:codeAny (model prog w) (A.under (.builtin "type.__call__" ⟨.ref C:: vs,kw⟩)) (.call (.ref f) ⟨.ref (s.heap.objs.size+1):: vs,kw⟩) (PySem.W.InitBack (s.heap.objs.size+1) R)
   { s with heap:=(s.heap.push PySem.W.emptyDict).push (PySem.W.instObj C s.heap.objs.size) }):
  codeAny (model prog w) A (.call (.ref C) ⟨vs,kw⟩) R s:=by
 obtain⟨hh,g,d,t,os⟩:=s
 exact PySem.W.make_core (PySem.W.makes_of X hm) (PySem.W.looks_findIn X hi) (fun self=>PySem.W.bind_fn X self hf) (.inl rfl) h
end
noncomputable def aJ (f:Str) (v:V):List (Str×V)->List (Str×V)
 | []=>[(f,v)]
 | (g,x):: r=>if g=f then(g,v):: r else(g,x):: aJ f v r
theorem aC (f g:Str) (v:V):∀fs:List (Str×V),(aJ f v fs).lookup g=if g=f then some v else fs.lookup g
 | []=>by
  show List.lookup g [(f,v)]=_
  by_cases h:g=f
  ·have hb:(g == f)=true:=beq_iff_eq.mpr h
   simp only [List.lookup,hb,if_pos h]
  ·have hb:(g == f)=false:=beq_eq_false_iff_ne.mpr h
   simp only [List.lookup,hb,if_neg h]
 | (k,x):: r=>by
  have ih:=aC f g v r
  rw [show aJ f v ((k,x):: r)=(if k=f then(k,v):: r else(k,x):: aJ f v r) from rfl]
  by_cases hk:k=f
  ·rw [if_pos hk]
   by_cases h:g=k
   ·have hb:(g == k)=true:=beq_iff_eq.mpr h
    simp only [List.lookup,hb,if_pos (h.trans hk)]
   ·have hb:(g == k)=false:=beq_eq_false_iff_ne.mpr h
    simp only [List.lookup,hb,if_neg (fun e:g=f=>h (e.trans hk.symm))]
  ·rw [if_neg hk]
   by_cases h:g=k
   ·have hb:(g == k)=true:=beq_iff_eq.mpr h
    simp only [List.lookup,hb,if_neg (fun e:g=f=>hk (h.symm.trans e))]
   ·have hb:(g == k)=false:=beq_eq_false_iff_ne.mpr h
    simp only [List.lookup,hb]
    exact ih
theorem zY (f:Str) (v:V):∀fs:List (Str×V),f∈(aJ f v fs).map (·.1)/\∀g,g∈fs.map (·.1)->g∈(aJ f v fs).map (·.1)
 | []=>⟨by simp [aJ],fun g h=>by simp at h⟩
 | (k,x):: r=>by
  obtain⟨i1,i2⟩:=zY f v r
  rw [show aJ f v ((k,x):: r)=(if k=f then(k,v):: r else(k,x):: aJ f v r) from rfl]
  by_cases hk:k=f
  ·rw [if_pos hk]
   subst hk
   exact⟨by simp,fun g h=>by simpa using h⟩
  ·rw [if_neg hk]
   refine⟨?_,fun g h=>?_⟩
   ·rw [List.map_cons]
    exact List.mem_cons_of_mem _ i1
   ·rw [List.map_cons] at h ⊢
    rcases List.mem_cons.mp h with e | e
    ·exact List.mem_cons.mpr (.inl e)
    ·exact List.mem_cons_of_mem _ (i2 g e)
theorem ux (f:Str) (v:V):∀fs:List (Str×V),(aJ f v fs).length<=fs.length+1
 | []=>by simp [aJ]
 | (k,x):: r=>by
  have ih:=ux f v r
  rw [show aJ f v ((k,x):: r)=(if k=f then(k,v):: r else(k,x):: aJ f v r) from rfl]
  by_cases hk:k=f
  ·rw [if_pos hk,List.length_cons,List.length_cons];omega
  ·rw [if_neg hk,List.length_cons,List.length_cons];omega
theorem ue.some_of {v:V} {o:Option Value} (r:ue (some v) o):∃u,o=some u/\RelV v u:=by
 cases o with
 | none=>exact(show False from r).elim
 | some u=>exact⟨u,rfl,r⟩
theorem ue.none_of {o:Option Value} (r:ue none o):o=none:=by
 cases o with
 | none=>rfl
 | some u=>exact(show False from r).elim
theorem O4 {v:V} {u:Value} (r:RelV v u):PySem.W.handedIn u=true:=by
 cases v with
 | non=>cases (show u=Value.none from r);rfl
 | bl b=>cases (show u=Value.bool b from r);rfl
 | int i=>obtain⟨t,e⟩:=(show ∃t,u=Value.int i t from r);cases e;rfl
 | str x=>obtain⟨t,e⟩:=(show ∃t,u=Value.str x t from r);cases e;rfl
 | byt b=>obtain⟨t,e⟩:=(show ∃t,u=Value.bytes b t from r);cases e;rfl
 | flt b=>obtain⟨t,e⟩:=(show ∃t,u=Value.float b t from r);cases e;rfl
 | ref a=>cases (show u=Value.ref a from r);rfl
 | ty n=>cases (show u=Value.type n from r);rfl
section
variable {P:Program} {w:World} {H H':Hp} {h h':Heap} {a C dx:Addr} {fs fs':List (Str×V)}
theorem Hv (hok:vN P w H h) (e:H a=some (.ins C dx fs)):∃mA,KR h a dx C mA/\(∀f,ue (fs.lookup f) (mA f))/\PySem.Within mA (fs.map (·.1))/\fs.length<=1000/\H dx=some (.own a):=by
 obtain⟨d,z,ne,ob,mA,n,r,q⟩:=(show fV P w H h a (.ins C dx fs) from hok a _ e)
 exact⟨mA,⟨ob,n,ne⟩,r,q,z,d⟩
end
structure NT (K:PySem.W.Frag) (C:Addr):Prop where
 pg:PySem.W.plainGet K C Str.empty=true
 hd:PySem.W.hasDictIn K C=true
 po:PySem.W.plainOver K C=true
 sa:PySem.W.findIn K (.ref C) "__setattr__" =some (some (.builtin "object.__setattr__"))
theorem NT.get {K:PySem.W.Frag} {C:Addr} (c:NT K C) (f:Str):PySem.W.plainGet K C f=true:=c.pg
noncomputable def pR (K:PySem.W.Frag) (C:Addr) (f:Str):Prop:=PySem.W.findIn K (.ref C) f=some none
theorem pR.taker {K:PySem.W.Frag} {C:Addr} {f:Str} (n:pR K C f):PySem.W.takerIn K C f=some none:=by
 unfold PySem.W.takerIn
 rw [show PySem.W.findIn K (.ref C) f=some none from n]
 rfl
structure Meth (K:PySem.W.Frag) (C:Addr) (m:Str) (f:Addr):Prop where
 at_:PySem.W.findIn K (.ref C) m=some (some (.ref f))
 fn:PySem.W.isFn K (.ref f)=true
 kp:PySem.W.keepIn K (.ref f)=true
section
variable {X:Cx} {pins:List (Addr×Obj)} {σ:St} {H:Hp} {s:Shared} {a C dx:Addr} {fs:List (Str×V)} {f:Str} {v:V} {A:Around} {E:Value->Shared->Prop}
theorem DQ {b:Bool} {Q:Value->Shared->Prop} (I:Inv X pins σ H s) (e:H a=some (.ins C dx fs)) (c:NT X.K C) (n:pR X.K C f) (l:fs.lookup f=some v)
  (h:∀u s',Inv X pins σ H s'->RelV v u->Q u s'):wpAny (model X.prog X.w) A (getAttr (.ref a) f b) Q E s:=by
 obtain⟨mA,O,r,_,_,_⟩:=Hv I.hok e
 obtain⟨u,hu,ru⟩:=ue.some_of (v:=v) (o:=mA f) (by rw [<-l];exact r f)
 exact S8 I.kIn O (c.get f) c.hd n hu (O4 ru) (h u _ (I.tok _) ru)
theorem tO {m:Str} {g:Addr} {pl:Sem Bool} {Q:Value×List Value->Shared->Prop} (I:Inv X pins σ H s) (e:H a=some (.ins C dx fs)) (c:NT X.K C) (k:Meth X.K C m g) (l:fs.lookup m=none)
  (h:Q (.ref g,[.ref a]) s):wpAny (model X.prog X.w) A (getMethod (.ref a) m pl) Q E s:=by
 obtain⟨mA,O,r,_,_,_⟩:=Hv I.hok e
 have hn:mA m=none:=ue.none_of (by rw [<-l];exact r m)
 exact Q7 I.kIn O (c.get m) k.at_ k.fn hn h
theorem Cw {y:V} {u:Value} {Q:Unit->Shared->Prop} (I:Inv X pins σ H s) (e:H a=some (.ins C dx fs)) (c:NT X.K C) (n:pR X.K C f) (hl:fs.length <1000) (ry:RelV y u)
  (h:∀s',Inv X pins σ (upd H a (.ins C dx (aJ f y fs))) s'->Q () s'):wpAny (model X.prog X.w) A (setAttr (.ref a) f u) Q E s:=by
 obtain⟨mA,O,r,wi,_,ho⟩:=Hv I.hok e
 have hz:(fs.map (·.1)).length<=sizeLine:=by rw [List.length_map,sizeLine_eq];omega
 refine Uc I.kIn O c.sa c.po n.taker c.hd wi hz fun h' O' sb=>h _ ?_
 have hd:∃o,h'.get? dx=some o:=let ⟨o,_,_,e',_⟩:=O'.ns;⟨o,e'⟩
 refine I.write (x:=a) (e:=dx) (by rw [e];exact True.intro) (.inr ho) (fun b q hb z=>(sb.2 b hb).trans z) hd ?_
 refine⟨by rw [aH O.ne];exact ho,?_,O.ne,O'.obj,_,O'.ns,fun g=>?_,fun g hg=>?_⟩
 ·have:=ux f y fs;omega
 ·show ue ((aJ f y fs).lookup g) (if g=f then some u else mA g)
  rw [aC]
  by_cases q:g=f
  ·rw [if_pos q,if_pos q];exact ry
  ·rw [if_neg q,if_neg q];exact r g
 ·by_cases q:g=f
  ·rw [q];exact(zY f y fs).1
  ·refine(zY f y fs).2 g (wi g fun z=>hg ?_)
   show(if g=f then some u else mA g)=none
   rw [if_neg q];exact z
theorem Inv.made (I:Inv X pins σ H s):Inv X pins σ (upd (upd H s.heap.objs.size (.own (s.heap.objs.size+1))) (s.heap.objs.size+1) (.ins C s.heap.objs.size []))
  { s with heap:=(s.heap.push PySem.W.emptyDict).push (PySem.W.instObj C s.heap.objs.size) }:=by
 have e1:(s.heap.push PySem.W.emptyDict).get? s.heap.objs.size=some PySem.W.emptyDict:=Heap.get?_push_size s.heap rfl
 have e2:((s.heap.push PySem.W.emptyDict).push (PySem.W.instObj C s.heap.objs.size)).get? (s.heap.objs.size+1)=some (PySem.W.instObj C s.heap.objs.size):=by
  have:=Heap.get?_push_size (s.heap.push PySem.W.emptyDict) (o:=PySem.W.instObj C s.heap.objs.size) rfl
  rwa [Heap.size_push] at this
 have e3:(s.heap.push PySem.W.emptyDict).Ns s.heap.objs.size (fun _=>none):=⟨PySem.W.emptyDict,#[],_,e1,rfl,(fun e he=>absurd he (by simp)),fun _=>rfl⟩
 have I1:=I.laid (a:=s.heap.objs.size) (o:=.own (s.heap.objs.size+1)) (h':=s.heap.push PySem.W.emptyDict) (t':=s.toks) (fun b u q=>Heap.get?_push_of_some _ q) (Nat.le_refl _) ⟨_,e1⟩
 refine I1.laid (a:=s.heap.objs.size+1) (o:=.ins C s.heap.objs.size []) (t':=s.toks) (fun b u q=>Heap.get?_push_of_some _ q) (Nat.le_of_eq (Heap.size_push _ _)) ?_
 have ne:s.heap.objs.size≠s.heap.objs.size+1:=Nat.ne_of_lt (Nat.lt_succ_self _)
 refine⟨by rw [aH ne,au],Nat.zero_le _,ne,e2,fun _=>none,(Heap.Ns1.of_empty e3).at fun o q=>Heap.get?_push_of_some _ q,fun _=>True.intro,fun y hy=>absurd rfl hy⟩
theorem Uj {prog:Program} {w:World} {env:Env} {e:Expr} {f:Str} {pos:Pos} {s:Shared} {Q:Value->Shared->Prop} (hb:attributeBase e f env (eval e env)=eval e env)
  (h:wpAny (model prog w) A (eval e env) (fun o s₁=>wpAny (model prog w) A (getAttr o f true) Q E s₁) E s):wpAny (model prog w) A (eval (.Attribute e f pos) env) Q E s:=
 Attribute_any_ h (by rw [arm_eval_Attribute,hb])
end
inductive UV (K:PySem.W.Frag) (f:Str) (Q:VK) (x:V) (H1:Hp):Prop where
 | mk:∀a C dx fs v,x=.ref a->H1 a=some (.ins C dx fs)->NT K C->pR K C f->fs.lookup f=some v->Q v H1->UV K f Q x H1
noncomputable def Yn (K:PySem.W.Frag) (ta:TE) (f:Str):TE:=fun σ H Q=>ta σ H fun x H1=>UV K f Q x H1
inductive Uu (K:PySem.W.Frag) (f:Str) (D:Ends) (σ:St) (y:V) (x:V) (H2:Hp):Prop where
 | mk:∀a C dx fs,x=.ref a->H2 a=some (.ins C dx fs)->NT K C->pR K C f->fs.length <1000->D.nx σ (upd H2 a (.ins C dx (aJ f y fs)))->Uu K f D σ y x H2
noncomputable def Y4 (K:PySem.W.Frag) (ta tv:TE) (f:Str):TS:=fun D σ H=>tv σ H fun y H1=>ta σ H1 fun x H2=>Uu K f D σ y x H2
noncomputable def WP (X:Cx) (op:Operator) (rd:V->V->Hp->VK->Prop):Prop:=
 ∀(pins:List (Addr×Obj)) (s:Shared) (σ:St) (H:Hp) (x y:V) (u v:Value) (Q:VK),Inv X pins σ H s->RelV x u->RelV y v->rd x y H Q->wpAny (model X.prog X.w) X.A (inplaceOp op u v) (EP X pins σ Q) X.xe s
inductive Js (K:PySem.W.Frag) (tv:TE) (rd:V->V->Hp->VK->Prop) (f:Str) (D:Ends) (σ:St) (x:V) (H1:Hp):Prop where
 | mk:∀a C dx fs v,x=.ref a->H1 a=some (.ins C dx fs)->NT K C->pR K C f->fs.lookup f=some v->(tv σ H1 fun y H2=>rd v y H2 fun z H3=>∃dx' fs',H3 a=some (.ins C dx' fs')/\fs'.length <1000/\D.nx σ (upd H3 a (.ins C dx' (aJ f z fs'))))->Js K tv rd f D σ x H1
noncomputable def Tp (K:PySem.W.Frag) (ta tv:TE) (rd:V->V->Hp->VK->Prop) (f:Str):TS:=fun D σ H=>ta σ H fun x H1=>Js K tv rd f D σ x H1
section
variable {X:Cx} {o e value:Expr} {f:Str} {pos pos' tpos:Pos} {ta tv:TE}
theorem bB (he:PE X e ta) (hb:attributeBase e f X.env (eval e X.env)=eval e X.env):PE X (.Attribute e f pos) (Yn X.K ta f):=by
 intro pins s σ H Q I h
 refine Uj hb (dU (he pins s σ H _ I h) fun u s1 hpt=>?_)
 obtain⟨x,H1,I1,rx,a,C,dx,fs,v,ex,ea,c,n,l,q⟩:=hpt
 subst ex
 obtain rfl:u=Value.ref a:=rx
 exact DQ I1 ea c n l fun u' s2 I2 ru=>⟨v,H1,I2,ru,q⟩
theorem ig (ha:PE X o ta) (hv:PE X value tv) (hs:swapsWith value (some (.Attribute o f pos')) pos.line X.env=pure false):PS X (.Assign [.Attribute o f pos'] value pos) (Y4 X.K ta tv f):=by
 intro pins s σ H D I h
 refine plainObj_wpAny_Assign_Attribute (dU (hv pins s σ H _ I h) fun u s1 ⟨y,H1,I1,ry,q⟩=>dU (ha pins s1 σ H1 _ I1 q) fun ov s2 hpt=>?_) hs
 obtain⟨x,H2,I2,rx,a,C,dx,fs,ex,ea,c,n,l,q2⟩:=hpt
 subst ex
 obtain rfl:ov=Value.ref a:=rx
 exact Cw I2 ea c n l ry fun s3 I3=>⟨σ,_,I3,q2⟩
theorem Ot {op:Operator} {rd:V->V->Hp->VK->Prop} (ha:PE X o ta) (hv:PE X value tv) (hop:WP X op rd):PS X (.AugAssign (.Attribute o f tpos) op value pos) (Tp X.K ta tv rd f):=by
 intro pins s σ H D I h
 refine wpAny_AugAssign_AttributeAny (dU (ha pins s σ H _ I h) fun ov s1 hpt=>?_)
 obtain⟨x,H1,I1,rx,a,C,dx,fs,v,ex,ea,c,n,l,q⟩:=hpt
 subst ex
 obtain rfl:ov=Value.ref a:=rx
 refine DQ I1 ea c n l fun u s2 I2 ru=>dU (hv pins s2 σ H1 _ I2 q) fun w3 s3 ⟨y,H2,I3,ry,q3⟩=>dU (hop pins s3 σ H2 v y u w3 _ I3 ru ry q3) fun w4 s4 hpt=>?_
 obtain⟨z,H3,I4,rz,dx',fs',ea',l',q4⟩:=hpt
 exact Cw I4 ea' c n l' rz fun s5 I5=>⟨σ,_,I5,q4⟩
end
section
variable {X:Cx} {pins:List (Addr×Obj)} {σ:St} {H:Hp} {s:Shared} {A:Around} {E:Value->Shared->Prop} {Q:Value->Shared->Prop} {c:Value} {b:Bool}
end
structure jh (k:Nat) (A:Around):Prop where
 hd:A.handled=none
 dp:A.depth+3 * k+5 <recursionLimit
 un:A.units+16 * k+200 <cLine
theorem jh.mono {j k:Nat} {A:Around} (r:jh k A) (h:j<=k):jh j A:=⟨r.hd,by have:=r.dp;omega,by have:=r.un;omega⟩
theorem jh.deeper {k:Nat} {A:Around} (r:jh (k+1) A) (env:Env):jh k (A.deeper env):=
 ⟨r.hd,by have:=r.dp;show A.depth+1+3 * k+5 <_;omega,by have:=r.un;show A.units+3+16 * k+200 <_;omega⟩
theorem KD {A:Around} {C:Addr} {us:List Value} {kw:List (Str×Value)}:(A.under (.builtin "type.__call__" ⟨.ref C:: us,kw⟩)).depth=A.depth+1:=by
 first | rfl | simp [Around.under,Code.weight,Code.isCreation,Code.isGuard,Code.isCaller,Code.frames,Code.isFrame,guardIds]
theorem Kq {A:Around} {C:Addr} {us:List Value} {kw:List (Str×Value)}:(A.under (.builtin "type.__call__" ⟨.ref C:: us,kw⟩)).units=A.units+1:=by
 first | rfl | simp [Around.under,Code.cUnits,Code.frames,Code.isFrame]
theorem jh.make {k:Nat} {A:Around} (r:jh (k+1) A) (C:Addr) (us:List Value) (kw:List (Str×Value)):jh k (A.under (.builtin "type.__call__" ⟨.ref C:: us,kw⟩)):=
 ⟨r.hd,by have:=r.dp;rw [KD];omega,by have:=r.un;rw [Kq];omega⟩
theorem jh.depth {k:Nat} {A:Around} (r:jh k A):A.depth <recursionLimit:=by have:=r.dp;omega
theorem jh.units {k:Nat} {A:Around} (r:jh k A):A.units+64 <cLine:=by have:=r.un;omega
noncomputable def RD:TA:=fun _ H Q=>Q [] H
noncomputable def Xi (ta:TE) (tr:TA):TA:=fun σ H Q=>ta σ H fun x H1=>tr σ H1 fun xs H2=>Q (x:: xs) H2
section
variable {X:Cx} {e:Expr} {es:List Expr} {te:TE} {t:TA} {pos:Pos}
theorem ak:PA X [] RD:=fun _ _ _ _ H Q I h=>Calls.spliced_nil ⟨[],H,I,.nil,h⟩
theorem aa (ha:PE X e te) (hr:PA X es t) (hs:starEach (e:: es) X.env=(false,eval e X.env):: starEach es X.env:=by rfl):PA X (e:: es) (Xi te t):=by
 intro pos pins s σ H Q I h
 rw [hs]
 show wpAny _ _ (spliced ((false,eval e X.env):: backTo pos (starEach es X.env))) _ _ s
 refine Calls.spliced_cons (dU (ha pins s σ H _ I h) fun u s1 hpt=>?_)
 obtain⟨x,H1,I1,r1,q1⟩:=hpt
 exact dU (hr pos pins s1 σ H1 _ I1 q1) fun us s2 ⟨xs,H2,I2,r2,q2⟩=>⟨x:: xs,H2,I2,.cons r1 r2,q2⟩
noncomputable def YF (t:TA):TE:=fun σ H Q=>t σ H fun xs H1=>xs.length<=sizeLine/\∀p,H1 p=none->Q (.ref p) (upd H1 p (.tup xs))
noncomputable def Y6 (t:TA):TE:=fun σ H Q=>t σ H fun xs H1=>xs.length<=sizeLine/\∀p,H1 p=none->Q (.ref p) (upd H1 p (.lst xs))
theorem bV {x1} (h:PA X es t):PE X (.Tuple es x1 pos) (YF t):=by
 intro pins s σ H Q I hq
 refine wpAny_Tuple_spliced (dU (h pos pins s σ H _ I hq) fun us s1 ⟨xs,H1,I1,r,z,q⟩=>⟨by rw [<-r.length];exact z,?_⟩)
 have hf:H1 s1.heap.objs.size=none:=I1.hok.fresh (Nat.le_refl _)
 refine⟨.ref s1.heap.objs.size,upd H1 s1.heap.objs.size (.tup xs),I1.laid (t':=s1.toks) (fun b u e=>Heap.get?_push_of_some _ e) (Nat.le_refl _) ?_,rfl,q _ hf⟩
 exact⟨z,us,r,⟨_,Heap.get?_push_size _ rfl,rfl,_,rfl⟩⟩
theorem bx (h:PA X es t):PE X (.List es pos) (Y6 t):=by
 intro pins s σ H Q I hq
 refine wpAny_List_spliced (dU (h pos pins s σ H _ I hq) fun us s1 ⟨xs,H1,I1,r,z,q⟩=>⟨by rw [<-r.length];exact z,?_⟩)
 have hf:H1 s1.heap.objs.size=none:=I1.hok.fresh (Nat.le_refl _)
 refine⟨.ref s1.heap.objs.size,upd H1 s1.heap.objs.size (.lst xs),I1.laid (t':=s1.toks) (fun b u e=>Heap.get?_push_of_some _ e) (Nat.le_refl _) ?_,rfl,q _ hf⟩
 exact⟨z,us,0,r,Heap.get?_push_size _ rfl⟩
end
noncomputable abbrev Sp:=List V->Hp->VK->XK->Prop
noncomputable abbrev Gk:=List Env->Hp->Shared->XK->Value->Shared->Prop
structure KY (P:Program) (w:World) (K:PySem.W.Frag) (mg:Str->Option Value) (base:Heap) (A:Around) (outer:List Env) (s:Shared) (H:Hp):Prop where
 frames:A.frames=some outer
 mod:Mod K mg base
 bs:∀b o,base.get? b=some o->s.heap.get? b=some o/\H b=none
 bsz:base.objs.size<=s.heap.objs.size
 funs:s.heap.FunFrames base outer
 frf:∀b∈frs outer,H b=none
 hok:vN P w H s.heap
 bare:AllBare s.gens
noncomputable def CE (outer:List Env) (P:Program) (w:World) (H:Hp) (s:Shared) (Q:VK) (u:Value) (s':Shared):Prop:=
 ∃v H',s'.os=s.os/\AllBare s'.gens/\Un (frs outer) [] H H' s.heap s'.heap/\vN P w H' s'.heap/\RelV v u/\Q v H'
noncomputable def CR (CX:Gk) (outer:List Env) (P:Program) (w:World) (H:Hp) (s:Shared) (Q:VK) (E:XK) (r:Result) (s':Shared):Prop:=
 match r with
 | .ok (.ret u)=>CE outer P w H s Q u s'
 | .ok _=>False
 | .error e=>CX outer H s E e s'
structure iU (P:Program) (w:World) (K:PySem.W.Frag) (mg:Str->Option Value) (base:Heap) (CX:Gk) (k:Nat) (f:Addr) (fd:FuncData) (ps:List Str) (sp:Sp):Prop where
 len:∀vs H Q E,sp vs H Q E->vs.length=ps.length
 run:∀(A:Around) (outer:List Env) (s:Shared) (H:Hp) (args:Args) (us:List Value) (vs:List V) (Q:VK) (E:XK),jh k A->KY P w K mg base A outer s H->BindsTo s fd args (ps.zip us)->Vals vs us->sp vs H Q E->
  codeAny (model P w) A (.call (.ref f) args) (CR CX outer P w H s Q E) s
theorem iU.mono {P:Program} {w:World} {K:PySem.W.Frag} {mg:Str->Option Value} {base:Heap} {CX:Gk} {j k:Nat} {f:Addr} {fd:FuncData} {ps:List Str} {sp:Sp} (F:iU P w K mg base CX j f fd ps sp) (h:j<=k):
  iU P w K mg base CX k f fd ps sp:=⟨F.len,fun A outer s H args us vs Q E hr=>F.run A outer s H args us vs Q E (hr.mono h)⟩
theorem iU.imp {P:Program} {w:World} {K:PySem.W.Frag} {mg:Str->Option Value} {base:Heap} {CX:Gk} {k:Nat} {f:Addr} {fd:FuncData} {ps:List Str} {sp sp':Sp} (F:iU P w K mg base CX k f fd ps sp)
  (h:∀vs H Q E,sp' vs H Q E->sp vs H Q E):iU P w K mg base CX k f fd ps sp':=
 ⟨fun vs H Q E q=>F.len vs H Q E (h _ _ _ _ q),fun A outer s H args us vs Q E hr he hb hv hs=>F.run A outer s H args us vs Q E hr he hb hv (h _ _ _ _ hs)⟩
theorem KY.make {P:Program} {w:World} {K:PySem.W.Frag} {mg:Str->Option Value} {base:Heap} {A:Around} {outer:List Env} {s:Shared} {H:Hp} (e:KY P w K mg base A outer s H) (C:Addr) (us:List Value) (kw:List (Str×Value)):
  KY P w K mg base (A.under (.builtin "type.__call__" ⟨.ref C:: us,kw⟩)) outer s H:=⟨by first | exact e.frames | (simpa [Around.under,Code.envs,Code.isFrame,pushEnvs] using e.frames),e.mod,e.bs,e.bsz,e.funs,e.frf,e.hok,e.bare⟩
section
variable {X:Cx} {pins:List (Addr×Obj)} {σ:St} {H:Hp} {s s':Shared}
theorem Inv.env0 (I:Inv X pins σ H s):KY X.prog X.w X.K X.mg X.base X.A X.stack s H:=
 ⟨I.ok.frames,I.ok.mod,I.bs,Nat.le_trans I.ok.bsz I.sz,I.stack,I.stkFree,I.hok,I.bare⟩
theorem Inv.after {Q:VK} {u:Value} (I:Inv X pins σ H s) (h:CE X.stack X.prog X.w H s Q u s'):EP X pins σ Q u s':=by
 obtain⟨v,H',os,bare,un,hok,r,q⟩:=h
 obtain⟨hh,g,d,t,os'⟩:=s'
 obtain rfl:os'=s.os:=os
 exact⟨v,H',I.call (h':=hh) (g':=g) (d':=d) (t':=t) (ch:=[]) un hok bare (fun b z=>absurd z (by simp)),r,q⟩
end
noncomputable def UW (sp:Sp) (dvs:List V) (E:XK) (t:TA):TE:=fun σ H Q=>t σ H fun vs H1=>sp (vs ++ dvs) H1 Q E
inductive Qk (C:Addr) (m:Str) (sp:Sp) (dvs:List V) (E:XK) (t:TA) (σ:St) (Q:VK) (x:V) (H1:Hp):Prop where
 | mk:∀a dx fs,x=.ref a->H1 a=some (.ins C dx fs)->fs.lookup m=none->(t σ H1 fun vs H2=>sp (x:: (vs ++ dvs)) H2 Q E)->Qk C m sp dvs E t σ Q x H1
noncomputable def Mi (C:Addr) (m:Str) (sp:Sp) (dvs:List V) (E:XK) (ta:TE) (t:TA):TE:=fun σ H Q=>ta σ H fun x H1=>Qk C m sp dvs E t σ Q x H1
noncomputable def Yl (C:Addr) (sp:Sp) (dvs:List V) (E:XK) (t:TA):TE:=fun σ H Q=>t σ H fun vs H1=>∀x dx,H1 x=none->H1 dx=none->dx≠x->
 sp (.ref x:: (vs ++ dvs)) (upd (upd H1 dx (.own x)) x (.ins C dx [])) (fun v H2=>v=.non/\Q (.ref x) H2) E
noncomputable def Binds (K:PySem.W.Frag) (fd:FuncData) (ps:List Str) (ds:List Value):Prop:=
 ∀(s:Shared) (us:List Value),K.In s.heap->(us ++ ds).length=ps.length->BindsTo s fd ⟨us,[]⟩ (ps.zip (us ++ ds))
theorem Binds.all {K:PySem.W.Frag} {fd:FuncData} {ps:List Str} (h:∀us:List Value,us.length=ps.length->bindArgs fd ⟨us,[]⟩=pure (ps.zip us)):Binds K fd ps []:=fun s us _ hl=>by
 rw [List.append_nil] at hl ⊢
 exact .of_eq (h us hl)
noncomputable def qL (CX:Gk) (X:Cx) (E:XK):Prop:=∀(pins:List (Addr×Obj)) (σ:St) (H:Hp) (s:Shared) (e:Value) (s':Shared),Inv X pins σ H s->CX X.stack H s E e s'->X.xe e s'
section
variable {X:Cx} {CX:Gk} {k:Nat} {f C:Addr} {fd:FuncData} {ps:List Str} {sp:Sp} {dvs:List V} {ds:List Value} {E:XK} {x m:Str} {p pos apos:Pos} {e o:Expr} {es:List Expr} {ta:TE} {t:TA}
theorem DY {pins:List (Addr×Obj)} {σ:St} {H:Hp} {s:Shared} {Q:VK} {us:List Value} {vs:List V} (F:iU X.prog X.w X.K X.mg X.base CX k f fd ps sp) (hr:jh k X.A) (hb:Binds X.K fd ps ds) (hd:Vals dvs ds) (hx:qL CX X E)
  (I:Inv X pins σ H s) (r:Vals vs us) (h:sp (vs ++ dvs) H Q E):wpAny (model X.prog X.w) X.A (call (.ref f) us) (EP X pins σ Q) X.xe s:=by
 have r2:Vals (vs ++ dvs) (us ++ ds):=r.append hd
 have hl:(us ++ ds).length=ps.length:=by rw [<-r2.length];exact F.len _ _ _ _ h
 refine wpAny_call (codeAny_mono (F.run X.A X.stack s H ⟨us,[]⟩ (us ++ ds) (vs ++ dvs) Q E hr I.env0 (hb s us I.kIn hl) r2 h) fun r s' hq=>?_)
 cases r with
 | error e=>exact hx pins σ H s e s' I hq
 | ok fl=>
  cases fl with
  | ret u=>exact I.after hq
  | next=>exact False.elim hq
  | brk=>exact False.elim hq
  | cont=>exact False.elim hq
theorem Um (F:iU X.prog X.w X.K X.mg X.base CX k f fd ps sp) (hr:jh k X.A) (hg:Gl X x) (hm:X.mg x=some (.ref f)) (hk:PySem.W.keepIn X.K (.ref f)=true) (hb:Binds X.K fd ps ds) (hd:Vals dvs ds) (hx:qL CX X E)
  (ha:PA X (e:: es) t) (hdb:(x == ("__debug__" :Str))=false:=by decide) (he:starEach (e:: es) X.env=(false,eval e X.env):: starEach es X.env:=by rfl) (hpl:(backTo pos (starEach es X.env)).any (·.1)=false:=by rfl):
  PE X (.Call (.Name x p) (e:: es) [] pos) (UW sp dvs E t):=by
 intro pins s σ H Q I h
 refine wpAny_Call_Name_kw (Hg I hg hm ?_ hdb)
 refine PySem.W.callWith_K (h₀:=X.base) I.ok.mod.kin hk (dU (ha pos pins s σ H _ I h) fun us s1 ⟨vs,H1,I1,r,q⟩=>⟨I1.kIn,?_⟩) he hpl
 exact DY F hr hb hd hx I1 r q
theorem M6 {pl:Sem Bool} (he:PE X o ta) (c:NT X.K C) (hm:Meth X.K C m f) (F:iU X.prog X.w X.K X.mg X.base CX k f fd ps sp) (hr:jh k X.A) (hb:Binds X.K fd ps ds) (hd:Vals dvs ds) (hx:qL CX X E) (ha:PA X (e:: es) t)
  (hst:starEach (e:: es) X.env=(false,eval e X.env):: starEach es X.env:=by rfl) (hpl:(backTo pos (starEach es X.env)).any (·.1)=false:=by rfl)
  (ht:eval (.Call (.Attribute o m apos) (e:: es) [] pos) X.env=(do
   let ov <-eval o X.env
   standAt apos.atName
   let (f,first) <-holding [ov] (getMethod ov m pl)
   callWith pos f first (backTo pos (starEach (e:: es) X.env)) (backToKw pos (keywordEach [] X.env))):=by rfl):
  PE X (.Call (.Attribute o m apos) (e:: es) [] pos) (Mi C m sp dvs E ta t):=by
 intro pins s σ H Q I h
 refine PySem.W.methodCall_KW (pl:=pl) (dU (he pins s σ H _ I h) fun u s1 hpt=>?_) ht
 obtain⟨x,H1,I1,rx,a,dx,fs,ex,ea,l,q⟩:=hpt
 subst ex
 obtain rfl:u=Value.ref a:=rx
 refine tO I1 ea c hm l ?_
 refine PySem.W.callWith_K (first:=[.ref a]) (h₀:=X.base) I.ok.mod.kin hm.kp (dU (ha pos pins s1 σ H1 _ I1 q) fun us s2 ⟨vs,H2,I2,r,q2⟩=>⟨I2.kIn,?_⟩) hst hpl
 exact DY (us:=.ref a:: us) (vs:=.ref a:: vs) F hr hb hd hx I2 (.cons rfl r) q2
theorem QD {pl:Sem Bool} (he:PE X o ta) (c:NT X.K C) (hm:Meth X.K C m f) (F:iU X.prog X.w X.K X.mg X.base CX k f fd ps sp) (hr:jh k X.A) (hb:Binds X.K fd ps ds) (hd:Vals dvs ds) (hx:qL CX X E)
  (ht:eval (.Call (.Attribute o m apos) [] [] pos) X.env=(do
   let ov <-eval o X.env
   standAt apos.atName
   let (f,first) <-holding [ov] (getMethod ov m pl)
   callWith pos f first (backTo pos (starEach [] X.env)) (backToKw pos (keywordEach [] X.env))):=by rfl):
  PE X (.Call (.Attribute o m apos) [] [] pos) (Mi C m sp dvs E ta RD):=by
 intro pins s σ H Q I h
 refine PySem.W.methodCall_KW (pl:=pl) (dU (he pins s σ H _ I h) fun u s1 hpt=>?_) ht
 obtain⟨x,H1,I1,rx,a,dx,fs,ex,ea,l,q⟩:=hpt
 subst ex
 obtain rfl:u=Value.ref a:=rx
 refine tO I1 ea c hm l ?_
 exact PySem.W.callWith_K0 (first:=[.ref a]) I1.kIn hm.kp (DY (us:=[.ref a]) (vs:=[.ref a]) F hr hb hd hx I1 (.cons rfl .nil) q)
structure Mk (K:PySem.W.Frag) (C f:Addr):Prop where
 makes:PySem.W.makesIn K C=true
 init:PySem.W.findIn K (.ref C) "__init__" =some (some (.ref f))
 fn:PySem.W.isFn K (.ref f)=true
 kp:PySem.W.keepIn K (.ref C)=true
theorem Pr {pins:List (Addr×Obj)} {σ:St} {H:Hp} {s:Shared} {Q:VK} {us:List Value} {vs:List V} (M:Mk X.K C f) (F:iU X.prog X.w X.K X.mg X.base CX k f fd ps sp) (hr:jh (k+1) X.A) (hb:Binds X.K fd ps ds) (hd:Vals dvs ds)
  (hx:qL CX X E) (I:Inv X pins σ H s) (r:Vals vs us)
  (h:∀x dx,H x=none->H dx=none->dx≠x->sp (.ref x:: (vs ++ dvs)) (upd (upd H dx (.own x)) x (.ins C dx [])) (fun v H2=>v=.non/\Q (.ref x) H2) E):
  wpAny (model X.prog X.w) X.A (call (.ref C) us) (EP X pins σ Q) X.xe s:=by
 have hq:=h (s.heap.objs.size+1) s.heap.objs.size (I.hok.fresh (Nat.le_succ _)) (I.hok.fresh (Nat.le_refl _)) (Nat.ne_of_lt (Nat.lt_succ_self _))
 have I2:=Inv.made (C:=C) I
 have r2:Vals (V.ref (s.heap.objs.size+1):: (vs ++ dvs)) (Value.ref (s.heap.objs.size+1):: (us ++ ds)):=.cons rfl (r.append hd)
 have hl:(Value.ref (s.heap.objs.size+1):: us ++ ds).length=ps.length:=by
  have e:=r2.length
  rw [F.len _ _ _ _ hq] at e
  exact e.symm
 refine wpAny_call (RG (f:=f) I.kIn M.makes M.init (beq_iff_eq.mp M.fn) (codeAny_mono (F.run _ X.stack _ _ ⟨Value.ref (s.heap.objs.size+1):: us,[]⟩ (Value.ref (s.heap.objs.size+1):: (us ++ ds)) _ _ E (hr.make C us [])
  (I2.env0.make C us []) (hb _ (Value.ref (s.heap.objs.size+1):: us) I2.kIn hl) r2 hq) fun r s' hq'=>?_))
 cases r with
 | error e=>exact hx pins σ _ _ e s' I2 hq'
 | ok fl=>
  cases fl with
  | ret u=>
   obtain⟨v,H',I3,rv,ev,q3⟩:=I2.after hq'
   subst ev
   exact⟨rv,⟨V.ref (s.heap.objs.size+1),H',I3,rfl,q3⟩⟩
  | next=>exact False.elim hq'
  | brk=>exact False.elim hq'
  | cont=>exact False.elim hq'
theorem iz (M:Mk X.K C f) (F:iU X.prog X.w X.K X.mg X.base CX k f fd ps sp) (hr:jh (k+1) X.A) (hg:Gl X x) (hm:X.mg x=some (.ref C)) (hb:Binds X.K fd ps ds) (hd:Vals dvs ds) (hx:qL CX X E)
  (ha:PA X (e:: es) t) (hdb:(x == ("__debug__" :Str))=false:=by decide) (he:starEach (e:: es) X.env=(false,eval e X.env):: starEach es X.env:=by rfl) (hpl:(backTo pos (starEach es X.env)).any (·.1)=false:=by rfl):
  PE X (.Call (.Name x p) (e:: es) [] pos) (Yl C sp dvs E t):=by
 intro pins s σ H Q I h
 refine wpAny_Call_Name_kw (Hg I hg hm ?_ hdb)
 refine PySem.W.callWith_K (h₀:=X.base) I.ok.mod.kin M.kp (dU (ha pos pins s σ H _ I h) fun us s1 ⟨vs,H1,I1,r,q⟩=>⟨I1.kIn,?_⟩) he hpl
 exact Pr M F hr hb hd hx I1 r q
end
section
variable {X:Cx} {CX:Gk} {k:Nat} {f C:Addr} {fd:FuncData} {ps ks:List Str} {sp:Sp} {E:XK} {x m:Str} {p pos apos kpos:Pos} {e o:Expr} {es:List Expr} {kws:List Keyword} {te ta:TE} {t tk:TA} {nm:Option Str}
variable {g:List Value->List Value->List Value} {gV:List V->List V->List V}
end
structure fD (N P:List Str) (sc:Scope):Prop where
 kind:sc.kind=.function
 co:sc.isCoroutine=false
 gen:sc.isGenerator=false
 nd:N.Nodup
 pre:N.take P.length=P
 par:∀x∈P,sc.names.lookup x=some .local∨sc.names.lookup x=some .cell
 nofree:∀y∈sc.names,y.2≠.free
theorem Fx {kindOf:Str->Option NameKind} {x:Str}:∀{binds:List (Str×Value)} {m:Str->Option Value},(∀v,(x,v)∉binds)->bindL kindOf binds m x=m x
 | [],_,_=>rfl
 | (n,v):: r,m,h=>by
  unfold bindL
  rw [Fx fun w hw=>h w (List.mem_cons_of_mem _ hw)]
  split
  ·have:x≠n:=by rintro rfl;exact h v List.mem_cons_self
   simp [this]
  ·rfl
theorem Gm {kindOf:Str->Option NameKind} {x:Str}:∀{binds:List (Str×Value)} {m:Str->Option Value},(∀v,(x,v)∉binds)->bindC kindOf binds m x=m x
 | [],_,_=>rfl
 | (n,v):: r,m,h=>by
  unfold bindC
  rw [Gm fun w hw=>h w (List.mem_cons_of_mem _ hw)]
  split
  ·rfl
  ·have:x≠n:=by rintro rfl;exact h v List.mem_cons_self
   simp [this]
theorem Gx {kindOf:Str->Option NameKind} {x:Str} {v:Value}:∀{P:List Str} {vs:List Value} {i:Nat} {m:Str->Option Value},P.Nodup->P[i]?=some x->vs[i]?=some v->kindOf x=some .local->
  bindL kindOf (P.zip vs) m x=some v
 | [],_,_,_,_,h,_,_=>by simp at h
 | _:: _,[],_,_,_,_,h,_=>by simp at h
 | p:: P,w:: vs,0,m,nd,h1,h2,hk=>by
  simp at h1 h2;subst h1;subst h2
  show bindL kindOf ((p,w):: P.zip vs) m p=_
  unfold bindL
  rw [Fx fun v hv=>(List.nodup_cons.mp nd).1 (List.of_mem_zip hv).1,if_pos hk]
  simp
 | p:: P,w:: vs,i+1,m,nd,h1,h2,hk=>by
  show bindL kindOf ((p,w):: P.zip vs) m x=_
  unfold bindL
  exact Gx (i:=i) (List.nodup_cons.mp nd).2 (by simpa using h1) (by simpa using h2) hk
theorem Gj {kindOf:Str->Option NameKind} {x:Str} {v:Value}:∀{P:List Str} {vs:List Value} {i:Nat} {m:Str->Option Value},P.Nodup->P[i]?=some x->vs[i]?=some v->kindOf x≠some .local->
  bindC kindOf (P.zip vs) m x=some v
 | [],_,_,_,_,h,_,_=>by simp at h
 | _:: _,[],_,_,_,_,h,_=>by simp at h
 | p:: P,w:: vs,0,m,nd,h1,h2,hk=>by
  simp at h1 h2;subst h1;subst h2
  show bindC kindOf ((p,w):: P.zip vs) m p=_
  unfold bindC
  rw [Gm fun v hv=>(List.nodup_cons.mp nd).1 (List.of_mem_zip hv).1,if_neg hk]
  simp
 | p:: P,w:: vs,i+1,m,nd,h1,h2,hk=>by
  show bindC kindOf ((p,w):: P.zip vs) m x=_
  unfold bindC
  exact Gj (i:=i) (List.nodup_cons.mp nd).2 (by simpa using h1) (by simpa using h2) hk
noncomputable def start (N:List Str) (vs:List V):St:=vs.map some ++ List.replicate (N.length - vs.length) none
noncomputable def KZ (CX:Gk) (P:Program) (w:World) (K:PySem.W.Frag) (mg:Str->Option Value) (base:Heap) (N:List Str) (qual:Str) (scope:Scope) (f:Addr) (cd:Value) (A:Around) (outer:List Env) (s:Shared) (H:Hp) (E:XK):Cx where
 prog:=P
 w:=w
 K:=K
 mg:=mg
 base:=base
 A:=A.deeper (envOfC qual scope s.heap.objs.size f cd)
 N:=N
 s₀:=s
 H₀:=H
 env:=envOfC qual scope s.heap.objs.size f cd
 outer:=outer
 stack:=envOfC qual scope s.heap.objs.size f cd:: outer
 ex:=[]
 calm:=true
 fn:=fun _=>true
 pn:=[]
 xe:=fun e s'=>wpAny (model P w) (A.deeper (envOfC qual scope s.heap.objs.size f cd)) (leaving (envOfC qual scope s.heap.objs.size f cd) e) (fun _ s''=>CX outer H s E e s'') (fun e' s''=>CX outer H s E e' s'') s'
theorem JK {sc:Scope} {n:Nat} {x:Str} (h:sc.names.lookup x=some .cell):∃c,(cellsFrom n sc.names []).lookup x=some c:=by
 have q:=PySem.W.cellsFrom_some sc.names n [] (.inl h)
 exact Option.isSome_iff_exists.mp q
theorem Oh {CX:Gk} {P:Program} {w:World} {K:PySem.W.Frag} {mg:Str->Option Value} {base:Heap} {N ps:List Str} {qual:Str} {scope:Scope} {f:Addr} {cd:Value} {A:Around} {outer:List Env} {s s1:Shared} {H:Hp} {E:XK} {us:List Value} {vs:List V}
  (S:fD N ps scope) (hd:A.handled=none) (e0:KY P w K mg base A outer s H) (hl:vs.length=ps.length) (r:Vals vs us)
  (x:InCallC s s.heap.objs.size (bindL (envOfC qual scope s.heap.objs.size f cd).kindOf (ps.zip us) fun _=>none) (cellsFrom (s.heap.objs.size+1) scope.names []) (bindC (envOfC qual scope s.heap.objs.size f cd).kindOf (ps.zip us) fun _=>none) s1):
  Inv (KZ CX P w K mg base N qual scope f cd A outer s H E) [] (start N vs) H s1:=by
 have hpl:ps.length<=N.length:=by have:=congrArg List.length S.pre;rw [List.length_take] at this;omega
 obtain⟨h1,tk,rfl,hk⟩:=x.done
 have noA:∀b:Addr,b∉(KZ CX P w K mg base N qual scope f cd A outer s H E).ex:=fun b z=>absurd (show b∈([]:List Addr) from z) (by simp)
 refine⟨⟨e0.mod,S.kind,rfl,rfl,Nat.le_refl _,fun y z c h1 h2=>?_,fun y hy=>?_,fun y c _ h=>?_,fun _=>hd,Around.frames_deeper e0.frames,.inr ⟨rfl,rfl⟩,fun b z=>absurd z (noA b),e0.bs,e0.bsz,fun b _ _=>noA b,fun b z=>absurd z (noA b),e0.funs,e0.frf⟩,
  rfl,e0.bare,Un.kept hk,⟨_,x.toInCall.ns,fun i y v h1 h2 h3=>?_⟩,fun y c h=>⟨_,x.cell y c h⟩,e0.hok.fresh (Nat.le_refl _),fun y c h=>?_,fun p hp=>absurd (show p∈([]:List (Addr×Obj)) from hp) (by simp),e0.hok.kept hk,?_⟩
 ·exact name_of_addr x.apart (PySem.mem_of_lookup h1) (PySem.mem_of_lookup h2)
 ·have hy:scope.names.lookup y=some .cell∨scope.names.lookup y=some .free:=hy
  rcases hy with hy | hy
  ·exact JK hy
  ·exact absurd rfl (S.nofree _ (PySem.mem_of_lookup hy))
 ·exact Nat.le_of_lt (x.above y c (PySem.mem_of_lookup h))
 ·have hi:i <vs.length:=by
   unfold start at h2
   by_cases hi:i <vs.length
   ·exact hi
   ·rw [List.getElem?_append_right (by simpa using hi)] at h2
    rw [List.getElem?_replicate] at h2
    split at h2 <;> cases h2
  have ha:vs[i]?=some v:=by
   unfold start at h2
   rw [List.getElem?_append_left (by simpa using hi),List.getElem?_map] at h2
   cases e:vs[i]? with
   | none=>rw [e] at h2;cases h2
   | some a=>rw [e] at h2;cases h2;rfl
  obtain⟨u,hu,rv⟩:=r.get ha
  have hp:ps[i]?=some y:=by
   rw [<-S.pre,List.getElem?_take_of_lt (by omega)];exact h1
  have ndP:ps.Nodup:=by rw [<-S.pre];exact S.nd.sublist (List.take_sublist _ _)
  refine⟨u,rv,?_⟩
  rcases S.par y (List.mem_of_getElem? hp) with k | k
  ·exact .inl ⟨k,Gx ndP hp hu k⟩
  ·obtain⟨c,e⟩:=JK (n:=s.heap.objs.size+1) k
   refine .inr ⟨.inl k,c,e,?_⟩
   have q:=x.cell y c e
   rw [Gj ndP hp hu (by show scope.names.lookup y≠_;rw [k];decide)] at q
   exact q
 ·exact e0.hok.fresh (Nat.le_of_lt (x.above y c (PySem.mem_of_lookup h)))
 ·unfold start
  show _=N.length
  rw [List.length_append,List.length_map,List.length_replicate]
  omega
theorem Vc {CX:Gk} {P:Program} {w:World} {K:PySem.W.Frag} {mg:Str->Option Value} {base:Heap} {k:Nat} {f:Addr} {name qual:Str} {params:Arguments} {body:List Stmt} {scope:Scope} {dV kV doc pm cdv ct oc:Value} {an od:Option Addr}
  {osl:Array (Option Value)} {N ps:List Str} {sp:Sp} (lk:K.lookup f=some ⟨oc,od,.func (PySem.W.fnOf name qual params body scope dV kV doc pm an cdv ct),osl⟩) (hcd:PySem.W.codeIn K cdv qual=true) (S:fD N ps scope)
  (len:∀vs H Q E,sp vs H Q E->vs.length=ps.length)
  (hbody:∀(A:Around) (outer:List Env) (s:Shared) (H:Hp) (vs:List V) (Q:VK) (E:XK),jh k (A.deeper (envOfC qual scope s.heap.objs.size f cdv))->sp vs H Q E->
   ∃t,Kf (KZ CX P w K mg base N qual scope f cdv A outer s H E) body t/\t { nx:=fun _ H'=>Q .non H',rt:=Q } (start N vs) H):
  iU P w K mg base CX (k+1) f (PySem.W.fnOf name qual params body scope dV kV doc pm an cdv ct) ps sp:=by
 refine⟨len,fun A outer s H args us vs Q E hr e0 hb r hsp=>?_⟩
 have hl:=len _ _ _ _ hsp
 have KX:K.In s.heap:=e0.mod.kin.keeps fun b o e=>(e0.bs b o e).1
 have lim:s.heap.NoLimit:=e0.mod.nolimit.keeps fun b o e=>(e0.bs b o e).1
 have hkind:∀y∈ps.zip us,scope.names.lookup y.1=some .local∨(scope.names.lookup y.1=some .cell/\((cellsFrom (s.heap.objs.size+1) scope.names []).lookup y.1).isSome=true):=fun⟨n,v⟩ hy=>by
  rcases S.par n (List.of_mem_zip hy).1 with q | q
  ·exact .inl q
  ·exact .inr ⟨q,PySem.W.cellsFrom_some _ _ _ (.inl q)⟩
 refine codeAny_call_function hr.depth (KX _ _ lk) rfl S.co S.gen rfl (PySem.W.codeRec_of KX hcd) (hb _ _ _ _ ?_)
 refine wpAny_newFunctionEnv_cells S.kind hkind fun env he s1 x=>?_
 subst he
 refine⟨lim.keeps x.toInCall.keep,codeAny_func ?_⟩
 obtain⟨t,ht,hq⟩:=hbody A outer s H vs Q E (hr.deeper _) hsp
 have I:Inv (KZ CX P w K mg base N qual scope f cdv A outer s H E) [] (start N vs) H s1:=Oh S hr.hd e0 hl r x
 refine wpAny_mono (ht [] s1 (start N vs) H _ I hq) (fun fl s' hs=>?_) fun e s' hs=>hs
 have fin:∀{σ':St} {H':Hp} {v:V} {u:Value},Inv (KZ CX P w K mg base N qual scope f cdv A outer s H E) [] σ' H' s'->RelV v u->Q v H'->CE outer P w H s Q u s':=
  fun {σ' H' v u} J rv q=>⟨v,H',J.os,J.bare,J.base,J.hok,rv,q⟩
 cases fl with
 | ret u=>
  obtain⟨v,σ',H',J,rv,q⟩:=hs
  exact fin J rv q
 | next=>
  obtain⟨σ',H',J,q⟩:=hs
  exact fin (v:=V.non) (u:=Value.none) J rfl q
 | brk=>
  obtain⟨_,_,_,q⟩:=hs
  exact False.elim q
 | cont=>
  obtain⟨_,_,_,q⟩:=hs
  exact False.elim q
section
variable {X:Cx} {x:Str} {p pos:Pos} {e:Expr} {es:List Expr} {t:TA} {id T:String} {r:List V->Hp->VK->Prop}
noncomputable def Zo (r:List V->Hp->VK->Prop) (t:TA):TE:=fun σ H Q=>t σ H fun vs H1=>r vs H1 Q
theorem bG (hc:mO X (.builtin id) r) (hg:Gl X x) (hm:X.mg x=none) (hv:bootBuiltins x=some (.builtin id)) (ha:PA X (e:: es) t) (hn:x≠ "__name__" :=by decide) (hdb:(x == ("__debug__" :Str))=false:=by decide)
  (he:starEach (e:: es) X.env=(false,eval e X.env):: starEach es X.env:=by rfl) (hpl:(backTo pos (starEach es X.env)).any (·.1)=false:=by rfl):PE X (.Call (.Name x p) (e:: es) [] pos) (Zo r t):=by
 intro pins s σ H Q I h
 refine wpAny_Call_Name_kw (CG I hg hm hv ?_ hn hdb)
 exact PyProof.Rows.callWith_builtin1 (dU (ha pos pins s σ H _ I h) fun us s1 ⟨vs,H1,I1,r1,q1⟩=>hc pins s1 σ H1 vs us Q I1 r1 q1) he hpl
theorem dj (hc:mO X (.type T) r) (hg:Gl X x) (hm:X.mg x=none) (hv:bootBuiltins x=some (.type T)) (ha:PA X (e:: es) t) (hn:x≠ "__name__" :=by decide) (hdb:(x == ("__debug__" :Str))=false:=by decide)
  (he:starEach (e:: es) X.env=(false,eval e X.env):: starEach es X.env:=by rfl) (hpl:(backTo pos (starEach es X.env)).any (·.1)=false:=by rfl):PE X (.Call (.Name x p) (e:: es) [] pos) (Zo r t):=by
 intro pins s σ H Q I h
 refine wpAny_Call_Name_kw (CG I hg hm hv ?_ hn hdb)
 exact PyProof.Rows.callWith_type1 (dU (ha pos pins s σ H _ I h) fun us s1 ⟨vs,H1,I1,r1,q1⟩=>hc pins s1 σ H1 vs us Q I1 r1 q1) he hpl
end
end L2
namespace HT
open PySem PyProof.Rows
section
open PySem.SeqAt
open PySem.AutoSeq1 (wpAny_loadPart')
open PySem.MeetsSeq PySem.MeetsSeq2 PySem.MeetsSeq3
end
section
variable {prog:Program} {w:World} {A:Around} {E:Value->Shared->Prop} {s:Shared}
noncomputable def J0 (n d:Nat):Option Int->Nat
 | none=>d
 | some v=>if v <0 then(v+(n:Int)).toNat else min v.toNat n
theorem yV (n d:Nat):J0 n d none=d:=rfl
theorem vU (n d k:Nat):J0 n d (some (k:Int))=min k n:=by
 show(if (k:Int) <0 then((k:Int)+(n:Int)).toNat else min (k:Int).toNat n)=min k n
 rw [if_neg (by omega),Int.toNat_natCast]
end
end HT
namespace L2
open PySem PySem.Spec PyProof.Rows
noncomputable abbrev TO:=St->Hp->(Option Int->Hp->Prop)->Prop
noncomputable def PO (X:Cx) (e:Option Expr) (t:TO):Prop:=
 ∀(pins:List (Addr×Obj)) (s:Shared) (σ:St) (H:Hp) (Q:Option Int->Hp->Prop),Inv X pins σ H s->t σ H Q->
  wpAny (model X.prog X.w) X.A (evalPart e X.env) (fun u s'=>∃o H',Inv X pins σ H' s'/\IsPart u o/\Q o H') X.xe s
noncomputable def S9:TO:=fun _ H Q=>Q none H
inductive Qz (Q:Option Int->Hp->Prop) (x:V) (H1:Hp):Prop where
 | mk:∀i,x=.int i->Q (some i) H1->Qz Q x H1
noncomputable def Xn (t:TE):TO:=fun σ H Q=>t σ H fun x H1=>Qz Q x H1
section
variable {X:Cx} {e:Expr} {te:TE} {lo hi:Option Expr} {tl th:TO} {pos p2:Pos}
theorem vO:PO X none S9:=by
 intro pins s σ H Q I h
 rw [evalPart_none]
 exact wpAny_pure ⟨none,H,I,.none,h⟩
theorem lW (h:PE X e te):PO X (some e) (Xn te):=by
 intro pins s σ H Q I hw
 rw [evalPart_some]
 refine dU (h pins s σ H _ I hw) fun u s1 hpt=>?_
 obtain⟨x,H1,I1,r1,q1⟩:=hpt
 obtain⟨i,rfl,q⟩:=q1
 obtain⟨t,rfl⟩:=r1
 exact⟨some i,H1,I1,.int i t,q⟩
noncomputable def YS (X:Cx) (r:V->Option Int->Option Int->Hp->VK->Prop):Prop:=
 ∀(pins:List (Addr×Obj)) (s:Shared) (σ:St) (H:Hp) (x:V) (v vl vu:Value) (lo hi:Option Int) (sl:Addr) (Q:VK),Inv X pins σ H s->RelV x v->s.heap.IsSliceOf sl vl vu .none->IsPart vl lo->IsPart vu hi->r x lo hi H Q->
  ∃T id,typeLookup (.type T) "__getitem__" =pure (some (.builtin id))/\s.TypeIs v T/\wpAny (model X.prog X.w) X.A (getItem v (.ref sl)) (EP X pins σ Q) X.xe s
noncomputable def tSl (r:V->Option Int->Option Int->Hp->VK->Prop) (te:TE) (tl th:TO):TE:=fun σ H Q=>te σ H fun x H1=>tl σ H1 fun l H2=>th σ H2 fun u H3=>r x l u H3 Q
theorem mH {r:V->Option Int->Option Int->Hp->VK->Prop} (hr:YS X r) (he:PE X e te) (hl:PO X lo tl) (hu:PO X hi th):PE X (.Subscript e (.Slice lo hi none p2) pos) (tSl r te tl th):=by
 intro pins s σ H Q I h
 refine Subscript_ (dU (he pins s σ H _ I h) fun v s1 hpt=>?_)
 obtain⟨x,H1,I1,r1,q1⟩:=hpt
 refine wpAny_Slice (dU (hl pins s1 σ H1 _ I1 q1) fun vl s2 ⟨l,H2,I2,pl,q2⟩=>dU (hu pins s2 σ H2 _ I2 q2) fun vu s3 hpt=>?_)
 obtain⟨u,H3,I3,pu,q3⟩:=hpt
 rw [evalPart_none]
 refine wpAny_pure ?_
 have I4:Inv X pins σ H3 { s3 with heap:=s3.heap.push { cls:=.type "slice",data:=.fields #[vl,vu,.none] } }:=I3.kept (t':=s3.toks) fun b ob q=>Heap.get?_push_of_some _ q
 obtain⟨T,id,hT,ht,hg⟩:=hr pins { s3 with heap:=s3.heap.push { cls:=.type "slice",data:=.fields #[vl,vu,.none] } } σ H3 x v vl vu l u s3.heap.objs.size Q I4 r1 (Heap.IsSliceOf.new ..) pl pu q3
 show wpAny (model X.prog X.w) X.A (subscriptTail e (.Slice lo hi none p2) v (.ref s3.heap.objs.size)) (EP X pins σ Q) X.xe { s3 with heap:=s3.heap.push { cls:=.type "slice",data:=.fields #[vl,vu,.none] } }
 exact tail_any (ops:=[.ref s3.heap.objs.size,v]) ht hT hg (by with_unfolding_all rfl)
noncomputable def wu (xs:List V) (lo hi:Option Int):List V:=(xs.drop (HT.J0 xs.length 0 lo)).take (HT.J0 xs.length xs.length hi - HT.J0 xs.length 0 lo)
theorem JW (xs:List V) (lo hi:Option Int):(wu xs lo hi).length<=xs.length:=by
 unfold wu
 rw [List.length_take,List.length_drop]
 omega
end
noncomputable def WL (n:Nat) (i:Int):Option Nat:=if 0<=i then(if i <n then some i.toNat else none) else if -(n:Int)<=i then some (i+n).toNat else none
noncomputable def FZ {α:Type} (xs:List α) (i:Int):Option α:=(WL xs.length i).bind fun j=>xs[j]?
theorem TY {n:Nat} {i:Int} {j:Nat} (h:WL n i=some j):seqIndex? i n=some j/\j <n/\ -(n:Int)<=i/\i <n:=by
 unfold WL at h
 by_cases h0:0<=i
 ·rw [if_pos h0] at h
  by_cases h1:i <n
  ·rw [if_pos h1] at h
   have e:i.toNat=j:=Option.some.inj h
   exact⟨by rw [seqIndex_of h0 h1,e],by omega,by omega,h1⟩
  ·rw [if_neg h1] at h;cases h
 ·rw [if_neg h0] at h
  by_cases h1: -(n:Int)<=i
  ·rw [if_pos h1] at h
   have e:(i+n).toNat=j:=Option.some.inj h
   exact⟨by rw [seqIndex_neg (by omega) h1,e],by omega,h1,by omega⟩
  ·rw [if_neg h1] at h;cases h
theorem Hm {α:Type} {xs:List α} {i:Int} {v:α} (h:FZ xs i=some v):∃j,seqIndex? i xs.length=some j/\xs[j]?=some v/\j <xs.length/\ -(xs.length:Int)<=i/\i <xs.length:=by
 unfold FZ at h
 cases e:WL xs.length i with
 | none=>rw [e] at h;cases h
 | some j=>
  rw [e] at h
  obtain⟨h1,h2,h3,h4⟩:=TY e
  exact⟨j,h1,h,h2,h3,h4⟩
theorem aM {α:Type} {xs:List α} {j:Nat} {v:α} (h:xs[j]?=some v):FZ xs (j:Int)=some v:=by
 have hj:j <xs.length:=(List.getElem?_eq_some_iff.mp h).1
 have e:WL xs.length (j:Int)=some j:=by
  unfold WL
  rw [if_pos (by omega),if_pos (by omega)];simp
 unfold FZ;rw [e];exact h
noncomputable def M5 (b:Expr):Prop:=∀o i,subscripted b false o i=operate [o,i] (getItem o i)
noncomputable def Pq (X:Cx) (r:R2):Prop:=
 ∀(value slice:Expr) (pins:List (Addr×Obj)) (s:Shared) (σ:St) (H:Hp) (x y:V) (v u:Value) (Q:VK),Inv X pins σ H s->RelV x v->RelV y u->r x y H Q->
  subscripted slice false v u=operate [v,u] (getItem v u)->wpAny (model X.prog X.w) X.A (subscriptTail value slice v u) (EP X pins σ Q) X.xe s
noncomputable def YJ (X:Cx) (id:String) (r:V->List V->Hp->VK->Prop):Prop:=
 ∀(pins:List (Addr×Obj)) (s:Shared) (σ:St) (H:Hp) (x:V) (xs:List V) (v:Value) (us:List Value) (Q:VK),Inv X pins σ H s->RelV x v->Vals xs us->r x xs H Q->
  wpAny (model X.prog X.w) X.A (call (.builtin id) (v:: us)) (EP X pins σ Q) X.xe s
section
variable {X:Cx} {a b:Expr} {ta tb:TE} {pos:Pos}
theorem Pq.or {r r':R2} (h:Pq X r) (h':Pq X r'):Pq X (fun x y H Q=>r x y H Q∨r' x y H Q):=by
 intro value slice pins s σ H x y v u Q I rx ry q hs
 rcases q with q | q
 ·exact h value slice pins s σ H x y v u Q I rx ry q hs
 ·exact h' value slice pins s σ H x y v u Q I rx ry q hs
theorem aO {r:R2} (hr:Pq X r) (ha:PE X a ta) (hb:PE X b tb) (hs:M5 b):PE X (.Subscript a b pos) (X7 r ta tb):=by
 intro pins s σ H Q I h
 exact Subscript_ (VM ha hb I h fun v u s2 x y H2 I2 rx ry q=>hr a b pins s2 σ H2 x y v u Q I2 rx ry q (hs _ _))
inductive UJ (K:PySem.W.Frag) (x:V) (y:V) (H:Hp) (Q:VK):Prop where
 | mk:∀p xs i v,x=.ref p->y=.int i->bL K H p xs->FZ xs i=some v->Q v H->UJ K x y H Q
noncomputable def Wk (K:PySem.W.Frag):R2:=fun x y H Q=>UJ K x y H Q
inductive Vl (K:PySem.W.Frag) (x:V) (y:V) (H:Hp) (Q:VK):Prop where
 | mk:∀p xs i v,x=.ref p->y=.int i->eN K H p xs->FZ xs i=some v->Q v H->Vl K x y H Q
noncomputable def Vz (K:PySem.W.Frag):R2:=fun x y H Q=>Vl K x y H Q
inductive Uv (x:V) (y:V) (H:Hp) (Q:VK):Prop where
 | mk:∀z i c,x=.str z->y=.int i->z.length<=sizeLine->FZ z.cps.toList i=some c->Q (.str ⟨#[c]⟩) H->Uv x y H Q
noncomputable def Yc:R2:=fun x y H Q=>Uv x y H Q
theorem aQ:Pq X (Wk X.K):=by
 intro value slice pins s σ H x y v u Q I rx ry h hs
 obtain⟨p,xs,i,z,rfl,rfl,hq,he,q⟩:=h
 cases rx
 obtain⟨t,rfl⟩:=ry
 obtain⟨its,r,pl,hz⟩:=I.list hq
 obtain⟨j,h1,h2,h3,h4,h5⟩:=Hm he
 obtain⟨w,ew,rw'⟩:=r.get h2
 have hl:=r.length
 have hn:=Hx
 have fin:EP X pins σ Q w s:=⟨z,H,I,rw',q⟩
 by_cases h0:0<=i
 ·have hj:i.toNat=j:=by
   rw [seqIndex_of h0 h5] at h1
   exact Option.some.inj h1
  exact item_listR pl.isList h0 (by omega) (by rw [hj];simpa using ew) fin hs
 ·have hj:(i+(its.toArray.size:Int)).toNat=j:=by
   rw [seqIndex_neg (by omega) h4] at h1
   rw [List.size_toArray,<-hl]
   exact Option.some.inj h1
  exact subscriptTail_builtinR (x:=w) pl.isList.typeIs slot_list_getitem.lookup
   (wpAny_getItem_list_neg (Q:=fun r s'=>r=w/\EP X pins σ Q r s') pl.isList (by omega) (by rw [List.size_toArray] <;> omega) (by omega) (by rw [hj];simpa using ew) ⟨rfl,fin⟩) hs
theorem cM:Pq X (Vz X.K):=by
 intro value slice pins s σ H x y v u Q I rx ry h hs
 obtain⟨p,xs,i,z,rfl,rfl,hq,he,q⟩:=h
 cases rx
 obtain⟨t,rfl⟩:=ry
 obtain⟨its,r,pl,hz⟩:=I.tuple hq
 obtain⟨j,h1,h2,h3,h4,h5⟩:=Hm he
 obtain⟨w,ew,rw'⟩:=r.get h2
 have hl:=r.length
 have hn:=Hx
 have fin:EP X pins σ Q w s:=⟨z,H,I,rw',q⟩
 exact subscriptTail_builtinR (x:=w) pl.typeIs slot_tuple_getitem.lookup
  (getItem_tuple (j:=j) (Q:=fun r s'=>r=w/\EP X pins σ Q r s') pl (by omega) (by omega) (by rw [List.size_toArray,<-hl];exact h1) (by simpa using ew) ⟨rfl,fin⟩) hs
theorem Dd:Pq X Yc:=by
 intro value slice pins s σ H x y v u Q I rx ry h hs
 obtain⟨z,i,c,rfl,rfl,hz,he,q⟩:=h
 obtain⟨t,rfl⟩:=rx
 obtain⟨t',rfl⟩:=ry
 obtain⟨j,h1,h2,h3,h4,h5⟩:=Hm he
 have hl:z.cps.toList.length=z.length:=by simp [Str.length]
 rw [hl] at h1 h4 h5
 have hn:=Hx
 exact tail_any (typeIs_str s z t) slot_str_getitem.lookup (getItem_str (c:=c) (by
  have e1:decide (i < -(2 ^ 63:Int))=false:=decide_eq_false (by omega)
  have e2:decide (i≥2 ^ 63)=false:=decide_eq_false (by omega)
  rw [e1,e2,Bool.or_false]) (by rw [h1];simpa using h2) ⟨.str ⟨#[c]⟩,H,I.tok _,⟨_,rfl⟩,q⟩) hs
noncomputable def rIx (K:PySem.W.Frag):R2:=fun x y H Q=>Wk K x y H Q∨Vz K x y H Q∨Yc x y H Q
theorem Ly:Pq X (rIx X.K):=aQ.or (cM.or Dd)
theorem HQ (lo hi:Option Int) (n:Nat):(sliceBounds lo hi none n).1=((HT.J0 n 0 lo:Nat):Int)/\(sliceBounds lo hi none n).2.1=((HT.J0 n n hi:Nat):Int)/\(sliceBounds lo hi none n).2.2=1:=by
 refine⟨?_,?_,rfl⟩
 ·cases lo with
  | none=>simp [sliceBounds,HT.J0]
  | some i=>
   simp only [sliceBounds,HT.J0,Option.getD_none,show(1:Int) >0 by decide,if_true]
   by_cases h:i <0
   ·simp only [h,if_true] <;> omega
   ·simp only [h,if_false] <;> omega
 ·cases hi with
  | none=>simp [sliceBounds,HT.J0]
  | some i=>
   simp only [sliceBounds,HT.J0,Option.getD_none,show(1:Int) >0 by decide,if_true]
   by_cases h:i <0
   ·simp only [h,if_true] <;> omega
   ·simp only [h,if_false] <;> omega
theorem Em (its:List Value) (lo hi:Option Int):slicePick its.toArray lo hi none=((its.drop (HT.J0 its.length 0 lo)).take (HT.J0 its.length its.length hi - HT.J0 its.length 0 lo)).toArray:=by
 obtain⟨h1,h2,h3⟩:=HQ lo hi its.toArray.size
 unfold slicePick
 rw [h1,h2,h3]
 simp only [sliceRange_one,pick_run,List.size_toArray] <;> rfl
inductive Vn (K:PySem.W.Frag) (x:V) (lo:Option Int) (hi:Option Int) (H:Hp) (Q:VK):Prop where
 | mk:∀a xs,x=.ref a->bL K H a xs->(∀p,H p=none->Q (.ref p) (upd H p (.lst (wu xs lo hi))))->Vn K x lo hi H Q
noncomputable def Y7 (K:PySem.W.Frag):V->Option Int->Option Int->Hp->VK->Prop:=fun x lo hi H Q=>Vn K x lo hi H Q
theorem vH:YS X (Y7 X.K):=by
 intro pins s σ H x v vl vu lo hi sl Q I rx hs pl pu h
 obtain⟨a,xs,rfl,hx,q⟩:=h
 cases rx
 obtain⟨its,r,ht,hz⟩:=I.list hx
 have hlen:=r.length
 refine⟨"list",_,slot_list_getitem.lookup,ht.isList.typeIs,?_⟩
 refine wpAny_getItem_list_slice ht.isList hs pl pu .none (by simp) ?_ (by rw [List.size_toArray] <;> omega)
 rw [Em,<-hlen]
 refine⟨.ref s.heap.objs.size,_,I.laid (t':=s.toks) (o:=.lst (wu xs lo hi)) (fun b ob q=>Heap.get?_push_of_some _ q) (Nat.le_refl _) ?_,rfl,q _ (I.hok.fresh (Nat.le_refl _))⟩
 exact⟨Nat.le_trans (JW xs lo hi) hz,_,0,(r.drop (HT.J0 xs.length 0 lo)).take (HT.J0 xs.length xs.length hi - HT.J0 xs.length 0 lo),Heap.get?_push_size _ rfl⟩
noncomputable def kW:V->Bool
 | .non=>true
 | .bl _=>true
 | .int _=>true
 | .str _=>true
 | _=>false
noncomputable def Io:V->V->Bool
 | .non,.non=>true
 | .bl a,.bl b=>a == b
 | .bl a,.int b=>(if a then 1 else 0) == b
 | .int a,.bl b=>a == (if b then 1 else 0)
 | .int a,.int b=>a == b
 | .str a,.str b=>a == b
 | _,_=>false
theorem V6 {A:Around} {s:Shared} {y x:V} {u v:Value} (ry:RelV y u) (rx:RelV x v) (fy:kW y=true) (fx:kW x=true):SeqAt.EqAt A s u v (Io y x):=by
 cases y with
 | non=>
  cases ry
  cases x with
  | non=>cases rx;exact SeqAt.EqAt.same _
  | bl b=>cases rx;exact SeqAt.EqAt.none_bool b
  | int b=>obtain⟨t,rfl⟩:=rx;exact SeqAt.EqAt.none_int b t
  | str b=>obtain⟨t,rfl⟩:=rx;exact SeqAt.EqAt.none_str b t
  | _=>exact absurd (show false=true from fx) Bool.false_ne_true
 | bl a=>
  cases ry
  cases x with
  | non=>cases rx;exact SeqAt.EqAt.bool_none a
  | bl b=>cases rx;exact SeqAt.EqAt.bool_bool a b
  | int b=>obtain⟨t,rfl⟩:=rx;exact SeqAt.EqAt.bool_int a b t
  | str b=>obtain⟨t,rfl⟩:=rx;exact SeqAt.EqAt.bool_str a b t
  | _=>exact absurd (show false=true from fx) Bool.false_ne_true
 | int a=>
  obtain⟨t',rfl⟩:=ry
  cases x with
  | non=>cases rx;exact SeqAt.EqAt.int_none a t'
  | bl b=>cases rx;exact SeqAt.EqAt.int_bool a t' b
  | int b=>obtain⟨t,rfl⟩:=rx;exact SeqAt.EqAt.int_int a t' b t
  | str b=>obtain⟨t,rfl⟩:=rx;exact SeqAt.EqAt.int_str a t' b t
  | _=>exact absurd (show false=true from fx) Bool.false_ne_true
 | str a=>
  obtain⟨t',rfl⟩:=ry
  cases x with
  | non=>cases rx;exact SeqAt.EqAt.str_none a t'
  | bl b=>cases rx;exact SeqAt.EqAt.str_bool a t' b
  | int b=>obtain⟨t,rfl⟩:=rx;exact SeqAt.EqAt.str_int a t' b t
  | str b=>obtain⟨t,rfl⟩:=rx;exact SeqAt.EqAt.str_str a t' b t
  | _=>exact absurd (show false=true from fx) Bool.false_ne_true
 | _=>exact absurd (show false=true from fy) Bool.false_ne_true
noncomputable def K7 (x:V) (u:Value):Bool:=match u with
 | .none=>Io .non x
 | .bool b=>Io (.bl b) x
 | .int i _=>Io (.int i) x
 | .str z _=>Io (.str z) x
 | _=>false
theorem Rf {x y:V} {u:Value} (r:RelV y u) (f:kW y=true):K7 x u=Io y x:=by
 cases y with
 | non=>cases r;rfl
 | bl b=>cases r;rfl
 | int i=>obtain⟨t,rfl⟩:=r;rfl
 | str z=>obtain⟨t,rfl⟩:=r;rfl
 | _=>exact absurd (show false=true from f) Bool.false_ne_true
theorem yZ {x:V}:∀{xs:List V} {us:List Value},Vals xs us->xs.all kW=true->us.any (K7 x)=xs.any fun y=>Io y x
 | _,_,.nil,_=>rfl
 | y:: xs,u:: us,.cons r t,f=>by
  rw [List.all_cons,Bool.and_eq_true] at f
  rw [List.any_cons,List.any_cons,Rf r f.1,yZ t f.2]
theorem uX {A:Around} {s:Shared} {x:V} {v:Value} (rx:RelV x v) (fx:kW x=true):∀{xs:List V} {us:List Value},Vals xs us->xs.all kW=true->∀u∈us,SeqAt.EqAt A s u v (K7 x u)
 | _,_,.nil,_=>fun u hu=>by cases hu
 | y:: xs,u:: us,.cons r t,f=>fun u' hu=>by
  rw [List.all_cons,Bool.and_eq_true] at f
  rcases List.mem_cons.mp hu with rfl | hu
  ·rw [Rf r f.1];exact V6 r rx f.1 fx
  ·exact uX rx fx t f.2 u' hu
noncomputable def inV (x:V) (xs:List V):Bool:=xs.any fun y=>Io y x
inductive WX (K:PySem.W.Frag) (neg:Bool) (x:V) (y:V) (H:Hp) (Q:VK):Prop where
 | mk:∀p xs,y=.ref p->((bL K H p xs∨eN K H p xs))->kW x=true->xs.all kW=true->(Q (.bl (if neg then !inV x xs else inV x xs)) H)->WX K neg x y H Q
noncomputable def Yu (K:PySem.W.Frag) (neg:Bool):R2:=fun x y H Q=>WX K neg x y H Q
theorem FW:vQ X (compareOp .In) (Yu X.K false):=by
 intro pins s σ H x y v u Q I rx ry h
 obtain⟨p,xs,rfl,hq,fx,fs,q⟩:=h
 cases ry
 rcases hq with hq | hq
 ·obtain⟨its,r,pl,hz⟩:=I.list hq
  refine SeqAt.in_listAt (K7 x) pl.isList (fun w hw=>uX rx fx r fs w (by simpa using hw)) ⟨.bl _,H,I,rfl,?_⟩
  rw [show its.toArray.any (K7 x)=its.any (K7 x) by simp,yZ r fs]
  exact q
 ·obtain⟨its,r,pl,hz⟩:=I.tuple hq
  refine SeqAt.in_tupleAt (K7 x) pl (fun w hw=>uX rx fx r fs w (by simpa using hw)) ⟨.bl _,H,I,rfl,?_⟩
  rw [show its.toArray.any (K7 x)=its.any (K7 x) by simp,yZ r fs]
  exact q
theorem jf:vQ X (compareOp .NotIn) (Yu X.K true):=by
 intro pins s σ H x y v u Q I rx ry h
 obtain⟨p,xs,rfl,hq,fx,fs,q⟩:=h
 cases ry
 rcases hq with hq | hq
 ·obtain⟨its,r,pl,hz⟩:=I.list hq
  refine SeqAt.notIn_listAt (K7 x) pl.isList (fun w hw=>uX rx fx r fs w (by simpa using hw)) ⟨.bl _,H,I,rfl,?_⟩
  rw [show its.toArray.any (K7 x)=its.any (K7 x) by simp,yZ r fs]
  exact q
 ·obtain⟨its,r,pl,hz⟩:=I.tuple hq
  refine SeqAt.notIn_tupleAt (K7 x) pl (fun w hw=>uX rx fx r fs w (by simpa using hw)) ⟨.bl _,H,I,rfl,?_⟩
  rw [show its.toArray.any (K7 x)=its.any (K7 x) by simp,yZ r fs]
  exact q
theorem jM:mO X (.type "list") (fun xs H Q=>∃p ys,xs=[.ref p]/\(bL X.K H p ys∨eN X.K H p ys)/\∀l,H l=none->Q (.ref l) (upd H l (.lst ys))):=by
 intro pins s σ H xs us Q I r h
 obtain⟨p,ys,rfl,hq,q⟩:=h
 obtain⟨u,rfl,rx⟩:=vals1 r
 cases rx
 have fin:∀(its:List Value),Vals ys its->ys.length<=sizeLine->∀(h':Heap) (c':Nat),(∀b o',s.heap.get? b=some o'->h'.get? b=some o')->
   h'.get? s.heap.objs.size=some { cls:=.type "list",dict:=none,data:=.seq its.toArray c',slots:=#[] }->EP X pins σ Q (.ref s.heap.objs.size) { s with heap:=h' }:=fun its r' hz h' c' kp e=>
  ⟨.ref s.heap.objs.size,_,I.laid (t':=s.toks) kp (Nat.le_refl _) (show fV X.prog X.w _ h' _ (.lst ys) from⟨hz,its,c',r',e⟩),rfl,q _ (I.hok.fresh (Nat.le_refl _))⟩
 rcases hq with hq | hq
 ·obtain⟨its,r',pl,hz⟩:=I.list hq
  have hlen:=r'.length
  obtain⟨o,ho,hc,n,hd⟩:=pl.isList
  exact call_list_seq p (.inl rfl) ho hc hd (fun h' c' kp e=>fin its r' hz h' c' kp e) (by simp only [List.size_toArray] <;> omega)
 ·obtain⟨its,r',pl,hz⟩:=I.tuple hq
  have hlen:=r'.length
  obtain⟨o,ho,hc,n,hd⟩:=pl
  exact call_list_seq p (.inr rfl) ho hc hd (fun h' c' kp e=>fin its r' hz h' c' kp e) (by simp only [List.size_toArray] <;> omega)
theorem Eu:mO X (.type "tuple") (fun xs H Q=>∃p ys,xs=[.ref p]/\((bL X.K H p ys/\∀l,H l=none->Q (.ref l) (upd H l (.tup ys)))∨(eN X.K H p ys/\Q (.ref p) H))):=by
 intro pins s σ H xs us Q I r h
 obtain⟨p,ys,rfl,h⟩:=h
 obtain⟨u,rfl,rx⟩:=vals1 r
 cases rx
 rcases h with ⟨hq,q⟩ | ⟨hq,q⟩
 ·obtain⟨its,r',pl,hz⟩:=I.list hq
  have hlen:=r'.length
  refine call_tuple_list pl.isList (fun h' kp=>?_) (by simp only [List.size_toArray] <;> omega)
  have I1:Inv X pins σ H { s with heap:=h' }:=I.kept (t':=s.toks) kp
  have I2:Inv X pins σ (upd H h'.objs.size (.tup ys)) { s with heap:=h'.push { cls:=.type "tuple",data:=.seq its.toArray } }:=
   I1.laid (t':=s.toks) (fun b o e=>Heap.get?_push_of_some _ e) (Nat.le_refl _) (show fV X.prog X.w _ _ _ (.tup ys) from⟨hz,its,r',IsTup.new _ _⟩)
  exact⟨.ref h'.objs.size,_,I2,rfl,q _ (I1.hok.fresh (Nat.le_refl _))⟩
 ·obtain⟨its,r',pl,hz⟩:=I.tuple hq
  exact call_tuple_same pl ⟨.ref p,H,I,rfl,q⟩
noncomputable def YW (K:PySem.W.Frag) (T:String) (x:V) (H:Hp):Prop:=match x with
 | .str _=>T= "str"
 | .int _=>T= "int"
 | .ref p=>(T= "list" /\∃xs,bL K H p xs)∨(T= "tuple" /\∃o,K.lookup p=some o/\o.cls=.type "tuple" /\o.dict=none)∨
   (T= "dict" /\((∃kvs,H p=some (.dK kvs))∨∃kvs,H p=some (.dT kvs)))∨(T= "set" /\∃S n,H p=some (.set S n))
 | _=>False
theorem Qa {pins:List (Addr×Obj)} {σ:St} {H:Hp} {s:Shared} {T:String} {x:V} {v:Value} (I:Inv X pins σ H s) (r:RelV x v) (ty:YW X.K T x H):
  s.TypeIs v T/\∀a,v=.ref a->∃ob,s.heap.get? a=some ob/\ob.dict=none:=by
 cases x with
 | str z=>
  obtain⟨t,rfl⟩:=r
  cases (show T= "str" from ty)
  exact⟨typeIs_str s z t,fun _ e=>nomatch e⟩
 | int i=>
  obtain⟨t,rfl⟩:=r
  cases (show T= "int" from ty)
  exact⟨typeIs_int s i t,fun _ e=>nomatch e⟩
 | ref p=>
  cases r
  rcases ty with ⟨rfl,xs,hq⟩ | ⟨rfl,o,hk,hc,hd⟩ | ⟨rfl,hk⟩ | ⟨rfl,S,n,hk⟩
  ·obtain⟨its,_,pl,_⟩:=I.list hq
   refine⟨pl.isList.typeIs,fun a e=>?_⟩
   cases e
   obtain⟨o,n,e,c,hd,_⟩:=pl
   exact⟨o,e,hd⟩
  ·refine⟨⟨o,I.kIn p o hk,hc⟩,fun a e=>?_⟩
   cases e
   exact⟨o,I.kIn _ o hk,hd⟩
  ·have z:∃o,s.heap.get? p=some o/\o.ExactDict:=by
    rcases hk with ⟨kvs,hk⟩ | ⟨kvs,hk⟩
    ·obtain⟨_,_,_,_,o,_,_,e,ex,_⟩:=I.hok p _ hk
     exact⟨o,e,ex⟩
    ·obtain⟨_,_,_,_,o,_,_,e,ex,_⟩:=I.hok p _ hk
     exact⟨o,e,ex⟩
   obtain⟨o,e,ex⟩:=z
   refine⟨⟨o,e,ex.1⟩,fun a e2=>?_⟩
   cases e2
   exact⟨o,e,ex.2.1⟩
  ·obtain⟨o,_,_,_,e,ex,_⟩:=I.hok p _ hk
   refine⟨⟨o,e,ex.1⟩,fun a e2=>?_⟩
   cases e2
   exact⟨o,e,ex.2.1⟩
 | _=>exact False.elim ty
noncomputable def YT (K:PySem.W.Frag) (T:String) (r:V->List V->Hp->VK->Prop) (to:TE):TE:=fun σ H Q=>to σ H fun x H1=>YW K T x H1/\r x [] H1 Q
noncomputable def Zt (K:PySem.W.Frag) (T:String) (r:V->List V->Hp->VK->Prop) (to:TE) (t:TA):TE:=fun σ H Q=>to σ H fun x H1=>YW K T x H1/\t σ H1 fun xs H2=>r x xs H2 Q
variable {o e:Expr} {es:List Expr} {to:TE} {t:TA} {name:Str} {apos cpos:Pos} {T id:String} {r:V->List V->Hp->VK->Prop}
theorem G7 (pa:PlainAttrs T) (slot:Slot T name id) (hty:typeOf (.builtin id)=pure (.type "method_descriptor")) (hm:YJ X id r) (ho:PE X o to)
  (hbase:attributeBase o name X.env (eval o X.env)=eval o X.env:=by rfl) (hline:(apos.endLine == cpos.line)=true:=by rfl):PE X (.Call (.Attribute o name apos) [] [] cpos) (YT X.K T r to):=by
 intro pins s σ H Q I h
 refine wpAny_Call_method0_late hbase hline (dU (ho pins s σ H _ I h) fun v s1 hpt=>?_)
 obtain⟨x,H1,I1,r1,ty,q1⟩:=hpt
 obtain⟨h1,h2⟩:=Qa I1 r1 ty
 exact⟨T,id,pa,slot,hty,h1,h2,Calls.callWith_builtin rfl (PySem.evalArgs_none (hm pins s1 σ H1 x [] v [] Q I1 r1 .nil q1))⟩
theorem ye (pa:PlainAttrs T) (slot:Slot T name id) (hty:typeOf (.builtin id)=pure (.type "method_descriptor")) (hm:YJ X id r) (ho:PE X o to) (ha:PA X (e:: es) t)
  (hbase:attributeBase o name X.env (eval o X.env)=eval o X.env:=by rfl)
  (hfew:((backTo cpos (starEach (e:: es) X.env)).all (fun x=>!x.1) && (backToKw cpos (keywordEach [] X.env)).all (fun x=>x.1.isSome)
   && decide ((e:: es).length+([]:List Keyword).length+(if ([]:List Keyword).isEmpty then 0 else 1) <30))=true:=by rfl)
  (hline:(apos.endLine == cpos.line)=true:=by rfl) (hs:starEach (e:: es) X.env=(false,eval e X.env):: starEach es X.env:=by rfl) (hplain:(backTo cpos (starEach es X.env)).any (·.1)=false:=by rfl):
  PE X (.Call (.Attribute o name apos) (e:: es) [] cpos) (Zt X.K T r to t):=by
 intro pins s σ H Q I h
 refine wpAny_Call_method_late hbase hfew hline rfl (dU (ho pins s σ H _ I h) fun v s1 hpt=>?_)
 obtain⟨x,H1,I1,r1,ty,q1⟩:=hpt
 obtain⟨h1,h2⟩:=Qa I1 r1 ty
 refine⟨T,id,pa,slot,hty,h1,h2,?_⟩
 have hA:=ha cpos pins s1 σ H1 _ I1 q1
 rw [hs] at hA ⊢
 refine Calls.callWith_builtin (by show(false || (backTo cpos (starEach es X.env)).any (·.1))=false;rw [hplain] <;> rfl) (Calls.evalArgs_plain ?_)
 exact dU hA fun us s2 ⟨vs,H2,I2,r2,q2⟩=>hm pins s2 σ H2 x vs v us Q I2 r1 r2 q2
end
noncomputable def Xu (X:Cx) (id:String) (r:V->List V->Hp->VK->Prop):Prop:=
 ∀(pins:List (Addr×Obj)) (s:Shared) (σ:St) (H:Hp) (x:V) (xs:List V) (v:Value) (us:List Value) (Q:VK),Inv X pins σ H s->RelV x v->Vals xs us->r x xs H Q->
  wpAny (model X.prog X.w) X.A (call (.builtin id) (v:: us)) (EP X pins σ Q) X.xe s
theorem Vals.one:∀{x:V} {us:List Value},Vals [x] us->∃u,us=[u]/\RelV x u
 | _,_,.cons r .nil=>⟨_,rfl,r⟩
theorem Vals.zero:∀{us:List Value},Vals [] us->us=[]
 | _,.nil=>rfl
theorem Vals.dropLast {xs:List V} {us:List Value} (h:Vals xs us):Vals xs.dropLast us.dropLast:=by
 induction h with
 | nil=>exact .nil
 | cons r t ih=>
  cases t with
  | nil=>exact .nil
  | cons q t'=>exact .cons r ih
theorem Vals.eraseIdx:∀{xs:List V} {us:List Value} (i:Nat),Vals xs us->Vals (xs.eraseIdx i) (us.eraseIdx i)
 | _,_,_,.nil=>.nil
 | _,_,0,.cons _ t=>t
 | _,_,i+1,.cons r t=>.cons r (Vals.eraseIdx i t)
theorem K9 {α:Type} (l:List α):l.eraseIdx (l.length - 1)=l.dropLast:=by
 induction l with
 | nil=>rfl
 | cons a r ih=>
  cases r with
  | nil=>rfl
  | cons b r=>
   have e:(a:: b:: r).length - 1=((b:: r).length - 1)+1:=by
    have h1:(a:: b:: r).length=r.length+2:=rfl
    have h2:(b:: r).length=r.length+1:=rfl
    omega
   rw [e,List.eraseIdx_cons_succ,ih]
   all_goals rfl
theorem FQ {α:Type}:∀(l:List α) (i:Nat),(l.eraseIdx i).length<=l.length
 | [],_=>Nat.le_refl _
 | _:: _,0=>Nat.le_succ _
 | _:: r,i+1=>Nat.succ_le_succ (FQ r i)
section
variable {X:Cx} {pins:List (Addr×Obj)} {σ:St} {H:Hp} {s:Shared} {l b:Addr} {xs ys zs:List V}
theorem Inv.lset {its its':List Value} {n:Nat} {f:Array Value->Array Value} {t':Nat} (I:Inv X pins σ H s) (hH:H l=some (.lst xs))
  (e:s.heap.get? l=some { cls:=.type "list",data:=.seq its.toArray n }) (hf:f its.toArray=its'.toArray) (hv:Vals ys its') (hz:ys.length<=sizeLine):
  Inv X pins σ (upd H l (.lst ys)) { s with heap:=s.heap.update l (Obj.mapSeq f),toks:=t' }:=by
 have q:=PySem.IsL.update e f
 rw [hf] at q
 refine I.write (x:=l) (e:=l) (by rw [hH];exact trivial) (.inl rfl) (fun b' u hb hu=>(Heap.get?_update_other s.heap (Obj.mapSeq f) (Ne.symm hb)).trans hu) ⟨_,q⟩ ?_
 exact⟨hz,its',_,hv,q⟩
theorem Inv.lnew {its:List Value} {t':Nat} (I:Inv X pins σ H s) (hv:Vals ys its) (hz:ys.length<=sizeLine):
  Inv X pins σ (upd H s.heap.objs.size (.lst ys)) { s with heap:=s.heap.push { cls:=.type "list",data:=.seq its.toArray },toks:=t' }:=
 I.laid (fun _ _ q=>Heap.get?_push_of_some _ q) (Nat.le_refl _) ⟨hz,its,0,hv,Heap.get?_push_size _ rfl⟩
theorem Inv.fresh (I:Inv X pins σ H s):H s.heap.objs.size=none:=I.hok.fresh (Nat.le_refl _)
theorem Inv.lstM (I:Inv X pins σ H s) (hH:H l=some (.lst xs)):xs.length<=sizeLine/\∃(its:List Value) (n:Nat),Vals xs its/\xs.length=its.length/\s.heap.get? l=some { cls:=.type "list",data:=.seq its.toArray n }:=by
 obtain⟨z,its,n,r,e⟩:=I.hok l _ hH
 exact⟨z,its,n,r,r.length,e⟩
theorem QX {n:Nat} (h:n<=sizeLine):Builtin.List.listTooLong n=false:=by
 unfold Builtin.List.listTooLong
 exact decide_eq_false (by omega)
end
section
variable {X:Cx}
inductive Jx (x:V) (vs:List V) (H:Hp) (Q:VK):Prop where
 | mk:∀l xs y,x=.ref l->vs=[y]->H l=some (.lst xs)->xs.length <sizeLine->Q .non (upd H l (.lst (xs ++ [y])))->Jx x vs H Q
noncomputable def Mw:V->List V->Hp->VK->Prop:=fun x vs H Q=>Jx x vs H Q
theorem NQ:Xu X "list.append" Mw:=by
 intro pins s σ H x vs v us Q I rx rv h
 obtain⟨l,xs,y,rfl,rfl,hH,hz,q⟩:=h
 cases rx
 obtain⟨u,rfl,ru⟩:=rv.one
 obtain⟨z,its,n,r,hl,e⟩:=I.lstM hH
 refine call_meets F.slot_list_append ⟨_,e,rfl⟩ F.entry_list_append (F.args_list_append_2 _ _) (PySem.list_append l its.toArray n u (by rw [List.size_toArray];omega)) ⟨e,?_⟩
 refine⟨.non,_,I.lset (its':=its ++ [u]) hH e (by simp) (r.append (.cons ru .nil)) ?_,rfl,q⟩
 rw [List.length_append,List.length_singleton]
 omega
inductive J3 (x:V) (vs:List V) (H:Hp) (Q:VK):Prop where
 | mk:∀l b xs zs,x=.ref l->vs=[.ref b]->H l=some (.lst xs)->H b=some (.lst zs)->xs.length+zs.length<=sizeLine->Q .non (upd H l (.lst (xs ++ zs)))->J3 x vs H Q
noncomputable def TV:V->List V->Hp->VK->Prop:=fun x vs H Q=>J3 x vs H Q
theorem Ge:Xu X "list.extend" TV:=by
 intro pins s σ H x vs v us Q I rx rv h
 obtain⟨l,b,xs,zs,rfl,rfl,hH,hB,hz,q⟩:=h
 cases rx
 obtain⟨u,rfl,ru⟩:=rv.one
 cases ru
 obtain⟨z,its,n,r,hl,e⟩:=I.lstM hH
 obtain⟨z2,its2,n2,r2,hl2,e2⟩:=I.lstM hB
 have hsz:its.toArray.size+its2.toArray.size<=sizeLine:=by rw [List.size_toArray,List.size_toArray];omega
 have hlong:¬(!its.toArray.isEmpty && Builtin.List.listTooLong (its.toArray.size+its2.toArray.size))=true:=by
  rw [QX hsz,Bool.and_false]
  exact Bool.false_ne_true
 refine call_meets F.slot_list_extend ⟨_,e,rfl⟩ F.entry_list_extend (F.args_list_extend_2 _ _)
  (AutoSeq1.list_extend_list_list_0 l its.toArray n b its2.toArray n2 hlong (by rw [List.size_toArray];omega) (by omega)) ⟨e,e2,?_⟩
 refine⟨.non,_,I.lset (its':=its ++ its2) hH e (by simp) (r.append r2) ?_,rfl,q⟩
 rw [List.length_append]
 omega
inductive Vb (x:V) (vs:List V) (H:Hp) (Q:VK):Prop where
 | mk:∀l xs y,x=.ref l->vs=[]->H l=some (.lst xs)->xs[xs.length - 1]?=some y->Q y (upd H l (.lst xs.dropLast))->Vb x vs H Q
noncomputable def Y5:V->List V->Hp->VK->Prop:=fun x vs H Q=>Vb x vs H Q
theorem Kv:Xu X "list.pop" Y5:=by
 intro pins s σ H x vs v us Q I rx rv h
 obtain⟨l,xs,y,rfl,rfl,hH,hy,q⟩:=h
 cases rx
 have hus:=rv.zero
 subst hus
 obtain⟨z,its,n,r,hl,e⟩:=I.lstM hH
 obtain⟨u,hu,ru⟩:=r.get hy
 have hy':its.toArray[its.toArray.size - 1]?=some u:=by
  show its.toArray[its.length - 1]?=some u
  rw [<-Array.getElem?_toList,<-hl]
  exact hu
 refine call_meets F.slot_list_pop ⟨_,e,rfl⟩ F.entry_list_pop (F.args_list_pop_1 _) (MeetsSeq.list_pop_last l its.toArray n u hy' (by rw [List.size_toArray];omega)) ⟨e,?_⟩
 refine⟨y,_,I.lset (its':=its.dropLast) hH e ?_ r.dropLast ?_,ru,q⟩
 ·show its.toArray.eraseIdxIfInBounds (its.toArray.size - 1)=its.dropLast.toArray
  rw [List.size_toArray,List.eraseIdxIfInBounds_toArray,K9]
 ·rw [List.length_dropLast]
  omega
inductive Ma (x:V) (vs:List V) (H:Hp) (Q:VK):Prop where
 | mk:∀l xs i k y,x=.ref l->vs=[.int i]->H l=some (.lst xs)-> -(2 ^ 63)<=i->i <2 ^ 63->seqIndex? i xs.length=some k->xs[k]?=some y->Q y (upd H l (.lst (xs.eraseIdx k)))->Ma x vs H Q
noncomputable def Wj:V->List V->Hp->VK->Prop:=fun x vs H Q=>Ma x vs H Q
theorem uV:Xu X "list.pop" Wj:=by
 intro pins s σ H x vs v us Q I rx rv h
 obtain⟨l,xs,i,k,y,rfl,rfl,hH,h1,h2,hk,hy,q⟩:=h
 cases rx
 obtain⟨u,rfl,ru⟩:=rv.one
 obtain⟨t,rfl⟩:=ru
 obtain⟨z,its,n,r,hl,e⟩:=I.lstM hH
 obtain⟨w,hw,rw'⟩:=r.get hy
 refine call_meets F.slot_list_pop ⟨_,e,rfl⟩ F.entry_list_pop (F.args_list_pop_2 _ _)
  (MeetsSeq.list_pop_at l its.toArray n i t k w (fitsIndex_both h1 h2) (by rw [List.size_toArray,<-hl];exact hk) (by rw [<-Array.getElem?_toList];exact hw) (by rw [List.size_toArray];omega)) ⟨e,?_⟩
 refine⟨y,_,I.lset (its':=its.eraseIdx k) hH e ?_ (r.eraseIdx k) ?_,rw',q⟩
 ·show its.toArray.eraseIdxIfInBounds k=(its.eraseIdx k).toArray
  rw [List.eraseIdxIfInBounds_toArray]
 ·have:=FQ xs k
  omega
inductive M3 (x:V) (vs:List V) (H:Hp) (Q:VK):Prop where
 | mk:∀l xs,x=.ref l->vs=[]->H l=some (.lst xs)->Q .non (upd H l (.lst []))->M3 x vs H Q
noncomputable def Vw:V->List V->Hp->VK->Prop:=fun x vs H Q=>M3 x vs H Q
theorem Qj:Xu X "list.clear" Vw:=by
 intro pins s σ H x vs v us Q I rx rv h
 obtain⟨l,xs,rfl,rfl,hH,q⟩:=h
 cases rx
 have hus:=rv.zero
 subst hus
 obtain⟨z,its,n,r,hl,e⟩:=I.lstM hH
 refine call_meets F.slot_list_clear ⟨_,e,rfl⟩ F.entry_list_clear (F.args_list_clear_1 _) (AutoSeq1.list_clear_list_0 l its.toArray n (by rw [List.size_toArray];omega)) ⟨e,?_⟩
 exact⟨.non,_,I.lset (its':=[]) (ys:=[]) hH e rfl .nil (Nat.zero_le _),rfl,q⟩
inductive Vg (x:V) (y:V) (H:Hp) (Q:VK):Prop where
 | mk:∀l b xs zs,x=.ref l->y=.ref b->H l=some (.lst xs)->H b=some (.lst zs)->xs.length+zs.length<=sizeLine->(∀p,H p=none->Q (.ref p) (upd H p (.lst (xs ++ zs))))->Vg x y H Q
noncomputable def Y9:R2:=fun x y H Q=>Vg x y H Q
theorem HS:vQ X (binaryOp .Add) Y9:=by
 intro pins s σ H x y v u Q I rx ry h
 obtain⟨l,b,xs,zs,rfl,rfl,hH,hB,hz,q⟩:=h
 cases rx
 cases ry
 obtain⟨z,its,n,r,hl,e⟩:=I.lstM hH
 obtain⟨z2,its2,n2,r2,hl2,e2⟩:=I.lstM hB
 refine PySem.P.add_list e e2 ?_ (by rw [List.size_toArray,List.size_toArray];omega)
 have ea:its.toArray ++ its2.toArray=(its ++ its2).toArray:=by simp
 rw [ea]
 exact⟨.ref _,_,I.lnew (t':=s.toks) (r.append r2) (by rw [List.length_append];omega),rfl,q _ I.fresh⟩
end
section
variable {prog:Program} {w:World} {A:Around} {E:Value->Shared->Prop} {s:Shared}
end
section
variable {X:Cx}
end
end L2
namespace Att
open PySem PySem.W PySem.Calls PyProof.Rows
theorem Bs {P:Params} {h:Heap}:∀(ns:List Int) (vs:List Value),WellAll P h vs (ns.map WData.int)->IntsAre vs ns:=by
 intro ns
 induction ns with
 | nil=>
  intro vs w
  rw [List.map_nil] at w
  cases w
  exact .nil
 | cons n ns ih=>
  intro vs w
  rw [List.map_cons] at w
  cases w with
  | cons a b=>
   cases a
   exact .cons _ _ (ih _ b)
theorem OD {l:OpenLaw} {n:Nat} (hn:l.most=some n) {P:Params} {h:Heap} {args:List WData} {vals:List Value}
  (hpre:l.row.toRowW.claim.pre args=true) (hwl:WellAll P h vals args):
  ∃a vs ns,vals=[Value.ref a]/\args=[WData.list (ns.map WData.int)]/\h.get? a=some { cls:=.type "list",data:=.seq vs.toArray }/\IntsAre vs ns/\ns.length<=n:=by
 have hsh:WShape.hasAll [] args [.list .int]=true:=(pre_splitW hpre).1
 have hc:l.pre.holds [] { args:=args }=true:=(pre_splitW hpre).2
 obtain⟨d,r,rfl,h1,h2⟩:=hasAllW_cons hsh
 obtain rfl:=hasAllW_nil h2
 obtain⟨xs,rfl,h3⟩:=hasW_list h1
 obtain⟨ns,rfl⟩:=items_int h3
 have hlen:ns.length<=n:=by
  unfold OpenLaw.pre at hc
  have h4:(WTm.not (.lt (.lit (.int (n:Int))) (.len (.arg 0)))).holds [] { args:=[.list (ns.map .int)] }=true:=by
   have h4:=(holds_andW hc).1
   rw [hn] at h4
   exact h4
  have h5:=condW_of h4 (w_not (w_lt w_lit (w_len_list (w_arg rfl))))
  rw [List.length_map] at h5
  refine Nat.le_of_not_lt fun q=>?_
  have q':(n:Int) <((ns.length:Nat):Int):=by omega
  first
   | (rw [decide_eq_true q'] at h5;exact absurd h5 (by decide))
   | (simp at h5;omega)
 cases hwl with
 | cons w1 w2=>
  cases w2
  cases w1 with
  | list ho hall=>exact⟨_,_,ns,rfl,rfl,ho,Bs ns _ hall,hlen⟩
theorem Nx (l:OpenLaw) (args:List WData):l.row.toRowW.claim.post args (.bool true) args=true:=
 postW_of (r:=l.row.toRowW) (X:=(true == true))
  (show WShape.has [] (.bool true) .bool=true by first | rfl | decide | simp [WShape.has,WShape.arms,WShape.armsAll])
  (show(WTm.eq .res (.lit (.bool true))).value [] { args:=args,res:=some (.bool true),after:=args }=some (.bool (true == true)) from w_eq_bool (w_res rfl) w_lit) rfl
theorem JN {l:OpenLaw} {n:Nat} {q:Program} {loose:List Str} {XP:(Str->Option Value)->Heap->Prop} {YP:World->Heap->Prop} {d:DefRec}
  (hn:l.most=some n) (hdf:d.params.defaults=[])
  (call:∀(w:World) (s₀ s₁:Shared) (mg mb:Str->Option Value) (fa:Addr) (o:Obj) (pm cd doc:Value) (a:Addr) (vs:List Value) (ns:List Int),
   Ground q loose [] XP w s₀ mg mb s₁.heap->YP w s₁.heap->
   s₁.heap.get? fa=some o->o.data=.func (docDef d.name d.params d.body d.scope pm cd doc)->s₁.heap.CodeRec cd d.name->mg d.name=some (.ref fa)->
   s₁.heap.get? a=some { cls:=.type "list",data:=.seq vs.toArray }->IntsAre vs ns->ns.length<=n->s₁.gens= #[]->
   codeAny (model l.prog w) callerA (.call (.ref fa) ⟨[.ref a],[]⟩) (fun r s'=>r=.ok (.ret (.bool true))/\OldK s₁.heap s'.heap/\s'.os=s₁.os/\AllBare s'.gens) s₁):
  WalkO q loose XP YP l.row.toRowW d [] (fun f vs=>PySem.call f vs):=by
 intro w s₀ s₁ mg mb G Y fa o pm cd doc dV kV ho hd hcd hD hmg hg args vals as hpre hlay hrd hwl hlo
 obtain rfl:dV=.none:=Dflts.none hD hdf
 obtain rfl:kV=.none:=Dflts.noKw hD
 obtain⟨a,vs,ns,rfl,rfl,hobj,hints,hlen⟩:=OD hn hpre hwl
 refine enter_call (codeAny_mono (call w s₀ s₁ mg mb fa o pm cd doc a vs ns G Y ho (fd_plain hd) hcd hmg hobj hints hlen hg) fun r s' hq=>?_)
 obtain⟨rfl,h2,h3,h4⟩:=hq
 exact⟨.inl ⟨.bool true,.bool true,[],rfl,fun _=>rfl,.bool true,Nx l _,fun _=>⟨List.Pairwise.nil,fun _ hm=>(nomatch hm)⟩⟩,h2,h3,h4⟩
section
variable {prog:Program} {w:World} {A:Around} {E:Value->Shared->Prop} {s:Shared} {K:Frag}
end
end Att
namespace L2
open PySem PySem.Spec PyProof.Rows
theorem FN:∀{vs:List Value} {ns:List Int},IntsAre vs ns->Vals (ns.map V.int) vs
 | _,_,.nil=>.nil
 | _,_,.cons n t h=>.cons ⟨t,rfl⟩ (FN h)
noncomputable def Only (H:Hp):Prop:=∀b,H b=none∨∃o xs,H b=some (.frz o (.lst xs))
theorem Rr {P:Program} {w:World} {K:PySem.W.Frag} {mg mb:Str->Option Value} {CX:Gk} {k:Nat} {fa a:Addr} {fd:FuncData} {x:Str} {sp:Sp} {s₁:Shared} {vs:List Value} {ns:List Int}
  (KX:K.In s₁.heap) (hns:s₁.heap.Ns mainGlobals mg) (hb:s₁.heap.Ns builtinsNs mb) (hbb:∀x:Str,x≠ "__name__" ->mb x=bootBuiltins x) (hlim:s₁.heap.NoLimit) (hg:s₁.gens= #[])
  (ha:s₁.heap.get? a=some { cls:=.type "list",data:=.seq vs.toArray }) (hi:IntsAre vs ns) (hl:ns.length<=sizeLine) (hr:jh k callerA)
  (F:∀base:Heap,K.In base->base.Ns mainGlobals mg->iU P w K mg base CX k fa fd [x] sp) (hbind:∀(s:Shared) (u:Value),BindsTo s fd ⟨[u],[]⟩ [(x,u)])
  (hsp:∀H:Hp,Only H->bL K H a (ns.map V.int)->sp [.ref a] H (fun v _=>v=.bl true) fun _ _ _=>False)
  (hCX:∀H e s',CX [] H s₁ (fun _ _ _=>False) e s'->False):
  codeAny (model P w) callerA (.call (.ref fa) ⟨[.ref a],[]⟩) (fun r s'=>r=.ok (.ret (.bool true))/\OldK s₁.heap s'.heap/\s'.os=s₁.os/\AllBare s'.gens) s₁:=by
 have rv:=FN hi
 have lenV:=hi.length
 have core:∀H:Hp,Only H->bL K H a (ns.map V.int)->vN P w H s₁.heap->(∀b,H b≠none->b=a)->(H a≠none->K.lookup a=none)->
   codeAny (model P w) callerA (.call (.ref fa) ⟨[.ref a],[]⟩) (fun r s'=>r=.ok (.ret (.bool true))/\OldK s₁.heap s'.heap/\s'.os=s₁.os/\AllBare s'.gens) s₁:=by
  intro H hO hS hok hA hK
  have base_of:∀{b:Addr} {o:Obj},s₁.heap.get? b=some o->H b=none->(Hs s₁.heap H).get? b=some o:=fun e n=>PK e n
  have noA:∀{b:Addr} {o:Obj} {es:Array DictEntry} {ep:Nat},s₁.heap.get? b=some o->o.data=.dict es ep->H b=none:=fun {b o es ep} e d=>by
   cases q:H b with
   | none=>rfl
   | some u=>
    have e':b=a:=hA b (by rw [q];simp)
    subst e'
    rw [ha] at e;cases e
    have d':Data.seq vs.toArray _=Data.dict es ep:=d
    cases d'
  have Pk:∀{b:Addr} {m:Str->Option Value},s₁.heap.Ns b m->(Hs s₁.heap H).Ns b m:=fun {b m} ⟨o,es,ep,e,d,r⟩=>⟨o,es,ep,base_of e (noA e d),d,r⟩
  have hKb:K.In (Hs s₁.heap H):=fun b o e=>base_of (KX b o e) (by
   cases q:H b with
   | none=>rfl
   | some u=>
    have e':b=a:=hA b (by rw [q];simp)
    subst e'
    rw [hK (by rw [q];simp)] at e;cases e)
  have hM:Mod K mg (Hs s₁.heap H):=⟨hKb,Pk hns,⟨mb,Pk hb,hbb⟩,let ⟨mc,h1,h2⟩:=hlim;⟨mc,Pk h1,h2⟩⟩
  have e0:KY P w K mg (Hs s₁.heap H) callerA [] s₁ H:=⟨rfl,hM,fun b o e=>Ti e,Nat.le_of_eq (Ow _ _),trivial,fun b hb=>absurd (show b∈([]:List Addr) from hb) (by simp),hok,.of_eq hg⟩
  refine codeAny_mono ((F _ hKb (Pk hns)).run callerA [] s₁ H ⟨[.ref a],[]⟩ [.ref a] [.ref a] _ _ hr e0 (hbind s₁ (.ref a)) (.cons rfl .nil) (hsp H hO hS)) fun r s' h=>?_
  cases r with
  | error e=>exact(hCX H e s' h).elim
  | ok fl=>
   cases fl with
   | next=>exact False.elim h
   | brk=>exact False.elim h
   | cont=>exact False.elim h
   | ret u=>
    obtain⟨v,H',os,bare,un,hok',r',q⟩:=h
    have q':v=.bl true:=q
    subst q'
    obtain rfl:u=Value.bool true:=r'
    refine⟨rfl,OldK.of_keep fun b o e=>?_,os,bare⟩
    cases q:H b with
    | none=>exact un.keep b o e q (by intro z;exact absurd (show b∈([]:List Addr) from z) (by simp)) (by simp)
    | some u=>
     rcases hO b with z | ⟨ob,xs,z⟩
     ·rw [q] at z;cases z
     ·have z2:=un.frzs b ob _ z
      obtain⟨e1,_⟩:=hok b _ z
      obtain⟨e2,_⟩:=hok' b _ z2
      rw [e] at e1;cases e1
      exact e2
 cases hk:K.lookup a with
 | some o=>
  have e:=KX a o hk
  rw [ha] at e
  cases e
  refine core (fun _=>none) (fun _=>.inl rfl) (.inr ⟨_,vs.toArray,_,hk,rfl,rfl,rfl,by rw [List.size_toArray,lenV];exact hl,by simpa using rv⟩) (fun b u z=>by have z':(none:Option HO)=some u:=z;cases z') (fun b z=>absurd rfl z) fun z=>absurd rfl z
 | none=>
  refine core (fun b=>if b=a then some (.frz { cls:=.type "list",data:=.seq vs.toArray } (.lst (ns.map V.int))) else none) (fun b=>?_) (.inl (.inr ⟨{ cls:=.type "list",data:=.seq vs.toArray },if_pos rfl⟩)) (fun b u z=>?_) (fun b z=>?_) fun _=>hk
  ·by_cases hb:b=a
   ·exact .inr ⟨_,_,if_pos hb⟩
   ·exact .inl (if_neg hb)
  ·by_cases hb:b=a
   ·have z':=(if_pos hb).symm.trans z
    cases z'
    subst hb
    exact⟨ha,by rw [List.length_map];exact hl,vs,_,rv,ha⟩
   ·have z':=(if_neg hb).symm.trans z
    cases z'
  ·by_cases hb:b=a
   ·exact hb
   ·exact absurd (if_neg hb) z
theorem Tc {l:PySem.W.OpenLaw} {n k:Nat} {q:Program} {loose:List Str} {XP:(Str->Option Value)->Heap->Prop} {YP:World->Heap->Prop} {d:DefRec} {K:Params->PySem.W.Frag} {CX:World->Gk} {sp:World->Sp} {x:Str}
  (hn:l.most=some n) (hn2:n<=sizeLine) (hdf:d.params.defaults=[]) (hr:jh k callerA)
  (hY:∀(w:World) (h:Heap),YP w h->(K w.params).In h)
  (F:∀(w:World) (mg:Str->Option Value) (fa:Addr) (h:Heap),(K w.params).In h->h.Ns mainGlobals mg->mg d.name=some (.ref fa)->
   ∃fd:FuncData,(∀(s:Shared) (u:Value),BindsTo s fd ⟨[u],[]⟩ [(x,u)])/\
    ∀base:Heap,(K w.params).In base->base.Ns mainGlobals mg->iU l.prog w (K w.params) mg base (CX w) k fa fd [x] (sp w))
  (hsp:∀(w:World) (H:Hp) (a:Addr) (ns:List Int),ns.length<=n->Only H->bL (K w.params) H a (ns.map V.int)->sp w [.ref a] H (fun v _=>v=.bl true) fun _ _ _=>False)
  (hCX:∀(w:World) (H:Hp) (s:Shared) (e:Value) (s':Shared),CX w [] H s (fun _ _ _=>False) e s'->False):
  PySem.W.WalkO q loose XP YP l.row.toRowW d [] (fun f vs=>PySem.call f vs):=by
 refine Att.JN hn hdf fun w s₀ s₁ mg mb fa o pm cd doc a vs ns G Y ho hd hcd hmg hobj hints hlen hg=>?_
 have KX:=hY w _ Y
 obtain⟨fd,hb,hF⟩:=F w mg fa _ KX G.T.g hmg
 exact Rr KX G.T.g G.T.b G.T.builtins G.T.nolimit hg hobj hints (Nat.le_trans hlen hn2) hr hF hb (fun H hO hS=>hsp w H a ns hlen hO hS) fun H e s'=>hCX w H s₁ e s'
noncomputable def inClass (s:Stmt) (j:Nat):Stmt:=match s with
 | .ClassDef _ _ _ body _ _ _ _ _ _ _=>body.getD j (.Pass ⟨0,0,0,0⟩)
 | _=>.Pass ⟨0,0,0,0⟩
noncomputable def iZ (s:Stmt):Arguments:=match s with
 | .FunctionDef _ a _ _ _ _ _ _ _ _=>a
 | _=>{ posonlyargs:=[],args:=[],vararg:=none,kwonlyargs:=[],kw_defaults:=[],kwarg:=none,defaults:=[] }
noncomputable def gJ (s:Stmt):List Stmt:=match s with
 | .FunctionDef _ _ b _ _ _ _ _ _ _=>b
 | _=>[]
noncomputable def aU (s:Stmt):Scope:=match s with
 | .FunctionDef _ _ _ _ _ _ sc _ _ _=>sc
 | _=>{ kind:=.function,names:=[],isGenerator:=false,isCoroutine:=false }
noncomputable abbrev Cr:Gk:=fun _ _ _ _ _ _=>False
noncomputable abbrev E0:XK:=fun _ _ _=>False
theorem ir {X:Cx}:qL Cr X E0:=fun _ _ _ _ _ _ _ h=>h.elim
structure Vt (K:PySem.W.Frag) (x qual:Str) (st:Stmt) (f:Addr) (fd:FuncData):Prop where
 ex:∃(oc:Value) (od:Option Addr) (kV doc pm:Value) (an:Option Addr) (cdv ct:Value) (osl:Array (Option Value)),
  fd=PySem.W.fnOf x qual (iZ st) (gJ st) (aU st) .none kV doc pm an cdv ct/\K.lookup f=some ⟨oc,od,.func fd,osl⟩/\PySem.W.codeIn K cdv qual=true
 kp:PySem.W.keepIn K (.ref f)=true
section
variable {P:Program} {w:World} {K:PySem.W.Frag} {mg:Str->Option Value} {base:Heap}
theorem Vt.ok {x qual:Str} {st:Stmt} {f:Addr} {fd:FuncData} {N ps:List Str} {k:Nat} {sp:Sp} (F:Vt K x qual st f fd) (S:fD N ps (aU st)) (len:∀vs H Q E,sp vs H Q E->vs.length=ps.length)
  (hbody:∀(cdv:Value) (A:Around) (outer:List Env) (s:Shared) (H:Hp) (vs:List V) (Q:VK) (E:XK),jh k (A.deeper (envOfC qual (aU st) s.heap.objs.size f cdv))->sp vs H Q E->
   ∃t,Kf (KZ Cr P w K mg base N qual (aU st) f cdv A outer s H E).nox (gJ st) t/\t { nx:=fun _ H'=>Q .non H',rt:=Q } (start N vs) H):iU P w K mg base Cr (k+1) f fd ps sp:=by
 obtain⟨oc,od,kV,doc,pm,an,cdv,ct,osl,rfl,lk,hcd⟩:=F.ex
 refine Vc lk hcd S len fun A outer s H vs Q E hr hsp=>?_
 obtain⟨t,h,q⟩:=hbody cdv A outer s H vs Q E hr hsp
 exact⟨t,h.nox,q⟩
theorem Vt.binds {x qual:Str} {st:Stmt} {f:Addr} {fd:FuncData} {ps:List Str} (F:Vt K x qual st f fd)
  (h:∀(kV doc pm:Value) (an:Option Addr) (cdv ct:Value) (us:List Value),us.length=ps.length->bindArgs (PySem.W.fnOf x qual (iZ st) (gJ st) (aU st) .none kV doc pm an cdv ct) ⟨us,[]⟩=pure (ps.zip us)):Binds K fd ps []:=by
 obtain⟨oc,od,kV,doc,pm,an,cdv,ct,osl,rfl,lk,hcd⟩:=F.ex
 exact .all (h kV doc pm an cdv ct)
theorem Wv {x qual:Str} {st:Stmt} {f:Addr} {oc:Value} {od an:Option Addr} {osl:Array (Option Value)} {kV doc pm cdv ct:Value} (l:K.lookup f=some ⟨oc,od,.func (PySem.W.fnOf x qual (iZ st) (gJ st) (aU st) .none kV doc pm an cdv ct),osl⟩)
  (c:PySem.W.codeIn K cdv qual=true) (k:PySem.W.keepIn K (.ref f)=true):Vt K x qual st f (PySem.W.fnOf x qual (iZ st) (gJ st) (aU st) .none kV doc pm an cdv ct):=⟨⟨oc,od,kV,doc,pm,an,cdv,ct,osl,rfl,l,c⟩,k⟩
end
section
variable {X:Cx}
theorem pv (i:Nat) {x:Str} {pos:Pos} (hN:X.N[i]?=some x:=by rfl) (hv:Yx X.env.scope x:=by first | exact Or.inl rfl | exact Or.inr (Or.inl rfl) | exact Or.inr (Or.inr rfl)) (hd:(x == ("__debug__" :Str))=false:=by decide)
  (hcd:(x == ("__classdict__" :Str))=false:=by decide):PE X (.Name x pos) (XQ i):=VG hN hv hd hcd
end
theorem dw {A B:Prop} (h:B):if false=true then A else B:=by
 rw [if_neg Bool.false_ne_true]
 exact h
theorem fY {A B:Prop} (h:A):if true=true then A else B:=by
 rw [if_pos rfl]
 exact h
theorem jB {c A B:Prop} [Decidable c] (h1:c->A) (h2:¬c->B):if c then A else B:=by
 by_cases h:c
 ·rw [if_pos h]
  exact h1 h
 ·rw [if_neg h]
  exact h2 h
theorem Xr {c A B:Prop} [Decidable c] (hc:c) (h:B):if (!decide c)=true then A else B:=by
 rw [decide_eq_true hc]
 exact dw h
noncomputable def aK (H H':Hp):Prop:=∀b o,H b=some o->H' b=some o
theorem aK.refl (H:Hp):aK H H:=fun _ _ h=>h
theorem aK.trans {H H1 H2:Hp} (a:aK H H1) (b:aK H1 H2):aK H H2:=fun c o h=>b c o (a c o h)
theorem aK.free {H H':Hp} (e:aK H H') {l:Addr} (h:H' l=Option.none):H l=Option.none:=by
 cases q:H l with
 | none=>rfl
 | some o=>
  rw [e l o q] at h
  cases h
theorem aK.seq {K:PySem.W.Frag} {H H':Hp} {a:Addr} {xs:List V} (e:aK H H') (h:bL K H a xs):bL K H' a xs:=by
 rcases h with (h | ⟨o,h⟩) | h
 ·exact .inl (.inl (e _ _ h))
 ·exact .inl (.inr ⟨o,e _ _ h⟩)
 ·exact .inr h
end L2
set_option maxHeartbeats 4000000
namespace L2
open PySem PySem.Spec PyProof.Rows
theorem Oq {P:Program} {w:World} {H:Hp} {h:Heap} {a:Addr} {o:HO} (x:vN P w H h) (hn:H a=none) (new:fV P w (upd H a o) h a o):vN P w (upd H a o) h:=fun b u e=>by
 by_cases hb:b=a
 ·subst hb;rw [au] at e;cases e;exact new
 ·rw [aH hb] at e
  exact(x b u e).stay (fun c v _ q=>q) (fun c q=>by rw [aH (aD q hn)];exact q) fun c xs q=>by rw [aH (aD q hn)];exact q
theorem Eg {α β:Type} {f:α->β->Sem (ForInStep β)} (g:α->β->β):∀(l:List α) (c:β),(∀x∈l,∀c,f x c=pure (.yield (g x c)))->forIn l c f=pure (l.foldl (fun c x=>g x c) c)
 | [],_,_=>rfl
 | x:: l,c,h=>by
  rw [List.forIn_cons,h x List.mem_cons_self,pure_bind]
  exact Eg g l (g x c) fun y hy=>h y (List.mem_cons_of_mem _ hy)
noncomputable def xr (env:Env) (x:Str×NameKind) (cs:List (Str×Addr)):List (Str×Addr):=
 if x.2=.free then(match env.cells.lookup x.1 with | some c=>(x.1,c):: cs | none=>cs) else cs
noncomputable def clos (env:Env) (l:List (Str×NameKind)) (c:List (Str×Addr)):List (Str×Addr):=l.foldl (fun c x=>xr env x c) c
theorem mq {env:Env} {scope:Scope} (h:∀y∈scope.names,y.2=.free->∃c,env.cells.lookup y.1=some c):closureFor scope env=pure (clos env scope.names []):=by
 simp only [closureFor]
 rw [Eg (xr env) scope.names [] fun x hx c=>?_]
 ·rfl
 ·obtain⟨n,k⟩:=x
  by_cases hk:k=.free
  ·subst hk
   obtain⟨a,ha⟩:=h _ hx rfl
   have ha':env.cells.lookup n=some a:=ha
   simp [cellOf,ha',xr]
  ·have:(k == NameKind.free)=false:=by simpa using hk
   simp [this,xr,hk]
theorem Jz {env:Env}:∀(l:List (Str×NameKind)) (c:List (Str×Addr)),(∀y a,c.lookup y=some a->env.cells.lookup y=some a)->∀y a,(clos env l c).lookup y=some a->env.cells.lookup y=some a
 | [],_,h=>h
 | x:: l,c,h=>by
  refine Jz l (xr env x c) fun y a e=>?_
  unfold xr at e
  by_cases hk:x.2=.free
  ·rw [if_pos hk] at e
   cases q:env.cells.lookup x.1 with
   | none=>rw [q] at e;exact h y a e
   | some b=>
    rw [q] at e
    by_cases hy:(y == x.1)=true
    ·have:y=x.1:=by simpa using hy
     subst this
     have e':((x.1,b):: c).lookup x.1=some a:=e
     simp [List.lookup_cons] at e'
     rw [q,e']
    ·have hy':(y == x.1)=false:=by simpa using hy
     have e':((x.1,b):: c).lookup y=some a:=e
     rw [List.lookup_cons,hy'] at e'
     exact h y a e'
  ·rw [if_neg hk] at e;exact h y a e
theorem DX {env:Env}:∀(l:List (Str×NameKind)) (c:List (Str×Addr)) (y:Str),((∃a,c.lookup y=some a)∨∃k∈l,k.1=y/\k.2=.free/\∃a,env.cells.lookup y=some a)->∃a,(clos env l c).lookup y=some a
 | [],_,_,h=>by
  rcases h with h | ⟨k,hk,_⟩
  ·exact h
  ·cases hk
 | x:: l,c,y,h=>by
  refine DX l (xr env x c) y ?_
  have up:(∃a,c.lookup y=some a)->∃a,(xr env x c).lookup y=some a:=fun⟨a,e⟩=>by
   unfold xr
   split
   ·split
    ·rename_i b q
     by_cases hy:(y == x.1)=true
     ·exact⟨b,by rw [List.lookup_cons,hy]⟩
     ·have hy':(y == x.1)=false:=by simpa using hy
      exact⟨a,by rw [List.lookup_cons,hy'];exact e⟩
    ·exact⟨a,e⟩
   ·exact⟨a,e⟩
  rcases h with h | ⟨k,hk,h1,h2,a,h3⟩
  ·exact .inl (up h)
  ·rcases List.mem_cons.mp hk with e | hk
   ·subst e
    left
    unfold xr
    rw [if_pos h2,h1,h3]
    exact⟨a,by simp [List.lookup_cons]⟩
   ·exact .inr ⟨k,hk,h1,h2,a,h3⟩
theorem u0 (scope:Scope) (env:Env) (y:Str):(relabel scope env).names.lookup y=(scope.names.lookup y).map fun k=>if (k == NameKind.free && env.scope.kind == .function && env.kindOf y == some .cell)=true then .cell else k:=by
 show(scope.names.map _).lookup y=_
 induction scope.names with
 | nil=>rfl
 | cons p l ih=>
  obtain⟨n,k⟩:=p
  rw [List.map_cons]
  show List.lookup y ((if (k == NameKind.free && env.scope.kind == .function && env.kindOf n == some .cell)=true then(n,NameKind.cell) else(n,k)):: _)=_
  by_cases hy:(y == n)=true
  ·have:y=n:=by simpa using hy
   subst this
   by_cases hc:(k == NameKind.free && env.scope.kind == .function && env.kindOf y == some .cell)=true
   ·rw [if_pos hc]
    simp only [List.lookup_cons,beq_self_eq_true,Option.map_some]
    rw [if_pos hc]
   ·rw [if_neg hc]
    simp only [List.lookup_cons,beq_self_eq_true,Option.map_some]
    rw [if_neg hc]
  ·have hy':(y == n)=false:=by simpa using hy
   by_cases hc:(k == NameKind.free && env.scope.kind == .function && env.kindOf n == some .cell)=true
   ·rw [if_pos hc]
    simp only [List.lookup_cons,hy']
    exact ih
   ·rw [if_neg hc]
    simp only [List.lookup_cons,hy']
    exact ih
noncomputable def dF (N:List Str) (js:List Nat):List Str:=js.map fun j=>(N[j]?).getD Str.empty
noncomputable def dM (σ:St) (js:List Nat):St:=js.map fun j=>(σ[j]?).join
noncomputable def zB (X:Cx) (scope:Scope) (x:Str) (js:List Nat) (cl:List (Str×Addr)) (C:Addr) (s:Shared) (H:Hp) (ex:List Addr):Cx where
 prog:=X.prog
 w:=X.w
 K:=X.K
 mg:=X.mg
 base:=X.base
 A:=X.A
 N:=x:: dF X.N js
 s₀:=s
 H₀:=H
 env:=compEnvC scope cl C X.env
 outer:=X.stack
 stack:=X.stack
 ex:=ex
 fn:=fun _=>false
 calm:=X.calm
 pn:=[]
 xe:=fun _ _=>False
noncomputable def PF (X:Cx) (ifs:List Expr) (t:TT):Prop:=
 ∀(pins:List (Addr×Obj)) (s:Shared) (σ:St) (H:Hp) (Q:Bool->Hp->Prop),Inv X pins σ H s->t σ H Q->
  wpAny (model X.prog X.w) X.A (forIn ifs true fun c r=>if r=true then do let ok <-isTrue c X.env (eval c X.env);pure (ForInStep.yield ok) else pure (ForInStep.yield r)) (TP X pins σ Q) X.xe s
noncomputable def WY:TT:=fun _ H Q=>Q true H
theorem gm {X:Cx}:PF X [] WY:=fun _ _ _ H _ I h=>wpAny_pure ⟨H,I,h⟩
theorem sE {X:Cx} {c:Expr} {t:TT} (hc:PT X c t):PF X [c] t:=by
 intro pins s σ H Q I h
 rw [List.forIn_cons,if_pos rfl]
 refine wpAny_bind (wpAny_bind (dU (hc pins s σ H Q I h) fun b s1 q=>wpAny_pure ?_))
 show wpAny (model X.prog X.w) X.A (pure b) (TP X pins σ Q) X.xe s1
 exact wpAny_pure q
inductive CompEnd (js:List Nat) (tt:TT) (te:TE) (σ:St) (Qd:List V->Hp->Prop) (J:It) (H1:Hp):Prop where
 | mk:∀W:Nat->Nat->List V->Hp->Prop,((∃m,W 0 m [] H1))->(∀i m ys H2,W i m ys H2->
 (J.stop i H2/\ys.length<=sizeLine/\Qd ys H2)∨
 (J.go i H2/\ys.length <sizeLine/\∃N:List V->Hp->Prop,(∀ys' H',N ys' H'->∃m',m' <m/\W (i+1) m' ys' H')/\∀x H3,J.yld i H2 x H3->tt (some x:: dM σ js) H3 fun b H4=>
  if b=true then te (some x:: dM σ js) H4 fun y H5=>N (ys ++ [y]) H5 else N ys H4))->CompEnd js tt te σ Qd J H1
noncomputable def Vo (js:List Nat) (wi:TI) (tt:TT) (te:TE):TE:=fun σ H Q=>wi σ H (CompEnd js tt te σ fun ys H2=>∀D,H2 D=none->Q (.ref D) (upd H2 D (.lst ys)))
section
variable {X:Cx} {x:Str} {px pos:Pos} {iter elt:Expr} {ifs:List Expr} {scope:Scope} {wi:TI} {tt:TT} {te:TE}
end
section
variable {X:Cx}
theorem jY:vQ X (binaryOp .Mult) (rI IntMulOk fun i j=>.int (i * j)):=XC fun _ _ _ _ _ _ _ hc q=>mul_int q hc
noncomputable def UG (_ j:Int):Prop:=0 <j/\j.natAbs.log2 <9000
theorem J8:vQ X (binaryOp .FloorDiv) (rI UG fun i j=>.int (i / j)):=XC fun i j _ _ _ _ _ hc q=>by
 have h1:(0:Int) <j:=hc.1
 exact floordiv_int (by omega) (by rw [Int.fdiv_eq_ediv_of_nonneg i (by omega)];exact q) (.inl (PyProof.noPylong_of_log2 hc.2))
theorem UT {i j:Int} (h0:0 <j) (h:j.natAbs <2 ^ 9000):UG i j:=⟨h0,(Nat.log2_lt (by omega)).mpr h⟩
noncomputable def Yv (K:PySem.W.Frag) (H:Hp) (x:V) (T:String):Prop:=match x with
 | .non=>T= "NoneType"
 | .bl _=>T= "bool"
 | .int _=>T= "int"
 | .str _=>T= "str"
 | .ref p=>(T= "list" /\∃xs,bL K H p xs)∨(T= "tuple" /\∃xs,eN K H p xs)∨(T= "dict" /\∃kvs,H p=some (.dK kvs))
 | _=>False
noncomputable def J9 (a b:String):Bool:=a == b || (a == "bool" && b == "int")
noncomputable def Mx:List String:=["int", "bool", "str", "list", "tuple", "dict"]
noncomputable def qm:List String:=["NoneType", "bool", "int", "str", "list", "tuple", "dict"]
theorem Qs:∀T∈Mx,PySem.W.kitMeta T=true:=by decide +kernel
theorem S6:∀a∈qm,∀b∈Mx,(PySem.fastBuiltinMro a).map (·.contains (.type b))=some (J9 a b):=by decide +kernel
theorem Td (K:PySem.W.Frag) {a b:String} (ha:a∈qm) (hb:b∈Mx):PySem.W.kitOne K (.type a) (.type b)=some (J9 a b):=by
 unfold PySem.W.kitOne
 by_cases h:(Value.type a == Value.type b)=true
 ·rw [if_pos h]
  have e:a=b:=by
   have:=beq_iff_eq.mp h
   injection this
  subst e
  simp [J9]
 ·rw [if_neg h]
  show(if PySem.W.kitMeta b=true then PySem.W.subIn K (.type a) (.type b) else none)=_
  rw [if_pos (Qs b hb)]
  exact S6 a ha b hb
theorem vD:mO X (.builtin "isinstance") (fun xs H Q=>∃x Tx T b,xs=[x,.ty T]/\Yv X.K H x Tx/\T∈Mx/\J9 Tx T=b/\Q (.bl b) H):=by
 intro pins s σ H xs us Q I r h
 obtain⟨x,Tx,T,b,rfl,ty,hT,rfl,q⟩:=h
 obtain⟨u,w',rfl,rx,ry⟩:=vals2 r
 cases ry
 have fin:∀{b:Bool},b=J9 Tx T->∀tk,EP X pins σ Q (.bool b) { s with toks:=tk }:=fun e tk=>⟨.bl (J9 Tx T),H,I.tok tk,by rw [e];rfl,q⟩
 have go:∀{P:Heap->Prop},PySem.W.KitX X.K u (.type Tx) P->P s.heap->Tx∈qm->u≠.builtin "__main__.__loader__#opaque" ->wpAny (model X.prog X.w) X.A (call (.builtin "isinstance") [u,.type T]) (EP X pins σ Q) X.xe s:=fun Z p hm hx=>
  PySem.W.kia_one Z I.kIn p (Td X.K hm hT) hx fun tk=>fin rfl tk
 cases x with
 | non=>cases rx;cases (show Tx= "NoneType" from ty);exact go PySem.W.kitx_none trivial (by decide) (by intro e;cases e)
 | bl b=>cases rx;cases (show Tx= "bool" from ty);exact go PySem.W.kitx_bool trivial (by decide) (by intro e;cases e)
 | int i=>obtain⟨t,rfl⟩:=rx;cases (show Tx= "int" from ty);exact go PySem.W.kitx_int trivial (by decide) (by intro e;cases e)
 | str z=>obtain⟨t,rfl⟩:=rx;cases (show Tx= "str" from ty);exact go PySem.W.kitx_str trivial (by decide) (by intro e;cases e)
 | ref p=>
  cases rx
  rcases ty with ⟨rfl,ys,hq⟩ | ⟨rfl,ys,hq⟩ | ⟨rfl,kvs,hq⟩
  ·obtain⟨its,_,pl,_⟩:=I.list hq
   obtain⟨o,n,e,c,_,_⟩:=pl
   exact go PySem.W.kitx_list ⟨o,e,c⟩ (by decide) (by intro e;cases e)
  ·obtain⟨its,_,⟨o,e,c,_⟩,_⟩:=I.tuple hq
   exact go PySem.W.kitx_tuple ⟨o,e,c⟩ (by decide) (by intro e;cases e)
  ·obtain⟨_,_,_,_,o,_,_,e,ex,_⟩:=I.hok p _ hq
   exact go PySem.W.kitx_dict ⟨o,e,ex.1⟩ (by decide) (by intro e;cases e)
 | _=>exact(show False from ty).elim
inductive RT (K:PySem.W.Frag) (x:V) (xs:List V) (H:Hp) (Q:VK):Prop where
 | mk:∀z p ys,x=.str z->xs=[.ref p]->bL K H p (ys.map V.str)->(ys.map (·.length)).sum+ys.length * z.length<=16777216->Q (.str (Txt.join z ys)) H->RT K x xs H Q
noncomputable def rJoin (K:PySem.W.Frag):V->List V->Hp->VK->Prop:=fun x xs H Q=>RT K x xs H Q
theorem BZ:∀{ys:List Str} {us:List Value},Vals (ys.map V.str) us->StrsAre us ys
 | [],us,r=>by rw [List.map_nil] at r;cases r;exact .nil
 | y:: ys,us,r=>by
  rw [List.map_cons] at r
  cases r with
  | cons r1 r2=>
   obtain⟨t,e⟩:=r1
   subst e
   exact .cons y t (BZ r2)
theorem TX:YJ X "str.join" (rJoin X.K):=by
 intro pins s σ H x xs v us Q I rx rs h
 obtain⟨z,p,ys,rfl,rfl,hq,hz,q⟩:=h
 obtain⟨t,rfl⟩:=rx
 obtain⟨u,rfl,ru⟩:=vals1 rs
 cases ru
 obtain⟨its,rv,pl,_⟩:=I.list hq
 exact join_list (items:=its.toArray) pl.isList (by simpa using BZ rv) hz fun t' k=>⟨.str (Txt.join z ys),H,I.tok k,⟨_,rfl⟩,q⟩
end
theorem QC:bootBuiltins "int" =some (.type "int"):=by decide +kernel
theorem S7:bootBuiltins "bool" =some (.type "bool"):=by decide +kernel
theorem Q9:bootBuiltins "str" =some (.type "str"):=by decide +kernel
theorem jx:bootBuiltins "list" =some (.type "list"):=by decide +kernel
theorem yh:bootBuiltins "tuple" =some (.type "tuple"):=by decide +kernel
theorem dI:bootBuiltins "len" =some (.builtin "len"):=by decide +kernel
theorem jm:bootBuiltins "isinstance" =some (.builtin "isinstance"):=by decide +kernel
theorem RN:bootBuiltins "min" =some (.builtin "min"):=by decide +kernel
theorem Ig:bootBuiltins "max" =some (.builtin "max"):=by decide +kernel
theorem Hw:bootBuiltins "all" =some (.builtin "all"):=by decide +kernel
section
variable {X:Cx} {pos:Pos}
theorem jq {x:Str} {v:V} (hg:Gl X x) (hm:∃u,X.mg x=some u/\RelV v u) (hd:(x == ("__debug__" :Str))=false:=by decide):PE X (.Name x pos) (tC v):=by
 obtain⟨u,h1,h2⟩:=hm
 exact Il hg h1 h2 hd
theorem zf {x:Str} {T:String} (hg:Gl X x) (hm:X.mg x=none) (hv:bootBuiltins x=some (.type T)) (hn:x≠ "__name__" :=by decide) (hd:(x == ("__debug__" :Str))=false:=by decide):PE X (.Name x pos) (tC (.ty T)):=
 Tq hg hm hv rfl hn hd
end
theorem jD {a b:Int} (h: -(2 ^ 64) <a/\a <2 ^ 64:=by decide):IntMulOk a b:=.of_left (intBits_le_64 h.1 h.2)
theorem Iw {a b:Int} (h: -(2 ^ 64) <b/\b <2 ^ 64:=by decide):IntMulOk a b:=.of_right (intBits_le_64 h.1 h.2)
inductive Rz (t:TS) (D:Ends) (σ:St) (H:Hp):Prop where
 | mk:∀J:St->Hp->Prop,t { D with nx:=J } σ H->(∀σ' H',J σ' H'->D.nx σ' H')->Rz t D σ H
noncomputable def Xd (t:TS):TS:=fun D σ H=>Rz t D σ H
theorem fL {X:Cx} {st:Stmt} {t:TS} (h:PS X st t):PS X st (Xd t):=by
 intro pins s σ H D I hw
 obtain⟨J,h1,h2⟩:=hw
 refine dU (h pins s σ H { D with nx:=J } I h1) fun f s1 q=>?_
 cases f with
 | next=>obtain⟨σ',H',I',q⟩:=q;exact⟨σ',H',I',h2 _ _ q⟩
 | ret v=>exact q
 | brk=>exact q
 | cont=>exact q
theorem bZ {c A B:Prop} [Decidable c] (hc:¬c) (h:B):if decide c=true then A else B:=by rw [decide_eq_false hc];exact dw h
theorem lA {c A B:Prop} [Decidable c] (hc:c) (h:A):if decide c=true then A else B:=by rw [decide_eq_true hc];exact fY h
mutual
inductive Dt (K:PySem.W.Frag) (H:Hp):V->PyData->Prop
 | non:Dt K H .non .none
 | bl (b:Bool):Dt K H (.bl b) (.bool b)
 | int (i:Int):Dt K H (.int i) (.int i)
 | str (x:Str):Dt K H (.str x) (.str x)
 | list {p:Addr} {xs:List V} {ds:List PyData}:bL K H p xs->Pn K H xs ds->Dt K H (.ref p) (.list ds)
 | tuple {p:Addr} {xs:List V} {ds:List PyData}:eN K H p xs->Pn K H xs ds->Dt K H (.ref p) (.tuple ds)
inductive Pn (K:PySem.W.Frag) (H:Hp):List V->List PyData->Prop
 | nil:Pn K H [] []
 | cons {x:V} {xs:List V} {d:PyData} {ds:List PyData}:Dt K H x d->Pn K H xs ds->Pn K H (x:: xs) (d:: ds)
end
section
variable {X:Cx} {pins:List (Addr×Obj)} {σ:St} {H:Hp} {s:Shared}
mutual
theorem Dt.reads (I:Inv X pins σ H s):∀{x:V} {d:PyData},Dt X.K H x d->∀{u:Value},RelV x u->∃as,Reads s.heap u d as
 | _,_,.non,_,r=>by cases r;exact⟨_,.none⟩
 | _,_,.bl b,_,r=>by cases r;exact⟨_,.bool b⟩
 | _,_,.int i,_,r=>by obtain⟨t,rfl⟩:=r;exact⟨_,.int i t⟩
 | _,_,.str x,_,r=>by obtain⟨t,rfl⟩:=r;exact⟨_,.str x t⟩
 | _,_,.list hq hd,_,r=>by
  cases r
  obtain⟨its,rv,⟨o,n,e,c,_,d⟩,_⟩:=I.list hq
  obtain⟨as,q⟩:=Pn.reads I hd rv
  exact⟨_,.list e c d (by simpa using q)⟩
 | _,_,.tuple hq hd,_,r=>by
  cases r
  obtain⟨its,rv,⟨o,e,c,n,d⟩,_⟩:=I.tuple hq
  obtain⟨as,q⟩:=Pn.reads I hd rv
  exact⟨_,.tuple e c d (by simpa using q)⟩
theorem Pn.reads (I:Inv X pins σ H s):∀{xs:List V} {ds:List PyData},Pn X.K H xs ds->∀{us:List Value},Vals xs us->∃as,ReadsAll s.heap us ds as
 | _,_,.nil,_,r=>by cases r;exact⟨_,.nil⟩
 | _,_,.cons h t,_,r=>by
  cases r with
  | cons r1 r2=>
   obtain⟨as,q⟩:=Dt.reads I h r1
   obtain⟨bs,q'⟩:=Pn.reads I t r2
   exact⟨_,.cons q q'⟩
end
inductive Vh (K:PySem.W.Frag) (x:V) (y:V) (H:Hp) (Q:VK):Prop where
 | mk:∀da db,Dt K H x da->Dt K H y db->SeqAt.shaped da=true->SeqAt.shaped db=true->Q (.bl (PyData.eqv da db)) H->Vh K x y H Q
noncomputable def YK (K:PySem.W.Frag):R2:=fun x y H Q=>Vh K x y H Q
inductive Vp (K:PySem.W.Frag) (x:V) (y:V) (H:Hp) (Q:VK):Prop where
 | mk:∀da db,Dt K H x da->Dt K H y db->SeqAt.shaped da=true->SeqAt.shaped db=true->Q (.bl (!PyData.eqv da db)) H->Vp K x y H Q
noncomputable def YC (K:PySem.W.Frag):R2:=fun x y H Q=>Vp K x y H Q
theorem VH (hu:X.A.units+64 <cLine):vQ X (compareOp .Eq) (YK X.K):=by
 intro pins s σ H x y v u Q I rx ry h
 obtain⟨da,db,h1,h2,s1,s2,q⟩:=h
 obtain⟨as,r1⟩:=h1.reads I rx
 obtain⟨bs,r2⟩:=h2.reads I ry
 exact eq_dataH r1 r2 s1 s2 hu (cZ I q rfl)
theorem K1 (hu:X.A.units+64 <cLine):vQ X (compareOp .NotEq) (YC X.K):=by
 intro pins s σ H x y v u Q I rx ry h
 obtain⟨da,db,h1,h2,s1,s2,q⟩:=h
 obtain⟨as,r1⟩:=h1.reads I rx
 obtain⟨bs,r2⟩:=h2.reads I ry
 exact ne_dataH r1 r2 s1 s2 hu (cZ I q rfl)
end
noncomputable def Yw (x:Str):It:=⟨fun i _=>i <x.cps.size,fun i H v H'=>H'=H/\∃c,x.cps[i]?=some c/\v=.str ⟨#[c]⟩,fun i _=>x.cps.size<=i⟩
theorem Ju {P:Program} {w:World} {K:PySem.W.Frag} {tg:Expr} (it:Addr) (x:Str) (t:Tok) {ty:String} (hty:ty= "str_ascii_iterator" ∨ty= "str_iterator"):Turn P w K tg (Yw x) [it] it (fun i h=>h.IsStrIter it ty x t i) where
 mem:=by simp
 obj:=fun i h st b hb=>by
  have e:b=it:=by simpa using hb
  subst e
  obtain⟨o,e,c,d⟩:=st
  exact⟨o,e,fun v z=>by rw [d] at z;cases z⟩
 keep:=fun i h h' st k=>by
  obtain⟨o,e,r⟩:=st
  exact⟨o,k it (by simp) o e,r⟩
 item:=by
  intro X hP hw hK hc i pins s σ H E I hf st hg
  subst hP hw hK
  obtain⟨f0,f1,f2,f3,f4,f5⟩:=hf it (by simp)
  have fin:∀(v:Value) (h':Heap) (tk:Nat),SignAt x i v->h'.IsStrIter it ty x t (i+1)->(∀b o,b∉[it]->s.heap.get? b=some o->h'.get? b=some o)->
    ∃u,some v=some u/\wpAny (model X.prog X.w) X.A (letOwnedTupleGo tg (.ref it) u) (fun _ s2=>∃x' H',Inv X pins σ H' s2/\RelV x' u/\(Yw x).yld i H x' H'/\s2.heap.IsStrIter it ty x t (i+1)/\∀b∈[it],H' b=none) E { s with heap:=h',toks:=tk }:=by
   intro v h' tk hv st' kk
   obtain⟨c,u,hcc,rfl⟩:=hv
   have I1:Inv X pins σ H { s with heap:=h',toks:=tk }:=I.turned (fun b o hb e=>kk b o (by simpa using hb) e) f0 f1 f3 f4 f5
   obtain⟨o,e,c',d⟩:=id st'
   refine⟨_,rfl,Jp (s:={ s with heap:=h',toks:=tk }) (n:=ty) e c' d (by rcases hty with rfl | rfl <;> decide) ⟨.str ⟨#[c]⟩,H,I1,⟨u,rfl⟩,⟨rfl,c,hcc,rfl⟩,st',fun b hb=>(hf b hb).1⟩⟩
  rcases hty with rfl | rfl
  ·exact(Walks.strAscii (prog:=X.prog) (w:=X.w) (I.ok.hd hc) it x t).item i s _ _ hg st fun v h' tk hv st' kk=>fin v h' tk hv st' kk
  ·exact(Walks.strWide (prog:=X.prog) (w:=X.w) (I.ok.hd hc) it x t).item i s _ _ hg st fun v h' tk hv st' kk=>fin v h' tk hv st' kk
 done:=by
  intro X hP hw hK hc i pins s σ H E I hf st hg
  subst hP hw hK
  obtain⟨f0,f1,f2,f3,f4,f5⟩:=hf it (by simp)
  have hx:x.cps[i]?=none:=by
   have hg':x.cps.size<=i:=hg
   simp;omega
  rcases hty with rfl | rfl
  ·exact wpAny_pyNext_ascii_end (I.ok.hd hc) st hx fun h' eb=>⟨rfl,I.turned (t':=s.toks) (fun b o hb e=>eb b o hb e) f0 f1 f3 f4 f5⟩
  ·exact wpAny_pyNext_wide_end (I.ok.hd hc) st hx fun h' eb=>⟨rfl,I.turned (t':=s.toks) (fun b o hb e=>eb b o hb e) f0 f1 f3 f4 f5⟩
 self:=fun _ _ _ _ _ st h=>by
  rcases hty with rfl | rfl
  ·exact wpAny_pyIter_striter_ascii st h
  ·exact wpAny_pyIter_striter_wide st h
section
variable {X:Cx} {tg:Expr}
inductive Vm (R:It->Hp->Prop) (x:V) (H1:Hp):Prop where
 | mk:∀z,x=.str z->R (Yw z) H1->Vm R x H1
noncomputable def YG (tl:TE):TI:=fun σ H R=>tl σ H fun x H1=>Vm R x H1
theorem V0 {l:Expr} {tl:TE} (hl:PE X l tl):PI X tg l (YG tl):=by
 intro pins s σ H R I h
 refine dU (hl pins s σ H _ I h) fun v s1 hpt=>?_
 obtain⟨x,H1,I1,r1,q1⟩:=hpt
 obtain⟨z,e,q⟩:=q1
 subst e
 obtain⟨t,rfl⟩:=r1
 cases ha:z.cps.all (· <128)
 ·refine wpAny_pyIter_wide ha ?_
  refine⟨s1.heap.objs.size,[s1.heap.objs.size],_,_,H1,rfl,I1.kept (t':=s1.toks) fun b o e=>Heap.get?_push_of_some _ e,Ju _ z t (ty:= "str_iterator") (.inr rfl),⟨_,Heap.get?_push_size _ rfl,rfl,rfl⟩,fun b hb=>?_,q⟩
  have e:b=s1.heap.objs.size:=by simpa using hb
  subst e
  exact I1.fpOk (Nat.le_refl _) (I1.hok.fresh (Nat.le_refl _))
 ·refine wpAny_pyIter_ascii ha ?_
  refine⟨s1.heap.objs.size,[s1.heap.objs.size],_,_,H1,rfl,I1.kept (t':=s1.toks) fun b o e=>Heap.get?_push_of_some _ e,Ju _ z t (ty:= "str_ascii_iterator") (.inl rfl),⟨_,Heap.get?_push_size _ rfl,rfl,rfl⟩,fun b hb=>?_,q⟩
  have e:b=s1.heap.objs.size:=by simpa using hb
  subst e
  exact I1.fpOk (Nat.le_refl _) (I1.hok.fresh (Nat.le_refl _))
end
theorem yes {A B:Hp->Prop} {σ:St} {H:Hp} (h:A H):WY σ H (fun b H4=>if b=true then A H4 else B H4):=by
 show if true=true then A H else B H
 exact fY h
section
variable {js:List Nat} {tt:TT} {te:TE} {σ:St} {Qd:List V->Hp->Prop}
theorem lC {lo:Int} {n:Nat} {H:Hp} (Pv:Nat->List V->Hp->Prop) (hn:n<=sizeLine) (h0:Pv 0 [] H) (hl:∀i ys H,Pv i ys H->ys.length<=i)
  (hs:∀i ys H,i <n->Pv i ys H->tt (some (.int (lo+i)):: dM σ js) H fun b H4=>if b=true then te (some (.int (lo+i)):: dM σ js) H4 fun y H5=>Pv (i+1) (ys ++ [y]) H5 else Pv (i+1) ys H4)
  (hd:∀ys H,Pv n ys H->Qd ys H):CompEnd js tt te σ Qd (Wf lo n) H:=by
 refine⟨fun i m ys H=>m=n - i/\i<=n/\Pv i ys H,⟨n,by simp,Nat.zero_le _,h0⟩,?_⟩
 rintro i m ys H ⟨rfl,hi,p⟩
 have hlen:=hl i ys H p
 by_cases hlt:i <n
 ·refine .inr ⟨hlt,by omega,Pv (i+1),fun ys' H' p'=>⟨n - (i+1),by omega,rfl,hlt,p'⟩,fun x H' y=>?_⟩
  obtain⟨e,y⟩:=y
  subst e y
  exact hs i ys _ hlt p
 ·have e:i=n:=by omega
  subst e
  exact .inl ⟨Nat.le_refl _,by omega,hd ys H p⟩
theorem fu {K:PySem.W.Frag} {a:Addr} {xs:List V} {H:Hp} (Pv:Nat->List V->Hp->Prop) (hn:xs.length<=sizeLine) (h0:Pv 0 [] H) (hl:∀i ys H,Pv i ys H->ys.length<=i) (hq:∀i ys H,i<=xs.length->Pv i ys H->bL K H a xs)
  (hs:∀i x ys H,xs[i]?=some x->Pv i ys H->tt (some x:: dM σ js) H fun b H4=>if b=true then te (some x:: dM σ js) H4 fun y H5=>Pv (i+1) (ys ++ [y]) H5 else Pv (i+1) ys H4)
  (hd:∀ys H,Pv xs.length ys H->Qd ys H):CompEnd js tt te σ Qd (Wz K a) H:=by
 refine⟨fun i m ys H=>m=xs.length - i/\i<=xs.length/\Pv i ys H,⟨xs.length,by simp,Nat.zero_le _,h0⟩,?_⟩
 rintro i m ys H ⟨rfl,hi,p⟩
 have hlen:=hl i ys H p
 have q:=hq i ys H hi p
 by_cases hlt:i <xs.length
 ·refine .inr ⟨⟨xs,xs[i],q,by simp [hlt]⟩,by omega,Pv (i+1),fun ys' H' p'=>⟨xs.length - (i+1),by omega,rfl,hlt,p'⟩,fun x H' y=>?_⟩
  obtain⟨e,y⟩:=y
  subst e
  exact hs i x ys _ (y xs q) p
 ·have e:i=xs.length:=by omega
  subst e
  exact .inl ⟨⟨xs,q,Nat.le_refl _⟩,by omega,hd ys H p⟩
theorem Ri {z:Str} {H:Hp} (Pv:Nat->List V->Hp->Prop) (hn:z.cps.size<=sizeLine) (h0:Pv 0 [] H) (hl:∀i ys H,Pv i ys H->ys.length<=i)
  (hs:∀i c ys H,z.cps[i]?=some c->Pv i ys H->tt (some (.str ⟨#[c]⟩):: dM σ js) H fun b H4=>if b=true then te (some (.str ⟨#[c]⟩):: dM σ js) H4 fun y H5=>Pv (i+1) (ys ++ [y]) H5 else Pv (i+1) ys H4)
  (hd:∀ys H,Pv z.cps.size ys H->Qd ys H):CompEnd js tt te σ Qd (Yw z) H:=by
 refine⟨fun i m ys H=>m=z.cps.size - i/\i<=z.cps.size/\Pv i ys H,⟨z.cps.size,by simp,Nat.zero_le _,h0⟩,?_⟩
 rintro i m ys H ⟨rfl,hi,p⟩
 have hlen:=hl i ys H p
 by_cases hlt:i <z.cps.size
 ·refine .inr ⟨hlt,by omega,Pv (i+1),fun ys' H' p'=>⟨z.cps.size - (i+1),by omega,rfl,hlt,p'⟩,fun x H' y=>?_⟩
  obtain⟨e,c,hc,y⟩:=y
  subst e y
  exact hs i c ys _ hc p
 ·have e:i=z.cps.size:=by omega
  subst e
  exact .inl ⟨Nat.le_refl _,by omega,hd ys H p⟩
end
section
variable {X:Cx}
inductive Vj (x:V) (lo:Option Int) (hi:Option Int) (H:Hp) (Q:VK):Prop where
 | mk:∀z,x=.str z->z.length<=sizeLine->Q (.str (Txt.slice z lo hi)) H->Vj x lo hi H Q
noncomputable def Zb:V->Option Int->Option Int->Hp->VK->Prop:=fun x lo hi H Q=>Vj x lo hi H Q
theorem PQ:YS X Zb:=by
 intro pins s σ H x v vl vu lo hi sl Q I rx hs pl pu h
 obtain⟨z,rfl,hz,q⟩:=h
 obtain⟨t,rfl⟩:=rx
 refine⟨"str",_,PySem.F.slot_str_getitem.lookup,typeIs_str _ _ _,?_⟩
 have fin:∀t' k,EP X pins σ Q (.str (Txt.slice z lo hi) t') { s with toks:=k }:=fun t' k=>⟨.str _,H,I.tok k,⟨_,rfl⟩,q⟩
 cases pl with
 | none=>
  cases pu with
  | none=>exact wpAny_getItem_str_slice (l:=none) (u:=none) (st:=none) hs rfl (post_val_or_str ⟨Nat.le_trans (Txt.slice_le z _ _) hz,fin⟩)
  | int j tj=>exact wpAny_getItem_str_slice (l:=none) (u:=some (j,tj)) (st:=none) hs rfl (post_val_or_str ⟨Nat.le_trans (Txt.slice_le z _ _) hz,fin⟩)
 | int i ti=>
  cases pu with
  | none=>exact wpAny_getItem_str_slice (l:=some (i,ti)) (u:=none) (st:=none) hs rfl (post_val_or_str ⟨Nat.le_trans (Txt.slice_le z _ _) hz,fin⟩)
  | int j tj=>exact wpAny_getItem_str_slice (l:=some (i,ti)) (u:=some (j,tj)) (st:=none) hs rfl (post_val_or_str ⟨Nat.le_trans (Txt.slice_le z _ _) hz,fin⟩)
theorem yO (hc:X.calm=true):mO X (.builtin "all") (fun xs H Q=>∃(p:Addr) (bs:List Bool),xs=[.ref p]/\bL X.K H p (bs.map V.bl)/\Q (.bl (bs.all id)) H):=by
 intro pins s σ H xs us Q I r h
 obtain⟨p,bs,rfl,hq,q⟩:=h
 obtain⟨u,rfl,rx⟩:=vals1 r
 cases rx
 obtain⟨its,rv,pl,_⟩:=I.list hq
 have hl:=pl.isList
 have hlt:p <s.heap.objs.size:=by obtain⟨_,e,_⟩:=hl;exact Heap.lt_size e
 have hb:∀i v,its[i]?=some v->∃b,bs[i]?=some b/\v=Value.bool b:=fun i v e=>by
  have hi:i <its.length:=(List.getElem?_eq_some_iff.mp e).1
  have hi':i <bs.length:=by have:=rv.length;rw [List.length_map] at this;omega
  obtain⟨u,e',r'⟩:=rv.get (i:=i) (x:=.bl bs[i]) (by rw [List.getElem?_map,List.getElem?_eq_getElem hi'];rfl)
  rw [e] at e'
  cases e'
  exact⟨bs[i],List.getElem?_eq_getElem hi',r'⟩
 refine call_all_walk (wpAny_pyIter_list hl ?_)
 refine⟨s.heap.objs.size,[s.heap.objs.size,p],[s.heap.objs.size],its.toArray.size,_,_,fun i=>(bs[i]?).getD true,rfl,Walks.list (A:=X.A.in1) (I.ok.hd hc) _ p (Nat.ne_of_lt hlt) its.toArray,
  ⟨⟨_,Heap.get?_push_size _ rfl,rfl,rfl⟩,hl.push _⟩,fun i v s' Q' E' hP hQ=>?_,fun h' tk hk=>?_⟩
 ·obtain⟨b,e,rfl⟩:=hb i v (by simpa using hP)
  simp only [e,Option.getD_some] at hQ
  exact wpAny_truthy_bool hQ
 ·have e:((List.range its.toArray.size).all fun i=>(bs[i]?).getD true)=bs.all id:=by
   have hlen:=rv.length
   rw [List.length_map] at hlen
   rw [List.size_toArray,<-hlen];exact LSm.range_all bs
  rw [e]
  exact⟨.bl _,H,I.kept (LSm.kept_iter hk),rfl,q⟩
end
end L2
namespace L2
open PySem PySem.StrLaws PySem.Builtin PySem.Builtin.Str
end L2
namespace L2
open PySem
theorem aB {H:L2.Hp} {p:Addr} {o:L2.HO} (hp:H p=none):L2.aK H (L2.upd H p o):=fun b o' e=>by rw [L2.aH (L2.aD e hp)];exact e
end L2
namespace L2
open PySem PySem.SeqAt
open AutoSeq1 (wpAny_loadPart')
open MeetsSeq MeetsSeq2 MeetsSeq3 SeqRoads2
section
variable {A:Around} {s:Shared}
end
open PySem.Spec PyProof.Rows
end L2
namespace L2
open PySem PySem.Spec PyProof.Rows
structure MethAt (P:Program) (w:World) (K:PySem.W.Frag) (mg:Str->Option Value) (base:Heap) (CX:Gk) (k:Nat) (C:Addr) (m:Str) (sp:Sp):Prop where
 ex:∃(f:Addr) (fd:FuncData) (ps:List Str),NT K C/\Meth K C m f/\Binds K fd ps []/\iU P w K mg base CX k f fd ps sp
inductive LQ (P:Program) (w:World) (K:PySem.W.Frag) (mg:Str->Option Value) (base:Heap) (CX:Gk) (k:Nat) (m:Str) (E:XK) (t:TA) (σ:St) (Q:VK) (x:V) (H1:Hp):Prop where
 | mk:∀a C dx fs sp,x=.ref a->H1 a=some (.ins C dx fs)->fs.lookup m=none->MethAt P w K mg base CX k C m sp->(t σ H1 fun vs H2=>sp (x:: vs) H2 Q E)->LQ P w K mg base CX k m E t σ Q x H1
noncomputable def Kw (P:Program) (w:World) (K:PySem.W.Frag) (mg:Str->Option Value) (base:Heap) (CX:Gk) (k:Nat) (m:Str) (E:XK) (ta:TE) (t:TA):TE:=fun σ H Q=>ta σ H fun x H1=>LQ P w K mg base CX k m E t σ Q x H1
section
variable {X:Cx} {CX:Gk} {k:Nat} {E:XK} {m:Str} {pos apos:Pos} {e o:Expr} {es:List Expr} {ta:TE} {t:TA}
theorem yp {pl:Sem Bool} (he:PE X o ta) (hr:jh k X.A) (hx:qL CX X E) (ha:PA X (e:: es) t)
  (hst:starEach (e:: es) X.env=(false,eval e X.env):: starEach es X.env:=by rfl) (hpl:(backTo pos (starEach es X.env)).any (·.1)=false:=by rfl)
  (ht:eval (.Call (.Attribute o m apos) (e:: es) [] pos) X.env=(do
   let ov <-eval o X.env
   standAt apos.atName
   let (f,first) <-holding [ov] (getMethod ov m pl)
   callWith pos f first (backTo pos (starEach (e:: es) X.env)) (backToKw pos (keywordEach [] X.env))):=by rfl):
  PE X (.Call (.Attribute o m apos) (e:: es) [] pos) (Kw X.prog X.w X.K X.mg X.base CX k m E ta t):=by
 intro pins s σ H Q I h
 refine PySem.W.methodCall_KW (pl:=pl) (dU (he pins s σ H _ I h) fun u s1 hpt=>?_) ht
 obtain⟨x,H1,I1,rx,a,C,dx,fs,sp,ex,ea,l,⟨f,fd,ps,c,hm,hb,F⟩,q⟩:=hpt
 subst ex
 obtain rfl:u=Value.ref a:=rx
 refine tO I1 ea c hm l ?_
 refine PySem.W.callWith_K (first:=[.ref a]) (h₀:=X.base) I.ok.mod.kin hm.kp (dU (ha pos pins s1 σ H1 _ I1 q) fun us s2 ⟨vs,H2,I2,r,q2⟩=>⟨I2.kIn,?_⟩) hst hpl
 exact DY (us:=.ref a:: us) (vs:=.ref a:: vs) (ds:=[]) (dvs:=[]) F hr hb .nil hx I2 (.cons rfl r) (by rw [List.append_nil];exact q2)
theorem Fe {pl:Sem Bool} (he:PE X o ta) (hr:jh k X.A) (hx:qL CX X E)
  (ht:eval (.Call (.Attribute o m apos) [] [] pos) X.env=(do
   let ov <-eval o X.env
   standAt apos.atName
   let (f,first) <-holding [ov] (getMethod ov m pl)
   callWith pos f first (backTo pos (starEach [] X.env)) (backToKw pos (keywordEach [] X.env))):=by rfl):
  PE X (.Call (.Attribute o m apos) [] [] pos) (Kw X.prog X.w X.K X.mg X.base CX k m E ta RD):=by
 intro pins s σ H Q I h
 refine PySem.W.methodCall_KW (pl:=pl) (dU (he pins s σ H _ I h) fun u s1 hpt=>?_) ht
 obtain⟨x,H1,I1,rx,a,C,dx,fs,sp,ex,ea,l,⟨f,fd,ps,c,hm,hb,F⟩,q⟩:=hpt
 subst ex
 obtain rfl:u=Value.ref a:=rx
 refine tO I1 ea c hm l ?_
 exact PySem.W.callWith_K0 (first:=[.ref a]) I1.kIn hm.kp (DY (us:=[.ref a]) (vs:=[.ref a]) (ds:=[]) (dvs:=[]) F hr hb .nil hx I1 (.cons rfl .nil) (by rw [List.append_nil];exact q))
end
section
variable {X:Cx}
theorem JB:bootBuiltins "range" =some (.type "range"):=by decide +kernel
theorem Bk:mO X (.type "range") (fun xs H Q=>∃j:Int,xs=[.int j]/\∀r,H r=none->Q (.ref r) (upd H r (.rng 0 j))):=by
 intro pins s σ H xs us Q I r h
 obtain⟨j,rfl,q⟩:=h
 obtain⟨u,rfl,t,rfl⟩:=vals1 r
 refine call_range_1 ⟨.ref s.heap.objs.size,upd H s.heap.objs.size (.rng 0 j),I.laid (fun b o e=>Heap.get?_push_of_some _ e) (Nat.le_refl _) ?_,rfl,q _ (I.hok.fresh (Nat.le_refl _))⟩
 exact⟨_,_,_,Heap.get?_push_size _ rfl⟩
noncomputable def Ss (n:Nat):List V:=(List.range n).map fun i=>V.int (i:Nat)
theorem Sx (n:Nat):(Ss n).length=n:=by simp [Ss]
theorem Ro:∀(n:Nat) (us:List Value),us.length=n->(∀(j:Nat) (v:Value),us[j]?=some v->∃t,v=.int (j:Nat) t)->Vals (Ss n) us:=by
 intro n
 induction n with
 | zero=>intro us hl _;cases us with | nil=>exact .nil | cons _ _=>cases hl
 | succ n ih=>
  intro us hl h
  have e1:Ss (n+1)=Ss n ++ [V.int (n:Nat)]:=by simp [Ss,List.range_succ]
  have hn:n <us.length:=by omega
  have e2:us=us.take n ++ [us[n]]:=by
   have:=List.take_append_drop n us
   rw [List.drop_eq_getElem_cons hn] at this
   rw [List.drop_eq_nil_of_le (by omega)] at this
   exact this.symm
  rw [e1,e2]
  refine Vals.append (ih _ (by simp;omega) fun j v e=>?_) (.cons ?_ .nil)
  ·rw [List.getElem?_take] at e
   split at e
   ·exact h j v e
   ·cases e
  ·obtain⟨t,e⟩:=h n us[n] (by simp [hn])
   exact⟨t,e⟩
theorem xn (hc:X.calm=true):mO X (.type "list") (fun xs H Q=>∃(r:Addr) (n:Nat),xs=[.ref r]/\H r=some (.rng 0 n)/\n<=1000000/\∀l,H l=none->Q (.ref l) (upd H l (.lst (Ss n)))):=by
 intro pins s σ H xs us Q I rx h
 obtain⟨r,n,rfl,hr,hn,q⟩:=h
 obtain⟨u,rfl,ru⟩:=vals1 rx
 cases ru
 have hl:sizeLine=16777216:=sizeLine_eq
 obtain⟨t,u,v,e⟩:=(show fV X.prog X.w H s.heap r (.rng 0 n) from I.hok r _ hr)
 refine call_list_range (n:=n) (I.ok.hd hc) e (small_one (by omega) (by omega) (by omega) (by omega)) (by rw [rangeSize_one];split <;> omega) (by omega) fun h' tk acc' c' kp e' hi=>?_
 refine⟨.ref s.heap.objs.size,_,I.laid (t':=tk) kp (Nat.le_refl _) (show fV X.prog X.w _ h' _ (.lst (Ss n)) from⟨by rw [Sx];omega,acc'.toList,c',Ro n _ (by simpa using hi.1) fun j v ej=>?_,by simpa using e'⟩),rfl,q _ (I.hok.fresh (Nat.le_refl _))⟩
 obtain⟨t,ev⟩:=hi.2 j v (by simpa using ej)
 exact⟨t,by rw [ev];congr 1;omega⟩
end
inductive jF (w:World) (K:PySem.W.Frag):List DictEntry->List (Str×List Int)->Prop
 | nil:jF w K [] []
 | cons {x:Str} {t:Tok} {ad:Addr} {ns:List Int} {es:List DictEntry} {rows:List (Str×List Int)} {h:Int} {its:Array Value} {n:Nat} {o:Obj}:
   h=hashStr w x->K.lookup ad=some o->o.cls=.type "tuple" ->o.data=.seq its n->Vals (ns.map V.int) its.toList->ns.length<=1000->jF w K es rows->jF w K (⟨h,.str x t,.ref ad⟩:: es) ((x,ns):: rows)
inductive KTab (w:World) (K:PySem.W.Frag) (a:Addr) (rows:List (Str×List Int)):Prop where
 | mk:∀(o:Obj) (es:Array DictEntry) (ep:Nat),K.lookup a=some o->o.cls=.type "dict" ->o.dict=none->o.slots= #[]->o.data=.dict es ep->(a == sysModules)=false->jF w K es.toList rows->(rows.map (·.1)).Nodup->KTab w K a rows
theorem KTab.mk' {w:World} {K:PySem.W.Frag} {a:Addr} {rows:List (Str×List Int)} {o:Obj} {es:Array DictEntry} {ep:Nat} (lk:K.lookup a=some o) (c1:o.cls=.type "dict") (c2:o.dict=none) (c3:o.slots= #[]) (c4:o.data=.dict es ep) (sm:(a == sysModules)=false)
  (rw':jF w K es.toList rows) (nd:(rows.map (·.1)).Nodup):KTab w K a rows:=⟨o,es,ep,lk,c1,c2,c3,c4,sm,rw',nd⟩
noncomputable def rowOf (rows:List (Str×List Int)) (z:Str):Option (List Int):=(rows.find? fun r=>decide (r.1=z)).map (·.2)
section
variable {P:Program} {w:World} {K:PySem.W.Frag}
theorem jF.kvs:∀{es:List DictEntry} {rows:List (Str×List Int)},jF w K es rows->∃kvs:List (Key×Value),Pairs (dh P w) es kvs/\kvs.map (·.1)=rows.map (fun r=>(Sum.inr r.1:Key))/\
  (∀e∈es,∃k,(dh P w).is k e.key=true/\e.hash=(dh P w).hash k)/\
  ∀z,(rowOf rows z=none->valueAt kvs (Sum.inr z)=none)/\∀ns,rowOf rows z=some ns->∃ad,valueAt kvs (Sum.inr z)=some (.ref ad)/\∀H,eN K H ad (ns.map V.int)
 | _,_,.nil=>⟨[],.nil,rfl,fun e he=>(by cases he),fun z=>⟨fun _=>rfl,fun ns e=>by cases e⟩⟩
 | _,_,@jF.cons _ _ x t ad ns es rows h its n o hh hl hc hdt hv hz hr=>by
  obtain⟨kvs,p,hk,ho,hf⟩:=jF.kvs hr
  refine⟨(Sum.inr x,.ref ad):: kvs,.cons (mK P w x t) rfl p,by rw [List.map_cons,List.map_cons,hk],fun e he=>?_,fun z=>?_⟩
  ·rcases List.mem_cons.mp he with e1 | he
   ·subst e1
    exact⟨Sum.inr x,mK P w x t,hh⟩
   ·exact ho e he
  ·by_cases hx:x=z
   ·subst hx
    have e1:rowOf ((x,ns):: rows) x=some ns:=by simp [rowOf]
    have e2:valueAt ((Sum.inr x,Value.ref ad):: kvs) (Sum.inr x:Key)=some (.ref ad):=by simp [valueAt]
    rw [e1,e2]
    refine⟨fun e=>by (cases e),fun ms e=>⟨ad,rfl,fun H=>.inr ⟨_,its,n,hl,hc,hdt,?_,?_⟩⟩⟩
    ·have:=hv.length
     have hs:sizeLine=16777216:=sizeLine_eq
     simp at this
     omega
    ·cases e;exact hv
   ·have e1:rowOf ((x,ns):: rows) z=rowOf rows z:=by simp [rowOf,hx]
    have hx':¬(Sum.inr x:Key)=Sum.inr z:=fun q=>hx (Sum.inr.inj q)
    have e2:valueAt ((Sum.inr x,Value.ref ad):: kvs) (Sum.inr z:Key)=valueAt kvs (Sum.inr z):=by simp [valueAt,hx']
    rw [e1,e2]
    exact hf z
theorem KTab.map {a:Addr} {rows:List (Str×List Int)} {h:Heap} (T:KTab w K a rows) (hk:K.In h):∃f:Key->Option Value,h.MapOf (dh P w) a f/\(a == sysModules)=false/\
  ∀z,(rowOf rows z=none->f (Sum.inr z)=none)/\∀ns,rowOf rows z=some ns->∃ad,f (Sum.inr z)=some (.ref ad)/\∀H,eN K H ad (ns.map V.int):=by
 obtain⟨o,es,ep,hl,c1,c2,c3,c4,hs,hr,nd⟩:=T
 obtain⟨kvs,p,hkk,ho,hf⟩:=hr.kvs (P:=P)
 have D:h.DictOf (dh P w) a kvs:=⟨o,es,ep,hk a _ hl,⟨c1,c2,c3⟩,c4,fun e he=>ho e (by simpa using he),p,?_⟩
 ·exact⟨_,D.mapOf,hs,hf⟩
 ·rw [hkk]
  have:rows.map (fun r=>(Sum.inr r.1:Key))=(rows.map (·.1)).map Sum.inr:=by rw [List.map_map];rfl
  rw [this]
  exact List.Pairwise.map _ (fun a b hab e=>hab (Sum.inr.inj e)) nd
end
section
variable {X:Cx} {i o:Expr} {ty td:TE} {pos:Pos}
inductive Uz (w:World) (K:PySem.W.Frag) (Q:VK) (y:V) (x:V) (H2:Hp):Prop where
 | mk:∀a rows z,x=.ref a->KTab w K a rows->y=.str z->Q (.bl (rowOf rows z).isSome) H2->Uz w K Q y x H2
noncomputable def Zm (w:World) (K:PySem.W.Frag) (ty td:TE):TE:=fun σ H Q=>ty σ H fun y H1=>td σ H1 fun x H2=>Uz w K Q y x H2
theorem Wa (hi:PE X i ty) (ho:PE X o td):PC X .In i o (Zm X.w X.K ty td):=by
 intro pins s σ H Q I h
 refine dU (hi pins s σ H _ I h) fun iv s1 ⟨y,H1,I1,ry,q1⟩=>dU (ho pins s1 σ H1 _ I1 q1) fun u s2 hpt=>?_
 obtain⟨x,H2,I2,rx,a,rows,z,ex,T,ey,q2⟩:=hpt
 subst ex
 subst ey
 obtain rfl:u=Value.ref a:=rx
 obtain⟨t,rfl⟩:=ry
 obtain⟨f,M,hs,hf⟩:=T.map (P:=X.prog) I2.kIn
 refine wpAny_in_of (k:=(Sum.inr z:Key)) (mK X.prog X.w z t) hs M ?_
 refine⟨.bl (rowOf rows z).isSome,H2,I2.tok _,?_,q2⟩
 cases e:rowOf rows z with
 | none=>rw [(hf z).1 e];rfl
 | some ns=>obtain⟨ad,e1,_⟩:=(hf z).2 ns e;rw [e1];rfl
inductive U8 (w:World) (K:PySem.W.Frag) (x:V) (y:V) (H:Hp) (Q:VK):Prop where
 | mk:∀a rows z ns,x=.ref a->KTab w K a rows->y=.str z->rowOf rows z=some ns->(∀ad,eN K H ad (ns.map V.int)->Q (.ref ad) H)->U8 w K x y H Q
noncomputable def X8 (w:World) (K:PySem.W.Frag):R2:=fun x y H Q=>U8 w K x y H Q
theorem Zg:Pq X (X8 X.w X.K):=by
 intro value slice pins s σ H x y v u Q I rx ry h hs
 obtain⟨a,rows,z,ns,rfl,T,rfl,e,q⟩:=h
 cases rx
 obtain⟨t,rfl⟩:=ry
 obtain⟨f,M,hsm,hf⟩:=T.map (P:=X.prog) I.kIn
 obtain⟨ad,e1,e2⟩:=(hf z).2 ns e
 exact tail_any M.typeIs PySem.F.slot_dict_getitem.lookup (wpAny_getItem_of (k:=(Sum.inr z:Key)) (mK X.prog X.w z t) M e1 ⟨.ref ad,H,I.tok _,rfl,q ad (e2 H)⟩) hs
theorem SN (ho:PE X o td) (hi:PE X i ty) (hs:M5 i):PE X (.Subscript o i pos) (X7 (X8 X.w X.K) td ty):=aO Zg ho hi hs
end
noncomputable def yx (K:PySem.W.Frag) (H:Hp) (a:Addr) (xs:List V):Prop:=bL K H a xs∨eN K H a xs
theorem aK.seqT {K:PySem.W.Frag} {H H':Hp} {a:Addr} {xs:List V} (e:aK H H') (h:eN K H a xs):eN K H' a xs:=by
 rcases h with (h | ⟨o,h⟩) | h
 ·exact .inl (.inl (e _ _ h))
 ·exact .inl (.inr ⟨o,e _ _ h⟩)
 ·exact .inr h
theorem aK.seqA {K:PySem.W.Frag} {H H':Hp} {a:Addr} {xs:List V} (e:aK H H') (h:yx K H a xs):yx K H' a xs:=h.elim (fun h=>.inl (e.seq h)) fun h=>.inr (e.seqT h)
noncomputable def lO (p:Addr) (H H':Hp):Prop:=∀b o,b≠p->H b=some o->H' b=some o
theorem lO.refl {p:Addr} (H:Hp):lO p H H:=fun _ _ _ e=>e
theorem lO.trans {p:Addr} {H H1 H2:Hp} (a:lO p H H1) (b:lO p H1 H2):lO p H H2:=fun c o n e=>b c o n (a c o n e)
theorem lO.of_same {p:Addr} {H H1:Hp} (a:aK H H1):lO p H H1:=fun c o _ e=>a c o e
theorem lO.write {p:Addr} {H:Hp} {o:HO}:lO p H (upd H p o):=fun b u n e=>by rw [aH n];exact e
theorem lO.seqT {K:PySem.W.Frag} {H H':Hp} {p a C dx:Addr} {fs:List (Str×V)} {xs:List V} (e:lO p H H') (hp:H p=some (.ins C dx fs)) (h:eN K H a xs):eN K H' a xs:=by
 rcases h with (h | ⟨o,h⟩) | h
 ·exact .inl (.inl (e _ _ (wy h hp (by intro z;cases z)) h))
 ·exact .inl (.inr ⟨o,e _ _ (wy h hp (by intro z;cases z)) h⟩)
 ·exact .inr h
theorem lO.seqL {K:PySem.W.Frag} {H H':Hp} {p a C dx:Addr} {fs:List (Str×V)} {xs:List V} (e:lO p H H') (hp:H p=some (.ins C dx fs)) (h:bL K H a xs):bL K H' a xs:=by
 rcases h with (h | ⟨o,h⟩) | h
 ·exact .inl (.inl (e _ _ (wy h hp (by intro z;cases z)) h))
 ·exact .inl (.inr ⟨o,e _ _ (wy h hp (by intro z;cases z)) h⟩)
 ·exact .inr h
theorem lO.seqA {K:PySem.W.Frag} {H H':Hp} {p a C dx:Addr} {fs:List (Str×V)} {xs:List V} (e:lO p H H') (hp:H p=some (.ins C dx fs)) (h:yx K H a xs):yx K H' a xs:=h.elim (fun h=>.inl (e.seqL hp h)) fun h=>.inr (e.seqT hp h)
theorem Q4 {K:PySem.W.Frag} {H:Hp} {a:Addr} {xs:List V} {Q:VK} (h:yx K H a xs) (k:∀H' u,aK H H'->eN K H' u xs->Q (.ref u) H'):
  ∃p ys,[V.ref a]=[.ref p]/\((bL K H p ys/\∀l,H l=none->Q (.ref l) (upd H l (.tup ys)))∨(eN K H p ys/\Q (.ref p) H)):=by
 rcases h with h | h
 ·exact⟨a,xs,rfl,.inl ⟨h,fun l hl=>k _ _ (aB hl) (eN.of au)⟩⟩
 ·exact⟨a,xs,rfl,.inr ⟨h,k _ _ (aK.refl _) h⟩⟩
theorem wg {X:Cx}:mO X (.type "tuple") (fun xs H Q=>∃a ys,xs=[.ref a]/\yx X.K H a ys/\∀H' u,aK H H'->eN X.K H' u ys->Q (.ref u) H'):=by
 intro pins s σ H xs us Q I r h
 obtain⟨a,ys,rfl,hq,q⟩:=h
 exact Eu pins s σ H _ us Q I r (Q4 hq q)
section
variable {es:List Expr} {env:Env}
theorem bO {a b c}:starEach (.Tuple a b c:: es) env=(false,eval (.Tuple a b c) env):: starEach es env:=rfl
theorem aR {a b}:starEach (.List a b:: es) env=(false,eval (.List a b) env):: starEach es env:=rfl
theorem ao {a b c}:starEach (.Constant a b c:: es) env=(false,eval (.Constant a b c) env):: starEach es env:=rfl
theorem aj {a b}:starEach (.Name a b:: es) env=(false,eval (.Name a b) env):: starEach es env:=rfl
theorem bf {a b c d}:starEach (.Call a b c d:: es) env=(false,eval (.Call a b c d) env):: starEach es env:=rfl
theorem bT {a b c d}:starEach (.BinOp a b c d:: es) env=(false,eval (.BinOp a b c d) env):: starEach es env:=rfl
theorem bN {a b c}:starEach (.Attribute a b c:: es) env=(false,eval (.Attribute a b c) env):: starEach es env:=rfl
theorem aF {a b c}:starEach (.Subscript a b c:: es) env=(false,eval (.Subscript a b c) env):: starEach es env:=rfl
theorem d7 {a b c d}:starEach (.ListComp a b c d:: es) env=(false,eval (.ListComp a b c d) env):: starEach es env:=rfl
theorem Ia {a b c d}:starEach (.Compare a b c d:: es) env=(false,eval (.Compare a b c d) env):: starEach es env:=rfl
theorem Km {a b c d}:starEach (.IfExp a b c d:: es) env=(false,eval (.IfExp a b c d) env):: starEach es env:=rfl
end
section
variable {X:Cx} {scope:Scope} {x:Str} {js:List Nat} {cl:List (Str×Addr)} {C:Addr} {s:Shared} {H:Hp} {ex:List Addr}
end
noncomputable def fH (H:Hp):List Addr->List (List V)->Prop:=Paired fun r vs=>H r=some (.tup vs)
theorem fH.same {H H':Hp} (s:aK H H'):∀{rs:List Addr} {vss:List (List V)},fH H rs vss->fH H' rs vss
 | _,_,.nil=>.nil
 | _,_,.cons h t=>.cons (s _ _ h) (fH.same s t)
theorem fH.append {H:Hp}:∀{rs rs':List Addr} {vss vss':List (List V)},fH H rs vss->fH H rs' vss'->fH H (rs ++ rs') (vss ++ vss')
 | _,_,_,_,.nil,q=>q
 | _,_,_,_,.cons h t,q=>.cons h (fH.append t q)
section
variable {X:Cx}
end
noncomputable def O2 (K:PySem.W.Frag) (a:Addr):It:=
 ⟨fun i H=>∃xs x,bL K H a xs/\xs[i]?=some x,fun i H v H'=>∃u y,H u=none/\v=.ref u/\H'=upd H u (.tup [.int (i:Nat),y])/\∀xs,bL K H a xs->xs[i]?=some y,fun i H=>∃xs,bL K H a xs/\xs.length<=i⟩
theorem Od {P:Program} {w:World} {K:PySem.W.Frag} {elts:List Expr} {x1:_} {tpos:Pos} (a e it:Addr) (hne:e≠it):
  Turn P w K (.Tuple elts x1 tpos) (O2 K a) [e,it] e (fun i h=>(∃old,IsEnum h e it ((i:Nat):Int) old)/\h.IsListIter it a i) where
 mem:=by simp
 obj:=fun i h st b hb=>by
  obtain⟨⟨old,he⟩,hit⟩:=st
  have hb':b=e∨b=it:=by simpa using hb
  rcases hb' with z | z
  ·subst z
   exact⟨_,he,fun v z=>by cases z⟩
  ·subst z
   obtain⟨o,e1,c,d⟩:=hit
   exact⟨o,e1,fun v z=>by rw [d] at z;cases z⟩
 keep:=fun i h h' st k=>by
  obtain⟨⟨old,he⟩,hit⟩:=st
  exact⟨⟨old,k e (by simp) _ he⟩,hit.at fun o e1=>k it (by simp) o e1⟩
 item:=by
  intro X hP hw hK hc i pins s σ H E I hf st hg
  subst hP hw hK
  obtain⟨⟨old,he⟩,hit⟩:=st
  obtain⟨xs,x,hq,hx⟩:=hg
  obtain⟨its,rv,p,hz⟩:=I.list hq
  obtain⟨u,hu,ru⟩:=rv.get hx
  obtain⟨f0,f1,f2,f3,f4,f5⟩:=hf it (by simp)
  obtain⟨g0,g1,g2,g3,g4,g5⟩:=hf e (by simp)
  refine wpAny_pyNext_enum_item he hit p.isList (x:=u) (by simpa using hu) hne fun h1 heo hit1 ht1 hz1 hk1=>?_
  refine⟨_,rfl,wpAny_letOwnedTupleGo_enum heo fun h2 he2 hs2=>?_⟩
  have hs2':Heap.SameBut e h1 h2:=hs2
  have heS:e <s.heap.objs.size:=Heap.lt_size he
  have hnE:s.heap.objs.size≠e:=Nat.ne_of_gt heS
  have kp:∀b o,b≠e->b≠it->s.heap.get? b=some o->h2.get? b=some o:=fun b o n1 n2 q=>(hs2'.2 b n1).trans (hk1 b o n1 n2 q)
  have nn:∀b o,s.heap.get? b=some o->b≠s.heap.objs.size:=fun b o q=>Nat.ne_of_lt (Heap.lt_size q)
  have hfr:H s.heap.objs.size=none:=I.hok.fresh (Nat.le_refl _)
  have tupN:h2.get? s.heap.objs.size=some { cls:=.type "tuple",data:=.seq #[.int i s.toks,u] }:=(hs2'.2 _ hnE).trans ht1
  have tr:∀b o,H b=some o->b≠e/\b≠it:=fun b o q=>⟨fun z=>(by rw [z,g0] at q;cases q),fun z=>(by rw [z,f0] at q;cases q)⟩
  have ok2:vN X.prog X.w (upd H s.heap.objs.size (.tup [.int (i:Nat),x])) h2:=fun b o q=>by
   by_cases hb:b=s.heap.objs.size
   ·rw [hb,au] at q
    cases q
    rw [hb]
    exact⟨by show 2<=sizeLine;decide,[.int i s.toks,u],.cons ⟨_,rfl⟩ (.cons ru .nil),⟨_,tupN,rfl,_,rfl⟩⟩
   ·rw [aH hb] at q
    refine(I.hok b o q).stay (fun c v hc q'=>?_) (fun c q'=>by rw [aH (aD q' hfr)];exact q') fun c ys q'=>by rw [aH (aD q' hfr)];exact q'
    rcases hc with z | z
    ·rw [z] at q' ⊢
     exact kp _ _ (tr _ _ q).1 (tr _ _ q).2 q'
    ·exact kp _ _ (tr _ _ z).1 (tr _ _ z).2 q'
  refine⟨.ref s.heap.objs.size,upd H s.heap.objs.size (.tup [.int (i:Nat),x]),?_,rfl,⟨_,x,hfr,rfl,rfl,fun ys hy=>by rw [I.list_inj hy hq];exact hx⟩,⟨⟨_,by simpa using he2⟩,hit1.at fun o e1=>(hs2'.2 _ (Ne.symm hne)).trans e1⟩,fun b hb=>?_⟩
  ·show Inv X pins σ (upd H s.heap.objs.size (.tup [.int (i:Nat),x])) { s with heap:=h2,gens:=s.gens,drawn:=s.drawn,toks:=s.toks+1 }
   refine I.step (g':=s.gens) (d':=s.drawn) (t':=s.toks+1) (ch:=[e,it]) (fun b hb=>?_) (fun b o _ _ hc q _=>kp b o (fun z=>hc (by simp [z])) (fun z=>hc (by simp [z])) q)
    (fun b o _ _ hc q _=>⟨o.slots,kp b o (fun z=>hc (by simp [z])) (fun z=>hc (by simp [z])) q⟩) (fun b o _ q n=>by rw [aH (nn b o q)];exact n)
    (fun b o hc q=>⟨o,kp b o (fun z=>hc (by simp [z])) (fun z=>hc (by simp [z])) q⟩) (fun b ys q=>by rw [aH (aD q hfr)];exact q) (fun b o ys q=>by rw [aH (aD q hfr)];exact q)
    (fun b ps q=>⟨#[],by rw [aH (aD q hfr),q];simp⟩) (fun m hm=>?_) ok2 I.bare
   ·have hb':b=e∨b=it:=by simpa using hb
    rcases hb' with z | z
    ·subst z;exact⟨g3,g1,g4,g5⟩
    ·subst z;exact⟨f3,f1,f4,f5⟩
   ·obtain⟨o,es,ep,ho,r⟩:=hm
    exact⟨o,es,ep,kp _ o (Ne.symm g1) (Ne.symm f1) ho,r⟩
  ·have hb':b=e∨b=it:=by simpa using hb
   rcases hb' with z | z
   ·subst z;rw [aH (Ne.symm hnE)];exact g0
   ·subst z
    obtain⟨o,e1,_⟩:=hit
    rw [aH (nn _ o e1)];exact f0
 done:=by
  intro X hP hw hK hc i pins s σ H E I hf st hg
  subst hP hw hK
  obtain⟨⟨old,he⟩,hit⟩:=st
  obtain⟨xs,hq,hx⟩:=hg
  obtain⟨its,rv,p,hz⟩:=I.list hq
  obtain⟨f0,f1,f2,f3,f4,f5⟩:=hf it (by simp)
  have hl:=rv.length
  exact wpAny_pyNext_enum_end (I.ok.hd hc) he hit p.isList (by simp;omega) fun h' eb=>⟨rfl,I.turned (t':=s.toks) (fun b o hb e=>eb b o hb e) f0 f1 f3 f4 f5⟩
 self:=fun _ _ _ _ _ st h=>by
  obtain⟨⟨old,he⟩,_⟩:=st
  exact wpAny_pyIter_enum he h
section
variable {X:Cx}
theorem HN:bootBuiltins "enumerate" =some (.type "enumerate"):=by decide +kernel
inductive QK (K:PySem.W.Frag) (R:It->Hp->Prop) (vs:List V) (H1:Hp):Prop where
 | mk:∀a,vs=[.ref a]->((∃xs,bL K H1 a xs))->R (O2 K a) H1->QK K R vs H1
noncomputable def XF (K:PySem.W.Frag) (ta:TA):TI:=fun σ H R=>ta σ H fun vs H1=>QK K R vs H1
theorem Jd {l:Expr} {ta:TA} {p pos tpos:Pos} {elts:List Expr} {x1:_} (hg:Gl X "enumerate") (hm:X.mg "enumerate" =none) (ha:PA X [l] ta) (hs:starEach [l] X.env=[(false,eval l X.env)]:=by rfl):
  PI X (.Tuple elts x1 tpos) (.Call (.Name "enumerate" p) [l] [] pos) (XF X.K ta):=by
 intro pins s σ H R I h
 refine Call_ (CG I hg hm HN (PyProof.Rows.callWith_type1 (dU (ha pos pins s σ H _ I h) fun us s1 ⟨vs,H1,I1,r1,q1⟩=>?_) hs rfl))
 obtain⟨a,e,⟨xs,hq⟩,q⟩:=q1
 subst e
 obtain⟨u,rfl,ru⟩:=vals1 r1
 cases ru
 obtain⟨its,rv,pl,hz⟩:=I1.list hq
 refine call_enumerate_list pl.isList fun h' he hit hz' kp=>wpAny_pyIter_enum he ?_
 have I2:Inv X pins σ H1 { s1 with heap:=h' }:=I1.kept (t':=s1.toks) kp
 refine⟨s1.heap.objs.size+1,[s1.heap.objs.size+1,s1.heap.objs.size],_,_,H1,rfl,I2,Od a _ _ (Nat.ne_of_gt (Nat.lt_succ_self _)),⟨⟨_,he⟩,hit⟩,fun b hb=>?_,q⟩
 have hb':b=s1.heap.objs.size+1∨b=s1.heap.objs.size:=by simpa using hb
 rcases hb' with z | z <;> subst z
 ·exact I1.fpOk (Nat.le_succ _) (I1.hok.fresh (Nat.le_succ _))
 ·exact I1.fpOk (Nat.le_refl _) (I1.hok.fresh (Nat.le_refl _))
theorem Pz {K:PySem.W.Frag} {a:Addr} {xs:List V} {g:TG} {tb:TS} {D:Ends} {σ:St} {H:Hp} (Pv:Nat->St->Hp->Prop) (h0:Pv 0 σ H) (hl:∀i σ H,i<=xs.length->Pv i σ H->bL K H a xs)
  (hs:∀i x σ H,xs[i]?=some x->Pv i σ H->∀u,H u=none->g (.ref u) σ (upd H u (.tup [.int (i:Nat),x])) fun σ' H'=>tb { D with nx:=Pv (i+1),ct:=Pv (i+1),bk:=D.nx } σ' H') (hd:∀σ H,Pv xs.length σ H->D.nx σ H):
  ∃W:Nat->Nat->St->Hp->Prop,(∃m,W 0 m σ H)/\∀i m σ H,W i m σ H->
   ((O2 K a).stop i H/\D.nx σ H)∨((O2 K a).go i H/\∃N:St->Hp->Prop,(∀σ' H',N σ' H'->∃m',m' <m/\W (i+1) m' σ' H')/\∀x H',(O2 K a).yld i H x H'->g x σ H' fun σ' H2=>tb { D with nx:=N,ct:=N,bk:=D.nx } σ' H2):=by
 refine⟨fun i m σ H=>m=xs.length - i/\i<=xs.length/\Pv i σ H,⟨xs.length,by simp,Nat.zero_le _,h0⟩,?_⟩
 rintro i m σ H ⟨rfl,hi,p⟩
 have q:=hl i σ H hi p
 by_cases hlt:i <xs.length
 ·refine .inr ⟨⟨xs,xs[i],q,by simp [hlt]⟩,Pv (i+1),fun σ' H' p'=>⟨xs.length - (i+1),by omega,rfl,hlt,p'⟩,fun x H' y=>?_⟩
  obtain⟨u,z,hu,ex,eH,hy⟩:=y
  subst ex eH
  exact hs i z σ H (hy xs q) p u hu
 ·have e:i=xs.length:=by omega
  subst e
  exact .inl ⟨⟨xs,q,Nat.le_refl _⟩,hd σ H p⟩
end
section
variable {P:Program} {w:World} {K:PySem.W.Frag} {mg:Str->Option Value} {base:Heap} {N:List Str} {qual:Str} {scope:Scope} {f:Addr} {cd:Value} {A:Around} {outer:List Env} {s:Shared} {H:Hp} {E:XK}
end
structure P0 (K:PySem.W.Frag) (C:Addr):Prop where
 ex:∃(nm q:Str) (Nn:Addr) (bs bm bmB:List Value) (hdct:Bool) (sn:List Str) (sub:List Value) (ab:Bool) (col:Option Bool) (dd:Option Addr) (k0 k1 k2 k3 k5:Option Value) (B newId initId:String) (mN:Str->Option Value),
  ExcBaseFacts B newId initId bmB/\bm.contains (.type "BaseException")=true/\mN "__init__" =none/\
  ∀h:Heap,K.In h->h.get? C=some (excClassObj nm q C Nn bs bm hdct sn sub ab col dd k0 k1 k2 k3 k5 newId)/\h.Ns Nn mN/\OwnTail h bmB bm
section
variable {P:Program} {w:World} {K:PySem.W.Frag} {mg:Str->Option Value} {base:Heap} {N:List Str} {qual:Str} {scope:Scope} {f:Addr} {cd:Value} {A:Around} {outer:List Env} {s:Shared} {H:Hp} {E:XK}
end
section
variable {X:Cx} {pins:List (Addr×Obj)} {σ:St} {H:Hp} {s:Shared} {E:Value->Shared->Prop}
end
section
variable {X:Cx} {pins:List (Addr×Obj)} {σ:St} {H:Hp} {s:Shared}
end
structure ExcAt (K:PySem.W.Frag) (C:Addr):Prop where
 ex:∃(nm q:Str) (Nn:Addr) (bs bm:List Value) (hdct:Bool) (sn:List Str) (sub:List Value) (ab:Bool) (col:Option Bool) (dd:Option Addr) (k0 k1 k2 k3 k5:Option Value) (newId:String),bm.contains (.type "BaseException")=true/\
  ∀h:Heap,K.In h->h.get? C=some (excClassObj nm q C Nn bs bm hdct sn sub ab col dd k0 k1 k2 k3 k5 newId)
section
variable {prog:Program} {w:World} {A:Around} {E:Value->Shared->Prop} {h:Heap} {g:Array GenState} {d:Drawn} {t:Nat} {os:OsState} {a:Addr} {o:Obj} {C:Addr}
end
noncomputable abbrev Lz:List Value:=[.type "ValueError",.type "Exception",.type "BaseException",.type "object"]
noncomputable def Pk (K:PySem.W.Frag) (N:Addr) (x:Str):Option Value:=match K.lookup N with
 | some o=>(match o.data with | .dict es _=>nsFind es x | _=>none)
 | none=>none
theorem Pu {K:PySem.W.Frag} {h:Heap} {N:Addr} (X:K.In h) (ok:PySem.W.nsOkIn K N=true):h.nsMap N=Pk K N:=by
 funext x
 unfold PySem.W.nsOkIn at ok
 split at ok
 ·rename_i look
  unfold Heap.nsMap Pk
  rw [X _ _ look,look]
 ·cases ok
theorem QH {K:PySem.W.Frag} {N:Addr} {x:Str} (e:PySem.W.nsIn K N x=some none):Pk K N x=none:=by
 unfold PySem.W.nsIn at e
 split at e
 ·rename_i look
  split at e
  ·cases e
  ·rename_i f
   unfold Pk
   rw [look]
   show nsFind _ _=none
   unfold nsFind findBy
   rw [<-Array.find?_toList,f]
   rfl
 ·cases e
theorem GD {K:PySem.W.Frag}:∀{l:List Value},PySem.W.tailIn K Lz l=true->l.contains (.type "BaseException")=true
 | [],e=>by simp [PySem.W.tailIn,Lz] at e
 | v:: r,e=>by
  unfold PySem.W.tailIn at e
  rcases Bool.or_eq_true_iff.mp e with z | z
  ·rw [beq_iff_eq.mp z];decide +kernel
  ·split at z
   ·split at z
    ·simp only [Bool.and_eq_true] at z
     rw [List.contains_cons,GD z.2,Bool.or_true]
    ·cases z
   ·cases z
theorem P0.ofIn {K:PySem.W.Frag} {C:Addr} (z:PySem.W.excIn K C Lz "ValueError.__new__" =true):P0 K C:=by
 unfold PySem.W.excIn at z
 split at z
 ·rename_i od kd slo look
  split at z
  ·rename_i C1 up a0 a1 a2 a3 nid a5 em es
   simp only [Bool.and_eq_true,beq_iff_eq,Bool.not_eq_true'] at z
   obtain⟨⟨⟨⟨⟨x1,x2⟩,x3⟩,x4⟩,x5⟩,x6⟩:=z
   subst x1 x2
   obtain⟨g1,g2,g3,g4,g5,g6,g7,g8,g9,g10,g11⟩:=kd
   dsimp only at em x3 x5 x6
   subst em x3
   have hs:slo= #[a0,a1,a2,a3,some (.builtin "ValueError.__new__"),a5]:=by
    obtain⟨l⟩:=slo
    simp only at es
    rw [es]
   subst hs
   refine⟨⟨g1,g5,g4,g2,up,Lz,g6,g7,g8,g9,g10,od,a0,a1,a2,a3,a5, "ValueError", "ValueError.__new__", "ValueError.__init__",Pk K g4,PySem.F.excBase_ValueError,GD x4,QH x6,fun h X=>⟨X _ _ look,?_,PySem.W.tail_of_in X x4⟩⟩⟩
   rw [<-Pu X x5]
   exact .of_isNs (PySem.W.isNs_of_in X x5)
  ·cases z
 ·cases z
structure YZ (K:PySem.W.Frag) (C:Addr):Prop where
 cls:(PySem.W.clsIn K C).isSome=true
 ga:PySem.W.findIn K (.ref C) "__getattribute__" =some (some (.builtin "BaseException.__getattribute__"))
 gn:PySem.W.findIn K (.ref C) "__getattr__" =some none
 cl:PySem.W.findIn K (.ref C) "__class__" =some (some (.builtin "object.__class__"))
 ob:PySem.W.subIn K (.ref C) (.type "object")=some true
 be:PySem.W.subIn K (.ref C) (.type "BaseException")=some true
section
variable {P:Program} {w:World} {K:PySem.W.Frag} {mg:Str->Option Value} {base:Heap}
end
end L2
namespace L2
open PySem
section
variable {prog:Program} {w:World} {A:Around} {E:Value->Shared->Prop} {h:Heap} {g:Array GenState} {d:Drawn} {t:Nat} {os:OsState}
variable {nm q:Str} {C N:Addr} {bs bm bmB:List Value} {hdct:Bool} {sn:List Str} {sub:List Value} {ab:Bool} {col:Option Bool} {dd:Option Addr} {k0 k1 k2 k3 k5:Option Value} {B newId initId:String}
end
section
variable {prog:Program} {w:World} {A:Around} {E:Value->Shared->Prop} {h:Heap} {g:Array GenState} {d:Drawn} {t:Nat} {os:OsState}
variable {nm q:Str} {C N:Addr} {bs bm bmB:List Value} {hdct:Bool} {sn:List Str} {sub:List Value} {ab:Bool} {col:Option Bool} {dd:Option Addr} {k0 k1 k2 k3 k5:Option Value} {B newId initId:String}
end
end L2
namespace L2
open PySem Builtin Builtin.ObjectAttr
noncomputable def Ii:List Value->Bool
 | .ref _:: r=>Ii r
 | l=>l == Lz
structure Zu (K:PySem.W.Frag) (C:Addr):Prop where
 xc:YZ K C
 sa:PySem.W.findIn K (.ref C) "__setattr__" =some (some (.builtin "object.__setattr__"))
 ov:(PySem.W.clsIn K C).any (fun cd=>Ii cd.mro && cd.hasDict)=true
section
variable {prog:Program} {w:World} {A:Around} {E:Value->Shared->Prop} {h:Heap} {g:Array GenState} {d:Drawn} {t:Nat} {os:OsState} {x C:Addr} {K:PySem.W.Frag} {mA:Str->Option Value} {name:Str} {v:Value}
end
end L2
namespace L2
open PySem PySem.Spec PyProof.Rows
section
variable {X:Cx} {pins:List (Addr×Obj)} {σ:St} {H:Hp} {s:Shared} {a C dx:Addr} {fs:List (Str×V)} {f:Str} {v:V} {A:Around} {E:Value->Shared->Prop}
end
section
variable {X:Cx} {e o value:Expr} {f:Str} {pos pos':Pos} {ta tv:TE}
end
noncomputable def PX (K:PySem.W.Frag) (C f:Addr):Bool:=match K.lookup C with
 | some o=>(match o.data with
  | .cls kd=>o.cls == .type "type" && kd.mro.head? == some (.ref C) && PySem.W.tailIn K Lz kd.mro.tail && !kd.hasDel && PySem.W.nsOkIn K kd.ns && Pk K kd.ns "__init__" == some (.ref f) && o.slots.size == 6 && o.slots[4]? == some (some (.builtin "ValueError.__new__"))
  | _=>false)
 | none=>false
structure CP (K:PySem.W.Frag) (C f:Addr):Prop where
 ex:∃(nm q:Str) (Nn:Addr) (bs bm:List Value) (hdct:Bool) (sn:List Str) (sub:List Value) (ab:Bool) (col:Option Bool) (dd:Option Addr) (k0 k1 k2 k3 k5:Option Value) (mN:Str->Option Value),
  mN "__init__" =some (.ref f)/\∀h:Heap,K.In h->h.get? C=some (excClassObj nm q C Nn bs bm hdct sn sub ab col dd k0 k1 k2 k3 k5 "ValueError.__new__")/\h.Ns Nn mN/\OwnTail h Lz bm
theorem YM {α:Type}:∀{l:List α},l.length=6->∃a b c d e f,l=[a,b,c,d,e,f]
 | [a,b,c,d,e,f],_=>⟨a,b,c,d,e,f,rfl⟩
theorem CP.ofIn {K:PySem.W.Frag} {C f:Addr} (z:PX K C f=true):CP K C f:=by
 unfold PX at z
 split at z
 ·rename_i o look
  obtain⟨oc,od,dt,slo⟩:=o
  dsimp only at z
  split at z
  ·rename_i kd
   simp only [Bool.and_eq_true,beq_iff_eq,Bool.not_eq_true'] at z
   obtain⟨⟨⟨⟨⟨⟨⟨x1,x2⟩,x3⟩,x4⟩,x5⟩,x6⟩,x7⟩,x8⟩:=z
   subst x1
   obtain⟨g1,g2,g3,g4,g5,g6,g7,g8,g9,g10,g11⟩:=kd
   dsimp only at x2 x3 x4 x5 x6
   obtain⟨sl⟩:=slo
   obtain⟨a0,a1,a2,a3,a5,rfl⟩:∃a0 a1 a2 a3 a5,sl=[a0,a1,a2,a3,some (.builtin "ValueError.__new__"),a5]:=by
    obtain⟨a0,a1,a2,a3,a4,a5,rfl⟩:=YM (show sl.length=6 from x7)
    have e:a4=some (.builtin "ValueError.__new__"):=Option.some.inj (show some a4=_ from x8)
    subst e
    exact⟨a0,a1,a2,a3,a5,rfl⟩
   obtain⟨up,rfl⟩:∃up,g3=.ref C:: up:=by
    cases g3 with
    | nil=>cases x2
    | cons v r=>cases (show some v=some (Value.ref C) from x2);exact⟨r,rfl⟩
   subst x4
   refine⟨⟨g1,g5,g4,g2,up,g6,g7,g8,g9,g10,od,a0,a1,a2,a3,a5,Pk K g4,x6,fun h X=>⟨X _ _ look,?_,PySem.W.tail_of_in X x3⟩⟩⟩
   rw [<-Pu X x5]
   exact .of_isNs (PySem.W.isNs_of_in X x5)
  ·cases z
 ·cases z
section
variable {X:Cx} {CX:Gk} {k:Nat} {C B f:Addr} {fd:FuncData} {ps:List Str} {sp:Sp} {E:XK} {x:Str} {p pos apos:Pos} {e:Expr} {es:List Expr} {t:TA}
end
section
variable {X:Cx} {CX:Gk} {k:Nat} {C f:Addr} {fd:FuncData} {ps:List Str} {sp:Sp} {E:XK} {x:Str} {p pos:Pos} {e:Expr} {es:List Expr} {t:TA}
end
section
variable {X:Cx} {C:Addr} {x:Str} {p pos:Pos} {e:Expr} {es:List Expr} {t:TA}
end
end L2
namespace L2
open PySem
noncomputable def Ww (K:PySem.W.Frag) (C:Addr):Bool:=(PySem.W.clsIn K C).isSome && PySem.W.findIn K (.ref C) "__getattribute__" == some (some (.builtin "BaseException.__getattribute__")) && PySem.W.findIn K (.ref C) "__getattr__" == some none &&
 PySem.W.findIn K (.ref C) "__class__" == some (some (.builtin "object.__class__")) && PySem.W.subIn K (.ref C) (.type "object") == some true && PySem.W.subIn K (.ref C) (.type "BaseException") == some true
theorem YZ.ofIn {K:PySem.W.Frag} {C:Addr} (h:Ww K C=true):YZ K C:=by
 simp only [Ww,Bool.and_eq_true,beq_iff_eq] at h
 obtain⟨⟨⟨⟨⟨a,b⟩,c⟩,d⟩,e⟩,f⟩:=h
 exact⟨a,b,c,d,e,f⟩
noncomputable def Yp (K:PySem.W.Frag) (C:Addr):Bool:=Ww K C && PySem.W.findIn K (.ref C) "__setattr__" == some (some (.builtin "object.__setattr__")) && (PySem.W.clsIn K C).any (fun cd=>Ii cd.mro && cd.hasDict)
theorem Zu.ofIn {K:PySem.W.Frag} {C:Addr} (h:Yp K C=true):Zu K C:=by
 simp only [Yp,Bool.and_eq_true,beq_iff_eq] at h
 obtain⟨⟨a,b⟩,c⟩:=h
 exact⟨.ofIn a,b,c⟩
end L2
namespace L2
open PySem PySem.Spec PyProof.Rows
section
variable {P:Program} {w:World} {K:PySem.W.Frag} {mg:Str->Option Value} {base:Heap} {N:List Str} {qual:Str} {scope:Scope} {f:Addr} {cd:Value} {A:Around} {outer:List Env} {s:Shared} {H:Hp} {E:XK}
end
section
variable {M:Model} {A:Around} {E:Value->Shared->Prop} {s:Shared} {env:Env} {nm q:Str} {C N:Addr} {bs bm:List Value} {hdct:Bool} {sn:List Str} {sub:List Value} {ab:Bool} {col:Option Bool} {dd:Option Addr} {k0 k1 k2 k3 k5:Option Value} {newId:String}
end
section
variable {P:Program} {w:World} {K:PySem.W.Frag} {mg:Str->Option Value} {base:Heap} {N:List Str} {qual:Str} {scope:Scope} {f:Addr} {cd:Value} {A:Around} {outer:List Env} {s:Shared} {H:Hp} {E:XK}
end
section
variable {M:Model} {A:Around} {E:Value->Shared->Prop} {nm q:Str} {C N:Addr} {bs bm:List Value} {hdct:Bool} {sn:List Str} {sub:List Value} {ab:Bool} {col:Option Bool} {dd:Option Addr} {k0 k1 k2 k3 k5:Option Value} {newId:String}
end
section
variable {P:Program} {w:World} {K:PySem.W.Frag} {mg:Str->Option Value} {base:Heap}
end
theorem CP.at {K:PySem.W.Frag} {C f:Addr} (c:CP K C f) {h:Heap} (X:K.In h):ExcAt K C:=by
 obtain⟨nm,q,Nn,bs,bm,hdct,sn,sub,ab,col,dd,k0,k1,k2,k3,k5,mN,_,hf⟩:=c.ex
 exact⟨⟨nm,q,Nn,bs,bm,hdct,sn,sub,ab,col,dd,k0,k1,k2,k3,k5,_,(hf h X).2.2.hasType (X:= "BaseException") (b:=true) (by decide +kernel),fun h X=>(hf h X).1⟩⟩
noncomputable def Zr (a b:TI):TI:=fun σ H R=>a σ H R∨b σ H R
theorem Va {X:Cx} {tg it:Expr} {a b:TI} (h1:PI X tg it a) (h2:PI X tg it b):PI X tg it (Zr a b):=fun pins s σ H R I h=>h.elim (h1 pins s σ H R I) (h2 pins s σ H R I)
theorem JM {js:List Nat} {tt:TT} {te:TE} {σ:St} {Qd:List V->Hp->Prop} {K:PySem.W.Frag} {a:Addr} {xs:List V} {H:Hp} (Pv:Nat->List V->Hp->Prop) (hn:xs.length<=sizeLine) (h0:Pv 0 [] H) (hl:∀i ys H,Pv i ys H->ys.length<=i) (hq:∀i ys H,i<=xs.length->Pv i ys H->eN K H a xs)
  (hs:∀i x ys H,xs[i]?=some x->Pv i ys H->tt (some x:: dM σ js) H fun b H4=>if b=true then te (some x:: dM σ js) H4 fun y H5=>Pv (i+1) (ys ++ [y]) H5 else Pv (i+1) ys H4)
  (hd:∀ys H,Pv xs.length ys H->Qd ys H):CompEnd js tt te σ Qd (WK K a) H:=by
 refine⟨fun i m ys H=>m=xs.length - i/\i<=xs.length/\Pv i ys H,⟨xs.length,by simp,Nat.zero_le _,h0⟩,?_⟩
 rintro i m ys H ⟨rfl,hi,p⟩
 have hlen:=hl i ys H p
 have q:=hq i ys H hi p
 by_cases hlt:i <xs.length
 ·refine .inr ⟨⟨xs,xs[i],q,by simp [hlt]⟩,by omega,Pv (i+1),fun ys' H' p'=>⟨xs.length - (i+1),by omega,rfl,hlt,p'⟩,fun x H' y=>?_⟩
  obtain⟨e,y⟩:=y
  subst e
  exact hs i x ys _ (y xs q) p
 ·have e:i=xs.length:=by omega
  subst e
  exact .inl ⟨⟨xs,q,Nat.le_refl _⟩,by omega,hd ys H p⟩
theorem Py {js:List Nat} {tt:TT} {te:TE} {σ σ0:St} {Qd:List V->Hp->Prop} {K:PySem.W.Frag} {a:Addr} {xs:List V} {H:Hp} {tl:TE} (ht:∀R:V->Hp->Prop,R (.ref a) H->tl σ0 H R) (ha:yx K H a xs) (Pv:Nat->List V->Prop) (hn:xs.length<=sizeLine) (h0:Pv 0 []) (hl:∀i ys,Pv i ys->ys.length<=i)
  (hs:∀i x ys,xs[i]?=some x->Pv i ys->tt (some x:: dM σ js) H fun b H4=>if b=true then te (some x:: dM σ js) H4 fun y H5=>H5=H/\Pv (i+1) (ys ++ [y]) else H4=H/\Pv (i+1) ys)
  (hd:∀ys,Pv xs.length ys->Qd ys H):Zr (Vf K tl) (Yj K tl) σ0 H (CompEnd js tt te σ Qd):=by
 rcases ha with ha | ha
 ·refine .inl (ht _ ⟨a,rfl,⟨xs,ha⟩,fu (K:=K) (a:=a) (xs:=xs) (fun i ys H'=>H'=H/\Pv i ys) hn ⟨rfl,h0⟩ (fun i ys _ z=>hl i ys z.2) (fun i ys H' _ z=>by rw [z.1];exact ha) (fun i x ys H' hx z=>?_) fun ys H' z=>?_⟩)
  ·obtain⟨rfl,z⟩:=z;exact hs i x ys hx z
  ·obtain⟨rfl,z⟩:=z;exact hd ys z
 ·refine .inr (ht _ ⟨a,rfl,⟨xs,ha⟩,JM (K:=K) (a:=a) (xs:=xs) (fun i ys H'=>H'=H/\Pv i ys) hn ⟨rfl,h0⟩ (fun i ys _ z=>hl i ys z.2) (fun i ys H' _ z=>by rw [z.1];exact ha) (fun i x ys H' hx z=>?_) fun ys H' z=>?_⟩)
  ·obtain⟨rfl,z⟩:=z;exact hs i x ys hx z
  ·obtain⟨rfl,z⟩:=z;exact hd ys z
theorem yx.len {K:PySem.W.Frag} {H:Hp} {a:Addr} {xs:List V} (h:yx K H a xs):X5 K (.ref a) H xs.length:=h.elim (fun h=>.inl ⟨xs,h,rfl⟩) fun h=>.inr ⟨xs,h,rfl⟩
theorem uR {X:Cx} {K:PySem.W.Frag} (hK:X.K=K):Pq X (Wk K):=by subst hK;exact aQ
theorem jQ {X:Cx} {K:PySem.W.Frag} (hK:X.K=K):Pq X (Vz K):=by subst hK;exact cM
section
variable {P:Program} {w:World} {K:PySem.W.Frag} {mg:Str->Option Value} {base:Heap} {N:List Str} {qual:Str} {scope:Scope} {f:Addr} {cd:Value} {A:Around} {outer:List Env} {s:Shared} {H:Hp} {E:XK}
end
section
variable {κ:Type} [DecidableEq κ]
noncomputable def b8 (kvs:List (κ×V)) (k:κ):Option V:=(kvs.find? fun kv=>decide (kv.1=k)).map (·.2)
noncomputable def putK (kvs:List (κ×V)) (k:κ) (v:V):List (κ×V):=
 if (kvs.any fun kv=>decide (kv.1=k))=true then kvs.map (fun kv=>if kv.1=k then(kv.1,v) else kv) else kvs ++ [(k,v)]
theorem gO {p:κ×V} {r:List (κ×V)} {k:κ} (e:p.1=k):b8 (p:: r) k=some p.2:=by simp [b8,List.find?_cons,e]
theorem gf {p:κ×V} {r:List (κ×V)} {k:κ} (e:¬p.1=k):b8 (p:: r) k=b8 r k:=by simp [b8,List.find?_cons,e]
theorem rU (k:κ):∀kvs:List (κ×V),(kvs.any fun kv=>decide (kv.1=k))=(b8 kvs k).isSome
 | []=>rfl
 | p:: r=>by
  rw [List.any_cons]
  by_cases e:p.1=k
  ·simp only [gO e,decide_eq_true e,Bool.true_or,Option.isSome_some]
  ·rw [gf e,decide_eq_false e,Bool.false_or];exact rU k r
theorem Jy (k j:κ) (y:V):∀kvs:List (κ×V),b8 (kvs.map fun kv=>if kv.1=k then(kv.1,y) else kv) j=(b8 kvs j).map fun x=>if j=k then y else x
 | []=>rfl
 | p:: r=>by
  have ih:=Jy k j y r
  rw [List.map_cons]
  by_cases h:p.1=k
  ·rw [if_pos h]
   by_cases e:p.1=j
   ·rw [gO (p:=(p.1,y)) e,gO e,Option.map_some,if_pos (e.symm.trans h)]
   ·rw [gf (p:=(p.1,y)) e,gf e,ih]
  ·rw [if_neg h]
   by_cases e:p.1=j
   ·rw [gO (p:=p) e,gO e,Option.map_some,if_neg (fun z=>h (e.trans z))]
   ·rw [gf (p:=p) e,gf e,ih]
theorem Fg (k j:κ) (y:V):∀kvs:List (κ×V),b8 kvs k=none->b8 (kvs ++ [(k,y)]) j=if j=k then some y else b8 kvs j
 | [],_=>by
  by_cases e:k=j
  ·rw [if_pos e.symm];exact gO (p:=(k,y)) e
  ·rw [if_neg (fun z=>e z.symm)];exact gf (p:=(k,y)) e
 | p:: r,hn=>by
  rw [List.cons_append]
  have hk:¬p.1=k:=fun z=>by rw [gO z] at hn;cases hn
  rw [gf hk] at hn
  have ih:=Fg k j y r hn
  by_cases e:p.1=j
  ·rw [gO e,gO e,if_neg (fun z=>hk (e.trans z))]
  ·rw [gf e,gf e,ih]
theorem QF (kvs:List (κ×V)) (k j:κ) (y:V):b8 (putK kvs k y) j=if j=k then some y else b8 kvs j:=by
 unfold putK
 by_cases a:(kvs.any fun kv=>decide (kv.1=k))=true
 ·rw [if_pos a,Jy]
  rw [rU] at a
  by_cases e:j=k
  ·obtain⟨x,hx⟩:=Option.isSome_iff_exists.mp a
   rw [if_pos e,e,hx,Option.map_some,if_pos rfl]
  ·rw [if_neg e]
   cases b8 kvs j with
   | none=>rfl
   | some x=>rw [Option.map_some,if_neg e]
 ·rw [if_neg a]
  refine Fg k j y kvs ?_
  rw [rU] at a
  cases q:b8 kvs k with
  | none=>rfl
  | some x=>rw [q] at a;exact(a rfl).elim
theorem mX (kvs:List (κ×V)) (k:κ) (v:V):(putK kvs k v).length<=kvs.length+1:=by
 unfold putK
 split
 ·rw [List.length_map];omega
 ·rw [List.length_append,List.length_cons,List.length_nil];omega
theorem fX {kvs:List (κ×V)} {k:κ} (v:V) (h:b8 kvs k=none):putK kvs k v=kvs ++ [(k,v)]:=by
 unfold putK
 rw [rU,h]
 exact if_neg (by decide)
theorem ue.isSome_eq {o:Option V} {u:Option Value} (r:ue o u):o.isSome=u.isSome:=by
 cases o with
 | none=>cases u with
  | none=>rfl
  | some _=>exact(show False from r).elim
 | some _=>cases u with
  | none=>exact(show False from r).elim
  | some _=>rfl
theorem ue.getD {o:Option V} {u:Option Value} {d:V} {d':Value} (r:ue o u) (rd:RelV d d'):RelV (o.getD d) (u.getD d'):=by
 cases o with
 | none=>cases u with
  | none=>exact rd
  | some _=>exact(show False from r).elim
 | some _=>cases u with
  | none=>exact(show False from r).elim
  | some _=>exact r
theorem KV.val {kvs:List (κ×V)} {vs:List (κ×Value)} (r:KV kvs vs) (k:κ):ue (b8 kvs k) (valueAt vs k):=by
 unfold KV at r
 induction r with
 | nil=>exact True.intro
 | @cons p q ps qs h t ih=>
  obtain⟨h1,h2⟩:=h
  by_cases e:p.1=k
  ·have e':q.1=k:=h1.symm.trans e
   have b:valueAt (q:: qs) k=some q.2:=by simp [valueAt,List.find?_cons,e']
   rw [gO e,b];exact h2
  ·have e':¬q.1=k:=fun z=>e (h1.trans z)
   have b:valueAt (q:: qs) k=valueAt qs k:=by simp [valueAt,List.find?_cons,e']
   rw [gf e,b];exact ih
theorem KV.any {kvs:List (κ×V)} {vs:List (κ×Value)} (r:KV kvs vs) (k:κ):(kvs.any fun kv=>decide (kv.1=k))=vs.any fun kv=>decide (kv.1=k):=by
 unfold KV at r
 induction r with
 | nil=>rfl
 | cons h t ih=>rw [List.any_cons,List.any_cons,ih,h.1]
theorem KV.repl {kvs:List (κ×V)} {vs:List (κ×Value)} (r:KV kvs vs) (k:κ) {y:V} {u:Value} (ry:RelV y u):
  KV (kvs.map fun kv=>if kv.1=k then(kv.1,y) else kv) (vs.map fun kv=>if kv.1=k then(kv.1,u) else kv):=by
 unfold KV at r ⊢
 induction r with
 | nil=>exact .nil
 | @cons p q ps qs h t ih=>
  rw [List.map_cons,List.map_cons]
  refine .cons ?_ ih
  obtain⟨h1,h2⟩:=h
  by_cases e:p.1=k
  ·rw [if_pos e,if_pos (h1.symm.trans e)];exact⟨h1,ry⟩
  ·rw [if_neg e,if_neg (fun z=>e (h1.trans z))];exact⟨h1,h2⟩
theorem KV.put {kvs:List (κ×V)} {vs:List (κ×Value)} (r:KV kvs vs) (k:κ) {y:V} {u:Value} (ry:RelV y u):KV (putK kvs k y) (stored vs k u):=by
 unfold putK stored
 rw [r.any k]
 by_cases e:(vs.any fun kv=>decide (kv.1=k))=true
 ·rw [if_pos e,if_pos e];exact r.repl k ry
 ·rw [if_neg e,if_neg e];exact Paired.snoc r ⟨rfl,ry⟩
theorem KV.length {kvs:List (κ×V)} {vs:List (κ×Value)} (r:KV kvs vs):kvs.length=vs.length:=Paired.length r
end
theorem Dn {P:Program} {w:World} {k:Key} {u:Value} (r:RelV (kV k) u):(dh P w).is k u=true:=by
 cases k with
 | inl i=>obtain⟨t,e⟩:=(show ∃t,u=Value.int i t from r);subst e;exact Ke P w i t
 | inr x=>obtain⟨t,e⟩:=(show ∃t,u=Value.str x t from r);subst e;exact mK P w x t
theorem Fy {P:Program} {w:World}:∀{ks:List Key} {us:List Value},Vals (ks.map kV) us->ItemsAre (dh P w) ks us
 | [],_,r=>by rw [List.map_nil] at r;cases r;exact .nil
 | k:: ks,_,r=>by
  rw [List.map_cons] at r
  cases r with
  | cons h t=>exact .cons (Dn h) (Fy t)
noncomputable abbrev KT (H:Hp):List (List Key×V)->List (List Key×Addr×Value)->Prop:=Paired fun p q=>p.1=q.1/\H q.2.1=some (.tup (p.1.map kV))/\RelV p.2 q.2.2
theorem KT.val {H:Hp} {kvs:List (List Key×V)} {xs:List (List Key×Addr×Value)} (r:KT H kvs xs) (k:List Key):ue (b8 kvs k) ((atKey xs k).map (·.2)):=by
 induction r with
 | nil=>exact True.intro
 | @cons p q ps qs h t ih=>
  obtain⟨h1,_,h2⟩:=h
  by_cases e:p.1=k
  ·have e':q.1=k:=h1.symm.trans e
   have b:atKey (q:: qs) k=some q.2:=by simp [atKey,List.find?_cons,e']
   rw [gO e,b];exact h2
  ·have e':¬q.1=k:=fun z=>e (h1.trans z)
   have b:atKey (q:: qs) k=atKey qs k:=by simp [atKey,List.find?_cons,e']
   rw [gf e,b];exact ih
theorem KT.repl {H:Hp} {kvs:List (List Key×V)} {xs:List (List Key×Addr×Value)} (r:KT H kvs xs) (k:List Key) {y:V} {u:Value} (ry:RelV y u):
  KT H (kvs.map fun kv=>if kv.1=k then(kv.1,y) else kv) (xs.map (putAt k u)):=by
 induction r with
 | nil=>exact .nil
 | @cons p q ps qs h t ih=>
  rw [List.map_cons,List.map_cons]
  refine .cons ?_ ih
  obtain⟨h1,h2,h3⟩:=h
  unfold putAt
  by_cases e:p.1=k
  ·rw [if_pos e,if_pos (h1.symm.trans e)];exact⟨h1,h2,ry⟩
  ·rw [if_neg e,if_neg (fun z=>e (h1.trans z))];exact⟨h1,h2,h3⟩
theorem KT.put {H:Hp} {kvs:List (List Key×V)} {xs:List (List Key×Addr×Value)} (r:KT H kvs xs) (k:List Key) {b:Addr} {y:V} {u:Value} (hb:H b=some (.tup (k.map kV))) (ry:RelV y u):
  KT H (putK kvs k y) (storedH xs k b u):=by
 have e:(kvs.any fun kv=>decide (kv.1=k))=(atKey xs k).isSome:=by
  rw [rU,(r.val k).isSome_eq,Option.isSome_map]
 unfold putK storedH
 rw [e]
 by_cases q:(atKey xs k).isSome=true
 ·rw [if_pos q,if_pos q];exact r.repl k ry
 ·rw [if_neg q,if_neg q];exact Paired.snoc r ⟨rfl,hb,ry⟩
theorem KT.keeps {H H':Hp} {kvs:List (List Key×V)} {xs:List (List Key×Addr×Value)} (r:KT H kvs xs) (ht:∀b ys,H b=some (.tup ys)->H' b=some (.tup ys)):KT H' kvs xs:=
 Paired.mapP r fun _ _ z=>⟨z.1,ht _ _ z.2.1,z.2.2⟩
section
variable {P:Program} {w:World} {H:Hp} {h:Heap} {a:Addr}
theorem UL {u:HO} (ok:vN P w H h) (e:Rd H a u):fV P w H h a u:=e.ok ok
theorem Bh {kvs:List (Key×V)} (ok:vN P w H h) (e:Rd H a (.dK kvs)):kvs.length<=sizeLine/\(a == sysModules)=false/\∃vs,KV kvs vs/\h.DictOf (dh P w) a vs:=
 show fV P w H h a (.dK kvs) from UL ok e
theorem U7 {kvs:List (Key×V)} (ok:vN P w H h) (e:H a=some (.dK kvs)):kvs.length<=sizeLine/\(a == sysModules)=false/\∃vs,KV kvs vs/\h.DictOf (dh P w) a vs:=Bh ok (.inl e)
theorem zJ {ks:List Key} (ok:vN P w H h) (e:H a=some (.tup (ks.map kV))):(tupleKind (dh P w)).is h ks a:=by
 obtain⟨_,its,r,o,h1,h2,n,h3⟩:=(show fV P w H h a (.tup (ks.map kV)) from ok a _ e)
 exact⟨o,its.toArray,n,h1,h2,h3,by simpa using Fy r⟩
theorem CN {kvs:List (List Key×V)} (ok:vN P w H h) (e:Rd H a (.dT kvs)):kvs.length<=sizeLine/\(a == sysModules)=false/\
  ∃xs,KT H kvs xs/\h.DictOfH (tupleKind (dh P w)) a xs:=by
 obtain⟨z,y,xs,r,o,es,ep,h1,h2,h3,h4,h5⟩:=(show fV P w H h a (.dT kvs) from UL ok e)
 refine⟨z,y,xs,r,o,es,ep,h1,h2,h3,h4,fun x hx=>?_,h5⟩
 have all:∀{l:List (List Key×V)} {m:List (List Key×Addr×Value)},KT H l m->∀x∈m,(tupleKind (dh P w)).is h x.1 x.2.1:=by
  intro l m q
  induction q with
  | nil=>intro x hx;exact nomatch hx
  | @cons p q ps qs hq t ih=>
   intro x hx
   rcases List.mem_cons.mp hx with e | hx
   ·subst e
    exact zJ ok (by rw [<-hq.1];exact hq.2.1)
   ·exact ih x hx
 exact all r x hx
theorem XM {kvs:List (List Key×V)} (ok:vN P w H h) (e:H a=some (.dT kvs)):kvs.length<=sizeLine/\(a == sysModules)=false/\
  ∃xs,KT H kvs xs/\h.DictOfH (tupleKind (dh P w)) a xs:=CN ok (.inl e)
end
noncomputable def eY (H:Hp) (a:Addr) (y:V) (r:Option V):Prop:=
 (∃kvs k,Rd H a (.dK kvs)/\y=kV k/\r=b8 kvs k)∨∃kvs k b,Rd H a (.dT kvs)/\y=.ref b/\H b=some (.tup (k.map kV))/\r=b8 kvs k
noncomputable def km (H:Hp) (a:Addr) (y v:V) (H':Hp):Prop:=
 (∃kvs k,H a=some (.dK kvs)/\y=kV k/\kvs.length <sizeLine/\H'=upd H a (.dK (putK kvs k v)))∨
 ∃kvs k b,H a=some (.dT kvs)/\y=.ref b/\H b=some (.tup (k.map kV))/\kvs.length <sizeLine/\H'=upd H a (.dT (putK kvs k v))
theorem eY.k {H:Hp} {a:Addr} {kvs:List (Key×V)} {k:Key} (e:H a=some (.dK kvs)):eY H a (kV k) (b8 kvs k):=.inl ⟨kvs,k,.inl e,rfl,rfl⟩
theorem km.k {H:Hp} {a:Addr} {kvs:List (Key×V)} {k:Key} {v:V} (e:H a=some (.dK kvs)) (hl:kvs.length <sizeLine):km H a (kV k) v (upd H a (.dK (putK kvs k v))):=.inl ⟨kvs,k,e,rfl,hl,rfl⟩
section
variable {X:Cx} {pins:List (Addr×Obj)} {σ:St} {H:Hp} {s:Shared} {a:Addr} {y v:V} {u r:Value} {o:Option V} {A:Around} {E:Value->Shared->Prop}
theorem Inv.big (I:Inv X pins σ H s):sysModules <s.heap.objs.size:=by
 have h:mainGlobals <s.heap.objs.size:=(I.mod.glob.keeps I.bk).lt
 exact Nat.lt_trans (by decide) h
theorem GC {Q:Value->Shared->Prop} (hu:A.units+1 <cLine) (I:Inv X pins σ H s) (g:eY H a y (some v)) (ry:RelV y u) (h:∀w' s',Inv X pins σ H s'->RelV v w'->Q w' s'):
  wpAny (model X.prog X.w) A (getItem (.ref a) u) Q E s:=by
 rcases g with ⟨kvs,k,e,ey,l⟩ | ⟨kvs,k,b,e,ey,eb,l⟩
 ·subst ey
  obtain⟨z,hd,vs,rel,dd⟩:=Bh I.hok e
  obtain⟨w',hw,rw'⟩:=ue.some_of (v:=v) (o:=valueAt vs k) (by rw [l];exact rel.val k)
  exact wpAny_getItem_of (Dn ry) dd.mapOf hw (h w' _ (I.tok _) rw')
 ·subst ey
  cases (show u=Value.ref b from ry)
  obtain⟨z,hd,xs,rel,dd⟩:=CN I.hok e
  obtain⟨w',hw,rw'⟩:=ue.some_of (v:=v) (o:=(atKey xs k).map (·.2)) (by rw [l];exact rel.val k)
  obtain⟨p,hp,hp2⟩:=Option.map_eq_some_iff.mp hw
  refine wpAny_getItem_heap (tupleKind_room_in1 hu) (zJ I.hok eb) dd hp ?_
  rw [hp2]
  exact h w' _ (I.tok _) rw'
theorem YB {Q:Value->Shared->Prop} (hu:A.units+1 <cLine) (I:Inv X pins σ H s) (g:eY H a y o) (ry:RelV y u) (h:∀s',Inv X pins σ H s'->Q (.bool o.isSome) s'):
  wpAny (model X.prog X.w) A (compareOp .In u (.ref a)) Q E s:=by
 rcases g with ⟨kvs,k,e,ey,l⟩ | ⟨kvs,k,b,e,ey,eb,l⟩
 ·subst ey
  obtain⟨z,hd,vs,rel,dd⟩:=Bh I.hok e
  refine wpAny_in_of (Dn ry) hd dd.mapOf ?_
  rw [<-(rel.val k).isSome_eq,<-l]
  exact h _ (I.tok _)
 ·subst ey
  cases (show u=Value.ref b from ry)
  obtain⟨z,hd,xs,rel,dd⟩:=CN I.hok e
  refine wpAny_in_heap (tupleKind_room_in1 hu) (zJ I.hok eb) hd dd ?_
  have q:=(rel.val k).isSome_eq
  rw [Option.isSome_map] at q
  rw [<-q,<-l]
  exact h _ (I.tok _)
theorem Ue {Q:Value->Shared->Prop} (hu:A.units+1 <cLine) (I:Inv X pins σ H s) (g:eY H a y o) (ry:RelV y u) (h:∀s',Inv X pins σ H s'->Q (.bool (!o.isSome)) s'):
  wpAny (model X.prog X.w) A (compareOp .NotIn u (.ref a)) Q E s:=by
 rcases g with ⟨kvs,k,e,ey,l⟩ | ⟨kvs,k,b,e,ey,eb,l⟩
 ·subst ey
  obtain⟨z,hd,vs,rel,dd⟩:=Bh I.hok e
  refine wpAny_notIn_of (Dn ry) hd dd.mapOf ?_
  rw [<-(rel.val k).isSome_eq,<-l]
  exact h _ (I.tok _)
 ·subst ey
  cases (show u=Value.ref b from ry)
  obtain⟨z,hd,xs,rel,dd⟩:=CN I.hok e
  refine wpAny_notIn_heap (tupleKind_room_in1 hu) (zJ I.hok eb) hd dd ?_
  have q:=(rel.val k).isSome_eq
  rw [Option.isSome_map] at q
  rw [<-q,<-l]
  exact h _ (I.tok _)
theorem Hu {h':Heap} {t':Nat} {ob:HO} (I:Inv X pins σ H s) (mu:WT (H a)) (hs:Heap.SameBut a s.heap h') (he:∃q,h'.get? a=some q) (new:fV X.prog X.w (upd H a ob) h' a ob):
  Inv X pins σ (upd H a ob) { s with heap:=h',toks:=t' }:=
 I.write (x:=a) (e:=a) mu (.inl rfl) (fun b q hb z=>(hs.2 b hb).trans z) he new
theorem Qo {P:Program} {w:World} {H':Hp} {h':Heap} {kvs:List (Key×V)} {vs:List (Key×Value)} (z:kvs.length<=sizeLine) (hd:(a == sysModules)=false) (rel:KV kvs vs) (dd:h'.DictOf (dh P w) a vs):
  fV P w H' h' a (.dK kvs):=⟨z,hd,vs,rel,dd⟩
theorem Fw {H':Hp} {Q:Unit->Shared->Prop} (hu:A.units+1 <cLine) (I:Inv X pins σ H s) (g:km H a y v H') (ry:RelV y u) (rv:RelV v r) (h:∀s',Inv X pins σ H' s'->Q () s'):
  wpAny (model X.prog X.w) A (setItem (.ref a) u r) Q E s:=by
 rcases g with ⟨kvs,k,e,ey,l,eH⟩ | ⟨kvs,k,b,e,ey,eb,l,eH⟩
 ·subst ey eH
  obtain⟨z,hd,vs,rel,dd⟩:=U7 I.hok e
  have hz:vs.length<=sizeLine:=by rw [<-rel.length];exact z
  have hl:(putK kvs k v).length<=sizeLine:=by have:=mX kvs k v;omega
  refine wpAny_setItem_pairs (hsz:=hz) (Dn ry) dd fun h' dd' hs=>h _ ?_
  have he:∃q,h'.get? a=some q:=let ⟨q,_,_,hq,_⟩:=dd';⟨q,hq⟩
  exact Hu I (by rw [e];exact True.intro) hs he (Qo hl hd (rel.put k rv) dd')
 ·subst ey eH
  cases (show u=Value.ref b from ry)
  obtain⟨z,hd,xs,rel,dd⟩:=XM I.hok e
  have hz:xs.length<=sizeLine:=by rw [<-Paired.length rel];exact z
  have hl:(putK kvs k v).length<=sizeLine:=by have:=mX kvs k v;omega
  refine wpAny_setItem_heap (hsz:=hz) (tupleKind_room_in1 hu) (zJ I.hok eb) dd fun h' dd' hs=>h _ ?_
  obtain⟨q,es,ep,hq,h2,h3,h4,_,h5⟩:=dd'
  refine Hu I (by rw [e];exact True.intro) hs ⟨q,hq⟩ ⟨hl,hd,_,(rel.put k eb rv).keeps fun c ys ec=>?_,q,es,ep,hq,h2,h3,h4,h5⟩
  rw [aH (wy ec e (fun z=>nomatch z))]
  exact ec
end
section
variable {X:Cx} {pins:List (Addr×Obj)} {σ:St} {H:Hp} {s:Shared} {a:Addr} {kvs:List (Key×V)} {k:Key} {u:Value} {A:Around} {E:Value->Shared->Prop}
end
noncomputable def Xy (i:Expr):Prop:=∀ov iv,subscripted i false ov iv=operate [ov,iv] (getItem ov iv)
theorem Tw {prog:Program} {w:World} {A:Around} {E:Value->Shared->Prop} {s:Shared} {env:Env} {value slice:Expr} {pos:Pos} {T id:String} {Q:Value->Shared->Prop}
  (hl:typeLookup (.type T) "__getitem__" =pure (some (.builtin id))) (hs:Xy slice)
  (h:wpAny (model prog w) A (eval value env) (fun o s₁=>wpAny (model prog w) A (eval slice env) (fun i s₂=>s₂.TypeIs o T/\wpAny (model prog w) A (getItem o i) Q E s₂) E s₁) E s):
  wpAny (model prog w) A (eval (.Subscript value slice pos) env) Q E s:=by
 refine Subscript_ (wpAny_mono h (fun o s₁ h₁=>wpAny_mono h₁ (fun i s₂ h₂=>?_) fun _ _ x=>x) fun _ _ x=>x)
 obtain⟨hT,h₂⟩:=h₂
 unfold subscriptTail
 refine wpAny_bind ?_
 rw [getitemInPython_of_ne hT.not_modules]
 refine wpAny_bind (wpAny_specialOf hT hl ?_)
 have fin:wpAny (model prog w) A (subscripted slice false o i) (fun r s₃=>wpAny (model prog w) A (letTemporaryGo value o r >>= fun _=>pure r) Q E s₃) E s₂:=by
  rw [hs o i]
  exact wpAny_operating (wpAny_mono h₂ (fun r s₃ h₃=>wpAny_bind (wpAny_letTemporaryGo (wpAny_pure h₃))) fun _ _ x=>x)
 first
  | exact wpAny_pure (wpAny_bind fin)
  | exact wpAny_bind (wpAny_pure (wpAny_bind fin))
  | exact wpAny_bind fin
theorem JC {X:Cx} {pins:List (Addr×Obj)} {σ:St} {H:Hp} {s:Shared} {a:Addr} {y:V} {o:Option V} (I:Inv X pins σ H s) (g:eY H a y o):s.TypeIs (.ref a) "dict" :=by
 rcases g with ⟨kvs,k,e,_,_⟩ | ⟨kvs,k,b,e,_,_,_⟩
 ·obtain⟨_,_,vs,_,dd⟩:=Bh I.hok e
  exact dd.typeIs
 ·obtain⟨_,_,xs,_,dd⟩:=CN I.hok e
  exact dd.typeIs
inductive QT (Q:VK) (x:V) (y:V) (H2:Hp):Prop where
 | mk:∀a v,x=.ref a->eY H2 a y (some v)->Q v H2->QT Q x y H2
noncomputable def Xl (td ty:TE):TE:=fun σ H Q=>td σ H fun x H1=>ty σ H1 fun y H2=>QT Q x y H2
inductive U9 (Q:VK) (y:V) (x:V) (H2:Hp):Prop where
 | mk:∀a o,x=.ref a->eY H2 a y o->Q (.bl o.isSome) H2->U9 Q y x H2
noncomputable def Zh (ty td:TE):TE:=fun σ H Q=>ty σ H fun y H1=>td σ H1 fun x H2=>U9 Q y x H2
inductive J6 (Q:VK) (y:V) (x:V) (H2:Hp):Prop where
 | mk:∀a o,x=.ref a->eY H2 a y o->Q (.bl (!o.isSome)) H2->J6 Q y x H2
noncomputable def SJ (ty td:TE):TE:=fun σ H Q=>ty σ H fun y H1=>td σ H1 fun x H2=>J6 Q y x H2
inductive RQ (D:Ends) (σ:St) (v:V) (x:V) (y:V) (H3:Hp):Prop where
 | mk:∀a H4,x=.ref a->km H3 a y v H4->D.nx σ H4->RQ D σ v x y H3
noncomputable def Yd (td ty tv:TE):TS:=fun D σ H=>tv σ H fun v H1=>td σ H1 fun x H2=>ty σ H2 fun y H3=>RQ D σ v x y H3
inductive PB (tv:TE) (rd:V->V->Hp->VK->Prop) (D:Ends) (σ:St) (x:V) (y:V) (H2:Hp):Prop where
 | mk:∀a v,x=.ref a->eY H2 a y (some v)->(tv σ H2 fun y2 H3=>rd v y2 H3 fun z H4=>∃H5,km H4 a y z H5/\D.nx σ H5)->PB tv rd D σ x y H2
noncomputable def Xf (td ty tv:TE) (rd:V->V->Hp->VK->Prop):TS:=fun D σ H=>td σ H fun x H1=>ty σ H1 fun y H2=>PB tv rd D σ x y H2
section
variable {X:Cx} {o i e value:Expr} {pos pos' tpos:Pos} {td ty tv:TE}
theorem bH (hu:X.A.units+1 <cLine) (ho:PE X o td) (hi:PE X i ty) (hs:Xy i):PE X (.Subscript o i pos) (Xl td ty):=by
 intro pins s σ H Q I h
 refine Tw PySem.F.slot_dict_getitem.lookup hs (dU (ho pins s σ H _ I h) fun u s1 ⟨x,H1,I1,rx,q1⟩=>dU (hi pins s1 σ H1 _ I1 q1) fun iv s2 hpt=>?_)
 obtain⟨y,H2,I2,ry,a,v,ex,g,q2⟩:=hpt
 subst ex
 obtain rfl:u=Value.ref a:=rx
 exact⟨JC I2 g,GC hu I2 g ry fun w' s3 I3 rw'=>⟨v,H2,I3,rw',q2⟩⟩
theorem zF (hu:X.A.units+1 <cLine) (hi:PE X i ty) (ho:PE X o td):PC X .In i o (Zh ty td):=by
 intro pins s σ H Q I h
 refine dU (hi pins s σ H _ I h) fun iv s1 ⟨y,H1,I1,ry,q1⟩=>dU (ho pins s1 σ H1 _ I1 q1) fun u s2 hpt=>?_
 obtain⟨x,H2,I2,rx,a,ov,ex,g,q2⟩:=hpt
 subst ex
 obtain rfl:u=Value.ref a:=rx
 exact YB hu I2 g ry fun s3 I3=>⟨.bl ov.isSome,H2,I3,rfl,q2⟩
theorem vJ (hu:X.A.units+1 <cLine) (hi:PE X i ty) (ho:PE X o td):PC X .NotIn i o (SJ ty td):=by
 intro pins s σ H Q I h
 refine dU (hi pins s σ H _ I h) fun iv s1 ⟨y,H1,I1,ry,q1⟩=>dU (ho pins s1 σ H1 _ I1 q1) fun u s2 hpt=>?_
 obtain⟨x,H2,I2,rx,a,ov,ex,g,q2⟩:=hpt
 subst ex
 obtain rfl:u=Value.ref a:=rx
 exact Ue hu I2 g ry fun s3 I3=>⟨.bl (!ov.isSome),H2,I3,rfl,q2⟩
theorem eX (hu:X.A.units+1 <cLine) (ho:PE X o td) (hi:PE X i ty) (hv:PE X value tv) (hs:swapsWith value (some (.Subscript o i pos')) pos.line X.env=pure false):
  PS X (.Assign [.Subscript o i pos'] value pos) (Yd td ty tv):=by
 intro pins s σ H D I h
 refine wpAny_Assign_Subscript (dU (hv pins s σ H _ I h) fun r s1 ⟨v,H1,I1,rv,q1⟩=>dU (ho pins s1 σ H1 _ I1 q1) fun u s2 ⟨x,H2,I2,rx,q2⟩=>dU (hi pins s2 σ H2 _ I2 q2) fun iv s3 hpt=>?_) hs
 obtain⟨y,H3,I3,ry,a,H4,ex,g,q3⟩:=hpt
 subst ex
 obtain rfl:u=Value.ref a:=rx
 exact Fw hu I3 g ry rv fun s4 I4=>⟨σ,H4,I4,q3⟩
theorem Iu {op:Operator} {rd:V->V->Hp->VK->Prop} (hu:X.A.units+1 <cLine) (ho:PE X o td) (hi:PE X i ty) (hv:PE X value tv) (hop:WP X op rd)
  (ha:∀ov iv new,augStore i ov iv new=(do holding [new,ov,iv] (setItem ov iv new);release [new,ov,iv] [];pure .next)):PS X (.AugAssign (.Subscript o i tpos) op value pos) (Xf td ty tv rd):=by
 intro pins s σ H D I h
 refine wpAny_AugAssign_SubscriptAny (dU (ho pins s σ H _ I h) fun u s1 ⟨x,H1,I1,rx,q1⟩=>dU (hi pins s1 σ H1 _ I1 q1) fun iv s2 hpt=>?_) ha
 obtain⟨y,H2,I2,ry,a,v,ex,g,q2⟩:=hpt
 subst ex
 obtain rfl:u=Value.ref a:=rx
 refine GC hu I2 g ry fun w' s3 I3 rw'=>dU (hv pins s3 σ H2 _ I3 q2) fun w2 s4 ⟨y2,H3,I4,ry2,q3⟩=>dU (hop pins s4 σ H3 v y2 w' w2 _ I4 rw' ry2 q3) fun w3 s5 hpt=>?_
 obtain⟨z,H4,I5,rz,H5,g5,q4⟩:=hpt
 exact Fw hu I5 g5 ry rz fun s6 I6=>⟨σ,H5,I6,q4⟩
end
theorem Jh {P:Program} {w:World} {H:Hp} (h:Heap) (hb:sysModules <h.objs.size):fV P w H (h.push { cls:=.type "dict",data:=.dict #[] }) h.objs.size (.dK []):=
 ⟨Nat.zero_le _,beq_eq_false_iff_ne.mpr (Ne.symm (Nat.ne_of_lt hb)),[],.nil,Heap.DictOf.new h⟩
noncomputable def Rj:TE:=fun _ H Q=>∀p,H p=none->Q (.ref p) (upd H p (.dK []))
section
variable {X:Cx} {pos:Pos}
theorem gM:PE X (.Dict [] [] pos) Rj:=fun pins s σ H Q I h=>
 wpAny_Dict_empty ⟨.ref s.heap.objs.size,_,I.laid (a:=s.heap.objs.size) (o:=.dK []) (t':=s.toks) (fun _ _ q=>Heap.get?_push_of_some _ q) (Nat.le_refl _) (Jh s.heap I.big),rfl,h _ (I.hok.fresh (Nat.le_refl _))⟩
end
noncomputable def Kh:List (TE×TE)->St->Hp->(List (V×V)->Hp->Prop)->Prop
 | [],_,H,Q=>Q [] H
 | (tk,tv):: r,σ,H,Q=>tk σ H fun x H1=>tv σ H1 fun y H2=>Kh r σ H2 fun ps H3=>Q ((x,y):: ps) H3
noncomputable abbrev VV:List (V×V)->List (Value×Value)->Prop:=Paired fun p q=>RelV p.1 q.1/\RelV p.2 q.2
noncomputable def WN (X:Cx) (pos:Pos) (keys:List (Option Expr)) (values:List Expr) (trs:List (TE×TE)):Prop:=
 ∀(pins:List (Addr×Obj)) (s:Shared) (σ:St) (H:Hp) (Q:List (V×V)->Hp->Prop),Inv X pins σ H s->Kh trs σ H Q->
  wpAny (model X.prog X.w) X.A (evalPairs (pairTrees keys values X.env pos)) (fun vs s'=>∃ps H',Inv X pins σ H' s'/\VV ps vs/\Q ps H') X.xe s
theorem MJ {X:Cx} {pos:Pos}:WN X pos [] [] []:=fun pins s σ H Q I h=>pairTrees_nil_walk ⟨[],H,I,.nil,h⟩
theorem Jo {X:Cx} {pos:Pos} {k v:Expr} {ks:List (Option Expr)} {vs:List Expr} {tk tv:TE} {trs:List (TE×TE)} (hk:PE X k tk) (hv:PE X v tv) (hr:WN X pos ks vs trs):
  WN X pos (some k:: ks) (v:: vs) ((tk,tv):: trs):=fun pins s σ H Q I h=>
 pairTrees_cons_walk (dU (hk pins s σ H _ I h) fun u s1 ⟨x,H1,I1,rx,q1⟩=>dU (hv pins s1 σ H1 _ I1 q1) fun w2 s2 ⟨y,H2,I2,ry,q2⟩=>
  dU (hr pins s2 σ H2 _ I2 q2) fun ws s3 ⟨ps,H3,I3,rel,q3⟩=>⟨(x,y):: ps,H3,I3,.cons ⟨rx,ry⟩ rel,q3⟩)
noncomputable def qN (kvs more:List (Key×V)):List (Key×V):=more.foldl (fun acc kv=>putK acc kv.1 kv.2) kvs
theorem KV.merge:∀{more:List (Key×V)} {rs:List (Key×Value)} {kvs:List (Key×V)} {vs:List (Key×Value)},KV more rs->KV kvs vs->KV (qN kvs more) (merged vs rs):=by
 intro more rs kvs vs r
 unfold KV at r
 induction r generalizing kvs vs with
 | nil=>intro q;exact q
 | @cons p q ps qs h t ih=>
  intro r0
  have e:KV (putK kvs p.1 p.2) (stored vs q.1 q.2):=by
   have:=r0.put p.1 h.2
   rw [<-h.1];exact this
  exact ih e
theorem xg:∀(more kvs:List (Key×V)),(qN kvs more).length<=kvs.length+more.length
 | [],kvs=>by show kvs.length<=kvs.length+0;omega
 | p:: r,kvs=>by
  have h1:=xg r (putK kvs p.1 p.2)
  have h2:=mX kvs p.1 p.2
  show(qN (putK kvs p.1 p.2) r).length<=_
  rw [List.length_cons];omega
theorem Ei {P:Program} {w:World}:∀{kvs:List (Key×V)} {ws:List (Value×Value)},VV (kvs.map fun kv=>(kV kv.1,kv.2)) ws->∃rs,Carries (dh P w) ws rs/\KV kvs rs
 | [],_,r=>by rw [List.map_nil] at r;cases r;exact⟨[],True.intro,.nil⟩
 | p:: kvs,_,r=>by
  rw [List.map_cons] at r
  cases r with
  | @cons a b as bs h t=>
   obtain⟨rs,c,q⟩:=Ei (P:=P) (w:=w) t
   obtain⟨b1,b2⟩:=b
   exact⟨(p.1,b2):: rs,⟨Dn h.1,rfl,c⟩,.cons ⟨rfl,h.2⟩ q⟩
noncomputable def U4 (trs:List (TE×TE)):TE:=fun σ H Q=>∀p,H p=none->Kh trs σ (upd H p (.dK [])) fun ps H2=>H2 p=some (.dK [])/\∃kvs:List (Key×V),ps=kvs.map (fun kv=>(kV kv.1,kv.2))/\kvs.length<=15/\Q (.ref p) (upd H2 p (.dK (qN [] kvs)))
theorem Mz {X:Cx} {pos:Pos} {keys:List (Option Expr)} {values:List Expr} {trs:List (TE×TE)} (h:WN X pos keys values trs) (hall:keys.all (·.isSome)=true) (hl:keys.length=values.length) (h0:keys≠[])
  (h15:keys.length<=15):PE X (.Dict keys values pos) (U4 trs):=by
 intro pins s σ H Q I q
 have hn:=I.hok.fresh (Nat.le_refl s.heap.objs.size)
 have I1:=I.laid (a:=s.heap.objs.size) (o:=.dK []) (h':=s.heap.push { cls:=.type "dict",data:=.dict #[] }) (t':=s.toks) (fun _ _ q=>Heap.get?_push_of_some _ q) (Nat.le_refl _) (Jh s.heap I.big)
 refine wpAny_Dict_walk (knd:=dh X.prog X.w) hall hl h0 h15 (dU (h pins _ σ _ _ I1 (q _ hn)) fun ws s2 hpt=>?_)
 obtain⟨ps,H2,I2,rel,e,kvs,ep,lk,q2⟩:=hpt
 subst ep
 obtain⟨rs,c,rk⟩:=Ei (P:=X.prog) (w:=X.w) rel
 obtain⟨z,hd,vs0,r0,dd⟩:=U7 I2.hok e
 cases r0
 refine⟨rs,c,dd,fun h' dd' hs=>⟨.ref s.heap.objs.size,_,?_,rfl,q2⟩⟩
 have hz:(qN [] kvs).length<=sizeLine:=by
  have h1:=xg kvs []
  rw [List.length_nil] at h1
  rw [sizeLine_eq];omega
 have he:∃q,h'.get? s.heap.objs.size=some q:=let ⟨q,_,_,hq,_⟩:=dd';⟨q,hq⟩
 exact Hu I2 (by rw [e];exact True.intro) hs he (Qo hz hd (rk.merge .nil) dd')
structure M2 (X:Cx) (o:Expr) (m:Str) (apos:Pos) (e f:Expr) (cpos:Pos):Prop where
 base:attributeBase o m X.env (eval o X.env)=eval o X.env
 few:((backTo cpos (starEach [e,f] X.env)).all (fun x=>!x.1) && (backToKw cpos (keywordEach [] X.env)).all (fun x=>x.1.isSome)
  && decide (([e,f]:List Expr).length+([]:List Keyword).length+(if ([]:List Keyword).isEmpty then 0 else 1) <30))=true
 line:(apos.endLine == cpos.line)=true
 trees:backTo cpos (starEach [e,f] X.env)=[(false,eval e X.env),(false,eval f X.env)]
noncomputable def Zx (H:Hp) (a:Addr):Prop:=(∃kvs,Rd H a (.dK kvs))∨∃kvs,Rd H a (.dT kvs)
theorem VP {X:Cx} {pins:List (Addr×Obj)} {σ:St} {H:Hp} {s:Shared} {a:Addr} (I:Inv X pins σ H s) (d:Zx H a):
  s.TypeIs (.ref a) "dict" /\(∀b,Value.ref a=.ref b->∃ob,s.heap.get? b=some ob/\ob.dict=none)/\(a == sysModules)=false:=by
 rcases d with ⟨kvs,e⟩ | ⟨kvs,e⟩
 ·obtain⟨_,hd,vs,_,dd⟩:=Bh I.hok e
  refine⟨dd.typeIs,fun b q=>?_,hd⟩
  cases q
  obtain⟨ob,_,_,h1,h2,_⟩:=dd
  exact⟨ob,h1,h2.2.1⟩
 ·obtain⟨_,hd,xs,_,dd⟩:=CN I.hok e
  refine⟨dd.typeIs,fun b q=>?_,hd⟩
  cases q
  obtain⟨ob,_,_,h1,h2,_⟩:=dd
  exact⟨ob,h1,h2.2.1⟩
section
variable {X:Cx} {pins:List (Addr×Obj)} {σ:St} {H:Hp} {s:Shared} {a:Addr} {y d:V} {u r:Value} {o:Option V} {A:Around} {E:Value->Shared->Prop}
theorem Wl {Q:Value->Shared->Prop} (hu:A.units+1 <cLine) (I:Inv X pins σ H s) (g:eY H a y o) (ry:RelV y u) (rd:RelV d r) (h:∀w' s',Inv X pins σ H s'->RelV (o.getD d) w'->Q w' s'):
  wpAny (model X.prog X.w) A (call (.builtin "dict.get") [.ref a,u,r]) Q E s:=by
 rcases g with ⟨kvs,k,e,ey,l⟩ | ⟨kvs,k,b,e,ey,eb,l⟩
 ·subst ey
  obtain⟨z,hd,vs,rel,dd⟩:=Bh I.hok e
  refine call_meetsIn PySem.F.slot_dict_get dd.typeIs PySem.F.entry_dict_get (PySem.F.args_dict_get_3 _ _ _) (meets_dict_get_default (dh X.prog X.w) a (Dn ry) hd r) ⟨_,dd.mapOf,h _ _ (I.tok _) ?_⟩
  rw [l]
  exact(rel.val k).getD rd
 ·subst ey
  cases (show u=Value.ref b from ry)
  obtain⟨z,hd,xs,rel,dd⟩:=CN I.hok e
  refine call_meetsIn PySem.F.slot_dict_get dd.typeIs PySem.F.entry_dict_get (PySem.F.args_dict_get_3 _ _ _) (meetsH_dict_get_default (tupleKind (dh X.prog X.w)) a b hd r) ⟨tupleKind_room_in1 hu,k,xs,zJ I.hok eb,dd,h _ _ (I.tok _) ?_⟩
  rw [l]
  exact(rel.val k).getD rd
end
inductive Mj (ty:TE) (tx:TE) (σ:St) (Q:VK) (x:V) (H1:Hp):Prop where
 | mk:∀a,x=.ref a->Zx H1 a->(ty σ H1 fun y H2=>tx σ H2 fun z H3=>∃o,eY H3 a y o/\Q (o.getD z) H3)->Mj ty tx σ Q x H1
noncomputable def Wc (td ty tx:TE):TE:=fun σ H Q=>td σ H fun x H1=>Mj ty tx σ Q x H1
section
variable {X:Cx} {o e f:Expr} {apos cpos:Pos} {td ty tx:TE}
theorem Jw (hu:X.A.units+1 <cLine) (ho:PE X o td) (he:PE X e ty) (hf:PE X f tx) (m:M2 X o "get" apos e f cpos):PE X (.Call (.Attribute o "get" apos) [e,f] [] cpos) (Wc td ty tx):=by
 intro pins s σ H Q I h
 refine wpAny_Call_method m.base m.few m.line PySem.F.plainAttrs_dict PySem.F.slot_dict_get PySem.F.type_dict_get (dU (ho pins s σ H _ I h) fun u s1 hpt=>?_)
 obtain⟨x,H1,I1,rx,a,ex,d,q1⟩:=hpt
 subst ex
 obtain rfl:u=Value.ref a:=rx
 obtain⟨t1,t2,_⟩:=VP I1 d
 refine⟨t1,t2,?_⟩
 rw [m.trees]
 refine Calls.callWith_builtin rfl (Calls.evalArgs_plain (Calls.spliced_cons (dU (he pins s1 σ H1 _ I1 q1) fun iv s2 ⟨y,H2,I2,ry,q2⟩=>
  Calls.spliced_cons (dU (hf pins s2 σ H2 _ I2 q2) fun fv s3 ⟨z,H3,I3,rz,ov,g,q3⟩=>Calls.spliced_nil ?_))))
 exact Wl hu I3 g ry rz fun w' s4 I4 rw'=>⟨_,H3,I4,rw',q3⟩
end
section
variable {X:Cx} {pins:List (Addr×Obj)} {σ:St} {H:Hp} {s:Shared} {a:Addr} {kvs:List (Key×V)} {A:Around} {E:Value->Shared->Prop}
end
section
variable {X:Cx} {pins:List (Addr×Obj)} {σ:St} {H:Hp} {s:Shared} {a:Addr} {y:V} {u:Value} {A:Around} {E:Value->Shared->Prop}
end
section
variable {X:Cx} {pins:List (Addr×Obj)} {σ:St} {H:Hp} {s:Shared} {d:Addr} {kvs:List (Key×V)}
theorem Inv.chill (I:Inv X pins σ H s) (e:H d=some (.dK kvs)):∃o,s.heap.get? d=some o/\Inv X pins σ (upd H d (.frz o (.dK kvs))) s:=by
 obtain⟨z,hd,vs,rel,o,es,ep,ho,r⟩:=(show fV X.prog X.w H s.heap d (.dK kvs) from I.hok d _ e)
 refine⟨o,ho,?_⟩
 have:=I.write (x:=d) (e:=d) (o:=.frz o (.dK kvs)) (h':=s.heap) (t':=s.toks) (by rw [e];exact True.intro) (.inl rfl) (fun b u _ q=>q) ⟨o,ho⟩ ⟨ho,z,hd,vs,rel,o,es,ep,ho,r⟩
 exact this
theorem Inv.melt {o:Obj} (I:Inv X pins σ H s) (e:H d=some (.frz o (.dK kvs))) (h0:∀o u,X.H₀ d≠some (.frz o u)):Inv X pins σ (upd H d (.dK kvs)) s:=by
 have ne:∀b u,H b=some u->(∀o v,u≠.frz o v)->b≠d:=fun b u q n z=>by
  rw [z,e] at q
  exact n _ _ (Option.some.inj q).symm
 have no:∀b,H b=none->b≠d:=fun b q z=>by rw [z,e] at q;cases q
 refine⟨I.ok,I.os,I.bare,⟨I.base.keep,I.base.slot,fun b u q n hx=>?_,I.base.there,fun b xs q=>?_,fun b u v q=>?_,fun b ps q=>?_⟩,I.loc,I.cell,?_,fun y c q=>?_,fun p h=>?_,fun b u q=>?_,I.len⟩
 ·have z:=I.base.free b u q n hx
  rw [aH (no b z)];exact z
 ·have z:=I.base.tups b xs q
  rw [aH (ne b _ z (by intro _ _ w;cases w))];exact z
 ·have z:=I.base.frzs b u v q
  rw [aH (fun w=>by rw [w] at q;exact h0 _ _ q)];exact z
 ·obtain⟨m,z⟩:=I.base.tbls b ps q
  exact⟨m,by rw [aH (ne b _ z (by intro _ _ w;cases w))];exact z⟩
 ·rw [aH (no _ I.free)];exact I.free
 ·rw [aH (no _ (I.freeC y c q))];exact I.freeC y c q
 ·obtain⟨z1,z2,r⟩:=I.pin p h
  exact⟨z1,by rw [aH (no _ z2)];exact z2,r⟩
 ·by_cases w:b=d
  ·subst w
   rw [au] at q
   cases q
   exact(I.hok b _ e).2
  ·rw [aH w] at q
   exact(I.hok b u q).stay (fun _ _ _ z=>z) (fun c z=>by rw [aH (ne c _ z (by intro _ _ w;cases w))];exact z) fun c xs z=>by rw [aH (ne c _ z (by intro _ _ w;cases w))];exact z
end
inductive S5 (H0 H H':Hp):Prop where
 | mk:∀d o kvs,H d=some (.frz o (.dK kvs))->((∀o u,H0 d≠some (.frz o u)))->H'=upd H d (.dK kvs)->S5 H0 H H'
section
variable {X:Cx} {H0:Hp} {st:Stmt} {sts:List Stmt} {e:Expr} {t:TS} {te:TE}
theorem Ni (hH:X.H₀=H0) (h:PS X st t):PS X st (fun D σ H=>∃H',S5 H0 H H'/\t D σ H'):=by
 subst hH
 intro pins s σ H D I hh
 obtain⟨H',⟨d,o,kvs,e,n,rfl⟩,q⟩:=hh
 exact h pins s σ _ D (I.melt e n) q
theorem pH (hH:X.H₀=H0) (h:PS X st t):PS X st (fun D σ H=>t { D with nx:=fun σ' H'=>∃H'',S5 H0 H' H''/\D.nx σ' H'' } σ H):=by
 subst hH
 intro pins s σ H D I hh
 refine dU (h pins s σ H _ I hh) fun f s1 q=>?_
 cases f with
 | next=>obtain⟨σ',H',I',H'',⟨d,o,kvs,e,n,rfl⟩,q⟩:=q;exact⟨σ',_,I'.melt e n,q⟩
 | ret v=>exact q
 | brk=>exact q
 | cont=>exact q
theorem Tg (hH:X.H₀=H0) (h:PE X e te):PE X e (fun σ H Q=>te σ H fun v H1=>∃H2,S5 H0 H1 H2/\Q v H2):=by
 subst hH
 intro pins s σ H Q I hh
 refine dU (h pins s σ H _ I hh) fun u s1 q=>?_
 obtain⟨v,H1,I1,r,H2,⟨d,o,kvs,e,n,rfl⟩,q⟩:=q
 exact⟨v,_,I1.melt e n,r,q⟩
end
noncomputable def WM (d:Addr) (o:Obj) (kvs:List (Key×V)):It:=
 ⟨fun i H=>H d=some (.frz o (.dK kvs))/\i <kvs.length,fun i H x H'=>H'=H/\∃k v,kvs[i]?=some (k,v)/\x=kV k,fun i H=>H d=some (.frz o (.dK kvs))/\kvs.length<=i⟩
theorem Rn {P:Program} {w:World} {k:Key} {u:Value} (h:(dh P w).is k u=true):RelV (kV k) u:=by
 rcases fj (k:=k) (v:=u) h with ⟨i,t,rfl,rfl⟩ | ⟨x,t,rfl,rfl⟩
 ·exact⟨t,rfl⟩
 ·exact⟨t,rfl⟩
theorem K8:∀{kvs:List (Key×V)} {vs:List (Key×Value)} {i:Nat} {k:Key} {v:V},KV kvs vs->kvs[i]?=some (k,v)->∃v',vs[i]?=some (k,v')
 | _,_,0,k,v,.cons h _,e=>by
  cases (Option.some.inj e)
  exact⟨_,by rw [List.getElem?_cons_zero,show k=_ from h.1]⟩
 | _,_,i+1,k,v,.cons _ t,e=>by
  obtain⟨v',z⟩:=K8 (i:=i) (k:=k) (v:=v) t (by simpa using e)
  exact⟨v',by simpa using z⟩
theorem Pa {P:Program} {w:World} {K:PySem.W.Frag} {tg:Expr} {d it:Addr} {o:Obj} {kvs:List (Key×V)} {vs:List (Key×Value)} {ep:Nat} (rel:KV kvs vs) (hD:∀h:Heap,h.get? d=some o->h.DictAt (dh P w) d vs ep):
  Turn P w K tg (WM d o kvs) [it] it (fun i h=>h.IsKeyIter it d i vs.length ep) where
 mem:=by simp
 obj:=fun i h st b hb=>by
  have e:b=it:=by simpa using hb
  subst e
  obtain⟨o,e,c,d⟩:=st
  exact⟨o,e,fun v z=>by rw [d] at z;cases z⟩
 keep:=fun i h h' st k=>st.at fun o e=>k it (by simp) o e
 item:=by
  intro X hP hw hK hc i pins s σ H E I hf st hg
  subst hP hw hK
  obtain⟨hq,hi⟩:=hg
  obtain⟨f0,f1,f2,f3,f4,f5⟩:=hf it (by simp)
  have ho:s.heap.get? d=some o:=(I.hok d _ hq).1
  have hl:kvs.length=vs.length:=Paired.length rel
  obtain⟨k,v,ek⟩:∃k v,kvs[i]?=some (k,v):=⟨_,_,List.getElem?_eq_getElem hi⟩
  obtain⟨v',ev⟩:=K8 rel ek
  refine wpAny_pyNext_dict_item st (hD _ ho) ev fun key h' hk st' sb=>?_
  have I1:Inv X pins σ H { s with heap:=h' }:=I.turned (t':=s.toks) (fun b o hb e=>(sb.2 b hb).trans e) f0 f1 f3 f4 f5
  obtain⟨o',e,c,dd⟩:=id st'
  exact⟨key,rfl,Jp (s:={ s with heap:=h' }) e c dd (by decide) ⟨kV k,H,I1,Rn hk,⟨rfl,k,v,ek,rfl⟩,st',fun b hb=>(hf b hb).1⟩⟩
 done:=by
  intro X hP hw hK hc i pins s σ H E I hf st hg
  subst hP hw hK
  obtain⟨hq,hi⟩:=hg
  obtain⟨f0,f1,f2,f3,f4,f5⟩:=hf it (by simp)
  have ho:s.heap.get? d=some o:=(I.hok d _ hq).1
  have hl:kvs.length=vs.length:=Paired.length rel
  exact wpAny_pyNext_dict_end (I.ok.hd hc) st (hD _ ho) (List.getElem?_eq_none (by omega)) fun h' eb=>⟨rfl,I.turned (t':=s.toks) (fun b o hb e=>eb b o hb e) f0 f1 f3 f4 f5⟩
 self:=fun _ _ _ _ _ st h=>wpAny_pyIter_keyiter st h
inductive QR (R:It->Hp->Prop) (x:V) (H1:Hp):Prop where
 | mk:∀d kvs,x=.ref d->H1 d=some (.dK kvs)->(∀o,R (WM d o kvs) (upd H1 d (.frz o (.dK kvs))))->QR R x H1
noncomputable def Yq (td:TE):TI:=fun σ H R=>td σ H fun x H1=>QR R x H1
theorem qb {X:Cx} {tg l:Expr} {td:TE} (hl:PE X l td):PI X tg l (Yq td):=by
 intro pins s σ H R I h
 refine dU (hl pins s σ H _ I h) fun v s1 hpt=>?_
 obtain⟨x,H1,I1,r1,q1⟩:=hpt
 obtain⟨d,kvs,e,ed,q⟩:=q1
 subst e
 cases r1
 obtain⟨_,hd,vs,rel,o0,es,ep,ho0,r⟩:=(show fV X.prog X.w H1 s1.heap d (.dK kvs) from I1.hok d _ ed)
 obtain⟨o,ho,I2⟩:=I1.chill ed
 obtain rfl:o0=o:=Option.some.inj (ho0.symm.trans ho)
 have hD:∀h:Heap,h.get? d=some o0->h.DictAt (dh X.prog X.w) d vs ep:=fun h z=>⟨o0,es,z,r⟩
 refine wpAny_pyIter_dict hd (hD _ ho) ?_
 refine⟨s1.heap.objs.size,[s1.heap.objs.size],_,_,_,rfl,I2.kept (t':=s1.toks) fun b o e=>Heap.get?_push_of_some _ e,Pa rel hD,⟨_,Heap.get?_push_size _ rfl,rfl,rfl⟩,fun b hb=>?_,q o0⟩
 have e:b=s1.heap.objs.size:=by simpa using hb
 subst e
 exact I2.fpOk (Nat.le_refl _) (I2.hok.fresh (Nat.le_refl _))
theorem pQ {d:Addr} {o:Obj} {kvs:List (Key×V)} {g:TG} {tb:TS} {D:Ends} {σ:St} {H:Hp} (Pv:Nat->St->Hp->Prop) (h0:Pv 0 σ H) (hl:∀i σ H,i<=kvs.length->Pv i σ H->H d=some (.frz o (.dK kvs)))
  (hs:∀i k v σ H,kvs[i]?=some (k,v)->Pv i σ H->g (kV k) σ H fun σ2 H2=>tb { D with nx:=Pv (i+1),ct:=Pv (i+1),bk:=D.nx } σ2 H2) (hd:∀σ H,Pv kvs.length σ H->D.nx σ H):
  ∃W:Nat->Nat->St->Hp->Prop,(∃m,W 0 m σ H)/\∀i m σ H,W i m σ H->
   ((WM d o kvs).stop i H/\D.nx σ H)∨((WM d o kvs).go i H/\∃N:St->Hp->Prop,(∀σ' H',N σ' H'->∃m',m' <m/\W (i+1) m' σ' H')/\∀x H',(WM d o kvs).yld i H x H'->g x σ H' fun σ2 H2=>tb { D with nx:=N,ct:=N,bk:=D.nx } σ2 H2):=by
 refine⟨fun i m σ H=>m=kvs.length - i/\i<=kvs.length/\Pv i σ H,⟨kvs.length,by simp,Nat.zero_le _,h0⟩,?_⟩
 rintro i m σ H ⟨rfl,hi,p⟩
 have q:=hl i σ H hi p
 by_cases hlt:i <kvs.length
 ·refine .inr ⟨⟨q,hlt⟩,Pv (i+1),fun σ' H' p'=>⟨kvs.length - (i+1),by omega,rfl,hlt,p'⟩,fun x H' y=>?_⟩
  obtain⟨rfl,k,v,ek,rfl⟩:=y
  exact hs i k v σ _ ek p
 ·obtain rfl:i=kvs.length:=by omega
  exact .inl ⟨⟨q,Nat.le_refl _⟩,hd σ H p⟩
theorem Oz {js:List Nat} {tt:TT} {te:TE} {σ:St} {Qd:List V->Hp->Prop} {d:Addr} {o:Obj} {kvs:List (Key×V)} {H:Hp} (Pv:Nat->List V->Hp->Prop) (hn:kvs.length<=sizeLine) (h0:Pv 0 [] H) (hl:∀i ys H,Pv i ys H->ys.length<=i) (hq:∀i ys H,i<=kvs.length->Pv i ys H->H d=some (.frz o (.dK kvs)))
  (hs:∀i k v ys H,kvs[i]?=some (k,v)->Pv i ys H->tt (some (kV k):: dM σ js) H fun b H4=>if b=true then te (some (kV k):: dM σ js) H4 fun y H5=>Pv (i+1) (ys ++ [y]) H5 else Pv (i+1) ys H4)
  (hd:∀ys H,Pv kvs.length ys H->Qd ys H):CompEnd js tt te σ Qd (WM d o kvs) H:=by
 refine⟨fun i m ys H=>m=kvs.length - i/\i<=kvs.length/\Pv i ys H,⟨kvs.length,by simp,Nat.zero_le _,h0⟩,?_⟩
 rintro i m ys H ⟨rfl,hi,p⟩
 have hlen:=hl i ys H p
 have q:=hq i ys H hi p
 by_cases hlt:i <kvs.length
 ·refine .inr ⟨⟨q,hlt⟩,by omega,Pv (i+1),fun ys' H' p'=>⟨kvs.length - (i+1),by omega,rfl,hlt,p'⟩,fun x H' y=>?_⟩
  obtain⟨rfl,k,v,ek,rfl⟩:=y
  exact hs i k v ys _ ek p
 ·obtain rfl:i=kvs.length:=by omega
  exact .inl ⟨⟨q,Nat.le_refl _⟩,by omega,hd ys H p⟩
theorem Bc:∀{xs:List V} {us:List Value},us.length=xs.length->(∀(j:Nat) x u,xs[j]?=some x->us[j]?=some u->RelV x u)->Vals xs us
 | [],[],_,_=>.nil
 | [],_:: _,h,_=>by simp at h
 | _:: _,[],h,_=>by simp at h
 | x:: xs,u:: us,h,r=>.cons (r 0 x u rfl rfl) (Bc (by simpa using h) fun j y v h1 h2=>r (j+1) y v (by simpa using h1) (by simpa using h2))
theorem pC {X:Cx} (hc:X.calm=true):mO X (.type "list") (fun xs H Q=>∃d kvs,xs=[.ref d]/\Rd H d (.dK kvs)/\∀l,H l=none->Q (.ref l) (upd H l (.lst (kvs.map fun p=>kV p.1)))):=by
 intro pins s σ H xs us Q I rx h
 obtain⟨d,kvs,rfl,hr,q⟩:=h
 obtain⟨u,rfl,ru⟩:=vals1 rx
 cases ru
 obtain⟨z,hd,vs,rel,dd⟩:=Bh I.hok hr
 obtain⟨ep,da⟩:=dd.dictAt
 have hl:kvs.length=vs.length:=Paired.length rel
 refine PySem.W.kdl_call (PySem.W.kdl_dict (knd:=dh X.prog X.w) (kvs:=vs) (ep:=ep) hd) (I.ok.hd hc) da (by omega) fun h' tk acc' c' kp e' hi=>?_
 refine⟨.ref s.heap.objs.size,_,I.laid (t':=tk) kp (Nat.le_refl _) (show fV X.prog X.w _ h' _ (.lst (kvs.map fun p=>kV p.1)) from⟨by rw [List.length_map];exact z,acc'.toList,c',Bc (by rw [Array.length_toList,hi.1,List.length_map,hl]) fun j x u hx hu=>?_,by simpa using e'⟩),rfl,q _ (I.hok.fresh (Nat.le_refl _))⟩
 obtain⟨k,v,hkv,hk⟩:=hi.2 j u (by rw [<-Array.getElem?_toList];exact hu)
 rw [List.getElem?_map] at hx
 obtain⟨p,hp,rfl⟩:=Option.map_eq_some_iff.mp hx
 obtain⟨v',hv'⟩:=K8 rel (k:=p.1) (v:=p.2) hp
 rw [hkv] at hv'
 cases hv'
 exact Rn hk
section
variable {X:Cx} {pins:List (Addr×Obj)} {σ:St} {H:Hp} {s:Shared}
end
section
variable {X:Cx} {tg:Expr}
end
theorem jh.u1 {k:Nat} {A:Around} (r:jh k A):A.units+1 <cLine:=by have:=r.units;omega
section
variable {prog:Program} {w:World} {A:Around} {E:Value->Shared->Prop} {s:Shared}
end
theorem HW {X:Cx} {K:PySem.W.Frag} {e:Expr} {f:Str} {pos:Pos} {ta:TE} (hK:X.K=K) (he:PE X e ta) (hb:attributeBase e f X.env (eval e X.env)=eval e X.env):PE X (.Attribute e f pos) (Yn K ta f):=by subst hK;exact bB he hb
theorem K6 {X:Cx} {K:PySem.W.Frag} (hK:X.K=K):vQ X (compareOp .In) (Yu K false):=by subst hK;exact FW
theorem Fd {X:Cx} {K:PySem.W.Frag} (hK:X.K=K):vQ X (compareOp .NotIn) (Yu K true):=by subst hK;exact jf
section
variable {X:Cx} {P:Program} {w:World} {K:PySem.W.Frag} {mg:Str->Option Value} {base:Heap} {CX:Gk} {k:Nat} {E:XK} {m:Str} {pos apos:Pos} {e o:Expr} {es:List Expr} {ta:TE} {t:TA}
theorem KQ {pl:Sem Bool} (hP:X.prog=P) (hw:X.w=w) (hK:X.K=K) (hm:X.mg=mg) (hb:X.base=base) (he:PE X o ta) (hr:jh k X.A) (hx:qL CX X E)
  (ht:eval (.Call (.Attribute o m apos) [] [] pos) X.env=(do
   let ov <-eval o X.env
   standAt apos.atName
   let (f,first) <-holding [ov] (getMethod ov m pl)
   callWith pos f first (backTo pos (starEach [] X.env)) (backToKw pos (keywordEach [] X.env))):=by rfl):
  PE X (.Call (.Attribute o m apos) [] [] pos) (Kw P w K mg base CX k m E ta RD):=by
 subst hP hw hK hm hb
 exact Fe he hr hx ht
end
section
variable {prog:Program} {w:World} {A:Around} {R:Result->Shared->Prop} {s:Shared}
theorem WW {elt tg iter:Expr} {ifs:List Expr} {scope:Scope} {pos:Pos} {it acc:Value} {env:Env} (J:Nat->Shared->Prop)
  (turn:∀k s1,J k s1->wpAny (model prog w) A (pyNext it) (fun r s2=>match r with
   | none=>R (.ok .next) s2
   | some v=>wpAny (model prog w) A (letOwnedTupleGo tg it v) (fun _ s3=>wpAny (model prog w) A (assign tg env v) (fun _ s4=>
     wpAny (model prog w) A (forIn ifs true fun c r=>if r=true then do let ok <-isTrue c env (eval c env);pure (ForInStep.yield ok) else pure (ForInStep.yield r)) (fun ok s5=>
      if ok=true then wpAny (model prog w) A (eval elt env) (fun y s6=>wpAny (model prog w) A (call (.builtin "list.append") [acc,y]) (fun _ s7=>∃m,m <k/\J m s7) (notedBy (model prog w) A env fun e s'=>R (.error e) s') s6)
       (notedBy (model prog w) A env fun e s'=>R (.error e) s') s5
      else ∃m,m <k/\J m s5) (notedBy (model prog w) A env fun e s'=>R (.error e) s') s4) (notedBy (model prog w) A env fun e s'=>R (.error e) s') s3) (notedBy (model prog w) A env fun e s'=>R (.error e) s') s2)
   (notedBy (model prog w) A env fun e s'=>R (.error e) s') s1)
  (k:Nat) (h:J k s):codeAny (model prog w) A (.compLoop (.ListComp elt [⟨tg,iter,ifs,0⟩] scope pos) 0 it acc env) R s:=by
 refine codeAny_loop rfl J (fun k s1 hJ=>?_) k h
 show wpAny _ A ((compTurn (.ListComp elt [⟨tg,iter,ifs,0⟩] scope pos) 0 it acc env).onRaise (fun e=>do noteFrame e env;theTreesLotGoes e)) _ _ s1
 refine wpAny_noted ?_
 rw [compTurn_list]
 refine wpAny_bind (wpAny_standAt (wpAny_bind (wpAny_mono (turn k s1 hJ) (fun r s2 h2=>?_) fun _ _ z=>z)))
 cases r with
 | none=>exact wpAny_pure h2
 | some v=>
  refine wpAny_bind (wpAny_mono h2 (fun _ s3 h3=>wpAny_bind (wpAny_mono h3 (fun _ s4 h4=>wpAny_bind (wpAny_mono h4 (fun ok s5 h5=>?_) fun _ _ z=>z)) fun _ _ z=>z)) fun _ _ z=>z)
  cases ok with
  | false=>exact wpAny_pure ⟨rfl,h5⟩
  | true=>exact wpAny_bind (wpAny_bind (wpAny_mono h5 (fun y s6 h6=>wpAny_bind (wpAny_mono h6 (fun _ s7 h7=>wpAny_pure (wpAny_pure ⟨rfl,h7⟩)) fun _ _ z=>z)) fun _ _ z=>z))
end
section
variable {X:Cx} {tg:Expr} {g:TG} {pos:Pos} {iter elt:Expr} {ifs:List Expr} {scope:Scope} {wi:TI} {tt:TT} {te:TE}
end
theorem O3 {X:Cx} (hc:X.calm=true):mO X (.builtin "min") (fun xs H Q=>∃(p:Addr) (a b:Int),xs=[.ref p]/\bL X.K H p [.int a,.int b]/\Q (.int (if b <a then b else a)) H):=by
 intro pins s σ H xs us Q I r h
 obtain⟨p,a,b,rfl,hq,q⟩:=h
 obtain⟨u,rfl,rx⟩:=vals1 r
 cases rx
 obtain⟨its,rv,pl,_⟩:=I.list hq
 obtain⟨v1,v2,rfl,⟨t1,rfl⟩,⟨t2,rfl⟩⟩:=vals2 rv
 have hl:s.heap.IsList p (intItems #[(a,t1),(b,t2)]):=by simpa [intItems] using pl.isList
 refine min_intList (I.ok.hd hc) hl (by simp) fun v h' tk hv hk=>?_
 obtain⟨t,rfl⟩:=intItems_at hv
 obtain⟨h1,h2⟩:=argBest_lt (numAt #[(a,t1),(b,t2)]) (#[(a,t1),(b,t2)].size - 1)
 have h1':argBest (fun i j=>decide (numAt #[(a,t1),(b,t2)] i <numAt #[(a,t1),(b,t2)] j)) (#[(a,t1),(b,t2)].size - 1)<=1:=h1
 have ha:_<=a:=h2 0 (Nat.zero_le _)
 have hb:_<=b:=h2 1 (by simp)
 generalize argBest (fun i j=>decide (numAt #[(a,t1),(b,t2)] i <numAt #[(a,t1),(b,t2)] j)) (#[(a,t1),(b,t2)].size - 1)=k at h1' ha hb ⊢
 refine⟨.int (numAt #[(a,t1),(b,t2)] k),H,I.kept hk,⟨_,rfl⟩,?_⟩
 have e:numAt #[(a,t1),(b,t2)] k=if b <a then b else a:=by
  match k,h1',ha,hb with
  | 0,_,_,hb=>
   have hb':a<=b:=hb
   rw [if_neg (by omega)];rfl
  | 1,_,ha,_=>
   have ha':b<=a:=ha
   show b=_
   by_cases z:b <a
   ·rw [if_pos z]
   ·rw [if_neg z];omega
 rw [e]
 exact q
theorem Ov {X:Cx} (hc:X.calm=true):mO X (.builtin "max") (fun xs H Q=>∃(p:Addr) (a b:Int),xs=[.ref p]/\bL X.K H p [.int a,.int b]/\Q (.int (if b <a then a else b)) H):=by
 intro pins s σ H xs us Q I r h
 obtain⟨p,a,b,rfl,hq,q⟩:=h
 obtain⟨u,rfl,rx⟩:=vals1 r
 cases rx
 obtain⟨its,rv,pl,_⟩:=I.list hq
 obtain⟨v1,v2,rfl,⟨t1,rfl⟩,⟨t2,rfl⟩⟩:=vals2 rv
 have hl:s.heap.IsList p (intItems #[(a,t1),(b,t2)]):=by simpa [intItems] using pl.isList
 refine max_intList (I.ok.hd hc) hl (by simp) fun v h' tk hv hk=>?_
 obtain⟨t,rfl⟩:=intItems_at hv
 obtain⟨h1,h2⟩:=argBest_gt (numAt #[(a,t1),(b,t2)]) (#[(a,t1),(b,t2)].size - 1)
 have h1':argBest (fun i j=>decide (numAt #[(a,t1),(b,t2)] i >numAt #[(a,t1),(b,t2)] j)) (#[(a,t1),(b,t2)].size - 1)<=1:=h1
 have ha:a<=_:=h2 0 (Nat.zero_le _)
 have hb:b<=_:=h2 1 (by simp)
 generalize argBest (fun i j=>decide (numAt #[(a,t1),(b,t2)] i >numAt #[(a,t1),(b,t2)] j)) (#[(a,t1),(b,t2)].size - 1)=k at h1' ha hb ⊢
 refine⟨.int (numAt #[(a,t1),(b,t2)] k),H,I.kept hk,⟨_,rfl⟩,?_⟩
 have e:numAt #[(a,t1),(b,t2)] k=if b <a then a else b:=by
  match k,h1',ha,hb with
  | 0,_,_,hb=>
   have hb':b<=a:=hb
   show a=_
   by_cases z:b <a
   ·rw [if_pos z]
   ·rw [if_neg z];omega
  | 1,_,ha,_=>
   have ha':a<=b:=ha
   rw [if_neg (by omega)];rfl
 rw [e]
 exact q
theorem vM {X:Cx} {K:PySem.W.Frag} {es:List Expr} {k:Nat} {pos:Pos} {t:Sg} {n:Nat} (hK:X.K=K) (hc:X.calm=true) (h:Xp X es t)
  (hn:(assignEach es X.env).length=n:=by rfl) (hst:(assignEach es X.env).findIdx? (·.1)=none:=by rfl):PG X (.Tuple es k pos) (Xk K n t):=by
 subst hK
 exact jJ hc h hn hst
noncomputable def lZ (X:Cx) (scope:Scope) (xs:List Str) (js:List Nat) (cl:List (Str×Addr)) (C:Addr) (s:Shared) (H:Hp) (ex:List Addr):Cx where
 prog:=X.prog
 w:=X.w
 K:=X.K
 mg:=X.mg
 base:=X.base
 A:=X.A
 N:=xs ++ dF X.N js
 s₀:=s
 H₀:=H
 env:=compEnvC scope cl C X.env
 outer:=X.stack
 stack:=X.stack
 ex:=ex
 fn:=fun _=>false
 calm:=X.calm
 pn:=[]
 xe:=fun _ _=>False
noncomputable def yJ (xs:List Str) (js:List Nat) (σ:St) (g:TG) (tt:TT) (te:TE) (Qd:List V->Hp->Prop) (J:It) (H1:Hp):Prop:=∃W:Nat->Nat->List V->Hp->Prop,(∃m,W 0 m [] H1)/\∀i m ys H2,W i m ys H2->
 (J.stop i H2/\ys.length<=sizeLine/\Qd ys H2)∨
 (J.go i H2/\ys.length <sizeLine/\∃N:List V->Hp->Prop,(∀ys' H',N ys' H'->∃m',m' <m/\W (i+1) m' ys' H')/\∀x H3,J.yld i H2 x H3->g x ((xs.map fun _=>none) ++ dM σ js) H3 fun σ2 H4=>σ2.drop xs.length=dM σ js/\tt σ2 H4 fun b H5=>
  if b=true then te σ2 H5 fun y H6=>N (ys ++ [y]) H6 else N ys H5)
noncomputable def QJ (xs:List Str) (js:List Nat) (wi:TI) (g:TG) (tt:TT) (te:TE):TE:=fun σ H Q=>wi σ H (yJ xs js σ g tt te fun ys H2=>∀D,H2 D=none->Q (.ref D) (upd H2 D (.lst ys)))
section
variable {X:Cx} {tg:Expr} {g:TG} {pos:Pos} {iter elt:Expr} {ifs:List Expr} {scope:Scope} {wi:TI} {tt:TT} {te:TE}
theorem uB (xs:List Str) (js:List Nat) {pins:List (Addr×Obj)} {σ:St} {s:Shared} {itv:Value} {Q:List V->Hp->Prop} {RR:Value->Addr->Result->Shared->Prop} {E:Value->Shared->Prop}
  (hc:X.calm=true) (hk:scope.kind=.function) (hcell:∀y∈scope.names,y.2≠.cell)
  (hfree:∀y∈scope.names,y.2=.free->X.env.kindOf y.1=some .cell∨X.env.kindOf y.1=some .free)
  (hg:∀cl C s H ex,PG (lZ X scope xs js cl C s H ex) tg g)
  (hif:∀cl C s H ex,PF (lZ X scope xs js cl C s H ex) ifs tt) (he:∀cl C s H ex,PE (lZ X scope xs js cl C s H ex) elt te)
  (hjs:∀y∈dF X.N js,scope.names.lookup y=some .free) (hit:PIE X pins σ tg (yJ xs js σ g tt te Q) itv s)
  (hR:∀D C s' H2 ys m,Inv X pins σ (upd H2 D (.lst ys)) s'->H2 D=none->s'.heap.Ns C m->(∀h',Heap.SameBut C s'.heap h'->Inv X pins σ (upd H2 D (.lst ys)) { s' with heap:=h' })->IV X pins (upd H2 D (.lst ys)) C->C≠D->Q ys H2->RR (.ref D) C (.ok .next) s'):
  wpAny (model X.prog X.w) X.A (newList []) (fun acc s₃=>wpAny (model X.prog X.w) X.A (newFunctionEnv scope X.env.globals (clos X.env scope.names []) [] X.env.qual none .none (some X.env)) (fun cenv s₄=>
   codeAny (model X.prog X.w) X.A (.compStart (.ListComp elt [⟨tg,iter,ifs,0⟩] scope pos) 0 itv acc { cenv with scope:=relabel scope X.env }) (RR acc cenv.locals) s₄) E s₃) E s:=by
 obtain⟨it,fp,tn,J,H1,rfl,I1,T,st1,f1,W,⟨m0,w0⟩,turn⟩:=hit
 refine wpAny_newObj_type (wpAny_newFunctionEnv hcell (by intro y hy;simp at hy) (fun h₁ hns₁ hsb₁=>?_) hk)
 dsimp only at hns₁ hsb₁ ⊢
 generalize hH2:s.heap.push { cls:=.type "list",dict:=none,data:=.seq ([]:List Value).toArray }=Hl at hns₁ hsb₁ ⊢
 generalize hDe:s.heap.objs.size=D
 have hCe:Hl.objs.size=D+1:=by rw [<-hH2,Heap.size_push,hDe]
 generalize hC:Hl.objs.size=C at hns₁ hsb₁ hCe ⊢
 subst hCe
 have hDC:D≠D+1:=Nat.ne_of_lt (Nat.lt_succ_self _)
 have lt:∀b o,s.heap.get? b=some o->b <D:=fun b o e=>hDe ▸ Heap.lt_size e
 have old:∀b o,s.heap.get? b=some o->h₁.get? b=some o:=fun b o e=>by
  have hb:=lt b o e
  refine hsb₁.extBut b o (Nat.ne_of_lt (Nat.lt_succ_of_lt hb)) (Heap.get?_push_of_some _ ?_)
  rw [<-hH2];exact Heap.get?_push_of_some _ e
 have accD:h₁.get? D=some { cls:=.type "list",dict:=none,data:=.seq ([]:List Value).toArray }:=by
  refine hsb₁.extBut _ _ hDC (Heap.get?_push_of_some _ ?_)
  rw [<-hH2,<-hDe];exact Heap.get?_push_size _ rfl
 have fresh:∀a,D<=a->H1 a=none:=fun a ha=>I1.hok.fresh (by rw [hDe];exact ha)
 have fpD:∀b∈fp,b <D:=fun b hb=>by
  obtain⟨o,e,_⟩:=T.obj 0 s.heap st1 b hb
  exact lt b o e
 have cellD:∀y c,X.env.cells.lookup y=some c->c <D:=fun y c e=>by
  obtain⟨v,q⟩:=I1.cell y c e
  exact hDe ▸ q.lt
 generalize hcl:clos X.env scope.names []=cl
 have clsub:∀y c,cl.lookup y=some c->X.env.cells.lookup y=some c:=by
  rw [<-hcl];exact Jz scope.names [] fun y a e=>by simp at e
 have frD:∀b∈frs X.stack,b <D:=fun b hb=>by
  obtain⟨_,o,ho,_⟩:=I1.stack.mem hb
  exact lt b o ho
 let Y:Cx:=lZ X scope xs js cl (D+1) s H1 fp
 have kinds:∀y,Y.env.kindOf y=some .cell∨Y.env.kindOf y=some .free->∃k∈scope.names,k.1=y/\k.2=.free:=fun y hy=>by
  have hy':(relabel scope X.env).names.lookup y=some .cell∨(relabel scope X.env).names.lookup y=some .free:=hy
  rw [u0] at hy'
  cases q:scope.names.lookup y with
  | none=>rw [q] at hy';simp at hy'
  | some k=>
   have hm:=PySem.mem_of_lookup q
   refine⟨(y,k),hm,rfl,?_⟩
   have h1:k≠.cell:=hcell _ hm
   rw [q] at hy'
   simp only [Option.map_some,Option.some.injEq] at hy'
   by_cases hkf:k=.free
   ·exact hkf
   ·have:(k == NameKind.free)=false:=by simpa using hkf
    simp only [this,Bool.false_and,Bool.false_eq_true,if_false] at hy'
    rcases hy' with e | e
    ·exact absurd e h1
    ·exact absurd e hkf
 have okY:Y.Ok:=by
  refine⟨I1.ok.mod,hk,I1.ok.glob,I1.ok.blt,(by show s.heap.objs.size<=D+1;rw [hDe];exact Nat.le_succ _),fun y z c h1 h2=>I1.ok.inj y z c (clsub y c h1) (clsub z c h2),fun y hy=>?_,fun y c h _=>absurd h (by show ¬(false=true);decide),I1.ok.hd,I1.ok.frames,.inl rfl,fun b hb=>⟨Nat.ne_of_lt (Nat.lt_succ_of_lt (fpD b hb)),fun y c e z=>(f1 b hb).2.2.2.2.1 y c (clsub y c e) z⟩,
   fun b o e=>I1.bs b o e,Nat.le_trans I1.ok.bsz I1.sz,fun b o e hb=>?_,fun b hb hf=>?_,I1.stack,I1.stkFree⟩
  ·obtain⟨k,hm,e1,e2⟩:=kinds y hy
   show ∃c,cl.lookup y=some c
   rw [<-hcl]
   refine DX scope.names [] y (.inr ⟨k,hm,e1,e2,?_⟩)
   have:=hfree k hm e2
   rw [e1] at this
   exact I1.ok.has y this
  ·obtain⟨_,_,_,h4,_,_⟩:=f1 b hb
   rcases h4 with z | z
   ·exact I1.ok.noex b o e z
   ·exact absurd (Nat.lt_of_lt_of_le (Heap.lt_size e) (Nat.le_trans I1.ok.bsz z)) (Nat.lt_irrefl _)
  ·rcases List.mem_cons.mp (I1.stkSub b hf) with z | z
   ·exact(f1 b hb).2.1 z
   ·exact(f1 b hb).2.2.1 z
 let σ0:St:=(xs.map fun _=>none) ++ dM σ js
 have IY:Inv Y [] σ0 H1 { s with heap:=h₁,toks:=s.toks+([]:List (Str×Value)).length }:=by
  refine⟨okY,rfl,I1.bare,Un.kept old,⟨_,hns₁,fun i y v e1 e2 e3=>?_⟩,fun y c e=>?_,fresh _ (Nat.le_succ _),fun y c e=>I1.freeC y c (clsub y c e),fun p hp=>absurd (show p∈([]:List (Addr×Obj)) from hp) (by simp),I1.hok.kept old,?_⟩
  ·by_cases hi:i <xs.length
   ·exfalso
    have e2':((xs.map fun _=>(none:Option V)) ++ dM σ js)[i]?=some (some v):=e2
    rw [List.getElem?_append_left (by rw [List.length_map];exact hi),List.getElem?_map,List.getElem?_eq_getElem hi] at e2'
    cases e2'
   ·have e1':(xs ++ dF X.N js)[i]?=some y:=e1
    have e2':((xs.map fun _=>(none:Option V)) ++ dM σ js)[i]?=some (some v):=e2
    rw [List.getElem?_append_right (by omega)] at e1'
    rw [List.getElem?_append_right (by rw [List.length_map];omega),List.length_map] at e2'
    generalize i - xs.length=i at e1' e2'
    unfold dF at e1'
    unfold dM at e2'
    rw [List.getElem?_map] at e1' e2'
    cases q:js[i]? with
    | none=>rw [q] at e1';cases e1'
    | some j=>
     rw [q] at e1' e2'
     simp only [Option.map_some,Option.some.injEq] at e1' e2'
     have hv:σ[j]?=some (some v):=by
      cases z:σ[j]? with
      | none=>rw [z] at e2';cases e2'
      | some w=>rw [z] at e2';simpa using e2'
     have hj:j <X.N.length:=by
      rw [<-I1.len];exact(List.getElem?_eq_some_iff.mp hv).1
     have hy:X.N[j]?=some y:=by
      rw [List.getElem?_eq_getElem hj] at e1' ⊢
      rw [<-e1'];rfl
     obtain⟨m,hn,hl⟩:=I1.loc
     have hmem:y∈dF X.N js:=List.mem_map.mpr ⟨j,List.mem_of_getElem? q,by rw [hy];rfl⟩
     have hfr:=hjs y hmem
     have hkx:=hfree _ (PySem.mem_of_lookup hfr) rfl
     have hvis:Yx X.env.scope y:=hkx.elim (fun z=>.inr (.inl z)) fun z=>.inr (.inr z)
     obtain⟨u,r,l⟩:=hl j y v hy hv hvis
     refine⟨u,r,?_⟩
     rcases l with ⟨kl,_⟩ | ⟨_,c,hc1,z⟩
     ·exfalso
      have kl':X.env.kindOf y=some .local:=kl
      rcases hkx with w | w <;> · rw [show X.env.kindOf y=_ from w] at kl';cases kl'
     ·obtain⟨c',hc'⟩:=DX (env:=X.env) scope.names [] y (.inr ⟨_,PySem.mem_of_lookup hfr,rfl,rfl,c,hc1⟩)
      rw [hcl] at hc'
      have e4:=clsub y c' hc'
      rw [hc1] at e4
      cases e4
      obtain⟨o,ho,hd⟩:=z
      refine .inr ⟨?_,c,hc',o,old c o ho,hd⟩
      rcases e3 with e3 | e3 | e3
      ·exfalso
       have e3':(relabel scope X.env).names.lookup y=some .local:=e3
       rw [u0,hfr] at e3'
       simp only [Option.map_some,Option.some.injEq] at e3'
       split at e3' <;> cases e3'
      ·exact .inl e3
      ·exact .inr e3
  ·obtain⟨v,q⟩:=I1.cell y c (clsub y c e)
   obtain⟨o,ho,hd⟩:=q
   exact⟨v,o,old c o ho,hd⟩
  ·show((xs.map fun _=>(none:Option V)) ++ dM σ js).length=(xs ++ dF X.N js).length
   unfold dM dF
   rw [List.length_append,List.length_append,List.length_map,List.length_map,List.length_map]
 have mkR:∀(s':Shared) (H2:Hp) (ys:List V) (its:List Value) (σ':St),Inv Y [] σ' H2 s'->s'.heap.PlainList D its.toArray->Vals ys its->ys.length<=sizeLine->H2 D=none->Q ys H2->RR (.ref D) (D+1) (.ok .next) s':=by
  intro s' H2 ys its σ' I' pl rv hz hD hq
  obtain⟨m,hn,_⟩:=I'.loc
  have hn':s'.heap.Ns (D+1) m:=hn
  have hCn:H2 (D+1)=none:=I'.free
  have hch:∀b∈fp,(b∈X.ex∨X.s₀.heap.objs.size<=b)/\b≠X.env.locals/\(∀x c,X.env.cells.lookup x=some c->c≠b)/\∀p∈X.pn ++ pins,p.1≠b:=fun b hb=>by
   obtain⟨_,h2,_,h4,h5,h6⟩:=f1 b hb
   exact⟨h4,h2,h5,h6⟩
  have bs:Un (frs X.stack) fp H1 H2 s.heap s'.heap:=I'.base
  have all:∀h',Heap.SameBut (D+1) s'.heap h'->Inv X pins σ (upd H2 D (.lst ys)) { s' with heap:=h' }:=fun h' sb=>by
   have neD:∀b o,s.heap.get? b=some o->b≠D:=fun b o e=>Nat.ne_of_lt (lt b o e)
   have neC:∀b o,s.heap.get? b=some o->b≠D+1:=fun b o e=>Nat.ne_of_lt (Nat.lt_succ_of_lt (lt b o e))
   refine I1.call' (s':={ s' with heap:=h' }) (ch:=fp) I'.os ⟨fun b o e n hb hx=>?_,fun b o e n hb hx=>?_,fun b o e n hx=>?_,fun b o e hx=>?_,fun b xs e=>?_,fun b o u e=>?_,fun b ps e=>?_⟩ ?_ I'.bare hch
   ·exact(sb.2 b (neC b o e)).trans (bs.keep b o e n hb hx)
   ·obtain⟨sl,q⟩:=bs.slot b o e n hb hx
    exact⟨sl,(sb.2 b (neC b o e)).trans q⟩
   ·rw [aH (neD b o e)];exact bs.free b o e n hx
   ·obtain⟨o',q⟩:=bs.there b o e hx
    exact⟨o',(sb.2 b (neC b o e)).trans q⟩
   ·have:=bs.tups b xs e
    rw [aH (aD this hD)];exact this
   ·have:=bs.frzs b o u e
    rw [aH (aD this hD)];exact this
   ·obtain⟨more,q⟩:=bs.tbls b ps e
    exact⟨more,by rw [aH (aD q hD)];exact q⟩
   ·have h0:vN X.prog X.w H2 h':=fun b u e=>(I'.hok b u e).stay (fun c v hc q=>(sb.2 c (by
     rintro rfl
     rcases hc with z | z
     ·rw [z,e] at hCn;cases hCn
     ·rw [z] at hCn;cases hCn)).trans q) (fun _ q=>q) fun _ _ q=>q
    refine Oq h0 hD ?_
    obtain⟨n,e⟩:=pl
    exact⟨hz,its,n,rv,(sb.2 D hDC).trans e⟩
  have hall:=all s'.heap (.refl ..)
  refine hR D (D+1) s' H2 ys m hall hD hn' all ?_ hDC.symm hq
  refine⟨by rw [aH hDC.symm];exact hCn,?_,?_,.inr (Nat.le_trans I1.sz (by rw [hDe];exact Nat.le_succ _)),fun y c e z=>?_,fun p hp z=>?_⟩
  ·exact Nat.ne_of_gt (Nat.lt_trans (hDe ▸ I1.lt) (Nat.lt_succ_self _))
  ·exact I1.nofs (by rw [hDe];exact Nat.le_succ _)
  ·exact absurd z (Nat.ne_of_lt (Nat.lt_succ_of_lt (cellD y c e)))
  ·exact absurd z (Nat.ne_of_lt (Nat.lt_succ_of_lt (lt _ _ (I1.pin p hp).1)))
 have loop:∀s₃:Shared,s₃={ s with heap:=h₁,toks:=s.toks+([]:List (Str×Value)).length }->
   codeAny (model X.prog X.w) X.A (.compLoop (.ListComp elt [⟨tg,iter,ifs,0⟩] scope pos) 0 (.ref it) (.ref D) Y.env) (RR (.ref D) (D+1)) s₃:=by
  rintro s₃ rfl
  have stat:∀{H':Hp} {ob:Obj},(∀b∈fp,H' b=none)->∀b∈fp,IV Y [(D,ob)] H' b:=fun {H'} {ob} hn b hb=>by
   refine⟨hn b hb,Nat.ne_of_lt (Nat.lt_succ_of_lt (fpD b hb)),fun hf=>okY.exfs b hb hf,.inl hb,fun y c e=>(okY.exf b hb).2 y c e,fun p hp z=>?_⟩
   have hp':p∈[(D,ob)]:=hp
   have e:p=(D,ob):=by simpa using hp'
   rw [e] at z
   exact absurd z (Ne.symm (Nat.ne_of_lt (fpD b hb)))
  refine WW (fun n s'=>∃i ys its H',∃ob:Obj,Inv Y [(D,ob)] σ0 H' s'/\(∃n,ob={ cls:=.type "list",data:=.seq its.toArray n })/\Vals ys its/\H' D=none/\tn i s'.heap/\(∀b∈fp,H' b=none)/\W i n ys H') ?_ m0
   ⟨0,[],[],H1,{ cls:=.type "list",dict:=none,data:=.seq ([]:List Value).toArray },?_,⟨_,rfl⟩,.nil,fresh _ (Nat.le_refl _),T.keep _ _ _ st1 fun b _ o e=>old b o e,fun b hb=>(f1 b hb).1,w0⟩
  ·rintro n s3 ⟨i,ys,its,H3,ob,I3,⟨cap,rfl⟩,rv,hD,st3,fr3,w3⟩
   rcases turn i n ys H3 w3 with ⟨stop,hz,hq⟩ | ⟨go,hz,N,hN7,step⟩
   ·refine wpAny_mono (T.done Y rfl rfl rfl hc i _ s3 σ0 H3 (fun _ _=>False) I3 (stat fr3) st3 stop) (fun r s4 ⟨hr,I4⟩=>?_) fun _ _ f=>f.elim
    subst hr
    exact mkR s4 H3 ys its σ0 (I4.pins_of fun p hp=>absurd hp (by simp)) ⟨cap,(I4.pin _ (List.mem_append_right _ List.mem_cons_self)).1⟩ rv hz hD hq
   ·refine wpAny_mono (T.item Y rfl rfl rfl hc i _ s3 σ0 H3 (fun _ _=>False) I3 (stat fr3) st3 go) (fun r s4 ⟨u,hr,h4⟩=>?_) fun _ _ f=>f.elim
    subst hr
    refine wpAny_mono h4 (fun _ s4 ⟨xv,H5,I5,r5,y5,st5,fr5⟩=>?_) fun _ _ f=>f.elim
    have I5':=I5.pinned (stat fr5) (T.obj _ _ st5)
    refine wpAny_mono (hg cl (D+1) s H1 fp _ _ σ0 H5 xv u _ I5' r5 (step xv H5 y5)) (fun _ s6 ⟨σ6,H6,I6,hσ6,q6⟩=>?_) fun _ _ f=>False.elim f
    have again:∀{s7:Shared} {H7:Hp} {ys7:List V} {its7:List Value} {cap7:Nat} {pl:List (Addr×Obj)},Inv Y ([(D,{ cls:=.type "list",data:=.seq its7.toArray cap7 })] ++ pl) σ6 H7 s7->(∀b∈fp,∀o,s4.heap.get? b=some o->s7.heap.get? b=some o/\H7 b=none)->Vals ys7 its7->(∃m',m' <n/\W (i+1) m' ys7 H7)->
      ∃m,m <n/\∃i ys its H',∃ob:Obj,Inv Y [(D,ob)] σ0 H' s7/\(∃n,ob={ cls:=.type "list",data:=.seq its.toArray n })/\Vals ys its/\H' D=none/\tn i s7.heap/\(∀b∈fp,H' b=none)/\W i m ys H':=by
     intro s7 H7 ys7 its7 cap7 pl I7 kf rv7 ⟨m',hm,w7⟩
     refine⟨m',hm,i+1,ys7,its7,H7,_,I7.unpinned.weak (by rw [I7.len];show((xs.map fun _=>(none:Option V)) ++ dM σ js).length=(xs ++ dF X.N js).length;unfold dM dF;rw [List.length_append,List.length_append,List.length_map,List.length_map,List.length_map]) fun j v e=>?_,⟨cap7,rfl⟩,rv7,(I7.pin _ (List.mem_append_right _ (List.mem_append_left _ List.mem_cons_self))).2.1,T.keep _ _ _ st5 fun b hb o e=>(kf b hb o e).1,fun b hb=>?_,w7⟩
     ·have e':((xs.map fun _=>(none:Option V)) ++ dM σ js)[j]?=some (some v):=e
      by_cases hj:j <xs.length
      ·exfalso
       rw [List.getElem?_append_left (by rw [List.length_map];exact hj),List.getElem?_map,List.getElem?_eq_getElem hj] at e'
       cases e'
      ·rw [List.getElem?_append_right (by rw [List.length_map];omega),List.length_map,<-hσ6,List.getElem?_drop] at e'
       rw [show xs.length+(j - xs.length)=j by omega] at e'
       exact e'
     ·obtain⟨o,e,_⟩:=T.obj _ _ st5 b hb
      exact(kf b hb o e).2
    refine wpAny_mono (hif cl (D+1) s H1 fp _ s6 _ H6 _ I6 q6) (fun ok s7 ⟨H7,I7,q7⟩=>?_) fun _ _ f=>False.elim f
    have kf7:∀b∈fp,∀o,s4.heap.get? b=some o->s7.heap.get? b=some o/\H7 b=none:=fun b hb o e=>
     have z:=I7.pin (b,o) (List.mem_append_right _ (List.mem_append_right _ (sZ hb e)))
     ⟨z.1,z.2.1⟩
    cases ok with
    | false=>
     rw [if_neg Bool.false_ne_true] at q7 ⊢
     exact again I7 kf7 rv (hN7 _ _ q7)
    | true=>
     rw [if_pos rfl] at q7 ⊢
     refine wpAny_mono (he cl (D+1) s H1 fp _ s7 _ H7 _ I7 q7) (fun yv s8 ⟨y,H8,I8,r8,q8⟩=>?_) fun _ _ f=>False.elim f
     have pD:=I8.pin _ (List.mem_append_right _ (List.mem_append_left _ List.mem_cons_self))
     have hlen:=rv.length
     refine wpAny_list_append_plain (items:=its.toArray) ⟨cap,pD.1⟩ (fun h9 pl9 sb9=>?_) (by rw [List.size_toArray];omega)
     obtain⟨cap9,e9⟩:=pl9
     have I9:Inv Y [] σ6 H8 { s8 with heap:=h9 }:=(I8.pins_of (pins':=[]) fun p hp=>absurd hp (by simp)).turned (t':=s8.toks) (it:=D) (fun b o hb e=>(sb9.2 b hb).trans e) pD.2.1 hDC
      (.inr (Nat.le_of_eq hDe)) (fun y c e z=>absurd z (Nat.ne_of_lt (cellD y c (clsub y c e)))) fun p hp=>absurd (show p∈([]:List (Addr×Obj)) from hp) (by simp)
     have kf9:∀b∈fp,∀o,s4.heap.get? b=some o->h9.get? b=some o/\H8 b=none:=fun b hb o e=>by
      have z:=I8.pin (b,o) (List.mem_append_right _ (List.mem_append_right _ (sZ hb e)))
      exact⟨(sb9.2 b (Nat.ne_of_lt (fpD b hb))).trans z.1,z.2.1⟩
     refine again (s7:={ s8 with heap:=h9 }) (its7:=its ++ [yv]) (cap7:=cap9) (pl:=[]) (I9.pins_of fun p hp=>?_) kf9 (rv.append (.cons r8 .nil)) (hN7 _ _ q8)
     have hp':p=(D,{ cls:=.type "list",data:=.seq (its ++ [yv]).toArray cap9 }):=by simpa using hp
     subst hp'
     refine⟨?_,pD.2.1,pD.2.2.1,pD.2.2.2.1,fun v z=>by cases z⟩
     rw [e9]
     simp
  ·refine IY.pins_of fun p hp=>?_
   have hp':p=(D,{ cls:=.type "list",dict:=none,data:=.seq ([]:List Value).toArray }):=by simpa using hp
   subst hp'
   exact⟨accD,fresh _ (Nat.le_refl _),hDC,fun hf=>Nat.lt_irrefl _ (frD _ hf),fun v z=>by cases z⟩
 exact codeAny_compStart_list (loop _ rfl) (wpAny_mono (T.self X.A 0 _ (fun v s'=>v=.ref it/\s'={ s with heap:=h₁,toks:=s.toks+([]:List (Str×Value)).length }) (fun _ _=>False) (T.keep _ _ _ st1 fun b _ o e=>old b o e) ⟨rfl,rfl⟩) (fun v s' ⟨e1,e2⟩=>by subst e1 e2;exact loop _ rfl) fun _ _ f=>f.elim)
theorem uh (xs:List Str) (js:List Nat) (N0:List Str) (sc0:Scope) (hc:X.calm=true) (hi:PI X tg iter wi) (hg:∀cl C s H ex,PG (lZ X scope xs js cl C s H ex) tg g)
  (hif:∀cl C s H ex,PF (lZ X scope xs js cl C s H ex) ifs tt) (he:∀cl C s H ex,PE (lZ X scope xs js cl C s H ex) elt te)
  (hk:scope.kind=.function:=by rfl) (hcell:∀y∈scope.names,y.2≠.cell:=by decide +kernel)
  (hnames:∀y∈scope.names,y.2=.local->scope.names.lookup y.1=some .local:=by decide +kernel)
  (hsc:X.env.scope=sc0:=by rfl) (hfree0:∀y∈scope.names,y.2=.free->sc0.names.lookup y.1=some .cell∨sc0.names.lookup y.1=some .free:=by decide +kernel)
  (hNN:X.N=N0:=by rfl) (hj0:∀y∈dF N0 js,scope.names.lookup y=some .free:=by decide +kernel)
  (hs:∀x,foldedSetIterable iter X.env x=pure x:=by intro _;rfl):
  PE X (.ListComp elt [⟨tg,iter,ifs,0⟩] scope pos) (QJ xs js wi g tt te):=by
 intro pins s σ H Q I h
 have hfree:∀y∈scope.names,y.2=.free->X.env.kindOf y.1=some .cell∨X.env.kindOf y.1=some .free:=fun y hy e=>by
  show X.env.scope.names.lookup y.1=some .cell∨X.env.scope.names.lookup y.1=some .free
  rw [hsc];exact hfree0 y hy e
 rw [eval_ListComp]
 have hcl:closureFor scope X.env=pure (clos X.env scope.names []):=mq fun y hy e=>I.ok.has y.1 (hfree y hy e)
 refine wpAny_comprehension_free (use:=none) rfl hs hcl hk hnames (dU (hi pins s σ H _ I h) fun xv s1 h1=>dU h1 fun it s2 h2=>?_)
 have hjs:∀y∈dF X.N js,scope.names.lookup y=some .free:=by rw [hNN];exact hj0
 refine uB xs js (RR:=fun acc C=>compPost (model X.prog X.w) X.A X.xe none (EP X pins σ Q) acc C) (Q:=fun ys H2=>∀D,H2 D=none->Q (.ref D) (upd H2 D (.lst ys))) hc hk hcell hfree hg hif he hjs h2 ?_
 intro D C s' H2 ys m I' hD hn all fpC hCD hq
 exact⟨m,hn,fun h' sb=>⟨.ref D,_,all h' sb,rfl,hq D hD⟩⟩
theorem Qv {i:Nat} {y:Str} {py spos:Pos} (xs:List Str) (js:List Nat) (N0:List Str) (sc0:Scope) (hc:X.calm=true) (hNX:X.N.Nodup) (hiy:X.N[i]?=some y) (hi:PI X tg iter wi) (hg:∀cl C s H ex,PG (lZ X scope xs js cl C s H ex) tg g)
  (hif:∀cl C s H ex,PF (lZ X scope xs js cl C s H ex) ifs tt) (he:∀cl C s H ex,PE (lZ X scope xs js cl C s H ex) elt te)
  (hsw:swapsWith (.ListComp elt [⟨tg,iter,ifs,0⟩] scope pos) (some (.Name y py)) spos.line X.env=pure true:=by rfl) (hy:X.env.scope.names.lookup y=some .local:=by rfl)
  (hk:scope.kind=.function:=by rfl) (hcell:∀y∈scope.names,y.2≠.cell:=by decide +kernel)
  (hnames:∀y∈scope.names,y.2=.local->scope.names.lookup y.1=some .local:=by decide +kernel)
  (hsc:X.env.scope=sc0:=by rfl) (hfree0:∀y∈scope.names,y.2=.free->sc0.names.lookup y.1=some .cell∨sc0.names.lookup y.1=some .free:=by decide +kernel)
  (hNN:X.N=N0:=by rfl) (hj0:∀y∈dF N0 js,scope.names.lookup y=some .free:=by decide +kernel)
  (hs:∀x,foldedSetIterable iter X.env x=pure x:=by intro _;rfl):
  PS X (.Assign [.Name y py] (.ListComp elt [⟨tg,iter,ifs,0⟩] scope pos) spos) (Oj (QJ xs js wi g tt te) (wN i)):=by
 intro pins s σ H D I h
 have hfree:∀y∈scope.names,y.2=.free->X.env.kindOf y.1=some .cell∨X.env.kindOf y.1=some .free:=fun y hy e=>by
  show X.env.scope.names.lookup y.1=some .cell∨X.env.scope.names.lookup y.1=some .free
  rw [hsc];exact hfree0 y hy e
 have hjs:∀y∈dF X.N js,scope.names.lookup y=some .free:=by rw [hNN];exact hj0
 rw [exec_Assign_Name_used _ _ _ _ hsw]
 refine wpAny_bind (wpAny_standAt (wpAny_bind ?_))
 show wpAny _ X.A (do let _ <-comprehension (.ListComp elt [⟨tg,iter,ifs,0⟩] scope pos) scope X.env _ (newList []) false (eval iter X.env) (some (assign (.Name y py) X.env))) _ _ s
 have hcl:closureFor scope X.env=pure (clos X.env scope.names []):=mq fun y hy e=>I.ok.has y.1 (hfree y hy e)
 refine wpAny_bind (wpAny_mono (wpAny_comprehension_free (use:=some (assign (.Name y py) X.env)) (Q:=fun _ s'=>SP X pins D .next s') rfl hs hcl hk hnames
  (dU (hi pins s σ H _ I h) fun xv s1 h1=>dU h1 fun it s2 h2=>?_)) (fun _ s' hq=>wpAny_pure (wpAny_pure hq)) fun _ _ e=>e)
 refine uB xs js (RR:=fun acc C=>compPost (model X.prog X.w) X.A X.xe (some (assign (.Name y py) X.env)) (fun _ s'=>SP X pins D .next s') acc C) (Q:=fun ys H2=>∀D',H2 D'=none->D.nx (σ.set i (some (.ref D'))) (upd H2 D' (.lst ys))) hc hk hcell hfree hg hif he hjs h2 ?_
 intro D' C s' H2 ys m I' hD hn all fpC hCD hq
 show wpAny _ X.A (assign (.Name y py) X.env (.ref D')) _ _ _
 refine wpAny_assign_Name (zV I' hNX hiy (.inl hy) (v:=.ref D') rfl (fun s'' I'' ⟨a,sb,ha⟩=>?_) (.inr hy))
 obtain⟨f1,f2,f3,f4,f5,f6⟩:=fpC
 have hCa:C≠a:=by
  rcases ha with z | z
  ·rw [z];exact f2
  ·exact fun w=>f5 _ _ z w.symm
 exact⟨m,hn.sameBut sb hCa,fun h' sb'=>⟨_,_,I''.turned (t':=s''.toks) (it:=C) (fun b o hb e=>(sb'.2 b hb).trans e) f1 f2 f4 f5 f6,hq D' hD⟩⟩
end
theorem rW {ts:List Str} {js:List Nat} {σ:St} {g:TG} {tt:TT} {te:TE} {Qd:List V->Hp->Prop} {K:PySem.W.Frag} {a:Addr} {xs:List V} {H:Hp} (Pv:Nat->List V->Hp->Prop) (hn:xs.length<=sizeLine) (h0:Pv 0 [] H) (hl:∀i ys H,Pv i ys H->ys.length<=i) (hq:∀i ys H,i<=xs.length->Pv i ys H->bL K H a xs)
  (hs:∀i x ys H,xs[i]?=some x->Pv i ys H->g x ((ts.map fun _=>none) ++ dM σ js) H fun σ2 H3=>σ2.drop ts.length=dM σ js/\tt σ2 H3 fun b H4=>if b=true then te σ2 H4 fun y H5=>Pv (i+1) (ys ++ [y]) H5 else Pv (i+1) ys H4)
  (hd:∀ys H,Pv xs.length ys H->Qd ys H):yJ ts js σ g tt te Qd (Wz K a) H:=by
 refine⟨fun i m ys H=>m=xs.length - i/\i<=xs.length/\Pv i ys H,⟨xs.length,by simp,Nat.zero_le _,h0⟩,?_⟩
 rintro i m ys H ⟨rfl,hi,p⟩
 have hlen:=hl i ys H p
 have q:=hq i ys H hi p
 by_cases hlt:i <xs.length
 ·refine .inr ⟨⟨xs,xs[i],q,by simp [hlt]⟩,by omega,Pv (i+1),fun ys' H' p'=>⟨xs.length - (i+1),by omega,rfl,hlt,p'⟩,fun x H' y=>?_⟩
  obtain⟨e,y⟩:=y
  subst e
  exact hs i x ys _ (y xs q) p
 ·have e:i=xs.length:=by omega
  subst e
  exact .inl ⟨⟨xs,q,Nat.le_refl _⟩,by omega,hd ys H p⟩
structure K5 (K:PySem.W.Frag) (x qual:Str) (st:Stmt) (f:Addr) (fd:FuncData) (its:Array Value):Prop where
 ex:∃(oc:Value) (od:Option Addr) (T:Addr) (kV doc pm:Value) (an:Option Addr) (cdv ct:Value) (osl:Array (Option Value)) (o:Obj) (n:Nat),
  fd=PySem.W.fnOf x qual (iZ st) (gJ st) (aU st) (.ref T) kV doc pm an cdv ct/\K.lookup f=some ⟨oc,od,.func fd,osl⟩/\PySem.W.codeIn K cdv qual=true/\K.lookup T=some o/\o.data=.seq its n
 kp:PySem.W.keepIn K (.ref f)=true
section
variable {P:Program} {w:World} {K:PySem.W.Frag} {mg:Str->Option Value} {base:Heap} {its:Array Value}
theorem K5.ok {x qual:Str} {st:Stmt} {f:Addr} {fd:FuncData} {N ps:List Str} {k:Nat} {sp:Sp} (F:K5 K x qual st f fd its) (S:fD N ps (aU st)) (len:∀vs H Q E,sp vs H Q E->vs.length=ps.length)
  (hbody:∀(cdv:Value) (A:Around) (outer:List Env) (s:Shared) (H:Hp) (vs:List V) (Q:VK) (E:XK),jh k (A.deeper (envOfC qual (aU st) s.heap.objs.size f cdv))->sp vs H Q E->
   ∃t,Kf (KZ Cr P w K mg base N qual (aU st) f cdv A outer s H E).nox (gJ st) t/\t { nx:=fun _ H'=>Q .non H',rt:=Q } (start N vs) H):iU P w K mg base Cr (k+1) f fd ps sp:=by
 obtain⟨oc,od,T,kV,doc,pm,an,cdv,ct,osl,o,n,rfl,lk,hcd,_⟩:=F.ex
 refine Vc lk hcd S len fun A outer s H vs Q E hr hsp=>?_
 obtain⟨t,h,q⟩:=hbody cdv A outer s H vs Q E hr hsp
 exact⟨t,h.nox,q⟩
theorem K5.binds {x qual:Str} {st:Stmt} {f:Addr} {fd:FuncData} {ps:List Str} (F:K5 K x qual st f fd its)
  (h:∀(T:Addr) (kV doc pm:Value) (an:Option Addr) (cdv ct:Value) (us:List Value),us.length=ps.length->∃k,bindArgs (PySem.W.fnOf x qual (iZ st) (gJ st) (aU st) (.ref T) kV doc pm an cdv ct) ⟨us,[]⟩=seqItems? (.ref T) >>= k/\k (some its)=pure (ps.zip us)):Binds K fd ps []:=by
 obtain⟨oc,od,T,kV,doc,pm,an,cdv,ct,osl,o,n,rfl,lk,hcd,hT,ho⟩:=F.ex
 intro s us X hl
 rw [List.append_nil] at hl ⊢
 obtain⟨k,h1,h2⟩:=h T kV doc pm an cdv ct us hl
 exact .of_defaults rfl (X _ _ hT) ho h1 h2
theorem TJ {x qual:Str} {st:Stmt} {f T:Addr} {oc:Value} {od an:Option Addr} {osl:Array (Option Value)} {kV doc pm cdv ct:Value} {o:Obj} {n:Nat} (l:K.lookup f=some ⟨oc,od,.func (PySem.W.fnOf x qual (iZ st) (gJ st) (aU st) (.ref T) kV doc pm an cdv ct),osl⟩)
  (c:PySem.W.codeIn K cdv qual=true) (k:PySem.W.keepIn K (.ref f)=true) (d:K.lookup T=some o) (e:o.data=.seq its n):K5 K x qual st f (PySem.W.fnOf x qual (iZ st) (gJ st) (aU st) (.ref T) kV doc pm an cdv ct) its:=⟨⟨oc,od,T,kV,doc,pm,an,cdv,ct,osl,o,n,rfl,l,c,d,e⟩,k⟩
end
theorem CQ {ts:List Str} {js:List Nat} {σ:St} {g:TG} {tt:TT} {te:TE} {Qd:List V->Hp->Prop} {K:PySem.W.Frag} {a:Addr} {xs:List V} {H:Hp} (Pv:Nat->List V->Hp->Prop) (hn:xs.length<=sizeLine) (h0:Pv 0 [] H) (hl:∀i ys H,Pv i ys H->ys.length<=i) (hq:∀i ys H,i<=xs.length->Pv i ys H->bL K H a xs)
  (hs:∀i x ys H p,xs[i]?=some x->Pv i ys H->H p=none->g (.ref p) ((ts.map fun _=>none) ++ dM σ js) (upd H p (.tup [.int (i:Nat),x])) fun σ2 H3=>σ2.drop ts.length=dM σ js/\tt σ2 H3 fun b H4=>if b=true then te σ2 H4 fun y H5=>Pv (i+1) (ys ++ [y]) H5 else Pv (i+1) ys H4)
  (hd:∀ys H,Pv xs.length ys H->Qd ys H):yJ ts js σ g tt te Qd (O2 K a) H:=by
 refine⟨fun i m ys H=>m=xs.length - i/\i<=xs.length/\Pv i ys H,⟨xs.length,by simp,Nat.zero_le _,h0⟩,?_⟩
 rintro i m ys H ⟨rfl,hi,p⟩
 have hlen:=hl i ys H p
 have q:=hq i ys H hi p
 by_cases hlt:i <xs.length
 ·refine .inr ⟨⟨xs,xs[i],q,by simp [hlt]⟩,by omega,Pv (i+1),fun ys' H' p'=>⟨xs.length - (i+1),by omega,rfl,hlt,p'⟩,fun x H' y=>?_⟩
  obtain⟨u,z,hu,ex,eH,hy⟩:=y
  subst ex eH
  exact hs i z ys H u (hy xs q) p hu
 ·have e:i=xs.length:=by omega
  subst e
  exact .inl ⟨⟨xs,q,Nat.le_refl _⟩,by omega,hd ys H p⟩
@[irreducible] noncomputable def ZE (X:Cx) (e:Expr) (t:TE):Prop:=PE X e t
@[irreducible] noncomputable def ZS (X:Cx) (st:Stmt) (t:TS):Prop:=PS X st t
@[irreducible] noncomputable def Ys (X:Cx) (sts:List Stmt) (t:TS):Prop:=Kf X sts t
section
variable {X:Cx} {e:Expr} {es:List Expr} {te:TE} {t:TA} {pos:Pos} {st:Stmt} {rest:List Stmt} {ts us:TS}
theorem Xo {i:Nat} {x:Str} {pos':Pos} (hN:X.N.Nodup) (hi:X.N[i]?=some x) (hx:Loc X.env.scope x) (he:ZE X e te) (hs:swapsWith e (some (.Name x pos')) pos.line X.env=pure false:=by rfl) (hf:X.fn x=true∨X.env.scope.names.lookup x=some .local:=by first | exact .inl rfl | exact .inr rfl | assumption):
  ZS X (.Assign [.Name x pos'] e pos) (Oj te (wN i)):=by unfold ZE at he;unfold ZS;exact QS hN hi hx he hs hf
theorem Rt (h1:ZS X st ts) (h2:Kf X rest us):Ys X (st:: rest) (xR ts us):=by unfold ZS at h1;unfold Ys;exact az h1 h2
end
section
variable {X:Cx}
end
section
variable {X:Cx}
end
section
variable {prog:Program} {w:World} {A:Around} {E:Value->Shared->Prop}
end
section
variable {X:Cx} {tg:Expr}
end
section
variable {X:Cx} {e:Expr}
end
section
variable {X:Cx}
end
section
variable {M:Model} {A:Around} {E:Value->Shared->Prop} {nm q:Str} {C N:Addr} {bs bm:List Value} {hdct:Bool} {sn:List Str} {sub:List Value} {ab:Bool} {col:Option Bool} {dd:Option Addr} {k0 k1 k2 k3 k5:Option Value} {newId:String}
end
end L2
namespace L2
open PySem PyProof
section
variable {X:Cx} {x:Str} {px pos:Pos} {iter elt:Expr} {ifs:List Expr} {scope:Scope} {wi:TI} {tt:TT} {te:TE}
theorem Am (js:List Nat) {pins:List (Addr×Obj)} {σ:St} {s:Shared} {itv:Value} {Q:List V->Hp->Prop} {RR:Value->Addr->Result->Shared->Prop} {E:Value->Shared->Prop}
  (hc:X.calm=true) (hk:scope.kind=.function) (hx:scope.names.lookup x=some .local) (hcell:∀y∈scope.names,y.2≠.cell)
  (hfree:∀y∈scope.names,y.2=.free->X.env.kindOf y.1=some .cell∨X.env.kindOf y.1=some .free)
  (hN:(x:: dF X.N js).Nodup) (hjs:∀y∈dF X.N js,scope.names.lookup y=some .free)
  (hif:∀cl C s H ex,PF (zB X scope x js cl C s H ex) ifs tt) (he:∀cl C s H ex,PE (zB X scope x js cl C s H ex) elt te)
  (hit:PIE X pins σ (.Name x px) (CompEnd js tt te σ Q) itv s)
  (hR:∀D C s' H2 ys m,Inv X pins σ (upd H2 D (.lst ys)) s'->H2 D=none->s'.heap.Ns C m->(∀h',Heap.SameBut C s'.heap h'->Inv X pins σ (upd H2 D (.lst ys)) { s' with heap:=h' })->IV X pins (upd H2 D (.lst ys)) C->C≠D->Q ys H2->RR (.ref D) C (.ok .next) s'):
  wpAny (model X.prog X.w) X.A (newList []) (fun acc s₃=>wpAny (model X.prog X.w) X.A (newFunctionEnv scope X.env.globals (clos X.env scope.names []) [] X.env.qual none .none (some X.env)) (fun cenv s₄=>
   codeAny (model X.prog X.w) X.A (.compStart (.ListComp elt [⟨.Name x px,iter,ifs,0⟩] scope pos) 0 itv acc { cenv with scope:=relabel scope X.env }) (RR acc cenv.locals) s₄) E s₃) E s:=
 uB (tg:=.Name x px) (g:=wN 0) [x] js hc hk hcell hfree (fun cl C s H ex=>iy (i:=0) hN rfl (.inl (lookup_relabel_local hx)) (.inr (lookup_relabel_local hx))) hif he hjs
  (by
   obtain⟨it,fp,tn,J,H',e,I,T,t0,hf,W,h0,hW⟩:=hit
   exact⟨it,fp,tn,J,H',e,I,T,t0,hf,W,h0,fun i m ys H2 w=>(hW i m ys H2 w).imp_right fun⟨a,b,N,c,d⟩=>⟨a,b,N,c,fun y H3 z=>⟨rfl,d y H3 z⟩⟩⟩) hR
theorem fM (js:List Nat) (N0:List Str) (sc0:Scope) (hc:X.calm=true) (hi:PI X (.Name x px) iter wi)
  (hif:∀cl C s H ex,PF (zB X scope x js cl C s H ex) ifs tt) (he:∀cl C s H ex,PE (zB X scope x js cl C s H ex) elt te)
  (hk:scope.kind=.function:=by rfl) (hx:scope.names.lookup x=some .local:=by rfl) (hcell:∀y∈scope.names,y.2≠.cell:=by decide +kernel)
  (hnames:∀y∈scope.names,y.2=.local->scope.names.lookup y.1=some .local:=by decide +kernel)
  (hsc:X.env.scope=sc0:=by rfl) (hfree0:∀y∈scope.names,y.2=.free->sc0.names.lookup y.1=some .cell∨sc0.names.lookup y.1=some .free:=by decide +kernel)
  (hNN:X.N=N0:=by rfl) (hN0:(x:: dF N0 js).Nodup:=by decide +kernel) (hj0:∀y∈dF N0 js,scope.names.lookup y=some .free:=by decide +kernel)
  (hs:∀x,foldedSetIterable iter X.env x=pure x:=by intro _;rfl):
  PE X (.ListComp elt [⟨.Name x px,iter,ifs,0⟩] scope pos) (Vo js wi tt te):=by
 intro pins s σ H Q I h
 have hN:(x:: dF X.N js).Nodup:=by rw [hNN];exact hN0
 have hfree:∀y∈scope.names,y.2=.free->X.env.kindOf y.1=some .cell∨X.env.kindOf y.1=some .free:=fun y hy e=>by
  show X.env.scope.names.lookup y.1=some .cell∨X.env.scope.names.lookup y.1=some .free
  rw [hsc];exact hfree0 y hy e
 have hjs:∀y∈dF X.N js,scope.names.lookup y=some .free:=by rw [hNN];exact hj0
 rw [eval_ListComp]
 have hcl:closureFor scope X.env=pure (clos X.env scope.names []):=mq fun y hy e=>I.ok.has y.1 (hfree y hy e)
 refine wpAny_comprehension_free (use:=none) rfl hs hcl hk hnames (dU (hi pins s σ H _ I h) fun xv s1 h1=>dU h1 fun it s2 h2=>?_)
 refine Am js (RR:=fun acc C=>compPost (model X.prog X.w) X.A X.xe none (EP X pins σ Q) acc C) (Q:=fun ys H2=>∀D,H2 D=none->Q (.ref D) (upd H2 D (.lst ys))) hc hk hx hcell hfree hN hjs hif he h2 ?_
 intro D C s' H2 ys m I' hD hn all fpC hCD hq
 exact⟨m,hn,fun h' sb=>⟨.ref D,_,all h' sb,rfl,hq D hD⟩⟩
theorem j4 {i:Nat} {y:Str} {py spos:Pos} (js:List Nat) (N0:List Str) (sc0:Scope) (hc:X.calm=true) (hNX:X.N.Nodup) (hiy:X.N[i]?=some y) (hi:PI X (.Name x px) iter wi)
  (hif:∀cl C s H ex,PF (zB X scope x js cl C s H ex) ifs tt) (he:∀cl C s H ex,PE (zB X scope x js cl C s H ex) elt te)
  (hsw:swapsWith (.ListComp elt [⟨.Name x px,iter,ifs,0⟩] scope pos) (some (.Name y py)) spos.line X.env=pure true:=by rfl) (hy:X.env.scope.names.lookup y=some .local:=by rfl)
  (hk:scope.kind=.function:=by rfl) (hx:scope.names.lookup x=some .local:=by rfl) (hcell:∀y∈scope.names,y.2≠.cell:=by decide +kernel)
  (hnames:∀y∈scope.names,y.2=.local->scope.names.lookup y.1=some .local:=by decide +kernel)
  (hsc:X.env.scope=sc0:=by rfl) (hfree0:∀y∈scope.names,y.2=.free->sc0.names.lookup y.1=some .cell∨sc0.names.lookup y.1=some .free:=by decide +kernel)
  (hNN:X.N=N0:=by rfl) (hN0:(x:: dF N0 js).Nodup:=by decide +kernel) (hj0:∀y∈dF N0 js,scope.names.lookup y=some .free:=by decide +kernel)
  (hs:∀x,foldedSetIterable iter X.env x=pure x:=by intro _;rfl):
  PS X (.Assign [.Name y py] (.ListComp elt [⟨.Name x px,iter,ifs,0⟩] scope pos) spos) (Oj (Vo js wi tt te) (wN i)):=by
 intro pins s σ H D I h
 have hN:(x:: dF X.N js).Nodup:=by rw [hNN];exact hN0
 have hfree:∀y∈scope.names,y.2=.free->X.env.kindOf y.1=some .cell∨X.env.kindOf y.1=some .free:=fun y hy e=>by
  show X.env.scope.names.lookup y.1=some .cell∨X.env.scope.names.lookup y.1=some .free
  rw [hsc];exact hfree0 y hy e
 have hjs:∀y∈dF X.N js,scope.names.lookup y=some .free:=by rw [hNN];exact hj0
 rw [exec_Assign_Name_used _ _ _ _ hsw]
 refine wpAny_bind (wpAny_standAt (wpAny_bind ?_))
 show wpAny _ X.A (do let _ <-comprehension (.ListComp elt [⟨.Name x px,iter,ifs,0⟩] scope pos) scope X.env _ (newList []) false (eval iter X.env) (some (assign (.Name y py) X.env))) _ _ s
 have hcl:closureFor scope X.env=pure (clos X.env scope.names []):=mq fun y hy e=>I.ok.has y.1 (hfree y hy e)
 refine wpAny_bind (wpAny_mono (wpAny_comprehension_free (use:=some (assign (.Name y py) X.env)) (Q:=fun _ s'=>SP X pins D .next s') rfl hs hcl hk hnames
  (dU (hi pins s σ H _ I h) fun xv s1 h1=>dU h1 fun it s2 h2=>?_)) (fun _ s' hq=>wpAny_pure (wpAny_pure hq)) fun _ _ e=>e)
 refine Am js (RR:=fun acc C=>compPost (model X.prog X.w) X.A X.xe (some (assign (.Name y py) X.env)) (fun _ s'=>SP X pins D .next s') acc C) (Q:=fun ys H2=>∀D',H2 D'=none->D.nx (σ.set i (some (.ref D'))) (upd H2 D' (.lst ys))) hc hk hx hcell hfree hN hjs hif he h2 ?_
 intro D' C s' H2 ys m I' hD hn all fpC hCD hq
 show wpAny _ X.A (assign (.Name y py) X.env (.ref D')) _ _ _
 refine wpAny_assign_Name (zV I' hNX hiy (.inl hy) (v:=.ref D') rfl (fun s'' I'' ⟨a,sb,ha⟩=>?_) (.inr hy))
 obtain⟨f1,f2,f3,f4,f5,f6⟩:=fpC
 have hCa:C≠a:=by
  rcases ha with z | z
  ·rw [z];exact f2
  ·exact fun w=>f5 _ _ z w.symm
 exact⟨m,hn.sameBut sb hCa,fun h' sb'=>⟨_,_,I''.turned (t':=s''.toks) (it:=C) (fun b o hb e=>(sb'.2 b hb).trans e) f1 f2 f4 f5 f6,hq D' hD⟩⟩
end
end L2
namespace L2
open PySem PySem.Spec PyProof.Rows
noncomputable def fdOf (K:PySem.W.Frag) (f:Addr):FuncData:=match K.lookup f with
 | some ⟨_,_,.func d,_⟩=>d
 | _=>default
theorem Ub {K:PySem.W.Frag} {f:Addr} {oc:Value} {od:Option Addr} {fd:FuncData} {osl:Array (Option Value)} (l:K.lookup f=some ⟨oc,od,.func fd,osl⟩):fdOf K f=fd:=by
 unfold fdOf
 rw [l]
structure dZ (K:PySem.W.Frag) (nm qn:Str) (s:Stmt) (f:Addr) (ps:List Str):Prop where
 F:Vt K nm qn s f (fdOf K f)
 b:Binds K (fdOf K f) ps []
 i:PySem.W.isFn K (.ref f)=true
theorem dZ.me {K:PySem.W.Frag} {nm qn m:Str} {s:Stmt} {f C:Addr} {ps:List Str} (x:dZ K nm qn s f ps) (h:PySem.W.findIn K (.ref C) m=some (some (.ref f))):Meth K C m f:=⟨h,x.i,x.F.kp⟩
theorem dZ.of {K:PySem.W.Frag} {nm qn:Str} {s:Stmt} {f:Addr} {ps:List Str} {oc:Value} {od an:Option Addr} {osl:Array (Option Value)} {kV doc pm cdv ct:Value}
  (l:K.lookup f=some ⟨oc,od,.func (PySem.W.fnOf nm qn (iZ s) (gJ s) (aU s) .none kV doc pm an cdv ct),osl⟩) (c:PySem.W.codeIn K cdv qn=true) (k:PySem.W.keepIn K (.ref f)=true) (i:PySem.W.isFn K (.ref f)=true)
  (h:∀(kV doc pm:Value) (an:Option Addr) (cdv ct:Value) (us:List Value),us.length=ps.length->bindArgs (PySem.W.fnOf nm qn (iZ s) (gJ s) (aU s) .none kV doc pm an cdv ct) ⟨us,[]⟩=pure (ps.zip us)):dZ K nm qn s f ps:=by
 have e:fdOf K f=PySem.W.fnOf nm qn (iZ s) (gJ s) (aU s) .none kV doc pm an cdv ct:=by
  unfold fdOf
  rw [l]
 have F:=Wv l c k
 have b:=F.binds h
 rw [<-e] at F b
 exact⟨F,b,i⟩
structure WD (K:PySem.W.Frag) (nm qn:Str) (s:Stmt) (f:Addr) (ps:List Str):Prop where
 F:K5 K nm qn s f (fdOf K f) #[.none]
 b:Binds K (fdOf K f) ps []
 i:PySem.W.isFn K (.ref f)=true
theorem WD.me {K:PySem.W.Frag} {nm qn m:Str} {s:Stmt} {f C:Addr} {ps:List Str} (x:WD K nm qn s f ps) (h:PySem.W.findIn K (.ref C) m=some (some (.ref f))):Meth K C m f:=⟨h,x.i,x.F.kp⟩
theorem WD.of {K:PySem.W.Frag} {nm qn:Str} {s:Stmt} {f T:Addr} {ps:List Str} {oc oe:Value} {od an oh:Option Addr} {osl osm:Array (Option Value)} {kV doc pm cdv ct:Value} {n:Nat}
  (l:K.lookup f=some ⟨oc,od,.func (PySem.W.fnOf nm qn (iZ s) (gJ s) (aU s) (.ref T) kV doc pm an cdv ct),osl⟩) (d:K.lookup T=some ⟨oe,oh,.seq #[.none] n,osm⟩) (c:PySem.W.codeIn K cdv qn=true) (k:PySem.W.keepIn K (.ref f)=true) (i:PySem.W.isFn K (.ref f)=true)
  (h:∀fd:FuncData,K5 K nm qn s f fd #[.none]->Binds K fd ps []):WD K nm qn s f ps:=by
 have F:=TJ (its:=#[.none]) l c k d rfl
 have b:=h _ F
 rw [<-Ub l] at F b
 exact⟨F,b,i⟩
structure oE (K:PySem.W.Frag) (mg:Str->Option Value) (nm:Str) (s:Stmt) (f:Addr) (ps:List Str):Prop where
 x:dZ K nm nm s f ps
 m:mg nm=some (.ref f)
theorem oE.of {K:PySem.W.Frag} {mg:Str->Option Value} {nm:Str} {s:Stmt} {f:Addr} {ps:List Str} (m:mg nm=some (.ref f)) (x:dZ K nm nm s f ps):oE K mg nm s f ps:=⟨x,m⟩
theorem gC {mg:Str->Option Value} {nm:Str} {u:Value} {v:V} (m:mg nm=some u) (r:RelV v u):∃u,mg nm=some u/\RelV v u:=⟨u,m,r⟩
theorem oE.F {K:PySem.W.Frag} {mg:Str->Option Value} {nm:Str} {s:Stmt} {f:Addr} {ps:List Str} (h:oE K mg nm s f ps):Vt K nm nm s f (fdOf K f):=h.x.F
theorem oE.b {K:PySem.W.Frag} {mg:Str->Option Value} {nm:Str} {s:Stmt} {f:Addr} {ps:List Str} (h:oE K mg nm s f ps):Binds K (fdOf K f) ps []:=h.x.b
noncomputable def MB (K:PySem.W.Frag) (C:Addr):List (Str×Addr)->Prop
 | []=>True
 | (m,f):: r=>PySem.W.findIn K (.ref C) m=some (some (.ref f))/\MB K C r
noncomputable def NB (K:PySem.W.Frag) (C:Addr):List Str->Prop
 | []=>True
 | f:: r=>PySem.W.findIn K (.ref C) f=some none/\NB K C r
structure Jf (K:PySem.W.Frag) (mg:Str->Option Value) (nm:Str) (C:Addr) (ms:List (Str×Addr)) (as:List Str):Prop where
 m:mg nm=some (.ref C)
 c:NT K C
 mks:PySem.W.makesIn K C=true
 kp:PySem.W.keepIn K (.ref C)=true
 me:MB K C ms
 na:NB K C as
theorem Jf.M {K:PySem.W.Frag} {mg:Str->Option Value} {nm:Str} {C f:Addr} {ms:List (Str×Addr)} {as ps:List Str} {n q:Str} {s:Stmt} (h:Jf K mg nm C (("__init__",f):: ms) as) (x:dZ K n q s f ps):Mk K C f:=⟨h.mks,h.me.1,x.i,h.kp⟩
theorem Wt {K:PySem.W.Frag} {nm qn:Str} {st:Stmt} {f:Addr} {x:Str} (F:Vt K nm qn st f (fdOf K f))
  (h:∀(kV doc pm:Value) (an:Option Addr) (cdv ct v:Value),bindArgs (PySem.W.fnOf nm qn (iZ st) (gJ st) (aU st) .none kV doc pm an cdv ct) ⟨[v],[]⟩=pure [(x,v)]) (s:Shared) (v:Value):BindsTo s (fdOf K f) ⟨[v],[]⟩ [(x,v)]:=by
 obtain⟨oc,od,kV,doc,pm,an,cdv,ct,osl,e,lk,hcd⟩:=F.ex
 rw [e]
 exact .of_eq (h kV doc pm an cdv ct v)
theorem Zv {K:PySem.W.Frag} {h:Heap} {C f:Addr} (X:K.In h) (_:PySem.W.findIn K (.ref C) "__init__" =some (some (.ref f))) (b:PX K C f=true):ExcAt K C:=(CP.ofIn b).at X
theorem us_0 {α:Type} {P:List α->Prop} (h:P []):∀us:List α,us.length=0->P us
 | [],_=>h
theorem DW {α:Type} {P:List α->Prop} (h:∀a,P [a]):∀us:List α,us.length=1->P us
 | [a],_=>h a
theorem xT {α:Type} {P:List α->Prop} (h:∀a b,P [a,b]):∀us:List α,us.length=2->P us
 | [a,b],_=>h a b
theorem Ep {α:Type} {P:List α->Prop} (h:∀a b c,P [a,b,c]):∀us:List α,us.length=3->P us
 | [a,b,c],_=>h a b c
theorem Qh {α:Type} {P:List α->Prop} (h:∀a b c d,P [a,b,c,d]):∀us:List α,us.length=4->P us
 | [a,b,c,d],_=>h a b c d
theorem XH {α:Type} {P:List α->Prop} (h:∀a b c d e,P [a,b,c,d,e]):∀us:List α,us.length=5->P us
 | [a,b,c,d,e],_=>h a b c d e
theorem YL {α:Type} {P:List α->Prop} (h:∀a b c d e f,P [a,b,c,d,e,f]):∀us:List α,us.length=6->P us
 | [a,b,c,d,e,f],_=>h a b c d e f
theorem us_7 {α:Type} {P:List α->Prop} (h:∀a b c d e f g,P [a,b,c,d,e,f,g]):∀us:List α,us.length=7->P us
 | [a,b,c,d,e,f,g],_=>h a b c d e f g
theorem dZ.sc {K:PySem.W.Frag} {nm qn:Str} {s:Stmt} {f:Addr} {ps:List Str} (_:dZ K nm qn s f ps) (N:List Str) (h:fD N ps (aU s):=by exact⟨rfl,rfl,rfl,by decide +kernel,rfl,by decide +kernel,by decide +kernel⟩):fD N ps (aU s):=h
theorem oE.sc {K:PySem.W.Frag} {mg:Str->Option Value} {nm:Str} {s:Stmt} {f:Addr} {ps:List Str} (_:oE K mg nm s f ps) (N:List Str) (h:fD N ps (aU s):=by exact⟨rfl,rfl,rfl,by decide +kernel,rfl,by decide +kernel,by decide +kernel⟩):fD N ps (aU s):=h
noncomputable abbrev FO (P:Program) (w:World) (K:PySem.W.Frag) (mg:Str->Option Value) (base:Heap) (k:Nat) (f:Addr) (ps:List Str) (sp:Sp):Prop:=iU P w K mg base Cr k f (fdOf K f) ps sp
theorem Ga {N ps:List Str} {sc:Scope} (h:fD N ps sc:=by exact⟨rfl,rfl,rfl,by decide +kernel,rfl,by decide +kernel,by decide +kernel⟩):fD N ps sc:=h
section
variable {X:Cx} {k k' i:Nat} {f C:Addr} {ps as:List Str} {ms:List (Str×Addr)} {sp:Sp} {x m nm qn n:Str} {p pos apos pos':Pos} {e o:Expr} {es:List Expr} {ta te:TE} {t:TA} {s:Stmt} {N:List Str}
theorem d8 (F:iU X.prog X.w X.K X.mg X.base Cr k f (fdOf X.K f) ps sp) (g:oE X.K X.mg x s f ps) (hr:jh k' X.A) (ha:PA X (e:: es) t) (hk:k<=k':=by decide) (hg:Gl X x:=by rfl)
  (hdb:(x == ("__debug__" :Str))=false:=by decide) (he:starEach (e:: es) X.env=(false,eval e X.env):: starEach es X.env:=by rfl) (hpl:(backTo pos (starEach es X.env)).any (·.1)=false:=by rfl):
  PE X (.Call (.Name x p) (e:: es) [] pos) (UW sp [] E0 t):=Um F (hr.mono hk) hg g.m g.F.kp g.b .nil ir ha hdb he hpl
theorem zz {pl:Sem Bool} (he:PE X o ta) (c:Jf X.K X.mg n C ms as) (hm:PySem.W.findIn X.K (.ref C) m=some (some (.ref f))) (F:iU X.prog X.w X.K X.mg X.base Cr k f (fdOf X.K f) ps sp) (g:dZ X.K nm qn s f ps) (hr:jh k' X.A) (ha:PA X (e:: es) t)
  (hk:k<=k':=by decide) (hst:starEach (e:: es) X.env=(false,eval e X.env):: starEach es X.env:=by rfl) (hpl:(backTo pos (starEach es X.env)).any (·.1)=false:=by rfl)
  (ht:eval (.Call (.Attribute o m apos) (e:: es) [] pos) X.env=(do
   let ov <-eval o X.env
   standAt apos.atName
   let (f,first) <-holding [ov] (getMethod ov m pl)
   callWith pos f first (backTo pos (starEach (e:: es) X.env)) (backToKw pos (keywordEach [] X.env))):=by rfl):
  PE X (.Call (.Attribute o m apos) (e:: es) [] pos) (Mi C m sp [] E0 ta t):=M6 he c.c (g.me hm) F (hr.mono hk) g.b .nil ir ha hst hpl ht
theorem Sh {pl:Sem Bool} (he:PE X o ta) (c:Jf X.K X.mg n C ms as) (hm:PySem.W.findIn X.K (.ref C) m=some (some (.ref f))) (F:iU X.prog X.w X.K X.mg X.base Cr k f (fdOf X.K f) ps sp) (g:dZ X.K nm qn s f ps) (hr:jh k' X.A)
  (hk:k<=k':=by decide) (ht:eval (.Call (.Attribute o m apos) [] [] pos) X.env=(do
   let ov <-eval o X.env
   standAt apos.atName
   let (f,first) <-holding [ov] (getMethod ov m pl)
   callWith pos f first (backTo pos (starEach [] X.env)) (backToKw pos (keywordEach [] X.env))):=by rfl):
  PE X (.Call (.Attribute o m apos) [] [] pos) (Mi C m sp [] E0 ta RD):=QD he c.c (g.me hm) F (hr.mono hk) g.b .nil ir ht
theorem gN {sc:Scope} (S:fD X.N ps sc) (i:Nat) (hi:X.N[i]?=some x:=by rfl) (hx:Loc X.env.scope x:=by first | exact Or.inl rfl | exact Or.inr rfl) (hf:X.fn x=true∨X.env.scope.names.lookup x=some .local:=by first | exact .inl rfl | exact .inr rfl | assumption):PG X (.Name x pos) (wN i):=iy S.nd hi hx hf
theorem sN {sc:Scope} (S:fD X.N ps sc) (i:Nat) (he:PE X e te) (hi:X.N[i]?=some x:=by rfl) (hx:Loc X.env.scope x:=by first | exact Or.inl rfl | exact Or.inr rfl) (hs:swapsWith e (some (.Name x pos')) pos.line X.env=pure false:=by rfl) (hf:X.fn x=true∨X.env.scope.names.lookup x=some .local:=by first | exact .inl rfl | exact .inr rfl | assumption):
  PS X (.Assign [.Name x pos'] e pos) (Oj te (wN i)):=QS S.nd hi hx he hs hf
theorem Ew (h1:PE X o ta) (h2:PA X (e:: es) t) (hbase:attributeBase o "append" X.env (eval o X.env)=eval o X.env:=by rfl)
  (hfew:((backTo pos (starEach (e:: es) X.env)).all (fun x=>!x.1) && (backToKw pos (keywordEach [] X.env)).all (fun x=>x.1.isSome) && decide ((e:: es).length+([]:List Keyword).length+(if ([]:List Keyword).isEmpty then 0 else 1) <30))=true:=by rfl)
  (hline:(apos.endLine == pos.line)=true:=by rfl) (hs:starEach (e:: es) X.env=(false,eval e X.env):: starEach es X.env:=by rfl) (hplain:(backTo pos (starEach es X.env)).any (·.1)=false:=by rfl):
  PE X (.Call (.Attribute o "append" apos) (e:: es) [] pos) (Zt X.K "list" Mw ta t):=ye PySem.F.plainAttrs_list PySem.F.slot_list_append PySem.F.type_list_append NQ h1 h2 hbase hfew hline hs hplain
end
theorem ln {sp:Sp} {ps:List Str} (h:∀vs H Q E,sp vs H Q E->vs.length=ps.length:=by
 intro _ _ _ _ h
 first
 | (cases h;subst_vars;rfl)
 | (cases h;rename_i h;cases h;subst_vars;rfl)
 | (obtain⟨_,rfl,_⟩:=h;rfl)
 | (obtain⟨_,_,rfl,_⟩:=h;rfl)
 | (obtain⟨_,_,_,rfl,_⟩:=h;rfl)):∀vs H Q E,sp vs H Q E->vs.length=ps.length:=h
@[irreducible] noncomputable def Wb (X:Cx) (pos:Pos) (ks:List (Option Expr)) (vs:List Expr) (trs:List (TE×TE)):Prop:=WN X pos ks vs trs
theorem Vy {X:Cx} {pos:Pos}:Wb X pos [] [] []:=by unfold Wb;exact MJ
theorem zp {X:Cx} {pos p q:Pos} {x:Str} {j} {ks:List (Option Expr)} {vs:List Expr} {trs:List (TE×TE)} (h:Wb X pos ks vs trs):Wb X pos (some (.Constant (.str x) j p):: ks) (.Dict [] [] q:: vs) ((tC (.str x),Rj):: trs):=by unfold Wb at h ⊢;exact Jo bh gM h
theorem Wm {X:Cx} {pos:Pos} {ks:List (Option Expr)} {vs:List Expr} {trs:List (TE×TE)} (h:Wb X pos ks vs trs) (hall:ks.all (·.isSome)=true:=by rfl) (hl:ks.length=vs.length:=by rfl) (h0:ks≠[]:=by simp) (h15:ks.length<=15:=by decide):ZE X (.Dict ks vs pos) (U4 trs):=by unfold Wb at h;unfold ZE;exact Mz h hall hl h0 h15
theorem Zj {X:Cx} {sts:List Stmt} {t:TS} (h:Ys X sts t):Kf X sts t:=by unfold Ys at h;exact h
end L2
namespace One
open PySem PySem.W PySem.Calls PyProof.Rows
def Gs:Nat->BT->List Obj->BT
 | _,t,[]=>t
 | n,t,o:: r=>Gs (n+1) (t.ins n o) r
def Ha:Nat->BT->List Obj->Bool
 | _,_,[]=>true
 | n,t,o:: r=>((t.ins n o).get n).isSome && Ha (n+1) (t.ins n o) r
theorem Gy {life:Life}:∀(l:List Obj) (n:Nat) (t:BT) (as:List Obj),absHeap t n life=⟨as.toArray,life⟩->Ha n t l=true->absHeap (Gs n t l) (n+l.length) life=⟨(as ++ l).toArray,life⟩
 | [],n,t,as,h,_=>by simpa [Gs] using h
 | o:: r,n,t,as,h,k=>by
  simp only [Ha,Bool.and_eq_true] at k
  have e:=absHeap_ins (life:=life) k.1
  rw [h] at e
  have:=Gy r (n+1) (t.ins n o) (as ++ [o]) (by rw [e];simp [Heap.push]) k.2
  rw [List.append_assoc] at this
  rw [List.length_cons,show n+(r.length+1)=n+1+r.length by omega]
  exact this
def Xx (tb:String->Option Builtin) (p:Program) (w:World) (m:Nat) (an:Option Value):Nat->SharedT->Thread->Option (SharedT×Thread)
 | 0,s,t=>some (s,t)
 | n+1,s,t=>match through t with
  | true=>some (s,t)
  | false=>match stepOk m an t with
   | false=>none
   | true=>match stepT (denote tb) p w s t with
    | some (s',t')=>Xx tb p w m an n s' t'
    | none=>none
theorem R4 {tb:String->Option Builtin} {p:Program} {w:World} {m:Nat} {an:Option Value}:∀{n:Nat} {s s':SharedT} {t t':Thread},Xx tb p w m an n s t=some (s',t')->through t'=true->topRun tb p w m an (n+1) s.abs t=some s'.abs
 | 0,s,s',t,t',h,z=>by
  obtain⟨rfl,rfl⟩:=Prod.mk.inj (Option.some.inj h)
  unfold topRun
  rw [z]
 | n+1,s,s',t,t',h,z=>by
  unfold Xx at h
  unfold topRun
  cases e1:through t with
  | true=>
   rw [e1] at h
   obtain⟨rfl,rfl⟩:=Prod.mk.inj (Option.some.inj h)
   rfl
  | false=>
   rw [e1] at h
   cases e2:stepOk m an t with
   | false=>rw [e2] at h;cases h
   | true=>
    rw [e2] at h
    cases e3:stepT (denote tb) p w s t with
    | none=>rw [e3] at h;cases h
    | some r=>
     obtain⟨s2,t2⟩:=r
     rw [e3] at h
     rw [stepT_spec e3]
     exact R4 h z
def ends (r:SharedT×Thread):Option SharedT:=match through r.2 with
 | true=>some r.1
 | false=>none
theorem Tz {tb:String->Option Builtin} {p:Program} {w:World} {m:Nat} {an:Option Value} {n:Nat} {s s':SharedT} {t:Thread} (h:(Xx tb p w m an n s t).bind ends=some s'):topRun tb p w m an (n+1) s.abs t=some s'.abs:=by
 obtain⟨⟨s2,t2⟩,e1,e2⟩:=Option.bind_eq_some_iff.mp h
 unfold ends at e2
 cases z:through t2 with
 | false=>simp only [z] at e2;cases e2
 | true=>
  simp only [z] at e2
  cases e2
  exact R4 e1 z
noncomputable def Xg (P:Params):Option Value:=(boot_heap P).nsMap mainGlobals "__annotations__"
noncomputable def S0 (w:World) (os:OsState):SharedT:=⟨Gs 0 .nil (boot_heap w.params).objs.toList,11,{},Array.mk [],boot_drawn,boot_toks,os⟩
theorem V9 (w:World) (os:OsState):(S0 w os).abs=⟨boot_heap w.params,Array.mk [],boot_drawn,boot_toks,os⟩:=by
 have e:=Gy (life:={}) (boot_heap w.params).objs.toList 0 .nil [] rfl (by rfl)
 have e2:absHeap (Gs 0 .nil (boot_heap w.params).objs.toList) 11 {}=boot_heap w.params:=e
 show(⟨absHeap (Gs 0 .nil (boot_heap w.params).objs.toList) 11 {},_,_,_,_⟩:Shared)=_
 rw [e2]
 rfl
noncomputable def Wo (p:Program) (M:Nat) (w:World) (os:OsState):Option SharedT:=(Xx treeTable p w 11 (Xg w.params) M (S0 w os) (topStub p)).bind ends
noncomputable def Qi (p q:Program) (loose:List Str) (Xt:Shared->Bool) (M:Nat) (w:World) (os:OsState):=
 (Wo p M w os).map fun s=>(staticsOk (importedModules p.main.body) (boot_heap w.params) s.abs.heap && namesBound p s.abs.heap && gensDone s.abs && laidKept (boot_heap w.params) s.abs.heap,openSeen q loose (importedModules p.main.body) Xt true s.abs)
theorem Th {p q:Program} {loose:List Str} {Xt:Shared->Bool} {α:Type} {Yf:Shared->α} {Ya:World->α} {N M:Nat} (e:opening p=plainProg p.main.scope.names) (hN:Nat.ble 600 N=true) (f:∀s,fenceModules? p s=some s) (le:Nat.ble (M+1) N=true)
  (A:∀w os,Qi p q loose Xt M w os=some (true,openGood q loose)) (B:∀w os,(Wo p M w os).map (fun s=>Yf s.abs)=some (Ya w)):LeftO p q loose Xt Yf Ya N:=fun w=>by
 obtain⟨⟨h,gs,d,k,os⟩,e1,e2⟩:=Option.map_eq_some_iff.mp (boot_open e hN f w)
 obtain⟨rfl,rfl,rfl,rfl⟩:h=boot_heap w.params/\gs=Array.mk []/\d=boot_drawn/\k=boot_toks:=by simpa using e2
 obtain⟨s1,r1,l1⟩:=Option.map_eq_some_iff.mp (A w os)
 obtain⟨s2,r2,l2⟩:=Option.map_eq_some_iff.mp (B w os)
 rw [r1] at r2
 cases r2
 obtain⟨l3,l4⟩:=Prod.mk.inj l1
 have r3:=Tz r1
 rw [V9] at r3
 have r4:=topRun_mono (N - (M+1)) _ _ _ _ r3
 rw [show M+1+(N - (M+1))=N by have:=Nat.le_of_ble_eq_true le;omega] at r4
 have t:topFrom treeTable p w N ⟨boot_heap w.params,Array.mk [],boot_drawn,boot_toks,os⟩=some s1.abs:=by
  unfold topFrom
  have z1:((boot_heap w.params).isNs mainGlobals && (Array.mk []:Array GenState).size == 0)=true:=by kernel_rfl
  dsimp only
  rw [z1]
  show((topRun treeTable p w 11 (Xg w.params) N _ _).bind _)=_
  rw [r4]
  show(match staticsOk (importedModules p.main.body) (boot_heap w.params) s1.abs.heap && namesBound p s1.abs.heap && gensDone s1.abs && laidKept (boot_heap w.params) s1.abs.heap with | true=>_ | false=>_)=_
  rw [l3]
 unfold openEnds
 rw [e1]
 show(topFrom treeTable p w N _).map _=_
 rw [t]
 exact congrArg some (Prod.ext l4 l2)
def yo (s:SharedT) (a:Addr):Option Obj:=match Nat.blt a s.n with
 | true=>(match s.tree.get a with | some o=>alive o | none=>none)
 | false=>none
theorem PJ {s:SharedT} {a:Addr} {o:Obj} (h:yo s a=some o):s.abs.heap.get? a=some o:=by
 unfold yo at h
 cases e:Nat.blt a s.n with
 | false=>rw [e] at h;cases h
 | true=>
  rw [e] at h
  cases g:s.tree.get a with
  | none=>rw [g] at h;cases h
  | some x=>
   rw [g] at h
   exact(abs_get (Nat.le_of_ble_eq_true e) g).trans h
theorem Nq {s:SharedT}:∀{as:List Addr} {l:List (Addr×Obj)},as.map (yo s)=l.map (fun p=>some p.2)->as.map s.abs.heap.get?=l.map fun p=>some p.2
 | [],[],_=>rfl
 | [],_:: _,h=>by cases h
 | _:: _,[],h=>by cases h
 | a:: as,x:: l,h=>by
  have h1:=List.cons.inj h
  show s.abs.heap.get? a:: as.map _=_
  rw [PJ h1.1,Nq h1.2]
  rfl
theorem chunk {o:Option SharedT} {as:List Addr} {l:List (Addr×Obj)} (n:Nat) (h1:o.map (fun s=>(as.take n).map (yo s))=some ((l.take n).map fun p=>some p.2)) (h2:o.map (fun s=>(as.drop n).map (yo s))=some ((l.drop n).map fun p=>some p.2)):
  o.map (fun s=>as.map (yo s))=some (l.map fun p=>some p.2):=by
 obtain⟨s,e1,e2⟩:=Option.map_eq_some_iff.mp h1
 subst e1
 have e3:=Option.some.inj h2
 show some (as.map (yo s))=_
 rw [<-List.take_append_drop n as,<-List.take_append_drop n l,List.map_append,List.map_append]
 exact congrArg some (congr (congrArg _ e2) e3)
theorem Uk {o:Option SharedT} {w:World} {K:Params->Frag} {as:List Addr} {e:∀P,as=(K P).map (·.1)} (h:o.map (fun s=>as.map (yo s))=some ((K w.params).map fun p=>some p.2)):
  o.map (fun s=>Hook.obs (kHook K as e) s.abs)=some (Hook.val (kHook K as e) w):=by
 obtain⟨s,h1,h2⟩:=Option.map_eq_some_iff.mp h
 rw [h1]
 exact congrArg some (Nq h2)
end One
namespace HD
open PySem PySem.W PySem.Calls PyProof.Rows
abbrev rr:OpenRow:=OpenLaw.row PySem.Challenge.rw_holdlane_k43_turns_of_a_net
def q:Program:=view PySem.Challenge.pw_holdlane_k43_turns_of_a_net [84]
def loose:List PySem.Str:=(["_wall", "LaneError", "TooMany", "NoKind", "BadName", "Doubled", "NoSuch", "BadNumbers", "BadLanes", "BadRoom", "Open", "Loose", "BadRow", "Flow", "VALUES", "FIGURES"]:List PySem.Str) ++ (["LETTERS", "LONGEST_NAME", "is_whole", "is_value", "is_name", "rest", "COUNTS", "Part", "Give", "Take", "Pass", "Copy", "Turn", "Heap", "Add", "Less"]:List PySem.Str) ++ (["Order", "Choose", "Split", "is_kind", "need_fit", "made_of", "part_made", "MOST_LANES", "MOST_PARTS", "MOST_ROOM", "need_counts", "need_fresh", "need_lane", "fresh_part", "tie_lanes", "need_ends"]:List PySem.Str) ++ (["joined_with", "need_joined", "Net", "LONGEST_ROW", "is_row", "need_rows", "Run", "_law_cell", "_law_mix", "_law_value", "_law_word", "_law_lane", "_law_part", "_law_pick", "_law_two", "_law_loop"]:List PySem.Str) ++ (["_law_step", "_law_closed", "_law_net", "_law_places", "_law_two_given", "_law_given", "_law_doors", "_law_model", "_law_deed", "_law_turn", "_law_held", "_law_stands"]:List PySem.Str)
def Xt (s:Shared):Bool:=xlAt q [] s && recOk (RowW.records (OpenRow.toRowW (OpenLaw.row PySem.Challenge.rw_holdlane_k43_turns_of_a_net))) s
structure KA where
 K:Params->Frag
 as:List Addr
def pickK {r:OpenRow} {K:Params->Frag} {as:List Addr} (_:(∀H:Hook,(∃e,H=kHook K as e)->r.Holds)->r.Holds):KA:=⟨K,as⟩
local macro_rules | `(tactic| o_head $H)=>`(tactic| (rename_i hh;exact hh $H ⟨_,rfl⟩))
noncomputable def ka:KA:=pickK (r:=rr) (fun _=>by k_head)
theorem Tt (P:Params):KA.as ka=(ka.heap_1 P).map (·.1):=by kernel_rfl
noncomputable def runC:World->OsState->Option SharedT:=fun w os=>One.Wo PySem.Challenge.pw_holdlane_k43_turns_of_a_net 14060 w os
noncomputable def GF:=fun(w:World) (os:OsState)=>One.Qi PySem.Challenge.pw_holdlane_k43_turns_of_a_net q loose Xt 14060 w os
noncomputable def MK:=some (true,openGood q loose)
theorem VJ:runC=runC:=rfl
name_quick runQ for HD.runC by HD.VJ
theorem QM:GF=GF:=rfl
name_quick looksQ for HD.GF by HD.QM
theorem Ug:MK=MK:=rfl
name_quick goodQ for HD.MK by HD.Ug
theorem A0 (w:World) (os:OsState):PySem.W.Fast.looksQ (w.withFollow "special-get-raises" false) os=PySem.W.Fast.goodQ:=by kernel_rfl
theorem Zi (w:World) (os:OsState):(PySem.W.Fast.runQ (w.withFollow "special-get-raises" false) os).map (fun s=>(KA.as ka).map (One.yo s))=some ((ka.heap_1 (w.withFollow "special-get-raises" false).params).map fun p=>some p.2):=by kernel_rfl
theorem B0 (w:World) (os:OsState):(PySem.W.Fast.runQ (w.withFollow "special-get-raises" false) os).map (fun s=>(KA.as ka).map (One.yo s))=some ((ka.heap_1 (w.withFollow "special-get-raises" false).params).map fun p=>some p.2):=Zi w os
theorem A1 (w:World) (os:OsState):PySem.W.Fast.looksQ (w.withFollow "special-get-raises" true) os=PySem.W.Fast.goodQ:=by kernel_rfl
theorem YX (w:World) (os:OsState):(PySem.W.Fast.runQ (w.withFollow "special-get-raises" true) os).map (fun s=>(KA.as ka).map (One.yo s))=some ((ka.heap_1 (w.withFollow "special-get-raises" true).params).map fun p=>some p.2):=by kernel_rfl
theorem B1 (w:World) (os:OsState):(PySem.W.Fast.runQ (w.withFollow "special-get-raises" true) os).map (fun s=>(KA.as ka).map (One.yo s))=some ((ka.heap_1 (w.withFollow "special-get-raises" true).params).map fun p=>some p.2):=YX w os
theorem A (w:World):∀os,GF w os=MK:=by
 rw [PySem.W.Fast.looksQ_eq,PySem.W.Fast.goodQ_eq]
 exact byRow2 "special-get-raises" (P:=fun w=>∀os,PySem.W.Fast.looksQ w os=PySem.W.Fast.goodQ) A0 A1 w
theorem B (w:World):∀os,(runC w os).map (fun s=>(KA.as ka).map (One.yo s))=some ((ka.heap_1 w.params).map fun p=>some p.2):=by
 rw [PySem.W.Fast.runQ_eq]
 exact byRow2 "special-get-raises" (P:=fun w=>∀os,(PySem.W.Fast.runQ w os).map (fun s=>(KA.as ka).map (One.yo s))=some ((ka.heap_1 w.params).map fun p=>some p.2)) B0 B1 w
theorem head {d:DefRec} {kwd:List (PySem.Str×Expr)}
  (hdef:defOf q rr.name=some (d,kwd)) (hp:rr.prog.theDef rr.name=some (d.params,d.body,d.scope)) (hk:kwWritten? d.params.kwonlyargs d.params.kw_defaults=some kwd) (hwr:(!rr.writes || rr.records.isEmpty)=true)
  (k1:rr.wellSaid=true) (ok:(chainsOk q && opensWell rr.prog && (frees rr.toRowW && rr.within.isEmpty))=true) (hb:rr.prog.bare) (ho:opening PySem.Challenge.pw_holdlane_k43_turns_of_a_net=plainProg (PySem.Challenge.pw_holdlane_k43_turns_of_a_net).main.scope.names) (f:∀s,fenceModules? PySem.Challenge.pw_holdlane_k43_turns_of_a_net s=some s)
  (hw:rr.toRowW.promised) (hc:WalkO q loose (XL q []) (Hook.says (kHook ka.heap_1 (KA.as ka) Tt)) rr.toRowW d kwd fun f vs=>PySem.call f vs):rr.Holds:=by
 have left:LeftO PySem.Challenge.pw_holdlane_k43_turns_of_a_net q loose Xt (Hook.obs (kHook ka.heap_1 (KA.as ka) Tt)) (Hook.val (kHook ka.heap_1 (KA.as ka) Tt)) 28700:=One.Th (M:=14060) ho rfl f rfl A fun w os=>One.Uk (B w os)
 exact holds_open (XP:=XL q []) (YP:=Hook.says (kHook ka.heap_1 (KA.as ka) Tt)) left (Hook.of _) (Hook.keeps _) (fun s z=>xl_of s (Bool.and_eq_true_iff.mp z).1) XL.keeps hdef hp hk (fun s z=>recFacts_of (Bool.and_eq_true_iff.mp z).2) hwr k1 ok hb hw hc
end HD
namespace K43
open PySem L2
theorem lM {α β:Type} {f:α->β} {l:List α}:(l.map f).length=l.length:=List.length_map ..
theorem lP {α:Type} {l m:List α}:(l ++ m).length=l.length+m.length:=List.length_append ..
theorem iW {n:Nat} (h:Nat.ble n 16777216=true:=by rfl):n<=sizeLine:=by rw [sizeLine_eq];exact Nat.le_of_ble_eq_true h
noncomputable def top (i:Nat):Stmt:=PySem.Challenge.pw_holdlane_k43_turns_of_a_net.main.body.getD i (.Pass ⟨0,0,0,0⟩)
set_option genInjectivity false in
structure jH where
 (Ea Dr cg uF um uz ul uG vf xV uU tG rn su Gh CZ Gu Az Px cP nZ cW dz tE qX qM qQ qP sr qZ pI nY oZ rm rB CJ Ak yj Ax Ar Bo z6 Cm Bj z9 wW Cq Gi wB yr Bm yF Ab Ao wY wU lB lD jg ug uI iJ qG o8 qJ pq sG nj vy lr sU ph uN zK nW mZ nH pJ uQ pN xF lg xM Jj An pF wV rD za zq yR Aj Aw Ad wZ Vd KH Lk Lq Kz Ko Li QQ Lr GX Di Hq dO cB pO yc:Addr)
noncomputable abbrev ROWS:List (Str×List Int):=[("give",[0,0,1]),("take",[0,1,0]),("pass",[0,1,1]),("copy",[0,1,2]),("turn",[2,1,1]),("heap",[1,1,1]),("add",[0,2,1]),("less",[0,2,1]),("order",[0,2,2]),("choose",[0,3,1]),("split",[0,2,2])]
structure Txt (w:World) (K:PySem.W.Frag) (mg:Str->Option Value) (t:jH):Prop where
 iI:Jf K mg "Give" t.KH [("__init__",t.cg),("kind",t.uF),("taking",t.cP),("lacks",t.cW),("worked",t.rm),("start",t.dz)] ["name", "numbers", "ins", "outs"]
 iH:Jf K mg "Take" t.Lk [("__init__",t.cg),("kind",t.um),("taking",t.cP),("lacks",t.cW),("worked",t.rB),("start",t.dz)] ["name", "numbers", "ins", "outs"]
 iT:Jf K mg "Pass" t.Lq [("__init__",t.cg),("kind",t.uz),("taking",t.cP),("lacks",t.cW),("worked",t.qX),("start",t.dz)] ["name", "numbers", "ins", "outs"]
 iR:Jf K mg "Copy" t.Kz [("__init__",t.cg),("kind",t.ul),("taking",t.cP),("lacks",t.cW),("worked",t.qM),("start",t.dz)] ["name", "numbers", "ins", "outs"]
 iC:Jf K mg "Turn" t.Ko [("__init__",t.cg),("kind",t.uG),("taking",t.cP),("lacks",t.cW),("worked",t.qQ),("start",t.dz)] ["name", "numbers", "ins", "outs"]
 iG:Jf K mg "Heap" t.Li [("__init__",t.cg),("kind",t.vf),("taking",t.cP),("lacks",t.cW),("worked",t.qP),("start",t.tE)] ["name", "numbers", "ins", "outs"]
 mV:Jf K mg "Add" t.QQ [("__init__",t.cg),("kind",t.xV),("taking",t.cP),("lacks",t.cW),("worked",t.sr),("start",t.dz)] ["name", "numbers", "ins", "outs"]
 iK:Jf K mg "Less" t.Lr [("__init__",t.cg),("kind",t.uU),("taking",t.cP),("lacks",t.cW),("worked",t.qZ),("start",t.dz)] ["name", "numbers", "ins", "outs"]
 fO:Jf K mg "Order" t.GX [("__init__",t.cg),("kind",t.tG),("taking",t.cP),("lacks",t.cW),("worked",t.pI),("start",t.dz)] ["name", "numbers", "ins", "outs"]
 eE:Jf K mg "Choose" t.Di [("__init__",t.cg),("kind",t.rn),("taking",t.nZ),("lacks",t.cW),("worked",t.nY),("start",t.dz)] ["name", "numbers", "ins", "outs"]
 fP:Jf K mg "Split" t.Hq [("__init__",t.cg),("kind",t.su),("taking",t.cP),("lacks",t.cW),("worked",t.oZ),("start",t.dz)] ["name", "numbers", "ins", "outs"]
 bz:Jf K mg "Net" t.dO [("__init__",t.pq),("lane_names",t.lB),("part_names",t.lD),("names_of_kind",t.jg),("gives",t.ug),("takes",t.uI),("need_lane_name",t.iJ),("room_of",t.qG),("first_of",t.o8),("part_of",t.qJ)] ["rooms", "firsts", "parts", "givers", "takers"]
 aX:Jf K mg "Flow" t.cB [("__init__",t.nW),("holds",t.sG),("held_now",t.nj),("head",t.vy),("row_ended",t.lr),("heads",t.sU),("lacking",t.ph),("deed",t.uN),("do",t.zK)] ["net", "ever", "gone", "kept", "done", "rows"]
 cC:Jf K mg "Run" t.pO [("__init__",t.pF),("full_lane",t.mZ),("next_deed",t.nH),("need_doors",t.lg),("step",t.xM),("can_work",t.pJ),("works",t.uQ),("lane_now",t.pN),("turn",t.xF)] ["net", "flow", "turns"]
 tH:oE K mg "is_whole" (top 21) t.Ea ["thing"]
 pU:oE K mg "is_value" (top 22) t.Dr ["thing"]
 bj:dZ K "__init__" "Part.__init__" (inClass (top 27) 0) t.cg ["self", "name", "numbers", "ins", "outs"]
 qz:dZ K "kind" "Give.kind" (inClass (top 28) 0) t.uF ["self"]
 ql:dZ K "kind" "Take.kind" (inClass (top 29) 0) t.um ["self"]
 qg:dZ K "kind" "Pass.kind" (inClass (top 30) 0) t.uz ["self"]
 pY:dZ K "kind" "Copy.kind" (inClass (top 31) 0) t.ul ["self"]
 qC:dZ K "kind" "Turn.kind" (inClass (top 32) 0) t.uG ["self"]
 qw:dZ K "kind" "Heap.kind" (inClass (top 33) 0) t.vf ["self"]
 tR:dZ K "kind" "Add.kind" (inClass (top 34) 0) t.xV ["self"]
 qD:dZ K "kind" "Less.kind" (inClass (top 35) 0) t.uU ["self"]
 oM:dZ K "kind" "Order.kind" (inClass (top 36) 0) t.tG ["self"]
 lV:dZ K "kind" "Choose.kind" (inClass (top 37) 0) t.rn ["self"]
 oH:dZ K "kind" "Split.kind" (inClass (top 38) 0) t.su ["self"]
 vY:oE K mg "is_kind" (top 39) t.Gh ["word"]
 xN:oE K mg "need_fit" (top 40) t.CZ ["kind", "name", "numbers", "ins", "outs"]
 Fq:oE K mg "made_of" (top 41) t.Gu ["kind", "name", "numbers", "ins", "outs"]
 Ay:oE K mg "part_made" (top 42) t.Az ["kind", "name", "numbers", "ins", "outs"]
 Du:oE K mg "rest" (top 24) t.Px ["number"]
 bJ:dZ K "taking" "Part.taking" (inClass (top 27) 4) t.cP ["self", "heads"]
 jz:dZ K "taking" "Choose.taking" (inClass (top 37) 1) t.nZ ["self", "heads"]
 bK:dZ K "lacks" "Part.lacks" (inClass (top 27) 3) t.cW ["self", "heads"]
 bQ:dZ K "start" "Part.start" (inClass (top 27) 2) t.dz ["self"]
 oR:dZ K "start" "Heap.start" (inClass (top 33) 1) t.tE ["self"]
 lX:dZ K "worked" "Pass.worked" (inClass (top 30) 1) t.qX ["self", "values", "kept"]
 my:dZ K "worked" "Copy.worked" (inClass (top 31) 1) t.qM ["self", "values", "kept"]
 mz:dZ K "worked" "Turn.worked" (inClass (top 32) 1) t.qQ ["self", "values", "kept"]
 lN:dZ K "worked" "Heap.worked" (inClass (top 33) 2) t.qP ["self", "values", "kept"]
 oN:dZ K "worked" "Add.worked" (inClass (top 34) 1) t.sr ["self", "values", "kept"]
 mj:dZ K "worked" "Less.worked" (inClass (top 35) 1) t.qZ ["self", "values", "kept"]
 j8:dZ K "worked" "Order.worked" (inClass (top 36) 1) t.pI ["self", "values", "kept"]
 jy:dZ K "worked" "Choose.worked" (inClass (top 37) 2) t.nY ["self", "values", "kept"]
 jL:dZ K "worked" "Split.worked" (inClass (top 38) 1) t.oZ ["self", "values", "kept"]
 lY:dZ K "worked" "Give.worked" (inClass (top 28) 1) t.rm ["self", "values", "kept"]
 lL:dZ K "worked" "Take.worked" (inClass (top 29) 1) t.rB ["self", "values", "kept"]
 bF:oE K mg "_law_mix" (top 64) t.CJ ["_law_cell_here", "_law_k"]
 gq:oE K mg "_law_cell" (top 63) t.Ak ["_law_script", "_law_k"]
 gB:oE K mg "_law_value" (top 65) t.yj ["_law_cell_here", "_law_k"]
 jG:oE K mg "_law_word" (top 66) t.Ax ["_law_cell_here", "_law_k"]
 iD:oE K mg "_law_lane" (top 67) t.Ar ["_law_state", "_law_cell_here", "_law_back"]
 mC:oE K mg "_law_pick" (top 69) t.Bo ["_law_state", "_law_number"]
 cJ:oE K mg "_law_part" (top 68) t.z6 ["_law_state", "_law_cell_here", "_law_kind", "_law_numbers", "_law_ins", "_law_many"]
 xH:oE K mg "_law_two" (top 70) t.Cm ["_law_state", "_law_cell_here", "_law_one", "_law_odd"]
 vB:oE K mg "_law_loop" (top 71) t.Bj ["_law_state", "_law_cell_here", "_law_one"]
 vA:oE K mg "_law_step" (top 72) t.z9 ["_law_state", "_law_cell_here", "_law_odd"]
 qW:oE K mg "_law_closed" (top 73) t.wW ["_law_state", "_law_cell_here", "_law_back"]
 xY:oE K mg "_law_net" (top 74) t.Cq ["_law_script", "_law_start", "_law_steps", "_law_odd"]
 zH:oE K mg "is_name" (top 23) t.Gi ["thing"]
 qY:oE K mg "need_counts" (top 47) t.wB ["lanes", "parts"]
 oG:oE K mg "need_fresh" (top 48) t.yr ["name", "known"]
 uf:oE K mg "need_lane" (top 49) t.Bm ["name", "room", "first"]
 sy:oE K mg "fresh_part" (top 50) t.yF ["row", "known"]
 qe:oE K mg "tie_lanes" (top 51) t.Ab ["part", "lanes", "rooms", "ends"]
 uD:oE K mg "need_ends" (top 52) t.Ao ["rooms", "givers", "takers"]
 qI:oE K mg "joined_with" (top 53) t.wY ["part", "givers", "takers"]
 qH:oE K mg "need_joined" (top 54) t.wU ["names", "givers", "takers"]
 iV:dZ K "lane_names" "Net.lane_names" (inClass (top 55) 1) t.lB ["self"]
 f9:dZ K "part_names" "Net.part_names" (inClass (top 55) 2) t.lD ["self"]
 fW:dZ K "names_of_kind" "Net.names_of_kind" (inClass (top 55) 5) t.jg ["self", "kind"]
 mQ:dZ K "gives" "Net.gives" (inClass (top 55) 3) t.ug ["self"]
 uO:dZ K "takes" "Net.takes" (inClass (top 55) 4) t.uI ["self"]
 d9:dZ K "need_lane_name" "Net.need_lane_name" (inClass (top 55) 12) t.iJ ["self", "name"]
 qT:dZ K "room_of" "Net.room_of" (inClass (top 55) 7) t.qG ["self", "name"]
 pP:dZ K "first_of" "Net.first_of" (inClass (top 55) 8) t.o8 ["self", "name"]
 gY:dZ K "part_of" "Net.part_of" (inClass (top 55) 11) t.qJ ["self", "name"]
 jV:dZ K "__init__" "Net.__init__" (inClass (top 55) 0) t.pq ["self", "lanes", "parts"]
 oU:dZ K "holds" "Flow.holds" (inClass (top 15) 1) t.sG ["self", "lane"]
 nQ:dZ K "held_now" "Flow.held_now" (inClass (top 15) 2) t.nj ["self", "lane"]
 uo:dZ K "head" "Flow.head" (inClass (top 15) 5) t.vy ["self", "lane"]
 lK:dZ K "row_ended" "Flow.row_ended" (inClass (top 15) 8) t.lr ["self", "name"]
 oK:dZ K "heads" "Flow.heads" (inClass (top 15) 6) t.sU ["self", "part"]
 pG:dZ K "lacking" "Flow.lacking" (inClass (top 15) 7) t.ph ["self", "name"]
 uC:dZ K "deed" "Flow.deed" (inClass (top 15) 9) t.uN ["self", "name"]
 zQ:dZ K "do" "Flow.do" (inClass (top 15) 10) t.zK ["self", "name", "deed"]
 ju:dZ K "__init__" "Flow.__init__" (inClass (top 15) 0) t.nW ["self", "net", "rows"]
 ou:dZ K "full_lane" "Run.full_lane" (inClass (top 61) 4) t.mZ ["self", "deed"]
 jw:dZ K "next_deed" "Run.next_deed" (inClass (top 61) 3) t.nH ["self", "name"]
 pM:dZ K "can_work" "Run.can_work" (inClass (top 61) 5) t.pJ ["self", "name"]
 uW:dZ K "works" "Run.works" (inClass (top 61) 6) t.uQ ["self", "name"]
 pK:dZ K "lane_now" "Run.lane_now" (inClass (top 61) 8) t.pN ["self", "name"]
 xQ:dZ K "turn" "Run.turn" (inClass (top 61) 10) t.xF ["self"]
 lE:dZ K "need_doors" "Run.need_doors" (inClass (top 61) 2) t.lg ["self", "names"]
 xX:WD K "step" "Run.step" (inClass (top 61) 1) t.xM ["self", "held"]
 El:oE K mg "is_row" (top 58) t.Jj ["thing"]
 uv:oE K mg "need_rows" (top 59) t.An ["net", "rows"]
 jW:dZ K "__init__" "Run.__init__" (inClass (top 61) 0) t.pF ["self", "net", "rows"]
 qR:oE K mg "_law_places" (top 75) t.wV ["_law_kind", "_law_heads"]
 kZ:oE K mg "_law_two_given" (top 76) t.rD ["_law_kind", "_law_values"]
 yw:oE K mg "_law_given" (top 77) t.za ["_law_kind", "_law_numbers", "_law_values", "_law_kept"]
 sO:oE K mg "_law_doors" (top 78) t.zq ["_law_script", "_law_parts", "_law_many"]
 rZ:oE K mg "_law_model" (top 79) t.yR ["_law_lanes", "_law_parts", "_law_rows"]
 p7:oE K mg "_law_deed" (top 80) t.Aj ["_law_model_here", "_law_one"]
 uy:oE K mg "_law_turn" (top 81) t.Aw ["_law_model_here", "_law_parts", "_law_held_here"]
 Av:oE K mg "_law_held" (top 82) t.Ad ["_law_script", "_law_doors_here", "_law_cell_here", "_law_seldom"]
 qF:oE K mg "_law_stands" (top 83) t.wZ ["_law_run", "_law_model_here"]
 Mu:oE K mg "law" (top 84) t.Vd ["_law_script"]
 FT:mg "COUNTS" =some (.ref t.yc)
 JZ:KTab w K t.yc ROWS
 MN:mg "all" =none
 VF:mg "bool" =none
 uq:mg "enumerate" =none
 Vi:mg "int" =none
 j6:mg "isinstance" =none
 fK:mg "len" =none
 mY:mg "list" =none
 Nu:mg "max" =none
 Ve:mg "min" =none
 lU:mg "range" =none
 Uy:mg "str" =none
 BL:mg "tuple" =none
 J5:∃u,mg "VALUES" =some u/\RelV (.int 1000000000) u
 Gb:∃u,mg "LETTERS" =some u/\RelV (.str "abcdefghijklmnopqrstuvwxyz") u
 Dv:∃u,mg "LONGEST_NAME" =some u/\RelV (.int 8) u
 Om:∃u,mg "FIGURES" =some u/\RelV (.str "0123456789") u
 HJ:∃u,mg "MOST_LANES" =some u/\RelV (.int 24) u
 Ie:∃u,mg "MOST_PARTS" =some u/\RelV (.int 16) u
 J2:∃u,mg "MOST_ROOM" =some u/\RelV (.int 199) u
 Ez:∃u,mg "LONGEST_ROW" =some u/\RelV (.int 300) u
section
variable {P:Program} {w:World} {K:PySem.W.Frag} {mg:Str->Option Value} {base:Heap} {t:jH}
noncomputable def cL (i:Nat):Str:=match i with
 | 0=> "give"
 | 1=> "take"
 | 2=> "pass"
 | 3=> "copy"
 | 4=> "turn"
 | 5=> "heap"
 | 6=> "add"
 | 7=> "less"
 | 8=> "order"
 | 9=> "choose"
 | _=> "split"
noncomputable def cN (i:Nat):Nat:=match i with
 | 0=>0
 | 1=>0
 | 2=>0
 | 3=>0
 | 4=>2
 | 5=>1
 | 6=>0
 | 7=>0
 | 8=>0
 | 9=>0
 | _=>0
noncomputable def cI (i:Nat):Nat:=match i with
 | 0=>0
 | 1=>1
 | 2=>1
 | 3=>1
 | 4=>1
 | 5=>1
 | 6=>2
 | 7=>2
 | 8=>2
 | 9=>3
 | _=>2
noncomputable def cO (i:Nat):Nat:=match i with
 | 0=>1
 | 1=>0
 | 2=>1
 | 3=>2
 | 4=>1
 | 5=>1
 | 6=>1
 | 7=>1
 | 8=>2
 | 9=>1
 | _=>2
noncomputable def cls (t:jH) (i:Nat):Addr:=match i with
 | 0=>t.KH
 | 1=>t.Lk
 | 2=>t.Lq
 | 3=>t.Kz
 | 4=>t.Ko
 | 5=>t.Li
 | 6=>t.QQ
 | 7=>t.Lr
 | 8=>t.GX
 | 9=>t.Di
 | _=>t.Hq
theorem row_of (i:Nat):rowOf ROWS (cL i)=some [((cN i:Nat):Int),((cI i:Nat):Int),((cO i:Nat):Int)]:=match i with
 | 0=>by show rowOf ROWS "give" =some [0,0,1];decide +kernel
 | 1=>by show rowOf ROWS "take" =some [0,1,0];decide +kernel
 | 2=>by show rowOf ROWS "pass" =some [0,1,1];decide +kernel
 | 3=>by show rowOf ROWS "copy" =some [0,1,2];decide +kernel
 | 4=>by show rowOf ROWS "turn" =some [2,1,1];decide +kernel
 | 5=>by show rowOf ROWS "heap" =some [1,1,1];decide +kernel
 | 6=>by show rowOf ROWS "add" =some [0,2,1];decide +kernel
 | 7=>by show rowOf ROWS "less" =some [0,2,1];decide +kernel
 | 8=>by show rowOf ROWS "order" =some [0,2,2];decide +kernel
 | 9=>by show rowOf ROWS "choose" =some [0,3,1];decide +kernel
 | n+10=>by show rowOf ROWS "split" =some [0,2,2];decide +kernel
theorem iQ (T:Txt w K mg t) (i:Nat):NT K (cls t i):=match i with
 | 0=>T.iI.c
 | 1=>T.iH.c
 | 2=>T.iT.c
 | 3=>T.iR.c
 | 4=>T.iC.c
 | 5=>T.iG.c
 | 6=>T.mV.c
 | 7=>T.iK.c
 | 8=>T.fO.c
 | 9=>T.eE.c
 | n+10=>T.fP.c
theorem BV (T:Txt w K mg t) (i:Nat):pR K (cls t i) "name" :=match i with
 | 0=>T.iI.na.1
 | 1=>T.iH.na.1
 | 2=>T.iT.na.1
 | 3=>T.iR.na.1
 | 4=>T.iC.na.1
 | 5=>T.iG.na.1
 | 6=>T.mV.na.1
 | 7=>T.iK.na.1
 | 8=>T.fO.na.1
 | 9=>T.eE.na.1
 | n+10=>T.fP.na.1
theorem sS (T:Txt w K mg t) (i:Nat):pR K (cls t i) "numbers" :=match i with
 | 0=>T.iI.na.2.1
 | 1=>T.iH.na.2.1
 | 2=>T.iT.na.2.1
 | 3=>T.iR.na.2.1
 | 4=>T.iC.na.2.1
 | 5=>T.iG.na.2.1
 | 6=>T.mV.na.2.1
 | 7=>T.iK.na.2.1
 | 8=>T.fO.na.2.1
 | 9=>T.eE.na.2.1
 | n+10=>T.fP.na.2.1
theorem zL (T:Txt w K mg t) (i:Nat):pR K (cls t i) "ins" :=match i with
 | 0=>T.iI.na.2.2.1
 | 1=>T.iH.na.2.2.1
 | 2=>T.iT.na.2.2.1
 | 3=>T.iR.na.2.2.1
 | 4=>T.iC.na.2.2.1
 | 5=>T.iG.na.2.2.1
 | 6=>T.mV.na.2.2.1
 | 7=>T.iK.na.2.2.1
 | 8=>T.fO.na.2.2.1
 | 9=>T.eE.na.2.2.1
 | n+10=>T.fP.na.2.2.1
theorem Ir (T:Txt w K mg t) (i:Nat):pR K (cls t i) "outs" :=match i with
 | 0=>T.iI.na.2.2.2.1
 | 1=>T.iH.na.2.2.2.1
 | 2=>T.iT.na.2.2.2.1
 | 3=>T.iR.na.2.2.2.1
 | 4=>T.iC.na.2.2.2.1
 | 5=>T.iG.na.2.2.2.1
 | 6=>T.mV.na.2.2.2.1
 | 7=>T.iK.na.2.2.2.1
 | 8=>T.fO.na.2.2.2.1
 | 9=>T.eE.na.2.2.2.1
 | n+10=>T.fP.na.2.2.2.1
theorem Ur (i:Nat):cN i<=2:=match i with
 | 0=>by show 0<=2;decide
 | 1=>by show 0<=2;decide
 | 2=>by show 0<=2;decide
 | 3=>by show 0<=2;decide
 | 4=>by show 2<=2;decide
 | 5=>by show 1<=2;decide
 | 6=>by show 0<=2;decide
 | 7=>by show 0<=2;decide
 | 8=>by show 0<=2;decide
 | 9=>by show 0<=2;decide
 | n+10=>by show 0<=2;decide
theorem Aq (i:Nat):cI i<=3:=match i with
 | 0=>by show 0<=3;decide
 | 1=>by show 1<=3;decide
 | 2=>by show 1<=3;decide
 | 3=>by show 1<=3;decide
 | 4=>by show 1<=3;decide
 | 5=>by show 1<=3;decide
 | 6=>by show 2<=3;decide
 | 7=>by show 2<=3;decide
 | 8=>by show 2<=3;decide
 | 9=>by show 3<=3;decide
 | n+10=>by show 2<=3;decide
theorem Rp (i:Nat):cO i<=2:=match i with
 | 0=>by show 1<=2;decide
 | 1=>by show 0<=2;decide
 | 2=>by show 1<=2;decide
 | 3=>by show 2<=2;decide
 | 4=>by show 1<=2;decide
 | 5=>by show 1<=2;decide
 | 6=>by show 1<=2;decide
 | 7=>by show 1<=2;decide
 | 8=>by show 2<=2;decide
 | 9=>by show 1<=2;decide
 | n+10=>by show 2<=2;decide
theorem gK {f:Str} {y:V} {fs:List (Str×V)} {n:Nat} (h:fs.length<=n):(aJ f y fs).length<=n+1:=Nat.le_trans (ux f y fs) (Nat.succ_le_succ h)
noncomputable def Eb (nm:V) (tn ti to:Addr):List (Str×V):=aJ "outs" (.ref to) (aJ "ins" (.ref ti) (aJ "numbers" (.ref tn) (aJ "name" nm [])))
theorem zX (nm:V) (tn ti to:Addr):(Eb nm tn ti to).lookup ("name" :Str)=some nm:=by
 unfold Eb
 rw [aC,if_neg (by decide +kernel),aC,if_neg (by decide +kernel),aC,if_neg (by decide +kernel),aC,if_pos rfl]
theorem sI (nm:V) (tn ti to:Addr):(Eb nm tn ti to).lookup ("numbers" :Str)=some (.ref tn):=by
 unfold Eb
 rw [aC,if_neg (by decide +kernel),aC,if_neg (by decide +kernel),aC,if_pos rfl]
theorem vh (nm:V) (tn ti to:Addr):(Eb nm tn ti to).lookup ("ins" :Str)=some (.ref ti):=by
 unfold Eb
 rw [aC,if_neg (by decide +kernel),aC,if_pos rfl]
theorem Fp (nm:V) (tn ti to:Addr):(Eb nm tn ti to).lookup ("outs" :Str)=some (.ref to):=by
 unfold Eb
 rw [aC,if_pos rfl]
theorem vZ (nm:V) (tn ti to:Addr) {m:Str} (h1:¬m= "outs") (h2:¬m= "ins") (h3:¬m= "numbers") (h4:¬m= "name"):(Eb nm tn ti to).lookup m=none:=by
 unfold Eb
 rw [aC,if_neg h1,aC,if_neg h2,aC,if_neg h3,aC,if_neg h4]
 all_goals rfl
structure fJ (K:PySem.W.Frag) (t:jH) (H:Hp) (p:Addr) (i:Nat) (nm:V) (ns is os:List V):Prop where
 ex:∃dx tn ti to,H p=some (.ins (cls t i) dx (Eb nm tn ti to))/\eN K H tn ns/\eN K H ti is/\eN K H to os
theorem fJ.same {H H':Hp} {p:Addr} {i:Nat} {nm:V} {ns is os:List V} (h:fJ K t H p i nm ns is os) (s:aK H H'):fJ K t H' p i nm ns is os:=by
 obtain⟨dx,tn,ti,to,h1,h2,h3,h4⟩:=h
 exact⟨dx,tn,ti,to,s _ _ h1,s.seqT h2,s.seqT h3,s.seqT h4⟩
noncomputable def jc (i:Nat):Sp:=fun vs H Q _=>∃x,vs=[x]/\Q (.str (cL i)) H
noncomputable def nV (j:Nat):V:=.int (j:Nat)
inductive Val (v:V):Prop where
 | mk:∀n:Int,v=.int n->0<=n->n <1000000000->Val v
inductive Flat:PyData->Prop
 | non:Flat .none
 | int (i:Int):Flat (.int i)
noncomputable def places (i:Nat) (hs:List V):List Nat:=if i=9 then(match hs with | .int n:: _=>[0,1+(n % 2).toNat] | _=>[0]) else List.range hs.length
noncomputable def tK (i:Nat) (hs:List V):Prop:=hs.length=cI i/\∀h∈hs,h=.non∨∃n:Int,h=.int n
noncomputable def kJ (hs:List V) (q:Nat):Bool:=decide (hs[q]?=some V.non)
noncomputable def Mq (i:Nat) (hs:List V):V:=match (places i hs).find? (kJ hs) with
 | some q=>nV q
 | none=>.non
theorem gZ {i:Nat} {hs:List V} (h:tK i hs):∀q∈places i hs,q <hs.length:=by
 intro q hq
 unfold places at hq
 by_cases hi:i=9
 ·rw [if_pos hi] at hq
  have hl:hs.length=3:=by rw [h.1,hi];rfl
  rw [hl]
  split at hq
  ·rename_i n r
   have h0:=Int.emod_nonneg n (show(2:Int)≠0 by decide)
   have h1:=Int.emod_lt_of_pos n (show(0:Int) <2 by decide)
   simp at hq
   omega
  ·simp at hq
   omega
 ·rw [if_neg hi] at hq
  simpa using hq
theorem Mm {f:Nat->Bool}:∀{l:List Nat} {j q:Nat},l[j]?=some q->(∀x∈l.take j,f x=false)->f q=true->l.find? f=some q
 | [],_,_,e,_,_=>by simp at e
 | x:: r,0,q,e,_,hq=>by
  simp at e
  subst e
  rw [List.find?_cons,hq]
 | x:: r,j+1,q,e,h,hq=>by
  have hx:f x=false:=h x (by simp)
  rw [List.find?_cons,hx]
  exact Mm (l:=r) (j:=j) (by simpa using e) (fun y hy=>h y (by simp [hy])) hq
theorem Su {f:Nat->Bool} {l:List Nat} (h:∀x∈l,f x=false):l.find? f=none:=by
 rw [List.find?_eq_none]
 intro x hx
 rw [h x hx]
 decide
inductive oX (K:PySem.W.Frag) (t:jH) (i:Nat) (vs:List V) (H:Hp) (Q:VK) (E:XK):Prop where
 | mk:∀(p a:Addr) (nm:V) (ns is os hs:List V),vs=[.ref p,.ref a]->fJ K t H p i nm ns is os->is.length=cI i->bL K H a hs->tK i hs->(∀H' L,aK H H'->H L=none->H' L=some (.lst ((places i hs).map nV))->Q (.ref L) H')->oX K t i vs H Q E
inductive yt (K:PySem.W.Frag) (t:jH) (i:Nat) (vs:List V) (H:Hp) (Q:VK) (E:XK):Prop where
 | mk:∀(p a:Addr) (nm:V) (ns is os hs:List V),vs=[.ref p,.ref a]->fJ K t H p i nm ns is os->is.length=cI i->bL K H a hs->tK i hs->(∀H',aK H H'->Q (Mq i hs) H')->yt K t i vs H Q E
noncomputable def g0 (l:List Int):Int:=l.getD 0 0
noncomputable def g1 (l:List Int):Int:=l.getD 1 0
noncomputable def cV (i:Nat):Nat:=match i with
 | 0=>1
 | 1=>1
 | 2=>1
 | 3=>1
 | 4=>1
 | 5=>1
 | 6=>2
 | 7=>2
 | 8=>2
 | 9=>2
 | _=>2
noncomputable def cH (i:Nat) (ns ws:List Int) (kp:Int):List (Int×Int):=match i with
 | 0=>[(0,g0 ws)]
 | 1=>[]
 | 2=>[(0,g0 ws)]
 | 3=>[(0,g0 ws),(1,g0 ws)]
 | 4=>[(0,(g0 ns * g0 ws+g1 ns) % 1000000000)]
 | 5=>[(0,(kp+g0 ws) % 1000000000)]
 | 6=>[(0,(g0 ws+g1 ws) % 1000000000)]
 | 7=>[(0,if g0 ws <g1 ws then 1 else 0)]
 | 8=>[(0,if g1 ws <g0 ws then g1 ws else g0 ws),(1,if g1 ws <g0 ws then g0 ws else g1 ws)]
 | 9=>[(0,g1 ws)]
 | _=>[(g0 ws % 2,g1 ws)]
noncomputable def dR (i:Nat) (ws:List Int) (kp:Int):Int:=if i=5 then(kp+g0 ws) % 1000000000 else kp
noncomputable def BW (ps:List (Int×Int)):List (List V):=ps.map fun p=>[.int p.1,.int p.2]
noncomputable def Wg (ws:List Int):Prop:=∀w∈ws,0<=w/\w <1000000000
inductive eU (K:PySem.W.Frag) (t:jH) (i:Nat) (vs:List V) (H:Hp) (Q:VK) (E:XK):Prop where
 | mk:∀(p a:Addr) (nm:V) (ns:List Int) (is os:List V) (ws:List Int) (kp:Int),vs=[.ref p,.ref a,.int kp]->fJ K t H p i nm (ns.map V.int) is os->ns.length=cN i->bL K H a (ws.map V.int)->ws.length=cV i->Wg ws->(∀H' U L rs,aK H H'->H L=none->H' U=some (.tup [.ref L,.int (dR i ws kp)])->H' L=some (.lst (rs.map V.ref))->fH H' rs (BW (cH i ns ws kp))->Q (.ref U) H')->eU K t i vs H Q E
theorem rJ {H:Hp} {Q:VK} {a b x y:Int} (hx:x=a) (hy:y=b) (k:∀H' L rs,aK H H'->H L=none->H' L=some (.lst (rs.map V.ref))->fH H' rs (BW [(a,b)])->Q (.ref L) H') {t0 L:Addr} (n0:H t0=none)
  (nL:(upd H t0 (.tup [.int x,.int y])) L=none):Q (.ref L) (upd (upd H t0 (.tup [.int x,.int y])) L (.lst [.ref t0])):=by
 subst hx hy
 have s0:=aB (o:=.tup [.int x,.int y]) n0
 have s1:=aB (o:=.lst [.ref t0]) nL
 exact k _ L [t0] (s0.trans s1) (s0.free nL) au (.cons (s1 _ _ au) .nil)
theorem PN {H:Hp} {Q:VK} {a b c d x y u v:Int} (hx:x=a) (hy:y=b) (hu:u=c) (hv:v=d) (k:∀H' L rs,aK H H'->H L=none->H' L=some (.lst (rs.map V.ref))->fH H' rs (BW [(a,b),(c,d)])->Q (.ref L) H') {t0 t1 L:Addr} (n0:H t0=none)
  (n1:(upd H t0 (.tup [.int x,.int y])) t1=none) (nL:(upd (upd H t0 (.tup [.int x,.int y])) t1 (.tup [.int u,.int v])) L=none):Q (.ref L) (upd (upd (upd H t0 (.tup [.int x,.int y])) t1 (.tup [.int u,.int v])) L (.lst [.ref t0,.ref t1])):=by
 subst hx hy hu hv
 have s0:=aB (o:=.tup [.int x,.int y]) n0
 have s1:=aB (o:=.tup [.int u,.int v]) n1
 have s2:=aB (o:=.lst [.ref t0,.ref t1]) nL
 exact k _ L [t0,t1] (s0.trans (s1.trans s2)) (s0.free (s1.free nL)) au (.cons (s2 _ _ (s1 _ _ au)) (.cons (s2 _ _ au) .nil))
theorem CK {H:Hp} {Q:VK} {c:Int} {ps:List (Int×Int)} (k:∀H' U L rs,aK H H'->H L=none->H' U=some (.tup [.ref L,.int c])->H' L=some (.lst (rs.map V.ref))->fH H' rs (BW ps)->Q (.ref U) H'):
  ∀H' L rs,aK H H'->H L=none->H' L=some (.lst (rs.map V.ref))->fH H' rs (BW ps)->∀U,H' U=none->Q (.ref U) (upd H' U (.tup [.ref L,.int c])):=fun H' L rs s nL eL tL U nU=>
 have s2:=aB (o:=.tup [.ref L,.int c]) nU
 k _ U L rs (s.trans s2) nL au (s2 _ _ eL) (tL.same s2)
theorem bU:(2:Nat)<=sizeLine:=by decide
theorem one_le:(1:Nat)<=sizeLine:=by decide
theorem Yi {a b:Int} {ws:List Int} (h:Wg ws) (hb:b∈ws):IntMulOk a b:=.of_right (intBits_le_64 (by have:=(h b hb).1;omega) (by have:=(h b hb).2;omega))
noncomputable def Hr (i:Nat) (ns:List V):V:=if i=5 then ns.headD .non else .int 0
inductive vm (K:PySem.W.Frag) (t:jH) (i:Nat) (vs:List V) (H:Hp) (Q:VK) (E:XK):Prop where
 | mk:∀(p:Addr) (nm:V) (ns is os:List V),vs=[.ref p]->fJ K t H p i nm ns is os->ns.length=cN i->Q (Hr i ns) H->vm K t i vs H Q E
noncomputable def Wd (i:Nat) (kv:V) (ns:List V):List V:=if i=5 then [kv] else ns
inductive Cp (K:PySem.W.Frag) (t:jH) (i:Nat) (vs:List V) (H:Hp) (Q:VK) (E:XK):Prop where
 | mk:∀(p:Addr) (kv nm:V) (ns is os:List V),vs=[.ref p,kv]->i<=10->fJ K t H p i nm ns is os->(∀H' q,aK H H'->H q=none->fJ K t H' q i nm (Wd i kv ns) is os->Q (.ref q) H')->Cp K t i vs H Q E
noncomputable def cG (a b:Int):Int:=((((a % 2147483647 * 48271+7919 * b+11) % 2147483647) * ((a % 2147483647 * 48271+7919 * b+11) % 2147483647) % 2147483629+613 * b) * (((a % 2147483647 * 48271+7919 * b+11) % 2147483647) * ((a % 2147483647 * 48271+7919 * b+11) % 2147483647) % 2147483629)) % 2147483587
theorem Bl (a b:Int):0<=cG a b:=Int.emod_nonneg _ (by decide)
noncomputable def mU (ns:List Int) (j:Nat):Int:=(ns[j]?).getD (41 * (j:Int)+3)
noncomputable def qU (a b:Int):Int:=if cG a b / 7 % 3=0 then cG a b % 5 else if cG a b / 7 % 3=1 then cG a b % 10 ^ 9 else 10 ^ 9 - 1 - cG a b % 3
theorem rQ (a b:Int):0<=qU a b/\qU a b <1000000000:=by
 unfold qU
 have h0:=Bl a b
 generalize cG a b=n at h0
 split
 ·omega
 ·split
  ·have h1:=Int.emod_lt_of_pos n (show(0:Int) <10 ^ 9 by decide)
   have h2:=Int.emod_nonneg n (show(10:Int) ^ 9≠0 by decide)
   exact⟨h2,h1⟩
  ·have h1:=Int.emod_lt_of_pos n (show(0:Int) <3 by decide)
   have h2:=Int.emod_nonneg n (show(3:Int)≠0 by decide)
   have e:(10:Int) ^ 9=1000000000:=by decide
   rw [e]
   omega
noncomputable def low (c:Nat):Bool:=decide (97<=c) && decide (c<=122)
noncomputable def KN (c:Nat):Bool:=decide (48<=c) && decide (c<=57)
noncomputable def nameB (x:Str):Bool:=match x.cps.toList with
 | []=>false
 | c:: r=>decide (r.length<=7) && (low c && (c:: r).all fun d=>low d || KN d)
theorem oY (x:Str):x.cps.toList.length=x.length:=by simp [Str.length]
theorem DN:∀(ws:List Str),(Str.join Str.empty ws).cps.toList=(ws.map fun w=>w.cps.toList).flatten
 | []=>rfl
 | [w]=>by simp [Str.join]
 | w:: v:: r=>by
  have ih:=DN (v:: r)
  show(w.cps ++ #[] ++ (Str.join Str.empty (v:: r)).cps).toList=_
  rw [Array.toList_append,ih]
  simp
theorem R9 {n:Nat}:∀(ws:List Str),(∀w∈ws,w.length<=n)->(ws.map (·.length)).sum<=ws.length * n
 | [],_=>by simp
 | w:: r,h=>by
  have h1:=h w (by simp)
  have h2:=R9 r fun v hv=>h v (by simp [hv])
  simp only [List.map_cons,List.sum_cons,List.length_cons,Nat.add_mul]
  omega
noncomputable def Jq (n:Int):Nat:=97+(n % 26).toNat
theorem Hd (n:Int):low (Jq n)=true:=by
 unfold low Jq
 have h0:=Int.emod_nonneg n (show(26:Int)≠0 by decide)
 have h1:=Int.emod_lt_of_pos n (show(0:Int) <26 by decide)
 simp
 omega
noncomputable abbrev LT:Str:= "abcdefghijklmnopqrstuvwxyz"
theorem LC:LT.length=26:=by decide +kernel
theorem Qx:LT.cps.toList=List.range' 97 26:=by decide +kernel
theorem Qm (n:Int):FZ LT.cps.toList (n % 26)=some (Jq n):=by
 have h0:=Int.emod_nonneg n (show(26:Int)≠0 by decide)
 have h1:=Int.emod_lt_of_pos n (show(0:Int) <26 by decide)
 obtain⟨j,hj⟩:∃j:Nat,n % 26=(j:Int):=⟨(n % 26).toNat,by omega⟩
 unfold Jq
 rw [hj,Qx]
 exact aM (by rw [List.getElem?_range' (by omega)];simp)
noncomputable def gw (a:Int):List Nat:=(List.range (cG a 50 % 7).toNat).map fun j=>Jq (cG a (60+(j:Nat)))
noncomputable def qy (a:Int):Nat:=(cG a 51 % (cG a 50 % 7+1)).toNat
noncomputable def KJ (n:Nat):List Nat:=(toString (Int.ofNat n):Str).cps.toList
noncomputable def Ae (a:Int) (k:Nat):List Nat:=if cG a 52 % 3=0 then Jq (cG a 53):: KJ (cG a 54 % 1000+37 * (k:Int)).toNat else(gw a).take (qy a) ++ Jq (cG a 55+k):: (gw a).drop (qy a)
noncomputable def cX (a:Int) (k:Nat):Str:=⟨(Ae a k).toArray⟩
noncomputable def Q5 (l:List Nat):Nat:=l.foldl (fun r c=>10 * r+(c - 48)) 0
theorem Sw:(List.range 2000).all (fun i=>(KJ i).all KN && decide ((KJ i).length<=4) && decide (Q5 (KJ i)=i))=true:=by decide +kernel
theorem wj {n:Nat} (h:n <2000):(KJ n).all KN=true/\(KJ n).length<=4/\Q5 (KJ n)=n:=by
 have z:=List.all_eq_true.mp Sw n (List.mem_range.mpr h)
 simp only [Bool.and_eq_true,decide_eq_true_eq] at z
 exact⟨z.1.1,z.1.2,z.2⟩
theorem Eh (a:Int):(gw a).length<=6/\((gw a).length:Int)=cG a 50 % 7:=by
 unfold gw
 have h0:=Int.emod_nonneg (cG a 50) (show(7:Int)≠0 by decide)
 have h1:=Int.emod_lt_of_pos (cG a 50) (show(0:Int) <7 by decide)
 rw [lM,List.length_range]
 omega
theorem Ms (a:Int):qy a<=(gw a).length:=by
 have h:=(Eh a).2
 unfold qy
 have h0:=Int.emod_nonneg (cG a 50) (show(7:Int)≠0 by decide)
 have h1:=Int.emod_lt_of_pos (cG a 51) (show(0:Int) <cG a 50 % 7+1 by omega)
 have h2:=Int.emod_nonneg (cG a 51) (show cG a 50 % 7+1≠0 by omega)
 omega
theorem Dp {x:Str} {c:Nat} {r:List Nat} (e:x.cps.toList=c:: r) (h:r.length<=7) (hc:low c=true) (ha:∀d∈r,low d=true∨KN d=true):nameB x=true:=by
 unfold nameB
 rw [e]
 simp only [Bool.and_eq_true,decide_eq_true_eq,List.all_eq_true,Bool.or_eq_true]
 refine⟨h,hc,fun d hd=>?_⟩
 rcases List.mem_cons.mp hd with rfl | hd
 ·exact .inl hc
 ·exact ha d hd
theorem Dc (a:Int) (k:Nat):(cX a k).cps.toList=Ae a k:=by simp [cX]
theorem Mh (a:Int) {k:Nat} (hk:k <26):nameB (cX a k)=true:=by
 have h0:=Int.emod_nonneg (cG a 54) (show(1000:Int)≠0 by decide)
 have h1:=Int.emod_lt_of_pos (cG a 54) (show(0:Int) <1000 by decide)
 have e:=Dc a k
 unfold Ae at e
 split at e
 ·obtain⟨n1,n2,_⟩:=wj (n:=(cG a 54 % 1000+37 * (k:Int)).toNat) (by omega)
  exact Dp e (by omega) (Hd _) fun c hc=>.inr (List.all_eq_true.mp n1 c hc)
 ·have b1:=(Eh a).1
  have b2:=Ms a
  have all:∀c∈(gw a).take (qy a) ++ Jq (cG a 55+k):: (gw a).drop (qy a),low c=true:=fun c hc=>by
   have hb:∀c∈gw a,low c=true:=fun c hc=>by
    unfold gw at hc
    obtain⟨j,_,rfl⟩:=List.mem_map.mp hc
    exact Hd _
   rcases List.mem_append.mp hc with h | h
   ·exact hb c (List.mem_of_mem_take h)
   ·rcases List.mem_cons.mp h with rfl | h
    ·exact Hd _
    ·exact hb c (List.mem_of_mem_drop h)
  have len:((gw a).take (qy a) ++ Jq (cG a 55+k):: (gw a).drop (qy a)).length<=7:=by
   rw [lP,List.length_take,List.length_cons,List.length_drop]
   omega
  have ne:(gw a).take (qy a) ++ Jq (cG a 55+k):: (gw a).drop (qy a)≠[]:=by simp
  generalize (gw a).take (qy a) ++ Jq (cG a 55+k):: (gw a).drop (qy a)=l at all len ne e
  obtain⟨c,r,rfl⟩:=List.exists_cons_of_ne_nil ne
  rw [List.length_cons] at len
  exact Dp e (by omega) (all c List.mem_cons_self) fun d hd=>.inl (all d (List.mem_cons_of_mem _ hd))
theorem JX (a:Int) {j k:Nat} (hj:j <26) (hk:k <26) (h:cX a j=cX a k):j=k:=by
 have e:Ae a j=Ae a k:=by
  have:=congrArg (fun s:Str=>s.cps.toList) h
  simpa [cX] using this
 unfold Ae at e
 split at e
 ·have h0:=Int.emod_nonneg (cG a 54) (show(1000:Int)≠0 by decide)
  have h1:=Int.emod_lt_of_pos (cG a 54) (show(0:Int) <1000 by decide)
  have e2:=congrArg Q5 (List.cons.inj e).2
  rw [(wj (by omega)).2.2,(wj (by omega)).2.2] at e2
  omega
 ·have e2:=(List.cons.inj (List.append_cancel_left e)).1
  unfold Jq at e2
  omega
namespace Drawn
variable {S:Type}
structure iB (S:Type) where
 kind:Nat
 name:S
 nums:List Int
 ins:List S
 outs:List S
structure NS (S:Type) where
 lanes:List S
 parts:List (iB S)
 opens:List S
 back:List S
inductive jo (ps:List (iB S)):S->S->Prop
 | refl (x:S):jo ps x x
 | step {x y z:S} {p:iB S}:p∈ps->x∈p.ins ++ p.outs->y∈p.ins ++ p.outs->jo ps y z->jo ps x z
theorem jo.trans {ps:List (iB S)} {x y z:S} (h:jo ps x y) (k:jo ps y z):jo ps x z:=by
 induction h with
 | refl _=>exact k
 | step hp hx hy _ ih=>exact .step hp hx hy (ih k)
theorem jo.symm {ps:List (iB S)} {x y:S} (h:jo ps x y):jo ps y x:=by
 induction h with
 | refl _=>exact .refl _
 | step hp hx hy _ ih=>exact ih.trans (.step hp hy hx (.refl _))
theorem jo.mono {ps qs:List (iB S)} (hs:∀p∈ps,p∈qs) {x y:S} (h:jo ps x y):jo qs x y:=by
 induction h with
 | refl _=>exact .refl _
 | step hp hx hy _ ih=>exact .step (hs _ hp) hx hy ih
theorem jo.part {ps:List (iB S)} {p:iB S} (hp:p∈ps) {x y:S} (hx:x∈p.ins ++ p.outs) (hy:y∈p.ins ++ p.outs):jo ps x y:=.step hp hx hy (.refl _)
structure WF (ns:NS S):Prop where
 nod:ns.lanes.Nodup
 outs:((ns.parts.flatMap (·.outs)) ++ ns.back).Perm ns.lanes
 ins:((ns.parts.flatMap (·.ins)) ++ ns.opens).Perm ns.lanes
 hang:∀p∈ns.parts,∃x∈p.ins ++ p.outs,∃o∈ns.opens,jo ns.parts x o
 touch:∀p∈ns.parts,p.ins ++ p.outs≠[]
theorem WF.add {ns:NS S} (w:WF ns) {p:iB S} {newl opens' back':List S} (hn:(ns.lanes ++ newl).Nodup) (ho:(p.outs ++ back').Perm (ns.back ++ newl)) (hi:(p.ins ++ opens').Perm (ns.opens ++ newl))
  (hg:∀o∈ns.opens,∃o'∈opens',jo (ns.parts ++ [p]) o o') (hp:∃x∈p.ins ++ p.outs,∃o∈opens',jo (ns.parts ++ [p]) x o):
  WF { lanes:=ns.lanes ++ newl,parts:=ns.parts ++ [p],opens:=opens',back:=back' }:=by
 have mono:∀q∈ns.parts,q∈ns.parts ++ [p]:=fun q hq=>List.mem_append.mpr (.inl hq)
 refine⟨hn,?_,?_,?_,?_⟩
 ·have e:(ns.parts ++ [p]).flatMap (·.outs)=ns.parts.flatMap (·.outs) ++ p.outs:=by simp
  show(((ns.parts ++ [p]).flatMap (·.outs)) ++ back').Perm _
  rw [e,List.append_assoc]
  exact(ho.append_left _).trans (by rw [<-List.append_assoc];exact w.outs.append_right _)
 ·have e:(ns.parts ++ [p]).flatMap (·.ins)=ns.parts.flatMap (·.ins) ++ p.ins:=by simp
  show(((ns.parts ++ [p]).flatMap (·.ins)) ++ opens').Perm _
  rw [e,List.append_assoc]
  exact(hi.append_left _).trans (by rw [<-List.append_assoc];exact w.ins.append_right _)
 ·intro q hq
  rcases List.mem_append.mp hq with h | h
  ·obtain⟨x,hx,o,hoq,c⟩:=w.hang q h
   obtain⟨o',ho',c'⟩:=hg o hoq
   exact⟨x,hx,o',ho',(c.mono mono).trans c'⟩
  ·rw [List.mem_singleton] at h
   subst h
   exact hp
 ·intro q hq
  rcases List.mem_append.mp hq with h | h
  ·exact w.touch q h
  ·rw [List.mem_singleton] at h
   subst h
   obtain⟨x,hx,_⟩:=hp
   intro z
   rw [z] at hx
   cases hx
theorem WF.start:WF (⟨[],[],[],[]⟩:NS S):=⟨List.nodup_nil,.refl _,.refl _,fun p hp=>(by cases hp),fun p hp=>(by cases hp)⟩
theorem WF.backLane {ns:NS S} (w:WF ns) {b:S} (hn:(ns.lanes ++ [b]).Nodup):WF { ns with lanes:=ns.lanes ++ [b],opens:=ns.opens ++ [b],back:=ns.back ++ [b] }:=by
 refine⟨hn,?_,?_,fun p hp=>?_,w.touch⟩
 ·show(_ ++ (ns.back ++ [b])).Perm _
  rw [<-List.append_assoc]
  exact w.outs.append_right _
 ·show(_ ++ (ns.opens ++ [b])).Perm _
  rw [<-List.append_assoc]
  exact w.ins.append_right _
 ·obtain⟨x,hx,o,ho,c⟩:=w.hang p hp
  exact⟨x,hx,o,List.mem_append.mpr (.inl ho),c⟩
theorem WF.part {ns:NS S} (w:WF ns) {p:iB S} {rest:List S} (hi:ns.opens.Perm (p.ins ++ rest)) (hf:(ns.lanes ++ p.outs).Nodup) (ho:p.outs≠[]):
  WF { ns with lanes:=ns.lanes ++ p.outs,parts:=ns.parts ++ [p],opens:=rest ++ p.outs }:=by
 have hp:p∈ns.parts ++ [p]:=by simp
 obtain⟨o1,hoo⟩:∃o1,o1∈p.outs:=List.exists_mem_of_ne_nil _ ho
 have h1:o1∈rest ++ p.outs:=List.mem_append.mpr (.inr hoo)
 refine w.add hf List.perm_append_comm ?_ (fun o h=>?_) ⟨o1,List.mem_append.mpr (.inr hoo),o1,h1,.refl _⟩
 ·rw [<-List.append_assoc]
  exact hi.symm.append_right _
 ·rcases List.mem_append.mp (hi.mem_iff.mp h) with h | h
  ·exact⟨o1,h1,jo.part hp (List.mem_append.mpr (.inl h)) (List.mem_append.mpr (.inr hoo))⟩
  ·exact⟨o,List.mem_append.mpr (.inl h),.refl _⟩
theorem WF.take {ns:NS S} (w:WF ns) {p:iB S} {rest:List S} {y x:S} (hi:p.ins=[y]) (ho:p.outs=[]) (hr:ns.opens.Perm (y:: rest)) (hx:x∈rest) (c:jo ns.parts y x):
  WF { ns with parts:=ns.parts ++ [p],opens:=rest }:=by
 have mono:∀q∈ns.parts,q∈ns.parts ++ [p]:=fun q hq=>List.mem_append.mpr (.inl hq)
 have:=w.add (p:=p) (newl:=[]) (opens':=rest) (back':=ns.back) (by rw [List.append_nil];exact w.nod) (by rw [ho,List.append_nil];exact .refl _) (by rw [hi,List.append_nil];exact hr.symm)
  (fun o h=>by
   rcases List.mem_cons.mp (hr.mem_iff.mp h) with rfl | h
   ·exact⟨x,hx,c.mono mono⟩
   ·exact⟨o,h,.refl _⟩) ⟨y,by simp [hi],x,hx,c.mono mono⟩
 rw [List.append_nil] at this
 exact this
theorem WF.loop {ns:NS S} (w:WF ns) {p:iB S} {rest:List S} {one own fresh:S} (hi:p.ins=[one,own]) (ho:p.outs=[own,fresh]) (hr:ns.opens.Perm (one:: rest)) (hn:(ns.lanes ++ [own,fresh]).Nodup):
  WF { ns with lanes:=ns.lanes ++ [own,fresh],parts:=ns.parts ++ [p],opens:=rest ++ [fresh] }:=by
 have hp:p∈ns.parts ++ [p]:=by simp
 have hf:fresh∈rest ++ [fresh]:=by simp
 refine w.add hn (by rw [ho];exact List.perm_append_comm) ?_ (fun o h=>?_) ⟨fresh,by simp [ho],fresh,hf,.refl _⟩
 ·rw [hi]
  show(one:: own:: (rest ++ [fresh])).Perm (ns.opens ++ [own,fresh])
  refine .trans ?_ (hr.symm.append_right _)
  refine .cons _ ?_
  show(own:: (rest ++ [fresh])).Perm (rest ++ ([own] ++ [fresh]))
  rw [<-List.append_assoc]
  exact(List.perm_append_comm (l₁:=[own]) (l₂:=rest)).append_right [fresh]
 ·rcases List.mem_cons.mp (hr.mem_iff.mp h) with rfl | h
  ·exact⟨fresh,hf,jo.part hp (by simp [hi]) (by simp [ho])⟩
  ·exact⟨o,List.mem_append.mpr (.inl h),.refl _⟩
theorem WF.closeBack {ns:NS S} (w:WF ns) {p:iB S} {rest:List S} {one b fresh:S} (hi:p.ins=[one]) (ho:p.outs=[b,fresh]) (hb:ns.back.Perm (b:: rest)) (h1:ns.opens=[one]) (hn:(ns.lanes ++ [fresh]).Nodup):
  WF { lanes:=ns.lanes ++ [fresh],parts:=ns.parts ++ [p],opens:=[fresh],back:=rest }:=by
 have hp:p∈ns.parts ++ [p]:=by simp
 refine w.add hn ?_ (by rw [hi,h1]) (fun o h=>?_) ⟨fresh,by simp [ho],fresh,by simp,.refl _⟩
 ·rw [ho]
  show(b:: fresh:: rest).Perm (ns.back ++ [fresh])
  refine .trans ?_ (hb.symm.append_right _)
  exact .cons _ (List.perm_append_comm (l₁:=[fresh]) (l₂:=rest))
 ·rw [h1,List.mem_singleton] at h
  subst h
  exact⟨fresh,by simp,jo.part hp (by simp [hi]) (by simp [ho])⟩
theorem WF.last {ns:NS S} (w:WF ns) {p:iB S} {y:S} (hb:ns.back=[]) (h1:ns.opens=[y]) (hi:p.ins=[y]) (ho:p.outs=[]):
  ((ns.parts ++ [p]).flatMap (·.outs)).Perm ns.lanes/\((ns.parts ++ [p]).flatMap (·.ins)).Perm ns.lanes/\∀q∈ns.parts ++ [p],∃x∈q.ins ++ q.outs,jo (ns.parts ++ [p]) x y:=by
 have mono:∀q∈ns.parts,q∈ns.parts ++ [p]:=fun q hq=>List.mem_append.mpr (.inl hq)
 refine⟨?_,?_,?_⟩
 ·have e:(ns.parts ++ [p]).flatMap (·.outs)=ns.parts.flatMap (·.outs):=by simp [ho]
  rw [e]
  have:=w.outs
  rw [hb,List.append_nil] at this
  exact this
 ·have e:(ns.parts ++ [p]).flatMap (·.ins)=ns.parts.flatMap (·.ins) ++ [y]:=by simp [hi]
  rw [e]
  have:=w.ins
  rw [h1] at this
  exact this
 ·intro q hq
  rcases List.mem_append.mp hq with h | h
  ·obtain⟨x,hx,o,hoq,c⟩:=w.hang q h
   rw [h1,List.mem_singleton] at hoq
   subst hoq
   exact⟨x,hx,c.mono mono⟩
  ·rw [List.mem_singleton] at h
   subst h
   exact⟨y,by simp [hi],.refl _⟩
theorem Le {ps:List (iB S)} {J:iB S->Prop} (closed:∀(l:S) (p q:iB S),p∈ps->q∈ps->l∈p.ins ++ p.outs->l∈q.ins ++ q.outs->J p->J q) {y:S} (hang:∀q∈ps,∃x∈q.ins ++ q.outs,jo ps x y)
  {p0:iB S} (hp0:p0∈ps) (h0:J p0):∀q∈ps,J q:=by
 have go:∀{x z:S},jo ps x z->(∃p∈ps,x∈p.ins ++ p.outs/\J p)->∃p∈ps,z∈p.ins ++ p.outs/\J p:=by
  intro x z c
  induction c with
  | refl _=>exact id
  | step hp hx hy _ ih=>
   rintro⟨p',hp',hx',hJ⟩
   exact ih ⟨_,hp,hy,closed _ _ _ hp' hp hx' hx hJ⟩
 obtain⟨x0,hx0,c0⟩:=hang p0 hp0
 have hy:=go c0 ⟨p0,hp0,hx0,h0⟩
 intro q hq
 obtain⟨x,hx,c⟩:=hang q hq
 obtain⟨p',hp',hx',hJ⟩:=go c.symm hy
 exact closed _ _ _ hp' hq hx' hx hJ
theorem Oi {ps:List (iB S)} (f:iB S->List S) (h:(ps.flatMap f).Nodup) {i j:Nat} {p q:iB S} {l:S} (hi:ps[i]?=some p) (hj:ps[j]?=some q) (hp:l∈f p) (hq:l∈f q):i=j:=by
 induction ps generalizing i j with
 | nil=>cases hi
 | cons r rs ih=>
  rw [List.flatMap_cons,List.nodup_append] at h
  obtain⟨h1,h2,h3⟩:=h
  have far:∀{k:Nat} {s:iB S},rs[k]?=some s->l∈f s->l∈rs.flatMap f:=fun e hs=>List.mem_flatMap.mpr ⟨_,List.mem_of_getElem? e,hs⟩
  match i,j with
  | 0,0=>rfl
  | 0,j+1=>
   simp only [List.getElem?_cons_zero,Option.some.injEq] at hi
   subst hi
   exact absurd rfl (h3 l hp l (far (by simpa using hj) hq))
  | i+1,0=>
   simp only [List.getElem?_cons_zero,Option.some.injEq] at hj
   subst hj
   exact absurd rfl (h3 l hq l (far (by simpa using hi) hp))
  | i+1,j+1=>exact congrArg (· +1) (ih h2 (by simpa using hi) (by simpa using hj))
end Drawn
structure aG where
 name:Str
 room:Int
 first:List Int
noncomputable def aG.ok (l:aG):Prop:=1<=l.room/\l.room<=10/\(l.first.length:Int)<=l.room/\∀v∈l.first,0<=v/\v <1000000000
noncomputable abbrev PD:=Drawn.iB Str
noncomputable def tM (p:PD):Prop:=p.kind <11/\p.nums.length=cN p.kind/\p.ins.length=cI p.kind/\p.outs.length=cO p.kind/\∀v∈p.nums,0<=v/\v <1000000000
noncomputable def aZ (E:List Addr) (H:Hp):Hp:=fun b=>if b∈E then none else H b
theorem bw {E:List Addr} {H:Hp}:aK (aZ E H) H:=fun b o e=>by
 unfold aZ at e
 split at e
 ·cases e
 ·exact e
theorem M7 {E:List Addr} {H:Hp} {p:Addr} {o:HO} (h:H p=none):aK (aZ E H) (aZ E (upd H p o)):=fun b u e=>by
 have e':=bw b u e
 unfold aZ at e ⊢
 split at e
 ·cases e
 ·rename_i n
  rw [if_neg n,aH (aD e' h)]
  exact e
theorem bY {E:List Addr} {H:Hp} {p:Addr} {o:HO} (h:H p=some o) (n:p∉E):aZ E H p=some o:=by
 unfold aZ
 rw [if_neg n]
 exact h
theorem dB {E:List Addr} {H:Hp} {a:Addr} {o:HO} (h:a∈E):aZ E (upd H a o)=aZ E H:=by
 funext b
 unfold aZ
 split
 ·rfl
 ·rename_i n
  rw [aH (fun z=>n (by rw [z];exact h))]
theorem Do {E:List Addr} {H H':Hp} (s:aK H H') (hE:∀a∈E,∃o,H a=some o):aK (aZ E H) (aZ E H'):=fun b o e=>by
 have e':=bw b o e
 unfold aZ at e ⊢
 split at e
 ·cases e
 ·rename_i n
  rw [if_neg n]
  exact s _ _ e'
inductive jT {α β:Type} (R:α->β->Prop):List α->List β->Prop
 | nil:jT R [] []
 | cons {a:α} {b:β} {l:List α} {m:List β}:R a b->jT R l m->jT R (a:: l) (b:: m)
theorem jT.imp {α β:Type} {R R':α->β->Prop} (h:∀a b,R a b->R' a b):∀{l:List α} {m:List β},jT R l m->jT R' l m
 | _,_,.nil=>.nil
 | _,_,.cons r t=>.cons (h _ _ r) (t.imp h)
theorem jT.length {α β:Type} {R:α->β->Prop}:∀{l:List α} {m:List β},jT R l m->l.length=m.length
 | _,_,.nil=>rfl
 | _,_,.cons _ t=>by rw [List.length_cons,List.length_cons,t.length]
theorem jT.app {α β:Type} {R:α->β->Prop}:∀{l l':List α} {m m':List β},jT R l m->jT R l' m'->jT R (l ++ l') (m ++ m')
 | _,_,_,_,.nil,h=>h
 | _,_,_,_,.cons r t,h=>.cons r (t.app h)
theorem jT.get {α β:Type} {R:α->β->Prop}:∀{l:List α} {m:List β},jT R l m->∀{i:Nat} {a:α},l[i]?=some a->∃b,m[i]?=some b/\R a b
 | _,_,.nil,_,_,h=>by simp at h
 | _,_,.cons r t,0,_,h=>by
  simp only [List.getElem?_cons_zero,Option.some.injEq] at h
  subst h
  exact⟨_,rfl,r⟩
 | _,_,.cons r t,i+1,_,h=>t.get (i:=i) (by simpa using h)
theorem jT.take {α β:Type} {R:α->β->Prop}:∀{l:List α} {m:List β},jT R l m->∀n:Nat,jT R (l.take n) (m.take n)
 | _,_,.nil,_=>by simp;exact .nil
 | _,_,.cons r t,0=>by simp;exact .nil
 | _,_,.cons r t,n+1=>by simp;exact .cons r (t.take n)
theorem jT.drop {α β:Type} {R:α->β->Prop}:∀{l:List α} {m:List β},jT R l m->∀n:Nat,jT R (l.drop n) (m.drop n)
 | _,_,.nil,_=>by simp;exact .nil
 | _,_,.cons r t,0=>.cons r t
 | _,_,.cons r t,n+1=>by simp;exact t.drop n
inductive xP (G:Hp) (v:V) (l:aG):Prop where
 | mk:∀q f,v=.ref q->G q=some (.tup [.str l.name,.int l.room,.ref f])->G f=some (.lst (l.first.map V.int))->xP G v l
inductive wz (G:Hp) (v:V) (p:PD):Prop where
 | mk:∀q a1 a2 a3,v=.ref q->G q=some (.tup [.str (cL p.kind),.str p.name,.ref a1,.ref a2,.ref a3])->G a1=some (.lst (p.nums.map V.int))->G a2=some (.lst (p.ins.map V.str))->G a3=some (.lst (p.outs.map V.str))->wz G v p
theorem xP.same {G G':Hp} {v:V} {l:aG} (h:xP G v l) (s:aK G G'):xP G' v l:=by
 obtain⟨q,f,e,h1,h2⟩:=h
 exact⟨q,f,e,s _ _ h1,s _ _ h2⟩
theorem wz.same {G G':Hp} {v:V} {p:PD} (h:wz G v p) (s:aK G G'):wz G' v p:=by
 obtain⟨q,a1,a2,a3,e,h1,h2,h3,h4⟩:=h
 exact⟨q,a1,a2,a3,e,s _ _ h1,s _ _ h2,s _ _ h3,s _ _ h4⟩
structure Dw where
 S:Addr
 L:Addr
 P:Addr
 O:Addr
 c3:Int
 c4:Int
noncomputable abbrev Dw.E (d:Dw):List Addr:=[d.L,d.P,d.O]
structure oW (d:Dw) (H:Hp) (ls:List aG) (ps:List PD) (os:List Str):Prop where
 top:aZ d.E H d.S=some (.lst [.ref d.L,.ref d.P,.ref d.O,.int d.c3,.int d.c4])
 lanes:∃xs,H d.L=some (.lst xs)/\jT (xP (aZ d.E H)) xs ls
 parts:∃xs,H d.P=some (.lst xs)/\jT (wz (aZ d.E H)) xs ps
 opens:H d.O=some (.lst (os.map V.str))
 ne:d.L≠d.P/\d.L≠d.O/\d.P≠d.O
 lok:∀l∈ls,l.ok
 pok:∀p∈ps,tM p
 ln:ls.map (·.name)=(List.range ls.length).map (cX d.c3)
 pn:ps.map (·.name)=(List.range ps.length).map (cX d.c4)
theorem oW.seqS {d:Dw} {H:Hp} {ls:List aG} {ps:List PD} {os:List Str} (D:oW d H ls ps os):bL K H d.S [.ref d.L,.ref d.P,.ref d.O,.int d.c3,.int d.c4]:=bL.of (bw _ _ D.top)
theorem oW.has {d:Dw} {H:Hp} {ls:List aG} {ps:List PD} {os:List Str} (D:oW d H ls ps os) {a:Addr} (h:a∈d.E):∃o,H a=some o:=by
 obtain⟨_,e1,_⟩:=D.lanes
 obtain⟨_,e2,_⟩:=D.parts
 rcases List.mem_cons.mp h with rfl | h
 ·exact⟨_,e1⟩
 ·rcases List.mem_cons.mp h with rfl | h
  ·exact⟨_,e2⟩
  ·rw [List.mem_singleton] at h
   subst h
   exact⟨_,D.opens⟩
theorem oW.out {d:Dw} {H:Hp} {ls:List aG} {ps:List PD} {os:List Str} (D:oW d H ls ps os) {p:Addr} (h:H p=none):p∉d.E:=fun z=>by
 obtain⟨o,e⟩:=D.has z
 rw [h] at e
 cases e
theorem oW.keep {d:Dw} {H H':Hp} {ls:List aG} {ps:List PD} {os:List Str} (D:oW d H ls ps os) (s:aK H H'):oW d H' ls ps os:=by
 obtain⟨xs,e1,a1⟩:=D.lanes
 obtain⟨ys,e2,a2⟩:=D.parts
 have c:=Do (E:=d.E) s (fun a h=>D.has h)
 exact⟨c _ _ D.top,⟨xs,s _ _ e1,a1.imp fun _ _ h=>h.same c⟩,⟨ys,s _ _ e2,a2.imp fun _ _ h=>h.same c⟩,s _ _ D.opens,D.ne,D.lok,D.pok,D.ln,D.pn⟩
theorem oW.cut {d:Dw} {H H':Hp} {ls:List aG} {ps:List PD} {os:List Str} (D:oW d H ls ps os) (s:aK H H'):aK (aZ d.E H) (aZ d.E H'):=Do s (fun _ h=>D.has h)
theorem Fi {α:Type} {f:α->Str} {w:Nat->Str} {l:List α} {x:α} (h:l.map f=(List.range l.length).map w) (hx:f x=w l.length):(l ++ [x]).map f=(List.range (l ++ [x]).length).map w:=by
 rw [List.map_append,lP,List.length_singleton,List.range_succ,List.map_append,h,List.map_singleton,List.map_singleton,hx]
theorem oW.lane {d:Dw} {H:Hp} {ls:List aG} {ps:List PD} {os:List Str} (D:oW d H ls ps os) {v:V} {l:aG} (h:xP (aZ d.E H) v l) (hl:l.ok) (hn:l.name=cX d.c3 ls.length) {xs:List V} (e:H d.L=some (.lst xs)):
  oW d (upd H d.L (.lst (xs ++ [v]))) (ls ++ [l]) ps os:=by
 obtain⟨xs',e1,a1⟩:=D.lanes
 obtain⟨ys,e2,a2⟩:=D.parts
 rw [e] at e1
 cases e1
 have c:aZ d.E (upd H d.L (.lst (xs ++ [v])))=aZ d.E H:=dB (by simp)
 refine⟨by rw [c];exact D.top,⟨_,au,by rw [c];exact a1.app (.cons h .nil)⟩,⟨ys,by rw [aH (Ne.symm D.ne.1)];exact e2,by rw [c];exact a2⟩,by rw [aH (Ne.symm D.ne.2.1)];exact D.opens,D.ne,fun x hx=>?_,D.pok,Fi D.ln hn,D.pn⟩
 rcases List.mem_append.mp hx with hx | hx
 ·exact D.lok x hx
 ·rw [List.mem_singleton] at hx
  subst hx
  exact hl
theorem oW.part {d:Dw} {H:Hp} {ls:List aG} {ps:List PD} {os:List Str} (D:oW d H ls ps os) {v:V} {p:PD} (h:wz (aZ d.E H) v p) (hl:tM p) (hn:p.name=cX d.c4 ps.length) {xs:List V} (e:H d.P=some (.lst xs)):
  oW d (upd H d.P (.lst (xs ++ [v]))) ls (ps ++ [p]) os:=by
 obtain⟨xs',e1,a1⟩:=D.lanes
 obtain⟨ys,e2,a2⟩:=D.parts
 rw [e] at e2
 cases e2
 have c:aZ d.E (upd H d.P (.lst (xs ++ [v])))=aZ d.E H:=dB (by simp)
 refine⟨by rw [c];exact D.top,⟨_,by rw [aH D.ne.1];exact e1,by rw [c];exact a1⟩,⟨_,au,by rw [c];exact a2.app (.cons h .nil)⟩,by rw [aH (Ne.symm D.ne.2.2)];exact D.opens,D.ne,D.lok,fun x hx=>?_,D.ln,Fi D.pn hn⟩
 rcases List.mem_append.mp hx with hx | hx
 ·exact D.pok x hx
 ·rw [List.mem_singleton] at hx
  subst hx
  exact hl
theorem oW.open {d:Dw} {H:Hp} {ls:List aG} {ps:List PD} {os os':List Str} (D:oW d H ls ps os):oW d (upd H d.O (.lst (os'.map V.str))) ls ps os':=by
 obtain⟨xs,e1,a1⟩:=D.lanes
 obtain⟨ys,e2,a2⟩:=D.parts
 have c:aZ d.E (upd H d.O (.lst (os'.map V.str)))=aZ d.E H:=dB (by simp)
 exact⟨by rw [c];exact D.top,⟨xs,by rw [aH D.ne.2.1];exact e1,by rw [c];exact a1⟩,⟨ys,by rw [aH D.ne.2.2];exact e2,by rw [c];exact a2⟩,au,D.ne,D.lok,D.pok,D.ln,D.pn⟩
theorem Ac (a:Int) {n:Nat} (h:n<=26):((List.range n).map (cX a)).Nodup:=by
 induction n with
 | zero=>exact List.nodup_nil
 | succ n ih=>
  rw [List.range_succ,List.map_append,List.nodup_append]
  refine⟨ih (by omega),by simp,fun x hx y hy=>?_⟩
  obtain⟨j,hj,rfl⟩:=List.mem_map.mp hx
  rw [List.map_singleton,List.mem_singleton] at hy
  subst hy
  have hj':=List.mem_range.mp hj
  intro z
  have:=JX a (by omega) (by omega) z
  omega
noncomputable abbrev uY (ls:List aG) (ps:List PD) (os back:List Str):Drawn.NS Str:=⟨ls.map (·.name),ps,os,back⟩
theorem oW.nod {d:Dw} {H:Hp} {ls:List aG} {ps:List PD} {os:List Str} (D:oW d H ls ps os) (h:ls.length<=26):(ls.map (·.name)).Nodup:=by
 rw [D.ln]
 exact Ac _ h
theorem VB {ns:Drawn.NS Str} (w:Drawn.WF ns) {os:List Str} (h:ns.opens.Perm os):Drawn.WF { ns with opens:=os }:=
 ⟨w.nod,w.outs,(h.symm.append_left _).trans w.ins,fun p hp=>by
  obtain⟨x,hx,o,ho,c⟩:=w.hang p hp
  exact⟨x,hx,o,h.mem_iff.mp ho,c⟩,w.touch⟩
theorem rF {d:Dw} {H:Hp} {ls newl:List aG} {ps:List PD} {p:PD} {os ops back:List Str} (w:Drawn.WF (uY ls ps ops back)) (ho:p.outs=newl.map (·.name)) (D:oW d H (ls ++ newl) (ps ++ [p]) (os ++ newl.map (·.name))) (hi:ops.Perm (p.ins ++ os)) (hne:newl.length≠0) (hl:(ls ++ newl).length<=26):
  Drawn.WF (uY (ls ++ newl) (ps ++ [p]) (os ++ newl.map (·.name)) back):=by
 have nd:=D.nod hl
 rw [List.map_append] at nd
 have:=w.part (p:=p) hi (by rw [ho];exact nd) (by rw [ho];intro z;exact hne (by rw [<-lM (f:=fun l:aG=>l.name),z];rfl))
 rw [ho] at this
 unfold uY
 rw [List.map_append]
 exact this
structure Zk (d:Dw) (H H':Hp) (ls:List aG) (ps:List PD) (back:List Str) (ls':List aG) (ps':List PD) (os':List Str):Prop where
 cut:aK (aZ d.E H) (aZ d.E H')
 at':oW d H' ls' ps' os'
 wf:Drawn.WF (uY ls' ps' os' back)
 o1:1<=os'.length
 o4:os'.length<=4
 l2:ls'.length<=ls.length+2
 p2:ps'.length<=ps.length+2
theorem Ce {c X Y B:Prop} [Decidable c] (k:B) (hx:c->B->X) (hy:B->Y):if c then X else Y:=by
 split
 ·rename_i h;exact hx h k
 ·exact hy k
theorem hide {t u:TS} {D:Ends} {σ:St} {H:Hp} (h:∀v,v=u->xR t v D σ H):xR t u D σ H:=h u rfl
theorem RP {i:Nat} {x:V} {t u:TS} {D:Ends} {σ:St} {H:Hp} (h:∀E,E=D->∀v,v=u->xR t v E (σ.set i (some x)) H):wN i x σ H fun σ2 H2=>xR t u D σ2 H2:=h D rfl u rfl
theorem Vq {i:Nat} {x:V} {t:TS} {D:Ends} {σ:St} {H:Hp} (h:∀E,E=D->t E (σ.set i (some x)) H):wN i x σ H fun σ2 H2=>t D σ2 H2:=h D rfl
theorem Xh {t u:TS} {D:Ends} {σ:St} {H:Hp} (h:∀E,E=D->∀v,v=u->xR t v E σ H):xR t u D σ H:=h D rfl u rfl
theorem dD {t u v:TS} {D:Ends} {σ:St} {H:Hp} (hv:v=xR t u) (h:∀w,w=u->xR t w D σ H):v D σ H:=by
 subst hv
 exact h u rfl
theorem oW.two {d:Dw} {H:Hp} {ls:List aG} {ps:List PD} {os:List Str} (D:oW d H ls ps os) {a1 a2:Addr} {x y:HO} (n1:H a1=none) (n2:upd H a1 x a2=none):
  oW d (upd (upd H a1 x) a2 y) ls ps os/\aZ d.E (upd (upd H a1 x) a2 y) a1=some x/\aZ d.E (upd (upd H a1 x) a2 y) a2=some y/\aK (aZ d.E H) (aZ d.E (upd (upd H a1 x) a2 y)):=by
 have s1:=aB (o:=x) n1
 have s2:=aB (o:=y) n2
 have s:=s1.trans s2
 exact⟨D.keep s,bY (s2 _ _ au) (D.out n1),bY au (D.out (s1.free n2)),D.cut s⟩
structure Ff (lanes:List Str) (ps:List PD):Prop where
 nod:lanes.Nodup
 outs:(ps.flatMap (·.outs)).Perm lanes
 ins:(ps.flatMap (·.ins)).Perm lanes
 hang:∃y,∀q∈ps,∃x∈q.ins ++ q.outs,Drawn.jo ps x y
noncomputable def RK (H:Hp) (a:Addr):Nat:=match H a with
 | some (.lst xs)=>xs.length
 | _=>0
theorem JR {H:Hp} {a:Addr} {xs:List V} (h:H a=some (.lst xs)):RK H a=xs.length:=by
 unfold RK
 rw [h]
theorem Lw (m:Int) {n:Int} {k:Nat} (h0:0 <n) (hk:n=k):∃j:Nat,m % n=(j:Int)/\j <k:=by
 have h1:=Int.emod_nonneg m (Int.ne_of_gt h0)
 have h2:=Int.emod_lt_of_pos m h0
 exact⟨(m % n).toNat,(Int.toNat_of_nonneg h1).symm,by omega⟩
theorem XR (m:Int):∃i:Nat,FZ [V.str "add",V.str "less",V.str "add"] (m % 3)=some (.str (cL i))/\(i=6∨i=7):=by
 have key:∀j,j <3->FZ [V.str "add",V.str "less",V.str "add"] ((j:Nat):Int)=some (.str (cL (([6,7,6]:List Nat).getD j 0)))/\(([6,7,6]:List Nat).getD j 0=6∨([6,7,6]:List Nat).getD j 0=7):=by decide +kernel
 obtain⟨j,e,hj⟩:=Lw m (n:=3) (k:=3) (by decide) rfl
 rw [e]
 exact⟨_,key j hj⟩
structure Ql (c3 c4:Int) (ls:List aG) (ps:List PD):Prop where
 lok:∀l∈ls,l.ok
 pok:∀p∈ps,tM p
 ln:ls.map (·.name)=(List.range ls.length).map (cX c3)
 pn:((List.range ps.length).map (cX c4)).Perm (ps.map (·.name))
 whole:Ff (ls.map (·.name)) ps
 l1:1<=ls.length
 l17:ls.length<=17
 p1:1<=ps.length
 p16:ps.length<=16
structure yC (H:Hp) (L P:Addr) (ls:List aG) (ps:List PD):Prop where
 lanes:∃xs,H L=some (.lst xs)/\jT (xP H) xs ls
 parts:∃xs,H P=some (.lst xs)/\jT (wz H) xs ps
theorem yC.same {H H':Hp} {L P:Addr} {ls:List aG} {ps:List PD} (h:yC H L P ls ps) (s:aK H H'):yC H' L P ls ps:=by
 obtain⟨⟨xs,e1,a1⟩,⟨ys,e2,a2⟩⟩:=h
 exact⟨⟨xs,s _ _ e1,a1.imp fun _ _ h=>h.same s⟩,⟨ys,s _ _ e2,a2.imp fun _ _ h=>h.same s⟩⟩
theorem NK {ps qs:List PD} (h:ps.Perm qs) {x y:Str} (c:Drawn.jo ps x y):Drawn.jo qs x y:=c.mono fun _ hp=>h.mem_iff.mp hp
theorem Ff.perm {ns:List Str} {ps qs:List PD} (w:Ff ns ps) (h:ps.Perm qs):Ff ns qs:=by
 obtain⟨y,hy⟩:=w.hang
 exact⟨w.nod,(h.symm.flatMap_right _).trans w.outs,(h.symm.flatMap_right _).trans w.ins,y,fun q hq=>by
  obtain⟨x,hx,c⟩:=hy q (h.mem_iff.mpr hq)
  exact⟨x,hx,NK h c⟩⟩
theorem QV {α:Type} (l:List α) (n:Nat):l.Perm (l.drop n ++ l.take n):=by
 have h:l.Perm (l.take n ++ l.drop n):=by rw [List.take_append_drop]
 exact h.trans List.perm_append_comm
theorem Ox (xs:List V) (g:Nat):wu xs (some (g:Int)) none=xs.drop g:=by
 unfold wu
 rw [HT.yV,HT.vU,<-List.length_drop,List.take_length]
 rcases Nat.le_total g xs.length with h | h
 ·rw [Nat.min_eq_left h]
 ·rw [Nat.min_eq_right h,List.drop_length,List.drop_eq_nil_of_le h]
theorem SQ (xs:List V) (g:Nat):wu xs none (some (g:Int))=xs.take g:=by
 unfold wu
 rw [HT.yV,HT.vU,List.drop_zero,Nat.sub_zero]
 rcases Nat.le_total g xs.length with h | h
 ·rw [Nat.min_eq_left h]
 ·rw [Nat.min_eq_right h,List.take_length,List.take_of_length_le h]
theorem oW.init {H:Hp} {S L P O:Addr} (c3 c4:Int) (nL:H L=none) (nP:upd H L (.lst []) P=none) (nO:upd (upd H L (.lst [])) P (.lst []) O=none) (nS:upd (upd (upd H L (.lst [])) P (.lst [])) O (.lst []) S=none):
  oW ⟨S,L,P,O,c3,c4⟩ (upd (upd (upd (upd H L (.lst [])) P (.lst [])) O (.lst [])) S (.lst [.ref L,.ref P,.ref O,.int c3,.int c4])) [] [] []/\aK H (aZ [L,P,O] (upd (upd (upd (upd H L (.lst [])) P (.lst [])) O (.lst [])) S (.lst [.ref L,.ref P,.ref O,.int c3,.int c4])))/\H P=none:=by
 have s1:=aB (o:=.lst []) nL
 have s2:=aB (o:=.lst []) nP
 have s3:=aB (o:=.lst []) nO
 have s4:=aB (o:=.lst [.ref L,.ref P,.ref O,.int c3,.int c4]) nS
 have e1:=s4 _ _ (s3 _ _ (s2 L (.lst []) au))
 have e2:=s4 _ _ (s3 P (.lst []) au)
 have e3:=s4 O (.lst []) au
 have n1:L≠P:=aD (au (H:=H) (o:=.lst [])) nP
 have n2:L≠O:=aD (s2 L (.lst []) au) nO
 have n3:P≠O:=aD (au (H:=upd H L (.lst [])) (o:=.lst [])) nO
 have m1:L≠S:=aD (s3 _ _ (s2 L (.lst []) au)) nS
 have m2:P≠S:=aD (s3 P (.lst []) au) nS
 have m3:O≠S:=aD (au (H:=upd (upd H L (.lst [])) P (.lst [])) (o:=.lst [])) nS
 refine⟨⟨bY au ?_,⟨[],e1,.nil⟩,⟨[],e2,.nil⟩,e3,⟨n1,n2,n3⟩,(fun _ h=>by cases h),(fun _ h=>by cases h),rfl,rfl⟩,fun b o e=>bY (s4 _ _ (s3 _ _ (s2 _ _ (s1 _ _ e)))) ?_,s1.free nP⟩
 ·show S∉[L,P,O]
  simp [m1.symm,m2.symm,m3.symm]
 ·have q1:=aD e nL
  have q2:=aD (s1 _ _ e) nP
  have q3:=aD (s2 _ _ (s1 _ _ e)) nO
  simp [q1,q2,q3]
noncomputable abbrev LET:Str:= "abcdefghijklmnopqrstuvwxyz"
noncomputable abbrev Zd:Str:= "0123456789"
theorem Nv:LET.cps.toList=List.range' 97 26:=by decide +kernel
theorem N7:Zd.cps.toList=List.range' 48 10:=by decide +kernel
theorem Qe (c:Nat):(!(Builtin.Str.occurrences LET ⟨#[c]⟩ 0 LET.length 1).isEmpty)=low c:=by
 rw [StrLaws.found_one,Nv]
 unfold low
 rw [Bool.eq_iff_iff]
 simp [List.mem_range'_1]
 omega
theorem V5 (c:Nat):(!(Builtin.Str.occurrences Zd ⟨#[c]⟩ 0 Zd.length 1).isEmpty)=KN c:=by
 rw [StrLaws.found_one,N7]
 unfold KN
 rw [Bool.eq_iff_iff]
 simp [List.mem_range'_1]
 omega
structure Tn (ms:List Str) (want:List (Str×V)) (fs:List (Str×V)):Prop where
 has:∀p∈want,fs.lookup p.1=some p.2
 no:∀m∈ms,fs.lookup m=none
theorem jC {H:Hp} {d:Addr} {kvs:List (Key×V)} {v:HO} (e:H d=some (.dK kvs)) {b:Addr} {u:HO} (h:H b=some u) (hu:∀ks,u≠.dK ks):upd H d v b=some u:=by
 rw [aH]
 ·exact h
 ·rintro rfl
  rw [e] at h
  exact hu _ (Option.some.inj h).symm
theorem fU {H:Hp} {d a:Addr} {kvs:List (Key×V)} {v:HO} {xs:List V} (e:H d=some (.dK kvs)) (h:eN K H a xs):eN K (upd H d v) a xs:=by
 rcases h with (h | ⟨o,h⟩) | h
 ·exact .inl (.inl (jC e h (by intro _ z;cases z)))
 ·exact .inl (.inr ⟨o,jC e h (by intro _ z;cases z)⟩)
 ·exact .inr h
theorem fJ.chill {H:Hp} {d p:Addr} {kvs:List (Key×V)} {v:HO} {i:Nat} {nm:V} {ns is os:List V} (e:H d=some (.dK kvs)) (h:fJ K t H p i nm ns is os):fJ K t (upd H d v) p i nm ns is os:=by
 obtain⟨dx,tn,ti,to,h1,h2,h3,h4⟩:=h
 exact⟨dx,tn,ti,to,jC e h1 (by intro _ z;cases z),fU e h2,fU e h3,fU e h4⟩
theorem NP {H:Hp} {d D:Addr} {kvs:List (Key×V)} {o:Obj} {u:HO} (e:H d=some (.dK kvs)) (hD:(upd H d (.frz o (.dK kvs))) D=none):upd (upd (upd H d (.frz o (.dK kvs))) D u) d (.dK kvs)=upd H D u:=by
 have n:D≠d:=by rintro rfl;rw [au] at hD;cases hD
 funext b
 by_cases h:b=d
 ·subst h
  rw [au,aH (Ne.symm n)]
  exact e.symm
 ·rw [aH h]
  unfold upd
  rw [if_neg h]
theorem K4 {H:Hp} {d D:Addr} {v:HO} (hD:(upd H d v) D=none):H D=none:=by
 by_cases h:D=d
 ·subst h;rw [au] at hD;cases hD
 ·rw [aH h] at hD;exact hD
theorem Jb {H:Hp} {a:Addr} {o:HO} (e:H a=some o):upd H a o=H:=by
 funext b
 unfold upd
 split
 ·rename_i h;rw [h];exact e.symm
 ·rfl
theorem fB {κ:Type} [DecidableEq κ] {kvs:List (κ×V)} {k:κ} (h:k∉kvs.map (·.1)):b8 kvs k=none:=by
 induction kvs with
 | nil=>rfl
 | cons p r ih=>
  simp only [List.map_cons,List.mem_cons,not_or] at h
  rw [gf (Ne.symm h.1)]
  exact ih h.2
theorem dN {κ:Type} [DecidableEq κ] {kvs:List (κ×V)} {k:κ} {v:V} (nd:(kvs.map (·.1)).Nodup) (h:(k,v)∈kvs):b8 kvs k=some v:=by
 induction kvs with
 | nil=>cases h
 | cons p r ih=>
  simp only [List.map_cons,List.nodup_cons] at nd
  rcases List.mem_cons.mp h with h | h
  ·subst h
   exact gO rfl
  ·have:¬p.1=k:=fun z=>nd.1 (List.mem_map.mpr ⟨_,h,z.symm⟩)
   rw [gf this]
   exact ih nd.2 h
noncomputable def cQ (f:PD->List Str) (ps:List PD):List (Key×V):=ps.flatMap fun p=>(f p).map fun l=>((Sum.inr l:Key),V.str p.name)
theorem xU (f:PD->List Str) (ps:List PD):(cQ f ps).map (·.1)=(ps.flatMap f).map (fun l=>(Sum.inr l:Key)):=by
 induction ps with
 | nil=>rfl
 | cons p r ih=>
  unfold cQ at ih ⊢
  simp only [List.flatMap_cons,List.map_append,ih,List.map_map]
  rfl
theorem eO {l:List Str} (h:l.Nodup):(l.map (fun x=>(Sum.inr x:Key))).Nodup:=by
 induction l with
 | nil=>exact List.nodup_nil
 | cons a r ih=>
  simp only [List.map_cons,List.nodup_cons,List.mem_map] at h ⊢
  refine⟨?_,ih h.2⟩
  rintro⟨b,hb,e⟩
  cases e
  exact h.1 hb
theorem je {f:PD->List Str} {ps:List PD} (nd:(ps.flatMap f).Nodup) {p:PD} (hp:p∈ps) {l:Str} (hl:l∈f p):b8 (cQ f ps) (Sum.inr l)=some (.str p.name):=
 dN (by rw [xU];exact eO nd) (List.mem_flatMap.mpr ⟨p,hp,List.mem_map.mpr ⟨l,hl,rfl⟩⟩)
theorem Ef {f:PD->List Str} {ps:List PD} {l:Str} (h:l∉ps.flatMap f):b8 (cQ f ps) (Sum.inr l)=none:=fB (by
 rw [xU]
 intro z
 obtain⟨b,hb,e⟩:=List.mem_map.mp z
 cases e
 exact h hb)
theorem O1 (f:PD->List Str) (ps:List PD):(cQ f ps).length=(ps.flatMap f).length:=by
 have:=congrArg List.length (xU f ps)
 simpa using this
theorem Dq (f:PD->List Str) (ps:List PD) (p:PD):cQ f (ps ++ [p])=cQ f ps ++ (f p).map fun l=>((Sum.inr l:Key),V.str p.name):=by
 unfold cQ
 rw [List.flatMap_append]
 simp
theorem Nt {α:Type} {f g:α->Bool}:∀{l:List α},(∀a∈l,g a=true->f a=true)->(∃a∈l,f a=true/\g a=false)->(l.filter g).length <(l.filter f).length
 | [],_,h=>by obtain⟨a,ha,_⟩:=h;cases ha
 | x:: r,h,h2=>by
  have le:∀r:List α,(∀a∈r,g a=true->f a=true)->(r.filter g).length<=(r.filter f).length:=fun r=>by
   induction r with
   | nil=>intro _;exact Nat.le_refl _
   | cons y t ih=>
    intro q
    have:=ih fun a ha=>q a (List.mem_cons_of_mem _ ha)
    have q0:=q y List.mem_cons_self
    rw [List.filter_cons,List.filter_cons]
    cases hg:g y
    ·simp only [Bool.false_eq_true,if_false]
     split
     ·rw [List.length_cons];omega
     ·exact this
    ·rw [q0 hg]
     simp only [if_true,List.length_cons]
     omega
  obtain⟨a,ha,hf,hg⟩:=h2
  have hr:=fun a ha=>h a (List.mem_cons_of_mem x ha)
  rw [List.filter_cons,List.filter_cons]
  rcases List.mem_cons.mp ha with rfl | ha
  ·rw [hf,hg]
   have:=le r hr
   simp
   omega
  ·have ih:=Nt hr ⟨a,ha,hf,hg⟩
   have q0:=h x List.mem_cons_self
   cases hx:g x
   ·simp only [Bool.false_eq_true,if_false]
    split
    ·rw [List.length_cons];omega
    ·exact ih
   ·rw [q0 hx]
    simp only [if_true,List.length_cons]
    omega
noncomputable def gA (jk:List (Key×V)) (x:Str):Bool:=(b8 jk (Sum.inr x)).isSome
noncomputable def pL (ps:List PD) (jk:List (Key×V)):Nat:=(ps.filter fun p=>!gA jk p.name).length
theorem JP (jk:List (Key×V)) (x y:Str) (v:V):gA (putK jk (Sum.inr x) v) y=(decide (y=x) || gA jk y):=by
 unfold gA
 rw [QF]
 by_cases h:y=x
 ·subst h;simp
 ·have:¬(Sum.inr y:Key)=Sum.inr x:=fun z=>h (Sum.inr.inj z)
  rw [if_neg this]
  simp [h]
theorem JV {ps:List PD} {jk jk':List (Key×V)} (h:∀x,gA jk x=true->gA jk' x=true) {p:PD} (hp:p∈ps) (h1:gA jk p.name=false) (h2:gA jk' p.name=true):pL ps jk' <pL ps jk:=by
 refine Nt (fun a _ q=>?_) ⟨p,hp,by simp [h1],by simp [h2]⟩
 cases hj:gA jk a.name
 ·rfl
 ·rw [h _ hj] at q;cases q
theorem Pg {ps:List PD} (pm:(ps.flatMap (·.outs)).Perm (ps.flatMap (·.ins))) {l:Str} (h:l∈ps.flatMap (·.outs)):∃a∈ps,∃b∈ps,l∈a.outs/\l∈b.ins:=by
 obtain⟨a,ha,hl⟩:=List.mem_flatMap.mp h
 obtain⟨b,hb,hl2⟩:=List.mem_flatMap.mp (pm.mem_iff.mp h)
 exact⟨a,ha,b,hb,hl,hl2⟩
theorem Vu {ps:List PD} (no:(ps.flatMap (·.outs)).Nodup) (ni:(ps.flatMap (·.ins)).Nodup) (pm:(ps.flatMap (·.outs)).Perm (ps.flatMap (·.ins))) {jk:List (Key×V)} (hang:∃y,∀q∈ps,∃x∈q.ins ++ q.outs,Drawn.jo ps x y)
  (cl:∀a∈ps,∀b∈ps,∀l,l∈a.outs->l∈b.ins->gA jk a.name=gA jk b.name) {p0:PD} (hp0:p0∈ps) (h0:gA jk p0.name=true):∀q∈ps,gA jk q.name=true:=by
 obtain⟨y,hy⟩:=hang
 refine Drawn.Le (J:=fun p=>gA jk p.name=true) (fun l p q hp hq hlp hlq hJ=>?_) hy hp0 h0
 have same:∀{f:PD->List Str},(ps.flatMap f).Nodup->∀{a b:PD},a∈ps->b∈ps->l∈f a->l∈f b->a.name=b.name:=fun {f} nd {a b} ha hb h1 h2=>by
  obtain⟨i,hi,ei⟩:=List.mem_iff_getElem.mp ha
  obtain⟨j,hj,ej⟩:=List.mem_iff_getElem.mp hb
  have:=Drawn.Oi f nd (i:=i) (j:=j) (p:=a) (q:=b) (l:=l) (by rw [List.getElem?_eq_getElem hi,ei]) (by rw [List.getElem?_eq_getElem hj,ej]) h1 h2
  subst this
  rw [<-ei,<-ej]
 have hl:l∈ps.flatMap (·.outs):=by
  rcases List.mem_append.mp hlp with h | h
  ·exact pm.mem_iff.mpr (List.mem_flatMap.mpr ⟨p,hp,h⟩)
  ·exact List.mem_flatMap.mpr ⟨p,hp,h⟩
 obtain⟨a,ha,b,hb,la,lb⟩:=Pg pm hl
 have e:=cl a ha b hb l la lb
 have np:p.name=a.name∨p.name=b.name:=(List.mem_append.mp hlp).elim (fun h=>.inr (same ni hp hb h lb)) fun h=>.inl (same no hp ha h la)
 have nq:q.name=a.name∨q.name=b.name:=(List.mem_append.mp hlq).elim (fun h=>.inr (same ni hq hb h lb)) fun h=>.inl (same no hq ha h la)
 show gA jk q.name=true
 change gA jk p.name=true at hJ
 rcases np with np | np <;> rcases nq with nq | nq <;> rw [np] at hJ <;> rw [nq]
 ·exact hJ
 ·rw [<-e];exact hJ
 ·rw [e];exact hJ
 ·exact hJ
theorem Gr {z:Str} (h:nameB z=true):z.length<=100:=by
 unfold nameB at h
 rw [<-oY]
 split at h
 ·simp_all
 ·rename_i e
  rw [e]
  simp only [Bool.and_eq_true,decide_eq_true_eq] at h
  rw [List.length_cons]
  omega
structure Ai (ls:List aG) (ps:List PD):Prop where
 lok:∀l∈ls,1<=l.room/\l.room<=199/\(l.first.length:Int)<=l.room/\∀v∈l.first,0<=v/\v <1000000000
 pok:∀p∈ps,tM p
 lnm:∀l∈ls,nameB l.name=true
 pnm:∀p∈ps,nameB p.name=true
 pnd:(ps.map (·.name)).Nodup
 whole:Ff (ls.map (·.name)) ps
 l1:1<=ls.length
 l24:ls.length<=24
 p1:1<=ps.length
 p16:ps.length<=16
theorem HY {c:Int} {n:Nat} (hn:n<=26) {x:Str} (h:x∈(List.range n).map (cX c)):∃k,k <n/\x=cX c k:=by
 obtain⟨k,hk,rfl⟩:=List.mem_map.mp h
 exact⟨k,List.mem_range.mp hk,rfl⟩
theorem Ql.fit {c3 c4:Int} {ls:List aG} {ps:List PD} (h:Ql c3 c4 ls ps):Ai ls ps:=by
 have a:=h.l17
 have b:=h.p16
 refine⟨fun l hl=>?_,h.pok,fun l hl=>?_,fun p hp=>?_,?_,h.whole,h.l1,by omega,h.p1,h.p16⟩
 ·obtain⟨x1,x2,x3,x4⟩:=h.lok l hl
  exact⟨x1,by omega,x3,x4⟩
 ·obtain⟨k,hk,e⟩:=HY (c:=c3) (n:=ls.length) (by omega) (by rw [<-h.ln];exact List.mem_map.mpr ⟨l,hl,rfl⟩)
  rw [e]
  exact Mh _ (by omega)
 ·obtain⟨k,hk,e⟩:=HY (c:=c4) (n:=ps.length) (by omega) (h.pn.mem_iff.mpr (List.mem_map.mpr ⟨p,hp,rfl⟩))
  rw [e]
  exact Mh _ (by omega)
 ·exact h.pn.nodup_iff.mp (Ac _ (by omega))
theorem Ql.lane20 {c3 c4:Int} {ls:List aG} {ps:List PD} (h:Ql c3 c4 ls ps):cX c3 20∉ls.map (·.name):=fun z=>by
 have a:=h.l17
 rw [h.ln] at z
 obtain⟨k,hk,e⟩:=HY (by omega) z
 have:=JX _ (by omega) (by omega) e
 omega
noncomputable def cz (ls:List aG):List (Key×V):=ls.map fun l=>((Sum.inr l.name:Key),V.int l.room)
noncomputable def bu (FL:List (aG×Addr)):List (Key×V):=FL.map fun q=>((Sum.inr q.1.name:Key),V.ref q.2)
noncomputable def eG (PL:List (PD×Addr)):List (Key×V):=PL.map fun q=>((Sum.inr q.1.name:Key),V.ref q.2)
theorem mL (ls:List aG):(cz ls).map (·.1)=(ls.map (·.name)).map (fun x=>(Sum.inr x:Key)):=by unfold cz;rw [List.map_map,List.map_map];rfl
theorem oV (FL:List (aG×Addr)):(bu FL).map (·.1)=((FL.map (·.1)).map (·.name)).map (fun x=>(Sum.inr x:Key)):=by unfold bu;rw [List.map_map,List.map_map,List.map_map];rfl
theorem Ah (PL:List (PD×Addr)):(eG PL).map (·.1)=((PL.map (·.1)).map (·.name)).map (fun x=>(Sum.inr x:Key)):=by unfold eG;rw [List.map_map,List.map_map,List.map_map];rfl
structure uM (K:PySem.W.Frag) (t:jH) (H:Hp) (n:Addr) (ls:List aG) (ps:List PD) (dx:Addr) (fs:List (Str×V)) (R F Pd G Tk:Addr) (FL:List (aG×Addr)) (PL:List (PD×Addr)):Prop where
 obj:H n=some (.ins t.dO dx fs)
 fl:Tn ["lane_names", "part_names", "names_of_kind", "gives", "takes", "need_lane_name", "room_of", "first_of", "part_of", "__init__"] [("rooms",.ref R),("firsts",.ref F),("parts",.ref Pd),("givers",.ref G),("takers",.ref Tk)] fs
 rooms:H R=some (.dK (cz ls))
 firsts:H F=some (.dK (bu FL))
 parts:H Pd=some (.dK (eG PL))
 givers:H G=some (.dK (cQ (·.outs) ps))
 takers:H Tk=some (.dK (cQ (·.ins) ps))
 fls:FL.map (·.1)=ls
 pls:PL.map (·.1)=ps
 tups:∀q∈FL,eN K H q.2 (q.1.first.map V.int)
 pats:∀q∈PL,fJ K t H q.2 q.1.kind (.str q.1.name) (q.1.nums.map V.int) (q.1.ins.map V.str) (q.1.outs.map V.str)
 fit:Ai ls ps
 neRF:R≠F
inductive gW (K:PySem.W.Frag) (t:jH) (H:Hp) (n:Addr) (ls:List aG) (ps:List PD):Prop where
 | mk:∀dx fs R F Pd G Tk FL PL,uM K t H n ls ps dx fs R F Pd G Tk FL PL->gW K t H n ls ps
section
variable {H H':Hp} {n dx R F Pd G Tk:Addr} {ls:List aG} {ps:List PD} {fs:List (Str×V)} {FL:List (aG×Addr)} {PL:List (PD×Addr)}
theorem uM.same (N:uM K t H n ls ps dx fs R F Pd G Tk FL PL) (s:aK H H'):uM K t H' n ls ps dx fs R F Pd G Tk FL PL:=
 ⟨s _ _ N.obj,N.fl,s _ _ N.rooms,s _ _ N.firsts,s _ _ N.parts,s _ _ N.givers,s _ _ N.takers,N.fls,N.pls,fun q hq=>s.seqT (N.tups q hq),fun q hq=>(N.pats q hq).same s,N.fit,N.neRF⟩
theorem gW.same (N:gW K t H n ls ps) (s:aK H H'):gW K t H' n ls ps:=by
 obtain⟨dx,fs,R,F,Pd,G,Tk,FL,PL,N⟩:=N
 exact⟨dx,fs,R,F,Pd,G,Tk,FL,PL,N.same s⟩
theorem uM.s (N:uM K t H n ls ps dx fs R F Pd G Tk FL PL):gW K t H n ls ps:=⟨dx,fs,R,F,Pd,G,Tk,FL,PL,N⟩
theorem uM.room (N:uM K t H n ls ps dx fs R F Pd G Tk FL PL) {l:aG} (hl:l∈ls):b8 (cz ls) (Sum.inr l.name)=some (.int l.room):=
 dN (by rw [mL];exact eO N.fit.whole.nod) (List.mem_map.mpr ⟨l,hl,rfl⟩)
theorem uM.firstV (N:uM K t H n ls ps dx fs R F Pd G Tk FL PL) {q:aG×Addr} (hq:q∈FL):b8 (bu FL) (Sum.inr q.1.name)=some (.ref q.2):=
 dN (by rw [oV,N.fls];exact eO N.fit.whole.nod) (List.mem_map.mpr ⟨q,hq,rfl⟩)
theorem uM.partV (N:uM K t H n ls ps dx fs R F Pd G Tk FL PL) {q:PD×Addr} (hq:q∈PL):b8 (eG PL) (Sum.inr q.1.name)=some (.ref q.2):=
 dN (by rw [Ah,N.pls];exact eO N.fit.pnd) (List.mem_map.mpr ⟨q,hq,rfl⟩)
theorem uM.ono (N:uM K t H n ls ps dx fs R F Pd G Tk FL PL):(ps.flatMap (·.outs)).Nodup:=N.fit.whole.outs.nodup_iff.mpr N.fit.whole.nod
theorem uM.ini (N:uM K t H n ls ps dx fs R F Pd G Tk FL PL):(ps.flatMap (·.ins)).Nodup:=N.fit.whole.ins.nodup_iff.mpr N.fit.whole.nod
end
theorem Jg {α:Type} {f:α->Str} {xs:List α} {x:Str}:inV (.str x) (xs.map fun p=>V.str (f p))=decide (x∈xs.map f):=by
 rw [Bool.eq_iff_iff]
 unfold inV
 rw [List.any_eq_true,decide_eq_true_eq]
 constructor
 ·rintro⟨v,hv,e⟩
  obtain⟨p,hp,rfl⟩:=List.mem_map.mp hv
  exact List.mem_map.mpr ⟨p,hp,by simpa [Io] using e⟩
 ·intro h
  obtain⟨p,hp,rfl⟩:=List.mem_map.mp h
  exact⟨.str (f p),List.mem_map.mpr ⟨p,hp,rfl⟩,by simp [Io]⟩
noncomputable def dX (ps:List PD) (x:Str):List V:=(ps.filter fun p=>decide (cL p.kind=x)).map fun p=>V.str p.name
theorem Gg (ps:List PD) (x:Str) (p:PD):dX (ps ++ [p]) x=if cL p.kind=x then dX ps x ++ [V.str p.name] else dX ps x:=by
 unfold dX
 rw [List.filter_append,List.map_append]
 by_cases h:cL p.kind=x
 ·rw [if_pos h];simp [h]
 ·rw [if_neg h];simp [h]
theorem rG (ps:List PD) (x:Str):(dX ps x).length<=ps.length:=by
 unfold dX
 rw [lM]
 exact List.length_filter_le _ _
noncomputable def Za (p:PD):Bool:=decide (cL p.kind= "choose") || decide (cL p.kind= "split")
noncomputable def oddN (ps:List PD):V:=match ps.find? Za with
 | some p=>.str p.name
 | none=>.non
inductive Jr (K:PySem.W.Frag) (H:Hp) (v:V) (l:aG):Prop where
 | mk:∀q f,v=.ref q->H q=some (.tup [.str l.name,.int l.room,.ref f])->eN K H f (l.first.map V.int)->Jr K H v l
inductive Qp (K:PySem.W.Frag) (H:Hp) (v:V) (p:PD):Prop where
 | mk:∀q a1 a2 a3,v=.ref q->H q=some (.tup [.str (cL p.kind),.str p.name,.ref a1,.ref a2,.ref a3])->eN K H a1 (p.nums.map V.int)->eN K H a2 (p.ins.map V.str)->eN K H a3 (p.outs.map V.str)->Qp K H v p
theorem Jr.same {H H':Hp} {v:V} {l:aG} (h:Jr K H v l) (s:aK H H'):Jr K H' v l:=by
 obtain⟨q,f,e,h1,h2⟩:=h
 exact⟨q,f,e,s _ _ h1,s.seqT h2⟩
theorem Qp.same {H H':Hp} {v:V} {p:PD} (h:Qp K H v p) (s:aK H H'):Qp K H' v p:=by
 obtain⟨q,a1,a2,a3,e,h1,h2,h3,h4⟩:=h
 exact⟨q,a1,a2,a3,e,s _ _ h1,s.seqT h2,s.seqT h3,s.seqT h4⟩
structure Ln (K:PySem.W.Frag) (H:Hp) (T a b:Addr) (ls:List aG) (ps:List PD):Prop where
 tup:H T=some (.tup [.ref a,.ref b])
 lanes:∃xs,H a=some (.lst xs)/\jT (Jr K H) xs ls
 parts:∃xs,H b=some (.lst xs)/\jT (Qp K H) xs ps
theorem Ln.same {H H':Hp} {T a b:Addr} {ls:List aG} {ps:List PD} (h:Ln K H T a b ls ps) (s:aK H H'):Ln K H' T a b ls ps:=by
 obtain⟨h1,⟨xs,e1,a1⟩,⟨ys,e2,a2⟩⟩:=h
 exact⟨s _ _ h1,⟨xs,s _ _ e1,a1.imp fun _ _ h=>h.same s⟩,⟨ys,s _ _ e2,a2.imp fun _ _ h=>h.same s⟩⟩
structure Tr (H:Hp) (f:Addr) (L:List (Addr×HO)) (Hk:Hp):Prop where
 but:lO f H Hk
 all:∀p∈L,Hk p.1=some p.2
 fre:∀p∈L,p.1=f∨H p.1=none
 nod:(L.map Prod.fst).Nodup
 obj:∃o,(f,o)∈L
theorem Tr.free {H Hk:Hp} {f x:Addr} {L:List (Addr×HO)} (T:Tr H f L Hk) (nx:Hk x=none):H x=none:=by
 cases e:H x with
 | none=>rfl
 | some o=>
  by_cases h:x=f
  ·obtain⟨u,hu⟩:=T.obj
   have:=T.all _ hu
   rw [h] at nx
   rw [nx] at this
   cases this
  ·rw [T.but x o h e] at nx
   cases nx
theorem Tr.new {H Hk:Hp} {f x:Addr} {L:List (Addr×HO)} {o:HO} (T:Tr H f L Hk) (nx:Hk x=none):Tr H f (L ++ [(x,o)]) (upd Hk x o):=by
 have hne:∀p∈L,p.1≠x:=fun p hp z=>by have:=T.all p hp;rw [z,nx] at this;cases this
 have hx:=T.free nx
 refine⟨fun b u n e=>by rw [aH (aD e hx)];exact T.but b u n e,fun p hp=>?_,fun p hp=>?_,?_,?_⟩
 ·rcases List.mem_append.mp hp with h | h
  ·rw [aH (hne p h)];exact T.all p h
  ·rw [List.mem_singleton] at h;subst h;exact au
 ·rcases List.mem_append.mp hp with h | h
  ·exact T.fre p h
  ·rw [List.mem_singleton] at h;subst h;exact .inr hx
 ·rw [List.map_append,List.nodup_append]
  refine⟨T.nod,by simp,fun a ha b hb=>?_⟩
  obtain⟨p,hp,rfl⟩:=List.mem_map.mp ha
  simp at hb
  subst hb
  exact hne p hp
 ·obtain⟨u,hu⟩:=T.obj
  exact⟨u,List.mem_append.mpr (.inl hu)⟩
theorem Tr.same {H Hk Hk':Hp} {f:Addr} {L:List (Addr×HO)} (T:Tr H f L Hk) (s:aK Hk Hk'):Tr H f L Hk':=
 ⟨fun b u n e=>s _ _ (T.but b u n e),fun p hp=>s _ _ (T.all p hp),T.fre,T.nod,T.obj⟩
theorem Tr.put {H Hk:Hp} {f x:Addr} {o o':HO} {L1 L2:List (Addr×HO)} (T:Tr H f (L1 ++ (x,o):: L2) Hk):Tr H f (L1 ++ (x,o'):: L2) (upd Hk x o'):=by
 have hx:x=f∨H x=none:=T.fre (x,o) (by simp)
 have nd:=T.nod
 rw [List.map_append,List.map_cons,List.nodup_append] at nd
 obtain⟨n1,n2,n3⟩:=nd
 rw [List.nodup_cons] at n2
 refine⟨fun b u n e=>?_,fun p hp=>?_,fun p hp=>?_,?_,?_⟩
 ·have:b≠x:=by
   rcases hx with rfl | hx
   ·exact n
   ·exact aD e hx
  rw [aH this];exact T.but b u n e
 ·rcases List.mem_append.mp hp with h | h
  ·have:p.1≠x:=n3 p.1 (List.mem_map.mpr ⟨p,h,rfl⟩) x (by simp)
   rw [aH this];exact T.all p (by simp [h])
  ·rcases List.mem_cons.mp h with rfl | h
   ·exact au
   ·have:p.1≠x:=fun z=>n2.1 (by rw [<-z];exact List.mem_map.mpr ⟨p,h,rfl⟩)
    rw [aH this];exact T.all p (by simp [h])
 ·rcases List.mem_append.mp hp with h | h
  ·exact T.fre p (by simp [h])
  ·rcases List.mem_cons.mp h with rfl | h
   ·exact hx
   ·exact T.fre p (by simp [h])
 ·have:=T.nod
  rw [List.map_append,List.map_cons] at this ⊢
  exact this
 ·obtain⟨u,hu⟩:=T.obj
  rcases List.mem_append.mp hu with h | h
  ·exact⟨u,by simp [h]⟩
  ·rcases List.mem_cons.mp h with h | h
   ·cases h;exact⟨o',by simp⟩
   ·exact⟨u,by simp [h]⟩
theorem Tr.start {H:Hp} {f:Addr} {o:HO} (e:H f=some o):Tr H f [(f,o)] H:=⟨lO.refl _,fun p hp=>by rw [List.mem_singleton] at hp;subst hp;exact e,fun p hp=>by rw [List.mem_singleton] at hp;subst hp;exact .inl rfl,by simp,o,by simp⟩
inductive Vk (K:PySem.W.Frag) (H:Hp) (v:V) (l:aG):Prop where
 | mk:∀q f,v=.ref q->H q=some (.tup [.str l.name,.int l.room,.ref f])->yx K H f (l.first.map V.int)->Vk K H v l
inductive XX (K:PySem.W.Frag) (H:Hp) (v:V) (p:PD):Prop where
 | mk:∀q a1 a2 a3,v=.ref q->H q=some (.tup [.str (cL p.kind),.str p.name,.ref a1,.ref a2,.ref a3])->yx K H a1 (p.nums.map V.int)->yx K H a2 (p.ins.map V.str)->yx K H a3 (p.outs.map V.str)->XX K H v p
structure Hand (K:PySem.W.Frag) (H:Hp) (Ll Lp:Addr) (ls:List aG) (ps:List PD):Prop where
 ll:∃xs,bL K H Ll xs/\jT (Vk K H) xs ls
 lp:∃xs,bL K H Lp xs/\jT (XX K H) xs ps
theorem jt {α:Type} {f:α->Str} {xs:List α} (nd:(xs.map f).Nodup) {j:Nat} {x:α} (h:xs[j]?=some x):f x∉(xs.take j).map f:=fun hm=>by
 have hj:=(List.getElem?_eq_some_iff.mp h).1
 have e:xs[j]=x:=(List.getElem?_eq_some_iff.mp h).2
 rw [List.map_take] at hm
 obtain⟨i,hi,ei⟩:=List.mem_iff_getElem.mp hm
 rw [List.length_take,lM] at hi
 rw [List.getElem_take] at ei
 have e2:(xs.map f)[j]'(by rw [lM];exact hj)=f x:=by rw [List.getElem_map,e]
 have:=(List.getElem_inj nd).mp (ei.trans e2.symm)
 omega
theorem Mp {f:PD->List Str} {ps:List PD} (nd:(ps.flatMap f).Nodup) {j:Nat} {p:PD} (h:ps[j]?=some p):(f p).Nodup/\∀z∈f p,z∉(ps.take j).flatMap f:=by
 have hj:=(List.getElem?_eq_some_iff.mp h).1
 have e:ps[j]=p:=(List.getElem?_eq_some_iff.mp h).2
 have e2:ps=ps.take j ++ p:: ps.drop (j+1):=by rw [<-e,<-List.drop_eq_getElem_cons hj,List.take_append_drop]
 rw [e2,List.flatMap_append,List.flatMap_cons,List.nodup_append] at nd
 obtain⟨n1,n2,n3⟩:=nd
 rw [List.nodup_append] at n2
 exact⟨n2.1,fun z hz hm=>n3 z hm z (List.mem_append.mpr (.inl hz)) rfl⟩
inductive Ph (K:PySem.W.Frag) (t:jH) (H H':Hp) (n:Addr) (ls:List aG) (ps:List PD):Prop where
 | mk:∀dx fs R F Pd G Tk FL PL,uM K t H' n ls ps dx fs R F Pd G Tk FL PL->(∀a∈[R,F,Pd,G,Tk],H a=none)->Ph K t H H' n ls ps
theorem Ph.s {H H':Hp} {n:Addr} {ls:List aG} {ps:List PD} (N:Ph K t H H' n ls ps):gW K t H' n ls ps:=by
 obtain⟨dx,fs,R,F,Pd,G,Tk,FL,PL,N,_⟩:=N
 exact N.s
theorem Ph.cut {H H':Hp} {n:Addr} {ls:List aG} {ps:List PD} {E:List Addr} (N:Ph K t H H' n ls ps) (hE:∀a∈E,(∃o,H a=some o)/\((∃k,H' a=some (.dK k))∨∃x,H' a=some (.lst x))):gW K t (aZ E H') n ls ps:=by
 obtain⟨dx,fs,R,F,Pd,G,Tk,FL,PL,N,nw⟩:=N
 have g1:∀{a:Addr} {o:HO},H' a=some o->(∀k,o≠.dK k)->(∀x,o≠.lst x)->aZ E H' a=some o:=fun {a o} e h1 h2=>bY e fun z=>by
  rcases(hE a z).2 with ⟨k,e'⟩ | ⟨k,e'⟩ <;> rw [e] at e'
  ·exact h1 _ (Option.some.inj e')
  ·exact h2 _ (Option.some.inj e')
 have g2:∀{a:Addr} {o:HO},H' a=some o->a∈[R,F,Pd,G,Tk]->aZ E H' a=some o:=fun {a o} e h=>bY e fun z=>by
  obtain⟨u,e'⟩:=(hE a z).1
  rw [nw a h] at e'
  cases e'
 have g3:∀{a:Addr} {xs:List V},eN K H' a xs->eN K (aZ E H') a xs:=fun h=>by
  rcases h with (h | ⟨o,h⟩) | h
  ·exact .inl (.inl (g1 h (by intro _ z;cases z) (by intro _ z;cases z)))
  ·exact .inl (.inr ⟨o,g1 h (by intro _ z;cases z) (by intro _ z;cases z)⟩)
  ·exact .inr h
 refine⟨dx,fs,R,F,Pd,G,Tk,FL,PL,g1 N.obj (by intro _ z;cases z) (by intro _ z;cases z),N.fl,g2 N.rooms (by simp),g2 N.firsts (by simp),g2 N.parts (by simp),g2 N.givers (by simp),g2 N.takers (by simp),N.fls,N.pls,fun q hq=>g3 (N.tups q hq),fun q hq=>?_,N.fit,N.neRF⟩
 obtain⟨dx',tn,ti,to,h1,h2,h3,h4⟩:=N.pats q hq
 exact⟨dx',tn,ti,to,g1 h1 (by intro _ z;cases z) (by intro _ z;cases z),g3 h2,g3 h3,g3 h4⟩
theorem Rg (xs:List V) (g:Nat):wu xs (some (g:Int)) none=xs.drop g:=by
 unfold wu
 rw [HT.yV,HT.vU,<-List.length_drop,List.take_length]
 rcases Nat.le_total g xs.length with h | h
 ·rw [Nat.min_eq_left h]
 ·rw [Nat.min_eq_right h,List.drop_eq_nil_of_le h,List.drop_eq_nil_of_le (Nat.le_refl _)]
structure qO (K:PySem.W.Frag) (t:jH) (H:Hp) (f n E G Kp D Rw:Addr):Prop where
 ex:∃dx fs,H f=some (.ins t.cB dx fs)/\Tn ["holds", "held_now", "gone_by", "row_left", "head", "heads", "lacking", "row_ended", "deed", "do"] [("net",.ref n),("ever",.ref E),("gone",.ref G),("kept",.ref Kp),("done",.ref D),("rows",.ref Rw)] fs
theorem qO.same {H H':Hp} {f n E G Kp D Rw:Addr} (h:qO K t H f n E G Kp D Rw) (s:aK H H'):qO K t H' f n E G Kp D Rw:=by
 obtain⟨dx,fs,h1,h2⟩:=h
 exact⟨dx,fs,s _ _ h1,h2⟩
noncomputable def gQ (i:Nat) (xs:List Str) (hs:List V):V:=match (places i hs).find? (kJ hs) with
 | some q=>((xs[q]?).map V.str).getD .non
 | none=>.non
theorem rR {H:Hp}:∀{rs:List Addr} {vss:List (List V)} {j:Nat} {r:Addr},fH H rs vss->rs[j]?=some r->∃vs,vss[j]?=some vs/\H r=some (.tup vs)
 | _,_,_,_,.nil,e=>by simp at e
 | _,_,0,_,.cons h _,e=>by simp at e;subst e;exact⟨_,rfl,h⟩
 | _,_,j+1,_,.cons _ t,e=>by
  obtain⟨vs,h1,h2⟩:=rR (j:=j) t (by simpa using e)
  exact⟨vs,by simpa using h1,h2⟩
theorem places_len {i:Nat} {hs:List V} (h:tK i hs):(places i hs).length<=3:=by
 have h3:=Aq i
 have h1:=h.1
 unfold places
 by_cases hi:i=9
 ·rw [if_pos hi]
  split <;> simp
 ·rw [if_neg hi,List.length_range]
  omega
theorem Tr.got {H Hk Hk':Hp} {f x:Addr} {L:List (Addr×HO)} {o:HO} (T:Tr H f L Hk) (s:aK Hk Hk') (nx:Hk x=none) (ex:Hk' x=some o):Tr H f (L ++ [(x,o)]) Hk':=by
 have T':=T.same s
 have hx:=T.free nx
 refine⟨T'.but,fun p hp=>?_,fun p hp=>?_,?_,?_⟩
 ·rcases List.mem_append.mp hp with h | h
  ·exact T'.all p h
  ·rw [List.mem_singleton] at h;subst h;exact ex
 ·rcases List.mem_append.mp hp with h | h
  ·exact T.fre p h
  ·rw [List.mem_singleton] at h;subst h;exact .inr hx
 ·rw [List.map_append,List.nodup_append]
  refine⟨T.nod,by simp,fun a ha b hb z=>?_⟩
  obtain⟨p,hp,rfl⟩:=List.mem_map.mp ha
  simp at hb
  have:=T.all p hp
  rw [z,hb,nx] at this
  cases this
 ·obtain⟨u,hu⟩:=T.obj
  exact⟨u,List.mem_append.mpr (.inl hu)⟩
theorem Gw {α:Type} {a b c d e f g x:α} {M:List α} (h:x∈M):x∈a:: b:: c:: d:: e:: f:: g:: M:=by simp [h]
theorem Tr.perm {H Hk:Hp} {f:Addr} {L L':List (Addr×HO)} (T:Tr H f L Hk) (h:L.Perm L'):Tr H f L' Hk:=
 ⟨T.but,fun p hp=>T.all p (h.mem_iff.mpr hp),fun p hp=>T.fre p (h.mem_iff.mpr hp),(h.map _).nodup_iff.mp T.nod,by obtain⟨o,ho⟩:=T.obj;exact⟨o,h.mem_iff.mp ho⟩⟩
theorem Tr.sub {H Hk:Hp} {f:Addr} {L L':List (Addr×HO)} (T:Tr H f L Hk) (h:L'.Sublist L) (hf:∃o,(f,o)∈L'):Tr H f L' Hk:=
 ⟨T.but,fun p hp=>T.all p (h.subset hp),fun p hp=>T.fre p (h.subset hp),T.nod.sublist (h.map _),hf⟩
noncomputable def fQ (EL:List (aG×Addr)):List (Addr×HO):=EL.map fun q=>(q.2,HO.lst (q.1.first.map V.int))
noncomputable def dC (g:Str->Nat) (ls:List aG):List (Key×V):=ls.map fun l=>((Sum.inr l.name:Key),V.int (g l.name:Nat))
noncomputable def bC (k:Str->Int) (ps:List PD):List (Key×V):=ps.map fun p=>((Sum.inr p.name:Key),V.int (k p.name))
theorem Dm (g:Str->Nat) (ls:List aG):(dC g ls).map (·.1)=(ls.map (·.name)).map (fun x=>(Sum.inr x:Key)):=by unfold dC;rw [List.map_map,List.map_map];rfl
theorem xK (k:Str->Int) (ps:List PD):(bC k ps).map (·.1)=(ps.map (·.name)).map (fun x=>(Sum.inr x:Key)):=by unfold bC;rw [List.map_map,List.map_map];rfl
noncomputable def fG (ps:List PD) (x:Str):Int:=((ps.find? fun p=>decide (p.name=x)).map fun p=>if p.kind=5 then p.nums.headD 0 else 0).getD 0
noncomputable def GR (p:PD):Int:=if p.kind=5 then p.nums.headD 0 else 0
theorem find_name {α:Type} {f:α->Str}:∀{ls:List α} (_:(ls.map f).Nodup) {l:α} (_:l∈ls),ls.find? (fun x=>decide (f x=f l))=some l
 | a:: r,nd,l,hl=>by
  rw [List.map_cons,List.nodup_cons] at nd
  rcases List.mem_cons.mp hl with rfl | h
  ·rw [List.find?_cons_of_pos (by simp)]
  ·have:¬f a=f l:=fun z=>nd.1 (by rw [z];exact List.mem_map.mpr ⟨l,h,rfl⟩)
   rw [List.find?_cons_of_neg (by simp [this])]
   exact find_name nd.2 h
theorem Ai.inL {ls:List aG} {ps:List PD} (F:Ai ls ps) {p:PD} (hp:p∈ps) {x:Str} (hx:x∈p.ins ++ p.outs):∃l∈ls,l.name=x:=by
 rcases List.mem_append.mp hx with h | h
 ·exact List.mem_map.mp (F.whole.ins.mem_iff.mp (List.mem_flatMap.mpr ⟨p,hp,h⟩))
 ·exact List.mem_map.mp (F.whole.outs.mem_iff.mp (List.mem_flatMap.mpr ⟨p,hp,h⟩))
theorem xG {α β:Type} {f:α->β}:∀{l:List α},(l.map f).Nodup->∀{a b:α},a∈l->b∈l->f a=f b->a=b
 | x:: r,nd,a,b,ha,hb,e=>by
  rw [List.map_cons,List.nodup_cons] at nd
  rcases List.mem_cons.mp ha with h1 | h1
  ·rcases List.mem_cons.mp hb with h2 | h2
   ·rw [h1,h2]
   ·exact absurd (List.mem_map.mpr ⟨b,h2,by rw [<-e,h1]⟩) nd.1
  ·rcases List.mem_cons.mp hb with h2 | h2
   ·exact absurd (List.mem_map.mpr ⟨a,h1,by rw [e,h2]⟩) nd.1
   ·exact xG nd.2 h1 h2 e
noncomputable def Wq:V->Int
 | .int n=>n
 | _=>0
structure FS where
 ev:Str->List Int
 g:Str->Nat
 k:Str->Int
 d:Str->Nat
 r:Str->List Int
structure oO where
 (f n E G Kp D Rw:Addr)
 (ea ra:Str->Addr)
noncomputable def lF (ps:List PD):List PD:=ps.filter fun p=>decide (p.kind=0)
noncomputable def Je (ea:Str->Addr) (ls:List aG):List (Key×V):=ls.map fun l=>((Sum.inr l.name:Key),V.ref (ea l.name))
noncomputable def Kr (ra:Str->Addr) (ps:List PD):List (Key×V):=(lF ps).map fun p=>((Sum.inr p.name:Key),V.ref (ra p.name))
noncomputable def oO.cells (A:oO) (ls:List aG) (ps:List PD):List Addr:=A.E:: A.G:: A.Kp:: A.D:: A.Rw:: (ls.map (fun l=>A.ea l.name) ++ (lF ps).map (fun p=>A.ra p.name))
structure dJ (K:PySem.W.Frag) (t:jH) (H:Hp) (A:oO) (ls:List aG) (ps:List PD) (S:FS):Prop where
 at':qO K t H A.f A.n A.E A.G A.Kp A.D A.Rw
 ever:H A.E=some (.dK (Je A.ea ls))
 lists:∀l∈ls,H (A.ea l.name)=some (.lst ((S.ev l.name).map V.int))
 gone:H A.G=some (.dK (dC S.g ls))
 kept:H A.Kp=some (.dK (bC S.k ps))
 done:H A.D=some (.dK (bC (fun x=>(S.d x:Int)) ps))
 rows:H A.Rw=some (.dK (Kr A.ra ps))
 rlst:∀p∈ps,p.kind=0->H (A.ra p.name)=some (.lst ((S.r p.name).map V.int))
 nod:(A.cells ls ps).Nodup
theorem dJ.same {H H':Hp} {A:oO} {ls:List aG} {ps:List PD} {S:FS} (h:dJ K t H A ls ps S) (s:aK H H'):dJ K t H' A ls ps S:=
 ⟨h.at'.same s,s _ _ h.ever,fun l hl=>s _ _ (h.lists l hl),s _ _ h.gone,s _ _ h.kept,s _ _ h.done,s _ _ h.rows,fun p hp h0=>s _ _ (h.rlst p hp h0),h.nod⟩
structure Kg (b:Nat) (ls:List aG) (ps:List PD) (S:FS):Prop where
 vb:∀l∈ls,∀v∈S.ev l.name,0<=v/\v <1000000000
 rb:∀p∈ps,p.kind=0->∀v∈S.r p.name,0<=v/\v <1000000000
 dl:∀p∈ps,p.kind=0->S.d p.name<=(S.r p.name).length
 len:∀l∈ls,(S.ev l.name).length<=b
 rl:∀p∈ps,p.kind=0->(S.r p.name).length<=300
theorem RZ (ea:Str->Addr) (ls:List aG):(Je ea ls).map (·.1)=(ls.map (·.name)).map (fun x=>(Sum.inr x:Key)):=by unfold Je;rw [List.map_map,List.map_map];rfl
theorem lQ {ea:Str->Addr} {ls:List aG} (nd:(ls.map (·.name)).Nodup) {l:aG} (hl:l∈ls):b8 (Je ea ls) (Sum.inr l.name)=some (.ref (ea l.name)):=
 dN (by rw [RZ];exact eO nd) (List.mem_map.mpr ⟨l,hl,rfl⟩)
theorem rP {g:Str->Nat} {ls:List aG} (nd:(ls.map (·.name)).Nodup) {l:aG} (hl:l∈ls):b8 (dC g ls) (Sum.inr l.name)=some (.int (g l.name:Nat)):=
 dN (by rw [Dm];exact eO nd) (List.mem_map.mpr ⟨l,hl,rfl⟩)
theorem lH {k:Str->Int} {ps:List PD} (nd:(ps.map (·.name)).Nodup) {p:PD} (hp:p∈ps):b8 (bC k ps) (Sum.inr p.name)=some (.int (k p.name)):=
 dN (by rw [xK];exact eO nd) (List.mem_map.mpr ⟨p,hp,rfl⟩)
theorem FP (ra:Str->Addr) (ps:List PD):(Kr ra ps).map (·.1)=((lF ps).map (·.name)).map (fun x=>(Sum.inr x:Key)):=by unfold Kr;rw [List.map_map,List.map_map];rfl
theorem Up {ps:List PD} (nd:(ps.map (·.name)).Nodup):((lF ps).map (·.name)).Nodup:=nd.sublist (List.filter_sublist.map _)
theorem DP {ra:Str->Addr} {ps:List PD} (nd:(ps.map (·.name)).Nodup) {p:PD} (hp:p∈ps) (h0:p.kind=0):b8 (Kr ra ps) (Sum.inr p.name)=some (.ref (ra p.name)):=
 dN (by rw [FP];exact eO (Up nd)) (List.mem_map.mpr ⟨p,List.mem_filter.mpr ⟨hp,by simp [h0]⟩,rfl⟩)
theorem Nb {ra:Str->Addr} {ps:List PD} (nd:(ps.map (·.name)).Nodup) {p:PD} (hp:p∈ps) (h0:p.kind≠0):b8 (Kr ra ps) (Sum.inr p.name)=none:=by
 refine fB ?_
 rw [FP]
 intro z
 obtain⟨b,hb,e⟩:=List.mem_map.mp z
 cases e
 obtain⟨p',hp',en⟩:=List.mem_map.mp hb
 have hf:=List.mem_filter.mp hp'
 have a1:=find_name nd hf.1
 have a2:=find_name nd hp
 rw [en] at a1
 rw [a1] at a2
 cases a2
 exact h0 (by simpa using hf.2)
noncomputable def kY (S:FS) (x:Str):V:=(((S.ev x)[S.g x]?).map V.int).getD .non
noncomputable def aV (S:FS) (p:PD):List V:=p.ins.map (kY S)
structure ji where
 tk:List Str
 gv:List (Str×Int)
 kv:Int
noncomputable def strAt (xs:List Str) (q:Nat):Str:=(xs[q]?).getD Str.empty
noncomputable def rA (S:FS) (p:PD):List Int:=if p.kind=0 then((S.r p.name)[S.d p.name]?).toList else(places p.kind (aV S p)).map fun q=>Wq (((aV S p)[q]?).getD .non)
noncomputable def xJ (S:FS) (p:PD):Bool:=decide (p.kind=0) && decide (S.d p.name=(S.r p.name).length)
noncomputable def j9 (S:FS) (p:PD):Option ji:=if gQ p.kind p.ins (aV S p)≠.non then none else if xJ S p=true then none else
 some ⟨(places p.kind (aV S p)).map (strAt p.ins),(cH p.kind p.nums (rA S p) (S.k p.name)).map fun pv=>(strAt p.outs pv.1.toNat,pv.2),dR p.kind (rA S p) (S.k p.name)⟩
inductive jZ (M:List Addr) (H:Hp) (U:Addr) (dd:ji):Prop where
 | mk:∀La Lg rs,H U=some (.tup [.ref La,.ref Lg,.int dd.kv])->H La=some (.lst (dd.tk.map V.str))->H Lg=some (.lst (rs.map V.ref))->(fH H rs (dd.gv.map fun q=>[.str q.1,.int q.2]))->La∉M->Lg∉M->jZ M H U dd
theorem jZ.same {M:List Addr} {H H':Hp} {U:Addr} {dd:ji} (h:jZ M H U dd) (s:aK H H'):jZ M H' U dd:=by
 obtain⟨La,Lg,rs,a,b,c,d,e,f⟩:=h
 exact⟨La,Lg,rs,s _ _ a,s _ _ b,s _ _ c,fH.same s d,e,f⟩
theorem o7 (S:FS) (p:PD) (h:tM p):tK p.kind (aV S p):=by
 refine⟨by unfold aV;rw [lM];exact h.2.2.1,fun v hv=>?_⟩
 obtain⟨x,_,rfl⟩:=List.mem_map.mp hv
 unfold kY
 cases (S.ev x)[S.g x]? with
 | none=>exact .inl rfl
 | some n=>exact .inr ⟨n,rfl⟩
theorem dJ.cell {H:Hp} {A:oO} {ls:List aG} {ps:List PD} {S:FS} (h:dJ K t H A ls ps S) {a:Addr} (ha:H a=none):a∉A.cells ls ps:=by
 intro z
 have no:∀{b:Addr} {u:HO},H b=some u->a=b->False:=fun e q=>by rw [<-q,ha] at e;cases e
 unfold oO.cells at z
 simp only [List.mem_cons,List.mem_append,List.mem_map] at z
 rcases z with z | z | z | z | z | ⟨l,hl,z⟩ | ⟨p,hp,z⟩
 ·exact no h.ever z
 ·exact no h.gone z
 ·exact no h.kept z
 ·exact no h.done z
 ·exact no h.rows z
 ·exact no (h.lists l hl) z.symm
 ·have hf:=List.mem_filter.mp hp
  exact no (h.rlst p hf.1 (by simpa using hf.2)) z.symm
noncomputable def m8 (t:jH) (H:Hp) (r n f:Addr) (k:Nat):Prop:=∃dx fs,(H r=some (.ins t.pO dx fs)/\fs.length<=k+3)/\Tn ["step", "need_doors", "next_deed", "full_lane", "can_work", "works", "lane_now", "turn"] [("net",.ref n),("flow",.ref f),("turns",.int (k:Nat))] fs
theorem m8.same {H H':Hp} {r n f:Addr} {k:Nat} (h:m8 t H r n f k) (s:aK H H'):m8 t H' r n f k:=by
 obtain⟨dx,fs,h1,h2⟩:=h
 exact⟨dx,fs,⟨s _ _ h1.1,h1.2⟩,h2⟩
structure Gd (n:Nat) (d:PyData):Prop where
 eq:PyData.eqv d d=true
 lay:PyData.canLay0 d=true
 dep:PyData.depth d<=n
theorem Gd.all {n:Nat}:∀{ds:List PyData},(∀d∈ds,Gd n d)->PyData.eqvAll ds ds=true/\PyData.canLayAll0 ds=true/\PyData.depthAll ds<=n
 | [],_=>⟨by simp [PyData.eqvAll],by simp [PyData.canLayAll0],by simp [PyData.depthAll]⟩
 | d:: r,h=>by
  obtain⟨h1,h2,h3⟩:=Gd.all (ds:=r) fun x hx=>h x (List.mem_cons_of_mem _ hx)
  have g:=h d List.mem_cons_self
  have g3:=g.dep
  refine⟨by simp [PyData.eqvAll,g.eq,h1],by simp [PyData.canLayAll0,g.lay,h2],?_⟩
  simp only [PyData.depthAll]
  omega
theorem Gd.list {n:Nat} {ds:List PyData} (h:∀d∈ds,Gd n d):Gd (n+1) (.list ds):=by
 obtain⟨h1,h2,h3⟩:=Gd.all h
 exact⟨by simp [PyData.eqv,h1],by simp [PyData.canLay0,h2],by simp only [PyData.depth];omega⟩
theorem Gd.tuple {n:Nat} {ds:List PyData} (h:∀d∈ds,Gd n d):Gd (n+1) (.tuple ds):=by
 obtain⟨h1,h2,h3⟩:=Gd.all h
 exact⟨by simp [PyData.eqv,h1],by simp [PyData.canLay0,h2],by simp only [PyData.depth];omega⟩
theorem Gd.int (n:Nat) (i:Int):Gd n (.int i):=⟨by simp [PyData.eqv],by simp [PyData.canLay0],by simp [PyData.depth]⟩
theorem Gd.str (n:Nat) {x:Str} (h:PyData.strOk x=true):Gd n (.str x):=⟨by simp [PyData.eqv],by simp [PyData.canLay0,h],by simp [PyData.depth]⟩
theorem Gd.ints (n:Nat) (ws:List Int):∀d∈ws.map PyData.int,Gd n d:=fun d hd=>by
 obtain⟨i,_,rfl⟩:=List.mem_map.mp hd
 exact .int n i
theorem Gd.strs (n:Nat) {xs:List Str} (h:∀x∈xs,PyData.strOk x=true):∀d∈xs.map PyData.str,Gd n d:=fun d hd=>by
 obtain⟨x,hx,rfl⟩:=List.mem_map.mp hd
 exact .str n (h x hx)
theorem Gd.shaped {n:Nat} {d:PyData} (h:Gd n d) (hn:n<=64):SeqAt.shaped d=true:=by
 have:=h.dep
 unfold SeqAt.shaped
 rw [h.lay,decide_eq_true (show d.depth<=64 by omega)]
 rfl
theorem Mv {z:Str} (h:nameB z=true):PyData.strOk z=true:=by
 have e:∀c∈z.cps.toList,c <0x110000:=fun c hc=>by
  unfold nameB at h
  split at h
  ·cases h
  ·rename_i c0 r e
   rw [e] at hc
   simp only [Bool.and_eq_true,List.all_eq_true,Bool.or_eq_true] at h
   have:=h.2.2 c hc
   unfold low KN at this
   simp only [Bool.and_eq_true,decide_eq_true_eq] at this
   omega
 unfold PyData.strOk
 rw [Array.all_eq_true']
 intro c hc
 exact decide_eq_true (e c (by simpa using hc))
theorem M9 {H:Hp}:∀ws:List Int,Pn K H (ws.map V.int) (ws.map PyData.int)
 | []=>.nil
 | i:: r=>.cons (.int i) (M9 r)
theorem Nh {H:Hp}:∀xs:List Str,Pn K H (xs.map V.str) (xs.map PyData.str)
 | []=>.nil
 | x:: r=>.cons (.str x) (Nh r)
theorem BP {H:Hp} {p:Addr} {ws:List Int} (h:bL K H p (ws.map V.int)):Dt K H (.ref p) (.list (ws.map PyData.int)):=.list h (M9 ws)
theorem BX {H:Hp} {p:Addr} {xs:List Str} (h:bL K H p (xs.map V.str)):Dt K H (.ref p) (.list (xs.map PyData.str)):=.list h (Nh xs)
theorem Xc {H H1:Hp} {a:Addr} {o:Obj} {kvs:List (Key×V)} (e:H a=some (.dK kvs)) (s:aK (upd H a (.frz o (.dK kvs))) H1):aK H (upd H1 a (.dK kvs)):=fun b u eb=>by
 by_cases hb:b=a
 ·rw [hb,au,<-eb,hb,e]
 ·rw [aH hb]
  exact s b u (by rw [aH hb];exact eb)
inductive Bg (K:PySem.W.Frag) (vs:List V) (H:Hp) (Q:VK) (E:XK):Prop where
 | mk:∀x Tx b,vs=[x]->Yv K H x Tx->Tx∈qm->decide (Tx= "int")=b->Q (.bl b) H->Bg K vs H Q E
theorem Aa (T:Txt w K mg t):FO P w K mg base 1 t.Ea ["thing"] (Bg K):=by
 have sc:=T.tH.sc ["thing"]
 refine T.tH.F.ok sc ln (fun _ _ _ _ H vs Q E hr h=>?_)
 obtain⟨x,Tx,b,rfl,ty,hm,rfl,k⟩:=h
 refine⟨_,(aA (aN (zT (bG vD (by rfl) T.j6 jm (aa (pv 0) (aa (zf (by rfl) T.Vi QC) ak aj) aj)) (zG (Wu (bG vD (by rfl) T.j6 jm (aa (pv 0) (aa (zf (by rfl) T.VF S7) ak aj) aj))))))),?_⟩
 have hm':Tx= "int" ∨Tx= "bool" ∨(J9 Tx "int" =false/\Tx≠ "int"):=by
  simp only [qm,List.mem_cons,List.not_mem_nil,or_false] at hm
  rcases hm with rfl | rfl | rfl | rfl | rfl | rfl | rfl
  ·exact .inr (.inr (by decide))
  ·exact .inr (.inl rfl)
  ·exact .inl rfl
  ·exact .inr (.inr (by decide))
  ·exact .inr (.inr (by decide))
  ·exact .inr (.inr (by decide))
  ·exact .inr (.inr (by decide))
 rcases hm' with rfl | rfl | ⟨h1,h2⟩
 ·exact⟨_,rfl,x, "int", "int",true,rfl,ty,by decide,by decide,true,rfl,fY ⟨_,rfl,x, "int", "bool",false,rfl,ty,by decide,by decide,_,rfl,k⟩⟩
 ·exact⟨_,rfl,x, "bool", "int",true,rfl,ty,by decide,by decide,true,rfl,fY ⟨_,rfl,x, "bool", "bool",true,rfl,ty,by decide,by decide,_,rfl,k⟩⟩
 ·rw [decide_eq_false h2] at k
  exact⟨_,rfl,x,Tx, "int",false,rfl,ty,by decide,h1,false,rfl,dw k⟩
inductive z8 (K:PySem.W.Frag) (vs:List V) (H:Hp) (Q:VK) (E:XK):Prop where
 | mk:∀x,vs=[x]->(((∃i:Int,x=.int i/\Q (.bl (decide (0<=i) && decide (i <1000000000))) H)∨∃Tx,Yv K H x Tx/\Tx∈qm/\Tx≠ "int" /\Q (.bl false) H))->z8 K vs H Q E
theorem uw (T:Txt w K mg t):FO P w K mg base 2 t.Dr ["thing"] (z8 K):=by
 have sc:=T.pU.sc ["thing"]
 refine T.pU.F.ok sc ln (fun _ _ _ _ H vs Q E hr h=>?_)
 obtain⟨x,rfl,h⟩:=h
 refine⟨_,(aA (aN (zT (d8 (Aa T) T.tH hr (aa (pv 0) ak aj)) (zG (Qc wH wX aq (pv 0) (jq (by rfl) T.J5)))))),?_⟩
 rcases h with ⟨i,rfl,k⟩ | ⟨Tx,ty,hm,hne,k⟩
 ·refine⟨_,rfl,.int i, "int",true,rfl,rfl,by decide,by decide,true,rfl,fY ⟨_,rfl,_,_,rfl,rfl,_,rfl,jB (fun h=>?_) (fun h=>?_)⟩⟩
  ·have h':0<=i:=of_decide_eq_true h
   rw [decide_eq_true h',Bool.true_and] at k
   exact⟨_,_,rfl,rfl,k⟩
  ·have h':¬0<=i:=fun z=>h (decide_eq_true z)
   rw [decide_eq_false h',Bool.false_and] at k
   exact k
 ·exact⟨_,rfl,x,Tx,false,rfl,ty,hm,decide_eq_false hne,false,rfl,dw k⟩
inductive rC (K:PySem.W.Frag) (t:jH) (vs:List V) (H:Hp) (Q:VK) (E:XK):Prop where
 | mk:∀(i:Nat) (p dx a1 a2 a3:Addr) (nm:V) (ns is os:List V),vs=[.ref p,nm,.ref a1,.ref a2,.ref a3]->H p=some (.ins (cls t i) dx [])->yx K H a1 ns->yx K H a2 is->yx K H a3 os->(∀H',lO p H H'->fJ K t H' p i nm ns is os->Q .non H')->rC K t vs H Q E
noncomputable abbrev m9:List Str:=["self", "name", "numbers", "ins", "outs"]
theorem cu (T:Txt w K mg t):FO P w K mg base 1 t.cg m9 (rC K t):=by
 have sc:fD m9 m9 (aU (inClass (top 27) 0)):=Ga
 refine T.bj.F.ok sc ln (fun _ _ _ _ H vs Q E hr h=>?_)
 obtain⟨i,p,dx,a1,a2,a3,nm,ns,is,os,rfl,hp,q1,q2,q3,k⟩:=h
 refine⟨_,(az (ig (pv 0) (pv 1) rfl)
  (az (ig (pv 0) (dj wg (by rfl) T.BL yh (aa (pv 2) ak aj)) rfl)
  (az (ig (pv 0) (dj wg (by rfl) T.BL yh (aa (pv 3) ak aj)) rfl)
  (aA (ig (pv 0) (dj wg (by rfl) T.BL yh (aa (pv 4) ak aj)) rfl))))),?_⟩
 refine⟨_,rfl,_,rfl,p,cls t i,dx,[],rfl,hp,iQ T i,BV T i,by show 0 <1000;decide,?_⟩
 have b1:lO p H (upd H p (.ins (cls t i) dx (aJ "name" nm []))):=lO.write
 have e1:(upd H p (.ins (cls t i) dx (aJ "name" nm []))) p=some (.ins (cls t i) dx (aJ "name" nm [])):=au
 generalize upd H p (.ins (cls t i) dx (aJ "name" nm []))=H1 at b1 e1 ⊢
 have r2:=b1.seqA hp q2
 have r3:=b1.seqA hp q3
 refine⟨_,rfl,a1,ns,rfl,b1.seqA hp q1,fun H2 u2 s2 t2=>⟨_,rfl,p,cls t i,dx,_,rfl,s2 _ _ e1,iQ T i,sS T i,Nat.lt_of_le_of_lt (gK (Nat.zero_le 0)) (by decide),?_⟩⟩
 have e2:=s2 _ _ e1
 have b2:lO p H2 (upd H2 p (.ins (cls t i) dx (aJ "numbers" (.ref u2) (aJ "name" nm [])))):=lO.write
 have e3:(upd H2 p (.ins (cls t i) dx (aJ "numbers" (.ref u2) (aJ "name" nm [])))) p=some (.ins (cls t i) dx (aJ "numbers" (.ref u2) (aJ "name" nm []))):=au
 generalize upd H2 p (.ins (cls t i) dx (aJ "numbers" (.ref u2) (aJ "name" nm [])))=H3 at b2 e3 ⊢
 have r2':=b2.seqA e2 (s2.seqA r2)
 have r3':=b2.seqA e2 (s2.seqA r3)
 have t2':=b2.seqT e2 t2
 refine⟨_,rfl,a2,is,rfl,r2',fun H4 u4 s4 t4=>⟨_,rfl,p,cls t i,dx,_,rfl,s4 _ _ e3,iQ T i,zL T i,Nat.lt_of_le_of_lt (gK (gK (Nat.zero_le 0))) (by decide),?_⟩⟩
 have e4:=s4 _ _ e3
 have b4:lO p H4 (upd H4 p (.ins (cls t i) dx (aJ "ins" (.ref u4) (aJ "numbers" (.ref u2) (aJ "name" nm []))))):=lO.write
 have e5:(upd H4 p (.ins (cls t i) dx (aJ "ins" (.ref u4) (aJ "numbers" (.ref u2) (aJ "name" nm []))))) p=some (.ins (cls t i) dx (aJ "ins" (.ref u4) (aJ "numbers" (.ref u2) (aJ "name" nm [])))):=au
 generalize upd H4 p (.ins (cls t i) dx (aJ "ins" (.ref u4) (aJ "numbers" (.ref u2) (aJ "name" nm []))))=H5 at b4 e5 ⊢
 have r3'':=b4.seqA e4 (s4.seqA r3')
 have t2'':=b4.seqT e4 (s4.seqT t2')
 have t4':=b4.seqT e4 t4
 refine⟨_,rfl,a3,os,rfl,r3'',fun H6 u6 s6 t6=>⟨_,rfl,p,cls t i,dx,_,rfl,s6 _ _ e5,iQ T i,Ir T i,Nat.lt_of_le_of_lt (gK (gK (gK (Nat.zero_le 0)))) (by decide),?_⟩⟩
 have e6:=s6 _ _ e5
 refine k _ (b1.trans ((lO.of_same s2).trans (b2.trans ((lO.of_same s4).trans (b4.trans ((lO.of_same s6).trans lO.write)))))) ⟨dx,u2,u4,u6,au,?_,?_,?_⟩
 ·exact lO.write.seqT e6 (s6.seqT t2'')
 ·exact lO.write.seqT e6 (s6.seqT t4')
 ·exact lO.write.seqT e6 t6
theorem Im (T:Txt w K mg t):FO P w K mg base 1 t.uF ["self"] (jc 0):=by
 have sc:=T.qz.sc ["self"]
 refine T.qz.F.ok sc ln (fun _ _ _ _ H vs Q E hr h=>?_)
 obtain⟨x,rfl,k⟩:=h
 refine⟨_,(aA (aN bh)),?_⟩
 exact k
theorem IW (T:Txt w K mg t):FO P w K mg base 1 t.um ["self"] (jc 1):=by
 have sc:=T.ql.sc ["self"]
 refine T.ql.F.ok sc ln (fun _ _ _ _ H vs Q E hr h=>?_)
 obtain⟨x,rfl,k⟩:=h
 refine⟨_,(aA (aN bh)),?_⟩
 exact k
theorem Iz (T:Txt w K mg t):FO P w K mg base 1 t.uz ["self"] (jc 2):=by
 have sc:=T.qg.sc ["self"]
 refine T.qg.F.ok sc ln (fun _ _ _ _ H vs Q E hr h=>?_)
 obtain⟨x,rfl,k⟩:=h
 refine⟨_,(aA (aN bh)),?_⟩
 exact k
theorem Hf (T:Txt w K mg t):FO P w K mg base 1 t.ul ["self"] (jc 3):=by
 have sc:=T.pY.sc ["self"]
 refine T.pY.F.ok sc ln (fun _ _ _ _ H vs Q E hr h=>?_)
 obtain⟨x,rfl,k⟩:=h
 refine⟨_,(aA (aN bh)),?_⟩
 exact k
theorem Ja (T:Txt w K mg t):FO P w K mg base 1 t.uG ["self"] (jc 4):=by
 have sc:=T.qC.sc ["self"]
 refine T.qC.F.ok sc ln (fun _ _ _ _ H vs Q E hr h=>?_)
 obtain⟨x,rfl,k⟩:=h
 refine⟨_,(aA (aN bh)),?_⟩
 exact k
theorem Iv (T:Txt w K mg t):FO P w K mg base 1 t.vf ["self"] (jc 5):=by
 have sc:=T.qw.sc ["self"]
 refine T.qw.F.ok sc ln (fun _ _ _ _ H vs Q E hr h=>?_)
 obtain⟨x,rfl,k⟩:=h
 refine⟨_,(aA (aN bh)),?_⟩
 exact k
theorem Ka (T:Txt w K mg t):FO P w K mg base 1 t.xV ["self"] (jc 6):=by
 have sc:=T.tR.sc ["self"]
 refine T.tR.F.ok sc ln (fun _ _ _ _ H vs Q E hr h=>?_)
 obtain⟨x,rfl,k⟩:=h
 refine⟨_,(aA (aN bh)),?_⟩
 exact k
theorem GQ (T:Txt w K mg t):FO P w K mg base 1 t.uU ["self"] (jc 7):=by
 have sc:=T.qD.sc ["self"]
 refine T.qD.F.ok sc ln (fun _ _ _ _ H vs Q E hr h=>?_)
 obtain⟨x,rfl,k⟩:=h
 refine⟨_,(aA (aN bh)),?_⟩
 exact k
theorem EY (T:Txt w K mg t):FO P w K mg base 1 t.tG ["self"] (jc 8):=by
 have sc:=T.oM.sc ["self"]
 refine T.oM.F.ok sc ln (fun _ _ _ _ H vs Q E hr h=>?_)
 obtain⟨x,rfl,k⟩:=h
 refine⟨_,(aA (aN bh)),?_⟩
 exact k
theorem Dk (T:Txt w K mg t):FO P w K mg base 1 t.rn ["self"] (jc 9):=by
 have sc:=T.lV.sc ["self"]
 refine T.lV.F.ok sc ln (fun _ _ _ _ H vs Q E hr h=>?_)
 obtain⟨x,rfl,k⟩:=h
 refine⟨_,(aA (aN bh)),?_⟩
 exact k
theorem Es (T:Txt w K mg t):FO P w K mg base 1 t.su ["self"] (jc 10):=by
 have sc:=T.oH.sc ["self"]
 refine T.oH.F.ok sc ln (fun _ _ _ _ H vs Q E hr h=>?_)
 obtain⟨x,rfl,k⟩:=h
 refine⟨_,(aA (aN bh)),?_⟩
 exact k
inductive CT (vs:List V) (H:Hp) (Q:VK) (E:XK):Prop where
 | mk:∀z:Str,vs=[.str z]->Q (.bl (rowOf ROWS z).isSome) H->CT vs H Q E
theorem Cd (T:Txt w K mg t):FO P w K mg base 1 t.Gh ["word"] (CT):=by
 have sc:=T.vY.sc ["word"]
 refine T.vY.F.ok sc ln (fun _ _ _ _ H vs Q E hr h=>?_)
 obtain⟨z,rfl,k⟩:=h
 refine⟨_,(aA (aN (Ed (Wa (pv 0) (Il (v:=.ref _) (by rfl) T.FT rfl)) (by with_unfolding_all rfl)))),?_⟩
 exact⟨_,rfl,t.yc,ROWS,z,rfl,T.JZ,rfl,k⟩
inductive Ag (K:PySem.W.Frag) (vs:List V) (H:Hp) (Q:VK) (E:XK):Prop where
 | mk:∀(i:Nat) (nm:V) (a1 a2 a3:Addr) (ns is os:List V),vs=[.str (cL i),nm,.ref a1,.ref a2,.ref a3]->yx K H a1 ns->yx K H a2 is->yx K H a3 os->ns.length=cN i->is.length=cI i->os.length=cO i->((∀v∈ns,Val v))->(∀H',aK H H'->Q .non H')->Ag K vs H Q E
noncomputable abbrev DG:List Str:=["kind", "name", "numbers", "ins", "outs", "counts"]
theorem JS (T:Txt w K mg t):FO P w K mg base 3 t.CZ ["kind", "name", "numbers", "ins", "outs"] (Ag K):=by
 have sc:=T.xN.sc DG
 refine T.xN.F.ok sc ln (fun _ _ _ _ H vs Q E hr h=>?_)
 obtain⟨i,nm,a1,a2,a3,ns,is,os,rfl,h1,h2,h3,l1,l2,l3,hv,k⟩:=h
 refine⟨_,(az (bR (jO (jj (d8 (Cd T) T.vY hr (aa (pv 0) ak aj))))
   (aA dY)
   aY)
  (az (sN sc 5 (SN (Il (v:=.ref _) (by rfl) T.FT rfl) (pv 0) (fun _ _=>rfl)))
  (az (bR (PW.pt (wM (aW JQ (bG cj (by rfl) T.fK dI (aa (pv 2) ak aj)) (aO cM (pv 5) aq (fun _ _=>rfl)) (bI _)) (qK (jO (jj (bG (yO rfl) (by rfl) T.MN Hw (aa (fM [] DG (aU (top 40)) rfl (Va (bW (pv 2)) (GJ (pv 2))) (fun _ _ _ _ _=>gm) (fun _ _ _ _ _=>(d8 (uw T) T.pU hr (aa (pv 0) ak aj)))) ak d7)))))))
   (aA dY)
   aY)
  (aA (bR (PW.pt (wM (aW JQ (bG cj (by rfl) T.fK dI (aa (pv 3) ak aj)) (aO cM (pv 5) aq (fun _ _=>rfl)) (bI _)) (qK (aW JQ (bG cj (by rfl) T.fK dI (aa (pv 4) ak aj)) (aO cM (pv 5) aq (fun _ _=>rfl)) (bI _)))))
   (aA dY)
   aY))))),?_⟩
 have hl:sizeLine=16777216:=sizeLine_eq
 have hN:=Ur i
 have hI:=Aq i
 have hO:=Rp i
 refine⟨_,rfl,cL i,rfl,true,by rw [row_of];rfl,dw ?_⟩
 refine⟨_,rfl,t.yc,ROWS,cL i,_,rfl,T.JZ,rfl,row_of i,fun ad had=>?_⟩
 refine⟨_,rfl,.ref a1,ns.length,rfl,h1.len,_,rfl,ad,_,0,_,rfl,rfl,had,aM (j:=0) rfl,rfl,_,rfl,?_⟩
 rw [show(!decide (V.int ((ns.length:Nat):Int)=V.int ((cN i:Nat):Int)))=false by rw [l1];simp]
 refine dw ?_
 refine Py (a:=a1) (xs:=ns) ?_ h1 (fun j ys=>ys=(List.replicate j true).map V.bl) (by omega) rfl (fun j ys e=>by rw [e];simp) (fun j x ys hx e=>?_) (fun ys e D hD=>?_)
 ·exact fun R r=>⟨_,rfl,r⟩
 ·subst e
  obtain⟨n,rfl,n0,n1⟩:=hv x (List.mem_of_getElem? hx)
  refine yes ⟨_,rfl,.int n,rfl,.inl ⟨n,rfl,rfl,?_⟩⟩
  rw [decide_eq_true n0,decide_eq_true n1,List.replicate_succ']
  simp
 ·subst e
  refine⟨D,_,rfl,bL.of au,_,rfl,?_⟩
  rw [show((List.replicate ns.length true).all id)=true by simp]
  refine dw ?_
  have s1:aK H (upd H D (.lst ((List.replicate ns.length true).map V.bl))):=aB hD
  refine⟨_,rfl,.ref a2,is.length,rfl,(s1.seqA h2).len,_,rfl,ad,_,1,_,rfl,rfl,s1.seqT had,aM (j:=1) rfl,rfl,_,rfl,?_⟩
  rw [show(!decide (V.int ((is.length:Nat):Int)=V.int ((cI i:Nat):Int)))=false by rw [l2];simp]
  refine dw ?_
  refine⟨_,rfl,.ref a3,os.length,rfl,(s1.seqA h3).len,_,rfl,ad,_,2,_,rfl,rfl,s1.seqT had,aM (j:=2) rfl,rfl,_,rfl,?_⟩
  rw [show(!decide (V.int ((os.length:Nat):Int)=V.int ((cO i:Nat):Int)))=false by rw [l3];simp]
  exact dw (k _ s1)
inductive Dl (K:PySem.W.Frag) (t:jH) (vs:List V) (H:Hp) (Q:VK) (E:XK):Prop where
 | mk:∀(i:Nat) (nm:V) (a1 a2 a3:Addr) (ns is os:List V),vs=[.str (cL i),nm,.ref a1,.ref a2,.ref a3]->i<=10->yx K H a1 ns->yx K H a2 is->yx K H a3 os->(∀H' p,aK H H'->H p=none->fJ K t H' p i nm ns is os->Q (.ref p) H')->Dl K t vs H Q E
noncomputable abbrev zN:List Str:=["kind", "name", "numbers", "ins", "outs"]
theorem K3 (T:Txt w K mg t):FO P w K mg base 3 t.Gu zN (Dl K t):=by
 have sc:fD zN zN (aU (top 41)):=Ga
 refine T.Fq.F.ok sc ln (fun _ _ _ _ H vs Q E hr h=>?_)
 obtain⟨i,nm,a1,a2,a3,ns,is,os,rfl,hi,h1,h2,h3,k⟩:=h
 refine⟨_,(az (bR (aW dW (pv 0) bh (bI _))
   (aA (aN (iz (T.iI.M T.bj) (cu T) (hr.mono (by decide)) (by rfl) T.iI.m T.bj.b .nil ir (aa (pv 1) (aa (pv 2) (aa (pv 3) (aa (pv 4) ak aj) aj) aj) aj))))
   aY)
  (az (bR (aW dW (pv 0) bh (bI _))
   (aA (aN (iz (T.iH.M T.bj) (cu T) (hr.mono (by decide)) (by rfl) T.iH.m T.bj.b .nil ir (aa (pv 1) (aa (pv 2) (aa (pv 3) (aa (pv 4) ak aj) aj) aj) aj))))
   aY)
  (az (bR (aW dW (pv 0) bh (bI _))
   (aA (aN (iz (T.iT.M T.bj) (cu T) (hr.mono (by decide)) (by rfl) T.iT.m T.bj.b .nil ir (aa (pv 1) (aa (pv 2) (aa (pv 3) (aa (pv 4) ak aj) aj) aj) aj))))
   aY)
  (az (bR (aW dW (pv 0) bh (bI _))
   (aA (aN (iz (T.iR.M T.bj) (cu T) (hr.mono (by decide)) (by rfl) T.iR.m T.bj.b .nil ir (aa (pv 1) (aa (pv 2) (aa (pv 3) (aa (pv 4) ak aj) aj) aj) aj))))
   aY)
  (az (bR (aW dW (pv 0) bh (bI _))
   (aA (aN (iz (T.iC.M T.bj) (cu T) (hr.mono (by decide)) (by rfl) T.iC.m T.bj.b .nil ir (aa (pv 1) (aa (pv 2) (aa (pv 3) (aa (pv 4) ak aj) aj) aj) aj))))
   aY)
  (az (bR (aW dW (pv 0) bh (bI _))
   (aA (aN (iz (T.iG.M T.bj) (cu T) (hr.mono (by decide)) (by rfl) T.iG.m T.bj.b .nil ir (aa (pv 1) (aa (pv 2) (aa (pv 3) (aa (pv 4) ak aj) aj) aj) aj))))
   aY)
  (az (bR (aW dW (pv 0) bh (bI _))
   (aA (aN (iz (T.mV.M T.bj) (cu T) (hr.mono (by decide)) (by rfl) T.mV.m T.bj.b .nil ir (aa (pv 1) (aa (pv 2) (aa (pv 3) (aa (pv 4) ak aj) aj) aj) aj))))
   aY)
  (az (bR (aW dW (pv 0) bh (bI _))
   (aA (aN (iz (T.iK.M T.bj) (cu T) (hr.mono (by decide)) (by rfl) T.iK.m T.bj.b .nil ir (aa (pv 1) (aa (pv 2) (aa (pv 3) (aa (pv 4) ak aj) aj) aj) aj))))
   aY)
  (az (bR (aW dW (pv 0) bh (bI _))
   (aA (aN (iz (T.fO.M T.bj) (cu T) (hr.mono (by decide)) (by rfl) T.fO.m T.bj.b .nil ir (aa (pv 1) (aa (pv 2) (aa (pv 3) (aa (pv 4) ak aj) aj) aj) aj))))
   aY)
  (az (bR (aW dW (pv 0) bh (bI _))
   (aA (aN (iz (T.eE.M T.bj) (cu T) (hr.mono (by decide)) (by rfl) T.eE.m T.bj.b .nil ir (aa (pv 1) (aa (pv 2) (aa (pv 3) (aa (pv 4) ak aj) aj) aj) aj))))
   aY)
  (aA (aN (iz (T.fP.M T.bj) (cu T) (hr.mono (by decide)) (by rfl) T.fP.m T.bj.b .nil ir (aa (pv 1) (aa (pv 2) (aa (pv 3) (aa (pv 4) ak aj) aj) aj) aj)))))))))))))),?_⟩
 match i,hi with
 | 0,_=>
  refine⟨_,rfl,rfl,_,rfl,lA rfl ?_⟩
  refine⟨_,rfl,_,rfl,_,rfl,_,rfl,fun x dx nx ndx nex=>?_⟩
  have s0:aK H (upd (upd H dx (.own x)) x (.ins t.KH dx [])):=fun b o e=>by rw [aH (aD e nx),aH (aD e ndx)];exact e
  exact⟨0,x,dx,a1,a2,a3,nm,ns,is,os,rfl,au,s0.seqA h1,s0.seqA h2,s0.seqA h3,fun H' b P=>⟨rfl,k H' x (fun c o e=>b c o (aD e nx) (s0 c o e)) nx P⟩⟩
 | 1,_=>
  refine⟨_,rfl,rfl,_,rfl,bZ (by decide +kernel) ?_⟩
  refine⟨_,rfl,rfl,_,rfl,lA rfl ?_⟩
  refine⟨_,rfl,_,rfl,_,rfl,_,rfl,fun x dx nx ndx nex=>?_⟩
  have s0:aK H (upd (upd H dx (.own x)) x (.ins t.Lk dx [])):=fun b o e=>by rw [aH (aD e nx),aH (aD e ndx)];exact e
  exact⟨1,x,dx,a1,a2,a3,nm,ns,is,os,rfl,au,s0.seqA h1,s0.seqA h2,s0.seqA h3,fun H' b P=>⟨rfl,k H' x (fun c o e=>b c o (aD e nx) (s0 c o e)) nx P⟩⟩
 | 2,_=>
  refine⟨_,rfl,rfl,_,rfl,bZ (by decide +kernel) ?_⟩
  refine⟨_,rfl,rfl,_,rfl,bZ (by decide +kernel) ?_⟩
  refine⟨_,rfl,rfl,_,rfl,lA rfl ?_⟩
  refine⟨_,rfl,_,rfl,_,rfl,_,rfl,fun x dx nx ndx nex=>?_⟩
  have s0:aK H (upd (upd H dx (.own x)) x (.ins t.Lq dx [])):=fun b o e=>by rw [aH (aD e nx),aH (aD e ndx)];exact e
  exact⟨2,x,dx,a1,a2,a3,nm,ns,is,os,rfl,au,s0.seqA h1,s0.seqA h2,s0.seqA h3,fun H' b P=>⟨rfl,k H' x (fun c o e=>b c o (aD e nx) (s0 c o e)) nx P⟩⟩
 | 3,_=>
  refine⟨_,rfl,rfl,_,rfl,bZ (by decide +kernel) ?_⟩
  refine⟨_,rfl,rfl,_,rfl,bZ (by decide +kernel) ?_⟩
  refine⟨_,rfl,rfl,_,rfl,bZ (by decide +kernel) ?_⟩
  refine⟨_,rfl,rfl,_,rfl,lA rfl ?_⟩
  refine⟨_,rfl,_,rfl,_,rfl,_,rfl,fun x dx nx ndx nex=>?_⟩
  have s0:aK H (upd (upd H dx (.own x)) x (.ins t.Kz dx [])):=fun b o e=>by rw [aH (aD e nx),aH (aD e ndx)];exact e
  exact⟨3,x,dx,a1,a2,a3,nm,ns,is,os,rfl,au,s0.seqA h1,s0.seqA h2,s0.seqA h3,fun H' b P=>⟨rfl,k H' x (fun c o e=>b c o (aD e nx) (s0 c o e)) nx P⟩⟩
 | 4,_=>
  refine⟨_,rfl,rfl,_,rfl,bZ (by decide +kernel) ?_⟩
  refine⟨_,rfl,rfl,_,rfl,bZ (by decide +kernel) ?_⟩
  refine⟨_,rfl,rfl,_,rfl,bZ (by decide +kernel) ?_⟩
  refine⟨_,rfl,rfl,_,rfl,bZ (by decide +kernel) ?_⟩
  refine⟨_,rfl,rfl,_,rfl,lA rfl ?_⟩
  refine⟨_,rfl,_,rfl,_,rfl,_,rfl,fun x dx nx ndx nex=>?_⟩
  have s0:aK H (upd (upd H dx (.own x)) x (.ins t.Ko dx [])):=fun b o e=>by rw [aH (aD e nx),aH (aD e ndx)];exact e
  exact⟨4,x,dx,a1,a2,a3,nm,ns,is,os,rfl,au,s0.seqA h1,s0.seqA h2,s0.seqA h3,fun H' b P=>⟨rfl,k H' x (fun c o e=>b c o (aD e nx) (s0 c o e)) nx P⟩⟩
 | 5,_=>
  refine⟨_,rfl,rfl,_,rfl,bZ (by decide +kernel) ?_⟩
  refine⟨_,rfl,rfl,_,rfl,bZ (by decide +kernel) ?_⟩
  refine⟨_,rfl,rfl,_,rfl,bZ (by decide +kernel) ?_⟩
  refine⟨_,rfl,rfl,_,rfl,bZ (by decide +kernel) ?_⟩
  refine⟨_,rfl,rfl,_,rfl,bZ (by decide +kernel) ?_⟩
  refine⟨_,rfl,rfl,_,rfl,lA rfl ?_⟩
  refine⟨_,rfl,_,rfl,_,rfl,_,rfl,fun x dx nx ndx nex=>?_⟩
  have s0:aK H (upd (upd H dx (.own x)) x (.ins t.Li dx [])):=fun b o e=>by rw [aH (aD e nx),aH (aD e ndx)];exact e
  exact⟨5,x,dx,a1,a2,a3,nm,ns,is,os,rfl,au,s0.seqA h1,s0.seqA h2,s0.seqA h3,fun H' b P=>⟨rfl,k H' x (fun c o e=>b c o (aD e nx) (s0 c o e)) nx P⟩⟩
 | 6,_=>
  refine⟨_,rfl,rfl,_,rfl,bZ (by decide +kernel) ?_⟩
  refine⟨_,rfl,rfl,_,rfl,bZ (by decide +kernel) ?_⟩
  refine⟨_,rfl,rfl,_,rfl,bZ (by decide +kernel) ?_⟩
  refine⟨_,rfl,rfl,_,rfl,bZ (by decide +kernel) ?_⟩
  refine⟨_,rfl,rfl,_,rfl,bZ (by decide +kernel) ?_⟩
  refine⟨_,rfl,rfl,_,rfl,bZ (by decide +kernel) ?_⟩
  refine⟨_,rfl,rfl,_,rfl,lA rfl ?_⟩
  refine⟨_,rfl,_,rfl,_,rfl,_,rfl,fun x dx nx ndx nex=>?_⟩
  have s0:aK H (upd (upd H dx (.own x)) x (.ins t.QQ dx [])):=fun b o e=>by rw [aH (aD e nx),aH (aD e ndx)];exact e
  exact⟨6,x,dx,a1,a2,a3,nm,ns,is,os,rfl,au,s0.seqA h1,s0.seqA h2,s0.seqA h3,fun H' b P=>⟨rfl,k H' x (fun c o e=>b c o (aD e nx) (s0 c o e)) nx P⟩⟩
 | 7,_=>
  refine⟨_,rfl,rfl,_,rfl,bZ (by decide +kernel) ?_⟩
  refine⟨_,rfl,rfl,_,rfl,bZ (by decide +kernel) ?_⟩
  refine⟨_,rfl,rfl,_,rfl,bZ (by decide +kernel) ?_⟩
  refine⟨_,rfl,rfl,_,rfl,bZ (by decide +kernel) ?_⟩
  refine⟨_,rfl,rfl,_,rfl,bZ (by decide +kernel) ?_⟩
  refine⟨_,rfl,rfl,_,rfl,bZ (by decide +kernel) ?_⟩
  refine⟨_,rfl,rfl,_,rfl,bZ (by decide +kernel) ?_⟩
  refine⟨_,rfl,rfl,_,rfl,lA rfl ?_⟩
  refine⟨_,rfl,_,rfl,_,rfl,_,rfl,fun x dx nx ndx nex=>?_⟩
  have s0:aK H (upd (upd H dx (.own x)) x (.ins t.Lr dx [])):=fun b o e=>by rw [aH (aD e nx),aH (aD e ndx)];exact e
  exact⟨7,x,dx,a1,a2,a3,nm,ns,is,os,rfl,au,s0.seqA h1,s0.seqA h2,s0.seqA h3,fun H' b P=>⟨rfl,k H' x (fun c o e=>b c o (aD e nx) (s0 c o e)) nx P⟩⟩
 | 8,_=>
  refine⟨_,rfl,rfl,_,rfl,bZ (by decide +kernel) ?_⟩
  refine⟨_,rfl,rfl,_,rfl,bZ (by decide +kernel) ?_⟩
  refine⟨_,rfl,rfl,_,rfl,bZ (by decide +kernel) ?_⟩
  refine⟨_,rfl,rfl,_,rfl,bZ (by decide +kernel) ?_⟩
  refine⟨_,rfl,rfl,_,rfl,bZ (by decide +kernel) ?_⟩
  refine⟨_,rfl,rfl,_,rfl,bZ (by decide +kernel) ?_⟩
  refine⟨_,rfl,rfl,_,rfl,bZ (by decide +kernel) ?_⟩
  refine⟨_,rfl,rfl,_,rfl,bZ (by decide +kernel) ?_⟩
  refine⟨_,rfl,rfl,_,rfl,lA rfl ?_⟩
  refine⟨_,rfl,_,rfl,_,rfl,_,rfl,fun x dx nx ndx nex=>?_⟩
  have s0:aK H (upd (upd H dx (.own x)) x (.ins t.GX dx [])):=fun b o e=>by rw [aH (aD e nx),aH (aD e ndx)];exact e
  exact⟨8,x,dx,a1,a2,a3,nm,ns,is,os,rfl,au,s0.seqA h1,s0.seqA h2,s0.seqA h3,fun H' b P=>⟨rfl,k H' x (fun c o e=>b c o (aD e nx) (s0 c o e)) nx P⟩⟩
 | 9,_=>
  refine⟨_,rfl,rfl,_,rfl,bZ (by decide +kernel) ?_⟩
  refine⟨_,rfl,rfl,_,rfl,bZ (by decide +kernel) ?_⟩
  refine⟨_,rfl,rfl,_,rfl,bZ (by decide +kernel) ?_⟩
  refine⟨_,rfl,rfl,_,rfl,bZ (by decide +kernel) ?_⟩
  refine⟨_,rfl,rfl,_,rfl,bZ (by decide +kernel) ?_⟩
  refine⟨_,rfl,rfl,_,rfl,bZ (by decide +kernel) ?_⟩
  refine⟨_,rfl,rfl,_,rfl,bZ (by decide +kernel) ?_⟩
  refine⟨_,rfl,rfl,_,rfl,bZ (by decide +kernel) ?_⟩
  refine⟨_,rfl,rfl,_,rfl,bZ (by decide +kernel) ?_⟩
  refine⟨_,rfl,rfl,_,rfl,lA rfl ?_⟩
  refine⟨_,rfl,_,rfl,_,rfl,_,rfl,fun x dx nx ndx nex=>?_⟩
  have s0:aK H (upd (upd H dx (.own x)) x (.ins t.Di dx [])):=fun b o e=>by rw [aH (aD e nx),aH (aD e ndx)];exact e
  exact⟨9,x,dx,a1,a2,a3,nm,ns,is,os,rfl,au,s0.seqA h1,s0.seqA h2,s0.seqA h3,fun H' b P=>⟨rfl,k H' x (fun c o e=>b c o (aD e nx) (s0 c o e)) nx P⟩⟩
 | 10,_=>
  refine⟨_,rfl,rfl,_,rfl,bZ (by decide +kernel) ?_⟩
  refine⟨_,rfl,rfl,_,rfl,bZ (by decide +kernel) ?_⟩
  refine⟨_,rfl,rfl,_,rfl,bZ (by decide +kernel) ?_⟩
  refine⟨_,rfl,rfl,_,rfl,bZ (by decide +kernel) ?_⟩
  refine⟨_,rfl,rfl,_,rfl,bZ (by decide +kernel) ?_⟩
  refine⟨_,rfl,rfl,_,rfl,bZ (by decide +kernel) ?_⟩
  refine⟨_,rfl,rfl,_,rfl,bZ (by decide +kernel) ?_⟩
  refine⟨_,rfl,rfl,_,rfl,bZ (by decide +kernel) ?_⟩
  refine⟨_,rfl,rfl,_,rfl,bZ (by decide +kernel) ?_⟩
  refine⟨_,rfl,rfl,_,rfl,bZ (by decide +kernel) ?_⟩
  refine⟨_,rfl,_,rfl,_,rfl,_,rfl,fun x dx nx ndx nex=>?_⟩
  have s0:aK H (upd (upd H dx (.own x)) x (.ins t.Hq dx [])):=fun b o e=>by rw [aH (aD e nx),aH (aD e ndx)];exact e
  exact⟨10,x,dx,a1,a2,a3,nm,ns,is,os,rfl,au,s0.seqA h1,s0.seqA h2,s0.seqA h3,fun H' b P=>⟨rfl,k H' x (fun c o e=>b c o (aD e nx) (s0 c o e)) nx P⟩⟩
 | (n+11),h=>exact absurd h (by omega)
inductive zg (K:PySem.W.Frag) (t:jH) (vs:List V) (H:Hp) (Q:VK) (E:XK):Prop where
 | mk:∀(i:Nat) (nm:V) (a1 a2 a3:Addr) (ns is os:List V),vs=[.str (cL i),nm,.ref a1,.ref a2,.ref a3]->i<=10->yx K H a1 ns->yx K H a2 is->yx K H a3 os->ns.length=cN i->is.length=cI i->os.length=cO i->((∀v∈ns,Val v))->(∀H' p,aK H H'->H p=none->fJ K t H' p i nm ns is os->Q (.ref p) H')->zg K t vs H Q E
noncomputable abbrev vo:List Str:=["kind", "name", "numbers", "ins", "outs"]
theorem HR (T:Txt w K mg t):FO P w K mg base 4 t.Az vo (zg K t):=by
 have sc:fD vo vo (aU (top 42)):=Ga
 refine T.Ay.F.ok sc ln (fun _ _ _ _ H vs Q E hr h=>?_)
 obtain⟨i,nm,a1,a2,a3,ns,is,os,rfl,hi,h1,h2,h3,l1,l2,l3,hv,k⟩:=h
 refine⟨_,(az (bM (d8 (JS T) T.xN hr (aa (pv 0) (aa (pv 1) (aa (pv 2) (aa (pv 3) (aa (pv 4) ak aj) aj) aj) aj) aj)))
  (aA (aN (d8 (K3 T) T.Fq hr (aa (pv 0) (aa (pv 1) (aa (pv 2) (aa (pv 3) (aa (pv 4) ak aj) aj) aj) aj) aj))))),?_⟩
 refine⟨_,rfl,_,rfl,_,rfl,_,rfl,_,rfl,i,nm,a1,a2,a3,ns,is,os,rfl,h1,h2,h3,l1,l2,l3,hv,fun H1 s1=>?_⟩
 exact⟨_,rfl,_,rfl,_,rfl,_,rfl,_,rfl,i,nm,a1,a2,a3,ns,is,os,rfl,hi,s1.seqA h1,s1.seqA h2,s1.seqA h3,fun H2 p s2 np P=>k H2 p (s1.trans s2) (s1.free np) P⟩
inductive Mr (vs:List V) (H:Hp) (Q:VK) (E:XK):Prop where
 | mk:∀a:Int,vs=[.int a]->Q (.int (a % 1000000000)) H->Mr vs H Q E
theorem GZ (T:Txt w K mg t):FO P w K mg base 1 t.Px ["number"] (Mr):=by
 have sc:=T.Du.sc ["number"]
 refine T.Du.F.ok sc ln (fun _ _ _ _ H vs Q E hr h=>?_)
 obtain⟨a,rfl,k⟩:=h
 refine⟨_,(aA (aN (bc b7 (pv 0) (jq (by rfl) T.J5)))),?_⟩
 exact⟨_,rfl,_,_,rfl,rfl,by show(0:Int) <1000000000;decide,k⟩
inductive uH (K:PySem.W.Frag) (t:jH) (vs:List V) (H:Hp) (Q:VK) (E:XK):Prop where
 | mk:∀i,i≠9->oX K t i vs H Q E->uH K t vs H Q E
theorem dm (T:Txt w K mg t):FO P w K mg base 1 t.cP ["self", "heads"] (uH K t):=by
 have sc:=T.bJ.sc ["self", "heads"]
 refine T.bJ.F.ok sc ln (fun _ _ _ _ H vs Q E hr h=>?_)
 obtain⟨i,hi,p,a,nm,ns,is,os,hs,rfl,hP,hI,hS,hH,k⟩:=h
 refine⟨_,(aA (aN (dj (xn rfl) (by rfl) T.mY jx (aa (dj Bk (by rfl) T.lU JB (aa (bG cj (by rfl) T.fK dI (aa (bB (pv 0) rfl) ak bN)) ak bf)) ak bf)))),?_⟩
 obtain⟨dx,tn,ti,to,hp,h2,h3,h4⟩:=id hP.ex
 have h3':=Aq i
 refine⟨_,rfl,p,cls t i,dx,_,.ref ti,rfl,hp,iQ T i,zL T i,vh _ _ _ _,.ref ti,is.length,rfl,.inr ⟨is,h3,rfl⟩,_,rfl,fun r hr=>⟨r,is.length,rfl,au,by omega,fun l hl=>?_⟩⟩
 have e:(places i hs).map nV=Ss is.length:=by
  unfold places Ss
  rw [if_neg hi,hH.1,hI]
  rfl
 refine k _ l ((aB hr).trans (aB hl)) ((aB hr).free hl) ?_
 rw [e]
 exact au
theorem zW (T:Txt w K mg t):FO P w K mg base 1 t.nZ ["self", "heads"] (oX K t 9):=by
 have sc:=T.jz.sc ["self", "heads"]
 refine T.jz.F.ok sc ln (fun _ _ _ _ H vs Q E hr h=>?_)
 obtain⟨p,a,nm,ns,is,os,hs,rfl,hP,hI,hS,hH,k⟩:=h
 refine⟨_,(az (bR (gj (vC (aO aQ (pv 1) aq (fun _ _=>rfl))))
   (aA (aN (bx (aa aq ak ao))))
   aY)
  (aA (aN (bx (aa aq (aa (bc du aq (bc b7 (aO aQ (pv 1) aq (fun _ _=>rfl)) aq)) ak bT) ao))))),?_⟩
 have hl:sizeLine=16777216:=sizeLine_eq
 have hlen:hs.length=3:=hH.1
 match hs,hlen,hH with
 | h0:: r,hlen,hH=>
  have ea:FZ (h0:: r) 0=some h0:=aM (xs:=h0:: r) (j:=0) rfl
  rcases hH.2 h0 List.mem_cons_self with e | ⟨n,e⟩
  ·subst e
   refine⟨_,rfl,a,_,0,_,rfl,rfl,hS,ea,_,rfl,lA rfl ?_⟩
   exact⟨iW,fun L hL=>k _ L (aB hL) hL au⟩
  ·subst e
   refine⟨_,rfl,a,_,0,_,rfl,rfl,hS,ea,_,rfl,bZ (by intro z;cases z) ?_⟩
   refine⟨_,rfl,a,_,0,_,rfl,rfl,hS,ea,_,_,rfl,rfl,by show(0:Int) <2;decide,_,_,rfl,rfl,iW,fun L hL=>k _ L (aB hL) hL ?_⟩
   have h0:=Int.emod_nonneg n (show(2:Int)≠0 by decide)
   have e1:(1:Int)+n % 2=((1+(n % 2).toNat:Nat):Int):=by omega
   rw [au]
   show some (HO.lst [.int 0,.int (1+n % 2)])=some (HO.lst [.int ((0:Nat):Int),.int ((1+(n % 2).toNat:Nat):Int)])
   rw [e1]
   rfl
theorem Fv (T:Txt w K mg t) (i:Nat):MethAt P w K mg base Cr 1 (cls t i) "taking" (oX K t i):=match i with
 | 0=>⟨_,_,_,T.iI.c,(T.bJ.me T.iI.me.2.2.1),T.bJ.b,(dm T).imp fun _ _ _ _ h=>⟨_,by omega,h⟩⟩
 | 1=>⟨_,_,_,T.iH.c,(T.bJ.me T.iH.me.2.2.1),T.bJ.b,(dm T).imp fun _ _ _ _ h=>⟨_,by omega,h⟩⟩
 | 2=>⟨_,_,_,T.iT.c,(T.bJ.me T.iT.me.2.2.1),T.bJ.b,(dm T).imp fun _ _ _ _ h=>⟨_,by omega,h⟩⟩
 | 3=>⟨_,_,_,T.iR.c,(T.bJ.me T.iR.me.2.2.1),T.bJ.b,(dm T).imp fun _ _ _ _ h=>⟨_,by omega,h⟩⟩
 | 4=>⟨_,_,_,T.iC.c,(T.bJ.me T.iC.me.2.2.1),T.bJ.b,(dm T).imp fun _ _ _ _ h=>⟨_,by omega,h⟩⟩
 | 5=>⟨_,_,_,T.iG.c,(T.bJ.me T.iG.me.2.2.1),T.bJ.b,(dm T).imp fun _ _ _ _ h=>⟨_,by omega,h⟩⟩
 | 6=>⟨_,_,_,T.mV.c,(T.bJ.me T.mV.me.2.2.1),T.bJ.b,(dm T).imp fun _ _ _ _ h=>⟨_,by omega,h⟩⟩
 | 7=>⟨_,_,_,T.iK.c,(T.bJ.me T.iK.me.2.2.1),T.bJ.b,(dm T).imp fun _ _ _ _ h=>⟨_,by omega,h⟩⟩
 | 8=>⟨_,_,_,T.fO.c,(T.bJ.me T.fO.me.2.2.1),T.bJ.b,(dm T).imp fun _ _ _ _ h=>⟨_,by omega,h⟩⟩
 | 9=>⟨_,_,_,T.eE.c,(T.jz.me T.eE.me.2.2.1),T.jz.b,zW T⟩
 | n+10=>⟨_,_,_,T.fP.c,(T.bJ.me T.fP.me.2.2.1),T.bJ.b,(dm T).imp fun _ _ _ _ h=>⟨_,by omega,h⟩⟩
inductive ww (K:PySem.W.Frag) (t:jH) (vs:List V) (H:Hp) (Q:VK) (E:XK):Prop where
 | mk:∀i,yt K t i vs H Q E->ww K t vs H Q E
theorem dq (T:Txt w K mg t):FO P w K mg base 2 t.cW ["self", "heads"] (ww K t):=by
 have sc:=T.bK.sc ["self", "heads", "place"]
 refine T.bK.F.ok sc ln (fun _ _ _ _ H vs Q E hr h=>?_)
 obtain⟨i,p,a,nm,ns,is,os,hs,rfl,hP,hI,hS,hH,k⟩:=h
 refine⟨_,(az (dg PassesOwn.never rfl (bW (yp (CX:=Cr) (k:=1) (E:=E0) (pv 0) (hr.mono (by decide)) ir (aa (pv 1) ak aj))) (gN sc 2)
   (aA (bR (gj (vC (aO aQ (pv 1) (pv 2) (fun _ _=>rfl))))
    (aA (aN (pv 2)))
    aY)))
  (aA (aN lG))),?_⟩
 obtain⟨dx,tn,ti,to,hp,h2,h3,h4⟩:=id hP.ex
 refine⟨_,rfl,p,cls t i,dx,_,oX K t i,rfl,hp,vZ _ _ _ _ (by decide +kernel) (by decide +kernel) (by decide +kernel) (by decide +kernel),Fv T i,_,rfl,p,a,nm,ns,is,os,hs,rfl,hP,hI,hS,hH,fun H1 L s1 nL eL=>⟨L,rfl,⟨_,bL.of eL⟩,?_⟩⟩
 refine cY (K:=K) (a:=L) (xs:=(places i hs).map nV) (fun j σ H2=>H2=H1/\∃v,σ=[some (.ref p),some (.ref a),v]/\∀q∈(places i hs).take j,kJ hs q=false)
  ⟨rfl,none,rfl,by simp⟩ (fun j σ H2 _ ⟨e,_⟩=>by rw [e];exact bL.of eL) ?_ ?_
 ·rintro j x σ H2 hx ⟨rfl,v,rfl,hno⟩
  rw [List.getElem?_map] at hx
  obtain⟨q,hq,rfl⟩:=Option.map_eq_some_iff.mp hx
  have hlt:=gZ hH q (List.mem_of_getElem? hq)
  obtain⟨hv,ev⟩:∃hv,hs[q]?=some hv:=⟨hs[q],List.getElem?_eq_getElem hlt⟩
  refine⟨_,rfl,_,rfl,a,hs,_,hv,rfl,rfl,s1.seq hS,aM ev,_,rfl,jB (fun hn=>?_) (fun hn=>?_)⟩
  ·have hn':hv=.non:=of_decide_eq_true hn
   refine⟨_,rfl,?_⟩
   have:=k H2 s1
   unfold Mq at this
   rw [Mm hq hno (by unfold kJ;rw [ev,hn'];simp)] at this
   exact this
  ·have hn':¬hv=.non:=fun z=>hn (decide_eq_true z)
   refine⟨rfl,_,rfl,fun y hy=>?_⟩
   rw [List.take_add_one,hq] at hy
   rcases List.mem_append.mp hy with hy | hy
   ·exact hno y hy
   ·have e:y=q:=by simpa using hy
    subst e
    unfold kJ
    rw [ev]
    simpa using hn'
 ·rintro σ H2 ⟨rfl,v,rfl,hno⟩
  have:=k H2 s1
  unfold Mq at this
  rw [lM,List.take_of_length_le (Nat.le_refl _)] at hno
  rw [Su hno] at this
  exact this
inductive wO (K:PySem.W.Frag) (t:jH) (vs:List V) (H:Hp) (Q:VK) (E:XK):Prop where
 | mk:∀i,i≠5->vm K t i vs H Q E->wO K t vs H Q E
theorem dH (T:Txt w K mg t):FO P w K mg base 1 t.dz ["self"] (wO K t):=by
 have sc:=T.bQ.sc ["self"]
 refine T.bQ.F.ok sc ln (fun _ _ _ _ H vs Q E hr h=>?_)
 obtain⟨i,hi,p,nm,ns,is,os,rfl,hP,hn,k⟩:=h
 refine⟨_,(aA (aN aq)),?_⟩
 unfold Hr at k
 rw [if_neg hi] at k
 exact k
theorem Fb (T:Txt w K mg t):FO P w K mg base 1 t.tE ["self"] (vm K t 5):=by
 have sc:=T.oR.sc ["self"]
 refine T.oR.F.ok sc ln (fun _ _ _ _ H vs Q E hr h=>?_)
 obtain⟨p,nm,ns,is,os,rfl,hP,hn,k⟩:=h
 refine⟨_,(aA (aN (aO Ly (bB (pv 0) rfl) aq (fun _ _=>rfl)))),?_⟩
 obtain⟨dx,tn,ti,to,hp,h2,h3,h4⟩:=id hP.ex
 match ns,hn with
 | v:: r,hn=>
  exact⟨_,rfl,p,cls t 5,dx,_,.ref tn,rfl,hp,iQ T 5,sS T 5,sI _ _ _ _,.inr (.inl ⟨tn,_,0,v,rfl,rfl,h2,aM (xs:=v:: r) (j:=0) rfl,k⟩)⟩
theorem CV (T:Txt w K mg t):FO P w K mg base 1 t.qX ["self", "values", "kept"] (eU K t 2):=by
 have sc:=T.lX.sc ["self", "values", "kept"]
 refine T.lX.F.ok sc ln (fun _ _ _ _ H vs Q E hr h=>?_)
 obtain⟨p,a,nm,ns,is,os,ws,kp,rfl,hP,ln,hS,lw,hB,k⟩:=h
 refine⟨_,(aA (aN (bV (aa (bx (aa (bV (aa aq (aa (aO aQ (pv 1) aq (fun _ _=>rfl)) ak aF) ao)) ak bO)) (aa (pv 2) ak aj) aR)))),?_⟩
 obtain⟨dx,tn,ti,to,hp,h2,h3,h4⟩:=id hP.ex
 match ws,lw with
 | [v],_=>
  have fin:∀H' L rs,aK H H'->H L=none->H' L=some (.lst (rs.map V.ref))->fH H' rs (BW (cH 2 ns [v] kp))->∀U,H' U=none->Q (.ref U) (upd H' U (.tup [.ref L,.int (dR 2 [v] kp)])):=CK k
  exact⟨_,rfl,a,_,0,_,rfl,rfl,hS,rfl,bU,fun t0 n0=>⟨one_le,fun L nL=>⟨_,rfl,bU,fun U nU=>rJ (Q:=fun x H'=>∀U,H' U=none->Q (.ref U) (upd H' U (.tup [x,.int (dR 2 [v] kp)]))) rfl rfl fin n0 nL U nU⟩⟩⟩
theorem Dg (T:Txt w K mg t):FO P w K mg base 1 t.qM ["self", "values", "kept"] (eU K t 3):=by
 have sc:=T.my.sc ["self", "values", "kept"]
 refine T.my.F.ok sc ln (fun _ _ _ _ H vs Q E hr h=>?_)
 obtain⟨p,a,nm,ns,is,os,ws,kp,rfl,hP,ln,hS,lw,hB,k⟩:=h
 refine⟨_,(aA (aN (bV (aa (bx (aa (bV (aa aq (aa (aO aQ (pv 1) aq (fun _ _=>rfl)) ak aF) ao)) (aa (bV (aa aq (aa (aO aQ (pv 1) aq (fun _ _=>rfl)) ak aF) ao)) ak bO) bO)) (aa (pv 2) ak aj) aR)))),?_⟩
 obtain⟨dx,tn,ti,to,hp,h2,h3,h4⟩:=id hP.ex
 match ws,lw with
 | [v],_=>
  have fin:∀H' L rs,aK H H'->H L=none->H' L=some (.lst (rs.map V.ref))->fH H' rs (BW (cH 3 ns [v] kp))->∀U,H' U=none->Q (.ref U) (upd H' U (.tup [.ref L,.int (dR 3 [v] kp)])):=CK k
  exact⟨_,rfl,a,_,0,_,rfl,rfl,hS,rfl,bU,fun t0 n0=>⟨_,rfl,a,_,0,_,rfl,rfl,((aB n0).seq hS),rfl,bU,fun t1 n1=>⟨bU,fun L nL=>⟨_,rfl,bU,fun U nU=>PN (Q:=fun x H'=>∀U,H' U=none->Q (.ref U) (upd H' U (.tup [x,.int (dR 3 [v] kp)]))) rfl rfl rfl rfl fin n0 n1 nL U nU⟩⟩⟩⟩
theorem Cy (T:Txt w K mg t):FO P w K mg base 2 t.qQ ["self", "values", "kept"] (eU K t 4):=by
 have sc:=T.mz.sc ["self", "values", "kept"]
 refine T.mz.F.ok sc ln (fun _ _ _ _ H vs Q E hr h=>?_)
 obtain⟨p,a,nm,ns,is,os,ws,kp,rfl,hP,ln,hS,lw,hB,k⟩:=h
 refine⟨_,(aA (aN (bV (aa (bx (aa (bV (aa aq (aa (d8 (GZ T) T.Du hr (aa (bc du (bc jY (aO Ly (bB (pv 0) rfl) aq (fun _ _=>rfl)) (aO aQ (pv 1) aq (fun _ _=>rfl))) (aO Ly (bB (pv 0) rfl) aq (fun _ _=>rfl))) ak bT)) ak bf) ao)) ak bO)) (aa (pv 2) ak aj) aR)))),?_⟩
 obtain⟨dx,tn,ti,to,hp,h2,h3,h4⟩:=id hP.ex
 match ws,lw,ns,ln with
 | [v],_,[m,m1],_=>
  have fin:∀H' L rs,aK H H'->H L=none->H' L=some (.lst (rs.map V.ref))->fH H' rs (BW (cH 4 [m,m1] [v] kp))->∀U,H' U=none->Q (.ref U) (upd H' U (.tup [.ref L,.int (dR 4 [v] kp)])):=CK k
  exact⟨_,rfl,p,cls t 4,dx,_,.ref tn,rfl,hp,iQ T 4,sS T 4,sI _ _ _ _,.inr (.inl ⟨tn,_,0,_,rfl,rfl,h2,rfl,_,rfl,a,_,0,_,rfl,rfl,hS,rfl,_,_,rfl,rfl,Yi hB (by simp),_,rfl,p,cls t 4,dx,_,.ref tn,rfl,hp,iQ T 4,sS T 4,sI _ _ _ _,.inr (.inl ⟨tn,_,1,_,rfl,rfl,h2,rfl,_,_,rfl,rfl,_,rfl,bU,fun t0 n0=>⟨one_le,fun L nL=>⟨_,rfl,bU,fun U nU=>rJ (Q:=fun x H'=>∀U,H' U=none->Q (.ref U) (upd H' U (.tup [x,.int (dR 4 [v] kp)]))) rfl rfl fin n0 nL U nU⟩⟩⟩)⟩)⟩
theorem Ci (T:Txt w K mg t):FO P w K mg base 2 t.qP ["self", "values", "kept"] (eU K t 5):=by
 have sc:=T.lN.sc ["self", "values", "kept", "together"]
 refine T.lN.F.ok sc ln (fun _ _ _ _ H vs Q E hr h=>?_)
 obtain⟨p,a,nm,ns,is,os,ws,kp,rfl,hP,ln,hS,lw,hB,k⟩:=h
 refine⟨_,(az (sN sc 3 (d8 (GZ T) T.Du hr (aa (bc du (pv 2) (aO aQ (pv 1) aq (fun _ _=>rfl))) ak bT)))
  (aA (aN (bV (aa (bx (aa (bV (aa aq (aa (pv 3) ak aj) ao)) ak bO)) (aa (pv 3) ak aj) aR))))),?_⟩
 obtain⟨dx,tn,ti,to,hp,h2,h3,h4⟩:=id hP.ex
 match ws,lw with
 | [v],_=>
  have fin:∀H' L rs,aK H H'->H L=none->H' L=some (.lst (rs.map V.ref))->fH H' rs (BW (cH 5 ns [v] kp))->∀U,H' U=none->Q (.ref U) (upd H' U (.tup [.ref L,.int (dR 5 [v] kp)])):=CK k
  exact⟨_,rfl,_,rfl,a,_,0,_,rfl,rfl,hS,rfl,_,_,rfl,rfl,_,rfl,_,rfl,bU,fun t0 n0=>⟨one_le,fun L nL=>⟨_,rfl,bU,fun U nU=>rJ (Q:=fun x H'=>∀U,H' U=none->Q (.ref U) (upd H' U (.tup [x,.int (dR 5 [v] kp)]))) rfl rfl fin n0 nL U nU⟩⟩⟩
theorem Et (T:Txt w K mg t):FO P w K mg base 2 t.sr ["self", "values", "kept"] (eU K t 6):=by
 have sc:=T.oN.sc ["self", "values", "kept"]
 refine T.oN.F.ok sc ln (fun _ _ _ _ H vs Q E hr h=>?_)
 obtain⟨p,a,nm,ns,is,os,ws,kp,rfl,hP,ln,hS,lw,hB,k⟩:=h
 refine⟨_,(aA (aN (bV (aa (bx (aa (bV (aa aq (aa (d8 (GZ T) T.Du hr (aa (bc du (aO aQ (pv 1) aq (fun _ _=>rfl)) (aO aQ (pv 1) aq (fun _ _=>rfl))) ak bT)) ak bf) ao)) ak bO)) (aa (pv 2) ak aj) aR)))),?_⟩
 obtain⟨dx,tn,ti,to,hp,h2,h3,h4⟩:=id hP.ex
 match ws,lw with
 | [v,v1],_=>
  have fin:∀H' L rs,aK H H'->H L=none->H' L=some (.lst (rs.map V.ref))->fH H' rs (BW (cH 6 ns [v,v1] kp))->∀U,H' U=none->Q (.ref U) (upd H' U (.tup [.ref L,.int (dR 6 [v,v1] kp)])):=CK k
  exact⟨_,rfl,a,_,0,_,rfl,rfl,hS,rfl,_,rfl,a,_,1,_,rfl,rfl,hS,rfl,_,_,rfl,rfl,_,rfl,bU,fun t0 n0=>⟨one_le,fun L nL=>⟨_,rfl,bU,fun U nU=>rJ (Q:=fun x H'=>∀U,H' U=none->Q (.ref U) (upd H' U (.tup [x,.int (dR 6 [v,v1] kp)]))) rfl rfl fin n0 nL U nU⟩⟩⟩
theorem Cv (T:Txt w K mg t):FO P w K mg base 1 t.qZ ["self", "values", "kept"] (eU K t 7):=by
 have sc:=T.mj.sc ["self", "values", "kept"]
 refine T.mj.F.ok sc ln (fun _ _ _ _ H vs Q E hr h=>?_)
 obtain⟨p,a,nm,ns,is,os,ws,kp,rfl,hP,ln,hS,lw,hB,k⟩:=h
 refine⟨_,(aA (aN (bV (aa (bx (aa (bV (aa aq (aa (ur (aW wX (aO aQ (pv 1) aq (fun _ _=>rfl)) (aO aQ (pv 1) aq (fun _ _=>rfl)) (bI _)) aq aq) ak Km) ao)) ak bO)) (aa (pv 2) ak aj) aR)))),?_⟩
 obtain⟨dx,tn,ti,to,hp,h2,h3,h4⟩:=id hP.ex
 match ws,lw with
 | [v,v1],_=>
  have fin:∀H' L rs,aK H H'->H L=none->H' L=some (.lst (rs.map V.ref))->fH H' rs (BW (cH 7 ns [v,v1] kp))->∀U,H' U=none->Q (.ref U) (upd H' U (.tup [.ref L,.int (dR 7 [v,v1] kp)])):=CK k
  refine⟨_,rfl,a,_,0,_,rfl,rfl,hS,rfl,_,rfl,a,_,1,_,rfl,rfl,hS,rfl,_,_,rfl,rfl,_,rfl,jB (fun h=>?_) (fun h=>?_)⟩
  ·have h':v <v1:=of_decide_eq_true h
   exact⟨bU,fun t0 n0=>⟨one_le,fun L nL=>⟨_,rfl,bU,fun U nU=>rJ (Q:=fun x H'=>∀U,H' U=none->Q (.ref U) (upd H' U (.tup [x,.int (dR 7 [v,v1] kp)]))) rfl (by show(1:Int)=if v <v1 then 1 else 0;rw [if_pos h']) fin n0 nL U nU⟩⟩⟩
  ·have h':¬v <v1:=fun z=>h (decide_eq_true z)
   exact⟨bU,fun t0 n0=>⟨one_le,fun L nL=>⟨_,rfl,bU,fun U nU=>rJ (Q:=fun x H'=>∀U,H' U=none->Q (.ref U) (upd H' U (.tup [x,.int (dR 7 [v,v1] kp)]))) rfl (by show(0:Int)=if v <v1 then 1 else 0;rw [if_neg h']) fin n0 nL U nU⟩⟩⟩
theorem BJ (T:Txt w K mg t):FO P w K mg base 1 t.pI ["self", "values", "kept"] (eU K t 8):=by
 have sc:=T.j8.sc ["self", "values", "kept"]
 refine T.j8.F.ok sc ln (fun _ _ _ _ H vs Q E hr h=>?_)
 obtain⟨p,a,nm,ns,is,os,ws,kp,rfl,hP,ln,hS,lw,hB,k⟩:=h
 refine⟨_,(aA (aN (bV (aa (bx (aa (bV (aa aq (aa (bG (O3 rfl) (by rfl) T.Ve RN (aa (pv 1) ak aj)) ak bf) ao)) (aa (bV (aa aq (aa (bG (Ov rfl) (by rfl) T.Nu Ig (aa (pv 1) ak aj)) ak bf) ao)) ak bO) bO)) (aa (pv 2) ak aj) aR)))),?_⟩
 obtain⟨dx,tn,ti,to,hp,h2,h3,h4⟩:=id hP.ex
 match ws,lw with
 | [v,v1],_=>
  have fin:∀H' L rs,aK H H'->H L=none->H' L=some (.lst (rs.map V.ref))->fH H' rs (BW (cH 8 ns [v,v1] kp))->∀U,H' U=none->Q (.ref U) (upd H' U (.tup [.ref L,.int (dR 8 [v,v1] kp)])):=CK k
  exact⟨_,rfl,a,v,v1,rfl,hS,bU,fun t0 n0=>⟨_,rfl,a,v,v1,rfl,(aB n0).seq hS,bU,fun t1 n1=>⟨bU,fun L nL=>⟨_,rfl,bU,fun U nU=>PN (Q:=fun x H'=>∀U,H' U=none->Q (.ref U) (upd H' U (.tup [x,.int (dR 8 [v,v1] kp)]))) rfl rfl rfl rfl fin n0 n1 nL U nU⟩⟩⟩⟩
theorem zU (T:Txt w K mg t):FO P w K mg base 1 t.nY ["self", "values", "kept"] (eU K t 9):=by
 have sc:=T.jy.sc ["self", "values", "kept"]
 refine T.jy.F.ok sc ln (fun _ _ _ _ H vs Q E hr h=>?_)
 obtain⟨p,a,nm,ns,is,os,ws,kp,rfl,hP,ln,hS,lw,hB,k⟩:=h
 refine⟨_,(aA (aN (bV (aa (bx (aa (bV (aa aq (aa (aO aQ (pv 1) aq (fun _ _=>rfl)) ak aF) ao)) ak bO)) (aa (pv 2) ak aj) aR)))),?_⟩
 obtain⟨dx,tn,ti,to,hp,h2,h3,h4⟩:=id hP.ex
 match ws,lw with
 | [v,v1],_=>
  have fin:∀H' L rs,aK H H'->H L=none->H' L=some (.lst (rs.map V.ref))->fH H' rs (BW (cH 9 ns [v,v1] kp))->∀U,H' U=none->Q (.ref U) (upd H' U (.tup [.ref L,.int (dR 9 [v,v1] kp)])):=CK k
  exact⟨_,rfl,a,_,1,_,rfl,rfl,hS,rfl,bU,fun t0 n0=>⟨one_le,fun L nL=>⟨_,rfl,bU,fun U nU=>rJ (Q:=fun x H'=>∀U,H' U=none->Q (.ref U) (upd H' U (.tup [x,.int (dR 9 [v,v1] kp)]))) rfl rfl fin n0 nL U nU⟩⟩⟩
theorem Bv (T:Txt w K mg t):FO P w K mg base 1 t.oZ ["self", "values", "kept"] (eU K t 10):=by
 have sc:=T.jL.sc ["self", "values", "kept"]
 refine T.jL.F.ok sc ln (fun _ _ _ _ H vs Q E hr h=>?_)
 obtain⟨p,a,nm,ns,is,os,ws,kp,rfl,hP,ln,hS,lw,hB,k⟩:=h
 refine⟨_,(aA (aN (bV (aa (bx (aa (bV (aa (bc b7 (aO aQ (pv 1) aq (fun _ _=>rfl)) aq) (aa (aO aQ (pv 1) aq (fun _ _=>rfl)) ak aF) bT)) ak bO)) (aa (pv 2) ak aj) aR)))),?_⟩
 obtain⟨dx,tn,ti,to,hp,h2,h3,h4⟩:=id hP.ex
 match ws,lw with
 | [v,v1],_=>
  have fin:∀H' L rs,aK H H'->H L=none->H' L=some (.lst (rs.map V.ref))->fH H' rs (BW (cH 10 ns [v,v1] kp))->∀U,H' U=none->Q (.ref U) (upd H' U (.tup [.ref L,.int (dR 10 [v,v1] kp)])):=CK k
  exact⟨_,rfl,a,_,0,_,rfl,rfl,hS,rfl,_,_,rfl,rfl,by show(0:Int) <2;decide,_,rfl,a,_,1,_,rfl,rfl,hS,rfl,bU,fun t0 n0=>⟨one_le,fun L nL=>⟨_,rfl,bU,fun U nU=>rJ (Q:=fun x H'=>∀U,H' U=none->Q (.ref U) (upd H' U (.tup [x,.int (dR 10 [v,v1] kp)]))) rfl rfl fin n0 nL U nU⟩⟩⟩
theorem Ek (T:Txt w K mg t):FO P w K mg base 1 t.rm ["self", "values", "kept"] (eU K t 0):=by
 have sc:=T.lY.sc ["self", "values", "kept"]
 refine T.lY.F.ok sc ln (fun _ _ _ _ H vs Q E hr h=>?_)
 obtain⟨p,a,nm,ns,is,os,ws,kp,rfl,hP,ln,hS,lw,hB,k⟩:=h
 refine⟨_,(aA (aN (bV (aa (bx (aa (bV (aa aq (aa (aO aQ (pv 1) aq (fun _ _=>rfl)) ak aF) ao)) ak bO)) (aa (pv 2) ak aj) aR)))),?_⟩
 obtain⟨dx,tn,ti,to,hp,h2,h3,h4⟩:=id hP.ex
 match ws,lw with
 | [v],_=>
  have fin:∀H' L rs,aK H H'->H L=none->H' L=some (.lst (rs.map V.ref))->fH H' rs (BW (cH 0 ns [v] kp))->∀U,H' U=none->Q (.ref U) (upd H' U (.tup [.ref L,.int (dR 0 [v] kp)])):=CK k
  exact⟨_,rfl,a,_,0,_,rfl,rfl,hS,rfl,bU,fun t0 n0=>⟨one_le,fun L nL=>⟨_,rfl,bU,fun U nU=>rJ (Q:=fun x H'=>∀U,H' U=none->Q (.ref U) (upd H' U (.tup [x,.int (dR 0 [v] kp)]))) rfl rfl fin n0 nL U nU⟩⟩⟩
theorem Ec (T:Txt w K mg t):FO P w K mg base 1 t.rB ["self", "values", "kept"] (eU K t 1):=by
 have sc:=T.lL.sc ["self", "values", "kept"]
 refine T.lL.F.ok sc ln (fun _ _ _ _ H vs Q E hr h=>?_)
 obtain⟨p,a,nm,ns,is,os,ws,kp,rfl,hP,ln,hS,lw,hB,k⟩:=h
 refine⟨_,(aA (aN (bV (aa (bx ak) (aa (pv 2) ak aj) aR)))),?_⟩
 obtain⟨dx,tn,ti,to,hp,h2,h3,h4⟩:=id hP.ex
 match ws,lw with
 | [v],_=>
  have fin:∀H' L rs,aK H H'->H L=none->H' L=some (.lst (rs.map V.ref))->fH H' rs (BW (cH 1 ns [v] kp))->∀U,H' U=none->Q (.ref U) (upd H' U (.tup [.ref L,.int (dR 1 [v] kp)])):=CK k
  exact⟨by show 0<=sizeLine;decide,fun L nL=>⟨_,rfl,bU,fun U nU=>fin _ L [] (aB nL) nL au .nil U nU⟩⟩
inductive Ba (vs:List V) (H:Hp) (Q:VK) (E:XK):Prop where
 | mk:∀a b:Int,vs=[.int a,.int b]->Q (.int (cG a b)) H->Ba vs H Q E
theorem bA (T:Txt w K mg t):FO P w K mg base 1 t.CJ ["_law_cell_here", "_law_k"] (Ba):=by
 have sc:=T.bF.sc ["_law_cell_here", "_law_k", "_law_number"]
 refine T.bF.F.ok sc ln (fun _ _ _ _ H vs Q E hr h=>?_)
 obtain⟨a,b,rfl,k⟩:=h
 refine⟨_,(az (sN sc 2 (bc b7 (bc du (bc du (bc jY (bc b7 (pv 0) aq) aq) (bc jY aq (pv 1))) aq) aq))
  (az (sN sc 2 (bc b7 (bc jY (pv 2) (pv 2)) aq))
  (aA (aN (bc b7 (bc jY (bc du (pv 2) (bc jY aq (pv 1))) (pv 2)) aq))))),?_⟩
 refine⟨_,rfl,_,_,rfl,rfl,by show(0:Int) <2147483647;decide,_,_,rfl,rfl,Iw,_,rfl,_,_,rfl,rfl,jD,_,_,rfl,rfl,_,_,rfl,rfl,_,_,rfl,rfl,by show(0:Int) <2147483647;decide,?_⟩
 unfold cG at k
 have y0:0<=(a % 2147483647 * 48271+7919 * b+11) % 2147483647:=Int.emod_nonneg _ (by decide)
 have y1:(a % 2147483647 * 48271+7919 * b+11) % 2147483647 <2147483647:=Int.emod_lt_of_pos _ (by decide)
 refine⟨_,rfl,_,rfl,_,_,rfl,rfl,.of_right (intBits_le_64 (Int.lt_of_lt_of_le (show -(2 ^ 64) <(0:Int) by decide) y0) (Int.lt_trans y1 (by decide))),_,_,rfl,rfl,by show(0:Int) <2147483629;decide,?_⟩
 have z0:0<=((a % 2147483647 * 48271+7919 * b+11) % 2147483647) * ((a % 2147483647 * 48271+7919 * b+11) % 2147483647) % 2147483629:=Int.emod_nonneg _ (by decide)
 have z1:((a % 2147483647 * 48271+7919 * b+11) % 2147483647) * ((a % 2147483647 * 48271+7919 * b+11) % 2147483647) % 2147483629 <2147483629:=Int.emod_lt_of_pos _ (by decide)
 exact⟨_,rfl,_,rfl,_,_,rfl,rfl,jD,_,_,rfl,rfl,_,rfl,_,_,rfl,rfl,.of_right (intBits_le_64 (Int.lt_of_lt_of_le (show -(2 ^ 64) <(0:Int) by decide) z0) (Int.lt_trans z1 (by decide))),_,_,rfl,rfl,by show(0:Int) <2147483587;decide,k⟩
inductive yd (K:PySem.W.Frag) (vs:List V) (H:Hp) (Q:VK) (E:XK):Prop where
 | mk:∀(a:Addr) (ns:List Int) (j:Nat),vs=[.ref a,.int (j:Nat)]->bL K H a (ns.map V.int)->Q (.int (mU ns j)) H->yd K vs H Q E
theorem iY (T:Txt w K mg t):FO P w K mg base 1 t.Ak ["_law_script", "_law_k"] (yd K):=by
 have sc:=T.gq.sc ["_law_script", "_law_k"]
 refine T.gq.F.ok sc ln (fun _ _ _ _ H vs Q E hr h=>?_)
 obtain⟨a,ns,j,rfl,hS,k⟩:=h
 refine⟨_,(az (bR (aW wX (pv 1) (bG cj (by rfl) T.fK dI (aa (pv 0) ak aj)) (bI _))
   (aA (aN (aO aQ (pv 0) (pv 1) (fun _ _=>rfl))))
   aY)
  (aA (aN (bc du (bc jY aq (pv 1)) aq)))),?_⟩
 unfold mU at k
 refine⟨_,rfl,_,rfl,.ref a,ns.length,rfl,.inl ⟨_,hS,by simp⟩,_,_,rfl,rfl,_,rfl,jB (fun h=>?_) (fun h=>?_)⟩
 ·have h':j <ns.length:=by have:=of_decide_eq_true h;omega
  rw [List.getElem?_eq_getElem h'] at k
  exact⟨_,rfl,_,rfl,a,_,j,_,rfl,rfl,hS,aM (by rw [List.getElem?_map,List.getElem?_eq_getElem h'];rfl),k⟩
 ·have h':¬j <ns.length:=fun z=>h (decide_eq_true (by omega))
  rw [List.getElem?_eq_none (by omega)] at k
  exact⟨_,rfl,_,_,rfl,rfl,jD,_,_,rfl,rfl,k⟩
inductive wC (vs:List V) (H:Hp) (Q:VK) (E:XK):Prop where
 | mk:∀a b:Int,vs=[.int a,.int b]->Q (.int (qU a b)) H->wC vs H Q E
theorem jl (T:Txt w K mg t):FO P w K mg base 2 t.yj ["_law_cell_here", "_law_k"] (wC):=by
 have sc:=T.gB.sc ["_law_cell_here", "_law_k", "_law_number", "_law_way"]
 refine T.gB.F.ok sc ln (fun _ _ _ _ H vs Q E hr h=>?_)
 obtain⟨a,b,rfl,k⟩:=h
 refine⟨_,(az (sN sc 2 (d8 (bA T) T.bF hr (aa (pv 0) (aa (pv 1) ak aj) aj)))
  (az (sN sc 3 (bc b7 (bc J8 (pv 2) aq) aq))
  (az (bR (aW dW (pv 3) aq (bI _))
   (aA (aN (bc b7 (pv 2) aq)))
   aY)
  (az (bR (aW dW (pv 3) aq (bI _))
   (aA (aN (bc b7 (pv 2) (bc xW aq aq))))
   aY)
  (aA (aN (bc KC (bc KC (bc xW aq aq) aq) (bc b7 (pv 2) aq)))))))),?_⟩
 refine⟨_,rfl,_,rfl,a,b,rfl,?_⟩
 unfold qU at k
 have n0:=Bl a b
 generalize cG a b=n at n0 k ⊢
 refine⟨_,rfl,_,_,rfl,rfl,UT (by decide) (by decide),_,_,rfl,rfl,by show(0:Int) <3;decide,?_⟩
 refine⟨_,rfl,rfl,_,rfl,jB (fun h=>?_) (fun h=>?_)⟩
 ·have h':n / 7 % 3=0:=by simpa using of_decide_eq_true h
  rw [if_pos h'] at k
  exact⟨_,rfl,_,_,rfl,rfl,by show(0:Int) <5;decide,k⟩
 have h':¬n / 7 % 3=0:=fun z=>h (decide_eq_true (by show V.int (n / 7 % 3)=V.int 0;rw [z]))
 rw [if_neg h'] at k
 refine⟨_,rfl,rfl,_,rfl,jB (fun h2=>?_) (fun h2=>?_)⟩
 ·have h2':n / 7 % 3=1:=by simpa using of_decide_eq_true h2
  rw [if_pos h2'] at k
  exact⟨_,rfl,_,_,rfl,rfl,⟨by decide,by decide,by decide⟩,_,_,rfl,rfl,by show(0:Int) <10 ^ 9;decide,k⟩
 have h2':¬n / 7 % 3=1:=fun z=>h2 (decide_eq_true (by show V.int (n / 7 % 3)=V.int 1;rw [z]))
 rw [if_neg h2'] at k
 exact⟨_,_,rfl,rfl,⟨by decide,by decide,by decide⟩,_,_,rfl,rfl,_,rfl,_,_,rfl,rfl,by show(0:Int) <3;decide,_,_,rfl,rfl,k⟩
theorem LR {x y:Str} (h:x.cps.toList=y.cps.toList):x=y:=PyProof.Rows.ext_toList h
theorem O6 {n:Int} (h0:0<=n) (h1:n <2000):n.natAbs.log2 <1920:=by
 by_cases z:n.natAbs=0
 ·rw [z]
  decide
 ·have:n.natAbs.log2 <11:=(Nat.log2_lt z).mpr (by omega)
  omega
theorem join_ones (cs:List Nat):(Txt.join Str.empty (cs.map fun c=>(⟨#[c]⟩:Str))).cps.toList=cs:=by
 unfold Txt.join
 rw [StrLaws.glued_eq_join,DN]
 induction cs with
 | nil=>rfl
 | cons c r ih=>simpa using ih
theorem We {x:Str} {n:Nat} (h:n<=x.length):(Txt.slice x none (some (n:Int))).cps.toList=x.cps.toList.take n:=by
 have e:=beq_iff_eq.mp (PyProof.Rows.slice_closes_toL (x:=x) (j:=(n:Int)) (by omega) (by omega))
 rw [e]
 simp
theorem Rc {x:Str} {n:Nat} (h:n<=x.length):(Txt.slice x (some (n:Int)) none).cps.toList=x.cps.toList.drop n:=by
 have e:=PyProof.Rows.slice_from_eq (x:=x) (i:=(n:Int)) (b:=(x.length:Int)) (by omega) (by omega) rfl
 rw [e]
 show List.take ((x.length:Int) - n).toNat (List.drop ((n:Int)).toNat x.cps.toList)=_
 rw [Int.toNat_natCast,List.take_of_length_le (by rw [List.length_drop,oY];omega)]
inductive yX (vs:List V) (H:Hp) (Q:VK) (E:XK):Prop where
 | mk:∀(a:Int) (b:Nat),vs=[.int a,.int (b:Nat)]->b<=25->(∀H':Hp,aK H H'->Q (.str (cX a b)) H')->yX vs H Q E
noncomputable abbrev Al:List Str:=["_law_cell_here", "_law_k", "_law_letters", "_law_many", "_law_base", "_law_at"]
theorem oJ (T:Txt w K mg t):FO P w K mg base 2 t.Ax ["_law_cell_here", "_law_k"] (yX):=by
 have sc:=T.jG.sc Al
 refine T.jG.F.ok sc ln (fun _ _ _ _ H vs Q E hr h=>?_)
 obtain⟨a,b,rfl,b1,k⟩:=h
 refine⟨_,(az (sN sc 2 bh)
  (az (bR (aW dW (bc b7 (d8 (bA T) T.bF hr (aa (pv 0) (aa aq ak ao) aj)) aq) aq (bI _))
   (aA (aN (bc xO (aO Dd (pv 2) (bc b7 (d8 (bA T) T.bF hr (aa (pv 0) (aa aq ak ao) aj)) aq) (fun _ _=>rfl)) (dj Hi (by rfl) T.Uy Q9 (aa (bc du (bc b7 (d8 (bA T) T.bF hr (aa (pv 0) (aa aq ak ao) aj)) aq) (bc jY aq (pv 1))) ak bT)))))
   aY)
  (az (sN sc 3 (bc b7 (d8 (bA T) T.bF hr (aa (pv 0) (aa aq ak ao) aj)) aq))
  (az (sN sc 4 (ye PySem.F.plainAttrs_str PySem.F.slot_str_join PySem.F.type_str_join TX bh (aa (fM [0,2] Al (aU (top 66)) rfl (jE rfl T.lU (aa (pv 3) ak aj)) (fun _ _ _ _ _=>gm) (fun _ _ _ _ _=>(aO Dd (pv 2) (bc b7 (d8 (bA T) T.bF hr (aa (pv 1) (aa (bc du aq (pv 0)) ak bT) aj)) aq) (fun _ _=>rfl)))) ak d7)))
  (az (sN sc 5 (bc b7 (d8 (bA T) T.bF hr (aa (pv 0) (aa aq ak ao) aj)) (bc du (pv 3) aq)))
  (aA (aN (bc xO (bc xO (mH PQ (pv 4) vO (lW (pv 5))) (aO Dd (pv 2) (bc b7 (bc du (d8 (bA T) T.bF hr (aa (pv 0) (aa aq ak ao) aj)) (pv 1)) aq) (fun _ _=>rfl))) (mH PQ (pv 4) (lW (pv 5)) vO))))))))),?_⟩
 have hl:sizeLine=16777216:=sizeLine_eq
 have hF:(cX a b).cps.toList=Ae a b:=Dc a b
 unfold Ae at hF
 refine⟨_,rfl,_,_,rfl,⟨_,_,rfl,rfl,by show(0:Int) <3;decide,rfl,_,rfl,jB (fun hw=>?_) (fun hw=>?_)⟩⟩
 ·have hw':cG a 52 % 3=0:=by simpa using of_decide_eq_true hw
  rw [if_pos hw'] at hF
  refine⟨_,rfl,_,rfl,_,_,rfl,?_⟩
  refine⟨_,_,rfl,rfl,by show(0:Int) <26;decide,LT,_,_,rfl,rfl,by rw [LC];omega,Qm _,?_⟩
  refine⟨_,rfl,_,_,rfl,⟨_,_,rfl,rfl,by show(0:Int) <1000;decide,_,rfl,_,_,rfl,rfl,jD,_,_,rfl,rfl,?_⟩⟩
  have q0:=Int.emod_nonneg (cG a 54) (show(1000:Int)≠0 by decide)
  have q1:=Int.emod_lt_of_pos (cG a 54) (show(0:Int) <1000 by decide)
  obtain⟨m,hm⟩:∃m:Nat,cG a 54 % 1000+37 * (b:Int)=(m:Int):=⟨(cG a 54 % 1000+37 * (b:Int)).toNat,by omega⟩
  obtain⟨_,g2,_⟩:=wj (n:=m) (by omega)
  have g3:(toString (m:Int):Str).length<=4:=by rw [<-oY];exact g2
  have e:(⟨#[Jq (cG a 53)]⟩:Str) ++ (toString (m:Int):Str)=cX a b:=LR (by
   rw [hF,Str.cps_append,hm,Int.toNat_natCast]
   simp only [Array.toList_append]
   rfl)
  have k':=k H (aK.refl _)
  rw [<-e] at k'
  dsimp only
  rw [hm]
  exact⟨_,rfl,O6 (by omega) (by omega),_,_,rfl,rfl,by show 1+_<=sizeLine;omega,k'⟩
 have hw':¬cG a 52 % 3=0:=fun z=>hw (decide_eq_true (by show V.int (cG a 52 % 3)=V.int 0;rw [z]))
 rw [if_neg hw'] at hF
 refine⟨_,rfl,_,_,rfl,⟨_,_,rfl,rfl,by show(0:Int) <7;decide,?_⟩⟩
 have z0:=Int.emod_nonneg (cG a 50) (show(7:Int)≠0 by decide)
 have z1:=Int.emod_lt_of_pos (cG a 50) (show(0:Int) <7 by decide)
 refine⟨rfl,_,rfl,cG a 50 % 7,rfl,by omega,by omega,?_⟩
 refine lC (fun i ys H'=>H'=H/\ys=((List.range i).map fun j=>Jq (cG a (60+(j:Nat)))).map fun c=>V.str ⟨#[c]⟩) (by omega) ⟨rfl,rfl⟩ (fun i ys H' ⟨_,e⟩=>by rw [e,lM,lM,List.length_range];omega) ?_ ?_
 ·rintro i ys H' hi ⟨rfl,rfl⟩
  refine yes ?_
  refine⟨_,rfl,_,rfl,_,rfl,_,_,rfl,rfl,_,_,rfl,?_⟩
  refine⟨_,_,rfl,rfl,by show(0:Int) <26;decide,LT,_,_,rfl,rfl,by rw [LC];omega,Qm _,rfl,?_⟩
  rw [List.range_succ,List.map_append,List.map_append]
  simp
 rintro ys H' ⟨rfl,rfl⟩ D hD
 have eb:((List.range (cG a 50 % 7).toNat).map fun j=>Jq (cG a (60+(j:Nat))))=gw a:=rfl
 rw [eb]
 have s1:aK H' (upd H' D (.lst ((gw a).map fun c=>V.str ⟨#[c]⟩))):=aB hD
 have bl:=(Eh a).1
 have es:((gw a).map fun c=>V.str ⟨#[c]⟩)=((gw a).map fun c=>(⟨#[c]⟩:Str)).map V.str:=by rw [List.map_map];rfl
 refine⟨Str.empty,D,(gw a).map fun c=>(⟨#[c]⟩:Str),rfl,rfl,bL.of (by rw [<-es];exact au),?_,?_⟩
 ·have:=R9 (n:=1) ((gw a).map fun c=>(⟨#[c]⟩:Str)) fun w h=>by
   obtain⟨c,_,rfl⟩:=List.mem_map.mp h
   exact Nat.le_refl 1
  have he:Str.empty.length=0:=rfl
  rw [he]
  rw [lM] at this
  omega
 have ej:=join_ones (gw a)
 generalize upd H' D (.lst ((gw a).map fun c=>V.str ⟨#[c]⟩))=H1 at s1 ⊢
 generalize Txt.join Str.empty ((gw a).map fun c=>(⟨#[c]⟩:Str))=x0 at ej ⊢
 have hx0:x0.length=(gw a).length:=by rw [<-oY,ej]
 refine⟨_,rfl,_,_,rfl,⟨_,rfl,_,_,rfl,rfl,_,_,rfl,rfl,by show(0:Int) <cG a 50 % 7+1;omega,?_⟩⟩
 have hsp:=Ms a
 obtain⟨n,hn,hn2⟩:∃n:Nat,cG a 51 % (cG a 50 % 7+1)=(n:Int)/\n=qy a:=⟨qy a,(Int.toNat_of_nonneg (Int.emod_nonneg _ (by omega))).symm,rfl⟩
 rw [<-hn2] at hsp hF
 dsimp only
 rw [hn]
 have s0:=Txt.slice_le x0 none (some (n:Int))
 have s2:=Txt.slice_le x0 (some (n:Int)) none
 refine⟨_,rfl,_,rfl,_,rfl,x0,rfl,by omega,_,rfl,_,rfl,_,_,rfl,⟨_,rfl,_,_,rfl,rfl,?_⟩⟩
 have h1:(⟨#[Jq (cG a 55+(b:Int))]⟩:Str).length=1:=rfl
 refine⟨_,_,rfl,rfl,by show(0:Int) <26;decide,LT,_,_,rfl,rfl,by rw [LC];omega,Qm _,_,_,rfl,rfl,by rw [h1];omega,?_⟩
 refine⟨_,rfl,_,rfl,_,rfl,x0,rfl,by omega,_,_,rfl,rfl,by rw [Str.length_append,h1];omega,?_⟩
 have e:Txt.slice x0 none (some (n:Int)) ++ (⟨#[Jq (cG a 55+(b:Int))]⟩:Str) ++ Txt.slice x0 (some (n:Int)) none=cX a b:=LR (by
  rw [hF,Str.cps_append,Str.cps_append]
  simp only [Array.toList_append]
  rw [We (by omega),Rc (by omega),ej]
  simp)
 rw [e]
 exact k H1 s1
theorem W0 (m:Int):∃c:Nat,FZ [V.int 0,.int 0,.int 0,.int 1,.int 2] (m % 5)=some (.int (c:Nat))/\c<=2:=by
 have key:∀j,j <5->FZ [V.int 0,.int 0,.int 0,.int 1,.int 2] ((j:Nat):Int)=some (.int (([0,0,0,1,2]:List Nat).getD j 0:Nat))/\([0,0,0,1,2]:List Nat).getD j 0<=2:=by decide +kernel
 obtain⟨j,e,hj⟩:=Lw m (n:=5) (k:=5) (by decide) rfl
 rw [e]
 exact⟨_,key j hj⟩
theorem Yr (m:Int):∃c:Nat,FZ [V.int 0,.int 0,.int 1,.int 1,.int 2,.int 7] (m % 6)=some (.int (c:Nat))/\c<=7:=by
 have key:∀j,j <6->FZ [V.int 0,.int 0,.int 1,.int 1,.int 2,.int 7] ((j:Nat):Int)=some (.int (([0,0,1,1,2,7]:List Nat).getD j 0:Nat))/\([0,0,1,1,2,7]:List Nat).getD j 0<=7:=by decide +kernel
 obtain⟨j,e,hj⟩:=Lw m (n:=6) (k:=6) (by decide) rfl
 rw [e]
 exact⟨_,key j hj⟩
inductive zc (vs:List V) (H:Hp) (Q:VK) (E:XK):Prop where
 | mk:∀(d:Dw) (ls:List aG) (ps:List PD) (os:List Str) (c:Int) (b:Bool),vs=[.ref d.S,.int c,.bl b]->oW d H ls ps os->ls.length<=24->(∀(l:aG) (H':Hp),l.name=cX d.c3 ls.length->aK (aZ d.E H) (aZ d.E H')->oW d H' (ls ++ [l]) ps os->Q (.str l.name) H')->zc vs H Q E
noncomputable abbrev Bq:List Str:=["_law_state", "_law_cell_here", "_law_back", "_law_many", "_law_first", "_law_room", "_law_name"]
theorem jU (T:Txt w K mg t):FO P w K mg base 3 t.Ar ["_law_state", "_law_cell_here", "_law_back"] (zc):=by
 have sc:=T.iD.sc Bq
 refine T.iD.F.ok sc ln (fun _ _ _ _ H vs Q E hr h=>?_)
 obtain⟨d,ls,ps,os,c,b,rfl,D,hn,k⟩:=h
 refine⟨_,(az (sN sc 3 (aO aQ (bx (aa aq (aa aq (aa aq (aa aq (aa aq ak ao) ao) ao) ao) ao)) (bc b7 (d8 (bA T) T.bF hr (aa (pv 1) (aa aq ak ao) aj)) aq) (fun _ _=>rfl)))
  (az (fL (bR (jj (pv 2))
   (aA (sN sc 3 (bc b7 (d8 (bA T) T.bF hr (aa (pv 1) (aa aq ak ao) aj)) aq)))
   aY))
  (az (j4 (i:=4) [1] Bq (aU (top 67)) rfl sc.nd rfl (jE rfl T.lU (aa (pv 3) ak aj)) (fun _ _ _ _ _=>gm) (fun _ _ _ _ _=>(d8 (jl T) T.gB hr (aa (pv 1) (aa (bc du aq (pv 0)) ak bT) aj))))
  (az (sN sc 5 (bc du (bG (zM rfl) (by rfl) T.Nu Ig (aa aq (aa (pv 3) ak aj) ao)) (aO aQ (bx (aa aq (aa aq (aa aq (aa aq (aa aq (aa aq ak ao) ao) ao) ao) ao) ao)) (bc b7 (d8 (bA T) T.bF hr (aa (pv 1) (aa aq ak ao) aj)) aq) (fun _ _=>rfl))))
  (az (sN sc 6 (d8 (oJ T) T.jG hr (aa (aO aQ (pv 0) aq (fun _ _=>rfl)) (aa (bG cj (by rfl) T.fK dI (aa (aO aQ (pv 0) aq (fun _ _=>rfl)) ak aF)) ak bf) aF)))
  (az (bM (Ew (aO aQ (pv 0) aq (fun _ _=>rfl)) (aa (bV (aa (pv 6) (aa (pv 5) (aa (pv 4) ak aj) aj) aj)) ak bO)))
  (aA (aN (pv 6))))))))),?_⟩
 have hl:sizeLine=16777216:=sizeLine_eq
 refine⟨iW,fun l0 n0=>?_⟩
 have s0:=aB (o:=.lst [.int 0,.int 0,.int 0,.int 1,.int 2]) n0
 obtain⟨c0,e0,h0⟩:=W0 (cG c 1)
 refine⟨_,rfl,_,_,rfl,_,_,rfl,rfl,by show(0:Int) <5;decide,l0,_,_,_,rfl,rfl,bL.of au,e0,?_⟩
 generalize upd H l0 (.lst [.int 0,.int 0,.int 0,.int 1,.int 2])=H0 at s0 ⊢
 refine⟨fun σ H1=>∃m:Nat,m<=3/\H1=H0/\σ=[some (.ref d.S),some (.int c),some (.bl b),some (.int (m:Nat)),none,none,none],?_,?_⟩
 ·cases b
  ·exact⟨_,rfl,false,rfl,dw ⟨c0,by omega,rfl,rfl⟩⟩
  ·refine⟨_,rfl,true,rfl,fY ⟨_,rfl,_,_,rfl,_,_,rfl,rfl,by show(0:Int) <4;decide,?_⟩⟩
   have h1:=Int.emod_nonneg (cG c 1) (show(4:Int)≠0 by decide)
   have h2:=Int.emod_lt_of_pos (cG c 1) (show(0:Int) <4 by decide)
   refine⟨(cG c 1 % 4).toNat,by omega,rfl,?_⟩
   rw [Int.toNat_of_nonneg h1]
   rfl
 rintro σ H1 ⟨m,hm,rfl,rfl⟩
 refine⟨_,rfl,(m:Int),rfl,by omega,by omega,?_⟩
 rw [Int.toNat_natCast]
 refine lC (fun i ys H'=>H'=H1/\∃ws:List Int,ys=ws.map V.int/\ws.length=i/\∀v∈ws,0<=v/\v <1000000000) (by omega) ⟨rfl,[],rfl,rfl,by simp⟩ (fun i ys H' ⟨_,ws,e,e2,_⟩=>by rw [e,lM];omega) ?_ ?_
 ·rintro i ys H' hi ⟨rfl,ws,rfl,hw,hB⟩
  refine yes ⟨_,rfl,_,rfl,_,_,rfl,rfl,c,10+(0+(i:Int)),rfl,rfl,ws ++ [qU c (10+(0+(i:Int)))],by simp,by simp [hw],fun v hv=>?_⟩
  rcases List.mem_append.mp hv with hv | hv
  ·exact hB v hv
  ·rw [List.mem_singleton] at hv
   subst hv
   exact rQ _ _
 rintro ys H' ⟨rfl,ws,rfl,hw,hB⟩ F nF
 have t1:=aB (o:=.lst (ws.map V.int)) nF
 have sF:=s0.trans t1
 have eF:upd H' F (.lst (ws.map V.int)) F=some (.lst (ws.map V.int)):=au
 have oF:F∉d.E:=D.out (s0.free nF)
 generalize upd H' F (.lst (ws.map V.int))=H2 at t1 sF eF ⊢
 refine⟨_,rfl,_,_,rfl,iW,fun l1 n1=>?_⟩
 have t2:=aB (o:=.lst [.int 0,.int 0,.int 1,.int 1,.int 2,.int 7]) n1
 obtain⟨c1,e1,h1⟩:=Yr (cG c 2)
 refine⟨_,rfl,_,_,rfl,_,_,rfl,rfl,by show(0:Int) <6;decide,l1,_,_,_,rfl,rfl,bL.of au,e1,_,_,rfl,rfl,?_⟩
 have s2:=sF.trans t2
 have eF2:=t2 _ _ eF
 generalize upd H2 l1 (.lst [.int 0,.int 0,.int 1,.int 1,.int 2,.int 7])=H3 at t2 s2 eF2 ⊢
 have D3:=D.keep s2
 obtain⟨xs,eL,aL⟩:=D3.lanes
 have xl:=aL.length
 refine⟨_,rfl,d.S,_,3,_,rfl,rfl,D3.seqS,aM (j:=3) rfl,?_⟩
 refine⟨_,rfl,d.S,_,0,_,rfl,rfl,D3.seqS,aM (j:=0) rfl,.ref d.L,ls.length,rfl,.inl ⟨_,bL.of eL,xl.symm⟩,?_⟩
 refine⟨d.c3,ls.length,rfl,by omega,fun H4 s4=>?_⟩
 have D4:=D3.keep s4
 have eL4:=s4 _ _ eL
 have eF4:=s4 _ _ eF2
 have s04:=s2.trans s4
 refine⟨_,rfl,d.S,_,0,_,rfl,rfl,D4.seqS,aM (j:=0) rfl,?_⟩
 refine⟨.inl ⟨rfl,_,bL.of eL4⟩,_,rfl,_,rfl,_,rfl,iW,fun q nq=>?_⟩
 have t5:=aB (o:=.tup [.str (cX d.c3 ls.length),.int ((if (m:Int) >1 then(m:Int) else 1)+(c1:Int)),.ref F]) nq
 have s5:=s04.trans t5
 have D5:=D4.keep t5
 have oq:q∉d.E:=D4.out nq
 have eq:upd H4 q (.tup [.str (cX d.c3 ls.length),.int ((if (m:Int) >1 then(m:Int) else 1)+(c1:Int)),.ref F]) q=some (.tup [.str (cX d.c3 ls.length),.int ((if (m:Int) >1 then(m:Int) else 1)+(c1:Int)),.ref F]):=au
 have eL5:=t5 _ _ eL4
 have eF5:=t5 _ _ eF4
 refine⟨d.L,xs,_,rfl,rfl,eL5,by omega,_,rfl,?_⟩
 refine k ⟨cX d.c3 ls.length,(if (m:Int) >1 then(m:Int) else 1)+(c1:Int),ws⟩ _ rfl ?_ (D5.lane ⟨q,F,rfl,bY eq oq,bY eF5 oF⟩ ⟨by dsimp only;split <;> omega,by dsimp only;split <;> omega,by dsimp only;split <;> omega,hB⟩ rfl eL5)
 rw [dB (by simp)]
 exact D.cut s5
theorem pop_at:∀{os:List Str} {j:Nat} (h:j <os.length),os.Perm (os[j]:: os.eraseIdx j)
 | [],_,h=>absurd h (by simp)
 | a:: l,0,_=>.refl _
 | a:: l,j+1,h=>by
  have h':j <l.length:=by simpa using h
  show(a:: l).Perm (l[j]:: a:: l.eraseIdx j)
  exact((pop_at (os:=l) (j:=j) (by simpa using h)).cons a).trans (.swap _ _ _)
theorem Gq {α β:Type} {f:α->β}:∀(l:List α) (j:Nat),(l.map f).eraseIdx j=(l.eraseIdx j).map f
 | [],_=>rfl
 | a:: l,0=>rfl
 | a:: l,j+1=>by
  show f a:: (l.map f).eraseIdx j=f a:: (l.eraseIdx j).map f
  rw [Gq l j]
theorem Hz {j n:Nat} (h:j <n):seqIndex? (j:Int) n=some j:=by
 unfold seqIndex?
 have z:¬(j:Int) <0:=by omega
 simp [h,z]
inductive yK (vs:List V) (H:Hp) (Q:VK) (E:XK):Prop where
 | mk:∀(d:Dw) (ls:List aG) (ps:List PD) (os:List Str) (n:Int),vs=[.ref d.S,.int n]->oW d H ls ps os->os≠[]->os.length<=100->(∀(x:Str) (os':List Str) (H':Hp),os.Perm (x:: os')->aK (aZ d.E H) (aZ d.E H')->oW d H' ls ps os'->Q (.str x) H')->yK vs H Q E
theorem sV (T:Txt w K mg t):FO P w K mg base 1 t.Bo ["_law_state", "_law_number"] (yK):=by
 have sc:=T.mC.sc ["_law_state", "_law_number"]
 refine T.mC.F.ok sc ln (fun _ _ _ _ H vs Q E hr h=>?_)
 obtain⟨d,ls,ps,os,n,rfl,D,hne,hs,k⟩:=h
 refine⟨_,(aA (aN (ye PySem.F.plainAttrs_list PySem.F.slot_list_pop PySem.F.type_list_pop uV (aO aQ (pv 0) aq (fun _ _=>rfl)) (aa (bc b7 (pv 1) (bG cj (by rfl) T.fK dI (aa (aO aQ (pv 0) aq (fun _ _=>rfl)) ak aF))) ak bT)))),?_⟩
 have hpos:0 <os.length:=List.length_pos_iff.mpr hne
 refine⟨_,rfl,d.S,_,2,_,rfl,rfl,D.seqS,aM (j:=2) rfl,.inl ⟨rfl,_,bL.of D.opens⟩,?_⟩
 refine⟨_,rfl,_,rfl,d.S,_,2,_,rfl,rfl,D.seqS,aM (j:=2) rfl,.ref d.O,os.length,rfl,.inl ⟨_,bL.of D.opens,by simp⟩,n,(os.length:Int),rfl,rfl,by omega,?_⟩
 have h0:=Int.emod_nonneg n (show(os.length:Int)≠0 by omega)
 have h1:=Int.emod_lt_of_pos n (show(0:Int) <(os.length:Int) by omega)
 obtain⟨j,hj⟩:∃j:Nat,n % (os.length:Int)=(j:Int):=⟨(n % (os.length:Int)).toNat,by omega⟩
 have hj':j <os.length:=by omega
 refine⟨d.O,_,(j:Int),j,.str os[j],rfl,by show [V.int (n % (os.length:Int))]=_;rw [hj],D.opens,by omega,by omega,by rw [lM];exact Hz hj',by rw [List.getElem?_map,List.getElem?_eq_getElem hj'];rfl,?_⟩
 rw [Gq]
 exact k os[j] (os.eraseIdx j) _ (pop_at hj') (by rw [dB (by simp)];exact aK.refl _) D.open
inductive yQ (vs:List V) (H:Hp) (Q:VK) (E:XK):Prop where
 | mk:∀(d:Dw) (ls:List aG) (ps:List PD) (os:List Str) (c:Int) (i:Nat) (a1 a2:Addr) (nums:List Int) (ins:List Str) (many:Nat),vs=[.ref d.S,.int c,.str (cL i),.ref a1,.ref a2,.int (many:Nat)]->oW d H ls ps os->aZ d.E H a1=some (.lst (nums.map V.int))->aZ d.E H a2=some (.lst (ins.map V.str))->i <11->nums.length=cN i->((∀v∈nums,0<=v/\v <1000000000))->ins.length=cI i->many=cO i->ls.length<=22->ps.length<=25->os.length<=100->(∀(newl:List aG) (H':Hp),newl.length=many->aK (aZ d.E H) (aZ d.E H')->oW d H' (ls ++ newl) (ps ++ [⟨i,cX d.c4 ps.length,nums,ins,newl.map (·.name)⟩]) (os ++ newl.map (·.name))->Q .non H')->yQ vs H Q E
noncomputable abbrev z7:List Str:=["_law_state", "_law_cell_here", "_law_kind", "_law_numbers", "_law_ins", "_law_many", "_law_outs"]
theorem cT (T:Txt w K mg t):FO P w K mg base 4 t.z6 ["_law_state", "_law_cell_here", "_law_kind", "_law_numbers", "_law_ins", "_law_many"] (yQ):=by
 have sc:=T.cJ.sc z7
 refine T.cJ.F.ok sc ln (fun _ _ _ _ H vs Q E hr h=>?_)
 obtain⟨d,ls,ps,os,c,i,a1,a2,nums,ins,many,rfl,D,e1,e2,hi,hN,hB,hI,hO,hls,hps,hos,k⟩:=h
 refine⟨_,(az (j4 (i:=6) [0,1] z7 (aU (top 68)) rfl sc.nd rfl (jE rfl T.lU (aa (pv 5) ak aj)) (fun _ _ _ _ _=>gm) (fun _ _ _ _ _=>(d8 (jU T) T.iD hr (aa (pv 1) (aa (d8 (bA T) T.bF hr (aa (pv 2) (aa (bc du aq (pv 0)) ak bT) aj)) (aa j0 ak ao) bf) aj))))
  (az (bM (Ew (aO aQ (pv 0) aq (fun _ _=>rfl)) (aa (bV (aa (pv 2) (aa (d8 (oJ T) T.jG hr (aa (aO aQ (pv 0) aq (fun _ _=>rfl)) (aa (bG cj (by rfl) T.fK dI (aa (aO aQ (pv 0) aq (fun _ _=>rfl)) ak aF)) ak bf) aF)) (aa (pv 3) (aa (pv 4) (aa (pv 6) ak aj) aj) aj) bf) aj)) ak bO)))
  (aA (bM (ye PySem.F.plainAttrs_list PySem.F.slot_list_extend PySem.F.type_list_extend Ge (aO aQ (pv 0) aq (fun _ _=>rfl)) (aa (pv 6) ak aj)))))),?_⟩
 have hl:sizeLine=16777216:=sizeLine_eq
 have hm2:many<=2:=by rw [hO];exact Rp i
 refine⟨_,rfl,(many:Int),rfl,by omega,by omega,?_⟩
 rw [Int.toNat_natCast]
 refine lC (fun i ys H'=>∃newl:List aG,newl.length=i/\ys=newl.map (fun l=>V.str l.name)/\aK (aZ d.E H) (aZ d.E H')/\oW d H' (ls ++ newl) ps os) (by omega) ⟨[],rfl,rfl,aK.refl _,by rw [List.append_nil];exact D⟩ (fun i ys H' ⟨newl,e,e2,_⟩=>by rw [e2,lM];omega) ?_ ?_
 ·rintro j ys H' hj ⟨newl,hn,rfl,s,D'⟩
  refine yes ⟨_,rfl,_,rfl,_,rfl,_,_,rfl,rfl,c,20+(0+(j:Int)),rfl,?_⟩
  refine⟨d,ls ++ newl,ps,os,_,false,rfl,D',by rw [lP];omega,fun l H1 _ s1 D1=>?_⟩
  exact⟨newl ++ [l],by simp [hn],by simp,s.trans s1,by rw [<-List.append_assoc];exact D1⟩
 rintro ys H1 ⟨newl,hn,rfl,s1,D1⟩ F nF
 have t1:=aB (o:=.lst (newl.map fun l=>V.str l.name)) nF
 have eF:upd H1 F (.lst (newl.map fun l=>V.str l.name)) F=some (.lst ((newl.map (·.name)).map V.str)):=by rw [List.map_map];exact au
 have oF:=D1.out nF
 have D2:=D1.keep t1
 have s2:=s1.trans (D1.cut t1)
 generalize upd H1 F (.lst (newl.map fun l=>V.str l.name))=H2 at t1 eF D2 s2 ⊢
 obtain⟨xs,eP,aP⟩:=D2.parts
 have xl:=aP.length
 refine⟨_,rfl,d.S,_,1,_,rfl,rfl,D2.seqS,aM (j:=1) rfl,.inl ⟨rfl,_,bL.of eP⟩,?_⟩
 refine⟨_,rfl,_,rfl,d.S,_,4,_,rfl,rfl,D2.seqS,aM (j:=4) rfl,?_⟩
 refine⟨_,rfl,d.S,_,1,_,rfl,rfl,D2.seqS,aM (j:=1) rfl,.ref d.P,ps.length,rfl,.inl ⟨_,bL.of eP,xl.symm⟩,?_⟩
 refine⟨d.c4,ps.length,rfl,by omega,fun H3 s3=>?_⟩
 have D3:=D2.keep s3
 have t3:=s2.trans (D2.cut s3)
 have eP3:=s3 _ _ eP
 have eF3:=s3 _ _ eF
 refine⟨_,rfl,_,rfl,_,rfl,iW,fun q nq=>?_⟩
 have s4:=aB (o:=.tup [.str (cL i),.str (cX d.c4 ps.length),.ref a1,.ref a2,.ref F]) nq
 have D4:=D3.keep s4
 have t4:=t3.trans (D3.cut s4)
 have eP4:=s4 _ _ eP3
 have eF4:=s4 _ _ eF3
 have oq:=D3.out nq
 have eq:upd H3 q (.tup [.str (cL i),.str (cX d.c4 ps.length),.ref a1,.ref a2,.ref F]) q=some (.tup [.str (cL i),.str (cX d.c4 ps.length),.ref a1,.ref a2,.ref F]):=au
 refine⟨d.P,xs,_,rfl,rfl,eP4,by omega,?_⟩
 generalize upd H3 q (.tup [.str (cL i),.str (cX d.c4 ps.length),.ref a1,.ref a2,.ref F])=H4 at s4 D4 t4 eP4 eF4 eq ⊢
 have D5:=D4.part (p:=⟨i,cX d.c4 ps.length,nums,ins,newl.map (·.name)⟩) ⟨q,a1,a2,F,rfl,bY eq oq,t4 _ _ e1,t4 _ _ e2,bY eF4 oF⟩ ⟨hi,hN,hI,by show(newl.map _).length=_;rw [lM,hn];exact hO,hB⟩ rfl eP4
 have hcu:aZ d.E (upd H4 d.P (.lst (xs ++ [.ref q])))=aZ d.E H4:=dB (by simp)
 have eF5:upd H4 d.P (.lst (xs ++ [.ref q])) F=some (.lst ((newl.map (·.name)).map V.str)):=by rw [aH (fun z=>oF (by rw [z];simp))];exact eF4
 generalize upd H4 d.P (.lst (xs ++ [.ref q]))=H5 at D5 hcu eF5 ⊢
 refine⟨_,rfl,d.S,_,2,_,rfl,rfl,D5.seqS,aM (j:=2) rfl,.inl ⟨rfl,_,bL.of D5.opens⟩,?_⟩
 refine⟨_,rfl,d.O,F,_,_,rfl,rfl,D5.opens,eF5,by rw [lM,lM,lM];omega,?_⟩
 rw [<-List.map_append]
 exact k newl _ hn (by rw [dB (by simp),hcu];exact t4) D5.open
theorem Vr (m:Int):∃i:Nat,FZ [V.str "add",V.str "less"] (m % 2)=some (.str (cL i))/\(i=6∨i=7):=by
 have h0:=Int.emod_nonneg m (show(2:Int)≠0 by decide)
 have h1:=Int.emod_lt_of_pos m (show(0:Int) <2 by decide)
 have:m % 2=0∨m % 2=1:=by omega
 rcases this with e | e <;> rw [e]
 ·exact⟨6,rfl,.inl rfl⟩
 ·exact⟨7,rfl,.inr rfl⟩
theorem J1 {one other:Str} {os os1:List Str} (h:os.Perm (other:: os1)):(one:: os).Perm ([one,other] ++ os1):=h.cons one
theorem Xj {one other third:Str} {os os1 os2:List Str} (h:os.Perm (other:: os1)) (h2:os1.Perm (third:: os2)):(one:: os).Perm ([one,other,third] ++ os2):=(h.trans (h2.cons other)).cons one
inductive Bb (vs:List V) (H:Hp) (Q:VK) (E:XK):Prop where
 | mk:∀(d:Dw) (ls:List aG) (ps:List PD) (os:List Str) (c:Int) (one:Str) (back:List Str) (odd:Bool),vs=[.ref d.S,.int c,.str one,.bl odd]->oW d H ls ps os->Drawn.WF (uY ls ps (one:: os) back)->os≠[]->os.length<=3->ls.length<=20->ps.length<=22->(∀ls' ps' os' H',Zk d H H' ls ps back ls' ps' os'->Q .non H')->Bb vs H Q E
theorem Jv (T:Txt w K mg t):FO P w K mg base 5 t.Cm ["_law_state", "_law_cell_here", "_law_one", "_law_odd"] (Bb):=by
 have sc:=T.xH.sc ["_law_state", "_law_cell_here", "_law_one", "_law_odd", "_law_other", "_law_way", "_law_third"]
 refine T.xH.F.ok sc ln (fun _ _ _ _ H vs Q E hr h=>?_)
 obtain⟨d,ls,ps,os,c,one,back,odd,rfl,D,w,hne,ho,hls,hps,k⟩:=h
 refine⟨_,(az (sN sc 4 (d8 (sV T) T.mC hr (aa (pv 0) (aa (d8 (bA T) T.bF hr (aa (pv 1) (aa aq ak ao) aj)) ak bf) aj)))
  (az (sN sc 5 (bc b7 (d8 (bA T) T.bF hr (aa (pv 1) (aa aq ak ao) aj)) aq))
  (aA (fL (bR (PW.pt (zP (jj (pv 3)) (zP (aW wX (pv 5) aq (bI _)) (yq (aW Ji (bG cj (by rfl) T.fK dI (aa (aO aQ (pv 0) aq (fun _ _=>rfl)) ak aF)) aq (bI _))))))
   (az (sN sc 6 (d8 (sV T) T.mC hr (aa (pv 0) (aa (d8 (bA T) T.bF hr (aa (pv 1) (aa aq ak ao) aj)) ak bf) aj)))
   (aA (bM (d8 (cT T) T.cJ hr (aa (pv 0) (aa (pv 1) (aa bh (aa (bx ak) (aa (bx (aa (pv 2) (aa (pv 4) (aa (pv 6) ak aj) aj) aj)) (aa aq ak ao) aR) aR) ao) aj) aj)))))
   (aA (fL (bR (PW.pt (zP (jj (pv 3)) (yq (aW wX (pv 5) aq (bI _)))))
    (aA (bM (d8 (cT T) T.cJ hr (aa (pv 0) (aa (pv 1) (aa bh (aa (bx ak) (aa (bx (aa (pv 2) (aa (pv 4) ak aj) aj)) (aa aq ak ao) aR) aR) ao) aj) aj))))
    (aA (fL (bR (aW dW (bc b7 (pv 5) aq) aq (bI _))
     (aA (bM (d8 (cT T) T.cJ hr (aa (pv 0) (aa (pv 1) (aa bh (aa (bx ak) (aa (bx (aa (pv 2) (aa (pv 4) ak aj) aj)) (aa aq ak ao) aR) aR) ao) aj) aj))))
     (aA (bM (d8 (cT T) T.cJ hr (aa (pv 0) (aa (pv 1) (aa (aO aQ (bx (aa bh (aa bh ak ao) ao)) (bc b7 (pv 5) aq) (fun _ _=>rfl)) (aa (bx ak) (aa (bx (aa (pv 2) (aa (pv 4) ak aj) aj)) (aa aq ak ao) aR) aR) aF) aj) aj))))))))))))))),?_⟩
 have hl:sizeLine=16777216:=sizeLine_eq
 refine⟨_,rfl,_,rfl,_,_,rfl,d,ls,ps,os,_,rfl,D,hne,by omega,fun other os1 H1 p1 s1 D1=>?_⟩
 have l1:=p1.length_eq
 rw [List.length_cons] at l1
 refine⟨_,rfl,_,_,rfl,_,_,rfl,rfl,by show(0:Int) <6;decide,?_⟩
 refine⟨fun _ H'=>Q .non H',?_,fun _ _ h=>h⟩
 have fin:∀{i:Nat} {nm:Str} {newl:List aG} {ins os2:List Str} {H':Hp},aK (aZ d.E H) (aZ d.E H')->oW d H' (ls ++ newl) (ps ++ [⟨i,nm,[],ins,newl.map (·.name)⟩]) (os2 ++ newl.map (·.name))->(one:: os).Perm (ins ++ os2)->newl.length≠0->newl.length<=2->os2.length+newl.length<=4->Q .non H':=fun s DD hp h1 h2 h4=>
  k _ _ _ _ ⟨s,DD,rF w rfl DD hp h1 (by rw [lP];omega),by rw [lP,lM];omega,by rw [lP,lM];omega,by rw [lP];omega,by rw [lP,List.length_singleton];omega⟩
 cases odd
 ·refine⟨_,rfl,false,rfl,dw (dw ?_)⟩
  refine⟨fun _ H'=>Q .non H',?_,fun _ _ h=>h⟩
  refine⟨_,rfl,false,rfl,dw (dw ?_)⟩
  refine⟨fun _ H'=>Q .non H',?_,fun _ _ h=>h⟩
  refine⟨_,rfl,_,_,rfl,rfl,by show(0:Int) <3;decide,rfl,_,rfl,jB (fun _=>?_) (fun _=>?_)⟩
  ·refine⟨_,rfl,_,rfl,iW,fun a1 n1=>⟨_,rfl,_,rfl,iW,fun a2 n2=>?_⟩⟩
   obtain⟨D9,z1,z2,z3⟩:=D1.two n1 n2 (y:=.lst [.str one,.str other])
   refine⟨d,_,_,os1,_,8,a1,a2,[],[one,other],2,rfl,D9,z1,z2,by omega,rfl,by simp,rfl,rfl,by omega,by omega,by omega,fun newl H8 hn s8 D8=>?_⟩
   exact fin (s1.trans (z3.trans s8)) D8 (J1 p1) (by omega) (by omega) (by omega)
  ·refine⟨_,rfl,_,rfl,iW,fun a0 n0=>?_⟩
   have s0:=aB (o:=.lst [.str "add",.str "less"]) n0
   have D0:=D1.keep s0
   have c0:=D1.cut s0
   refine⟨_,rfl,_,_,rfl,rfl,by show(0:Int) <2;decide,?_⟩
   obtain⟨i,ei,hi⟩:=Vr (cG c 6 % 6)
   refine⟨a0,_,_,_,rfl,rfl,bL.of au,ei,?_⟩
   generalize upd H1 a0 (.lst [.str "add",.str "less"])=H0 at s0 D0 c0 ⊢
   have hN:([]:List Int).length=cN i:=by rcases hi with rfl | rfl <;> rfl
   have hI:[one,other].length=cI i:=by rcases hi with rfl | rfl <;> rfl
   have hO:1=cO i:=by rcases hi with rfl | rfl <;> rfl
   refine⟨iW,fun a1 n1=>⟨_,rfl,_,rfl,iW,fun a2 n2=>?_⟩⟩
   obtain⟨D9,z1,z2,z3⟩:=D0.two n1 n2 (y:=.lst [.str one,.str other])
   refine⟨d,_,_,os1,_,i,a1,a2,[],[one,other],1,rfl,D9,z1,z2,by omega,hN,by simp,hI,hO,by omega,by omega,by omega,fun newl H8 hn s8 D8=>?_⟩
   exact fin (s1.trans (c0.trans (z3.trans s8))) D8 (J1 p1) (by omega) (by omega) (by omega)
 ·refine⟨_,rfl,true,rfl,fY ⟨_,rfl,_,_,rfl,rfl,_,rfl,Ce ?_ (fun h2 b=>?_) (fun b=>b)⟩⟩
  ·refine⟨fun _ H'=>Q .non H',?_,fun _ _ h=>h⟩
   refine⟨_,rfl,true,rfl,fY ?_⟩
   refine⟨_,rfl,_,_,rfl,rfl,_,rfl,jB (fun h5=>?_) (fun h5=>?_)⟩
   ·refine⟨_,rfl,_,rfl,iW,fun a1 n1=>⟨_,rfl,_,rfl,iW,fun a2 n2=>?_⟩⟩
    obtain⟨D9,z1,z2,z3⟩:=D1.two n1 n2 (y:=.lst [.str one,.str other])
    refine⟨d,_,_,os1,_,10,a1,a2,[],[one,other],2,rfl,D9,z1,z2,by omega,rfl,by simp,rfl,rfl,by omega,by omega,by omega,fun newl H8 hn s8 D8=>?_⟩
    exact fin (s1.trans (z3.trans s8)) D8 (J1 p1) (by omega) (by omega) (by omega)
   ·refine⟨fun _ H'=>Q .non H',?_,fun _ _ h=>h⟩
    refine⟨_,rfl,_,_,rfl,rfl,by show(0:Int) <3;decide,rfl,_,rfl,jB (fun _=>?_) (fun _=>?_)⟩
    ·refine⟨_,rfl,_,rfl,iW,fun a1 n1=>⟨_,rfl,_,rfl,iW,fun a2 n2=>?_⟩⟩
     obtain⟨D9,z1,z2,z3⟩:=D1.two n1 n2 (y:=.lst [.str one,.str other])
     refine⟨d,_,_,os1,_,8,a1,a2,[],[one,other],2,rfl,D9,z1,z2,by omega,rfl,by simp,rfl,rfl,by omega,by omega,by omega,fun newl H8 hn s8 D8=>?_⟩
     exact fin (s1.trans (z3.trans s8)) D8 (J1 p1) (by omega) (by omega) (by omega)
    ·refine⟨_,rfl,_,rfl,iW,fun a0 n0=>?_⟩
     have s0:=aB (o:=.lst [.str "add",.str "less"]) n0
     have D0:=D1.keep s0
     have c0:=D1.cut s0
     refine⟨_,rfl,_,_,rfl,rfl,by show(0:Int) <2;decide,?_⟩
     obtain⟨i,ei,hi⟩:=Vr (cG c 6 % 6)
     refine⟨a0,_,_,_,rfl,rfl,bL.of au,ei,?_⟩
     generalize upd H1 a0 (.lst [.str "add",.str "less"])=H0 at s0 D0 c0 ⊢
     have hN:([]:List Int).length=cN i:=by rcases hi with rfl | rfl <;> rfl
     have hI:[one,other].length=cI i:=by rcases hi with rfl | rfl <;> rfl
     have hO:1=cO i:=by rcases hi with rfl | rfl <;> rfl
     refine⟨iW,fun a1 n1=>⟨_,rfl,_,rfl,iW,fun a2 n2=>?_⟩⟩
     obtain⟨D9,z1,z2,z3⟩:=D0.two n1 n2 (y:=.lst [.str one,.str other])
     refine⟨d,_,_,os1,_,i,a1,a2,[],[one,other],1,rfl,D9,z1,z2,by omega,hN,by simp,hI,hO,by omega,by omega,by omega,fun newl H8 hn s8 D8=>?_⟩
     exact fin (s1.trans (c0.trans (z3.trans s8))) D8 (J1 p1) (by omega) (by omega) (by omega)
  ·refine⟨_,rfl,d.S,_,2,_,rfl,rfl,D1.seqS,aM (j:=2) rfl,.ref d.O,os1.length,rfl,.inl ⟨_,bL.of D1.opens,by simp⟩,_,_,rfl,rfl,_,rfl,jB (fun h3=>?_) (fun _=>b)⟩
   have hne1:os1≠[]:=fun z=>by rw [z] at h3;exact absurd (of_decide_eq_true h3) (by decide)
   refine⟨_,rfl,_,rfl,_,_,rfl,d,ls,ps,os1,_,rfl,D1,hne1,by omega,fun third os2 H2 p2 s2 D2=>?_⟩
   have l2:=p2.length_eq
   rw [List.length_cons] at l2
   refine⟨_,rfl,_,rfl,iW,fun a1 n1=>⟨_,rfl,_,rfl,_,rfl,iW,fun a2 n2=>?_⟩⟩
   obtain⟨D9,z1,z2,z3⟩:=D2.two n1 n2 (y:=.lst [.str one,.str other,.str third])
   refine⟨d,_,_,os2,_,9,a1,a2,[],[one,other,third],1,rfl,D9,z1,z2,by omega,rfl,by simp,rfl,rfl,by omega,by omega,by omega,fun newl H8 hn s8 D8=>?_⟩
   exact fin (s1.trans (s2.trans (z3.trans s8))) D8 (Xj p1 p2) (by omega) (by omega) (by omega)
inductive yD (vs:List V) (H:Hp) (Q:VK) (E:XK):Prop where
 | mk:∀(d:Dw) (ls:List aG) (ps:List PD) (os:List Str) (c:Int) (one:Str) (back:List Str),vs=[.ref d.S,.int c,.str one]->oW d H ls ps os->Drawn.WF (uY ls ps (one:: os) back)->os.length<=3->ls.length<=20->ps.length<=22->(∀ls' ps' os' H',Zk d H H' ls ps back ls' ps' os'->Q .non H')->yD vs H Q E
theorem Hc (T:Txt w K mg t):FO P w K mg base 4 t.Bj ["_law_state", "_law_cell_here", "_law_one"] (yD):=by
 have sc:=T.vB.sc ["_law_state", "_law_cell_here", "_law_one", "_law_own", "_law_fresh"]
 refine T.vB.F.ok sc ln (fun _ _ _ _ H vs Q E hr h=>?_)
 obtain⟨d,ls,ps,os,c,one,back,rfl,D,w,ho,hls,hps,k⟩:=h
 refine⟨_,(az (sN sc 3 (d8 (jU T) T.iD hr (aa (pv 0) (aa (d8 (bA T) T.bF hr (aa (pv 1) (aa aq ak ao) aj)) (aa j0 ak ao) bf) aj)))
  (az (sN sc 4 (d8 (jU T) T.iD hr (aa (pv 0) (aa (d8 (bA T) T.bF hr (aa (pv 1) (aa aq ak ao) aj)) (aa j0 ak ao) bf) aj)))
  (az (bM (Ew (aO aQ (pv 0) aq (fun _ _=>rfl)) (aa (bV (aa bh (aa (d8 (oJ T) T.jG hr (aa (aO aQ (pv 0) aq (fun _ _=>rfl)) (aa (bG cj (by rfl) T.fK dI (aa (aO aQ (pv 0) aq (fun _ _=>rfl)) ak aF)) ak bf) aF)) (aa (bx ak) (aa (bx (aa (pv 2) (aa (pv 3) ak aj) aj)) (aa (bx (aa (pv 3) (aa (pv 4) ak aj) aj)) ak aR) aR) aR) bf) ao)) ak bO)))
  (aA (bM (Ew (aO aQ (pv 0) aq (fun _ _=>rfl)) (aa (pv 4) ak aj))))))),?_⟩
 have hl:sizeLine=16777216:=sizeLine_eq
 refine⟨_,rfl,_,rfl,_,_,rfl,d,ls,ps,os,_,true,rfl,D,by omega,fun l1 H1 e1 s1 D1=>?_⟩
 refine⟨_,rfl,_,rfl,_,_,rfl,d,ls ++ [l1],ps,os,_,false,rfl,D1,by rw [lP,List.length_singleton];omega,fun l2 H2 e2 s2 D2=>?_⟩
 have s12:=s1.trans s2
 obtain⟨xs,eP,aP⟩:=D2.parts
 have xl:=aP.length
 refine⟨_,rfl,d.S,_,1,_,rfl,rfl,D2.seqS,aM (j:=1) rfl,.inl ⟨rfl,_,bL.of eP⟩,?_⟩
 refine⟨_,rfl,d.S,_,4,_,rfl,rfl,D2.seqS,aM (j:=4) rfl,?_⟩
 refine⟨_,rfl,d.S,_,1,_,rfl,rfl,D2.seqS,aM (j:=1) rfl,.ref d.P,ps.length,rfl,.inl ⟨_,bL.of eP,xl.symm⟩,?_⟩
 refine⟨d.c4,ps.length,rfl,by omega,fun H3 s3=>?_⟩
 have D3:=D2.keep s3
 have c3:=s12.trans (D2.cut s3)
 have eP3:=s3 _ _ eP
 refine⟨iW,fun a1 n1=>⟨_,rfl,_,rfl,iW,fun a2 n2=>⟨_,rfl,_,rfl,iW,fun a3 n3=>⟨iW,fun q nq=>?_⟩⟩⟩⟩
 obtain⟨D4,z1,z2,z3⟩:=D3.two n1 n2 (y:=.lst [.str one,.str l1.name])
 have t4:aK H3 (upd (upd H3 a1 (.lst [])) a2 (.lst [.str one,.str l1.name])):=(aB n1).trans (aB n2)
 have eP4:=t4 _ _ eP3
 generalize upd (upd H3 a1 (.lst [])) a2 (.lst [.str one,.str l1.name])=H4 at D4 z1 z2 z3 t4 eP4 n3 nq ⊢
 obtain⟨D5,y1,y2,y3⟩:=D4.two n3 nq (y:=.tup [.str "order",.str (cX d.c4 ps.length),.ref a1,.ref a2,.ref a3])
 have t5:aK H4 (upd (upd H4 a3 (.lst [.str l1.name,.str l2.name])) q (.tup [.str "order",.str (cX d.c4 ps.length),.ref a1,.ref a2,.ref a3])):=(aB n3).trans (aB nq)
 have eP5:=t5 _ _ eP4
 generalize upd (upd H4 a3 (.lst [.str l1.name,.str l2.name])) q (.tup [.str "order",.str (cX d.c4 ps.length),.ref a1,.ref a2,.ref a3])=H5 at D5 y1 y2 y3 t5 eP5 ⊢
 have c5:=c3.trans (z3.trans y3)
 refine⟨d.P,xs,_,rfl,rfl,eP5,by omega,?_⟩
 have D6:=D5.part (p:=⟨8,cX d.c4 ps.length,[],[one,l1.name],[l1.name,l2.name]⟩) ⟨q,a1,a2,a3,rfl,y2,y3 _ _ z1,y3 _ _ z2,y1⟩ ⟨by show 8 <11;omega,rfl,rfl,rfl,by simp⟩ rfl eP5
 have c6:aZ d.E (upd H5 d.P (.lst (xs ++ [.ref q])))=aZ d.E H5:=dB (by simp)
 generalize upd H5 d.P (.lst (xs ++ [.ref q]))=H6 at D6 c6 ⊢
 refine⟨_,rfl,d.S,_,2,_,rfl,rfl,D6.seqS,aM (j:=2) rfl,.inl ⟨rfl,_,bL.of D6.opens⟩,_,rfl,d.O,_,_,rfl,rfl,D6.opens,by rw [lM];omega,?_⟩
 have D7:=D6.open (os':=os ++ [l2.name])
 rw [List.map_append] at D7
 have nd:=D7.nod (by rw [lP,lP,List.length_singleton,List.length_singleton];omega)
 have wl:=w.loop (p:=⟨8,cX d.c4 ps.length,[],[one,l1.name],[l1.name,l2.name]⟩) (rest:=os) (one:=one) (own:=l1.name) (fresh:=l2.name) rfl rfl (.refl _) (by simpa using nd)
 refine k _ _ _ _ ⟨by rw [dB (by simp),c6];exact c5,D7,by simpa [uY] using wl,by rw [lP,List.length_singleton];omega,by rw [lP,List.length_singleton];omega,by simp,by simp⟩
inductive yz (vs:List V) (H:Hp) (Q:VK) (E:XK):Prop where
 | mk:∀(d:Dw) (ls:List aG) (ps:List PD) (os:List Str) (c:Int) (back:List Str) (odd:Bool),vs=[.ref d.S,.int c,.bl odd]->oW d H ls ps os->Drawn.WF (uY ls ps os back)->os≠[]->os.length<=4->ls.length<=20->ps.length<=22->(∀ls' ps' os' H',Zk d H H' ls ps back ls' ps' os'->Q .non H')->yz vs H Q E
theorem GK (T:Txt w K mg t):FO P w K mg base 6 t.z9 ["_law_state", "_law_cell_here", "_law_odd"] (yz):=by
 have sc:=T.vA.sc ["_law_state", "_law_cell_here", "_law_odd", "_law_way", "_law_one"]
 refine T.vA.F.ok sc ln (fun _ _ _ _ H vs Q E hr h=>?_)
 obtain⟨d,ls,ps,os,c,back,odd,rfl,D,w,hne,ho,hls,hps,k⟩:=h
 refine⟨_,(az (sN sc 3 (bc b7 (d8 (bA T) T.bF hr (aa (pv 1) (aa aq ak ao) aj)) aq))
  (az (sN sc 4 (d8 (sV T) T.mC hr (aa (pv 0) (aa (d8 (bA T) T.bF hr (aa (pv 1) (aa aq ak ao) aj)) ak bf) aj)))
  (aA (fL (bR (PW.pt (zP (aW wX (pv 3) aq (bI _)) (yq (aW wX (bG cj (by rfl) T.fK dI (aa (aO aQ (pv 0) aq (fun _ _=>rfl)) ak aF)) aq (bI _)))))
   (aA (bM (d8 (cT T) T.cJ hr (aa (pv 0) (aa (pv 1) (aa bh (aa (bx ak) (aa (bx (aa (pv 4) ak aj)) (aa aq ak ao) aR) aR) ao) aj) aj))))
   (aA (fL (bR (aW dW (pv 3) aq (bI _))
    (az (bM (d8 (cT T) T.cJ hr (aa (pv 0) (aa (pv 1) (aa bh (aa (bx ak) (aa (bx (aa (pv 4) ak aj)) (aa aq ak ao) aR) aR) ao) aj) aj)))
    (aA (bM (d8 (cT T) T.cJ hr (aa (pv 0) (aa (pv 1) (aa bh (aa (bx ak) (aa (bx (aa (G7 PySem.F.plainAttrs_list PySem.F.slot_list_pop PySem.F.type_list_pop Kv (aO aQ (pv 0) aq (fun _ _=>rfl))) ak bf)) (aa aq ak ao) aR) aR) ao) aj) aj)))))
    (aA (fL (bR (PW.pt (zP (aW wX (pv 3) aq (bI _)) (yq (aW Ji (bG cj (by rfl) T.fK dI (aa (aO aQ (pv 0) aq (fun _ _=>rfl)) ak aF)) aq (bI _)))))
     (aA (bM (d8 (Jv T) T.xH hr (aa (pv 0) (aa (pv 1) (aa (pv 4) (aa (pv 2) ak aj) aj) aj) aj))))
     (aA (fL (bR (aW wX (pv 3) aq (bI _))
      (aA (bM (d8 (cT T) T.cJ hr (aa (pv 0) (aa (pv 1) (aa bh (aa (bx (aa (d8 (jl T) T.gB hr (aa (pv 1) (aa aq ak ao) aj)) (aa (d8 (jl T) T.gB hr (aa (pv 1) (aa aq ak ao) aj)) ak bf) bf)) (aa (bx (aa (pv 4) ak aj)) (aa aq ak ao) aR) aR) ao) aj) aj))))
      (aA (fL (bR (aW dW (pv 3) aq (bI _))
       (aA (bM (d8 (cT T) T.cJ hr (aa (pv 0) (aa (pv 1) (aa bh (aa (bx (aa (d8 (jl T) T.gB hr (aa (pv 1) (aa aq ak ao) aj)) ak bf)) (aa (bx (aa (pv 4) ak aj)) (aa aq ak ao) aR) aR) ao) aj) aj))))
       (aA (fL (bR (aW dW (bc b7 (d8 (bA T) T.bF hr (aa (pv 1) (aa aq ak ao) aj)) aq) aq (bI _))
        (aA (bM (d8 (Hc T) T.vB hr (aa (pv 0) (aa (pv 1) (aa (pv 4) ak aj) aj) aj))))
        (aA (bM (d8 (cT T) T.cJ hr (aa (pv 0) (aa (pv 1) (aa bh (aa (bx ak) (aa (bx (aa (pv 4) ak aj)) (aa aq ak ao) aR) aR) ao) aj) aj)))))))))))))))))))))))),?_⟩
 have hl:sizeLine=16777216:=sizeLine_eq
 refine⟨_,rfl,_,_,rfl,_,_,rfl,rfl,by show(0:Int) <9;decide,?_⟩
 refine⟨_,rfl,_,rfl,_,_,rfl,d,ls,ps,os,_,rfl,D,hne,by omega,fun one os1 H1 p1 s1 D1=>?_⟩
 have w1:Drawn.WF (uY ls ps (one:: os1) back):=VB w p1
 have lo:=p1.length_eq
 rw [List.length_cons] at lo
 have fin:∀{i:Nat} {nm:Str} {nums:List Int} {newl:List aG} {ins os2:List Str} {H':Hp},aK (aZ d.E H) (aZ d.E H')->oW d H' (ls ++ newl) (ps ++ [⟨i,nm,nums,ins,newl.map (·.name)⟩]) (os2 ++ newl.map (·.name))->(one:: os1).Perm (ins ++ os2)->newl.length≠0->newl.length<=2->os2.length+newl.length<=4->Q .non H':=fun s DD hp h1 h2 h4=>
  k _ _ _ _ ⟨s,DD,rF w1 rfl DD hp h1 (by rw [lP];omega),by rw [lP,lM];omega,by rw [lP,lM];omega,by rw [lP];omega,by rw [lP,List.length_singleton];omega⟩
 refine⟨fun _ H'=>Q .non H',?_,fun _ _ h=>h⟩
 refine⟨_,rfl,_,_,rfl,rfl,_,rfl,Ce ?_ (fun h2 b=>?_) (fun b=>b)⟩
 ·refine⟨fun _ H'=>Q .non H',?_,fun _ _ h=>h⟩
  refine⟨_,rfl,rfl,_,rfl,jB (fun _=>?_) (fun _=>?_)⟩
  ·refine⟨_,rfl,_,rfl,iW,fun a1 n1=>⟨_,rfl,iW,fun a2 n2=>?_⟩⟩
   obtain⟨D9,z1,z2,z3⟩:=D1.two n1 n2 (y:=.lst [.str one])
   refine⟨d,_,_,os1,_,3,a1,a2,[],[one],2,rfl,D9,z1,z2,by omega,rfl,by simp,rfl,rfl,by omega,by omega,by omega,fun newl H8 hn s8 D8=>?_⟩
   obtain⟨l1,l2,rfl⟩:∃l1 l2,newl=[l1,l2]:=by
    match newl,hn with
    | [x,y],_=>exact⟨x,y,rfl⟩
   have w8:=rF w1 rfl D8 (.refl _) (by simp) (by simp;omega)
   have s18:=s1.trans (z3.trans s8)
   clear D9 z1 z2 z3 n1 n2 s8
   refine⟨_,rfl,_,rfl,iW,fun a3 n3=>?_⟩
   have s3:=aB (o:=.lst []) n3
   have D3:=D8.keep s3
   have c3:=s18.trans (D8.cut s3)
   have o3:=D8.out n3
   have e3:upd H8 a3 (.lst []) a3=some (.lst ([]:List V)):=au
   generalize upd H8 a3 (.lst [])=H3 at s3 D3 c3 e3 ⊢
   have eo:((os1 ++ [l1,l2].map (·.name)).map V.str)=((os1 ++ [l1.name]).map V.str) ++ [.str l2.name]:=by simp
   have hop:=D3.opens
   rw [eo] at hop
   refine⟨_,rfl,d.S,_,2,_,rfl,rfl,D3.seqS,aM (j:=2) rfl,.inl ⟨rfl,_,bL.of D3.opens⟩,d.O,_,.str l2.name,rfl,rfl,hop,by rw [lP,List.length_singleton,Nat.add_sub_cancel];exact List.getElem?_concat_length,?_⟩
   rw [List.dropLast_concat]
   have D4:=D3.open (os':=os1 ++ [l1.name])
   have c4:aZ d.E (upd H3 d.O (.lst ((os1 ++ [l1.name]).map V.str)))=aZ d.E H3:=dB (by simp)
   have e4:=bY e3 o3
   generalize upd H3 d.O (.lst ((os1 ++ [l1.name]).map V.str))=H4 at D4 c4 ⊢
   refine⟨iW,fun a4 n4=>?_⟩
   have s5:=aB (o:=.lst [.str l2.name]) n4
   have D5:=D4.keep s5
   have c5:=D4.cut s5
   rw [c4] at c5
   have e5:=bY (E:=d.E) (H:=upd H4 a4 (.lst [.str l2.name])) au (D4.out n4)
   refine⟨d,ls ++ [l1,l2],_,os1 ++ [l1.name],_,1,a3,a4,[],[l2.name],0,rfl,D5,c5 _ _ e4,e5,by omega,rfl,by simp,rfl,rfl,by simp;omega,by simp;omega,by simp;omega,fun newl2 H9 hn2 s9 D9=>?_⟩
   have hz:newl2=[]:=List.length_eq_zero_iff.mp hn2
   subst hz
   have wt:=w8.take (p:=⟨1,cX d.c4 (ps ++ [(⟨3,cX d.c4 ps.length,[],[one],[l1,l2].map (·.name)⟩:PD)]).length,[],[l2.name],[]⟩) (rest:=os1 ++ [l1.name]) (y:=l2.name) (x:=l1.name) rfl rfl (by
     show(os1 ++ [l1.name,l2.name]).Perm (l2.name:: (os1 ++ [l1.name]))
     rw [show os1 ++ [l1.name,l2.name]=(os1 ++ [l1.name]) ++ [l2.name] by simp]
     exact List.perm_append_comm) (by simp) (Drawn.jo.part (p:=⟨3,cX d.c4 ps.length,[],[one],[l1,l2].map (·.name)⟩) (by simp) (by simp) (by simp))
   rw [List.map_nil,List.append_nil,List.append_nil] at D9
   exact k _ _ _ _ ⟨c3.trans (c5.trans s9),D9,wt,by simp,by simp;omega,by simp,by simp⟩
  ·refine⟨fun _ H'=>Q .non H',?_,fun _ _ h=>h⟩
   refine⟨_,rfl,_,_,rfl,rfl,_,rfl,Ce ?_ (fun h2 b=>?_) (fun b=>b)⟩
   ·refine⟨fun _ H'=>Q .non H',?_,fun _ _ h=>h⟩
    refine⟨_,rfl,_,_,rfl,rfl,_,rfl,jB (fun _=>?_) (fun _=>?_)⟩
    ·refine⟨_,rfl,_,rfl,_,rfl,c,8,rfl,_,rfl,c,9,rfl,iW,fun a1 n1=>⟨_,rfl,iW,fun a2 n2=>?_⟩⟩
     obtain⟨D9,z1,z2,z3⟩:=D1.two n1 n2 (y:=.lst [.str one])
     refine⟨d,_,_,os1,_,4,a1,a2,[qU c 8,qU c 9],[one],1,rfl,D9,z1,z2,by omega,rfl,?_,rfl,rfl,by omega,by omega,by omega,fun newl H8 hn s8 D8=>?_⟩
     ·intro v hv
      rcases List.mem_cons.mp hv with rfl | hv
      ·exact rQ _ _
      ·rw [List.mem_singleton] at hv
       subst hv
       exact rQ _ _
     exact fin (s1.trans (z3.trans s8)) D8 (.refl _) (by omega) (by omega) (by omega)
    ·refine⟨fun _ H'=>Q .non H',?_,fun _ _ h=>h⟩
     refine⟨_,rfl,rfl,_,rfl,jB (fun _=>?_) (fun _=>?_)⟩
     ·refine⟨_,rfl,_,rfl,_,rfl,c,8,rfl,iW,fun a1 n1=>⟨_,rfl,iW,fun a2 n2=>?_⟩⟩
      obtain⟨D9,z1,z2,z3⟩:=D1.two n1 n2 (y:=.lst [.str one])
      refine⟨d,_,_,os1,_,5,a1,a2,[qU c 8],[one],1,rfl,D9,z1,z2,by omega,rfl,?_,rfl,rfl,by omega,by omega,by omega,fun newl H8 hn s8 D8=>?_⟩
      ·intro v hv
       rw [List.mem_singleton] at hv
       subst hv
       exact rQ _ _
      exact fin (s1.trans (z3.trans s8)) D8 (.refl _) (by omega) (by omega) (by omega)
     ·refine⟨fun _ H'=>Q .non H',?_,fun _ _ h=>h⟩
      refine⟨_,rfl,_,_,rfl,_,_,rfl,rfl,by show(0:Int) <2;decide,rfl,_,rfl,jB (fun _=>?_) (fun _=>?_)⟩
      ·exact⟨_,rfl,_,rfl,_,rfl,d,ls,ps,os1,c,one,back,rfl,D1,w1,by omega,hls,hps,fun ls' ps' os' H' X=>k ls' ps' os' H' ⟨s1.trans X.cut,X.at',X.wf,X.o1,X.o4,X.l2,X.p2⟩⟩
      ·refine⟨_,rfl,_,rfl,iW,fun a1 n1=>⟨_,rfl,iW,fun a2 n2=>?_⟩⟩
       obtain⟨D9,z1,z2,z3⟩:=D1.two n1 n2 (y:=.lst [.str one])
       refine⟨d,_,_,os1,_,2,a1,a2,[],[one],1,rfl,D9,z1,z2,by omega,rfl,by simp,rfl,rfl,by omega,by omega,by omega,fun newl H8 hn s8 D8=>?_⟩
       exact fin (s1.trans (z3.trans s8)) D8 (.refl _) (by omega) (by omega) (by omega)
   ·refine⟨_,rfl,d.S,_,2,_,rfl,rfl,D1.seqS,aM (j:=2) rfl,.ref d.O,os1.length,rfl,.inl ⟨_,bL.of D1.opens,by simp⟩,_,_,rfl,rfl,_,rfl,jB (fun h3=>?_) (fun _=>b)⟩
    have hne1:os1≠[]:=fun z=>by rw [z] at h3;exact absurd (of_decide_eq_true h3) (by decide)
    exact⟨_,rfl,_,rfl,_,rfl,_,rfl,d,ls,ps,os1,c,one,back,odd,rfl,D1,w1,hne1,by omega,hls,hps,fun ls' ps' os' H' X=>k ls' ps' os' H' ⟨s1.trans X.cut,X.at',X.wf,X.o1,X.o4,X.l2,X.p2⟩⟩
 ·refine⟨_,rfl,d.S,_,2,_,rfl,rfl,D1.seqS,aM (j:=2) rfl,.ref d.O,os1.length,rfl,.inl ⟨_,bL.of D1.opens,by simp⟩,_,_,rfl,rfl,_,rfl,jB (fun h3=>?_) (fun _=>b)⟩
  have h3:os1.length <3:=by have:=of_decide_eq_true h3;omega
  refine⟨_,rfl,_,rfl,iW,fun a1 n1=>⟨_,rfl,iW,fun a2 n2=>?_⟩⟩
  obtain⟨D9,z1,z2,z3⟩:=D1.two n1 n2 (y:=.lst [.str one])
  refine⟨d,_,_,os1,_,3,a1,a2,[],[one],2,rfl,D9,z1,z2,by omega,rfl,by simp,rfl,rfl,by omega,by omega,by omega,fun newl H8 hn s8 D8=>?_⟩
  exact fin (s1.trans (z3.trans s8)) D8 (.refl _) (by omega) (by omega) (by omega)
inductive ut (vs:List V) (H:Hp) (Q:VK) (E:XK):Prop where
 | mk:∀(d:Dw) (ls:List aG) (ps:List PD) (os:List Str) (c:Int) (B:Addr) (back:List Str),vs=[.ref d.S,.int c,.ref B]->oW d H ls ps os->Drawn.WF (uY ls ps os back)->aZ d.E H B=some (.lst (back.map V.str))->os≠[]->os.length<=4->back.length<=2->ls.length<=12->ps.length<=10->(∀ls' ps' H',aK (aZ d.E H) (aZ d.E H')->oW d H' ls' ps' []->Ff (ls'.map (·.name)) ps'->ls'.length<=17->ls.length<=ls'.length->ps'.length<=16->1<=ps'.length->Q .non H')->ut vs H Q E
theorem Dy (T:Txt w K mg t):FO P w K mg base 5 t.wW ["_law_state", "_law_cell_here", "_law_back"] (ut):=by
 have sc:=T.qW.sc ["_law_state", "_law_cell_here", "_law_back", "_law_one", "_law_other", "_law_kind", "_law_lane_here", "_law_fresh"]
 refine T.qW.F.ok sc ln (fun _ _ _ _ H vs Q E hr h=>?_)
 obtain⟨d,ls,ps,os,c,B,back,rfl,D,w,eB,hne,ho,hb,hls,hps,k⟩:=h
 refine⟨_,(az (JG PassesOwn.never (aW Ji (bG cj (by rfl) T.fK dI (aa (aO aQ (pv 0) aq (fun _ _=>rfl)) ak aF)) aq (bI _))
   (az (sN sc 3 (ye PySem.F.plainAttrs_list PySem.F.slot_list_pop PySem.F.type_list_pop uV (aO aQ (pv 0) aq (fun _ _=>rfl)) (aa aq ak ao)))
   (az (sN sc 4 (ye PySem.F.plainAttrs_list PySem.F.slot_list_pop PySem.F.type_list_pop uV (aO aQ (pv 0) aq (fun _ _=>rfl)) (aa aq ak ao)))
   (az (sN sc 5 (aO aQ (bx (aa bh (aa bh (aa bh ak ao) ao) ao)) (bc b7 (d8 (bA T) T.bF hr (aa (pv 1) (aa (bG cj (by rfl) T.fK dI (aa (aO aQ (pv 0) aq (fun _ _=>rfl)) ak aF)) ak bf) aj)) aq) (fun _ _=>rfl)))
   (aA (bM (d8 (cT T) T.cJ hr (aa (pv 0) (aa (d8 (bA T) T.bF hr (aa (pv 1) (aa (bc du aq (bG cj (by rfl) T.fK dI (aa (aO aQ (pv 0) aq (fun _ _=>rfl)) ak aF))) ak bT) aj)) (aa (pv 5) (aa (bx ak) (aa (bx (aa (pv 3) (aa (pv 4) ak aj) aj)) (aa aq ak ao) aR) aR) aj) bf) aj))))))))
  (az (dg PassesOwn.never rfl (bW (pv 2)) (gN sc 6)
   (az (sN sc 3 (G7 PySem.F.plainAttrs_list PySem.F.slot_list_pop PySem.F.type_list_pop Kv (aO aQ (pv 0) aq (fun _ _=>rfl))))
   (az (sN sc 7 (d8 (jU T) T.iD hr (aa (pv 0) (aa (d8 (bA T) T.bF hr (aa (pv 1) (aa (bc du aq (bG cj (by rfl) T.fK dI (aa (aO aQ (pv 0) aq (fun _ _=>rfl)) ak aF))) ak bT) aj)) (aa j0 ak ao) bf) aj)))
   (az (bM (Ew (aO aQ (pv 0) aq (fun _ _=>rfl)) (aa (bV (aa bh (aa (d8 (oJ T) T.jG hr (aa (aO aQ (pv 0) aq (fun _ _=>rfl)) (aa (bG cj (by rfl) T.fK dI (aa (aO aQ (pv 0) aq (fun _ _=>rfl)) ak aF)) ak bf) aF)) (aa (bx ak) (aa (bx (aa (pv 3) ak aj)) (aa (bx (aa (pv 6) (aa (pv 7) ak aj) aj)) ak aR) aR) aR) bf) ao)) ak bO)))
   (aA (bM (Ew (aO aQ (pv 0) aq (fun _ _=>rfl)) (aa (pv 7) ak aj))))))))
  (aA (bM (d8 (cT T) T.cJ hr (aa (pv 0) (aa (pv 1) (aa bh (aa (bx ak) (aa (bx (aa (G7 PySem.F.plainAttrs_list PySem.F.slot_list_pop PySem.F.type_list_pop Kv (aO aQ (pv 0) aq (fun _ _=>rfl))) ak bf)) (aa aq ak ao) aR) aR) ao) aj) aj)))))),?_⟩
 have hl:sizeLine=16777216:=sizeLine_eq
 have hpos:0 <os.length:=List.length_pos_iff.mpr hne
 refine hide fun u hu=>?_
 refine J4 (fun σ H1=>∃(ls1:List aG) (ps1:List PD) (os1:List Str) (v3 v4 v5:Option V),σ=[some (.ref d.S),some (.int c),some (.ref B),v3,v4,v5,none,none]/\aK (aZ d.E H) (aZ d.E H1)/\oW d H1 ls1 ps1 os1/\Drawn.WF (uY ls1 ps1 os1 back)/\1<=os1.length/\os1.length<=4/\ls.length<=ls1.length/\ls1.length+os1.length<=16/\ps1.length+os1.length<=14)
  (fun _ H1=>RK H1 d.O) ⟨ls,ps,os,none,none,none,rfl,aK.refl _,D,w,by omega,ho,Nat.le_refl _,by omega,by omega⟩ ?_ ?_
 ·rintro σ H1 ⟨ls1,ps1,os1,v3,v4,v5,rfl,s1,D1,w1,o1,o4,hl1,hl2,hp2⟩
  refine⟨_,rfl,d.S,_,2,_,rfl,rfl,D1.seqS,aM (j:=2) rfl,.ref d.O,os1.length,rfl,.inl ⟨_,bL.of D1.opens,by simp⟩,_,_,rfl,rfl,_,rfl,jB (fun h3=>?_) (fun h3=>?_)⟩
  ·have h3:1 <os1.length:=by have:=of_decide_eq_true h3;omega
   obtain⟨one,other,os2,rfl⟩:∃one other os2,os1=one:: other:: os2:=by
    match os1,h3 with
    | x:: y:: r,_=>exact⟨x,y,r,rfl⟩
   rw [List.length_cons,List.length_cons] at h3 o1 o4 hl2 hp2
   have lm:=JR D1.opens
   refine Xh fun De hD u hu=>?_
   refine⟨_,rfl,d.S,_,2,_,rfl,rfl,D1.seqS,aM (j:=2) rfl,.inl ⟨rfl,_,bL.of D1.opens⟩,d.O,_,0,0,.str one,rfl,rfl,D1.opens,by decide,by decide,Hz (by simp),rfl,?_⟩
   have D2:=D1.open (os':=other:: os2)
   have c2:aZ d.E (upd H1 d.O (.lst ((other:: os2).map V.str)))=aZ d.E H1:=dB (by simp)
   refine dD (v:=u) hu fun u hu=>?_
   change xR _ _ _ _ (upd H1 d.O (.lst ((other:: os2).map V.str)))
   generalize upd H1 d.O (.lst ((other:: os2).map V.str))=H2 at D2 c2 ⊢
   refine⟨_,rfl,d.S,_,2,_,rfl,rfl,D2.seqS,aM (j:=2) rfl,.inl ⟨rfl,_,bL.of D2.opens⟩,d.O,_,0,0,.str other,rfl,rfl,D2.opens,by decide,by decide,Hz (by simp),rfl,?_⟩
   have D3:=D2.open (os':=os2)
   have c3:aZ d.E (upd H2 d.O (.lst (os2.map V.str)))=aZ d.E H2:=dB (by simp)
   refine dD (v:=u) hu fun u hu=>?_
   change xR _ _ _ _ (upd H2 d.O (.lst (os2.map V.str)))
   generalize upd H2 d.O (.lst (os2.map V.str))=H3 at D3 c3 ⊢
   have s3:aK (aZ d.E H) (aZ d.E H3):=by rw [c3,c2];exact s1
   refine⟨iW,fun a0 n0=>?_⟩
   have s0:=aB (o:=.lst [.str "add",.str "less",.str "add"]) n0
   have D0:=D3.keep s0
   have c0:=s3.trans (D3.cut s0)
   refine⟨_,rfl,_,rfl,d.S,_,2,_,rfl,rfl,D0.seqS,aM (j:=2) rfl,.ref d.O,os2.length,rfl,.inl ⟨_,bL.of D0.opens,by simp⟩,c,(os2.length:Int),rfl,_,_,rfl,rfl,by show(0:Int) <3;decide,?_⟩
   obtain⟨i,ei,hi⟩:=XR (cG c (os2.length:Int))
   refine⟨a0,_,_,_,rfl,rfl,bL.of au,ei,?_⟩
   generalize upd H3 a0 (.lst [.str "add",.str "less",.str "add"])=H0 at s0 D0 c0 ⊢
   obtain⟨xs,eP,aP⟩:=D0.parts
   have xl:=aP.length
   have hN:([]:List Int).length=cN i:=by rcases hi with rfl | rfl <;> rfl
   have hI:[one,other].length=cI i:=by rcases hi with rfl | rfl <;> rfl
   have hO:1=cO i:=by rcases hi with rfl | rfl <;> rfl
   subst hu
   refine⟨_,rfl,_,rfl,_,rfl,d.S,_,1,_,rfl,rfl,D0.seqS,aM (j:=1) rfl,.ref d.P,ps1.length,rfl,.inl ⟨_,bL.of eP,xl.symm⟩,_,_,rfl,rfl,_,_,rfl,?_⟩
   refine⟨_,rfl,iW,fun a1 n1=>⟨_,rfl,_,rfl,iW,fun a2 n2=>?_⟩⟩
   obtain⟨D9,z1,z2,z3⟩:=D0.two n1 n2 (y:=.lst [.str one,.str other])
   refine⟨d,_,_,os2,_,i,a1,a2,[],[one,other],1,rfl,D9,z1,z2,by omega,hN,by simp,hI,hO,by omega,by omega,by omega,fun newl H8 hn s8 D8=>?_⟩
   have w8:=rF w1 rfl D8 (.refl _) (by omega) (by rw [lP];omega)
   subst hD
   refine⟨⟨_,_,_,_,_,_,rfl,c0.trans (z3.trans s8),D8,w8,?_,?_,?_,?_,?_⟩,?_⟩
   ·rw [lP,lM];omega
   ·rw [lP,lM];omega
   ·rw [lP];omega
   ·rw [lP,lP,lM];omega
   ·rw [lP,lP,lM,List.length_singleton];omega
   ·rw [JR D8.opens,lm,lM,lM,lP,lM,List.length_cons,List.length_cons]
    omega
  ·have h3:os1.length=1:=by
    have:¬(1:Int) <(os1.length:Int):=fun z=>h3 (decide_eq_true z)
    omega
   obtain⟨y,rfl⟩:=List.length_eq_one_iff.mp h3
   refine dD (v:=u) hu fun u hu=>?_
   refine⟨_,rfl,B,rfl,⟨_,bL.of (bw _ _ (s1 _ _ eB))⟩,?_⟩
   refine cY (K:=K) (a:=B) (xs:=back.map V.str) (fun j σ H2=>∃(ls2:List aG) (ps2:List PD) (y:Str) (u3 u6 u7:Option V),σ=[some (.ref d.S),some (.int c),some (.ref B),u3,v4,v5,u6,u7]/\aK (aZ d.E H) (aZ d.E H2)/\oW d H2 ls2 ps2 [y]/\Drawn.WF (uY ls2 ps2 [y] (back.drop j))/\ls.length<=ls2.length/\ls2.length<=15+j/\ps2.length<=13+j) ⟨ls1,ps1,y,v3,none,none,rfl,s1,D1,w1,hl1,by have z:=hl2;rw [List.length_singleton] at z;omega,by have z:=hp2;rw [List.length_singleton] at z;omega⟩ (fun j σ H2 _ ⟨ls2,ps2,y,u3,u6,u7,e,s2,h⟩=>bL.of (bw _ _ (s2 _ _ eB))) ?_ ?_
   ·rintro j x σ H2 hx ⟨ls2,ps2,y2,u3,u6,u7,rfl,s2,D2,w2,hl2',hl3,hp3⟩
    rw [List.getElem?_map] at hx
    obtain⟨bn,hbn,rfl⟩:=Option.map_eq_some_iff.mp hx
    have hj:j <back.length:=by
     rcases Nat.lt_or_ge j back.length with h | h
     ·exact h
     ·rw [List.getElem?_eq_none h] at hbn;cases hbn
    have hdr:back.drop j=bn:: back.drop (j+1):=by
     rw [List.drop_eq_getElem_cons hj]
     rw [List.getElem?_eq_getElem hj,Option.some.injEq] at hbn
     rw [hbn]
    refine RP fun De hD u hu=>?_
    refine⟨_,rfl,d.S,_,2,_,rfl,rfl,D2.seqS,aM (j:=2) rfl,.inl ⟨rfl,_,bL.of D2.opens⟩,d.O,_,.str y2,rfl,rfl,D2.opens,rfl,?_⟩
    have D3:=D2.open (os':=[])
    have c3:aZ d.E (upd H2 d.O (.lst (([]:List Str).map V.str)))=aZ d.E H2:=dB (by simp)
    refine dD (v:=u) hu fun u hu=>?_
    change xR _ _ _ _ (upd H2 d.O (.lst (([]:List Str).map V.str)))
    generalize upd H2 d.O (.lst (([]:List Str).map V.str))=H3 at D3 c3 ⊢
    obtain⟨xs,eP,aP⟩:=D3.parts
    have xl:=aP.length
    refine⟨_,rfl,_,rfl,_,rfl,d.S,_,1,_,rfl,rfl,D3.seqS,aM (j:=1) rfl,.ref d.P,ps2.length,rfl,.inl ⟨_,bL.of eP,xl.symm⟩,_,_,rfl,rfl,_,_,rfl,d,ls2,ps2,[],_,false,rfl,D3,by omega,fun l H4 _ s4 D4=>?_⟩
    rw [c3] at s4
    have s24:=s2.trans s4
    obtain⟨xs4,eP4,aP4⟩:=D4.parts
    have xl4:=aP4.length
    refine dD (v:=u) hu fun u hu=>?_
    refine⟨_,rfl,d.S,_,1,_,rfl,rfl,D4.seqS,aM (j:=1) rfl,.inl ⟨rfl,_,bL.of eP4⟩,?_⟩
    refine⟨_,rfl,d.S,_,4,_,rfl,rfl,D4.seqS,aM (j:=4) rfl,?_⟩
    refine⟨_,rfl,d.S,_,1,_,rfl,rfl,D4.seqS,aM (j:=1) rfl,.ref d.P,ps2.length,rfl,.inl ⟨_,bL.of eP4,xl4.symm⟩,?_⟩
    refine⟨d.c4,ps2.length,rfl,by omega,fun H5 s5=>?_⟩
    have D5:=D4.keep s5
    have c5:=s24.trans (D4.cut s5)
    have eP5:=s5 _ _ eP4
    refine⟨iW,fun a1 n1=>⟨_,rfl,iW,fun a2 n2=>⟨_,rfl,_,rfl,iW,fun a3 n3=>⟨iW,fun q nq=>?_⟩⟩⟩⟩
    obtain⟨D6,z1,z2,z3⟩:=D5.two n1 n2 (y:=.lst [.str y2])
    have t6:aK H5 (upd (upd H5 a1 (.lst [])) a2 (.lst [.str y2])):=(aB n1).trans (aB n2)
    have eP6:=t6 _ _ eP5
    generalize upd (upd H5 a1 (.lst [])) a2 (.lst [.str y2])=H6 at D6 z1 z2 z3 t6 eP6 n3 nq ⊢
    obtain⟨D7,y1,y2',y3⟩:=D6.two n3 nq (y:=.tup [.str "copy",.str (cX d.c4 ps2.length),.ref a1,.ref a2,.ref a3])
    have t7:aK H6 (upd (upd H6 a3 (.lst [.str bn,.str l.name])) q (.tup [.str "copy",.str (cX d.c4 ps2.length),.ref a1,.ref a2,.ref a3])):=(aB n3).trans (aB nq)
    have eP7:=t7 _ _ eP6
    generalize upd (upd H6 a3 (.lst [.str bn,.str l.name])) q (.tup [.str "copy",.str (cX d.c4 ps2.length),.ref a1,.ref a2,.ref a3])=H7 at D7 y1 y2' y3 t7 eP7 ⊢
    have c7:=c5.trans (z3.trans y3)
    refine⟨d.P,xs4,_,rfl,rfl,eP7,by omega,?_⟩
    have D8:=D7.part (p:=⟨3,cX d.c4 ps2.length,[],[y2],[bn,l.name]⟩) ⟨q,a1,a2,a3,rfl,y2',y3 _ _ z1,y3 _ _ z2,y1⟩ ⟨by show 3 <11;omega,rfl,rfl,rfl,by simp⟩ rfl eP7
    have c8:aZ d.E (upd H7 d.P (.lst (xs4 ++ [.ref q])))=aZ d.E H7:=dB (by simp)
    generalize upd H7 d.P (.lst (xs4 ++ [.ref q]))=H8 at D8 c8 ⊢
    subst hu
    refine⟨_,rfl,d.S,_,2,_,rfl,rfl,D8.seqS,aM (j:=2) rfl,.inl ⟨rfl,_,bL.of D8.opens⟩,_,rfl,d.O,_,_,rfl,rfl,D8.opens,by simp;omega,?_⟩
    have D9:=D8.open (os':=[l.name])
    have nd:=D9.nod (by rw [lP,List.length_singleton];omega)
    rw [hdr] at w2
    have wc:=w2.closeBack (p:=⟨3,cX d.c4 ps2.length,[],[y2],[bn,l.name]⟩) (rest:=back.drop (j+1)) (one:=y2) (b:=bn) (fresh:=l.name) rfl rfl (.refl _) rfl (by simpa using nd)
    subst hD
    exact⟨ls2 ++ [l],_,l.name,_,_,_,rfl,by rw [dB (by simp),c8];exact c7,D9,by simpa [uY] using wc,by rw [lP];omega,by rw [lP,List.length_singleton];omega,by rw [lP,List.length_singleton];omega⟩
   rintro σ H2 ⟨ls2,ps2,y2,u3,u6,u7,rfl,s2,D2,w2,hl2',hl3,hp3⟩
   rw [lM] at w2 hl3 hp3
   rw [List.drop_length] at w2
   subst hu
   refine⟨_,rfl,_,rfl,iW,fun a3 n3=>?_⟩
   have t3:=aB (o:=.lst []) n3
   have D3:=D2.keep t3
   have c3:=s2.trans (D2.cut t3)
   have o3:=D2.out n3
   have e3:=bY (au (H:=H2) (a:=a3) (o:=.lst ([]:List V))) o3
   generalize upd H2 a3 (.lst [])=H3 at t3 D3 c3 e3 ⊢
   refine⟨_,rfl,d.S,_,2,_,rfl,rfl,D3.seqS,aM (j:=2) rfl,.inl ⟨rfl,_,bL.of D3.opens⟩,d.O,_,.str y2,rfl,rfl,D3.opens,rfl,?_⟩
   have D4:=D3.open (os':=[])
   have c4:aZ d.E (upd H3 d.O (.lst (([]:List Str).map V.str)))=aZ d.E H3:=dB (by simp)
   rw [show([y2].map V.str).dropLast=([]:List Str).map V.str from rfl]
   refine⟨iW,fun a4 n4=>?_⟩
   generalize upd H3 d.O (.lst (([]:List Str).map V.str))=H4 at D4 c4 n4 ⊢
   have s5:=aB (o:=.lst [.str y2]) n4
   have D5:=D4.keep s5
   have c5:=D4.cut s5
   rw [c4] at c5
   have e5:=bY (E:=d.E) (H:=upd H4 a4 (.lst [.str y2])) au (D4.out n4)
   refine⟨d,ls2,ps2,[],_,1,a3,a4,[],[y2],0,rfl,D5,c5 _ _ e3,e5,by omega,rfl,by simp,rfl,rfl,by omega,by omega,by simp,fun newl2 H9 hn2 s9 D9=>?_⟩
   have hz:newl2=[]:=List.length_eq_zero_iff.mp hn2
   subst hz
   rw [List.map_nil,List.append_nil,List.append_nil] at D9
   obtain⟨x1,x2,x3⟩:=w2.last (p:=⟨1,cX d.c4 ps2.length,[],[y2],[]⟩) (y:=y2) rfl rfl rfl rfl
   exact k ls2 _ H9 (c3.trans (c5.trans s9)) D9 ⟨w2.nod,x1,x2,y2,x3⟩ (by omega) hl2' (by rw [lP,List.length_singleton];omega) (by rw [lP,List.length_singleton];omega)
 ·intro σ H' Q' Q'' hm hq
  obtain⟨x1,x2,x3,x4,x5,x6,x7,x8,x9,x10,x11,x12,x13,x14,x15,x16,x17,x18,x19,x20,q⟩:=hq
  exact⟨x1,x2,x3,x4,x5,x6,x7,x8,x9,x10,x11,x12,x13,x14,x15,x16,x17,x18,x19,x20,hm _ _ q⟩
inductive Bf (K:PySem.W.Frag) (vs:List V) (H:Hp) (Q:VK) (E:XK):Prop where
 | mk:∀(a:Addr) (ns:List Int) (start steps:Nat) (odd:Bool),vs=[.ref a,.int (start:Nat),.int (steps:Nat),.bl odd]->bL K H a (ns.map V.int)->steps<=4->(∀(T L P:Addr) (ls:List aG) (ps:List PD) (H':Hp),aK H H'->H L=none->H P=none->L≠P->H' T=some (.tup [.ref L,.ref P])->yC H' L P ls ps->Ql (mU ns start) (mU ns (start+1)) ls ps->Q (.ref T) H')->Bf K vs H Q E
noncomputable abbrev Ds:List Str:=["_law_script", "_law_start", "_law_steps", "_law_odd", "_law_one", "_law_other", "_law_state", "_law_k", "_law_back", "_law_at"]
theorem Jt (T:Txt w K mg t):FO P w K mg base 7 t.Cq ["_law_script", "_law_start", "_law_steps", "_law_odd"] (Bf K):=by
 have sc:=T.xY.sc Ds
 refine T.xY.F.ok sc ln (fun _ _ _ _ H vs Q E hr h=>?_)
 obtain⟨a,ns,start,steps,odd,rfl,hS,hst,k⟩:=h
 refine⟨_,(az (sN sc 4 (d8 (iY T) T.gq hr (aa (pv 0) (aa (pv 1) ak aj) aj)))
  (az (sN sc 5 (d8 (iY T) T.gq hr (aa (pv 0) (aa (bc du (pv 1) aq) ak bT) aj)))
  (az (sN sc 6 (bx (aa (bx ak) (aa (bx ak) (aa (bx ak) (aa (pv 4) (aa (pv 5) ak aj) aj) aR) aR) aR)))
  (az (dg PassesOwn.never rfl (jE rfl T.lU (aa (bc du aq (bc b7 (d8 (bA T) T.bF hr (aa (pv 4) (aa aq ak ao) aj)) aq)) ak bT)) (gN sc 7)
   (aA (bM (d8 (cT T) T.cJ hr (aa (pv 6) (aa (d8 (bA T) T.bF hr (aa (pv 5) (aa (pv 7) ak aj) aj)) (aa bh (aa (bx ak) (aa (bx ak) (aa aq ak ao) aR) aR) ao) bf) aj)))))
  (az (j4 (i:=8) [5,6] Ds (aU (top 74)) rfl sc.nd rfl (jE rfl T.lU (aa (bc b7 (d8 (bA T) T.bF hr (aa (pv 4) (aa aq ak ao) aj)) aq) ak bT)) (fun _ _ _ _ _=>gm) (fun _ _ _ _ _=>(d8 (jU T) T.iD hr (aa (pv 2) (aa (d8 (bA T) T.bF hr (aa (pv 1) (aa (bc du aq (pv 0)) ak bT) aj)) (aa j0 ak ao) bf) aj))))
  (az (bM (ye PySem.F.plainAttrs_list PySem.F.slot_list_extend PySem.F.type_list_extend Ge (aO aQ (pv 6) aq (fun _ _=>rfl)) (aa (pv 8) ak aj)))
  (az (dg PassesOwn.never rfl (jE rfl T.lU (aa (pv 2) ak aj)) (gN sc 7)
   (aA (bM (d8 (GK T) T.vA hr (aa (pv 6) (aa (d8 (iY T) T.gq hr (aa (pv 0) (aa (bc du (bc du (pv 1) aq) (pv 7)) ak bT) aj)) (aa (pv 3) ak aj) bf) aj)))))
  (az (bM (d8 (Dy T) T.qW hr (aa (pv 6) (aa (pv 5) (aa (pv 8) ak aj) aj) aj)))
  (az (sN sc 9 (bc b7 (d8 (bA T) T.bF hr (aa (pv 4) (aa aq ak ao) aj)) (bG cj (by rfl) T.fK dI (aa (aO aQ (pv 6) aq (fun _ _=>rfl)) ak aF))))
  (aA (aN (bV (aa (aO aQ (pv 6) aq (fun _ _=>rfl)) (aa (bc HS (mH vH (aO aQ (pv 6) aq (fun _ _=>rfl)) (lW (pv 9)) vO) (mH vH (aO aQ (pv 6) aq (fun _ _=>rfl)) vO (lW (pv 9)))) ak bT) aF))))))))))))),?_⟩
 have hl:sizeLine=16777216:=sizeLine_eq
 refine hide fun u hu=>?_
 refine⟨_,rfl,_,rfl,a,ns,start,rfl,hS,?_⟩
 refine dD (v:=u) hu fun u hu=>?_
 refine⟨_,rfl,_,rfl,_,_,rfl,rfl,a,ns,start+1,rfl,hS,?_⟩
 refine dD (v:=u) hu fun u hu=>?_
 refine⟨iW,fun L nL=>⟨iW,fun P' nP=>⟨iW,fun O nO=>⟨_,rfl,_,rfl,iW,fun S nS=>?_⟩⟩⟩⟩
 obtain⟨D1,s1,nP0⟩:=oW.init (mU ns start) (mU ns (start+1)) nL nP nO nS
 have nLP:L≠P':=D1.ne.1
 refine dD (v:=u) hu fun u hu=>?_
 change xR _ _ _ [some (.ref a),some (.int (start:Nat)),some (.int (steps:Nat)),some (.bl odd),some (.int (mU ns start)),some (.int (mU ns (start+1))),some (.ref S),none,none,none] (upd (upd (upd (upd H L (.lst [])) P' (.lst [])) O (.lst [])) S (.lst [.ref L,.ref P',.ref O,.int (mU ns start),.int (mU ns (start+1))]))
 generalize upd (upd (upd (upd H L (.lst [])) P' (.lst [])) O (.lst [])) S (.lst [.ref L,.ref P',.ref O,.int (mU ns start),.int (mU ns (start+1))])=H1 at D1 s1 ⊢
 obtain⟨d,hd⟩:∃d:Dw,d=⟨S,L,P',O,mU ns start,mU ns (start+1)⟩:=⟨_,rfl⟩
 rw [<-hd] at D1
 have hE:[L,P',O]=d.E:=by rw [hd]
 have hSd:S=d.S:=by rw [hd]
 have hLd:L=d.L:=by rw [hd]
 have hc3:mU ns start=d.c3:=by rw [hd]
 have hc4:mU ns (start+1)=d.c4:=by rw [hd]
 rw [hE] at s1
 rw [hLd] at nL nLP
 rw [hc3,hc4] at k
 rw [hSd,hc3,hc4]
 clear hd hE nP nO nS
 have g0:=Int.emod_nonneg (cG d.c3 5) (show(2:Int)≠0 by decide)
 have g1:=Int.emod_lt_of_pos (cG d.c3 5) (show(0:Int) <2 by decide)
 refine⟨_,rfl,_,_,rfl,_,_,rfl,rfl,by show(0:Int) <2;decide,_,_,rfl,rfl,1+cG d.c3 5 % 2,rfl,by omega,by omega,?_⟩
 obtain⟨g,hg,hg1,hg2⟩:∃g:Nat,(1+cG d.c3 5 % 2).toNat=g/\1<=g/\g<=2:=⟨_,rfl,by omega,by omega⟩
 rw [hg]
 refine FJ (fun j σ H2=>∃(ls:List aG) (ps:List PD) (os:List Str) (v7:Option V),σ=[some (.ref a),some (.int (start:Nat)),some (.int (steps:Nat)),some (.bl odd),some (.int d.c3),some (.int d.c4),some (.ref d.S),v7,none,none]/\aK (aZ d.E H1) (aZ d.E H2)/\oW d H2 ls ps os/\Drawn.WF (uY ls ps os [])/\ls.length=j/\ps.length=j/\os.length=j) ⟨[],[],[],none,rfl,aK.refl _,D1,Drawn.WF.start,rfl,rfl,rfl⟩ ?_ ?_
 ·rintro j σ H2 hj ⟨ls,ps,os,v7,rfl,s2,D2,w2,h1,h2,h3⟩
  refine Vq fun De hD=>?_
  refine⟨_,rfl,_,rfl,_,rfl,_,_,rfl,iW,fun a1 n1=>⟨iW,fun a2 n2=>?_⟩⟩
  obtain⟨D9,z1,z2,z3⟩:=D2.two n1 n2 (y:=.lst [])
  refine⟨d,ls,ps,os,_,0,a1,a2,[],[],1,rfl,D9,z1,z2,by omega,rfl,by simp,rfl,rfl,by omega,by omega,by omega,fun newl H8 hn s8 D8=>?_⟩
  have w8:=rF w2 rfl D8 (.refl _) (by omega) (by rw [lP];omega)
  subst hD
  exact⟨_,_,_,_,rfl,s2.trans (z3.trans s8),D8,w8,by rw [lP];omega,by rw [lP,List.length_singleton];omega,by rw [lP,lM];omega⟩
 rintro σ H2 ⟨ls,ps,os,v7,rfl,s2,D2,w2,h1,h2,h3⟩
 have b0:=Int.emod_nonneg (cG d.c3 6) (show(3:Int)≠0 by decide)
 have b1:=Int.emod_lt_of_pos (cG d.c3 6) (show(0:Int) <3 by decide)
 refine dD (v:=u) hu fun u hu=>?_
 refine⟨_,rfl,_,_,rfl,_,_,rfl,rfl,by show(0:Int) <3;decide,cG d.c3 6 % 3,rfl,by omega,by omega,?_⟩
 obtain⟨nb,hnb,hnb2⟩:∃nb:Nat,(cG d.c3 6 % 3).toNat=nb/\nb<=2:=⟨_,rfl,by omega⟩
 rw [hnb]
 refine lC (fun j ys H3=>∃(ls3:List aG) (bl:List Str),ys=bl.map V.str/\bl.length=j/\aK (aZ d.E H1) (aZ d.E H3)/\oW d H3 ls3 ps os/\Drawn.WF (uY ls3 ps (os ++ bl) bl)/\ls3.length=g+j) (by omega) ⟨ls,[],rfl,rfl,s2,D2,by rw [List.append_nil];exact w2,by omega⟩ (fun j ys H3 ⟨_,bl,e,e2,_⟩=>by rw [e,lM];omega) ?_ ?_
 ·rintro j ys H3 hj ⟨ls3,bl,rfl,hb,s3,D3,w3,h4⟩
  refine yes ⟨_,rfl,_,rfl,_,rfl,_,_,rfl,rfl,_,_,rfl,d,ls3,ps,os,_,true,rfl,D3,by omega,fun l H4 _ s4 D4=>?_⟩
  have nd:=D4.nod (by rw [lP,List.length_singleton];omega)
  have wb:=w3.backLane (b:=l.name) (by simpa using nd)
  exact⟨ls3 ++ [l],bl ++ [l.name],by simp,by simp [hb],s3.trans s4,D4,by simpa [uY] using wb,by rw [lP,List.length_singleton];omega⟩
 rintro ys H3 ⟨ls3,bl,rfl,hbl,s3,D3,w3,h4⟩ B nB
 have t4:=aB (o:=.lst (bl.map V.str)) nB
 have D4:=D3.keep t4
 have s4:=s3.trans (D3.cut t4)
 have eB:=bY (au (H:=H3) (a:=B) (o:=.lst (bl.map V.str))) (D3.out nB)
 generalize upd H3 B (.lst (bl.map V.str))=H4 at t4 D4 s4 eB ⊢
 refine dD (v:=u) hu fun u hu=>?_
 refine⟨_,rfl,d.S,_,2,_,rfl,rfl,D4.seqS,aM (j:=2) rfl,.inl ⟨rfl,_,bL.of D4.opens⟩,_,rfl,d.O,B,_,_,rfl,rfl,D4.opens,bw _ _ eB,by rw [lM,lM];omega,?_⟩
 rw [<-List.map_append]
 have D5:=D4.open (os':=os ++ bl)
 have c5:aZ d.E (upd H4 d.O (.lst ((os ++ bl).map V.str)))=aZ d.E H4:=dB (by simp)
 generalize upd H4 d.O (.lst ((os ++ bl).map V.str))=H5 at D5 c5 ⊢
 rw [<-c5] at s4 eB
 refine dD (v:=u) hu fun u hu=>?_
 refine⟨_,rfl,(steps:Int),rfl,by omega,by omega,?_⟩
 rw [Int.toNat_natCast]
 refine FJ (fun j σ H6=>∃(ls6:List aG) (ps6:List PD) (os6:List Str) (v7:Option V),σ=[some (.ref a),some (.int (start:Nat)),some (.int (steps:Nat)),some (.bl odd),some (.int d.c3),some (.int d.c4),some (.ref d.S),v7,some (.ref B),none]/\aK (aZ d.E H5) (aZ d.E H6)/\oW d H6 ls6 ps6 os6/\Drawn.WF (uY ls6 ps6 os6 bl)/\1<=ls6.length/\ls6.length<=4+2 * j/\ps6.length<=2+2 * j/\os6≠[]/\os6.length<=4) ⟨ls3,ps,os ++ bl,v7,rfl,aK.refl _,D5,w3,by omega,by omega,by omega,by intro z;have:=congrArg List.length z;rw [lP,List.length_nil] at this;omega,by rw [lP];omega⟩ ?_ ?_
 ·rintro j σ H6 hj ⟨ls6,ps6,os6,u7,rfl,s6,D6,w6,l0,l6,p6,o0,o6⟩
  have hS6:bL K H6 a (ns.map V.int):=bw.seq ((s1.trans (s4.trans s6)).seq hS)
  refine Vq fun De hD=>?_
  refine⟨_,rfl,_,rfl,_,rfl,_,_,rfl,rfl,_,rfl,_,_,rfl,rfl,a,ns,start+2+(0+j),rfl,hS6,_,rfl,d,ls6,ps6,os6,_,bl,odd,rfl,D6,w6,o0,o6,by omega,by omega,fun ls' ps' os' H' X=>?_⟩
  subst hD
  exact⟨ls',ps',os',_,rfl,s6.trans X.cut,X.at',X.wf,by have h1:=X.wf.ins.length_eq;have h2:=X.o1;rw [lP,lM] at h1;change _+os'.length=_ at h1;omega,by have:=X.l2;omega,by have:=X.p2;omega,by intro z;have:=X.o1;rw [z] at this;simp at this,X.o4⟩
 rintro σ H6 ⟨ls6,ps6,os6,u7,rfl,s6,D6,w6,l0,l6,p6,o0,o6⟩
 refine dD (v:=u) hu fun u hu=>?_
 refine⟨_,rfl,_,rfl,_,rfl,d,ls6,ps6,os6,_,B,bl,rfl,D6,w6,s6 _ _ eB,o0,o6,by omega,by omega,by omega,fun ls7 ps7 H7 s7 D7 W7 l17 l7 p16 p1=>?_⟩
 obtain⟨xsL,eL,aL⟩:=D7.lanes
 obtain⟨xsP,eP,aP⟩:=D7.parts
 have xl:=aP.length
 refine dD (v:=u) hu fun u hu=>?_
 refine⟨_,rfl,_,_,rfl,_,rfl,d.S,_,1,_,rfl,rfl,D7.seqS,aM (j:=1) rfl,.ref d.P,ps7.length,rfl,.inl ⟨_,bL.of eP,xl.symm⟩,cG d.c3 7,(ps7.length:Int),rfl,rfl,by omega,?_⟩
 have r0:=Int.emod_nonneg (cG d.c3 7) (show(ps7.length:Int)≠0 by omega)
 obtain⟨r,hr'⟩:∃r:Nat,cG d.c3 7 % (ps7.length:Int)=(r:Int):=⟨_,(Int.toNat_of_nonneg r0).symm⟩
 dsimp only
 rw [hr']
 subst hu
 refine⟨_,rfl,d.S,_,0,_,rfl,rfl,D7.seqS,aM (j:=0) rfl,?_⟩
 refine⟨_,rfl,d.S,_,1,_,rfl,rfl,D7.seqS,aM (j:=1) rfl,?_⟩
 refine⟨_,rfl,_,rfl,d.P,_,rfl,bL.of eP,fun q1 m1=>?_⟩
 rw [Ox]
 have t1:=aB (o:=.lst (xsP.drop r)) m1
 have f1:upd H7 q1 (.lst (xsP.drop r)) q1=some (.lst (xsP.drop r)):=au
 have D8:=D7.keep t1
 have eP8:=t1 _ _ eP
 have eL8:=t1 _ _ eL
 generalize upd H7 q1 (.lst (xsP.drop r))=H8 at t1 f1 D8 eP8 eL8 ⊢
 refine⟨_,rfl,d.S,_,1,_,rfl,rfl,D8.seqS,aM (j:=1) rfl,_,rfl,_,rfl,d.P,_,rfl,bL.of eP8,fun q2 m2=>?_⟩
 rw [SQ]
 have t2:=aB (o:=.lst (xsP.take r)) m2
 have f2:upd H8 q2 (.lst (xsP.take r)) q2=some (.lst (xsP.take r)):=au
 have f12:=t2 _ _ f1
 have eL9:=t2 _ _ eL8
 generalize upd H8 q2 (.lst (xsP.take r))=H9 at t2 f2 f12 eL9 ⊢
 refine⟨q1,q2,_,_,rfl,rfl,f12,f2,by rw [List.length_drop,List.length_take];omega,fun q3 m3=>?_⟩
 have t3:=aB (o:=.lst (xsP.drop r ++ xsP.take r)) m3
 have f3:upd H9 q3 (.lst (xsP.drop r ++ xsP.take r)) q3=some (.lst (xsP.drop r ++ xsP.take r)):=au
 have eLA:=t3 _ _ eL9
 generalize upd H9 q3 (.lst (xsP.drop r ++ xsP.take r))=HA at t3 f3 eLA ⊢
 refine⟨iW,fun T' nT=>?_⟩
 have t4:=aB (o:=.tup [.ref d.L,.ref q3]) nT
 have sA:aK H7 (upd HA T' (.tup [.ref d.L,.ref q3])):=t1.trans (t2.trans (t3.trans t4))
 have s17:aK H (aZ d.E H7):=s1.trans (s4.trans (s6.trans s7))
 have s07:aK H H7:=s17.trans bw
 have free3:H q3=none:=s07.free (t1.free (t2.free m3))
 have cA:aK (aZ d.E H7) (upd HA T' (.tup [.ref d.L,.ref q3])):=bw.trans sA
 have nq:d.L≠q3:=aD eL9 m3
 have rp:=QV ps7 r
 refine k T' d.L q3 ls7 (ps7.drop r ++ ps7.take r) _ (s07.trans sA) nL free3 nq au ⟨⟨xsL,t4 _ _ eLA,aL.imp fun _ _ h=>h.same cA⟩,⟨_,t4 _ _ f3,((aP.drop r).app (aP.take r)).imp fun _ _ h=>h.same cA⟩⟩ ⟨D7.lok,fun p hp=>D7.pok p (rp.mem_iff.mpr hp),D7.ln,?_,W7.perm rp,by omega,l17,by rw [<-rp.length_eq];exact p1,by rw [<-rp.length_eq];exact p16⟩
 rw [<-rp.length_eq,<-D7.pn]
 exact rp.map _
inductive Dz (K:PySem.W.Frag) (vs:List V) (H:Hp) (Q:VK) (E:XK):Prop where
 | mk:∀x,vs=[x]->(((∃z:Str,x=.str z/\z.length<=100/\∀H',aK H H'->Q (.bl (nameB z)) H')∨∃Tx,Yv K H x Tx/\Tx∈qm/\Tx≠ "str" /\Q (.bl false) H))->Dz K vs H Q E
theorem Lf (T:Txt w K mg t):FO P w K mg base 1 t.Gi ["thing"] (Dz K):=by
 have sc:=T.zH.sc ["thing"]
 refine T.zH.F.ok sc ln (fun _ _ _ _ H vs Q E hr h=>?_)
 obtain⟨x,rfl,h⟩:=h
 refine⟨_,(az (bR (PW.pt (wM (jO (jj (bG vD (by rfl) T.j6 jm (aa (pv 0) (aa (zf (by rfl) T.Uy Q9) ak aj) aj)))) (qK (jO (yH wH wH aq (bG cj (by rfl) T.fK dI (aa (pv 0) ak aj)) (jq (by rfl) T.Dv))))))
   (aA (aN j0))
   aY)
  (aA (aN (zT (tD zE (aO Dd (pv 0) aq (fun _ _=>rfl)) (jq (by rfl) T.Gb) (by with_unfolding_all rfl)) (zG (bG (yO rfl) (by rfl) T.MN Hw (aa (fM [] ["thing"] (aU (top 23)) rfl (V0 (pv 0)) (fun _ _ _ _ _=>gm) (fun _ _ _ _ _=>(XN (tD zE (pv 0) (jq (by rfl) T.Gb) (by with_unfolding_all rfl)) (zG (tD zE (pv 0) (jq (by rfl) T.Om) (by with_unfolding_all rfl)))))) ak d7))))))),?_⟩
 have hl:sizeLine=16777216:=sizeLine_eq
 rcases h with ⟨z,rfl,hz,k⟩ | ⟨Tx,ty,hm,hne,k⟩
 ·refine⟨_,rfl,.str z, "str", "str",true,rfl,rfl,by decide,by decide,_,rfl,dw ?_⟩
  refine⟨_,rfl,.str z,z.length,rfl,⟨by omega,rfl⟩,_,_,rfl,rfl,_,rfl,?_⟩
  cases e:z.cps.toList with
  | nil=>
   have h0:z.length=0:=by rw [<-oY,e];rfl
   rw [h0]
   refine dw ⟨_,rfl,fY ?_⟩
   have:=k H (aK.refl _)
   unfold nameB at this
   rw [e] at this
   exact this
  | cons c r=>
   have hlen:z.length=r.length+1:=by rw [<-oY,e];rfl
   refine lA (by omega) ⟨_,_,rfl,rfl,_,rfl,jB (fun h=>?_) (fun h=>?_)⟩
   ·have h8:¬(z.length:Int)<=8:=by simpa using h
    have:=k H (aK.refl _)
    unfold nameB at this
    rw [e] at this
    simp only [show ¬r.length<=7 by omega,decide_false,Bool.false_and] at this
    exact this
   ·have h8:(z.length:Int)<=8:=by simpa using h
    have hc0:FZ z.cps.toList 0=some c:=by rw [e];exact aM (xs:=c:: r) (j:=0) rfl
    refine⟨_,rfl,z,_,c,rfl,rfl,by omega,hc0,_,_,rfl,rfl,_,rfl,?_⟩
    have kk:∀H',aK H H'->Q (.bl (low c && z.cps.toList.all fun d=>low d || KN d)) H':=fun H' s'=>by
     have:=k H' s'
     unfold nameB at this
     rw [e] at this ⊢
     simp only [show r.length<=7 by omega,decide_true,Bool.true_and] at this
     exact this
    rw [Qe]
    refine jB (fun hc=>?_) (fun hc=>?_)
    ·rw [hc,Bool.true_and] at kk
     refine⟨_,rfl,z,rfl,Ri (fun i ys H'=>H'=H/\ys=((z.cps.toList.take i).map fun d=>low d || KN d).map V.bl) (by simp only [Str.length] at hz;omega) ⟨rfl,by simp⟩ (fun i ys H' ⟨_,e⟩=>by rw [e];simp only [lM,List.length_take];omega) ?_ ?_⟩
     ·rintro i d ys H' hd ⟨rfl,rfl⟩
      refine yes ⟨_,rfl,_,_,rfl,rfl,_,rfl,?_⟩
      have hd':z.cps.toList[i]?=some d:=by simpa using hd
      have next:∀b,b=(low d || KN d)->(((z.cps.toList.take i).map fun d=>low d || KN d).map V.bl) ++ [V.bl b]=((z.cps.toList.take (i+1)).map fun d=>low d || KN d).map V.bl:=fun b hb=>by
       rw [List.take_add_one,hd',hb]
       simp
      rw [Qe]
      refine jB (fun hl'=>?_) (fun hl'=>?_)
      ·exact⟨rfl,next true (by rw [hl'];rfl)⟩
      ·have hl2:low d=false:=by simpa using hl'
       refine⟨_,rfl,_,_,rfl,rfl,rfl,next _ ?_⟩
       rw [V5,hl2,Bool.false_or]
     ·rintro ys H' ⟨rfl,rfl⟩ D hD
      refine⟨D,(z.cps.toList.take z.cps.size).map fun d=>low d || KN d,rfl,bL.of au,?_⟩
      have hall:((z.cps.toList.take z.cps.size).map fun d=>low d || KN d).all id=z.cps.toList.all fun d=>low d || KN d:=by
       rw [List.take_of_length_le (by simp),List.all_map]
       rfl
      rw [hall]
      exact kk _ (aB hD)
    ·have hc':low c=false:=by simpa using hc
     rw [hc',Bool.false_and] at kk
     exact kk H (aK.refl _)
 ·have hb:J9 Tx "str" =false:=by
   simp only [qm,List.mem_cons,List.not_mem_nil,or_false] at hm
   rcases hm with rfl | rfl | rfl | rfl | rfl | rfl | rfl <;> first | decide | exact absurd rfl hne
  exact⟨_,rfl,x,Tx, "str",false,rfl,ty,by decide,hb,_,rfl,fY (fY k)⟩
inductive uL (K:PySem.W.Frag) (vs:List V) (H:Hp) (Q:VK) (E:XK):Prop where
 | mk:∀(a b:Addr) (xs ys:List V),vs=[.ref a,.ref b]->bL K H a xs->bL K H b ys->1<=xs.length->xs.length<=24->1<=ys.length->ys.length<=16->Q .non H->uL K vs H Q E
theorem CW (T:Txt w K mg t):FO P w K mg base 1 t.wB ["lanes", "parts"] (uL K):=by
 have sc:=T.qY.sc ["lanes", "parts"]
 refine T.qY.F.ok sc ln (fun _ _ _ _ H vs Q E hr h=>?_)
 obtain⟨a,b,xs,ys,rfl,h1,h2,c1,c2,c3,c4,k⟩:=h
 refine⟨_,(az (bR (jO (yH wH wH aq (bG cj (by rfl) T.fK dI (aa (pv 0) ak aj)) (jq (by rfl) T.HJ)))
   (aA dY)
   aY)
  (aA (bR (jO (yH wH wH aq (bG cj (by rfl) T.fK dI (aa (pv 1) ak aj)) (jq (by rfl) T.Ie)))
   (aA dY)
   aY))),?_⟩
 have hl:sizeLine=16777216:=sizeLine_eq
 refine⟨_,rfl,.ref a,xs.length,rfl,.inl ⟨_,h1,rfl⟩,_,_,rfl,rfl,_,rfl,lA (by omega) ⟨_,_,rfl,rfl,_,rfl,?_⟩⟩
 rw [show decide ((xs.length:Int)<=24)=true from decide_eq_true (by omega)]
 refine dw ?_
 refine⟨_,rfl,.ref b,ys.length,rfl,.inl ⟨_,h2,rfl⟩,_,_,rfl,rfl,_,rfl,lA (by omega) ⟨_,_,rfl,rfl,_,rfl,?_⟩⟩
 rw [show decide ((ys.length:Int)<=16)=true from decide_eq_true (by omega)]
 exact dw k
inductive wG (K:PySem.W.Frag) (vs:List V) (H:Hp) (Q:VK) (E:XK):Prop where
 | mk:∀(z:Str) (d:Addr) (kvs:List (Key×V)),vs=[.str z,.ref d]->H d=some (.dK kvs)->nameB z=true->z.length<=100->b8 kvs (Sum.inr z)=none->(∀H',aK H H'->Q .non H')->wG K vs H Q E
theorem xx (T:Txt w K mg t):FO P w K mg base 2 t.yr ["name", "known"] (wG K):=by
 have sc:=T.oG.sc ["name", "known"]
 refine T.oG.F.ok sc ln (fun _ _ _ _ H vs Q E hr h=>?_)
 obtain⟨z,d,kvs,rfl,hd,hz,hl,hv,k⟩:=h
 refine⟨_,(az (bR (jO (jj (d8 (Lf T) T.zH hr (aa (pv 0) ak aj))))
   (aA dY)
   aY)
  (aA (bR (gj (zF hr.u1 (pv 0) (pv 1)))
   (aA dY)
   aY))),?_⟩
 refine⟨_,rfl,.str z,rfl,.inl ⟨z,rfl,hl,fun H1 s1=>?_⟩⟩
 rw [hz]
 refine⟨_,rfl,dw ?_⟩
 refine⟨_,rfl,_,rfl,d,_,rfl,eY.k (k:=Sum.inr z) (s1 _ _ hd),?_⟩
 rw [hv]
 exact⟨_,rfl,dw (k _ s1)⟩
inductive zr (K:PySem.W.Frag) (vs:List V) (H:Hp) (Q:VK) (E:XK):Prop where
 | mk:∀(nm:V) (room:Int) (L:Addr) (ws:List Int),vs=[nm,.int room,.ref L]->yx K H L (ws.map V.int)->ws.length<=1000->((∀v∈ws,0<=v/\v <1000000000))->1<=room->(ws.length:Int)<=room->room<=199->(∀H',aK H H'->Q .non H')->zr K vs H Q E
theorem GP (T:Txt w K mg t):FO P w K mg base 3 t.Bm ["name", "room", "first"] (zr K):=by
 have sc:=T.uf.sc ["name", "room", "first"]
 refine T.uf.F.ok sc ln (fun _ _ _ _ H vs Q E hr h=>?_)
 obtain⟨nm,room,L,ws,rfl,hL,hw,hB,c1,c2,c3,k⟩:=h
 refine⟨_,(az (bR (PW.pt (wM (jO (jj (d8 (Aa T) T.tH hr (aa (pv 1) ak aj)))) (qK (jO (yH wH wH (bG (zM rfl) (by rfl) T.Nu Ig (aa aq (aa (bG cj (by rfl) T.fK dI (aa (pv 2) ak aj)) ak bf) ao)) (pv 1) (jq (by rfl) T.J2))))))
   (aA dY)
   aY)
  (aA (bR (jO (jj (bG (yO rfl) (by rfl) T.MN Hw (aa (fM [] ["name", "room", "first"] (aU (top 49)) rfl (Va (bW (pv 2)) (GJ (pv 2))) (fun _ _ _ _ _=>gm) (fun _ _ _ _ _=>(d8 (uw T) T.pU hr (aa (pv 0) ak aj)))) ak d7))))
   (aA dY)
   aY))),?_⟩
 have hl:sizeLine=16777216:=sizeLine_eq
 have hlw:(ws.map V.int).length=ws.length:=lM ..
 refine⟨_,rfl,.int room, "int",true,rfl,rfl,by decide,by decide,true,rfl,dw ?_⟩
 refine⟨_,rfl,.ref L,(ws.map V.int).length,rfl,hL.len,_,_,rfl,_,rfl,_,_,rfl,rfl,_,rfl,lA ?_ ⟨_,_,rfl,rfl,_,rfl,?_⟩⟩
 ·split <;> omega
 rw [show decide (room<=199)=true from decide_eq_true c3]
 refine dw ?_
 refine Py (a:=L) (xs:=ws.map V.int) ?_ hL (fun j ys=>ys=(List.replicate j true).map V.bl) (by rw [lM];omega) rfl (fun j ys e=>by rw [e];simp) (fun j x ys hx e=>?_) (fun ys e D hD=>?_)
 ·exact fun R r=>⟨_,rfl,r⟩
 ·subst e
  rw [List.getElem?_map] at hx
  obtain⟨n,hn,rfl⟩:=Option.map_eq_some_iff.mp hx
  obtain⟨n0,n1⟩:=hB n (List.mem_of_getElem? hn)
  refine yes ⟨_,rfl,.int n,rfl,.inl ⟨n,rfl,rfl,?_⟩⟩
  rw [decide_eq_true n0,decide_eq_true n1,List.replicate_succ']
  simp
 ·subst e
  refine⟨D,_,rfl,bL.of au,_,rfl,?_⟩
  rw [show((List.replicate (ws.map V.int).length true).all id)=true by simp]
  exact dw (k _ (aB hD))
inductive wK (K:PySem.W.Frag) (t:jH) (vs:List V) (H:Hp) (Q:VK) (E:XK):Prop where
 | mk:∀(i:Nat) (nm:Str) (r d a1 a2 a3:Addr) (ns is os:List V) (kvs:List (Key×V)),vs=[.ref r,.ref d]->H r=some (.tup [.str (cL i),.str nm,.ref a1,.ref a2,.ref a3])->i<=10->H d=some (.dK kvs)->nameB nm=true->nm.length<=100->b8 kvs (Sum.inr nm)=none->yx K H a1 ns->yx K H a2 is->yx K H a3 os->ns.length=cN i->is.length=cI i->os.length=cO i->((∀v∈ns,Val v))->(∀H' p,aK H H'->H p=none->fJ K t H' p i (.str nm) ns is os->Q (.ref p) H')->wK K t vs H Q E
theorem Ey (T:Txt w K mg t):FO P w K mg base 5 t.yF ["row", "known"] (wK K t):=by
 have sc:=T.sy.sc ["row", "known"]
 refine T.sy.F.ok sc ln (fun _ _ _ _ H vs Q E hr h=>?_)
 obtain⟨i,nm,r,d,a1,a2,a3,ns,is,os,kvs,rfl,hr1,hi,hd,hz,hl,hv,q1,q2,q3,l1,l2,l3,hV,k⟩:=h
 refine⟨_,(az (bR (jO (jj (d8 (Cd T) T.vY hr (aa (aO cM (pv 0) aq (fun _ _=>rfl)) ak aF))))
   (aA dY)
   aY)
  (az (bM (d8 (xx T) T.oG hr (aa (aO cM (pv 0) aq (fun _ _=>rfl)) (aa (pv 1) ak aj) aF)))
  (aA (aN (d8 (HR T) T.Ay hr (aa (aO cM (pv 0) aq (fun _ _=>rfl)) (aa (aO cM (pv 0) aq (fun _ _=>rfl)) (aa (aO cM (pv 0) aq (fun _ _=>rfl)) (aa (aO cM (pv 0) aq (fun _ _=>rfl)) (aa (aO cM (pv 0) aq (fun _ _=>rfl)) ak aF) aF) aF) aF) aF)))))),?_⟩
 refine⟨_,rfl,r,_,0,_,rfl,rfl,eN.of hr1,aM (j:=0) rfl,cL i,rfl,?_⟩
 rw [row_of]
 refine⟨_,rfl,dw ?_⟩
 refine⟨_,rfl,r,_,1,_,rfl,rfl,eN.of hr1,aM (j:=1) rfl,_,rfl,nm,d,kvs,rfl,hd,hz,hl,hv,fun H1 s1=>?_⟩
 have e1:=eN.of (K:=K) (s1 _ _ hr1)
 exact⟨_,rfl,r,_,0,_,rfl,rfl,e1,aM (j:=0) rfl,_,rfl,r,_,1,_,rfl,rfl,e1,aM (j:=1) rfl,_,rfl,r,_,2,_,rfl,rfl,e1,aM (j:=2) rfl,_,rfl,r,_,3,_,rfl,rfl,e1,aM (j:=3) rfl,_,rfl,r,_,4,_,rfl,rfl,e1,aM (j:=4) rfl,i,.str nm,a1,a2,a3,ns,is,os,rfl,hi,s1.seqA q1,s1.seqA q2,s1.seqA q3,l1,l2,l3,hV,fun H2 p s2 np P=>k _ p (s1.trans s2) (s1.free np) P⟩
inductive zb (K:PySem.W.Frag) (vs:List V) (H:Hp) (Q:VK) (E:XK):Prop where
 | mk:∀(y:Str) (a rd d:Addr) (zs:List Str) (rk kvs:List (Key×V)),vs=[.str y,.ref a,.ref rd,.ref d]->eN K H a (zs.map V.str)->H rd=some (.dK rk)->rd≠d->H d=some (.dK kvs)->zs.Nodup->((∀z∈zs,(b8 rk (Sum.inr z)).isSome=true/\b8 kvs (Sum.inr z)=none))->kvs.length+zs.length<=1000->(Q .non (upd H d (.dK (kvs ++ zs.map fun l=>((Sum.inr l:Key),V.str y)))))->zb K vs H Q E
theorem yN (T:Txt w K mg t):FO P w K mg base 1 t.Ab ["part", "lanes", "rooms", "ends"] (zb K):=by
 have sc:=T.qe.sc ["part", "lanes", "rooms", "ends", "lane"]
 refine T.qe.F.ok sc ln (fun _ _ _ _ H vs Q E hr h=>?_)
 obtain⟨y,a,rd,d,zs,rk,kvs,rfl,hT,hrd,hne,hd,nd,hz,hlen,k⟩:=h
 refine⟨_,(aA (dg PassesOwn.never rfl (GJ (pv 1)) (gN sc 4)
   (az (bR (PW.pt (wM (gj (vJ hr.u1 (pv 4) (pv 2))) (qK (gj (zF hr.u1 (pv 4) (pv 3))))))
    (aA dY)
    aY)
   (aA (eX hr.u1 (pv 3) (pv 4) (pv 0) rfl))))),?_⟩
 have hl:sizeLine=16777216:=sizeLine_eq
 refine⟨_,rfl,a,rfl,⟨_,hT⟩,Tv (K:=K) (a:=a) (xs:=zs.map V.str) (fun j σ H'=>H'=upd H d (.dK (kvs ++ (zs.take j).map fun l=>((Sum.inr l:Key),V.str y)))/\∃v4,σ=[some (.str y),some (.ref a),some (.ref rd),some (.ref d),v4]) ⟨by rw [List.take_zero,List.map_nil,List.append_nil,Jb hd],none,rfl⟩ (fun j σ H' _ ⟨e,_⟩=>by rw [e];exact fU hd hT) ?_ ?_⟩
 ·rintro j x σ H' hx ⟨rfl,v4,rfl⟩
  rw [List.getElem?_map] at hx
  obtain⟨z,hzj,rfl⟩:=Option.map_eq_some_iff.mp hx
  have hj:j <zs.length:=(List.getElem?_eq_some_iff.mp hzj).1
  obtain⟨r1,r2⟩:=hz z (List.mem_of_getElem? hzj)
  obtain⟨rv,hrv⟩:=Option.isSome_iff_exists.mp r1
  have erd:upd H d (.dK (kvs ++ (zs.take j).map fun l=>((Sum.inr l:Key),V.str y))) rd=some (.dK rk):=by rw [aH hne];exact hrd
  have nin:z∉zs.take j:=fun hm=>by
   obtain⟨i,hi,ei⟩:=List.mem_iff_getElem.mp hm
   rw [List.length_take] at hi
   rw [List.getElem_take] at ei
   have e2:zs[j]=z:=by rw [List.getElem?_eq_getElem hj] at hzj;exact Option.some.inj hzj
   have:=(List.getElem_inj nd).mp (ei.trans e2.symm)
   omega
  have none':b8 (kvs ++ (zs.take j).map fun l=>((Sum.inr l:Key),V.str y)) (Sum.inr z)=none:=fB (by
   rw [List.map_append,List.mem_append,not_or]
   refine⟨fun hm=>?_,fun hm=>?_⟩
   ·have:(b8 kvs (Sum.inr z)).isSome=true:=by rw [<-rU];obtain⟨p,hp,e⟩:=List.mem_map.mp hm;exact List.any_eq_true.mpr ⟨p,hp,decide_eq_true e⟩
    rw [r2] at this
    cases this
   ·rw [List.map_map] at hm
    obtain⟨b,hb,e⟩:=List.mem_map.mp hm
    cases e
    exact nin hb)
  refine⟨_,rfl,_,rfl,rd,some rv,rfl,(by rw [<-hrv];exact eY.k (k:=Sum.inr z) erd),_,rfl,dw ?_⟩
  refine⟨_,rfl,_,rfl,d,none,rfl,(by rw [<-none'];exact eY.k (k:=Sum.inr z) au),_,rfl,dw ?_⟩
  refine⟨_,rfl,_,rfl,_,rfl,d,_,rfl,km.k (k:=Sum.inr z) au (by rw [lP,lM,List.length_take];omega),?_,_,rfl⟩
  rw [sX,fX _ none',List.append_assoc,List.take_succ,hzj,Option.toList_some,List.map_append]
  rfl
 ·rintro σ H' ⟨rfl,v4,rfl⟩
  rw [lM,List.take_length]
  exact k
inductive yP (K:PySem.W.Frag) (vs:List V) (H:Hp) (Q:VK) (E:XK):Prop where
 | mk:∀(r g d:Addr) (rk gk tk:List (Key×V)),vs=[.ref r,.ref g,.ref d]->H r=some (.dK rk)->H g=some (.dK gk)->H d=some (.dK tk)->r≠g->r≠d->((∀q∈rk,(b8 gk q.1).isSome=true/\(b8 tk q.1).isSome=true))->Q .non H->yP K vs H Q E
theorem Hj (T:Txt w K mg t):FO P w K mg base 1 t.Ao ["rooms", "givers", "takers"] (yP K):=by
 have sc:=T.uD.sc ["rooms", "givers", "takers", "lane"]
 refine T.uD.F.ok sc ln (fun _ _ _ _ H vs Q E hr h=>?_)
 obtain⟨r,g,d,rk,gk,tk,rfl,h1,h2,h3,n1,n2,hA,k⟩:=h
 refine⟨_,(aA (pH (H0:=H) rfl (dg PassesOwn.never rfl (qb (pv 0)) (gN sc 3)
   (aA (bR (PW.pt (wM (gj (vJ hr.u1 (pv 3) (pv 1))) (qK (gj (vJ hr.u1 (pv 3) (pv 2))))))
    (aA dY)
    aY))))),?_⟩
 refine⟨_,rfl,r,_,rfl,h1,fun o=>pQ (fun j σ H'=>H'=upd H r (.frz o (.dK rk))/\∃v3,σ=[some (.ref r),some (.ref g),some (.ref d),v3]) ⟨rfl,none,rfl⟩ (fun j σ H' _ ⟨e,_⟩=>by rw [e];exact au) ?_ ?_⟩
 ·rintro j kk w σ H' hj ⟨rfl,v3,rfl⟩
  obtain⟨a1,a2⟩:=hA _ (List.mem_of_getElem? hj)
  obtain⟨u1,b1⟩:=Option.isSome_iff_exists.mp a1
  obtain⟨u2,b2⟩:=Option.isSome_iff_exists.mp a2
  have e2:upd H r (.frz o (.dK rk)) g=some (.dK gk):=by rw [aH (Ne.symm n1)];exact h2
  have e3:upd H r (.frz o (.dK rk)) d=some (.dK tk):=by rw [aH (Ne.symm n2)];exact h3
  exact⟨_,rfl,_,rfl,g,some u1,rfl,(by rw [<-b1];exact eY.k e2),_,rfl,dw ⟨_,rfl,_,rfl,d,some u2,rfl,(by rw [<-b2];exact eY.k e3),_,rfl,dw ⟨rfl,_,rfl⟩⟩⟩
 ·rintro σ H' ⟨rfl,v3,rfl⟩
  refine⟨_,⟨r,o,_,au,?_,rfl⟩,?_⟩
  ·intro o' u' z
   rw [show H r=_ from h1] at z
   cases z
  ·rw [sX,Jb h1]
   exact k
noncomputable def Rq (H:Hp) (J:Addr):List (Key×V):=match H J with
 | some (.dK jk)=>jk
 | _=>[]
theorem Ng {H:Hp} {J:Addr} {jk:List (Key×V)} (h:H J=some (.dK jk)):Rq H J=jk:=by
 unfold Rq
 rw [h]
theorem QZ {f:PD->List Str} {ps:List PD} {j:Nat} {k:Key} {v:V} (h:(cQ f ps)[j]?=some (k,v)):∃p∈ps,∃l∈f p,k=Sum.inr l/\v=.str p.name:=by
 have:=List.mem_of_getElem? h
 unfold cQ at this
 obtain⟨p,hp,hm⟩:=List.mem_flatMap.mp this
 obtain⟨l,hl,e⟩:=List.mem_map.mp hm
 cases e
 exact⟨p,hp,l,hl,rfl,rfl⟩
noncomputable def Rh (ps:List PD) (jk:List (Key×V)) (j:Nat):Prop:=∀i k v,i <j->(cQ (·.outs) ps)[i]?=some (k,v)->∀a∈ps,∀b∈ps,∀l,k=Sum.inr l->l∈a.outs->l∈b.ins->gA jk a.name=gA jk b.name
theorem Rh.all {ps:List PD} {jk:List (Key×V)} (h:Rh ps jk (cQ (·.outs) ps).length):∀a∈ps,∀b∈ps,∀l,l∈a.outs->l∈b.ins->gA jk a.name=gA jk b.name:=fun a ha b hb l la lb=>by
 have hm:((Sum.inr l:Key),V.str a.name)∈cQ (·.outs) ps:=List.mem_flatMap.mpr ⟨a,ha,List.mem_map.mpr ⟨l,la,rfl⟩⟩
 obtain⟨i,hi,ei⟩:=List.mem_iff_getElem.mp hm
 exact h i _ _ hi (by rw [List.getElem?_eq_getElem hi,ei]) a ha b hb l rfl la lb
inductive uP (K:PySem.W.Frag) (vs:List V) (H:Hp) (Q:VK) (E:XK):Prop where
 | mk:∀(p0:PD) (g d:Addr) (ps:List PD),vs=[.str p0.name,.ref g,.ref d]->p0∈ps->ps.length<=16->H g=some (.dK (cQ (·.outs) ps))->H d=some (.dK (cQ (·.ins) ps))->g≠d->(ps.flatMap (·.outs)).Nodup->(ps.flatMap (·.ins)).Nodup->(ps.flatMap (·.outs)).Perm (ps.flatMap (·.ins))->((∃y,∀q∈ps,∃x∈q.ins ++ q.outs,Drawn.jo ps x y))->(∀H' J jk,aK H H'->H' J=some (.dK jk)->(∀p∈ps,gA jk p.name=true)->Q (.ref J) H')->uP K vs H Q E
theorem DK (T:Txt w K mg t):FO P w K mg base 1 t.wY ["part", "givers", "takers"] (uP K):=by
 have sc:=T.qI.sc ["part", "givers", "takers", "joined", "grown", "lane"]
 refine T.qI.F.ok sc ln (fun _ _ _ _ H vs Q E hr h=>?_)
 obtain⟨p0,g,d,ps,rfl,hp0,hps,h1,h2,n1,no,ni,pm,hang,k⟩:=h
 refine⟨_,(az (sN sc 3 (Mz (Jo (pv 0) j0 MJ) rfl rfl (by simp) (by decide)))
  (az (sN sc 4 j0)
  (az (JG PassesOwn.never (jj (pv 4))
   (az (sN sc 4 j0)
   (aA (pH (H0:=H) rfl (dg PassesOwn.never rfl (qb (pv 1)) (gN sc 5)
    (aA (fL (bR (aW JQ (Ed (zF hr.u1 (bH hr.u1 (pv 1) (pv 5) (fun _ _=>rfl)) (pv 3))) (Ed (zF hr.u1 (bH hr.u1 (pv 2) (pv 5) (fun _ _=>rfl)) (pv 3))) (bI _))
     (az (eX hr.u1 (pv 3) (bH hr.u1 (pv 1) (pv 5) (fun _ _=>rfl)) j0 rfl)
     (az (eX hr.u1 (pv 3) (bH hr.u1 (pv 2) (pv 5) (fun _ _=>rfl)) j0 rfl)
     (aA (sN sc 4 j0))))
     aY))))))))
  (aA (aN (pv 3)))))),?_⟩
 have hl:sizeLine=16777216:=sizeLine_eq
 refine fun J nJ=>⟨_,rfl,au,[((Sum.inr p0.name:Key),V.bl true)],rfl,by show 1<=15;decide,?_⟩
 rw [sX]
 have s0:aK H (upd H J (.dK (qN [] [((Sum.inr p0.name:Key),V.bl true)]))):=aB nJ
 have e0:(upd H J (.dK (qN [] [((Sum.inr p0.name:Key),V.bl true)]))) J=some (.dK [((Sum.inr p0.name:Key),V.bl true)]):=au
 generalize upd H J (.dK (qN [] [((Sum.inr p0.name:Key),V.bl true)]))=H0 at s0 e0 ⊢
 have ngJ:J≠g:=Ne.symm (aD h1 nJ)
 have ndJ:J≠d:=Ne.symm (aD h2 nJ)
 have melt:∀{H':Hp} {o:Obj},lO g H H'->H' g=some (.frz o (.dK (cQ (·.outs) ps)))->aK H (upd H' g (.dK (cQ (·.outs) ps))):=fun hb hg b u e=>by
  by_cases h:b=g
  ·subst h;rw [au];rw [h1] at e;exact e
  ·rw [aH h];exact hb b u h e
 have m0:pL ps [((Sum.inr p0.name:Key),V.bl true)]<=16:=Nat.le_trans (List.length_filter_le _ _) hps
 refine J4 (fun σ H'=>aK H H'/\∃b v5 jk,σ=[some (.str p0.name),some (.ref g),some (.ref d),some (.ref J),some (.bl b),v5]/\H' J=some (.dK jk)/\gA jk p0.name=true/\jk.length+2 * pL ps jk<=40/\(b=false->Rh ps jk (cQ (·.outs) ps).length))
  (fun σ H'=>match σ with | [_,_,_,_,some (.bl b),_]=>(if b then 1 else 0)+2 * pL ps (Rq H' J) | _=>0) ⟨s0,true,none,_,rfl,e0,by simp [gA,b8],by rw [List.length_singleton];omega,by intro z;cases z⟩ ?_ ?_
 ·rintro σ H1 ⟨s1,b,v5,jk,rfl,hJ,hp,hlen,hev⟩
  cases b with
  | false=>exact⟨_,rfl,_,rfl,dw ⟨_,rfl,k _ J jk s1 hJ (Vu no ni pm hang (hev rfl).all hp0 hp)⟩⟩
  | true=>
   refine⟨_,rfl,_,rfl,fY ?_⟩
   refine⟨_,rfl,g,_,rfl,s1 _ _ h1,fun o=>?_⟩
   have gD:∀{H':Hp},lO g H H'->H' d=some (.dK (cQ (·.ins) ps)):=fun hb=>hb d _ (Ne.symm n1) h2
   refine pQ (fun j σ H'=>lO g H H'/\H' g=some (.frz o (.dK (cQ (·.outs) ps)))/\∃b v5 jk',σ=[some (.str p0.name),some (.ref g),some (.ref d),some (.ref J),some (.bl b),v5]/\H' J=some (.dK jk')/\gA jk' p0.name=true/\jk'.length+2 * pL ps jk'<=40/\((b=false/\jk'=jk/\Rh ps jk j)∨(b=true/\pL ps jk' <pL ps jk)))
    ⟨fun b u hn e=>by rw [aH hn];exact s1 b u e,au,false,v5,jk,rfl,by rw [aH ngJ];exact hJ,hp,hlen,.inl ⟨rfl,rfl,fun i _ _ hi=>absurd hi (by omega)⟩⟩ (fun j σ H' _ h=>h.2.1) ?_ ?_
   ·rintro j kk w σ H' hj ⟨hb,hg,b,v5,jk',rfl,hJ',hp',hlen',hv⟩
    obtain⟨a,ha,l,la,rfl,rfl⟩:=QZ hj
    obtain⟨b',hb',lb⟩:=List.mem_flatMap.mp (pm.mem_iff.mp (List.mem_flatMap.mpr ⟨a,ha,la⟩))
    have ga:eY H' g (.str l) (some (.str a.name)):=.inl ⟨_,Sum.inr l,.inr ⟨o,hg⟩,rfl,(je no ha la).symm⟩
    have gb:eY H' d (.str l) (some (.str b'.name)):=by rw [<-je ni hb' lb];exact eY.k (k:=Sum.inr l) (gD hb)
    have ja:eY H' J (.str a.name) (b8 jk' (Sum.inr a.name)):=eY.k (k:=Sum.inr a.name) hJ'
    have jb:eY H' J (.str b'.name) (b8 jk' (Sum.inr b'.name)):=eY.k (k:=Sum.inr b'.name) hJ'
    have nm:∀a2∈ps,∀b2∈ps,l∈a2.outs->l∈b2.ins->a2.name=a.name/\b2.name=b'.name:=fun a2 ha2 b2 hb2 q1 q2=>by
     have e1:=je no ha2 q1
     rw [je no ha la] at e1
     have e2:=je ni hb2 q2
     rw [je ni hb' lb] at e2
     simp only [Option.some.injEq,V.str.injEq] at e1 e2
     exact⟨e1.symm,e2.symm⟩
    refine⟨fun σ H''=>lO g H H''/\H'' g=some (.frz o (.dK (cQ (·.outs) ps)))/\∃b jk'',σ=[some (.str p0.name),some (.ref g),some (.ref d),some (.ref J),some (.bl b),some (.str l)]/\H'' J=some (.dK jk'')/\gA jk'' p0.name=true/\jk''.length+2 * pL ps jk''<=40/\((b=false/\jk''=jk/\Rh ps jk (j+1))∨(b=true/\pL ps jk'' <pL ps jk)),?_,?_⟩
    ·refine⟨_,rfl,_,rfl,g,_,rfl,ga,_,rfl,J,_,rfl,ja,?_⟩
     refine⟨_,rfl,_,rfl,d,_,rfl,gb,_,rfl,J,_,rfl,jb,rfl,_,rfl,?_⟩
     change if (!decide (V.bl (gA jk' a.name)=V.bl (gA jk' b'.name)))=true then _ else _
     refine jB (fun hne=>?_) (fun heq=>?_)
     ·have hne':gA jk' a.name≠gA jk' b'.name:=fun z=>by rw [z] at hne;simp at hne
      refine⟨_,rfl,_,rfl,_,rfl,g,_,rfl,ga,J,_,rfl,km.k (k:=Sum.inr a.name) hJ' (by omega),?_⟩
      have b2:lO g H (upd H' J (.dK (putK jk' (Sum.inr a.name) (.bl true)))):=fun x u hn e=>by rw [aH (aD e nJ)];exact hb x u hn e
      have g2:(upd H' J (.dK (putK jk' (Sum.inr a.name) (.bl true)))) g=some (.frz o (.dK (cQ (·.outs) ps))):=by rw [aH (Ne.symm ngJ)];exact hg
      have gb2:eY (upd H' J (.dK (putK jk' (Sum.inr a.name) (.bl true)))) d (.str l) (some (.str b'.name)):=by rw [<-je ni hb' lb];exact eY.k (k:=Sum.inr l) (gD b2)
      have len1:=mX jk' (Sum.inr a.name:Key) (.bl true)
      have len2:=mX (putK jk' (Sum.inr a.name) (.bl true)) (Sum.inr b'.name:Key) (.bl true)
      refine⟨_,rfl,_,rfl,_,rfl,d,_,rfl,gb2,J,_,rfl,km.k (k:=Sum.inr b'.name) au (by omega),?_⟩
      rw [sX]
      have has2:∀x,gA (putK (putK jk' (Sum.inr a.name) (.bl true)) (Sum.inr b'.name) (.bl true)) x=(decide (x=b'.name) || (decide (x=a.name) || gA jk' x)):=fun x=>by rw [JP,JP]
      have mono:∀x,gA jk' x=true->gA (putK (putK jk' (Sum.inr a.name) (.bl true)) (Sum.inr b'.name) (.bl true)) x=true:=fun x hx=>by rw [has2,hx];simp
      have lt:pL ps (putK (putK jk' (Sum.inr a.name) (.bl true)) (Sum.inr b'.name) (.bl true)) <pL ps jk':=by
       cases hA:gA jk' a.name
       ·exact JV mono ha hA (by rw [has2];simp)
       ·cases hB:gA jk' b'.name
        ·exact JV mono hb' hB (by rw [has2];simp)
        ·rw [hA,hB] at hne';exact absurd rfl hne'
      refine⟨fun x u hn e=>by rw [aH (aD e nJ)];exact hb x u hn e,by rw [aH (Ne.symm ngJ)];exact hg,true,_,rfl,au,mono _ hp',by omega,.inr ⟨rfl,?_⟩⟩
      rcases hv with ⟨_,rfl,_⟩ | ⟨_,hv⟩
      ·exact lt
      ·omega
     ·have heq':gA jk' a.name=gA jk' b'.name:=by
       cases hA:gA jk' a.name <;> cases hB:gA jk' b'.name <;> rw [hA,hB] at heq <;> simp_all
      refine⟨hb,hg,b,jk',rfl,hJ',hp',hlen',?_⟩
      rcases hv with ⟨rfl,rfl,hE⟩ | hv
      ·refine .inl ⟨rfl,rfl,fun i k2 v2 hi e2 a2 ha2 b2 hb2 l2 ek q1 q2=>?_⟩
       rcases Nat.lt_or_ge i j with h | h
       ·exact hE i k2 v2 h e2 a2 ha2 b2 hb2 l2 ek q1 q2
       ·have:i=j:=by omega
        subst this
        rw [hj] at e2
        cases e2
        cases ek
        obtain⟨x1,x2⟩:=nm a2 ha2 b2 hb2 q1 q2
        rw [x1,x2]
        exact heq'
      ·exact .inr hv
    ·rintro σ H'' ⟨hb,hg,b,jk'',rfl,r⟩
     exact⟨hb,hg,b,_,jk'',rfl,r⟩
   ·rintro σ H' ⟨hb,hg,b,v5',jk',rfl,hJ',hp',hlen',hv⟩
    refine⟨_,⟨g,o,_,hg,(fun o' u' z=>by rw [show H g=_ from h1] at z;cases z),rfl⟩,?_⟩
    have eJ:(upd H' g (.dK (cQ (·.outs) ps))) J=some (.dK jk'):=by rw [aH ngJ];exact hJ'
    refine⟨⟨melt hb hg,b,v5',jk',rfl,eJ,hp',hlen',fun z=>?_⟩,?_⟩
    ·rcases hv with ⟨_,rfl,hE⟩ | ⟨h,_⟩
     ·exact hE
     ·rw [h] at z;cases z
    ·show(if b=true then 1 else 0)+2 * pL ps (Rq _ J) <(if true=true then 1 else 0)+2 * pL ps (Rq _ J)
     rw [Ng eJ,Ng hJ]
     rcases hv with ⟨rfl,rfl,_⟩ | ⟨rfl,h⟩
     ·simp
     ·simp;omega
 ·intro σ H' Q' Q'' hm hq
  obtain⟨v,e,b,e2,q⟩:=hq
  exact⟨v,e,b,e2,hm _ _ q⟩
inductive uA (K:PySem.W.Frag) (vs:List V) (H:Hp) (Q:VK) (E:XK):Prop where
 | mk:∀(L g d:Addr) (ps:List PD),vs=[.ref L,.ref g,.ref d]->(bL K H L (ps.map fun p=>V.str p.name))->1<=ps.length->ps.length<=16->H g=some (.dK (cQ (·.outs) ps))->H d=some (.dK (cQ (·.ins) ps))->g≠d->(ps.flatMap (·.outs)).Nodup->(ps.flatMap (·.ins)).Nodup->(ps.flatMap (·.outs)).Perm (ps.flatMap (·.ins))->((∃y,∀q∈ps,∃x∈q.ins ++ q.outs,Drawn.jo ps x y))->(∀H',aK H H'->Q .non H')->uA K vs H Q E
theorem Cz (T:Txt w K mg t):FO P w K mg base 2 t.wU ["names", "givers", "takers"] (uA K):=by
 have sc:=T.qH.sc ["names", "givers", "takers", "joined", "name"]
 refine T.qH.F.ok sc ln (fun _ _ _ _ H vs Q E hr h=>?_)
 obtain⟨L,g,d,ps,rfl,hL,hp1,hps,h1,h2,n1,no,ni,pm,hang,k⟩:=h
 refine⟨_,(az (sN sc 3 (d8 (DK T) T.qI hr (aa (aO aQ (pv 0) aq (fun _ _=>rfl)) (aa (pv 1) (aa (pv 2) ak aj) aj) aF)))
  (aA (dg PassesOwn.never rfl (bW (pv 0)) (gN sc 4)
   (aA (bR (gj (vJ hr.u1 (pv 4) (pv 3)))
    (aA dY)
    aY))))),?_⟩
 obtain⟨p0,pr,rfl⟩:∃p0 pr,ps=p0:: pr:=by
  cases ps with
  | nil=>simp at hp1
  | cons a r=>exact⟨a,r,rfl⟩
 refine⟨_,rfl,L,_,0,_,rfl,rfl,hL,aM (j:=0) rfl,_,rfl,_,rfl,p0,g,d,_,rfl,List.mem_cons_self,hps,h1,h2,n1,no,ni,pm,hang,fun H1 J jk s1 eJ hA=>?_⟩
 refine⟨_,rfl,L,rfl,⟨_,s1.seq hL⟩,cY (K:=K) (a:=L) (xs:=(p0:: pr).map fun p=>V.str p.name) (fun j σ H'=>H'=H1/\∃v4,σ=[some (.ref L),some (.ref g),some (.ref d),some (.ref J),v4]) ⟨rfl,none,rfl⟩ (fun j σ H' _ ⟨e,_⟩=>by rw [e];exact s1.seq hL) ?_ ?_⟩
 ·rintro j x σ H' hx ⟨rfl,v4,rfl⟩
  rw [List.getElem?_map] at hx
  obtain⟨p,hp,rfl⟩:=Option.map_eq_some_iff.mp hx
  obtain⟨u,hu⟩:=Option.isSome_iff_exists.mp (hA p (List.mem_of_getElem? hp))
  exact⟨_,rfl,_,rfl,J,some u,rfl,(by rw [<-hu];exact eY.k (k:=Sum.inr p.name) eJ),_,rfl,dw ⟨rfl,_,rfl⟩⟩
 ·rintro σ H' ⟨rfl,v4,rfl⟩
  exact k _ s1
inductive qj (K:PySem.W.Frag) (t:jH) (vs:List V) (H:Hp) (Q:VK) (E:XK):Prop where
 | mk:∀(n:Addr) (ls:List aG) (ps:List PD),vs=[.ref n]->gW K t H n ls ps->(∀l,H l=none->Q (.ref l) (upd H l (.lst (ls.map fun x=>V.str x.name))))->qj K t vs H Q E
theorem qp (T:Txt w K mg t):FO P w K mg base 1 t.lB ["self"] (qj K t):=by
 have sc:=T.iV.sc ["self"]
 refine T.iV.F.ok sc ln (fun _ _ _ _ H vs Q E hr h=>?_)
 obtain⟨n,ls,ps,rfl,N,k⟩:=h
 refine⟨_,(aA (aN (dj (pC rfl) (by rfl) T.mY jx (aa (bB (pv 0) rfl) ak bN)))),?_⟩
 obtain⟨dx,fs,R,F,Pd,G,Tk,FL,PL,W⟩:=id N
 refine⟨_,rfl,n,_,dx,fs,_,rfl,W.obj,T.bz.c,T.bz.na.1,W.fl.has ("rooms",.ref R) (by simp),R,_,rfl,.inl W.rooms,fun l hl=>?_⟩
 unfold cz
 rw [List.map_map]
 exact k l hl
inductive pZ (K:PySem.W.Frag) (t:jH) (vs:List V) (H:Hp) (Q:VK) (E:XK):Prop where
 | mk:∀(n:Addr) (ls:List aG) (ps:List PD),vs=[.ref n]->gW K t H n ls ps->(∀l,H l=none->Q (.ref l) (upd H l (.lst (ps.map fun x=>V.str x.name))))->pZ K t vs H Q E
theorem j5 (T:Txt w K mg t):FO P w K mg base 1 t.lD ["self"] (pZ K t):=by
 have sc:=T.f9.sc ["self"]
 refine T.f9.F.ok sc ln (fun _ _ _ _ H vs Q E hr h=>?_)
 obtain⟨n,ls,ps,rfl,N,k⟩:=h
 refine⟨_,(aA (aN (dj (pC rfl) (by rfl) T.mY jx (aa (bB (pv 0) rfl) ak bN)))),?_⟩
 obtain⟨dx,fs,R,F,Pd,G,Tk,FL,PL,W⟩:=id N
 refine⟨_,rfl,n,_,dx,fs,_,rfl,W.obj,T.bz.c,T.bz.na.2.2.1,W.fl.has ("parts",.ref Pd) (by simp),Pd,_,rfl,.inl W.parts,fun l hl=>?_⟩
 unfold eG
 rw [List.map_map]
 have e:ps.map (fun x=>V.str x.name)=PL.map (fun q=>V.str q.1.name):=by rw [<-W.pls,List.map_map];rfl
 rw [e] at k
 exact k l hl
theorem Ud (T:Txt w K mg t) (i:Nat):MethAt P w K mg base Cr 1 (cls t i) "kind" (jc i):=match i with
 | 0=>⟨_,_,_,T.iI.c,(T.qz.me T.iI.me.2.1),T.qz.b,Im T⟩
 | 1=>⟨_,_,_,T.iH.c,(T.ql.me T.iH.me.2.1),T.ql.b,IW T⟩
 | 2=>⟨_,_,_,T.iT.c,(T.qg.me T.iT.me.2.1),T.qg.b,Iz T⟩
 | 3=>⟨_,_,_,T.iR.c,(T.pY.me T.iR.me.2.1),T.pY.b,Hf T⟩
 | 4=>⟨_,_,_,T.iC.c,(T.qC.me T.iC.me.2.1),T.qC.b,Ja T⟩
 | 5=>⟨_,_,_,T.iG.c,(T.qw.me T.iG.me.2.1),T.qw.b,Iv T⟩
 | 6=>⟨_,_,_,T.mV.c,(T.tR.me T.mV.me.2.1),T.tR.b,Ka T⟩
 | 7=>⟨_,_,_,T.iK.c,(T.qD.me T.iK.me.2.1),T.qD.b,GQ T⟩
 | 8=>⟨_,_,_,T.fO.c,(T.oM.me T.fO.me.2.1),T.oM.b,EY T⟩
 | 9=>⟨_,_,_,T.eE.c,(T.lV.me T.eE.me.2.1),T.lV.b,Dk T⟩
 | n+10=>⟨_,_,_,T.fP.c,(T.oH.me T.fP.me.2.1),T.oH.b,Es T⟩
inductive mW (K:PySem.W.Frag) (t:jH) (vs:List V) (H:Hp) (Q:VK) (E:XK):Prop where
 | mk:∀(n:Addr) (ls:List aG) (ps:List PD) (x:Str),vs=[.ref n,.str x]->gW K t H n ls ps->(∀p,H p=none->Q (.ref p) (upd H p (.lst (dX ps x))))->mW K t vs H Q E
theorem mG (T:Txt w K mg t):FO P w K mg base 2 t.jg ["self", "kind"] (mW K t):=by
 have sc:=T.fW.sc ["self", "kind"]
 refine T.fW.F.ok sc ln (fun _ _ _ _ H vs Q E hr h=>?_)
 obtain⟨n,ls,ps,x,rfl,N,k⟩:=h
 refine⟨_,(aA (aN (Tg (H0:=H) rfl (fM [0,1] ["self", "kind"] (aU (inClass (top 55) 5)) rfl (qb (bB (pv 0) rfl)) (fun _ _ _ _ _=>(sE (aW dW (KQ (P:=P) (w:=w) (K:=K) (mg:=mg) (base:=base) (CX:=Cr) (k:=1) (E:=E0) rfl rfl rfl rfl rfl (bH hr.u1 (HW (K:=K) rfl (pv 1) rfl) (pv 0) (fun _ _=>rfl)) (hr.mono (by decide)) ir) (pv 2) (bI _)))) (fun _ _ _ _ _=>(pv 0)))))),?_⟩
 obtain⟨dx,fs,R,F,Pd,G,Tk,FL,PL,W⟩:=id N
 have hz:sizeLine=16777216:=sizeLine_eq
 have hp:=W.fit.p16
 have h5:=W.parts
 have lpl:PL.length=ps.length:=by rw [<-W.pls,lM]
 refine⟨_,rfl,n,_,dx,fs,_,rfl,W.obj,T.bz.c,T.bz.na.2.2.1,W.fl.has ("parts",.ref Pd) (by simp),Pd,_,rfl,h5,fun o=>?_⟩
 refine Oz (fun j ys H'=>H'=upd H Pd (.frz o (.dK (eG PL)))/\ys=dX ((PL.take j).map (·.1)) x) (by unfold eG;rw [lM];omega) ⟨rfl,by simp [dX]⟩ ?_ ?_ ?_ ?_
 ·rintro j ys H' ⟨_,rfl⟩
  have:=rG ((PL.take j).map (·.1)) x
  rw [lM,List.length_take] at this
  omega
 ·rintro j ys H' _ ⟨rfl,_⟩
  exact au
 ·rintro j kk v ys H' hj ⟨rfl,rfl⟩
  unfold eG at hj
  rw [List.getElem?_map] at hj
  obtain⟨q,hq,e⟩:=Option.map_eq_some_iff.mp hj
  cases e
  have hm:=List.mem_of_getElem? hq
  obtain⟨dxp,tn,ti,to,p1,p2,p3,p4⟩:=((W.pats q hm).chill (v:=.frz o (.dK (eG PL))) h5).ex
  refine⟨_,rfl,n,_,dx,fs,_,rfl,jC h5 W.obj (by intro _ z;cases z),T.bz.c,T.bz.na.2.2.1,W.fl.has ("parts",.ref Pd) (by simp),_,rfl,Pd,_,rfl,(by rw [<-W.partV hm];exact .inl ⟨_,Sum.inr q.1.name,.inr ⟨o,au⟩,rfl,rfl⟩),?_⟩
  refine⟨q.2,cls t q.1.kind,dxp,_,jc q.1.kind,rfl,p1,vZ _ _ _ _ (by decide +kernel) (by decide +kernel) (by decide +kernel) (by decide +kernel),Ud T q.1.kind,_,rfl,_,rfl,rfl,_,rfl,?_⟩
  rw [List.take_succ,hq,Option.toList_some,List.map_append,List.map_singleton,Gg]
  refine jB (fun e=>?_) (fun e=>?_)
  ·have e':cL q.1.kind=x:=by simpa using e
   rw [if_pos e']
   exact⟨_,rfl,rfl,rfl⟩
  ·have e':¬cL q.1.kind=x:=by simpa using e
   rw [if_neg e']
   exact⟨rfl,rfl⟩
 ·rintro ys H' ⟨rfl,rfl⟩ D hD
  refine⟨_,⟨Pd,o,eG PL,?_,?_,rfl⟩,?_⟩
  ·rw [aH (by rintro rfl;rw [au] at hD;cases hD)]
   exact au
  ·intro o' u z
   rw [show H Pd=_ from h5] at z
   cases z
  ·rw [NP h5 hD]
   have:=k D (K4 hD)
   rw [show(eG PL).length=PL.length by unfold eG;rw [lM],List.take_length,W.pls]
   exact this
inductive ym (K:PySem.W.Frag) (t:jH) (vs:List V) (H:Hp) (Q:VK) (E:XK):Prop where
 | mk:∀(n:Addr) (ls:List aG) (ps:List PD),vs=[.ref n]->gW K t H n ls ps->(∀p,H p=none->Q (.ref p) (upd H p (.lst (dX ps "give"))))->ym K t vs H Q E
theorem sW (T:Txt w K mg t):FO P w K mg base 3 t.ug ["self"] (ym K t):=by
 have sc:=T.mQ.sc ["self"]
 refine T.mQ.F.ok sc ln (fun _ _ _ _ H vs Q E hr h=>?_)
 obtain⟨n,ls,ps,rfl,N,k⟩:=h
 refine⟨_,(aA (aN (zz (pv 0) T.bz T.bz.me.2.2.2.1 (mG T) T.fW hr (aa bh ak ao)))),?_⟩
 obtain⟨dx,fs,R,F,Pd,G,Tk,FL,PL,W⟩:=id N
 exact⟨_,rfl,n,dx,fs,rfl,W.obj,W.fl.no _ (by decide +kernel),n,ls,ps,_,rfl,N,k⟩
inductive yU (K:PySem.W.Frag) (t:jH) (vs:List V) (H:Hp) (Q:VK) (E:XK):Prop where
 | mk:∀(n:Addr) (ls:List aG) (ps:List PD),vs=[.ref n]->gW K t H n ls ps->(∀p,H p=none->Q (.ref p) (upd H p (.lst (dX ps "take"))))->yU K t vs H Q E
theorem Ij (T:Txt w K mg t):FO P w K mg base 3 t.uI ["self"] (yU K t):=by
 have sc:=T.uO.sc ["self"]
 refine T.uO.F.ok sc ln (fun _ _ _ _ H vs Q E hr h=>?_)
 obtain⟨n,ls,ps,rfl,N,k⟩:=h
 refine⟨_,(aA (aN (zz (pv 0) T.bz T.bz.me.2.2.2.1 (mG T) T.fW hr (aa bh ak ao)))),?_⟩
 obtain⟨dx,fs,R,F,Pd,G,Tk,FL,PL,W⟩:=id N
 exact⟨_,rfl,n,dx,fs,rfl,W.obj,W.fl.no _ (by decide +kernel),n,ls,ps,_,rfl,N,k⟩
inductive kO (K:PySem.W.Frag) (t:jH) (vs:List V) (H:Hp) (Q:VK) (E:XK):Prop where
 | mk:∀(n:Addr) (ls:List aG) (ps:List PD) (x:Str),vs=[.ref n,.str x]->gW K t H n ls ps->(((x∈ls.map (·.name)/\∀H',aK H H'->Q .non H')∨False))->kO K t vs H Q E
theorem ie (T:Txt w K mg t):FO P w K mg base 2 t.iJ ["self", "name"] (kO K t):=by
 have sc:=T.d9.sc ["self", "name"]
 refine T.d9.F.ok sc ln (fun _ _ _ _ H vs Q E hr h=>?_)
 obtain⟨n,ls,ps,x,rfl,N,h⟩:=h
 refine⟨_,(aA (bR (aW jf (pv 1) (Sh (pv 0) T.bz T.bz.me.2.1 (qp T) T.iV hr) (by with_unfolding_all rfl))
   (aA dY)
   aY)),?_⟩
 obtain⟨dx,fs,R,F,Pd,G,Tk,FL,PL,W⟩:=id N
 refine⟨_,rfl,_,rfl,n,dx,fs,rfl,W.obj,W.fl.no _ (by decide +kernel),n,ls,ps,rfl,N,fun l hl=>?_⟩
 have s1:=aB (o:=.lst (ls.map fun x=>V.str x.name)) hl
 refine⟨l,_,rfl,.inl (bL.of au),rfl,by simp [kW],_,rfl,?_⟩
 rw [Jg (f:=fun x:aG=>x.name)]
 rcases h with ⟨hx,k⟩ | h
 ·rw [decide_eq_true hx]
  exact dw (k _ s1)
 ·exact h.elim
inductive vz (K:PySem.W.Frag) (t:jH) (vs:List V) (H:Hp) (Q:VK) (E:XK):Prop where
 | mk:∀(n:Addr) (ls:List aG) (ps:List PD) (x:Str),vs=[.ref n,.str x]->gW K t H n ls ps->(((∃l∈ls,l.name=x/\∀H',aK H H'->Q (.int l.room) H')∨False))->vz K t vs H Q E
theorem Ca (T:Txt w K mg t):FO P w K mg base 3 t.qG ["self", "name"] (vz K t):=by
 have sc:=T.qT.sc ["self", "name"]
 refine T.qT.F.ok sc ln (fun _ _ _ _ H vs Q E hr h=>?_)
 obtain⟨n,ls,ps,x,rfl,N,h⟩:=h
 refine⟨_,(az (bM (zz (pv 0) T.bz T.bz.me.2.2.2.2.2.2.1 (ie T) T.d9 hr (aa (pv 1) ak aj)))
  (aA (aN (bH hr.u1 (bB (pv 0) rfl) (pv 1) (fun _ _=>rfl))))),?_⟩
 obtain⟨dx,fs,R,F,Pd,G,Tk,FL,PL,W⟩:=id N
 refine⟨_,rfl,n,dx,fs,rfl,W.obj,W.fl.no _ (by decide +kernel),_,rfl,n,ls,ps,x,rfl,N,?_⟩
 rcases h with ⟨l,hl,rfl,k⟩ | h
 ·refine .inl ⟨List.mem_map.mpr ⟨l,hl,rfl⟩,fun H1 s1=>?_⟩
  have W1:=W.same s1
  have hv:=W1.room hl
  refine⟨_,rfl,n,_,dx,fs,_,rfl,W1.obj,T.bz.c,T.bz.na.1,W1.fl.has ("rooms",.ref R) (by simp),_,rfl,R,_,rfl,(by rw [<-hv];exact eY.k (k:=Sum.inr l.name) W1.rooms),?_⟩
  exact k _ s1
 ·exact .inr h
inductive ud (K:PySem.W.Frag) (t:jH) (vs:List V) (H:Hp) (Q:VK) (E:XK):Prop where
 | mk:∀(n:Addr) (ls:List aG) (ps:List PD) (x:Str),vs=[.ref n,.str x]->gW K t H n ls ps->(((∃l∈ls,l.name=x/\∀H' p,aK H H'->H p=none->H' p=some (.lst (l.first.map V.int))->Q (.ref p) H')∨False))->ud K t vs H Q E
theorem Bt (T:Txt w K mg t):FO P w K mg base 3 t.o8 ["self", "name"] (ud K t):=by
 have sc:=T.pP.sc ["self", "name"]
 refine T.pP.F.ok sc ln (fun _ _ _ _ H vs Q E hr h=>?_)
 obtain⟨n,ls,ps,x,rfl,N,h⟩:=h
 refine⟨_,(az (bM (zz (pv 0) T.bz T.bz.me.2.2.2.2.2.2.1 (ie T) T.d9 hr (aa (pv 1) ak aj)))
  (aA (aN (dj jM (by rfl) T.mY jx (aa (bH hr.u1 (bB (pv 0) rfl) (pv 1) (fun _ _=>rfl)) ak aF))))),?_⟩
 obtain⟨dx,fs,R,F,Pd,G,Tk,FL,PL,W⟩:=id N
 refine⟨_,rfl,n,dx,fs,rfl,W.obj,W.fl.no _ (by decide +kernel),_,rfl,n,ls,ps,x,rfl,N,?_⟩
 rcases h with ⟨l,hl,rfl,k⟩ | h
 ·refine .inl ⟨List.mem_map.mpr ⟨l,hl,rfl⟩,fun H1 s1=>?_⟩
  have W1:=W.same s1
  obtain⟨q,hq,eq⟩:∃q∈FL,q.1=l:=by
   rw [<-W.fls] at hl
   obtain⟨q,hq,e⟩:=List.mem_map.mp hl
   exact⟨q,hq,e⟩
  subst eq
  have hv:=W1.firstV hq
  refine⟨_,rfl,n,_,dx,fs,_,rfl,W1.obj,T.bz.c,T.bz.na.2.1,W1.fl.has ("firsts",.ref F) (by simp),_,rfl,F,_,rfl,(by rw [<-hv];exact eY.k (k:=Sum.inr q.1.name) W1.firsts),?_⟩
  exact⟨q.2,_,rfl,.inr (W1.tups q hq),fun p hp=>k _ p (s1.trans (aB hp)) (s1.free hp) au⟩
 ·exact .inr h
inductive uZ (K:PySem.W.Frag) (t:jH) (vs:List V) (H:Hp) (Q:VK) (E:XK):Prop where
 | mk:∀(n:Addr) (ls:List aG) (ps:List PD) (x:Str),vs=[.ref n,.str x]->gW K t H n ls ps->(((∃p∈ps,p.name=x/\∀H' q,aK H H'->fJ K t H' q p.kind (.str p.name) (p.nums.map V.int) (p.ins.map V.str) (p.outs.map V.str)->Q (.ref q) H')∨False))->uZ K t vs H Q E
theorem jN (T:Txt w K mg t):FO P w K mg base 2 t.qJ ["self", "name"] (uZ K t):=by
 have sc:=T.gY.sc ["self", "name"]
 refine T.gY.F.ok sc ln (fun _ _ _ _ H vs Q E hr h=>?_)
 obtain⟨n,ls,ps,x,rfl,N,h⟩:=h
 refine⟨_,(az (bR (aW jf (pv 1) (Sh (pv 0) T.bz T.bz.me.2.2.1 (j5 T) T.f9 hr) (by with_unfolding_all rfl))
   (aA dY)
   aY)
  (aA (aN (bH hr.u1 (bB (pv 0) rfl) (pv 1) (fun _ _=>rfl))))),?_⟩
 obtain⟨dx,fs,R,F,Pd,G,Tk,FL,PL,W⟩:=id N
 refine⟨_,rfl,_,rfl,n,dx,fs,rfl,W.obj,W.fl.no _ (by decide +kernel),n,ls,ps,rfl,N,fun l hl=>?_⟩
 have s1:=aB (o:=.lst (ps.map fun x=>V.str x.name)) hl
 refine⟨l,_,rfl,.inl (bL.of au),rfl,by simp [kW],_,rfl,?_⟩
 rw [Jg (f:=fun x:PD=>x.name)]
 rcases h with ⟨p,hp,rfl,k⟩ | h
 ·rw [decide_eq_true (List.mem_map.mpr ⟨p,hp,rfl⟩)]
  refine dw ?_
  obtain⟨q,hq,eq⟩:∃q∈PL,q.1=p:=by
   rw [<-W.pls] at hp
   obtain⟨q,hq,e⟩:=List.mem_map.mp hp
   exact⟨q,hq,e⟩
  subst eq
  have W1:=W.same s1
  have hv:=W1.partV hq
  exact⟨_,rfl,n,_,dx,fs,_,rfl,W1.obj,T.bz.c,T.bz.na.2.2.1,W1.fl.has ("parts",.ref Pd) (by simp),_,rfl,Pd,_,rfl,(by rw [<-hv];exact eY.k (k:=Sum.inr q.1.name) W1.parts),k _ q.2 s1 (W1.pats q hq)⟩
 ·exact h.elim
inductive tV (K:PySem.W.Frag) (t:jH) (vs:List V) (H:Hp) (Q:VK) (E:XK):Prop where
 | mk:∀(n dx Ll Lp:Addr) (ls:List aG) (ps:List PD),vs=[.ref n,.ref Ll,.ref Lp]->H n=some (.ins t.dO dx [])->Hand K H Ll Lp ls ps->Ai ls ps->(∀H',lO n H H'->Ph K t H H' n ls ps->Q .non H')->tV K t vs H Q E
theorem Bu (T:Txt w K mg t):FO P w K mg base 6 t.pq ["self", "lanes", "parts"] (tV K t):=by
 have sc:=T.jV.sc ["self", "lanes", "parts", "lane", "row", "part"]
 refine T.jV.F.ok sc ln (fun _ _ _ _ H vs Q E hr h=>?_)
 obtain⟨n,dx,Ll,Lp,ls,ps,rfl,hn,hH,hF,k⟩:=h
 refine⟨_,(az (bM (d8 (CW T) T.qY hr (aa (pv 1) (aa (pv 2) ak aj) aj)))
  (az (ig (pv 0) gM rfl)
  (az (ig (pv 0) gM rfl)
  (az (dg PassesOwn.never rfl (bW (pv 1)) (gN sc 3)
   (az (bM (d8 (xx T) T.oG hr (aa (aO cM (pv 3) aq (fun _ _=>rfl)) (aa (bB (pv 0) rfl) ak bN) aF)))
   (az (bM (d8 (GP T) T.uf hr (aa (aO cM (pv 3) aq (fun _ _=>rfl)) (aa (aO cM (pv 3) aq (fun _ _=>rfl)) (aa (aO cM (pv 3) aq (fun _ _=>rfl)) ak aF) aF) aF)))
   (az (eX hr.u1 (bB (pv 0) rfl) (aO cM (pv 3) aq (fun _ _=>rfl)) (aO cM (pv 3) aq (fun _ _=>rfl)) rfl)
   (aA (eX hr.u1 (bB (pv 0) rfl) (aO cM (pv 3) aq (fun _ _=>rfl)) (dj wg (by rfl) T.BL yh (aa (aO cM (pv 3) aq (fun _ _=>rfl)) ak aF)) rfl))))))
  (az (ig (pv 0) gM rfl)
  (az (ig (pv 0) gM rfl)
  (az (ig (pv 0) gM rfl)
  (az (dg PassesOwn.never rfl (bW (pv 2)) (gN sc 4)
   (az (sN sc 5 (d8 (Ey T) T.sy hr (aa (pv 4) (aa (bB (pv 0) rfl) ak bN) aj)))
   (az (bM (d8 (yN T) T.qe hr (aa (bB (pv 5) rfl) (aa (bB (pv 5) rfl) (aa (bB (pv 0) rfl) (aa (bB (pv 0) rfl) ak bN) bN) bN) bN)))
   (az (bM (d8 (yN T) T.qe hr (aa (bB (pv 5) rfl) (aa (bB (pv 5) rfl) (aa (bB (pv 0) rfl) (aa (bB (pv 0) rfl) ak bN) bN) bN) bN)))
   (aA (eX hr.u1 (bB (pv 0) rfl) (bB (pv 5) rfl) (pv 5) rfl))))))
  (az (bM (d8 (Hj T) T.uD hr (aa (bB (pv 0) rfl) (aa (bB (pv 0) rfl) (aa (bB (pv 0) rfl) ak bN) bN) bN)))
  (aA (bM (d8 (Cz T) T.qH hr (aa (dj (pC rfl) (by rfl) T.mY jx (aa (bB (pv 0) rfl) ak bN)) (aa (bB (pv 0) rfl) (aa (bB (pv 0) rfl) ak bN) bN) bf))))))))))))),?_⟩
 have hl:sizeLine=16777216:=sizeLine_eq
 obtain⟨xs,hLl,aL⟩:=hH.ll
 obtain⟨ys,hLp,aP⟩:=hH.lp
 have lx:=aL.length
 have ly:=aP.length
 have l1:=hF.l1
 have l24:=hF.l24
 have p1:=hF.p1
 have p16:=hF.p16
 refine⟨_,rfl,_,rfl,Ll,Lp,_,_,rfl,hLl,hLp,by omega,by omega,by omega,by omega,?_⟩
 have T0:=Tr.start hn
 refine fun R nR=>?_
 have T1:=T0.new (o:=.dK []) nR
 have gR:=aB (o:=.dK []) nR
 generalize upd H R (.dK [])=H1 at T1 gR ⊢
 have cR:=T1.all (n,.ins t.dO dx []) (.head _)
 refine⟨_,rfl,n,_,dx,_,rfl,cR,T.bz.c,T.bz.na.1,Nat.lt_of_le_of_lt (show 0<=0 from Nat.le_refl 0) (by decide),?_⟩
 have T2:=T1.put (L1:=[]) (o':=.ins t.dO dx (aJ "rooms" (.ref R) []))
 have wR:lO n H1 (upd H1 n (.ins t.dO dx (aJ "rooms" (.ref R) []))):=lO.write
 generalize upd H1 n (.ins t.dO dx (aJ "rooms" (.ref R) []))=H2 at T2 wR ⊢
 refine fun F nF=>?_
 have T3:=T2.new (o:=.dK []) nF
 have gF:=aB (o:=.dK []) nF
 generalize upd H2 F (.dK [])=H3 at T3 gF ⊢
 have cF:=T3.all (n,.ins t.dO dx (aJ "rooms" (.ref R) [])) (.head _)
 refine⟨_,rfl,n,_,dx,_,rfl,cF,T.bz.c,T.bz.na.2.1,Nat.lt_of_le_of_lt (gK (Nat.zero_le 0)) (by decide),?_⟩
 have T4:=T3.put (L1:=[]) (o':=.ins t.dO dx (aJ "firsts" (.ref F) (aJ "rooms" (.ref R) [])))
 have wF:lO n H3 (upd H3 n (.ins t.dO dx (aJ "firsts" (.ref F) (aJ "rooms" (.ref R) [])))):=lO.write
 generalize upd H3 n (.ins t.dO dx (aJ "firsts" (.ref F) (aJ "rooms" (.ref R) [])))=H4 at T4 wF ⊢
 have kb:∀{Hk:Hp} {q:Addr} {u:HO},lO n H Hk->H q=some u->(∀C d f,u≠.ins C d f)->Hk q=some u:=fun b h hu=>b _ _ (wy h hn (by intro z;exact hu _ _ _ z)) h
 refine⟨_,rfl,Ll,rfl,⟨_,T4.but.seqL hn hLl⟩,cY (K:=K) (a:=Ll) (xs:=xs) (fun j σ H'=>(∃x3,σ=[some (.ref n),some (.ref Ll),some (.ref Lp),x3,none,none])/\∃FL:List (aG×Addr),FL.map (·.1)=ls.take j/\Tr H n [(n,.ins t.dO dx (aJ "firsts" (.ref F) (aJ "rooms" (.ref R) []))),(R,.dK (cz (ls.take j))),(F,.dK (bu FL))] H'/\∀q∈FL,eN K H' q.2 (q.1.first.map V.int)) ⟨⟨none,rfl⟩,[],rfl,T4,by simp⟩ (fun j σ H' _ ⟨_,_,_,T',_⟩=>T'.but.seqL hn hLl) ?_ ?_⟩
 ·rintro j x σ H' hx ⟨⟨x3,rfl⟩,FL,eFL,T4,hS⟩
  obtain⟨l,hlj,q,f,rfl,hq,hf⟩:=aL.get hx
  have hm:=List.mem_of_getElem? hlj
  obtain⟨v1,v2,v3,v4⟩:=hF.lok l hm
  have hnm:=hF.lnm l hm
  have hj:=(List.getElem?_eq_some_iff.mp hlj).1
  have kq:∀{Hk:Hp},lO n H Hk->Hk q=some (.tup [.str l.name,.int l.room,.ref f]):=fun b=>kb b hq (by intro _ _ _ z;cases z)
  have nin:=jt hF.whole.nod hlj
  have vR:b8 (cz (ls.take j)) (Sum.inr l.name)=none:=fB (by rw [mL];intro z;obtain⟨b,hb,e⟩:=List.mem_map.mp z;cases e;exact nin hb)
  have vF:b8 (bu FL) (Sum.inr l.name)=none:=fB (by rw [oV,eFL];intro z;obtain⟨b,hb,e⟩:=List.mem_map.mp z;cases e;exact nin hb)
  have tk:ls.take (j+1)=ls.take j ++ [l]:=by rw [List.take_succ,hlj];rfl
  have e4:=T4.all (n,.ins t.dO dx (aJ "firsts" (.ref F) (aJ "rooms" (.ref R) []))) (.head _)
  refine RP fun De hD u hu=>?_
  refine⟨_,rfl,q,_,0,_,rfl,rfl,eN.of (kq T4.but),aM (j:=0) rfl,_,rfl,n,_,dx,_,_,rfl,e4,T.bz.c,T.bz.na.1,(by (repeat first | (rw [aC,if_pos rfl];done) | rw [aC,if_neg (by decide +kernel)])),l.name,R,_,rfl,T4.all (R,.dK (cz (ls.take j))) (by simp),hnm,Gr hnm,vR,fun H5 s5=>?_⟩
  have T5:=T4.same s5
  refine dD (v:=u) hu fun u hu=>?_
  refine⟨_,rfl,q,_,0,_,rfl,rfl,eN.of (kq T5.but),aM (j:=0) rfl,_,rfl,q,_,1,_,rfl,rfl,eN.of (kq T5.but),aM (j:=1) rfl,_,rfl,q,_,2,_,rfl,rfl,eN.of (kq T5.but),aM (j:=2) rfl,.str l.name,l.room,f,l.first,rfl,T5.but.seqA hn hf,by omega,v4,v1,v3,v2,fun H6 s6=>?_⟩
  have T6:=T5.same s6
  have e6:=T6.all (n,.ins t.dO dx (aJ "firsts" (.ref F) (aJ "rooms" (.ref R) []))) (.head _)
  have eR6:=T6.all (R,.dK (cz (ls.take j))) (by simp)
  refine dD (v:=u) hu fun u hu=>?_
  refine⟨_,rfl,q,_,1,_,rfl,rfl,eN.of (kq T6.but),aM (j:=1) rfl,_,rfl,n,_,dx,_,_,rfl,e6,T.bz.c,T.bz.na.1,(by (repeat first | (rw [aC,if_pos rfl];done) | rw [aC,if_neg (by decide +kernel)])),_,rfl,q,_,0,_,rfl,rfl,eN.of (kq T6.but),aM (j:=0) rfl,R,_,rfl,km.k (k:=Sum.inr l.name) eR6 (by unfold cz;rw [lM,List.length_take];omega),?_⟩
  have e7:putK (cz (ls.take j)) (Sum.inr l.name) (.int l.room)=cz (ls.take (j+1)):=by rw [fX _ vR,tk];unfold cz;rw [List.map_append];rfl
  have T7:=T6.put (L1:=[_]) (o':=.dK (cz (ls.take (j+1))))
  rw [e7]
  have hS7:∀q∈FL,eN K (upd H6 R (.dK (cz (ls.take (j+1))))) q.2 (q.1.first.map V.int):=fun q hq=>fU eR6 (s6.seqT (s5.seqT (hS q hq)))
  generalize upd H6 R (.dK (cz (ls.take (j+1))))=H7 at T7 hS7 ⊢
  subst hu
  refine⟨_,rfl,q,_,2,_,rfl,rfl,eN.of (kq T7.but),aM (j:=2) rfl,f,_,rfl,T7.but.seqA hn hf,fun H8 F0 s8 t8=>?_⟩
  have T8:=T7.same s8
  have e8:=T8.all (n,.ins t.dO dx (aJ "firsts" (.ref F) (aJ "rooms" (.ref R) []))) (.head _)
  have eF8:=T8.all (F,.dK (bu FL)) (by simp)
  have lFL:FL.length<=24:=by have:=congrArg List.length eFL;rw [lM,List.length_take] at this;omega
  refine⟨_,rfl,n,_,dx,_,_,rfl,e8,T.bz.c,T.bz.na.2.1,(by (repeat first | (rw [aC,if_pos rfl];done) | rw [aC,if_neg (by decide +kernel)])),_,rfl,q,_,0,_,rfl,rfl,eN.of (kq T8.but),aM (j:=0) rfl,F,_,rfl,km.k (k:=Sum.inr l.name) eF8 (by unfold bu;rw [lM];omega),?_⟩
  have e9:putK (bu FL) (Sum.inr l.name) (.ref F0)=bu (FL ++ [(l,F0)]):=by rw [fX _ vF];unfold bu;rw [List.map_append];rfl
  have T9:=T8.put (L1:=[_,_]) (o':=.dK (bu (FL ++ [(l,F0)])))
  rw [e9]
  subst hD
  refine⟨⟨_,rfl⟩,FL ++ [(l,F0)],by rw [List.map_append,eFL,tk];rfl,T9,fun q hq=>?_⟩
  rcases List.mem_append.mp hq with h | h
  ·exact fU eF8 (s8.seqT (hS7 q h))
  ·rw [List.mem_singleton] at h
   subst h
   exact fU eF8 t8
 rintro σ H9 ⟨⟨x3,rfl⟩,FL,eFL,T9,t9⟩
 rw [lx,List.take_length] at eFL T9
 clear T0 T1 T2 T3 T4
 refine fun Pd nPd=>?_
 have T10:=T9.new (o:=.dK []) nPd
 have gPd:=aB (o:=.dK []) nPd
 generalize upd H9 Pd (.dK [])=H10 at T10 gPd ⊢
 have cPd:=T10.all (n,.ins t.dO dx (aJ "firsts" (.ref F) (aJ "rooms" (.ref R) []))) (.head _)
 refine⟨_,rfl,n,_,dx,_,rfl,cPd,T.bz.c,T.bz.na.2.2.1,Nat.lt_of_le_of_lt (gK (gK (Nat.zero_le 0))) (by decide),?_⟩
 have T11:=T10.put (L1:=[]) (o':=.ins t.dO dx (aJ "parts" (.ref Pd) (aJ "firsts" (.ref F) (aJ "rooms" (.ref R) []))))
 have wPd:lO n H10 (upd H10 n (.ins t.dO dx (aJ "parts" (.ref Pd) (aJ "firsts" (.ref F) (aJ "rooms" (.ref R) []))))):=lO.write
 generalize upd H10 n (.ins t.dO dx (aJ "parts" (.ref Pd) (aJ "firsts" (.ref F) (aJ "rooms" (.ref R) []))))=H11 at T11 wPd ⊢
 refine fun Gv nGv=>?_
 have T12:=T11.new (o:=.dK []) nGv
 have gGv:=aB (o:=.dK []) nGv
 generalize upd H11 Gv (.dK [])=H12 at T12 gGv ⊢
 have cGv:=T12.all (n,.ins t.dO dx (aJ "parts" (.ref Pd) (aJ "firsts" (.ref F) (aJ "rooms" (.ref R) [])))) (.head _)
 refine⟨_,rfl,n,_,dx,_,rfl,cGv,T.bz.c,T.bz.na.2.2.2.1,Nat.lt_of_le_of_lt (gK (gK (gK (Nat.zero_le 0)))) (by decide),?_⟩
 have T13:=T12.put (L1:=[]) (o':=.ins t.dO dx (aJ "givers" (.ref Gv) (aJ "parts" (.ref Pd) (aJ "firsts" (.ref F) (aJ "rooms" (.ref R) [])))))
 have wGv:lO n H12 (upd H12 n (.ins t.dO dx (aJ "givers" (.ref Gv) (aJ "parts" (.ref Pd) (aJ "firsts" (.ref F) (aJ "rooms" (.ref R) [])))))):=lO.write
 generalize upd H12 n (.ins t.dO dx (aJ "givers" (.ref Gv) (aJ "parts" (.ref Pd) (aJ "firsts" (.ref F) (aJ "rooms" (.ref R) [])))))=H13 at T13 wGv ⊢
 refine fun Tk nTk=>?_
 have T14:=T13.new (o:=.dK []) nTk
 have gTk:=aB (o:=.dK []) nTk
 generalize upd H13 Tk (.dK [])=H14 at T14 gTk ⊢
 have cTk:=T14.all (n,.ins t.dO dx (aJ "givers" (.ref Gv) (aJ "parts" (.ref Pd) (aJ "firsts" (.ref F) (aJ "rooms" (.ref R) []))))) (.head _)
 refine⟨_,rfl,n,_,dx,_,rfl,cTk,T.bz.c,T.bz.na.2.2.2.2.1,Nat.lt_of_le_of_lt (gK (gK (gK (gK (Nat.zero_le 0))))) (by decide),?_⟩
 have T15:=T14.put (L1:=[]) (o':=.ins t.dO dx (aJ "takers" (.ref Tk) (aJ "givers" (.ref Gv) (aJ "parts" (.ref Pd) (aJ "firsts" (.ref F) (aJ "rooms" (.ref R) []))))))
 have wTk:lO n H14 (upd H14 n (.ins t.dO dx (aJ "takers" (.ref Tk) (aJ "givers" (.ref Gv) (aJ "parts" (.ref Pd) (aJ "firsts" (.ref F) (aJ "rooms" (.ref R) []))))))):=lO.write
 generalize upd H14 n (.ins t.dO dx (aJ "takers" (.ref Tk) (aJ "givers" (.ref Gv) (aJ "parts" (.ref Pd) (aJ "firsts" (.ref F) (aJ "rooms" (.ref R) []))))))=H15 at T15 wTk ⊢
 have T15:Tr H n [(n,.ins t.dO dx (aJ "takers" (.ref Tk) (aJ "givers" (.ref Gv) (aJ "parts" (.ref Pd) (aJ "firsts" (.ref F) (aJ "rooms" (.ref R) [])))))),(R,.dK (cz ls)),(F,.dK (bu FL)),(Pd,.dK []),(Gv,.dK []),(Tk,.dK [])] H15:=T15
 have t15:∀q∈FL,eN K H15 q.2 (q.1.first.map V.int):=fun q hq=>wTk.seqT cTk (gTk.seqT (wGv.seqT cGv (gGv.seqT (wPd.seqT cPd (gPd.seqT (t9 q hq))))))
 have nod:=T15.nod
 simp only [List.map_append,List.map_cons,List.map_nil,List.nil_append,List.cons_append,List.nodup_cons,List.mem_cons,List.not_mem_nil,or_false,not_or] at nod
 have nRF:R≠F:=nod.2.1.1
 have nRT:R≠Tk:=nod.2.1.2.2.2
 have nRG:R≠Gv:=nod.2.1.2.2.1
 have nGT:Gv≠Tk:=nod.2.2.2.2.1
 clear nod
 have ono:(ps.flatMap (·.outs)).Nodup:=hF.whole.outs.nodup_iff.mpr hF.whole.nod
 have ini:(ps.flatMap (·.ins)).Nodup:=hF.whole.ins.nodup_iff.mpr hF.whole.nod
 have inR:∀z∈ls.map (·.name),(b8 (cz ls) (Sum.inr z)).isSome=true:=fun z hz=>by
  obtain⟨l,hl,rfl⟩:=List.mem_map.mp hz
  have e:b8 (cz ls) (Sum.inr l.name)=some (.int l.room):=dN (by rw [mL];exact eO hF.whole.nod) (List.mem_map.mpr ⟨l,hl,rfl⟩)
  rw [e]
  rfl
 have lenE:∀(f:PD->List Str) (j:Nat),(ps.flatMap f).Perm (ls.map (·.name))->(cQ f (ps.take j)).length<=24:=fun f j pm=>by
  rw [O1]
  have e1:((ps.take j).flatMap f).length+((ps.drop j).flatMap f).length=(ps.flatMap f).length:=by rw [<-lP,<-List.flatMap_append,List.take_append_drop]
  have e2:=pm.length_eq
  rw [lM] at e2
  omega
 refine⟨_,rfl,Lp,rfl,⟨_,T15.but.seqL hn hLp⟩,cY (K:=K) (a:=Lp) (xs:=ys) (fun j σ H'=>(∃x3 x4 x5,σ=[some (.ref n),some (.ref Ll),some (.ref Lp),x3,x4,x5])/\∃PL:List (PD×Addr),PL.map (·.1)=ps.take j/\Tr H n [(n,.ins t.dO dx (aJ "takers" (.ref Tk) (aJ "givers" (.ref Gv) (aJ "parts" (.ref Pd) (aJ "firsts" (.ref F) (aJ "rooms" (.ref R) [])))))),(R,.dK (cz ls)),(F,.dK (bu FL)),(Pd,.dK (eG PL)),(Gv,.dK (cQ (·.outs) (ps.take j))),(Tk,.dK (cQ (·.ins) (ps.take j)))] H'/\(∀q∈FL,eN K H' q.2 (q.1.first.map V.int))/\∀q∈PL,fJ K t H' q.2 q.1.kind (.str q.1.name) (q.1.nums.map V.int) (q.1.ins.map V.str) (q.1.outs.map V.str)) ⟨⟨x3,none,none,rfl⟩,[],rfl,T15,t15,by simp⟩ (fun j σ H' _ ⟨_,_,_,T',_⟩=>T'.but.seqL hn hLp) ?_ ?_⟩
 ·rintro j x σ H' hx ⟨⟨x3,x4,x5,rfl⟩,PL,ePL,T15,hS,hP⟩
  obtain⟨p,hpj,r,a1,a2,a3,rfl,hr,q1,q2,q3⟩:=aP.get hx
  have hm:=List.mem_of_getElem? hpj
  have hj:=(List.getElem?_eq_some_iff.mp hpj).1
  obtain⟨o1,o2,o3,o4,o5⟩:=hF.pok p hm
  have hnm:=hF.pnm p hm
  have nin:=jt hF.pnd hpj
  have tk:ps.take (j+1)=ps.take j ++ [p]:=by rw [List.take_succ,hpj];rfl
  have vP:b8 (eG PL) (Sum.inr p.name)=none:=fB (by rw [Ah,ePL];intro z;obtain⟨b,hb,e⟩:=List.mem_map.mp z;cases e;exact nin hb)
  obtain⟨di,fi⟩:=Mp ini hpj
  obtain⟨do',fo⟩:=Mp ono hpj
  have e15:=T15.all (n,.ins t.dO dx (aJ "takers" (.ref Tk) (aJ "givers" (.ref Gv) (aJ "parts" (.ref Pd) (aJ "firsts" (.ref F) (aJ "rooms" (.ref R) [])))))) (.head _)
  refine RP fun De hD u hu=>?_
  refine⟨_,rfl,_,rfl,n,_,dx,_,_,rfl,e15,T.bz.c,T.bz.na.2.2.1,(by (repeat first | (rw [aC,if_pos rfl];done) | rw [aC,if_neg (by decide +kernel)])),p.kind,p.name,r,Pd,a1,a2,a3,_,_,_,_,rfl,kb T15.but hr (by intro _ _ _ z;cases z),by omega,T15.all (Pd,.dK (eG PL)) (by simp),hnm,Gr hnm,vP,T15.but.seqA hn q1,T15.but.seqA hn q2,T15.but.seqA hn q3,by rw [lM];exact o2,by rw [lM];exact o3,by rw [lM];exact o4,?_,fun H16 pp s16 npp Pp=>?_⟩
  ·intro v hv
   obtain⟨i,hi,rfl⟩:=List.mem_map.mp hv
   exact⟨i,rfl,(o5 i hi).1,(o5 i hi).2⟩
  have T16:=T15.same s16
  obtain⟨dxp,tn,ti,to,z1,z2,z3,z4⟩:=id Pp.ex
  have e16:=T16.all (n,.ins t.dO dx (aJ "takers" (.ref Tk) (aJ "givers" (.ref Gv) (aJ "parts" (.ref Pd) (aJ "firsts" (.ref F) (aJ "rooms" (.ref R) [])))))) (.head _)
  have eTk:=T16.all (Tk,.dK (cQ (·.ins) (ps.take j))) (by simp)
  have li:=lenE (·.ins) j hF.whole.ins
  have lo:=lenE (·.outs) j hF.whole.outs
  have h3I:p.ins.length<=3:=by rw [o3];exact Aq _
  have h3O:p.outs.length<=2:=by rw [o4];exact Rp _
  refine dD (v:=u) hu fun u hu=>?_
  refine⟨_,rfl,pp,_,dxp,_,_,rfl,z1,iQ T p.kind,BV T p.kind,zX _ _ _ _,_,rfl,pp,_,dxp,_,_,rfl,z1,iQ T p.kind,zL T p.kind,vh _ _ _ _,_,rfl,n,_,dx,_,_,rfl,e16,T.bz.c,T.bz.na.1,(by (repeat first | (rw [aC,if_pos rfl];done) | rw [aC,if_neg (by decide +kernel)])),_,rfl,n,_,dx,_,_,rfl,e16,T.bz.c,T.bz.na.2.2.2.2.1,(by (repeat first | (rw [aC,if_pos rfl];done) | rw [aC,if_neg (by decide +kernel)])),p.name,ti,R,Tk,p.ins,_,_,rfl,z3,T16.all (R,.dK (cz ls)) (by simp),nRT,eTk,di,fun z hz=>⟨inR z (hF.whole.ins.mem_iff.mp (List.mem_flatMap.mpr ⟨p,hm,hz⟩)),Ef (fi z hz)⟩,by omega,?_⟩
  rw [<-Dq (·.ins) (ps.take j) p,<-tk]
  have T17:=T16.put (L1:=[_,_,_,_,_]) (o':=.dK (cQ (·.ins) (ps.take (j+1))))
  have Pp17:=Pp.chill (v:=.dK (cQ (·.ins) (ps.take (j+1)))) eTk
  have hS17:∀q∈FL,eN K (upd H16 Tk (.dK (cQ (·.ins) (ps.take (j+1))))) q.2 (q.1.first.map V.int):=fun q hq=>fU eTk (s16.seqT (hS q hq))
  have hP17:∀q∈PL,fJ K t (upd H16 Tk (.dK (cQ (·.ins) (ps.take (j+1))))) q.2 q.1.kind (.str q.1.name) (q.1.nums.map V.int) (q.1.ins.map V.str) (q.1.outs.map V.str):=fun q hq=>((hP q hq).same s16).chill eTk
  generalize upd H16 Tk (.dK (cQ (·.ins) (ps.take (j+1))))=H17 at T17 Pp17 hS17 hP17 ⊢
  clear z1 z2 z3 z4 e16
  obtain⟨dxp,tn,ti,to,z1,z2,z3,z4⟩:=id Pp17.ex
  have e17:=T17.all (n,.ins t.dO dx (aJ "takers" (.ref Tk) (aJ "givers" (.ref Gv) (aJ "parts" (.ref Pd) (aJ "firsts" (.ref F) (aJ "rooms" (.ref R) [])))))) (.head _)
  have eGv:=T17.all (Gv,.dK (cQ (·.outs) (ps.take j))) (by simp)
  refine dD (v:=u) hu fun u hu=>?_
  refine⟨_,rfl,pp,_,dxp,_,_,rfl,z1,iQ T p.kind,BV T p.kind,zX _ _ _ _,_,rfl,pp,_,dxp,_,_,rfl,z1,iQ T p.kind,Ir T p.kind,Fp _ _ _ _,_,rfl,n,_,dx,_,_,rfl,e17,T.bz.c,T.bz.na.1,(by (repeat first | (rw [aC,if_pos rfl];done) | rw [aC,if_neg (by decide +kernel)])),_,rfl,n,_,dx,_,_,rfl,e17,T.bz.c,T.bz.na.2.2.2.1,(by (repeat first | (rw [aC,if_pos rfl];done) | rw [aC,if_neg (by decide +kernel)])),p.name,to,R,Gv,p.outs,_,_,rfl,z4,T17.all (R,.dK (cz ls)) (by simp),nRG,eGv,do',fun z hz=>⟨inR z (hF.whole.outs.mem_iff.mp (List.mem_flatMap.mpr ⟨p,hm,hz⟩)),Ef (fo z hz)⟩,by omega,?_⟩
  rw [<-Dq (·.outs) (ps.take j) p,<-tk]
  have T18:=T17.put (L1:=[_,_,_,_]) (o':=.dK (cQ (·.outs) (ps.take (j+1))))
  have Pp18:=Pp17.chill (v:=.dK (cQ (·.outs) (ps.take (j+1)))) eGv
  have hS18:∀q∈FL,eN K (upd H17 Gv (.dK (cQ (·.outs) (ps.take (j+1))))) q.2 (q.1.first.map V.int):=fun q hq=>fU eGv (hS17 q hq)
  have hP18:∀q∈PL,fJ K t (upd H17 Gv (.dK (cQ (·.outs) (ps.take (j+1))))) q.2 q.1.kind (.str q.1.name) (q.1.nums.map V.int) (q.1.ins.map V.str) (q.1.outs.map V.str):=fun q hq=>(hP17 q hq).chill eGv
  generalize upd H17 Gv (.dK (cQ (·.outs) (ps.take (j+1))))=H18 at T18 Pp18 hS18 hP18 ⊢
  clear z1 z2 z3 z4 e17
  obtain⟨dxp,tn,ti,to,z1,z2,z3,z4⟩:=id Pp18.ex
  have e18:=T18.all (n,.ins t.dO dx (aJ "takers" (.ref Tk) (aJ "givers" (.ref Gv) (aJ "parts" (.ref Pd) (aJ "firsts" (.ref F) (aJ "rooms" (.ref R) [])))))) (.head _)
  have ePd:=T18.all (Pd,.dK (eG PL)) (by simp)
  have lPL:PL.length<=16:=by have:=congrArg List.length ePL;rw [lM,List.length_take] at this;omega
  subst hu
  refine⟨_,rfl,_,rfl,n,_,dx,_,_,rfl,e18,T.bz.c,T.bz.na.2.2.1,(by (repeat first | (rw [aC,if_pos rfl];done) | rw [aC,if_neg (by decide +kernel)])),_,rfl,pp,_,dxp,_,_,rfl,z1,iQ T p.kind,BV T p.kind,zX _ _ _ _,Pd,_,rfl,km.k (k:=Sum.inr p.name) ePd (by unfold eG;rw [lM];omega),?_⟩
  have e19:putK (eG PL) (Sum.inr p.name) (.ref pp)=eG (PL ++ [(p,pp)]):=by rw [fX _ vP];unfold eG;rw [List.map_append];rfl
  have T19:=T18.put (L1:=[_,_,_]) (o':=.dK (eG (PL ++ [(p,pp)])))
  rw [e19]
  subst hD
  refine⟨⟨_,_,_,rfl⟩,PL ++ [(p,pp)],by rw [List.map_append,ePL,tk];rfl,T19,fun q hq=>fU ePd (hS18 q hq),fun q hq=>?_⟩
  rcases List.mem_append.mp hq with h | h
  ·exact(hP18 q h).chill ePd
  ·rw [List.mem_singleton] at h
   subst h
   exact Pp18.chill ePd
 rintro σ H18 ⟨⟨x3,x4,x5,rfl⟩,PL,ePL,T18,hS,hP⟩
 rw [ly,List.take_length] at ePL T18
 have e18:=T18.all (n,.ins t.dO dx (aJ "takers" (.ref Tk) (aJ "givers" (.ref Gv) (aJ "parts" (.ref Pd) (aJ "firsts" (.ref F) (aJ "rooms" (.ref R) [])))))) (.head _)
 have eR:=T18.all (R,.dK (cz ls)) (by simp)
 have eF:=T18.all (F,.dK (bu FL)) (by simp)
 have ePd:=T18.all (Pd,.dK (eG PL)) (by simp)
 have eGv:=T18.all (Gv,.dK (cQ (·.outs) ps)) (by simp)
 have eTk:=T18.all (Tk,.dK (cQ (·.ins) ps)) (by simp)
 refine⟨_,rfl,n,_,dx,_,_,rfl,e18,T.bz.c,T.bz.na.1,(by (repeat first | (rw [aC,if_pos rfl];done) | rw [aC,if_neg (by decide +kernel)])),_,rfl,n,_,dx,_,_,rfl,e18,T.bz.c,T.bz.na.2.2.2.1,(by (repeat first | (rw [aC,if_pos rfl];done) | rw [aC,if_neg (by decide +kernel)])),_,rfl,n,_,dx,_,_,rfl,e18,T.bz.c,T.bz.na.2.2.2.2.1,(by (repeat first | (rw [aC,if_pos rfl];done) | rw [aC,if_neg (by decide +kernel)])),R,Gv,Tk,_,_,_,rfl,eR,eGv,eTk,nRG,nRT,?_,?_⟩
 ·intro q hq
  obtain⟨l,hl,rfl⟩:=List.mem_map.mp hq
  have hln:l.name∈ls.map (·.name):=List.mem_map.mpr ⟨l,hl,rfl⟩
  obtain⟨pa,ha,la⟩:=List.mem_flatMap.mp (hF.whole.outs.mem_iff.mpr hln)
  obtain⟨pb,hb,lb⟩:=List.mem_flatMap.mp (hF.whole.ins.mem_iff.mpr hln)
  exact⟨by rw [je ono ha la];rfl,by rw [je ini hb lb];rfl⟩
 refine⟨_,rfl,n,_,dx,_,_,rfl,e18,T.bz.c,T.bz.na.2.2.1,(by (repeat first | (rw [aC,if_pos rfl];done) | rw [aC,if_neg (by decide +kernel)])),Pd,_,rfl,.inl ePd,fun l nl=>?_⟩
 have s19:=aB (o:=.lst ((eG PL).map fun p=>kV p.1)) nl
 have eL:(eG PL).map (fun p=>kV p.1)=ps.map fun p=>V.str p.name:=by unfold eG;rw [List.map_map,<-ePL,List.map_map];rfl
 refine⟨_,rfl,n,_,dx,_,_,rfl,(s19 _ _ e18),T.bz.c,T.bz.na.2.2.2.1,(by (repeat first | (rw [aC,if_pos rfl];done) | rw [aC,if_neg (by decide +kernel)])),_,rfl,n,_,dx,_,_,rfl,(s19 _ _ e18),T.bz.c,T.bz.na.2.2.2.2.1,(by (repeat first | (rw [aC,if_pos rfl];done) | rw [aC,if_neg (by decide +kernel)])),l,Gv,Tk,ps,rfl,bL.of (by rw [<-eL];exact au),by omega,by omega,s19 _ _ eGv,s19 _ _ eTk,nGT,ono,ini,hF.whole.outs.trans hF.whole.ins.symm,hF.whole.hang,fun H20 s20=>?_⟩
 have s:=s19.trans s20
 refine k _ (fun b u hb e=>s _ _ (T18.but b u hb e)) ⟨dx,_,R,F,Pd,Gv,Tk,FL,PL,⟨s _ _ e18,⟨?_,?_⟩,s _ _ eR,s _ _ eF,s _ _ ePd,s _ _ eGv,s _ _ eTk,eFL,ePL,fun q hq=>s.seqT (hS q hq),fun q hq=>(hP q hq).same s,hF,nRF⟩,fun a ha=>?_⟩
 ·intro q hq
  simp only [List.mem_cons,List.not_mem_nil,or_false] at hq
  rcases hq with rfl | rfl | rfl | rfl | rfl <;> (dsimp only;(repeat first | (rw [aC,if_pos rfl];done) | rw [aC,if_neg (by decide +kernel)]))
 ·intro m hm
  have hne:∀m∈(["lane_names", "part_names", "names_of_kind", "gives", "takes", "need_lane_name", "room_of", "first_of", "part_of", "__init__"]:List Str),∀g∈(["takers", "givers", "parts", "firsts", "rooms"]:List Str),¬m=g:=by decide +kernel
  have h:=hne m hm
  rw [aC,if_neg (h _ (by simp)),aC,if_neg (h _ (by simp)),aC,if_neg (h _ (by simp)),aC,if_neg (h _ (by simp)),aC,if_neg (h _ (by simp))]
  rfl
 ·have f:∀{a:Addr} {k:List (Key×V)},H18 a=some (.dK k)->(a=n∨H a=none)->H a=none:=fun e h=>h.resolve_left fun z=>by rw [z,e18] at e;cases e
  simp only [List.mem_cons,List.not_mem_nil,or_false] at ha
  rcases ha with rfl | rfl | rfl | rfl | rfl
  ·exact f eR (T18.fre (_,.dK (cz ls)) (by simp))
  ·exact f eF (T18.fre (_,.dK (bu FL)) (by simp))
  ·exact f ePd (T18.fre (_,.dK (eG PL)) (by simp))
  ·exact f eGv (T18.fre (_,.dK (cQ (·.outs) ps)) (by simp))
  ·exact f eTk (T18.fre (_,.dK (cQ (·.ins) ps)) (by simp))
inductive wD (K:PySem.W.Frag) (t:jH) (vs:List V) (H:Hp) (Q:VK) (E_:XK):Prop where
 | mk:∀(f n E G Kp D Rw l:Addr) (ed gd:List (Key×V)) (x:Str) (vs':List V) (g:Nat),vs=[.ref f,.str x]->qO K t H f n E G Kp D Rw->H E=some (.dK ed)->H G=some (.dK gd)->b8 ed (Sum.inr x)=some (.ref l)->b8 gd (Sum.inr x)=some (.int g)->bL K H l vs'->Q (.int (vs'.length - g)) H->wD K t vs H Q E_
theorem xq (T:Txt w K mg t):FO P w K mg base 1 t.sG ["self", "lane"] (wD K t):=by
 have sc:=T.oU.sc ["self", "lane"]
 refine T.oU.F.ok sc ln (fun _ _ _ _ H vs Q E hr h=>?_)
 obtain⟨f,n,E,G,Kp,D,Rw,l,ed,gd,x,vs',g,rfl,N,hE,hG,h3,h4,h5,k⟩:=h
 refine⟨_,(aA (aN (bc KC (bG cj (by rfl) T.fK dI (aa (bH hr.u1 (bB (pv 0) rfl) (pv 1) (fun _ _=>rfl)) ak aF)) (bH hr.u1 (bB (pv 0) rfl) (pv 1) (fun _ _=>rfl))))),?_⟩
 obtain⟨dx,fs,h1,h2⟩:=id N.ex
 refine⟨_,rfl,f,_,dx,fs,_,rfl,h1,T.aX.c,T.aX.na.2.1,h2.has ("ever",.ref E) (by simp),_,rfl,E,_,rfl,(by rw [<-h3];exact eY.k (k:=Sum.inr x) hE),?_⟩
 refine⟨.ref l,vs'.length,rfl,.inl ⟨vs',h5,rfl⟩,_,rfl,f,_,dx,fs,_,rfl,h1,T.aX.c,T.aX.na.2.2.1,h2.has ("gone",.ref G) (by simp),_,rfl,G,_,rfl,(by rw [<-h4];exact eY.k (k:=Sum.inr x) hG),?_⟩
 refine⟨_,_,rfl,rfl,?_⟩
 exact k
inductive rT (K:PySem.W.Frag) (t:jH) (vs:List V) (H:Hp) (Q:VK) (E_:XK):Prop where
 | mk:∀(f n E G Kp D Rw l:Addr) (ed gd:List (Key×V)) (x:Str) (vs':List V) (g:Nat),vs=[.ref f,.str x]->qO K t H f n E G Kp D Rw->H E=some (.dK ed)->H G=some (.dK gd)->b8 ed (Sum.inr x)=some (.ref l)->b8 gd (Sum.inr x)=some (.int g)->bL K H l vs'->(∀p,H p=none->Q (.ref p) (upd H p (.lst (vs'.drop g))))->rT K t vs H Q E_
theorem zR (T:Txt w K mg t):FO P w K mg base 1 t.nj ["self", "lane"] (rT K t):=by
 have sc:=T.nQ.sc ["self", "lane"]
 refine T.nQ.F.ok sc ln (fun _ _ _ _ H vs Q E hr h=>?_)
 obtain⟨f,n,E,G,Kp,D,Rw,l,ed,gd,x,vs',g,rfl,N,hE,hG,h3,h4,h5,k⟩:=h
 refine⟨_,(aA (aN (mH vH (bH hr.u1 (bB (pv 0) rfl) (pv 1) (fun _ _=>rfl)) (lW (bH hr.u1 (bB (pv 0) rfl) (pv 1) (fun _ _=>rfl))) vO))),?_⟩
 obtain⟨dx,fs,h1,h2⟩:=id N.ex
 refine⟨_,rfl,f,_,dx,fs,_,rfl,h1,T.aX.c,T.aX.na.2.1,h2.has ("ever",.ref E) (by simp),_,rfl,E,_,rfl,(by rw [<-h3];exact eY.k (k:=Sum.inr x) hE),?_⟩
 refine⟨_,rfl,f,_,dx,fs,_,rfl,h1,T.aX.c,T.aX.na.2.2.1,h2.has ("gone",.ref G) (by simp),_,rfl,G,_,rfl,(by rw [<-h4];exact eY.k (k:=Sum.inr x) hG),?_⟩
 refine⟨_,rfl,l,vs',rfl,h5,fun p hp=>?_⟩
 rw [Rg]
 exact k p hp
inductive yG (K:PySem.W.Frag) (t:jH) (vs:List V) (H:Hp) (Q:VK) (E_:XK):Prop where
 | mk:∀(f n E G Kp D Rw l:Addr) (ed gd:List (Key×V)) (x:Str) (vs':List V) (g:Nat),vs=[.ref f,.str x]->qO K t H f n E G Kp D Rw->H E=some (.dK ed)->H G=some (.dK gd)->b8 ed (Sum.inr x)=some (.ref l)->b8 gd (Sum.inr x)=some (.int g)->bL K H l vs'->Q ((vs'[g]?).getD .non) H->yG K t vs H Q E_
theorem Ih (T:Txt w K mg t):FO P w K mg base 2 t.vy ["self", "lane"] (yG K t):=by
 have sc:=T.uo.sc ["self", "lane"]
 refine T.uo.F.ok sc ln (fun _ _ _ _ H vs Q E hr h=>?_)
 obtain⟨f,n,E,G,Kp,D,Rw,l,ed,gd,x,vs',g,rfl,N,hE,hG,h3,h4,h5,k⟩:=h
 refine⟨_,(aA (aN (ur (aW Ji (zz (pv 0) T.aX T.aX.me.2.1 (xq T) T.oU hr (aa (pv 1) ak aj)) aq (bI _)) (aO aQ (bH hr.u1 (bB (pv 0) rfl) (pv 1) (fun _ _=>rfl)) (bH hr.u1 (bB (pv 0) rfl) (pv 1) (fun _ _=>rfl)) (fun _ _=>rfl)) lG))),?_⟩
 obtain⟨dx,fs,h1,h2⟩:=id N.ex
 refine⟨_,rfl,f,dx,fs,rfl,h1,h2.no _ (by decide +kernel),_,rfl,f,n,E,G,Kp,D,Rw,l,ed,gd,x,vs',g,rfl,N,hE,hG,h3,h4,h5,?_⟩
 refine⟨_,_,rfl,rfl,_,rfl,jB (fun e=>?_) (fun e=>?_)⟩
 ·have e':g <vs'.length:=by have:=of_decide_eq_true e;omega
  refine⟨_,rfl,f,_,dx,fs,_,rfl,h1,T.aX.c,T.aX.na.2.1,h2.has ("ever",.ref E) (by simp),_,rfl,E,_,rfl,(by rw [<-h3];exact eY.k (k:=Sum.inr x) hE),?_⟩
  refine⟨_,rfl,f,_,dx,fs,_,rfl,h1,T.aX.c,T.aX.na.2.2.1,h2.has ("gone",.ref G) (by simp),_,rfl,G,_,rfl,(by rw [<-h4];exact eY.k (k:=Sum.inr x) hG),?_⟩
  rw [List.getElem?_eq_getElem e'] at k
  exact⟨l,vs',g,_,rfl,rfl,h5,aM (List.getElem?_eq_getElem e'),k⟩
 ·have e':¬g <vs'.length:=fun z=>e (decide_eq_true (by omega))
  rw [List.getElem?_eq_none (by omega)] at k
  exact k
inductive o9 (K:PySem.W.Frag) (t:jH) (vs:List V) (H:Hp) (Q:VK):Prop where
 | mk:∀(f n E G Kp D Rw:Addr) (rd dd:List (Key×V)) (x:Str),vs=[.ref f,.str x]->qO K t H f n E G Kp D Rw->H Rw=some (.dK rd)->H D=some (.dK dd)->(((b8 rd (Sum.inr x)=none/\Q (.bl false) H)∨∃(l:Addr) (vs':List V) (g:Nat),b8 rd (Sum.inr x)=some (.ref l)/\b8 dd (Sum.inr x)=some (.int g)/\bL K H l vs'/\Q (.bl (decide (g=vs'.length))) H))->o9 K t vs H Q
@[irreducible] noncomputable def eQ (K:PySem.W.Frag) (t:jH):Sp:=fun vs H Q _=>o9 K t vs H Q
theorem yS (T:Txt w K mg t):FO P w K mg base 1 t.lr ["self", "name"] (eQ K t):=by
 have sc:=T.lK.sc ["self", "name"]
 refine T.lK.F.ok sc (fun vs H Q E h=>?_) (fun cdv A outer s H vs Q E hr h=>?_)
 ·unfold eQ at h
  obtain⟨f,n,E,G,Kp,D,Rw,rd,dd,x,rfl,_⟩:=h
  rfl
 ·unfold eQ at h
  obtain⟨f,n,E,G,Kp,D,Rw,rd,dd,x,rfl,N,hR,hD,k⟩:=h
  refine⟨_,(aA (aN (zT (Ed (zF hr.u1 (pv 1) (bB (pv 0) rfl))) (zG (tD dW (bH hr.u1 (bB (pv 0) rfl) (pv 1) (fun _ _=>rfl)) (bG cj (by rfl) T.fK dI (aa (bH hr.u1 (bB (pv 0) rfl) (pv 1) (fun _ _=>rfl)) ak aF)) (bI _)))))),?_⟩
  obtain⟨dx,fs,h1,h2⟩:=id N.ex
  refine⟨_,rfl,_,rfl,f,_,dx,fs,_,rfl,h1,T.aX.c,T.aX.na.2.2.2.2.2.1,h2.has ("rows",.ref Rw) (by simp),Rw,_,rfl,eY.k (k:=Sum.inr x) hR,?_⟩
  rcases k with ⟨k1,k⟩ | ⟨l,vs',g,k1,k2,k3,k⟩
  ·rw [k1]
   exact⟨_,rfl,dw k⟩
  ·rw [k1]
   refine⟨_,rfl,fY ?_⟩
   refine⟨_,rfl,f,_,dx,fs,_,rfl,h1,T.aX.c,T.aX.na.2.2.2.2.1,h2.has ("done",.ref D) (by simp),_,rfl,D,_,rfl,(by rw [<-k2];exact eY.k (k:=Sum.inr x) hD),?_⟩
   refine⟨_,rfl,f,_,dx,fs,_,rfl,h1,T.aX.c,T.aX.na.2.2.2.2.2.1,h2.has ("rows",.ref Rw) (by simp),_,rfl,Rw,_,rfl,(by rw [<-k1];exact eY.k (k:=Sum.inr x) hR),?_⟩
   refine⟨.ref l,vs'.length,rfl,.inl ⟨vs',k3,rfl⟩,rfl,?_⟩
   rw [show decide (V.int (g:Int)=V.int (vs'.length:Int))=decide (g=vs'.length) by rw [decide_eq_decide,V.int.injEq];omega]
   exact k
inductive wI (K:PySem.W.Frag) (t:jH) (vs:List V) (H:Hp) (Q:VK) (E_:XK):Prop where
 | mk:∀(f n E G Kp D Rw p:Addr) (ed gd:List (Key×V)) (i:Nat) (nm:V) (ns os:List V) (xs:List Str) (hv:Str->V),vs=[.ref f,.ref p]->qO K t H f n E G Kp D Rw->H E=some (.dK ed)->H G=some (.dK gd)->fJ K t H p i nm ns (xs.map V.str) os->xs.length<=3->((∀x∈xs,∃(l:Addr) (vs':List V) (g:Nat),b8 ed (Sum.inr x)=some (.ref l)/\b8 gd (Sum.inr x)=some (.int g)/\bL K H l vs'/\hv x=(vs'[g]?).getD .non))->(∀d,H d=none->Q (.ref d) (upd H d (.lst (xs.map hv))))->wI K t vs H Q E_
theorem wQ (T:Txt w K mg t):FO P w K mg base 3 t.sU ["self", "part"] (wI K t):=by
 have sc:=T.oK.sc ["self", "part"]
 refine T.oK.F.ok sc ln (fun _ _ _ _ H vs Q E hr h=>?_)
 obtain⟨f,n,E,G,Kp,D,Rw,p,ed,gd,i,nm,ns,os,xs,hv,rfl,N,hE,hG,hP,hx,hh,k⟩:=h
 refine⟨_,(aA (aN (fM [0] ["self", "part"] (aU (inClass (top 15) 6)) rfl (GJ (bB (pv 1) rfl)) (fun _ _ _ _ _=>gm) (fun _ _ _ _ _=>(zz (pv 1) T.aX T.aX.me.2.2.2.1 (Ih T) T.uo hr (aa (pv 0) ak aj)))))),?_⟩
 obtain⟨dx,fs,h1,h2⟩:=id N.ex
 obtain⟨dxp,tn,ti,to,p1,p2,p3,p4⟩:=id hP.ex
 have hz:sizeLine=16777216:=sizeLine_eq
 refine⟨_,rfl,p,_,dxp,_,_,rfl,p1,iQ T i,zL T i,vh _ _ _ _,ti,rfl,⟨_,p3⟩,?_⟩
 refine JM (K:=K) (a:=ti) (xs:=xs.map V.str) (fun j ys H'=>H'=H/\ys=(xs.take j).map hv) (by simp;omega) ⟨rfl,rfl⟩ (fun j ys H' ⟨_,e⟩=>by rw [e];simp;omega) (fun j ys H' _ ⟨e,_⟩=>by rw [e];exact p3) ?_ ?_
 ·rintro j y ys H' hy ⟨rfl,rfl⟩
  rw [List.getElem?_map] at hy
  obtain⟨x,hq,rfl⟩:=Option.map_eq_some_iff.mp hy
  obtain⟨l,vs',g,g1,g2,g3,g4⟩:=hh x (List.mem_of_getElem? hq)
  refine yes ⟨_,rfl,f,dx,fs,rfl,h1,h2.no _ (by decide +kernel),_,rfl,f,n,E,G,Kp,D,Rw,l,ed,gd,x,vs',g,rfl,N,hE,hG,g1,g2,g3,rfl,?_⟩
  rw [List.take_succ,hq,Option.toList_some,List.map_append,<-g4]
  rfl
 ·rintro ys H' ⟨rfl,rfl⟩ d hd
  rw [lM,List.take_length]
  exact k d hd
theorem PP (T:Txt w K mg t) (i:Nat):MethAt P w K mg base Cr 2 (cls t i) "lacks" (yt K t i):=match i with
 | 0=>⟨_,_,_,T.iI.c,(T.bK.me T.iI.me.2.2.2.1),T.bK.b,(dq T).imp fun _ _ _ _ h=>⟨_,h⟩⟩
 | 1=>⟨_,_,_,T.iH.c,(T.bK.me T.iH.me.2.2.2.1),T.bK.b,(dq T).imp fun _ _ _ _ h=>⟨_,h⟩⟩
 | 2=>⟨_,_,_,T.iT.c,(T.bK.me T.iT.me.2.2.2.1),T.bK.b,(dq T).imp fun _ _ _ _ h=>⟨_,h⟩⟩
 | 3=>⟨_,_,_,T.iR.c,(T.bK.me T.iR.me.2.2.2.1),T.bK.b,(dq T).imp fun _ _ _ _ h=>⟨_,h⟩⟩
 | 4=>⟨_,_,_,T.iC.c,(T.bK.me T.iC.me.2.2.2.1),T.bK.b,(dq T).imp fun _ _ _ _ h=>⟨_,h⟩⟩
 | 5=>⟨_,_,_,T.iG.c,(T.bK.me T.iG.me.2.2.2.1),T.bK.b,(dq T).imp fun _ _ _ _ h=>⟨_,h⟩⟩
 | 6=>⟨_,_,_,T.mV.c,(T.bK.me T.mV.me.2.2.2.1),T.bK.b,(dq T).imp fun _ _ _ _ h=>⟨_,h⟩⟩
 | 7=>⟨_,_,_,T.iK.c,(T.bK.me T.iK.me.2.2.2.1),T.bK.b,(dq T).imp fun _ _ _ _ h=>⟨_,h⟩⟩
 | 8=>⟨_,_,_,T.fO.c,(T.bK.me T.fO.me.2.2.2.1),T.bK.b,(dq T).imp fun _ _ _ _ h=>⟨_,h⟩⟩
 | 9=>⟨_,_,_,T.eE.c,(T.bK.me T.eE.me.2.2.2.1),T.bK.b,(dq T).imp fun _ _ _ _ h=>⟨_,h⟩⟩
 | n+10=>⟨_,_,_,T.fP.c,(T.bK.me T.fP.me.2.2.2.1),T.bK.b,(dq T).imp fun _ _ _ _ h=>⟨_,h⟩⟩
inductive tZ (K:PySem.W.Frag) (t:jH) (vs:List V) (H:Hp) (Q:VK) (E:XK):Prop where
 | mk:∀(A:oO) (ls:List aG) (ps:List PD) (S:FS) (p:PD),vs=[.ref A.f,.str p.name]->gW K t H A.n ls ps->dJ K t H A ls ps S->p∈ps->(∀H',aK H H'->Q (gQ p.kind p.ins (aV S p)) H')->tZ K t vs H Q E
theorem By (T:Txt w K mg t):FO P w K mg base 4 t.ph ["self", "name"] (tZ K t):=by
 have sc:=T.pG.sc ["self", "name", "part", "place"]
 refine T.pG.F.ok sc ln (fun _ _ _ _ H vs Q E hr h=>?_)
 obtain⟨A,ls,ps,S,p,rfl,N,W,hp,k⟩:=h
 refine⟨_,(az (sN sc 2 (zz (bB (pv 0) rfl) T.bz T.bz.me.2.2.2.2.2.2.2.2.2.1 (jN T) T.gY hr (aa (pv 1) ak aj)))
  (az (sN sc 3 (yp (CX:=Cr) (k:=2) (E:=E0) (pv 2) (hr.mono (by decide)) ir (aa (zz (pv 0) T.aX T.aX.me.2.2.2.2.2.1 (wQ T) T.oK hr (aa (pv 2) ak aj)) ak bf)))
  (aA (aN (ur (gj (vC (pv 3))) lG (aO cM (bB (pv 2) rfl) (pv 3) (fun _ _=>rfl))))))),?_⟩
 obtain⟨dxn,fsn,R,F,Pd,Gn,Tk,FL,PL,Wn⟩:=id N
 have F:=Wn.fit
 obtain⟨dx,fs,h1,h2⟩:=id W.at'.ex
 have hh1:∀{H':Hp},aK H H'->(∀x∈p.ins,∃(l:Addr) (vs':List V) (g:Nat),b8 (Je A.ea ls) (Sum.inr x)=some (.ref l)/\b8 (dC S.g ls) (Sum.inr x)=some (.int g)/\bL K H' l vs'/\kY S x=(vs'[g]?).getD .non):=fun s x hx=>by
  obtain⟨l,hl,rfl⟩:=F.inL hp (List.mem_append.mpr (.inl hx))
  exact⟨A.ea l.name,_,S.g l.name,lQ F.whole.nod hl,rP F.whole.nod hl,bL.of (s _ _ (W.lists l hl)),by unfold kY;rw [List.getElem?_map]⟩
 refine⟨_,rfl,A.f,_,dx,fs,_,rfl,h1,T.aX.c,T.aX.na.1,h2.has ("net",.ref A.n) (by simp),A.n,dxn,fsn,rfl,Wn.obj,Wn.fl.no _ (by decide +kernel),_,rfl,A.n,ls,ps,p.name,rfl,N,.inl ⟨p,hp,rfl,fun H1 q s1 P1=>?_⟩⟩
 obtain⟨dxp,tn,ti,to,p1,p2,p3,p4⟩:=id P1.ex
 have W1:=W.same s1
 have hI:=(F.pok p hp).2.2.1
 have hO:=o7 S p (F.pok p hp)
 refine⟨_,rfl,q,cls t p.kind,dxp,_,yt K t p.kind,rfl,p1,vZ _ _ _ _ (by decide +kernel) (by decide +kernel) (by decide +kernel) (by decide +kernel),PP T p.kind,?_⟩
 refine⟨_,rfl,A.f,dx,fs,rfl,s1 _ _ h1,h2.no _ (by decide +kernel),_,rfl,A.f,A.n,A.E,A.G,A.Kp,A.D,A.Rw,q,_,_,p.kind,_,_,_,p.ins,kY S,rfl,W1.at',W1.ever,W1.gone,P1,(by have:=Aq p.kind;omega),hh1 s1,fun d hd=>?_⟩
 have s2:aK H1 (upd H1 d (.lst (p.ins.map (kY S)))):=aB hd
 refine⟨q,d,_,_,_,_,aV S p,rfl,P1.same s2,by rw [lM];exact hI,bL.of au,hO,fun H3 s3=>?_⟩
 have s23:=s2.trans s3
 have k':=k H3 (s1.trans s23)
 have hlt:=gZ hO
 unfold gQ at k'
 unfold Mq
 cases hf:(places p.kind (aV S p)).find? (kJ (aV S p)) with
 | none=>
  rw [hf] at k'
  exact⟨_,rfl,_,rfl,fY k'⟩
 | some j=>
  rw [hf] at k'
  have hq:j <p.ins.length:=by have:=hlt j (List.mem_of_find?_eq_some hf);unfold aV at this;rwa [lM] at this
  have k':Q (V.str p.ins[j]) H3:=by simpa only [List.getElem?_eq_getElem hq,Option.map_some,Option.getD_some] using k'
  exact⟨_,rfl,_,rfl,dw ⟨_,rfl,q,_,dxp,_,_,rfl,s23 _ _ p1,iQ T p.kind,zL T p.kind,vh _ _ _ _,_,rfl,ti,p.ins.map V.str,j,_,rfl,rfl,s23.seqT p3,aM (j:=j) (by rw [List.getElem?_map,List.getElem?_eq_getElem hq];rfl),k'⟩⟩
theorem O9 (T:Txt w K mg t) {i:Nat} (hi:i <11):MethAt P w K mg base Cr 2 (cls t i) "worked" (eU K t i):=match i,hi with
 | 0,_=>⟨_,_,_,T.iI.c,(T.lY.me T.iI.me.2.2.2.2.1),T.lY.b,iU.mono (k:=2) (Ek T) (by decide)⟩
 | 1,_=>⟨_,_,_,T.iH.c,(T.lL.me T.iH.me.2.2.2.2.1),T.lL.b,iU.mono (k:=2) (Ec T) (by decide)⟩
 | 2,_=>⟨_,_,_,T.iT.c,(T.lX.me T.iT.me.2.2.2.2.1),T.lX.b,iU.mono (k:=2) (CV T) (by decide)⟩
 | 3,_=>⟨_,_,_,T.iR.c,(T.my.me T.iR.me.2.2.2.2.1),T.my.b,iU.mono (k:=2) (Dg T) (by decide)⟩
 | 4,_=>⟨_,_,_,T.iC.c,(T.mz.me T.iC.me.2.2.2.2.1),T.mz.b,iU.mono (k:=2) (Cy T) (by decide)⟩
 | 5,_=>⟨_,_,_,T.iG.c,(T.lN.me T.iG.me.2.2.2.2.1),T.lN.b,iU.mono (k:=2) (Ci T) (by decide)⟩
 | 6,_=>⟨_,_,_,T.mV.c,(T.oN.me T.mV.me.2.2.2.2.1),T.oN.b,iU.mono (k:=2) (Et T) (by decide)⟩
 | 7,_=>⟨_,_,_,T.iK.c,(T.mj.me T.iK.me.2.2.2.2.1),T.mj.b,iU.mono (k:=2) (Cv T) (by decide)⟩
 | 8,_=>⟨_,_,_,T.fO.c,(T.j8.me T.fO.me.2.2.2.2.1),T.j8.b,iU.mono (k:=2) (BJ T) (by decide)⟩
 | 9,_=>⟨_,_,_,T.eE.c,(T.jy.me T.eE.me.2.2.2.2.1),T.jy.b,iU.mono (k:=2) (zU T) (by decide)⟩
 | 10,_=>⟨_,_,_,T.fP.c,(T.jL.me T.fP.me.2.2.2.2.1),T.jL.b,iU.mono (k:=2) (Bv T) (by decide)⟩
theorem Xm (ns ws:List Int) (kp:Int):∀pv∈cH 0 ns ws kp,∃q:Nat,pv.1=(q:Int)/\q <cO 0:=by
 intro pv h
 simp [cH] at h
 subst h
 exact⟨0,rfl,by decide⟩
theorem Xw (ns ws:List Int) (kp:Int):∀pv∈cH 1 ns ws kp,∃q:Nat,pv.1=(q:Int)/\q <cO 1:=by
 intro pv h
 simp [cH] at h
theorem XS (ns ws:List Int) (kp:Int):∀pv∈cH 2 ns ws kp,∃q:Nat,pv.1=(q:Int)/\q <cO 2:=by
 intro pv h
 simp [cH] at h
 subst h
 exact⟨0,rfl,by decide⟩
theorem Xq (ns ws:List Int) (kp:Int):∀pv∈cH 3 ns ws kp,∃q:Nat,pv.1=(q:Int)/\q <cO 3:=by
 intro pv h
 simp [cH] at h
 rcases h with rfl | rfl
 ·exact⟨0,rfl,by decide⟩
 ·exact⟨1,rfl,by decide⟩
theorem Xe (ns ws:List Int) (kp:Int):∀pv∈cH 4 ns ws kp,∃q:Nat,pv.1=(q:Int)/\q <cO 4:=by
 intro pv h
 simp [cH] at h
 subst h
 exact⟨0,rfl,by decide⟩
theorem W9 (ns ws:List Int) (kp:Int):∀pv∈cH 5 ns ws kp,∃q:Nat,pv.1=(q:Int)/\q <cO 5:=by
 intro pv h
 simp [cH] at h
 subst h
 exact⟨0,rfl,by decide⟩
theorem Xa (ns ws:List Int) (kp:Int):∀pv∈cH 6 ns ws kp,∃q:Nat,pv.1=(q:Int)/\q <cO 6:=by
 intro pv h
 simp [cH] at h
 subst h
 exact⟨0,rfl,by decide⟩
theorem Ym (ns ws:List Int) (kp:Int):∀pv∈cH 7 ns ws kp,∃q:Nat,pv.1=(q:Int)/\q <cO 7:=by
 intro pv h
 simp [cH] at h
 subst h
 exact⟨0,rfl,by decide⟩
theorem X4 (ns ws:List Int) (kp:Int):∀pv∈cH 8 ns ws kp,∃q:Nat,pv.1=(q:Int)/\q <cO 8:=by
 intro pv h
 simp [cH] at h
 rcases h with rfl | rfl
 ·exact⟨0,rfl,by decide⟩
 ·exact⟨1,rfl,by decide⟩
theorem W3 (ns ws:List Int) (kp:Int):∀pv∈cH 9 ns ws kp,∃q:Nat,pv.1=(q:Int)/\q <cO 9:=by
 intro pv h
 simp [cH] at h
 subst h
 exact⟨0,rfl,by decide⟩
theorem V8 (ns ws:List Int) (kp:Int):∀pv∈cH 10 ns ws kp,∃q:Nat,pv.1=(q:Int)/\q <cO 10:=by
 intro pv h
 simp [cH] at h
 subst h
 have h0:=Int.emod_nonneg (g0 ws) (show(2:Int)≠0 by decide)
 have h1:=Int.emod_lt_of_pos (g0 ws) (show(0:Int) <2 by decide)
 exact⟨(g0 ws % 2).toNat,by show g0 ws % 2=_;omega,by show(g0 ws % 2).toNat <2;omega⟩
theorem Hb {i:Nat} (hi:i<=10) (ns ws:List Int) (kp:Int):∀pv∈cH i ns ws kp,∃q:Nat,pv.1=(q:Int)/\q <cO i:=by
 match i,hi with
 | 0,_=>exact Xm ns ws kp
 | 1,_=>exact Xw ns ws kp
 | 2,_=>exact XS ns ws kp
 | 3,_=>exact Xq ns ws kp
 | 4,_=>exact Xe ns ws kp
 | 5,_=>exact W9 ns ws kp
 | 6,_=>exact Xa ns ws kp
 | 7,_=>exact Ym ns ws kp
 | 8,_=>exact X4 ns ws kp
 | 9,_=>exact W3 ns ws kp
 | 10,_=>exact V8 ns ws kp
 | (n+11),z=>exact absurd z (by omega)
theorem Cj (i:Nat) (ns ws:List Int) (kp:Int):(cH i ns ws kp).length<=2:=match i with
 | 0=>by simp [cH]
 | 1=>by simp [cH]
 | 2=>by simp [cH]
 | 3=>by simp [cH]
 | 4=>by simp [cH]
 | 5=>by simp [cH]
 | 6=>by simp [cH]
 | 7=>by simp [cH]
 | 8=>by simp [cH]
 | 9=>by simp [cH]
 | n+10=>by simp [cH]
noncomputable def nameAt (xs:List Str) (q:Nat):V:=V.str ((xs[q]?).getD Str.empty)
theorem Vs {H:Hp} {Q:VK} {Ex:XK} {f n E G Kp D Rw:Addr} {rd dd:List (Key×V)} {y:Str} (N:qO K t H f n E G Kp D Rw) (hR:H Rw=some (.dK rd)) (hD:H D=some (.dK dd))
  (k:(b8 rd (Sum.inr y)=none/\Q (.bl false) H)∨∃(l:Addr) (vs':List V) (g:Nat),b8 rd (Sum.inr y)=some (.ref l)/\b8 dd (Sum.inr y)=some (.int g)/\bL K H l vs'/\Q (.bl (decide (g=vs'.length))) H):eQ K t [.ref f,.str y] H Q Ex:=by
 unfold eQ
 exact⟨f,n,E,G,Kp,D,Rw,rd,dd,y,rfl,N,hR,hD,k⟩
theorem Xz {i:Nat} (h0:i≠0) (hi:i <11) (h9:i≠9):cV i=cI i:=by
 match i,h0,hi with
 | 1,_,_=>rfl
 | 2,_,_=>rfl
 | 3,_,_=>rfl
 | 4,_,_=>rfl
 | 5,_,_=>rfl
 | 6,_,_=>rfl
 | 7,_,_=>rfl
 | 8,_,_=>rfl
 | 9,_,_=>exact absurd rfl h9
 | 10,_,_=>rfl
theorem Mg {S:FS} {p:PD} (ok:tM p) (hl:gQ p.kind p.ins (aV S p)=.non):∀q∈places p.kind (aV S p),∃x n,p.ins[q]?=some x/\(aV S p)[q]?=some (.int n)/\(S.ev x)[S.g x]?=some n:=by
 have hO:=o7 S p ok
 have hf:(places p.kind (aV S p)).find? (kJ (aV S p))=none:=by
  cases hf:(places p.kind (aV S p)).find? (kJ (aV S p)) with
  | none=>rfl
  | some j=>
   unfold gQ at hl
   rw [hf] at hl
   have hq:j <p.ins.length:=by have:=gZ hO j (List.mem_of_find?_eq_some hf);unfold aV at this;rwa [lM] at this
   simp only [List.getElem?_eq_getElem hq,Option.map_some,Option.getD_some] at hl
   cases hl
 intro q hq
 have h1:=List.find?_eq_none.mp hf q hq
 have hlt:=gZ hO q hq
 have hlt':q <p.ins.length:=by unfold aV at hlt;rwa [lM] at hlt
 have e:(aV S p)[q]?=some (kY S p.ins[q]):=by unfold aV;rw [List.getElem?_map,List.getElem?_eq_getElem hlt'];rfl
 refine⟨p.ins[q],?_⟩
 unfold kJ at h1
 rw [e] at h1 ⊢
 unfold kY at h1 ⊢
 cases h0:(S.ev p.ins[q])[S.g p.ins[q]]? with
 | none=>rw [h0] at h1;exact absurd (by simp) h1
 | some n=>exact⟨n,List.getElem?_eq_getElem hlt',by simp,rfl⟩
theorem Mt {b:Nat} {ls:List aG} {ps:List PD} {S:FS} (F:Ai ls ps) (O:Kg b ls ps S) {p:PD} (hp:p∈ps) (hl:gQ p.kind p.ins (aV S p)=.non) (he:xJ S p=false):(rA S p).length=cV p.kind/\Wg (rA S p)/\
  (p.kind≠0->(places p.kind (aV S p)).map (fun q=>((aV S p)[q]?).getD .non)=(rA S p).map V.int)/\(p.kind=0->∃w,(S.r p.name)[S.d p.name]?=some w/\rA S p=[w]):=by
 have ok:=F.pok p hp
 have hn:=Mg ok hl
 by_cases h0:p.kind=0
 ·have hd:=O.dl p hp h0
  have hlt:S.d p.name <(S.r p.name).length:=by
   unfold xJ at he
   simp [h0] at he
   omega
  have e:=List.getElem?_eq_getElem hlt
  have ew:rA S p=[(S.r p.name)[S.d p.name]]:=by unfold rA;rw [if_pos h0,e];rfl
  refine⟨by rw [ew,h0];rfl,fun w hw=>?_,fun z=>absurd h0 z,fun _=>⟨_,e,ew⟩⟩
  rw [ew,List.mem_singleton] at hw
  subst hw
  exact O.rb p hp h0 _ (List.getElem_mem hlt)
 ·have ew:rA S p=(places p.kind (aV S p)).map fun q=>Wq (((aV S p)[q]?).getD .non):=by unfold rA;rw [if_neg h0]
  refine⟨?_,fun w hw=>?_,fun _=>?_,fun z=>absurd z h0⟩
  ·rw [ew,lM]
   by_cases h9:p.kind=9
   ·have h3:=hn
    unfold places at h3 ⊢
    rw [if_pos h9] at h3 ⊢
    split
    ·rw [h9];rfl
    ·rename_i hno
     obtain⟨x,n,_,h3,_⟩:=h3 0 (by split <;> simp)
     cases hs:aV S p with
     | nil=>rw [hs] at h3;cases h3
     | cons a r=>
      rw [hs] at h3
      have:a=.int n:=by simpa using h3
      exact absurd (by rw [hs,this]) (hno n r)
   ·unfold places
    rw [if_neg h9,List.length_range,(o7 S p ok).1,Xz h0 ok.1 h9]
  ·rw [ew] at hw
   obtain⟨q,hq,rfl⟩:=List.mem_map.mp hw
   obtain⟨x,n,hx,h3,h4⟩:=hn q hq
   rw [h3]
   show 0<=n/\n <1000000000
   obtain⟨l,hll,rfl⟩:=F.inL hp (List.mem_append.mpr (.inl (List.mem_of_getElem? hx)))
   exact O.vb l hll n (List.mem_of_getElem? h4)
  ·rw [ew,List.map_map]
   refine List.map_congr_left fun q hq=>?_
   obtain⟨x,n,_,h3,_⟩:=hn q hq
   show _=V.int (Wq _)
   rw [h3]
   rfl
theorem Cu {S:FS} {p:PD} (h:gQ p.kind p.ins (aV S p)≠.non):j9 S p=none:=by unfold j9;rw [if_pos h]
theorem Ft {S:FS} {p:PD} (h:xJ S p=true):j9 S p=none:=by unfold j9;split <;> simp [h]
inductive wJ (K:PySem.W.Frag) (t:jH) (vs:List V) (H:Hp) (Q:VK):Prop where
 | mk:∀(b:Nat) (A:oO) (ls:List aG) (ps:List PD) (S:FS) (p:PD),vs=[.ref A.f,.str p.name]->gW K t H A.n ls ps->dJ K t H A ls ps S->p∈ps->Kg b ls ps S->((j9 S p=none->∀H',aK H H'->Q .non H'))->(∀dd,j9 S p=some dd->∀H' U,aK H H'->H U=none->jZ (A.cells ls ps) H' U dd->Q (.ref U) H')->wJ K t vs H Q
@[irreducible] noncomputable def jX (K:PySem.W.Frag) (t:jH):Sp:=fun vs H Q _=>wJ K t vs H Q
noncomputable abbrev qu:List Str:=["self", "name", "part", "heads", "places", "values", "answer", "given"]
theorem Hh (T:Txt w K mg t):FO P w K mg base 5 t.uN ["self", "name"] (jX K t):=by
 have sc:=T.uC.sc qu
 refine T.uC.F.ok sc (fun vs H Q E h=>?_) (fun cdv A outer s H vs Q E hr h=>?_)
 ·unfold jX at h
  obtain⟨b,A,ls,ps,S,p,rfl,_⟩:=h
  rfl
 ·unfold jX at h
  obtain⟨b,A,ls,ps,S,p,rfl,N,W,hp,O,kn,k⟩:=h
  refine⟨_,(az (bR (PW.pt (wM (gj (vW (zz (pv 0) T.aX T.aX.me.2.2.2.2.2.2.1 (By T) T.pG hr (aa (pv 1) ak aj)))) (qK (jj (zz (pv 0) T.aX T.aX.me.2.2.2.2.1 (yS T) T.lK hr (aa (pv 1) ak aj))))))
    (aA (aN lG))
    aY)
   (az (sN sc 2 (zz (bB (pv 0) rfl) T.bz T.bz.me.2.2.2.2.2.2.2.2.2.1 (jN T) T.gY hr (aa (pv 1) ak aj)))
   (az (sN sc 3 (zz (pv 0) T.aX T.aX.me.2.2.2.2.2.1 (wQ T) T.oK hr (aa (pv 2) ak aj)))
   (az (sN sc 4 (yp (CX:=Cr) (k:=1) (E:=E0) (pv 2) (hr.mono (by decide)) ir (aa (pv 3) ak aj)))
   (az (j4 (i:=5) [3] qu (aU (inClass (top 15) 9)) rfl sc.nd rfl (bW (pv 4)) (fun _ _ _ _ _=>gm) (fun _ _ _ _ _=>(aO (uR (K:=K) rfl) (pv 1) (pv 0) (fun _ _=>rfl))))
   (az (fL (bR (gj (zF hr.u1 (pv 1) (bB (pv 0) rfl)))
    (aA (sN sc 5 (bx (aa (aO aQ (bH hr.u1 (bB (pv 0) rfl) (pv 1) (fun _ _=>rfl)) (bH hr.u1 (bB (pv 0) rfl) (pv 1) (fun _ _=>rfl)) (fun _ _=>rfl)) ak aF))))
    aY))
   (az (sN sc 6 (yp (CX:=Cr) (k:=2) (E:=E0) (pv 2) (hr.mono (by decide)) ir (aa (pv 5) (aa (bH hr.u1 (bB (pv 0) rfl) (pv 1) (fun _ _=>rfl)) ak aF) aj)))
   (az (Qv (i:=7) ["place", "value"] [2] qu (aU (inClass (top 15) 9)) rfl sc.nd rfl (bW (aO cM (pv 6) aq (fun _ _=>rfl))) (fun _ _ _ _ _=>vM (K:=K) (n:=2) rfl rfl (bD (iy (i:=0) (show(["place", "value", "part"]:List Str).Nodup by decide +kernel) rfl (Or.inl rfl) (.inr rfl)) (bD (iy (i:=1) (show(["place", "value", "part"]:List Str).Nodup by decide +kernel) rfl (Or.inl rfl) (.inr rfl)) fc))) (fun _ _ _ _ _=>gm) (fun _ _ _ _ _=>(bV (aa (aO (jQ (K:=K) rfl) (HW (K:=K) rfl (pv 2) rfl) (pv 0) (fun _ _=>rfl)) (aa (pv 1) ak aj) aF))))
   (aA (aN (bV (aa (fM [2] qu (aU (inClass (top 15) 9)) rfl (bW (pv 4)) (fun _ _ _ _ _=>gm) (fun _ _ _ _ _=>(aO (jQ (K:=K) rfl) (HW (K:=K) rfl (pv 1) rfl) (pv 0) (fun _ _=>rfl)))) (aa (pv 7) (aa (aO cM (pv 6) aq (fun _ _=>rfl)) ak aF) aj) d7)))))))))))),?_⟩
  obtain⟨dxn,fsn,R,F,Pd,Gn,Tk,FL,PL,Wn⟩:=id N
  have F:=Wn.fit
  obtain⟨dx,fs,h1,h2⟩:=id W.at'.ex
  have ok:=F.pok p hp
  have hO:=o7 S p ok
  have hI:=ok.2.2.1
  have hh1:∀{H':Hp},aK H H'->(∀x∈p.ins,∃(l:Addr) (vs':List V) (g:Nat),b8 (Je A.ea ls) (Sum.inr x)=some (.ref l)/\b8 (dC S.g ls) (Sum.inr x)=some (.int g)/\bL K H' l vs'/\kY S x=(vs'[g]?).getD .non):=fun s x hx=>by
   obtain⟨l,hl,rfl⟩:=F.inL hp (List.mem_append.mpr (.inl hx))
   exact⟨A.ea l.name,_,S.g l.name,lQ F.whole.nod hl,rP F.whole.nod hl,bL.of (s _ _ (W.lists l hl)),by unfold kY;rw [List.getElem?_map]⟩
  have hz:sizeLine=16777216:=sizeLine_eq
  have hpl:(places p.kind (aV S p)).length<=3:=places_len hO
  refine⟨_,rfl,A.f,dx,fs,rfl,h1,h2.no _ (by decide +kernel),_,rfl,A,ls,ps,S,p,rfl,N,W,hp,fun H1 s1=>?_⟩
  by_cases hlk:gQ p.kind p.ins (aV S p)≠.non
  ·have e:(!decide (gQ p.kind p.ins (aV S p)=V.non))=true:=by simp [hlk]
   refine⟨_,rfl,?_⟩
   rw [e]
   exact fY (fY (kn (Cu hlk) H1 s1))
  have hlk:=Classical.not_not.mp hlk
  rw [hlk]
  have W1:=W.same s1
  refine⟨_,rfl,dw ⟨_,rfl,A.f,dx,fs,rfl,s1 _ _ h1,h2.no _ (by decide +kernel),_,rfl,?_⟩⟩
  have vd:=lH (k:=fun x=>(S.d x:Int)) F.pnd hp
  cases he:xJ S p with
  | true=>
   have h0:p.kind=0/\S.d p.name=(S.r p.name).length:=by unfold xJ at he;simpa using he
   refine Vs W1.at' W1.rows W1.done (.inr ⟨_,_,S.d p.name,DP F.pnd hp h0.1,vd,bL.of (W1.rlst p hp h0.1),?_⟩)
   rw [decide_eq_true (by rw [lM];exact h0.2)]
   exact⟨_,rfl,fY (kn (Ft he) H1 s1)⟩
  | false=>
  obtain⟨lw,hB,hv,hw0⟩:=Mt F O hp hlk he
  have k':=k _ (show j9 S p=some _ by unfold j9;rw [if_neg (by simp [hlk]),if_neg (by simp [he])])
  have hwl:=Hb (show p.kind<=10 by have:=ok.1;omega) p.nums (rA S p) (S.k p.name)
  have hw2:=Cj p.kind p.nums (rA S p) (S.k p.name)
  have pick:∀(Q':VK) (E':XK),Q' (.bl false) H1->eQ K t [.ref A.f,.str p.name] H1 Q' E':=by
   intro Q' E' z
   refine Vs W1.at' W1.rows W1.done ?_
   by_cases h0:p.kind=0
   ·refine .inr ⟨_,_,S.d p.name,DP F.pnd hp h0,vd,bL.of (W1.rlst p hp h0),?_⟩
    obtain⟨w,ew,_⟩:=hw0 h0
    have:=(List.getElem?_eq_some_iff.mp ew).1
    rw [decide_eq_false (by rw [lM];omega)]
    exact z
   ·exact .inl ⟨Nb F.pnd hp h0,z⟩
  refine pick _ _ ?_
  clear pick
  refine⟨_,rfl,dw ?_⟩
  have Wn1:=Wn.same s1
  refine⟨_,rfl,A.f,_,dx,fs,_,rfl,s1 _ _ h1,T.aX.c,T.aX.na.1,h2.has ("net",.ref A.n) (by simp),A.n,dxn,fsn,rfl,Wn1.obj,Wn1.fl.no _ (by decide +kernel),_,rfl,A.n,ls,ps,p.name,rfl,Wn1.s,.inl ⟨p,hp,rfl,fun H2 q s2' hP=>?_⟩⟩
  have s2:=s1.trans s2'
  have W2:=W.same s2
  obtain⟨dxp,tn,ti,to,p1,p2,p3,p4⟩:=id hP.ex
  clear s2' W1 Wn1
  refine⟨_,rfl,A.f,dx,fs,rfl,s2 _ _ h1,h2.no _ (by decide +kernel),_,rfl,A.f,A.n,A.E,A.G,A.Kp,A.D,A.Rw,q,_,_,p.kind,_,_,_,p.ins,kY S,rfl,W2.at',W2.ever,W2.gone,hP,(by have:=Aq p.kind;omega),hh1 s2,fun d hd=>?_⟩
  have s3':=aB (o:=.lst (aV S p)) hd
  have ed3:(upd H2 d (.lst (p.ins.map (kY S)))) d=some (.lst (aV S p)):=au
  change aK H2 (upd H2 d (.lst (p.ins.map (kY S)))) at s3'
  generalize upd H2 d (.lst (p.ins.map (kY S)))=H3 at s3' ed3 ⊢
  have s3:=s2.trans s3'
  refine⟨_,rfl,q,cls t p.kind,dxp,_,oX K t p.kind,rfl,s3' _ _ p1,vZ _ _ _ _ (by decide +kernel) (by decide +kernel) (by decide +kernel) (by decide +kernel),Fv T p.kind,_,rfl,q,d,_,_,_,_,aV S p,rfl,hP.same s3',by rw [lM];exact hI,bL.of ed3,hO,fun H4 L s4' nL eL=>?_⟩
  have s24:=s3'.trans s4'
  have s4:=s3.trans s4'
  have ed4:=s4' _ _ ed3
  refine⟨_,rfl,L,rfl,⟨_,bL.of eL⟩,fu (K:=K) (a:=L) (xs:=(places p.kind (aV S p)).map nV) (fun j ys H'=>H'=H4/\ys=((places p.kind (aV S p)).take j).map (fun q=>((aV S p)[q]?).getD .non)) (by rw [lM];omega) ⟨rfl,rfl⟩ (fun j ys H' ⟨_,e⟩=>by rw [e,lM,List.length_take];omega) (fun j ys H' _ ⟨e,_⟩=>by rw [e];exact bL.of eL) ?_ ?_⟩
  ·rintro j v ys H' hv' ⟨e',rfl⟩
   subst e'
   rw [List.getElem?_map] at hv'
   obtain⟨r,hr',rfl⟩:=Option.map_eq_some_iff.mp hv'
   have hql:r <(aV S p).length:=gZ hO r (List.mem_of_getElem? hr')
   refine yes ⟨_,rfl,_,rfl,d,aV S p,r,_,rfl,rfl,bL.of ed4,aM (j:=r) (List.getElem?_eq_getElem hql),rfl,?_⟩
   rw [List.take_succ,hr',Option.toList_some,List.map_append,List.map_cons,List.map_nil,List.getElem?_eq_getElem hql]
   rfl
  rintro ys H' ⟨e',rfl⟩ V1 hV1
  subst e'
  rw [lM,List.take_length]
  have s5':=aB (o:=.lst ((places p.kind (aV S p)).map fun q=>((aV S p)[q]?).getD .non)) hV1
  have eV:(upd H' V1 (.lst ((places p.kind (aV S p)).map fun q=>((aV S p)[q]?).getD .non))) V1=some (.lst ((places p.kind (aV S p)).map fun q=>((aV S p)[q]?).getD .non)):=au
  generalize upd H' V1 (.lst ((places p.kind (aV S p)).map fun q=>((aV S p)[q]?).getD .non))=H5 at s5' eV ⊢
  have s25:=s24.trans s5'
  have s5:=s4.trans s5'
  have W5:=W.same s5
  refine⟨fun σ' H6=>∃V2,aK H H6/\aK H2 H6/\aK H' H6/\σ'=[some (.ref A.f),some (.str p.name),some (.ref q),some (.ref d),some (.ref L),some (.ref V2),none,none]/\H6 V2=some (.lst ((rA S p).map V.int)),?_,?_⟩
  ·refine⟨_,rfl,_,rfl,A.f,_,dx,fs,_,rfl,s5 _ _ h1,T.aX.c,T.aX.na.2.2.2.2.2.1,h2.has ("rows",.ref A.Rw) (by simp),A.Rw,_,rfl,eY.k (k:=Sum.inr p.name) W5.rows,?_⟩
   by_cases h0:p.kind=0
   ·obtain⟨w,ew,eW⟩:=hw0 h0
    have v1:=DP (ra:=A.ra) F.pnd hp h0
    rw [v1,eW]
    refine⟨_,rfl,fY ?_⟩
    refine⟨_,rfl,A.f,_,dx,fs,_,rfl,s5 _ _ h1,T.aX.c,T.aX.na.2.2.2.2.2.1,h2.has ("rows",.ref A.Rw) (by simp),_,rfl,A.Rw,_,rfl,(by rw [<-v1];exact eY.k (k:=Sum.inr p.name) W5.rows),?_⟩
    refine⟨_,rfl,A.f,_,dx,fs,_,rfl,s5 _ _ h1,T.aX.c,T.aX.na.2.2.2.2.1,h2.has ("done",.ref A.D) (by simp),_,rfl,A.D,_,rfl,(by rw [<-vd];exact eY.k (k:=Sum.inr p.name) W5.done),?_⟩
    refine⟨A.ra p.name,_,S.d p.name,_,rfl,rfl,bL.of (W5.rlst p hp h0),aM (j:=S.d p.name) (by rw [List.getElem?_map,ew];rfl),iW,fun V2 hV2=>?_⟩
    exact⟨V2,s5.trans (aB hV2),s25.trans (aB hV2),s5'.trans (aB hV2),rfl,au⟩
   ·rw [Nb F.pnd hp h0]
    exact⟨_,rfl,dw ⟨V1,s5,s25,s5',rfl,by rw [<-hv h0];exact eV⟩⟩
  rintro σ' H6 ⟨V2,s6,s26,s46,rfl,eV2⟩
  clear W5 W2 s25 s24 s5 s5' s4 s3 s3' eV ed4 ed3
  have W6:=W.same s6
  have hkp:=lH (k:=S.k) F.pnd hp
  refine⟨_,rfl,q,cls t p.kind,dxp,_,eU K t p.kind,rfl,s26 _ _ p1,vZ _ _ _ _ (by decide +kernel) (by decide +kernel) (by decide +kernel) (by decide +kernel),O9 T ok.1,_,rfl,_,rfl,A.f,_,dx,fs,_,rfl,s6 _ _ h1,T.aX.c,T.aX.na.2.2.2.1,h2.has ("kept",.ref A.Kp) (by simp),_,rfl,A.Kp,_,rfl,(by rw [<-hkp];exact eY.k (k:=Sum.inr p.name) W6.kept),?_⟩
  refine⟨q,V2,_,p.nums,_,_,rA S p,S.k p.name,rfl,hP.same s26,ok.2.1,bL.of eV2,lw,hB,fun H7 U0 L0 rs s7 nL0 eU0 eL0 tU=>?_⟩
  have s57:=s6.trans s7
  have s27:=s26.trans s7
  have eL7:=s7 _ _ (s46 _ _ eL)
  have hlr:rs.length=(cH p.kind p.nums (rA S p) (S.k p.name)).length:=by have:=Paired.length tU;unfold BW at this;rw [lM] at this;exact this
  clear W6
  refine⟨_,rfl,U0,_,0,_,rfl,rfl,eN.of eU0,aM (j:=0) rfl,L0,rfl,⟨_,bL.of eL0⟩,?_⟩
  refine rW (K:=K) (a:=L0) (xs:=rs.map V.ref) (fun j ys H8=>aK H7 H8/\∃qs:List Addr,ys=qs.map V.ref/\fH H8 qs (((cH p.kind p.nums (rA S p) (S.k p.name)).take j).map fun pv=>[.str (strAt p.outs pv.1.toNat),.int pv.2])) (by rw [lM];omega) ⟨aK.refl _,[],rfl,.nil⟩ ?_ (fun j ys H8 _ ⟨e,_⟩=>e.seq (bL.of eL0)) ?_ ?_
  ·rintro j ys H8 ⟨_,qs,rfl,tq⟩
   have:=Paired.length tq
   rw [lM,List.length_take] at this
   rw [lM]
   omega
  ·rintro j v ys H8 hj ⟨s8,qs,rfl,tq⟩
   rw [List.getElem?_map] at hj
   obtain⟨r,hr',rfl⟩:=Option.map_eq_some_iff.mp hj
   have hjl:j <(cH p.kind p.nums (rA S p) (S.k p.name)).length:=by have:=(List.getElem?_eq_some_iff.mp hr').1;omega
   obtain⟨pv,hpv⟩:∃pv,(cH p.kind p.nums (rA S p) (S.k p.name))[j]?=some pv:=⟨_,List.getElem?_eq_getElem hjl⟩
   have hr2:H7 r=some (.tup [.int pv.1,.int pv.2]):=by
    obtain⟨vs2,z1,z2⟩:=rR tU hr'
    unfold BW at z1
    rw [List.getElem?_map,hpv] at z1
    cases z1
    exact z2
   obtain⟨o,ho1,ho2⟩:=hwl _ (List.mem_of_getElem? hpv)
   have ho3:o <p.outs.length:=by rw [ok.2.2.2.1];exact ho2
   have hn:strAt p.outs o=p.outs[o]:=by unfold strAt;rw [List.getElem?_eq_getElem ho3];rfl
   refine⟨r,_,rfl,eN.of (s8 _ _ hr2),rfl,_,_,rfl,_,_,rfl,rfl,rfl,?_⟩
   refine yes ⟨_,rfl,q,_,dxp,_,_,rfl,s8 _ _ (s27 _ _ p1),iQ T p.kind,Ir T p.kind,Fp _ _ _ _,_,rfl,to,p.outs.map V.str,_,.str (strAt p.outs o),rfl,rfl,s8.seqT (s27.seqT p4),?_,_,rfl,iW,fun u hu=>⟨s8.trans (aB hu),qs ++ [u],by simp,?_⟩⟩
   ·rw [ho1,hn]
    exact aM (j:=o) (by rw [List.getElem?_map,List.getElem?_eq_getElem ho3];rfl)
   ·rw [List.take_succ,hpv,Option.toList_some,List.map_append]
    refine(fH.same (aB hu) tq).append (.cons ?_ .nil)
    show upd H8 u _ u=some (HO.tup [V.str (strAt p.outs pv.1.toNat),V.int pv.2])
    rw [ho1,Int.toNat_natCast]
    exact au
  rintro ys H8 ⟨s8,qs,rfl,tq⟩ Lg hLg
  rw [lM,hlr,List.take_length] at tq
  have t9:=aB (o:=.lst (qs.map V.ref)) hLg
  have s9':=s8.trans t9
  have tq9:=fH.same t9 tq
  have eLg:(upd H8 Lg (.lst (qs.map V.ref))) Lg=some (.lst (qs.map V.ref)):=au
  generalize upd H8 Lg (.lst (qs.map V.ref))=H9 at t9 s9' tq9 eLg ⊢
  have s9:=s57.trans s9'
  have s29:=s27.trans s9'
  have eL9:=s9' _ _ eL7
  have eU9:=s9' _ _ eU0
  refine⟨_,rfl,L,rfl,⟨_,bL.of eL9⟩,fu (K:=K) (a:=L) (xs:=(places p.kind (aV S p)).map nV) (fun j ys H'=>H'=H9/\ys=((places p.kind (aV S p)).take j).map (fun q=>V.str (strAt p.ins q))) (by rw [lM];omega) ⟨rfl,rfl⟩ (fun j ys H' ⟨_,e⟩=>by rw [e,lM,List.length_take];omega) (fun j ys H' _ ⟨e,_⟩=>by rw [e];exact bL.of eL9) ?_ ?_⟩
  ·rintro j v ys HX hv' ⟨e',rfl⟩
   subst e'
   rw [List.getElem?_map] at hv'
   obtain⟨r,hr',rfl⟩:=Option.map_eq_some_iff.mp hv'
   have hql:r <p.ins.length:=by have:=gZ hO r (List.mem_of_getElem? hr');unfold aV at this;rwa [lM] at this
   have hn:strAt p.ins r=p.ins[r]:=by unfold strAt;rw [List.getElem?_eq_getElem hql];rfl
   refine yes ⟨_,rfl,q,_,dxp,_,_,rfl,s29 _ _ p1,iQ T p.kind,zL T p.kind,vh _ _ _ _,_,rfl,ti,p.ins.map V.str,r,.str (strAt p.ins r),rfl,rfl,s29.seqT p3,by rw [hn];exact aM (j:=r) (by rw [List.getElem?_map,List.getElem?_eq_getElem hql];rfl),rfl,?_⟩
   rw [List.take_succ,hr',Option.toList_some,List.map_append]
   rfl
  rintro ys H10 ⟨e',rfl⟩ La hLa
  subst e'
  rw [lM,List.take_length]
  have s10':=aB (o:=.lst ((places p.kind (aV S p)).map fun q=>V.str (strAt p.ins q))) hLa
  refine⟨_,rfl,_,rfl,U0,_,1,_,rfl,rfl,eN.of (s10' _ _ eU9),aM (j:=1) rfl,iW,fun U hU=>?_⟩
  refine k' _ U ((s9.trans s10').trans (aB hU)) ((s9.trans s10').free hU) ⟨La,Lg,qs,au,?_,aB hU _ _ (s10' _ _ eLg),?_,W.cell (s9.free hLa),W.cell ((s57.trans s8).free hLg)⟩
  ·rw [List.map_map]
   exact aB hU _ _ au
  ·rw [List.map_map]
   exact fH.same (s10'.trans (aB hU)) tq9
theorem Ny (g:Str->Nat) {ls:List aG} {x:Str} (hx:x∈ls.map (·.name)) (v:Nat):putK (dC g ls) (Sum.inr x) (.int (v:Nat))=dC (fun y=>if y=x then v else g y) ls:=by
 unfold putK
 rw [if_pos (by
  obtain⟨l,hl,rfl⟩:=List.mem_map.mp hx
  exact List.any_eq_true.mpr ⟨_,List.mem_map.mpr ⟨l,hl,rfl⟩,by simp⟩)]
 unfold dC
 rw [List.map_map]
 refine List.map_congr_left fun l _=>?_
 by_cases h:l.name=x
 ·simp [h]
 ·simp [h]
theorem vL (g:Str->Int) {ps:List PD} {x:Str} (hx:x∈ps.map (·.name)) (v:Int):putK (bC g ps) (Sum.inr x) (.int v)=bC (fun y=>if y=x then v else g y) ps:=by
 unfold putK
 rw [if_pos (by
  obtain⟨l,hl,rfl⟩:=List.mem_map.mp hx
  exact List.any_eq_true.mpr ⟨_,List.mem_map.mpr ⟨l,hl,rfl⟩,by simp⟩)]
 unfold bC
 rw [List.map_map]
 refine List.map_congr_left fun l _=>?_
 by_cases h:l.name=x
 ·simp [h]
 ·simp [h]
noncomputable def tY (S:FS) (x:Str) (dd:ji):FS:=⟨fun y=>S.ev y ++ (dd.gv.filter fun q=>decide (q.1=y)).map (·.2),fun y=>if y∈dd.tk then S.g y+1 else S.g y,fun y=>if y=x then dd.kv else S.k y,fun y=>if y=x then S.d y+1 else S.d y,S.r⟩
noncomputable def pX (M:List Addr) (H H':Hp):Prop:=∀b,b∉M->H' b=H b
structure Cg (ls:List aG) (dd:ji):Prop where
 ntk:dd.tk.Nodup
 tin:∀x∈dd.tk,x∈ls.map (·.name)
 gin:∀q∈dd.gv,q.1∈ls.map (·.name)
 g2:dd.gv.length<=2
inductive Af (K:PySem.W.Frag) (t:jH) (vs:List V) (H:Hp) (Q:VK):Prop where
 | mk:∀(b:Nat) (A:oO) (ls:List aG) (ps:List PD) (S:FS) (p:PD) (U:Addr) (dd:ji),vs=[.ref A.f,.str p.name,.ref U]->Ai ls ps->dJ K t H A ls ps S->p∈ps->((∀l∈ls,(S.ev l.name).length<=b))->b<=100000->jZ (A.cells ls ps) H U dd->Cg ls dd->(∀H',pX (A.cells ls ps) H H'->dJ K t H' A ls ps (tY S p.name dd)->Q .non H')->Af K t vs H Q
@[irreducible] noncomputable def pA (K:PySem.W.Frag) (t:jH):Sp:=fun vs H Q _=>Af K t vs H Q
theorem Kl (T:Txt w K mg t):FO P w K mg base 1 t.zK ["self", "name", "deed"] (pA K t):=by
 have sc:=T.zQ.sc ["self", "name", "deed", "lane", "value"]
 refine T.zQ.F.ok sc (fun vs H Q E h=>?_) (fun cdv A outer s H vs Q E hr h=>?_)
 ·unfold pA at h
  obtain⟨b,A,ls,ps,S,p,U,dd,rfl,_⟩:=h
  rfl
 ·unfold pA at h
  obtain⟨b,A,ls,ps,S,p,U,dd,rfl,F,W,hp,O,hb,⟨La,Lg,rs,hU,hLa,hLg,hT,na,ng⟩,⟨ntk,hin,hout,hg2⟩,k⟩:=h
  refine⟨_,(az (dg PassesOwn.never rfl (bW (aO cM (pv 2) aq (fun _ _=>rfl))) (gN sc 3)
    (aA (Iu hr.u1 (bB (pv 0) rfl) (pv 3) aq BR (fun _ _ _=>rfl))))
   (az (dg PassesOwn.never rfl (bW (aO cM (pv 2) aq (fun _ _=>rfl))) (jJ rfl (bD (gN sc 3) (bD (gN sc 4) fc)))
    (aA (bM (Ew (bH hr.u1 (bB (pv 0) rfl) (pv 3) (fun _ _=>rfl)) (aa (pv 4) ak aj)))))
   (az (eX hr.u1 (bB (pv 0) rfl) (pv 1) (aO cM (pv 2) aq (fun _ _=>rfl)) rfl)
   (aA (Iu hr.u1 (bB (pv 0) rfl) (pv 1) aq BR (fun _ _ _=>rfl)))))),?_⟩
  have hl:sizeLine=16777216:=sizeLine_eq
  have l24:=F.l24
  have p16:=F.p16
  obtain⟨dx,fs,h1,h2⟩:=id W.at'.ex
  have hG:=W.gone
  have hn:=W.nod
  unfold oO.cells at hn na ng
  simp only [List.nodup_cons,List.mem_cons,List.mem_append,not_or] at hn na ng
  obtain⟨⟨nEG,nEK,nED,nER,nEE,nE2⟩,⟨nGK,nGD,nGR,nGE,nG2⟩,⟨nKD,nKR,nKE,nK2⟩,⟨nDR,nDE,nD2⟩,⟨nRE,nR2⟩,nA⟩:=hn
  obtain⟨nE1,nR1,nER1⟩:=List.nodup_append.mp nA
  refine⟨_,rfl,U,_,0,_,rfl,rfl,eN.of hU,aM (j:=0) rfl,La,rfl,⟨_,bL.of hLa⟩,cY (K:=K) (a:=La) (xs:=dd.tk.map V.str) (fun j σ H'=>H'=upd H A.G (.dK (dC (fun x=>if x∈dd.tk.take j then S.g x+1 else S.g x) ls))/\∃v3,σ=[some (.ref A.f),some (.str p.name),some (.ref U),v3,none]) ⟨?_,none,rfl⟩ ?_ ?_ ?_⟩
  ·have:dC (fun x=>if x∈dd.tk.take 0 then S.g x+1 else S.g x) ls=dC S.g ls:=by simp
   rw [this,Jb hG]
  ·rintro j σ H' _ ⟨rfl,_⟩
   exact bL.of (jC hG hLa (by intro _ z;cases z))
  ·rintro j x σ H' hx ⟨rfl,v3,rfl⟩
   rw [List.getElem?_map] at hx
   obtain⟨y,hy,rfl⟩:=Option.map_eq_some_iff.mp hx
   have hym:=hin y (List.mem_of_getElem? hy)
   have nin:y∉dd.tk.take j:=by
    have:=jt (f:=id) (xs:=dd.tk) (by rw [List.map_id];exact ntk) hy
    rwa [List.map_id] at this
   have vg:b8 (dC (fun x=>if x∈dd.tk.take j then S.g x+1 else S.g x) ls) (Sum.inr y)=some (.int ((S.g y:Nat):Int)):=by
    obtain⟨l,hl',rfl⟩:=List.mem_map.mp hym
    rw [rP F.whole.nod hl',if_neg nin]
   refine⟨_,rfl,A.f,_,dx,fs,_,rfl,jC hG h1 (by intro _ z;cases z),T.aX.c,T.aX.na.2.2.1,h2.has ("gone",.ref A.G) (by simp),_,rfl,A.G,.int ((S.g y:Nat):Int),rfl,(by rw [<-vg];exact eY.k (k:=Sum.inr y) au),_,_,rfl,rfl,_,km.k (k:=Sum.inr y) au (by unfold dC;rw [lM];omega),?_,_,rfl⟩
   rw [sX]
   show upd H A.G (.dK (putK _ (Sum.inr y) (.int ((S.g y+1:Nat):Int))))=_
   rw [Ny _ hym (S.g y+1)]
   have:(fun z=>if z=y then S.g y+1 else if z∈dd.tk.take j then S.g z+1 else S.g z)=fun z=>if z∈dd.tk.take (j+1) then S.g z+1 else S.g z:=by
    funext z
    simp only [List.take_succ,hy,Option.toList_some,List.mem_append,List.mem_singleton]
    by_cases h3:z=y <;> by_cases h4:z∈dd.tk.take j <;> simp [h3,h4]
   rw [this]
  rintro σ H' ⟨rfl,v3,rfl⟩
  rw [lM,List.take_length]
  have m1:pX [A.G] H (upd H A.G (.dK (dC (tY S p.name dd).g ls))):=fun b hb=>aH (by simpa using hb)
  have gG:upd H A.G (.dK (dC (tY S p.name dd).g ls)) A.G=some (.dK (dC (tY S p.name dd).g ls)):=au
  change xR _ _ _ _ (upd H A.G (.dK (dC (tY S p.name dd).g ls)))
  generalize upd H A.G (.dK (dC (tY S p.name dd).g ls))=H1 at m1 gG ⊢
  have g1:∀{b:Addr} {u:HO},H b=some u->(∀ks,u≠.dK ks)->H1 b=some u:=fun {b u} h hu=>by
   rw [m1 b (by rw [List.mem_singleton];rintro rfl;rw [hG] at h;exact hu _ (Option.some.inj h).symm)]
   exact h
  have hlr:rs.length=dd.gv.length:=by have:=Paired.length hT;rw [lM] at this;exact this
  have eE1:H1 A.E=some (.dK (Je A.ea ls)):=by rw [m1 A.E (by simpa using nEG)];exact W.ever
  have lists1:∀l∈ls,H1 (A.ea l.name)=some (.lst ((S.ev l.name).map V.int)):=fun l hl=>g1 (W.lists l hl) (by intro _ z;cases z)
  have nM:∀{b:Addr} {u:HO},H1 b=some u->(∀ks,u≠.lst ks)->b∉ls.map (fun l=>A.ea l.name):=fun {b u} h hu hm=>by
   obtain⟨l,hl,rfl⟩:=List.mem_map.mp hm
   rw [lists1 l hl] at h
   exact hu _ (Option.some.inj h).symm
  refine⟨_,rfl,U,_,1,_,rfl,rfl,eN.of (g1 hU (by intro _ z;cases z)),aM (j:=1) rfl,Lg,rfl,⟨_,bL.of (g1 hLg (by intro _ z;cases z))⟩,cY (K:=K) (a:=Lg) (xs:=rs.map V.ref) (fun j σ H'=>(pX (ls.map (fun l=>A.ea l.name)) H1 H'/\∀l∈ls,H' (A.ea l.name)=some (.lst ((S.ev l.name ++ ((dd.gv.take j).filter fun q=>decide (q.1=l.name)).map (·.2)).map V.int)))/\∃v3 v4,σ=[some (.ref A.f),some (.str p.name),some (.ref U),v3,v4]) ⟨⟨fun _ _=>rfl,fun l hl=>?_⟩,v3,none,rfl⟩ ?_ ?_ ?_⟩
  ·rw [lists1 l hl]
   simp
  ·rintro j σ H' _ ⟨⟨m2,_⟩,_⟩
   exact bL.of (by rw [m2 Lg ng.2.2.2.2.2.1];exact g1 hLg (by intro _ z;cases z))
  ·rintro j x σ H' hx ⟨⟨m2,l2⟩,v3,v4,rfl⟩
   rw [List.getElem?_map] at hx
   obtain⟨r,hr',rfl⟩:=Option.map_eq_some_iff.mp hx
   obtain⟨vs2,z1,z2⟩:=rR hT hr'
   rw [List.getElem?_map] at z1
   obtain⟨w,ew,rfl⟩:=Option.map_eq_some_iff.mp z1
   have hj:=(List.getElem?_eq_some_iff.mp ew).1
   have er:=g1 z2 (by intro _ z;cases z)
   have er':H' r=some (.tup [.str w.1,.int w.2]):=by rw [m2 r (nM er (by intro _ z;cases z))];exact er
   have fe:H' A.f=some (.ins t.cB dx fs):=by
    have e1:=g1 h1 (by intro _ z;cases z)
    rw [m2 A.f (nM e1 (by intro _ z;cases z))]
    exact e1
   have ee:H' A.E=some (.dK (Je A.ea ls)):=by rw [m2 A.E nEE];exact eE1
   obtain⟨l,hl',hln⟩:=List.mem_map.mp (hout w (List.mem_of_getElem? ew))
   have va:=lQ (ea:=A.ea) F.whole.nod hl'
   have ea:=l2 _ hl'
   rw [hln] at va
   refine⟨r,_,rfl,eN.of er',rfl,_,_,rfl,_,_,rfl,rfl,?_⟩
   refine⟨_,rfl,A.f,_,dx,fs,_,rfl,fe,T.aX.c,T.aX.na.2.1,h2.has ("ever",.ref A.E) (by simp),_,rfl,A.E,.ref (A.ea w.1),rfl,(by rw [<-va];exact eY.k (k:=Sum.inr w.1) ee),.inl ⟨rfl,_,bL.of (by rw [<-hln];exact ea)⟩,?_⟩
   refine⟨_,rfl,A.ea w.1,_,.int w.2,rfl,rfl,by rw [<-hln];exact ea,?_,⟨fun b hb=>?_,fun l1 hl1=>?_⟩,some (.str w.1),some (.int w.2),rfl⟩
   ·have h3:=O l hl'
    have h4:=List.length_filter_le (fun q:Str×Int=>decide (q.1=l.name)) (dd.gv.take j)
    rw [List.length_take] at h4
    rw [lM,lP,lM]
    omega
   ·rw [aH (fun z=>hb (by rw [z,<-hln];exact List.mem_map.mpr ⟨l,hl',rfl⟩))]
    exact m2 b hb
   ·rw [List.take_succ,ew,Option.toList_some,List.filter_append,List.map_append]
    by_cases h:w.1=l1.name
    ·have e:l1=l:=by
      have a1:=find_name F.whole.nod hl1
      have a2:=find_name F.whole.nod hl'
      rw [<-h,<-hln,a2] at a1
      exact(Option.some.inj a1).symm
     subst e
     rw [<-hln,au]
     simp [h]
    ·have hne:A.ea l1.name≠A.ea w.1:=fun z=>by
      rw [<-hln] at z
      have:=xG nE1 hl1 hl' z
      exact h (by rw [this,hln])
     rw [aH hne,l2 l1 hl1]
     simp [h]
  rintro σ H2 ⟨⟨m2,l2⟩,v5,v6,rfl⟩
  rw [lM,hlr,List.take_length] at l2
  have fe:H2 A.f=some (.ins t.cB dx fs):=by
   have e1:=g1 h1 (by intro _ z;cases z)
   rw [m2 A.f (nM e1 (by intro _ z;cases z))]
   exact e1
  have uE:H2 U=some (.tup [.ref La,.ref Lg,.int dd.kv]):=by
   have e1:=g1 hU (by intro _ z;cases z)
   rw [m2 U (nM e1 (by intro _ z;cases z))]
   exact e1
  have kE:H2 A.Kp=some (.dK (bC S.k ps)):=by rw [m2 A.Kp nKE,m1 A.Kp (by simpa using Ne.symm nGK)];exact W.kept
  have dE:H2 A.D=some (.dK (bC (fun x=>(S.d x:Int)) ps)):=by rw [m2 A.D nDE,m1 A.D (by simpa using Ne.symm nGD)];exact W.done
  have lk:∀k1:Str->Int,(bC k1 ps).length <sizeLine:=fun k1=>by unfold bC;rw [lM];omega
  have hpn:p.name∈ps.map (·.name):=List.mem_map.mpr ⟨p,hp,rfl⟩
  refine⟨_,rfl,U,_,2,_,rfl,rfl,eN.of uE,aM (j:=2) rfl,_,rfl,A.f,_,dx,fs,_,rfl,fe,T.aX.c,T.aX.na.2.2.2.1,h2.has ("kept",.ref A.Kp) (by simp),_,rfl,A.Kp,_,rfl,km.k (k:=Sum.inr p.name) kE (lk _),?_⟩
  rw [vL S.k hpn]
  have m3:pX [A.Kp] H2 (upd H2 A.Kp (.dK (bC (fun y=>if y=p.name then dd.kv else S.k y) ps))):=fun b hb=>aH (by simpa using hb)
  have kE3:upd H2 A.Kp (.dK (bC (fun y=>if y=p.name then dd.kv else S.k y) ps)) A.Kp=some (.dK (bC (fun y=>if y=p.name then dd.kv else S.k y) ps)):=au
  generalize upd H2 A.Kp (.dK (bC (fun y=>if y=p.name then dd.kv else S.k y) ps))=H3 at m3 kE3 ⊢
  have fe3:H3 A.f=some (.ins t.cB dx fs):=by rw [m3 A.f (by simpa using wy fe kE (by intro z;cases z))];exact fe
  have dE3:H3 A.D=some (.dK (bC (fun x=>(S.d x:Int)) ps)):=by rw [m3 A.D (by simpa using Ne.symm nKD)];exact dE
  have vd:=lH (k:=fun x=>(S.d x:Int)) F.pnd hp
  refine⟨_,rfl,A.f,_,dx,fs,_,rfl,fe3,T.aX.c,T.aX.na.2.2.2.2.1,h2.has ("done",.ref A.D) (by simp),_,rfl,A.D,.int (S.d p.name:Int),rfl,(by rw [<-vd];exact eY.k (k:=Sum.inr p.name) dE3),_,_,rfl,rfl,_,km.k (k:=Sum.inr p.name) dE3 (lk _),?_⟩
  rw [vL (fun x=>(S.d x:Int)) hpn]
  have eD:(fun y=>if y=p.name then(S.d p.name:Int)+1 else(S.d y:Int))=fun x=>(((tY S p.name dd).d x:Nat):Int):=by
   funext y
   unfold tY
   by_cases h:y=p.name
   ·subst h;simp
   ·simp [h]
  change Q .non (upd H3 A.D (.dK (bC (fun y=>if y=p.name then(S.d p.name:Int)+1 else(S.d y:Int)) ps)))
  rw [eD]
  have m4:pX [A.D] H3 (upd H3 A.D (.dK (bC (fun x=>(((tY S p.name dd).d x:Nat):Int)) ps))):=fun b hb=>aH (by simpa using hb)
  have dE4:upd H3 A.D (.dK (bC (fun x=>(((tY S p.name dd).d x:Nat):Int)) ps)) A.D=some (.dK (bC (fun x=>(((tY S p.name dd).d x:Nat):Int)) ps)):=au
  generalize upd H3 A.D (.dK (bC (fun x=>(((tY S p.name dd).d x:Nat):Int)) ps))=H4 at m4 dE4 ⊢
  have mv:∀b,b≠A.D->b≠A.Kp->H4 b=H2 b:=fun b a1 a2=>by rw [m4 b (by simpa using a1),m3 b (by simpa using a2)]
  have fe4:H4 A.f=some (.ins t.cB dx fs):=by rw [m4 A.f (by simpa using wy fe3 dE3 (by intro z;cases z))];exact fe3
  refine k H4 (fun b hb=>?_) ⟨⟨dx,fs,fe4,h2⟩,?_,?_,?_,?_,dE4,?_,?_,W.nod⟩
  ·unfold oO.cells at hb
   simp only [List.mem_cons,List.mem_append,not_or] at hb
   rw [mv b hb.2.2.2.1 hb.2.2.1,m2 b hb.2.2.2.2.2.1,m1 b (by simpa using hb.2.1)]
  ·rw [mv A.E nED nEK,m2 A.E nEE,eE1]
  ·intro l hl
   have a2:=l2 l hl
   rw [mv _ (wy a2 dE (by intro z;cases z)) (wy a2 kE (by intro z;cases z))]
   exact a2
  ·rw [mv A.G nGD nGK,m2 A.G nGE,gG]
  ·rw [m4 A.Kp (by simpa using nKD)]
   exact kE3
  ·rw [mv A.Rw (Ne.symm nDR) (Ne.symm nKR),m2 A.Rw nRE,m1 A.Rw (by simpa using Ne.symm nGR)]
   exact W.rows
  ·intro p' hp' h0
   have hm:A.ra p'.name∈(lF ps).map (fun p=>A.ra p.name):=List.mem_map.mpr ⟨p',List.mem_filter.mpr ⟨hp',by simp [h0]⟩,rfl⟩
   rw [mv _ (fun z=>nD2 (by rw [<-z];exact hm)) (fun z=>nK2 (by rw [<-z];exact hm)),m2 _ (fun z=>nER1 _ z _ hm rfl),m1 _ (by simpa using fun z=>nG2 (by rw [<-z];exact hm))]
   exact W.rlst p' hp' h0
theorem Qg (T:Txt w K mg t) (i:Nat):MethAt P w K mg base Cr 1 (cls t i) "start" (vm K t i):=match i with
 | 0=>⟨_,_,_,T.iI.c,(T.bQ.me T.iI.me.2.2.2.2.2.1),T.bQ.b,(dH T).imp fun _ _ _ _ h=>⟨_,by omega,h⟩⟩
 | 1=>⟨_,_,_,T.iH.c,(T.bQ.me T.iH.me.2.2.2.2.2.1),T.bQ.b,(dH T).imp fun _ _ _ _ h=>⟨_,by omega,h⟩⟩
 | 2=>⟨_,_,_,T.iT.c,(T.bQ.me T.iT.me.2.2.2.2.2.1),T.bQ.b,(dH T).imp fun _ _ _ _ h=>⟨_,by omega,h⟩⟩
 | 3=>⟨_,_,_,T.iR.c,(T.bQ.me T.iR.me.2.2.2.2.2.1),T.bQ.b,(dH T).imp fun _ _ _ _ h=>⟨_,by omega,h⟩⟩
 | 4=>⟨_,_,_,T.iC.c,(T.bQ.me T.iC.me.2.2.2.2.2.1),T.bQ.b,(dH T).imp fun _ _ _ _ h=>⟨_,by omega,h⟩⟩
 | 5=>⟨_,_,_,T.iG.c,(T.oR.me T.iG.me.2.2.2.2.2.1),T.oR.b,Fb T⟩
 | 6=>⟨_,_,_,T.mV.c,(T.bQ.me T.mV.me.2.2.2.2.2.1),T.bQ.b,(dH T).imp fun _ _ _ _ h=>⟨_,by omega,h⟩⟩
 | 7=>⟨_,_,_,T.iK.c,(T.bQ.me T.iK.me.2.2.2.2.2.1),T.bQ.b,(dH T).imp fun _ _ _ _ h=>⟨_,by omega,h⟩⟩
 | 8=>⟨_,_,_,T.fO.c,(T.bQ.me T.fO.me.2.2.2.2.2.1),T.bQ.b,(dH T).imp fun _ _ _ _ h=>⟨_,by omega,h⟩⟩
 | 9=>⟨_,_,_,T.eE.c,(T.bQ.me T.eE.me.2.2.2.2.2.1),T.bQ.b,(dH T).imp fun _ _ _ _ h=>⟨_,by omega,h⟩⟩
 | n+10=>⟨_,_,_,T.fP.c,(T.bQ.me T.fP.me.2.2.2.2.2.1),T.bQ.b,(dH T).imp fun _ _ _ _ h=>⟨_,by omega,h⟩⟩
theorem SM:∀i,i <11->cL i= "give" ->i=0:=by decide +kernel
theorem Oo (p:PD) (h:tM p):Hr p.kind (p.nums.map V.int)=.int (GR p):=by
 unfold Hr GR
 by_cases h5:p.kind=5
 ·rw [if_pos h5,if_pos h5]
  have hl:p.nums.length=1:=by rw [h.2.1,h5];rfl
  match p.nums,hl with
  | [m],_=>rfl
 ·rw [if_neg h5,if_neg h5]
noncomputable def JH (ls:List aG) (x:Str):List Int:=((ls.find? fun l=>decide (l.name=x)).map (·.first)).getD []
theorem zj {ls:List aG} (nd:(ls.map (·.name)).Nodup) {l:aG} (hl:l∈ls):JH ls l.name=l.first:=by
 unfold JH
 rw [find_name nd hl]
 rfl
noncomputable def iu (RW:List (Str×Addr×List Int)):List (Key×V):=RW.map fun q=>((Sum.inr q.1:Key),V.ref q.2.1)
noncomputable def pW (RW:List (Str×Addr×List Int)) (x:Str):List Int:=((RW.find? fun q=>decide (q.1=x)).map (·.2.2)).getD []
structure lz (H:Hp) (rw:Addr) (RW:List (Str×Addr×List Int)):Prop where
 dict:H rw=some (.dK (iu RW))
 lists:∀q∈RW,H q.2.1=some (.lst (q.2.2.map V.int))
 nd:(RW.map (·.1)).Nodup
 len:∀q∈RW,q.2.2.length<=300
theorem lz.same {H H':Hp} {rw:Addr} {RW:List (Str×Addr×List Int)} (h:lz H rw RW) (s:aK H H'):lz H' rw RW:=⟨s _ _ h.dict,fun q hq=>s _ _ (h.lists q hq),h.nd,h.len⟩
theorem tQ (RW:List (Str×Addr×List Int)):(iu RW).map (·.1)=(RW.map (·.1)).map (fun x=>(Sum.inr x:Key)):=by unfold iu;rw [List.map_map,List.map_map];rfl
theorem lz.get {H:Hp} {rw:Addr} {RW:List (Str×Addr×List Int)} (h:lz H rw RW) (x:Str):(b8 (iu RW) (Sum.inr x)=none/\pW RW x=[])∨∃a,b8 (iu RW) (Sum.inr x)=some (.ref a)/\H a=some (.lst ((pW RW x).map V.int))/\(pW RW x).length<=300:=by
 by_cases hx:x∈RW.map (·.1)
 ·obtain⟨q,hq,rfl⟩:=List.mem_map.mp hx
  have e:pW RW q.1=q.2.2:=by unfold pW;rw [find_name (f:=fun q:Str×Addr×List Int=>q.1) h.nd hq];rfl
  refine .inr ⟨q.2.1,dN (by rw [tQ];exact eO h.nd) (List.mem_map.mpr ⟨q,hq,rfl⟩),?_,?_⟩
  ·rw [e];exact h.lists q hq
  ·rw [e];exact h.len q hq
 ·refine .inl ⟨fB (by rw [tQ];intro z;obtain⟨b,hb,e⟩:=List.mem_map.mp z;cases e;exact hx hb),?_⟩
  unfold pW
  rw [List.find?_eq_none.mpr fun q hq=>by simpa using fun e=>hx (List.mem_map.mpr ⟨q,hq,e⟩)]
  rfl
noncomputable def ik (ls:List aG) (ps:List PD) (RW:List (Str×Addr×List Int)):FS:=⟨JH ls,fun _=>0,fG ps,fun _=>0,pW RW⟩
noncomputable def wk (RW:List (Str×Addr×List Int)) (RL:List (PD×Addr)):List (Addr×HO):=RL.map fun q=>(q.2,HO.lst ((pW RW q.1.name).map V.int))
theorem Rv {ps:List PD} (h:∀p∈ps,tM p):(ps.filter fun p=>decide (cL p.kind= "give"))=lF ps:=by
 unfold lF
 refine List.filter_congr fun p hp=>?_
 by_cases h0:p.kind=0
 ·rw [h0];rfl
 ·have:¬cL p.kind= "give" :=fun z=>h0 (SM _ (h p hp).1 z)
  simp [h0,this]
noncomputable def fC {α:Type} (f:α->Str) (L:List (α×Addr)) (x:Str):Addr:=((L.find? fun q=>decide (f q.1=x)).map (·.2)).getD 0
theorem jP {α:Type} {f:α->Str} {L:List (α×Addr)} (nd:(L.map fun q=>f q.1).Nodup) {q:α×Addr} (hq:q∈L):fC f L (f q.1)=q.2:=by
 unfold fC
 rw [find_name (f:=fun q:α×Addr=>f q.1) nd hq]
 rfl
theorem vX {α:Type} {f:α->Str} {L:List (α×Addr)} (nd:(L.map fun q=>f q.1).Nodup):(L.map (·.1)).map (fun a=>fC f L (f a))=L.map (·.2):=by
 rw [List.map_map]
 exact List.map_congr_left fun q hq=>jP nd hq
inductive qd (K:PySem.W.Frag) (t:jH) (vs:List V) (H:Hp) (Q:VK):Prop where
 | mk:∀(H0:Hp) (f dx n rw:Addr) (ls:List aG) (ps:List PD) (RW:List (Str×Addr×List Int)),vs=[.ref f,.ref n,.ref rw]->H f=some (.ins t.cB dx [])->aK H0 H->H0 f=none->gW K t H0 n ls ps->lz H0 rw RW->(∀H' A,A.f=f->A.n=n->lO f H H'->dJ K t H' A ls ps (ik ls ps RW)->(∀a∈A.cells ls ps,H a=none)->Q .non H')->qd K t vs H Q
@[irreducible] noncomputable def gh (K:PySem.W.Frag) (t:jH):Sp:=fun vs H Q _=>qd K t vs H Q
theorem zO (T:Txt w K mg t):FO P w K mg base 4 t.nW ["self", "net", "rows"] (gh K t):=by
 have sc:=T.ju.sc ["self", "net", "rows", "lane", "name", "door"]
 refine T.ju.F.ok sc (fun vs H Q E h=>?_) (fun cdv A outer s H vs Q E hr h=>?_)
 ·unfold gh at h
  obtain⟨H0,f,dx,n,rw,ls,ps,RW,rfl,_⟩:=h
  rfl
 ·unfold gh at h
  obtain⟨H0,f,dx,n,rw,ls,ps,RW,rfl,hf,s0,nf0,N,hrw,k⟩:=h
  refine⟨_,(az (ig (pv 0) (pv 1) rfl)
   (az (ig (pv 0) gM rfl)
   (az (ig (pv 0) gM rfl)
   (az (dg PassesOwn.never rfl (bW (Sh (pv 1) T.bz T.bz.me.2.1 (qp T) T.iV hr)) (gN sc 3)
    (az (eX hr.u1 (bB (pv 0) rfl) (pv 3) (zz (pv 1) T.bz T.bz.me.2.2.2.2.2.2.2.2.1 (Bt T) T.pP hr (aa (pv 3) ak aj)) rfl)
    (aA (eX hr.u1 (bB (pv 0) rfl) (pv 3) aq rfl))))
   (az (ig (pv 0) gM rfl)
   (az (ig (pv 0) gM rfl)
   (az (dg PassesOwn.never rfl (bW (Sh (pv 1) T.bz T.bz.me.2.2.1 (j5 T) T.f9 hr)) (gN sc 4)
    (az (eX hr.u1 (bB (pv 0) rfl) (pv 4) (Fe (CX:=Cr) (k:=1) (E:=E0) (zz (pv 1) T.bz T.bz.me.2.2.2.2.2.2.2.2.2.1 (jN T) T.gY hr (aa (pv 4) ak aj)) (hr.mono (by decide)) ir) rfl)
    (aA (eX hr.u1 (bB (pv 0) rfl) (pv 4) aq rfl))))
   (az (ig (pv 0) gM rfl)
   (aA (dg PassesOwn.never rfl (bW (Sh (pv 1) T.bz T.bz.me.2.2.2.2.1 (sW T) T.mQ hr)) (gN sc 5)
    (aA (eX hr.u1 (bB (pv 0) rfl) (pv 5) (dj jM (by rfl) T.mY jx (aa (Jw hr.u1 (pv 2) (pv 5) (bx ak) ⟨rfl,rfl,rfl,rfl⟩) ak bf)) rfl)))))))))))),?_⟩
  obtain⟨dxn,fsn,R,F,Pd,Gn,Tk,FL,PL,W⟩:=id N
  have hl:sizeLine=16777216:=sizeLine_eq
  have l24:=W.fit.l24
  have p16:=W.fit.p16
  have sk:∀{Hk:Hp},lO f H Hk->aK H0 Hk:=fun b x o e=>b x o (aD e nf0) (s0 x o e)
  have T0:=Tr.start hf
  refine⟨_,rfl,_,rfl,f,_,dx,[],rfl,hf,T.aX.c,T.aX.na.1,by show 0 <1000;decide,?_⟩
  have T1:=T0.put (L1:=[]) (L2:=[]) (o':=.ins t.cB dx (aJ "net" (.ref n) []))
  generalize upd H f (.ins t.cB dx (aJ "net" (.ref n) []))=H1 at T1 ⊢
  refine fun E nE=>?_
  have T2:=T1.new (o:=.dK []) nE
  generalize upd H1 E (.dK [])=H2 at T2 ⊢
  refine⟨_,rfl,f,_,dx,_,rfl,T2.all (f,_) (.head _),T.aX.c,T.aX.na.2.1,Nat.lt_of_le_of_lt (gK (Nat.zero_le 0)) (by decide),?_⟩
  have T3:=T2.put (L1:=[]) (o':=.ins t.cB dx (aJ "ever" (.ref E) (aJ "net" (.ref n) [])))
  generalize upd H2 f (.ins t.cB dx (aJ "ever" (.ref E) (aJ "net" (.ref n) [])))=H3 at T3 ⊢
  refine fun G nG=>?_
  have T4:=T3.new (o:=.dK []) nG
  generalize upd H3 G (.dK [])=H4 at T4 ⊢
  refine⟨_,rfl,f,_,dx,_,rfl,T4.all (f,_) (.head _),T.aX.c,T.aX.na.2.2.1,Nat.lt_of_le_of_lt (gK (gK (Nat.zero_le 0))) (by decide),?_⟩
  have T5:=T4.put (L1:=[]) (o':=.ins t.cB dx (aJ "gone" (.ref G) (aJ "ever" (.ref E) (aJ "net" (.ref n) []))))
  generalize upd H4 f (.ins t.cB dx (aJ "gone" (.ref G) (aJ "ever" (.ref E) (aJ "net" (.ref n) []))))=H5 at T5 ⊢
  have W5:=W.same (sk T5.but)
  refine⟨_,rfl,n,dxn,fsn,rfl,W5.obj,W5.fl.no _ (by decide +kernel),n,ls,ps,rfl,W5.s,fun l nl=>?_⟩
  have T6:Tr H f ((f,.ins t.cB dx (aJ "gone" (.ref G) (aJ "ever" (.ref E) (aJ "net" (.ref n) [])))):: (E,.dK (bu [])):: (G,.dK (dC (fun _=>0) [])):: (l,.lst (ls.map fun x:aG=>V.str x.name)):: fQ []) (upd H5 l (.lst (ls.map fun x:aG=>V.str x.name))):=T5.new nl
  generalize upd H5 l (.lst (ls.map fun x:aG=>V.str x.name))=H6 at T6 ⊢
  clear T0 T1 T2 T3 T4 T5 W5
  refine⟨l,rfl,⟨_,bL.of (T6.all (l,.lst (ls.map fun x:aG=>V.str x.name)) (by simp))⟩,cY (K:=K) (a:=l) (xs:=ls.map fun x:aG=>V.str x.name) (fun j σ H'=>(∃v3,σ=[some (.ref f),some (.ref n),some (.ref rw),v3,none,none])/\∃EL:List (aG×Addr),EL.map (·.1)=ls.take j/\Tr H f ((f,.ins t.cB dx (aJ "gone" (.ref G) (aJ "ever" (.ref E) (aJ "net" (.ref n) [])))):: (E,.dK (bu EL)):: (G,.dK (dC (fun _=>0) (ls.take j))):: (l,.lst (ls.map fun x:aG=>V.str x.name)):: fQ EL) H') ⟨⟨none,rfl⟩,[],rfl,T6⟩ (fun j σ H' _ ⟨_,_,_,T'⟩=>bL.of (T'.all (l,.lst (ls.map fun x:aG=>V.str x.name)) (by simp))) ?_ ?_⟩
  ·rintro j x σ H' hx ⟨⟨v3,rfl⟩,EL,eEL,T7⟩
   rw [List.getElem?_map] at hx
   obtain⟨ln,hlj,rfl⟩:=Option.map_eq_some_iff.mp hx
   have hm:=List.mem_of_getElem? hlj
   have hj:=(List.getElem?_eq_some_iff.mp hlj).1
   have nin:=jt W.fit.whole.nod hlj
   have vE:b8 (bu EL) (Sum.inr ln.name)=none:=fB (by rw [oV,eEL];intro z;obtain⟨b,hb,e⟩:=List.mem_map.mp z;cases e;exact nin hb)
   have vG:b8 (dC (fun _=>0) (ls.take j)) (Sum.inr ln.name)=none:=fB (by rw [Dm];intro z;obtain⟨b,hb,e⟩:=List.mem_map.mp z;cases e;exact nin hb)
   have tk:ls.take (j+1)=ls.take j ++ [ln]:=by rw [List.take_succ,hlj];rfl
   have lEL:EL.length<=24:=by have:=congrArg List.length eEL;rw [lM,List.length_take] at this;omega
   have W7:=W.same (sk T7.but)
   refine⟨_,rfl,n,dxn,fsn,rfl,W7.obj,W7.fl.no _ (by decide +kernel),_,rfl,n,ls,ps,ln.name,rfl,W7.s,.inl ⟨ln,hm,rfl,fun H8 le s8 nle ele=>?_⟩⟩
   have T8:Tr H f ((f,.ins t.cB dx (aJ "gone" (.ref G) (aJ "ever" (.ref E) (aJ "net" (.ref n) [])))):: (E,.dK (bu EL)):: (G,.dK (dC (fun _=>0) (ls.take j))):: (l,.lst (ls.map fun x:aG=>V.str x.name)):: fQ (EL ++ [(ln,le)])) H8:=by
    unfold fQ
    rw [List.map_append]
    exact T7.got s8 nle ele
   refine⟨_,rfl,f,_,dx,_,_,rfl,T8.all (f,_) (.head _),T.aX.c,T.aX.na.2.1,(by (repeat first | (rw [aC,if_pos rfl];done) | rw [aC,if_neg (by decide +kernel)])),_,rfl,E,_,rfl,km.k (k:=Sum.inr ln.name) (T8.all (E,.dK (bu EL)) (by simp)) (by unfold bu;rw [lM];omega),?_⟩
   have e8:putK (bu EL) (Sum.inr ln.name) (.ref le)=bu (EL ++ [(ln,le)]):=by rw [fX _ vE];unfold bu;rw [List.map_append];rfl
   rw [e8]
   have T9:=T8.put (L1:=[_]) (o':=.dK (bu (EL ++ [(ln,le)])))
   generalize upd H8 E (.dK (bu (EL ++ [(ln,le)])))=H9 at T9 ⊢
   refine⟨_,rfl,f,_,dx,_,_,rfl,T9.all (f,_) (.head _),T.aX.c,T.aX.na.2.2.1,(by (repeat first | (rw [aC,if_pos rfl];done) | rw [aC,if_neg (by decide +kernel)])),_,rfl,G,_,rfl,km.k (k:=Sum.inr ln.name) (T9.all (G,.dK (dC (fun _=>0) (ls.take j))) (by simp)) (by unfold dC;rw [lM,List.length_take];omega),?_⟩
   have e9:putK (dC (fun _=>0) (ls.take j)) (Sum.inr ln.name) (.int 0)=dC (fun _=>0) (ls.take (j+1)):=by rw [fX _ vG,tk];unfold dC;rw [List.map_append];rfl
   rw [e9]
   have TA:=T9.put (L1:=[_,_]) (o':=.dK (dC (fun _=>0) (ls.take (j+1))))
   exact⟨⟨_,rfl⟩,EL ++ [(ln,le)],by rw [List.map_append,eEL,tk];rfl,TA⟩
  rintro σ H7 ⟨⟨v3,rfl⟩,EL,eEL,T7⟩
  rw [lM,List.take_length] at eEL T7
  have T7:Tr H f ((f,.ins t.cB dx (aJ "gone" (.ref G) (aJ "ever" (.ref E) (aJ "net" (.ref n) [])))):: (E,.dK (bu EL)):: (G,.dK (dC (fun _=>0) ls)):: fQ EL) H7:=T7.sub (.cons₂ _ (.cons₂ _ (.cons₂ _ (.cons _ (List.Sublist.refl _))))) ⟨_,.head _⟩
  clear T6
  refine fun Kp nKp=>?_
  have T8:Tr H f ((f,.ins t.cB dx (aJ "gone" (.ref G) (aJ "ever" (.ref E) (aJ "net" (.ref n) [])))):: (E,.dK (bu EL)):: (G,.dK (dC (fun _=>0) ls)):: (Kp,.dK []):: fQ EL) (upd H7 Kp (.dK [])):=(T7.new nKp).perm (.cons _ (.cons _ (.cons _ (List.perm_append_singleton _ _))))
  generalize upd H7 Kp (.dK [])=H8 at T8 ⊢
  refine⟨_,rfl,f,_,dx,_,rfl,T8.all (f,_) (.head _),T.aX.c,T.aX.na.2.2.2.1,Nat.lt_of_le_of_lt (gK (gK (gK (Nat.zero_le 0)))) (by decide),?_⟩
  have T9:=T8.put (L1:=[]) (o':=.ins t.cB dx (aJ "kept" (.ref Kp) (aJ "gone" (.ref G) (aJ "ever" (.ref E) (aJ "net" (.ref n) [])))))
  generalize upd H8 f (.ins t.cB dx (aJ "kept" (.ref Kp) (aJ "gone" (.ref G) (aJ "ever" (.ref E) (aJ "net" (.ref n) [])))))=H9 at T9 ⊢
  refine fun D nD=>?_
  have TA:Tr H f ((f,.ins t.cB dx (aJ "kept" (.ref Kp) (aJ "gone" (.ref G) (aJ "ever" (.ref E) (aJ "net" (.ref n) []))))):: (E,.dK (bu EL)):: (G,.dK (dC (fun _=>0) ls)):: (Kp,.dK []):: (D,.dK []):: fQ EL) (upd H9 D (.dK [])):=(T9.new nD).perm (.cons _ (.cons _ (.cons _ (.cons _ (List.perm_append_singleton _ _)))))
  generalize upd H9 D (.dK [])=HA at TA ⊢
  refine⟨_,rfl,f,_,dx,_,rfl,TA.all (f,_) (.head _),T.aX.c,T.aX.na.2.2.2.2.1,Nat.lt_of_le_of_lt (gK (gK (gK (gK (Nat.zero_le 0))))) (by decide),?_⟩
  have TB:=TA.put (L1:=[]) (o':=.ins t.cB dx (aJ "done" (.ref D) (aJ "kept" (.ref Kp) (aJ "gone" (.ref G) (aJ "ever" (.ref E) (aJ "net" (.ref n) []))))))
  generalize upd HA f (.ins t.cB dx (aJ "done" (.ref D) (aJ "kept" (.ref Kp) (aJ "gone" (.ref G) (aJ "ever" (.ref E) (aJ "net" (.ref n) []))))))=HB at TB ⊢
  have WB:=W.same (sk TB.but)
  refine⟨_,rfl,n,dxn,fsn,rfl,WB.obj,WB.fl.no _ (by decide +kernel),n,ls,ps,rfl,WB.s,fun m nm=>?_⟩
  have TC:Tr H f ((f,.ins t.cB dx (aJ "done" (.ref D) (aJ "kept" (.ref Kp) (aJ "gone" (.ref G) (aJ "ever" (.ref E) (aJ "net" (.ref n) [])))))):: (E,.dK (bu EL)):: (G,.dK (dC (fun _=>0) ls)):: (Kp,.dK (bC (fG ps) [])):: (D,.dK (bC (fun _=>0) [])):: (m,.lst (ps.map fun x:PD=>V.str x.name)):: fQ EL) (upd HB m (.lst (ps.map fun x:PD=>V.str x.name))):=(TB.new nm).perm (.cons _ (.cons _ (.cons _ (.cons _ (.cons _ (List.perm_append_singleton _ _))))))
  generalize upd HB m (.lst (ps.map fun x:PD=>V.str x.name))=HC at TC ⊢
  clear T7 T8 T9 TA TB WB
  refine⟨m,rfl,⟨_,bL.of (TC.all (m,.lst (ps.map fun x:PD=>V.str x.name)) (by simp))⟩,cY (K:=K) (a:=m) (xs:=ps.map fun x:PD=>V.str x.name) (fun j σ H'=>(∃v4,σ=[some (.ref f),some (.ref n),some (.ref rw),v3,v4,none])/\Tr H f ((f,.ins t.cB dx (aJ "done" (.ref D) (aJ "kept" (.ref Kp) (aJ "gone" (.ref G) (aJ "ever" (.ref E) (aJ "net" (.ref n) [])))))):: (E,.dK (bu EL)):: (G,.dK (dC (fun _=>0) ls)):: (Kp,.dK (bC (fG ps) (ps.take j))):: (D,.dK (bC (fun _=>0) (ps.take j))):: (m,.lst (ps.map fun x:PD=>V.str x.name)):: fQ EL) H') ⟨⟨none,rfl⟩,TC⟩ (fun j σ H' _ ⟨_,T'⟩=>bL.of (T'.all (m,.lst (ps.map fun x:PD=>V.str x.name)) (by simp))) ?_ ?_⟩
  ·rintro j x σ H' hx ⟨⟨v4,rfl⟩,T7⟩
   rw [List.getElem?_map] at hx
   obtain⟨p,hpj,rfl⟩:=Option.map_eq_some_iff.mp hx
   have hm:=List.mem_of_getElem? hpj
   have hj:=(List.getElem?_eq_some_iff.mp hpj).1
   have nin:=jt W.fit.pnd hpj
   have vK:∀k0:Str->Int,b8 (bC k0 (ps.take j)) (Sum.inr p.name)=none:=fun k0=>fB (by rw [xK];intro z;obtain⟨b,hb,e⟩:=List.mem_map.mp z;cases e;exact nin hb)
   have tk:ps.take (j+1)=ps.take j ++ [p]:=by rw [List.take_succ,hpj];rfl
   have so:fG ps p.name=GR p:=by unfold fG GR;rw [find_name W.fit.pnd hm];rfl
   have W7:=W.same (sk T7.but)
   refine⟨_,rfl,n,dxn,fsn,rfl,W7.obj,W7.fl.no _ (by decide +kernel),_,rfl,n,ls,ps,p.name,rfl,W7.s,.inl ⟨p,hm,rfl,fun H8 q s8 P8=>?_⟩⟩
   have T8:=T7.same s8
   obtain⟨dxp,tn,ti,to,p1,p2,p3,p4⟩:=id P8.ex
   refine⟨q,cls t p.kind,dxp,_,vm K t p.kind,rfl,p1,vZ _ _ _ _ (by decide +kernel) (by decide +kernel) (by decide +kernel) (by decide +kernel),Qg T p.kind,q,_,_,_,_,rfl,P8,by rw [lM];exact(W.fit.pok p hm).2.1,?_⟩
   rw [Oo p (W.fit.pok p hm),<-so]
   refine⟨_,rfl,f,_,dx,_,_,rfl,T8.all (f,_) (.head _),T.aX.c,T.aX.na.2.2.2.1,(by (repeat first | (rw [aC,if_pos rfl];done) | rw [aC,if_neg (by decide +kernel)])),_,rfl,Kp,_,rfl,km.k (k:=Sum.inr p.name) (T8.all (Kp,.dK (bC (fG ps) (ps.take j))) (by simp)) (by unfold bC;rw [lM,List.length_take];omega),?_⟩
   have e8:∀k0:Str->Int,putK (bC k0 (ps.take j)) (Sum.inr p.name) (.int (k0 p.name))=bC k0 (ps.take (j+1)):=fun k0=>by rw [fX _ (vK k0),tk];unfold bC;rw [List.map_append];rfl
   rw [e8]
   have T9:=T8.put (L1:=[_,_,_]) (o':=.dK (bC (fG ps) (ps.take (j+1))))
   generalize upd H8 Kp (.dK (bC (fG ps) (ps.take (j+1))))=H9 at T9 ⊢
   refine⟨_,rfl,f,_,dx,_,_,rfl,T9.all (f,_) (.head _),T.aX.c,T.aX.na.2.2.2.2.1,(by (repeat first | (rw [aC,if_pos rfl];done) | rw [aC,if_neg (by decide +kernel)])),_,rfl,D,_,rfl,km.k (k:=Sum.inr p.name) (T9.all (D,.dK (bC (fun _=>0) (ps.take j))) (by simp)) (by unfold bC;rw [lM,List.length_take];omega),?_⟩
   rw [e8 fun _=>0]
   exact⟨⟨_,rfl⟩,T9.put (L1:=[_,_,_,_])⟩
  rintro σ HD ⟨⟨v4,rfl⟩,TD⟩
  rw [lM,List.take_length] at TD
  have TD:Tr H f ((f,.ins t.cB dx (aJ "done" (.ref D) (aJ "kept" (.ref Kp) (aJ "gone" (.ref G) (aJ "ever" (.ref E) (aJ "net" (.ref n) [])))))):: (E,.dK (bu EL)):: (G,.dK (dC (fun _=>0) ls)):: (Kp,.dK (bC (fG ps) ps)):: (D,.dK (bC (fun _=>0) ps)):: fQ EL) HD:=TD.sub (.cons₂ _ (.cons₂ _ (.cons₂ _ (.cons₂ _ (.cons₂ _ (.cons _ (List.Sublist.refl _))))))) ⟨_,.head _⟩
  clear TC
  refine fun Rw nRw=>?_
  have TE:Tr H f ((f,.ins t.cB dx (aJ "done" (.ref D) (aJ "kept" (.ref Kp) (aJ "gone" (.ref G) (aJ "ever" (.ref E) (aJ "net" (.ref n) [])))))):: (E,.dK (bu EL)):: (G,.dK (dC (fun _=>0) ls)):: (Kp,.dK (bC (fG ps) ps)):: (D,.dK (bC (fun _=>0) ps)):: (Rw,.dK []):: fQ EL) (upd HD Rw (.dK [])):=(TD.new nRw).perm (.cons _ (.cons _ (.cons _ (.cons _ (.cons _ (List.perm_append_singleton _ _))))))
  generalize upd HD Rw (.dK [])=HE at TE ⊢
  refine⟨_,rfl,f,_,dx,_,rfl,TE.all (f,_) (.head _),T.aX.c,T.aX.na.2.2.2.2.2.1,Nat.lt_of_le_of_lt (gK (gK (gK (gK (gK (Nat.zero_le 0)))))) (by decide),?_⟩
  have TF:=TE.put (L1:=[]) (o':=.ins t.cB dx (aJ "rows" (.ref Rw) (aJ "done" (.ref D) (aJ "kept" (.ref Kp) (aJ "gone" (.ref G) (aJ "ever" (.ref E) (aJ "net" (.ref n) [])))))))
  generalize upd HE f (.ins t.cB dx (aJ "rows" (.ref Rw) (aJ "done" (.ref D) (aJ "kept" (.ref Kp) (aJ "gone" (.ref G) (aJ "ever" (.ref E) (aJ "net" (.ref n) [])))))))=HF at TF ⊢
  have WF:=W.same (sk TF.but)
  refine⟨_,rfl,n,dxn,fsn,rfl,WF.obj,WF.fl.no _ (by decide +kernel),n,ls,ps,rfl,WF.s,fun d nd=>?_⟩
  have TG:Tr H f ((f,.ins t.cB dx (aJ "rows" (.ref Rw) (aJ "done" (.ref D) (aJ "kept" (.ref Kp) (aJ "gone" (.ref G) (aJ "ever" (.ref E) (aJ "net" (.ref n) []))))))):: (E,.dK (bu EL)):: (G,.dK (dC (fun _=>0) ls)):: (Kp,.dK (bC (fG ps) ps)):: (D,.dK (bC (fun _=>0) ps)):: (Rw,.dK []):: (d,.lst (dX ps "give")):: fQ EL) (upd HF d (.lst (dX ps "give"))):=(TF.new nd).perm (.cons _ (.cons _ (.cons _ (.cons _ (.cons _ (.cons _ (List.perm_append_singleton _ _)))))))
  generalize upd HF d (.lst (dX ps "give"))=HG at TG ⊢
  clear TD TE TF WF
  have lgv:=rG ps "give"
  have ndg:((ps.filter fun p=>decide (cL p.kind= "give")).map (·.name)).Nodup:=W.fit.pnd.sublist ((List.filter_sublist).map _)
  rw [Rv W.fit.pok] at ndg
  have ePg:dX ps "give" =(lF ps).map fun p=>V.str p.name:=by unfold dX;rw [Rv W.fit.pok]
  rw [ePg] at TG
  have lgP:(lF ps).length<=16:=by have:=List.length_filter_le (fun p:PD=>decide (p.kind=0)) ps;unfold lF;omega
  have TG:Tr H f ((f,.ins t.cB dx (aJ "rows" (.ref Rw) (aJ "done" (.ref D) (aJ "kept" (.ref Kp) (aJ "gone" (.ref G) (aJ "ever" (.ref E) (aJ "net" (.ref n) []))))))):: (E,.dK (bu EL)):: (G,.dK (dC (fun _=>0) ls)):: (Kp,.dK (bC (fG ps) ps)):: (D,.dK (bC (fun _=>0) ps)):: (Rw,.dK []):: (d,.lst ((lF ps).map fun p=>V.str p.name)):: (fQ EL ++ wk RW [])) HG:=by
   unfold wk
   rw [List.map_nil,List.append_nil]
   exact TG
  refine⟨d,rfl,⟨_,bL.of (TG.all (d,.lst ((lF ps).map fun p=>V.str p.name)) (by simp))⟩,cY (K:=K) (a:=d) (xs:=(lF ps).map fun p=>V.str p.name) (fun j σ H'=>(∃v5,σ=[some (.ref f),some (.ref n),some (.ref rw),v3,v4,v5])/\∃RL:List (PD×Addr),RL.map (·.1)=(lF ps).take j/\Tr H f ((f,.ins t.cB dx (aJ "rows" (.ref Rw) (aJ "done" (.ref D) (aJ "kept" (.ref Kp) (aJ "gone" (.ref G) (aJ "ever" (.ref E) (aJ "net" (.ref n) []))))))):: (E,.dK (bu EL)):: (G,.dK (dC (fun _=>0) ls)):: (Kp,.dK (bC (fG ps) ps)):: (D,.dK (bC (fun _=>0) ps)):: (Rw,.dK (RL.map fun q=>((Sum.inr q.1.name:Key),V.ref q.2))):: (d,.lst ((lF ps).map fun p=>V.str p.name)):: (fQ EL ++ wk RW RL)) H') ⟨⟨none,rfl⟩,[],rfl,TG⟩ (fun j σ H' _ ⟨_,_,_,T7⟩=>bL.of (T7.all (d,.lst ((lF ps).map fun p=>V.str p.name)) (by simp))) ?_ ?_⟩
  ·rintro j x σ H' hx ⟨⟨v5,rfl⟩,RL,eRL,T7⟩
   rw [List.getElem?_map] at hx
   obtain⟨p,hpj,rfl⟩:=Option.map_eq_some_iff.mp hx
   have nin:=jt ndg hpj
   have tk:(lF ps).take (j+1)=(lF ps).take j ++ [p]:=by rw [List.take_succ,hpj];rfl
   have vR:b8 (RL.map fun q=>((Sum.inr q.1.name:Key),V.ref q.2)) (Sum.inr p.name)=none:=fB (by
    rw [List.map_map]
    intro z
    obtain⟨q,hq,e⟩:=List.mem_map.mp z
    have hm:q.1∈RL.map (·.1):=List.mem_map.mpr ⟨q,hq,rfl⟩
    rw [eRL] at hm
    exact nin (List.mem_map.mpr ⟨q.1,hm,by injection e⟩))
   have lRL:RL.length<=16:=by
    have:=congrArg List.length eRL
    rw [lM,List.length_take] at this
    omega
   have rw7:=hrw.same (sk T7.but)
   refine⟨_,rfl,rw,rfl,.inl ⟨_,.inl rw7.dict⟩,_,rfl,iW,fun u nu=>?_⟩
   have tu:=aB (o:=.lst []) nu
   have xu:upd H' u (.lst []) u=some (.lst []):=au
   generalize upd H' u (.lst [])=H8 at tu xu ⊢
   have rw8:=rw7.same tu
   refine⟨_,eY.k (k:=Sum.inr p.name) rw8.dict,?_⟩
   obtain⟨y,ey,hy⟩:∃y:Addr,(b8 (iu RW) (Sum.inr p.name)).getD (V.ref u)=.ref y/\H8 y=some (.lst ((pW RW p.name).map V.int)):=by
    rcases rw8.get p.name with ⟨e1,e2⟩ | ⟨a,e1,e2,_⟩
    ·rw [e1,e2]
     exact⟨u,rfl,xu⟩
    ·rw [e1]
     exact⟨a,rfl,e2⟩
   refine⟨y,(pW RW p.name).map V.int,by rw [ey],.inl (bL.of hy),fun r nr=>?_⟩
   have T9:Tr H f ((f,.ins t.cB dx (aJ "rows" (.ref Rw) (aJ "done" (.ref D) (aJ "kept" (.ref Kp) (aJ "gone" (.ref G) (aJ "ever" (.ref E) (aJ "net" (.ref n) []))))))):: (E,.dK (bu EL)):: (G,.dK (dC (fun _=>0) ls)):: (Kp,.dK (bC (fG ps) ps)):: (D,.dK (bC (fun _=>0) ps)):: (Rw,.dK (RL.map fun q=>((Sum.inr q.1.name:Key),V.ref q.2))):: (d,.lst ((lF ps).map fun p=>V.str p.name)):: (fQ EL ++ wk RW (RL ++ [(p,r)]))) (upd H8 r (.lst ((pW RW p.name).map V.int))):=by
    unfold wk
    rw [List.map_append,<-List.append_assoc]
    exact(T7.same tu).new nr
   generalize upd H8 r (.lst ((pW RW p.name).map V.int))=H9 at T9 ⊢
   refine⟨_,rfl,f,_,dx,_,_,rfl,T9.all (f,_) (.head _),T.aX.c,T.aX.na.2.2.2.2.2.1,(by (repeat first | (rw [aC,if_pos rfl];done) | rw [aC,if_neg (by decide +kernel)])),_,rfl,Rw,_,rfl,km.k (k:=Sum.inr p.name) (T9.all (Rw,.dK (RL.map fun q=>((Sum.inr q.1.name:Key),V.ref q.2))) (by simp)) (by rw [lM];omega),?_⟩
   rw [fX _ vR]
   refine⟨⟨_,rfl⟩,RL ++ [(p,r)],by rw [List.map_append,eRL,tk];rfl,?_⟩
   rw [List.map_append]
   exact T9.put (L1:=[_,_,_,_,_])
  rintro σ HH ⟨⟨v5,rfl⟩,RL,eRL,TH⟩
  rw [lM,List.take_length] at eRL
  have eo:=TH.all (f,.ins t.cB dx (aJ "rows" (.ref Rw) (aJ "done" (.ref D) (aJ "kept" (.ref Kp) (aJ "gone" (.ref G) (aJ "ever" (.ref E) (aJ "net" (.ref n) []))))))) (.head _)
  have nod:=TH.nod
  have fre:=TH.fre
  have nE:(EL.map fun q=>q.1.name).Nodup:=by
   have:(EL.map (·.1)).map (·.name)=EL.map fun q=>q.1.name:=by rw [List.map_map];rfl
   rw [<-this,eEL]
   exact W.fit.whole.nod
  have nR:(RL.map fun q=>q.1.name).Nodup:=by
   have:(RL.map (·.1)).map (·.name)=RL.map fun q=>q.1.name:=by rw [List.map_map];rfl
   rw [<-this,eRL]
   exact ndg
  let A:oO:=⟨f,n,E,G,Kp,D,Rw,fC (·.name) EL,fC (·.name) RL⟩
  have mE:ls.map (fun l=>A.ea l.name)=EL.map (·.2):=by rw [<-eEL];exact vX nE
  have mR:(lF ps).map (fun p=>A.ra p.name)=RL.map (·.2):=by rw [<-eRL];exact vX nR
  have eC:A.cells ls ps=E:: G:: Kp:: D:: Rw:: (EL.map (·.2) ++ RL.map (·.2)):=by unfold oO.cells;rw [mE,mR]
  have e2:(fQ EL ++ wk RW RL).map Prod.fst=EL.map (·.2) ++ RL.map (·.2):=by unfold fQ wk;rw [List.map_append,List.map_map,List.map_map];rfl
  refine k HH A rfl rfl TH.but ⟨⟨dx,_,eo,⟨?_,?_⟩⟩,?_,fun l hl=>?_,TH.all (G,.dK (dC (fun _=>0) ls)) (by simp),TH.all (Kp,.dK (bC (fG ps) ps)) (by simp),TH.all (D,.dK (bC (fun _=>0) ps)) (by simp),?_,fun p hp h0=>?_,?_⟩ ?_
  ·intro q hq
   simp only [List.mem_cons,List.not_mem_nil,or_false] at hq
   rcases hq with rfl | rfl | rfl | rfl | rfl | rfl <;> (dsimp only;(repeat first | (rw [aC,if_pos rfl];done) | rw [aC,if_neg (by decide +kernel)]))
  ·intro m hm
   have hne:∀m∈(["holds", "held_now", "gone_by", "row_left", "head", "heads", "lacking", "row_ended", "deed", "do"]:List Str),∀g∈(["rows", "done", "kept", "gone", "ever", "net"]:List Str),¬m=g:=by decide +kernel
   have h:=hne m hm
   rw [aC,if_neg (h _ (by simp)),aC,if_neg (h _ (by simp)),aC,if_neg (h _ (by simp)),aC,if_neg (h _ (by simp)),aC,if_neg (h _ (by simp)),aC,if_neg (h _ (by simp))]
   rfl
  ·have:Je A.ea ls=bu EL:=by
    unfold Je bu
    rw [<-eEL,List.map_map]
    refine List.map_congr_left fun q hq=>?_
    show((Sum.inr q.1.name:Key),V.ref (A.ea q.1.name))=_
    rw [show A.ea q.1.name=q.2 from jP nE hq]
   rw [this]
   exact TH.all (E,.dK (bu EL)) (by simp)
  ·rw [<-eEL] at hl
   obtain⟨q,hq,rfl⟩:=List.mem_map.mp hl
   rw [show A.ea q.1.name=q.2 from jP nE hq]
   have hm:q.1∈ls:=by rw [<-eEL];exact List.mem_map.mpr ⟨q,hq,rfl⟩
   show HH q.2=some (.lst ((JH ls q.1.name).map V.int))
   rw [zj W.fit.whole.nod hm]
   exact TH.all (q.2,.lst (q.1.first.map V.int)) (Gw (List.mem_append.mpr (.inl (List.mem_map.mpr ⟨q,hq,rfl⟩))))
  ·have:Kr A.ra ps=RL.map fun q=>((Sum.inr q.1.name:Key),V.ref q.2):=by
    unfold Kr
    rw [<-eRL,List.map_map]
    refine List.map_congr_left fun q hq=>?_
    show((Sum.inr q.1.name:Key),V.ref (A.ra q.1.name))=_
    rw [show A.ra q.1.name=q.2 from jP nR hq]
   rw [this]
   exact TH.all (Rw,.dK (RL.map fun q=>((Sum.inr q.1.name:Key),V.ref q.2))) (by simp)
  ·have hm:p∈RL.map (·.1):=by rw [eRL];exact List.mem_filter.mpr ⟨hp,by simp [h0]⟩
   obtain⟨q,hq,rfl⟩:=List.mem_map.mp hm
   rw [show A.ra q.1.name=q.2 from jP nR hq]
   exact TH.all (q.2,.lst ((pW RW q.1.name).map V.int)) (Gw (List.mem_append.mpr (.inr (List.mem_map.mpr ⟨q,hq,rfl⟩))))
  ·rw [eC,<-e2]
   exact nod.sublist (List.Sublist.cons _ (.cons₂ _ (.cons₂ _ (.cons₂ _ (.cons₂ _ (.cons₂ _ (.cons _ (List.Sublist.refl _))))))))
  ·intro a ha
   rw [eC,<-e2] at ha
   have h2:a∈(((E,.dK (bu EL)):: (G,.dK (dC (fun _=>0) ls)):: (Kp,.dK (bC (fG ps) ps)):: (D,.dK (bC (fun _=>0) ps)):: (Rw,.dK (RL.map fun q=>((Sum.inr q.1.name:Key),V.ref q.2))):: (d,.lst ((lF ps).map fun p=>V.str p.name)):: (fQ EL ++ wk RW RL):List (Addr×HO))).map Prod.fst:=
    (List.Sublist.cons₂ E (.cons₂ G (.cons₂ Kp (.cons₂ D (.cons₂ Rw (.cons d (List.Sublist.refl _))))))).subset ha
   have hne:a≠f:=fun z=>by
    rw [List.map_cons,List.nodup_cons] at nod
    exact nod.1 (by rw [<-z];exact h2)
   obtain⟨q,hq,hqa⟩:=List.mem_map.mp h2
   have:=fre q (List.mem_cons_of_mem _ hq)
   rw [hqa] at this
   exact this.resolve_left hne
theorem Gp {α:Type} {p:α->Bool} {xs:List α} {j:Nat} {x:α} (h:(xs.take j).find? p=none) (hx:xs[j]?=some x):if p x=true then xs.find? p=some x else(xs.take (j+1)).find? p=none:=by
 split
 ·rename_i e
  have hj:=(List.getElem?_eq_some_iff.mp hx)
  have e2:xs=xs.take j ++ x:: xs.drop (j+1):=by
   rw [<-hj.2,<-List.drop_eq_getElem_cons hj.1,List.take_append_drop]
  rw [e2,List.find?_append,h,List.find?_cons_of_pos e]
  rfl
 ·rename_i e
  rw [List.take_succ,hx,Option.toList_some,List.find?_append,h,List.find?_cons_of_neg e]
  rfl
noncomputable def roomF (ls:List aG) (x:Str):Int:=((ls.find? fun l=>decide (l.name=x)).map (·.room)).getD 0
theorem JT {ls:List aG} (nd:(ls.map (·.name)).Nodup) {l:aG} (hl:l∈ls):roomF ls l.name=l.room:=by
 unfold roomF
 rw [find_name nd hl]
 rfl
noncomputable def uJ (ls:List aG) (S:FS) (q:Str×Int):Bool:=decide (roomF ls q.1<=((S.ev q.1).length:Int) - (S.g q.1:Int))
noncomputable def yf (ls:List aG) (S:FS) (dd:ji):V:=match dd.gv.find? (uJ ls S) with
 | some q=>.str q.1
 | none=>.non
inductive rO (K:PySem.W.Frag) (t:jH) (vs:List V) (H:Hp) (Q:VK) (E:XK):Prop where
 | mk:∀(r:Addr) (n:Nat) (A:oO) (ls:List aG) (ps:List PD) (S:FS) (M:List Addr) (U:Addr) (dd:ji),vs=[.ref r,.ref U]->m8 t H r A.n A.f n->gW K t H A.n ls ps->dJ K t H A ls ps S->jZ M H U dd->((∀q∈dd.gv,q.1∈ls.map (·.name)))->(∀H',aK H H'->Q (yf ls S dd) H')->rO K t vs H Q E
theorem zA (T:Txt w K mg t):FO P w K mg base 4 t.mZ ["self", "deed"] (rO K t):=by
 have sc:=T.ou.sc ["self", "deed", "lane", "value"]
 refine T.ou.F.ok sc ln (fun _ _ _ _ H vs Q E hr h=>?_)
 obtain⟨r,n,A,ls,ps,S,M,U,dd,rfl,hR,N,W,⟨La,Lg,rs,hU,_,hLg,hT,_,_⟩,hout,k⟩:=h
 refine⟨_,(az (dg PassesOwn.never rfl (bW (aO cM (pv 1) aq (fun _ _=>rfl))) (jJ rfl (bD (gN sc 2) (bD (gN sc 3) fc)))
   (aA (bR (aW U6 (zz (bB (pv 0) rfl) T.aX T.aX.me.2.1 (xq T) T.oU hr (aa (pv 2) ak aj)) (zz (bB (pv 0) rfl) T.bz T.bz.me.2.2.2.2.2.2.2.1 (Ca T) T.qT hr (aa (pv 2) ak aj)) (bI _))
    (aA (aN (pv 2)))
    aY)))
  (aA (aN lG))),?_⟩
 have hl:sizeLine=16777216:=sizeLine_eq
 have hlr:rs.length=dd.gv.length:=by have:=Paired.length hT;rw [lM] at this;exact this
 refine⟨_,rfl,U,_,1,_,rfl,rfl,eN.of hU,aM (j:=1) rfl,Lg,rfl,⟨_,bL.of hLg⟩,cY (K:=K) (a:=Lg) (xs:=rs.map V.ref) (fun j σ H'=>aK H H'/\(∃v2 v3,σ=[some (.ref r),some (.ref U),v2,v3])/\(dd.gv.take j).find? (uJ ls S)=none) ⟨aK.refl _,⟨_,_,rfl⟩,rfl⟩ (fun j σ H' _ h=>bL.of (h.1 _ _ hLg)) ?_ ?_⟩
 ·rintro j x σ H1 hx ⟨s1,⟨v2,v3,rfl⟩,hf⟩
  rw [List.getElem?_map] at hx
  obtain⟨u,hu,rfl⟩:=Option.map_eq_some_iff.mp hx
  obtain⟨vs2,z1,z2⟩:=rR hT hu
  rw [List.getElem?_map] at z1
  obtain⟨w,ew,rfl⟩:=Option.map_eq_some_iff.mp z1
  have ft:=Gp hf ew
  obtain⟨dxn,fsn,R,F0,Pd,Gn,Tk,FL,PL,Wn⟩:=N.same s1
  have F:=Wn.fit
  obtain⟨dxr,fsr,R1⟩:=hR.same s1
  have W1:=W.same s1
  obtain⟨dx,fs,h1,h2⟩:=id W1.at'.ex
  obtain⟨l,hl',hln⟩:=List.mem_map.mp (hout w (List.mem_of_getElem? ew))
  have va:=lQ (ea:=A.ea) F.whole.nod hl'
  have vg:=rP (g:=S.g) F.whole.nod hl'
  have fb:uJ ls S w=decide (l.room<=((S.ev l.name).length:Int) - (S.g l.name:Int)):=by unfold uJ;rw [<-hln,JT F.whole.nod hl']
  rw [hln] at va vg
  refine⟨u,_,rfl,eN.of (s1 _ _ z2),rfl,_,_,rfl,_,_,rfl,rfl,?_⟩
  refine⟨_,rfl,r,_,dxr,fsr,_,rfl,R1.1.1,T.cC.c,T.cC.na.2.1,R1.2.has ("flow",.ref A.f) (by simp),A.f,dx,fs,rfl,h1,h2.no _ (by decide +kernel),_,rfl,A.f,A.n,A.E,A.G,A.Kp,A.D,A.Rw,A.ea w.1,_,_,w.1,_,S.g w.1,rfl,W1.at',W1.ever,W1.gone,va,vg,bL.of (by rw [<-hln];exact W1.lists l hl'),?_⟩
  refine⟨_,rfl,r,_,dxr,fsr,_,rfl,R1.1.1,T.cC.c,T.cC.na.1,R1.2.has ("net",.ref A.n) (by simp),A.n,dxn,fsn,rfl,Wn.obj,Wn.fl.no _ (by decide +kernel),_,rfl,A.n,ls,ps,w.1,rfl,Wn.s,.inl ⟨l,hl',hln,fun H2 s2=>?_⟩⟩
  refine⟨_,_,rfl,rfl,_,rfl,?_⟩
  have e2:decide (l.room<=((((S.ev l.name).map V.int).length:Nat):Int) - ((S.g w.1:Nat):Int))=uJ ls S w:=by rw [fb,lM,hln]
  rw [e2]
  cases hb:uJ ls S w with
  | true=>
   rw [if_pos hb] at ft
   refine fY ⟨_,rfl,?_⟩
   have k':=k H2 (s1.trans s2)
   unfold yf at k'
   rw [ft] at k'
   exact k'
  | false=>
   rw [if_neg (by simp [hb])] at ft
   exact dw ⟨s1.trans s2,⟨_,_,rfl⟩,ft⟩
 rintro σ H1 ⟨s1,⟨v2,v3,rfl⟩,hf⟩
 rw [lM,hlr,List.take_length] at hf
 have k':=k H1 s1
 unfold yf at k'
 rw [hf] at k'
 exact k'
theorem Uo {H:Hp} {Q:VK} {Ex:XK} {b:Nat} {A:oO} {ls:List aG} {ps:List PD} {S:FS} {p:PD} (N:gW K t H A.n ls ps) (W:dJ K t H A ls ps S) (hp:p∈ps) (O:Kg b ls ps S) (kn:j9 S p=none->∀H',aK H H'->Q .non H')
  (k:∀dd,j9 S p=some dd->∀H' U,aK H H'->H U=none->jZ (A.cells ls ps) H' U dd->Q (.ref U) H'):jX K t [.ref A.f,.str p.name] H Q Ex:=by
 unfold jX
 exact⟨b,A,ls,ps,S,p,rfl,N,W,hp,O,kn,k⟩
noncomputable def dG (ls:List aG) (S:FS) (p:PD):Option ji:=match j9 S p with
 | none=>none
 | some dd=>if yf ls S dd=.non then some dd else none
theorem lJ {S:FS} {p:PD} {dd:ji} (h:j9 S p=some dd):gQ p.kind p.ins (aV S p)=.non/\xJ S p=false/\dd=⟨(places p.kind (aV S p)).map (strAt p.ins),(cH p.kind p.nums (rA S p) (S.k p.name)).map fun pv=>(strAt p.outs pv.1.toNat,pv.2),dR p.kind (rA S p) (S.k p.name)⟩:=by
 unfold j9 at h
 split at h
 ·cases h
 ·rename_i h1
  split at h
  ·cases h
  ·rename_i h2
   exact⟨Classical.not_not.mp h1,by simpa using h2,(Option.some.inj h).symm⟩
theorem Fl {xs:List Str} {q:Nat} (h:q <xs.length):strAt xs q∈xs:=by unfold strAt;rw [List.getElem?_eq_getElem h];exact List.getElem_mem h
theorem zu {xs:List Str} {q:Nat} (h:q <xs.length):strAt xs q=xs[q]:=by unfold strAt;rw [List.getElem?_eq_getElem h];rfl
theorem Ob {i:Nat} {hs:List V}:(places i hs).Nodup:=by
 unfold places
 split
 ·split
  ·rename_i n _
   have h0:=Int.emod_nonneg n (show(2:Int)≠0 by decide)
   simp
   omega
  ·simp
 ·exact List.nodup_range
theorem Uh {xs:List Str} (nd:xs.Nodup) {l:List Nat} (hl:l.Nodup) (h:∀q∈l,q <xs.length):(l.map (strAt xs)).Nodup:=by
 unfold List.Nodup at hl ⊢
 rw [List.pairwise_map]
 refine hl.imp_of_mem fun {a b} ha hb hne e=>hne ?_
 rw [zu (h a ha),zu (h b hb)] at e
 exact(List.getElem_inj nd).mp e
theorem Np {f:PD->List Str}:∀{ps:List PD},(ps.flatMap f).Nodup->∀{p:PD},p∈ps->(f p).Nodup
 | q:: r,nd,p,hp=>by
  rw [List.flatMap_cons,List.nodup_append] at nd
  rcases List.mem_cons.mp hp with h | h
  ·rw [h];exact nd.1
  ·exact Np nd.2.1 h
theorem vV {ls:List aG} {ps:List PD} {S:FS} (F:Ai ls ps) {p:PD} (hp:p∈ps) {dd:ji} (h:j9 S p=some dd):Cg ls dd:=by
 obtain⟨hl,he,rfl⟩:=lJ h
 have ok:=F.pok p hp
 have hO:=o7 S p ok
 have hlt:∀q∈places p.kind (aV S p),q <p.ins.length:=fun q hq=>by
  have:=gZ hO q hq
  unfold aV at this
  rwa [lM] at this
 have inL:∀x∈p.ins ++ p.outs,x∈ls.map (·.name):=fun x hx=>by
  obtain⟨l,hl,rfl⟩:=F.inL hp hx
  exact List.mem_map.mpr ⟨l,hl,rfl⟩
 refine⟨?_,fun x hx=>?_,fun q hq=>?_,?_⟩
 ·exact Uh (Np (F.whole.ins.nodup_iff.mpr F.whole.nod) hp) Ob hlt
 ·obtain⟨q,hq,rfl⟩:=List.mem_map.mp hx
  exact inL _ (List.mem_append.mpr (.inl (Fl (hlt q hq))))
 ·obtain⟨pv,hpv,rfl⟩:=List.mem_map.mp hq
  obtain⟨o,ho1,ho2⟩:=Hb (show p.kind<=10 by have:=ok.1;omega) _ _ _ _ hpv
  refine inL _ (List.mem_append.mpr (.inr (Fl ?_)))
  rw [ho1,Int.toNat_natCast,ok.2.2.2.1]
  exact ho2
 ·show(List.map _ _).length<=2
  rw [lM]
  exact Cj ..
inductive qi (K:PySem.W.Frag) (t:jH) (vs:List V) (H:Hp) (Q:VK):Prop where
 | mk:∀(b:Nat) (r:Addr) (n:Nat) (A:oO) (ls:List aG) (ps:List PD) (S:FS) (p:PD),vs=[.ref r,.str p.name]->m8 t H r A.n A.f n->gW K t H A.n ls ps->dJ K t H A ls ps S->Kg b ls ps S->p∈ps->((dG ls S p=none->∀H',aK H H'->Q .non H'))->(∀dd,dG ls S p=some dd->∀H' U,aK H H'->H U=none->jZ (A.cells ls ps) H' U dd->Q (.ref U) H')->qi K t vs H Q
@[irreducible] noncomputable def fZ (K:PySem.W.Frag) (t:jH):Sp:=fun vs H Q _=>qi K t vs H Q
theorem rH (T:Txt w K mg t):FO P w K mg base 6 t.nH ["self", "name"] (fZ K t):=by
 have sc:=T.jw.sc ["self", "name", "deed"]
 refine T.jw.F.ok sc (fun vs H Q E h=>?_) (fun cdv A outer s H vs Q E hr h=>?_)
 ·unfold fZ at h
  obtain⟨b,r,n,A,ls,ps,S,p,rfl,_⟩:=h
  rfl
 ·unfold fZ at h
  obtain⟨b,r,n,A,ls,ps,S,p,rfl,hR,N,W,O,hp,kn,k⟩:=h
  refine⟨_,(az (sN sc 2 (zz (bB (pv 0) rfl) T.aX T.aX.me.2.2.2.2.2.2.2.1 (Hh T) T.uC hr (aa (pv 1) ak aj)))
   (aA (aN (ur (PW.pt (wM (gj (vC (pv 2))) (qK (gj (vW (zz (pv 0) T.cC T.cC.me.2.1 (zA T) T.ou hr (aa (pv 2) ak aj))))))) lG (pv 2))))),?_⟩
  obtain⟨dxr,fsr,R0⟩:=id hR
  obtain⟨dx,fs,h1,h2⟩:=id W.at'.ex
  have F:Ai ls ps:=by obtain⟨_,_,_,_,_,_,_,_,_,Wn⟩:=N;exact Wn.fit
  refine⟨_,rfl,r,_,dxr,fsr,_,rfl,R0.1.1,T.cC.c,T.cC.na.2.1,R0.2.has ("flow",.ref A.f) (by simp),A.f,dx,fs,rfl,h1,h2.no _ (by decide +kernel),_,rfl,?_⟩
  refine Uo N W hp O (fun hd H1 s1=>?_) (fun dd hd H1 U s1 nU DA=>?_)
  ·exact⟨_,rfl,_,rfl,fY (fY (kn (by unfold dG;rw [hd]) _ s1))⟩
  ·obtain⟨dxr,fsr,R1⟩:=hR.same s1
   have nx:dG ls S p=if yf ls S dd=.non then some dd else none:=by unfold dG;rw [hd]
   refine⟨_,rfl,_,rfl,dw ?_⟩
   refine⟨_,rfl,r,dxr,fsr,rfl,R1.1.1,R1.2.no _ (by decide +kernel),_,rfl,r,n,A,ls,ps,S,_,U,dd,rfl,⟨dxr,fsr,R1⟩,N.same s1,W.same s1,DA,(vV F hp hd).gin,fun H2 s2=>?_⟩
   by_cases hf:yf ls S dd=.non
   ·rw [hf]
    exact⟨_,rfl,dw ⟨_,rfl,k dd (by rw [nx,if_pos hf]) H2 U (s1.trans s2) nU (DA.same s2)⟩⟩
   ·rw [decide_eq_false hf]
    exact⟨_,rfl,fY (kn (by rw [nx,if_neg hf]) H2 (s1.trans s2))⟩
theorem MT {H:Hp} {Q:VK} {Ex:XK} {b:Nat} {r:Addr} {n:Nat} {A:oO} {ls:List aG} {ps:List PD} {S:FS} {p:PD} (hR:m8 t H r A.n A.f n) (N:gW K t H A.n ls ps) (W:dJ K t H A ls ps S) (O:Kg b ls ps S) (hp:p∈ps) (kn:dG ls S p=none->∀H',aK H H'->Q .non H')
  (k:∀dd,dG ls S p=some dd->∀H' U,aK H H'->H U=none->jZ (A.cells ls ps) H' U dd->Q (.ref U) H'):fZ K t [.ref r,.str p.name] H Q Ex:=by
 unfold fZ
 exact⟨b,r,n,A,ls,ps,S,p,rfl,hR,N,W,O,hp,kn,k⟩
inductive tX (K:PySem.W.Frag) (t:jH) (vs:List V) (H:Hp) (Q:VK) (E:XK):Prop where
 | mk:∀(b:Nat) (r:Addr) (n:Nat) (A:oO) (ls:List aG) (ps:List PD) (S:FS) (p:PD),vs=[.ref r,.str p.name]->m8 t H r A.n A.f n->gW K t H A.n ls ps->dJ K t H A ls ps S->Kg b ls ps S->p∈ps->(∀H',aK H H'->Q (.bl (dG ls S p).isSome) H')->tX K t vs H Q E
theorem Bw (T:Txt w K mg t):FO P w K mg base 7 t.pJ ["self", "name"] (tX K t):=by
 have sc:=T.pM.sc ["self", "name"]
 refine T.pM.F.ok sc ln (fun _ _ _ _ H vs Q E hr h=>?_)
 obtain⟨b,r,n,A,ls,ps,S,p,rfl,hR,N,W,O,hp,k⟩:=h
 refine⟨_,(aA (aN (Ed (vW (zz (pv 0) T.cC T.cC.me.2.2.1 (rH T) T.jw hr (aa (pv 1) ak aj)))))),?_⟩
 obtain⟨dxr,fsr,R0⟩:=id hR
 refine⟨_,rfl,r,dxr,fsr,rfl,R0.1.1,R0.2.no _ (by decide +kernel),_,rfl,?_⟩
 refine MT hR N W O hp (fun hd H1 s1=>?_) (fun dd hd H1 U s1 nU DA=>?_)
 ·have:=k H1 s1
  rw [hd] at this
  exact this
 ·have:=k H1 s1
  rw [hd] at this
  exact this
inductive yW (K:PySem.W.Frag) (t:jH) (vs:List V) (H:Hp) (Q:VK) (E:XK):Prop where
 | mk:∀(r:Addr) (n:Nat) (A:oO) (ls:List aG) (ps:List PD) (S:FS) (p:PD),vs=[.ref r,.str p.name]->m8 t H r A.n A.f n->gW K t H A.n ls ps->dJ K t H A ls ps S->p∈ps->(∀H',aK H H'->Q (.int (S.d p.name:Int)) H')->yW K t vs H Q E
theorem Ip (T:Txt w K mg t):FO P w K mg base 3 t.uQ ["self", "name"] (yW K t):=by
 have sc:=T.uW.sc ["self", "name"]
 refine T.uW.F.ok sc ln (fun _ _ _ _ H vs Q E hr h=>?_)
 obtain⟨r,n,A,ls,ps,S,p,rfl,hR,N,W,hp,k⟩:=h
 refine⟨_,(az (bM (zz (bB (pv 0) rfl) T.bz T.bz.me.2.2.2.2.2.2.2.2.2.1 (jN T) T.gY hr (aa (pv 1) ak aj)))
  (aA (aN (bH hr.u1 (bB (bB (pv 0) rfl) rfl) (pv 1) (fun _ _=>rfl))))),?_⟩
 obtain⟨dxn,fsn,R,F0,Pd,Gn,Tk,FL,PL,Wn⟩:=id N
 obtain⟨dxr,fsr,R0⟩:=id hR
 refine⟨_,rfl,r,_,dxr,fsr,_,rfl,R0.1.1,T.cC.c,T.cC.na.1,R0.2.has ("net",.ref A.n) (by simp),A.n,dxn,fsn,rfl,Wn.obj,Wn.fl.no _ (by decide +kernel),_,rfl,A.n,ls,ps,p.name,rfl,N,.inl ⟨p,hp,rfl,fun H1 q s1 _=>?_⟩⟩
 obtain⟨dxr,fsr,R1⟩:=hR.same s1
 have W1:=W.same s1
 obtain⟨dx,fs,h1,h2⟩:=id W1.at'.ex
 have vd:=lH (k:=fun x=>(S.d x:Int)) Wn.fit.pnd hp
 exact⟨_,rfl,r,_,dxr,fsr,_,rfl,R1.1.1,T.cC.c,T.cC.na.2.1,R1.2.has ("flow",.ref A.f) (by simp),A.f,_,dx,fs,_,rfl,h1,T.aX.c,T.aX.na.2.2.2.2.1,h2.has ("done",.ref A.D) (by simp),_,rfl,A.D,_,rfl,(by rw [<-vd];exact eY.k (k:=Sum.inr p.name) W1.done),k _ s1⟩
inductive tW (K:PySem.W.Frag) (t:jH) (vs:List V) (H:Hp) (Q:VK) (E:XK):Prop where
 | mk:∀(r:Addr) (n:Nat) (A:oO) (ls:List aG) (ps:List PD) (S:FS) (l:aG),vs=[.ref r,.str l.name]->m8 t H r A.n A.f n->gW K t H A.n ls ps->dJ K t H A ls ps S->l∈ls->(∀H' p,aK H H'->H p=none->H' p=some (.lst (((S.ev l.name).drop (S.g l.name)).map V.int))->Q (.ref p) H')->tW K t vs H Q E
theorem Bx (T:Txt w K mg t):FO P w K mg base 3 t.pN ["self", "name"] (tW K t):=by
 have sc:=T.pK.sc ["self", "name"]
 refine T.pK.F.ok sc ln (fun _ _ _ _ H vs Q E hr h=>?_)
 obtain⟨r,n,A,ls,ps,S,l,rfl,hR,N,W,hl,k⟩:=h
 refine⟨_,(az (bM (zz (bB (pv 0) rfl) T.bz T.bz.me.2.2.2.2.2.2.1 (ie T) T.d9 hr (aa (pv 1) ak aj)))
  (aA (aN (zz (bB (pv 0) rfl) T.aX T.aX.me.2.2.1 (zR T) T.nQ hr (aa (pv 1) ak aj))))),?_⟩
 obtain⟨dxn,fsn,R,F0,Pd,Gn,Tk,FL,PL,Wn⟩:=id N
 obtain⟨dxr,fsr,R0⟩:=id hR
 refine⟨_,rfl,r,_,dxr,fsr,_,rfl,R0.1.1,T.cC.c,T.cC.na.1,R0.2.has ("net",.ref A.n) (by simp),A.n,dxn,fsn,rfl,Wn.obj,Wn.fl.no _ (by decide +kernel),_,rfl,A.n,ls,ps,l.name,rfl,N,.inl ⟨List.mem_map.mpr ⟨l,hl,rfl⟩,fun H1 s1=>?_⟩⟩
 obtain⟨dxr,fsr,R1⟩:=hR.same s1
 have W1:=W.same s1
 obtain⟨dx,fs,h1,h2⟩:=id W1.at'.ex
 refine⟨_,rfl,r,_,dxr,fsr,_,rfl,R1.1.1,T.cC.c,T.cC.na.2.1,R1.2.has ("flow",.ref A.f) (by simp),A.f,dx,fs,rfl,h1,h2.no _ (by decide +kernel),_,rfl,A.f,A.n,A.E,A.G,A.Kp,A.D,A.Rw,A.ea l.name,_,_,l.name,_,_,rfl,W1.at',W1.ever,W1.gone,lQ Wn.fit.whole.nod hl,rP Wn.fit.whole.nod hl,bL.of (W1.lists l hl),fun p hp=>?_⟩
 rw [<-List.map_drop]
 exact k _ p (s1.trans (aB hp)) (s1.free hp) au
inductive Bd (t:jH) (vs:List V) (H:Hp) (Q:VK) (E:XK):Prop where
 | mk:∀(r a f:Addr) (n:Nat),vs=[.ref r]->m8 t H r a f n->Q (.int (n:Nat)) H->Bd t vs H Q E
theorem Jl (T:Txt w K mg t):FO P w K mg base 1 t.xF ["self"] (Bd t):=by
 have sc:=T.xQ.sc ["self"]
 refine T.xQ.F.ok sc ln (fun _ _ _ _ H vs Q E hr h=>?_)
 obtain⟨r,a,f,n,rfl,⟨dxr,fsr,R0⟩,k⟩:=h
 refine⟨_,(aA (aN (bB (pv 0) rfl))),?_⟩
 exact⟨_,rfl,r,_,dxr,fsr,_,rfl,R0.1.1,T.cC.c,T.cC.na.2.2.1,R0.2.has ("turns",.int (n:Nat)) (by simp),k⟩
theorem QW {x:V} {xs:List V} (h:x∈xs) (f:Io x x=true):inV x xs=true:=List.any_eq_true.mpr ⟨x,h,f⟩
inductive qt (K:PySem.W.Frag) (t:jH) (vs:List V) (H:Hp) (Q:VK) (E:XK):Prop where
 | mk:∀(r:Addr) (n:Nat) (A:oO) (ls:List aG) (ps:List PD) (S:FS) (L:Addr) (xs:List Str),vs=[.ref r,.ref L]->m8 t H r A.n A.f n->gW K t H A.n ls ps->dJ K t H A ls ps S->bL K H L (xs.map V.str)->((∀x∈xs,V.str x∈dX ps "give" ++ dX ps "take"))->(∀H',aK H H'->Q .non H')->qt K t vs H Q E
theorem yI (T:Txt w K mg t):FO P w K mg base 4 t.lg ["self", "names"] (qt K t):=by
 have sc:=T.lE.sc ["self", "names", "doors", "name"]
 refine T.lE.F.ok sc ln (fun _ _ _ _ H vs Q E hr h=>?_)
 obtain⟨r,n,A,ls,ps,S,L,xs,rfl,hR,N,W,hL,hx,k⟩:=h
 refine⟨_,(az (sN sc 2 (bc HS (Sh (bB (pv 0) rfl) T.bz T.bz.me.2.2.2.2.1 (sW T) T.mQ hr) (Sh (bB (pv 0) rfl) T.bz T.bz.me.2.2.2.2.2.1 (Ij T) T.uO hr)))
  (aA (dg PassesOwn.never rfl (bW (pv 1)) (gN sc 3)
   (aA (bR (aW jf (pv 3) (pv 2) (by with_unfolding_all rfl))
    (aA dY)
    aY))))),?_⟩
 have hz:sizeLine=16777216:=sizeLine_eq
 obtain⟨dxn,fsn,R,F0,Pd,Gn,Tk,FL,PL,Wn⟩:=id N
 have p16:=Wn.fit.p16
 obtain⟨dxr,fsr,R0⟩:=id hR
 have g1:=rG ps "give"
 have g2:=rG ps "take"
 refine⟨_,rfl,r,_,dxr,fsr,_,rfl,R0.1.1,T.cC.c,T.cC.na.1,R0.2.has ("net",.ref A.n) (by simp),A.n,dxn,fsn,rfl,Wn.obj,Wn.fl.no _ (by decide +kernel),A.n,ls,ps,rfl,N,fun l nl=>?_⟩
 have s1:=aB (o:=.lst (dX ps "give")) nl
 obtain⟨dxr,fsr,R1⟩:=hR.same s1
 have Wn1:=Wn.same s1
 refine⟨_,rfl,r,_,dxr,fsr,_,rfl,R1.1.1,T.cC.c,T.cC.na.1,R1.2.has ("net",.ref A.n) (by simp),A.n,dxn,fsn,rfl,Wn1.obj,Wn1.fl.no _ (by decide +kernel),A.n,ls,ps,rfl,Wn1.s,fun l2 nl2=>?_⟩
 have s2:=aB (o:=.lst (dX ps "take")) nl2
 have e1:=s2 _ _ (au (H:=H) (a:=l) (o:=.lst (dX ps "give")))
 refine⟨l,l2,_,_,rfl,rfl,e1,au,by omega,fun l3 nl3=>?_⟩
 have s13:=s1.trans (s2.trans (aB (o:=.lst (dX ps "give" ++ dX ps "take")) nl3))
 have e3:upd (upd (upd H l (.lst (dX ps "give"))) l2 (.lst (dX ps "take"))) l3 (.lst (dX ps "give" ++ dX ps "take")) l3=some (.lst (dX ps "give" ++ dX ps "take")):=au
 generalize upd (upd (upd H l (.lst (dX ps "give"))) l2 (.lst (dX ps "take"))) l3 (.lst (dX ps "give" ++ dX ps "take"))=H3 at s13 e3 ⊢
 have fl:(dX ps "give" ++ dX ps "take").all kW=true:=by
  rw [List.all_eq_true]
  intro v hv
  rcases List.mem_append.mp hv with h | h <;> (obtain⟨p,_,rfl⟩:=List.mem_map.mp h;rfl)
 refine⟨_,rfl,L,rfl,⟨_,s13.seq hL⟩,cY (K:=K) (a:=L) (xs:=xs.map V.str) (fun j σ H'=>H'=H3/\∃v3,σ=[some (.ref r),some (.ref L),some (.ref l3),v3]) ⟨rfl,none,rfl⟩ (fun j σ H' _ ⟨e,_⟩=>by rw [e];exact s13.seq hL) ?_ ?_⟩
 ·rintro j x σ H' hx' ⟨rfl,v3,rfl⟩
  rw [List.getElem?_map] at hx'
  obtain⟨y,hy,rfl⟩:=Option.map_eq_some_iff.mp hx'
  refine⟨_,rfl,_,rfl,l3,_,rfl,.inl (bL.of e3),rfl,fl,_,rfl,?_⟩
  rw [QW (hx y (List.mem_of_getElem? hy)) (by simp [Io])]
  exact dw ⟨rfl,_,rfl⟩
 ·rintro σ H' ⟨rfl,v3,rfl⟩
  exact k _ s13
theorem MF (y:Str) (xs:List Str):inV (.str y) (xs.map V.str)=decide (y∈xs):=by
 rw [Bool.eq_iff_iff,decide_eq_true_iff]
 unfold inV
 rw [List.any_eq_true]
 constructor
 ·rintro⟨v,hv,e⟩
  obtain⟨z,hz,rfl⟩:=List.mem_map.mp hv
  have:z=y:=by simpa [Io] using e
  rw [<-this];exact hz
 ·intro h
  exact⟨.str y,List.mem_map.mpr ⟨y,h,rfl⟩,by simp [Io]⟩
noncomputable def kI (xs:List Str) (p:PD):Bool:=!decide (p.name∈xs)
noncomputable def jA (ls:List aG) (ps:List PD) (S:FS) (xs:List Str):List (PD×ji):=(ps.filter (kI xs)).filterMap fun p=>(dG ls S p).map fun dd=>(p,dd)
noncomputable def cD (S:FS) (ws:List (PD×ji)):FS:=ws.foldl (fun S w=>tY S w.1.name w.2) S
noncomputable def j7 (ls:List aG) (ps:List PD) (S:FS) (xs:List Str):FS:=cD S (jA ls ps S xs)
theorem rY (S:FS) (ws:List (PD×ji)) (w:PD×ji):cD S (ws ++ [w])=tY (cD S ws) w.1.name w.2:=by unfold cD;rw [List.foldl_append];rfl
theorem vI {S:FS} {b:Nat} {x:Str}:∀{ws:List (PD×ji)},(S.ev x).length<=b->(∀w∈ws,w.2.gv.length<=2)->((cD S ws).ev x).length<=b+2 * ws.length
 | [],h,_=>by simpa [cD] using h
 | w:: r,h,g=>by
  have h1:=g w List.mem_cons_self
  have h2:((tY S w.1.name w.2).ev x).length<=b+2:=by
   unfold tY
   rw [lP,lM]
   have:=List.length_filter_le (fun q:Str×Int=>decide (q.1=x)) w.2.gv
   omega
  have h3:=vI (S:=tY S w.1.name w.2) (ws:=r) h2 (fun w' hw=>g w' (List.mem_cons_of_mem _ hw))
  show((cD (tY S w.1.name w.2) r).ev x).length<=_
  rw [List.length_cons]
  omega
theorem rM {α β:Type} {F:α->β->Prop}:∀{xs:List α} {ys:List β} {j:Nat} {x:α},Paired F xs ys->xs[j]?=some x->∃y,ys[j]?=some y/\F x y
 | _,_,_,_,.nil,e=>by simp at e
 | _,_,0,_,.cons h _,e=>by simp at e;subst e;exact⟨_,rfl,h⟩
 | _,_,j+1,_,.cons _ r,e=>by
  obtain⟨y,h1,h2⟩:=rM (j:=j) r (by simpa using e)
  exact⟨y,by simpa using h1,h2⟩
theorem Gz {α β:Type} {F:α->β->Prop}:∀{xs:List α} {ys:List β} {y:β},Paired F xs ys->y∈ys->∃x,F x y
 | _,_,_,.nil,e=>by simp at e
 | _,_,_,.cons h r,e=>by
  rcases List.mem_cons.mp e with rfl | e
  ·exact⟨_,h⟩
  ·exact Gz r e
theorem dJ.ncell {H:Hp} {A:oO} {ls:List aG} {ps:List PD} {S:FS} (W:dJ K t H A ls ps S) {a:Addr} {u:HO} (h:H a=some u) (h1:∀ks,u≠.dK ks) (h2:∀ks,u≠.lst ks):a∉A.cells ls ps:=by
 intro z
 have no:∀{b:Addr} {v:HO},H b=some v->a=b->u=v:=fun e q=>by rw [<-q,h] at e;exact Option.some.inj e
 unfold oO.cells at z
 simp only [List.mem_cons,List.mem_append,List.mem_map] at z
 rcases z with z | z | z | z | z | ⟨l,hl,z⟩ | ⟨p,hp,z⟩
 ·exact h1 _ (no W.ever z)
 ·exact h1 _ (no W.gone z)
 ·exact h1 _ (no W.kept z)
 ·exact h1 _ (no W.done z)
 ·exact h1 _ (no W.rows z)
 ·exact h2 _ (no (W.lists l hl) z.symm)
 ·have hf:=List.mem_filter.mp hp
  exact h2 _ (no (W.rlst p hf.1 (by simpa using hf.2)) z.symm)
theorem dJ.tupMov {H H':Hp} {A:oO} {ls:List aG} {ps:List PD} {S:FS} (W:dJ K t H A ls ps S) (m:pX (A.cells ls ps) H H') {a:Addr} {xs:List V} (h:H a=some (.tup xs)):H' a=some (.tup xs):=by
 rw [m a (W.ncell h (by intro _ z;cases z) (by intro _ z;cases z))]
 exact h
theorem jZ.mov {H H':Hp} {A:oO} {ls:List aG} {ps:List PD} {S:FS} {U:Addr} {dd:ji} (h:jZ (A.cells ls ps) H U dd) (W:dJ K t H A ls ps S) (m:pX (A.cells ls ps) H H'):jZ (A.cells ls ps) H' U dd:=by
 obtain⟨La,Lg,rs,a,b,c,d,e,f⟩:=h
 exact⟨La,Lg,rs,W.tupMov m a,by rw [m La e];exact b,by rw [m Lg f];exact c,Paired.mapP d fun _ _ z=>W.tupMov m z,e,f⟩
theorem m8.mov {H H':Hp} {r a f:Addr} {n:Nat} {M:List Addr} (h:m8 t H r a f n) (nr:r∉M) (m:pX M H H'):m8 t H' r a f n:=by
 obtain⟨dx,fs,h1,h2⟩:=h
 exact⟨dx,fs,⟨by rw [m r nr];exact h1.1,h1.2⟩,h2⟩
theorem X6 {H:Hp} {Q:VK} {Ex:XK} {b:Nat} {A:oO} {ls:List aG} {ps:List PD} {S:FS} {p:PD} {U:Addr} {dd:ji} (F:Ai ls ps) (W:dJ K t H A ls ps S) (hp:p∈ps) (hl:∀l∈ls,(S.ev l.name).length<=b) (hb:b<=100000) (d:jZ (A.cells ls ps) H U dd) (o:Cg ls dd)
  (k:∀H',pX (A.cells ls ps) H H'->dJ K t H' A ls ps (tY S p.name dd)->Q .non H'):pA K t [.ref A.f,.str p.name,.ref U] H Q Ex:=by
 unfold pA
 exact⟨b,A,ls,ps,S,p,U,dd,rfl,F,W,hp,hl,hb,d,o,k⟩
theorem m8.turned {H:Hp} {r a f:Addr} {n:Nat} {dx:Addr} {fs:List (Str×V)} (h:(H r=some (.ins t.pO dx fs)/\fs.length<=n+3)/\Tn ["step", "need_doors", "next_deed", "full_lane", "can_work", "works", "lane_now", "turn"] [("net",.ref a),("flow",.ref f),("turns",.int (n:Nat))] fs):
  m8 t (upd H r (.ins t.pO dx (aJ "turns" (.int ((n:Int)+1)) fs))) r a f (n+1):=by
 refine⟨dx,_,⟨au,?_⟩,⟨?_,?_⟩⟩
 ·exact Nat.le_trans (gK h.1.2) (by omega)
 ·intro q hq
  simp only [List.mem_cons,List.not_mem_nil,or_false] at hq
  rcases hq with rfl | rfl | rfl
  ·dsimp only
   rw [aC,if_neg (by decide +kernel)]
   exact h.2.has ("net",.ref a) (by simp)
  ·dsimp only
   rw [aC,if_neg (by decide +kernel)]
   exact h.2.has ("flow",.ref f) (by simp)
  ·dsimp only
   rw [aC,if_pos rfl]
   rfl
 ·intro m hm
  have hne:∀m∈(["step", "need_doors", "next_deed", "full_lane", "can_work", "works", "lane_now", "turn"]:List Str),¬m= "turns" :=by decide +kernel
  rw [aC,if_neg (hne m hm)]
  exact h.2.no m hm
theorem dJ.ins {H:Hp} {A:oO} {ls:List aG} {ps:List PD} {S:FS} (W:dJ K t H A ls ps S) {x:Addr} (nx:x∉A.cells ls ps) {o:HO} (nf:x≠A.f):dJ K t (upd H x o) A ls ps S:=by
 have st:∀a,a∈A.cells ls ps->upd H x o a=H a:=fun a ha=>aH fun z=>nx (by rw [<-z];exact ha)
 obtain⟨dx,fs,h1,h2⟩:=W.at'.ex
 refine⟨⟨dx,fs,by rw [aH (Ne.symm nf)];exact h1,h2⟩,?_,fun l hl=>?_,?_,?_,?_,?_,fun p hp h0=>?_,W.nod⟩
 ·rw [st _ (by simp [oO.cells])];exact W.ever
 ·rw [st _ (by unfold oO.cells;simp only [List.mem_cons,List.mem_append,List.mem_map];exact .inr (.inr (.inr (.inr (.inr (.inl ⟨l,hl,rfl⟩))))))];exact W.lists l hl
 ·rw [st _ (by simp [oO.cells])];exact W.gone
 ·rw [st _ (by simp [oO.cells])];exact W.kept
 ·rw [st _ (by simp [oO.cells])];exact W.done
 ·rw [st _ (by simp [oO.cells])];exact W.rows
 ·rw [st _ (by unfold oO.cells;simp only [List.mem_cons,List.mem_append,List.mem_map];exact .inr (.inr (.inr (.inr (.inr (.inr ⟨p,List.mem_filter.mpr ⟨hp,by simp [h0]⟩,rfl⟩))))))];exact W.rlst p hp h0
inductive Gf (M:List Addr) (ls:List aG) (S:FS) (H:Hp) (q:PD×Addr):Prop where
 | mk:∀u,H q.2=some (.tup [.str q.1.name,u])->(((dG ls S q.1=none/\u=.non)∨∃dd U,dG ls S q.1=some dd/\u=.ref U/\jZ M H U dd))->Gf M ls S H q
theorem Gf.same {M:List Addr} {ls:List aG} {S:FS} {H H':Hp} {q:PD×Addr} (h:Gf M ls S H q) (s:aK H H'):Gf M ls S H' q:=by
 obtain⟨u,h1,h2⟩:=h
 refine⟨u,s _ _ h1,?_⟩
 rcases h2 with h2 | ⟨dd,U,a,b,c⟩
 ·exact .inl h2
 ·exact .inr ⟨dd,U,a,b,c.same s⟩
theorem Qu {ls:List aG} {S:FS}:∀{qs:List (PD×Addr)},(qs.map (·.1)).filterMap (fun p=>(dG ls S p).map fun dd=>(p,dd))=(qs.filter fun q=>(dG ls S q.1).isSome).filterMap (fun q=>(dG ls S q.1).map fun dd=>(q.1,dd))
 | []=>rfl
 | q:: r=>by
  rw [List.map_cons,List.filterMap_cons,List.filter_cons,Qu (qs:=r)]
  cases h:dG ls S q.1 with
  | none=>simp
  | some dd=>simp [List.filterMap_cons,h]
theorem jd {ls:List aG} {S:FS} {p:PD} {dd:ji} (h:dG ls S p=some dd):j9 S p=some dd/\yf ls S dd=.non:=by
 unfold dG at h
 split at h
 ·cases h
 ·rename_i d hd
  split at h
  ·rename_i hf
   cases h
   exact⟨hd,hf⟩
  ·cases h
structure Jc (K:PySem.W.Frag) (t:jH) (H:Hp) (r:Addr) (n:Nat) (A:oO) (ls:List aG) (ps:List PD) (S:FS):Prop where
 run:m8 t H r A.n A.f n
 net:gW K t (aZ (r:: A.cells ls ps) H) A.n ls ps
 flow:dJ K t H A ls ps S
 ne:r≠A.f
theorem Jc.netH {H:Hp} {r:Addr} {n:Nat} {A:oO} {ls:List aG} {ps:List PD} {S:FS} (h:Jc K t H r n A ls ps S):gW K t H A.n ls ps:=h.net.same bw
theorem m8.cell {H:Hp} {r:Addr} {n:Nat} {A:oO} {ls:List aG} {ps:List PD} {S:FS} {a f:Addr} (hR:m8 t H r a f n) (W:dJ K t H A ls ps S):r∉A.cells ls ps:=by
 obtain⟨dx,fs,⟨h1,_⟩,_⟩:=hR
 intro z
 have no:∀{b:Addr} {u:HO},H b=some u->(∀C dx fs,u≠.ins C dx fs)->r=b->False:=fun e h q=>by rw [<-q,h1] at e;exact h _ _ _ (Option.some.inj e).symm
 unfold oO.cells at z
 simp only [List.mem_cons,List.mem_append,List.mem_map] at z
 rcases z with z | z | z | z | z | ⟨l,hl,z⟩ | ⟨p,hp,z⟩
 ·exact no W.ever (by intro _ _ _ z;cases z) z
 ·exact no W.gone (by intro _ _ _ z;cases z) z
 ·exact no W.kept (by intro _ _ _ z;cases z) z
 ·exact no W.done (by intro _ _ _ z;cases z) z
 ·exact no W.rows (by intro _ _ _ z;cases z) z
 ·exact no (W.lists l hl) (by intro _ _ _ z;cases z) z.symm
 ·have hf:=List.mem_filter.mp hp
  exact no (W.rlst p hf.1 (by simpa using hf.2)) (by intro _ _ _ z;cases z) z.symm
theorem Wh {ws:List Int} (h:Wg ws):0<=g0 ws/\g0 ws <1000000000:=by
 unfold g0
 match ws,h with
 | [],_=>exact⟨by decide,by decide⟩
 | w:: r,h=>exact h w List.mem_cons_self
theorem VL {ws:List Int} (h:Wg ws):0<=g1 ws/\g1 ws <1000000000:=by
 unfold g1
 match ws,h with
 | [],_=>exact⟨by decide,by decide⟩
 | [w],_=>exact⟨Int.le_refl 0,by show(0:Int) <1000000000;decide⟩
 | w:: v:: r,h=>exact h v (by simp)
theorem BK (n:Int):0<=n % 1000000000/\n % 1000000000 <1000000000:=⟨Int.emod_nonneg _ (by decide),Int.emod_lt_of_pos _ (by decide)⟩
theorem Rk {i:Nat} (hi:i <11) (ns:List Int) {ws:List Int} (kp:Int) (h:Wg ws):∀pv∈cH i ns ws kp,0<=pv.2/\pv.2 <1000000000:=by
 have a0:=Wh h
 have a1:=VL h
 match i,hi with
 | 0,_=>simp [cH];exact a0
 | 1,_=>simp [cH]
 | 2,_=>simp [cH];exact a0
 | 3,_=>simp [cH];exact a0
 | 4,_=>simp [cH];exact BK _
 | 5,_=>simp [cH];exact BK _
 | 6,_=>simp [cH];exact BK _
 | 7,_=>simp [cH];split <;> decide
 | 8,_=>simp [cH];constructor <;> split <;> omega
 | 9,_=>simp [cH];exact a1
 | 10,_=>simp [cH];exact a1
theorem yM (x:Str):∀(ws:List (PD×ji)) (S:FS),(cD S ws).ev x=S.ev x ++ ws.flatMap fun w=>(w.2.gv.filter fun q=>decide (q.1=x)).map (·.2)
 | [],S=>by simp [cD]
 | w:: r,S=>by
  show(cD (tY S w.1.name w.2) r).ev x=_
  rw [yM x r,List.flatMap_cons,<-List.append_assoc]
  rfl
theorem yg:∀(ws:List (PD×ji)) (S:FS),(cD S ws).r=S.r
 | [],_=>rfl
 | w:: r,S=>by show(cD (tY S w.1.name w.2) r).r=_;rw [yg r];rfl
theorem Ib (x:Str):∀(ws:List (PD×ji)) (S:FS),(cD S ws).d x=S.d x+(ws.filter fun w=>decide (w.1.name=x)).length
 | [],S=>by simp [cD]
 | w:: r,S=>by
  show(cD (tY S w.1.name w.2) r).d x=_
  rw [Ib x r,List.filter_cons]
  show(if x=w.1.name then S.d x+1 else S.d x)+_=_
  by_cases h:x=w.1.name
  ·rw [if_pos h,if_pos (by simp [h])]
   simp
   omega
  ·rw [if_neg h,if_neg (by simpa using fun e=>h e.symm)]
theorem Nm (x:Str):∀(ws:List (PD×ji)) (S:FS),(cD S ws).g x=S.g x+(ws.filter fun w=>decide (x∈w.2.tk)).length
 | [],S=>by simp [cD]
 | w:: r,S=>by
  show(cD (tY S w.1.name w.2) r).g x=_
  rw [Nm x r,List.filter_cons]
  show(if x∈w.2.tk then S.g x+1 else S.g x)+_=_
  by_cases h:x∈w.2.tk
  ·rw [if_pos h,if_pos (by simp [h])]
   simp
   omega
  ·rw [if_neg h,if_neg (by simp [h])]
theorem p8 {ls:List aG} {ps:List PD} {S:FS} {xs:List Str} {w:PD×ji} (h:w∈jA ls ps S xs):w.1∈ps/\kI xs w.1=true/\dG ls S w.1=some w.2:=by
 obtain⟨p,hp,e⟩:=List.mem_filterMap.mp h
 obtain⟨dd,hd,rfl⟩:=Option.map_eq_some_iff.mp e
 obtain⟨h1,h2⟩:=List.mem_filter.mp hp
 exact⟨h1,h2,hd⟩
theorem rN {ls:List aG} {S:FS}:∀{qs:List PD},((qs.filterMap fun p=>(dG ls S p).map fun dd=>(p,dd)).map (·.1)).Sublist qs
 | []=>by simp
 | q:: r=>by
  rw [List.filterMap_cons]
  cases dG ls S q with
  | none=>exact rN.cons _
  | some dd=>exact rN.cons₂ _
theorem RC {ls:List aG} {ps:List PD} {S:FS} {xs:List Str} (nd:(ps.map (·.name)).Nodup):((jA ls ps S xs).map fun w=>w.1.name).Nodup:=by
 have h:((jA ls ps S xs).map (·.1)).Sublist ps:=(rN (qs:=ps.filter (kI xs))).trans List.filter_sublist
 have e:(jA ls ps S xs).map (fun w=>w.1.name)=((jA ls ps S xs).map (·.1)).map (·.name):=by rw [List.map_map];rfl
 rw [e]
 exact nd.sublist (h.map _)
theorem Nr {ls:List aG} {ps:List PD} {S:FS} {xs:List Str}:(jA ls ps S xs).length<=ps.length:=by
 have h:((jA ls ps S xs).map (·.1)).Sublist ps:=(rN (qs:=ps.filter (kI xs))).trans List.filter_sublist
 have:=h.length_le
 rwa [lM] at this
theorem QL {α:Type} {f:α->Str} {x:Str}:∀{l:List α},(l.map f).Nodup->(l.filter fun a=>decide (f a=x)).length<=1
 | [],_=>by simp
 | a:: r,nd=>by
  rw [List.map_cons,List.nodup_cons] at nd
  rw [List.filter_cons]
  by_cases h:f a=x
  ·rw [if_pos (by simp [h]),List.filter_eq_nil_iff.mpr fun b hb=>by simpa using fun e=>nd.1 (List.mem_map.mpr ⟨b,hb,by rw [e,h]⟩)]
   simp
  ·rw [if_neg (by simp [h])]
   exact QL nd.2
theorem Ua {b:Nat} {ls:List aG} {ps:List PD} {S:FS} (F:Ai ls ps) (O:Kg b ls ps S) (xs:List Str):Kg (b+32) ls ps (j7 ls ps S xs):=by
 have dk:∀w∈jA ls ps S xs,Cg ls w.2:=fun w hw=>vV F (p8 hw).1 (jd (p8 hw).2.2).1
 refine⟨fun l hl v hv=>?_,fun p hp h0=>?_,fun p hp h0=>?_,fun l hl=>?_,fun p hp h0=>?_⟩
 ·unfold j7 at hv
  rw [yM] at hv
  rcases List.mem_append.mp hv with h | h
  ·exact O.vb l hl v h
  ·obtain⟨w,hw,hv⟩:=List.mem_flatMap.mp h
   obtain⟨q,hq,rfl⟩:=List.mem_map.mp hv
   obtain⟨h1,_,h3⟩:=p8 hw
   obtain⟨e1,e2,e3⟩:=lJ (jd h3).1
   have hq':=(List.mem_filter.mp hq).1
   rw [e3] at hq'
   obtain⟨pv,hpv,rfl⟩:=List.mem_map.mp hq'
   exact Rk (F.pok _ h1).1 _ _ (Mt F O h1 e1 e2).2.1 pv hpv
 ·unfold j7
  rw [yg]
  exact O.rb p hp h0
 ·unfold j7
  rw [yg,Ib]
  have h1:=QL (x:=p.name) (RC (ls:=ls) (S:=S) (xs:=xs) F.pnd)
  have h2:=O.dl p hp h0
  by_cases hm:∃w∈jA ls ps S xs,w.1.name=p.name
  ·obtain⟨w,hw,e⟩:=hm
   obtain⟨a1,_,a3⟩:=p8 hw
   have ew:w.1=p:=xG F.pnd a1 hp e
   obtain⟨_,e2,_⟩:=lJ (jd a3).1
   rw [ew] at e2
   unfold xJ at e2
   simp [h0] at e2
   omega
  ·rw [List.filter_eq_nil_iff.mpr fun w hw=>by simpa using fun e=>hm ⟨w,hw,e⟩]
   simpa using h2
 ·have h1:=vI (O.len l hl) fun w hw=>(dk w hw).g2
  have h2:=Nr (ls:=ls) (ps:=ps) (S:=S) (xs:=xs)
  have:=F.p16
  unfold j7
  omega
 ·unfold j7
  rw [yg]
  exact O.rl p hp h0
inductive zm (K:PySem.W.Frag) (t:jH) (vs:List V) (H:Hp) (Q:VK):Prop where
 | mk:∀(b:Nat) (r:Addr) (n:Nat) (A:oO) (ls:List aG) (ps:List PD) (S:FS) (L:Addr) (xs:List Str),vs=[.ref r,.ref L]->Jc K t H r n A ls ps S->Kg b ls ps S->b<=90000->n<=900->bL K H L (xs.map V.str)->L∉A.cells ls ps->((∀x∈xs,V.str x∈dX ps "give" ++ dX ps "take"))->(∀H' p,aK (aZ (r:: A.cells ls ps) H) (aZ (r:: A.cells ls ps) H')->Jc K t H' r (n+1) A ls ps (j7 ls ps S xs)->H p=none->H' p=some (.lst ((jA ls ps S xs).map fun w=>V.str w.1.name))->Q (.ref p) H')->zm K t vs H Q
@[irreducible] noncomputable def mD (K:PySem.W.Frag) (t:jH):Sp:=fun vs H Q _=>zm K t vs H Q
noncomputable abbrev sJ:List Str:=["self", "held", "back", "deeds", "due", "name", "deed"]
theorem Jm (T:Txt w K mg t):FO P w K mg base 7 t.xM ["self", "held"] (mD K t):=by
 have sc:fD sJ ["self", "held"] (aU (inClass (top 61) 1)):=Ga
 refine T.xX.F.ok sc (fun vs H Q E h=>?_) (fun cdv A outer s H vs Q E hr h=>?_)
 ·unfold mD at h
  obtain⟨b,r,n,A,ls,ps,S,L,xs,rfl,_⟩:=h
  rfl
 ·unfold mD at h
  obtain⟨b,r,n,A,ls,ps,S,L,xs,rfl,⟨hR,Nc,W,nrf⟩,O,hb,hn,hL,nL,hx,k⟩:=h
  refine⟨_,(az (sN sc 2 (ur (gj (vC (pv 1))) (bx ak) (pv 1)))
   (az (bM (zz (pv 0) T.cC T.cC.me.2.2.2.1 (yI T) T.lE hr (aa (pv 2) ak aj)))
   (az (j4 (i:=3) [0,2] sJ (aU (inClass (top 61) 1)) rfl sc.nd rfl (bW (Sh (bB (pv 0) rfl) T.bz T.bz.me.2.2.1 (j5 T) T.f9 hr)) (fun _ _ _ _ _=>(sE (aW (Fd (K:=K) rfl) (pv 0) (pv 2) (by with_unfolding_all rfl)))) (fun _ _ _ _ _=>(bV (aa (pv 0) (aa (zz (pv 1) T.cC T.cC.me.2.2.1 (rH T) T.jw hr (aa (pv 0) ak aj)) ak bf) aj))))
   (az (j4 (i:=4) [] sJ (aU (inClass (top 61) 1)) rfl sc.nd rfl (bW (pv 3)) (fun _ _ _ _ _=>(sE (gj (vW (aO (jQ (K:=K) rfl) (pv 0) aq (fun _ _=>rfl)))))) (fun _ _ _ _ _=>(pv 0)))
   (az (dg PassesOwn.never rfl (bW (pv 4)) (jJ rfl (bD (gN sc 5) (bD (gN sc 6) fc)))
    (aA (bM (zz (bB (pv 0) rfl) T.aX T.aX.me.2.2.2.2.2.2.2.2.1 (Kl T) T.zQ hr (aa (pv 5) (aa (pv 6) ak aj) aj)))))
   (az (Ot (pv 0) aq BR)
   (aA (aN (uh ["name", "deed"] [] sJ (aU (inClass (top 61) 1)) rfl (bW (pv 4)) (fun _ _ _ _ _=>vM (K:=K) (n:=2) rfl rfl (bD (iy (i:=0) (show(["name", "deed"]:List Str).Nodup by decide +kernel) rfl (Or.inl rfl) (.inr rfl)) (bD (iy (i:=1) (show(["name", "deed"]:List Str).Nodup by decide +kernel) rfl (Or.inl rfl) (.inr rfl)) fc))) (fun _ _ _ _ _=>gm) (fun _ _ _ _ _=>(pv 0))))))))))),?_⟩
  have hz:sizeLine=16777216:=sizeLine_eq
  have N:gW K t H A.n ls ps:=Nc.same bw
  obtain⟨dxn,fsn,R,F0,Pd,Gn,Tk,FL,PL,Wn⟩:=id N
  have F:=Wn.fit
  have p16:=F.p16
  obtain⟨dxr,fsr,R0⟩:=id hR
  refine⟨_,rfl,_,rfl,dw ⟨_,rfl,?_⟩⟩
  refine⟨_,rfl,r,dxr,fsr,rfl,R0.1.1,R0.2.no _ (by decide +kernel),_,rfl,r,n,A,ls,ps,S,L,xs,rfl,hR,N,W,hL,hx,fun H1 s1=>?_⟩
  obtain⟨dxr,fsr,R1⟩:=hR.same s1
  have Wn1:=Wn.same s1
  refine⟨_,rfl,r,_,dxr,fsr,_,rfl,R1.1.1,T.cC.c,T.cC.na.1,R1.2.has ("net",.ref A.n) (by simp),A.n,dxn,fsn,rfl,Wn1.obj,Wn1.fl.no _ (by decide +kernel),A.n,ls,ps,rfl,Wn1.s,fun l nl=>?_⟩
  have s2:=s1.trans (aB (o:=.lst (ps.map fun x=>V.str x.name)) nl)
  have el:(upd H1 l (.lst (ps.map fun x=>V.str x.name))) l=some (.lst (ps.map fun x=>V.str x.name)):=au
  generalize upd H1 l (.lst (ps.map fun x=>V.str x.name))=H2 at s2 el ⊢
  have hflat:(xs.map V.str).all kW=true:=by simp [kW]
  refine⟨l,rfl,⟨_,bL.of el⟩,fu (K:=K) (a:=l) (xs:=ps.map fun x=>V.str x.name) (fun j ys H'=>aK H2 H'/\∃qs:List (PD×Addr),ys=qs.map (fun q=>V.ref q.2)/\qs.map (·.1)=(ps.take j).filter (kI xs)/\∀q∈qs,Gf (A.cells ls ps) ls S H' q) (by rw [lM];omega) ⟨aK.refl _,[],rfl,rfl,by simp⟩ ?_ (fun j ys H' _ h=>h.1.seq (bL.of el)) ?_ ?_⟩
  ·rintro j ys H' ⟨_,qs,rfl,e,_⟩
   have h1:=congrArg List.length e
   have h2:=List.length_filter_le (kI xs) (ps.take j)
   rw [lM] at h1
   rw [List.length_take] at h2
   rw [lM]
   omega
  ·rintro j x ys H' hj ⟨s3',qs,rfl,eq,hq⟩
   rw [List.getElem?_map] at hj
   obtain⟨p,hp,rfl⟩:=Option.map_eq_some_iff.mp hj
   have hpm:=List.mem_of_getElem? hp
   have s3:=s2.trans s3'
   obtain⟨dxr,fsr,R2⟩:=hR.same s3
   refine⟨_,rfl,_,rfl,L,_,rfl,.inl (s3.seq hL),rfl,hflat,_,rfl,?_⟩
   rw [MF]
   have tk:(ps.take (j+1)).filter (kI xs)=(ps.take j).filter (kI xs) ++ if kI xs p=true then [p] else []:=by
    rw [List.take_succ,hp,Option.toList_some,List.filter_append,List.filter_cons]
    rfl
   refine jB (fun e=>?_) (fun e=>?_)
   ·have e':kI xs p=true:=e
    rw [e',if_pos rfl] at tk
    refine⟨_,rfl,_,rfl,r,dxr,fsr,rfl,R2.1.1,R2.2.no _ (by decide +kernel),_,rfl,?_⟩
    refine MT (hR.same s3) (N.same s3) (W.same s3) O hpm (fun hd H4 s4=>?_) (fun dd hd H4 U s4 nU DA=>?_)
    ·refine⟨iW,fun q nq=>⟨s3'.trans (s4.trans (aB nq)),qs ++ [(p,q)],by simp,by rw [List.map_append,eq,tk];rfl,fun q' hq'=>?_⟩⟩
     rcases List.mem_append.mp hq' with h | h
     ·exact(hq q' h).same (s4.trans (aB nq))
     ·rw [List.mem_singleton] at h
      subst h
      exact⟨.non,au,.inl ⟨hd,rfl⟩⟩
    ·refine⟨iW,fun q nq=>⟨s3'.trans (s4.trans (aB nq)),qs ++ [(p,q)],by simp,by rw [List.map_append,eq,tk];rfl,fun q' hq'=>?_⟩⟩
     rcases List.mem_append.mp hq' with h | h
     ·exact(hq q' h).same (s4.trans (aB nq))
     ·rw [List.mem_singleton] at h
      subst h
      exact⟨.ref U,au,.inr ⟨dd,U,hd,rfl,DA.same (aB nq)⟩⟩
   ·have e':¬kI xs p=true:=e
    rw [if_neg e',List.append_nil] at tk
    exact⟨s3',qs,rfl,by rw [eq,tk],hq⟩
  rintro ys H3 ⟨s3',qs,rfl,eq,hq⟩ D1 nD1
  rw [lM,List.take_length] at eq
  have s4':=aB (o:=.lst (qs.map fun q=>V.ref q.2)) nD1
  have s4:=(s2.trans s3').trans s4'
  have eD1:(upd H3 D1 (.lst (qs.map fun q=>V.ref q.2))) D1=some (.lst (qs.map fun q=>V.ref q.2)):=au
  replace hq:=fun q h=>(hq q h).same s4'
  generalize upd H3 D1 (.lst (qs.map fun q=>V.ref q.2))=H4 at s4 s4' eD1 hq ⊢
  clear s4' nD1 s3' nl el
  have lq:qs.length<=16:=by
   have h1:=congrArg List.length eq
   have h2:=List.length_filter_le (kI xs) ps
   rw [lM] at h1
   omega
  let fS:PD×Addr->Bool:=fun q=>(dG ls S q.1).isSome
  refine⟨_,rfl,D1,rfl,⟨_,bL.of eD1⟩,fu (K:=K) (a:=D1) (xs:=qs.map fun q=>V.ref q.2) (fun j ys H'=>H'=H4/\ys=((qs.take j).filter fS).map fun q=>V.ref q.2) (by rw [lM];omega) ⟨rfl,rfl⟩ (fun j ys H' ⟨_,e⟩=>by rw [e,lM];exact Nat.le_trans (List.length_filter_le _ _) (by rw [List.length_take];omega)) (fun j ys H' _ ⟨e,_⟩=>by rw [e];exact bL.of eD1) ?_ ?_⟩
  ·rintro j x ys H' hj ⟨rfl,rfl⟩
   rw [List.getElem?_map] at hj
   obtain⟨q,hqj,rfl⟩:=Option.map_eq_some_iff.mp hj
   obtain⟨u,h1,h2⟩:=hq q (List.mem_of_getElem? hqj)
   refine⟨_,rfl,q.2,_,1,_,rfl,rfl,eN.of h1,aM (j:=1) rfl,?_⟩
   rw [List.take_succ,hqj,Option.toList_some,List.filter_append,List.filter_cons,List.map_append]
   rcases h2 with ⟨h2,rfl⟩ | ⟨dd,U,h2,rfl,_⟩
   ·exact⟨_,rfl,dw ⟨rfl,by simp [fS,h2]⟩⟩
   ·exact⟨_,rfl,fY ⟨_,rfl,rfl,by simp [fS,h2]⟩⟩
  rintro ys H' ⟨rfl,rfl⟩ D2 nD2
  rw [lM,List.take_length]
  obtain⟨ws,hws⟩:∃ws:List (PD×ji),ws=jA ls ps S xs:=⟨_,rfl⟩
  have ewq:ws=(qs.filter fS).filterMap (fun q=>(dG ls S q.1).map fun dd=>(q.1,dd)):=by rw [hws];unfold jA;rw [<-eq,Qu]
  have hW:Paired (fun(q:PD×Addr) (w:PD×ji)=>q.1=w.1/\dG ls S w.1=some w.2/\w.1∈ps/\∃U,H' q.2=some (.tup [.str w.1.name,.ref U])/\jZ (A.cells ls ps) H' U w.2) (qs.filter fS) ws:=by
   rw [ewq]
   have hall:∀q∈qs.filter fS,Gf (A.cells ls ps) ls S H' q/\q.1∈ps/\fS q=true:=fun q h=>by
    have h':=List.mem_filter.mp h
    refine⟨hq q h'.1,?_,h'.2⟩
    have:q.1∈qs.map (·.1):=List.mem_map.mpr ⟨q,h'.1,rfl⟩
    rw [eq] at this
    exact(List.mem_filter.mp this).1
   generalize qs.filter fS=rs at hall
   clear ewq
   induction rs with
   | nil=>exact .nil
   | cons q r ih=>
    obtain⟨⟨u,h1,h2⟩,hp,hf⟩:=hall q List.mem_cons_self
    rcases h2 with ⟨h2,_⟩ | ⟨dd,U,h2,rfl,h3⟩
    ·simp only [fS,h2] at hf
     cases hf
    ·rw [List.filterMap_cons,h2]
     exact .cons ⟨rfl,h2,hp,U,h1,h3⟩ (ih fun q' hq'=>hall q' (List.mem_cons_of_mem _ hq'))
  have lw:(qs.filter fS).length=ws.length:=Paired.length hW
  have lw16:ws.length<=16:=by have:=List.length_filter_le fS qs;omega
  have s5':=aB (o:=.lst ((qs.filter fS).map fun q=>V.ref q.2)) nD2
  have s5:=s4.trans s5'
  have nD2':=(W.same s4).cell nD2
  have eD2:(upd H' D2 (.lst ((qs.filter fS).map fun q=>V.ref q.2))) D2=some (.lst ((qs.filter fS).map fun q=>V.ref q.2)):=au
  generalize upd H' D2 (.lst ((qs.filter fS).map fun q=>V.ref q.2))=H5 at s5 s5' eD2 ⊢
  generalize qs.filter fS=rs at hW lw eD2 ⊢
  have g2:∀w∈ws,w.2.gv.length<=2:=fun w hw=>by
   obtain⟨q,_,h2,h3,_⟩:=Gz hW hw
   exact(vV F h3 (jd h2).1).g2
  have W5:=W.same s5
  have R5:=hR.same s5
  have nr:=R5.cell W5
  refine⟨_,rfl,D2,rfl,⟨_,bL.of eD2⟩,cY (K:=K) (a:=D2) (xs:=rs.map fun q=>V.ref q.2) (fun j σ H6=>pX (A.cells ls ps) H5 H6/\dJ K t H6 A ls ps (cD S (ws.take j))/\∃v5 v6,σ=[some (.ref r),some (.ref L),some (.ref L),some (.ref D1),some (.ref D2),v5,v6]) ⟨fun _ _=>rfl,by simpa [cD] using W5,none,none,rfl⟩ (fun j σ H6 _ h=>bL.of (by rw [h.1 D2 nD2'];exact eD2)) ?_ ?_⟩
  ·rintro j x σ H6 hj ⟨m6,W6,v5,v6,rfl⟩
   rw [List.getElem?_map] at hj
   obtain⟨q,hqj,rfl⟩:=Option.map_eq_some_iff.mp hj
   obtain⟨w,hwj,_,h2,hp,U,t1,d1⟩:=rM hW hqj
   have t6:=W5.tupMov m6 (s5' _ _ t1)
   have d6:=(d1.same s5').mov W5 m6
   obtain⟨dxr,fsr,R3⟩:=R5.mov nr m6
   obtain⟨dxg,fsg,y1,y2⟩:=id W6.at'.ex
   refine⟨q.2,_,rfl,eN.of t6,rfl,_,_,rfl,_,_,rfl,rfl,?_⟩
   refine⟨_,rfl,r,_,dxr,fsr,_,rfl,R3.1.1,T.cC.c,T.cC.na.2.1,R3.2.has ("flow",.ref A.f) (by simp),A.f,dxg,fsg,rfl,y1,y2.no _ (by decide +kernel),_,rfl,_,rfl,?_⟩
   refine X6 F W6 hp (b:=b+2 * (ws.take j).length) (fun l hl=>vI (O.len l hl) fun w' hw'=>g2 w' (List.mem_of_mem_take hw')) (by rw [List.length_take];omega) d6 (vV F hp (jd h2).1) fun H7 m7 W7=>⟨fun a ha=>by rw [m7 a ha,m6 a ha],?_,_,_,rfl⟩
   rw [List.take_succ,hwj,Option.toList_some,rY]
   exact W7
  rintro σ H6 ⟨m6,W6,v5,v6,rfl⟩
  rw [lM,lw,List.take_length] at W6
  obtain⟨dxr,fsr,R3⟩:=R5.mov nr m6
  refine⟨_,rfl,r,_,dxr,fsr,.int (n:Nat),rfl,R3.1.1,T.cC.c,T.cC.na.2.2.1,R3.2.has ("turns",.int (n:Nat)) (by simp),_,_,rfl,rfl,dxr,fsr,R3.1.1,by have:=R3.1.2;omega,?_⟩
  have R7:=m8.turned R3
  have W7:=W6.ins (x:=r) nr (o:=.ins t.pO dxr (aJ "turns" (.int ((n:Int)+1)) fsr)) nrf
  have m7:∀a,a≠r->a∉A.cells ls ps->upd H6 r (.ins t.pO dxr (aJ "turns" (.int ((n:Int)+1)) fsr)) a=H5 a:=fun a h1 h2=>by rw [aH h1,m6 a h2]
  generalize upd H6 r (.ins t.pO dxr (aJ "turns" (.int ((n:Int)+1)) fsr))=H7 at R7 W7 m7 ⊢
  have nD2r:D2≠r:=fun z=>by
   obtain⟨_,_,y1,_⟩:=R5
   rw [<-z,eD2] at y1
   cases y1.1
  have eD7:H7 D2=some (.lst (rs.map fun q=>V.ref q.2)):=by rw [m7 D2 nD2r nD2'];exact eD2
  have t7:∀{a:Addr} {vs:List V},H5 a=some (.tup vs)->H7 a=some (.tup vs):=fun {a vs} h=>by
   rw [m7 a (fun z=>by obtain⟨_,_,y1,_⟩:=R5;rw [<-z,h] at y1;cases y1.1) (W5.ncell h (by intro _ z;cases z) (by intro _ z;cases z))]
   exact h
  have c7:aK (aZ (r:: A.cells ls ps) H) (aZ (r:: A.cells ls ps) H7):=fun a o e=>by
   have hn:a∉r:: A.cells ls ps:=fun z=>by unfold aZ at e;rw [if_pos z] at e;cases e
   have e':=s5 _ _ (bw a o e)
   unfold aZ
   rw [if_neg hn,m7 a (fun z=>hn (by rw [z];exact List.mem_cons_self)) (fun z=>hn (List.mem_cons_of_mem _ z))]
   exact e'
  refine⟨_,rfl,D2,rfl,⟨_,bL.of eD7⟩,?_⟩
  refine rW (K:=K) (a:=D2) (xs:=rs.map fun q=>V.ref q.2) (fun j ys H8=>H8=H7/\ys=(ws.take j).map fun w=>V.str w.1.name) (by rw [lM];omega) ⟨rfl,rfl⟩ ?_ (fun j ys H8 _ ⟨e,_⟩=>by rw [e];exact bL.of eD7) ?_ ?_
  ·rintro j ys H8 ⟨_,rfl⟩
   rw [lM,List.length_take]
   omega
  ·rintro j v ys H8 hj ⟨rfl,rfl⟩
   rw [List.getElem?_map] at hj
   obtain⟨q,hqj,rfl⟩:=Option.map_eq_some_iff.mp hj
   obtain⟨w,hwj,_,_,_,U,t1,_⟩:=rM hW hqj
   refine⟨q.2,_,rfl,eN.of (t7 (s5' _ _ t1)),rfl,_,_,rfl,_,_,rfl,rfl,rfl,?_⟩
   refine yes ⟨_,rfl,rfl,?_⟩
   rw [List.take_succ,hwj,Option.toList_some,List.map_append]
   rfl
  rintro ys H8 ⟨rfl,rfl⟩ p np
  rw [lM,lw,List.take_length]
  have s8:=aB (o:=.lst (ws.map fun w=>V.str w.1.name)) np
  have np5:H5 p=none:=by
   cases e:H5 p with
   | none=>rfl
   | some o=>
    have h1:p≠r:=fun z=>by
     obtain⟨_,_,y1,_⟩:=R7
     rw [<-z,np] at y1
     cases y1.1
    rw [<-m7 p h1 (W7.cell np),np] at e
    cases e
  have c8:aK (aZ (r:: A.cells ls ps) H) (aZ (r:: A.cells ls ps) (upd H8 p (.lst (ws.map fun w=>V.str w.1.name)))):=c7.trans (M7 np)
  refine k _ p c8 ⟨R7.same s8,Nc.same c8,?_,nrf⟩ (s5.free np5) (by rw [au,hws])
  unfold j7
  rw [<-hws]
  exact W7.same s8
inductive Fj (K:PySem.W.Frag) (vs:List V) (H:Hp) (Q:VK) (E:XK):Prop where
 | mk:∀(a:Addr) (ws:List Int),vs=[.ref a]->bL K H a (ws.map V.int)->ws.length<=300->((∀v∈ws,0<=v/\v <1000000000))->(∀H',aK H H'->Q (.bl true) H')->Fj K vs H Q E
theorem OJ (T:Txt w K mg t):FO P w K mg base 3 t.Jj ["thing"] (Fj K):=by
 have sc:=T.El.sc ["thing"]
 refine T.El.F.ok sc ln (fun _ _ _ _ H vs Q E hr h=>?_)
 obtain⟨a,ws,rfl,hS,hl,hB,k⟩:=h
 refine⟨_,(aA (aN (zT (bG vD (by rfl) T.j6 jm (aa (pv 0) (aa (zf (by rfl) T.mY jx) ak aj) aj)) (zT (tD wH (bG cj (by rfl) T.fK dI (aa (pv 0) ak aj)) (jq (by rfl) T.Ez) (bI _)) (zG (bG (yO rfl) (by rfl) T.MN Hw (aa (fM [] ["thing"] (aU (top 58)) rfl (bW (pv 0)) (fun _ _ _ _ _=>gm) (fun _ _ _ _ _=>(d8 (uw T) T.pU hr (aa (pv 0) ak aj)))) ak d7))))))),?_⟩
 have hz:sizeLine=16777216:=sizeLine_eq
 refine⟨_,rfl,_,_,_,_,rfl,.inl ⟨rfl,_,hS⟩,by decide,rfl,_,rfl,fY ?_⟩
 refine⟨_,rfl,_,(ws.map V.int).length,rfl,.inl ⟨_,hS,by simp⟩,_,_,rfl,rfl,_,rfl,?_⟩
 rw [lM,decide_eq_true (show(ws.length:Int)<=300 by omega)]
 refine fY ?_
 refine⟨_,rfl,a,rfl,⟨_,hS⟩,fu (K:=K) (a:=a) (xs:=ws.map V.int) (fun j ys H'=>H'=H/\ys=(List.replicate j true).map V.bl) (by rw [lM];omega) ⟨rfl,rfl⟩ (fun j ys H' ⟨_,e⟩=>by rw [e];simp) (fun j ys H' _ ⟨e,_⟩=>by rw [e];exact hS) ?_ ?_⟩
 ·rintro j x ys H' hx ⟨rfl,rfl⟩
  rw [List.getElem?_map] at hx
  obtain⟨n,hn,rfl⟩:=Option.map_eq_some_iff.mp hx
  obtain⟨n0,n1⟩:=hB n (List.mem_of_getElem? hn)
  refine yes ⟨_,rfl,.int n,rfl,.inl ⟨n,rfl,rfl,?_⟩⟩
  rw [decide_eq_true n0,decide_eq_true n1,List.replicate_succ']
  simp
 rintro ys H' ⟨rfl,rfl⟩ D hD
 refine⟨D,List.replicate (ws.map V.int).length true,rfl,bL.of au,?_⟩
 rw [show(List.replicate (ws.map V.int).length true).all id=true by simp]
 exact k _ (aB hD)
structure Lj (ps:List PD) (RW:List (Str×Addr×List Int)):Prop where
 door:∀q∈RW,V.str q.1∈dX ps "give"
 bnd:∀q∈RW,∀v∈q.2.2,0<=v/\v <1000000000
theorem Oa {ls:List aG} {ps:List PD} {RW:List (Str×Addr×List Int)} (F:Ai ls ps) (hl:∀q∈RW,q.2.2.length<=300) (hb:∀q∈RW,∀v∈q.2.2,0<=v/\v <1000000000):Kg 199 ls ps (ik ls ps RW):=by
 have rq:∀x,pW RW x=[]∨∃q∈RW,pW RW x=q.2.2:=fun x=>by
  unfold pW
  cases e:RW.find? fun q=>decide (q.1=x) with
  | none=>exact .inl rfl
  | some q=>exact .inr ⟨q,List.mem_of_find?_eq_some e,rfl⟩
 refine⟨fun l h v hv=>?_,fun p hp h0 v hv=>?_,fun p hp h0=>Nat.zero_le _,fun l h=>?_,fun p hp h0=>?_⟩
 ·have e:(ik ls ps RW).ev l.name=l.first:=zj F.whole.nod h
  rw [e] at hv
  exact(F.lok l h).2.2.2 v hv
 ·rcases rq p.name with e | ⟨q,hq,e⟩
  ·rw [show(ik ls ps RW).r p.name=[] from e] at hv
   cases hv
  ·rw [show(ik ls ps RW).r p.name=q.2.2 from e] at hv
   exact hb q hq v hv
 ·have e:(ik ls ps RW).ev l.name=l.first:=zj F.whole.nod h
  rw [e]
  have:=F.lok l h
  omega
 ·rcases rq p.name with e | ⟨q,hq,e⟩
  ·rw [show(ik ls ps RW).r p.name=[] from e]
   exact Nat.zero_le _
  ·rw [show(ik ls ps RW).r p.name=q.2.2 from e]
   exact hl q hq
inductive zx (K:PySem.W.Frag) (t:jH) (vs:List V) (H:Hp) (Q:VK) (E:XK):Prop where
 | mk:∀(n rw:Addr) (ls:List aG) (ps:List PD) (RW:List (Str×Addr×List Int)),vs=[.ref n,.ref rw]->gW K t H n ls ps->lz H rw RW->Lj ps RW->(∀H',aK H H'->Q .non H')->zx K t vs H Q E
theorem Ik (T:Txt w K mg t):FO P w K mg base 4 t.An ["net", "rows"] (zx K t):=by
 have sc:=T.uv.sc ["net", "rows", "doors", "door"]
 refine T.uv.F.ok sc ln (fun _ _ _ _ H vs Q E hr h=>?_)
 obtain⟨n,rw,ls,ps,RW,rfl,N,hrw,hO,k⟩:=h
 refine⟨_,(az (sN sc 2 (Sh (pv 0) T.bz T.bz.me.2.2.2.2.1 (sW T) T.mQ hr))
  (az (pH (H0:=H) rfl (dg PassesOwn.never rfl (qb (pv 1)) (gN sc 3)
   (aA (bR (aW jf (pv 3) (pv 2) (by with_unfolding_all rfl))
    (aA dY)
    aY))))
  (aA (pH (H0:=H) rfl (dg PassesOwn.never rfl (qb (pv 1)) (gN sc 3)
   (aA (bR (jO (jj (d8 (OJ T) T.El hr (aa (bH hr.u1 (pv 1) (pv 3) (fun _ _=>rfl)) ak aF))))
    (aA dY)
    aY))))))),?_⟩
 have hz:sizeLine=16777216:=sizeLine_eq
 obtain⟨dxn,fsn,R,F,Pd,Gn,Tk,FL,PL,Wn⟩:=id N
 refine⟨_,rfl,n,dxn,fsn,rfl,Wn.obj,Wn.fl.no _ (by decide +kernel),n,ls,ps,rfl,N,fun l nl=>?_⟩
 have s1:=aB (o:=.lst (dX ps "give")) nl
 have el:upd H l (.lst (dX ps "give")) l=some (.lst (dX ps "give")):=au
 generalize upd H l (.lst (dX ps "give"))=H1 at s1 el ⊢
 have fl:(dX ps "give").all kW=true:=by
  rw [List.all_eq_true]
  intro v hv
  obtain⟨p,_,rfl⟩:=List.mem_map.mp hv
  rfl
 have w1:=hrw.same s1
 have nf:∀(o':Obj) (u':HO),H rw≠some (.frz o' u'):=fun o' u' z=>by rw [hrw.dict] at z;cases z
 refine⟨_,rfl,rw,_,rfl,w1.dict,fun o=>pQ (fun j σ H'=>H'=upd H1 rw (.frz o (.dK (iu RW)))/\∃v3,σ=[some (.ref n),some (.ref rw),some (.ref l),v3]) ⟨rfl,none,rfl⟩ (fun j σ H' _ ⟨e,_⟩=>by rw [e];exact au) ?_ ?_⟩
 ·rintro j kk v σ H' hj ⟨rfl,v3,rfl⟩
  unfold iu at hj
  rw [List.getElem?_map] at hj
  obtain⟨q,hq,e⟩:=Option.map_eq_some_iff.mp hj
  cases e
  refine⟨_,rfl,_,rfl,l,_,rfl,.inl (bL.of (jC w1.dict el (by intro _ z;cases z))),rfl,fl,_,rfl,?_⟩
  have hin:inV (kV (Sum.inr q.1)) (dX ps "give")=true:=QW (hO.door q (List.mem_of_getElem? hq)) (by simp [Io,kV])
  rw [hin]
  exact dw ⟨rfl,_,rfl⟩
 rintro σ H' ⟨rfl,v3,rfl⟩
 refine⟨_,⟨rw,o,_,au,nf,rfl⟩,?_⟩
 rw [sX,Jb w1.dict]
 refine⟨_,rfl,rw,_,rfl,w1.dict,fun o=>pQ (fun j σ H'=>aK (upd H1 rw (.frz o (.dK (iu RW)))) H'/\∃v3,σ=[some (.ref n),some (.ref rw),some (.ref l),v3]) ⟨aK.refl _,v3,rfl⟩ (fun j σ H' _ ⟨e,_⟩=>e _ _ au) ?_ ?_⟩
 ·rintro j kk v σ H' hj ⟨s2,v3,rfl⟩
  unfold iu at hj
  rw [List.getElem?_map] at hj
  obtain⟨q,hq,e⟩:=Option.map_eq_some_iff.mp hj
  cases e
  have hm:=List.mem_of_getElem? hq
  have vq:b8 (iu RW) (Sum.inr q.1)=some (.ref q.2.1):=dN (by rw [tQ];exact eO hrw.nd) (List.mem_map.mpr ⟨q,hm,rfl⟩)
  have eq2:=s2 _ _ (jC w1.dict (w1.lists q hm) (by intro _ z;cases z))
  refine⟨_,rfl,_,rfl,rw,_,rfl,(by rw [<-vq];exact .inl ⟨_,Sum.inr q.1,.inr ⟨o,s2 _ _ au⟩,rfl,rfl⟩),q.2.1,q.2.2,rfl,bL.of eq2,hrw.len q hm,hO.bnd q hm,fun H3 s3=>⟨_,rfl,dw ⟨s2.trans s3,_,rfl⟩⟩⟩
 rintro σ H' ⟨s2,v3,rfl⟩
 refine⟨_,⟨rw,o,_,s2 _ _ au,nf,rfl⟩,?_⟩
 refine k _ fun b u e=>?_
 by_cases hb:b=rw
 ·subst hb
  rw [au]
  rw [hrw.dict] at e
  exact e
 ·rw [aH hb]
  exact s2 _ _ (by rw [aH hb];exact s1 _ _ e)
theorem Rx {H:Hp} {Q:VK} {Ex:XK} {H0:Hp} {f dx n rw:Addr} {ls:List aG} {ps:List PD} {RW:List (Str×Addr×List Int)} (hf:H f=some (.ins t.cB dx [])) (s0:aK H0 H) (nf:H0 f=none) (N:gW K t H0 n ls ps) (hrw:lz H0 rw RW)
  (k:∀(H':Hp) (A:oO),A.f=f->A.n=n->lO f H H'->dJ K t H' A ls ps (ik ls ps RW)->(∀a∈A.cells ls ps,H a=none)->Q .non H'):gh K t [.ref f,.ref n,.ref rw] H Q Ex:=by
 unfold gh
 exact⟨H0,f,dx,n,rw,ls,ps,RW,rfl,hf,s0,nf,N,hrw,k⟩
inductive rK (K:PySem.W.Frag) (t:jH) (vs:List V) (H:Hp) (Q:VK):Prop where
 | mk:∀(H0:Hp) (r dx n rw:Addr) (ls:List aG) (ps:List PD) (RW:List (Str×Addr×List Int)),vs=[.ref r,.ref n,.ref rw]->H r=some (.ins t.pO dx [])->aK H0 H->H0 r=none->gW K t H0 n ls ps->lz H0 rw RW->Lj ps RW->(∀H' A,A.n=n->aK H0 H'->Jc K t H' r 0 A ls ps (ik ls ps RW)->(∀a∈A.cells ls ps,H0 a=none)->Q .non H')->rK K t vs H Q
@[irreducible] noncomputable def gU (K:PySem.W.Frag) (t:jH):Sp:=fun vs H Q _=>rK K t vs H Q
theorem Br (T:Txt w K mg t):FO P w K mg base 6 t.pF ["self", "net", "rows"] (gU K t):=by
 have sc:=T.jW.sc ["self", "net", "rows"]
 refine T.jW.F.ok sc (fun vs H Q E h=>?_) (fun cdv A outer s H vs Q E hr h=>?_)
 ·unfold gU at h
  obtain⟨H0,r,dx,n,rw,ls,ps,RW,rfl,_⟩:=h
  rfl
 ·unfold gU at h
  obtain⟨H0,r,dx,n,rw,ls,ps,RW,rfl,hr1,s0,nr0,N,hrw,hO,k⟩:=h
  refine⟨_,(az (bM (d8 (Ik T) T.uv hr (aa (pv 1) (aa (pv 2) ak aj) aj)))
   (az (ig (pv 0) (pv 1) rfl)
   (az (ig (pv 0) (iz (T.aX.M T.ju) (zO T) (hr.mono (by decide)) (by rfl) T.aX.m T.ju.b .nil ir (aa (pv 1) (aa (pv 2) ak aj) aj)) rfl)
   (aA (ig (pv 0) aq rfl))))),?_⟩
  refine⟨_,rfl,_,rfl,n,rw,ls,ps,RW,rfl,N.same s0,hrw.same s0,hO,fun H1 s1=>?_⟩
  have T0:=(Tr.start hr1).same s1
  refine⟨_,rfl,_,rfl,r,_,dx,[],rfl,s1 _ _ hr1,T.cC.c,T.cC.na.1,by show 0 <1000;decide,?_⟩
  have T1:=T0.put (L1:=[]) (L2:=[]) (o':=.ins t.pO dx (aJ "net" (.ref n) []))
  generalize upd H1 r (.ins t.pO dx (aJ "net" (.ref n) []))=H2 at T1 ⊢
  have s02:aK H0 H2:=fun x o e=>T1.but x o (aD e nr0) (s0 x o e)
  have er2:=T1.all (r,.ins t.pO dx (aJ "net" (.ref n) [])) (.head _)
  refine⟨_,rfl,_,rfl,fun f dxf nf ndf nef=>?_⟩
  have s3:aK H2 (upd (upd H2 dxf (.own f)) f (.ins t.cB dxf [])):=fun b o e=>by rw [aH (aD e nf),aH (aD e ndf)];exact e
  have ef:(upd (upd H2 dxf (.own f)) f (.ins t.cB dxf [])) f=some (.ins t.cB dxf []):=au
  generalize upd (upd H2 dxf (.own f)) f (.ins t.cB dxf [])=H3 at s3 ef ⊢
  have s03:=s02.trans s3
  have nfr:r≠f:=aD er2 nf
  refine Rx ef s03 (s02.free nf) N hrw fun H4 A eAf eAn b4 W4 fr4=>⟨rfl,?_⟩
  subst eAf
  subst eAn
  have er4:=b4 r _ nfr (s3 _ _ er2)
  have nrc:r∉A.cells ls ps:=W4.ncell er4 (by intro _ z;cases z) (by intro _ z;cases z)
  refine⟨_,rfl,r,_,dx,_,rfl,er4,T.cC.c,T.cC.na.2.1,Nat.lt_of_le_of_lt (gK (Nat.zero_le 0)) (by decide),?_⟩
  have er5:upd H4 r (.ins t.pO dx (aJ "flow" (.ref A.f) (aJ "net" (.ref A.n) []))) r=some (.ins t.pO dx (aJ "flow" (.ref A.f) (aJ "net" (.ref A.n) []))):=au
  refine⟨_,rfl,r,_,dx,_,rfl,er5,T.cC.c,T.cC.na.2.2.1,Nat.lt_of_le_of_lt (gK (gK (Nat.zero_le 0))) (by decide),?_⟩
  rw [sX]
  have s05:∀o:HO,aK H0 (upd H4 r o):=fun o b u e=>by
   rw [aH (aD e nr0)]
   exact b4 b u (aD e (s02.free nf)) (s03 b u e)
  have fr0:∀a∈A.cells ls ps,H0 a=none:=fun a ha=>s03.free (fr4 a ha)
  refine k _ A rfl (s05 _) ⟨⟨dx,_,⟨au,gK (gK (gK (Nat.zero_le 0)))⟩,⟨?_,?_⟩⟩,N.same fun b u e=>?_,W4.ins nrc nfr,nfr⟩ fr0
  ·intro q hq
   simp only [List.mem_cons,List.not_mem_nil,or_false] at hq
   rcases hq with rfl | rfl | rfl
   ·dsimp only;(repeat first | (rw [aC,if_pos rfl];done) | rw [aC,if_neg (by decide +kernel)])
   ·dsimp only;(repeat first | (rw [aC,if_pos rfl];done) | rw [aC,if_neg (by decide +kernel)])
   ·dsimp only
    rw [aC,if_pos rfl]
    rfl
  ·intro m hm
   have hne:∀m∈(["step", "need_doors", "next_deed", "full_lane", "can_work", "works", "lane_now", "turn"]:List Str),∀g∈(["turns", "flow", "net"]:List Str),¬m=g:=by decide +kernel
   have h:=hne m hm
   rw [aC,if_neg (h _ (by simp)),aC,if_neg (h _ (by simp)),aC,if_neg (h _ (by simp))]
   rfl
  ·have hn:b∉r:: A.cells ls ps:=fun z=>by
    rcases List.mem_cons.mp z with z | z
    ·rw [z,nr0] at e;cases e
    ·rw [fr0 b z] at e;cases e
   unfold aZ
   rw [if_neg hn]
   exact s05 _ b u e
noncomputable def Pj (i:Nat) (hs:List V):Option (List Nat):=if ((places i hs).find? (kJ hs)).isSome then none else some (places i hs)
theorem Oe:∀i,i <11->decide (V.str (cL i)=V.str "choose")=decide (i=9):=by decide +kernel
theorem VD {r:List V}:Pj 9 (V.non:: r)=none:=by unfold Pj;simp [places,kJ]
theorem XJ {n:Int} {r:List V} {v:V} (hv:(V.int n:: r)[1+(n % 2).toNat]?=some v):Pj 9 (V.int n:: r)=if v=.non then none else some [0,1+(n % 2).toNat]:=by
 have e:places 9 (V.int n:: r)=[0,1+(n % 2).toNat]:=rfl
 unfold Pj
 rw [e]
 have l0:kJ (V.int n:: r) 0=false:=by unfold kJ;simp
 have l1:kJ (V.int n:: r) (1+(n % 2).toNat)=decide (v=.non):=by unfold kJ;rw [hv];simp
 rw [List.find?_cons_of_neg (by simp [l0]),List.find?_cons,l1]
 by_cases h:v=.non
 ·simp [h]
 ·simp [h]
theorem Wi {hs:List V}:inV .non hs=decide (V.non∈hs):=by
 rw [Bool.eq_iff_iff,decide_eq_true_iff]
 unfold inV
 rw [List.any_eq_true]
 constructor
 ·rintro⟨v,hv,e⟩
  cases v <;> simp [Io] at e
  exact hv
 ·intro h
  exact⟨_,h,rfl⟩
theorem Yb {i:Nat} (h9:i≠9) (hs:List V):Pj i hs=if V.non∈hs then none else some (List.range hs.length):=by
 have e:places i hs=List.range hs.length:=by unfold places;rw [if_neg h9]
 unfold Pj
 rw [e]
 by_cases h:V.non∈hs
 ·rw [if_pos h,if_pos]
  obtain⟨j,hj,ej⟩:=List.mem_iff_getElem.mp h
  rw [List.find?_isSome]
  exact⟨j,List.mem_range.mpr hj,by unfold kJ;rw [List.getElem?_eq_getElem hj,ej];simp⟩
 ·rw [if_neg h,if_neg]
  rw [List.find?_isSome]
  rintro⟨j,hj,e⟩
  have hj:=List.mem_range.mp hj
  unfold kJ at e
  rw [List.getElem?_eq_getElem hj] at e
  exact h (by have:=of_decide_eq_true e;rw [<-Option.some.inj this];exact List.getElem_mem hj)
inductive uc (K:PySem.W.Frag) (vs:List V) (H:Hp) (Q:VK):Prop where
 | mk:∀(i:Nat) (a:Addr) (hs:List V),vs=[.str (cL i),.ref a]->i <11->bL K H a hs->tK i hs->((Pj i hs=none->∀H',aK H H'->Q .non H'))->(∀qs,Pj i hs=some qs->∀H' L,aK H H'->H L=none->H' L=some (.lst (qs.map nV))->Q (.ref L) H')->uc K vs H Q
@[irreducible] noncomputable def iM (K:PySem.W.Frag):Sp:=fun vs H Q _=>uc K vs H Q
theorem Dj (T:Txt w K mg t):FO P w K mg base 1 t.wV ["_law_kind", "_law_heads"] (iM K):=by
 have sc:=T.qR.sc ["_law_kind", "_law_heads"]
 refine T.qR.F.ok sc (fun vs H Q E h=>?_) (fun cdv A outer s H vs Q E hr h=>?_)
 ·unfold iM at h
  obtain⟨i,a,hs,rfl,_⟩:=h
  rfl
 ·unfold iM at h
  obtain⟨i,a,hs,rfl,hi,hS,hO,kn,k⟩:=h
  refine⟨_,(az (bR (aW dW (pv 0) bh (bI _))
    (az (bR (PW.pt (wM (gj (vC (aO aQ (pv 1) aq (fun _ _=>rfl)))) (qK (gj (vC (aO aQ (pv 1) (bc du aq (bc b7 (aO aQ (pv 1) aq (fun _ _=>rfl)) aq)) (fun _ _=>rfl)))))))
     (aA (aN lG))
     aY)
    (aA (aN (bx (aa aq (aa (bc du aq (bc b7 (aO aQ (pv 1) aq (fun _ _=>rfl)) aq)) ak bT) ao)))))
    aY)
   (az (bR (aW FW lG (pv 1) (by with_unfolding_all rfl))
    (aA (aN lG))
    aY)
   (aA (aN (dj (xn rfl) (by rfl) T.mY jx (aa (dj Bk (by rfl) T.lU JB (aa (bG cj (by rfl) T.fK dI (aa (pv 1) ak aj)) ak bf)) ak bf)))))),?_⟩
  have hz:sizeLine=16777216:=sizeLine_eq
  refine⟨_,rfl,rfl,_,rfl,?_⟩
  rw [Oe i hi]
  by_cases h9:i=9
  ·subst h9
   rw [decide_eq_true rfl]
   refine fY ?_
   match hs,hO with
   | [x,y,z],hO=>
   rcases hO.2 x (by simp) with rfl | ⟨m,rfl⟩
   ·exact⟨_,rfl,a,_,0,_,rfl,rfl,hS,rfl,_,rfl,fY (fY (kn VD _ (aK.refl _)))⟩
   have h0:=Int.emod_nonneg m (show(2:Int)≠0 by decide)
   have h1:=Int.emod_lt_of_pos m (show(0:Int) <2 by decide)
   obtain⟨v,hv⟩:∃v,([V.int m,y,z]:List V)[1+(m % 2).toNat]?=some v:=⟨_,List.getElem?_eq_getElem (by show 1+(m % 2).toNat <3;omega)⟩
   have ev:=XJ (r:=[y,z]) hv
   have ix:FZ [V.int m,y,z] (1+m % 2)=some v:=by
    rw [show(1+m % 2:Int)=((1+(m % 2).toNat:Nat):Int) by omega]
    exact aM hv
   refine⟨_,rfl,a,_,0,_,rfl,rfl,hS,rfl,_,rfl,dw ?_⟩
   refine⟨_,rfl,_,rfl,a,_,0,_,rfl,rfl,hS,rfl,_,_,rfl,rfl,by show(0:Int) <2;decide,_,_,rfl,rfl,a,_,_,v,rfl,rfl,hS,ix,_,rfl,?_⟩
   by_cases hn:v=.non
   ·rw [decide_eq_true hn]
    exact fY (kn (by rw [ev,if_pos hn]) _ (aK.refl _))
   ·rw [decide_eq_false hn]
    refine dw ?_
    refine⟨_,rfl,a,_,0,_,rfl,rfl,hS,rfl,_,_,rfl,rfl,by show(0:Int) <2;decide,_,_,rfl,rfl,iW,fun L nL=>?_⟩
    refine k _ (by rw [ev,if_neg hn]) _ L (aB nL) nL ?_
    rw [au]
    show some (HO.lst [V.int 0,V.int (1+m % 2)])=some (.lst [nV 0,nV (1+(m % 2).toNat)])
    unfold nV
    rw [show((1+(m % 2).toNat:Nat):Int)=1+m % 2 by omega]
    rfl
  rw [decide_eq_false h9]
  refine dw ?_
  have e:=Yb h9 hs
  have hfl:hs.all kW=true:=by
   rw [List.all_eq_true]
   intro v hv
   rcases hO.2 v hv with rfl | ⟨_,rfl⟩ <;> rfl
  refine⟨_,rfl,a,_,rfl,.inl hS,rfl,hfl,_,rfl,?_⟩
  rw [Wi]
  by_cases hn:V.non∈hs
  ·rw [decide_eq_true hn]
   exact fY (kn (by rw [e,if_pos hn]) _ (aK.refl _))
  ·rw [decide_eq_false hn]
   refine dw ?_
   have h3:hs.length<=3:=by have:=hO.1;have:=Aq i;omega
   refine⟨_,rfl,_,hs.length,rfl,.inl ⟨_,hS,rfl⟩,_,rfl,fun r nr=>⟨r,hs.length,rfl,au,by omega,fun L nL=>?_⟩⟩
   exact k _ (by rw [e,if_neg hn]) _ L ((aB nr).trans (aB nL)) ((aB nr).free nL) (by rw [au];rfl)
theorem e9:(10:Int) ^ (9:Int).toNat=1000000000:=by decide
inductive qx (K:PySem.W.Frag) (vs:List V) (H:Hp) (Q:VK) (E:XK):Prop where
 | mk:∀(i:Nat) (a:Addr) (v w:Int) (kp:Int),vs=[.str (cL i),.ref a]->6<=i->i <11->bL K H a [.int v,.int w]->(∀H' L rs,aK H H'->H L=none->H' L=some (.lst (rs.map V.ref))->fH H' rs (BW (cH i [] [v,w] kp))->Q (.ref L) H')->qx K vs H Q E
theorem yE (T:Txt w K mg t):FO P w K mg base 1 t.rD ["_law_kind", "_law_values"] (qx K):=by
 have sc:=T.kZ.sc ["_law_kind", "_law_values", "_law_one", "_law_other"]
 refine T.kZ.F.ok sc ln (fun _ _ _ _ H vs Q E hr h=>?_)
 obtain⟨i,a,v,w,kp,rfl,h6,hi,hS,k⟩:=h
 refine⟨_,(az (sN sc 2 (aO aQ (pv 1) aq (fun _ _=>rfl)))
  (az (sN sc 3 (aO aQ (pv 1) aq (fun _ _=>rfl)))
  (az (bR (aW dW (pv 0) bh (bI _))
   (aA (aN (bx (aa (bV (aa aq (aa (bc b7 (bc du (pv 2) (pv 3)) (bc xW aq aq)) ak bT) ao)) ak bO))))
   aY)
  (az (bR (aW dW (pv 0) bh (bI _))
   (aA (aN (bx (aa (bV (aa aq (aa (dj O7 (by rfl) T.Vi QC (aa (tD wX (pv 2) (pv 3) (bI _)) ak Ia)) ak bf) ao)) ak bO))))
   aY)
  (az (bR (aW dW (pv 0) bh (bI _))
   (aA (aN (bx (aa (bV (aa aq (aa (bG (Og rfl) (by rfl) T.Ve RN (aa (pv 2) (aa (pv 3) ak aj) aj)) ak bf) ao)) (aa (bV (aa aq (aa (bG (zM rfl) (by rfl) T.Nu Ig (aa (pv 2) (aa (pv 3) ak aj) aj)) ak bf) ao)) ak bO) bO))))
   aY)
  (az (bR (aW dW (pv 0) bh (bI _))
   (aA (aN (bx (aa (bV (aa aq (aa (pv 3) ak aj) ao)) ak bO))))
   aY)
  (aA (aN (bx (aa (bV (aa (bc b7 (pv 2) aq) (aa (pv 3) ak aj) bT)) ak bO)))))))))),?_⟩
 have hz:sizeLine=16777216:=sizeLine_eq
 refine⟨_,rfl,a,_,0,_,rfl,rfl,hS,rfl,?_⟩
 refine⟨_,rfl,a,_,1,_,rfl,rfl,hS,rfl,?_⟩
 match i,h6,hi with
 | 6,_,_=>
  refine⟨_,rfl,rfl,_,rfl,fY ?_⟩
  exact⟨_,rfl,_,rfl,_,_,rfl,rfl,_,_,rfl,rfl,⟨by decide,by decide,by decide⟩,_,_,rfl,rfl,by show(0:Int) <10 ^ 9;decide,bU,fun t0 n0=>⟨one_le,fun L nL=>rJ rfl (by rw [e9];rfl) k n0 nL⟩⟩
 | 7,_,_=>
  refine⟨_,rfl,rfl,_,rfl,bZ (by decide +kernel) ?_⟩
  refine⟨_,rfl,rfl,_,rfl,lA rfl ?_⟩
  exact⟨_,rfl,_,rfl,_,_,rfl,rfl,.inr ⟨_,rfl,bU,fun t0 n0=>⟨one_le,fun L nL=>rJ rfl (by show(if decide (v <w)=true then(1:Int) else 0)=if v <w then 1 else 0;by_cases z:v <w <;> simp [z]) k n0 nL⟩⟩⟩
 | 8,_,_=>
  refine⟨_,rfl,rfl,_,rfl,bZ (by decide +kernel) ?_⟩
  refine⟨_,rfl,rfl,_,rfl,bZ (by decide +kernel) ?_⟩
  refine⟨_,rfl,rfl,_,rfl,lA rfl ?_⟩
  exact⟨_,rfl,_,rfl,_,_,rfl,bU,fun t0 n0=>⟨_,rfl,_,rfl,_,_,rfl,bU,fun t1 n1=>⟨bU,fun L nL=>PN rfl rfl rfl (by show(if w >v then w else v)=if w <v then v else w;by_cases z:w <v <;> by_cases y:w >v <;> simp [z,y] <;> omega) k n0 n1 nL⟩⟩⟩
 | 9,_,_=>
  refine⟨_,rfl,rfl,_,rfl,bZ (by decide +kernel) ?_⟩
  refine⟨_,rfl,rfl,_,rfl,bZ (by decide +kernel) ?_⟩
  refine⟨_,rfl,rfl,_,rfl,bZ (by decide +kernel) ?_⟩
  refine⟨_,rfl,rfl,_,rfl,lA rfl ?_⟩
  exact⟨_,rfl,bU,fun t0 n0=>⟨one_le,fun L nL=>rJ rfl rfl k n0 nL⟩⟩
 | 10,_,_=>
  refine⟨_,rfl,rfl,_,rfl,bZ (by decide +kernel) ?_⟩
  refine⟨_,rfl,rfl,_,rfl,bZ (by decide +kernel) ?_⟩
  refine⟨_,rfl,rfl,_,rfl,bZ (by decide +kernel) ?_⟩
  refine⟨_,rfl,rfl,_,rfl,bZ (by decide +kernel) ?_⟩
  exact⟨_,rfl,_,_,rfl,rfl,by show(0:Int) <2;decide,_,rfl,bU,fun t0 n0=>⟨one_le,fun L nL=>rJ rfl rfl k n0 nL⟩⟩
theorem LK {H:Hp} {Q:VK} {a b x y kv kw:Int} (hx:x=a) (hy:y=b) (hk:kv=kw) (k:∀H' U L rs,aK H H'->H L=none->H' U=some (.tup [.ref L,.int kw])->H' L=some (.lst (rs.map V.ref))->fH H' rs (BW [(a,b)])->Q (.ref U) H') {t0 L U:Addr} (n0:H t0=none)
  (nL:(upd H t0 (.tup [.int x,.int y])) L=none) (nU:(upd (upd H t0 (.tup [.int x,.int y])) L (.lst [.ref t0])) U=none):Q (.ref U) (upd (upd (upd H t0 (.tup [.int x,.int y])) L (.lst [.ref t0])) U (.tup [.ref L,.int kv])):=by
 subst hx hy hk
 have s0:=aB (o:=.tup [.int x,.int y]) n0
 have s1:=aB (o:=.lst [.ref t0]) nL
 have s2:=aB (o:=.tup [.ref L,.int kv]) nU
 exact k _ U L [t0] (s0.trans (s1.trans s2)) (s0.free nL) au (s2 _ _ au) (.cons (s2 _ _ (s1 _ _ au)) .nil)
theorem Yo {H:Hp} {Q:VK} {x y u v kv:Int} (k:∀H' U L rs,aK H H'->H L=none->H' U=some (.tup [.ref L,.int kv])->H' L=some (.lst (rs.map V.ref))->fH H' rs (BW [(x,y),(u,v)])->Q (.ref U) H') {t0 t1 L U:Addr} (n0:H t0=none)
  (n1:(upd H t0 (.tup [.int x,.int y])) t1=none) (nL:(upd (upd H t0 (.tup [.int x,.int y])) t1 (.tup [.int u,.int v])) L=none) (nU:(upd (upd (upd H t0 (.tup [.int x,.int y])) t1 (.tup [.int u,.int v])) L (.lst [.ref t0,.ref t1])) U=none):
  Q (.ref U) (upd (upd (upd (upd H t0 (.tup [.int x,.int y])) t1 (.tup [.int u,.int v])) L (.lst [.ref t0,.ref t1])) U (.tup [.ref L,.int kv])):=by
 have s0:=aB (o:=.tup [.int x,.int y]) n0
 have s1:=aB (o:=.tup [.int u,.int v]) n1
 have s2:=aB (o:=.lst [.ref t0,.ref t1]) nL
 have s3:=aB (o:=.tup [.ref L,.int kv]) nU
 exact k _ U L [t0,t1] (s0.trans (s1.trans (s2.trans s3))) ((s0.trans s1).free nL) au (s3 _ _ au) (.cons (s3 _ _ (s2 _ _ (s1 _ _ au))) (.cons (s3 _ _ (s2 _ _ au)) .nil))
inductive xf (K:PySem.W.Frag) (vs:List V) (H:Hp) (Q:VK) (E:XK):Prop where
 | mk:∀(i:Nat) (a b:Addr) (ns ws:List Int) (kp:Int),vs=[.str (cL i),.ref b,.ref a,.int kp]->i <11->bL K H b (ns.map V.int)->ns.length=cN i->bL K H a (ws.map V.int)->ws.length=cV i->Wg ws->(∀H' U L rs,aK H H'->H L=none->H' U=some (.tup [.ref L,.int (dR i ws kp)])->H' L=some (.lst (rs.map V.ref))->fH H' rs (BW (cH i ns ws kp))->Q (.ref U) H')->xf K vs H Q E
noncomputable abbrev sY:List Str:=["_law_kind", "_law_numbers", "_law_values", "_law_kept"]
theorem En (T:Txt w K mg t):FO P w K mg base 2 t.za sY (xf K):=by
 have sc:fD sY sY (aU (top 77)):=Ga
 refine T.yw.F.ok sc ln (fun _ _ _ _ H vs Q E hr h=>?_)
 obtain⟨i,a,b,ns,ws,kp,rfl,hi,hN,ln,hS,lw,hB,k⟩:=h
 refine⟨_,(az (bR (aW dW (pv 0) bh (bI _))
   (aA (aN (bV (aa (bx ak) (aa (pv 3) ak aj) aR))))
   aY)
  (az (bR (aW dW (bG cj (by rfl) T.fK dI (aa (pv 2) ak aj)) aq (bI _))
   (aA (aN (bV (aa (d8 (yE T) T.kZ hr (aa (pv 0) (aa (pv 2) ak aj) aj)) (aa (pv 3) ak aj) bf))))
   aY)
  (az (bR (aW dW (pv 0) bh (bI _))
   (aA (aN (bV (aa (bx (aa (bV (aa aq (aa (aO aQ (pv 2) aq (fun _ _=>rfl)) ak aF) ao)) (aa (bV (aa aq (aa (aO aQ (pv 2) aq (fun _ _=>rfl)) ak aF) ao)) ak bO) bO)) (aa (pv 3) ak aj) aR))))
   aY)
  (az (bR (aW dW (pv 0) bh (bI _))
   (aA (aN (bV (aa (bx (aa (bV (aa aq (aa (bc b7 (bc du (bc jY (aO aQ (pv 1) aq (fun _ _=>rfl)) (aO aQ (pv 2) aq (fun _ _=>rfl))) (aO aQ (pv 1) aq (fun _ _=>rfl))) (bc xW aq aq)) ak bT) ao)) ak bO)) (aa (pv 3) ak aj) aR))))
   aY)
  (az (bR (aW dW (pv 0) bh (bI _))
   (aA (aN (bV (aa (bx (aa (bV (aa aq (aa (bc b7 (bc du (pv 3) (aO aQ (pv 2) aq (fun _ _=>rfl))) (bc xW aq aq)) ak bT) ao)) ak bO)) (aa (bc b7 (bc du (pv 3) (aO aQ (pv 2) aq (fun _ _=>rfl))) (bc xW aq aq)) ak bT) aR))))
   aY)
  (aA (aN (bV (aa (bx (aa (bV (aa aq (aa (aO aQ (pv 2) aq (fun _ _=>rfl)) ak aF) ao)) ak bO)) (aa (pv 3) ak aj) aR))))))))),?_⟩
 have hz:sizeLine=16777216:=sizeLine_eq
 match i,hi with
 | 0,_=>
  match ws,lw,ns,ln with
  | [v],_,ns,_=>
   refine⟨_,rfl,rfl,_,rfl,bZ (by decide +kernel) ?_⟩
   refine⟨_,rfl,_,1,rfl,.inl ⟨_,hS,rfl⟩,rfl,_,rfl,bZ (by decide +kernel) ?_⟩
   refine⟨_,rfl,rfl,_,rfl,bZ (by decide +kernel) ?_⟩
   refine⟨_,rfl,rfl,_,rfl,bZ (by decide +kernel) ?_⟩
   refine⟨_,rfl,rfl,_,rfl,bZ (by decide +kernel) ?_⟩
   exact⟨_,rfl,a,_,0,_,rfl,rfl,hS,rfl,bU,fun t0 n0=>⟨one_le,fun L nL=>⟨_,rfl,bU,fun U nU=>LK rfl rfl rfl k n0 nL nU⟩⟩⟩
 | 1,_=>
  match ws,lw,ns,ln with
  | [v],_,ns,_=>
   refine⟨_,rfl,rfl,_,rfl,lA rfl ?_⟩
   exact⟨iW,fun L nL=>⟨_,rfl,bU,fun U nU=>k _ U L [] ((aB nL).trans (aB nU)) nL au (aB nU _ _ au) .nil⟩⟩
 | 2,_=>
  match ws,lw,ns,ln with
  | [v],_,ns,_=>
   refine⟨_,rfl,rfl,_,rfl,bZ (by decide +kernel) ?_⟩
   refine⟨_,rfl,_,1,rfl,.inl ⟨_,hS,rfl⟩,rfl,_,rfl,bZ (by decide +kernel) ?_⟩
   refine⟨_,rfl,rfl,_,rfl,bZ (by decide +kernel) ?_⟩
   refine⟨_,rfl,rfl,_,rfl,bZ (by decide +kernel) ?_⟩
   refine⟨_,rfl,rfl,_,rfl,bZ (by decide +kernel) ?_⟩
   exact⟨_,rfl,a,_,0,_,rfl,rfl,hS,rfl,bU,fun t0 n0=>⟨one_le,fun L nL=>⟨_,rfl,bU,fun U nU=>LK rfl rfl rfl k n0 nL nU⟩⟩⟩
 | 3,_=>
  match ws,lw,ns,ln with
  | [v],_,ns,_=>
   refine⟨_,rfl,rfl,_,rfl,bZ (by decide +kernel) ?_⟩
   refine⟨_,rfl,_,1,rfl,.inl ⟨_,hS,rfl⟩,rfl,_,rfl,bZ (by decide +kernel) ?_⟩
   refine⟨_,rfl,rfl,_,rfl,lA rfl ?_⟩
   exact⟨_,rfl,a,_,0,_,rfl,rfl,hS,rfl,bU,fun t0 n0=>⟨_,rfl,a,_,0,_,rfl,rfl,(aB n0).seq hS,rfl,bU,fun t1 n1=>⟨bU,fun L nL=>⟨_,rfl,bU,fun U nU=>Yo k n0 n1 nL nU⟩⟩⟩⟩
 | 4,_=>
  match ws,lw,ns,ln with
  | [v],_,[m,m1],_=>
   refine⟨_,rfl,rfl,_,rfl,bZ (by decide +kernel) ?_⟩
   refine⟨_,rfl,_,1,rfl,.inl ⟨_,hS,rfl⟩,rfl,_,rfl,bZ (by decide +kernel) ?_⟩
   refine⟨_,rfl,rfl,_,rfl,bZ (by decide +kernel) ?_⟩
   refine⟨_,rfl,rfl,_,rfl,lA rfl ?_⟩
   exact⟨_,rfl,b,_,0,_,rfl,rfl,hN,rfl,_,rfl,a,_,0,_,rfl,rfl,hS,rfl,_,_,rfl,rfl,Yi hB (by simp),_,rfl,b,_,1,_,rfl,rfl,hN,rfl,_,_,rfl,rfl,_,_,rfl,rfl,⟨by decide,by decide,by decide⟩,_,_,rfl,rfl,by show(0:Int) <10 ^ 9;decide,bU,fun t0 n0=>⟨one_le,fun L nL=>⟨_,rfl,bU,fun U nU=>LK rfl (by rw [e9];rfl) rfl k n0 nL nU⟩⟩⟩
 | 5,_=>
  match ws,lw,ns,ln with
  | [v],_,[m],_=>
   refine⟨_,rfl,rfl,_,rfl,bZ (by decide +kernel) ?_⟩
   refine⟨_,rfl,_,1,rfl,.inl ⟨_,hS,rfl⟩,rfl,_,rfl,bZ (by decide +kernel) ?_⟩
   refine⟨_,rfl,rfl,_,rfl,bZ (by decide +kernel) ?_⟩
   refine⟨_,rfl,rfl,_,rfl,bZ (by decide +kernel) ?_⟩
   refine⟨_,rfl,rfl,_,rfl,lA rfl ?_⟩
   exact⟨_,rfl,_,rfl,a,_,0,_,rfl,rfl,hS,rfl,_,_,rfl,rfl,_,_,rfl,rfl,⟨by decide,by decide,by decide⟩,_,_,rfl,rfl,by show(0:Int) <10 ^ 9;decide,bU,fun t0 n0=>⟨one_le,fun L nL=>⟨_,rfl,_,rfl,a,_,0,_,rfl,rfl,((aB n0).trans (aB nL)).seq hS,rfl,_,_,rfl,rfl,_,_,rfl,rfl,⟨by decide,by decide,by decide⟩,_,_,rfl,rfl,by show(0:Int) <10 ^ 9;decide,bU,fun U nU=>LK rfl (by rw [e9];rfl) (by rw [e9];rfl) k n0 nL nU⟩⟩⟩
 | 6,_=>
  match ws,lw,ns,ln with
  | [v,v1],_,ns,_=>
   refine⟨_,rfl,rfl,_,rfl,bZ (by decide +kernel) ?_⟩
   refine⟨_,rfl,_,2,rfl,.inl ⟨_,hS,rfl⟩,rfl,_,rfl,lA rfl ?_⟩
   refine⟨_,rfl,_,rfl,6,a,v,v1,kp,rfl,by omega,by omega,hS,fun H' L rs s nL eL tL=>⟨_,rfl,bU,fun U nU=>k _ U L rs (s.trans (aB nU)) nL au (aB nU _ _ eL) (fH.same (aB nU) tL)⟩⟩
 | 7,_=>
  match ws,lw,ns,ln with
  | [v,v1],_,ns,_=>
   refine⟨_,rfl,rfl,_,rfl,bZ (by decide +kernel) ?_⟩
   refine⟨_,rfl,_,2,rfl,.inl ⟨_,hS,rfl⟩,rfl,_,rfl,lA rfl ?_⟩
   refine⟨_,rfl,_,rfl,7,a,v,v1,kp,rfl,by omega,by omega,hS,fun H' L rs s nL eL tL=>⟨_,rfl,bU,fun U nU=>k _ U L rs (s.trans (aB nU)) nL au (aB nU _ _ eL) (fH.same (aB nU) tL)⟩⟩
 | 8,_=>
  match ws,lw,ns,ln with
  | [v,v1],_,ns,_=>
   refine⟨_,rfl,rfl,_,rfl,bZ (by decide +kernel) ?_⟩
   refine⟨_,rfl,_,2,rfl,.inl ⟨_,hS,rfl⟩,rfl,_,rfl,lA rfl ?_⟩
   refine⟨_,rfl,_,rfl,8,a,v,v1,kp,rfl,by omega,by omega,hS,fun H' L rs s nL eL tL=>⟨_,rfl,bU,fun U nU=>k _ U L rs (s.trans (aB nU)) nL au (aB nU _ _ eL) (fH.same (aB nU) tL)⟩⟩
 | 9,_=>
  match ws,lw,ns,ln with
  | [v,v1],_,ns,_=>
   refine⟨_,rfl,rfl,_,rfl,bZ (by decide +kernel) ?_⟩
   refine⟨_,rfl,_,2,rfl,.inl ⟨_,hS,rfl⟩,rfl,_,rfl,lA rfl ?_⟩
   refine⟨_,rfl,_,rfl,9,a,v,v1,kp,rfl,by omega,by omega,hS,fun H' L rs s nL eL tL=>⟨_,rfl,bU,fun U nU=>k _ U L rs (s.trans (aB nU)) nL au (aB nU _ _ eL) (fH.same (aB nU) tL)⟩⟩
 | 10,_=>
  match ws,lw,ns,ln with
  | [v,v1],_,ns,_=>
   refine⟨_,rfl,rfl,_,rfl,bZ (by decide +kernel) ?_⟩
   refine⟨_,rfl,_,2,rfl,.inl ⟨_,hS,rfl⟩,rfl,_,rfl,lA rfl ?_⟩
   refine⟨_,rfl,_,rfl,10,a,v,v1,kp,rfl,by omega,by omega,hS,fun H' L rs s nL eL tL=>⟨_,rfl,bU,fun U nU=>k _ U L rs (s.trans (aB nU)) nL au (aB nU _ _ eL) (fH.same (aB nU) tL)⟩⟩
noncomputable def Df (RW:List (Str×Addr×List Int)) (x:Str) (a:Addr) (ws:List Int):List (Str×Addr×List Int):=if x∈RW.map (·.1) then RW.map (fun q=>if q.1=x then(x,a,ws) else q) else RW ++ [(x,a,ws)]
theorem V3 (RW:List (Str×Addr×List Int)) (x:Str) (a:Addr) (ws:List Int):iu (Df RW x a ws)=putK (iu RW) (Sum.inr x) (.ref a):=by
 unfold Df putK
 by_cases h:x∈RW.map (·.1)
 ·rw [if_pos h,if_pos (by
   obtain⟨q,hq,rfl⟩:=List.mem_map.mp h
   exact List.any_eq_true.mpr ⟨_,List.mem_map.mpr ⟨q,hq,rfl⟩,by simp⟩)]
  unfold iu
  rw [List.map_map,List.map_map]
  refine List.map_congr_left fun q _=>?_
  by_cases e:q.1=x
  ·simp [e]
  ·simp [e]
 ·rw [if_neg h,if_neg (by
   intro z
   obtain⟨kv,hk,e⟩:=List.any_eq_true.mp z
   obtain⟨q,hq,rfl⟩:=List.mem_map.mp hk
   exact h (List.mem_map.mpr ⟨q,hq,by simpa using e⟩))]
  unfold iu
  rw [List.map_append]
  rfl
theorem RB {RW:List (Str×Addr×List Int)} {x:Str} {a:Addr} {ws:List Int} {q:Str×Addr×List Int} (h:q∈Df RW x a ws):q∈RW∨q=(x,a,ws):=by
 unfold Df at h
 split at h
 ·obtain⟨q',hq,e⟩:=List.mem_map.mp h
  split at e
  ·exact .inr e.symm
  ·exact .inl (by rw [<-e];exact hq)
 ·rcases List.mem_append.mp h with h | h
  ·exact .inl h
  ·exact .inr (List.mem_singleton.mp h)
theorem Sy {RW:List (Str×Addr×List Int)} {x:Str} {a:Addr} {ws:List Int} (nd:(RW.map (·.1)).Nodup):((Df RW x a ws).map (·.1)).Nodup:=by
 unfold Df
 split
 ·have e:(RW.map (fun q=>if q.1=x then(x,a,ws) else q)).map (·.1)=RW.map (·.1):=by
   rw [List.map_map]
   refine List.map_congr_left fun q _=>?_
   by_cases h:q.1=x
   ·simp [h]
   ·simp [h]
  rw [e]
  exact nd
 ·rename_i h
  rw [List.map_append,List.nodup_append]
  exact⟨nd,by simp,fun b hb c hc z=>h (by simp at hc;rw [<-hc,<-z];exact hb)⟩
theorem Kd (RW:List (Str×Addr×List Int)) (x:Str) (a:Addr) (ws:List Int):(Df RW x a ws).length<=RW.length+1:=by
 unfold Df
 split
 ·rw [lM];omega
 ·simp
structure xm (B H:Hp) (d:Addr) (m:Nat) (G:List V) (RW:List (Str×Addr×List Int)):Prop where
 at':lz H d RW
 bnd:∀q∈RW,∀v∈q.2.2,0<=v/\v <1000000000
 door:∀q∈RW,V.str q.1∈G
 new:∀q∈RW,B q.2.1=none/\q.2.1≠d
 len:∀q∈RW,q.2.2.length<=m
theorem xm.same {B H H':Hp} {d:Addr} {m:Nat} {G:List V} {RW:List (Str×Addr×List Int)} (h:xm B H d m G RW) (s:aK H H'):xm B H' d m G RW:=⟨h.at'.same s,h.bnd,h.door,h.new,h.len⟩
theorem xm.put {B H:Hp} {d:Addr} {m:Nat} {G:List V} {RW:List (Str×Addr×List Int)} (h:xm B H d m G RW) {x:Str} {a:Addr} {ws:List Int} (ea:H a=some (.lst (ws.map V.int))) (na:B a=none) (nd:a≠d) (hx:V.str x∈G) (hb:∀v∈ws,0<=v/\v <1000000000) (hl:ws.length<=m) (hm:m<=299):
  xm B (upd H d (.dK (putK (iu RW) (Sum.inr x) (.ref a)))) d m G (Df RW x a ws):=by
 refine⟨⟨by rw [V3];exact au,fun q hq=>?_,Sy h.at'.nd,fun q hq=>?_⟩,fun q hq=>?_,fun q hq=>?_,fun q hq=>?_,fun q hq=>?_⟩ <;> rcases RB hq with hq | rfl
 ·rw [aH (h.new q hq).2];exact h.at'.lists q hq
 ·rw [aH nd];exact ea
 ·exact h.at'.len q hq
 ·show ws.length<=300;omega
 ·exact h.bnd q hq
 ·exact hb
 ·exact h.door q hq
 ·exact hx
 ·exact h.new q hq
 ·exact⟨na,nd⟩
 ·exact h.len q hq
 ·exact hl
inductive wA (K:PySem.W.Frag) (vs:List V) (H:Hp) (Q:VK) (E:XK):Prop where
 | mk:∀(a P:Addr) (ns:List Int) (xs:List V) (ps:List PD) (m:Nat),vs=[.ref a,.ref P,.int (m:Nat)]->bL K H a (ns.map V.int)->H P=some (.lst xs)->jT (wz H) xs ps->ps.length<=16->m<=299->(∀H' d RW,aK H H'->H d=none->xm H H' d m (dX ps "give") RW->RW.length<=32->Q (.ref d) H')->wA K vs H Q E
noncomputable abbrev oA:List Str:=["_law_script", "_law_parts", "_law_many", "_law_rows", "_law_k", "_law_one", "_law_cell_here"]
theorem Eo (T:Txt w K mg t):FO P w K mg base 3 t.zq ["_law_script", "_law_parts", "_law_many"] (wA K):=by
 have sc:=T.sO.sc oA
 refine T.sO.F.ok sc ln (fun _ _ _ _ H vs Q E hr h=>?_)
 obtain⟨a,P,ns,xs,ps,m,rfl,hS,eP,aP,p16,hm,k⟩:=h
 refine⟨_,(az (sN sc 3 gM)
  (az (dg PassesOwn.never rfl (Jd rfl T.uq (aa (fM [] oA (aU (top 78)) rfl (bW (pv 1)) (fun _ _ _ _ _=>(sE (aW dW (aO (jQ (K:=K) rfl) (pv 0) aq (fun _ _=>rfl)) bh (bI _)))) (fun _ _ _ _ _=>(aO (jQ (K:=K) rfl) (pv 0) aq (fun _ _=>rfl)))) ak d7)) (jJ rfl (bD (gN sc 4) (bD (gN sc 5) fc)))
   (az (sN sc 6 (d8 (iY T) T.gq hr (aa (pv 0) (aa (pv 4) ak aj) aj)))
   (az (fL (bR (aW Ji (bc b7 (d8 (bA T) T.bF hr (aa (pv 6) (aa aq ak ao) aj)) aq) aq (bI _))
    (aA (eX hr.u1 (pv 3) (pv 5) (fM [6] oA (aU (top 78)) rfl (jE rfl T.lU (aa (bc b7 (d8 (bA T) T.bF hr (aa (pv 6) (aa aq ak ao) aj)) (bc du (pv 2) aq)) ak bT)) (fun _ _ _ _ _=>gm) (fun _ _ _ _ _=>(d8 (jl T) T.gB hr (aa (pv 1) (aa (bc du aq (pv 0)) ak bT) aj)))) rfl))
    aY))
   (aA (fL (bR (aW dW (bc b7 (d8 (iY T) T.gq hr (aa (pv 0) (aa aq ak ao) aj)) aq) aq (bI _))
    (aA (eX hr.u1 (pv 3) (pv 5) (fM [6] oA (aU (top 78)) rfl (jE rfl T.lU (aa (bc b7 (pv 6) (bc du (pv 2) aq)) ak bT)) (fun _ _ _ _ _=>gm) (fun _ _ _ _ _=>(bc b7 (bc RV (pv 1) (bc du aq (bc jY aq (pv 0)))) (bc xW aq aq)))) rfl))
    aY))))))
  (aA (aN (pv 3))))),?_⟩
 have hz:sizeLine=16777216:=sizeLine_eq
 refine fun d nd=>?_
 have s1:=aB (o:=.dK []) nd
 have ed:upd H d (.dK []) d=some (.dK []):=au
 have xl:=aP.length
 generalize upd H d (.dK [])=H1 at s1 ed ⊢
 have eP1:=s1 _ _ eP
 refine⟨_,rfl,P,rfl,⟨_,bL.of eP1⟩,fu (K:=K) (a:=P) (xs:=xs) (fun j ys H'=>H'=H1/\ys=dX (ps.take j) "give") (by omega) ⟨rfl,rfl⟩ (fun j ys H' ⟨_,e⟩=>by rw [e];exact Nat.le_trans (rG _ _) (by rw [List.length_take];omega)) (fun j ys H' _ ⟨e,_⟩=>by rw [e];exact bL.of eP1) ?_ ?_⟩
 ·rintro j x ys H' hx ⟨rfl,rfl⟩
  obtain⟨p,hp,q,a1,a2,a3,rfl,hq,_⟩:=aP.get hx
  refine⟨_,rfl,q,_,0,_,rfl,rfl,eN.of (s1 _ _ hq),aM (j:=0) rfl,rfl,_,rfl,?_⟩
  rw [List.take_succ,hp,Option.toList_some,Gg]
  by_cases h:cL p.kind= "give"
  ·rw [if_pos h,h]
   exact fY ⟨_,rfl,q,_,1,_,rfl,rfl,eN.of (s1 _ _ hq),aM (j:=1) rfl,rfl,rfl⟩
  ·rw [if_neg h]
   exact bZ (fun z=>h (by injection z)) ⟨rfl,rfl⟩
 rintro ys H' ⟨rfl,rfl⟩ D nD
 rw [xl,List.take_length]
 have gl:=rG ps "give"
 have hG:∀v∈dX ps "give",∃x,v=V.str x:=fun v hv=>by
  obtain⟨p,_,rfl⟩:=List.mem_map.mp hv
  exact⟨_,rfl⟩
 have nDd:D≠d:=fun z=>by rw [z,ed] at nD;cases nD
 have s2:=aB (o:=.lst (dX ps "give")) nD
 have eD:upd H' D (.lst (dX ps "give")) D=some (.lst (dX ps "give")):=au
 generalize upd H' D (.lst (dX ps "give"))=H2 at s2 eD ⊢
 generalize dX ps "give" =G at gl hG eD k ⊢
 have sB:aK H (aZ [d] H2):=fun b o e=>bY (s2 _ _ (s1 _ _ e)) (by simpa using aD e nd)
 have eDB:aZ [d] H2 D=some (.lst G):=bY eD (by simpa using nDd)
 have upB:∀{H':Hp} {o:HO},aK (aZ [d] H2) H'->aK (aZ [d] H2) (upd H' d o):=fun s b o e=>by
  rw [aH (fun z=>by rw [z] at e;simp [aZ] at e)]
  exact s b o e
 refine⟨D,rfl,⟨_,bL.of eD⟩,Pz (K:=K) (a:=D) (xs:=G) (fun j σ H'=>(∃v4 v5 v6,σ=[some (.ref a),some (.ref P),some (.int m),some (.ref d),v4,v5,v6])/\aK (aZ [d] H2) H'/\∃RW,xm H H' d m G RW/\RW.length<=2 * j) ⟨⟨none,none,none,rfl⟩,bw,[],⟨⟨s2 _ _ ed,by simp,by simp,by simp⟩,by simp,by simp,by simp,by simp⟩,Nat.le_refl _⟩ (fun j σ H' _ h=>bL.of (h.2.1 _ _ eDB)) ?_ ?_⟩
 ·rintro j x σ H3 hx ⟨⟨v4,v5,v6,rfl⟩,s3,RW,hR,lR⟩ u nu
  have hxG:=List.mem_of_getElem? hx
  have hj:=(List.getElem?_eq_some_iff.mp hx).1
  obtain⟨y,rfl⟩:=hG x hxG
  have t4:=aB (o:=.tup [.int (j:Nat),.str y]) nu
  have eu:upd H3 u (.tup [.int (j:Nat),.str y]) u=some (.tup [.int (j:Nat),.str y]):=au
  generalize upd H3 u (.tup [.int (j:Nat),.str y])=H4 at t4 eu ⊢
  have s4:=s3.trans t4
  have hR4:=hR.same t4
  have hS4:=(sB.trans s4).seq hS
  refine⟨u,_,rfl,eN.of eu,rfl,_,_,rfl,_,_,rfl,rfl,?_⟩
  refine⟨_,rfl,_,rfl,a,ns,j,rfl,hS4,?_⟩
  generalize mU ns j=c
  refine⟨fun σ5 H5=>σ5=[some (.ref a),some (.ref P),some (.int m),some (.ref d),some (.int (j:Nat)),some (.str y),some (.int c)]/\aK (aZ [d] H2) H5/\∃RW,xm H H5 d m G RW/\RW.length<=2 * j+1,?_,?_⟩
  ·refine⟨_,rfl,_,_,rfl,_,_,rfl,rfl,by show(0:Int) <5;decide,_,_,rfl,rfl,_,rfl,jB (fun _=>?_) (fun _=>⟨rfl,s4,RW,hR4,by omega⟩)⟩
   have h0:=Int.emod_nonneg (cG c 99) (show((m:Int)+1)≠0 by omega)
   have h1:=Int.emod_lt_of_pos (cG c 99) (show(0:Int) <(m:Int)+1 by omega)
   refine⟨_,rfl,_,_,rfl,_,rfl,_,_,rfl,rfl,_,_,rfl,rfl,by show(0:Int) <(m:Int)+1;omega,_,rfl,by omega,by omega,?_⟩
   refine lC (fun i ys H'=>H'=H4/\∃ws:List Int,ys=ws.map V.int/\ws.length=i/\∀v∈ws,0<=v/\v <1000000000) (by omega) ⟨rfl,[],rfl,rfl,by simp⟩ (fun i ys H' ⟨_,ws,e,e2,_⟩=>by rw [e,lM];omega) ?_ ?_
   ·rintro i ys H' hi ⟨rfl,ws,rfl,hw,hB⟩
    refine yes ⟨_,rfl,_,rfl,_,_,rfl,rfl,c,100+(0+(i:Int)),rfl,rfl,ws ++ [qU c (100+(0+(i:Int)))],by simp,by simp [hw],fun v hv=>?_⟩
    rcases List.mem_append.mp hv with hv | hv
    ·exact hB v hv
    ·rw [List.mem_singleton] at hv
     subst hv
     exact rQ _ _
   rintro ys H' ⟨rfl,ws,rfl,hw,hB⟩ r nr
   have t5:=aB (o:=.lst (ws.map V.int)) nr
   refine⟨_,rfl,_,rfl,d,_,rfl,km.k (k:=Sum.inr y) ((hR4.same t5).at'.dict) (by unfold iu;rw [lM];omega),rfl,upB (s4.trans t5),Df RW y r ws,(hR4.same t5).put au ((sB.trans s4).free nr) (fun z=>by rw [z,hR4.at'.dict] at nr;cases nr) hxG hB (by omega) hm,?_⟩
   have:=Kd RW y r ws
   omega
  rintro σ5 H5 ⟨rfl,s5,RW5,hR5,l5⟩
  have hS5:=(sB.trans s5).seq hS
  refine⟨fun σ6 H6=>(∃v4 v5 v6,σ6=[some (.ref a),some (.ref P),some (.int m),some (.ref d),v4,v5,v6])/\aK (aZ [d] H2) H6/\∃RW,xm H H6 d m G RW/\RW.length<=2 * (j+1),?_,fun _ _ h=>h⟩
  refine⟨_,rfl,a,ns,2,rfl,hS5,_,_,rfl,rfl,by show(0:Int) <2;decide,rfl,_,rfl,jB (fun _=>?_) (fun _=>⟨⟨_,_,_,rfl⟩,s5,RW5,hR5,by omega⟩)⟩
  have h0:=Int.emod_nonneg c (show((m:Int)+1)≠0 by omega)
  have h1:=Int.emod_lt_of_pos c (show(0:Int) <(m:Int)+1 by omega)
  refine⟨_,rfl,_,rfl,_,_,rfl,rfl,_,_,rfl,rfl,by show(0:Int) <(m:Int)+1;omega,_,rfl,by omega,by omega,?_⟩
  refine lC (fun i ys H'=>H'=H5/\∃ws:List Int,ys=ws.map V.int/\ws.length=i/\∀v∈ws,0<=v/\v <1000000000) (by omega) ⟨rfl,[],rfl,rfl,by simp⟩ (fun i ys H' ⟨_,ws,e,e2,_⟩=>by rw [e,lM];omega) ?_ ?_
  ·rintro i ys H' hi ⟨rfl,ws,rfl,hw,hB⟩
   refine yes ⟨_,rfl,_,rfl,_,_,rfl,rfl,jD,_,_,rfl,rfl,_,_,rfl,rfl,by show(0:Int)<=8+30 * (0+(i:Int));omega,_,_,rfl,rfl,⟨by decide,by decide,by decide⟩,_,_,rfl,rfl,by show(0:Int) <10 ^ 9;decide,rfl,ws ++ [c / 2 ^ (8+30 * (0+(i:Int))).toNat % 10 ^ (9:Int).toNat],by simp,by simp [hw],fun v hv=>?_⟩
   rcases List.mem_append.mp hv with hv | hv
   ·exact hB v hv
   ·rw [List.mem_singleton,e9] at hv
    subst hv
    exact BK _
  rintro ys H' ⟨rfl,ws,rfl,hw,hB⟩ r nr
  have t5:=aB (o:=.lst (ws.map V.int)) nr
  refine⟨_,rfl,_,rfl,d,_,rfl,km.k (k:=Sum.inr y) ((hR5.same t5).at'.dict) (by unfold iu;rw [lM];omega),⟨_,_,_,rfl⟩,upB (s5.trans t5),Df RW5 y r ws,(hR5.same t5).put au ((sB.trans s5).free nr) (fun z=>by rw [z,hR5.at'.dict] at nr;cases nr) hxG hB (by omega) hm,?_⟩
  have:=Kd RW5 y r ws
  omega
 rintro σ H3 ⟨⟨v4,v5,v6,rfl⟩,s3,RW,hR,lR⟩
 exact⟨_,rfl,k H3 d RW (sB.trans s3) nd hR (by omega)⟩
structure gP where
 (M ho ro ke wo rw:Addr)
 (ha ra:Str->Addr)
noncomputable def gP.topK (B:gP):List (Key×V):=[((Sum.inr "holds" :Key),.ref B.ho),(Sum.inr "room",.ref B.ro),(Sum.inr "kept",.ref B.ke),(Sum.inr "works",.ref B.wo),(Sum.inr "rows",.ref B.rw)]
noncomputable def Ux (ra:Str->Addr) (ps:List PD):List (Key×V):=ps.map fun p=>((Sum.inr p.name:Key),V.ref (ra p.name))
noncomputable def gP.tail (B:gP) (ls:List aG) (ps:List PD):List Addr:=ls.map (fun l=>B.ha l.name) ++ (lF ps).map (fun p=>B.ra p.name)
noncomputable def gP.cells (B:gP) (ls:List aG) (ps:List PD):List Addr:=B.ke:: B.wo:: B.tail ls ps
noncomputable def gP.all (B:gP) (ls:List aG) (ps:List PD):List Addr:=B.M:: B.ho:: B.ro:: B.rw:: B.cells ls ps
structure gH (H:Hp) (B:gP) (ls:List aG) (ps:List PD) (S:FS) (kk:Str->Int):Prop where
 top:H B.M=some (.dK B.topK)
 holds:H B.ho=some (.dK (Je B.ha ls))
 room:H B.ro=some (.dK (cz ls))
 rows:H B.rw=some (.dK (Ux B.ra ps))
 kept:H B.ke=some (.dK (bC kk ps))
 works:H B.wo=some (.dK (bC (fun x=>(S.d x:Int)) ps))
 hl:∀l∈ls,H (B.ha l.name)=some (.lst (((S.ev l.name).drop (S.g l.name)).map V.int))
 rl:∀p∈ps,p.kind=0->H (B.ra p.name)=some (.lst (((S.r p.name).drop (S.d p.name)).map V.int))
 nod:(B.all ls ps).Nodup
 kh:∀p∈ps,p.kind=5->kk p.name=S.k p.name
theorem gH.stay {H H':Hp} {B:gP} {ls:List aG} {ps:List PD} {S:FS} {kk:Str->Int} (h:gH H B ls ps S kk) (s:∀a∈B.all ls ps,∀o,H a=some o->H' a=some o):gH H' B ls ps S kk:=by
 refine⟨s _ ?_ _ h.top,s _ ?_ _ h.holds,s _ ?_ _ h.room,s _ ?_ _ h.rows,s _ ?_ _ h.kept,s _ ?_ _ h.works,fun l hl=>s _ ?_ _ (h.hl l hl),fun p hp h0=>s _ ?_ _ (h.rl p hp h0),h.nod,h.kh⟩
 all_goals unfold gP.all gP.cells gP.tail;simp only [List.mem_cons,List.mem_append,List.mem_map,true_or,or_true]
 ·exact .inr (.inr (.inr (.inr (.inr (.inr (.inl ⟨l,hl,rfl⟩))))))
 ·exact .inr (.inr (.inr (.inr (.inr (.inr (.inr ⟨p,List.mem_filter.mpr ⟨hp,by simp [h0]⟩,rfl⟩))))))
theorem gH.same {H H':Hp} {B:gP} {ls:List aG} {ps:List PD} {S:FS} {kk:Str->Int} (h:gH H B ls ps S kk) (s:aK H H'):gH H' B ls ps S kk:=h.stay fun a _ o e=>s a o e
theorem gH.kind {H:Hp} {B:gP} {ls:List aG} {ps:List PD} {S:FS} {kk:Str->Int} (h:gH H B ls ps S kk) {a:Addr} (ha:a∈B.all ls ps):(∃k,H a=some (.dK k))∨∃x,H a=some (.lst x):=by
 unfold gP.all gP.cells gP.tail at ha
 simp only [List.mem_cons,List.mem_append,List.mem_map] at ha
 rcases ha with z | z | z | z | z | z | ⟨l,hl,z⟩ | ⟨p,hp,z⟩
 ·exact .inl ⟨_,by rw [z];exact h.top⟩
 ·exact .inl ⟨_,by rw [z];exact h.holds⟩
 ·exact .inl ⟨_,by rw [z];exact h.room⟩
 ·exact .inl ⟨_,by rw [z];exact h.rows⟩
 ·exact .inl ⟨_,by rw [z];exact h.kept⟩
 ·exact .inl ⟨_,by rw [z];exact h.works⟩
 ·exact .inr ⟨_,by rw [<-z];exact h.hl l hl⟩
 ·have hf:=List.mem_filter.mp hp
  exact .inr ⟨_,by rw [<-z];exact h.rl p hf.1 (by simpa using hf.2)⟩
theorem gH.has {H:Hp} {B:gP} {ls:List aG} {ps:List PD} {S:FS} {kk:Str->Int} (h:gH H B ls ps S kk) {a:Addr} (ha:a∈B.all ls ps):∃o,H a=some o:=by
 rcases h.kind ha with ⟨_,e⟩ | ⟨_,e⟩ <;> exact⟨_,e⟩
theorem gH.out {H:Hp} {B:gP} {ls:List aG} {ps:List PD} {S:FS} {kk:Str->Int} (h:gH H B ls ps S kk) {a:Addr} (ha:H a=none):a∉B.all ls ps:=fun z=>by
 obtain⟨o,e⟩:=h.has z
 rw [ha] at e
 cases e
theorem gP.cell {B:gP} {ls:List aG} {ps:List PD} {a:Addr} (h:a∈B.cells ls ps):a∈B.all ls ps:=.tail _ (.tail _ (.tail _ (.tail _ h)))
theorem zy {H:Hp} {a:Addr} {kvs:List (Key×V)} {x:Str} {v:V} (e:H a=some (.dK kvs)) (h:b8 kvs (Sum.inr x)=some v):eY H a (.str x) (some v):=by
 rw [<-h]
 exact eY.k (k:=Sum.inr x) e
theorem gP.val (B:gP):b8 B.topK (Sum.inr "holds")=some (.ref B.ho)/\b8 B.topK (Sum.inr "room")=some (.ref B.ro)/\b8 B.topK (Sum.inr "kept")=some (.ref B.ke)/\b8 B.topK (Sum.inr "works")=some (.ref B.wo)/\b8 B.topK (Sum.inr "rows")=some (.ref B.rw):=by
 have nd:(B.topK.map (·.1)).Nodup:=by
  show [(Sum.inr "holds" :Key),Sum.inr "room",Sum.inr "kept",Sum.inr "works",Sum.inr "rows"].Nodup
  decide +kernel
 refine⟨dN nd ?_,dN nd ?_,dN nd ?_,dN nd ?_,dN nd ?_⟩ <;> unfold gP.topK <;> simp
noncomputable def zZ (ps:List PD) (x:Str):Int:=((ps.find? fun p=>decide (p.name=x)).map fun p=>p.nums.headD 0).getD 0
theorem M4 {ps:List PD} (nd:(ps.map (·.name)).Nodup) {p:PD} (hp:p∈ps):zZ ps p.name=p.nums.headD 0:=by
 unfold zZ
 rw [find_name nd hp]
 rfl
theorem QB (ra:Str->Addr) (ps:List PD):(Ux ra ps).map (·.1)=(ps.map (·.name)).map (fun x=>(Sum.inr x:Key)):=by unfold Ux;rw [List.map_map,List.map_map];rfl
theorem M8 {ra:Str->Addr} {ps:List PD} (nd:(ps.map (·.name)).Nodup) {p:PD} (hp:p∈ps):b8 (Ux ra ps) (Sum.inr p.name)=some (.ref (ra p.name)):=
 dN (by rw [QB];exact eO nd) (List.mem_map.mpr ⟨p,hp,rfl⟩)
theorem Fo {α:Type} {x a b c d e f:α} {l:List α} (h:x∈l):x∈a:: b:: c:: d:: e:: f:: l:=.tail _ (.tail _ (.tail _ (.tail _ (.tail _ (.tail _ h)))))
theorem VR (a b c d e:V):qN [] [((Sum.inr "holds" :Key),a),(Sum.inr "room",b),(Sum.inr "kept",c),(Sum.inr "works",d),(Sum.inr "rows",e)]=[((Sum.inr "holds" :Key),a),(Sum.inr "room",b),(Sum.inr "kept",c),(Sum.inr "works",d),(Sum.inr "rows",e)]:=by
 have n1:¬("holds" :Str)= "room" :=by decide +kernel
 have n2:¬("holds" :Str)= "kept" :=by decide +kernel
 have n3:¬("holds" :Str)= "works" :=by decide +kernel
 have n4:¬("holds" :Str)= "rows" :=by decide +kernel
 have n5:¬("room" :Str)= "kept" :=by decide +kernel
 have n6:¬("room" :Str)= "works" :=by decide +kernel
 have n7:¬("room" :Str)= "rows" :=by decide +kernel
 have n8:¬("kept" :Str)= "works" :=by decide +kernel
 have n9:¬("kept" :Str)= "rows" :=by decide +kernel
 have nA:¬("works" :Str)= "rows" :=by decide +kernel
 simp [qN,putK,n1,n2,n3,n4,n5,n6,n7,n8,n9,nA]
inductive vp (vs:List V) (H:Hp) (Q:VK):Prop where
 | mk:∀(L P rw:Addr) (ls:List aG) (ps:List PD) (RW:List (Str×Addr×List Int)),vs=[.ref L,.ref P,.ref rw]->yC H L P ls ps->Ai ls ps->lz H rw RW->(∀H' B kk,aK H H'->gH H' B ls ps (ik ls ps RW) kk->(∀a∈B.all ls ps,H a=none)->Q (.ref B.M) H')->vp vs H Q
@[irreducible] noncomputable def jn (K:PySem.W.Frag):Sp:=fun vs H Q _=>vp vs H Q
theorem Er (T:Txt w K mg t):FO P w K mg base 1 t.yR ["_law_lanes", "_law_parts", "_law_rows"] (jn K):=by
 have sc:=T.rZ.sc ["_law_lanes", "_law_parts", "_law_rows", "_law_model_here", "_law_name", "_law_room", "_law_first", "_law_kind", "_law_numbers", "_law_ins", "_law_outs"]
 refine T.rZ.F.ok sc (fun vs H Q E h=>?_) (fun cdv A outer s H vs Q E hr h=>?_)
 ·unfold jn at h
  obtain⟨L,P,rw,ls,ps,RW,rfl,_⟩:=h
  rfl
 ·unfold jn at h
  obtain⟨L,P,rw,ls,ps,RW,rfl,A,F,hrw,k⟩:=h
  refine⟨_,(@Zj _ _ _ (Rt (Xo (i:=3) sc.nd rfl (Or.inl rfl) (Wm (zp (zp (zp (zp (zp Vy)))))))
   (az (dg PassesOwn.never rfl (bW (pv 0)) (jJ rfl (bD (gN sc 4) (bD (gN sc 5) (bD (gN sc 6) fc))))
    (az (eX hr.u1 (bH hr.u1 (pv 3) bh (fun _ _=>rfl)) (pv 4) (dj jM (by rfl) T.mY jx (aa (pv 6) ak aj)) rfl)
    (aA (eX hr.u1 (bH hr.u1 (pv 3) bh (fun _ _=>rfl)) (pv 4) (pv 5) rfl))))
   (az (dg PassesOwn.never rfl (bW (pv 1)) (jJ rfl (bD (gN sc 7) (bD (gN sc 4) (bD (gN sc 8) (bD (gN sc 9) (bD (gN sc 10) fc))))))
    (az (eX hr.u1 (bH hr.u1 (pv 3) bh (fun _ _=>rfl)) (pv 4) (aO aQ (bc HS (pv 8) (bx (aa aq ak ao))) aq (fun _ _=>rfl)) rfl)
    (az (eX hr.u1 (bH hr.u1 (pv 3) bh (fun _ _=>rfl)) (pv 4) aq rfl)
    (aA (eX hr.u1 (bH hr.u1 (pv 3) bh (fun _ _=>rfl)) (pv 4) (dj jM (by rfl) T.mY jx (aa (Jw hr.u1 (pv 2) (pv 4) (bx ak) ⟨rfl,rfl,rfl,rfl⟩) ak bf)) rfl)))))
   (aA (aN (pv 3))))))),?_⟩
  have hz:sizeLine=16777216:=sizeLine_eq
  have l24:=F.l24
  have p16:=F.p16
  refine fun M nM=>?_
  have T0:=Tr.start (H:=upd H M (.dK [])) (f:=M) (o:=.dK []) au
  have sH:aK H (upd H M (.dK [])):=aB nM
  generalize upd H M (.dK [])=H0 at T0 sH ⊢
  have bs:∀{Hk:Hp},lO M H0 Hk->aK H Hk:=fun b x o e=>b x o (aD e nM) (sH _ _ e)
  refine fun ho n1=>?_
  have T1:=T0.new (o:=.dK []) n1
  generalize upd H0 ho (.dK [])=H1 at T1 ⊢
  refine fun ro n2=>?_
  have T2:=T1.new (o:=.dK []) n2
  generalize upd H1 ro (.dK [])=H2 at T2 ⊢
  refine fun ke n3=>?_
  have T3:=T2.new (o:=.dK []) n3
  generalize upd H2 ke (.dK [])=H3 at T3 ⊢
  refine fun wo n4=>?_
  have T4:=T3.new (o:=.dK []) n4
  generalize upd H3 wo (.dK [])=H4 at T4 ⊢
  refine fun rv n5=>?_
  have T5:=T4.new (o:=.dK []) n5
  generalize upd H4 rv (.dK [])=H5 at T5 ⊢
  refine⟨T5.all (M,.dK []) (by simp),[((Sum.inr "holds" :Key),.ref ho),(Sum.inr "room",.ref ro),(Sum.inr "kept",.ref ke),(Sum.inr "works",.ref wo),(Sum.inr "rows",.ref rv)],rfl,by simp,?_⟩
  rw [VR]
  obtain⟨tp,etp,hv⟩:∃tp,tp=gP.topK ⟨M,ho,ro,ke,wo,rv,fun _=>0,fun _=>0⟩/\_:=⟨_,rfl,gP.val ⟨M,ho,ro,ke,wo,rv,fun _=>0,fun _=>0⟩⟩
  rw [<-etp] at hv
  obtain⟨v1,v2,v3,v4,v5⟩:=hv
  have etp':[((Sum.inr "holds" :Key),V.ref ho),(Sum.inr "room",.ref ro),(Sum.inr "kept",.ref ke),(Sum.inr "works",.ref wo),(Sum.inr "rows",.ref rv)]=tp:=etp.symm
  rw [etp']
  have T6:Tr H0 M ((M,.dK tp):: (ho,.dK (bu [])):: (ro,.dK (cz [])):: (ke,.dK []):: (wo,.dK []):: (rv,.dK []):: fQ []) (upd H5 M (.dK tp)):=T5.put (L1:=[])
  generalize upd H5 M (.dK tp)=H6 at T6 ⊢
  clear T0 T1 T2 T3 T4 T5 etp'
  obtain⟨⟨xs,eL,aL⟩,⟨ys,eP,aP⟩⟩:=id A
  have xl:=aL.length
  have yl:=aP.length
  have nod:=F.whole.nod
  refine⟨_,rfl,L,rfl,⟨_,bL.of (bs T6.but _ _ eL)⟩,cY (K:=K) (a:=L) (xs:=xs) (fun j σ H'=>(∃v4 v5 v6,σ=[some (.ref L),some (.ref P),some (.ref rw),some (.ref M),v4,v5,v6,none,none,none,none])/\∃EL:List (aG×Addr),EL.map (·.1)=ls.take j/\Tr H0 M ((M,.dK tp):: (ho,.dK (bu EL)):: (ro,.dK (cz (ls.take j))):: (ke,.dK []):: (wo,.dK []):: (rv,.dK []):: fQ EL) H') ⟨⟨none,none,none,rfl⟩,[],rfl,T6⟩ (fun j σ H' _ ⟨_,_,_,h⟩=>bL.of (bs h.but _ _ eL)) ?_ ?_⟩
  ·rintro j x σ H7 hx ⟨⟨w4,w5,w6,rfl⟩,EL,eEL,T7⟩
   obtain⟨l,hlj,r,f,rfl,hr,hf⟩:=aL.get hx
   have hj:=(List.getElem?_eq_some_iff.mp hlj).1
   have nin:=jt nod hlj
   have vR:b8 (cz (ls.take j)) (Sum.inr l.name)=none:=fB (by rw [mL];intro z;obtain⟨b,hb,e⟩:=List.mem_map.mp z;cases e;exact nin hb)
   have vF:b8 (bu EL) (Sum.inr l.name)=none:=fB (by rw [oV,eEL];intro z;obtain⟨b,hb,e⟩:=List.mem_map.mp z;cases e;exact nin hb)
   have tk:ls.take (j+1)=ls.take j ++ [l]:=by rw [List.take_succ,hlj];rfl
   have lEL:EL.length<=24:=by have:=congrArg List.length eEL;rw [lM,List.length_take] at this;omega
   refine⟨r,_,rfl,eN.of (bs T7.but _ _ hr),rfl,_,_,rfl,_,_,rfl,_,_,rfl,rfl,?_⟩
   refine⟨_,rfl,f,_,rfl,.inl (bL.of (bs T7.but _ _ hf)),fun y ny=>?_⟩
   have T8:Tr H0 M ((M,.dK tp):: (ho,.dK (bu EL)):: (ro,.dK (cz (ls.take j))):: (ke,.dK []):: (wo,.dK []):: (rv,.dK []):: fQ (EL ++ [(l,y)])) (upd H7 y (.lst (l.first.map V.int))):=by
    unfold fQ
    rw [List.map_append]
    exact T7.new ny
   generalize upd H7 y (.lst (l.first.map V.int))=H8 at T8 ⊢
   refine⟨_,rfl,M,_,rfl,zy (T8.all (M,.dK tp) (by simp)) v1,_,rfl,ho,_,rfl,km.k (k:=Sum.inr l.name) (T8.all (ho,.dK (bu EL)) (by simp)) (by unfold bu;rw [lM];omega),?_⟩
   rw [fX _ vF]
   have T9:Tr H0 M ((M,.dK tp):: (ho,.dK (bu (EL ++ [(l,y)]))):: (ro,.dK (cz (ls.take j))):: (ke,.dK []):: (wo,.dK []):: (rv,.dK []):: fQ (EL ++ [(l,y)])) (upd H8 ho (.dK (bu EL ++ [(Sum.inr l.name,V.ref y)]))):=by
    have:bu (EL ++ [(l,y)])=bu EL ++ [(Sum.inr l.name,V.ref y)]:=by unfold bu;rw [List.map_append];rfl
    rw [this]
    exact T8.put (L1:=[_])
   generalize upd H8 ho (.dK (bu EL ++ [(Sum.inr l.name,V.ref y)]))=H9 at T9 ⊢
   refine⟨_,rfl,_,rfl,M,_,rfl,zy (T9.all (M,.dK tp) (by simp)) v2,_,rfl,ro,_,rfl,km.k (k:=Sum.inr l.name) (T9.all (ro,.dK (cz (ls.take j))) (by simp)) (by unfold cz;rw [lM,List.length_take];omega),?_⟩
   rw [fX _ vR]
   refine⟨⟨_,_,_,rfl⟩,EL ++ [(l,y)],by rw [List.map_append,eEL,tk];rfl,?_⟩
   have:cz (ls.take (j+1))=cz (ls.take j) ++ [(Sum.inr l.name,V.int l.room)]:=by rw [tk];unfold cz;rw [List.map_append];rfl
   rw [this]
   exact T9.put (L1:=[_,_])
  rintro σ H7 ⟨⟨w4,w5,w6,rfl⟩,EL,eEL,T7⟩
  rw [xl,List.take_length] at eEL T7
  have T7:Tr H0 M ((M,.dK tp):: (ho,.dK (bu EL)):: (ro,.dK (cz ls)):: (ke,.dK (bC (zZ ps) [])):: (wo,.dK (bC (fun _=>0) [])):: (rv,.dK []):: (fQ EL ++ wk RW [])) H7:=by
   unfold wk
   rw [List.map_nil,List.append_nil]
   exact T7
  refine⟨_,rfl,P,rfl,⟨_,bL.of (bs T7.but _ _ eP)⟩,cY (K:=K) (a:=P) (xs:=ys) (fun j σ H'=>(∃v4 v5 v6 v7 v8 v9 v10,σ=[some (.ref L),some (.ref P),some (.ref rw),some (.ref M),v4,v5,v6,v7,v8,v9,v10])/\∃RL:List (PD×Addr),RL.map (·.1)=ps.take j/\Tr H0 M ((M,.dK tp):: (ho,.dK (bu EL)):: (ro,.dK (cz ls)):: (ke,.dK (bC (zZ ps) (ps.take j))):: (wo,.dK (bC (fun _=>0) (ps.take j))):: (rv,.dK (RL.map fun q=>((Sum.inr q.1.name:Key),V.ref q.2))):: (fQ EL ++ wk RW RL)) H') ⟨⟨_,_,_,_,_,_,_,rfl⟩,[],rfl,T7⟩ (fun j σ H' _ ⟨_,_,_,h⟩=>bL.of (bs h.but _ _ eP)) ?_ ?_⟩
  ·rintro j x σ H8 hx ⟨⟨u4,u5,u6,u7,u8,u9,u10,rfl⟩,RL,eRL,T8⟩
   obtain⟨p,hpj,q,a1,a2,a3,rfl,hq,ha1,_,_⟩:=aP.get hx
   have hpm:=List.mem_of_getElem? hpj
   have nin:=jt F.pnd hpj
   have tk:ps.take (j+1)=ps.take j ++ [p]:=by rw [List.take_succ,hpj];rfl
   have kn:∀g:Str->Int,b8 (bC g (ps.take j)) (Sum.inr p.name)=none:=fun g=>fB (by rw [xK];intro z;obtain⟨b,hb,e⟩:=List.mem_map.mp z;cases e;exact nin hb)
   have ks:∀g:Str->Int,bC g (ps.take (j+1))=bC g (ps.take j) ++ [(Sum.inr p.name,V.int (g p.name))]:=fun g=>by rw [tk];unfold bC;rw [List.map_append];rfl
   have kl:∀g:Str->Int,(bC g (ps.take j)).length <sizeLine:=fun g=>by unfold bC;rw [lM,List.length_take];omega
   have lRL:RL.length<=16:=by have:=congrArg List.length eRL;rw [lM,List.length_take] at this;omega
   have vR:b8 (RL.map fun q=>((Sum.inr q.1.name:Key),V.ref q.2)) (Sum.inr p.name)=none:=fB (by
    rw [List.map_map]
    intro z
    obtain⟨q,hq,e⟩:=List.mem_map.mp z
    have hm:q.1∈RL.map (·.1):=List.mem_map.mpr ⟨q,hq,rfl⟩
    rw [eRL] at hm
    exact nin (List.mem_map.mpr ⟨q.1,hm,by injection e⟩))
   have nl:p.nums.length<=2:=by rw [(F.pok p hpm).2.1];exact Ur p.kind
   refine⟨q,_,rfl,eN.of (bs T8.but _ _ hq),rfl,_,_,rfl,_,_,rfl,_,_,rfl,_,_,rfl,_,_,rfl,rfl,?_⟩
   refine⟨_,rfl,iW,fun u nu=>⟨a1,u,_,_,rfl,rfl,aB nu _ _ (bs T8.but _ _ ha1),au,by rw [lM];show _+1<=_;omega,fun z nz=>?_⟩⟩
   have hd0:FZ (p.nums.map V.int ++ [V.int 0]) 0=some (.int (zZ ps p.name)):=by
    rw [M4 F.pnd hpm]
    refine aM (j:=0) ?_
    cases p.nums with
    | nil=>rfl
    | cons a r=>rfl
   have T9:=(T8.same (aB (o:=.lst [V.int 0]) nu)).same (aB (o:=.lst (p.nums.map V.int ++ [V.int 0])) nz)
   have ez:upd (upd H8 u (.lst [V.int 0])) z (.lst (p.nums.map V.int ++ [V.int 0])) z=some (.lst (p.nums.map V.int ++ [V.int 0])):=au
   generalize upd (upd H8 u (.lst [V.int 0])) z (.lst (p.nums.map V.int ++ [V.int 0]))=H9 at T9 ez ⊢
   refine⟨z,_,0,_,rfl,rfl,bL.of ez,hd0,_,rfl,M,_,rfl,zy (T9.all (M,.dK tp) (by simp)) v3,_,rfl,ke,_,rfl,km.k (k:=Sum.inr p.name) (T9.all (ke,.dK (bC (zZ ps) (ps.take j))) (by simp)) (kl _),?_⟩
   rw [fX _ (kn _),<-ks]
   have T10:=T9.put (L1:=[_,_,_]) (o':=.dK (bC (zZ ps) (ps.take (j+1))))
   generalize upd H9 ke (.dK (bC (zZ ps) (ps.take (j+1))))=H10 at T10 ⊢
   refine⟨_,rfl,M,_,rfl,zy (T10.all (M,.dK tp) (by simp)) v4,_,rfl,wo,_,rfl,km.k (k:=Sum.inr p.name) (T10.all (wo,.dK (bC (fun _=>0) (ps.take j))) (by simp)) (kl _),?_⟩
   rw [fX _ (kn _),<-ks (fun _=>0)]
   have T11:=T10.put (L1:=[_,_,_,_]) (o':=.dK (bC (fun _=>0) (ps.take (j+1))))
   generalize upd H10 wo (.dK (bC (fun _=>0) (ps.take (j+1))))=H11 at T11 ⊢
   have rw7:=hrw.same (bs T11.but)
   refine⟨_,rfl,rw,rfl,.inl ⟨_,.inl rw7.dict⟩,_,rfl,iW,fun u nu=>?_⟩
   have tu:=aB (o:=.lst []) nu
   have xu:upd H11 u (.lst []) u=some (.lst []):=au
   generalize upd H11 u (.lst [])=H12 at tu xu ⊢
   have rw8:=rw7.same tu
   refine⟨_,eY.k (k:=Sum.inr p.name) rw8.dict,?_⟩
   obtain⟨y,ey,hy⟩:∃y:Addr,(b8 (iu RW) (Sum.inr p.name)).getD (V.ref u)=.ref y/\H12 y=some (.lst ((pW RW p.name).map V.int)):=by
    rcases rw8.get p.name with ⟨e1,e2⟩ | ⟨a,e1,e2,_⟩
    ·rw [e1,e2]
     exact⟨u,rfl,xu⟩
    ·rw [e1]
     exact⟨a,rfl,e2⟩
   refine⟨y,(pW RW p.name).map V.int,by rw [ey],.inl (bL.of hy),fun r nr=>?_⟩
   have T13:Tr H0 M ((M,.dK tp):: (ho,.dK (bu EL)):: (ro,.dK (cz ls)):: (ke,.dK (bC (zZ ps) (ps.take (j+1)))):: (wo,.dK (bC (fun _=>0) (ps.take (j+1)))):: (rv,.dK (RL.map fun q=>((Sum.inr q.1.name:Key),V.ref q.2))):: (fQ EL ++ wk RW (RL ++ [(p,r)]))) (upd H12 r (.lst ((pW RW p.name).map V.int))):=by
    unfold wk
    rw [List.map_append,<-List.append_assoc]
    exact(T11.same tu).new nr
   generalize upd H12 r (.lst ((pW RW p.name).map V.int))=H13 at T13 ⊢
   refine⟨_,rfl,M,_,rfl,zy (T13.all (M,.dK tp) (by simp)) v5,_,rfl,rv,_,rfl,km.k (k:=Sum.inr p.name) (T13.all (rv,.dK (RL.map fun q=>((Sum.inr q.1.name:Key),V.ref q.2))) (by simp)) (by rw [lM];omega),?_⟩
   rw [fX _ vR]
   refine⟨⟨_,_,_,_,_,_,_,rfl⟩,RL ++ [(p,r)],by rw [List.map_append,eRL,tk];rfl,?_⟩
   rw [List.map_append]
   exact T13.put (L1:=[_,_,_,_,_])
  rintro σ HH ⟨⟨u4,u5,u6,u7,u8,u9,u10,rfl⟩,RL,eRL,TH⟩
  rw [yl,List.take_length] at eRL TH
  have nE:(EL.map fun q=>q.1.name).Nodup:=by
   have:(EL.map (·.1)).map (·.name)=EL.map fun q=>q.1.name:=by rw [List.map_map];rfl
   rw [<-this,eEL]
   exact nod
  have nR:(RL.map fun q=>q.1.name).Nodup:=by
   have:(RL.map (·.1)).map (·.name)=RL.map fun q=>q.1.name:=by rw [List.map_map];rfl
   rw [<-this,eRL]
   exact F.pnd
  have mE:ls.map (fun l=>fC (·.name) EL l.name)=EL.map (·.2):=by rw [<-eEL];exact vX nE
  have mR:ps.map (fun p=>fC (·.name) RL p.name)=RL.map (·.2):=by rw [<-eRL];exact vX nR
  have e2:(fQ EL ++ wk RW RL).map Prod.fst=ls.map (fun l=>fC (·.name) EL l.name) ++ ps.map (fun p=>fC (·.name) RL p.name):=by rw [mE,mR];unfold fQ wk;rw [List.map_append,List.map_map,List.map_map];rfl
  have nd:=TH.nod
  simp only [List.map_cons,e2] at nd
  have sub:(gP.all ⟨M,ho,ro,ke,wo,rv,fC (·.name) EL,fC (·.name) RL⟩ ls ps).Perm (M:: ho:: ro:: ke:: wo:: rv:: (ls.map (fun l=>fC (·.name) EL l.name) ++ (lF ps).map (fun p=>fC (·.name) RL p.name))):=by
   show(M:: ho:: ro:: rv:: ke:: wo:: _).Perm _
   refine(List.Perm.cons _ (.cons _ (.cons _ ?_)))
   exact(List.Perm.swap _ _ _).trans (.cons _ (.swap _ _ _))
  have sub2:(M:: ho:: ro:: ke:: wo:: rv:: (ls.map (fun l=>fC (·.name) EL l.name) ++ (lF ps).map (fun p=>fC (·.name) RL p.name))).Sublist (M:: ho:: ro:: ke:: wo:: rv:: (ls.map (fun l=>fC (·.name) EL l.name) ++ ps.map (fun p=>fC (·.name) RL p.name))):=.cons₂ _ (.cons₂ _ (.cons₂ _ (.cons₂ _ (.cons₂ _ (.cons₂ _ ((List.Sublist.refl _).append (List.filter_sublist.map _)))))))
  refine⟨_,rfl,k HH ⟨M,ho,ro,ke,wo,rv,fC (·.name) EL,fC (·.name) RL⟩ (zZ ps) (bs TH.but) ⟨?_,?_,TH.all (ro,.dK (cz ls)) (by simp),?_,TH.all (ke,.dK (bC (zZ ps) ps)) (by simp),TH.all (wo,.dK (bC (fun _=>0) ps)) (by simp),fun l hl=>?_,fun p hp _=>?_,sub.nodup_iff.mpr (nd.sublist sub2),fun p hp h5=>?_⟩ fun a ha=>?_⟩
  ·have:=TH.all (M,.dK tp) (by simp)
   rw [etp] at this
   exact this
  ·have:Je (fC (·.name) EL) ls=bu EL:=by
    unfold Je bu
    rw [<-eEL,List.map_map]
    refine List.map_congr_left fun q hq=>?_
    show((Sum.inr q.1.name:Key),V.ref (fC (·.name) EL q.1.name))=_
    rw [show fC (·.name) EL q.1.name=q.2 from jP nE hq]
   show HH ho=some (.dK (Je (fC (·.name) EL) ls))
   rw [this]
   exact TH.all (ho,.dK (bu EL)) (by simp)
  ·have:Ux (fC (·.name) RL) ps=RL.map fun q=>((Sum.inr q.1.name:Key),V.ref q.2):=by
    unfold Ux
    rw [<-eRL,List.map_map]
    refine List.map_congr_left fun q hq=>?_
    show((Sum.inr q.1.name:Key),V.ref (fC (·.name) RL q.1.name))=_
    rw [show fC (·.name) RL q.1.name=q.2 from jP nR hq]
   show HH rv=some (.dK (Ux (fC (·.name) RL) ps))
   rw [this]
   exact TH.all (rv,.dK (RL.map fun q=>((Sum.inr q.1.name:Key),V.ref q.2))) (by simp)
  ·have hl':=hl
   rw [<-eEL] at hl
   obtain⟨q,hq,rfl⟩:=List.mem_map.mp hl
   show HH (fC (·.name) EL q.1.name)=some (.lst (((JH ls q.1.name).drop 0).map V.int))
   rw [show fC (·.name) EL q.1.name=q.2 from jP nE hq,zj nod hl']
   exact TH.all (q.2,.lst (q.1.first.map V.int)) (Fo (List.mem_append.mpr (.inl (List.mem_map.mpr ⟨q,hq,rfl⟩))))
  ·rw [<-eRL] at hp
   obtain⟨q,hq,rfl⟩:=List.mem_map.mp hp
   show HH (fC (·.name) RL q.1.name)=some (.lst (((pW RW q.1.name).drop 0).map V.int))
   rw [show fC (·.name) RL q.1.name=q.2 from jP nR hq]
   exact TH.all (q.2,.lst ((pW RW q.1.name).map V.int)) (Fo (List.mem_append.mpr (.inr (List.mem_map.mpr ⟨q,hq,rfl⟩))))
  ·show zZ ps p.name=fG ps p.name
   rw [M4 F.pnd hp]
   unfold fG
   rw [find_name F.pnd hp]
   simp [h5]
  ·have h2:a∈((M,.dK tp):: (ho,.dK (bu EL)):: (ro,.dK (cz ls)):: (ke,.dK (bC (zZ ps) ps)):: (wo,.dK (bC (fun _=>0) ps)):: (rv,.dK (RL.map fun q=>((Sum.inr q.1.name:Key),V.ref q.2))):: (fQ EL ++ wk RW RL):List (Addr×HO)).map Prod.fst:=by
    simp only [List.map_cons,e2]
    exact sub2.subset (sub.mem_iff.mp ha)
   obtain⟨q,hq,rfl⟩:=List.mem_map.mp h2
   rcases TH.fre q hq with e | e
   ·rw [e];exact nM
   ·exact sH.free e
theorem Mf:∀i,i <11->decide (V.str (cL i)=V.str "give")=decide (i=0):=by decide +kernel
theorem Xv {H:Hp} {Q:VK} {Ex:XK} {i:Nat} {a:Addr} {hs:List V} (hi:i <11) (hS:bL K H a hs) (hO:tK i hs) (kn:Pj i hs=none->∀H',aK H H'->Q .non H') (k:∀qs,Pj i hs=some qs->∀H' L,aK H H'->H L=none->H' L=some (.lst (qs.map nV))->Q (.ref L) H'):iM K [.str (cL i),.ref a] H Q Ex:=by
 unfold iM
 exact⟨i,a,hs,rfl,hi,hS,hO,kn,k⟩
theorem Ru (xs:List V) (g:Nat):wu xs none (some (g:Int))=xs.take g:=by
 unfold wu
 rw [HT.yV,HT.vU,List.drop_zero,Nat.sub_zero]
 rcases Nat.le_total g xs.length with h | h
 ·rw [Nat.min_eq_left h]
 ·rw [Nat.min_eq_right h,List.take_of_length_le h,List.take_of_length_le (Nat.le_refl _)]
theorem Jk {S:FS} {p:PD} (ok:tM p):Pj p.kind (aV S p)=if gQ p.kind p.ins (aV S p)=.non then some (places p.kind (aV S p)) else none:=by
 have hO:=o7 S p ok
 unfold Pj gQ
 cases hf:(places p.kind (aV S p)).find? (kJ (aV S p)) with
 | none=>simp
 | some j=>
  have hq:j <p.ins.length:=by have:=gZ hO j (List.mem_of_find?_eq_some hf);unfold aV at this;rwa [lM] at this
  simp [List.getElem?_eq_getElem hq]
theorem SX {i:Nat} (h:i≠5) (ns ws:List Int) (k k':Int):cH i ns ws k=cH i ns ws k':=by
 unfold cH
 split <;> first | rfl | exact absurd rfl h
theorem Nz (l:List Int) (g:Nat):((l.drop g).map V.int ++ [V.non])[0]?=some ((((l[g]?).map V.int)).getD .non):=by
 cases h:l[g]? with
 | none=>
  rw [List.drop_eq_nil_of_le (List.getElem?_eq_none_iff.mp h)]
  rfl
 | some n=>
  obtain⟨hg,e⟩:=List.getElem?_eq_some_iff.mp h
  rw [List.drop_eq_getElem_cons hg,e]
  rfl
inductive wL (vs:List V) (H:Hp) (Q:VK):Prop where
 | mk:∀(b:Nat) (M:List Addr) (B:gP) (ls:List aG) (ps:List PD) (S:FS) (kk:Str->Int) (p:PD) (q:Addr),vs=[.ref B.M,.ref q]->((∀a∈M,∃o,H a=some o))->gH H B ls ps S kk->Ai ls ps->Kg b ls ps S->b<=90000->((∀l∈ls,S.g l.name<=(S.ev l.name).length))->p∈ps->wz H (.ref q) p->((dG ls S p=none->∀H',aK H H'->Q .non H'))->(∀dd,dG ls S p=some dd->∀H' U,aK H H'->jZ M H' U ⟨dd.tk,dd.gv,dR p.kind (rA S p) (kk p.name)⟩->Q (.ref U) H')->wL vs H Q
@[irreducible] noncomputable def jR (K:PySem.W.Frag):Sp:=fun vs H Q _=>wL vs H Q
noncomputable abbrev mJ:List Str:=["_law_model_here", "_law_one", "_law_kind", "_law_name", "_law_numbers", "_law_ins", "_law_outs", "_law_heads", "_law_places_here", "_law_values", "_law_given_here", "_law_kept", "_law_place", "_law_value_here"]
theorem yL (T:Txt w K mg t):FO P w K mg base 3 t.Aj ["_law_model_here", "_law_one"] (jR K):=by
 have sc:=T.p7.sc mJ
 refine T.p7.F.ok sc (fun vs H Q E h=>?_) (fun cdv A outer s H vs Q E hr h=>?_)
 ·unfold jR at h
  obtain⟨b,M,B,ls,ps,S,kk,p,q,rfl,_⟩:=h
  rfl
 ·unfold jR at h
  obtain⟨b,M,B,ls,ps,S,kk,p,q,rfl,hM,G,F,O,hb,hg,hp,⟨_,a1,a2,a3,eq,q0,q1,q2,q3⟩,kn,k⟩:=h
  refine⟨_,(az (Ks (pv 1) (jJ rfl (bD (gN sc 2) (bD (gN sc 3) (bD (gN sc 4) (bD (gN sc 5) (bD (gN sc 6) fc)))))))
   (az (sN sc 7 (fM [0] mJ (aU (top 80)) rfl (bW (pv 5)) (fun _ _ _ _ _=>gm) (fun _ _ _ _ _=>(aO (uR (K:=K) rfl) (bc HS (bH hr.u1 (bH hr.u1 (pv 1) bh (fun _ _=>rfl)) (pv 0) (fun _ _=>rfl)) (bx (aa lG ak ao))) aq (fun _ _=>rfl)))))
   (az (sN sc 8 (d8 (Dj T) T.qR hr (aa (pv 2) (aa (pv 7) ak aj) aj)))
   (az (bR (gj (vC (pv 8)))
    (aA (aN lG))
    aY)
   (az (j4 (i:=9) [7] mJ (aU (top 80)) rfl sc.nd rfl (bW (pv 8)) (fun _ _ _ _ _=>gm) (fun _ _ _ _ _=>(aO (uR (K:=K) rfl) (pv 1) (pv 0) (fun _ _=>rfl))))
   (az (fL (bR (aW dW (pv 2) bh (bI _))
    (az (sN sc 9 (mH vH (bH hr.u1 (bH hr.u1 (pv 0) bh (fun _ _=>rfl)) (pv 3) (fun _ _=>rfl)) vO (lW aq)))
    (aA (bR (aW (VH hr.units) (pv 9) (bx ak) (bI _))
     (aA (aN lG))
     aY)))
    aY))
   (az (Ks (d8 (En T) T.yw hr (aa (pv 2) (aa (pv 4) (aa (pv 9) (aa (bH hr.u1 (bH hr.u1 (pv 0) bh (fun _ _=>rfl)) (pv 3) (fun _ _=>rfl)) ak aF) aj) aj) aj)) (jJ rfl (bD (gN sc 10) (bD (gN sc 11) fc))))
   (az (dg PassesOwn.never rfl (bW (pv 10)) (jJ rfl (bD (gN sc 12) (bD (gN sc 13) fc)))
    (aA (bR (aW U6 (bG cj (by rfl) T.fK dI (aa (bH hr.u1 (bH hr.u1 (pv 0) bh (fun _ _=>rfl)) (aO aQ (pv 6) (pv 12) (fun _ _=>rfl)) (fun _ _=>rfl)) ak aF)) (bH hr.u1 (bH hr.u1 (pv 0) bh (fun _ _=>rfl)) (aO aQ (pv 6) (pv 12) (fun _ _=>rfl)) (fun _ _=>rfl)) (bI _))
     (aA (aN lG))
     aY)))
   (aA (aN (bV (aa (fM [5] mJ (aU (top 80)) rfl (bW (pv 8)) (fun _ _ _ _ _=>gm) (fun _ _ _ _ _=>(aO (uR (K:=K) rfl) (pv 1) (pv 0) (fun _ _=>rfl)))) (aa (uh ["_law_place", "_law_value_here"] [6] mJ (aU (top 80)) rfl (bW (pv 10)) (fun _ _ _ _ _=>vM (K:=K) (n:=2) rfl rfl (bD (iy (i:=0) (show(["_law_place", "_law_value_here", "_law_outs"]:List Str).Nodup by decide +kernel) rfl (Or.inl rfl) (.inr rfl)) (bD (iy (i:=1) (show(["_law_place", "_law_value_here", "_law_outs"]:List Str).Nodup by decide +kernel) rfl (Or.inl rfl) (.inr rfl)) fc))) (fun _ _ _ _ _=>gm) (fun _ _ _ _ _=>(bV (aa (aO (uR (K:=K) rfl) (pv 2) (pv 0) (fun _ _=>rfl)) (aa (pv 1) ak aj) aF)))) (aa (pv 11) ak aj) d7) d7)))))))))))),?_⟩
  cases eq
  have hz:sizeLine=16777216:=sizeLine_eq
  have ok:=F.pok p hp
  have hO:=o7 S p ok
  have h3i:p.ins.length<=3:=by rw [ok.2.2.1];exact Aq _
  obtain⟨v1,v2,v3,v4,v5⟩:=B.val
  refine⟨_,rfl,q,_,rfl,eN.of q0,rfl,_,_,rfl,_,_,rfl,_,_,rfl,_,_,rfl,_,_,rfl,rfl,?_⟩
  refine⟨_,rfl,a2,rfl,⟨_,bL.of q2⟩,fu (K:=K) (a:=a2) (xs:=p.ins.map V.str) (fun j ys H'=>aK H H'/\ys=(p.ins.take j).map (kY S)) (by rw [lM];omega) ⟨aK.refl _,rfl⟩ (fun j ys H' h=>by rw [h.2,lM,List.length_take];omega) (fun j ys H' _ h=>h.1.seq (bL.of q2)) ?_ ?_⟩
  ·rintro j x ys H1 hx ⟨s1,rfl⟩
   rw [List.getElem?_map] at hx
   obtain⟨y,hy,rfl⟩:=Option.map_eq_some_iff.mp hx
   obtain⟨l,hl,rfl⟩:=F.inL hp (List.mem_append.mpr (.inl (List.mem_of_getElem? hy)))
   have G1:=G.same s1
   have lb:=O.len l hl
   refine yes ⟨_,rfl,B.M,_,rfl,zy G1.top v1,_,rfl,B.ho,_,rfl,zy G1.holds (lQ F.whole.nod hl),iW,fun u nu=>?_⟩
   refine⟨B.ha l.name,u,_,_,rfl,rfl,aB nu _ _ (G1.hl l hl),au,by rw [lM,List.length_drop];show _+1<=_;omega,fun z nz=>?_⟩
   refine⟨z,_,0,_,rfl,rfl,bL.of au,aM (j:=0) (Nz _ _),(s1.trans (aB nu)).trans (aB nz),?_⟩
   rw [List.take_succ,hy,Option.toList_some,List.map_append]
   rfl
  rintro ys H1 ⟨s1,rfl⟩ hd nhd
  rw [lM,List.take_length]
  have s2:=s1.trans (aB (o:=.lst (aV S p)) nhd)
  have ed2:upd H1 hd (.lst (p.ins.map (kY S))) hd=some (.lst (aV S p)):=au
  change aK H (upd H1 hd (.lst (p.ins.map (kY S)))) at s2
  generalize upd H1 hd (.lst (p.ins.map (kY S)))=H2 at s2 ed2 ⊢
  refine⟨_,rfl,_,rfl,Xv ok.1 (bL.of ed2) hO (fun hn H3 s3=>?_) (fun qs hqs H3 Lp s3 nLp eLp=>?_)⟩
  ·rw [Jk ok] at hn
   split at hn
   ·cases hn
   ·rename_i hlk
    exact⟨_,rfl,_,rfl,fY (kn (by unfold dG;rw [Cu hlk]) H3 (s2.trans s3))⟩
  rw [Jk ok] at hqs
  split at hqs
  case isFalse=>cases hqs
  rename_i hlk
  cases hqs
  have hpl:(places p.kind (aV S p)).length<=3:=places_len hO
  have ed3:=s3 _ _ ed2
  have s03:=s2.trans s3
  refine⟨_,rfl,_,rfl,dw ?_⟩
  refine⟨_,rfl,Lp,rfl,⟨_,bL.of eLp⟩,fu (K:=K) (a:=Lp) (xs:=(places p.kind (aV S p)).map nV) (fun j ys H'=>H'=H3/\ys=((places p.kind (aV S p)).take j).map (fun q=>((aV S p)[q]?).getD .non)) (by rw [lM];omega) ⟨rfl,rfl⟩ (fun j ys H' ⟨_,e⟩=>by rw [e,lM,List.length_take];omega) (fun j ys H' _ ⟨e,_⟩=>by rw [e];exact bL.of eLp) ?_ ?_⟩
  ·rintro j v ys H' hv' ⟨e',rfl⟩
   subst e'
   rw [List.getElem?_map] at hv'
   obtain⟨r,hr',rfl⟩:=Option.map_eq_some_iff.mp hv'
   have hql:r <(aV S p).length:=gZ hO r (List.mem_of_getElem? hr')
   refine yes ⟨_,rfl,_,rfl,hd,aV S p,r,_,rfl,rfl,bL.of ed3,aM (j:=r) (List.getElem?_eq_getElem hql),rfl,?_⟩
   rw [List.take_succ,hr',Option.toList_some,List.map_append,List.map_cons,List.map_nil,List.getElem?_eq_getElem hql]
   rfl
  rintro ys H' ⟨e',rfl⟩ V1 hV1
  subst e'
  rw [lM,List.take_length]
  have t4:=aB (o:=.lst ((places p.kind (aV S p)).map fun q=>((aV S p)[q]?).getD .non)) hV1
  have eV:(upd H' V1 (.lst ((places p.kind (aV S p)).map fun q=>((aV S p)[q]?).getD .non))) V1=some (.lst ((places p.kind (aV S p)).map fun q=>((aV S p)[q]?).getD .non)):=au
  generalize upd H' V1 (.lst ((places p.kind (aV S p)).map fun q=>((aV S p)[q]?).getD .non))=H4 at t4 eV ⊢
  have s04:=s03.trans t4
  have G4:=G.same s04
  have eLp4:=t4 _ _ eLp
  refine⟨fun σ' H6=>∃V2,aK H4 H6/\σ'=[some (.ref B.M),some (.ref q),some (.str (cL p.kind)),some (.str p.name),some (.ref a1),some (.ref a2),some (.ref a3),some (.ref hd),some (.ref Lp),some (.ref V2),none,none,none,none]/\H6 V2=some (.lst ((rA S p).map V.int))/\xJ S p=false,?_,?_⟩
  ·refine⟨_,rfl,rfl,_,rfl,?_⟩
   rw [Mf _ ok.1]
   by_cases h0:p.kind=0
   ·rw [decide_eq_true h0]
    refine fY ⟨_,rfl,B.M,_,rfl,zy G4.top v5,_,rfl,B.rw,_,rfl,zy G4.rows (M8 F.pnd hp),_,rfl,B.ra p.name,_,rfl,bL.of (G4.rl p hp h0),fun V2 nV2=>?_⟩
    have hdl:=O.dl p hp h0
    have et:wu (((S.r p.name).drop (S.d p.name)).map V.int) none (some 1)=(((S.r p.name).drop (S.d p.name)).take 1).map V.int:=by rw [List.map_take];exact Ru _ 1
    rw [et]
    have t5:=aB (o:=.lst ((((S.r p.name).drop (S.d p.name)).take 1).map V.int)) nV2
    have e5:upd H4 V2 (.lst ((((S.r p.name).drop (S.d p.name)).take 1).map V.int)) V2=some (.lst ((((S.r p.name).drop (S.d p.name)).take 1).map V.int)):=au
    generalize upd H4 V2 (.lst ((((S.r p.name).drop (S.d p.name)).take 1).map V.int))=H5 at t5 e5 ⊢
    have g:Gd 1 (.list ((((S.r p.name).drop (S.d p.name)).take 1).map PyData.int)):=.list (.ints 0 _)
    have g0:Gd 1 (.list (([]:List Int).map PyData.int)):=.list (.ints 0 _)
    refine⟨_,rfl,iW,fun u nu=>⟨_,_,BP (bL.of (aB nu _ _ e5)),BP (ws:=[]) (bL.of au),g.shaped (by decide),g0.shaped (by decide),_,rfl,?_⟩⟩
    have t6:=t5.trans (aB (o:=.lst []) nu)
    cases he:xJ S p with
    | true=>
     have hd:S.d p.name=(S.r p.name).length:=by unfold xJ at he;simpa [h0] using he
     rw [List.drop_eq_nil_of_le (Nat.le_of_eq hd.symm)]
     rw [show PyData.eqv (.list ((([]:List Int).take 1).map PyData.int)) (.list (([]:List Int).map PyData.int))=true from g0.eq]
     exact fY (kn (by unfold dG;rw [Ft he]) _ (s04.trans t6))
    | false=>
     have hd:S.d p.name <(S.r p.name).length:=by unfold xJ at he;simp [h0] at he;omega
     have ew:rA S p=[(S.r p.name)[S.d p.name]]:=by unfold rA;rw [if_pos h0,List.getElem?_eq_getElem hd];rfl
     have e7:((S.r p.name).drop (S.d p.name)).take 1=rA S p:=by rw [List.drop_eq_getElem_cons hd,ew];rfl
     rw [e7] at e5
     rw [e7,ew,show PyData.eqv (.list ([(S.r p.name)[S.d p.name]].map PyData.int)) (.list (([]:List Int).map PyData.int))=false by simp [PyData.eqv,PyData.eqvAll]]
     rw [ew] at e5
     exact dw ⟨V2,t6,rfl,aB nu _ _ e5,rfl⟩
   ·rw [decide_eq_false h0]
    have he:xJ S p=false:=by unfold xJ;simp [h0]
    refine dw ⟨V1,aK.refl _,rfl,?_,he⟩
    rw [<-(Mt F O hp hlk he).2.2.1 h0]
    exact eV
  rintro σ' H6 ⟨V2,t6,rfl,eV2,he⟩
  obtain⟨lw,hB,hv,hw0⟩:=Mt F O hp hlk he
  have s06:=s04.trans t6
  have G6:=G.same s06
  have eo:cH p.kind p.nums (rA S p) (kk p.name)=cH p.kind p.nums (rA S p) (S.k p.name):=by
   by_cases h5:p.kind=5
   ·rw [G.kh p hp h5]
   ·exact SX h5 _ _ _ _
  have hdd:j9 S p=some ⟨(places p.kind (aV S p)).map (strAt p.ins),(cH p.kind p.nums (rA S p) (S.k p.name)).map fun pv=>(strAt p.outs pv.1.toNat,pv.2),dR p.kind (rA S p) (S.k p.name)⟩:=by unfold j9;rw [if_neg (by simp [hlk]),if_neg (by simp [he])]
  refine⟨_,rfl,_,rfl,_,rfl,_,rfl,B.M,_,rfl,zy G6.top v3,_,rfl,B.ke,_,rfl,zy G6.kept (lH F.pnd hp),p.kind,V2,a1,p.nums,rA S p,kk p.name,rfl,ok.1,bL.of (s06 _ _ q1),ok.2.1,bL.of eV2,lw,hB,fun H7 U0 L0 rs s7 nL0 eU0 eL0 tU=>?_⟩
  rw [eo] at tU
  have s07:=s06.trans s7
  have hwl:=Hb (show p.kind<=10 by have:=ok.1;omega) p.nums (rA S p) (S.k p.name)
  have hw2:=Cj p.kind p.nums (rA S p) (S.k p.name)
  have nx:=show dG ls S p=_ by unfold dG;rw [hdd]
  generalize ew:cH p.kind p.nums (rA S p) (S.k p.name)=wo at tU hwl hw2 hdd nx
  have hlr:rs.length=wo.length:=by have:=Paired.length tU;unfold BW at this;rw [lM] at this;exact this
  have hgin:=(vV F hp hdd).gin
  refine⟨U0,_,rfl,eN.of eU0,rfl,_,_,rfl,_,_,rfl,rfl,?_⟩
  have pvAt:∀{j:Nat} {r:Addr},rs[j]?=some r->∃pv o,wo[j]?=some pv/\H7 r=some (.tup [.int pv.1,.int pv.2])/\pv.1=((o:Nat):Int)/\o <p.outs.length/\FZ (p.outs.map V.str) pv.1=some (.str (strAt p.outs pv.1.toNat)):=fun {j r} hr'=>by
   have hjl:j <wo.length:=by have:=(List.getElem?_eq_some_iff.mp hr').1;omega
   obtain⟨pv,hpv⟩:∃pv,wo[j]?=some pv:=⟨_,List.getElem?_eq_getElem hjl⟩
   obtain⟨vs2,z1,z2⟩:=rR tU hr'
   unfold BW at z1
   rw [List.getElem?_map,hpv] at z1
   cases z1
   obtain⟨o,ho1,ho2⟩:=hwl _ (List.mem_of_getElem? hpv)
   have ho3:o <p.outs.length:=by rw [ok.2.2.2.1];exact ho2
   refine⟨pv,o,hpv,z2,ho1,ho3,?_⟩
   rw [ho1,Int.toNat_natCast,zu ho3]
   exact aM (j:=o) (by rw [List.getElem?_map,List.getElem?_eq_getElem ho3];rfl)
  refine⟨_,rfl,L0,rfl,⟨_,bL.of eL0⟩,cY (K:=K) (a:=L0) (xs:=rs.map V.ref) (fun j σ H'=>H'=H7/\(∃v2 v3,σ=[some (.ref B.M),some (.ref q),some (.str (cL p.kind)),some (.str p.name),some (.ref a1),some (.ref a2),some (.ref a3),some (.ref hd),some (.ref Lp),some (.ref V2),some (.ref L0),some (.int (dR p.kind (rA S p) (kk p.name))),v2,v3])/\((wo.map fun pv=>(strAt p.outs pv.1.toNat,pv.2)).take j).find? (uJ ls S)=none) ⟨rfl,⟨_,_,rfl⟩,rfl⟩ (fun j σ H' _ h=>by rw [h.1];exact bL.of eL0) ?_ ?_⟩
  ·rintro j x σ H8 hx ⟨rfl,⟨w2,w3,rfl⟩,hf⟩
   rw [List.getElem?_map] at hx
   obtain⟨u,hu,rfl⟩:=Option.map_eq_some_iff.mp hx
   obtain⟨pv,o,hpv,hr2,ho1,ho3,hat⟩:=pvAt hu
   have hgm:(wo.map fun pv=>(strAt p.outs pv.1.toNat,pv.2))[j]?=some (strAt p.outs pv.1.toNat,pv.2):=by rw [List.getElem?_map,hpv];rfl
   have ft:=Gp hf hgm
   obtain⟨l,hl,hln⟩:=List.mem_map.mp (hgin _ (List.mem_of_getElem? hgm))
   have hln:l.name=strAt p.outs pv.1.toNat:=hln
   have G8:=G.same s07
   have fb:uJ ls S (strAt p.outs pv.1.toNat,pv.2)=decide (l.room<=((S.ev l.name).length:Int) - (S.g l.name:Int)):=by unfold uJ;rw [<-hln,JT F.whole.nod hl]
   have hgl:=hg l hl
   rw [<-hln] at hat
   refine⟨u,_,rfl,eN.of hr2,rfl,_,_,rfl,_,_,rfl,rfl,?_⟩
   refine⟨_,rfl,B.M,_,rfl,zy G8.top v1,_,rfl,_,rfl,a3,_,_,_,rfl,rfl,bL.of (s07 _ _ q3),hat,B.ho,_,rfl,zy G8.holds (lQ F.whole.nod hl),_,_,rfl,.inl ⟨_,bL.of (G8.hl l hl),rfl⟩,?_⟩
   refine⟨_,rfl,B.M,_,rfl,zy G8.top v2,_,rfl,_,rfl,a3,_,_,_,rfl,rfl,bL.of (s07 _ _ q3),hat,B.ro,_,rfl,zy G8.room (dN (by rw [mL];exact eO F.whole.nod) (List.mem_map.mpr ⟨l,hl,rfl⟩)),_,_,rfl,rfl,_,rfl,?_⟩
   have e2:decide (l.room<=((((S.ev l.name).drop (S.g l.name)).map V.int).length:Int))=uJ ls S (strAt p.outs pv.1.toNat,pv.2):=by
    rw [fb,lM,List.length_drop]
    congr 1
    rw [Int.ofNat_sub hgl]
   rw [e2]
   cases hb:uJ ls S (strAt p.outs pv.1.toNat,pv.2) with
   | true=>
    rw [if_pos hb] at ft
    refine fY (kn ?_ H8 s07)
    rw [nx]
    refine if_neg fun z=>?_
    unfold yf at z
    dsimp only at z
    rw [ft] at z
    cases z
   | false=>
    rw [if_neg (by simp [hb])] at ft
    exact dw ⟨rfl,⟨_,_,rfl⟩,ft⟩
  rintro σ H8 ⟨rfl,⟨w2,w3,rfl⟩,hf⟩
  rw [lM,hlr,show wo.length=(wo.map fun pv=>(strAt p.outs pv.1.toNat,pv.2)).length by rw [lM],List.take_length] at hf
  have nx2:dG ls S p=some _:=nx.trans (if_pos (by unfold yf;rw [hf]))
  have eLp7:=s7 _ _ (t6 _ _ eLp4)
  have q27:=s07 _ _ q2
  refine⟨_,rfl,Lp,rfl,⟨_,bL.of eLp7⟩,fu (K:=K) (a:=Lp) (xs:=(places p.kind (aV S p)).map nV) (fun j ys H'=>H'=H8/\ys=((places p.kind (aV S p)).take j).map (fun q=>V.str (strAt p.ins q))) (by rw [lM];omega) ⟨rfl,rfl⟩ (fun j ys H' ⟨_,e⟩=>by rw [e,lM,List.length_take];omega) (fun j ys H' _ ⟨e,_⟩=>by rw [e];exact bL.of eLp7) ?_ ?_⟩
  ·rintro j v ys HX hv' ⟨e',rfl⟩
   subst e'
   rw [List.getElem?_map] at hv'
   obtain⟨r,hr',rfl⟩:=Option.map_eq_some_iff.mp hv'
   have hql:r <p.ins.length:=by have:=gZ hO r (List.mem_of_getElem? hr');unfold aV at this;rwa [lM] at this
   refine yes ⟨_,rfl,_,rfl,a2,p.ins.map V.str,r,.str (strAt p.ins r),rfl,rfl,bL.of q27,by rw [zu hql];exact aM (j:=r) (by rw [List.getElem?_map,List.getElem?_eq_getElem hql];rfl),rfl,?_⟩
   rw [List.take_succ,hr',Option.toList_some,List.map_append]
   rfl
  rintro ys H9 ⟨e',rfl⟩ La nLa
  subst e'
  rw [lM,List.take_length]
  have t9:=aB (o:=.lst ((places p.kind (aV S p)).map fun q=>V.str (strAt p.ins q))) nLa
  have eLa:(upd H9 La (.lst ((places p.kind (aV S p)).map fun q=>V.str (strAt p.ins q)))) La=some (.lst ((places p.kind (aV S p)).map fun q=>V.str (strAt p.ins q))):=au
  generalize upd H9 La (.lst ((places p.kind (aV S p)).map fun q=>V.str (strAt p.ins q)))=H10 at t9 eLa ⊢
  refine⟨_,rfl,L0,rfl,⟨_,bL.of (t9 _ _ eL0)⟩,?_⟩
  refine rW (K:=K) (a:=L0) (xs:=rs.map V.ref) (fun j ys H'=>aK H10 H'/\∃qs:List Addr,ys=qs.map V.ref/\fH H' qs ((wo.take j).map fun pv=>[.str (strAt p.outs pv.1.toNat),.int pv.2])) (by rw [lM];omega) ⟨aK.refl _,[],rfl,.nil⟩ ?_ (fun j ys H' _ ⟨e,_⟩=>e.seq (bL.of (t9 _ _ eL0))) ?_ ?_
  ·rintro j ys H' ⟨_,qs,rfl,tq⟩
   have:=Paired.length tq
   rw [lM,List.length_take] at this
   rw [lM]
   omega
  ·rintro j v ys H' hj ⟨s8,qs,rfl,tq⟩
   rw [List.getElem?_map] at hj
   obtain⟨r,hr',rfl⟩:=Option.map_eq_some_iff.mp hj
   obtain⟨pv,o,hpv,hr2,ho1,ho3,hat⟩:=pvAt hr'
   have s9:=t9.trans s8
   refine⟨r,_,rfl,eN.of (s9 _ _ hr2),rfl,_,_,rfl,_,_,rfl,rfl,rfl,?_⟩
   refine yes ⟨_,rfl,_,rfl,a3,p.outs.map V.str,_,.str (strAt p.outs pv.1.toNat),rfl,rfl,bL.of (s9 _ _ (s07 _ _ q3)),hat,_,rfl,iW,fun u hu=>⟨s8.trans (aB hu),qs ++ [u],by simp,?_⟩⟩
   rw [List.take_succ,hpv,Option.toList_some,List.map_append]
   exact(fH.same (aB hu) tq).append (.cons au .nil)
  rintro ys H11 ⟨s11,qs,rfl,tq⟩ Lg nLg
  rw [lM,hlr,List.take_length] at tq
  have t11:=aB (o:=.lst (qs.map V.ref)) nLg
  refine⟨_,rfl,iW,fun U nU=>?_⟩
  have s0A:=s07.trans t9
  have s0B:=s0A.trans s11
  have tU2:=aB (o:=.tup [.ref La,.ref Lg,.int (dR p.kind (rA S p) (kk p.name))]) nU
  refine k _ nx2 _ U ((s0B.trans t11).trans tU2) ⟨La,Lg,qs,au,?_,tU2 _ _ au,?_,(fun z=>by obtain⟨o,e⟩:=hM _ z;rw [s07.free nLa] at e;cases e),(fun z=>by obtain⟨o,e⟩:=hM _ z;rw [s0B.free nLg] at e;cases e)⟩
  ·rw [List.map_map]
   exact tU2 _ _ (t11 _ _ (s11 _ _ eLa))
  ·rw [List.map_map]
   exact fH.same tU2 (fH.same t11 tq)
theorem J7 {H:Hp} {Q:VK} {Ex:XK} {b:Nat} {M:List Addr} {B:gP} {ls:List aG} {ps:List PD} {S:FS} {kk:Str->Int} {p:PD} {q:Addr} (hM:∀a∈M,∃o,H a=some o) (G:gH H B ls ps S kk) (F:Ai ls ps) (O:Kg b ls ps S) (hb:b<=90000) (hg:∀l∈ls,S.g l.name<=(S.ev l.name).length) (hp:p∈ps) (hq:wz H (.ref q) p) (kn:dG ls S p=none->∀H',aK H H'->Q .non H')
  (k:∀dd,dG ls S p=some dd->∀H' U,aK H H'->jZ M H' U ⟨dd.tk,dd.gv,dR p.kind (rA S p) (kk p.name)⟩->Q (.ref U) H'):jR K [.ref B.M,.ref q] H Q Ex:=by
 unfold jR
 exact⟨b,M,B,ls,ps,S,kk,p,q,rfl,hM,G,F,O,hb,hg,hp,hq,kn,k⟩
inductive yu (M:List Addr) (S:FS) (kk:Str->Int) (G:Hp) (u:Addr) (w:PD×ji):Prop where
 | mk:∀q U z1 z2 z3,G u=some (.tup [.ref q,.ref U])->G q=some (.tup [.str (cL w.1.kind),.str w.1.name,.ref z1,.ref z2,.ref z3])->jZ M G U ⟨w.2.tk,w.2.gv,dR w.1.kind (rA S w.1) (kk w.1.name)⟩->yu M S kk G u w
theorem yu.same {M:List Addr} {S:FS} {kk:Str->Int} {G G':Hp} {u:Addr} {w:PD×ji} (h:yu M S kk G u w) (s:aK G G'):yu M S kk G' u w:=by
 obtain⟨q,U,z1,z2,z3,a,b,c⟩:=h
 exact⟨q,U,z1,z2,z3,s _ _ a,s _ _ b,c.same s⟩
theorem gH.tup {H:Hp} {B:gP} {ls:List aG} {ps:List PD} {S:FS} {kk:Str->Int} (G:gH H B ls ps S kk) {a:Addr} {u:List V} (h:H a=some (.tup u)):a∉B.all ls ps:=fun z=>by
 rcases G.kind z with ⟨_,e⟩ | ⟨_,e⟩ <;> rw [h] at e <;> cases e
theorem yu.mov {H H':Hp} {B:gP} {ls:List aG} {ps:List PD} {S S':FS} {kk kk':Str->Int} {u:Addr} {w:PD×ji} {D:Addr} (h:yu (D:: B.cells ls ps) S kk H u w) (G:gH H B ls ps S' kk') (m:pX (B.cells ls ps) H H'):yu (D:: B.cells ls ps) S kk H' u w:=by
 have t:∀{a:Addr} {v:List V},H a=some (.tup v)->H' a=some (.tup v):=fun e=>by rw [m _ fun z=>G.tup e (gP.cell z)];exact e
 obtain⟨q,U,z1,z2,z3,a,b,La,Lg,rs,c1,c2,c3,c4,c5,c6⟩:=h
 exact⟨q,U,z1,z2,z3,t a,t b,La,Lg,rs,t c1,by rw [m _ fun z=>c5 (.tail _ z)];exact c2,by rw [m _ fun z=>c6 (.tail _ z)];exact c3,Paired.mapP c4 fun _ _ z=>t z,c5,c6⟩
theorem hMs {H:Hp} {B:gP} {ls:List aG} {ps:List PD} {S:FS} {kk:Str->Int} (G:gH H B ls ps S kk) {D:Addr} {u:HO} (eD:H D=some u):∀a∈D:: B.cells ls ps,∃o,H a=some o:=fun a ha=>by
 rcases List.mem_cons.mp ha with rfl | z
 ·exact⟨_,eD⟩
 ·exact G.has (gP.cell z)
noncomputable def Hy (B:gP) (ls:List aG) (ps:List PD) (S:FS) (kk:Str->Int) (xs:List Str) (H:Hp) (D:Addr) (j:Nat) (H':Hp):Prop:=aK H (aZ [D] H')/\∃us ws,H' D=some (.lst (us.map V.ref))/\ws=((ps.take j).filter (kI xs)).filterMap (fun p=>(dG ls S p).map fun dd=>(p,dd))/\Paired (yu (D:: B.cells ls ps) S kk (aZ [D] H')) us ws
theorem gH.lane {H:Hp} {B:gP} {ls:List aG} {ps:List PD} {S S':FS} {kk:Str->Int} (G:gH H B ls ps S kk) (nd:(ls.map (·.name)).Nodup) {l:aG} (hl:l∈ls) (h1:∀x,x≠l.name->(S'.ev x).drop (S'.g x)=(S.ev x).drop (S.g x)) (hd:S'.d=S.d) (hk:S'.k=S.k) (hr:S'.r=S.r) {vs:List V} (hv:vs=((S'.ev l.name).drop (S'.g l.name)).map V.int):gH (upd H (B.ha l.name) (.lst vs)) B ls ps S' kk:=by
 have n:=G.nod
 have im:B.ha l.name∈ls.map (fun l=>B.ha l.name):=List.mem_map.mpr ⟨l,hl,rfl⟩
 unfold gP.all gP.cells gP.tail at n
 simp only [List.nodup_cons,List.mem_cons,List.mem_append,not_or] at n
 obtain⟨nA,_,nB⟩:=List.nodup_append.mp n.2.2.2.2.2.2
 refine⟨?_,?_,?_,?_,?_,?_,fun l' hl'=>?_,fun p hp h0=>?_,G.nod,by rw [hk];exact G.kh⟩
 ·rw [aH (fun z=>n.1.2.2.2.2.2.1 (by rw [z];exact im))];exact G.top
 ·rw [aH (fun z=>n.2.1.2.2.2.2.1 (by rw [z];exact im))];exact G.holds
 ·rw [aH (fun z=>n.2.2.1.2.2.2.1 (by rw [z];exact im))];exact G.room
 ·rw [aH (fun z=>n.2.2.2.1.2.2.1 (by rw [z];exact im))];exact G.rows
 ·rw [aH (fun z=>n.2.2.2.2.1.2.1 (by rw [z];exact im))];exact G.kept
 ·rw [aH (fun z=>n.2.2.2.2.2.1.1 (by rw [z];exact im)),hd];exact G.works
 ·by_cases e:l'.name=l.name
  ·rw [e,au,hv]
  ·rw [aH (fun z=>e (by rw [xG nA hl' hl z])),h1 _ e]
   exact G.hl l' hl'
 ·rw [aH (fun z=>nB _ im _ (List.mem_map.mpr ⟨p,List.mem_filter.mpr ⟨hp,by simp [h0]⟩,rfl⟩) z.symm),hd,hr]
  exact G.rl p hp h0
theorem pX.one {M:List Addr} {H H':Hp} {a:Addr} {o:HO} (m:pX M H H') (ha:a∈M):pX M H (upd H' a o):=fun b hb=>by
 rw [aH (fun z=>hb (by rw [z];exact ha))]
 exact m b hb
theorem gP.haIn {B:gP} {ls:List aG} {ps:List PD} {l:aG} (hl:l∈ls):B.ha l.name∈B.cells ls ps:=by
 unfold gP.cells gP.tail
 exact .tail _ (.tail _ (List.mem_append.mpr (.inl (List.mem_map.mpr ⟨l,hl,rfl⟩))))
theorem gP.raIn {B:gP} {ls:List aG} {ps:List PD} {p:PD} (hp:p∈ps) (h0:p.kind=0):B.ra p.name∈B.cells ls ps:=by
 unfold gP.cells gP.tail
 exact .tail _ (.tail _ (List.mem_append.mpr (.inr (List.mem_map.mpr ⟨p,List.mem_filter.mpr ⟨hp,by simp [h0]⟩,rfl⟩))))
theorem gH.worked {H H':Hp} {B:gP} {ls:List aG} {ps:List PD} {S S':FS} {kk:Str->Int} {v:Int} (G:gH H B ls ps S kk) (nd:(ps.map (·.name)).Nodup) {p:PD} (hp:p∈ps) (he:∀x,(S'.ev x).drop (S'.g x)=(S.ev x).drop (S.g x)) (hd:S'.d=fun y=>if y=p.name then S.d y+1 else S.d y) (hr:S'.r=S.r) (hkh:∀p'∈ps,p'.kind=5->(if p'.name=p.name then v else kk p'.name)=S'.k p'.name)
  (e1:H' B.ke=some (.dK (bC (fun y=>if y=p.name then v else kk y) ps))) (e2:H' B.wo=some (.dK (bC (fun x=>(S'.d x:Int)) ps))) (e3:p.kind=0->H' (B.ra p.name)=some (.lst (((S.r p.name).drop (S.d p.name+1)).map V.int))) (m:∀b,b≠B.ke->b≠B.wo->(p.kind=0->b≠B.ra p.name)->H' b=H b):gH H' B ls ps S' (fun y=>if y=p.name then v else kk y):=by
 have n:=G.nod
 unfold gP.all gP.cells gP.tail at n
 simp only [List.nodup_cons,List.mem_cons,List.mem_append,not_or] at n
 have im:p.kind=0->B.ra p.name∈(lF ps).map (fun p=>B.ra p.name):=fun h0=>List.mem_map.mpr ⟨p,List.mem_filter.mpr ⟨hp,by simp [h0]⟩,rfl⟩
 obtain⟨_,nC,nB⟩:=List.nodup_append.mp n.2.2.2.2.2.2
 refine⟨?_,?_,?_,?_,e1,e2,fun l hl=>?_,fun p' hp' h0=>?_,G.nod,hkh⟩
 ·rw [m _ n.1.2.2.2.1 n.1.2.2.2.2.1 fun h0 z=>n.1.2.2.2.2.2.2 (by rw [z];exact im h0)];exact G.top
 ·rw [m _ n.2.1.2.2.1 n.2.1.2.2.2.1 fun h0 z=>n.2.1.2.2.2.2.2 (by rw [z];exact im h0)];exact G.holds
 ·rw [m _ n.2.2.1.2.1 n.2.2.1.2.2.1 fun h0 z=>n.2.2.1.2.2.2.2 (by rw [z];exact im h0)];exact G.room
 ·rw [m _ n.2.2.2.1.1 n.2.2.2.1.2.1 fun h0 z=>n.2.2.2.1.2.2.2 (by rw [z];exact im h0)];exact G.rows
 ·have il:B.ha l.name∈ls.map (fun l=>B.ha l.name):=List.mem_map.mpr ⟨l,hl,rfl⟩
  rw [m _ (fun z=>n.2.2.2.2.1.2.1 (by rw [<-z];exact il)) (fun z=>n.2.2.2.2.2.1.1 (by rw [<-z];exact il)) fun h0 z=>nB _ il _ (im h0) z,he]
  exact G.hl l hl
 ·have ip:B.ra p'.name∈(lF ps).map (fun p=>B.ra p.name):=List.mem_map.mpr ⟨p',List.mem_filter.mpr ⟨hp',by simp [h0]⟩,rfl⟩
  rw [hr,hd]
  by_cases e:p'.name=p.name
  ·have e':p'=p:=xG nd hp' hp e
   subst e'
   simp only [if_true]
   exact e3 h0
  ·simp only [if_neg e]
   rw [m _ (fun z=>n.2.2.2.2.1.2.2 (by rw [<-z];exact ip)) (fun z=>n.2.2.2.2.2.1.2 (by rw [<-z];exact ip)) fun h0' z=>e (by rw [xG nC (List.mem_filter.mpr ⟨hp',by simp [h0]⟩) (List.mem_filter.mpr ⟨hp,by simp [h0']⟩) z])]
   exact G.rl p' hp' h0
theorem Wy {ea:Str->Addr} {ls:List aG} (nd:(ls.map (·.name)).Nodup) {l:aG} (hl:l∈ls) {x:Str} (e:l.name=x):b8 (Je ea ls) (Sum.inr x)=some (.ref (ea l.name)):=by
 rw [<-e]
 exact lQ nd hl
theorem Kc {α β:Type} {F:α->β->Prop}:∀{xs:List α} {ys:List β} {xs':List α} {ys':List β},Paired F xs ys->Paired F xs' ys'->Paired F (xs ++ xs') (ys ++ ys')
 | _,_,_,_,.nil,h=>h
 | _,_,_,_,.cons r t,h=>.cons r (Kc t h)
theorem NZ {l m:List Int} {g:Nat} (h:g<=l.length):(l ++ m).drop g=l.drop g ++ m:=by rw [List.drop_append_of_le_length h]
theorem DR {α:Type} {f:α->List Str}:∀{l m:List α},l.Sublist m->(l.flatMap f).Sublist (m.flatMap f)
 | _,_,.slnil=>List.Sublist.refl _
 | _,_,.cons a h=>by rw [List.flatMap_cons];exact(DR h).trans (List.sublist_append_right _ _)
 | _,_,.cons₂ a h=>by rw [List.flatMap_cons,List.flatMap_cons];exact(List.Sublist.refl _).append (DR h)
theorem Tu {ls:List aG} {ps:List PD} {S:FS} {xs:List Str} (F:Ai ls ps):((jA ls ps S xs).flatMap (·.1.ins)).Nodup:=by
 have h:((jA ls ps S xs).map (·.1)).Sublist ps:=(rN (qs:=ps.filter (kI xs))).trans List.filter_sublist
 have h2:=(F.whole.ins.nodup_iff.mpr F.whole.nod).sublist (DR (f:=(·.ins)) h)
 rwa [List.flatMap_map] at h2
theorem Ut {ls:List aG} {ps:List PD} {S:FS} (F:Ai ls ps) {p:PD} (hp:p∈ps) {dd:ji} (h:j9 S p=some dd) {x:Str} (hx:x∈dd.tk):x∈p.ins/\S.g x <(S.ev x).length:=by
 obtain⟨hl,_,rfl⟩:=lJ h
 obtain⟨q,hq,rfl⟩:=List.mem_map.mp hx
 obtain⟨y,n,e1,_,e3⟩:=Mg (F.pok p hp) hl q hq
 have e:strAt p.ins q=y:=by unfold strAt;rw [e1];rfl
 rw [e]
 exact⟨List.mem_of_getElem? e1,(List.getElem?_eq_some_iff.mp e3).1⟩
theorem Rb {α:Type} {l:List α} {j:Nat} {a:α} (h:l[j]?=some a):l=l.take j ++ a:: l.drop (j+1):=by
 obtain⟨hj,e⟩:=List.getElem?_eq_some_iff.mp h
 rw [<-e,<-List.drop_eq_getElem_cons hj,List.take_append_drop]
theorem Qw {ls:List aG} {ps:List PD} {S:FS} {xs:List Str} (F:Ai ls ps) {j:Nat} {w:PD×ji} (h:(jA ls ps S xs)[j]?=some w) {x:Str} (hx:x∈w.2.tk):(cD S ((jA ls ps S xs).take j)).g x=S.g x/\S.g x <(S.ev x).length:=by
 have hw:=p8 (List.mem_of_getElem? h)
 have t1:=Ut F hw.1 (jd hw.2.2).1 hx
 refine⟨?_,t1.2⟩
 have nd:=Tu (ls:=ls) (S:=S) (xs:=xs) F
 rw [Rb h,List.flatMap_append,List.flatMap_cons,List.nodup_append] at nd
 rw [Nm,List.filter_eq_nil_iff.mpr fun w' hw'=>?_]
 ·rfl
 ·intro z
  have hx':=of_decide_eq_true z
  have hd:=p8 (List.mem_of_mem_take hw')
  have t2:=Ut F hd.1 (jd hd.2.2).1 hx'
  exact nd.2.2 x (List.mem_flatMap.mpr ⟨w',hw',t2.1⟩) x (List.mem_append.mpr (.inl t1.1)) rfl
theorem Vv {ls:List aG} {ps:List PD} {S:FS} {xs:List Str} (F:Ai ls ps) {j:Nat} {w:PD×ji} (h:(jA ls ps S xs)[j]?=some w):(cD S ((jA ls ps S xs).take j)).d w.1.name=S.d w.1.name:=by
 have hn:=jt (RC (ls:=ls) (S:=S) (xs:=xs) F.pnd) h
 rw [Ib,List.filter_eq_nil_iff.mpr fun w' hw' z=>hn (List.mem_map.mpr ⟨w',hw',of_decide_eq_true z⟩)]
 rfl
theorem Q0 {ls:List aG} {ps:List PD} {S:FS} {xs:List Str} (F:Ai ls ps) (G:∀l∈ls,S.g l.name<=(S.ev l.name).length) (l:aG) (hl:l∈ls):(j7 ls ps S xs).g l.name<=(S.ev l.name).length:=by
 have key:∀n,(cD S ((jA ls ps S xs).take n)).g l.name<=(S.ev l.name).length:=by
  intro n
  induction n with
  | zero=>exact G l hl
  | succ n ih=>
   cases h:(jA ls ps S xs)[n]? with
   | none=>rw [List.take_succ,h,Option.toList_none,List.append_nil];exact ih
   | some w=>
    rw [List.take_succ,h,Option.toList_some,rY]
    show(if l.name∈w.2.tk then _+1 else _)<=_
    split
    ·rename_i hx
     have:=Qw F h hx
     omega
    ·exact ih
 have:=key (jA ls ps S xs).length
 rwa [List.take_length] at this
theorem Sv {ls:List aG} {ps:List PD} {S:FS} {xs:List Str} (F:Ai ls ps) (G:∀l∈ls,S.g l.name<=(S.ev l.name).length):∀l∈ls,(j7 ls ps S xs).g l.name<=((j7 ls ps S xs).ev l.name).length:=fun l hl=>by
 have h:=Q0 (xs:=xs) F G l hl
 have e:((j7 ls ps S xs).ev l.name)=_:=yM l.name _ _
 rw [e,lP]
 omega
inductive xj (K:PySem.W.Frag) (vs:List V) (H:Hp) (Q:VK):Prop where
 | mk:∀(b:Nat) (B:gP) (L P:Addr) (ls:List aG) (ps:List PD) (S:FS) (kk:Str->Int) (Lh:Addr) (xs:List Str),vs=[.ref B.M,.ref P,.ref Lh]->gH H B ls ps S kk->Ai ls ps->Kg b ls ps S->b<=80000->((∀l∈ls,S.g l.name<=(S.ev l.name).length))->yC H L P ls ps->bL K H Lh (xs.map V.str)->(∀H' p kk',aK (aZ (B.cells ls ps) H) (aZ (B.cells ls ps) H')->gH H' B ls ps (j7 ls ps S xs) kk'->H' p=some (.lst ((jA ls ps S xs).map fun w=>V.str w.1.name))->Q (.ref p) H')->xj K vs H Q
@[irreducible] noncomputable def jK (K:PySem.W.Frag):Sp:=fun vs H Q _=>xj K vs H Q
noncomputable abbrev Bp:List Str:=["_law_model_here", "_law_parts", "_law_held_here", "_law_deeds", "_law_one", "_law_deed_here", "_law_lane_here", "_law_value_here"]
theorem Ht (T:Txt w K mg t):FO P w K mg base 4 t.Aw ["_law_model_here", "_law_parts", "_law_held_here"] (jK K):=by
 have sc:=T.uy.sc Bp
 refine T.uy.F.ok sc (fun vs H Q E h=>?_) (fun cdv A outer s H vs Q E hr h=>?_)
 ·unfold jK at h
  obtain⟨b,B,L,P,ls,ps,S,kk,Lh,xs,rfl,_⟩:=h
  rfl
 ·unfold jK at h
  obtain⟨b,B,L,P,ls,ps,S,kk,Lh,xs,rfl,G,F,O,hb,hg,A,hL,k⟩:=h
  refine⟨_,(az (sN sc 3 (bx ak))
   (az (dg PassesOwn.never rfl (bW (pv 1)) (gN sc 4)
    (az (sN sc 5 (d8 (yL T) T.p7 hr (aa (pv 0) (aa (pv 4) ak aj) aj)))
    (aA (fL (bR (PW.pt (zP (gj (vW (pv 5))) (yq (aW jf (aO cM (pv 4) aq (fun _ _=>rfl)) (pv 2) (by with_unfolding_all rfl)))))
     (aA (bM (Ew (pv 3) (aa (bV (aa (pv 4) (aa (pv 5) ak aj) aj)) ak bO))))
     aY)))))
   (az (dg PassesOwn.never rfl (bW (pv 3)) (jJ rfl (bD (gN sc 4) (bD (gN sc 5) fc)))
    (aA (dg PassesOwn.never rfl (bW (aO cM (pv 5) aq (fun _ _=>rfl))) (gN sc 6)
     (aA (bM (ye PySem.F.plainAttrs_list PySem.F.slot_list_pop PySem.F.type_list_pop uV (bH hr.u1 (bH hr.u1 (pv 0) bh (fun _ _=>rfl)) (pv 6) (fun _ _=>rfl)) (aa aq ak ao)))))))
   (az (dg PassesOwn.never rfl (bW (pv 3)) (jJ rfl (bD (gN sc 4) (bD (gN sc 5) fc)))
    (az (dg PassesOwn.never rfl (bW (aO cM (pv 5) aq (fun _ _=>rfl))) (jJ rfl (bD (gN sc 6) (bD (gN sc 7) fc)))
     (aA (bM (Ew (bH hr.u1 (bH hr.u1 (pv 0) bh (fun _ _=>rfl)) (pv 6) (fun _ _=>rfl)) (aa (pv 7) ak aj)))))
    (az (eX hr.u1 (bH hr.u1 (pv 0) bh (fun _ _=>rfl)) (aO cM (pv 4) aq (fun _ _=>rfl)) (aO cM (pv 5) aq (fun _ _=>rfl)) rfl)
    (az (Iu hr.u1 (bH hr.u1 (pv 0) bh (fun _ _=>rfl)) (aO cM (pv 4) aq (fun _ _=>rfl)) aq BR (fun _ _ _=>rfl))
    (aA (fL (bR (aW dW (aO cM (pv 4) aq (fun _ _=>rfl)) bh (bI _))
     (aA (bM (ye PySem.F.plainAttrs_list PySem.F.slot_list_pop PySem.F.type_list_pop uV (bH hr.u1 (bH hr.u1 (pv 0) bh (fun _ _=>rfl)) (aO cM (pv 4) aq (fun _ _=>rfl)) (fun _ _=>rfl)) (aa aq ak ao))))
     aY)))))))
   (aA (aN (uh ["_law_one", "_law_deed_here"] [] Bp (aU (top 81)) rfl (bW (pv 3)) (fun _ _ _ _ _=>vM (K:=K) (n:=2) rfl rfl (bD (iy (i:=0) (show(["_law_one", "_law_deed_here"]:List Str).Nodup by decide +kernel) rfl (Or.inl rfl) (.inr rfl)) (bD (iy (i:=1) (show(["_law_one", "_law_deed_here"]:List Str).Nodup by decide +kernel) rfl (Or.inl rfl) (.inr rfl)) fc))) (fun _ _ _ _ _=>gm) (fun _ _ _ _ _=>(aO (jQ (K:=K) rfl) (pv 0) aq (fun _ _=>rfl)))))))))),?_⟩
  have hz:sizeLine=16777216:=sizeLine_eq
  obtain⟨v1,_,v3,v4,v5⟩:=B.val
  obtain⟨_,⟨ys,eP,aP⟩⟩:=id A
  have yl:=aP.length
  have p16:=F.p16
  have hflat:(xs.map V.str).all kW=true:=by simp [kW]
  refine⟨iW,fun D nD=>?_⟩
  have s1:aK H (aZ [D] (upd H D (.lst []))):=fun b o e=>bY (by rw [aH (aD e nD)];exact e) (by simpa using aD e nD)
  have eD1:upd H D (.lst []) D=some (.lst []):=au
  generalize upd H D (.lst [])=H1 at s1 eD1 ⊢
  refine⟨_,rfl,P,rfl,⟨_,bL.of (bw _ _ (s1 _ _ eP))⟩,cY (K:=K) (a:=P) (xs:=ys) (fun j σ H'=>(∃v4 v5,σ=[some (.ref B.M),some (.ref P),some (.ref Lh),some (.ref D),v4,v5,none,none])/\Hy B ls ps S kk xs H D j H') ⟨⟨none,none,rfl⟩,s1,[],[],eD1,rfl,.nil⟩ (fun j σ H' _ h=>bL.of (bw _ _ (h.2.1 _ _ eP))) ?_ ?_⟩
  ·rintro j x σ H2 hx ⟨⟨w4,w5,rfl⟩,s2,us,ws,eD2,ews,hW⟩
   obtain⟨p,hpj,q,a1,a2,a3,rfl,q0,q1,q2,q3⟩:=aP.get hx
   have hp:=List.mem_of_getElem? hpj
   have s02:=s2.trans bw
   have G2:=G.same s02
   have lws:ws.length<=16:=by
    rw [ews]
    refine Nat.le_trans (List.length_filterMap_le _ _) (Nat.le_trans (List.length_filter_le _ _) ?_)
    rw [List.length_take]
    omega
   have lu:=Paired.length hW
   have tk:((ps.take (j+1)).filter (kI xs)).filterMap (fun p=>(dG ls S p).map fun dd=>(p,dd))=ws ++ (if kI xs p=true then [p] else []).filterMap (fun p=>(dG ls S p).map fun dd=>(p,dd)):=by
    rw [List.take_succ,hpj,Option.toList_some,List.filter_append,List.filterMap_append,<-ews,List.filter_cons]
    rfl
   have cs:∀{H':Hp},aK H2 H'->aK (aZ [D] H2) (aZ [D] H'):=fun s=>Do s fun a ha=>by rw [List.mem_singleton.mp ha];exact⟨_,eD2⟩
   refine⟨_,rfl,_,rfl,J7 (M:=D:: B.cells ls ps) (hMs G2 eD2) G2 F O (by omega) hg hp ⟨q,a1,a2,a3,rfl,s02 _ _ q0,s02 _ _ q1,s02 _ _ q2,s02 _ _ q3⟩ (fun hn H3 s3=>?_) (fun dd hd H3 U s3 DA=>?_)⟩
   ·refine⟨fun σ' H'=>(∃v4 v5,σ'=[some (.ref B.M),some (.ref P),some (.ref Lh),some (.ref D),v4,v5,none,none])/\Hy B ls ps S kk xs H D (j+1) H',⟨_,rfl,_,rfl,dw (dw ⟨⟨_,_,rfl⟩,s2.trans (cs s3),us,ws,s3 _ _ eD2,?_,Paired.mapP hW fun _ _ z=>z.same (cs s3)⟩)⟩,fun _ _ h=>h⟩
    rw [tk]
    split <;> simp [hn]
   ·refine⟨fun σ' H'=>(∃v4 v5,σ'=[some (.ref B.M),some (.ref P),some (.ref Lh),some (.ref D),v4,v5,none,none])/\Hy B ls ps S kk xs H D (j+1) H',⟨_,rfl,_,rfl,fY ⟨_,rfl,q,_,1,_,rfl,rfl,eN.of (s3 _ _ (s02 _ _ q0)),aM (j:=1) rfl,_,rfl,Lh,_,rfl,.inl ((s02.trans s3).seq hL),rfl,hflat,_,rfl,?_⟩⟩,fun _ _ h=>h⟩
    rw [MF]
    refine jB (fun e=>?_) (fun e=>?_)
    ·have e':kI xs p=true:=e
     have eD3:=s3 _ _ eD2
     refine⟨_,rfl,.inl ⟨rfl,_,bL.of eD3⟩,_,rfl,_,rfl,iW,fun u nu=>⟨D,_,.ref u,rfl,rfl,aB nu _ _ eD3,by rw [lM];omega,⟨_,_,rfl⟩,?_⟩⟩
     have c4:aK (aZ [D] H2) (aZ [D] (upd (upd H3 u (.tup [.ref q,.ref U])) D (.lst (us.map V.ref ++ [.ref u])))):=by
      rw [dB (by simp)]
      exact(cs s3).trans (M7 nu)
     refine⟨s2.trans c4,us ++ [u],ws ++ [(p,dd)],by rw [au];simp,by rw [tk,if_pos e'];simp [hd],?_⟩
     have nu2:u∉[D]:=by simp;intro z;rw [z,eD3] at nu;cases nu
     have c5:aK H3 (upd H3 u (.tup [.ref q,.ref U])):=aB nu
     have nDt:∀{a:Addr} {v:List V},H3 a=some (.tup v)->a∉[D]:=fun e z=>by rw [List.mem_singleton.mp z,eD3] at e;cases e
     refine Kc (Paired.mapP hW fun _ _ z=>z.same c4) (.cons ⟨q,U,a1,a2,a3,?_,?_,?_⟩ .nil)
     ·rw [dB (by simp)];exact bY au nu2
     ·rw [dB (by simp)];exact bY (c5 _ _ (s3 _ _ (s02 _ _ q0))) (nDt (s3 _ _ (s02 _ _ q0)))
     ·rw [dB (by simp)]
      obtain⟨La,Lg,rs,d1,d2,d3,d4,d5,d6⟩:=DA
      have n1:∀{a:Addr},a∉D:: B.cells ls ps->a∉[D]:=fun h z=>h (by rw [List.mem_singleton.mp z];exact List.mem_cons_self)
      exact⟨La,Lg,rs,bY (c5 _ _ d1) (nDt d1),bY (c5 _ _ d2) (n1 d5),bY (c5 _ _ d3) (n1 d6),Paired.mapP d4 fun _ _ z=>bY (c5 _ _ z) (nDt z),d5,d6⟩
    ·have e':¬kI xs p=true:=e
     exact⟨⟨_,_,rfl⟩,s2.trans (cs s3),us,ws,s3 _ _ eD2,by rw [tk,if_neg e'];simp,Paired.mapP hW fun _ _ z=>z.same (cs s3)⟩
  rintro σ H2 ⟨⟨w4,w5,rfl⟩,s2,us,ws,eD2,ews,hW⟩
  rw [yl,List.take_length] at ews
  have ews:ws=jA ls ps S xs:=ews
  have s02:=s2.trans bw
  have G2:=G.same s02
  replace hW:Paired (yu (D:: B.cells ls ps) S kk H2) us ws:=Paired.mapP hW fun _ _ z=>z.same bw
  have nDc:D∉B.cells ls ps:=fun z=>G.out nD (gP.cell z)
  have lu:us.length=ws.length:=Paired.length hW
  have lw:ws.length<=16:=by have:=Nr (ls:=ls) (ps:=ps) (S:=S) (xs:=xs);rw [ews];omega
  have hok:∀w∈ws,w.1∈ps/\j9 S w.1=some w.2/\Cg ls w.2:=fun w hw=>by
   rw [ews] at hw
   have h:=p8 hw
   exact⟨h.1,(jd h.2.2).1,vV F h.1 (jd h.2.2).1⟩
  have seqI:∀n:Nat,0 <n->seqIndex? 0 n=some 0:=fun n h=>Hz (j:=0) h
  refine⟨_,rfl,D,rfl,⟨_,bL.of eD2⟩,cY (K:=K) (a:=D) (xs:=us.map V.ref) (fun j σ H'=>(∃v4 v5 v6,σ=[some (.ref B.M),some (.ref P),some (.ref Lh),some (.ref D),v4,v5,v6,none])/\pX (B.cells ls ps) H2 H'/\gH H' B ls ps ⟨S.ev,(cD S (ws.take j)).g,S.k,S.d,S.r⟩ kk) ⟨⟨_,_,_,rfl⟩,fun _ _=>rfl,G2⟩ (fun j σ H' _ h=>bL.of (by rw [h.2.1 D nDc];exact eD2)) ?_ ?_⟩
  ·rintro j x σ H3 hx ⟨⟨x4,x5,x6,rfl⟩,m3,G3⟩
   rw [List.getElem?_map] at hx
   obtain⟨u,hu,rfl⟩:=Option.map_eq_some_iff.mp hx
   obtain⟨w,hwj,hT⟩:=rM hW hu
   obtain⟨q,U,z1,z2,z3,b1,b2,La,Lg,rs,c1,c2,c3,c4,c5,c6⟩:=hT.mov G2 m3
   have hwd:(jA ls ps S xs)[j]?=some w:=by rw [<-ews];exact hwj
   obtain⟨hwp,hwd',dok⟩:=hok w (List.mem_of_getElem? hwj)
   have e1:cD S (ws.take (j+1))=tY (cD S (ws.take j)) w.1.name w.2:=by rw [List.take_succ,hwj,Option.toList_some,rY]
   refine⟨u,_,rfl,eN.of b1,rfl,_,_,rfl,_,_,rfl,rfl,?_⟩
   refine⟨_,rfl,U,_,0,_,rfl,rfl,eN.of c1,aM (j:=0) rfl,La,rfl,⟨_,bL.of c2⟩,cY (K:=K) (a:=La) (xs:=w.2.tk.map V.str) (fun i σ H'=>(∃v6,σ=[some (.ref B.M),some (.ref P),some (.ref Lh),some (.ref D),some (.ref q),some (.ref U),v6,none])/\pX (B.cells ls ps) H3 H'/\gH H' B ls ps ⟨S.ev,fun y=>if y∈w.2.tk.take i then(cD S (ws.take j)).g y+1 else(cD S (ws.take j)).g y,S.k,S.d,S.r⟩ kk) ⟨⟨_,rfl⟩,fun _ _=>rfl,by simpa using G3⟩ (fun i σ H' _ h=>bL.of (by rw [h.2.1 La fun z=>c5 (.tail _ z)];exact c2)) ?_ ?_⟩
   ·rintro i y σ H4 hy ⟨⟨y6,rfl⟩,m4,G4⟩
    rw [List.getElem?_map] at hy
    obtain⟨y,hyi,rfl⟩:=Option.map_eq_some_iff.mp hy
    have hym:=List.mem_of_getElem? hyi
    obtain⟨l,hl,rfl⟩:=List.mem_map.mp (dok.tin y hym)
    have nin:l.name∉w.2.tk.take i:=by
     have:=jt (f:=id) (xs:=w.2.tk) (by rw [List.map_id];exact dok.ntk) hyi
     rwa [List.map_id] at this
    have gt:=Qw F hwd hym
    rw [<-ews] at gt
    have ehl:=G4.hl l hl
    simp only [if_neg nin,gt.1] at ehl
    rw [List.drop_eq_getElem_cons gt.2] at ehl
    refine⟨_,rfl,B.M,_,rfl,zy G4.top v1,_,rfl,B.ho,_,rfl,zy G4.holds (lQ F.whole.nod hl),.inl ⟨rfl,_,bL.of ehl⟩,B.ha l.name,_,0,0,_,rfl,rfl,ehl,by decide,by decide,seqI _ (Nat.succ_pos _),rfl,?_⟩
    refine⟨⟨_,rfl⟩,m4.one (gP.haIn hl),G4.lane (S':=⟨S.ev,fun y=>if y∈w.2.tk.take (i+1) then(cD S (ws.take j)).g y+1 else(cD S (ws.take j)).g y,S.k,S.d,S.r⟩) F.whole.nod hl (fun x hne=>?_) rfl rfl rfl ?_⟩
    ·have:(x∈w.2.tk.take (i+1))↔x∈w.2.tk.take i:=by
      rw [List.take_succ,hyi,Option.toList_some,List.mem_append,List.mem_singleton]
      exact⟨fun h=>h.resolve_right hne,.inl⟩
     simp only [this]
    ·have:l.name∈w.2.tk.take (i+1):=by rw [List.take_succ,hyi];simp
     simp only [if_pos this,gt.1]
     rfl
   rintro σ H4 ⟨⟨y6,rfl⟩,m4,G4⟩
   rw [lM,List.take_length] at G4
   refine⟨⟨_,_,_,rfl⟩,fun b hb=>by rw [m4 b hb,m3 b hb],?_⟩
   rw [e1]
   exact G4
  rintro σ H3 ⟨⟨x4,x5,x6,rfl⟩,m3,G3⟩
  rw [lM,lu,List.take_length] at G3
  have gF:∀l∈ls,(cD S ws).g l.name<=(S.ev l.name).length:=fun l hl=>by rw [ews];exact Q0 F hg l hl
  have evl:∀(x:Str) (vs:List (PD×ji)),(S.ev x).length<=((cD S vs).ev x).length:=fun x vs=>by rw [yM,lP];omega
  refine⟨_,rfl,D,rfl,⟨_,bL.of (by rw [m3 D nDc];exact eD2)⟩,cY (K:=K) (a:=D) (xs:=us.map V.ref) (fun j σ H'=>(∃v4 v5 v6 v7,σ=[some (.ref B.M),some (.ref P),some (.ref Lh),some (.ref D),v4,v5,v6,v7])/\pX (B.cells ls ps) H2 H'/\∃kj,gH H' B ls ps ⟨(cD S (ws.take j)).ev,(cD S ws).g,(cD S (ws.take j)).k,(cD S (ws.take j)).d,S.r⟩ kj) ⟨⟨_,_,_,_,rfl⟩,m3,kk,G3⟩ (fun j σ H' _ h=>bL.of (by rw [h.2.1 D nDc];exact eD2)) ?_ ?_⟩
  ·rintro j x σ H4 hx ⟨⟨x4,x5,x6,x7,rfl⟩,m4,kj,G4⟩
   rw [List.getElem?_map] at hx
   obtain⟨u,hu,rfl⟩:=Option.map_eq_some_iff.mp hx
   obtain⟨w,hwj,hT⟩:=rM hW hu
   obtain⟨q,U,z1,z2,z3,b1,b2,La,Lg,rs,c1,c2,c3,c4,c5,c6⟩:=hT.mov G2 m4
   have hwd:(jA ls ps S xs)[j]?=some w:=by rw [<-ews];exact hwj
   obtain⟨hwp,hwd',dok⟩:=hok w (List.mem_of_getElem? hwj)
   have e1:cD S (ws.take (j+1))=tY (cD S (ws.take j)) w.1.name w.2:=by rw [List.take_succ,hwj,Option.toList_some,rY]
   have hlr:rs.length=w.2.gv.length:=by have:=Paired.length c4;rw [lM] at this;exact this
   generalize eT:cD S (ws.take j)=Tj at G4 e1
   have evT:∀x,(S.ev x).length<=(Tj.ev x).length:=fun x=>by rw [<-eT];exact evl x _
   have lT:∀l∈ls,(Tj.ev l.name).length<=b+32:=fun l hl=>by
    have:=vI (O.len l hl) (ws:=ws.take j) fun w' hw'=>(hok w' (List.mem_of_mem_take hw')).2.2.g2
    rw [eT,List.length_take] at this
    omega
   refine⟨u,_,rfl,eN.of b1,rfl,_,_,rfl,_,_,rfl,rfl,?_⟩
   refine⟨_,rfl,U,_,1,_,rfl,rfl,eN.of c1,aM (j:=1) rfl,Lg,rfl,⟨_,bL.of c3⟩,cY (K:=K) (a:=Lg) (xs:=rs.map V.ref) (fun i σ H'=>(∃v6 v7,σ=[some (.ref B.M),some (.ref P),some (.ref Lh),some (.ref D),some (.ref q),some (.ref U),v6,v7])/\pX (B.cells ls ps) H4 H'/\gH H' B ls ps ⟨fun y=>Tj.ev y ++ ((w.2.gv.take i).filter fun q=>decide (q.1=y)).map (·.2),(cD S ws).g,Tj.k,Tj.d,S.r⟩ kj) ⟨⟨_,_,rfl⟩,fun _ _=>rfl,by simpa using G4⟩ (fun i σ H' _ h=>bL.of (by rw [h.2.1 Lg fun z=>c6 (.tail _ z)];exact c3)) ?_ ?_⟩
   ·rintro i y σ H5 hy ⟨⟨y6,y7,rfl⟩,m5,G5⟩
    rw [List.getElem?_map] at hy
    obtain⟨r,hr',rfl⟩:=Option.map_eq_some_iff.mp hy
    obtain⟨vs2,zz1,zz2⟩:=rR c4 hr'
    rw [List.getElem?_map] at zz1
    obtain⟨g,eg,rfl⟩:=Option.map_eq_some_iff.mp zz1
    obtain⟨l,hl,hln⟩:=List.mem_map.mp (dok.gin g (List.mem_of_getElem? eg))
    have er:H5 r=some (.tup [.str g.1,.int g.2]):=by rw [m5 r fun z=>G4.tup zz2 (gP.cell z)];exact zz2
    have ehl:=G5.hl l hl
    have hev:=Wy (ea:=B.ha) F.whole.nod hl hln
    have ll:=lT l hl
    have l2:=dok.g2
    have lf:=List.length_filter_le (fun q:Str×Int=>decide (q.1=l.name)) (w.2.gv.take i)
    rw [List.length_take] at lf
    refine⟨r,_,rfl,eN.of er,rfl,_,_,rfl,_,_,rfl,rfl,?_⟩
    refine⟨_,rfl,B.M,_,rfl,zy G5.top v1,_,rfl,B.ho,_,rfl,zy G5.holds hev,.inl ⟨rfl,_,bL.of ehl⟩,_,rfl,B.ha l.name,_,.int g.2,rfl,rfl,ehl,by rw [lM,List.length_drop,lP,lM];omega,?_⟩
    refine⟨⟨_,_,rfl⟩,m5.one (gP.haIn hl),G5.lane (S':=⟨fun y=>Tj.ev y ++ ((w.2.gv.take (i+1)).filter fun q=>decide (q.1=y)).map (·.2),(cD S ws).g,Tj.k,Tj.d,S.r⟩) F.whole.nod hl (fun x hne=>?_) rfl rfl rfl ?_⟩
    ·have:((w.2.gv.take (i+1)).filter fun q=>decide (q.1=x))=(w.2.gv.take i).filter fun q=>decide (q.1=x):=by
      rw [List.take_succ,eg,Option.toList_some,List.filter_append]
      simp [hln ▸ (Ne.symm hne)]
     simp only [this]
    ·have:((w.2.gv.take (i+1)).filter fun q=>decide (q.1=l.name)).map (·.2)=((w.2.gv.take i).filter fun q=>decide (q.1=l.name)).map (·.2) ++ [g.2]:=by
      rw [List.take_succ,eg,Option.toList_some,List.filter_append,List.map_append]
      simp [hln]
     simp only [this]
     rw [<-List.append_assoc,NZ (m:=[g.2]) (by rw [lP];have:=gF l hl;have:=evT l.name;omega),List.map_append]
     rfl
   rintro σ H5 ⟨⟨y6,y7,rfl⟩,m5,G5⟩
   rw [lM,hlr,List.take_length] at G5
   have tupS:∀{a:Addr} {v:List V},H4 a=some (.tup v)->H5 a=some (.tup v):=fun e=>by rw [m5 _ fun z=>G4.tup e (gP.cell z)];exact e
   have bq:=tupS b2
   have cU:=tupS c1
   have n:=G5.nod
   unfold gP.all gP.cells gP.tail at n
   simp only [List.nodup_cons,List.mem_cons,List.mem_append,not_or] at n
   have hpn:w.1.name∈ps.map (·.name):=List.mem_map.mpr ⟨w.1,hwp,rfl⟩
   have kl:∀k1:Str->Int,(bC k1 ps).length <sizeLine:=fun k1=>by unfold bC;rw [lM];omega
   refine⟨_,rfl,U,_,2,_,rfl,rfl,eN.of cU,aM (j:=2) rfl,_,rfl,B.M,_,rfl,zy G5.top v3,_,rfl,q,_,1,_,rfl,rfl,eN.of bq,aM (j:=1) rfl,B.ke,_,rfl,km.k (k:=Sum.inr w.1.name) G5.kept (kl _),?_⟩
   rw [vL kj hpn]
   have m6:pX [B.ke] H5 (upd H5 B.ke (.dK (bC (fun y=>if y=w.1.name then dR w.1.kind (rA S w.1) (kk w.1.name) else kj y) ps))):=fun b hb=>aH (by simpa using hb)
   have e6:upd H5 B.ke (.dK (bC (fun y=>if y=w.1.name then dR w.1.kind (rA S w.1) (kk w.1.name) else kj y) ps)) B.ke=some (.dK (bC (fun y=>if y=w.1.name then dR w.1.kind (rA S w.1) (kk w.1.name) else kj y) ps)):=au
   generalize upd H5 B.ke (.dK (bC (fun y=>if y=w.1.name then dR w.1.kind (rA S w.1) (kk w.1.name) else kj y) ps))=H6 at m6 e6 ⊢
   have tup6:∀{a:Addr} {v:List V},H5 a=some (.tup v)->H6 a=some (.tup v):=fun e=>by rw [m6 _ fun z=>G5.tup e (by rw [List.mem_singleton.mp z];exact gP.cell List.mem_cons_self)];exact e
   have wo6:H6 B.wo=some (.dK (bC (fun x=>(Tj.d x:Int)) ps)):=by rw [m6 _ (by simpa using Ne.symm n.2.2.2.2.1.1)];exact G5.works
   have top6:H6 B.M=some (.dK B.topK):=by rw [m6 _ (by simpa using n.1.2.2.2.1)];exact G5.top
   refine⟨_,rfl,B.M,_,rfl,zy top6 v4,_,rfl,q,_,1,_,rfl,rfl,eN.of (tup6 bq),aM (j:=1) rfl,B.wo,_,rfl,zy wo6 (lH F.pnd hwp),_,_,rfl,rfl,_,km.k (k:=Sum.inr w.1.name) wo6 (kl _),?_⟩
   rw [vL (fun x=>(Tj.d x:Int)) hpn]
   have eD7:(fun y=>if y=w.1.name then((Tj.d w.1.name:Int)+1) else(Tj.d y:Int))=fun x=>(((tY Tj w.1.name w.2).d x:Nat):Int):=by
    funext y
    unfold tY
    by_cases h:y=w.1.name
    ·subst h;simp
    ·simp [h]
   rw [eD7]
   have m7:pX [B.wo] H6 (upd H6 B.wo (.dK (bC (fun x=>(((tY Tj w.1.name w.2).d x:Nat):Int)) ps))):=fun b hb=>aH (by simpa using hb)
   have e7:upd H6 B.wo (.dK (bC (fun x=>(((tY Tj w.1.name w.2).d x:Nat):Int)) ps)) B.wo=some (.dK (bC (fun x=>(((tY Tj w.1.name w.2).d x:Nat):Int)) ps)):=au
   generalize upd H6 B.wo (.dK (bC (fun x=>(((tY Tj w.1.name w.2).d x:Nat):Int)) ps))=H7 at m7 e7 ⊢
   have mv7:∀b,b≠B.ke->b≠B.wo->H7 b=H5 b:=fun b h1 h2=>by rw [m7 b (by simpa using h2),m6 b (by simpa using h1)]
   have ke7:H7 B.ke=some (.dK (bC (fun y=>if y=w.1.name then dR w.1.kind (rA S w.1) (kk w.1.name) else kj y) ps)):=by rw [m7 _ (by simpa using n.2.2.2.2.1.1)];exact e6
   have q7:H7 q=some (.tup [.str (cL w.1.kind),.str w.1.name,.ref z1,.ref z2,.ref z3]):=by rw [m7 _ fun z=>G5.tup bq (by rw [List.mem_singleton.mp z];exact gP.cell (.tail _ List.mem_cons_self))];exact tup6 bq
   have dT:=Vv F hwd
   rw [<-ews,eT] at dT
   have kind7:=Mf w.1.kind (F.pok _ hwp).1
   have kh7:∀p'∈ps,p'.kind=5->(if p'.name=w.1.name then dR w.1.kind (rA S w.1) (kk w.1.name) else kj p'.name)=(tY Tj w.1.name w.2).k p'.name:=fun p' hp' h5=>by
    show _=if p'.name=w.1.name then w.2.kv else Tj.k p'.name
    by_cases e:p'.name=w.1.name
    ·have e':p'=w.1:=xG F.pnd hp' hwp e
     rw [if_pos e,if_pos e,(lJ hwd').2.2,<-e',G.kh p' hp' h5]
    ·rw [if_neg e,if_neg e]
     exact G5.kh p' hp' h5
   have top7:H7 B.M=some (.dK B.topK):=by rw [mv7 _ n.1.2.2.2.1 n.1.2.2.2.2.1];exact G5.top
   have rw7:H7 B.rw=some (.dK (Ux B.ra ps)):=by rw [mv7 _ n.2.2.2.1.1 n.2.2.2.1.2.1];exact G5.rows
   have m27:pX (B.cells ls ps) H2 H7:=fun b hb=>by
    rw [mv7 b (fun z=>hb (by rw [z];exact List.mem_cons_self)) (fun z=>hb (by rw [z];exact .tail _ List.mem_cons_self)),m5 b hb,m4 b hb]
   refine⟨fun σ' H'=>(∃v4 v5 v6 v7,σ'=[some (.ref B.M),some (.ref P),some (.ref Lh),some (.ref D),v4,v5,v6,v7])/\pX (B.cells ls ps) H2 H'/\∃kj,gH H' B ls ps ⟨(cD S (ws.take (j+1))).ev,(cD S ws).g,(cD S (ws.take (j+1))).k,(cD S (ws.take (j+1))).d,S.r⟩ kj,⟨_,rfl,q,_,0,_,rfl,rfl,eN.of q7,aM (j:=0) rfl,rfl,_,rfl,?_⟩,fun _ _ h=>h⟩
   rw [kind7,e1]
   by_cases h0:w.1.kind=0
   ·rw [decide_eq_true h0]
    have ip:B.ra w.1.name∈(lF ps).map (fun p=>B.ra p.name):=List.mem_map.mpr ⟨w.1,List.mem_filter.mpr ⟨hwp,by simp [h0]⟩,rfl⟩
    have hdl:=O.dl w.1 hwp h0
    have hend:S.d w.1.name <(S.r w.1.name).length:=by
     have:=(lJ hwd').2.1
     unfold xJ at this
     simp [h0] at this
     omega
    have er7:H7 (B.ra w.1.name)=some (.lst (((S.r w.1.name).drop (S.d w.1.name)).map V.int)):=by
     rw [mv7 _ (fun z=>n.2.2.2.2.1.2.2 (by rw [<-z];exact ip)) (fun z=>n.2.2.2.2.2.1.2 (by rw [<-z];exact ip)),<-dT]
     exact G5.rl w.1 hwp h0
    rw [List.drop_eq_getElem_cons hend] at er7
    refine fY ⟨_,rfl,B.M,_,rfl,zy top7 v5,_,rfl,q,_,1,_,rfl,rfl,eN.of q7,aM (j:=1) rfl,B.rw,_,rfl,zy rw7 (M8 F.pnd hwp),.inl ⟨rfl,_,bL.of er7⟩,B.ra w.1.name,_,0,0,_,rfl,rfl,er7,by decide,by decide,seqI _ (Nat.succ_pos _),rfl,?_⟩
    have nr1:B.ke≠B.ra w.1.name:=fun z=>n.2.2.2.2.1.2.2 (by rw [z];exact ip)
    have nr2:B.wo≠B.ra w.1.name:=fun z=>n.2.2.2.2.2.1.2 (by rw [z];exact ip)
    refine⟨⟨_,_,_,_,rfl⟩,m27.one (gP.raIn hwp h0),_,G5.worked (S':=⟨(tY Tj w.1.name w.2).ev,(cD S ws).g,(tY Tj w.1.name w.2).k,(tY Tj w.1.name w.2).d,S.r⟩) F.pnd hwp (fun _=>rfl) rfl rfl kh7 (by rw [aH nr1];exact ke7) (by rw [aH nr2];exact e7) (fun _=>?_) fun b h1 h2 h3=>by rw [aH (h3 h0),mv7 b h1 h2]⟩
    rw [au]
    show some (HO.lst (((S.r w.1.name).drop (S.d w.1.name+1)).map V.int))=some (.lst (((S.r w.1.name).drop (Tj.d w.1.name+1)).map V.int))
    rw [dT]
   ·rw [decide_eq_false h0]
    exact dw ⟨⟨_,_,_,_,rfl⟩,m27,_,G5.worked (S':=⟨(tY Tj w.1.name w.2).ev,(cD S ws).g,(tY Tj w.1.name w.2).k,(tY Tj w.1.name w.2).d,S.r⟩) F.pnd hwp (fun _=>rfl) rfl rfl kh7 ke7 e7 (fun h=>absurd h h0) fun b h1 h2 _=>mv7 b h1 h2⟩
  rintro σ H4 ⟨⟨x4,x5,x6,x7,rfl⟩,m4,kj,G4⟩
  rw [lM,lu,List.take_length] at G4
  have eD4:H4 D=some (.lst (us.map V.ref)):=by rw [m4 D nDc];exact eD2
  have eS:(⟨(cD S ws).ev,(cD S ws).g,(cD S ws).k,(cD S ws).d,S.r⟩:FS)=j7 ls ps S xs:=by
   unfold j7
   rw [<-ews,<-yg ws S]
  rw [eS] at G4
  refine⟨_,rfl,D,rfl,⟨_,bL.of eD4⟩,?_⟩
  refine rW (K:=K) (a:=D) (xs:=us.map V.ref) (fun j ys H'=>H'=H4/\ys=(ws.take j).map fun w=>V.str w.1.name) (by rw [lM];omega) ⟨rfl,rfl⟩ ?_ (fun j ys H' _ ⟨e,_⟩=>by rw [e];exact bL.of eD4) ?_ ?_
  ·rintro j ys H' ⟨_,rfl⟩
   rw [lM,List.length_take]
   omega
  ·rintro j v ys H' hj ⟨rfl,rfl⟩
   rw [List.getElem?_map] at hj
   obtain⟨u,hu,rfl⟩:=Option.map_eq_some_iff.mp hj
   obtain⟨w,hwj,hT⟩:=rM hW hu
   obtain⟨q,U,z1,z2,z3,b1,b2,_⟩:=hT.mov G2 m4
   refine⟨u,_,rfl,eN.of b1,rfl,_,_,rfl,_,_,rfl,rfl,rfl,?_⟩
   refine yes ⟨_,rfl,q,_,1,_,rfl,rfl,eN.of b2,aM (j:=1) rfl,rfl,?_⟩
   rw [List.take_succ,hwj,Option.toList_some,List.map_append]
   rfl
  rintro ys H' ⟨rfl,rfl⟩ p np
  rw [lM,lu,List.take_length]
  have t5:=aB (o:=.lst (ws.map fun w=>V.str w.1.name)) np
  refine k _ p kj (fun b o e=>?_) (G4.same t5) (by rw [au,ews])
  have hb:b∉B.cells ls ps:=fun z=>by unfold aZ at e;rw [if_pos z] at e;cases e
  exact bY (t5 _ _ (by rw [m4 b hb];exact s02 _ _ (bw _ _ e))) hb
inductive xZ (K:PySem.W.Frag) (vs:List V) (H:Hp) (Q:VK) (E:XK):Prop where
 | mk:∀(a D:Addr) (ns:List Int) (ds:List Str) (c:Int) (n:Nat),vs=[.ref a,.ref D,.int c,.int (n:Nat)]->bL K H a (ns.map V.int)->bL K H D (ds.map V.str)->ds.length<=16->1<=n->(∀(H':Hp) (p:Addr) (xs:List Str),aK H H'->H p=none->H' p=some (.lst (xs.map V.str))->(∀x∈xs,x∈ds)->Q (.ref p) H')->xZ K vs H Q E
noncomputable abbrev mF:List Str:=["_law_script", "_law_doors_here", "_law_cell_here", "_law_seldom"]
theorem IK (T:Txt w K mg t):FO P w K mg base 2 t.Ad mF (xZ K):=by
 have sc:fD mF mF (aU (top 82)):=Ga
 refine T.Av.F.ok sc ln (fun _ _ _ _ H vs Q E hr h=>?_)
 obtain⟨a,D,ns,ds,c,n,rfl,hS,hD,hd,hn,k⟩:=h
 refine⟨_,(az (bR (aW dW (bc b7 (bc J8 (d8 (iY T) T.gq hr (aa (pv 0) (aa aq ak ao) aj)) aq) aq) aq (bI _))
   (aA (aN (uh ["_law_k", "_law_name"] [2] mF (aU (top 82)) rfl (Jd rfl T.uq (aa (pv 1) ak aj)) (fun _ _ _ _ _=>vM (K:=K) (n:=2) rfl rfl (bD (iy (i:=0) (show(["_law_k", "_law_name", "_law_cell_here"]:List Str).Nodup by decide +kernel) rfl (Or.inl rfl) (.inr rfl)) (bD (iy (i:=1) (show(["_law_k", "_law_name", "_law_cell_here"]:List Str).Nodup by decide +kernel) rfl (Or.inl rfl) (.inr rfl)) fc))) (fun _ _ _ _ _=>(sE (aW dW (bc V7 (bc RV (pv 2) (bc jY aq (pv 0))) aq) aq (bI _)))) (fun _ _ _ _ _=>(pv 1)))))
   aY)
  (aA (aN (uh ["_law_k", "_law_name"] [2,3] mF (aU (top 82)) rfl (Jd rfl T.uq (aa (pv 1) ak aj)) (fun _ _ _ _ _=>vM (K:=K) (n:=2) rfl rfl (bD (iy (i:=0) (show(["_law_k", "_law_name", "_law_cell_here", "_law_seldom"]:List Str).Nodup by decide +kernel) rfl (Or.inl rfl) (.inr rfl)) (bD (iy (i:=1) (show(["_law_k", "_law_name", "_law_cell_here", "_law_seldom"]:List Str).Nodup by decide +kernel) rfl (Or.inl rfl) (.inr rfl)) fc))) (fun _ _ _ _ _=>(sE (aW dW (bc b7 (d8 (bA T) T.bF hr (aa (pv 2) (aa (pv 0) ak aj) aj)) (pv 3)) aq (bI _)))) (fun _ _ _ _ _=>(pv 1)))))),?_⟩
 have hz:sizeLine=16777216:=sizeLine_eq
 refine⟨_,rfl,a,ns,2,rfl,hS,_,_,rfl,rfl,UT (by decide) (by decide),_,_,rfl,rfl,by show(0:Int) <2;decide,rfl,_,rfl,jB (fun _=>?_) (fun _=>?_)⟩
 ·refine⟨_,rfl,D,rfl,⟨_,hD⟩,CQ (K:=K) (a:=D) (xs:=ds.map V.str) (fun i ys H'=>aK H H'/\ys.length<=i/\∃xs:List Str,ys=xs.map V.str/\∀x∈xs,x∈ds) (by rw [lM];omega) ⟨aK.refl _,Nat.le_refl _,[],rfl,by simp⟩ (fun i ys H' h=>h.2.1) (fun i ys H' _ h=>h.1.seq hD) ?_ ?_⟩
  ·rintro i x ys H' p hx ⟨s1,ly,xs,rfl,hx2⟩ np
   rw [List.getElem?_map] at hx
   obtain⟨y,hy,rfl⟩:=Option.map_eq_some_iff.mp hx
   have t1:=aB (o:=.tup [.int (i:Nat),.str y]) np
   refine⟨p,_,rfl,eN.of au,rfl,_,_,rfl,_,_,rfl,rfl,rfl,?_⟩
   refine⟨_,rfl,_,rfl,_,_,rfl,rfl,jD,_,_,rfl,rfl,by show(0:Int)<=2 * (i:Int);omega,_,_,rfl,rfl,rfl,_,rfl,jB (fun _=>⟨_,rfl,s1.trans t1,by rw [lP];simp;simpa using ly,xs ++ [y],by simp,fun x hx=>?_⟩) (fun _=>⟨s1.trans t1,Nat.le_succ_of_le ly,xs,rfl,hx2⟩)⟩
   rcases List.mem_append.mp hx with h | h
   ·exact hx2 x h
   ·rw [List.mem_singleton] at h
    rw [h]
    exact List.mem_of_getElem? hy
  rintro ys H' ⟨s1,_,xs,rfl,hx⟩ p np
  exact k _ p xs (s1.trans (aB np)) (s1.free np) au hx
 ·refine⟨_,rfl,D,rfl,⟨_,hD⟩,CQ (K:=K) (a:=D) (xs:=ds.map V.str) (fun i ys H'=>aK H H'/\ys.length<=i/\∃xs:List Str,ys=xs.map V.str/\∀x∈xs,x∈ds) (by rw [lM];omega) ⟨aK.refl _,Nat.le_refl _,[],rfl,by simp⟩ (fun i ys H' h=>h.2.1) (fun i ys H' _ h=>h.1.seq hD) ?_ ?_⟩
  ·rintro i x ys H' p hx ⟨s1,ly,xs,rfl,hx2⟩ np
   rw [List.getElem?_map] at hx
   obtain⟨y,hy,rfl⟩:=Option.map_eq_some_iff.mp hx
   have t1:=aB (o:=.tup [.int (i:Nat),.str y]) np
   refine⟨p,_,rfl,eN.of au,rfl,_,_,rfl,_,_,rfl,rfl,rfl,?_⟩
   refine⟨_,rfl,_,rfl,_,_,rfl,_,rfl,_,_,rfl,rfl,by show(0:Int) <(n:Int);omega,rfl,_,rfl,jB (fun _=>⟨_,rfl,s1.trans t1,by rw [lP];simp;simpa using ly,xs ++ [y],by simp,fun x hx=>?_⟩) (fun _=>⟨s1.trans t1,Nat.le_succ_of_le ly,xs,rfl,hx2⟩)⟩
   rcases List.mem_append.mp hx with h | h
   ·exact hx2 x h
   ·rw [List.mem_singleton] at h
    rw [h]
    exact List.mem_of_getElem? hy
  rintro ys H' ⟨s1,_,xs,rfl,hx⟩ p np
  exact k _ p xs (s1.trans (aB np)) (s1.free np) au hx
inductive uT (K:PySem.W.Frag) (t:jH) (vs:List V) (H:Hp) (Q:VK) (E:XK):Prop where
 | mk:∀(r:Addr) (n:Nat) (A:oO) (B:gP) (ls:List aG) (ps:List PD) (S:FS) (kk:Str->Int),vs=[.ref r,.ref B.M]->m8 t (aZ (B.all ls ps) H) r A.n A.f n->gW K t (aZ (B.all ls ps) H) A.n ls ps->dJ K t (aZ (B.all ls ps) H) A ls ps S->gH H B ls ps S kk->(∀H',aK H H'->Q (.bl true) H')->uT K t vs H Q E
theorem Ej (T:Txt w K mg t):FO P w K mg base 4 t.wZ ["_law_run", "_law_model_here"] (uT K t):=by
 have sc:=T.qF.sc ["_law_run", "_law_model_here", "_law_lane_here", "_law_name"]
 refine T.qF.F.ok sc ln (fun _ _ _ _ H vs Q E hr h=>?_)
 obtain⟨r,n,A,B,ls,ps,S,kk,rfl,hR,N,W,G,k⟩:=h
 refine⟨_,(az (pH (H0:=H) rfl (dg PassesOwn.never rfl (qb (bH hr.u1 (pv 1) bh (fun _ _=>rfl))) (gN sc 2)
   (aA (bR (aW (K1 hr.units) (zz (pv 0) T.cC T.cC.me.2.2.2.2.2.2.2.1 (Bx T) T.pK hr (aa (pv 2) ak aj)) (bH hr.u1 (bH hr.u1 (pv 1) bh (fun _ _=>rfl)) (pv 2) (fun _ _=>rfl)) (bI _))
    (aA (Ni (H0:=H) rfl (aN j0)))
    aY))))
  (az (pH (H0:=H) rfl (dg PassesOwn.never rfl (qb (bH hr.u1 (pv 1) bh (fun _ _=>rfl))) (gN sc 3)
   (aA (bR (aW JQ (zz (pv 0) T.cC T.cC.me.2.2.2.2.2.2.1 (Ip T) T.uW hr (aa (pv 3) ak aj)) (bH hr.u1 (bH hr.u1 (pv 1) bh (fun _ _=>rfl)) (pv 3) (fun _ _=>rfl)) (bI _))
    (aA (Ni (H0:=H) rfl (aN j0)))
    aY))))
  (aA (aN j0)))),?_⟩
 have hz:sizeLine=16777216:=sizeLine_eq
 obtain⟨v1,_,_,v4,_⟩:=B.val
 have F:Ai ls ps:=by obtain⟨_,_,_,_,_,_,_,_,_,Wn⟩:=N;exact Wn.fit
 have nd:=G.nod
 unfold gP.all gP.cells gP.tail at nd
 simp only [List.nodup_cons,List.mem_cons,List.mem_append,not_or] at nd
 have ih:B.ho∈B.all ls ps:=by simp [gP.all]
 have iw:B.wo∈B.all ls ps:=by simp [gP.all,gP.cells]
 have off:∀{a:Addr} {u:HO},a∈B.all ls ps->aK (aZ (B.all ls ps) H) (upd H a u):=fun ha b o e=>by
  rw [aH (fun z=>by rw [z] at e;unfold aZ at e;rw [if_pos ha] at e;cases e)]
  exact bw b o e
 refine⟨_,rfl,B.M,_,rfl,zy G.top v1,B.ho,_,rfl,G.holds,fun o=>pQ (fun j σ H'=>aK (upd H B.ho (.frz o (.dK (Je B.ha ls)))) H'/\∃v2,σ=[some (.ref r),some (.ref B.M),v2,none]) ⟨aK.refl _,none,rfl⟩ (fun j σ H' _ h=>h.1 _ _ au) ?_ ?_⟩
 ·rintro j ky v σ H1 hj ⟨s1,v2,rfl⟩
  unfold Je at hj
  rw [List.getElem?_map] at hj
  obtain⟨l,hl,e⟩:=Option.map_eq_some_iff.mp hj
  cases e
  have hlm:=List.mem_of_getElem? hl
  have sc1:=(off ih).trans s1
  obtain⟨dxr,fsr,R1⟩:=hR.same sc1
  refine⟨_,rfl,r,dxr,fsr,rfl,R1.1.1,R1.2.no _ (by decide +kernel),_,rfl,r,n,A,ls,ps,S,l,rfl,hR.same sc1,N.same sc1,W.same sc1,hlm,fun H2 p s2 np ep=>?_⟩
  have s12:=s1.trans s2
  have g:Gd 1 (.list (((S.ev l.name).drop (S.g l.name)).map PyData.int)):=.list (.ints 0 _)
  have eM:H2 B.M=some (.dK B.topK):=s12 _ _ (by rw [aH nd.1.1];exact G.top)
  have nhl:B.ha l.name≠B.ho:=fun z=>nd.2.1.2.2.2.2.1 (by rw [<-z];exact List.mem_map.mpr ⟨l,hlm,rfl⟩)
  have el:H2 (B.ha l.name)=some (.lst (((S.ev l.name).drop (S.g l.name)).map V.int)):=s12 _ _ (by rw [aH nhl];exact G.hl l hlm)
  refine⟨_,rfl,B.M,_,rfl,zy eM v1,_,rfl,B.ho,_,rfl,(by rw [<-lQ (ea:=B.ha) F.whole.nod hlm];exact .inl ⟨_,Sum.inr l.name,.inr ⟨o,s12 _ _ au⟩,rfl,rfl⟩),_,_,BP (bL.of ep),BP (bL.of el),g.shaped (by decide),g.shaped (by decide),_,rfl,?_⟩
  rw [g.eq]
  exact dw ⟨s12,_,rfl⟩
 rintro σ H1 ⟨s1,v2,rfl⟩
 refine⟨_,⟨B.ho,o,_,s1 _ _ au,(fun o' u' z=>by rw [G.holds] at z;cases z),rfl⟩,?_⟩
 have s2:=Xc G.holds s1
 generalize upd H1 B.ho (.dK (Je B.ha ls))=H2 at s2 ⊢
 have G2:=G.same s2
 have off2:∀{u:HO},aK (aZ (B.all ls ps) H) (upd H2 B.wo u):=fun b o e=>by
  rw [aH (fun z=>by rw [z] at e;unfold aZ at e;rw [if_pos iw] at e;cases e)]
  exact s2 _ _ (bw b o e)
 refine⟨_,rfl,B.M,_,rfl,zy G2.top v4,B.wo,_,rfl,G2.works,fun o=>pQ (fun j σ H'=>aK (upd H2 B.wo (.frz o (.dK (bC (fun x=>(S.d x:Int)) ps)))) H'/\∃v3,σ=[some (.ref r),some (.ref B.M),v2,v3]) ⟨aK.refl _,none,rfl⟩ (fun j σ H' _ h=>h.1 _ _ au) ?_ ?_⟩
 ·rintro j ky v σ H3 hj ⟨s3,v3,rfl⟩
  unfold bC at hj
  rw [List.getElem?_map] at hj
  obtain⟨p,hp,e⟩:=Option.map_eq_some_iff.mp hj
  cases e
  have hpm:=List.mem_of_getElem? hp
  have sc3:=off2.trans s3
  obtain⟨dxr,fsr,R1⟩:=hR.same sc3
  refine⟨_,rfl,r,dxr,fsr,rfl,R1.1.1,R1.2.no _ (by decide +kernel),_,rfl,r,n,A,ls,ps,S,p,rfl,hR.same sc3,N.same sc3,W.same sc3,hpm,fun H4 s4=>?_⟩
  have s34:=s3.trans s4
  have eM:H4 B.M=some (.dK B.topK):=s34 _ _ (by rw [aH nd.1.2.2.2.2.1];exact G2.top)
  exact⟨_,rfl,B.M,_,rfl,zy eM v4,_,rfl,B.wo,_,rfl,(by rw [<-lH (k:=fun x=>(S.d x:Int)) F.pnd hpm];exact .inl ⟨_,Sum.inr p.name,.inr ⟨o,s34 _ _ au⟩,rfl,rfl⟩),rfl,_,rfl,Xr rfl ⟨s34,_,rfl⟩⟩
 rintro σ H3 ⟨s3,v3,rfl⟩
 refine⟨_,⟨B.wo,o,_,s3 _ _ au,(fun o' u' z=>by rw [G.works] at z;cases z),rfl⟩,?_⟩
 exact k _ (s2.trans (Xc G2.works s3))
theorem Ul (p:PD) (h:p.kind <11):inV (.str (cL p.kind)) [.str "give",.str "take"]=decide (p.kind <2):=by
 have:∀i,i <11->(decide (cL i= "give") || decide (cL i= "take"))=decide (i <2):=by decide +kernel
 rw [<-this _ h]
 have n1:¬("give" :Str)= "take" :=by decide +kernel
 by_cases h1:cL p.kind= "give"
 ·simp [inV,Io,h1]
 ·by_cases h2:cL p.kind= "take"
  ·simp [inV,Io,h2]
  ·simp [inV,Io,h1,h2,Ne.symm h1,Ne.symm h2]
theorem Ra (xs:List V) (a b:Nat):wu xs (some (a:Int)) (some (b:Int))=(xs.drop (min a xs.length)).take (min b xs.length - min a xs.length):=by
 unfold wu
 rw [HT.vU,HT.vU]
theorem Qf {H:Hp} {Q:VK} {Ex:XK} {L P rw:Addr} {ls:List aG} {ps:List PD} {RW:List (Str×Addr×List Int)} (A:yC H L P ls ps) (F:Ai ls ps) (hR:lz H rw RW) (k:∀H' B kk,aK H H'->gH H' B ls ps (ik ls ps RW) kk->(∀a∈B.all ls ps,H a=none)->Q (.ref B.M) H'):jn K [.ref L,.ref P,.ref rw] H Q Ex:=by
 unfold jn
 exact⟨L,P,rw,ls,ps,RW,rfl,A,F,hR,k⟩
theorem RX {H:Hp} {Q:VK} {Ex:XK} {H0:Hp} {r dx n rw:Addr} {ls:List aG} {ps:List PD} {RW:List (Str×Addr×List Int)} (hr:H r=some (.ins t.pO dx [])) (s0:aK H0 H) (nr:H0 r=none) (N:gW K t H0 n ls ps) (hrw:lz H0 rw RW) (hO:Lj ps RW)
  (k:∀(H':Hp) (A:oO),A.n=n->aK H0 H'->Jc K t H' r 0 A ls ps (ik ls ps RW)->(∀a∈A.cells ls ps,H0 a=none)->Q .non H'):gU K t [.ref r,.ref n,.ref rw] H Q Ex:=by
 unfold gU
 exact⟨H0,r,dx,n,rw,ls,ps,RW,rfl,hr,s0,nr,N,hrw,hO,k⟩
theorem Te {H:Hp} {Q:VK} {Ex:XK} {b n:Nat} {r L:Addr} {A:oO} {ls:List aG} {ps:List PD} {S:FS} {xs:List Str} (R:Jc K t H r n A ls ps S) (O:Kg b ls ps S) (hb:b<=90000) (hn:n<=900) (hL:bL K H L (xs.map V.str)) (nL:L∉A.cells ls ps) (hx:∀x∈xs,V.str x∈dX ps "give" ++ dX ps "take")
  (k:∀H' p,aK (aZ (r:: A.cells ls ps) H) (aZ (r:: A.cells ls ps) H')->Jc K t H' r (n+1) A ls ps (j7 ls ps S xs)->H p=none->H' p=some (.lst ((jA ls ps S xs).map fun w=>V.str w.1.name))->Q (.ref p) H'):mD K t [.ref r,.ref L] H Q Ex:=by
 unfold mD
 exact⟨b,r,n,A,ls,ps,S,L,xs,rfl,R,O,hb,hn,hL,nL,hx,k⟩
theorem Ui {H:Hp} {Q:VK} {Ex:XK} {b:Nat} {B:gP} {L P:Addr} {ls:List aG} {ps:List PD} {S:FS} {kk:Str->Int} {Lh:Addr} {xs:List Str} (G:gH H B ls ps S kk) (F:Ai ls ps) (O:Kg b ls ps S) (hb:b<=80000) (hg:∀l∈ls,S.g l.name<=(S.ev l.name).length) (A:yC H L P ls ps) (hL:bL K H Lh (xs.map V.str))
  (k:∀H' p kk',aK (aZ (B.cells ls ps) H) (aZ (B.cells ls ps) H')->gH H' B ls ps (j7 ls ps S xs) kk'->H' p=some (.lst ((jA ls ps S xs).map fun w=>V.str w.1.name))->Q (.ref p) H'):jK K [.ref B.M,.ref P,.ref Lh] H Q Ex:=by
 unfold jK
 exact⟨b,B,L,P,ls,ps,S,kk,Lh,xs,rfl,G,F,O,hb,hg,A,hL,k⟩
theorem Dh {E:List Addr} {H H':Hp} (s:aK H H'):aK (aZ E H) (aZ E H'):=fun b o e=>by
 have hb:b∉E:=fun z=>by unfold aZ at e;rw [if_pos z] at e;cases e
 exact bY (s _ _ (bw _ _ e)) hb
theorem jr {E E':List Addr} {H:Hp} (h:∀a∈E,a∈E'):aK (aZ E' H) (aZ E H):=fun b o e=>by
 have hb:b∉E':=fun z=>by unfold aZ at e;rw [if_pos z] at e;cases e
 exact bY (bw _ _ e) fun z=>hb (h b z)
theorem uK {E E':List Addr} {H H':Hp} (s:aK (aZ E H) (aZ E H')) (h:∀a∈E,a∈E'):aK (aZ E' H) (aZ E' H'):=fun b o e=>by
 have hb:b∉E':=fun z=>by unfold aZ at e;rw [if_pos z] at e;cases e
 exact bY (bw _ _ (s _ _ (jr h _ _ e))) hb
theorem dJ.cutI {H:Hp} {A:oO} {ls:List aG} {ps:List PD} {S:FS} {E:List Addr} (W:dJ K t H A ls ps S) (hf:A.f∉E) (hc:∀a∈A.cells ls ps,a∉E):dJ K t (aZ E H) A ls ps S:=by
 obtain⟨dx,fs,h1,h2⟩:=W.at'.ex
 refine⟨⟨dx,fs,bY h1 hf,h2⟩,bY W.ever (hc _ ?_),fun l hl=>bY (W.lists l hl) (hc _ ?_),bY W.gone (hc _ ?_),bY W.kept (hc _ ?_),bY W.done (hc _ ?_),bY W.rows (hc _ ?_),fun p hp h0=>bY (W.rlst p hp h0) (hc _ ?_),W.nod⟩
 all_goals unfold oO.cells;simp only [List.mem_cons,List.mem_append,List.mem_map,true_or,or_true]
 ·exact .inr (.inr (.inr (.inr (.inr (.inl ⟨l,hl,rfl⟩)))))
 ·exact .inr (.inr (.inr (.inr (.inr (.inr ⟨p,List.mem_filter.mpr ⟨hp,by simp [h0]⟩,rfl⟩)))))
theorem dJ.cellK {H:Hp} {A:oO} {ls:List aG} {ps:List PD} {S:FS} (W:dJ K t H A ls ps S) {a:Addr} (h:a∈A.cells ls ps):∃o,H a=some o:=by
 cases e:H a with
 | none=>exact absurd h (W.cell e)
 | some o=>exact⟨o,rfl⟩
theorem m8.cutI {H:Hp} {r n f:Addr} {k:Nat} {E:List Addr} (h:m8 t H r n f k) (hr:r∉E):m8 t (aZ E H) r n f k:=by
 obtain⟨dx,fs,h1,h2⟩:=h
 exact⟨dx,fs,⟨bY h1.1 hr,h1.2⟩,h2⟩
structure Be (K:PySem.W.Frag) (t:jH) (C:Hp) (r:Addr) (Z:oO) (B:gP) (ls:List aG) (ps:List PD) (j:Nat) (S:FS) (kk:Str->Int) (E:List Addr) (H:Hp):Prop where
 be:∀a∈B.all ls ps,a∈E
 nf:Z.f∉E
 nr:r∉E
 nc:∀a∈Z.cells ls ps,a∉E
 flow:dJ K t (aZ E H) Z ls ps S
 run:m8 t (aZ E H) r Z.n Z.f j
 net:gW K t (aZ (r:: Z.cells ls ps ++ E) H) Z.n ls ps
 mod:gH (aZ (r:: Z.cells ls ps) H) B ls ps S kk
 con:aK C (aZ (r:: Z.cells ls ps ++ E) H)
 ok:Kg (199+32 * j) ls ps S
 gl:∀l∈ls,S.g l.name<=(S.ev l.name).length
theorem Be.same {C H H':Hp} {r:Addr} {Z:oO} {B:gP} {ls:List aG} {ps:List PD} {j:Nat} {S:FS} {kk:Str->Int} {E:List Addr} (h:Be K t C r Z B ls ps j S kk E H) (s:aK H H'):Be K t C r Z B ls ps j S kk E H':=
 ⟨h.be,h.nf,h.nr,h.nc,h.flow.same (Dh s),h.run.same (Dh s),h.net.same (Dh s),h.mod.same (Dh s),h.con.trans (Dh s),h.ok,h.gl⟩
theorem Be.runS {C H:Hp} {r:Addr} {Z:oO} {B:gP} {ls:List aG} {ps:List PD} {j:Nat} {S:FS} {kk:Str->Int} {E:List Addr} (h:Be K t C r Z B ls ps j S kk E H) (ne:r≠Z.f):Jc K t H r j Z ls ps S:=
 ⟨h.run.same bw,h.net.same (jr fun _ ha=>List.mem_append.mpr (.inl ha)),h.flow.same bw,ne⟩
theorem Qt {ls:List aG} {ps:List PD} {S:FS} {xs:List Str} (F:Ai ls ps):Gd 1 (.list (((jA ls ps S xs).map fun w=>w.1.name).map PyData.str)):=.list (.strs 0 fun x hx=>by
 obtain⟨w,hw,rfl⟩:=List.mem_map.mp hx
 exact Mv (F.pnm _ (p8 hw).1))
inductive Ck (K:PySem.W.Frag) (vs:List V) (H:Hp) (Q:VK) (E:XK):Prop where
 | mk:∀(a:Addr) (ns:List Int),vs=[.ref a]->bL K H a (ns.map V.int)->ns.length<=63->(∀H',Q (.bl true) H')->Ck K vs H Q E
noncomputable abbrev Ml:List Str:=["_law_script", "_law_lanes", "_law_parts", "_law_rows", "_law_model_here", "_law_run", "_law_name", "_law_doors_here", "_law_cell_here", "_law_held_here", "_law_able", "_law_found"]
theorem Wr (T:Txt w K mg t):FO P w K mg base 8 t.Vd ["_law_script"] (Ck K):=by
 have sc:=T.Mu.sc Ml
 refine T.Mu.F.ok sc ln (fun _ _ _ _ H vs Q E hr h=>?_)
 obtain⟨a,ns,rfl,hS,hl,k⟩:=h
 refine⟨_,(az (Ks (d8 (Jt T) T.xY hr (aa (pv 0) (aa aq (aa aq (aa j0 ak ao) ao) ao) aj)) (jJ rfl (bD (gN sc 1) (bD (gN sc 2) fc))))
  (az (sN sc 3 (d8 (Eo T) T.sO hr (aa (pv 0) (aa (pv 2) (aa aq ak ao) aj) aj)))
  (az (sN sc 4 (d8 (Er T) T.rZ hr (aa (pv 1) (aa (pv 2) (aa (pv 3) ak aj) aj) aj)))
  (az (sN sc 5 (iz (T.cC.M T.jW) (Br T) (hr.mono (by decide)) (by rfl) T.cC.m T.jW.b .nil ir (aa (iz (T.bz.M T.jV) (Bu T) (hr.mono (by decide)) (by rfl) T.bz.m T.jV.b .nil ir (aa (pv 1) (aa (pv 2) ak aj) aj)) (aa (pv 3) ak aj) bf)))
  (az (pH (H0:=H) rfl (dg PassesOwn.never rfl (qb (pv 3)) (gN sc 6)
   (aA (bM (Ew (bH hr.u1 (pv 3) (pv 6) (fun _ _=>rfl)) (aa aq ak ao))))))
  (az (j4 (i:=7) [] Ml (aU (top 84)) rfl sc.nd rfl (bW (pv 2)) (fun _ _ _ _ _=>(sE (aW (K6 (K:=K) rfl) (aO (jQ (K:=K) rfl) (pv 0) aq (fun _ _=>rfl)) (bV (aa bh (aa bh ak ao) ao)) (by with_unfolding_all rfl)))) (fun _ _ _ _ _=>(aO (jQ (K:=K) rfl) (pv 0) aq (fun _ _=>rfl))))
  (az (dg PassesOwn.never rfl (bW (mH vH (pv 0) (lW aq) (lW aq))) (gN sc 8)
   (az (sN sc 9 (d8 (IK T) T.Av hr (aa (pv 0) (aa (pv 7) (aa (pv 8) (aa aq ak ao) aj) aj) aj)))
   (az (j4 (i:=10) [4] Ml (aU (top 84)) rfl sc.nd rfl (bW (pv 2)) (fun _ _ _ _ _=>(sE (gj (vW (d8 (yL T) T.p7 hr (aa (pv 1) (aa (pv 0) ak aj) aj)))))) (fun _ _ _ _ _=>(aO (jQ (K:=K) rfl) (pv 0) aq (fun _ _=>rfl))))
   (az (bR (aW (K1 hr.units) (fM [5] Ml (aU (top 84)) rfl (bW (pv 2)) (fun _ _ _ _ _=>(sE (jj (zz (pv 1) T.cC T.cC.me.2.2.2.2.2.1 (Bw T) T.pM hr (aa (aO (jQ (K:=K) rfl) (pv 0) aq (fun _ _=>rfl)) ak aF))))) (fun _ _ _ _ _=>(aO (jQ (K:=K) rfl) (pv 0) aq (fun _ _=>rfl)))) (pv 10) (bI _))
    (aA (aN j0))
    aY)
   (az (sN sc 11 (M6 (pv 5) T.cC.c (T.xX.me T.cC.me.2.2.2.2.1) (Jm T) (hr.mono (by decide)) T.xX.b .nil ir (aa (dj jM (by rfl) T.mY jx (aa (pv 9) ak aj)) ak bf)))
   (az (bR (PW.pt (wM (jO (jj (bG vD (by rfl) T.j6 jm (aa (pv 11) (aa (zf (by rfl) T.mY jx) ak aj) aj)))) (qK (aW (K1 hr.units) (pv 11) (d8 (Ht T) T.uy hr (aa (pv 4) (aa (pv 2) (aa (pv 9) ak aj) aj) aj)) (bI _)))))
    (aA (aN j0))
    aY)
   (az (bM (G7 PySem.F.plainAttrs_list PySem.F.slot_list_clear PySem.F.type_list_clear Qj (pv 11)))
   (aA (bR (jO (jj (d8 (Ej T) T.qF hr (aa (pv 5) (aa (pv 4) ak aj) aj))))
    (aA (aN j0))
    aY)))))))))
  (aA (aN (tD dW (Sh (pv 5) T.cC T.cC.me.2.2.2.2.2.2.2.2.1 (Jl T) T.xQ hr) (bG cj (by rfl) T.fK dI (aa (mH vH (pv 0) (lW aq) (lW aq)) ak aF)) (bI _))))))))))),?_⟩
 have hz:sizeLine=16777216:=sizeLine_eq
 refine⟨_,rfl,a,ns,3,4,true,rfl,hS,by decide,fun T' L P ls ps H2 s2 nL nP nLP eT A D=>?_⟩
 refine⟨T',_,rfl,eN.of eT,rfl,_,_,rfl,_,_,rfl,rfl,?_⟩
 have F:=D.fit
 clear eT nL nP nLP D
 have p16:=F.p16
 obtain⟨_,⟨ys,eP,aP⟩⟩:=id A
 have yl:=aP.length
 refine⟨_,rfl,_,rfl,a,P,ns,ys,ps,20,rfl,s2.seq hS,eP,aP,p16,by decide,fun H3 d RW s3 nd hR lR=>?_⟩
 have hRA:=hR.at'
 refine⟨_,rfl,_,rfl,_,rfl,Qf (A.same s3) F hRA fun H4 B kk s4 G4 fr4=>?_⟩
 have s24:=s3.trans s4
 refine⟨_,rfl,_,rfl,fun n dxn nn ndn nen=>?_⟩
 have gn:aK H4 (upd (upd H4 dxn (.own n)) n (.ins t.dO dxn [])):=fun b o e=>by rw [aH (aD e nn),aH (aD e ndn)];exact e
 have en:upd (upd H4 dxn (.own n)) n (.ins t.dO dxn []) n=some (.ins t.dO dxn []):=au
 generalize upd (upd H4 dxn (.own n)) n (.ins t.dO dxn [])=Hn at gn en ⊢
 have hH:Hand K Hn L P ls ps:=by
  obtain⟨⟨x1,x2,x3⟩,⟨y1,y2,y3⟩⟩:=A.same (s24.trans gn)
  refine⟨⟨x1,bL.of x2,x3.imp fun _ _ h=>?_⟩,⟨y1,bL.of y2,y3.imp fun _ _ h=>?_⟩⟩
  ·obtain⟨q,f,e,h1,h2⟩:=h
   exact⟨q,f,e,h1,.inl (bL.of h2)⟩
  ·obtain⟨q,a1,a2,a3,e,h1,h2,h3,h4⟩:=h
   exact⟨q,a1,a2,a3,e,h1,.inl (bL.of h2),.inl (bL.of h3),.inl (bL.of h4)⟩
 refine⟨n,dxn,L,P,ls,ps,rfl,en,hH,F,fun H5 b5 N5=>⟨rfl,?_⟩⟩
 have s45:aK H4 H5:=fun b o e=>b5 b o (aD e nn) (gn b o e)
 have s25:=s24.trans s45
 have G5:=G4.same s45
 have hRn:=hRA.same s4
 have hR5:=hRn.same s45
 obtain⟨E1,hE1⟩:∃E1,E1=d:: RW.map (·.2.1):=⟨_,rfl⟩
 obtain⟨E0,hE0⟩:∃E0,E0=B.all ls ps ++ E1:=⟨_,rfl⟩
 have BE:∀a∈B.all ls ps,a∈E0:=fun a ha=>by rw [hE0];exact List.mem_append.mpr (.inl ha)
 have dE:d∈E1:=by rw [hE1];simp
 have rE:∀q∈RW,q.2.1∈E1:=fun q hq=>by rw [hE1];exact .tail _ (List.mem_map.mpr ⟨q,hq,rfl⟩)
 have nB1:∀a∈B.all ls ps,a∉E1:=fun a ha z=>by
  have e:=fr4 a ha
  rw [hE1] at z
  rcases List.mem_cons.mp z with rfl | h
  ·rw [hRA.dict] at e;cases e
  ·obtain⟨q,hq,rfl⟩:=List.mem_map.mp h
   rw [hRA.lists q hq] at e;cases e
 have kE:∀a∈E0,(∃o,H4 a=some o)/\((∃k,H5 a=some (.dK k))∨∃x,H5 a=some (.lst x)):=fun a ha=>by
  rw [hE0,hE1] at ha
  rcases List.mem_append.mp ha with h | h
  ·exact⟨G4.has h,G5.kind h⟩
  ·rcases List.mem_cons.mp h with rfl | h
   ·exact⟨⟨_,hRn.dict⟩,.inl ⟨_,hR5.dict⟩⟩
   ·obtain⟨q,hq,rfl⟩:=List.mem_map.mp h
    exact⟨⟨_,hRn.lists q hq⟩,.inr ⟨_,hR5.lists q hq⟩⟩
 have N0:gW K t (aZ E0 H5) n ls ps:=N5.cut fun a ha=>⟨by obtain⟨o,e⟩:=(kE a ha).1;exact⟨o,gn _ _ e⟩,(kE a ha).2⟩
 have frE:∀a∈E0,H2 a=none:=fun a ha=>by
  rw [hE0,hE1] at ha
  rcases List.mem_append.mp ha with h | h
  ·exact s3.free (fr4 a h)
  ·rcases List.mem_cons.mp h with rfl | h
   ·exact nd
   ·obtain⟨q,hq,rfl⟩:=List.mem_map.mp h
    exact(hR.new q hq).1
 refine⟨_,rfl,fun r dxr nr ndr ner=>?_⟩
 have gr:aK H5 (upd (upd H5 dxr (.own r)) r (.ins t.pO dxr [])):=fun b o e=>by rw [aH (aD e nr),aH (aD e ndr)];exact e
 refine RX au gr nr N5.s hR5 ⟨hR.door,hR.bnd⟩ fun H6 Z eZ s6 R6 fr6=>⟨rfl,?_⟩
 subst eZ
 have xE:∀a∈E0,∃o,H5 a=some o:=fun a ha=>by rcases(kE a ha).2 with ⟨_,e⟩ | ⟨_,e⟩ <;> exact⟨_,e⟩
 have nrE:r∉E0:=fun z=>by obtain⟨o,e⟩:=xE r z;rw [nr] at e;cases e
 have ncE:∀a∈Z.cells ls ps,a∉E0:=fun a ha z=>by obtain⟨o,e⟩:=xE a z;rw [fr6 a ha] at e;cases e
 have nfE:Z.f∉E0:=fun z=>by
  obtain⟨dx,fs,h1,_⟩:=R6.flow.at'.ex
  rcases(kE _ z).2 with ⟨_,e⟩ | ⟨_,e⟩ <;> (have e':=s6 _ _ e;rw [h1] at e';cases e')
 have eA:∀a∈r:: Z.cells ls ps,H5 a=none:=fun a ha=>by
  rcases List.mem_cons.mp ha with rfl | h
  ·exact nr
  ·exact fr6 a h
 have W6:=R6.flow.cutI nfE ncE
 have Q6:=R6.run.cutI nrE
 have G6:gH (aZ (r:: Z.cells ls ps) H6) B ls ps (ik ls ps RW) kk:=G5.same fun b o e=>bY (s6 _ _ e) fun z=>by rw [eA b z] at e;cases e
 have N6:gW K t (aZ (r:: Z.cells ls ps ++ E0) H6) Z.n ls ps:=N0.same fun b o e=>bY (s6 _ _ (bw _ _ e)) fun z=>by
  rcases List.mem_append.mp z with h | h
  ·have e':=bw _ _ e;rw [eA b h] at e';cases e'
  ·unfold aZ at e;rw [if_pos h] at e;cases e
 have s26:aK H2 (aZ (r:: Z.cells ls ps ++ E0) H6):=fun b o e=>bY (s6 _ _ (s25 _ _ e)) fun z=>by
  rcases List.mem_append.mp z with h | h
  ·have e':=s25 _ _ e;rw [eA b h] at e';cases e'
  ·rw [frE b h] at e;cases e
 have nrf:=R6.ne
 have dBA:∀a∈B.all ls ps,a∉r:: Z.cells ls ps:=fun a ha z=>by obtain⟨o,e⟩:=G5.has ha;rw [eA a z] at e;cases e
 have hR6:=hR5.same s6
 have nfrz:∀(o':Obj) (u':HO),H d≠some (.frz o' u'):=fun o' u' z=>by rw [s2.free nd] at z;cases z
 clear R6 N0 N5 G5 G4 hRn hR5 gr gn en hH b5 kE
 refine⟨_,rfl,d,_,rfl,hR6.dict,fun o=>pQ (fun j σ H'=>(∃v6,σ=[some (.ref a),some (.ref L),some (.ref P),some (.ref d),some (.ref B.M),some (.ref r),v6,none,none,none,none,none])/\H' d=some (.frz o (.dK (iu RW)))/\aK (aZ E1 H6) (aZ E1 H')/\∀q∈RW,∃ws,H' q.2.1=some (.lst ws)/\ws.length<=300+j) ⟨⟨none,rfl⟩,au,by rw [dB dE];exact aK.refl _,fun q hq=>⟨_,by rw [aH (hR.new q hq).2];exact hR6.lists q hq,by rw [lM];exact hR6.len q hq⟩⟩ (fun j σ H' _ h=>h.2.1) ?_ ?_⟩
 ·rintro j ky v σ H7 hj ⟨⟨w6,rfl⟩,ed7,c7,l7⟩
  unfold iu at hj
  rw [List.getElem?_map] at hj
  obtain⟨q,hq,e⟩:=Option.map_eq_some_iff.mp hj
  have hjl:=(List.getElem?_eq_some_iff.mp hq).1
  cases e
  have hm:=List.mem_of_getElem? hq
  have vq:b8 (iu RW) (Sum.inr q.1)=some (.ref q.2.1):=dN (by rw [tQ];exact eO hR6.nd) (List.mem_map.mpr ⟨q,hm,rfl⟩)
  obtain⟨ws,ew,lw⟩:=l7 q hm
  refine⟨_,rfl,_,rfl,d,.ref q.2.1,rfl,(by rw [<-vq];exact .inl ⟨_,Sum.inr q.1,.inr ⟨o,ed7⟩,rfl,rfl⟩),.inl ⟨rfl,_,bL.of ew⟩,q.2.1,_,.int 1,rfl,rfl,ew,by omega,⟨_,rfl⟩,by rw [aH (Ne.symm (hR.new q hm).2)];exact ed7,by rw [dB (rE q hm)];exact c7,fun q' hq'=>?_⟩
  by_cases e:q'.2.1=q.2.1
  ·rw [e,au]
   exact⟨_,rfl,by rw [lP,List.length_singleton];omega⟩
  ·rw [aH e]
   obtain⟨ws',e1,e2⟩:=l7 q' hq'
   exact⟨ws',e1,by omega⟩
 rintro σ H7 ⟨⟨w6,rfl⟩,ed7,c7,_⟩
 refine⟨_,⟨d,o,_,ed7,nfrz,rfl⟩,?_⟩
 have c8:aK (aZ E1 H6) (aZ E1 (upd H7 d (.dK (iu RW)))):=by rw [dB dE];exact c7
 generalize upd H7 d (.dK (iu RW))=H8 at c8 ⊢
 have E10:∀a∈E1,a∈E0:=fun a ha=>by rw [hE0];exact List.mem_append.mpr (.inr ha)
 have c80:=uK c8 E10
 have W8:=W6.same c80
 have Q8:=Q6.same c80
 have N8:=N6.same (uK c80 fun a ha=>List.mem_append.mpr (.inr ha))
 have s28:=s26.trans (uK c80 fun a ha=>List.mem_append.mpr (.inr ha))
 have G8:gH (aZ (r:: Z.cells ls ps) H8) B ls ps (ik ls ps RW) kk:=G6.stay fun a ha o e=>bY (bw _ _ (c8 _ _ (bY (bw _ _ e) (nB1 a ha)))) (dBA a ha)
 have O8:=Oa F hR6.len hR.bnd
 have g8:∀l∈ls,(ik ls ps RW).g l.name<=((ik ls ps RW).ev l.name).length:=fun _ _=>Nat.zero_le _
 clear W6 Q6 N6 G6 s26 c8 c80 c7 ed7 hR6 hRA hR nB1 frE xE hE0 hE1 E10 dE rE
 generalize ik ls ps RW=S0 at W8 G8 O8 g8
 have eP8:=s28 _ _ eP
 refine⟨_,rfl,P,rfl,⟨_,bL.of (bw _ _ eP8)⟩,fu (K:=K) (a:=P) (xs:=ys) (fun j ys H'=>aK H8 H'/\ys=((ps.take j).filter fun p=>decide (p.kind <2)).map fun p=>V.str p.name) (by omega) ⟨aK.refl _,rfl⟩ (fun j ys H' h=>by rw [h.2,lM];exact Nat.le_trans (List.length_filter_le _ _) (by rw [List.length_take];omega)) (fun j ys H' _ h=>h.1.seq (bL.of (bw _ _ eP8))) ?_ ?_⟩
 ·rintro j x ys H9 hx ⟨s9,rfl⟩
  obtain⟨p,hpj,q,a1,a2,a3,rfl,hq,_⟩:=aP.get hx
  have hq9:=s9 _ _ (bw _ _ (s28 _ _ hq))
  refine⟨_,rfl,q,_,0,_,rfl,rfl,eN.of hq9,aM (j:=0) rfl,iW,fun u nu=>⟨u,_,rfl,.inr (eN.of au),rfl,by simp [kW],_,rfl,?_⟩⟩
  have t9:=aB (o:=.tup [.str "give",.str "take"]) nu
  rw [Ul p (F.pok p (List.mem_of_getElem? hpj)).1,List.take_succ,hpj,Option.toList_some,List.filter_append,List.map_append,List.filter_cons]
  by_cases h2:p.kind <2
  ·rw [decide_eq_true h2]
   exact fY ⟨_,rfl,q,_,1,_,rfl,rfl,eN.of (t9 _ _ hq9),aM (j:=1) rfl,s9.trans t9,rfl⟩
  ·rw [decide_eq_false h2]
   exact dw ⟨s9.trans t9,by simp⟩
 rintro zs H9 ⟨s9,rfl⟩ Ld nLd
 rw [yl,List.take_length]
 obtain⟨ds,hds⟩:∃ds:List Str,ds=(ps.filter fun p=>decide (p.kind <2)).map fun p=>p.name:=⟨_,rfl⟩
 have lds:ds.length<=16:=by rw [hds,lM];exact Nat.le_trans (List.length_filter_le _ _) p16
 have dds:∀x∈ds,V.str x∈dX ps "give" ++ dX ps "take" :=fun x hx=>by
  rw [hds] at hx
  obtain⟨p,hp,rfl⟩:=List.mem_map.mp hx
  obtain⟨hp,h2⟩:=List.mem_filter.mp hp
  have h2:=of_decide_eq_true h2
  refine List.mem_append.mpr ?_
  have:p.kind=0∨p.kind=1:=by omega
  rcases this with h | h
  ·exact .inl (List.mem_map.mpr ⟨p,List.mem_filter.mpr ⟨hp,by rw [h];rfl⟩,rfl⟩)
  ·exact .inr (List.mem_map.mpr ⟨p,List.mem_filter.mpr ⟨hp,by rw [h];rfl⟩,rfl⟩)
 have mds:((ps.filter fun p=>decide (p.kind <2)).map fun p=>V.str p.name)=ds.map V.str:=by rw [hds,List.map_map];rfl
 rw [mds]
 clear mds hds
 have t10:=s9.trans (aB (o:=.lst (ds.map V.str)) nLd)
 have eLd:upd H9 Ld (.lst (ds.map V.str)) Ld=some (.lst (ds.map V.str)):=au
 have nLd8:=s9.free nLd
 generalize upd H9 Ld (.lst (ds.map V.str))=H10 at t10 eLd ⊢
 refine⟨_,rfl,_,rfl,_,rfl,a,_,rfl,(s2.trans (s28.trans (bw.trans t10))).seq hS,fun Lc nLc=>⟨Lc,rfl,⟨_,bL.of au⟩,?_⟩⟩
 obtain⟨cs,ecs,lcs⟩:∃cs:List Int,wu (ns.map V.int) (some 10) (some 40)=cs.map V.int/\cs.length<=30:=by
  refine⟨(ns.drop (min 10 ns.length)).take (min 40 ns.length - min 10 ns.length),(Ra (ns.map V.int) 10 40).trans ?_,?_⟩
  ·rw [List.map_take,List.map_drop,lM]
  ·rw [List.length_take];omega
 rw [ecs]
 have t11:=t10.trans (aB (o:=.lst (cs.map V.int)) nLc)
 have eLc:upd H10 Lc (.lst (cs.map V.int)) Lc=some (.lst (cs.map V.int)):=au
 have eLd11:=aB (o:=.lst (cs.map V.int)) nLc _ _ eLd
 have nLc8:=t10.free nLc
 generalize upd H10 Lc (.lst (cs.map V.int))=H11 at t11 eLc eLd11 ⊢
 have xA:∀a∈r:: Z.cells ls ps ++ B.all ls ps,∃o,H8 a=some o:=fun a ha=>by
  rcases List.mem_append.mp ha with h | h
  ·rcases List.mem_cons.mp h with rfl | h
   ·obtain⟨_,_,h1,_⟩:=Q8
    exact⟨_,bw _ _ h1.1⟩
   ·obtain⟨o,e⟩:=W8.cellK h
    exact⟨o,bw _ _ e⟩
  ·obtain⟨o,e⟩:=G8.has h
   exact⟨o,bw _ _ e⟩
 have nD:Ld∉r:: Z.cells ls ps ++ B.all ls ps:=fun z=>by obtain⟨o,e⟩:=xA _ z;rw [nLd8] at e;cases e
 have nC:Lc∉r:: Z.cells ls ps ++ B.all ls ps:=fun z=>by obtain⟨o,e⟩:=xA _ z;rw [nLc8] at e;cases e
 have I11:Be K t (aZ (r:: Z.cells ls ps ++ B.all ls ps) H11) r Z B ls ps 0 S0 kk (B.all ls ps) H11:=
  ⟨fun _ h=>h,fun z=>nfE (BE _ z),fun z=>nrE (BE _ z),fun a ha z=>ncE a ha (BE _ z),W8.same ((jr BE).trans (Dh t11)),Q8.same ((jr BE).trans (Dh t11)),N8.same ((jr fun a ha=>(List.mem_append.mp ha).elim (fun h=>List.mem_append.mpr (.inl h)) fun h=>List.mem_append.mpr (.inr (BE _ h))).trans (Dh t11)),G8.same (Dh t11),aK.refl _,O8,g8⟩
 have eLdC:=bY eLd11 nD
 have eLcC:=bY eLc nC
 have hSC:bL K (aZ (r:: Z.cells ls ps ++ B.all ls ps) H11) a (ns.map V.int):=(s2.trans (s28.trans ((jr fun a ha=>(List.mem_append.mp ha).elim (fun h=>List.mem_append.mpr (.inl h)) fun h=>List.mem_append.mpr (.inr (BE _ h))).trans (Dh t11)))).seq hS
 have AC:yC (aZ (r:: Z.cells ls ps ++ B.all ls ps) H11) L P ls ps:=A.same (s28.trans ((jr fun a ha=>(List.mem_append.mp ha).elim (fun h=>List.mem_append.mpr (.inl h)) fun h=>List.mem_append.mpr (.inr (BE _ h))).trans (Dh t11)))
 clear W8 Q8 N8 G8 s28 O8 g8 eP aP A eP8 nLd8 nLc8 t10 t11 s9 nD nC xA eLd nfE nrE ncE BE eLd11
 generalize aZ (r:: Z.cells ls ps ++ B.all ls ps) H11=C at I11 eLdC eLcC hSC AC
 obtain⟨_,⟨ys',eP,aP⟩⟩:=id AC
 have yl:=aP.length
 refine cY (K:=K) (a:=Lc) (xs:=cs.map V.int) (fun j σ H'=>∃S kk E,(∃v8 v9 v10 v11,σ=[some (.ref a),some (.ref L),some (.ref P),some (.ref d),some (.ref B.M),some (.ref r),w6,some (.ref Ld),v8,v9,v10,v11])/\Be K t C r Z B ls ps j S kk E H') ⟨_,_,_,⟨_,_,_,_,rfl⟩,I11⟩ (fun j σ H' _ ⟨_,_,_,_,h⟩=>bL.of (bw _ _ (h.con _ _ eLcC))) ?_ ?_
 ·clear I11
  rintro j x σ H1 hx ⟨S,kk,E,⟨v8,v9,v10,v11,rfl⟩,I⟩
  rw [List.getElem?_map] at hx
  obtain⟨c,hc,rfl⟩:=Option.map_eq_some_iff.mp hx
  have hj:=(List.getElem?_eq_some_iff.mp hc).1
  have nx1:=I.con.trans bw
  refine⟨_,rfl,_,rfl,_,rfl,a,Ld,ns,ds,c,5,rfl,nx1.seq hSC,bL.of (nx1 _ _ eLdC),lds,by decide,fun H2 Lh xs sh nLh eLh hxs=>?_⟩
  have I2:=I.same sh
  have c2:=I2.con.trans bw
  have O:=I2.ok
  have eP2:=c2 _ _ eP
  refine⟨_,rfl,P,rfl,⟨_,bL.of eP2⟩,fu (K:=K) (a:=P) (xs:=ys') (fun i zs H'=>aK H2 H'/\zs=((ps.take i).filter fun p=>(dG ls S p).isSome).map fun p=>V.str p.name) (by omega) ⟨aK.refl _,rfl⟩ (fun i ys H' h=>by rw [h.2,lM];exact Nat.le_trans (List.length_filter_le _ _) (by rw [List.length_take];omega)) (fun i ys H' _ h=>h.1.seq (bL.of eP2)) ?_ ?_⟩
  ·rintro i x zs H3 hx ⟨s3,rfl⟩
   obtain⟨p,hpi,hrow⟩:=aP.get hx
   have hrow3:=hrow.same (c2.trans s3)
   obtain⟨q,a1,a2,a3,rfl,hq,hq1,hq2,hq3⟩:=hrow3
   rw [List.take_succ,hpi,Option.toList_some,List.filter_append,List.map_append,List.filter_cons]
   refine⟨_,rfl,_,rfl,J7 (M:=[]) (by simp) ((I2.mod.same bw).same s3) F O (by omega) I2.gl (List.mem_of_getElem? hpi) ⟨q,a1,a2,a3,rfl,hq,hq1,hq2,hq3⟩ (fun hn H4 s4=>?_) (fun dd hd H4 U s4 _=>?_)⟩
   ·exact⟨_,rfl,dw ⟨s3.trans s4,by simp [hn]⟩⟩
   ·exact⟨_,rfl,fY ⟨_,rfl,q,_,1,_,rfl,rfl,eN.of (s4 _ _ hq),aM (j:=1) rfl,s3.trans s4,by simp [hd]⟩⟩
  rintro zs H3 ⟨s3,rfl⟩ La nLa
  rw [yl,List.take_length]
  obtain⟨as,has⟩:∃as:List Str,as=(ps.filter fun p=>(dG ls S p).isSome).map fun p=>p.name:=⟨_,rfl⟩
  have mas:((ps.filter fun p=>(dG ls S p).isSome).map fun p=>V.str p.name)=as.map V.str:=by rw [has,List.map_map];rfl
  have gas:Gd 1 (.list (as.map PyData.str)):=.list (.strs 0 fun x hx=>by
   rw [has] at hx
   obtain⟨p,hp,rfl⟩:=List.mem_map.mp hx
   exact Mv (F.pnm p (List.mem_filter.mp hp).1))
  rw [mas]
  have t4:=s3.trans (aB (o:=.lst (as.map V.str)) nLa)
  have eLa:upd H3 La (.lst (as.map V.str)) La=some (.lst (as.map V.str)):=au
  generalize upd H3 La (.lst (as.map V.str))=H4 at t4 eLa ⊢
  have I4:=I2.same t4
  have c4:=c2.trans t4
  have eP4:=c4 _ _ eP
  refine⟨_,rfl,P,rfl,⟨_,bL.of eP4⟩,fu (K:=K) (a:=P) (xs:=ys') (fun i zs H'=>aK H4 H'/\zs=((ps.take i).filter fun p=>(dG ls S p).isSome).map fun p=>V.str p.name) (by omega) ⟨aK.refl _,rfl⟩ (fun i ys H' h=>by rw [h.2,lM];exact Nat.le_trans (List.length_filter_le _ _) (by rw [List.length_take];omega)) (fun i ys H' _ h=>h.1.seq (bL.of eP4)) ?_ ?_⟩
  ·rintro i x zs H5 hx ⟨s5,rfl⟩
   obtain⟨p,hpi,q,a1,a2,a3,rfl,hq,_⟩:=aP.get hx
   have hq5:=s5 _ _ (c4 _ _ hq)
   have R5:=(I4.same s5).runS nrf
   obtain⟨dxr,fsr,R0⟩:=id R5.run
   rw [List.take_succ,hpi,Option.toList_some,List.filter_append,List.map_append,List.filter_cons]
   refine⟨_,rfl,r,dxr,fsr,rfl,R0.1.1,R0.2.no _ (by decide +kernel),_,rfl,q,_,1,_,rfl,rfl,eN.of hq5,aM (j:=1) rfl,_,r,j,Z,ls,ps,S,p,rfl,R5.run,R5.netH,R5.flow,O,List.mem_of_getElem? hpi,fun H6 s6=>⟨_,rfl,?_⟩⟩
   cases hn:(dG ls S p).isSome with
   | true=>exact fY ⟨_,rfl,q,_,1,_,rfl,rfl,eN.of (s6 _ _ hq5),aM (j:=1) rfl,s5.trans s6,by simp⟩
   | false=>exact dw ⟨s5.trans s6,by simp⟩
  rintro zs H5 ⟨s5,rfl⟩ Lb nLb
  rw [yl,List.take_length,mas]
  have t6:=s5.trans (aB (o:=.lst (as.map V.str)) nLb)
  have eLb:upd H5 Lb (.lst (as.map V.str)) Lb=some (.lst (as.map V.str)):=au
  generalize upd H5 Lb (.lst (as.map V.str))=H6 at t6 eLb ⊢
  refine⟨_,rfl,_,_,BX (bL.of eLb),BX (bL.of (t6 _ _ eLa)),gas.shaped (by decide),gas.shaped (by decide),_,rfl,?_⟩
  rw [gas.eq]
  refine dw ?_
  have I6:=I4.same t6
  have R6:=I6.runS nrf
  obtain⟨dxr,fsr,R0⟩:=id R6.run
  have eLh6:=t6 _ _ (t4 _ _ eLh)
  refine⟨_,rfl,r,dxr,fsr,rfl,R0.1.1,R0.2.no _ (by decide +kernel),_,rfl,Lh,_,rfl,.inl (bL.of eLh6),fun L2 nL2=>?_⟩
  have t7:=aB (o:=.lst (xs.map V.str)) nL2
  have I7:=I6.same t7
  have eL7:upd H6 L2 (.lst (xs.map V.str)) L2=some (.lst (xs.map V.str)):=au
  have nL7:L2∉Z.cells ls ps:=R6.flow.cell nL2
  have eLh7:=t7 _ _ eLh6
  generalize upd H6 L2 (.lst (xs.map V.str))=H7 at t7 I7 eL7 eLh7 ⊢
  refine Te (I7.runS nrf) O (by omega) (by omega) (bL.of eL7) nL7 (fun x hx=>dds x (hxs x hx)) fun H8 p c8 R8 np ep=>?_
  have xA:∀a∈r:: Z.cells ls ps ++ B.all ls ps,∃o,H7 a=some o:=fun a ha=>by
   rcases List.mem_append.mp ha with h | h
   ·rcases List.mem_cons.mp h with rfl | h
    ·obtain⟨_,_,h1,_⟩:=I7.run
     exact⟨_,bw _ _ h1.1⟩
    ·obtain⟨o,e⟩:=I7.flow.cellK h
     exact⟨o,bw _ _ e⟩
   ·obtain⟨o,e⟩:=I7.mod.has h
    exact⟨o,bw _ _ e⟩
  have nA:∀a∈r:: Z.cells ls ps ++ B.all ls ps,a≠p:=fun a ha z=>by obtain⟨o,e⟩:=xA a ha;rw [z,np] at e;cases e
  have nfp:Z.f≠p:=fun z=>by
   obtain⟨_,_,h1,_⟩:=I7.flow.at'.ex
   have h1:=bw _ _ h1
   rw [z,np] at h1
   cases h1
  have G8:=I7.mod.same c8
  have nLhA:Lh∉r:: Z.cells ls ps:=fun z=>by
   rcases List.mem_cons.mp z with rfl | h
   ·obtain⟨_,_,h1,_⟩:=I7.run
    have h1:=bw _ _ h1.1
    rw [eLh7] at h1
    cases h1
   ·exact(I.flow.same bw).cell nLh h
  have eLh8:=bw _ _ (c8 _ _ (bY eLh7 nLhA))
  have cb:∀{H' H'':Hp} {E':List Addr},aK (aZ (r:: Z.cells ls ps) H') (aZ (r:: Z.cells ls ps) H'')->aK (aZ (r:: Z.cells ls ps ++ E') H') (aZ (r:: Z.cells ls ps ++ E') H''):=fun s=>uK s fun _ h=>List.mem_append.mpr (.inl h)
  have con8:=I7.con.trans (cb c8)
  refine⟨_,rfl,_,_,_,_,rfl,.inl ⟨rfl,_,bL.of ep⟩,by decide,rfl,_,rfl,dw ?_⟩
  refine⟨_,rfl,_,rfl,_,rfl,_,rfl,Ui (G8.same bw) F O (by omega) I7.gl (AC.same (con8.trans bw)) (bL.of eLh8) fun H9 p' kk' c9 G9 ep'=>?_⟩
  have be':∀a∈B.cells ls ps,a∈p:: E:=fun a ha=>.tail _ (I.be a (gP.cell ha))
  have c9E:=uK c9 be'
  have pB:p∉B.cells ls ps:=fun z=>nA p (List.mem_append.mpr (.inr (gP.cell z))) rfl
  have ep9:=bw _ _ (c9 _ _ (bY ep pB))
  have gd:=Qt (S:=S) (xs:=xs) F
  refine⟨_,_,BX (xs:=(jA ls ps S xs).map fun w=>w.1.name) (bL.of (by rw [List.map_map];exact ep9)),BX (xs:=(jA ls ps S xs).map fun w=>w.1.name) (bL.of (by rw [List.map_map];exact ep')),gd.shaped (by decide),gd.shaped (by decide),_,rfl,?_⟩
  rw [gd.eq]
  refine dw ⟨_,rfl,.inl ⟨rfl,_,bL.of ep9⟩,p,_,rfl,rfl,ep9,?_⟩
  have I10:Be K t C r Z B ls ps (j+1) (j7 ls ps S xs) kk' (p:: E) (upd H9 p (.lst [])):=by
   have cp:∀{E':List Addr},p∈E'->aZ E' (upd H9 p (.lst []))=aZ E' H9:=fun h=>dB h
   have nf':Z.f∉p:: E:=fun z=>(List.mem_cons.mp z).elim nfp I.nf
   have nr':r∉p:: E:=fun z=>(List.mem_cons.mp z).elim (nA r (by simp)) I.nr
   have nc':∀a∈Z.cells ls ps,a∉p:: E:=fun a ha z=>(List.mem_cons.mp z).elim (nA a (List.mem_append.mpr (.inl (.tail _ ha)))) (I.nc a ha)
   have mid:aK (aZ (r:: Z.cells ls ps ++ E) H7) (aZ (r:: Z.cells ls ps ++ p:: E) H9):=fun b o e=>by
    have hb:b∉r:: Z.cells ls ps ++ E:=fun z=>by unfold aZ at e;rw [if_pos z] at e;cases e
    have hbp:b≠p:=fun z=>by have e':=bw _ _ e;rw [z,np] at e';cases e'
    have hb':b∉r:: Z.cells ls ps ++ p:: E:=fun z=>(List.mem_append.mp z).elim (fun h=>hb (List.mem_append.mpr (.inl h))) fun h=>(List.mem_cons.mp h).elim hbp fun h=>hb (List.mem_append.mpr (.inr h))
    have e8:=bw _ _ (cb (E':=E) c8 _ _ e)
    exact bY (bw _ _ (c9E _ _ (bY e8 fun z=>hb' (List.mem_append.mpr (.inr z))))) hb'
   refine⟨fun a ha=>.tail _ (I.be a ha),nf',nr',nc',?_,?_,?_,?_,?_,?_,Sv F I7.gl⟩
   ·rw [cp List.mem_cons_self];exact(R8.flow.cutI nf' nc').same c9E
   ·rw [cp List.mem_cons_self];exact(R8.run.cutI nr').same c9E
   ·rw [cp (List.mem_append.mpr (.inr List.mem_cons_self))];exact I7.net.same mid
   ·refine G9.stay fun a ha o e=>bY ?_ (dBA a ha)
    rw [aH (nA a (List.mem_append.mpr (.inr ha)))]
    exact e
   ·rw [cp (List.mem_append.mpr (.inr List.mem_cons_self))];exact I7.con.trans mid
   ·have:=Ua F O xs
    rw [show 199+32 * (j+1)=199+32 * j+32 by omega]
    exact this
  generalize upd H9 p (.lst [])=H10 at I10 ⊢
  refine⟨_,rfl,_,rfl,r,j+1,Z,B,ls,ps,j7 ls ps S xs,kk',rfl,I10.run.same (jr I10.be),I10.net.same (jr fun a ha=>List.mem_append.mpr (.inr (I10.be a ha))),I10.flow.same (jr I10.be),I10.mod.same bw,fun H11 s11=>⟨_,rfl,dw ⟨_,_,_,⟨_,_,_,_,rfl⟩,I10.same s11⟩⟩⟩
 rintro σ H1 ⟨S,kk,E,⟨v8,v9,v10,v11,rfl⟩,I⟩
 obtain⟨dxr,fsr,R0⟩:=id (I.run.same bw)
 refine⟨_,rfl,r,dxr,fsr,rfl,R0.1.1,R0.2.no _ (by decide +kernel),r,_,_,_,rfl,I.run.same bw,_,rfl,_,rfl,_,rfl,a,_,rfl,(I.con.trans bw).seq hSC,fun Lx nLx=>⟨_,cs.length,rfl,.inl ⟨_,bL.of au,by rw [ecs,lM]⟩,rfl,?_⟩⟩
 rw [lM]
 rw [decide_eq_true rfl]
 exact k _
end
theorem fin {l:PySem.W.OpenLaw} {w:World} {K:PySem.W.Frag} {mg:Str->Option Value} {fa r0 r1 r2 r3 r4 r5 r6 r7 r8 r9 r10 r11 r12 r13 r14 r15 r16 r17 r18 r19 r20 r21 r22 r23 r24 r25 r26 r27 r28 r29 r30 r31 r32 r33 r34 r35 r36 r37 r38 r39 r40 r41 r42 r43 r44 r45 r46 r47 r48 r49 r50 r51 r52 r53 r54 r55 r56 r57 r58 r59 r60 r61 r62 r63 r64 r65 r66 r67 r68 r69 r70 r71 r72 r73 r74 r75 r76 r77 r78 r79 r80 r81 r82 r83 r84 r85 r86 r87 r88 r89 r90 r91 r92 r93 r94 r95 r96 r97 r98 r99 r100 r101 r102 r103 r104 r105 r106 r107 r108 r109 r110:Addr} (hfa:mg "law" =some (.ref fa)) (T:Txt w K mg ⟨r0,r1,r2,r3,r4,r5,r6,r7,r8,r9,r10,r11,r12,r13,r14,r15,r16,r17,r18,r19,r20,r21,r22,r23,r24,r25,r26,r27,r28,r29,r30,r31,r32,r33,r34,r35,r36,r37,r38,r39,r40,r41,r42,r43,r44,r45,r46,r47,r48,r49,r50,r51,r52,r53,r54,r55,r56,r57,r58,r59,r60,r61,r62,r63,r64,r65,r66,r67,r68,r69,r70,r71,r72,r73,r74,r75,r76,r77,r78,r79,r80,r81,r82,r83,r84,r85,r86,r87,r88,r89,r90,r91,r92,r93,r94,r95,r96,r97,r98,r99,r100,r101,r102,r103,r104,r105,r106,r107,r108,r109,r110⟩):∃fd:FuncData,(∀(s:Shared) (v:Value),BindsTo s fd ⟨[v],[]⟩ [("_law_script",v)])/\∀base:Heap,K.In base->base.Ns mainGlobals mg->iU l.prog w K mg base Cr 8 fa fd ["_law_script"] (Ck K):=by
 have e:=hfa.symm.trans T.Mu.m
 cases e
 exact⟨_,Wt T.Mu.F fun _ _ _ _ _ _ _=>rfl,fun base _ _=>Wr T⟩
theorem walk {l:PySem.W.OpenLaw} {q:Program} {loose:List Str} {XP:(Str->Option Value)->Heap->Prop} {YP:World->Heap->Prop} {d:DefRec} {K:Params->PySem.W.Frag} (hn:l.most=some 63) (hdf:d.params.defaults=[])
  (hY:∀(w:World) (h:Heap),YP w h->(K w.params).In h)
  (F:∀(w:World) (mg:Str->Option Value) (fa:Addr) (h:Heap),(K w.params).In h->h.Ns mainGlobals mg->mg d.name=some (.ref fa)->
   ∃fd:FuncData,(∀(s:Shared) (u:Value),BindsTo s fd ⟨[u],[]⟩ [("_law_script",u)])/\∀base:Heap,(K w.params).In base->base.Ns mainGlobals mg->iU l.prog w (K w.params) mg base Cr 8 fa fd ["_law_script"] (Ck (K w.params))):
  PySem.W.WalkO q loose XP YP l.row.toRowW d [] (fun f vs=>PySem.call f vs):=
 L2.Tc (n:=63) (k:=8) (x:= "_law_script") (CX:=fun _=>Cr) (sp:=fun w=>Ck (K w.params)) hn (by decide) hdf ⟨rfl,by decide,by decide⟩ hY F (fun _ _ a ns hl _ hS=>⟨a,ns,rfl,hS,hl,fun _=>rfl⟩) fun _ _ _ _ _ z=>z
end K43
open PySem PySem.W PyProof.Rows L2
set_option maxRecDepth 100000 in
set_option maxHeartbeats 0 in
theorem PySem.Challenge.cw_holdlane_k43_turns_of_a_net_holds : PySem.Challenge.rw_holdlane_k43_turns_of_a_net.Holds := by
 w_on;o_law
 refine HD.head (by rfl) (by rfl) (by rfl) (by rfl) (by first | assumption | decide +kernel) (by decide +kernel) ⟨rfl,rfl,rfl,rfl,rfl,by decide +kernel⟩ rfl (fun _=>rfl) ?_ ?_
 ·w_witness2
 k_fill
 refine K43.walk (l:=PySem.Challenge.rw_holdlane_k43_turns_of_a_net) rfl rfl (fun w h Y=>PySem.W.kIn_of Y) ?F
 case F=>
  intro w mg fa h KX G hmg
  refine' K43.fin hmg ⟨?q0,?q1,?q2,?q3,?q4,?q5,?q6,?q7,?q8,?q9,?q10,?q11,?q12,?q13,?q14,?q15,?q16,?q17,?q18,?q19,?q20,?q21,?q22,?q23,?q24,?q25,?q26,?q27,?q28,?q29,?q30,?q31,?q32,?q33,?q34,?q35,?q36,?q37,?q38,?q39,?q40,?q41,?q42,?q43,?q44,?q45,?q46,?q47,?q48,?q49,?q50,?q51,?q52,?q53,?q54,?q55,?q56,?q57,?q58,?q59,?q60,?q61,?q62,?q63,?q64,?q65,?q66,?q67,?q68,?q69,?q70,?q71,?q72,?q73,?q74,?q75,?q76,?q77,?q78,?q79,?q80,?q81,?q82,?q83,?q84,?q85,?q86,?q87,?q88,?q89,?q90,?q91,?q92,?q93,?q94,?q95,?q96,?q97,?q98,?q99,?q100,?q101,?q102,?q103,?q104,?q105,?q106,?q107,?q108,?q109,?q110,?q111,?q112,?q113,?q114,?q115,?q116,?q117,?q118,?q119,?q120,?q121,?q122,?q123,?q124,?q125,?q126,?q127,?q128,?q129,?q130,?q131⟩
  all_goals try dsimp only
  (case q0 | q1 | q2 | q3 | q4 | q5 | q6 | q7 | q8 | q9 | q10=>refine' ⟨mg_of KX G ?_,⟨?_,?_,?_,?_⟩,?_,?_,⟨?_,?_,?_,?_,?_,?_,trivial⟩,⟨?_,?_,?_,?_,trivial⟩⟩ <;> (try dsimp only) <;> k_is)
  (case q11=>refine' ⟨mg_of KX G ?_,⟨?_,?_,?_,?_⟩,?_,?_,⟨?_,?_,?_,?_,?_,?_,?_,?_,?_,?_,trivial⟩,⟨?_,?_,?_,?_,?_,trivial⟩⟩ <;> (try dsimp only) <;> k_is)
  (case q12=>refine' ⟨mg_of KX G ?_,⟨?_,?_,?_,?_⟩,?_,?_,⟨?_,?_,?_,?_,?_,?_,?_,?_,?_,trivial⟩,⟨?_,?_,?_,?_,?_,?_,trivial⟩⟩ <;> (try dsimp only) <;> k_is)
  (case q13=>refine' ⟨mg_of KX G ?_,⟨?_,?_,?_,?_⟩,?_,?_,⟨?_,?_,?_,?_,?_,?_,?_,?_,?_,trivial⟩,⟨?_,?_,?_,trivial⟩⟩ <;> (try dsimp only) <;> k_is)
  (case q14 | q15=>refine' .of (mg_of KX G ?_) (dZ.of ?_ ?_ ?_ ?_ (fun _ _ _ _ _ _=>DW fun _=>rfl)) <;> (try k_is);all_goals try k_is)
  (case q16=>refine' dZ.of ?_ ?_ ?_ ?_ (fun _ _ _ _ _ _=>XH fun _ _ _ _ _=>rfl) <;> try k_is)
  (case q17 | q18 | q19 | q20 | q21 | q22 | q23 | q24 | q25 | q26 | q27=>refine' dZ.of ?_ ?_ ?_ ?_ (fun _ _ _ _ _ _=>DW fun _=>rfl) <;> try k_is)
  (case q28=>refine' .of (mg_of KX G ?_) (dZ.of ?_ ?_ ?_ ?_ (fun _ _ _ _ _ _=>DW fun _=>rfl)) <;> (try k_is);all_goals try k_is)
  (case q29 | q30 | q31=>refine' .of (mg_of KX G ?_) (dZ.of ?_ ?_ ?_ ?_ (fun _ _ _ _ _ _=>XH fun _ _ _ _ _=>rfl)) <;> (try k_is);all_goals try k_is)
  (case q32=>refine' .of (mg_of KX G ?_) (dZ.of ?_ ?_ ?_ ?_ (fun _ _ _ _ _ _=>DW fun _=>rfl)) <;> (try k_is);all_goals try k_is)
  (case q33 | q34 | q35=>refine' dZ.of ?_ ?_ ?_ ?_ (fun _ _ _ _ _ _=>xT fun _ _=>rfl) <;> try k_is)
  (case q36 | q37=>refine' dZ.of ?_ ?_ ?_ ?_ (fun _ _ _ _ _ _=>DW fun _=>rfl) <;> try k_is)
  (case q38 | q39 | q40 | q41 | q42 | q43 | q44 | q45 | q46 | q47 | q48=>refine' dZ.of ?_ ?_ ?_ ?_ (fun _ _ _ _ _ _=>Ep fun _ _ _=>rfl) <;> try k_is)
  (case q49 | q50 | q51 | q52=>refine' .of (mg_of KX G ?_) (dZ.of ?_ ?_ ?_ ?_ (fun _ _ _ _ _ _=>xT fun _ _=>rfl)) <;> (try k_is);all_goals try k_is)
  (case q53=>refine' .of (mg_of KX G ?_) (dZ.of ?_ ?_ ?_ ?_ (fun _ _ _ _ _ _=>Ep fun _ _ _=>rfl)) <;> (try k_is);all_goals try k_is)
  (case q54=>refine' .of (mg_of KX G ?_) (dZ.of ?_ ?_ ?_ ?_ (fun _ _ _ _ _ _=>xT fun _ _=>rfl)) <;> (try k_is);all_goals try k_is)
  (case q55=>refine' .of (mg_of KX G ?_) (dZ.of ?_ ?_ ?_ ?_ (fun _ _ _ _ _ _=>YL fun _ _ _ _ _ _=>rfl)) <;> (try k_is);all_goals try k_is)
  (case q56=>refine' .of (mg_of KX G ?_) (dZ.of ?_ ?_ ?_ ?_ (fun _ _ _ _ _ _=>Qh fun _ _ _ _=>rfl)) <;> (try k_is);all_goals try k_is)
  (case q57 | q58 | q59=>refine' .of (mg_of KX G ?_) (dZ.of ?_ ?_ ?_ ?_ (fun _ _ _ _ _ _=>Ep fun _ _ _=>rfl)) <;> (try k_is);all_goals try k_is)
  (case q60=>refine' .of (mg_of KX G ?_) (dZ.of ?_ ?_ ?_ ?_ (fun _ _ _ _ _ _=>Qh fun _ _ _ _=>rfl)) <;> (try k_is);all_goals try k_is)
  (case q61=>refine' .of (mg_of KX G ?_) (dZ.of ?_ ?_ ?_ ?_ (fun _ _ _ _ _ _=>DW fun _=>rfl)) <;> (try k_is);all_goals try k_is)
  (case q62 | q63=>refine' .of (mg_of KX G ?_) (dZ.of ?_ ?_ ?_ ?_ (fun _ _ _ _ _ _=>xT fun _ _=>rfl)) <;> (try k_is);all_goals try k_is)
  (case q64=>refine' .of (mg_of KX G ?_) (dZ.of ?_ ?_ ?_ ?_ (fun _ _ _ _ _ _=>Ep fun _ _ _=>rfl)) <;> (try k_is);all_goals try k_is)
  (case q65=>refine' .of (mg_of KX G ?_) (dZ.of ?_ ?_ ?_ ?_ (fun _ _ _ _ _ _=>xT fun _ _=>rfl)) <;> (try k_is);all_goals try k_is)
  (case q66=>refine' .of (mg_of KX G ?_) (dZ.of ?_ ?_ ?_ ?_ (fun _ _ _ _ _ _=>Qh fun _ _ _ _=>rfl)) <;> (try k_is);all_goals try k_is)
  (case q67 | q68 | q69=>refine' .of (mg_of KX G ?_) (dZ.of ?_ ?_ ?_ ?_ (fun _ _ _ _ _ _=>Ep fun _ _ _=>rfl)) <;> (try k_is);all_goals try k_is)
  (case q70 | q71=>refine' dZ.of ?_ ?_ ?_ ?_ (fun _ _ _ _ _ _=>DW fun _=>rfl) <;> try k_is)
  (case q72=>refine' dZ.of ?_ ?_ ?_ ?_ (fun _ _ _ _ _ _=>xT fun _ _=>rfl) <;> try k_is)
  (case q73 | q74=>refine' dZ.of ?_ ?_ ?_ ?_ (fun _ _ _ _ _ _=>DW fun _=>rfl) <;> try k_is)
  (case q75 | q76 | q77 | q78=>refine' dZ.of ?_ ?_ ?_ ?_ (fun _ _ _ _ _ _=>xT fun _ _=>rfl) <;> try k_is)
  (case q79=>refine' dZ.of ?_ ?_ ?_ ?_ (fun _ _ _ _ _ _=>Ep fun _ _ _=>rfl) <;> try k_is)
  (case q80 | q81 | q82 | q83 | q84 | q85 | q86=>refine' dZ.of ?_ ?_ ?_ ?_ (fun _ _ _ _ _ _=>xT fun _ _=>rfl) <;> try k_is)
  (case q87 | q88=>refine' dZ.of ?_ ?_ ?_ ?_ (fun _ _ _ _ _ _=>Ep fun _ _ _=>rfl) <;> try k_is)
  (case q89 | q90 | q91 | q92 | q93=>refine' dZ.of ?_ ?_ ?_ ?_ (fun _ _ _ _ _ _=>xT fun _ _=>rfl) <;> try k_is)
  (case q94=>refine' dZ.of ?_ ?_ ?_ ?_ (fun _ _ _ _ _ _=>DW fun _=>rfl) <;> try k_is)
  (case q95=>refine' dZ.of ?_ ?_ ?_ ?_ (fun _ _ _ _ _ _=>xT fun _ _=>rfl) <;> try k_is)
  (case q96=>refine' WD.of ?_ ?_ ?_ ?_ ?_ (fun _ F=>F.binds fun _ _ _ _ _ _ _=>xT fun _ _=>⟨_,rfl,rfl⟩) <;> (try k_is);all_goals try k_is)
  (case q97=>refine' .of (mg_of KX G ?_) (dZ.of ?_ ?_ ?_ ?_ (fun _ _ _ _ _ _=>DW fun _=>rfl)) <;> (try k_is);all_goals try k_is)
  (case q98=>refine' .of (mg_of KX G ?_) (dZ.of ?_ ?_ ?_ ?_ (fun _ _ _ _ _ _=>xT fun _ _=>rfl)) <;> (try k_is);all_goals try k_is)
  (case q99=>refine' dZ.of ?_ ?_ ?_ ?_ (fun _ _ _ _ _ _=>Ep fun _ _ _=>rfl) <;> try k_is)
  (case q100 | q101=>refine' .of (mg_of KX G ?_) (dZ.of ?_ ?_ ?_ ?_ (fun _ _ _ _ _ _=>xT fun _ _=>rfl)) <;> (try k_is);all_goals try k_is)
  (case q102=>refine' .of (mg_of KX G ?_) (dZ.of ?_ ?_ ?_ ?_ (fun _ _ _ _ _ _=>Qh fun _ _ _ _=>rfl)) <;> (try k_is);all_goals try k_is)
  (case q103 | q104=>refine' .of (mg_of KX G ?_) (dZ.of ?_ ?_ ?_ ?_ (fun _ _ _ _ _ _=>Ep fun _ _ _=>rfl)) <;> (try k_is);all_goals try k_is)
  (case q105=>refine' .of (mg_of KX G ?_) (dZ.of ?_ ?_ ?_ ?_ (fun _ _ _ _ _ _=>xT fun _ _=>rfl)) <;> (try k_is);all_goals try k_is)
  (case q106=>refine' .of (mg_of KX G ?_) (dZ.of ?_ ?_ ?_ ?_ (fun _ _ _ _ _ _=>Ep fun _ _ _=>rfl)) <;> (try k_is);all_goals try k_is)
  (case q107=>refine' .of (mg_of KX G ?_) (dZ.of ?_ ?_ ?_ ?_ (fun _ _ _ _ _ _=>Qh fun _ _ _ _=>rfl)) <;> (try k_is);all_goals try k_is)
  (case q108=>refine' .of (mg_of KX G ?_) (dZ.of ?_ ?_ ?_ ?_ (fun _ _ _ _ _ _=>xT fun _ _=>rfl)) <;> (try k_is);all_goals try k_is)
  (case q109=>refine' .of (mg_of KX G ?_) (dZ.of ?_ ?_ ?_ ?_ (fun _ _ _ _ _ _=>DW fun _=>rfl)) <;> (try k_is);all_goals try k_is)
  (case q110=>refine' mg_of KX G ?_;k_is)
  (case q111=>
   refine' L2.KTab.mk' ?lk ?c1 ?c2 ?c3 ?c4 ?sm ?rows ?nd
   (case lk=>k_is)
   (case c1=>exact rfl)
   (case c2=>exact rfl)
   (case c3=>exact rfl)
   (case c4=>exact rfl)
   (case sm=>exact rfl)
   (case nd=>decide +kernel)
   (case rows=>
    refine' L2.jF.cons ?hh0 ?lk0 ?cc0 ?dd0 ?vv0 ?zz0 ?rest0
    (case hh0=>exact rfl)
    (case lk0=>k_is)
    (case cc0=>exact rfl)
    (case dd0=>exact rfl)
    (case vv0=>exact .cons ⟨_,rfl⟩ (.cons ⟨_,rfl⟩ (.cons ⟨_,rfl⟩ .nil)))
    (case zz0=>decide)
    refine' L2.jF.cons ?hh1 ?lk1 ?cc1 ?dd1 ?vv1 ?zz1 ?rest1
    (case hh1=>exact rfl)
    (case lk1=>k_is)
    (case cc1=>exact rfl)
    (case dd1=>exact rfl)
    (case vv1=>exact .cons ⟨_,rfl⟩ (.cons ⟨_,rfl⟩ (.cons ⟨_,rfl⟩ .nil)))
    (case zz1=>decide)
    refine' L2.jF.cons ?hh2 ?lk2 ?cc2 ?dd2 ?vv2 ?zz2 ?rest2
    (case hh2=>exact rfl)
    (case lk2=>k_is)
    (case cc2=>exact rfl)
    (case dd2=>exact rfl)
    (case vv2=>exact .cons ⟨_,rfl⟩ (.cons ⟨_,rfl⟩ (.cons ⟨_,rfl⟩ .nil)))
    (case zz2=>decide)
    refine' L2.jF.cons ?hh3 ?lk3 ?cc3 ?dd3 ?vv3 ?zz3 ?rest3
    (case hh3=>exact rfl)
    (case lk3=>k_is)
    (case cc3=>exact rfl)
    (case dd3=>exact rfl)
    (case vv3=>exact .cons ⟨_,rfl⟩ (.cons ⟨_,rfl⟩ (.cons ⟨_,rfl⟩ .nil)))
    (case zz3=>decide)
    refine' L2.jF.cons ?hh4 ?lk4 ?cc4 ?dd4 ?vv4 ?zz4 ?rest4
    (case hh4=>exact rfl)
    (case lk4=>k_is)
    (case cc4=>exact rfl)
    (case dd4=>exact rfl)
    (case vv4=>exact .cons ⟨_,rfl⟩ (.cons ⟨_,rfl⟩ (.cons ⟨_,rfl⟩ .nil)))
    (case zz4=>decide)
    refine' L2.jF.cons ?hh5 ?lk5 ?cc5 ?dd5 ?vv5 ?zz5 ?rest5
    (case hh5=>exact rfl)
    (case lk5=>k_is)
    (case cc5=>exact rfl)
    (case dd5=>exact rfl)
    (case vv5=>exact .cons ⟨_,rfl⟩ (.cons ⟨_,rfl⟩ (.cons ⟨_,rfl⟩ .nil)))
    (case zz5=>decide)
    refine' L2.jF.cons ?hh6 ?lk6 ?cc6 ?dd6 ?vv6 ?zz6 ?rest6
    (case hh6=>exact rfl)
    (case lk6=>k_is)
    (case cc6=>exact rfl)
    (case dd6=>exact rfl)
    (case vv6=>exact .cons ⟨_,rfl⟩ (.cons ⟨_,rfl⟩ (.cons ⟨_,rfl⟩ .nil)))
    (case zz6=>decide)
    refine' L2.jF.cons ?hh7 ?lk7 ?cc7 ?dd7 ?vv7 ?zz7 ?rest7
    (case hh7=>exact rfl)
    (case lk7=>k_is)
    (case cc7=>exact rfl)
    (case dd7=>exact rfl)
    (case vv7=>exact .cons ⟨_,rfl⟩ (.cons ⟨_,rfl⟩ (.cons ⟨_,rfl⟩ .nil)))
    (case zz7=>decide)
    refine' L2.jF.cons ?hh8 ?lk8 ?cc8 ?dd8 ?vv8 ?zz8 ?rest8
    (case hh8=>exact rfl)
    (case lk8=>k_is)
    (case cc8=>exact rfl)
    (case dd8=>exact rfl)
    (case vv8=>exact .cons ⟨_,rfl⟩ (.cons ⟨_,rfl⟩ (.cons ⟨_,rfl⟩ .nil)))
    (case zz8=>decide)
    refine' L2.jF.cons ?hh9 ?lk9 ?cc9 ?dd9 ?vv9 ?zz9 ?rest9
    (case hh9=>exact rfl)
    (case lk9=>k_is)
    (case cc9=>exact rfl)
    (case dd9=>exact rfl)
    (case vv9=>exact .cons ⟨_,rfl⟩ (.cons ⟨_,rfl⟩ (.cons ⟨_,rfl⟩ .nil)))
    (case zz9=>decide)
    refine' L2.jF.cons ?hh10 ?lk10 ?cc10 ?dd10 ?vv10 ?zz10 ?rest10
    (case hh10=>exact rfl)
    (case lk10=>k_is)
    (case cc10=>exact rfl)
    (case dd10=>exact rfl)
    (case vv10=>exact .cons ⟨_,rfl⟩ (.cons ⟨_,rfl⟩ (.cons ⟨_,rfl⟩ .nil)))
    (case zz10=>decide)
    exact .nil))
  (case q112 | q113 | q114 | q115 | q116 | q117 | q118 | q119 | q120 | q121 | q122 | q123=>refine' mg_none_of KX G ?_;k_is)
  (case q124 | q125 | q126 | q127 | q128 | q129 | q130 | q131=>refine' gC (mg_of KX G ?_) ?_ <;> (try k_is);all_goals exact⟨_,rfl⟩)
