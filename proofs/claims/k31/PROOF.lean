import PyProof.Rows.All
import Wide.All
import OpenK.AllK
import Wide.FinOn
import Lean
import PyProof.EqAt
import PyProof.EqKinds
import PyProof.TupleCall
import PyProof.StrLawsChain
import PyProof.StrLawsOccR
import PyProof.StrLawsReplace
import PyProof.NeKinds
import PyProof.EnumStmt
import PyProof.EnumMake
import PyProof.ListRange
import PyProof.StationsW
import PyProof.ExcClass2
import PyProof.ExcInit
import PyProof.InstStoreFacts
import OpenK.KRaise
import PyProof.NsDelKeeps
import PyProof.RulesAs
import PyProof.Rows.Catch
import OpenK.KOwn
import PyProof.ExcArgsOwn
import PyProof.ExcAttrAll.ValueError
import PyProof.IsiBase
import PyProof.MaxThree
import PyProof.SeqI3
import KE.KIsAll
import KE.IntTextLaws
import PyProof.StrLawsIdx
import PyProof.FitsInt
import PySem.Challenge.RW_holdlane_k31_rows_of_the_plain_net
set_option Elab.async false
set_option linter.all false
set_option maxRecDepth 100000
namespace L2
open PySem PySem.Spec PyProof.Rows
noncomputable abbrev Key:=Sum Int Str
noncomputable def Dn:Key->Value->Bool
 | .inl k,v=>Value.isInt k v
 | .inr x,v=>Value.isStrOf x v
noncomputable def Xy (w:World):Key->Int
 | .inl k=>hashInt k
 | .inr x=>hashStr w x
theorem fc:∀{k:Key} {v:Value},Dn k v=true->(∃i t,k=Sum.inl i/\v=Value.int i t)∨(∃x t,k=Sum.inr x/\v=Value.str x t)
 | .inl i,v,h=>by
  obtain⟨t,e⟩:=Value.isInt_shape (k:=i) (v:=v) h
  exact .inl ⟨i,t,rfl,e⟩
 | .inr x,v,h=>by
  obtain⟨t,e⟩:=Value.isStrOf_shape (x:=x) (v:=v) h
  exact .inr ⟨x,t,rfl,e⟩
theorem Mx (i:Int) (t:Tok):Dn (.inl i) (.int i t)=true:=by simp [Dn,Value.isInt]
theorem Mr (x:Str) (t:Tok):Dn (.inr x) (.str x t)=true:=by simp [Dn,Value.isStrOf]
theorem U8 (a b:Int):decide ((Sum.inl a:Key)=Sum.inl b)=(a == b):=by
 by_cases e:a=b
 ·subst e;simp
 ·have h:¬(Sum.inl a:Key)=Sum.inl b:=fun q=>e (Sum.inl.inj q)
  rw [decide_eq_false h]
  exact(beq_eq_false_iff_ne.mpr e).symm
theorem UW (a b:Str):decide ((Sum.inr a:Key)=Sum.inr b)=decide (a=b):=by
 by_cases e:a=b
 ·subst e;simp
 ·have h:¬(Sum.inr a:Key)=Sum.inr b:=fun q=>e (Sum.inr.inj q)
  rw [decide_eq_false h,decide_eq_false e]
theorem U3 (a:Int) (b:Str):decide ((Sum.inl a:Key)=Sum.inr b)=false:=decide_eq_false (fun q=>nomatch q)
theorem Uo (a:Str) (b:Int):decide ((Sum.inr a:Key)=Sum.inl b)=false:=decide_eq_false (fun q=>nomatch q)
noncomputable def cz (prog:Program) (w:World):PySem.KeyKind prog w Key where
 is:=Dn
 hash:=Xy w
 inj:=fun v a b ha hb=>by
  rcases fc ha with ⟨i,t,rfl,rfl⟩ | ⟨x,t,rfl,rfl⟩
  ·rcases fc hb with ⟨j,u,rfl,e⟩ | ⟨y,u,rfl,e⟩
   ·injection e with e1 _;rw [e1]
   ·exact nomatch e
  ·rcases fc hb with ⟨j,u,rfl,e⟩ | ⟨y,u,rfl,e⟩
   ·exact nomatch e
   ·injection e with e1 _;rw [e1]
 byValue:=fun k v h=>by
  rcases fc h with ⟨i,t,rfl,rfl⟩ | ⟨x,t,rfl,rfl⟩ <;> rfl
 pyHash:=fun hv h=>by
  rcases fc hv with ⟨i,t,rfl,rfl⟩ | ⟨x,t,rfl,rfl⟩
  ·exact wpAny_pyHash_int h
  ·exact wpAny_pyHash_str h
 eqBool:=fun hu hv h=>by
  rcases fc hu with ⟨i,t,rfl,rfl⟩ | ⟨x,t,rfl,rfl⟩
  ·rcases fc hv with ⟨j,u,rfl,rfl⟩ | ⟨y,u,rfl,rfl⟩
   ·rw [U8] at h;exact wpAny_eqBool_int h
   ·rw [U3] at h;exact SeqAt.EqAt.int_str i t y u _ _ _ _ h
  ·rcases fc hv with ⟨j,u,rfl,rfl⟩ | ⟨y,u,rfl,rfl⟩
   ·rw [Uo] at h;exact SeqAt.EqAt.str_int x t j u _ _ _ _ h
   ·rw [UW] at h;exact wpAny_eqBool_str h
 «strs» :=fun k x t v h=>by
  rcases fc h with ⟨i,u,rfl,e⟩ | ⟨y,u,rfl,e⟩
  ·exact nomatch e
  ·injection e with e1 _
   subst e1
   cases v <;> rfl
theorem HY (prog:Program) (w:World) (i:Int) (t:Tok):(cz prog w).is (.inl i) (.int i t)=true:=Mx i t
theorem lg (prog:Program) (w:World) (x:Str) (t:Tok):(cz prog w).is (.inr x) (.str x t)=true:=Mr x t
inductive V where
 | non | bl (b:Bool) | int (i:Int) | str (x:Str) | byt (b:Array UInt8) | flt (b:UInt64) | ref (a:Addr) | ty (n:String)
 deriving DecidableEq
noncomputable def RelV:V->Value->Prop
 | .non,u=>u=Value.none
 | .bl b,u=>u=Value.bool b
 | .int i,u=>∃t,u=Value.int i t
 | .str x,u=>∃t,u=Value.str x t
 | .byt b,u=>∃t,u=Value.bytes b t
 | .flt b,u=>∃t,u=Value.float b t
 | .ref a,u=>u=Value.ref a
 | .ty n,u=>u=Value.type n
noncomputable abbrev Vals:List V->List Value->Prop:=Paired RelV
theorem Vals.length {xs:List V} {us:List Value} (r:Vals xs us):xs.length=us.length:=Paired.length r
theorem Vals.get:∀{xs:List V} {us:List Value} {i:Nat} {x:V},Vals xs us->xs[i]?=some x->∃u,us[i]?=some u/\RelV x u
 | _,_,_,_,.nil,e=>by simp at e
 | _,_,0,_,.cons r _,e=>by simp at e;subst e;exact⟨_,rfl,r⟩
 | _,_,i+1,x,.cons _ t,e=>by
  obtain⟨u,h1,h2⟩:=Vals.get (i:=i) (x:=x) t (by simpa using e)
  exact⟨u,by simpa using h1,h2⟩
theorem Vals.append:∀{xs ys:List V} {us ws:List Value},Vals xs us->Vals ys ws->Vals (xs ++ ys) (us ++ ws)
 | _,_,_,_,.nil,s=>s
 | _,_,_,_,.cons r t,s=>.cons r (Vals.append t s)
theorem Vals.take:∀{xs:List V} {us:List Value} (n:Nat),Vals xs us->Vals (xs.take n) (us.take n)
 | _,_,0,_=>.nil
 | _,_,_+1,.nil=>.nil
 | _,_,n+1,.cons r t=>.cons r (Vals.take n t)
theorem Vals.drop:∀{xs:List V} {us:List Value} (n:Nat),Vals xs us->Vals (xs.drop n) (us.drop n)
 | _,_,0,r=>r
 | _,_,_+1,.nil=>.nil
 | _,_,n+1,.cons _ t=>Vals.drop n t
noncomputable def qY:Option V->Option Value->Prop
 | some v,some u=>RelV v u
 | none,none=>True
 | _,_=>False
noncomputable def KV {κ:Type}:List (κ×V)->List (κ×Value)->Prop:=Paired fun(p:κ×V) (q:κ×Value)=>p.1=q.1/\RelV p.2 q.2
noncomputable def kV:Key->V
 | .inl i=>.int i
 | .inr x=>.str x
inductive HO where
  | lst (xs:List V)
  | tup (xs:List V)
  | dK (kvs:List (Key×V)) | dT (kvs:List (List Key×V))
  | set (S:Int->Bool) (n:Nat)
  | ins (C dx:Addr) (fs:List (Str×V))
  | own (x:Addr)
  | xd (fs:List (Str×V))
  | met (f x:Addr)
  | rng (lo hi:Int)
  | frz (o:Obj) (u:HO)
  | tbl (ps:Array Value)
  | ext (φ:Heap->Prop)
noncomputable abbrev Hp:=Addr->Option HO
noncomputable def upd (H:Hp) (a:Addr) (o:HO):Hp:=fun b=>if b=a then some o else H b
theorem au {H:Hp} {a:Addr} {o:HO}:upd H a o a=some o:=by unfold upd;rw [if_pos rfl]
theorem aG {H:Hp} {a b:Addr} {o:HO} (h:b≠a):upd H a o b=H b:=by unfold upd;rw [if_neg h]
theorem um {H:Hp} {a:Addr} {o u:HO}:upd (upd H a o) a u=upd H a u:=by
 funext b;unfold upd;split <;> rfl
theorem uK {H:Hp} {a b:Addr} {o u:HO} (h:H a=some o) (h':H b=some u) (d:o≠u):a≠b:=by
 intro e;subst e;rw [h] at h';exact d (Option.some.inj h')
theorem aF {H:Hp} {a b:Addr} {o:HO} (h:H a=some o) (h':H b=none):a≠b:=by
 intro e;subst e;rw [h] at h';cases h'
section
variable (P:Program) (w:World)
noncomputable def fV (H:Hp) (h:Heap) (a:Addr):HO->Prop
 | .lst xs=>xs.length<=sizeLine/\∃(its:List Value) (n:Nat),Vals xs its/\h.get? a=some { cls:=.type "list",data:=.seq its.toArray n }
 | .tup xs=>xs.length<=sizeLine/\∃its:List Value,Vals xs its/\IsTup h a its.toArray
 | .dK kvs=>kvs.length<=sizeLine/\(a == sysModules)=false/\∃vs,KV kvs vs/\h.DictOf (cz P w) a vs
 | .dT kvs=>kvs.length<=sizeLine/\(a == sysModules)=false/\∃xs:List (List Key×Addr×Value),
   Paired (fun(p:List Key×V) (q:List Key×Addr×Value)=>p.1=q.1/\H q.2.1=some (.tup (p.1.map kV))/\RelV p.2 q.2.2) kvs xs/\
   ∃o es ep,h.get? a=some o/\o.ExactDict/\o.data=.dict es ep/\es.toList=xs.map (entryOfKey (tupleKind (cz P w)))/\(xs.map (·.1)).Nodup
 | .set S n=>h.SetOf (intKind P w) a S n
 | .ins C dx fs=>H dx=some (.own a)/\fs.length<=1000/\dx≠a/\h.get? a=some (PySem.W.instObj C dx)/\
   ∃mA,h.Ns1 dx mA/\(∀f,qY (fs.lookup f) (mA f))/\PySem.Within mA (fs.map (·.1))
 | .own _=>∃o,h.get? a=some o
 | .xd fs=>∃mA,h.Ns1 a mA/\∀f,qY (fs.lookup f) (mA f)
 | .rng lo hi=>∃t u v,h.get? a=some { cls:=.type "range",data:=.fields #[.int lo t,.int hi u,.int 1 v] }
 | .frz o u=>h.get? a=some o/\fV H h a u
 | .tbl ps=>h.get? a=some { cls:=.none,data:=.fields ps }
 | .met f x=>h.get? a=some (PySem.W.methodObj (.ref f) (.ref x))
 | .ext φ=>φ h/\(∃o,h.get? a=some o)/\∀h1 h2:Heap,φ h1->(∀o,h1.get? a=some o->h2.get? a=some o)->φ h2
noncomputable def ut (H:Hp) (h:Heap):Prop:=∀a o,H a=some o->fV P w H h a o
end
section
variable {P:Program} {w:World} {H H':Hp} {h h':Heap} {a:Addr} {o:HO}
theorem fV.lt (x:fV P w H h a o):a <h.objs.size:=by
 cases o with
 | lst xs=>obtain⟨_,_,_,_,e⟩:=x;exact Heap.lt_size e
 | tup xs=>obtain⟨_,_,_,p⟩:=x;exact p.lt
 | dK kvs=>obtain⟨_,_,_,_,o,_,_,e,_⟩:=x;exact Heap.lt_size e
 | dT kvs=>obtain⟨_,_,_,_,o,_,_,e,_⟩:=x;exact Heap.lt_size e
 | set S n=>obtain⟨o,_,_,_,e,_⟩:=x;exact Heap.lt_size e
 | ins C dx fs=>obtain⟨_,_,_,e,_⟩:=x;exact Heap.lt_size e
 | own y=>obtain⟨_,e⟩:=x;exact Heap.lt_size e
 | xd fs=>obtain⟨_,⟨_,_,_,e,_⟩,_⟩:=x;exact Heap.lt_size e
 | rng lo hi=>obtain⟨_,_,_,e⟩:=x;exact Heap.lt_size e
 | frz ob u=>obtain⟨e,_⟩:=x;exact Heap.lt_size e
 | tbl ps=>exact Heap.lt_size (show h.get? a=some _ from x)
 | met f y=>exact Heap.lt_size (show h.get? a=some _ from x)
 | ext φ=>obtain⟨_,⟨_,e⟩,_⟩:=x;exact Heap.lt_size e
theorem Paired.mapP {α β:Type} {F G:α->β->Prop}:∀{l₁:List α} {l₂:List β},Paired F l₁ l₂->(∀a b,F a b->G a b)->Paired G l₁ l₂
 | _,_,.nil,_=>.nil
 | _,_,.cons r t,f=>.cons (f _ _ r) (Paired.mapP t f)
theorem fV.stay (x:fV P w H h a o) (k:∀b u,(b=a∨H b=some (.own a))->h.get? b=some u->h'.get? b=some u)
  (ho:∀b,H b=some (.own a)->H' b=some (.own a)) (ht:∀b xs,H b=some (.tup xs)->H' b=some (.tup xs)):fV P w H' h' a o:=by
 induction o with
 | lst xs=>obtain⟨z,its,n,r,e⟩:=x;exact⟨z,its,n,r,k _ _ (.inl rfl) e⟩
 | tup xs=>obtain⟨z,its,r,ob,e,c⟩:=x;exact⟨z,its,r,ob,k _ _ (.inl rfl) e,c⟩
 | dK kvs=>obtain⟨z,y,vs,r,ob,es,ep,e,c⟩:=x;exact⟨z,y,vs,r,ob,es,ep,k _ _ (.inl rfl) e,c⟩
 | dT kvs=>
  obtain⟨z,y,xs,r,ob,es,ep,e,c⟩:=x
  exact⟨z,y,xs,Paired.mapP r fun p q z=>⟨z.1,ht _ _ z.2.1,z.2.2⟩,ob,es,ep,k _ _ (.inl rfl) e,c⟩
 | set S n=>obtain⟨ob,es,ep,t,e,c⟩:=x;exact⟨ob,es,ep,t,k _ _ (.inl rfl) e,c⟩
 | ins C dx fs=>
  obtain⟨d,z,ne,e,mA,⟨od,es,ep,e2,c⟩,r⟩:=x
  exact⟨ho _ d,z,ne,k _ _ (.inl rfl) e,mA,⟨od,es,ep,k _ _ (.inr d) e2,c⟩,r⟩
 | own y=>obtain⟨ob,e⟩:=x;exact⟨ob,k _ _ (.inl rfl) e⟩
 | xd fs=>obtain⟨mA,⟨od,es,ep,e,c⟩,r⟩:=x;exact⟨mA,⟨od,es,ep,k _ _ (.inl rfl) e,c⟩,r⟩
 | rng lo hi=>obtain⟨t,u,v,e⟩:=x;exact⟨t,u,v,k _ _ (.inl rfl) e⟩
 | frz ob u ih=>obtain⟨e,q⟩:=x;exact⟨k _ _ (.inl rfl) e,ih q⟩
 | tbl ps=>
  have e:h.get? a=some { cls:=.none,data:=.fields ps }:=x
  show h'.get? a=some { cls:=.none,data:=.fields ps }
  exact k a _ (.inl rfl) e
 | met f y=>
  have e:h.get? a=some (PySem.W.methodObj (.ref f) (.ref y)):=x
  show h'.get? a=some (PySem.W.methodObj (.ref f) (.ref y))
  exact k a _ (.inl rfl) e
 | ext φ=>obtain⟨p,⟨o,e⟩,st⟩:=x;exact⟨st _ _ p fun o q=>k _ _ (.inl rfl) q,⟨o,k _ _ (.inl rfl) e⟩,st⟩
theorem ut.lt (x:ut P w H h) (e:H a=some o):a <h.objs.size:=(x a o e).lt
theorem ut.fresh (x:ut P w H h) (e:h.objs.size<=a):H a=none:=by
 cases q:H a with
 | none=>rfl
 | some u=>exact absurd (Nat.lt_of_lt_of_le (x.lt q) e) (Nat.lt_irrefl _)
theorem ut.kept (x:ut P w H h) (k:∀b u,h.get? b=some u->h'.get? b=some u):ut P w H h':=fun a o e=>
 (x a o e).stay (fun b u _ q=>k b u q) (fun _ q=>q) fun _ _ q=>q
theorem ut.laid (x:ut P w H h) (k:∀b u,h.get? b=some u->h'.get? b=some u) (hp:h.objs.size<=a) (new:fV P w (upd H a o) h' a o):ut P w (upd H a o) h':=fun b u e=>by
 have hn:=x.fresh hp
 by_cases hb:b=a
 ·subst hb;rw [au] at e;cases e;exact new
 ·rw [aG hb] at e
  exact(x b u e).stay (fun c v _ q=>k c v q) (fun c q=>by rw [aG (aF q hn)];exact q) fun c xs q=>by rw [aG (aF q hn)];exact q
end
noncomputable def Rd (H:Hp) (a:Addr) (u:HO):Prop:=H a=some u∨∃o,H a=some (.frz o u)
theorem Rd.ok {P:Program} {w:World} {H:Hp} {h:Heap} {a:Addr} {u:HO} (r:Rd H a u) (x:ut P w H h):fV P w H h a u:=by
 rcases r with r | ⟨o,r⟩
 ·exact x a u r
 ·obtain⟨_,q⟩:=x a _ r
  exact q
noncomputable def VB:Option HO->Prop
 | some (.lst _)=>True
 | some (.dK _)=>True
 | some (.dT _)=>True
 | some (.set _ _)=>True
 | some (.ins _ _ _)=>True
 | some (.ext _)=>True
 | _=>False
section
variable {P:Program} {w:World} {H:Hp} {h h':Heap} {x e:Addr} {o':HO}
theorem ut.write (ok:ut P w H h) (mu:VB (H x)) (he:e=x∨H e=some (.own x)) (k:∀b u,b≠e->h.get? b=some u->h'.get? b=some u) (heo:∃u,h'.get? e=some u)
  (new:fV P w (upd H x o') h' x o'):ut P w (upd H x o') h':=fun b u q=>by
 have nown:∀c y,H c=some (.own y)->c≠x:=fun c y r z=>by subst z;rw [r] at mu;exact mu
 have ntup:∀c xs,H c=some (.tup xs)->c≠x:=fun c xs r z=>by subst z;rw [r] at mu;exact mu
 by_cases hb:b=x
 ·subst hb;rw [au] at q;cases q;exact new
 ·rw [aG hb] at q
  by_cases hbe:b=e
  ·have q':H b=some (.own x):=by
    rcases he with z | z
    ·exact absurd (hbe.trans z) hb
    ·rw [hbe];exact z
   rw [q] at q';cases q'
   obtain⟨v,hv⟩:=heo
   exact⟨v,by rw [hbe];exact hv⟩
  ·refine(ok b u q).stay (fun c v hc r=>k c v ?_ r) (fun c r=>by rw [aG (nown c b r)];exact r) fun c xs r=>by rw [aG (ntup c xs r)];exact r
   rcases hc with rfl | hc
   ·exact hbe
   ·rintro rfl
    rcases he with z | z
    ·exact nown c b hc z
    ·rw [hc] at z;cases z;exact hb rfl
end
structure Un (fs ex:List Addr) (H H':Hp) (h h':Heap):Prop where
 keep:∀b o,h.get? b=some o->H b=none->b∉fs->b∉ex->h'.get? b=some o
 slot:∀b o,h.get? b=some o->H b=none->b∈fs->b∉ex->∃sl,h'.get? b=some { o with slots:=sl }
 free:∀b o,h.get? b=some o->H b=none->b∉ex->H' b=none
 there:∀b o,h.get? b=some o->b∉ex->∃o',h'.get? b=some o'
 tups:∀b xs,H b=some (.tup xs)->H' b=some (.tup xs)
 frzs:∀b o u,H b=some (.frz o u)->H' b=some (.frz o u)
 tbls:∀b ps,H b=some (.tbl ps)->∃more,H' b=some (.tbl (ps ++ more))
section
variable {fs fs' ex ex':List Addr} {H H1 H2:Hp} {h h1 h2 h':Heap} {a x e:Addr} {o:HO}
theorem Un.any (u:Un fs ex H H1 h h1) {b:Addr} {ob:Obj} (q:h.get? b=some ob) (n:H b=none) (hx:b∉ex):∃sl,h1.get? b=some { ob with slots:=sl }:=by
 by_cases hb:b∈fs
 ·exact u.slot b ob q n hb hx
 ·exact⟨ob.slots,u.keep b ob q n hb hx⟩
theorem Un.kept (k:∀b u,h.get? b=some u->h'.get? b=some u):Un fs ex H H h h':=
 ⟨fun b ob q _ _ _=>k b ob q,fun b ob q _ _ _=>⟨ob.slots,k b ob q⟩,fun _ _ _ n _=>n,fun b ob q _=>⟨ob,k b ob q⟩,fun _ _ q=>q,fun _ _ _ q=>q,fun _ ps q=>⟨#[],by rw [q];simp⟩⟩
theorem Un.refl:Un fs ex H H h h:=Un.kept fun _ _ q=>q
theorem Un.laid (k:∀b u,h.get? b=some u->h'.get? b=some u) (hp:h.objs.size<=a) (hn:H a=none):Un fs ex H (upd H a o) h h' where
 keep:=fun b u q _ _ _=>k b u q
 slot:=fun b u q _ _ _=>⟨u.slots,k b u q⟩
 free:=fun b u q n _=>by rw [aG (Nat.ne_of_lt (Nat.lt_of_lt_of_le (Heap.lt_size q) hp))];exact n
 there:=fun b u q _=>⟨u,k b u q⟩
 tups:=fun b xs q=>by rw [aG (aF q hn)];exact q
 frzs:=fun b u xs q=>by rw [aG (aF q hn)];exact q
 tbls:=fun b ps q=>⟨#[],by rw [aG (aF q hn),q];simp⟩
theorem Un.write (mu:VB (H x)) (he:e=x∨H e=some (.own x)) (k:∀b u,b≠e->h.get? b=some u->h'.get? b=some u) (heo:∃u,h'.get? e=some u):Un fs ex H (upd H x o) h h':=by
 have hx:∀b,H b=none->b≠x:=fun b n z=>by subst z;rw [n] at mu;exact mu
 have hb:∀b,H b=none->b≠e:=fun b n z=>by
  subst z
  rcases he with r | r
  ·exact hx b n r
  ·rw [n] at r;cases r
 have hm:∀b u,H b=some u->¬VB (some u)->b≠x:=fun b u q nm z=>by subst z;rw [q] at mu;exact nm mu
 refine⟨fun b u q n _ _=>k b u (hb b n) q,fun b u q n _ _=>⟨u.slots,k b u (hb b n) q⟩,fun b u q n _=>by rw [aG (hx b n)];exact n,fun b u q _=>?_,
  fun b xs q=>by rw [aG (hm b _ q fun z=>z)];exact q,fun b u xs q=>by rw [aG (hm b _ q fun z=>z)];exact q,fun b ps q=>⟨#[],by rw [aG (hm b _ q fun z=>z),q];simp⟩⟩
 by_cases hbe:b=e
 ·subst hbe;exact heo
 ·exact⟨u,k b u hbe q⟩
end
noncomputable def Xd (h:Heap) (H:Hp):List Addr:=(List.range h.objs.size).filter fun a=>(H a).isSome
noncomputable def Fi (h:Heap) (H:Hp):Heap:=PySem.W.hideAll h (Xd h H)
theorem MP (h:Heap) (H:Hp):(Fi h H).objs.size=h.objs.size:=PySem.W.hideAll_size _ _
theorem Nt {h:Heap} {H:Hp} {b:Addr} {o:Obj} (e:h.get? b=some o) (n:H b=none):(Fi h H).get? b=some o:=
 PySem.W.hideAll_get _ e fun hm=>by
  have q:(H b).isSome=true:=(List.mem_filter.mp hm).2
  rw [n] at q;simp at q
theorem QS {h:Heap} {H:Hp} {b:Addr} {o:Obj} (e:(Fi h H).get? b=some o):h.get? b=some o/\H b=none:=by
 have e':h.get? b=some o:=PySem.W.of_hideAll (Xd h H) e
 refine⟨e',?_⟩
 cases q:H b with
 | none=>rfl
 | some x=>
  have hm:b∈Xd h H:=List.mem_filter.mpr ⟨List.mem_range.mpr (Heap.lt_size e'),by simp [q]⟩
  have z:(Fi h H).get? b=none:=PySem.W.hideAll_none (Xd h H) hm
  rw [z] at e;cases e
structure Mod (K:PySem.W.Frag) (mg:Str->Option Value) (base:Heap):Prop where
 kin:K.In base
 glob:base.Ns mainGlobals mg
 blt:∃mb,base.Ns builtinsNs mb/\∀x:Str,x≠ "__name__" ->mb x=bootBuiltins x
 nolimit:base.NoLimit
structure Cx where
 prog:Program
 w:World
 K:PySem.W.Frag
 mg:Str->Option Value
 base:Heap
 A:Around
 N:List Str
 s₀:Shared
 H₀:Hp
 env:Env
 outer:List Env
 stack:List Env
 ex:List Addr
 fn:Str->Bool
 calm:Bool
 pn:List (Addr×Obj)
 xe:Value->Shared->Prop
noncomputable def frs (l:List Env):List Addr:=l.filterMap (·.frame)
noncomputable abbrev Cx.fs (X:Cx):List Addr:=frs X.outer
noncomputable def WY (sc:Scope) (x:Str):Prop:=sc.names.lookup x=some .local∨sc.names.lookup x=some .cell∨sc.names.lookup x=some .free
noncomputable def Loc (sc:Scope) (x:Str):Prop:=sc.names.lookup x=some .local∨sc.names.lookup x=some .cell
noncomputable def Look (env:Env) (h:Heap) (m:Str->Option Value) (x:Str) (u:Value):Prop:=
 (env.kindOf x=some .local/\m x=some u)∨((env.kindOf x=some .cell∨env.kindOf x=some .free)/\∃c,env.cells.lookup x=some c/\h.IsCell c (some u))
structure Cx.Ok (X:Cx):Prop where
 mod:Mod X.K X.mg X.base
 kind:X.env.scope.kind=.function
 glob:X.env.globals=mainGlobals
 blt:X.env.builtins=builtinsNs
 above:X.s₀.heap.objs.size<=X.env.locals
 inj:∀x y c,X.env.cells.lookup x=some c->X.env.cells.lookup y=some c->x=y
 has:∀x,(X.env.kindOf x=some .cell∨X.env.kindOf x=some .free)->∃c,X.env.cells.lookup x=some c
 cab:∀x c,X.fn x=true->X.env.cells.lookup x=some c->X.s₀.heap.objs.size<=c
 hd:X.calm=true->X.A.handled=none
 frames:X.A.frames=some X.stack
 stk:X.stack=X.outer∨(X.stack=X.env:: X.outer/\X.env.frame=some X.env.locals)
 exf:∀b∈X.ex,b≠X.env.locals/\∀x c,X.env.cells.lookup x=some c->c≠b
 bs:∀b o,X.base.get? b=some o->X.s₀.heap.get? b=some o/\X.H₀ b=none
 bsz:X.base.objs.size<=X.s₀.heap.objs.size
 noex:∀b o,X.base.get? b=some o->b∉X.ex
 exfs:∀b∈X.ex,b∉X.fs
 funs:X.s₀.heap.FunFrames X.base X.outer
 frf:∀b∈X.fs,X.H₀ b=none
structure Inv (X:Cx) (pins:List (Addr×Obj)) (σ:List (Option V)) (H:Hp) (s:Shared):Prop where
 ok:X.Ok
 os:s.os=X.s₀.os
 bare:AllBare s.gens
 base:Un X.fs X.ex X.H₀ H X.s₀.heap s.heap
 loc:∃m,s.heap.Ns X.env.locals m/\∀(i:Nat) (x:Str) (v:V),X.N[i]?=some x->σ[i]?=some (some v)->WY X.env.scope x->∃u,RelV v u/\Look X.env s.heap m x u
 cell:∀x c,X.env.cells.lookup x=some c->∃v,s.heap.IsCell c v
 free:H X.env.locals=none
 freeC:∀x c,X.env.cells.lookup x=some c->H c=none
 pin:∀p∈X.pn ++ pins,s.heap.get? p.1=some p.2/\H p.1=none/\p.1≠X.env.locals/\p.1∉X.fs/\∀v,p.2.data≠.cell v
 hok:ut X.prog X.w H s.heap
 len:σ.length=X.N.length
section
variable {X:Cx} {pins:List (Addr×Obj)} {σ:List (Option V)} {H H':Hp} {s:Shared} {h':Heap}
theorem Cx.Ok.nofr (ok:X.Ok) {b:Addr} {o:Obj} (e:X.base.get? b=some o):b∉X.fs:=fun hb=>by
 have:=(ok.funs.mem hb).1
 rw [e] at this;cases this
theorem Inv.bs (I:Inv X pins σ H s):∀b o,X.base.get? b=some o->s.heap.get? b=some o/\H b=none:=fun b o e=>
 ⟨I.base.keep b o (I.ok.bs b o e).1 (I.ok.bs b o e).2 (I.ok.nofr e) (I.ok.noex b o e),I.base.free b o (I.ok.bs b o e).1 (I.ok.bs b o e).2 (I.ok.noex b o e)⟩
theorem Inv.bk (I:Inv X pins σ H s):∀b o,X.base.get? b=some o->s.heap.get? b=some o:=fun b o e=>(I.bs b o e).1
theorem Inv.mod (I:Inv X pins σ H s):Mod X.K X.mg X.base:=I.ok.mod
theorem Inv.kIn (I:Inv X pins σ H s):X.K.In s.heap:=I.ok.mod.kin.keeps I.bk
theorem Inv.lt (I:Inv X pins σ H s):X.env.locals <s.heap.objs.size:=let ⟨_,hn,_⟩:=I.loc;hn.lt
theorem Inv.sz (I:Inv X pins σ H s):X.s₀.heap.objs.size<=s.heap.objs.size:=Nat.le_trans I.ok.above (Nat.le_of_lt I.lt)
theorem Inv.nofs (I:Inv X pins σ H s) {a:Addr} (h:s.heap.objs.size<=a):a∉X.fs:=fun hb=>by
 obtain⟨_,o,ho,_⟩:=I.ok.funs.mem hb
 exact absurd (Nat.lt_of_lt_of_le (Heap.lt_size ho) (Nat.le_trans I.sz h)) (Nat.lt_irrefl _)
theorem Inv.cne (I:Inv X pins σ H s):∀x c,X.env.cells.lookup x=some c->c≠X.env.locals:=fun x c e z=>by
 obtain⟨v,o,ho,hd⟩:=I.cell x c e
 obtain⟨m,⟨o',es,ep,ho',hd',_⟩,_⟩:=I.loc
 rw [z,ho'] at ho;cases ho;rw [hd'] at hd;cases hd
theorem Inv.funs (I:Inv X pins σ H s):s.heap.FunFrames X.base X.outer:=by
 have all:∀(l:List Env),(∀b∈frs l,b∈X.fs)->X.s₀.heap.FunFrames X.base l->s.heap.FunFrames X.base l:=by
  intro l
  induction l with
  | nil=>intro _ _;trivial
  | cons env r ih=>
   intro hs hl
   obtain⟨hk,⟨L,o,hf,hn,ho,hd⟩,hr⟩:=hl
   have hL:L∈X.fs:=hs L (by unfold frs;rw [List.filterMap_cons,hf];exact List.mem_cons_self)
   obtain⟨sl,e⟩:=I.base.slot L o ho (I.ok.frf L hL) hL fun z=>I.ok.exfs L z hL
   exact⟨hk,⟨L,_,hf,hn,e,hd⟩,ih (fun b hb=>hs b (by unfold frs;rw [List.filterMap_cons,hf];exact List.mem_cons_of_mem _ hb)) hr⟩
 exact all X.outer (fun _ hb=>hb) I.ok.funs
theorem Inv.stack (I:Inv X pins σ H s):s.heap.FunFrames X.base X.stack:=by
 rcases I.ok.stk with e | ⟨e,hf⟩
 ·rw [e];exact I.funs
 ·rw [e]
  obtain⟨m,hn,_⟩:=I.loc
  refine .cons (by rw [I.ok.kind];decide) hf hn ?_ I.funs
  exact Heap.get?_none_of_le (Nat.le_trans I.ok.bsz I.ok.above)
theorem Inv.stkSub (I:Inv X pins σ H s):∀b∈frs X.stack,b∈X.env.locals:: X.fs:=fun b hb=>by
 rcases I.ok.stk with e | ⟨e,hf⟩
 ·rw [e] at hb;exact List.mem_cons_of_mem _ hb
 ·rw [e] at hb
  unfold frs at hb
  rw [List.filterMap_cons,hf] at hb
  exact hb
theorem Inv.stkFree (I:Inv X pins σ H s):∀b∈frs X.stack,H b=none:=fun b hb=>by
 rcases List.mem_cons.mp (I.stkSub b hb) with e | hb
 ·rw [e];exact I.free
 ·obtain⟨_,o,ho,_⟩:=I.ok.funs.mem hb
  exact I.base.free b o ho (I.ok.frf b hb) fun z=>I.ok.exfs b z hb
theorem Inv.step {g':Array GenState} {t':Nat} {d':Drawn} {ch:List Addr} (I:Inv X pins σ H s)
  (hch:∀b∈ch,(b∈X.ex∨X.s₀.heap.objs.size<=b)/\b≠X.env.locals/\(∀x c,X.env.cells.lookup x=some c->c≠b)/\∀p∈X.pn ++ pins,p.1≠b)
  (keep:∀b o,b≠X.env.locals->b∉X.fs->b∉ch->s.heap.get? b=some o->H b=none->h'.get? b=some o)
  (slot:∀b o,b≠X.env.locals->b∈X.fs->b∉ch->s.heap.get? b=some o->H b=none->∃sl,h'.get? b=some { o with slots:=sl }) (free:∀b o,b∉ch->s.heap.get? b=some o->H b=none->H' b=none)
  (there:∀b o,b∉ch->s.heap.get? b=some o->∃o',h'.get? b=some o')
  (tups:∀b xs,H b=some (.tup xs)->H' b=some (.tup xs)) (frzs:∀b o u,H b=some (.frz o u)->H' b=some (.frz o u)) (tbls:∀b ps,H b=some (.tbl ps)->∃more,H' b=some (.tbl (ps ++ more)))
  (ns:∀m,s.heap.Ns X.env.locals m->h'.Ns X.env.locals m) (hok:ut X.prog X.w H' h') (hg:AllBare g'):
  Inv X pins σ H' { s with heap:=h',gens:=g',drawn:=d',toks:=t' }:=by
 have neL:∀b o,X.s₀.heap.get? b=some o->b≠X.env.locals:=fun b o e=>Nat.ne_of_lt (Nat.lt_of_lt_of_le (Heap.lt_size e) I.ok.above)
 have neC:∀b o,X.s₀.heap.get? b=some o->b∉X.ex->b∉ch:=fun b o e hx hb=>by
  rcases(hch b hb).1 with z | z
  ·exact hx z
  ·exact absurd (Nat.lt_of_lt_of_le (Heap.lt_size e) z) (Nat.lt_irrefl _)
 have cellK:∀x c,X.env.cells.lookup x=some c->∀v,s.heap.IsCell c v->h'.IsCell c v:=fun x c e v ⟨o,ho,hd⟩=>by
  have nch:c∉ch:=fun z=>(hch c z).2.2.1 x c e rfl
  by_cases hc:c∈X.fs
  ·obtain⟨sl,q⟩:=slot c o (I.cne x c e) hc nch ho (I.freeC x c e)
   exact⟨_,q,hd⟩
  ·exact⟨o,keep c o (I.cne x c e) hc nch ho (I.freeC x c e),hd⟩
 refine⟨I.ok,I.os,hg,⟨fun b o e n hb hx=>?_,fun b o e n hb hx=>?_,fun b o e n hx=>?_,fun b o e hx=>?_,fun b xs e=>tups b xs (I.base.tups b xs e),fun b o xs e=>frzs b o xs (I.base.frzs b o xs e),fun b ps e=>?_⟩,?_,fun x c e=>?_,?_,fun x c e=>?_,fun p hp=>?_,hok,I.len⟩
 ·exact keep b o (neL b o e) hb (neC b o e hx) (I.base.keep b o e n hb hx) (I.base.free b o e n hx)
 ·obtain⟨sl,e1⟩:=I.base.slot b o e n hb hx
  obtain⟨sl',e2⟩:=slot b _ (neL b o e) hb (neC b o e hx) e1 (I.base.free b o e n hx)
  exact⟨sl',e2⟩
 ·obtain⟨o',e1⟩:=I.base.there b o e hx
  exact free b o' (neC b o e hx) e1 (I.base.free b o e n hx)
 ·obtain⟨o',e1⟩:=I.base.there b o e hx
  exact there b o' (neC b o e hx) e1
 ·obtain⟨m1,e1⟩:=I.base.tbls b ps e
  obtain⟨m2,e2⟩:=tbls b _ e1
  exact⟨m1 ++ m2,by rw [e2,Array.append_assoc]⟩
 ·obtain⟨m,hn,hl⟩:=I.loc
  refine⟨m,ns m hn,fun i x v e1 e2 e3=>?_⟩
  obtain⟨u,r,l⟩:=hl i x v e1 e2 e3
  refine⟨u,r,?_⟩
  rcases l with l | ⟨k,c,e,z⟩
  ·exact .inl l
  ·exact .inr ⟨k,c,e,cellK x c e _ z⟩
 ·obtain⟨v,z⟩:=I.cell x c e
  exact⟨v,cellK x c e v z⟩
 ·obtain⟨m,⟨o,_,_,ho,_⟩,_⟩:=I.loc
  exact free _ o (fun z=>(hch _ z).2.1 rfl) ho I.free
 ·obtain⟨v,o,ho,hd⟩:=I.cell x c e
  exact free c o (fun z=>(hch c z).2.2.1 x c e rfl) ho (I.freeC x c e)
 ·obtain⟨e,n,ne,nf,d⟩:=I.pin p hp
  have nch:p.1∉ch:=fun z=>(hch p.1 z).2.2.2 p hp rfl
  exact⟨keep p.1 p.2 ne nf nch e n,free p.1 p.2 nch e n,ne,nf,d⟩
theorem Inv.un {t':Nat} (I:Inv X pins σ H s) (u:Un X.fs [] H H' s.heap h') (hok:ut X.prog X.w H' h'):Inv X pins σ H' { s with heap:=h',toks:=t' }:=by
 obtain⟨m,⟨o,es,ep,ho,r⟩,_⟩:=id I.loc
 obtain⟨sl,hL⟩:=u.any ho I.free (by simp)
 exact I.step (g':=s.gens) (d':=s.drawn) (ch:=[]) (fun _ z=>nomatch z) (fun b o _ hb _ e n=>u.keep b o e n hb (by simp)) (fun b o _ hb _ e n=>u.slot b o e n hb (by simp)) (fun b o _ e n=>u.free b o e n (by simp)) (fun b o _ e=>u.there b o e (by simp)) u.tups u.frzs u.tbls (fun m' hm=>by
  obtain⟨o',es',ep',ho',r'⟩:=hm
  rw [ho] at ho';cases ho'
  exact⟨_,es',ep',hL,r'⟩) hok I.bare
theorem Inv.call {g':Array GenState} {t':Nat} {d':Drawn} {ch:List Addr} (I:Inv X pins σ H s) (u:Un (frs X.stack) ch H H' s.heap h') (hok:ut X.prog X.w H' h') (hg:AllBare g')
  (hch:∀b∈ch,(b∈X.ex∨X.s₀.heap.objs.size<=b)/\b≠X.env.locals/\(∀x c,X.env.cells.lookup x=some c->c≠b)/\∀p∈X.pn ++ pins,p.1≠b):
  Inv X pins σ H' { s with heap:=h',gens:=g',drawn:=d',toks:=t' }:=by
 obtain⟨m,⟨o,es,ep,ho,r⟩,_⟩:=id I.loc
 obtain⟨sl,hL⟩:=u.any ho I.free fun z=>(hch _ z).2.1 rfl
 exact I.step (ch:=ch) hch (fun b o hL hb hc e n=>u.keep b o e n (fun z=>(List.mem_cons.mp (I.stkSub b z)).elim hL hb) hc) (fun b o _ _ hc e n=>u.any e n hc) (fun b o hc e n=>u.free b o e n hc) (fun b o hc e=>u.there b o e hc) u.tups u.frzs u.tbls (fun m' hm=>by
  obtain⟨o',es',ep',ho',r'⟩:=hm
  rw [ho] at ho';cases ho'
  exact⟨_,es',ep',hL,r'⟩) hok hg
theorem Inv.turned {t':Nat} {it:Addr} (I:Inv X pins σ H s) (k:∀b o,b≠it->s.heap.get? b=some o->h'.get? b=some o) (hn:H it=none) (hL:it≠X.env.locals)
  (h1:it∈X.ex∨X.s₀.heap.objs.size<=it) (h2:∀x c,X.env.cells.lookup x=some c->c≠it) (h3:∀p∈X.pn ++ pins,p.1≠it):Inv X pins σ H { s with heap:=h',toks:=t' }:=by
 have nit:∀b u,H b=some u->b≠it:=fun b u e z=>by rw [z,hn] at e;cases e
 refine I.step (g':=s.gens) (d':=s.drawn) (ch:=[it]) (fun b hb=>?_) (fun b o _ _ hc e _=>k b o (fun z=>hc (by simp [z])) e) (fun b o _ _ hc e _=>⟨o.slots,k b o (fun z=>hc (by simp [z])) e⟩) (fun _ _ _ _ n=>n)
  (fun b o hc e=>⟨o,k b o (fun z=>hc (by simp [z])) e⟩) (fun _ _ e=>e) (fun _ _ _ e=>e) (fun b ps e=>⟨#[],by rw [e];simp⟩) (fun m hm=>?_) (fun b u e=>?_) I.bare
 ·have e:b=it:=by simpa using hb
  subst e
  exact⟨h1,hL,h2,h3⟩
 ·obtain⟨o,es,ep,ho,r⟩:=hm
  exact⟨o,es,ep,k _ o (Ne.symm hL) ho,r⟩
 ·refine(I.hok b u e).stay (fun c v hc q=>k c v ?_ q) (fun _ q=>q) fun _ _ q=>q
  rcases hc with z | z
  ·rw [z];exact nit b u e
  ·exact nit c _ z
theorem Inv.tok (I:Inv X pins σ H s) (t:Nat):Inv X pins σ H { s with toks:=t }:=I.un (h':=s.heap) (t':=t) Un.refl I.hok
theorem Inv.kept {t':Nat} (I:Inv X pins σ H s) (k:∀b u,s.heap.get? b=some u->h'.get? b=some u):Inv X pins σ H { s with heap:=h',toks:=t' }:=I.un (Un.kept k) (I.hok.kept k)
theorem Inv.laid {a:Addr} {o:HO} {t':Nat} (I:Inv X pins σ H s) (k:∀b u,s.heap.get? b=some u->h'.get? b=some u) (hp:s.heap.objs.size<=a) (new:fV X.prog X.w (upd H a o) h' a o):
  Inv X pins σ (upd H a o) { s with heap:=h',toks:=t' }:=I.un (Un.laid k hp (I.hok.fresh hp)) (I.hok.laid k hp new)
theorem Inv.write {x e:Addr} {o:HO} {t':Nat} (I:Inv X pins σ H s) (mu:VB (H x)) (he:e=x∨H e=some (.own x)) (k:∀b u,b≠e->s.heap.get? b=some u->h'.get? b=some u) (heo:∃u,h'.get? e=some u)
  (new:fV X.prog X.w (upd H x o) h' x o):Inv X pins σ (upd H x o) { s with heap:=h',toks:=t' }:=I.un (Un.write mu he k heo) (I.hok.write mu he k heo new)
theorem Inv.weak {σ':List (Option V)} (I:Inv X pins σ H s) (hl:σ'.length=σ.length) (w:∀(i:Nat) v,σ'[i]?=some (some v)->σ[i]?=some (some v)):Inv X pins σ' H s:=
 ⟨I.ok,I.os,I.bare,I.base,let ⟨m,hn,hl'⟩:=I.loc;⟨m,hn,fun i x v e1 e2 e3=>hl' i x v e1 (w i v e2) e3⟩,I.cell,I.free,I.freeC,I.pin,I.hok,hl.trans I.len⟩
theorem Inv.pins_of {pins':List (Addr×Obj)} (I:Inv X pins σ H s) (h:∀p∈pins',s.heap.get? p.1=some p.2/\H p.1=none/\p.1≠X.env.locals/\p.1∉X.fs/\∀v,p.2.data≠.cell v):Inv X pins' σ H s:=
 ⟨I.ok,I.os,I.bare,I.base,I.loc,I.cell,I.free,I.freeC,fun p hp=>(List.mem_append.mp hp).elim (fun z=>I.pin p (List.mem_append_left _ z)) (h p),I.hok,I.len⟩
theorem GJ {N:List Str} (hN:N.Nodup) {i j:Nat} {x:Str} (a:N[i]?=some x) (b:N[j]?=some x):i=j:=by
 obtain⟨h1,e1⟩:=List.getElem?_eq_some_iff.mp a
 obtain⟨h2,e2⟩:=List.getElem?_eq_some_iff.mp b
 exact(List.getElem_inj hN).mp (e1.trans e2.symm)
theorem xJ {M:Model} {A:Around} {E:Value->Shared->Prop} {i:Nat} {x:Str} {v:V} {u:Value} {Q:Unit->Shared->Prop} (I:Inv X pins σ H s) (hN:X.N.Nodup) (hi:X.N[i]?=some x) (hx:Loc X.env.scope x) (r:RelV v u)
  (h:∀s',Inv X pins (σ.set i (some v)) H s'->(∃a,Heap.SameBut a s.heap s'.heap/\(a=X.env.locals∨X.env.cells.lookup x=some a))->Q () s') (hf:X.fn x=true∨X.env.scope.names.lookup x=some .local:=by first | exact .inl rfl | exact .inr rfl | assumption):wpAny M A (storeName X.env x u) Q E s:=by
 obtain⟨m,hn,hl⟩:=id I.loc
 have hcls:(X.env.scope.kind == .class || (X.env.scope.kind == .module && X.env.locals != X.env.globals))=false:=by rw [I.ok.kind];rfl
 have hiσ:i <σ.length:=by rw [I.len];exact(List.getElem?_eq_some_iff.mp hi).1
 have cne:=I.cne
 have tracked:∀{a:Addr} {h':Heap},(∃o,s.heap.get? a=some o/\H a=none)->Heap.SameBut a s.heap h'->ut X.prog X.w H h':=fun {a h'} ha hs b ob e=>by
  obtain⟨_,_,hfree⟩:=ha
  refine(I.hok b ob e).stay (fun c w' hc q=>(hs.2 c ?_).trans q) (fun _ q=>q) fun _ _ q=>q
  rintro rfl
  rcases hc with rfl | hc
  ·rw [hfree] at e;cases e
  ·rw [hfree] at hc;cases hc
 rcases hx with hk | hk
 ·refine wpAny_storeName_local hk hn (fun h' hn' hs=>?_) hcls
  obtain⟨oL,_,_,hoL,_⟩:=id hn
  refine h _ ⟨I.ok,I.os,I.bare,⟨fun b o e n hb hx=>?_,fun b o e n hb hx=>?_,I.base.free,fun b o e hx=>?_,I.base.tups,I.base.frzs,I.base.tbls⟩,⟨_,hn',fun j y v' e1 e2 e3=>?_⟩,fun y c e=>?_,I.free,I.freeC,fun p hp=>?_,tracked ⟨oL,hoL,I.free⟩ hs,by simpa using I.len⟩ ⟨_,hs,.inl rfl⟩
  ·exact(hs.2 b (Nat.ne_of_lt (Nat.lt_of_lt_of_le (Heap.lt_size e) I.ok.above))).trans (I.base.keep b o e n hb hx)
  ·obtain⟨sl,e1⟩:=I.base.slot b o e n hb hx
   exact⟨sl,(hs.2 b (Nat.ne_of_lt (Nat.lt_of_lt_of_le (Heap.lt_size e) I.ok.above))).trans e1⟩
  ·obtain⟨o',e1⟩:=I.base.there b o e hx
   exact⟨o',(hs.2 b (Nat.ne_of_lt (Nat.lt_of_lt_of_le (Heap.lt_size e) I.ok.above))).trans e1⟩
  ·by_cases hj:j=i
   ·subst hj
    rw [hi] at e1;cases e1
    rw [List.getElem?_set_self hiσ] at e2
    cases e2
    exact⟨u,r,.inl ⟨hk,by simp⟩⟩
   ·rw [List.getElem?_set_ne (Ne.symm hj)] at e2
    obtain⟨u',r',q⟩:=hl j y v' e1 e2 e3
    refine⟨u',r',?_⟩
    rcases q with ⟨k,e⟩ | ⟨k,c,e,z⟩
    ·refine .inl ⟨k,?_⟩
     have:y≠x:=fun e=>hj (GJ hN e1 (e ▸ hi))
     simp [this,e]
    ·exact .inr ⟨k,c,e,z.sameBut hs (cne y c e)⟩
  ·obtain⟨w',z⟩:=I.cell y c e
   exact⟨w',z.sameBut hs (cne y c e)⟩
  ·obtain⟨e,n,ne,nf,d⟩:=I.pin p hp
   exact⟨(hs.2 p.1 ne).trans e,n,ne,nf,d⟩
 ·have hfn:X.fn x=true:=by
   rcases hf with z | z
   ·exact z
   ·rw [z] at hk;cases hk
  obtain⟨c,hc⟩:=I.ok.has x (.inl hk)
  obtain⟨w',z⟩:=I.cell x c hc
  refine wpAny_storeName_cell I.ok.kind hk hc z (fun h' hc' hs=>?_)
  obtain⟨oc,hoc,hocd⟩:=id z
  refine h { s with heap:=h' } ⟨I.ok,I.os,I.bare,⟨fun b o e n hb hx=>?_,fun b o e n hb hx=>?_,I.base.free,fun b o e hx=>?_,I.base.tups,I.base.frzs,I.base.tbls⟩,⟨m,hn.sameBut hs (Ne.symm (cne x c hc)),fun j y v' e1 e2 e3=>?_⟩,fun y c' e=>?_,I.free,I.freeC,fun p hp=>?_,tracked ⟨oc,hoc,I.freeC x c hc⟩ hs,by simpa using I.len⟩ ⟨c,hs,.inr hc⟩
  ·exact(hs.2 b (Nat.ne_of_lt (Nat.lt_of_lt_of_le (Heap.lt_size e) (I.ok.cab x c hfn hc)))).trans (I.base.keep b o e n hb hx)
  ·obtain⟨sl,e1⟩:=I.base.slot b o e n hb hx
   exact⟨sl,(hs.2 b (Nat.ne_of_lt (Nat.lt_of_lt_of_le (Heap.lt_size e) (I.ok.cab x c hfn hc)))).trans e1⟩
  ·obtain⟨o',e1⟩:=I.base.there b o e hx
   exact⟨o',(hs.2 b (Nat.ne_of_lt (Nat.lt_of_lt_of_le (Heap.lt_size e) (I.ok.cab x c hfn hc)))).trans e1⟩
  ·by_cases hj:j=i
   ·subst hj
    rw [hi] at e1;cases e1
    rw [List.getElem?_set_self hiσ] at e2
    cases e2
    exact⟨u,r,.inr ⟨.inl hk,c,hc,hc'⟩⟩
   ·rw [List.getElem?_set_ne (Ne.symm hj)] at e2
    obtain⟨u',r',q⟩:=hl j y v' e1 e2 e3
    refine⟨u',r',?_⟩
    rcases q with q | ⟨k,c',e,z'⟩
    ·exact .inl q
    ·refine .inr ⟨k,c',e,z'.sameBut hs ?_⟩
     rintro rfl
     exact hj (GJ hN e1 (I.ok.inj _ _ _ e hc ▸ hi))
  ·by_cases hcc:c'=c
   ·subst hcc;exact⟨_,hc'⟩
   ·obtain⟨w2,z2⟩:=I.cell y c' e
    exact⟨w2,z2.sameBut hs hcc⟩
  ·obtain⟨e,n,ne,nf,d⟩:=I.pin p hp
   refine⟨(hs.2 p.1 ?_).trans e,n,ne,nf,d⟩
   intro q
   rw [q,hoc] at e
   have q':oc=p.2:=Option.some.inj e
   exact d w' (by rw [<-q'];exact hocd)
theorem Bp {M:Model} {A:Around} {E:Value->Shared->Prop} {i:Nat} {x:Str} {v:V} {u:Value} {Q:Unit->Shared->Prop} (I:Inv X pins σ H s) (hN:X.N.Nodup) (hi:X.N[i]?=some x) (hx:Loc X.env.scope x) (r:RelV v u)
  (h:∀s',Inv X pins (σ.set i (some v)) H s'->Q () s') (hf:X.fn x=true∨X.env.scope.names.lookup x=some .local:=by first | exact .inl rfl | exact .inr rfl | assumption):wpAny M A (storeName X.env x u) Q E s:=
 xJ I hN hi hx r (fun s' I' _=>h s' I') hf
theorem Inv.call' {s':Shared} {ch:List Addr} (I:Inv X pins σ H s) (ho:s'.os=s.os) (u:Un (frs X.stack) ch H H' s.heap s'.heap) (hok:ut X.prog X.w H' s'.heap) (hg:AllBare s'.gens)
  (hch:∀b∈ch,(b∈X.ex∨X.s₀.heap.objs.size<=b)/\b≠X.env.locals/\(∀x c,X.env.cells.lookup x=some c->c≠b)/\∀p∈X.pn ++ pins,p.1≠b):Inv X pins σ H' s':=by
 obtain⟨h',g',d',t',o'⟩:=s'
 have e:o'=s.os:=ho
 subst e
 exact I.call (g':=g') (t':=t') (d':=d') u hok hg hch
end
noncomputable abbrev XK:=Value->Option Addr->Hp->Prop
noncomputable abbrev St:=List (Option V)
noncomputable abbrev VK:=V->Hp->Prop
noncomputable abbrev TE:=St->Hp->VK->Prop
noncomputable abbrev TT:=St->Hp->(Bool->Hp->Prop)->Prop
noncomputable abbrev TA:=St->Hp->(List V->Hp->Prop)->Prop
structure Ends where
 nx:St->Hp->Prop
 rt:VK
 bk:St->Hp->Prop:=fun _ _=>False
 ct:St->Hp->Prop:=fun _ _=>False
noncomputable abbrev TS:=Ends->St->Hp->Prop
noncomputable def EP (X:Cx) (pins:List (Addr×Obj)) (σ:St) (Q:VK) (u:Value) (s':Shared):Prop:=∃v H',Inv X pins σ H' s'/\RelV v u/\Q v H'
noncomputable def TP (X:Cx) (pins:List (Addr×Obj)) (σ:St) (Q:Bool->Hp->Prop) (b:Bool) (s':Shared):Prop:=∃H',Inv X pins σ H' s'/\Q b H'
noncomputable def AP (X:Cx) (pins:List (Addr×Obj)) (σ:St) (Q:List V->Hp->Prop) (us:List Value) (s':Shared):Prop:=∃vs H',Inv X pins σ H' s'/\Vals vs us/\Q vs H'
noncomputable def SP (X:Cx) (pins:List (Addr×Obj)) (D:Ends) (f:Flow) (s':Shared):Prop:=
 match f with
 | .next=>∃σ' H',Inv X pins σ' H' s'/\D.nx σ' H'
 | .brk=>∃σ' H',Inv X pins σ' H' s'/\D.bk σ' H'
 | .cont=>∃σ' H',Inv X pins σ' H' s'/\D.ct σ' H'
 | .ret u=>∃v σ' H',Inv X pins σ' H' s'/\RelV v u/\D.rt v H'
noncomputable def PE (X:Cx) (e:Expr) (t:TE):Prop:=
 ∀(pins:List (Addr×Obj)) (s:Shared) (σ:St) (H:Hp) (Q:VK),Inv X pins σ H s->t σ H Q->wpAny (model X.prog X.w) X.A (eval e X.env) (EP X pins σ Q) X.xe s
noncomputable def PT (X:Cx) (e:Expr) (t:TT):Prop:=
 ∀(pins:List (Addr×Obj)) (s:Shared) (σ:St) (H:Hp) (Q:Bool->Hp->Prop),Inv X pins σ H s->t σ H Q->wpAny (model X.prog X.w) X.A (isTrue e X.env (eval e X.env)) (TP X pins σ Q) X.xe s
noncomputable def PW (X:Cx) (e:Expr) (t:TT):Prop:=
 ∀(whole:Sem Value) (pins:List (Addr×Obj)) (s:Shared) (σ:St) (H:Hp) (Q:Bool->Hp->Prop),Inv X pins σ H s->t σ H Q->wpAny (model X.prog X.w) X.A (isTrue e X.env whole) (TP X pins σ Q) X.xe s
theorem PW.pt {X:Cx} {e:Expr} {t:TT} (h:PW X e t):PT X e t:=h _
noncomputable def PA (X:Cx) (es:List Expr) (t:TA):Prop:=
 ∀(pos:Pos) (pins:List (Addr×Obj)) (s:Shared) (σ:St) (H:Hp) (Q:List V->Hp->Prop),Inv X pins σ H s->t σ H Q->wpAny (model X.prog X.w) X.A (spliced (backTo pos (starEach es X.env))) (AP X pins σ Q) X.xe s
noncomputable def PS (X:Cx) (st:Stmt) (t:TS):Prop:=
 ∀(pins:List (Addr×Obj)) (s:Shared) (σ:St) (H:Hp) (D:Ends),Inv X pins σ H s->t D σ H->wpAny (model X.prog X.w) X.A (exec st X.env) (SP X pins D) X.xe s
noncomputable def LQ (X:Cx) (st:List Stmt) (t:TS):Prop:=
 ∀(pins:List (Addr×Obj)) (s:Shared) (σ:St) (H:Hp) (D:Ends),Inv X pins σ H s->t D σ H->wpAny (model X.prog X.w) X.A (execs st X.env) (SP X pins D) X.xe s
theorem dU {α:Type} {t:Sem α} {Q Q':α->Shared->Prop} {M:Model} {A:Around} {E:Value->Shared->Prop} {s:Shared} (h:wpAny M A t Q E s) (hQ:∀a s,Q a s->Q' a s):wpAny M A t Q' E s:=wpAny_mono h hQ fun _ _ x=>x
section
variable {X:Cx}
inductive SJ (i:Nat) (σ:St) (H:Hp) (Q:VK):Prop where
 | mk:∀v,σ[i]?=some (some v)->Q v H->SJ i σ H Q
noncomputable def zx (i:Nat):TE:=fun σ H Q=>SJ i σ H Q
noncomputable def tC (v:V):TE:=fun _ H Q=>Q v H
theorem Vc {i:Nat} {x:Str} {pos:Pos} (hN:X.N[i]?=some x) (hv:WY X.env.scope x) (hd:(x == ("__debug__" :Str))=false:=by decide) (hcd:(x == ("__classdict__" :Str))=false:=by decide):PE X (.Name x pos) (zx i):=by
 intro pins s σ H Q I h
 obtain⟨v,e,h⟩:=h
 obtain⟨m,hn,hl⟩:=I.loc
 obtain⟨u,r,l⟩:=hl i x v hN e hv
 have fin:EP X pins σ Q u s:=⟨v,H,I,r,h⟩
 rcases l with ⟨hk,hm⟩ | ⟨hk,c,hc,hcell⟩
 ·exact wpAny_Name (wpAny_loadName_local I.ok.kind hk hn hm fin) hd
 ·rcases hk with hk | hk
  ·exact wpAny_Name (wpAny_loadName_cell I.ok.kind hk hc hcell fin) hd
  ·exact wpAny_Name (wpAny_loadName_free I.ok.kind hk hc hcell fin hcd) hd
theorem aq {i j pos}:PE X (.Constant (.int i) j pos) (tC (.int i)):=fun _ _ _ H _ I h=>wpAny_Constant_int ⟨.int i,H,I.tok _,⟨_,rfl⟩,h⟩
theorem gm {b j pos}:PE X (.Constant (.bool b) j pos) (tC (.bl b)):=fun _ _ _ H _ I h=>Constant_bool ⟨.bl b,H,I,rfl,h⟩
theorem qH {j pos}:PE X (.Constant .none j pos) (tC .non):=fun _ _ _ H _ I h=>Constant_none ⟨.non,H,I,rfl,h⟩
theorem bR {x j pos}:PE X (.Constant (.str x) j pos) (tC (.str x)):=fun _ _ _ H _ I h=>Calls.Constant_str ⟨.str x,H,I.tok _,⟨_,rfl⟩,h⟩
noncomputable def Gl (X:Cx) (x:Str):Prop:=X.env.kindOf x=some .globalImplicit
theorem Fx {E:Value->Shared->Prop} {pins:List (Addr×Obj)} {s:Shared} {σ:St} {H:Hp} {x:Str} {u:Value} {pos:Pos} {Q:Value->Shared->Prop} (I:Inv X pins σ H s) (hg:Gl X x) (hm:X.mg x=some u) (h:Q u s)
  (hd:(x == ("__debug__" :Str))=false:=by decide):wpAny (model X.prog X.w) X.A (eval (.Name x pos) X.env) Q E s:=
 Calls.Name_function_global I.ok.kind hg (Calls.loadGlobal_global (by rw [I.ok.glob];exact I.mod.glob.keeps I.bk) hm h) hd
theorem An {E:Value->Shared->Prop} {pins:List (Addr×Obj)} {s:Shared} {σ:St} {H:Hp} {x:Str} {u:Value} {pos:Pos} {Q:Value->Shared->Prop} (I:Inv X pins σ H s) (hg:Gl X x) (hm:X.mg x=none) (hv:bootBuiltins x=some u) (h:Q u s)
  (hn:x≠ "__name__" :=by decide) (hd:(x == ("__debug__" :Str))=false:=by decide):wpAny (model X.prog X.w) X.A (eval (.Name x pos) X.env) Q E s:=by
 obtain⟨mb,h1,h2⟩:=I.mod.blt
 exact Calls.Name_function_global I.ok.kind hg (Calls.loadGlobal_builtin (by rw [I.ok.glob];exact I.mod.glob.keeps I.bk) hm (by rw [I.ok.blt];exact h1.keeps I.bk) ((h2 x hn).trans hv) h) hd
theorem FQ {x:Str} {v:V} {u:Value} {pos:Pos} (hg:Gl X x) (hm:X.mg x=some u) (r:RelV v u) (hd:(x == ("__debug__" :Str))=false:=by decide):PE X (.Name x pos) (tC v):=
 fun _ _ _ H _ I h=>Fx I hg hm ⟨v,H,I,r,h⟩ hd
theorem Rf {x:Str} {v:V} {u:Value} {pos:Pos} (hg:Gl X x) (hm:X.mg x=none) (hv:bootBuiltins x=some u) (r:RelV v u) (hn:x≠ "__name__" :=by decide) (hd:(x == ("__debug__" :Str))=false:=by decide):PE X (.Name x pos) (tC v):=
 fun _ _ _ H _ I h=>An I hg hm hv ⟨v,H,I,r,h⟩ hn hd
variable {a b:Expr} {ta tb:TE} {pos:Pos}
noncomputable def PC (X:Cx) (op:CmpOp) (a b:Expr) (t:TE):Prop:=
 ∀(pins:List (Addr×Obj)) (s:Shared) (σ:St) (H:Hp) (Q:VK),Inv X pins σ H s->t σ H Q->
  wpAny (model X.prog X.w) X.A (eval a X.env) (fun v s₁=>wpAny (model X.prog X.w) X.A (eval b X.env) (fun u s₂=>wpAny (model X.prog X.w) X.A (compareOp op v u) (EP X pins σ Q) X.xe s₂) X.xe s₁) X.xe s
theorem GR (b:Expr) {op:CmpOp} (h:op≠.In) (h2:op≠.NotIn):behindInMarks op b=false:=by
 have e1:(op == CmpOp.In)=false:=by cases op <;> first | rfl | exact absurd rfl h
 have e2:(op == CmpOp.NotIn)=false:=by cases op <;> first | rfl | exact absurd rfl h2
 cases b <;> simp [behindInMarks,e1,e2]
noncomputable def Xr (ta:TE):TE:=fun σ H Q=>ta σ H fun x H1=>Q (.bl (decide (x=.non))) H1
noncomputable def S8 (ta:TE):TE:=fun σ H Q=>ta σ H fun x H1=>Q (.bl (!decide (x=.non))) H1
theorem RelV.none_iff {x:V} {v:Value} (r:RelV x v):(v == Value.none)=decide (x=.non):=by
 cases x with
 | non=>cases r;rfl
 | bl _=>cases r;rfl
 | int _=>obtain⟨t,rfl⟩:=r;rfl
 | str _=>obtain⟨t,rfl⟩:=r;rfl
 | byt _=>obtain⟨t,rfl⟩:=r;rfl
 | flt _=>obtain⟨t,rfl⟩:=r;rfl
 | ref _=>cases r;rfl
 | ty _=>cases r;rfl
theorem xK {j pos'} (ha:PE X a ta):PC X .Is a (.Constant .none j pos') (Xr ta):=by
 intro pins s σ H Q I h
 refine dU (ha pins s σ H _ I h) fun v s1 hpt=>?_
 obtain⟨x,H1,I1,r1,q1⟩:=hpt
 exact Constant_none (is_none_gen ⟨.bl _,H1,I1,by rw [r1.none_iff];rfl,q1⟩)
theorem K1 {j pos'} (ha:PE X a ta):PC X .IsNot a (.Constant .none j pos') (S8 ta):=by
 intro pins s σ H Q I h
 refine dU (ha pins s σ H _ I h) fun v s1 hpt=>?_
 obtain⟨x,H1,I1,r1,q1⟩:=hpt
 exact Constant_none (isnot_none_gen ⟨.bl _,H1,I1,by rw [r1.none_iff];rfl,q1⟩)
inductive Yj (Q:Bool->Hp->Prop) (x:V) (H1:Hp):Prop where
 | mk:∀c,x=.bl c->Q c H1->Yj Q x H1
noncomputable def tB (t:TE):TT:=fun σ H Q=>t σ H fun x H1=>Yj Q x H1
theorem Et {op:CmpOp} {t:TE} (h:PC X op a b t) (h1:behindInMarks op b=false:=by first | exact GR _ (by decide) (by decide) | rfl):PE X (.Compare a [op] [b] pos) t:=fun pins s σ H Q I hw=>wpAny_Compare1 (h pins s σ H Q I hw) h1
theorem jy {op:CmpOp} {t:TE} (h:PC X op a b t) (h1:behindInMarks op b=false:=by first | exact GR _ (by decide) (by decide) | rfl):PT X (.Compare a [op] [b] pos) (tB t):=by
 intro pins s σ H Q I hw
 refine wpAny_isTrue_Compare1 (dU (h pins s σ H _ I hw) fun v s1 h1=>dU h1 fun u s2 h2=>dU h2 fun c s3 hpt=>?_) h1
 obtain⟨x,H1,I1,r1,q1⟩:=hpt
 obtain⟨d,rfl,q⟩:=q1
 cases r1
 exact wpAny_truthy_bool ⟨H1,I1,q⟩
theorem fH {e:Expr} {t:TE} (h:PE X e t) (he:∀whole,isTrue e X.env whole=(do let v <-whole;standAt e.pos;holding [v] (truthy v)):=by intro _;rfl):PT X e (tB t):=by
 intro pins s σ H Q I hw
 refine isTrue_plain (dU (h pins s σ H _ I hw) fun v s1 ⟨x,H1,I1,r1,q1⟩=>?_) (he _)
 obtain⟨d,rfl,q⟩:=q1
 cases r1
 exact wpAny_truthy_bool ⟨H1,I1,q⟩
variable {tA tB':TT} {rest:List Expr}
noncomputable def Wv (t u:TT):TT:=fun σ H Q=>t σ H fun c H1=>if c=true then u σ H1 Q else Q false H1
noncomputable def tOr (t u:TT):TT:=fun σ H Q=>t σ H fun c H1=>if c=true then Q true H1 else u σ H1 Q
noncomputable def Yb (t:TT):TT:=fun σ H Q=>t σ H fun c H1=>Q (!c) H1
theorem tX (ha:PT X a tA):PW X (.BoolOp .And [a] pos) tA:=by
 intro wh pins s σ H Q I h
 refine isTrue_and (dU (ha pins s σ H Q I h) fun c s1 e=>?_)
 cases c with
 | true=>exact isTrue_and_nil e
 | false=>exact e
theorem j4 (ha:PT X a tA):PW X (.BoolOp .Or [a] pos) tA:=by
 intro wh pins s σ H Q I h
 refine isTrue_or (dU (ha pins s σ H Q I h) fun c s1 e=>?_)
 cases c with
 | false=>exact isTrue_or_nil e
 | true=>exact e
theorem uZ (ha:PT X a tA) (hb:PW X (.BoolOp .And (b:: rest) pos) tB'):PW X (.BoolOp .And (a:: b:: rest) pos) (Wv tA tB'):=by
 intro wh pins s σ H Q I h
 refine isTrue_and (dU (ha pins s σ H _ I h) fun c s1 hpt=>?_)
 obtain⟨H1,I1,q1⟩:=hpt
 cases c with
 | true=>exact hb wh pins s1 σ H1 Q I1 q1
 | false=>exact⟨H1,I1,q1⟩
theorem qd (ha:PT X a tA) (hb:PW X (.BoolOp .Or (b:: rest) pos) tB'):PW X (.BoolOp .Or (a:: b:: rest) pos) (tOr tA tB'):=by
 intro wh pins s σ H Q I h
 refine isTrue_or (dU (ha pins s σ H _ I h) fun c s1 hpt=>?_)
 obtain⟨H1,I1,q1⟩:=hpt
 cases c with
 | true=>exact⟨H1,I1,q1⟩
 | false=>exact hb wh pins s1 σ H1 Q I1 q1
theorem gM (ha:PT X a tA):PT X (.UnaryOp .Not a pos) (Yb tA):=by
 intro pins s σ H Q I h
 exact isTrue_not (ha pins s σ H (fun c H1=>Q (!c) H1) I h)
inductive PP (tb:TE) (σ:St) (Q:VK) (x:V) (H1:Hp):Prop where
 | mk:∀c,x=.bl c->(if c=true then tb σ H1 Q else Q (.bl false) H1)->PP tb σ Q x H1
noncomputable def V9 (ta tb:TE):TE:=fun σ H Q=>ta σ H fun x H1=>PP tb σ Q x H1
inductive Sw (tb:TE) (σ:St) (Q:VK) (x:V) (H1:Hp):Prop where
 | mk:∀c,x=.bl c->(if c=true then Q (.bl true) H1 else tb σ H1 Q)->Sw tb σ Q x H1
noncomputable def XD (ta tb:TE):TE:=fun σ H Q=>ta σ H fun x H1=>Sw tb σ Q x H1
inductive Oe (Q:VK) (x:V) (H1:Hp):Prop where
 | mk:∀c,x=.bl c->Q (.bl (!c)) H1->Oe Q x H1
noncomputable def Wu (ta:TE):TE:=fun σ H Q=>ta σ H fun x H1=>Oe Q x H1
theorem xY {op} {t:TE} (h:PE X a t):PE X (.BoolOp op [a] pos) t:=fun pins s σ H Q I hw=>BoolOp_one (h pins s σ H Q I hw)
theorem xX (ha:PE X a ta) (hb:PE X (.BoolOp .And (b:: rest) pos) tb):PE X (.BoolOp .And (a:: b:: rest) pos) (V9 ta tb):=by
 intro pins s σ H Q I h
 refine BoolOp_and (dU (ha pins s σ H _ I h) fun v s1 hpt=>?_)
 obtain⟨x,H1,I1,r1,q1⟩:=hpt
 obtain⟨c,rfl,q1⟩:=q1
 cases r1
 refine wpAny_truthy_bool ?_
 cases c with
 | true=>exact hb pins s1 σ H1 Q I1 q1
 | false=>exact⟨.bl false,H1,I1,rfl,q1⟩
theorem V6 (ha:PE X a ta) (hb:PE X (.BoolOp .Or (b:: rest) pos) tb):PE X (.BoolOp .Or (a:: b:: rest) pos) (XD ta tb):=by
 intro pins s σ H Q I h
 refine BoolOp_or (dU (ha pins s σ H _ I h) fun v s1 hpt=>?_)
 obtain⟨x,H1,I1,r1,q1⟩:=hpt
 obtain⟨c,rfl,q1⟩:=q1
 cases r1
 refine wpAny_truthy_bool ?_
 cases c with
 | false=>exact hb pins s1 σ H1 Q I1 q1
 | true=>exact⟨.bl true,H1,I1,rfl,q1⟩
theorem Ue (ha:PE X a ta):PE X (.UnaryOp .Not a pos) (Wu ta):=by
 intro pins s σ H Q I h
 refine UnaryOp_ (dU (ha pins s σ H _ I h) fun v s1 hpt=>?_)
 obtain⟨x,H1,I1,r1,q1⟩:=hpt
 obtain⟨c,rfl,q1⟩:=q1
 cases r1
 exact not_of (wpAny_truthy_bool ⟨.bl (!c),H1,I1,rfl,q1⟩)
noncomputable def tIf (t:TT) (ta tb:TE):TE:=fun σ H Q=>t σ H fun c H1=>if c=true then ta σ H1 Q else tb σ H1 Q
theorem zV {c:Expr} (hc:PT X c tA) (ha:PE X a ta) (hb:PE X b tb):PE X (.IfExp c a b pos) (tIf tA ta tb):=by
 intro pins s σ H Q I h
 refine wpAny_IfExp (dU (hc pins s σ H _ I h) fun d s1 hpt=>?_)
 obtain⟨H1,I1,q1⟩:=hpt
 cases d with
 | true=>exact ha pins s1 σ H1 Q I1 q1
 | false=>exact hb pins s1 σ H1 Q I1 q1
end
noncomputable def bT (K:PySem.W.Frag) (H:Hp) (a:Addr) (xs:List V):Prop:=
 Rd H a (.lst xs)∨
  ∃(o:Obj) (its:Array Value) (n:Nat),K.lookup a=some o/\o.cls=.type "list" /\o.dict=none/\o.data=.seq its n/\its.size<=sizeLine/\Vals xs its.toList
noncomputable def fY (K:PySem.W.Frag) (H:Hp) (a:Addr) (xs:List V):Prop:=
 Rd H a (.tup xs)∨
  ∃(o:Obj) (its:Array Value) (n:Nat),K.lookup a=some o/\o.cls=.type "tuple" /\o.data=.seq its n/\its.size<=sizeLine/\Vals xs its.toList
noncomputable def XH:Value->Option V
 | .none=>some .non
 | .bool b=>some (.bl b)
 | .int i _=>some (.int i)
 | .str x _=>some (.str x)
 | .bytes b _=>some (.byt b)
 | .float b _=>some (.flt b)
 | .ref a=>some (.ref a)
 | .type n=>some (.ty n)
 | _=>none
theorem RelV.abs {x:V} {u:Value} (r:RelV x u):XH u=some x:=by
 cases x with
 | non=>cases r;rfl
 | bl _=>cases r;rfl
 | int _=>obtain⟨t,rfl⟩:=r;rfl
 | str _=>obtain⟨t,rfl⟩:=r;rfl
 | byt _=>obtain⟨t,rfl⟩:=r;rfl
 | flt _=>obtain⟨t,rfl⟩:=r;rfl
 | ref _=>cases r;rfl
 | ty _=>cases r;rfl
theorem RelV.inj {x y:V} {u:Value} (r:RelV x u) (q:RelV y u):x=y:=Option.some.inj (r.abs.symm.trans q.abs)
theorem Vals.inj:∀{xs ys:List V} {us:List Value},Vals xs us->Vals ys us->xs=ys
 | _,_,_,.nil,.nil=>rfl
 | _,_,_,.cons r t,.cons r' t'=>by rw [r.inj r',Vals.inj t t']
section
variable {X:Cx} {pins:List (Addr×Obj)} {σ:St} {H:Hp} {s:Shared} {a:Addr} {xs ys:List V}
theorem bT.of {K:PySem.W.Frag} (h:H a=some (.lst xs)):bT K H a xs:=.inl (.inl h)
theorem fY.of {K:PySem.W.Frag} (h:H a=some (.tup xs)):fY K H a xs:=.inl (.inl h)
theorem Inv.list (I:Inv X pins σ H s) (h:bT X.K H a xs):∃its:List Value,Vals xs its/\PlainL s.heap a its.toArray/\xs.length<=sizeLine:=by
 rcases h with h | ⟨o,its,n,hk,hc,hd,hs,hz,r⟩
 ·obtain⟨z,its,n,r,e⟩:=h.ok I.hok
  exact⟨its,r,⟨_,n,e,rfl,rfl,rfl⟩,z⟩
 ·refine⟨its.toList,r,⟨o,n,I.kIn a o hk,hc,hd,by simpa using hs⟩,?_⟩
  have e:=r.length
  simp only [Array.length_toList] at e
  omega
theorem Inv.tuple (I:Inv X pins σ H s) (h:fY X.K H a xs):∃its:List Value,Vals xs its/\IsTup s.heap a its.toArray/\xs.length<=sizeLine:=by
 rcases h with h | ⟨o,its,n,hk,hc,hs,hz,r⟩
 ·obtain⟨z,its,r,p⟩:=h.ok I.hok
  exact⟨its,r,p,z⟩
 ·refine⟨its.toList,r,⟨o,I.kIn a o hk,hc,n,by simpa using hs⟩,?_⟩
  have e:=r.length
  simp only [Array.length_toList] at e
  omega
theorem Inv.list_inj (I:Inv X pins σ H s) (h:bT X.K H a xs) (h':bT X.K H a ys):xs=ys:=by
 obtain⟨its,r,⟨o,n,e,_,_,d⟩,_⟩:=I.list h
 obtain⟨its',r',⟨o',n',e',_,_,d'⟩,_⟩:=I.list h'
 rw [e] at e';cases e'
 rw [d] at d'
 injection d' with d1 _
 have:its=its':=by simpa using congrArg Array.toList d1
 subst this
 exact r.inj r'
theorem Inv.tuple_inj (I:Inv X pins σ H s) (h:fY X.K H a xs) (h':fY X.K H a ys):xs=ys:=by
 obtain⟨its,r,⟨o,e,_,n,d⟩,_⟩:=I.tuple h
 obtain⟨its',r',⟨o',e',_,n',d'⟩,_⟩:=I.tuple h'
 rw [e] at e';cases e'
 rw [d] at d'
 injection d' with d1 _
 have:its=its':=by simpa using congrArg Array.toList d1
 subst this
 exact r.inj r'
end
noncomputable abbrev Cx.wish (X:Cx) (E:Value->Shared->Prop):Cx:={ X with xe:=E }
noncomputable abbrev Cx.nox (X:Cx):Cx:=X.wish fun _ _=>False
theorem Cx.Ok.wish {X:Cx} (ok:X.Ok) (E:Value->Shared->Prop):(X.wish E).Ok:=
 ⟨ok.mod,ok.kind,ok.glob,ok.blt,ok.above,ok.inj,ok.has,ok.cab,ok.hd,ok.frames,ok.stk,ok.exf,ok.bs,ok.bsz,ok.noex,ok.exfs,ok.funs,ok.frf⟩
theorem Cx.Ok.unwish {X:Cx} {E:Value->Shared->Prop} (ok:(X.wish E).Ok):X.Ok:=
 ⟨ok.mod,ok.kind,ok.glob,ok.blt,ok.above,ok.inj,ok.has,ok.cab,ok.hd,ok.frames,ok.stk,ok.exf,ok.bs,ok.bsz,ok.noex,ok.exfs,ok.funs,ok.frf⟩
section
variable {X:Cx} {pins:List (Addr×Obj)} {σ:St} {H:Hp} {s:Shared} {E:Value->Shared->Prop}
theorem Inv.wish (I:Inv X pins σ H s) (E:Value->Shared->Prop):Inv (X.wish E) pins σ H s:=⟨I.ok.wish E,I.os,I.bare,I.base,I.loc,I.cell,I.free,I.freeC,I.pin,I.hok,I.len⟩
theorem Inv.unwish (I:Inv (X.wish E) pins σ H s):Inv X pins σ H s:=⟨I.ok.unwish,I.os,I.bare,I.base,I.loc,I.cell,I.free,I.freeC,I.pin,I.hok,I.len⟩
theorem SP.unwish {D:Ends} {f:Flow} {s':Shared} (h:SP (X.wish E) pins D f s'):SP X pins D f s':=by
 cases f with
 | next=>obtain⟨σ',H',I,q⟩:=h;exact⟨σ',H',I.unwish,q⟩
 | brk=>obtain⟨σ',H',I,q⟩:=h;exact⟨σ',H',I.unwish,q⟩
 | cont=>obtain⟨σ',H',I,q⟩:=h;exact⟨σ',H',I.unwish,q⟩
 | ret u=>obtain⟨v,σ',H',I,r,q⟩:=h;exact⟨v,σ',H',I.unwish,r,q⟩
theorem LQ.nox {st:List Stmt} {t:TS} (h:LQ X.nox st t):LQ X st t:=fun pins s σ H D I hw=>
 wpAny_mono (h pins s σ H D (I.wish _) hw) (fun _ _ q=>q.unwish) fun _ _ z=>False.elim z
end
section
variable {X:Cx} {st:Stmt} {rest:List Stmt} {t u:TS} {e:Expr} {te:TE} {pos:Pos}
noncomputable def VR:TS:=fun D σ H=>D.nx σ H
noncomputable def ur (t u:TS):TS:=fun D σ H=>t { D with nx:=u D } σ H
theorem bc:LQ X [] VR:=fun _ _ σ H _ I h=>wpAny_execs_nil ⟨σ,H,I,h⟩
theorem az (h1:PS X st t) (h2:LQ X rest u):LQ X (st:: rest) (ur t u):=by
 intro pins s σ H D I h
 refine wpAny_execs_cons (dU (h1 pins s σ H { D with nx:=u D } I h) fun f s1 q=>?_)
 cases f with
 | next=>
  obtain⟨σ',H',I',q⟩:=q
  exact h2 pins s1 σ' H' D I' q
 | ret v=>exact q
 | brk=>exact q
 | cont=>exact q
theorem aA (h1:PS X st t):LQ X [st] t:=by
 intro pins s σ H D I h
 refine wpAny_execs_cons (dU (h1 pins s σ H D I h) fun f s1 q=>?_)
 cases f with
 | next=>exact wpAny_execs_nil q
 | ret v=>exact q
 | brk=>exact q
 | cont=>exact q
theorem Inv.quiet {pins:List (Addr×Obj)} {σ:St} {H:Hp} {s:Shared} (I:Inv X pins σ H s):interactive X.env=false:=by simp [interactive,I.ok.kind]
noncomputable def Td (te:TE):TS:=fun D σ H=>te σ H fun _ H1=>D.nx σ H1
theorem bM (he:PE X e te) (hs:swapsWith e none pos.line X.env=pure false:=by rfl):PS X (.Expr e pos) (Td te):=by
 intro pins s σ H D I h
 exact wpAny_Expr_any (dU (he pins s σ H _ I h) fun v s1 ⟨x,H1,I1,r1,q1⟩=>⟨σ,H1,I1,q1⟩) I.quiet hs
noncomputable def Wy (te:TE):TS:=fun D σ H=>te σ H D.rt
theorem aR (he:PE X e te):PS X (.Return (some e) pos) (Wy te):=by
 intro pins s σ H D I h
 exact wpAny_Return_some (dU (he pins s σ H _ I h) fun v s1 ⟨x,H1,I1,r1,q1⟩=>⟨x,σ,H1,I1,r1,q1⟩)
noncomputable def Yd (c:TT) (t u:TS):TS:=fun D σ H=>c σ H fun b H1=>if b=true then t D σ H1 else u D σ H1
theorem bO {c:Expr} {a b:List Stmt} {tc:TT} (hc:PT X c tc) (ha:LQ X a t) (hb:LQ X b u):PS X (.If c a b pos) (Yd tc t u):=by
 intro pins s σ H D I h
 refine wpAny_If (dU (hc pins s σ H _ I h) fun d s1 hpt=>?_)
 obtain⟨H1,I1,q1⟩:=hpt
 cases d with
 | true=>exact ha pins s1 σ H1 D I1 q1
 | false=>exact hb pins s1 σ H1 D I1 q1
noncomputable def Vb:TS:=fun _ _ _=>False
theorem dW:PS X st Vb:=fun _ _ _ _ _ _ h=>h.elim
end
noncomputable abbrev TG:=V->St->Hp->(St->Hp->Prop)->Prop
noncomputable abbrev QD:=List V->St->Hp->(St->Hp->Prop)->Prop
noncomputable def PG (X:Cx) (target:Expr) (t:TG):Prop:=
 ∀(pins:List (Addr×Obj)) (s:Shared) (σ:St) (H:Hp) (v:V) (u:Value) (Q:St->Hp->Prop),Inv X pins σ H s->RelV v u->t v σ H Q->
  wpAny (model X.prog X.w) X.A (assign target X.env u) (fun _ s'=>∃σ' H',Inv X pins σ' H' s'/\Q σ' H') X.xe s
noncomputable def Wg (X:Cx) (ts:List Expr) (t:QD):Prop:=
 ∀(pins:List (Addr×Obj)) (s:Shared) (σ:St) (H:Hp) (vs:List V) (us:List Value) (Q:St->Hp->Prop),Inv X pins σ H s->Vals vs us->t vs σ H Q->
  wpAny (model X.prog X.w) X.A (assignInOrder ((assignEach ts X.env).map (·.2)) us) (fun _ s'=>∃σ' H',Inv X pins σ' H' s'/\Q σ' H') X.xe s
noncomputable abbrev V0:=V->V->Hp->VK->Prop
noncomputable def Yh (X:Cx) (op:Operator) (t:V0):Prop:=
 ∀(pins:List (Addr×Obj)) (s:Shared) (σ:St) (H:Hp) (x y:V) (v u:Value) (Q:VK),Inv X pins σ H s->RelV x v->RelV y u->t x y H Q->
  wpAny (model X.prog X.w) X.A (inplaceOp op v u) (EP X pins σ Q) X.xe s
section
variable {X:Cx} {pos:Pos}
noncomputable def uw (i:Nat):TG:=fun v σ H Q=>Q (σ.set i (some v)) H
theorem qw {i:Nat} {x:Str} (hN:X.N.Nodup) (hi:X.N[i]?=some x) (hx:Loc X.env.scope x) (hf:X.fn x=true∨X.env.scope.names.lookup x=some .local:=by first | exact .inl rfl | exact .inr rfl | assumption):PG X (.Name x pos) (uw i):=by
 intro pins s σ H v u Q I r h
 exact wpAny_assign_Name (Bp I hN hi hx r (fun s' I'=>⟨_,H,I',h⟩) hf)
noncomputable def X6:QD:=fun vs σ H Q=>vs=[]/\Q σ H
inductive Om (t:TG) (u:QD) (vs:List V) (σ:St) (H:Hp) (Q:St->Hp->Prop):Prop where
 | mk:∀v r,vs=v:: r->(t v σ H fun σ' H'=>u r σ' H' Q)->Om t u vs σ H Q
noncomputable def WQ (t:TG) (u:QD):QD:=fun vs σ H Q=>Om t u vs σ H Q
theorem uo:Wg X [] X6:=by
 intro pins s σ H vs us Q I r h
 obtain⟨e,h⟩:=h
 subst e
 cases r
 exact assignInOrder_nil ⟨σ,H,I,h⟩
theorem eQ {e:Expr} {es:List Expr} {t:TG} {u:QD} (h1:PG X e t) (h2:Wg X es u)
  (hs:(assignEach (e:: es) X.env).map (·.2)=assign e X.env:: (assignEach es X.env).map (·.2):=by rfl):Wg X (e:: es) (WQ t u):=by
 intro pins s σ H vs us Q I r h
 obtain⟨v,vr,e1,h⟩:=h
 subst e1
 cases r with
 | cons r rr=>
  rw [hs]
  refine assignInOrder_cons (dU (h1 pins s σ H _ _ _ I r h) fun _ s1 hpt=>?_)
  obtain⟨σ1,H1,I1,q1⟩:=hpt
  exact h2 pins s1 σ1 H1 _ _ Q I1 rr q1
inductive Sd (K:PySem.W.Frag) (n:Nat) (t:QD) (v:V) (σ:St) (H:Hp) (Q:St->Hp->Prop):Prop where
 | mk:∀a xs,v=.ref a->fY K H a xs->xs.length=n->t xs σ H Q->Sd K n t v σ H Q
noncomputable def Vw (K:PySem.W.Frag) (n:Nat) (t:QD):TG:=fun v σ H Q=>Sd K n t v σ H Q
theorem zN {es:List Expr} {k:Nat} {t:QD} {n:Nat} (hc:X.calm=true) (h:Wg X es t)
  (hn:(assignEach es X.env).length=n:=by rfl) (hst:(assignEach es X.env).findIdx? (·.1)=none:=by rfl):PG X (.Tuple es k pos) (Vw X.K n t):=by
 intro pins s σ H v u Q I r hw
 obtain⟨a,xs,e1,hq,hl,hw⟩:=hw
 subst e1
 cases r
 obtain⟨its,rv,ht,hz⟩:=I.tuple hq
 refine assign_Tuple_tuple (I.ok.hd hc) ht (by simp [hn,<-hl,rv.length]) hst fun h' hx=>?_
 have I1:Inv X pins σ H { s with heap:=h' }:=I.kept (t':=s.toks) fun b o e=>hx b o (Nat.ne_of_lt (Heap.lt_size e)) e
 exact h pins _ σ H xs _ Q I1 (by simpa using rv) hw
noncomputable def Lz (te:TE) (g:TG):TS:=fun D σ H=>te σ H fun x H1=>g x σ H1 D.nx
theorem Qj {tg e:Expr} {te:TE} {g:TG} (he:PE X e te) (hg:PG X tg g) (hs:swapsWithSole [tg] e pos.line X.env=pure false:=by rfl) (hw:swappedStores [tg] e X.env=pure none:=by rfl)
  (h1:(assignEach [tg] X.env).map (·.2)=[assign tg X.env]:=by rfl):PS X (.Assign [tg] e pos) (Lz te g):=by
 intro pins s σ H D I h
 refine wpAny_Assign_stores (dU (he pins s σ H _ I h) fun v s1 hpt=>?_) hs hw
 obtain⟨x,H1,I1,r1,q1⟩:=hpt
 rw [h1]
 exact dU (hg pins s1 σ H1 x v _ I1 r1 q1) fun _ s2 q=>q
theorem U4 {i:Nat} {x:Str} {e:Expr} {te:TE} {pos':Pos} (hN:X.N.Nodup) (hi:X.N[i]?=some x) (hx:Loc X.env.scope x) (he:PE X e te) (hs:swapsWith e (some (.Name x pos')) pos.line X.env=pure false:=by rfl) (hf:X.fn x=true∨X.env.scope.names.lookup x=some .local:=by first | exact .inl rfl | exact .inr rfl | assumption):
  PS X (.Assign [.Name x pos'] e pos) (Lz te (uw i)):=by
 intro pins s σ H D I h
 refine wpAny_Assign_Name (dU (he pins s σ H _ I h) fun v s1 hpt=>?_) hs
 obtain⟨y,H1,I1,r1,q1⟩:=hpt
 exact Bp I1 hN hi hx r1 (fun s2 I2=>⟨_,H1,I2,q1⟩) hf
inductive Sy (i:Nat) (te:TE) (ti:V0) (D:Ends) (σ:St) (H:Hp):Prop where
 | mk:∀x,σ[i]?=some (some x)->(te σ H fun y H1=>ti x y H1 fun z H2=>D.nx (σ.set i (some z)) H2)->Sy i te ti D σ H
noncomputable def Wh (i:Nat) (te:TE) (ti:V0):TS:=fun D σ H=>Sy i te ti D σ H
theorem TY {i:Nat} {x:Str} {e:Expr} {te:TE} {op:Operator} {ti:V0} {pos':Pos} (hN:X.N.Nodup) (hi:X.N[i]?=some x) (hx:Loc X.env.scope x) (he:PE X e te) (ho:Yh X op ti) (hf:X.fn x=true∨X.env.scope.names.lookup x=some .local:=by first | exact .inl rfl | exact .inr rfl | assumption):
  PS X (.AugAssign (.Name x pos') op e pos) (Wh i te ti):=by
 intro pins s σ H D I h
 obtain⟨v,e1,h⟩:=h
 obtain⟨m,hn,hl⟩:=I.loc
 have vis:WY X.env.scope x:=by rcases hx with k | k;exact .inl k;exact .inr (.inl k)
 obtain⟨u,r,l⟩:=hl i x v hi e1 vis
 refine wpAny_AugAssign_Name ?_
 have go:wpAny (model X.prog X.w) X.A (eval e X.env) (fun w s₂=>wpAny (model X.prog X.w) X.A (inplaceOp op u w) (fun r s₃=>wpAny (model X.prog X.w) X.A (storeName X.env x r) (fun _=>SP X pins D .next) X.xe s₃) X.xe s₂) X.xe s:=by
  refine dU (he pins s σ H _ I h) fun w s1 hpt=>?_
  obtain⟨y,H1,I1,r1,q1⟩:=hpt
  refine dU (ho pins s1 σ H1 v y u w _ I1 r r1 q1) fun z s2 hpt=>?_
  obtain⟨zv,H2,I2,r2,q2⟩:=hpt
  exact Bp I2 hN hi hx r2 (fun s3 I3=>⟨_,H2,I3,q2⟩) hf
 rcases l with ⟨hk,hm⟩ | ⟨hk,c,hc,hcell⟩
 ·exact wpAny_loadName_local I.ok.kind hk hn hm go
 ·rcases hk with hk | hk
  ·exact wpAny_loadName_cell I.ok.kind hk hc hcell go
  ·rcases hx with k | k
   ·have:X.env.scope.names.lookup x=some .free:=hk
    rw [k] at this;cases this
   ·have:X.env.scope.names.lookup x=some .free:=hk
    rw [k] at this;cases this
noncomputable def Yl (f:Int->Int->Int):V0:=fun x y H Q=>∃i j,x=.int i/\y=.int j/\Q (.int (f i j)) H
theorem Uh:Yh X .Add (Yl fun i j=>i+j):=by
 intro pins s σ H x y v u Q I r1 r2 h
 obtain⟨i,j,e1,e2,q⟩:=h
 subst e1;subst e2
 obtain⟨t,rfl⟩:=r1
 obtain⟨t',rfl⟩:=r2
 exact iadd_int ⟨.int _,H,I.tok _,⟨_,rfl⟩,q⟩
end
section
variable {X:Cx} {pos:Pos}
inductive Kd (c:TT) (tb:TS) (D:Ends) (σ:St) (H:Hp):Prop where
 | mk:∀W:Nat->St->Hp->Prop,((∃m,W m σ H))->(∀m σ H,W m σ H->
 c σ H fun b H1=>if b=true then ∃N:St->Hp->Prop,(∀σ' H',N σ' H'->∃m',m' <m/\W m' σ' H')/\tb { D with nx:=N,ct:=N,bk:=D.nx } σ H1 else D.nx σ H1)->Kd c tb D σ H
noncomputable def Jy (c:TT) (tb:TS):TS:=fun D σ H=>Kd c tb D σ H
theorem sr {c:Expr} {body:List Stmt} {tc:TT} {tb:TS} (hp:PassesOwn (model X.prog X.w) X.A X.env X.xe) (hc:PT X c tc) (hb:LQ X body tb):PS X (.While c body [] pos) (Jy tc tb):=by
 intro pins s σ H D I h
 obtain⟨W,⟨m0,w0⟩,turn⟩:=h
 refine wpAny_While (codeAny_whileLoop (fun n s'=>∃σ' H',Inv X pins σ' H' s'/\W n σ' H') ?_ m0 ⟨σ,H,I,w0⟩)
 rintro n s1 ⟨σ1,H1,I1,w1⟩
 refine wpAny_passesOwn hp (dU (hc pins s1 σ1 H1 _ I1 (turn n σ1 H1 w1)) fun b s2 hpt=>?_)
 obtain⟨H2,I2,q2⟩:=hpt
 cases b with
 | true=>
  obtain⟨N,hN,q2⟩:=q2
  rw [if_pos rfl]
  refine wpAny_passesOwn hp (dU (hb pins s2 σ1 H2 _ I2 q2) fun f s3 q3=>?_)
  cases f with
  | next=>
   obtain⟨σ3,H3,I3,n3⟩:=q3
   obtain⟨m',hm,w3⟩:=hN σ3 H3 n3
   exact⟨m',hm,σ3,H3,I3,w3⟩
  | cont=>
   obtain⟨σ3,H3,I3,n3⟩:=q3
   obtain⟨m',hm,w3⟩:=hN σ3 H3 n3
   exact⟨m',hm,σ3,H3,I3,w3⟩
  | brk=>exact q3
  | ret v=>exact q3
 | false=>
  rw [if_neg Bool.false_ne_true]
  exact wpAny_execs_nil ⟨σ1,H2,I2,q2⟩
end
structure It where
 go:Nat->Hp->Prop
 yld:Nat->Hp->V->Hp->Prop
 stop:Nat->Hp->Prop
noncomputable def FZ (X:Cx) (pins:List (Addr×Obj)) (H:Hp) (b:Addr):Prop:=
 H b=none/\b≠X.env.locals/\b∉X.fs/\(b∈X.ex∨X.s₀.heap.objs.size<=b)/\(∀x c,X.env.cells.lookup x=some c->c≠b)/\∀p∈X.pn ++ pins,p.1≠b
theorem Inv.fpOk {X:Cx} {pins:List (Addr×Obj)} {σ:St} {H H':Hp} {s:Shared} {b:Addr} (I:Inv X pins σ H s) (hb:s.heap.objs.size<=b) (hn:H' b=none):FZ X pins H' b:=by
 refine⟨hn,Nat.ne_of_gt (Nat.lt_of_lt_of_le I.lt hb),I.nofs hb,.inr (Nat.le_trans I.sz hb),fun x c e z=>?_,fun p hp z=>?_⟩
 ·obtain⟨v,q⟩:=I.cell x c e
  exact absurd (Nat.lt_of_lt_of_le q.lt (by rw [z];exact hb)) (Nat.lt_irrefl _)
 ·exact absurd (Nat.lt_of_lt_of_le (Heap.lt_size (I.pin p hp).1) (by rw [z];exact hb)) (Nat.lt_irrefl _)
structure Turn (P:Program) (w:World) (K:PySem.W.Frag) (tg:Expr) (J:It) (fp:List Addr) (it:Addr) (tn:Nat->Heap->Prop):Prop where
 mem:it∈fp
 obj:∀i h,tn i h->∀b∈fp,∃o,h.get? b=some o/\∀v,o.data≠.cell v
 keep:∀i h h',tn i h->(∀b∈fp,∀o,h.get? b=some o->h'.get? b=some o)->tn i h'
 item:∀(X:Cx),X.prog=P->X.w=w->X.K=K->X.calm=true->∀(i:Nat) (pins:List (Addr×Obj)) (s:Shared) (σ:St) (H:Hp) (E:Value->Shared->Prop),Inv X pins σ H s->(∀b∈fp,FZ X pins H b)->tn i s.heap->J.go i H->
  wpAny (model P w) X.A (pyNext (.ref it)) (fun r s1=>∃u,r=some u/\
   wpAny (model P w) X.A (letOwnedTupleGo tg (.ref it) u) (fun _ s2=>∃x H',Inv X pins σ H' s2/\RelV x u/\J.yld i H x H'/\tn (i+1) s2.heap/\∀b∈fp,H' b=none) E s1) E s
 done:∀(X:Cx),X.prog=P->X.w=w->X.K=K->X.calm=true->∀(i:Nat) (pins:List (Addr×Obj)) (s:Shared) (σ:St) (H:Hp) (E:Value->Shared->Prop),Inv X pins σ H s->(∀b∈fp,FZ X pins H b)->tn i s.heap->J.stop i H->
  wpAny (model P w) X.A (pyNext (.ref it)) (fun r s1=>r=none/\Inv X pins σ H s1) E s
 self:∀(A:Around) (i:Nat) (s:Shared) (Q:Value->Shared->Prop) (E:Value->Shared->Prop),tn i s.heap->Q (.ref it) s->wpAny (model P w) A (pyIter (.ref it)) Q E s
noncomputable abbrev TI:=St->Hp->(It->Hp->Prop)->Prop
noncomputable def PIE (X:Cx) (pins:List (Addr×Obj)) (σ:St) (tg:Expr) (R:It->Hp->Prop) (itv:Value) (s2:Shared):Prop:=
 ∃(it:Addr) (fp:List Addr) (tn:Nat->Heap->Prop) (J:It) (H':Hp),itv=.ref it/\Inv X pins σ H' s2/\Turn X.prog X.w X.K tg J fp it tn/\tn 0 s2.heap/\(∀b∈fp,FZ X pins H' b)/\R J H'
noncomputable def PI (X:Cx) (tg iter:Expr) (wi:TI):Prop:=
 ∀(pins:List (Addr×Obj)) (s:Shared) (σ:St) (H:Hp) (R:It->Hp->Prop),Inv X pins σ H s->wi σ H R->
  wpAny (model X.prog X.w) X.A (eval iter X.env) (fun v s1=>wpAny (model X.prog X.w) X.A (pyIter v) (PIE X pins σ tg R) X.xe s1) X.xe s
theorem Dg {M:Model} {A:Around} {E:Value->Shared->Prop} {s:Shared} {tg:Expr} {it:Addr} {u:Value} {o:Obj} {n:String} {vs:Array Value} {Q:Unit->Shared->Prop} (ho:s.heap.get? it=some o) (hc:o.cls=.type n) (hd:o.data=.fields vs)
  (hn:["enumerate", "zip", "dict_itemiterator", "dict_reverseitemiterator", "odict_iterator", "itertools.zip_longest", "itertools.pairwise"].contains n=false) (hQ:Q () s):wpAny M A (letOwnedTupleGo tg (.ref it) u) Q E s:=by
 unfold letOwnedTupleGo
 cases tg <;> first
  | exact wpAny_pure hQ
  | (cases u <;> first
    | exact wpAny_pure hQ
    | (refine wpAny_bind (wpAny_load ho ?_)
       rw [hc,hd]
       show wpAny M A (if (["enumerate", "zip", "dict_itemiterator", "dict_reverseitemiterator", "odict_iterator", "itertools.zip_longest", "itertools.pairwise"].contains n && vs[0]? == some (rawInt _))=true then _ else _) Q E s
       rw [if_neg (by intro h;rw [hn,Bool.false_and] at h;cases h)]
       exact wpAny_pure hQ))
noncomputable def Tt (K:PySem.W.Frag) (a:Addr):It:=
 ⟨fun i H=>∃xs x,bT K H a xs/\xs[i]?=some x,fun i H x H'=>H'=H/\∀xs,bT K H a xs->xs[i]?=some x,fun i H=>∃xs,bT K H a xs/\xs.length<=i⟩
noncomputable def Vj (K:PySem.W.Frag) (a:Addr):It:=
 ⟨fun i H=>∃xs x,fY K H a xs/\xs[i]?=some x,fun i H x H'=>H'=H/\∀xs,fY K H a xs->xs[i]?=some x,fun i H=>∃xs,fY K H a xs/\xs.length<=i⟩
noncomputable def Uw (lo:Int) (n:Nat):It:=⟨fun i _=>i <n,fun i H x H'=>H'=H/\x=.int (lo+i),fun i _=>n<=i⟩
theorem Ly {P:Program} {w:World} {K:PySem.W.Frag} {tg:Expr} (a it:Addr):Turn P w K tg (Tt K a) [it] it (fun i h=>h.IsListIter it a i) where
 mem:=by simp
 obj:=fun i h st b hb=>by
  have e:b=it:=by simpa using hb
  subst e
  obtain⟨o,e,c,d⟩:=st
  exact⟨o,e,fun v z=>by rw [d] at z;cases z⟩
 keep:=fun i h h' st k=>st.at fun o e=>k it (by simp) o e
 item:=by
  intro X hP hw hK hc i pins s σ H E I hf st hg
  subst hP hw hK
  obtain⟨xs,x,hq,hx⟩:=hg
  obtain⟨its,rv,p,hz⟩:=I.list hq
  obtain⟨u,hu,ru⟩:=rv.get hx
  obtain⟨f0,f1,f2,f3,f4,f5⟩:=hf it (by simp)
  refine wpAny_pyNext_list_item st p.isList (x:=u) (by simpa using hu) fun h' st' sb=>?_
  have I1:Inv X pins σ H { s with heap:=h' }:=I.turned (t':=s.toks) (fun b o hb e=>(sb.2 b hb).trans e) f0 f1 f3 f4 f5
  obtain⟨o,e,c,d⟩:=id st'
  exact⟨u,rfl,Dg (s:={ s with heap:=h' }) e c d (by decide) ⟨x,H,I1,ru,⟨rfl,fun ys hy=>by rw [I.list_inj hy hq];exact hx⟩,st',fun b hb=>(hf b hb).1⟩⟩
 done:=by
  intro X hP hw hK hc i pins s σ H E I hf st hg
  subst hP hw hK
  obtain⟨xs,hq,hx⟩:=hg
  obtain⟨its,rv,p,hz⟩:=I.list hq
  obtain⟨f0,f1,f2,f3,f4,f5⟩:=hf it (by simp)
  have hl:=rv.length
  exact wpAny_pyNext_list_end (I.ok.hd hc) st p.isList (by simp;omega) fun h' eb=>⟨rfl,I.turned (t':=s.toks) (fun b o hb e=>eb b o hb e) f0 f1 f3 f4 f5⟩
 self:=fun _ _ _ _ _ st h=>wpAny_pyIter_listiter st h
theorem Ju {P:Program} {w:World} {K:PySem.W.Frag} {tg:Expr} (a it:Addr):Turn P w K tg (Vj K a) [it] it (fun i h=>h.IsTupleIter it a i) where
 mem:=by simp
 obj:=fun i h st b hb=>by
  have e:b=it:=by simpa using hb
  subst e
  obtain⟨o,e,c,d⟩:=st
  exact⟨o,e,fun v z=>by rw [d] at z;cases z⟩
 keep:=fun i h h' st k=>st.at fun o e=>k it (by simp) o e
 item:=by
  intro X hP hw hK hc i pins s σ H E I hf st hg
  subst hP hw hK
  obtain⟨xs,x,hq,hx⟩:=hg
  obtain⟨its,rv,p,hz⟩:=I.tuple hq
  obtain⟨u,hu,ru⟩:=rv.get hx
  obtain⟨f0,f1,f2,f3,f4,f5⟩:=hf it (by simp)
  refine wpAny_pyNext_tuple_item st (show s.heap.IsTuple a its.toArray from p) (x:=u) (by simpa using hu) fun h' st' sb=>?_
  have I1:Inv X pins σ H { s with heap:=h' }:=I.turned (t':=s.toks) (fun b o hb e=>(sb.2 b hb).trans e) f0 f1 f3 f4 f5
  obtain⟨o,e,c,d⟩:=id st'
  exact⟨u,rfl,Dg (s:={ s with heap:=h' }) e c d (by decide) ⟨x,H,I1,ru,⟨rfl,fun ys hy=>by rw [I.tuple_inj hy hq];exact hx⟩,st',fun b hb=>(hf b hb).1⟩⟩
 done:=by
  intro X hP hw hK hc i pins s σ H E I hf st hg
  subst hP hw hK
  obtain⟨xs,hq,hx⟩:=hg
  obtain⟨its,rv,p,hz⟩:=I.tuple hq
  obtain⟨f0,f1,f2,f3,f4,f5⟩:=hf it (by simp)
  have hl:=rv.length
  exact wpAny_pyNext_tuple_end (I.ok.hd hc) st (show s.heap.IsTuple a its.toArray from p) (by simp;omega) fun h' eb=>⟨rfl,I.turned (t':=s.toks) (fun b o hb e=>eb b o hb e) f0 f1 f3 f4 f5⟩
 self:=fun _ _ _ _ _ st h=>wpAny_pyIter_tupleiter st h
theorem JK {P:Program} {w:World} {K:PySem.W.Frag} {tg:Expr} (it:Addr) (lo:Int) (n:Nat):Turn P w K tg (Uw lo n) [it] it (fun i h=>IsRangeIter h it (lo+(i:Nat) * 1) ((n:Int) - (i:Nat)) 1) where
 mem:=by simp
 obj:=fun i h st b hb=>by
  have e:b=it:=by simpa using hb
  subst e
  exact⟨_,st,fun v z=>by
   have z':Data.fields _=Data.cell v:=z
   cases z'⟩
 keep:=fun i h h' st k=>k it (by simp) _ st
 item:=by
  intro X hP hw hK hc i pins s σ H E I hf st hg
  subst hP hw hK
  obtain⟨f0,f1,f2,f3,f4,f5⟩:=hf it (by simp)
  have W:=Walks.range (prog:=X.prog) (w:=X.w) (I.ok.hd hc) it lo 1 n
  refine W.item i s _ _ hg st fun v h' tk hv st' kk=>?_
  obtain⟨t,rfl⟩:=hv
  have I1:Inv X pins σ H { s with heap:=h',toks:=tk }:=I.turned (fun b o hb e=>kk b o (by simpa using hb) e) f0 f1 f3 f4 f5
  refine⟨_,rfl,Dg (s:={ s with heap:=h',toks:=tk }) (n:= "range_iterator") st' rfl rfl (by decide) ⟨.int (lo+i),H,I1,⟨t,?_⟩,⟨rfl,rfl⟩,st',fun b hb=>(hf b hb).1⟩⟩
  rw [Int.mul_one]
 done:=by
  intro X hP hw hK hc i pins s σ H E I hf st hg
  subst hP hw hK
  obtain⟨f0,f1,f2,f3,f4,f5⟩:=hf it (by simp)
  exact wpAny_pyNext_range_end (I.ok.hd hc) st (by have:n<=i:=hg;omega) fun h' eb=>⟨rfl,I.turned (t':=s.toks) (fun b o hb e=>eb b o hb e) f0 f1 f3 f4 f5⟩
 self:=fun _ _ _ _ _ st h=>wpAny_pyIter_rangeiter st h
section
variable {X:Cx} {tg:Expr}
inductive Ot (K:PySem.W.Frag) (R:It->Hp->Prop) (x:V) (H1:Hp):Prop where
 | mk:∀a,x=.ref a->((∃xs,bT K H1 a xs))->R (Tt K a) H1->Ot K R x H1
noncomputable def R8 (K:PySem.W.Frag) (tl:TE):TI:=fun σ H R=>tl σ H fun x H1=>Ot K R x H1
inductive Tn (K:PySem.W.Frag) (R:It->Hp->Prop) (x:V) (H1:Hp):Prop where
 | mk:∀a,x=.ref a->((∃xs,fY K H1 a xs))->R (Vj K a) H1->Tn K R x H1
noncomputable def WW (K:PySem.W.Frag) (tl:TE):TI:=fun σ H R=>tl σ H fun x H1=>Tn K R x H1
theorem cW {l:Expr} {tl:TE} (hl:PE X l tl):PI X tg l (R8 X.K tl):=by
 intro pins s σ H R I h
 refine dU (hl pins s σ H _ I h) fun v s1 hpt=>?_
 obtain⟨x,H1,I1,r1,q1⟩:=hpt
 obtain⟨a,e,⟨xs,hq⟩,q⟩:=q1
 subst e
 cases r1
 obtain⟨its,rv,p,hz⟩:=I1.list hq
 refine wpAny_pyIter_list p.isList ?_
 refine⟨s1.heap.objs.size,[s1.heap.objs.size],_,_,H1,rfl,I1.kept (t':=s1.toks) fun b o e=>Heap.get?_push_of_some _ e,Ly a _,⟨_,Heap.get?_push_size _ rfl,rfl,rfl⟩,fun b hb=>?_,q⟩
 have e:b=s1.heap.objs.size:=by simpa using hb
 subst e
 exact I1.fpOk (Nat.le_refl _) (I1.hok.fresh (Nat.le_refl _))
theorem FT {l:Expr} {tl:TE} (hl:PE X l tl):PI X tg l (WW X.K tl):=by
 intro pins s σ H R I h
 refine dU (hl pins s σ H _ I h) fun v s1 hpt=>?_
 obtain⟨x,H1,I1,r1,q1⟩:=hpt
 obtain⟨a,e,⟨xs,hq⟩,q⟩:=q1
 subst e
 cases r1
 obtain⟨its,rv,p,hz⟩:=I1.tuple hq
 refine wpAny_pyIter_tuple (show s1.heap.IsTuple a its.toArray from p) ?_
 refine⟨s1.heap.objs.size,[s1.heap.objs.size],_,_,H1,rfl,I1.kept (t':=s1.toks) fun b o e=>Heap.get?_push_of_some _ e,Ju a _,⟨_,Heap.get?_push_size _ rfl,rfl,rfl⟩,fun b hb=>?_,q⟩
 have e:b=s1.heap.objs.size:=by simpa using hb
 subst e
 exact I1.fpOk (Nat.le_refl _) (I1.hok.fresh (Nat.le_refl _))
theorem PJ {pins:List (Addr×Obj)} {σ:St} {H:Hp} {s:Shared} {R:It->Hp->Prop} {E:Value->Shared->Prop} {lo hi:Int} {t u v:Tok} {tk:Nat} (I:Inv X pins σ H s) (h1: -(2 ^ 62)<=lo) (h2:lo <2 ^ 62) (h3: -(2 ^ 62)<=hi) (h4:hi <2 ^ 62)
  (q:R (Uw lo (hi - lo).toNat) H):wpAny (model X.prog X.w) X.A (pyIter (.ref s.heap.objs.size)) (PIE X pins σ tg R) E { s with heap:=s.heap.push { cls:=.type "range",data:=.fields #[.int lo t,.int hi u,.int 1 v] },toks:=tk }:=by
 refine wpAny_pyIter_range (IsRange.new ..) (small_one h1 h2 h3 h4) ?_
 have I1:Inv X pins σ H { s with heap:=s.heap.push { cls:=.type "range",data:=.fields #[.int lo t,.int hi u,.int 1 v] },toks:=tk }:=I.kept fun b o e=>Heap.get?_push_of_some _ e
 refine⟨(s.heap.push { cls:=.type "range",data:=.fields #[.int lo t,.int hi u,.int 1 v] }).objs.size,[(s.heap.push { cls:=.type "range",data:=.fields #[.int lo t,.int hi u,.int 1 v] }).objs.size],_,_,H,rfl,
  I1.kept (t':=tk) fun b o e=>Heap.get?_push_of_some _ e,JK _ lo (hi - lo).toNat,?_,fun b hb=>?_,q⟩
 ·have e1:lo+((0:Nat):Int) * 1=lo:=by simp
  have e2:(((hi - lo).toNat:Nat):Int) - ((0:Nat):Int)=Builtin.Range.rangeSize lo hi 1:=by rw [rangeSize_one];split <;> omega
  show IsRangeIter _ _ (lo+((0:Nat):Int) * 1) ((((hi - lo).toNat:Nat):Int) - ((0:Nat):Int)) 1
  rw [e1,e2]
  exact Heap.get?_push_size _ rfl
 ·have e:b=(s.heap.push { cls:=.type "range",data:=.fields #[.int lo t,.int hi u,.int 1 v] }).objs.size:=by simpa using hb
  subst e
  exact I1.fpOk (Nat.le_refl _) (I1.hok.fresh (Nat.le_refl _))
inductive Qu (R:It->Hp->Prop) (vs:List V) (H1:Hp):Prop where
 | mk:∀j:Int,vs=[.int j]-> -(2 ^ 62)<=j->j <2 ^ 62->R (Uw 0 j.toNat) H1->Qu R vs H1
noncomputable def Vn (ta:TA):TI:=fun σ H R=>ta σ H fun vs H1=>Qu R vs H1
theorem jz {a:Expr} {ta:TA} {p pos:Pos} (hg:Gl X "range") (hm:X.mg "range" =none) (ha:PA X [a] ta) (hs:starEach [a] X.env=[(false,eval a X.env)]:=by rfl):PI X tg (.Call (.Name "range" p) [a] [] pos) (Vn ta):=by
 intro pins s σ H R I h
 refine Call_ (An I hg hm boot_range (PyProof.Rows.callWith_type1 (dU (ha pos pins s σ H _ I h) fun us s1 ⟨vs,H1,I1,r1,q1⟩=>?_) hs rfl))
 obtain⟨j,e,q1,q2,q⟩:=q1
 subst e
 cases r1 with
 | cons r rr=>
  cases rr
  obtain⟨t,rfl⟩:=r
  exact call_range_1 (PJ I1 (by omega) (by omega) q1 q2 (by simpa using q))
noncomputable def XF (wi:TI) (g:TG) (tb:TS):TS:=fun D σ H=>wi σ H fun J H1=>∃W:Nat->Nat->St->Hp->Prop,(∃m,W 0 m σ H1)/\∀i m σ H,W i m σ H->
 (J.stop i H/\D.nx σ H)∨(J.go i H/\∃N:St->Hp->Prop,(∀σ' H',N σ' H'->∃m',m' <m/\W (i+1) m' σ' H')/\∀x H',J.yld i H x H'->g x σ H' fun σ2 H2=>tb { D with nx:=N,ct:=N,bk:=D.nx } σ2 H2)
noncomputable def El (fp:List Addr) (h:Heap):List (Addr×Obj):=fp.filterMap fun b=>(h.get? b).map fun o=>(b,o)
theorem qC {fp:List Addr} {h:Heap} {b:Addr} {o:Obj} (hb:b∈fp) (e:h.get? b=some o):(b,o)∈El fp h:=List.mem_filterMap.mpr ⟨b,hb,by rw [e];rfl⟩
theorem Mz {fp:List Addr} {h:Heap} {p:Addr×Obj} (hp:p∈El fp h):p.1∈fp/\h.get? p.1=some p.2:=by
 obtain⟨b,hb,e⟩:=List.mem_filterMap.mp hp
 cases q:h.get? b with
 | none=>rw [q] at e;cases e
 | some o=>
  rw [q] at e
  have e':(b,o)=p:=Option.some.inj e
  subst e'
  exact⟨hb,q⟩
theorem Inv.pinned {pins:List (Addr×Obj)} {σ:St} {H:Hp} {s:Shared} {fp:List Addr} (I:Inv X pins σ H s) (hf:∀b∈fp,FZ X pins H b) (ho:∀b∈fp,∃o,s.heap.get? b=some o/\∀v,o.data≠.cell v):Inv X (pins ++ El fp s.heap) σ H s:=
 I.pins_of fun p hp=>(List.mem_append.mp hp).elim (fun z=>I.pin p (List.mem_append_right _ z)) fun z=>by
  obtain⟨hb,e⟩:=Mz z
  obtain⟨f0,f1,f2,_⟩:=hf p.1 hb
  obtain⟨o,e',d⟩:=ho p.1 hb
  rw [e] at e';cases e'
  exact⟨e,f0,f1,f2,d⟩
theorem Inv.unpinned {pins pl:List (Addr×Obj)} {σ:St} {H:Hp} {s:Shared} (I:Inv X (pins ++ pl) σ H s):Inv X pins σ H s:=I.pins_of fun p hp=>I.pin p (List.mem_append_right _ (List.mem_append_left _ hp))
theorem eN {iter:Expr} {body:List Stmt} {wi:TI} {g:TG} {tb:TS} {pos:Pos} (hp:PassesOwn (model X.prog X.w) X.A X.env X.xe) (hc:X.calm=true) (hi:PI X tg iter wi) (hg:PG X tg g) (hb:LQ X body tb)
  (hs:∀x,foldedSetIterable iter X.env x=pure x:=by intro _;rfl):PS X (.For tg iter body [] pos) (XF wi g tb):=by
 intro pins s σ H D I h
 refine wpAny_For (dU (hi pins s σ H _ I h) fun v s1 h1=>dU h1 fun itv s2 h2=>?_) hs
 obtain⟨it,fp,tn,J,H2,e,I2,T,st2,f2,W,⟨m0,w0⟩,turn⟩:=h2
 subst e
 have stat:∀{H':Hp},(∀b∈fp,H' b=none)->∀b∈fp,FZ X pins H' b:=fun hn b hb=>⟨hn b hb,(f2 b hb).2⟩
 refine codeAny_forLoop_any (fun n s'=>∃i σ' H',Inv X pins σ' H' s'/\tn i s'.heap/\(∀b∈fp,H' b=none)/\W i n σ' H') ?_ m0 ⟨0,σ,H2,I2,st2,fun b hb=>(f2 b hb).1,w0⟩
 rintro n s3 ⟨i,σ3,H3,I3,st3,fr3,w3⟩
 rcases turn i n σ3 H3 w3 with ⟨stop,qn⟩ | ⟨go,N,hN,step⟩
 ·refine wpAny_passesOwn hp (dU (T.done X rfl rfl rfl hc i pins s3 σ3 H3 X.xe I3 (stat fr3) st3 stop) fun r s4 hpt=>?_)
  obtain⟨hr,I4⟩:=hpt
  subst hr
  exact wpAny_execs_nil ⟨σ3,H3,I4,qn⟩
 ·refine wpAny_passesOwn hp (dU (T.item X rfl rfl rfl hc i pins s3 σ3 H3 X.xe I3 (stat fr3) st3 go) fun r s4 hpt=>?_)
  obtain⟨u,hr,h4⟩:=hpt
  subst hr
  refine wpAny_passesOwn hp (dU h4 fun _ s5 hpt=>?_)
  obtain⟨x,H5,I5,r5,y5,st5,fr5⟩:=hpt
  have I5':=I5.pinned (stat fr5) (T.obj _ _ st5)
  refine wpAny_passesOwn hp (dU (hg _ s5 σ3 H5 x u _ I5' r5 (step x H5 y5)) fun _ s6 hpt=>?_)
  obtain⟨σ6,H6,I6,q6⟩:=hpt
  refine wpAny_passesOwn hp (dU (hb _ s6 σ6 H6 _ I6 q6) fun f s7 q7=>?_)
  have again:∀{σ7:St} {H7:Hp},Inv X (pins ++ El fp s5.heap) σ7 H7 s7->N σ7 H7->∃m,m <n/\∃i σ' H',Inv X pins σ' H' s7/\tn i s7.heap/\(∀b∈fp,H' b=none)/\W i m σ' H':=fun {σ7 H7} I7 n7=>by
   obtain⟨m',hm,w7⟩:=hN σ7 H7 n7
   refine⟨m',hm,i+1,σ7,H7,I7.unpinned,T.keep _ _ _ st5 fun b hb o e=>(I7.pin (b,o) (List.mem_append_right _ (List.mem_append_right _ (qC hb e)))).1,fun b hb=>?_,w7⟩
   obtain⟨o,e,d⟩:=T.obj _ _ st5 b hb
   exact(I7.pin (b,o) (List.mem_append_right _ (List.mem_append_right _ (qC hb e)))).2.1
  cases f with
  | next=>obtain⟨σ7,H7,I7,n7⟩:=q7;exact again I7 n7
  | cont=>obtain⟨σ7,H7,I7,n7⟩:=q7;exact again I7 n7
  | brk=>obtain⟨σ7,H7,I7,q7⟩:=q7;exact⟨σ7,H7,I7.unpinned,q7⟩
  | ret v=>obtain⟨x7,σ7,H7,I7,r7,q7⟩:=q7;exact⟨x7,σ7,H7,I7.unpinned,r7,q7⟩
end
theorem fu {K:PySem.W.Frag} {a:Addr} {xs:List V} {g:TG} {tb:TS} {D:Ends} {σ:St} {H:Hp} (Pv:Nat->St->Hp->Prop) (h0:Pv 0 σ H) (hl:∀i σ H,i<=xs.length->Pv i σ H->bT K H a xs)
  (hs:∀i x σ H,xs[i]?=some x->Pv i σ H->g x σ H fun σ2 H2=>tb { D with nx:=Pv (i+1),ct:=Pv (i+1),bk:=D.nx } σ2 H2) (hd:∀σ H,Pv xs.length σ H->D.nx σ H):
  ∃W:Nat->Nat->St->Hp->Prop,(∃m,W 0 m σ H)/\∀i m σ H,W i m σ H->
   ((Tt K a).stop i H/\D.nx σ H)∨((Tt K a).go i H/\∃N:St->Hp->Prop,(∀σ' H',N σ' H'->∃m',m' <m/\W (i+1) m' σ' H')/\∀x H',(Tt K a).yld i H x H'->g x σ H' fun σ2 H2=>tb { D with nx:=N,ct:=N,bk:=D.nx } σ2 H2):=by
 refine⟨fun i m σ H=>m=xs.length - i/\i<=xs.length/\Pv i σ H,⟨xs.length,by simp,Nat.zero_le _,h0⟩,?_⟩
 rintro i m σ H ⟨rfl,hi,p⟩
 have q:=hl i σ H hi p
 by_cases hlt:i <xs.length
 ·refine .inr ⟨⟨xs,xs[i],q,by simp [hlt]⟩,Pv (i+1),fun σ' H' p'=>⟨xs.length - (i+1),by omega,rfl,hlt,p'⟩,fun x H' y=>?_⟩
  obtain⟨e,y⟩:=y
  subst e
  exact hs i x σ _ (y xs q) p
 ·have e:i=xs.length:=by omega
  subst e
  exact .inl ⟨⟨xs,q,Nat.le_refl _⟩,hd σ H p⟩
theorem RJ {K:PySem.W.Frag} {a:Addr} {xs:List V} {g:TG} {tb:TS} {D:Ends} {σ:St} {H:Hp} (Pv:Nat->St->Hp->Prop) (h0:Pv 0 σ H) (hl:∀i σ H,i<=xs.length->Pv i σ H->fY K H a xs)
  (hs:∀i x σ H,xs[i]?=some x->Pv i σ H->g x σ H fun σ2 H2=>tb { D with nx:=Pv (i+1),ct:=Pv (i+1),bk:=D.nx } σ2 H2) (hd:∀σ H,Pv xs.length σ H->D.nx σ H):
  ∃W:Nat->Nat->St->Hp->Prop,(∃m,W 0 m σ H)/\∀i m σ H,W i m σ H->
   ((Vj K a).stop i H/\D.nx σ H)∨((Vj K a).go i H/\∃N:St->Hp->Prop,(∀σ' H',N σ' H'->∃m',m' <m/\W (i+1) m' σ' H')/\∀x H',(Vj K a).yld i H x H'->g x σ H' fun σ2 H2=>tb { D with nx:=N,ct:=N,bk:=D.nx } σ2 H2):=by
 refine⟨fun i m σ H=>m=xs.length - i/\i<=xs.length/\Pv i σ H,⟨xs.length,by simp,Nat.zero_le _,h0⟩,?_⟩
 rintro i m σ H ⟨rfl,hi,p⟩
 have q:=hl i σ H hi p
 by_cases hlt:i <xs.length
 ·refine .inr ⟨⟨xs,xs[i],q,by simp [hlt]⟩,Pv (i+1),fun σ' H' p'=>⟨xs.length - (i+1),by omega,rfl,hlt,p'⟩,fun x H' y=>?_⟩
  obtain⟨e,y⟩:=y
  subst e
  exact hs i x σ _ (y xs q) p
 ·have e:i=xs.length:=by omega
  subst e
  exact .inl ⟨⟨xs,q,Nat.le_refl _⟩,hd σ H p⟩
theorem Ei {lo:Int} {n:Nat} {g:TG} {tb:TS} {D:Ends} {σ:St} {H:Hp} (Pv:Nat->St->Hp->Prop) (h0:Pv 0 σ H)
  (hs:∀i σ H,i <n->Pv i σ H->g (.int (lo+i)) σ H fun σ2 H2=>tb { D with nx:=Pv (i+1),ct:=Pv (i+1),bk:=D.nx } σ2 H2) (hd:∀σ H,Pv n σ H->D.nx σ H):
  ∃W:Nat->Nat->St->Hp->Prop,(∃m,W 0 m σ H)/\∀i m σ H,W i m σ H->
   ((Uw lo n).stop i H/\D.nx σ H)∨((Uw lo n).go i H/\∃N:St->Hp->Prop,(∀σ' H',N σ' H'->∃m',m' <m/\W (i+1) m' σ' H')/\∀x H',(Uw lo n).yld i H x H'->g x σ H' fun σ2 H2=>tb { D with nx:=N,ct:=N,bk:=D.nx } σ2 H2):=by
 refine⟨fun i m σ H=>m=n - i/\i<=n/\Pv i σ H,⟨n,by simp,Nat.zero_le _,h0⟩,?_⟩
 rintro i m σ H ⟨rfl,hi,p⟩
 by_cases hlt:i <n
 ·refine .inr ⟨hlt,Pv (i+1),fun σ' H' p'=>⟨n - (i+1),by omega,rfl,hlt,p'⟩,fun x H' y=>?_⟩
  obtain⟨e,y⟩:=y
  subst e y
  exact hs i σ _ hlt p
 ·have e:i=n:=by omega
  subst e
  exact .inl ⟨Nat.le_refl _,hd σ H p⟩
theorem rR {c:TT} {tb:TS} {D:Ends} {σ:St} {H:Hp} (Pv:St->Hp->Prop) (μ:St->Hp->Nat) (h0:Pv σ H)
  (hs:∀σ H,Pv σ H->c σ H fun b H1=>if b=true then tb { D with nx:=fun σ' H'=>Pv σ' H'/\μ σ' H' <μ σ H,ct:=fun σ' H'=>Pv σ' H'/\μ σ' H' <μ σ H,bk:=D.nx } σ H1 else D.nx σ H1)
  (mono:∀σ H Q Q',(∀b H1,Q b H1->Q' b H1)->c σ H Q->c σ H Q'):Jy c tb D σ H:=by
 refine⟨fun m σ H=>m=μ σ H/\Pv σ H,⟨_,rfl,h0⟩,?_⟩
 rintro m σ H ⟨rfl,p⟩
 refine mono σ H _ _ (fun b H1 q=>?_) (hs σ H p)
 cases b with
 | true=>exact⟨_,fun σ' H' ⟨p',l⟩=>⟨_,l,rfl,p'⟩,q⟩
 | false=>exact q
noncomputable abbrev R2:=V->V->Hp->VK->Prop
noncomputable def wK (X:Cx) (f:Value->Value->Sem Value) (r:R2):Prop:=
 ∀(pins:List (Addr×Obj)) (s:Shared) (σ:St) (H:Hp) (x y:V) (v u:Value) (Q:VK),Inv X pins σ H s->RelV x v->RelV y u->r x y H Q->
  wpAny (model X.prog X.w) X.A (f v u) (EP X pins σ Q) X.xe s
noncomputable def jC (X:Cx) (f:Value) (r:List V->Hp->VK->Prop):Prop:=
 ∀(pins:List (Addr×Obj)) (s:Shared) (σ:St) (H:Hp) (xs:List V) (us:List Value) (Q:VK),Inv X pins σ H s->Vals xs us->r xs H Q->
  wpAny (model X.prog X.w) X.A (call f us) (EP X pins σ Q) X.xe s
noncomputable def Vm (r:R2) (ta tb:TE):TE:=fun σ H Q=>ta σ H fun x H1=>tb σ H1 fun y H2=>r x y H2 Q
inductive Yo (C:Int->Int->Prop) (g:Int->Int->V) (x:V) (y:V) (H:Hp) (Q:VK):Prop where
 | mk:∀i j,x=.int i->y=.int j->C i j->Q (g i j) H->Yo C g x y H Q
noncomputable def rI (C:Int->Int->Prop) (g:Int->Int->V):R2:=fun x y H Q=>Yo C g x y H Q
inductive Wm (g:Int->Int->V) (x:V) (y:V) (H:Hp) (Q:VK):Prop where
 | mk:∀i j,x=.int i->y=.int j->Q (g i j) H->Wm g x y H Q
noncomputable def QM (g:Int->Int->V):R2:=fun x y H Q=>Wm g x y H Q
section
variable {X:Cx} {a b c:Expr} {ta tb tc:TE} {pos:Pos}
theorem TX (ha:PE X a ta) (hb:PE X b tb) {pins:List (Addr×Obj)} {s:Shared} {σ:St} {H:Hp} {R:V->V->Hp->Prop} (I:Inv X pins σ H s)
  (h:ta σ H fun x H1=>tb σ H1 fun y H2=>R x y H2) {Q:Value->Shared->Prop} {f:Value->Value->Sem Value}
  (hf:∀v u s2 x y H2,Inv X pins σ H2 s2->RelV x v->RelV y u->R x y H2->wpAny (model X.prog X.w) X.A (f v u) Q X.xe s2):
  wpAny (model X.prog X.w) X.A (eval a X.env) (fun v s₁=>wpAny (model X.prog X.w) X.A (eval b X.env) (fun u s₂=>wpAny (model X.prog X.w) X.A (f v u) Q X.xe s₂) X.xe s₁) X.xe s:=by
 refine dU (ha pins s σ H _ I h) fun v s1 hpt=>?_
 obtain⟨x,H1,I1,r1,q1⟩:=hpt
 refine dU (hb pins s1 σ H1 _ I1 q1) fun u s2 hpt=>?_
 obtain⟨y,H2,I2,r2,q2⟩:=hpt
 exact hf v u s2 x y H2 I2 r1 r2 q2
theorem aY {op:Operator} {r:R2} (ho:wK X (binaryOp op) r) (ha:PE X a ta) (hb:PE X b tb):PE X (.BinOp a op b pos) (Vm r ta tb):=by
 intro pins s σ H Q I h
 exact wpAny_BinOp (TX ha hb I h fun v u s2 x y H2 I2 rx ry q=>ho pins s2 σ H2 x y v u Q I2 rx ry q)
theorem Xc {f:Value->Value->Sem Value} {C:Int->Int->Prop} {g:Int->Int->Int}
  (rule:∀(i j:Int) (t u:Tok) (s:Shared) (Q:Value->Shared->Prop) (E:Value->Shared->Prop),C i j->Q (.int (g i j) s.toks) { s with toks:=s.toks+1 }->wpAny (model X.prog X.w) X.A (f (.int i t) (.int j u)) Q E s):
  wK X f (rI C fun i j=>.int (g i j)):=by
 intro pins s σ H x y v u Q I rx ry h
 obtain⟨i,j,rfl,rfl,hc,q⟩:=h
 obtain⟨t,rfl⟩:=rx
 obtain⟨t',rfl⟩:=ry
 exact rule i j t t' s _ _ hc ⟨.int (g i j),H,I.tok _,⟨_,rfl⟩,q⟩
theorem Um {f:Value->Value->Sem Value} {g:Int->Int->Int}
  (rule:∀(i j:Int) (t u:Tok) (s:Shared) (Q:Value->Shared->Prop) (E:Value->Shared->Prop),Q (.int (g i j) s.toks) { s with toks:=s.toks+1 }->wpAny (model X.prog X.w) X.A (f (.int i t) (.int j u)) Q E s):
  wK X f (QM fun i j=>.int (g i j)):=by
 intro pins s σ H x y v u Q I rx ry h
 obtain⟨i,j,rfl,rfl,q⟩:=h
 obtain⟨t,rfl⟩:=rx
 obtain⟨t',rfl⟩:=ry
 exact rule i j t t' s _ _ ⟨.int (g i j),H,I.tok _,⟨_,rfl⟩,q⟩
theorem Uj {f:Value->Value->Sem Value} {g:Int->Int->Bool}
  (rule:∀(i j:Int) (t u:Tok) (s:Shared) (Q:Value->Shared->Prop) (E:Value->Shared->Prop),Q (.bool (g i j)) s->wpAny (model X.prog X.w) X.A (f (.int i t) (.int j u)) Q E s):
  wK X f (QM fun i j=>.bl (g i j)):=by
 intro pins s σ H x y v u Q I rx ry h
 obtain⟨i,j,rfl,rfl,q⟩:=h
 obtain⟨t,rfl⟩:=rx
 obtain⟨t',rfl⟩:=ry
 exact rule i j t t' s _ _ ⟨.bl (g i j),H,I,rfl,q⟩
noncomputable def X4 (i j:Int):Prop:=0<=j/\j<=1000000/\i.natAbs <2 ^ 64
theorem cJ:wK X (binaryOp .Add) (QM fun i j=>.int (i+j)):=Um fun _ _ _ _ _ _ _ q=>add_int q
theorem Jb:wK X (binaryOp .Sub) (QM fun i j=>.int (i - j)):=Um fun _ _ _ _ _ _ _ q=>sub_int q
theorem bY:wK X (binaryOp .Mod) (rI (fun _ j=>0 <j) fun i j=>.int (i % j)):=Xc fun i j _ _ _ _ _ hc q=>by
 have h1:(0:Int) <j:=hc
 exact mod_int' (by omega) (by rw [Int.fmod_eq_emod_of_nonneg i (by omega)];exact q)
theorem xR:wK X (binaryOp .Pow) (rI X4 fun i j=>.int (i ^ j.toNat)):=Xc fun _ _ _ _ _ _ _ hc q=>pow_int_small hc.1 hc.2.1 hc.2.2 q
theorem Ko:wK X (inplaceOp .Add) (QM fun i j=>.int (i+j)):=Um fun _ _ _ _ _ _ _ q=>iadd_int q
end
noncomputable def We:V->V->Bool
 | .non,.non=>true | .non,.int _=>true | .int _,.non=>true | .non,.bl _=>true | .bl _,.non=>true | .non,.str _=>true | .str _,.non=>true
 | .int _,.int _=>true | .bl _,.bl _=>true | .str _,.str _=>true | .byt _,.byt _=>true
 | .int _,.str _=>true | .str _,.int _=>true | .bl _,.str _=>true | .str _,.bl _=>true
 | _,_=>false
noncomputable def rEq:R2:=fun x y H Q=>We x y=true/\Q (.bl (decide (x=y))) H
noncomputable def rNe:R2:=fun x y H Q=>We x y=true/\Q (.bl (!decide (x=y))) H
theorem J0 {i j:Int}:decide (V.int i=V.int j)=(i == j):=by
 rw [Bool.eq_iff_iff]
 simp
theorem Oq {i j:Bool}:decide (V.bl i=V.bl j)=(i == j):=by
 rw [Bool.eq_iff_iff]
 simp
theorem Kw {i j:Str}:decide (V.str i=V.str j)=(i == j):=by
 rw [Bool.eq_iff_iff]
 simp
theorem KQ {i j:Array UInt8}:decide (V.byt i=V.byt j)=(i.toList == j.toList):=by
 rw [Bool.eq_iff_iff]
 cases i
 cases j
 simp
section
variable {X:Cx} {a b c:Expr} {ta tb tc:TE} {pos:Pos}
theorem cZ {pins:List (Addr×Obj)} {σ:St} {H:Hp} {s:Shared} {Q:VK} {k k':Bool} (I:Inv X pins σ H s) (q:Q (.bl k) H) (e:k=k'):EP X pins σ Q (.bool k') s:=by
 subst e
 exact⟨.bl k,H,I,rfl,q⟩
theorem fX:wK X (compareOp .Eq) rEq:=by
 intro pins s σ H x y v u Q I rx ry h
 obtain⟨hs,q⟩:=h
 cases x with
 | non=>
  cases rx
  cases y with
  | non=>cases ry;exact PySem.EqNone.eq_none_none (cZ I q (by simp))
  | bl j=>cases ry;exact PySem.EqNone.eq_none_bool (cZ I q (by simp))
  | int j=>obtain⟨t',rfl⟩:=ry;exact PySem.EqNone.eq_none_int (cZ I q (by simp))
  | str j=>obtain⟨t',rfl⟩:=ry;exact PySem.EqNone.eq_none_str (cZ I q (by simp))
  | _=>exact absurd (show false=true from hs) Bool.false_ne_true
 | bl i=>
  cases rx
  cases y with
  | non=>cases ry;exact PySem.EqNone.eq_bool_none (cZ I q (by simp))
  | bl j=>cases ry;exact eq_bool (cZ I q Oq)
  | str j=>obtain⟨t',rfl⟩:=ry;exact PySem.EqMixed.eq_bool_str (cZ I q (by simp))
  | _=>exact absurd (show false=true from hs) Bool.false_ne_true
 | int i=>
  obtain⟨t,rfl⟩:=rx
  cases y with
  | non=>cases ry;exact PySem.EqNone.eq_int_none (cZ I q (by simp))
  | int j=>obtain⟨t',rfl⟩:=ry;exact eq_int (cZ I q J0)
  | str j=>obtain⟨t',rfl⟩:=ry;exact PySem.EqMixed.eq_int_str (cZ I q (by simp))
  | _=>exact absurd (show false=true from hs) Bool.false_ne_true
 | str i=>
  obtain⟨t,rfl⟩:=rx
  cases y with
  | non=>cases ry;exact PySem.EqNone.eq_str_none (cZ I q (by simp))
  | bl j=>cases ry;exact PySem.EqMixed.eq_str_bool (cZ I q (by simp))
  | int j=>obtain⟨t',rfl⟩:=ry;exact PySem.EqMixed.eq_str_int (cZ I q (by simp))
  | str j=>obtain⟨t',rfl⟩:=ry;exact eq_str (cZ I q Kw)
  | _=>exact absurd (show false=true from hs) Bool.false_ne_true
 | byt i=>
  obtain⟨t,rfl⟩:=rx
  cases y with
  | byt j=>obtain⟨t',rfl⟩:=ry;exact PySem.W.eq_bytes (cZ I q KQ)
  | _=>exact absurd (show false=true from hs) Bool.false_ne_true
 | _=>cases y <;> exact absurd (show false=true from hs) Bool.false_ne_true
theorem Dh:wK X (compareOp .NotEq) rNe:=by
 intro pins s σ H x y v u Q I rx ry h
 obtain⟨hs,q⟩:=h
 cases x with
 | non=>
  cases rx
  cases y with
  | non=>cases ry;exact PySem.EqNone.ne_none_none (cZ I q (by simp))
  | bl j=>cases ry;exact PySem.EqNone.ne_none_bool (cZ I q (by simp))
  | int j=>obtain⟨t',rfl⟩:=ry;exact PySem.EqNone.ne_none_int (cZ I q (by simp))
  | str j=>obtain⟨t',rfl⟩:=ry;exact PySem.EqNone.ne_none_str (cZ I q (by simp))
  | _=>exact absurd (show false=true from hs) Bool.false_ne_true
 | bl i=>
  cases rx
  cases y with
  | non=>cases ry;exact PySem.EqNone.ne_bool_none (cZ I q (by simp))
  | bl j=>cases ry;exact ne_bool (cZ I q (congrArg not Oq))
  | str j=>obtain⟨t',rfl⟩:=ry;exact PySem.EqMixed.ne_bool_str (cZ I q (by simp))
  | _=>exact absurd (show false=true from hs) Bool.false_ne_true
 | int i=>
  obtain⟨t,rfl⟩:=rx
  cases y with
  | non=>cases ry;exact PySem.EqNone.ne_int_none (cZ I q (by simp))
  | int j=>obtain⟨t',rfl⟩:=ry;exact ne_int (cZ I q (congrArg not J0))
  | str j=>obtain⟨t',rfl⟩:=ry;exact PySem.EqMixed.ne_int_str (cZ I q (by simp))
  | _=>exact absurd (show false=true from hs) Bool.false_ne_true
 | str i=>
  obtain⟨t,rfl⟩:=rx
  cases y with
  | non=>cases ry;exact PySem.EqNone.ne_str_none (cZ I q (by simp))
  | bl j=>cases ry;exact PySem.EqMixed.ne_str_bool (cZ I q (by simp))
  | int j=>obtain⟨t',rfl⟩:=ry;exact PySem.EqMixed.ne_str_int (cZ I q (by simp))
  | str j=>obtain⟨t',rfl⟩:=ry;exact ne_str (cZ I q (congrArg not Kw))
  | _=>exact absurd (show false=true from hs) Bool.false_ne_true
 | byt i=>
  obtain⟨t,rfl⟩:=rx
  cases y with
  | byt j=>obtain⟨t',rfl⟩:=ry;exact PySem.W.ne_bytes (cZ I q (congrArg not KQ))
  | _=>exact absurd (show false=true from hs) Bool.false_ne_true
 | _=>cases y <;> exact absurd (show false=true from hs) Bool.false_ne_true
theorem pU:wK X (compareOp .Lt) (QM fun i j=>.bl (decide (i <j))):=Uj fun _ _ _ _ _ _ _ q=>lt_int q
theorem qR:wK X (compareOp .LtE) (QM fun i j=>.bl (decide (i<=j))):=Uj fun _ _ _ _ _ _ _ q=>le_int q
theorem Ds:wK X (compareOp .Gt) (QM fun i j=>.bl (decide (j <i))):=Uj fun _ _ _ _ _ _ _ q=>gt_int q
theorem xN:wK X (compareOp .In) (fun x y H Q=>∃i j,x=.str i/\y=.str j/\Q (.bl (!(Builtin.Str.occurrences j i 0 j.length 1).isEmpty)) H):=by
 intro pins s σ H x y v u Q I rx ry h
 obtain⟨i,j,rfl,rfl,q⟩:=h
 obtain⟨t,rfl⟩:=rx
 obtain⟨t',rfl⟩:=ry
 exact in_str (cZ I q rfl)
theorem bK (b:Expr) {op:CmpOp} (h:op≠.In:=by decide) (h2:op≠.NotIn:=by decide):behindInMarks op b=false:=by
 have e1:(op == CmpOp.In)=false:=by cases op <;> first | rfl | exact absurd rfl h
 have e2:(op == CmpOp.NotIn)=false:=by cases op <;> first | rfl | exact absurd rfl h2
 cases b <;> simp [behindInMarks,e1,e2]
theorem tR {op:CmpOp} {r:R2} (ho:wK X (compareOp op) r) (ha:PE X a ta) (hb:PE X b tb) (hm:behindInMarks op b=false):PE X (.Compare a [op] [b] pos) (Vm r ta tb):=by
 intro pins s σ H Q I h
 exact wpAny_Compare1 (TX ha hb I h fun v u s2 x y H2 I2 rx ry q=>ho pins s2 σ H2 x y v u Q I2 rx ry q) hm
inductive Ng (Q:Bool->Hp->Prop) (x:V) (H':Hp):Prop where
 | mk:∀k,x=.bl k->Q k H'->Ng Q x H'
noncomputable def Pq (t:TE):TT:=fun σ H Q=>t σ H fun x H'=>Ng Q x H'
theorem bj {op:CmpOp} {r:R2} (ho:wK X (compareOp op) r) (ha:PE X a ta) (hb:PE X b tb) (hm:behindInMarks op b=false):PT X (.Compare a [op] [b] pos) (Pq (Vm r ta tb)):=by
 intro pins s σ H Q I h
 refine wpAny_isTrue_Compare1 (dU (ha pins s σ H _ I h) fun v s1 ⟨x,H1,I1,r1,q1⟩=>dU (hb pins s1 σ H1 _ I1 q1) fun u s2 ⟨y,H2,I2,r2,q2⟩=>
  dU (ho pins s2 σ H2 x y v u _ I2 r1 r2 q2) fun c s3 ⟨z,H3,I3,r3,k,e,q3⟩=>?_) hm
 subst e
 cases r3
 exact wpAny_truthy_bool ⟨H3,I3,q3⟩
inductive Ks (r':R2) (tc:TE) (σ:St) (Q:VK) (y:V) (z:V) (H3:Hp):Prop where
 | mk:∀k,z=.bl k->((if k=true then tc σ H3 fun w' H4=>r' y w' H4 Q else Q (.bl false) H3))->Ks r' tc σ Q y z H3
noncomputable def Nb (r r':R2) (ta tb tc:TE):TE:=fun σ H Q=>ta σ H fun x H1=>tb σ H1 fun y H2=>r x y H2 fun z H3=>Ks r' tc σ Q y z H3
theorem PX {op op':CmpOp} {r r':R2} (ho:wK X (compareOp op) r) (ho':wK X (compareOp op') r') (ha:PE X a ta) (hb:PE X b tb) (hc:PE X c tc)
  (hm:lastMarks [op,op'] [b,c]=false:=by with_unfolding_all rfl):PE X (.Compare a [op,op'] [b,c] pos) (Nb r r' ta tb tc):=by
 intro pins s σ H Q I h
 refine Compare_chain (dU (ha pins s σ H _ I h) fun v s1 ⟨x,H1,I1,r1,q1⟩=>chain_link (dU (hb pins s1 σ H1 _ I1 q1) fun u s2 ⟨y,H2,I2,r2,q2⟩=>
  dU (ho pins s2 σ H2 x y v u _ I2 r1 r2 q2) fun d s3 ⟨z,H3,I3,r3,k,e,q3⟩=>?_)) hm
 subst e
 cases r3
 refine wpAny_truthy_bool ?_
 cases k with
 | false=>exact ite_ff ⟨.bl false,H3,I3,rfl,q3⟩
 | true=>exact ite_tt (chain_last (dU (hc pins s3 σ H3 _ I3 q3) fun w' s4 ⟨z',H4,I4,r4,q4⟩=>ho' pins s4 σ H4 y z' u w' Q I4 r2 r4 q4))
theorem rD {op op':CmpOp} {r r':R2} (ho:wK X (compareOp op) r) (ho':wK X (compareOp op') r') (ha:PE X a ta) (hb:PE X b tb) (hc:PE X c tc)
  (hm:lastMarks [op,op'] [b,c]=false:=by with_unfolding_all rfl):PT X (.Compare a [op,op'] [b,c] pos) (Pq (Nb r r' ta tb tc)):=by
 intro pins s σ H Q I h
 refine isTrue_chain (dU (ha pins s σ H _ I h) fun v s1 ⟨x,H1,I1,r1,q1⟩=>test_link (dU (hb pins s1 σ H1 _ I1 q1) fun u s2 ⟨y,H2,I2,r2,q2⟩=>
  dU (ho pins s2 σ H2 x y v u _ I2 r1 r2 q2) fun d s3 ⟨z,H3,I3,r3,k,e,q3⟩=>?_)) hm
 subst e
 cases r3
 refine wpAny_truthy_bool ?_
 cases k with
 | false=>
  obtain⟨k',e',q'⟩:=q3
  cases e'
  exact ite_ff ⟨H3,I3,q'⟩
 | true=>
  refine ite_tt (test_last (dU (hc pins s3 σ H3 _ I3 q3) fun w' s4 ⟨z',H4,I4,r4,q4⟩=>dU (ho' pins s4 σ H4 y z' u w' _ I4 r2 r4 q4) fun d' s5 hpt=>?_))
  obtain⟨z2,H5,I5,r5,k2,e2,q5⟩:=hpt
  subst e2
  cases r5
  exact wpAny_truthy_bool ⟨H5,I5,q5⟩
theorem Gq:(sizeLine:Nat) <2 ^ 63:=by rw [sizeLine_eq];decide
theorem uV:wK X (binaryOp .Add) (fun x y H Q=>∃i j,x=.str i/\y=.str j/\i.length+j.length<=sizeLine/\Q (.str (i ++ j)) H):=by
 intro pins s σ H x y v u Q I rx ry h
 obtain⟨i,j,rfl,rfl,hz,q⟩:=h
 obtain⟨t,rfl⟩:=rx
 obtain⟨t',rfl⟩:=ry
 exact add_str (fun t' tk=>⟨.str (i ++ j),H,I.tok _,⟨_,rfl⟩,q⟩) hz
theorem vals1 {x:V} {us:List Value} (r:Vals [x] us):∃u,us=[u]/\RelV x u:=by
 cases r with
 | cons r1 r2=>cases r2;exact⟨_,rfl,r1⟩
theorem vals2 {x y:V} {us:List Value} (r:Vals [x,y] us):∃u w',us=[u,w']/\RelV x u/\RelV y w':=by
 cases r with
 | cons r1 r2=>
  cases r2 with
  | cons r3 r4=>cases r4;exact⟨_,_,rfl,r1,r3⟩
theorem CG (hc:X.calm=true):jC X (.builtin "max") (fun xs H Q=>∃i j,xs=[.int i,.int j]/\Q (.int (if j >i then j else i)) H):=by
 intro pins s σ H xs us Q I r h
 obtain⟨i,j,rfl,q⟩:=h
 obtain⟨u,w',rfl,⟨t,rfl⟩,⟨t',rfl⟩⟩:=vals2 r
 refine max_two_ints (I.ok.hd hc) fun h' tk k=>⟨_,H,I.kept k,?_,q⟩
 by_cases hj:j >i
 ·rw [if_pos hj,if_pos hj];exact⟨_,rfl⟩
 ·rw [if_neg hj,if_neg hj];exact⟨_,rfl⟩
theorem M3:jC X (.type "int") (fun xs H Q=>(∃i,xs=[.int i]/\Q (.int i) H)∨∃k,xs=[.bl k]/\Q (.int (if k then 1 else 0)) H):=by
 intro pins s σ H xs us Q I r h
 rcases h with ⟨i,rfl,q⟩ | ⟨k,rfl,q⟩
 ·obtain⟨u,rfl,t,rfl⟩:=vals1 r
  exact call_int_int ⟨.int i,H,I,⟨_,rfl⟩,q⟩
 ·obtain⟨u,rfl,r1⟩:=vals1 r
  cases r1
  exact call_int_bool ⟨.int (if k then 1 else 0),H,I.tok _,⟨_,rfl⟩,q⟩
theorem Gu:jC X (.type "str") (fun xs H Q=>∃i,xs=[.int i]/\i.natAbs.log2 <1920/\Q (.str (toString i)) H):=by
 intro pins s σ H xs us Q I r h
 obtain⟨i,rfl,hz,q⟩:=h
 obtain⟨u,rfl,t,rfl⟩:=vals1 r
 exact PySem.P.str_of_int hz ⟨.str _,H,I.tok _,⟨_,rfl⟩,q⟩
noncomputable def Wb (K:PySem.W.Frag) (x:V) (H:Hp) (n:Nat):Prop:=
 match x with
 | .str y=>y.length<=sizeLine/\n=y.length
 | .byt y=>y.size<=sizeLine/\n=y.size
 | .ref p=>(∃xs,bT K H p xs/\n=xs.length)∨∃xs,fY K H p xs/\n=xs.length
 | _=>False
theorem b7:jC X (.builtin "len") (fun xs H Q=>∃x n,xs=[x]/\Wb X.K x H n/\Q (.int n) H):=by
 intro pins s σ H xs us Q I r h
 obtain⟨x,n,rfl,e,q⟩:=h
 obtain⟨u,rfl,rx⟩:=vals1 r
 have hl:=Gq
 have hs:sizeLine=16777216:=sizeLine_eq
 cases x with
 | str y=>
  obtain⟨t,rfl⟩:=rx
  obtain⟨hy,e'⟩:y.length<=sizeLine/\n=y.length:=e
  subst e'
  exact len_str (by omega) ⟨.int _,H,I.tok _,⟨_,rfl⟩,q⟩
 | byt y=>
  obtain⟨t,rfl⟩:=rx
  obtain⟨hy,e'⟩:y.size<=sizeLine/\n=y.size:=e
  subst e'
  exact PySem.W.len_bytes (by omega) ⟨.int _,H,I.tok _,⟨_,rfl⟩,q⟩
 | ref p=>
  cases rx
  have e':(∃xs,bT X.K H p xs/\n=xs.length)∨∃xs,fY X.K H p xs/\n=xs.length:=e
  rcases e' with ⟨xs,hx,e'⟩ | ⟨xs,hx,e'⟩
  ·subst e'
   obtain⟨its,r',pl,hz⟩:=I.list hx
   have hlen:=r'.length
   exact Calls.call_len_list pl.isList (by simp only [List.size_toArray];omega) ⟨.int xs.length,H,I.tok _,⟨_,by simp only [List.size_toArray];rw [hlen]⟩,q⟩
  ·subst e'
   obtain⟨its,r',pl,hz⟩:=I.tuple hx
   have hlen:=r'.length
   exact len_tuple pl (by simp only [List.size_toArray];omega) ⟨.int xs.length,H,I.tok _,⟨_,by simp only [List.size_toArray];rw [hlen]⟩,q⟩
 | _=>exact(show False from e).elim
end
structure Jt (h:Heap) (x dx C:Addr) (mA:Str->Option Value):Prop where
 obj:h.get? x=some (PySem.W.instObj C dx)
 ns:h.Ns1 dx mA
 ne:dx≠x
theorem MN {h:Heap} {dx:Addr} {mA:Str->Option Value} (n:h.Ns1 dx mA):∃od,h.get? dx=some od/\∀name,PySem.W.lookIn name od=some (mA name):=by
 obtain⟨o,es,ep,ho,hd,hk,_,hm⟩:=n
 refine⟨o,ho,fun name=>?_⟩
 have e:=hm name
 unfold nsFind findBy at e
 rw [<-Array.find?_toList] at e
 unfold PySem.W.lookIn
 rw [hd]
 dsimp only
 split
 ·rename_i y q
  rw [q] at e
  exact congrArg some e
 ·rename_i q
  rw [q] at e
  have a:es.toList.any (·.refKey)=false:=by
   rw [List.any_eq_false]
   intro y hy
   obtain⟨z,t,hkey⟩:=hk y (Array.mem_toList_iff.mp hy)
   simp [DictEntry.refKey,hkey]
  have a':¬es.toList.any (·.refKey)=true:=by rw [a];exact Bool.false_ne_true
  rw [if_neg a']
  exact congrArg some e
theorem Jt.look {h:Heap} {x dx C:Addr} {mA:Str->Option Value} (I:Jt h x dx C mA):∃od,PySem.W.InstAt h x (PySem.W.instObj C dx) C (some od)/\∀name,PySem.W.lookIn name od=some (mA name):=
 let ⟨od,ho,hl⟩:=MN I.ns
 ⟨od,⟨I.obj,rfl,rfl,ho⟩,hl⟩
section
variable {prog:Program} {w:World} {A:Around} {E:Value->Shared->Prop} {s:Shared} {K:PySem.W.Frag} {x dx C f:Addr} {mA:Str->Option Value} {name:Str} {v:Value}
theorem QH {expr:Bool} {Q:Value->Shared->Prop} (X:K.In s.heap) (I:Jt s.heap x dx C mA) (hg:PySem.W.plainGet K C name=true) (hh:PySem.W.hasDictIn K C=true)
  (ha:PySem.W.findIn K (.ref C) name=some none) (hv:mA name=some v) (hv':PySem.W.handedIn v=true) (h:Q v { s with toks:=s.toks+1 }):
  wpAny (model prog w) A (getAttr (.ref x) name expr) Q E s:=by
 obtain⟨od,J,hl⟩:=I.look
 exact PySem.W.get_value X J (PySem.W.plainGet_of hg).1 (PySem.W.findObj_own hh ha rfl (by rw [hl,hv])) hv' h
theorem Qk {pl:Sem Bool} {Q:Value×List Value->Shared->Prop} (X:K.In s.heap) (I:Jt s.heap x dx C mA) (hg:PySem.W.plainGet K C name=true)
  (hf:PySem.W.findIn K (.ref C) name=some (some (.ref f))) (ht:PySem.W.isFn K (.ref f)=true) (hv:mA name=none) (h:Q (.ref f,[.ref x]) s):
  wpAny (model prog w) A (getMethod (.ref x) name pl) Q E s:=by
 obtain⟨od,J,hl⟩:=I.look
 exact PySem.W.method_fn X J (PySem.W.plainGet_of hg).1 (PySem.W.plainGet_of hg).2 hf (beq_iff_eq.mp ht) (by show(PySem.W.lookIn name od).map (·.isSome)=some false;rw [hl,hv];rfl) h
theorem QW {ns:List Str} {Q:Unit->Shared->Prop} (X:K.In s.heap) (I:Jt s.heap x dx C mA)
  (hs:PySem.W.findIn K (.ref C) "__setattr__" =some (some (.builtin "object.__setattr__"))) (hp:PySem.W.plainOver K C=true) (ht:PySem.W.takerIn K C name=some none) (hh:PySem.W.hasDictIn K C=true)
  (hw:PySem.Within mA ns) (hsz:ns.length<=sizeLine)
  (h:∀h',Jt h' x dx C (fun y=>if y=name then some v else mA y)->Heap.SameBut dx s.heap h'->Q () { s with heap:=h',toks:=s.toks+2 }):
  wpAny (model prog w) A (setAttr (.ref x) name v) Q E s:=by
 obtain⟨od,J,hl⟩:=I.look
 refine PySem.W.set_plain X J hs (PySem.W.osa_open (s:={ s with toks:=s.toks+1 }) (r:=none) X J hp ht fun b=>?_)
 obtain⟨cd,hc,hd'⟩:=PySem.W.any_some hh
 have hx:s.heap.get? x=some ⟨.ref C,some dx,.plain,#[]⟩:=I.obj
 refine wpAny_bind (wpAny_pure (wpAny_bind (wpAny_bind (wpAny_loadPart hx (wpAny_bind (PySem.W.Looks.here (s:={ s with toks:=s.toks+1 }) (PySem.W.looks_clsIn X hc) ?_))))))
 rw [hd']
 refine wpAny_pure (a:=some dx) (wpAny_bind (wpAny_pure (wpAny_bind ?_)))
 refine wpAny_nsSet1 (s:={ s with toks:=s.toks+1 }) I.ns fun h' hn2 hs2=>?_
 obtain⟨oD,esD,epD,hoD,hdD,hcD⟩:=hn2.count (PySem.Within.cons name v hw)
 refine wpAny_bind (wpAny_lookBehind hoD (by rw [hdD];exact pastItsLine_dict (Nat.le_trans hcD (by rw [List.length_cons];omega))) ?_)
 exact wpAny_pure (h _ ⟨(hs2.2 _ (Ne.symm I.ne)).trans I.obj,hn2,I.ne⟩ hs2)
theorem Qt {R:Result->Shared->Prop} {vs:List Value} {kw:List (Str×Value)} (X:K.In s.heap) (hm:PySem.W.makesIn K C=true)
  (hi:PySem.W.findIn K (.ref C) "__init__" =some (some (.ref f))) (hf:PySem.W.typeIn K (.ref f)=some (.type "function"))
  (h:codeAny (model prog w) (A.under (.builtin "type.__call__" ⟨.ref C:: vs,kw⟩)) (.call (.ref f) ⟨.ref (s.heap.objs.size+1):: vs,kw⟩) (PySem.W.InitBack (s.heap.objs.size+1) R)
   { s with heap:=(s.heap.push PySem.W.emptyDict).push (PySem.W.instObj C s.heap.objs.size) }):
  codeAny (model prog w) A (.call (.ref C) ⟨vs,kw⟩) R s:=by
 obtain⟨hh,g,d,t,os⟩:=s
 exact PySem.W.make_core (PySem.W.makes_of X hm) (PySem.W.looks_findIn X hi) (fun self=>PySem.W.bind_fn X self hf) (.inl rfl) h
end
noncomputable def aJ (f:Str) (v:V):List (Str×V)->List (Str×V)
 | []=>[(f,v)]
 | (g,x):: r=>if g=f then(g,v):: r else(g,x):: aJ f v r
theorem aD (f g:Str) (v:V):∀fs:List (Str×V),(aJ f v fs).lookup g=if g=f then some v else fs.lookup g
 | []=>by
  show List.lookup g [(f,v)]=_
  by_cases h:g=f
  ·have hb:(g == f)=true:=beq_iff_eq.mpr h
   simp only [List.lookup,hb,if_pos h]
  ·have hb:(g == f)=false:=beq_eq_false_iff_ne.mpr h
   simp only [List.lookup,hb,if_neg h]
 | (k,x):: r=>by
  have ih:=aD f g v r
  rw [show aJ f v ((k,x):: r)=(if k=f then(k,v):: r else(k,x):: aJ f v r) from rfl]
  by_cases hk:k=f
  ·rw [if_pos hk]
   by_cases h:g=k
   ·have hb:(g == k)=true:=beq_iff_eq.mpr h
    simp only [List.lookup,hb,if_pos (h.trans hk)]
   ·have hb:(g == k)=false:=beq_eq_false_iff_ne.mpr h
    simp only [List.lookup,hb,if_neg (fun e:g=f=>h (e.trans hk.symm))]
  ·rw [if_neg hk]
   by_cases h:g=k
   ·have hb:(g == k)=true:=beq_iff_eq.mpr h
    simp only [List.lookup,hb,if_neg (fun e:g=f=>hk (h.symm.trans e))]
   ·have hb:(g == k)=false:=beq_eq_false_iff_ne.mpr h
    simp only [List.lookup,hb]
    exact ih
theorem xm (f:Str) (v:V):∀fs:List (Str×V),f∈(aJ f v fs).map (·.1)/\∀g,g∈fs.map (·.1)->g∈(aJ f v fs).map (·.1)
 | []=>⟨by simp [aJ],fun g h=>by simp at h⟩
 | (k,x):: r=>by
  obtain⟨i1,i2⟩:=xm f v r
  rw [show aJ f v ((k,x):: r)=(if k=f then(k,v):: r else(k,x):: aJ f v r) from rfl]
  by_cases hk:k=f
  ·rw [if_pos hk]
   subst hk
   exact⟨by simp,fun g h=>by simpa using h⟩
  ·rw [if_neg hk]
   refine⟨?_,fun g h=>?_⟩
   ·rw [List.map_cons]
    exact List.mem_cons_of_mem _ i1
   ·rw [List.map_cons] at h ⊢
    rcases List.mem_cons.mp h with e | e
    ·exact List.mem_cons.mpr (.inl e)
    ·exact List.mem_cons_of_mem _ (i2 g e)
theorem rZ (f:Str) (v:V):∀fs:List (Str×V),(aJ f v fs).length<=fs.length+1
 | []=>by simp [aJ]
 | (k,x):: r=>by
  have ih:=rZ f v r
  rw [show aJ f v ((k,x):: r)=(if k=f then(k,v):: r else(k,x):: aJ f v r) from rfl]
  by_cases hk:k=f
  ·rw [if_pos hk,List.length_cons,List.length_cons];omega
  ·rw [if_neg hk,List.length_cons,List.length_cons];omega
theorem qY.some_of {v:V} {o:Option Value} (r:qY (some v) o):∃u,o=some u/\RelV v u:=by
 cases o with
 | none=>exact(show False from r).elim
 | some u=>exact⟨u,rfl,r⟩
theorem qY.none_of {o:Option Value} (r:qY none o):o=none:=by
 cases o with
 | none=>rfl
 | some u=>exact(show False from r).elim
theorem Ms {v:V} {u:Value} (r:RelV v u):PySem.W.handedIn u=true:=by
 cases v with
 | non=>cases (show u=Value.none from r);rfl
 | bl b=>cases (show u=Value.bool b from r);rfl
 | int i=>obtain⟨t,e⟩:=(show ∃t,u=Value.int i t from r);cases e;rfl
 | str x=>obtain⟨t,e⟩:=(show ∃t,u=Value.str x t from r);cases e;rfl
 | byt b=>obtain⟨t,e⟩:=(show ∃t,u=Value.bytes b t from r);cases e;rfl
 | flt b=>obtain⟨t,e⟩:=(show ∃t,u=Value.float b t from r);cases e;rfl
 | ref a=>cases (show u=Value.ref a from r);rfl
 | ty n=>cases (show u=Value.type n from r);rfl
section
variable {P:Program} {w:World} {H H':Hp} {h h':Heap} {a C dx:Addr} {fs fs':List (Str×V)}
theorem Gx (hok:ut P w H h) (e:H a=some (.ins C dx fs)):∃mA,Jt h a dx C mA/\(∀f,qY (fs.lookup f) (mA f))/\PySem.Within mA (fs.map (·.1))/\fs.length<=1000/\H dx=some (.own a):=by
 obtain⟨d,z,ne,ob,mA,n,r,q⟩:=(show fV P w H h a (.ins C dx fs) from hok a _ e)
 exact⟨mA,⟨ob,n,ne⟩,r,q,z,d⟩
end
structure M5 (K:PySem.W.Frag) (C:Addr):Prop where
 pg:PySem.W.plainGet K C Str.empty=true
 hd:PySem.W.hasDictIn K C=true
 po:PySem.W.plainOver K C=true
 sa:PySem.W.findIn K (.ref C) "__setattr__" =some (some (.builtin "object.__setattr__"))
theorem M5.get {K:PySem.W.Frag} {C:Addr} (c:M5 K C) (f:Str):PySem.W.plainGet K C f=true:=c.pg
noncomputable def pq (K:PySem.W.Frag) (C:Addr) (f:Str):Prop:=PySem.W.findIn K (.ref C) f=some none
theorem pq.taker {K:PySem.W.Frag} {C:Addr} {f:Str} (n:pq K C f):PySem.W.takerIn K C f=some none:=by
 unfold PySem.W.takerIn
 rw [show PySem.W.findIn K (.ref C) f=some none from n]
 rfl
structure Meth (K:PySem.W.Frag) (C:Addr) (m:Str) (f:Addr):Prop where
 at_:PySem.W.findIn K (.ref C) m=some (some (.ref f))
 fn:PySem.W.isFn K (.ref f)=true
 kp:PySem.W.keepIn K (.ref f)=true
section
variable {X:Cx} {pins:List (Addr×Obj)} {σ:St} {H:Hp} {s:Shared} {a C dx:Addr} {fs:List (Str×V)} {f:Str} {v:V} {A:Around} {E:Value->Shared->Prop}
theorem JZ {b:Bool} {Q:Value->Shared->Prop} (I:Inv X pins σ H s) (e:H a=some (.ins C dx fs)) (c:M5 X.K C) (n:pq X.K C f) (l:fs.lookup f=some v)
  (h:∀u s',Inv X pins σ H s'->RelV v u->Q u s'):wpAny (model X.prog X.w) A (getAttr (.ref a) f b) Q E s:=by
 obtain⟨mA,O,r,_,_,_⟩:=Gx I.hok e
 obtain⟨u,hu,ru⟩:=qY.some_of (v:=v) (o:=mA f) (by rw [<-l];exact r f)
 exact QH I.kIn O (c.get f) c.hd n hu (Ms ru) (h u _ (I.tok _) ru)
theorem qO {m:Str} {g:Addr} {pl:Sem Bool} {Q:Value×List Value->Shared->Prop} (I:Inv X pins σ H s) (e:H a=some (.ins C dx fs)) (c:M5 X.K C) (k:Meth X.K C m g) (l:fs.lookup m=none)
  (h:Q (.ref g,[.ref a]) s):wpAny (model X.prog X.w) A (getMethod (.ref a) m pl) Q E s:=by
 obtain⟨mA,O,r,_,_,_⟩:=Gx I.hok e
 have hn:mA m=none:=qY.none_of (by rw [<-l];exact r m)
 exact Qk I.kIn O (c.get m) k.at_ k.fn hn h
theorem JL {y:V} {u:Value} {Q:Unit->Shared->Prop} (I:Inv X pins σ H s) (e:H a=some (.ins C dx fs)) (c:M5 X.K C) (n:pq X.K C f) (hl:fs.length <1000) (ry:RelV y u)
  (h:∀s',Inv X pins σ (upd H a (.ins C dx (aJ f y fs))) s'->Q () s'):wpAny (model X.prog X.w) A (setAttr (.ref a) f u) Q E s:=by
 obtain⟨mA,O,r,wi,_,ho⟩:=Gx I.hok e
 have hz:(fs.map (·.1)).length<=sizeLine:=by rw [List.length_map,sizeLine_eq];omega
 refine QW I.kIn O c.sa c.po n.taker c.hd wi hz fun h' O' sb=>h _ ?_
 have hd:∃o,h'.get? dx=some o:=let ⟨o,_,_,e',_⟩:=O'.ns;⟨o,e'⟩
 refine I.write (x:=a) (e:=dx) (by rw [e];exact True.intro) (.inr ho) (fun b q hb z=>(sb.2 b hb).trans z) hd ?_
 refine⟨by rw [aG O.ne];exact ho,?_,O.ne,O'.obj,_,O'.ns,fun g=>?_,fun g hg=>?_⟩
 ·have:=rZ f y fs;omega
 ·show qY ((aJ f y fs).lookup g) (if g=f then some u else mA g)
  rw [aD]
  by_cases q:g=f
  ·rw [if_pos q,if_pos q];exact ry
  ·rw [if_neg q,if_neg q];exact r g
 ·by_cases q:g=f
  ·rw [q];exact(xm f y fs).1
  ·refine(xm f y fs).2 g (wi g fun z=>hg ?_)
   show(if g=f then some u else mA g)=none
   rw [if_neg q];exact z
theorem Inv.made (I:Inv X pins σ H s):Inv X pins σ (upd (upd H s.heap.objs.size (.own (s.heap.objs.size+1))) (s.heap.objs.size+1) (.ins C s.heap.objs.size []))
  { s with heap:=(s.heap.push PySem.W.emptyDict).push (PySem.W.instObj C s.heap.objs.size) }:=by
 have e1:(s.heap.push PySem.W.emptyDict).get? s.heap.objs.size=some PySem.W.emptyDict:=Heap.get?_push_size s.heap rfl
 have e2:((s.heap.push PySem.W.emptyDict).push (PySem.W.instObj C s.heap.objs.size)).get? (s.heap.objs.size+1)=some (PySem.W.instObj C s.heap.objs.size):=by
  have:=Heap.get?_push_size (s.heap.push PySem.W.emptyDict) (o:=PySem.W.instObj C s.heap.objs.size) rfl
  rwa [Heap.size_push] at this
 have e3:(s.heap.push PySem.W.emptyDict).Ns s.heap.objs.size (fun _=>none):=⟨PySem.W.emptyDict,#[],_,e1,rfl,(fun e he=>absurd he (by simp)),fun _=>rfl⟩
 have I1:=I.laid (a:=s.heap.objs.size) (o:=.own (s.heap.objs.size+1)) (h':=s.heap.push PySem.W.emptyDict) (t':=s.toks) (fun b u q=>Heap.get?_push_of_some _ q) (Nat.le_refl _) ⟨_,e1⟩
 refine I1.laid (a:=s.heap.objs.size+1) (o:=.ins C s.heap.objs.size []) (t':=s.toks) (fun b u q=>Heap.get?_push_of_some _ q) (Nat.le_of_eq (Heap.size_push _ _)) ?_
 have ne:s.heap.objs.size≠s.heap.objs.size+1:=Nat.ne_of_lt (Nat.lt_succ_self _)
 refine⟨by rw [aG ne,au],Nat.zero_le _,ne,e2,fun _=>none,(Heap.Ns1.of_empty e3).at fun o q=>Heap.get?_push_of_some _ q,fun _=>True.intro,fun y hy=>absurd rfl hy⟩
theorem Ro {prog:Program} {w:World} {env:Env} {e:Expr} {f:Str} {pos:Pos} {s:Shared} {Q:Value->Shared->Prop} (hb:attributeBase e f env (eval e env)=eval e env)
  (h:wpAny (model prog w) A (eval e env) (fun o s₁=>wpAny (model prog w) A (getAttr o f true) Q E s₁) E s):wpAny (model prog w) A (eval (.Attribute e f pos) env) Q E s:=
 Attribute_any_ h (by rw [arm_eval_Attribute,hb])
end
inductive Sq (K:PySem.W.Frag) (f:Str) (Q:VK) (x:V) (H1:Hp):Prop where
 | mk:∀a C dx fs v,x=.ref a->H1 a=some (.ins C dx fs)->M5 K C->pq K C f->fs.lookup f=some v->Q v H1->Sq K f Q x H1
noncomputable def Uu (K:PySem.W.Frag) (ta:TE) (f:Str):TE:=fun σ H Q=>ta σ H fun x H1=>Sq K f Q x H1
inductive RT (K:PySem.W.Frag) (f:Str) (D:Ends) (σ:St) (y:V) (x:V) (H2:Hp):Prop where
 | mk:∀a C dx fs,x=.ref a->H2 a=some (.ins C dx fs)->M5 K C->pq K C f->fs.length <1000->D.nx σ (upd H2 a (.ins C dx (aJ f y fs)))->RT K f D σ y x H2
noncomputable def X5 (K:PySem.W.Frag) (ta tv:TE) (f:Str):TS:=fun D σ H=>tv σ H fun y H1=>ta σ H1 fun x H2=>RT K f D σ y x H2
noncomputable def XC (X:Cx) (op:Operator) (rd:V->V->Hp->VK->Prop):Prop:=
 ∀(pins:List (Addr×Obj)) (s:Shared) (σ:St) (H:Hp) (x y:V) (u v:Value) (Q:VK),Inv X pins σ H s->RelV x u->RelV y v->rd x y H Q->wpAny (model X.prog X.w) X.A (inplaceOp op u v) (EP X pins σ Q) X.xe s
section
variable {X:Cx} {o e value:Expr} {f:Str} {pos pos' tpos:Pos} {ta tv:TE}
theorem bI (he:PE X e ta) (hb:attributeBase e f X.env (eval e X.env)=eval e X.env):PE X (.Attribute e f pos) (Uu X.K ta f):=by
 intro pins s σ H Q I h
 refine Ro hb (dU (he pins s σ H _ I h) fun u s1 hpt=>?_)
 obtain⟨x,H1,I1,rx,a,C,dx,fs,v,ex,ea,c,n,l,q⟩:=hpt
 subst ex
 obtain rfl:u=Value.ref a:=rx
 exact JZ I1 ea c n l fun u' s2 I2 ru=>⟨v,H1,I2,ru,q⟩
theorem jw (ha:PE X o ta) (hv:PE X value tv) (hs:swapsWith value (some (.Attribute o f pos')) pos.line X.env=pure false):PS X (.Assign [.Attribute o f pos'] value pos) (X5 X.K ta tv f):=by
 intro pins s σ H D I h
 refine plainObj_wpAny_Assign_Attribute (dU (hv pins s σ H _ I h) fun u s1 ⟨y,H1,I1,ry,q⟩=>dU (ha pins s1 σ H1 _ I1 q) fun ov s2 hpt=>?_) hs
 obtain⟨x,H2,I2,rx,a,C,dx,fs,ex,ea,c,n,l,q2⟩:=hpt
 subst ex
 obtain rfl:ov=Value.ref a:=rx
 exact JL I2 ea c n l ry fun s3 I3=>⟨σ,_,I3,q2⟩
end
section
variable {X:Cx} {pins:List (Addr×Obj)} {σ:St} {H:Hp} {s:Shared} {A:Around} {E:Value->Shared->Prop} {Q:Value->Shared->Prop} {c:Value} {b:Bool}
end
structure iY (k:Nat) (A:Around):Prop where
 hd:A.handled=none
 dp:A.depth+3 * k+5 <recursionLimit
 un:A.units+16 * k+200 <cLine
theorem iY.mono {j k:Nat} {A:Around} (r:iY k A) (h:j<=k):iY j A:=⟨r.hd,by have:=r.dp;omega,by have:=r.un;omega⟩
theorem iY.deeper {k:Nat} {A:Around} (r:iY (k+1) A) (env:Env):iY k (A.deeper env):=
 ⟨r.hd,by have:=r.dp;show A.depth+1+3 * k+5 <_;omega,by have:=r.un;show A.units+3+16 * k+200 <_;omega⟩
theorem Jj {A:Around} {C:Addr} {us:List Value} {kw:List (Str×Value)}:(A.under (.builtin "type.__call__" ⟨.ref C:: us,kw⟩)).depth=A.depth+1:=by
 first | rfl | simp [Around.under,Code.weight,Code.isCreation,Code.isGuard,Code.isCaller,Code.frames,Code.isFrame,guardIds]
theorem Jq {A:Around} {C:Addr} {us:List Value} {kw:List (Str×Value)}:(A.under (.builtin "type.__call__" ⟨.ref C:: us,kw⟩)).units=A.units+1:=by
 first | rfl | simp [Around.under,Code.cUnits,Code.frames,Code.isFrame]
theorem iY.make {k:Nat} {A:Around} (r:iY (k+1) A) (C:Addr) (us:List Value) (kw:List (Str×Value)):iY k (A.under (.builtin "type.__call__" ⟨.ref C:: us,kw⟩)):=
 ⟨r.hd,by have:=r.dp;rw [Jj];omega,by have:=r.un;rw [Jq];omega⟩
theorem iY.depth {k:Nat} {A:Around} (r:iY k A):A.depth <recursionLimit:=by have:=r.dp;omega
theorem iY.units {k:Nat} {A:Around} (r:iY k A):A.units+64 <cLine:=by have:=r.un;omega
noncomputable def JX:TA:=fun _ H Q=>Q [] H
noncomputable def Ld (ta:TE) (tr:TA):TA:=fun σ H Q=>ta σ H fun x H1=>tr σ H1 fun xs H2=>Q (x:: xs) H2
section
variable {X:Cx} {e:Expr} {es:List Expr} {te:TE} {t:TA} {pos:Pos}
theorem ak:PA X [] JX:=fun _ _ _ _ H Q I h=>Calls.spliced_nil ⟨[],H,I,.nil,h⟩
theorem aa (ha:PE X e te) (hr:PA X es t) (hs:starEach (e:: es) X.env=(false,eval e X.env):: starEach es X.env:=by rfl):PA X (e:: es) (Ld te t):=by
 intro pos pins s σ H Q I h
 rw [hs]
 show wpAny _ _ (spliced ((false,eval e X.env):: backTo pos (starEach es X.env))) _ _ s
 refine Calls.spliced_cons (dU (ha pins s σ H _ I h) fun u s1 hpt=>?_)
 obtain⟨x,H1,I1,r1,q1⟩:=hpt
 exact dU (hr pos pins s1 σ H1 _ I1 q1) fun us s2 ⟨xs,H2,I2,r2,q2⟩=>⟨x:: xs,H2,I2,.cons r1 r2,q2⟩
noncomputable def Xp (t:TA):TE:=fun σ H Q=>t σ H fun xs H1=>xs.length<=sizeLine/\∀p,H1 p=none->Q (.ref p) (upd H1 p (.tup xs))
noncomputable def Xm (t:TA):TE:=fun σ H Q=>t σ H fun xs H1=>xs.length<=sizeLine/\∀p,H1 p=none->Q (.ref p) (upd H1 p (.lst xs))
theorem bL {x1} (h:PA X es t):PE X (.Tuple es x1 pos) (Xp t):=by
 intro pins s σ H Q I hq
 refine wpAny_Tuple_spliced (dU (h pos pins s σ H _ I hq) fun us s1 ⟨xs,H1,I1,r,z,q⟩=>⟨by rw [<-r.length];exact z,?_⟩)
 have hf:H1 s1.heap.objs.size=none:=I1.hok.fresh (Nat.le_refl _)
 refine⟨.ref s1.heap.objs.size,upd H1 s1.heap.objs.size (.tup xs),I1.laid (t':=s1.toks) (fun b u e=>Heap.get?_push_of_some _ e) (Nat.le_refl _) ?_,rfl,q _ hf⟩
 exact⟨z,us,r,⟨_,Heap.get?_push_size _ rfl,rfl,_,rfl⟩⟩
theorem bu (h:PA X es t):PE X (.List es pos) (Xm t):=by
 intro pins s σ H Q I hq
 refine wpAny_List_spliced (dU (h pos pins s σ H _ I hq) fun us s1 ⟨xs,H1,I1,r,z,q⟩=>⟨by rw [<-r.length];exact z,?_⟩)
 have hf:H1 s1.heap.objs.size=none:=I1.hok.fresh (Nat.le_refl _)
 refine⟨.ref s1.heap.objs.size,upd H1 s1.heap.objs.size (.lst xs),I1.laid (t':=s1.toks) (fun b u e=>Heap.get?_push_of_some _ e) (Nat.le_refl _) ?_,rfl,q _ hf⟩
 exact⟨z,us,0,r,Heap.get?_push_size _ rfl⟩
end
noncomputable abbrev Sp:=List V->Hp->VK->XK->Prop
noncomputable abbrev Dz:=List Env->Hp->Shared->XK->Value->Shared->Prop
structure JG (P:Program) (w:World) (K:PySem.W.Frag) (mg:Str->Option Value) (base:Heap) (A:Around) (outer:List Env) (s:Shared) (H:Hp):Prop where
 frames:A.frames=some outer
 mod:Mod K mg base
 bs:∀b o,base.get? b=some o->s.heap.get? b=some o/\H b=none
 bsz:base.objs.size<=s.heap.objs.size
 funs:s.heap.FunFrames base outer
 frf:∀b∈frs outer,H b=none
 hok:ut P w H s.heap
 bare:AllBare s.gens
noncomputable def CE (outer:List Env) (P:Program) (w:World) (H:Hp) (s:Shared) (Q:VK) (u:Value) (s':Shared):Prop:=
 ∃v H',s'.os=s.os/\AllBare s'.gens/\Un (frs outer) [] H H' s.heap s'.heap/\ut P w H' s'.heap/\RelV v u/\Q v H'
noncomputable def CR (CX:Dz) (outer:List Env) (P:Program) (w:World) (H:Hp) (s:Shared) (Q:VK) (E:XK) (r:Result) (s':Shared):Prop:=
 match r with
 | .ok (.ret u)=>CE outer P w H s Q u s'
 | .ok _=>False
 | .error e=>CX outer H s E e s'
structure iW (P:Program) (w:World) (K:PySem.W.Frag) (mg:Str->Option Value) (base:Heap) (CX:Dz) (k:Nat) (f:Addr) (fd:FuncData) (ps:List Str) (sp:Sp):Prop where
 len:∀vs H Q E,sp vs H Q E->vs.length=ps.length
 run:∀(A:Around) (outer:List Env) (s:Shared) (H:Hp) (args:Args) (us:List Value) (vs:List V) (Q:VK) (E:XK),iY k A->JG P w K mg base A outer s H->BindsTo s fd args (ps.zip us)->Vals vs us->sp vs H Q E->
  codeAny (model P w) A (.call (.ref f) args) (CR CX outer P w H s Q E) s
theorem iW.mono {P:Program} {w:World} {K:PySem.W.Frag} {mg:Str->Option Value} {base:Heap} {CX:Dz} {j k:Nat} {f:Addr} {fd:FuncData} {ps:List Str} {sp:Sp} (F:iW P w K mg base CX j f fd ps sp) (h:j<=k):
  iW P w K mg base CX k f fd ps sp:=⟨F.len,fun A outer s H args us vs Q E hr=>F.run A outer s H args us vs Q E (hr.mono h)⟩
theorem iW.imp {P:Program} {w:World} {K:PySem.W.Frag} {mg:Str->Option Value} {base:Heap} {CX:Dz} {k:Nat} {f:Addr} {fd:FuncData} {ps:List Str} {sp sp':Sp} (F:iW P w K mg base CX k f fd ps sp)
  (h:∀vs H Q E,sp' vs H Q E->sp vs H Q E):iW P w K mg base CX k f fd ps sp':=
 ⟨fun vs H Q E q=>F.len vs H Q E (h _ _ _ _ q),fun A outer s H args us vs Q E hr he hb hv hs=>F.run A outer s H args us vs Q E hr he hb hv (h _ _ _ _ hs)⟩
theorem JG.make {P:Program} {w:World} {K:PySem.W.Frag} {mg:Str->Option Value} {base:Heap} {A:Around} {outer:List Env} {s:Shared} {H:Hp} (e:JG P w K mg base A outer s H) (C:Addr) (us:List Value) (kw:List (Str×Value)):
  JG P w K mg base (A.under (.builtin "type.__call__" ⟨.ref C:: us,kw⟩)) outer s H:=⟨by first | exact e.frames | (simpa [Around.under,Code.envs,Code.isFrame,pushEnvs] using e.frames),e.mod,e.bs,e.bsz,e.funs,e.frf,e.hok,e.bare⟩
section
variable {X:Cx} {pins:List (Addr×Obj)} {σ:St} {H:Hp} {s s':Shared}
theorem Inv.env0 (I:Inv X pins σ H s):JG X.prog X.w X.K X.mg X.base X.A X.stack s H:=
 ⟨I.ok.frames,I.ok.mod,I.bs,Nat.le_trans I.ok.bsz I.sz,I.stack,I.stkFree,I.hok,I.bare⟩
theorem Inv.after {Q:VK} {u:Value} (I:Inv X pins σ H s) (h:CE X.stack X.prog X.w H s Q u s'):EP X pins σ Q u s':=by
 obtain⟨v,H',os,bare,un,hok,r,q⟩:=h
 obtain⟨hh,g,d,t,os'⟩:=s'
 obtain rfl:os'=s.os:=os
 exact⟨v,H',I.call (h':=hh) (g':=g) (d':=d) (t':=t) (ch:=[]) un hok bare (fun b z=>absurd z (by simp)),r,q⟩
end
noncomputable def RZ (sp:Sp) (dvs:List V) (E:XK) (t:TA):TE:=fun σ H Q=>t σ H fun vs H1=>sp (vs ++ dvs) H1 Q E
inductive Pb (C:Addr) (m:Str) (sp:Sp) (dvs:List V) (E:XK) (t:TA) (σ:St) (Q:VK) (x:V) (H1:Hp):Prop where
 | mk:∀a dx fs,x=.ref a->H1 a=some (.ins C dx fs)->fs.lookup m=none->(t σ H1 fun vs H2=>sp (x:: (vs ++ dvs)) H2 Q E)->Pb C m sp dvs E t σ Q x H1
noncomputable def DP (C:Addr) (m:Str) (sp:Sp) (dvs:List V) (E:XK) (ta:TE) (t:TA):TE:=fun σ H Q=>ta σ H fun x H1=>Pb C m sp dvs E t σ Q x H1
noncomputable def WT (C:Addr) (sp:Sp) (dvs:List V) (E:XK) (t:TA):TE:=fun σ H Q=>t σ H fun vs H1=>∀x dx,H1 x=none->H1 dx=none->dx≠x->
 sp (.ref x:: (vs ++ dvs)) (upd (upd H1 dx (.own x)) x (.ins C dx [])) (fun v H2=>v=.non/\Q (.ref x) H2) E
noncomputable def Binds (K:PySem.W.Frag) (fd:FuncData) (ps:List Str) (ds:List Value):Prop:=
 ∀(s:Shared) (us:List Value),K.In s.heap->(us ++ ds).length=ps.length->BindsTo s fd ⟨us,[]⟩ (ps.zip (us ++ ds))
theorem Binds.all {K:PySem.W.Frag} {fd:FuncData} {ps:List Str} (h:∀us:List Value,us.length=ps.length->bindArgs fd ⟨us,[]⟩=pure (ps.zip us)):Binds K fd ps []:=fun s us _ hl=>by
 rw [List.append_nil] at hl ⊢
 exact .of_eq (h us hl)
noncomputable def pF (CX:Dz) (X:Cx) (E:XK):Prop:=∀(pins:List (Addr×Obj)) (σ:St) (H:Hp) (s:Shared) (e:Value) (s':Shared),Inv X pins σ H s->CX X.stack H s E e s'->X.xe e s'
section
variable {X:Cx} {CX:Dz} {k:Nat} {f C:Addr} {fd:FuncData} {ps:List Str} {sp:Sp} {dvs:List V} {ds:List Value} {E:XK} {x m:Str} {p pos apos:Pos} {e o:Expr} {es:List Expr} {ta:TE} {t:TA}
theorem Bh {pins:List (Addr×Obj)} {σ:St} {H:Hp} {s:Shared} {Q:VK} {us:List Value} {vs:List V} (F:iW X.prog X.w X.K X.mg X.base CX k f fd ps sp) (hr:iY k X.A) (hb:Binds X.K fd ps ds) (hd:Vals dvs ds) (hx:pF CX X E)
  (I:Inv X pins σ H s) (r:Vals vs us) (h:sp (vs ++ dvs) H Q E):wpAny (model X.prog X.w) X.A (call (.ref f) us) (EP X pins σ Q) X.xe s:=by
 have r2:Vals (vs ++ dvs) (us ++ ds):=r.append hd
 have hl:(us ++ ds).length=ps.length:=by rw [<-r2.length];exact F.len _ _ _ _ h
 refine wpAny_call (codeAny_mono (F.run X.A X.stack s H ⟨us,[]⟩ (us ++ ds) (vs ++ dvs) Q E hr I.env0 (hb s us I.kIn hl) r2 h) fun r s' hq=>?_)
 cases r with
 | error e=>exact hx pins σ H s e s' I hq
 | ok fl=>
  cases fl with
  | ret u=>exact I.after hq
  | next=>exact False.elim hq
  | brk=>exact False.elim hq
  | cont=>exact False.elim hq
theorem QZ (F:iW X.prog X.w X.K X.mg X.base CX k f fd ps sp) (hr:iY k X.A) (hg:Gl X x) (hm:X.mg x=some (.ref f)) (hk:PySem.W.keepIn X.K (.ref f)=true) (hb:Binds X.K fd ps ds) (hd:Vals dvs ds) (hx:pF CX X E)
  (ha:PA X (e:: es) t) (hdb:(x == ("__debug__" :Str))=false:=by decide) (he:starEach (e:: es) X.env=(false,eval e X.env):: starEach es X.env:=by rfl) (hpl:(backTo pos (starEach es X.env)).any (·.1)=false:=by rfl):
  PE X (.Call (.Name x p) (e:: es) [] pos) (RZ sp dvs E t):=by
 intro pins s σ H Q I h
 refine wpAny_Call_Name_kw (Fx I hg hm ?_ hdb)
 refine PySem.W.callWith_K (h₀:=X.base) I.ok.mod.kin hk (dU (ha pos pins s σ H _ I h) fun us s1 ⟨vs,H1,I1,r,q⟩=>⟨I1.kIn,?_⟩) he hpl
 exact Bh F hr hb hd hx I1 r q
theorem Rc {pl:Sem Bool} (he:PE X o ta) (c:M5 X.K C) (hm:Meth X.K C m f) (F:iW X.prog X.w X.K X.mg X.base CX k f fd ps sp) (hr:iY k X.A) (hb:Binds X.K fd ps ds) (hd:Vals dvs ds) (hx:pF CX X E) (ha:PA X (e:: es) t)
  (hst:starEach (e:: es) X.env=(false,eval e X.env):: starEach es X.env:=by rfl) (hpl:(backTo pos (starEach es X.env)).any (·.1)=false:=by rfl)
  (ht:eval (.Call (.Attribute o m apos) (e:: es) [] pos) X.env=(do
   let ov <-eval o X.env
   standAt apos.atName
   let (f,first) <-holding [ov] (getMethod ov m pl)
   callWith pos f first (backTo pos (starEach (e:: es) X.env)) (backToKw pos (keywordEach [] X.env))):=by rfl):
  PE X (.Call (.Attribute o m apos) (e:: es) [] pos) (DP C m sp dvs E ta t):=by
 intro pins s σ H Q I h
 refine PySem.W.methodCall_KW (pl:=pl) (dU (he pins s σ H _ I h) fun u s1 hpt=>?_) ht
 obtain⟨x,H1,I1,rx,a,dx,fs,ex,ea,l,q⟩:=hpt
 subst ex
 obtain rfl:u=Value.ref a:=rx
 refine qO I1 ea c hm l ?_
 refine PySem.W.callWith_K (first:=[.ref a]) (h₀:=X.base) I.ok.mod.kin hm.kp (dU (ha pos pins s1 σ H1 _ I1 q) fun us s2 ⟨vs,H2,I2,r,q2⟩=>⟨I2.kIn,?_⟩) hst hpl
 exact Bh (us:=.ref a:: us) (vs:=.ref a:: vs) F hr hb hd hx I2 (.cons rfl r) q2
theorem Nf {pl:Sem Bool} (he:PE X o ta) (c:M5 X.K C) (hm:Meth X.K C m f) (F:iW X.prog X.w X.K X.mg X.base CX k f fd ps sp) (hr:iY k X.A) (hb:Binds X.K fd ps ds) (hd:Vals dvs ds) (hx:pF CX X E)
  (ht:eval (.Call (.Attribute o m apos) [] [] pos) X.env=(do
   let ov <-eval o X.env
   standAt apos.atName
   let (f,first) <-holding [ov] (getMethod ov m pl)
   callWith pos f first (backTo pos (starEach [] X.env)) (backToKw pos (keywordEach [] X.env))):=by rfl):
  PE X (.Call (.Attribute o m apos) [] [] pos) (DP C m sp dvs E ta JX):=by
 intro pins s σ H Q I h
 refine PySem.W.methodCall_KW (pl:=pl) (dU (he pins s σ H _ I h) fun u s1 hpt=>?_) ht
 obtain⟨x,H1,I1,rx,a,dx,fs,ex,ea,l,q⟩:=hpt
 subst ex
 obtain rfl:u=Value.ref a:=rx
 refine qO I1 ea c hm l ?_
 exact PySem.W.callWith_K0 (first:=[.ref a]) I1.kIn hm.kp (Bh (us:=[.ref a]) (vs:=[.ref a]) F hr hb hd hx I1 (.cons rfl .nil) q)
structure Mk (K:PySem.W.Frag) (C f:Addr):Prop where
 makes:PySem.W.makesIn K C=true
 init:PySem.W.findIn K (.ref C) "__init__" =some (some (.ref f))
 fn:PySem.W.isFn K (.ref f)=true
 kp:PySem.W.keepIn K (.ref C)=true
theorem Qe {pins:List (Addr×Obj)} {σ:St} {H:Hp} {s:Shared} {Q:VK} {us:List Value} {vs:List V} (M:Mk X.K C f) (F:iW X.prog X.w X.K X.mg X.base CX k f fd ps sp) (hr:iY (k+1) X.A) (hb:Binds X.K fd ps ds) (hd:Vals dvs ds)
  (hx:pF CX X E) (I:Inv X pins σ H s) (r:Vals vs us)
  (h:∀x dx,H x=none->H dx=none->dx≠x->sp (.ref x:: (vs ++ dvs)) (upd (upd H dx (.own x)) x (.ins C dx [])) (fun v H2=>v=.non/\Q (.ref x) H2) E):
  wpAny (model X.prog X.w) X.A (call (.ref C) us) (EP X pins σ Q) X.xe s:=by
 have hq:=h (s.heap.objs.size+1) s.heap.objs.size (I.hok.fresh (Nat.le_succ _)) (I.hok.fresh (Nat.le_refl _)) (Nat.ne_of_lt (Nat.lt_succ_self _))
 have I2:=Inv.made (C:=C) I
 have r2:Vals (V.ref (s.heap.objs.size+1):: (vs ++ dvs)) (Value.ref (s.heap.objs.size+1):: (us ++ ds)):=.cons rfl (r.append hd)
 have hl:(Value.ref (s.heap.objs.size+1):: us ++ ds).length=ps.length:=by
  have e:=r2.length
  rw [F.len _ _ _ _ hq] at e
  exact e.symm
 refine wpAny_call (Qt (f:=f) I.kIn M.makes M.init (beq_iff_eq.mp M.fn) (codeAny_mono (F.run _ X.stack _ _ ⟨Value.ref (s.heap.objs.size+1):: us,[]⟩ (Value.ref (s.heap.objs.size+1):: (us ++ ds)) _ _ E (hr.make C us [])
  (I2.env0.make C us []) (hb _ (Value.ref (s.heap.objs.size+1):: us) I2.kIn hl) r2 hq) fun r s' hq'=>?_))
 cases r with
 | error e=>exact hx pins σ _ _ e s' I2 hq'
 | ok fl=>
  cases fl with
  | ret u=>
   obtain⟨v,H',I3,rv,ev,q3⟩:=I2.after hq'
   subst ev
   exact⟨rv,⟨V.ref (s.heap.objs.size+1),H',I3,rfl,q3⟩⟩
  | next=>exact False.elim hq'
  | brk=>exact False.elim hq'
  | cont=>exact False.elim hq'
theorem iK (M:Mk X.K C f) (F:iW X.prog X.w X.K X.mg X.base CX k f fd ps sp) (hr:iY (k+1) X.A) (hg:Gl X x) (hm:X.mg x=some (.ref C)) (hb:Binds X.K fd ps ds) (hd:Vals dvs ds) (hx:pF CX X E)
  (ha:PA X (e:: es) t) (hdb:(x == ("__debug__" :Str))=false:=by decide) (he:starEach (e:: es) X.env=(false,eval e X.env):: starEach es X.env:=by rfl) (hpl:(backTo pos (starEach es X.env)).any (·.1)=false:=by rfl):
  PE X (.Call (.Name x p) (e:: es) [] pos) (WT C sp dvs E t):=by
 intro pins s σ H Q I h
 refine wpAny_Call_Name_kw (Fx I hg hm ?_ hdb)
 refine PySem.W.callWith_K (h₀:=X.base) I.ok.mod.kin M.kp (dU (ha pos pins s σ H _ I h) fun us s1 ⟨vs,H1,I1,r,q⟩=>⟨I1.kIn,?_⟩) he hpl
 exact Qe M F hr hb hd hx I1 r q
end
section
variable {X:Cx} {CX:Dz} {k:Nat} {f C:Addr} {fd:FuncData} {ps ks:List Str} {sp:Sp} {E:XK} {x m:Str} {p pos apos kpos:Pos} {e o:Expr} {es:List Expr} {kws:List Keyword} {te ta:TE} {t tk:TA} {nm:Option Str}
variable {g:List Value->List Value->List Value} {gV:List V->List V->List V}
end
structure gP (N P:List Str) (sc:Scope):Prop where
 kind:sc.kind=.function
 co:sc.isCoroutine=false
 gen:sc.isGenerator=false
 nd:N.Nodup
 pre:N.take P.length=P
 par:∀x∈P,sc.names.lookup x=some .local∨sc.names.lookup x=some .cell
 nofree:∀y∈sc.names,y.2≠.free
theorem Df {kindOf:Str->Option NameKind} {x:Str}:∀{binds:List (Str×Value)} {m:Str->Option Value},(∀v,(x,v)∉binds)->bindL kindOf binds m x=m x
 | [],_,_=>rfl
 | (n,v):: r,m,h=>by
  unfold bindL
  rw [Df fun w hw=>h w (List.mem_cons_of_mem _ hw)]
  split
  ·have:x≠n:=by rintro rfl;exact h v List.mem_cons_self
   simp [this]
  ·rfl
theorem Cy {kindOf:Str->Option NameKind} {x:Str}:∀{binds:List (Str×Value)} {m:Str->Option Value},(∀v,(x,v)∉binds)->bindC kindOf binds m x=m x
 | [],_,_=>rfl
 | (n,v):: r,m,h=>by
  unfold bindC
  rw [Cy fun w hw=>h w (List.mem_cons_of_mem _ hw)]
  split
  ·rfl
  ·have:x≠n:=by rintro rfl;exact h v List.mem_cons_self
   simp [this]
theorem DY {kindOf:Str->Option NameKind} {x:Str} {v:Value}:∀{P:List Str} {vs:List Value} {i:Nat} {m:Str->Option Value},P.Nodup->P[i]?=some x->vs[i]?=some v->kindOf x=some .local->
  bindL kindOf (P.zip vs) m x=some v
 | [],_,_,_,_,h,_,_=>by simp at h
 | _:: _,[],_,_,_,_,h,_=>by simp at h
 | p:: P,w:: vs,0,m,nd,h1,h2,hk=>by
  simp at h1 h2;subst h1;subst h2
  show bindL kindOf ((p,w):: P.zip vs) m p=_
  unfold bindL
  rw [Df fun v hv=>(List.nodup_cons.mp nd).1 (List.of_mem_zip hv).1,if_pos hk]
  simp
 | p:: P,w:: vs,i+1,m,nd,h1,h2,hk=>by
  show bindL kindOf ((p,w):: P.zip vs) m x=_
  unfold bindL
  exact DY (i:=i) (List.nodup_cons.mp nd).2 (by simpa using h1) (by simpa using h2) hk
theorem Dc {kindOf:Str->Option NameKind} {x:Str} {v:Value}:∀{P:List Str} {vs:List Value} {i:Nat} {m:Str->Option Value},P.Nodup->P[i]?=some x->vs[i]?=some v->kindOf x≠some .local->
  bindC kindOf (P.zip vs) m x=some v
 | [],_,_,_,_,h,_,_=>by simp at h
 | _:: _,[],_,_,_,_,h,_=>by simp at h
 | p:: P,w:: vs,0,m,nd,h1,h2,hk=>by
  simp at h1 h2;subst h1;subst h2
  show bindC kindOf ((p,w):: P.zip vs) m p=_
  unfold bindC
  rw [Cy fun v hv=>(List.nodup_cons.mp nd).1 (List.of_mem_zip hv).1,if_neg hk]
  simp
 | p:: P,w:: vs,i+1,m,nd,h1,h2,hk=>by
  show bindC kindOf ((p,w):: P.zip vs) m x=_
  unfold bindC
  exact Dc (i:=i) (List.nodup_cons.mp nd).2 (by simpa using h1) (by simpa using h2) hk
noncomputable def start (N:List Str) (vs:List V):St:=vs.map some ++ List.replicate (N.length - vs.length) none
noncomputable def Mp (CX:Dz) (P:Program) (w:World) (K:PySem.W.Frag) (mg:Str->Option Value) (base:Heap) (N:List Str) (qual:Str) (scope:Scope) (f:Addr) (cd:Value) (A:Around) (outer:List Env) (s:Shared) (H:Hp) (E:XK):Cx where
 prog:=P
 w:=w
 K:=K
 mg:=mg
 base:=base
 A:=A.deeper (envOfC qual scope s.heap.objs.size f cd)
 N:=N
 s₀:=s
 H₀:=H
 env:=envOfC qual scope s.heap.objs.size f cd
 outer:=outer
 stack:=envOfC qual scope s.heap.objs.size f cd:: outer
 ex:=[]
 calm:=true
 fn:=fun _=>true
 pn:=[]
 xe:=fun e s'=>wpAny (model P w) (A.deeper (envOfC qual scope s.heap.objs.size f cd)) (leaving (envOfC qual scope s.heap.objs.size f cd) e) (fun _ s''=>CX outer H s E e s'') (fun e' s''=>CX outer H s E e' s'') s'
theorem G9 {sc:Scope} {n:Nat} {x:Str} (h:sc.names.lookup x=some .cell):∃c,(cellsFrom n sc.names []).lookup x=some c:=by
 have q:=PySem.W.cellsFrom_some sc.names n [] (.inl h)
 exact Option.isSome_iff_exists.mp q
theorem LK {CX:Dz} {P:Program} {w:World} {K:PySem.W.Frag} {mg:Str->Option Value} {base:Heap} {N ps:List Str} {qual:Str} {scope:Scope} {f:Addr} {cd:Value} {A:Around} {outer:List Env} {s s1:Shared} {H:Hp} {E:XK} {us:List Value} {vs:List V}
  (S:gP N ps scope) (hd:A.handled=none) (e0:JG P w K mg base A outer s H) (hl:vs.length=ps.length) (r:Vals vs us)
  (x:InCallC s s.heap.objs.size (bindL (envOfC qual scope s.heap.objs.size f cd).kindOf (ps.zip us) fun _=>none) (cellsFrom (s.heap.objs.size+1) scope.names []) (bindC (envOfC qual scope s.heap.objs.size f cd).kindOf (ps.zip us) fun _=>none) s1):
  Inv (Mp CX P w K mg base N qual scope f cd A outer s H E) [] (start N vs) H s1:=by
 have hpl:ps.length<=N.length:=by have:=congrArg List.length S.pre;rw [List.length_take] at this;omega
 obtain⟨h1,tk,rfl,hk⟩:=x.done
 have noA:∀b:Addr,b∉(Mp CX P w K mg base N qual scope f cd A outer s H E).ex:=fun b z=>absurd (show b∈([]:List Addr) from z) (by simp)
 refine⟨⟨e0.mod,S.kind,rfl,rfl,Nat.le_refl _,fun y z c h1 h2=>?_,fun y hy=>?_,fun y c _ h=>?_,fun _=>hd,Around.frames_deeper e0.frames,.inr ⟨rfl,rfl⟩,fun b z=>absurd z (noA b),e0.bs,e0.bsz,fun b _ _=>noA b,fun b z=>absurd z (noA b),e0.funs,e0.frf⟩,
  rfl,e0.bare,Un.kept hk,⟨_,x.toInCall.ns,fun i y v h1 h2 h3=>?_⟩,fun y c h=>⟨_,x.cell y c h⟩,e0.hok.fresh (Nat.le_refl _),fun y c h=>?_,fun p hp=>absurd (show p∈([]:List (Addr×Obj)) from hp) (by simp),e0.hok.kept hk,?_⟩
 ·exact name_of_addr x.apart (PySem.mem_of_lookup h1) (PySem.mem_of_lookup h2)
 ·have hy:scope.names.lookup y=some .cell∨scope.names.lookup y=some .free:=hy
  rcases hy with hy | hy
  ·exact G9 hy
  ·exact absurd rfl (S.nofree _ (PySem.mem_of_lookup hy))
 ·exact Nat.le_of_lt (x.above y c (PySem.mem_of_lookup h))
 ·have hi:i <vs.length:=by
   unfold start at h2
   by_cases hi:i <vs.length
   ·exact hi
   ·rw [List.getElem?_append_right (by simpa using hi)] at h2
    rw [List.getElem?_replicate] at h2
    split at h2 <;> cases h2
  have ha:vs[i]?=some v:=by
   unfold start at h2
   rw [List.getElem?_append_left (by simpa using hi),List.getElem?_map] at h2
   cases e:vs[i]? with
   | none=>rw [e] at h2;cases h2
   | some a=>rw [e] at h2;cases h2;rfl
  obtain⟨u,hu,rv⟩:=r.get ha
  have hp:ps[i]?=some y:=by
   rw [<-S.pre,List.getElem?_take_of_lt (by omega)];exact h1
  have ndP:ps.Nodup:=by rw [<-S.pre];exact S.nd.sublist (List.take_sublist _ _)
  refine⟨u,rv,?_⟩
  rcases S.par y (List.mem_of_getElem? hp) with k | k
  ·exact .inl ⟨k,DY ndP hp hu k⟩
  ·obtain⟨c,e⟩:=G9 (n:=s.heap.objs.size+1) k
   refine .inr ⟨.inl k,c,e,?_⟩
   have q:=x.cell y c e
   rw [Dc ndP hp hu (by show scope.names.lookup y≠_;rw [k];decide)] at q
   exact q
 ·exact e0.hok.fresh (Nat.le_of_lt (x.above y c (PySem.mem_of_lookup h)))
 ·unfold start
  show _=N.length
  rw [List.length_append,List.length_map,List.length_replicate]
  omega
theorem Wt {CX:Dz} {P:Program} {w:World} {K:PySem.W.Frag} {mg:Str->Option Value} {base:Heap} {k:Nat} {f:Addr} {name qual:Str} {params:Arguments} {body:List Stmt} {scope:Scope} {dV kV doc pm cdv ct oc:Value} {an od:Option Addr}
  {osl:Array (Option Value)} {N ps:List Str} {sp:Sp} (lk:K.lookup f=some ⟨oc,od,.func (PySem.W.fnOf name qual params body scope dV kV doc pm an cdv ct),osl⟩) (hcd:PySem.W.codeIn K cdv qual=true) (S:gP N ps scope)
  (len:∀vs H Q E,sp vs H Q E->vs.length=ps.length)
  (hbody:∀(A:Around) (outer:List Env) (s:Shared) (H:Hp) (vs:List V) (Q:VK) (E:XK),iY k (A.deeper (envOfC qual scope s.heap.objs.size f cdv))->sp vs H Q E->
   ∃t,LQ (Mp CX P w K mg base N qual scope f cdv A outer s H E) body t/\t { nx:=fun _ H'=>Q .non H',rt:=Q } (start N vs) H):
  iW P w K mg base CX (k+1) f (PySem.W.fnOf name qual params body scope dV kV doc pm an cdv ct) ps sp:=by
 refine⟨len,fun A outer s H args us vs Q E hr e0 hb r hsp=>?_⟩
 have hl:=len _ _ _ _ hsp
 have KX:K.In s.heap:=e0.mod.kin.keeps fun b o e=>(e0.bs b o e).1
 have lim:s.heap.NoLimit:=e0.mod.nolimit.keeps fun b o e=>(e0.bs b o e).1
 have hkind:∀y∈ps.zip us,scope.names.lookup y.1=some .local∨(scope.names.lookup y.1=some .cell/\((cellsFrom (s.heap.objs.size+1) scope.names []).lookup y.1).isSome=true):=fun⟨n,v⟩ hy=>by
  rcases S.par n (List.of_mem_zip hy).1 with q | q
  ·exact .inl q
  ·exact .inr ⟨q,PySem.W.cellsFrom_some _ _ _ (.inl q)⟩
 refine codeAny_call_function hr.depth (KX _ _ lk) rfl S.co S.gen rfl (PySem.W.codeRec_of KX hcd) (hb _ _ _ _ ?_)
 refine wpAny_newFunctionEnv_cells S.kind hkind fun env he s1 x=>?_
 subst he
 refine⟨lim.keeps x.toInCall.keep,codeAny_func ?_⟩
 obtain⟨t,ht,hq⟩:=hbody A outer s H vs Q E (hr.deeper _) hsp
 have I:Inv (Mp CX P w K mg base N qual scope f cdv A outer s H E) [] (start N vs) H s1:=LK S hr.hd e0 hl r x
 refine wpAny_mono (ht [] s1 (start N vs) H _ I hq) (fun fl s' hs=>?_) fun e s' hs=>hs
 have fin:∀{σ':St} {H':Hp} {v:V} {u:Value},Inv (Mp CX P w K mg base N qual scope f cdv A outer s H E) [] σ' H' s'->RelV v u->Q v H'->CE outer P w H s Q u s':=
  fun {σ' H' v u} J rv q=>⟨v,H',J.os,J.bare,J.base,J.hok,rv,q⟩
 cases fl with
 | ret u=>
  obtain⟨v,σ',H',J,rv,q⟩:=hs
  exact fin J rv q
 | next=>
  obtain⟨σ',H',J,q⟩:=hs
  exact fin (v:=V.non) (u:=Value.none) J rfl q
 | brk=>
  obtain⟨_,_,_,q⟩:=hs
  exact False.elim q
 | cont=>
  obtain⟨_,_,_,q⟩:=hs
  exact False.elim q
section
variable {X:Cx} {x:Str} {p pos:Pos} {e:Expr} {es:List Expr} {t:TA} {id T:String} {r:List V->Hp->VK->Prop}
noncomputable def Yp (r:List V->Hp->VK->Prop) (t:TA):TE:=fun σ H Q=>t σ H fun vs H1=>r vs H1 Q
theorem bf (hc:jC X (.builtin id) r) (hg:Gl X x) (hm:X.mg x=none) (hv:bootBuiltins x=some (.builtin id)) (ha:PA X (e:: es) t) (hn:x≠ "__name__" :=by decide) (hdb:(x == ("__debug__" :Str))=false:=by decide)
  (he:starEach (e:: es) X.env=(false,eval e X.env):: starEach es X.env:=by rfl) (hpl:(backTo pos (starEach es X.env)).any (·.1)=false:=by rfl):PE X (.Call (.Name x p) (e:: es) [] pos) (Yp r t):=by
 intro pins s σ H Q I h
 refine wpAny_Call_Name_kw (An I hg hm hv ?_ hn hdb)
 exact PyProof.Rows.callWith_builtin1 (dU (ha pos pins s σ H _ I h) fun us s1 ⟨vs,H1,I1,r1,q1⟩=>hc pins s1 σ H1 vs us Q I1 r1 q1) he hpl
theorem cB (hc:jC X (.type T) r) (hg:Gl X x) (hm:X.mg x=none) (hv:bootBuiltins x=some (.type T)) (ha:PA X (e:: es) t) (hn:x≠ "__name__" :=by decide) (hdb:(x == ("__debug__" :Str))=false:=by decide)
  (he:starEach (e:: es) X.env=(false,eval e X.env):: starEach es X.env:=by rfl) (hpl:(backTo pos (starEach es X.env)).any (·.1)=false:=by rfl):PE X (.Call (.Name x p) (e:: es) [] pos) (Yp r t):=by
 intro pins s σ H Q I h
 refine wpAny_Call_Name_kw (An I hg hm hv ?_ hn hdb)
 exact PyProof.Rows.callWith_type1 (dU (ha pos pins s σ H _ I h) fun us s1 ⟨vs,H1,I1,r1,q1⟩=>hc pins s1 σ H1 vs us Q I1 r1 q1) he hpl
end
end L2
namespace HT
open PySem PyProof.Rows
section
open PySem.SeqAt
open PySem.AutoSeq1 (wpAny_loadPart')
open PySem.MeetsSeq PySem.MeetsSeq2 PySem.MeetsSeq3
end
section
variable {prog:Program} {w:World} {A:Around} {E:Value->Shared->Prop} {s:Shared}
noncomputable def G4 (n d:Nat):Option Int->Nat
 | none=>d
 | some v=>if v <0 then(v+(n:Int)).toNat else min v.toNat n
theorem IV (n d:Nat):G4 n d none=d:=rfl
theorem zK (n d k:Nat):G4 n d (some (k:Int))=min k n:=by
 show(if (k:Int) <0 then((k:Int)+(n:Int)).toNat else min (k:Int).toNat n)=min k n
 rw [if_neg (by omega),Int.toNat_natCast]
end
end HT
namespace L2
open PySem PySem.Spec PyProof.Rows
noncomputable abbrev TO:=St->Hp->(Option Int->Hp->Prop)->Prop
noncomputable def PO (X:Cx) (e:Option Expr) (t:TO):Prop:=
 ∀(pins:List (Addr×Obj)) (s:Shared) (σ:St) (H:Hp) (Q:Option Int->Hp->Prop),Inv X pins σ H s->t σ H Q->
  wpAny (model X.prog X.w) X.A (evalPart e X.env) (fun u s'=>∃o H',Inv X pins σ H' s'/\IsPart u o/\Q o H') X.xe s
noncomputable def Q8:TO:=fun _ H Q=>Q none H
inductive Px (Q:Option Int->Hp->Prop) (x:V) (H1:Hp):Prop where
 | mk:∀i,x=.int i->Q (some i) H1->Px Q x H1
noncomputable def V5 (t:TE):TO:=fun σ H Q=>t σ H fun x H1=>Px Q x H1
section
variable {X:Cx} {e:Expr} {te:TE} {lo hi:Option Expr} {tl th:TO} {pos p2:Pos}
theorem zL:PO X none Q8:=by
 intro pins s σ H Q I h
 rw [evalPart_none]
 exact wpAny_pure ⟨none,H,I,.none,h⟩
theorem n8 (h:PE X e te):PO X (some e) (V5 te):=by
 intro pins s σ H Q I hw
 rw [evalPart_some]
 refine dU (h pins s σ H _ I hw) fun u s1 hpt=>?_
 obtain⟨x,H1,I1,r1,q1⟩:=hpt
 obtain⟨i,rfl,q⟩:=q1
 obtain⟨t,rfl⟩:=r1
 exact⟨some i,H1,I1,.int i t,q⟩
noncomputable def Xf (X:Cx) (r:V->Option Int->Option Int->Hp->VK->Prop):Prop:=
 ∀(pins:List (Addr×Obj)) (s:Shared) (σ:St) (H:Hp) (x:V) (v vl vu:Value) (lo hi:Option Int) (sl:Addr) (Q:VK),Inv X pins σ H s->RelV x v->s.heap.IsSliceOf sl vl vu .none->IsPart vl lo->IsPart vu hi->r x lo hi H Q->
  ∃T id,typeLookup (.type T) "__getitem__" =pure (some (.builtin id))/\s.TypeIs v T/\wpAny (model X.prog X.w) X.A (getItem v (.ref sl)) (EP X pins σ Q) X.xe s
noncomputable def tSl (r:V->Option Int->Option Int->Hp->VK->Prop) (te:TE) (tl th:TO):TE:=fun σ H Q=>te σ H fun x H1=>tl σ H1 fun l H2=>th σ H2 fun u H3=>r x l u H3 Q
theorem p8 {r:V->Option Int->Option Int->Hp->VK->Prop} (hr:Xf X r) (he:PE X e te) (hl:PO X lo tl) (hu:PO X hi th):PE X (.Subscript e (.Slice lo hi none p2) pos) (tSl r te tl th):=by
 intro pins s σ H Q I h
 refine Subscript_ (dU (he pins s σ H _ I h) fun v s1 hpt=>?_)
 obtain⟨x,H1,I1,r1,q1⟩:=hpt
 refine wpAny_Slice (dU (hl pins s1 σ H1 _ I1 q1) fun vl s2 ⟨l,H2,I2,pl,q2⟩=>dU (hu pins s2 σ H2 _ I2 q2) fun vu s3 hpt=>?_)
 obtain⟨u,H3,I3,pu,q3⟩:=hpt
 rw [evalPart_none]
 refine wpAny_pure ?_
 have I4:Inv X pins σ H3 { s3 with heap:=s3.heap.push { cls:=.type "slice",data:=.fields #[vl,vu,.none] } }:=I3.kept (t':=s3.toks) fun b ob q=>Heap.get?_push_of_some _ q
 obtain⟨T,id,hT,ht,hg⟩:=hr pins { s3 with heap:=s3.heap.push { cls:=.type "slice",data:=.fields #[vl,vu,.none] } } σ H3 x v vl vu l u s3.heap.objs.size Q I4 r1 (Heap.IsSliceOf.new ..) pl pu q3
 show wpAny (model X.prog X.w) X.A (subscriptTail e (.Slice lo hi none p2) v (.ref s3.heap.objs.size)) (EP X pins σ Q) X.xe { s3 with heap:=s3.heap.push { cls:=.type "slice",data:=.fields #[vl,vu,.none] } }
 exact tail_any (ops:=[.ref s3.heap.objs.size,v]) ht hT hg (by with_unfolding_all rfl)
noncomputable def qZ (xs:List V) (lo hi:Option Int):List V:=(xs.drop (HT.G4 xs.length 0 lo)).take (HT.G4 xs.length xs.length hi - HT.G4 xs.length 0 lo)
theorem Ii (xs:List V) (lo hi:Option Int):(qZ xs lo hi).length<=xs.length:=by
 unfold qZ
 rw [List.length_take,List.length_drop]
 omega
end
noncomputable def Vh (n:Nat) (i:Int):Option Nat:=if 0<=i then(if i <n then some i.toNat else none) else if -(n:Int)<=i then some (i+n).toNat else none
noncomputable def Cq {α:Type} (xs:List α) (i:Int):Option α:=(Vh xs.length i).bind fun j=>xs[j]?
theorem Rv {n:Nat} {i:Int} {j:Nat} (h:Vh n i=some j):seqIndex? i n=some j/\j <n/\ -(n:Int)<=i/\i <n:=by
 unfold Vh at h
 by_cases h0:0<=i
 ·rw [if_pos h0] at h
  by_cases h1:i <n
  ·rw [if_pos h1] at h
   have e:i.toNat=j:=Option.some.inj h
   exact⟨by rw [seqIndex_of h0 h1,e],by omega,by omega,h1⟩
  ·rw [if_neg h1] at h;cases h
 ·rw [if_neg h0] at h
  by_cases h1: -(n:Int)<=i
  ·rw [if_pos h1] at h
   have e:(i+n).toNat=j:=Option.some.inj h
   exact⟨by rw [seqIndex_neg (by omega) h1,e],by omega,h1,by omega⟩
  ·rw [if_neg h1] at h;cases h
theorem Fj {α:Type} {xs:List α} {i:Int} {v:α} (h:Cq xs i=some v):∃j,seqIndex? i xs.length=some j/\xs[j]?=some v/\j <xs.length/\ -(xs.length:Int)<=i/\i <xs.length:=by
 unfold Cq at h
 cases e:Vh xs.length i with
 | none=>rw [e] at h;cases h
 | some j=>
  rw [e] at h
  obtain⟨h1,h2,h3,h4⟩:=Rv e
  exact⟨j,h1,h,h2,h3,h4⟩
theorem aN {α:Type} {xs:List α} {j:Nat} {v:α} (h:xs[j]?=some v):Cq xs (j:Int)=some v:=by
 have hj:j <xs.length:=(List.getElem?_eq_some_iff.mp h).1
 have e:Vh xs.length (j:Int)=some j:=by
  unfold Vh
  rw [if_pos (by omega),if_pos (by omega)];simp
 unfold Cq;rw [e];exact h
noncomputable def KJ (b:Expr):Prop:=∀o i,subscripted b false o i=operate [o,i] (getItem o i)
noncomputable def M8 (X:Cx) (r:R2):Prop:=
 ∀(value slice:Expr) (pins:List (Addr×Obj)) (s:Shared) (σ:St) (H:Hp) (x y:V) (v u:Value) (Q:VK),Inv X pins σ H s->RelV x v->RelV y u->r x y H Q->
  subscripted slice false v u=operate [v,u] (getItem v u)->wpAny (model X.prog X.w) X.A (subscriptTail value slice v u) (EP X pins σ Q) X.xe s
noncomputable def Xe (X:Cx) (id:String) (r:V->List V->Hp->VK->Prop):Prop:=
 ∀(pins:List (Addr×Obj)) (s:Shared) (σ:St) (H:Hp) (x:V) (xs:List V) (v:Value) (us:List Value) (Q:VK),Inv X pins σ H s->RelV x v->Vals xs us->r x xs H Q->
  wpAny (model X.prog X.w) X.A (call (.builtin id) (v:: us)) (EP X pins σ Q) X.xe s
section
variable {X:Cx} {a b:Expr} {ta tb:TE} {pos:Pos}
theorem M8.or {r r':R2} (h:M8 X r) (h':M8 X r'):M8 X (fun x y H Q=>r x y H Q∨r' x y H Q):=by
 intro value slice pins s σ H x y v u Q I rx ry q hs
 rcases q with q | q
 ·exact h value slice pins s σ H x y v u Q I rx ry q hs
 ·exact h' value slice pins s σ H x y v u Q I rx ry q hs
theorem aU {r:R2} (hr:M8 X r) (ha:PE X a ta) (hb:PE X b tb) (hs:KJ b):PE X (.Subscript a b pos) (Vm r ta tb):=by
 intro pins s σ H Q I h
 exact Subscript_ (TX ha hb I h fun v u s2 x y H2 I2 rx ry q=>hr a b pins s2 σ H2 x y v u Q I2 rx ry q (hs _ _))
inductive Tc (K:PySem.W.Frag) (x:V) (y:V) (H:Hp) (Q:VK):Prop where
 | mk:∀p xs i v,x=.ref p->y=.int i->bT K H p xs->Cq xs i=some v->Q v H->Tc K x y H Q
noncomputable def UG (K:PySem.W.Frag):R2:=fun x y H Q=>Tc K x y H Q
inductive RQ (K:PySem.W.Frag) (x:V) (y:V) (H:Hp) (Q:VK):Prop where
 | mk:∀p xs i v,x=.ref p->y=.int i->fY K H p xs->Cq xs i=some v->Q v H->RQ K x y H Q
noncomputable def Ul (K:PySem.W.Frag):R2:=fun x y H Q=>RQ K x y H Q
inductive Ss (x:V) (y:V) (H:Hp) (Q:VK):Prop where
 | mk:∀z i c,x=.str z->y=.int i->z.length<=sizeLine->Cq z.cps.toList i=some c->Q (.str ⟨#[c]⟩) H->Ss x y H Q
noncomputable def Vy:R2:=fun x y H Q=>Ss x y H Q
theorem aO:M8 X (UG X.K):=by
 intro value slice pins s σ H x y v u Q I rx ry h hs
 obtain⟨p,xs,i,z,rfl,rfl,hq,he,q⟩:=h
 cases rx
 obtain⟨t,rfl⟩:=ry
 obtain⟨its,r,pl,hz⟩:=I.list hq
 obtain⟨j,h1,h2,h3,h4,h5⟩:=Fj he
 obtain⟨w,ew,rw'⟩:=r.get h2
 have hl:=r.length
 have hn:=Gq
 have fin:EP X pins σ Q w s:=⟨z,H,I,rw',q⟩
 by_cases h0:0<=i
 ·have hj:i.toNat=j:=by
   rw [seqIndex_of h0 h5] at h1
   exact Option.some.inj h1
  exact item_listR pl.isList h0 (by omega) (by rw [hj];simpa using ew) fin hs
 ·have hj:(i+(its.toArray.size:Int)).toNat=j:=by
   rw [seqIndex_neg (by omega) h4] at h1
   rw [List.size_toArray,<-hl]
   exact Option.some.inj h1
  exact subscriptTail_builtinR (x:=w) pl.isList.typeIs slot_list_getitem.lookup
   (wpAny_getItem_list_neg (Q:=fun r s'=>r=w/\EP X pins σ Q r s') pl.isList (by omega) (by rw [List.size_toArray] <;> omega) (by omega) (by rw [hj];simpa using ew) ⟨rfl,fin⟩) hs
theorem dw:M8 X (Ul X.K):=by
 intro value slice pins s σ H x y v u Q I rx ry h hs
 obtain⟨p,xs,i,z,rfl,rfl,hq,he,q⟩:=h
 cases rx
 obtain⟨t,rfl⟩:=ry
 obtain⟨its,r,pl,hz⟩:=I.tuple hq
 obtain⟨j,h1,h2,h3,h4,h5⟩:=Fj he
 obtain⟨w,ew,rw'⟩:=r.get h2
 have hl:=r.length
 have hn:=Gq
 have fin:EP X pins σ Q w s:=⟨z,H,I,rw',q⟩
 exact subscriptTail_builtinR (x:=w) pl.typeIs slot_tuple_getitem.lookup
  (getItem_tuple (j:=j) (Q:=fun r s'=>r=w/\EP X pins σ Q r s') pl (by omega) (by omega) (by rw [List.size_toArray,<-hl];exact h1) (by simpa using ew) ⟨rfl,fin⟩) hs
theorem Be:M8 X Vy:=by
 intro value slice pins s σ H x y v u Q I rx ry h hs
 obtain⟨z,i,c,rfl,rfl,hz,he,q⟩:=h
 obtain⟨t,rfl⟩:=rx
 obtain⟨t',rfl⟩:=ry
 obtain⟨j,h1,h2,h3,h4,h5⟩:=Fj he
 have hl:z.cps.toList.length=z.length:=by simp [Str.length]
 rw [hl] at h1 h4 h5
 have hn:=Gq
 exact tail_any (typeIs_str s z t) slot_str_getitem.lookup (getItem_str (c:=c) (by
  have e1:decide (i < -(2 ^ 63:Int))=false:=decide_eq_false (by omega)
  have e2:decide (i≥2 ^ 63)=false:=decide_eq_false (by omega)
  rw [e1,e2,Bool.or_false]) (by rw [h1];simpa using h2) ⟨.str ⟨#[c]⟩,H,I.tok _,⟨_,rfl⟩,q⟩) hs
noncomputable def rIx (K:PySem.W.Frag):R2:=fun x y H Q=>UG K x y H Q∨Ul K x y H Q∨Vy x y H Q
theorem Jv:M8 X (rIx X.K):=aO.or (dw.or Be)
theorem Ge (lo hi:Option Int) (n:Nat):(sliceBounds lo hi none n).1=((HT.G4 n 0 lo:Nat):Int)/\(sliceBounds lo hi none n).2.1=((HT.G4 n n hi:Nat):Int)/\(sliceBounds lo hi none n).2.2=1:=by
 refine⟨?_,?_,rfl⟩
 ·cases lo with
  | none=>simp [sliceBounds,HT.G4]
  | some i=>
   simp only [sliceBounds,HT.G4,Option.getD_none,show(1:Int) >0 by decide,if_true]
   by_cases h:i <0
   ·simp only [h,if_true] <;> omega
   ·simp only [h,if_false] <;> omega
 ·cases hi with
  | none=>simp [sliceBounds,HT.G4]
  | some i=>
   simp only [sliceBounds,HT.G4,Option.getD_none,show(1:Int) >0 by decide,if_true]
   by_cases h:i <0
   ·simp only [h,if_true] <;> omega
   ·simp only [h,if_false] <;> omega
theorem Cj (its:List Value) (lo hi:Option Int):slicePick its.toArray lo hi none=((its.drop (HT.G4 its.length 0 lo)).take (HT.G4 its.length its.length hi - HT.G4 its.length 0 lo)).toArray:=by
 obtain⟨h1,h2,h3⟩:=Ge lo hi its.toArray.size
 unfold slicePick
 rw [h1,h2,h3]
 simp only [sliceRange_one,pick_run,List.size_toArray] <;> rfl
inductive Ti (K:PySem.W.Frag) (x:V) (lo:Option Int) (hi:Option Int) (H:Hp) (Q:VK):Prop where
 | mk:∀a xs,x=.ref a->bT K H a xs->(∀p,H p=none->Q (.ref p) (upd H p (.lst (qZ xs lo hi))))->Ti K x lo hi H Q
noncomputable def Vs (K:PySem.W.Frag):V->Option Int->Option Int->Hp->VK->Prop:=fun x lo hi H Q=>Ti K x lo hi H Q
theorem zF:Xf X (Vs X.K):=by
 intro pins s σ H x v vl vu lo hi sl Q I rx hs pl pu h
 obtain⟨a,xs,rfl,hx,q⟩:=h
 cases rx
 obtain⟨its,r,ht,hz⟩:=I.list hx
 have hlen:=r.length
 refine⟨"list",_,slot_list_getitem.lookup,ht.isList.typeIs,?_⟩
 refine wpAny_getItem_list_slice ht.isList hs pl pu .none (by simp) ?_ (by rw [List.size_toArray] <;> omega)
 rw [Cj,<-hlen]
 refine⟨.ref s.heap.objs.size,_,I.laid (t':=s.toks) (o:=.lst (qZ xs lo hi)) (fun b ob q=>Heap.get?_push_of_some _ q) (Nat.le_refl _) ?_,rfl,q _ (I.hok.fresh (Nat.le_refl _))⟩
 exact⟨Nat.le_trans (Ii xs lo hi) hz,_,0,(r.drop (HT.G4 xs.length 0 lo)).take (HT.G4 xs.length xs.length hi - HT.G4 xs.length 0 lo),Heap.get?_push_size _ rfl⟩
noncomputable def qX:V->Bool
 | .non=>true
 | .bl _=>true
 | .int _=>true
 | .str _=>true
 | _=>false
noncomputable def Ma:V->V->Bool
 | .non,.non=>true
 | .bl a,.bl b=>a == b
 | .bl a,.int b=>(if a then 1 else 0) == b
 | .int a,.bl b=>a == (if b then 1 else 0)
 | .int a,.int b=>a == b
 | .str a,.str b=>a == b
 | _,_=>false
theorem U6 {A:Around} {s:Shared} {y x:V} {u v:Value} (ry:RelV y u) (rx:RelV x v) (fy:qX y=true) (fx:qX x=true):SeqAt.EqAt A s u v (Ma y x):=by
 cases y with
 | non=>
  cases ry
  cases x with
  | non=>cases rx;exact SeqAt.EqAt.same _
  | bl b=>cases rx;exact SeqAt.EqAt.none_bool b
  | int b=>obtain⟨t,rfl⟩:=rx;exact SeqAt.EqAt.none_int b t
  | str b=>obtain⟨t,rfl⟩:=rx;exact SeqAt.EqAt.none_str b t
  | _=>exact absurd (show false=true from fx) Bool.false_ne_true
 | bl a=>
  cases ry
  cases x with
  | non=>cases rx;exact SeqAt.EqAt.bool_none a
  | bl b=>cases rx;exact SeqAt.EqAt.bool_bool a b
  | int b=>obtain⟨t,rfl⟩:=rx;exact SeqAt.EqAt.bool_int a b t
  | str b=>obtain⟨t,rfl⟩:=rx;exact SeqAt.EqAt.bool_str a b t
  | _=>exact absurd (show false=true from fx) Bool.false_ne_true
 | int a=>
  obtain⟨t',rfl⟩:=ry
  cases x with
  | non=>cases rx;exact SeqAt.EqAt.int_none a t'
  | bl b=>cases rx;exact SeqAt.EqAt.int_bool a t' b
  | int b=>obtain⟨t,rfl⟩:=rx;exact SeqAt.EqAt.int_int a t' b t
  | str b=>obtain⟨t,rfl⟩:=rx;exact SeqAt.EqAt.int_str a t' b t
  | _=>exact absurd (show false=true from fx) Bool.false_ne_true
 | str a=>
  obtain⟨t',rfl⟩:=ry
  cases x with
  | non=>cases rx;exact SeqAt.EqAt.str_none a t'
  | bl b=>cases rx;exact SeqAt.EqAt.str_bool a t' b
  | int b=>obtain⟨t,rfl⟩:=rx;exact SeqAt.EqAt.str_int a t' b t
  | str b=>obtain⟨t,rfl⟩:=rx;exact SeqAt.EqAt.str_str a t' b t
  | _=>exact absurd (show false=true from fx) Bool.false_ne_true
 | _=>exact absurd (show false=true from fy) Bool.false_ne_true
noncomputable def Js (x:V) (u:Value):Bool:=match u with
 | .none=>Ma .non x
 | .bool b=>Ma (.bl b) x
 | .int i _=>Ma (.int i) x
 | .str z _=>Ma (.str z) x
 | _=>false
theorem Pg {x y:V} {u:Value} (r:RelV y u) (f:qX y=true):Js x u=Ma y x:=by
 cases y with
 | non=>cases r;rfl
 | bl b=>cases r;rfl
 | int i=>obtain⟨t,rfl⟩:=r;rfl
 | str z=>obtain⟨t,rfl⟩:=r;rfl
 | _=>exact absurd (show false=true from f) Bool.false_ne_true
theorem vD {x:V}:∀{xs:List V} {us:List Value},Vals xs us->xs.all qX=true->us.any (Js x)=xs.any fun y=>Ma y x
 | _,_,.nil,_=>rfl
 | y:: xs,u:: us,.cons r t,f=>by
  rw [List.all_cons,Bool.and_eq_true] at f
  rw [List.any_cons,List.any_cons,Pg r f.1,vD t f.2]
theorem rB {A:Around} {s:Shared} {x:V} {v:Value} (rx:RelV x v) (fx:qX x=true):∀{xs:List V} {us:List Value},Vals xs us->xs.all qX=true->∀u∈us,SeqAt.EqAt A s u v (Js x u)
 | _,_,.nil,_=>fun u hu=>by cases hu
 | y:: xs,u:: us,.cons r t,f=>fun u' hu=>by
  rw [List.all_cons,Bool.and_eq_true] at f
  rcases List.mem_cons.mp hu with rfl | hu
  ·rw [Pg r f.1];exact U6 r rx f.1 fx
  ·exact rB rx fx t f.2 u' hu
noncomputable def inV (x:V) (xs:List V):Bool:=xs.any fun y=>Ma y x
inductive Vp (K:PySem.W.Frag) (neg:Bool) (x:V) (y:V) (H:Hp) (Q:VK):Prop where
 | mk:∀p xs,y=.ref p->((bT K H p xs∨fY K H p xs))->qX x=true->xs.all qX=true->(Q (.bl (if neg then !inV x xs else inV x xs)) H)->Vp K neg x y H Q
noncomputable def Yg (K:PySem.W.Frag) (neg:Bool):R2:=fun x y H Q=>Vp K neg x y H Q
theorem LR:wK X (compareOp .In) (Yg X.K false):=by
 intro pins s σ H x y v u Q I rx ry h
 obtain⟨p,xs,rfl,hq,fx,fs,q⟩:=h
 cases ry
 rcases hq with hq | hq
 ·obtain⟨its,r,pl,hz⟩:=I.list hq
  refine SeqAt.in_listAt (Js x) pl.isList (fun w hw=>rB rx fx r fs w (by simpa using hw)) ⟨.bl _,H,I,rfl,?_⟩
  rw [show its.toArray.any (Js x)=its.any (Js x) by simp,vD r fs]
  exact q
 ·obtain⟨its,r,pl,hz⟩:=I.tuple hq
  refine SeqAt.in_tupleAt (Js x) pl (fun w hw=>rB rx fx r fs w (by simpa using hw)) ⟨.bl _,H,I,rfl,?_⟩
  rw [show its.toArray.any (Js x)=its.any (Js x) by simp,vD r fs]
  exact q
theorem qt:wK X (compareOp .NotIn) (Yg X.K true):=by
 intro pins s σ H x y v u Q I rx ry h
 obtain⟨p,xs,rfl,hq,fx,fs,q⟩:=h
 cases ry
 rcases hq with hq | hq
 ·obtain⟨its,r,pl,hz⟩:=I.list hq
  refine SeqAt.notIn_listAt (Js x) pl.isList (fun w hw=>rB rx fx r fs w (by simpa using hw)) ⟨.bl _,H,I,rfl,?_⟩
  rw [show its.toArray.any (Js x)=its.any (Js x) by simp,vD r fs]
  exact q
 ·obtain⟨its,r,pl,hz⟩:=I.tuple hq
  refine SeqAt.notIn_tupleAt (Js x) pl (fun w hw=>rB rx fx r fs w (by simpa using hw)) ⟨.bl _,H,I,rfl,?_⟩
  rw [show its.toArray.any (Js x)=its.any (Js x) by simp,vD r fs]
  exact q
theorem qN:jC X (.type "list") (fun xs H Q=>∃p ys,xs=[.ref p]/\(bT X.K H p ys∨fY X.K H p ys)/\∀l,H l=none->Q (.ref l) (upd H l (.lst ys))):=by
 intro pins s σ H xs us Q I r h
 obtain⟨p,ys,rfl,hq,q⟩:=h
 obtain⟨u,rfl,rx⟩:=vals1 r
 cases rx
 have fin:∀(its:List Value),Vals ys its->ys.length<=sizeLine->∀(h':Heap) (c':Nat),(∀b o',s.heap.get? b=some o'->h'.get? b=some o')->
   h'.get? s.heap.objs.size=some { cls:=.type "list",dict:=none,data:=.seq its.toArray c',slots:=#[] }->EP X pins σ Q (.ref s.heap.objs.size) { s with heap:=h' }:=fun its r' hz h' c' kp e=>
  ⟨.ref s.heap.objs.size,_,I.laid (t':=s.toks) kp (Nat.le_refl _) (show fV X.prog X.w _ h' _ (.lst ys) from⟨hz,its,c',r',e⟩),rfl,q _ (I.hok.fresh (Nat.le_refl _))⟩
 rcases hq with hq | hq
 ·obtain⟨its,r',pl,hz⟩:=I.list hq
  have hlen:=r'.length
  obtain⟨o,ho,hc,n,hd⟩:=pl.isList
  exact call_list_seq p (.inl rfl) ho hc hd (fun h' c' kp e=>fin its r' hz h' c' kp e) (by simp only [List.size_toArray] <;> omega)
 ·obtain⟨its,r',pl,hz⟩:=I.tuple hq
  have hlen:=r'.length
  obtain⟨o,ho,hc,n,hd⟩:=pl
  exact call_list_seq p (.inr rfl) ho hc hd (fun h' c' kp e=>fin its r' hz h' c' kp e) (by simp only [List.size_toArray] <;> omega)
theorem Ce:jC X (.type "tuple") (fun xs H Q=>∃p ys,xs=[.ref p]/\((bT X.K H p ys/\∀l,H l=none->Q (.ref l) (upd H l (.tup ys)))∨(fY X.K H p ys/\Q (.ref p) H))):=by
 intro pins s σ H xs us Q I r h
 obtain⟨p,ys,rfl,h⟩:=h
 obtain⟨u,rfl,rx⟩:=vals1 r
 cases rx
 rcases h with ⟨hq,q⟩ | ⟨hq,q⟩
 ·obtain⟨its,r',pl,hz⟩:=I.list hq
  have hlen:=r'.length
  refine call_tuple_list pl.isList (fun h' kp=>?_) (by simp only [List.size_toArray] <;> omega)
  have I1:Inv X pins σ H { s with heap:=h' }:=I.kept (t':=s.toks) kp
  have I2:Inv X pins σ (upd H h'.objs.size (.tup ys)) { s with heap:=h'.push { cls:=.type "tuple",data:=.seq its.toArray } }:=
   I1.laid (t':=s.toks) (fun b o e=>Heap.get?_push_of_some _ e) (Nat.le_refl _) (show fV X.prog X.w _ _ _ (.tup ys) from⟨hz,its,r',IsTup.new _ _⟩)
  exact⟨.ref h'.objs.size,_,I2,rfl,q _ (I1.hok.fresh (Nat.le_refl _))⟩
 ·obtain⟨its,r',pl,hz⟩:=I.tuple hq
  exact call_tuple_same pl ⟨.ref p,H,I,rfl,q⟩
noncomputable def XR (K:PySem.W.Frag) (T:String) (x:V) (H:Hp):Prop:=match x with
 | .str _=>T= "str"
 | .int _=>T= "int"
 | .ref p=>(T= "list" /\∃xs,bT K H p xs)∨(T= "tuple" /\∃o,K.lookup p=some o/\o.cls=.type "tuple" /\o.dict=none)∨
   (T= "dict" /\((∃kvs,H p=some (.dK kvs))∨∃kvs,H p=some (.dT kvs)))∨(T= "set" /\∃S n,H p=some (.set S n))
 | _=>False
theorem Oa {pins:List (Addr×Obj)} {σ:St} {H:Hp} {s:Shared} {T:String} {x:V} {v:Value} (I:Inv X pins σ H s) (r:RelV x v) (ty:XR X.K T x H):
  s.TypeIs v T/\∀a,v=.ref a->∃ob,s.heap.get? a=some ob/\ob.dict=none:=by
 cases x with
 | str z=>
  obtain⟨t,rfl⟩:=r
  cases (show T= "str" from ty)
  exact⟨typeIs_str s z t,fun _ e=>nomatch e⟩
 | int i=>
  obtain⟨t,rfl⟩:=r
  cases (show T= "int" from ty)
  exact⟨typeIs_int s i t,fun _ e=>nomatch e⟩
 | ref p=>
  cases r
  rcases ty with ⟨rfl,xs,hq⟩ | ⟨rfl,o,hk,hc,hd⟩ | ⟨rfl,hk⟩ | ⟨rfl,S,n,hk⟩
  ·obtain⟨its,_,pl,_⟩:=I.list hq
   refine⟨pl.isList.typeIs,fun a e=>?_⟩
   cases e
   obtain⟨o,n,e,c,hd,_⟩:=pl
   exact⟨o,e,hd⟩
  ·refine⟨⟨o,I.kIn p o hk,hc⟩,fun a e=>?_⟩
   cases e
   exact⟨o,I.kIn _ o hk,hd⟩
  ·have z:∃o,s.heap.get? p=some o/\o.ExactDict:=by
    rcases hk with ⟨kvs,hk⟩ | ⟨kvs,hk⟩
    ·obtain⟨_,_,_,_,o,_,_,e,ex,_⟩:=I.hok p _ hk
     exact⟨o,e,ex⟩
    ·obtain⟨_,_,_,_,o,_,_,e,ex,_⟩:=I.hok p _ hk
     exact⟨o,e,ex⟩
   obtain⟨o,e,ex⟩:=z
   refine⟨⟨o,e,ex.1⟩,fun a e2=>?_⟩
   cases e2
   exact⟨o,e,ex.2.1⟩
  ·obtain⟨o,_,_,_,e,ex,_⟩:=I.hok p _ hk
   refine⟨⟨o,e,ex.1⟩,fun a e2=>?_⟩
   cases e2
   exact⟨o,e,ex.2.1⟩
 | _=>exact False.elim ty
noncomputable def Xz (K:PySem.W.Frag) (T:String) (r:V->List V->Hp->VK->Prop) (to:TE):TE:=fun σ H Q=>to σ H fun x H1=>XR K T x H1/\r x [] H1 Q
noncomputable def Yq (K:PySem.W.Frag) (T:String) (r:V->List V->Hp->VK->Prop) (to:TE) (t:TA):TE:=fun σ H Q=>to σ H fun x H1=>XR K T x H1/\t σ H1 fun xs H2=>r x xs H2 Q
variable {o e:Expr} {es:List Expr} {to:TE} {t:TA} {name:Str} {apos cpos:Pos} {T id:String} {r:V->List V->Hp->VK->Prop}
theorem Bo (pa:PlainAttrs T) (slot:Slot T name id) (hty:typeOf (.builtin id)=pure (.type "method_descriptor")) (hm:Xe X id r) (ho:PE X o to)
  (hbase:attributeBase o name X.env (eval o X.env)=eval o X.env:=by rfl) (hline:(apos.endLine == cpos.line)=true:=by rfl):PE X (.Call (.Attribute o name apos) [] [] cpos) (Xz X.K T r to):=by
 intro pins s σ H Q I h
 refine wpAny_Call_method0_late hbase hline (dU (ho pins s σ H _ I h) fun v s1 hpt=>?_)
 obtain⟨x,H1,I1,r1,ty,q1⟩:=hpt
 obtain⟨h1,h2⟩:=Oa I1 r1 ty
 exact⟨T,id,pa,slot,hty,h1,h2,Calls.callWith_builtin rfl (PySem.evalArgs_none (hm pins s1 σ H1 x [] v [] Q I1 r1 .nil q1))⟩
theorem Ag (pa:PlainAttrs T) (slot:Slot T name id) (hty:typeOf (.builtin id)=pure (.type "method_descriptor")) (hm:Xe X id r) (ho:PE X o to) (ha:PA X (e:: es) t)
  (hbase:attributeBase o name X.env (eval o X.env)=eval o X.env:=by rfl)
  (hfew:((backTo cpos (starEach (e:: es) X.env)).all (fun x=>!x.1) && (backToKw cpos (keywordEach [] X.env)).all (fun x=>x.1.isSome)
   && decide ((e:: es).length+([]:List Keyword).length+(if ([]:List Keyword).isEmpty then 0 else 1) <30))=true:=by rfl)
  (hline:(apos.endLine == cpos.line)=true:=by rfl) (hs:starEach (e:: es) X.env=(false,eval e X.env):: starEach es X.env:=by rfl) (hplain:(backTo cpos (starEach es X.env)).any (·.1)=false:=by rfl):
  PE X (.Call (.Attribute o name apos) (e:: es) [] cpos) (Yq X.K T r to t):=by
 intro pins s σ H Q I h
 refine wpAny_Call_method_late hbase hfew hline rfl (dU (ho pins s σ H _ I h) fun v s1 hpt=>?_)
 obtain⟨x,H1,I1,r1,ty,q1⟩:=hpt
 obtain⟨h1,h2⟩:=Oa I1 r1 ty
 refine⟨T,id,pa,slot,hty,h1,h2,?_⟩
 have hA:=ha cpos pins s1 σ H1 _ I1 q1
 rw [hs] at hA ⊢
 refine Calls.callWith_builtin (by show(false || (backTo cpos (starEach es X.env)).any (·.1))=false;rw [hplain] <;> rfl) (Calls.evalArgs_plain ?_)
 exact dU hA fun us s2 ⟨vs,H2,I2,r2,q2⟩=>hm pins s2 σ H2 x vs v us Q I2 r1 r2 q2
end
noncomputable def V8 (X:Cx) (id:String) (r:V->List V->Hp->VK->Prop):Prop:=
 ∀(pins:List (Addr×Obj)) (s:Shared) (σ:St) (H:Hp) (x:V) (xs:List V) (v:Value) (us:List Value) (Q:VK),Inv X pins σ H s->RelV x v->Vals xs us->r x xs H Q->
  wpAny (model X.prog X.w) X.A (call (.builtin id) (v:: us)) (EP X pins σ Q) X.xe s
theorem Vals.one:∀{x:V} {us:List Value},Vals [x] us->∃u,us=[u]/\RelV x u
 | _,_,.cons r .nil=>⟨_,rfl,r⟩
theorem Vals.zero:∀{us:List Value},Vals [] us->us=[]
 | _,.nil=>rfl
theorem Vals.dropLast {xs:List V} {us:List Value} (h:Vals xs us):Vals xs.dropLast us.dropLast:=by
 induction h with
 | nil=>exact .nil
 | cons r t ih=>
  cases t with
  | nil=>exact .nil
  | cons q t'=>exact .cons r ih
theorem Vals.eraseIdx:∀{xs:List V} {us:List Value} (i:Nat),Vals xs us->Vals (xs.eraseIdx i) (us.eraseIdx i)
 | _,_,_,.nil=>.nil
 | _,_,0,.cons _ t=>t
 | _,_,i+1,.cons r t=>.cons r (Vals.eraseIdx i t)
theorem Jo {α:Type} (l:List α):l.eraseIdx (l.length - 1)=l.dropLast:=by
 induction l with
 | nil=>rfl
 | cons a r ih=>
  cases r with
  | nil=>rfl
  | cons b r=>
   have e:(a:: b:: r).length - 1=((b:: r).length - 1)+1:=by
    have h1:(a:: b:: r).length=r.length+2:=rfl
    have h2:(b:: r).length=r.length+1:=rfl
    omega
   rw [e,List.eraseIdx_cons_succ,ih]
   all_goals rfl
theorem DG {α:Type}:∀(l:List α) (i:Nat),(l.eraseIdx i).length<=l.length
 | [],_=>Nat.le_refl _
 | _:: _,0=>Nat.le_succ _
 | _:: r,i+1=>Nat.succ_le_succ (DG r i)
section
variable {X:Cx} {pins:List (Addr×Obj)} {σ:St} {H:Hp} {s:Shared} {l b:Addr} {xs ys zs:List V}
theorem Inv.lset {its its':List Value} {n:Nat} {f:Array Value->Array Value} {t':Nat} (I:Inv X pins σ H s) (hH:H l=some (.lst xs))
  (e:s.heap.get? l=some { cls:=.type "list",data:=.seq its.toArray n }) (hf:f its.toArray=its'.toArray) (hv:Vals ys its') (hz:ys.length<=sizeLine):
  Inv X pins σ (upd H l (.lst ys)) { s with heap:=s.heap.update l (Obj.mapSeq f),toks:=t' }:=by
 have q:=PySem.IsL.update e f
 rw [hf] at q
 refine I.write (x:=l) (e:=l) (by rw [hH];exact trivial) (.inl rfl) (fun b' u hb hu=>(Heap.get?_update_other s.heap (Obj.mapSeq f) (Ne.symm hb)).trans hu) ⟨_,q⟩ ?_
 exact⟨hz,its',_,hv,q⟩
theorem Inv.lnew {its:List Value} {t':Nat} (I:Inv X pins σ H s) (hv:Vals ys its) (hz:ys.length<=sizeLine):
  Inv X pins σ (upd H s.heap.objs.size (.lst ys)) { s with heap:=s.heap.push { cls:=.type "list",data:=.seq its.toArray },toks:=t' }:=
 I.laid (fun _ _ q=>Heap.get?_push_of_some _ q) (Nat.le_refl _) ⟨hz,its,0,hv,Heap.get?_push_size _ rfl⟩
theorem Inv.fresh (I:Inv X pins σ H s):H s.heap.objs.size=none:=I.hok.fresh (Nat.le_refl _)
theorem Inv.lstM (I:Inv X pins σ H s) (hH:H l=some (.lst xs)):xs.length<=sizeLine/\∃(its:List Value) (n:Nat),Vals xs its/\xs.length=its.length/\s.heap.get? l=some { cls:=.type "list",data:=.seq its.toArray n }:=by
 obtain⟨z,its,n,r,e⟩:=I.hok l _ hH
 exact⟨z,its,n,r,r.length,e⟩
theorem Nr {n:Nat} (h:n<=sizeLine):Builtin.List.listTooLong n=false:=by
 unfold Builtin.List.listTooLong
 exact decide_eq_false (by omega)
end
section
variable {X:Cx}
inductive Iw (x:V) (vs:List V) (H:Hp) (Q:VK):Prop where
 | mk:∀l xs y,x=.ref l->vs=[y]->H l=some (.lst xs)->xs.length <sizeLine->Q .non (upd H l (.lst (xs ++ [y])))->Iw x vs H Q
noncomputable def K7:V->List V->Hp->VK->Prop:=fun x vs H Q=>Iw x vs H Q
theorem Lk:V8 X "list.append" K7:=by
 intro pins s σ H x vs v us Q I rx rv h
 obtain⟨l,xs,y,rfl,rfl,hH,hz,q⟩:=h
 cases rx
 obtain⟨u,rfl,ru⟩:=rv.one
 obtain⟨z,its,n,r,hl,e⟩:=I.lstM hH
 refine call_meets F.slot_list_append ⟨_,e,rfl⟩ F.entry_list_append (F.args_list_append_2 _ _) (PySem.list_append l its.toArray n u (by rw [List.size_toArray];omega)) ⟨e,?_⟩
 refine⟨.non,_,I.lset (its':=its ++ [u]) hH e (by simp) (r.append (.cons ru .nil)) ?_,rfl,q⟩
 rw [List.length_append,List.length_singleton]
 omega
inductive Hf (x:V) (vs:List V) (H:Hp) (Q:VK):Prop where
 | mk:∀l b xs zs,x=.ref l->vs=[.ref b]->H l=some (.lst xs)->H b=some (.lst zs)->xs.length+zs.length<=sizeLine->Q .non (upd H l (.lst (xs ++ zs)))->Hf x vs H Q
noncomputable def Rm:V->List V->Hp->VK->Prop:=fun x vs H Q=>Hf x vs H Q
theorem Dm:V8 X "list.extend" Rm:=by
 intro pins s σ H x vs v us Q I rx rv h
 obtain⟨l,b,xs,zs,rfl,rfl,hH,hB,hz,q⟩:=h
 cases rx
 obtain⟨u,rfl,ru⟩:=rv.one
 cases ru
 obtain⟨z,its,n,r,hl,e⟩:=I.lstM hH
 obtain⟨z2,its2,n2,r2,hl2,e2⟩:=I.lstM hB
 have hsz:its.toArray.size+its2.toArray.size<=sizeLine:=by rw [List.size_toArray,List.size_toArray];omega
 have hlong:¬(!its.toArray.isEmpty && Builtin.List.listTooLong (its.toArray.size+its2.toArray.size))=true:=by
  rw [Nr hsz,Bool.and_false]
  exact Bool.false_ne_true
 refine call_meets F.slot_list_extend ⟨_,e,rfl⟩ F.entry_list_extend (F.args_list_extend_2 _ _)
  (AutoSeq1.list_extend_list_list_0 l its.toArray n b its2.toArray n2 hlong (by rw [List.size_toArray];omega) (by omega)) ⟨e,e2,?_⟩
 refine⟨.non,_,I.lset (its':=its ++ its2) hH e (by simp) (r.append r2) ?_,rfl,q⟩
 rw [List.length_append]
 omega
inductive RX (x:V) (vs:List V) (H:Hp) (Q:VK):Prop where
 | mk:∀l xs y,x=.ref l->vs=[]->H l=some (.lst xs)->xs[xs.length - 1]?=some y->Q y (upd H l (.lst xs.dropLast))->RX x vs H Q
noncomputable def XQ:V->List V->Hp->VK->Prop:=fun x vs H Q=>RX x vs H Q
theorem JQ:V8 X "list.pop" XQ:=by
 intro pins s σ H x vs v us Q I rx rv h
 obtain⟨l,xs,y,rfl,rfl,hH,hy,q⟩:=h
 cases rx
 have hus:=rv.zero
 subst hus
 obtain⟨z,its,n,r,hl,e⟩:=I.lstM hH
 obtain⟨u,hu,ru⟩:=r.get hy
 have hy':its.toArray[its.toArray.size - 1]?=some u:=by
  show its.toArray[its.length - 1]?=some u
  rw [<-Array.getElem?_toList,<-hl]
  exact hu
 refine call_meets F.slot_list_pop ⟨_,e,rfl⟩ F.entry_list_pop (F.args_list_pop_1 _) (MeetsSeq.list_pop_last l its.toArray n u hy' (by rw [List.size_toArray];omega)) ⟨e,?_⟩
 refine⟨y,_,I.lset (its':=its.dropLast) hH e ?_ r.dropLast ?_,ru,q⟩
 ·show its.toArray.eraseIdxIfInBounds (its.toArray.size - 1)=its.dropLast.toArray
  rw [List.size_toArray,List.eraseIdxIfInBounds_toArray,Jo]
 ·rw [List.length_dropLast]
  omega
inductive Lb (x:V) (vs:List V) (H:Hp) (Q:VK):Prop where
 | mk:∀l xs i k y,x=.ref l->vs=[.int i]->H l=some (.lst xs)-> -(2 ^ 63)<=i->i <2 ^ 63->seqIndex? i xs.length=some k->xs[k]?=some y->Q y (upd H l (.lst (xs.eraseIdx k)))->Lb x vs H Q
noncomputable def Uq:V->List V->Hp->VK->Prop:=fun x vs H Q=>Lb x vs H Q
theorem Bl:V8 X "list.pop" Uq:=by
 intro pins s σ H x vs v us Q I rx rv h
 obtain⟨l,xs,i,k,y,rfl,rfl,hH,h1,h2,hk,hy,q⟩:=h
 cases rx
 obtain⟨u,rfl,ru⟩:=rv.one
 obtain⟨t,rfl⟩:=ru
 obtain⟨z,its,n,r,hl,e⟩:=I.lstM hH
 obtain⟨w,hw,rw'⟩:=r.get hy
 refine call_meets F.slot_list_pop ⟨_,e,rfl⟩ F.entry_list_pop (F.args_list_pop_2 _ _)
  (MeetsSeq.list_pop_at l its.toArray n i t k w (fitsIndex_both h1 h2) (by rw [List.size_toArray,<-hl];exact hk) (by rw [<-Array.getElem?_toList];exact hw) (by rw [List.size_toArray];omega)) ⟨e,?_⟩
 refine⟨y,_,I.lset (its':=its.eraseIdx k) hH e ?_ (r.eraseIdx k) ?_,rw',q⟩
 ·show its.toArray.eraseIdxIfInBounds k=(its.eraseIdx k).toArray
  rw [List.eraseIdxIfInBounds_toArray]
 ·have:=DG xs k
  omega
inductive KZ (x:V) (vs:List V) (H:Hp) (Q:VK):Prop where
 | mk:∀l xs,x=.ref l->vs=[]->H l=some (.lst xs)->Q .non (upd H l (.lst []))->KZ x vs H Q
noncomputable def Vf:V->List V->Hp->VK->Prop:=fun x vs H Q=>KZ x vs H Q
theorem N6:V8 X "list.clear" Vf:=by
 intro pins s σ H x vs v us Q I rx rv h
 obtain⟨l,xs,rfl,rfl,hH,q⟩:=h
 cases rx
 have hus:=rv.zero
 subst hus
 obtain⟨z,its,n,r,hl,e⟩:=I.lstM hH
 refine call_meets F.slot_list_clear ⟨_,e,rfl⟩ F.entry_list_clear (F.args_list_clear_1 _) (AutoSeq1.list_clear_list_0 l its.toArray n (by rw [List.size_toArray];omega)) ⟨e,?_⟩
 exact⟨.non,_,I.lset (its':=[]) (ys:=[]) hH e rfl .nil (Nat.zero_le _),rfl,q⟩
inductive RV (x:V) (y:V) (H:Hp) (Q:VK):Prop where
 | mk:∀l b xs zs,x=.ref l->y=.ref b->H l=some (.lst xs)->H b=some (.lst zs)->xs.length+zs.length<=sizeLine->(∀p,H p=none->Q (.ref p) (upd H p (.lst (xs ++ zs))))->RV x y H Q
noncomputable def Xn:R2:=fun x y H Q=>RV x y H Q
theorem JH:wK X (binaryOp .Add) Xn:=by
 intro pins s σ H x y v u Q I rx ry h
 obtain⟨l,b,xs,zs,rfl,rfl,hH,hB,hz,q⟩:=h
 cases rx
 cases ry
 obtain⟨z,its,n,r,hl,e⟩:=I.lstM hH
 obtain⟨z2,its2,n2,r2,hl2,e2⟩:=I.lstM hB
 refine PySem.P.add_list e e2 ?_ (by rw [List.size_toArray,List.size_toArray];omega)
 have ea:its.toArray ++ its2.toArray=(its ++ its2).toArray:=by simp
 rw [ea]
 exact⟨.ref _,_,I.lnew (t':=s.toks) (r.append r2) (by rw [List.length_append];omega),rfl,q _ I.fresh⟩
end
section
variable {prog:Program} {w:World} {A:Around} {E:Value->Shared->Prop} {s:Shared}
end
section
variable {X:Cx}
end
end L2
namespace Att
open PySem PySem.W PySem.Calls PyProof.Rows
theorem zr {P:Params} {h:Heap}:∀(ns:List Int) (vs:List Value),WellAll P h vs (ns.map WData.int)->IntsAre vs ns:=by
 intro ns
 induction ns with
 | nil=>
  intro vs w
  rw [List.map_nil] at w
  cases w
  exact .nil
 | cons n ns ih=>
  intro vs w
  rw [List.map_cons] at w
  cases w with
  | cons a b=>
   cases a
   exact .cons _ _ (ih _ b)
theorem Mq {l:OpenLaw} {n:Nat} (hn:l.most=some n) {P:Params} {h:Heap} {args:List WData} {vals:List Value}
  (hpre:l.row.toRowW.claim.pre args=true) (hwl:WellAll P h vals args):
  ∃a vs ns,vals=[Value.ref a]/\args=[WData.list (ns.map WData.int)]/\h.get? a=some { cls:=.type "list",data:=.seq vs.toArray }/\IntsAre vs ns/\ns.length<=n:=by
 have hsh:WShape.hasAll [] args [.list .int]=true:=(pre_splitW hpre).1
 have hc:l.pre.holds [] { args:=args }=true:=(pre_splitW hpre).2
 obtain⟨d,r,rfl,h1,h2⟩:=hasAllW_cons hsh
 obtain rfl:=hasAllW_nil h2
 obtain⟨xs,rfl,h3⟩:=hasW_list h1
 obtain⟨ns,rfl⟩:=items_int h3
 have hlen:ns.length<=n:=by
  unfold OpenLaw.pre at hc
  have h4:(WTm.not (.lt (.lit (.int (n:Int))) (.len (.arg 0)))).holds [] { args:=[.list (ns.map .int)] }=true:=by
   have h4:=(holds_andW hc).1
   rw [hn] at h4
   exact h4
  have h5:=condW_of h4 (w_not (w_lt w_lit (w_len_list (w_arg rfl))))
  rw [List.length_map] at h5
  refine Nat.le_of_not_lt fun q=>?_
  have q':(n:Int) <((ns.length:Nat):Int):=by omega
  first
   | (rw [decide_eq_true q'] at h5;exact absurd h5 (by decide))
   | (simp at h5;omega)
 cases hwl with
 | cons w1 w2=>
  cases w2
  cases w1 with
  | list ho hall=>exact⟨_,_,ns,rfl,rfl,ho,zr ns _ hall,hlen⟩
theorem Lx (l:OpenLaw) (args:List WData):l.row.toRowW.claim.post args (.bool true) args=true:=
 postW_of (r:=l.row.toRowW) (X:=(true == true))
  (show WShape.has [] (.bool true) .bool=true by first | rfl | decide | simp [WShape.has,WShape.arms,WShape.armsAll])
  (show(WTm.eq .res (.lit (.bool true))).value [] { args:=args,res:=some (.bool true),after:=args }=some (.bool (true == true)) from w_eq_bool (w_res rfl) w_lit) rfl
theorem HQ {l:OpenLaw} {n:Nat} {q:Program} {loose:List Str} {XP:(Str->Option Value)->Heap->Prop} {YP:World->Heap->Prop} {d:DefRec}
  (hn:l.most=some n) (hdf:d.params.defaults=[])
  (call:∀(w:World) (s₀ s₁:Shared) (mg mb:Str->Option Value) (fa:Addr) (o:Obj) (pm cd doc:Value) (a:Addr) (vs:List Value) (ns:List Int),
   Ground q loose [] XP w s₀ mg mb s₁.heap->YP w s₁.heap->
   s₁.heap.get? fa=some o->o.data=.func (docDef d.name d.params d.body d.scope pm cd doc)->s₁.heap.CodeRec cd d.name->mg d.name=some (.ref fa)->
   s₁.heap.get? a=some { cls:=.type "list",data:=.seq vs.toArray }->IntsAre vs ns->ns.length<=n->s₁.gens= #[]->
   codeAny (model l.prog w) callerA (.call (.ref fa) ⟨[.ref a],[]⟩) (fun r s'=>r=.ok (.ret (.bool true))/\OldK s₁.heap s'.heap/\s'.os=s₁.os/\AllBare s'.gens) s₁):
  WalkO q loose XP YP l.row.toRowW d [] (fun f vs=>PySem.call f vs):=by
 intro w s₀ s₁ mg mb G Y fa o pm cd doc dV kV ho hd hcd hD hmg hg args vals as hpre hlay hrd hwl hlo
 obtain rfl:dV=.none:=Dflts.none hD hdf
 obtain rfl:kV=.none:=Dflts.noKw hD
 obtain⟨a,vs,ns,rfl,rfl,hobj,hints,hlen⟩:=Mq hn hpre hwl
 refine enter_call (codeAny_mono (call w s₀ s₁ mg mb fa o pm cd doc a vs ns G Y ho (fd_plain hd) hcd hmg hobj hints hlen hg) fun r s' hq=>?_)
 obtain⟨rfl,h2,h3,h4⟩:=hq
 exact⟨.inl ⟨.bool true,.bool true,[],rfl,fun _=>rfl,.bool true,Lx l _,fun _=>⟨List.Pairwise.nil,fun _ hm=>(nomatch hm)⟩⟩,h2,h3,h4⟩
section
variable {prog:Program} {w:World} {A:Around} {E:Value->Shared->Prop} {s:Shared} {K:Frag}
end
end Att
namespace L2
open PySem PySem.Spec PyProof.Rows
theorem Ea:∀{vs:List Value} {ns:List Int},IntsAre vs ns->Vals (ns.map V.int) vs
 | _,_,.nil=>.nil
 | _,_,.cons n t h=>.cons ⟨t,rfl⟩ (Ea h)
noncomputable def Only (H:Hp):Prop:=∀b,H b=none∨∃o xs,H b=some (.frz o (.lst xs))
theorem Ny {P:Program} {w:World} {K:PySem.W.Frag} {mg mb:Str->Option Value} {CX:Dz} {k:Nat} {fa a:Addr} {fd:FuncData} {x:Str} {sp:Sp} {s₁:Shared} {vs:List Value} {ns:List Int}
  (KX:K.In s₁.heap) (hns:s₁.heap.Ns mainGlobals mg) (hb:s₁.heap.Ns builtinsNs mb) (hbb:∀x:Str,x≠ "__name__" ->mb x=bootBuiltins x) (hlim:s₁.heap.NoLimit) (hg:s₁.gens= #[])
  (ha:s₁.heap.get? a=some { cls:=.type "list",data:=.seq vs.toArray }) (hi:IntsAre vs ns) (hl:ns.length<=sizeLine) (hr:iY k callerA)
  (F:∀base:Heap,K.In base->base.Ns mainGlobals mg->iW P w K mg base CX k fa fd [x] sp) (hbind:∀(s:Shared) (u:Value),BindsTo s fd ⟨[u],[]⟩ [(x,u)])
  (hsp:∀H:Hp,Only H->bT K H a (ns.map V.int)->sp [.ref a] H (fun v _=>v=.bl true) fun _ _ _=>False)
  (hCX:∀H e s',CX [] H s₁ (fun _ _ _=>False) e s'->False):
  codeAny (model P w) callerA (.call (.ref fa) ⟨[.ref a],[]⟩) (fun r s'=>r=.ok (.ret (.bool true))/\OldK s₁.heap s'.heap/\s'.os=s₁.os/\AllBare s'.gens) s₁:=by
 have rv:=Ea hi
 have lenV:=hi.length
 have core:∀H:Hp,Only H->bT K H a (ns.map V.int)->ut P w H s₁.heap->(∀b,H b≠none->b=a)->(H a≠none->K.lookup a=none)->
   codeAny (model P w) callerA (.call (.ref fa) ⟨[.ref a],[]⟩) (fun r s'=>r=.ok (.ret (.bool true))/\OldK s₁.heap s'.heap/\s'.os=s₁.os/\AllBare s'.gens) s₁:=by
  intro H hO hS hok hA hK
  have base_of:∀{b:Addr} {o:Obj},s₁.heap.get? b=some o->H b=none->(Fi s₁.heap H).get? b=some o:=fun e n=>Nt e n
  have noA:∀{b:Addr} {o:Obj} {es:Array DictEntry} {ep:Nat},s₁.heap.get? b=some o->o.data=.dict es ep->H b=none:=fun {b o es ep} e d=>by
   cases q:H b with
   | none=>rfl
   | some u=>
    have e':b=a:=hA b (by rw [q];simp)
    subst e'
    rw [ha] at e;cases e
    have d':Data.seq vs.toArray _=Data.dict es ep:=d
    cases d'
  have M7:∀{b:Addr} {m:Str->Option Value},s₁.heap.Ns b m->(Fi s₁.heap H).Ns b m:=fun {b m} ⟨o,es,ep,e,d,r⟩=>⟨o,es,ep,base_of e (noA e d),d,r⟩
  have hKb:K.In (Fi s₁.heap H):=fun b o e=>base_of (KX b o e) (by
   cases q:H b with
   | none=>rfl
   | some u=>
    have e':b=a:=hA b (by rw [q];simp)
    subst e'
    rw [hK (by rw [q];simp)] at e;cases e)
  have hM:Mod K mg (Fi s₁.heap H):=⟨hKb,M7 hns,⟨mb,M7 hb,hbb⟩,let ⟨mc,h1,h2⟩:=hlim;⟨mc,M7 h1,h2⟩⟩
  have e0:JG P w K mg (Fi s₁.heap H) callerA [] s₁ H:=⟨rfl,hM,fun b o e=>QS e,Nat.le_of_eq (MP _ _),trivial,fun b hb=>absurd (show b∈([]:List Addr) from hb) (by simp),hok,.of_eq hg⟩
  refine codeAny_mono ((F _ hKb (M7 hns)).run callerA [] s₁ H ⟨[.ref a],[]⟩ [.ref a] [.ref a] _ _ hr e0 (hbind s₁ (.ref a)) (.cons rfl .nil) (hsp H hO hS)) fun r s' h=>?_
  cases r with
  | error e=>exact(hCX H e s' h).elim
  | ok fl=>
   cases fl with
   | next=>exact False.elim h
   | brk=>exact False.elim h
   | cont=>exact False.elim h
   | ret u=>
    obtain⟨v,H',os,bare,un,hok',r',q⟩:=h
    have q':v=.bl true:=q
    subst q'
    obtain rfl:u=Value.bool true:=r'
    refine⟨rfl,OldK.of_keep fun b o e=>?_,os,bare⟩
    cases q:H b with
    | none=>exact un.keep b o e q (by intro z;exact absurd (show b∈([]:List Addr) from z) (by simp)) (by simp)
    | some u=>
     rcases hO b with z | ⟨ob,xs,z⟩
     ·rw [q] at z;cases z
     ·have z2:=un.frzs b ob _ z
      obtain⟨e1,_⟩:=hok b _ z
      obtain⟨e2,_⟩:=hok' b _ z2
      rw [e] at e1;cases e1
      exact e2
 cases hk:K.lookup a with
 | some o=>
  have e:=KX a o hk
  rw [ha] at e
  cases e
  refine core (fun _=>none) (fun _=>.inl rfl) (.inr ⟨_,vs.toArray,_,hk,rfl,rfl,rfl,by rw [List.size_toArray,lenV];exact hl,by simpa using rv⟩) (fun b u z=>by have z':(none:Option HO)=some u:=z;cases z') (fun b z=>absurd rfl z) fun z=>absurd rfl z
 | none=>
  refine core (fun b=>if b=a then some (.frz { cls:=.type "list",data:=.seq vs.toArray } (.lst (ns.map V.int))) else none) (fun b=>?_) (.inl (.inr ⟨{ cls:=.type "list",data:=.seq vs.toArray },if_pos rfl⟩)) (fun b u z=>?_) (fun b z=>?_) fun _=>hk
  ·by_cases hb:b=a
   ·exact .inr ⟨_,_,if_pos hb⟩
   ·exact .inl (if_neg hb)
  ·by_cases hb:b=a
   ·have z':=(if_pos hb).symm.trans z
    cases z'
    subst hb
    exact⟨ha,by rw [List.length_map];exact hl,vs,_,rv,ha⟩
   ·have z':=(if_neg hb).symm.trans z
    cases z'
  ·by_cases hb:b=a
   ·exact hb
   ·exact absurd (if_neg hb) z
theorem RD {l:PySem.W.OpenLaw} {n k:Nat} {q:Program} {loose:List Str} {XP:(Str->Option Value)->Heap->Prop} {YP:World->Heap->Prop} {d:DefRec} {K:Params->PySem.W.Frag} {CX:World->Dz} {sp:World->Sp} {x:Str}
  (hn:l.most=some n) (hn2:n<=sizeLine) (hdf:d.params.defaults=[]) (hr:iY k callerA)
  (hY:∀(w:World) (h:Heap),YP w h->(K w.params).In h)
  (F:∀(w:World) (mg:Str->Option Value) (fa:Addr) (h:Heap),(K w.params).In h->h.Ns mainGlobals mg->mg d.name=some (.ref fa)->
   ∃fd:FuncData,(∀(s:Shared) (u:Value),BindsTo s fd ⟨[u],[]⟩ [(x,u)])/\
    ∀base:Heap,(K w.params).In base->base.Ns mainGlobals mg->iW l.prog w (K w.params) mg base (CX w) k fa fd [x] (sp w))
  (hsp:∀(w:World) (H:Hp) (a:Addr) (ns:List Int),ns.length<=n->Only H->bT (K w.params) H a (ns.map V.int)->sp w [.ref a] H (fun v _=>v=.bl true) fun _ _ _=>False)
  (hCX:∀(w:World) (H:Hp) (s:Shared) (e:Value) (s':Shared),CX w [] H s (fun _ _ _=>False) e s'->False):
  PySem.W.WalkO q loose XP YP l.row.toRowW d [] (fun f vs=>PySem.call f vs):=by
 refine Att.HQ hn hdf fun w s₀ s₁ mg mb fa o pm cd doc a vs ns G Y ho hd hcd hmg hobj hints hlen hg=>?_
 have KX:=hY w _ Y
 obtain⟨fd,hb,hF⟩:=F w mg fa _ KX G.T.g hmg
 exact Ny KX G.T.g G.T.b G.T.builtins G.T.nolimit hg hobj hints (Nat.le_trans hlen hn2) hr hF hb (fun H hO hS=>hsp w H a ns hlen hO hS) fun H e s'=>hCX w H s₁ e s'
noncomputable def inClass (s:Stmt) (j:Nat):Stmt:=match s with
 | .ClassDef _ _ _ body _ _ _ _ _ _ _=>body.getD j (.Pass ⟨0,0,0,0⟩)
 | _=>.Pass ⟨0,0,0,0⟩
noncomputable def iM (s:Stmt):Arguments:=match s with
 | .FunctionDef _ a _ _ _ _ _ _ _ _=>a
 | _=>{ posonlyargs:=[],args:=[],vararg:=none,kwonlyargs:=[],kw_defaults:=[],kwarg:=none,defaults:=[] }
noncomputable def gO (s:Stmt):List Stmt:=match s with
 | .FunctionDef _ _ b _ _ _ _ _ _ _=>b
 | _=>[]
noncomputable def bz (s:Stmt):Scope:=match s with
 | .FunctionDef _ _ _ _ _ _ sc _ _ _=>sc
 | _=>{ kind:=.function,names:=[],isGenerator:=false,isCoroutine:=false }
noncomputable abbrev Cm:Dz:=fun _ _ _ _ _ _=>False
noncomputable abbrev E0:XK:=fun _ _ _=>False
theorem jd {X:Cx}:pF Cm X E0:=fun _ _ _ _ _ _ _ h=>h.elim
structure R4 (K:PySem.W.Frag) (x qual:Str) (st:Stmt) (f:Addr) (fd:FuncData):Prop where
 ex:∃(oc:Value) (od:Option Addr) (kV doc pm:Value) (an:Option Addr) (cdv ct:Value) (osl:Array (Option Value)),
  fd=PySem.W.fnOf x qual (iM st) (gO st) (bz st) .none kV doc pm an cdv ct/\K.lookup f=some ⟨oc,od,.func fd,osl⟩/\PySem.W.codeIn K cdv qual=true
 kp:PySem.W.keepIn K (.ref f)=true
section
variable {P:Program} {w:World} {K:PySem.W.Frag} {mg:Str->Option Value} {base:Heap}
theorem R4.ok {x qual:Str} {st:Stmt} {f:Addr} {fd:FuncData} {N ps:List Str} {k:Nat} {sp:Sp} (F:R4 K x qual st f fd) (S:gP N ps (bz st)) (len:∀vs H Q E,sp vs H Q E->vs.length=ps.length)
  (hbody:∀(cdv:Value) (A:Around) (outer:List Env) (s:Shared) (H:Hp) (vs:List V) (Q:VK) (E:XK),iY k (A.deeper (envOfC qual (bz st) s.heap.objs.size f cdv))->sp vs H Q E->
   ∃t,LQ (Mp Cm P w K mg base N qual (bz st) f cdv A outer s H E).nox (gO st) t/\t { nx:=fun _ H'=>Q .non H',rt:=Q } (start N vs) H):iW P w K mg base Cm (k+1) f fd ps sp:=by
 obtain⟨oc,od,kV,doc,pm,an,cdv,ct,osl,rfl,lk,hcd⟩:=F.ex
 refine Wt lk hcd S len fun A outer s H vs Q E hr hsp=>?_
 obtain⟨t,h,q⟩:=hbody cdv A outer s H vs Q E hr hsp
 exact⟨t,h.nox,q⟩
theorem R4.binds {x qual:Str} {st:Stmt} {f:Addr} {fd:FuncData} {ps:List Str} (F:R4 K x qual st f fd)
  (h:∀(kV doc pm:Value) (an:Option Addr) (cdv ct:Value) (us:List Value),us.length=ps.length->bindArgs (PySem.W.fnOf x qual (iM st) (gO st) (bz st) .none kV doc pm an cdv ct) ⟨us,[]⟩=pure (ps.zip us)):Binds K fd ps []:=by
 obtain⟨oc,od,kV,doc,pm,an,cdv,ct,osl,rfl,lk,hcd⟩:=F.ex
 exact .all (h kV doc pm an cdv ct)
theorem TJ {x qual:Str} {st:Stmt} {f:Addr} {oc:Value} {od an:Option Addr} {osl:Array (Option Value)} {kV doc pm cdv ct:Value} (l:K.lookup f=some ⟨oc,od,.func (PySem.W.fnOf x qual (iM st) (gO st) (bz st) .none kV doc pm an cdv ct),osl⟩)
  (c:PySem.W.codeIn K cdv qual=true) (k:PySem.W.keepIn K (.ref f)=true):R4 K x qual st f (PySem.W.fnOf x qual (iM st) (gO st) (bz st) .none kV doc pm an cdv ct):=⟨⟨oc,od,kV,doc,pm,an,cdv,ct,osl,rfl,l,c⟩,k⟩
end
section
variable {X:Cx}
theorem pv (i:Nat) {x:Str} {pos:Pos} (hN:X.N[i]?=some x:=by rfl) (hv:WY X.env.scope x:=by first | exact Or.inl rfl | exact Or.inr (Or.inl rfl) | exact Or.inr (Or.inr rfl)) (hd:(x == ("__debug__" :Str))=false:=by decide)
  (hcd:(x == ("__classdict__" :Str))=false:=by decide):PE X (.Name x pos) (zx i):=Vc hN hv hd hcd
end
theorem dI {A B:Prop} (h:B):if false=true then A else B:=by
 rw [if_neg Bool.false_ne_true]
 exact h
theorem ji {A B:Prop} (h:A):if true=true then A else B:=by
 rw [if_pos rfl]
 exact h
theorem jt {c A B:Prop} [Decidable c] (h1:c->A) (h2:¬c->B):if c then A else B:=by
 by_cases h:c
 ·rw [if_pos h]
  exact h1 h
 ·rw [if_neg h]
  exact h2 h
theorem WP {c A B:Prop} [Decidable c] (hc:c) (h:B):if (!decide c)=true then A else B:=by
 rw [decide_eq_true hc]
 exact dI h
noncomputable def aM (H H':Hp):Prop:=∀b o,H b=some o->H' b=some o
theorem aM.refl (H:Hp):aM H H:=fun _ _ h=>h
theorem aM.trans {H H1 H2:Hp} (a:aM H H1) (b:aM H1 H2):aM H H2:=fun c o h=>b c o (a c o h)
theorem aM.free {H H':Hp} (e:aM H H') {l:Addr} (h:H' l=Option.none):H l=Option.none:=by
 cases q:H l with
 | none=>rfl
 | some o=>
  rw [e l o q] at h
  cases h
theorem aM.seq {K:PySem.W.Frag} {H H':Hp} {a:Addr} {xs:List V} (e:aM H H') (h:bT K H a xs):bT K H' a xs:=by
 rcases h with (h | ⟨o,h⟩) | h
 ·exact .inl (.inl (e _ _ h))
 ·exact .inl (.inr ⟨o,e _ _ h⟩)
 ·exact .inr h
end L2
set_option maxHeartbeats 4000000
namespace L2
open PySem PySem.Spec PyProof.Rows
theorem LC {P:Program} {w:World} {H:Hp} {h:Heap} {a:Addr} {o:HO} (x:ut P w H h) (hn:H a=none) (new:fV P w (upd H a o) h a o):ut P w (upd H a o) h:=fun b u e=>by
 by_cases hb:b=a
 ·subst hb;rw [au] at e;cases e;exact new
 ·rw [aG hb] at e
  exact(x b u e).stay (fun c v _ q=>q) (fun c q=>by rw [aG (aF q hn)];exact q) fun c xs q=>by rw [aG (aF q hn)];exact q
theorem BJ {α β:Type} {f:α->β->Sem (ForInStep β)} (g:α->β->β):∀(l:List α) (c:β),(∀x∈l,∀c,f x c=pure (.yield (g x c)))->forIn l c f=pure (l.foldl (fun c x=>g x c) c)
 | [],_,_=>rfl
 | x:: l,c,h=>by
  rw [List.forIn_cons,h x List.mem_cons_self,pure_bind]
  exact BJ g l (g x c) fun y hy=>h y (List.mem_cons_of_mem _ hy)
noncomputable def uC (env:Env) (x:Str×NameKind) (cs:List (Str×Addr)):List (Str×Addr):=
 if x.2=.free then(match env.cells.lookup x.1 with | some c=>(x.1,c):: cs | none=>cs) else cs
noncomputable def clos (env:Env) (l:List (Str×NameKind)) (c:List (Str×Addr)):List (Str×Addr):=l.foldl (fun c x=>uC env x c) c
theorem kO {env:Env} {scope:Scope} (h:∀y∈scope.names,y.2=.free->∃c,env.cells.lookup y.1=some c):closureFor scope env=pure (clos env scope.names []):=by
 simp only [closureFor]
 rw [BJ (uC env) scope.names [] fun x hx c=>?_]
 ·rfl
 ·obtain⟨n,k⟩:=x
  by_cases hk:k=.free
  ·subst hk
   obtain⟨a,ha⟩:=h _ hx rfl
   have ha':env.cells.lookup n=some a:=ha
   simp [cellOf,ha',uC]
  ·have:(k == NameKind.free)=false:=by simpa using hk
   simp [this,uC,hk]
theorem Ik {env:Env}:∀(l:List (Str×NameKind)) (c:List (Str×Addr)),(∀y a,c.lookup y=some a->env.cells.lookup y=some a)->∀y a,(clos env l c).lookup y=some a->env.cells.lookup y=some a
 | [],_,h=>h
 | x:: l,c,h=>by
  refine Ik l (uC env x c) fun y a e=>?_
  unfold uC at e
  by_cases hk:x.2=.free
  ·rw [if_pos hk] at e
   cases q:env.cells.lookup x.1 with
   | none=>rw [q] at e;exact h y a e
   | some b=>
    rw [q] at e
    by_cases hy:(y == x.1)=true
    ·have:y=x.1:=by simpa using hy
     subst this
     have e':((x.1,b):: c).lookup x.1=some a:=e
     simp [List.lookup_cons] at e'
     rw [q,e']
    ·have hy':(y == x.1)=false:=by simpa using hy
     have e':((x.1,b):: c).lookup y=some a:=e
     rw [List.lookup_cons,hy'] at e'
     exact h y a e'
  ·rw [if_neg hk] at e;exact h y a e
theorem BR {env:Env}:∀(l:List (Str×NameKind)) (c:List (Str×Addr)) (y:Str),((∃a,c.lookup y=some a)∨∃k∈l,k.1=y/\k.2=.free/\∃a,env.cells.lookup y=some a)->∃a,(clos env l c).lookup y=some a
 | [],_,_,h=>by
  rcases h with h | ⟨k,hk,_⟩
  ·exact h
  ·cases hk
 | x:: l,c,y,h=>by
  refine BR l (uC env x c) y ?_
  have up:(∃a,c.lookup y=some a)->∃a,(uC env x c).lookup y=some a:=fun⟨a,e⟩=>by
   unfold uC
   split
   ·split
    ·rename_i b q
     by_cases hy:(y == x.1)=true
     ·exact⟨b,by rw [List.lookup_cons,hy]⟩
     ·have hy':(y == x.1)=false:=by simpa using hy
      exact⟨a,by rw [List.lookup_cons,hy'];exact e⟩
    ·exact⟨a,e⟩
   ·exact⟨a,e⟩
  rcases h with h | ⟨k,hk,h1,h2,a,h3⟩
  ·exact .inl (up h)
  ·rcases List.mem_cons.mp hk with e | hk
   ·subst e
    left
    unfold uC
    rw [if_pos h2,h1,h3]
    exact⟨a,by simp [List.lookup_cons]⟩
   ·exact .inr ⟨k,hk,h1,h2,a,h3⟩
theorem rT (scope:Scope) (env:Env) (y:Str):(relabel scope env).names.lookup y=(scope.names.lookup y).map fun k=>if (k == NameKind.free && env.scope.kind == .function && env.kindOf y == some .cell)=true then .cell else k:=by
 show(scope.names.map _).lookup y=_
 induction scope.names with
 | nil=>rfl
 | cons p l ih=>
  obtain⟨n,k⟩:=p
  rw [List.map_cons]
  show List.lookup y ((if (k == NameKind.free && env.scope.kind == .function && env.kindOf n == some .cell)=true then(n,NameKind.cell) else(n,k)):: _)=_
  by_cases hy:(y == n)=true
  ·have:y=n:=by simpa using hy
   subst this
   by_cases hc:(k == NameKind.free && env.scope.kind == .function && env.kindOf y == some .cell)=true
   ·rw [if_pos hc]
    simp only [List.lookup_cons,beq_self_eq_true,Option.map_some]
    rw [if_pos hc]
   ·rw [if_neg hc]
    simp only [List.lookup_cons,beq_self_eq_true,Option.map_some]
    rw [if_neg hc]
  ·have hy':(y == n)=false:=by simpa using hy
   by_cases hc:(k == NameKind.free && env.scope.kind == .function && env.kindOf n == some .cell)=true
   ·rw [if_pos hc]
    simp only [List.lookup_cons,hy']
    exact ih
   ·rw [if_neg hc]
    simp only [List.lookup_cons,hy']
    exact ih
noncomputable def dG (N:List Str) (js:List Nat):List Str:=js.map fun j=>(N[j]?).getD Str.empty
noncomputable def dX (σ:St) (js:List Nat):St:=js.map fun j=>(σ[j]?).join
noncomputable def xQ (X:Cx) (scope:Scope) (x:Str) (js:List Nat) (cl:List (Str×Addr)) (C:Addr) (s:Shared) (H:Hp) (ex:List Addr):Cx where
 prog:=X.prog
 w:=X.w
 K:=X.K
 mg:=X.mg
 base:=X.base
 A:=X.A
 N:=x:: dG X.N js
 s₀:=s
 H₀:=H
 env:=compEnvC scope cl C X.env
 outer:=X.stack
 stack:=X.stack
 ex:=ex
 fn:=fun _=>false
 calm:=X.calm
 pn:=[]
 xe:=fun _ _=>False
noncomputable def PF (X:Cx) (ifs:List Expr) (t:TT):Prop:=
 ∀(pins:List (Addr×Obj)) (s:Shared) (σ:St) (H:Hp) (Q:Bool->Hp->Prop),Inv X pins σ H s->t σ H Q->
  wpAny (model X.prog X.w) X.A (forIn ifs true fun c r=>if r=true then do let ok <-isTrue c X.env (eval c X.env);pure (ForInStep.yield ok) else pure (ForInStep.yield r)) (TP X pins σ Q) X.xe s
noncomputable def WX:TT:=fun _ H Q=>Q true H
theorem gh {X:Cx}:PF X [] WX:=fun _ _ _ H _ I h=>wpAny_pure ⟨H,I,h⟩
theorem Np {X:Cx} {c:Expr} {t:TT} (hc:PT X c t):PF X [c] t:=by
 intro pins s σ H Q I h
 rw [List.forIn_cons,if_pos rfl]
 refine wpAny_bind (wpAny_bind (dU (hc pins s σ H Q I h) fun b s1 q=>wpAny_pure ?_))
 show wpAny (model X.prog X.w) X.A (pure b) (TP X pins σ Q) X.xe s1
 exact wpAny_pure q
inductive CompEnd (js:List Nat) (tt:TT) (te:TE) (σ:St) (Qd:List V->Hp->Prop) (J:It) (H1:Hp):Prop where
 | mk:∀W:Nat->Nat->List V->Hp->Prop,((∃m,W 0 m [] H1))->(∀i m ys H2,W i m ys H2->
 (J.stop i H2/\ys.length<=sizeLine/\Qd ys H2)∨
 (J.go i H2/\ys.length <sizeLine/\∃N:List V->Hp->Prop,(∀ys' H',N ys' H'->∃m',m' <m/\W (i+1) m' ys' H')/\∀x H3,J.yld i H2 x H3->tt (some x:: dX σ js) H3 fun b H4=>
  if b=true then te (some x:: dX σ js) H4 fun y H5=>N (ys ++ [y]) H5 else N ys H4))->CompEnd js tt te σ Qd J H1
noncomputable def Sg (js:List Nat) (wi:TI) (tt:TT) (te:TE):TE:=fun σ H Q=>wi σ H (CompEnd js tt te σ fun ys H2=>∀D,H2 D=none->Q (.ref D) (upd H2 D (.lst ys)))
section
variable {X:Cx} {x:Str} {px pos:Pos} {iter elt:Expr} {ifs:List Expr} {scope:Scope} {wi:TI} {tt:TT} {te:TE}
end
section
variable {X:Cx}
theorem kW:wK X (binaryOp .Mult) (rI IntMulOk fun i j=>.int (i * j)):=Xc fun _ _ _ _ _ _ _ hc q=>mul_int q hc
noncomputable def Sh (_ j:Int):Prop:=0 <j/\j.natAbs.log2 <9000
theorem Ob:wK X (binaryOp .FloorDiv) (rI Sh fun i j=>.int (i / j)):=Xc fun i j _ _ _ _ _ hc q=>by
 have h1:(0:Int) <j:=hc.1
 exact floordiv_int (by omega) (by rw [Int.fdiv_eq_ediv_of_nonneg i (by omega)];exact q) (.inl (PyProof.noPylong_of_log2 hc.2))
theorem VD {i j:Int} (h0:0 <j) (h:j.natAbs <2 ^ 9000):Sh i j:=⟨h0,(Nat.log2_lt (by omega)).mpr h⟩
noncomputable def VH (K:PySem.W.Frag) (H:Hp) (x:V) (T:String):Prop:=match x with
 | .non=>T= "NoneType"
 | .bl _=>T= "bool"
 | .int _=>T= "int"
 | .str _=>T= "str"
 | .ref p=>(T= "list" /\∃xs,bT K H p xs)∨(T= "tuple" /\∃xs,fY K H p xs)∨(T= "dict" /\∃kvs,H p=some (.dK kvs))
 | _=>False
noncomputable def Es (a b:String):Bool:=a == b || (a == "bool" && b == "int")
noncomputable def Ip:List String:=["int", "bool", "str", "list", "tuple", "dict"]
noncomputable def nH:List String:=["NoneType", "bool", "int", "str", "list", "tuple", "dict"]
theorem Py:∀T∈Ip,PySem.W.kitMeta T=true:=by decide +kernel
theorem Q5:∀a∈nH,∀b∈Ip,(PySem.fastBuiltinMro a).map (·.contains (.type b))=some (Es a b):=by decide +kernel
theorem Ru (K:PySem.W.Frag) {a b:String} (ha:a∈nH) (hb:b∈Ip):PySem.W.kitOne K (.type a) (.type b)=some (Es a b):=by
 unfold PySem.W.kitOne
 by_cases h:(Value.type a == Value.type b)=true
 ·rw [if_pos h]
  have e:a=b:=by
   have:=beq_iff_eq.mp h
   injection this
  subst e
  simp [Es]
 ·rw [if_neg h]
  show(if PySem.W.kitMeta b=true then PySem.W.subIn K (.type a) (.type b) else none)=_
  rw [if_pos (Py b hb)]
  exact Q5 a ha b hb
theorem mO:jC X (.builtin "isinstance") (fun xs H Q=>∃x Tx T b,xs=[x,.ty T]/\VH X.K H x Tx/\T∈Ip/\Es Tx T=b/\Q (.bl b) H):=by
 intro pins s σ H xs us Q I r h
 obtain⟨x,Tx,T,b,rfl,ty,hT,rfl,q⟩:=h
 obtain⟨u,w',rfl,rx,ry⟩:=vals2 r
 cases ry
 have fin:∀{b:Bool},b=Es Tx T->∀tk,EP X pins σ Q (.bool b) { s with toks:=tk }:=fun e tk=>⟨.bl (Es Tx T),H,I.tok tk,by rw [e];rfl,q⟩
 have go:∀{P:Heap->Prop},PySem.W.KitX X.K u (.type Tx) P->P s.heap->Tx∈nH->u≠.builtin "__main__.__loader__#opaque" ->wpAny (model X.prog X.w) X.A (call (.builtin "isinstance") [u,.type T]) (EP X pins σ Q) X.xe s:=fun Z p hm hx=>
  PySem.W.kia_one Z I.kIn p (Ru X.K hm hT) hx fun tk=>fin rfl tk
 cases x with
 | non=>cases rx;cases (show Tx= "NoneType" from ty);exact go PySem.W.kitx_none trivial (by decide) (by intro e;cases e)
 | bl b=>cases rx;cases (show Tx= "bool" from ty);exact go PySem.W.kitx_bool trivial (by decide) (by intro e;cases e)
 | int i=>obtain⟨t,rfl⟩:=rx;cases (show Tx= "int" from ty);exact go PySem.W.kitx_int trivial (by decide) (by intro e;cases e)
 | str z=>obtain⟨t,rfl⟩:=rx;cases (show Tx= "str" from ty);exact go PySem.W.kitx_str trivial (by decide) (by intro e;cases e)
 | ref p=>
  cases rx
  rcases ty with ⟨rfl,ys,hq⟩ | ⟨rfl,ys,hq⟩ | ⟨rfl,kvs,hq⟩
  ·obtain⟨its,_,pl,_⟩:=I.list hq
   obtain⟨o,n,e,c,_,_⟩:=pl
   exact go PySem.W.kitx_list ⟨o,e,c⟩ (by decide) (by intro e;cases e)
  ·obtain⟨its,_,⟨o,e,c,_⟩,_⟩:=I.tuple hq
   exact go PySem.W.kitx_tuple ⟨o,e,c⟩ (by decide) (by intro e;cases e)
  ·obtain⟨_,_,_,_,o,_,_,e,ex,_⟩:=I.hok p _ hq
   exact go PySem.W.kitx_dict ⟨o,e,ex.1⟩ (by decide) (by intro e;cases e)
 | _=>exact(show False from ty).elim
inductive NK (K:PySem.W.Frag) (x:V) (xs:List V) (H:Hp) (Q:VK):Prop where
 | mk:∀z p ys,x=.str z->xs=[.ref p]->bT K H p (ys.map V.str)->(ys.map (·.length)).sum+ys.length * z.length<=16777216->Q (.str (Txt.join z ys)) H->NK K x xs H Q
noncomputable def rJoin (K:PySem.W.Frag):V->List V->Hp->VK->Prop:=fun x xs H Q=>NK K x xs H Q
theorem Bw:∀{ys:List Str} {us:List Value},Vals (ys.map V.str) us->StrsAre us ys
 | [],us,r=>by rw [List.map_nil] at r;cases r;exact .nil
 | y:: ys,us,r=>by
  rw [List.map_cons] at r
  cases r with
  | cons r1 r2=>
   obtain⟨t,e⟩:=r1
   subst e
   exact .cons y t (Bw r2)
theorem QL:Xe X "str.join" (rJoin X.K):=by
 intro pins s σ H x xs v us Q I rx rs h
 obtain⟨z,p,ys,rfl,rfl,hq,hz,q⟩:=h
 obtain⟨t,rfl⟩:=rx
 obtain⟨u,rfl,ru⟩:=vals1 rs
 cases ru
 obtain⟨its,rv,pl,_⟩:=I.list hq
 exact join_list (items:=its.toArray) pl.isList (by simpa using Bw rv) hz fun t' k=>⟨.str (Txt.join z ys),H,I.tok k,⟨_,rfl⟩,q⟩
end
theorem Jk:bootBuiltins "int" =some (.type "int"):=by decide +kernel
theorem Kg:bootBuiltins "bool" =some (.type "bool"):=by decide +kernel
theorem QC:bootBuiltins "str" =some (.type "str"):=by decide +kernel
theorem jL:bootBuiltins "list" =some (.type "list"):=by decide +kernel
theorem vy:bootBuiltins "tuple" =some (.type "tuple"):=by decide +kernel
theorem dB:bootBuiltins "len" =some (.builtin "len"):=by decide +kernel
theorem eZ:bootBuiltins "isinstance" =some (.builtin "isinstance"):=by decide +kernel
theorem Qp:bootBuiltins "min" =some (.builtin "min"):=by decide +kernel
theorem Ey:bootBuiltins "max" =some (.builtin "max"):=by decide +kernel
theorem GC:bootBuiltins "all" =some (.builtin "all"):=by decide +kernel
section
variable {X:Cx} {pos:Pos}
theorem iw {x:Str} {v:V} (hg:Gl X x) (hm:∃u,X.mg x=some u/\RelV v u) (hd:(x == ("__debug__" :Str))=false:=by decide):PE X (.Name x pos) (tC v):=by
 obtain⟨u,h1,h2⟩:=hm
 exact FQ hg h1 h2 hd
theorem oH {x:Str} {T:String} (hg:Gl X x) (hm:X.mg x=none) (hv:bootBuiltins x=some (.type T)) (hn:x≠ "__name__" :=by decide) (hd:(x == ("__debug__" :Str))=false:=by decide):PE X (.Name x pos) (tC (.ty T)):=
 Rf hg hm hv rfl hn hd
end
theorem lE {a b:Int} (h: -(2 ^ 64) <a/\a <2 ^ 64:=by decide):IntMulOk a b:=.of_left (intBits_le_64 h.1 h.2)
theorem Gk {a b:Int} (h: -(2 ^ 64) <b/\b <2 ^ 64:=by decide):IntMulOk a b:=.of_right (intBits_le_64 h.1 h.2)
inductive N8 (t:TS) (D:Ends) (σ:St) (H:Hp):Prop where
 | mk:∀J:St->Hp->Prop,t { D with nx:=J } σ H->(∀σ' H',J σ' H'->D.nx σ' H')->N8 t D σ H
noncomputable def Wr (t:TS):TS:=fun D σ H=>N8 t D σ H
theorem eX {X:Cx} {st:Stmt} {t:TS} (h:PS X st t):PS X st (Wr t):=by
 intro pins s σ H D I hw
 obtain⟨J,h1,h2⟩:=hw
 refine dU (h pins s σ H { D with nx:=J } I h1) fun f s1 q=>?_
 cases f with
 | next=>obtain⟨σ',H',I',q⟩:=q;exact⟨σ',H',I',h2 _ _ q⟩
 | ret v=>exact q
 | brk=>exact q
 | cont=>exact q
theorem bV {c A B:Prop} [Decidable c] (hc:¬c) (h:B):if decide c=true then A else B:=by rw [decide_eq_false hc];exact dI h
theorem pJ {c A B:Prop} [Decidable c] (hc:c) (h:A):if decide c=true then A else B:=by rw [decide_eq_true hc];exact ji h
mutual
inductive Dt (K:PySem.W.Frag) (H:Hp):V->PyData->Prop
 | non:Dt K H .non .none
 | bl (b:Bool):Dt K H (.bl b) (.bool b)
 | int (i:Int):Dt K H (.int i) (.int i)
 | str (x:Str):Dt K H (.str x) (.str x)
 | list {p:Addr} {xs:List V} {ds:List PyData}:bT K H p xs->Nj K H xs ds->Dt K H (.ref p) (.list ds)
 | tuple {p:Addr} {xs:List V} {ds:List PyData}:fY K H p xs->Nj K H xs ds->Dt K H (.ref p) (.tuple ds)
inductive Nj (K:PySem.W.Frag) (H:Hp):List V->List PyData->Prop
 | nil:Nj K H [] []
 | cons {x:V} {xs:List V} {d:PyData} {ds:List PyData}:Dt K H x d->Nj K H xs ds->Nj K H (x:: xs) (d:: ds)
end
section
variable {X:Cx} {pins:List (Addr×Obj)} {σ:St} {H:Hp} {s:Shared}
mutual
theorem Dt.reads (I:Inv X pins σ H s):∀{x:V} {d:PyData},Dt X.K H x d->∀{u:Value},RelV x u->∃as,Reads s.heap u d as
 | _,_,.non,_,r=>by cases r;exact⟨_,.none⟩
 | _,_,.bl b,_,r=>by cases r;exact⟨_,.bool b⟩
 | _,_,.int i,_,r=>by obtain⟨t,rfl⟩:=r;exact⟨_,.int i t⟩
 | _,_,.str x,_,r=>by obtain⟨t,rfl⟩:=r;exact⟨_,.str x t⟩
 | _,_,.list hq hd,_,r=>by
  cases r
  obtain⟨its,rv,⟨o,n,e,c,_,d⟩,_⟩:=I.list hq
  obtain⟨as,q⟩:=Nj.reads I hd rv
  exact⟨_,.list e c d (by simpa using q)⟩
 | _,_,.tuple hq hd,_,r=>by
  cases r
  obtain⟨its,rv,⟨o,e,c,n,d⟩,_⟩:=I.tuple hq
  obtain⟨as,q⟩:=Nj.reads I hd rv
  exact⟨_,.tuple e c d (by simpa using q)⟩
theorem Nj.reads (I:Inv X pins σ H s):∀{xs:List V} {ds:List PyData},Nj X.K H xs ds->∀{us:List Value},Vals xs us->∃as,ReadsAll s.heap us ds as
 | _,_,.nil,_,r=>by cases r;exact⟨_,.nil⟩
 | _,_,.cons h t,_,r=>by
  cases r with
  | cons r1 r2=>
   obtain⟨as,q⟩:=Dt.reads I h r1
   obtain⟨bs,q'⟩:=Nj.reads I t r2
   exact⟨_,.cons q q'⟩
end
inductive R5 (K:PySem.W.Frag) (x:V) (y:V) (H:Hp) (Q:VK):Prop where
 | mk:∀da db,Dt K H x da->Dt K H y db->SeqAt.shaped da=true->SeqAt.shaped db=true->Q (.bl (!PyData.eqv da db)) H->R5 K x y H Q
noncomputable def Xl (K:PySem.W.Frag):R2:=fun x y H Q=>R5 K x y H Q
theorem O7 (hu:X.A.units+64 <cLine):wK X (compareOp .NotEq) (Xl X.K):=by
 intro pins s σ H x y v u Q I rx ry h
 obtain⟨da,db,h1,h2,s1,s2,q⟩:=h
 obtain⟨as,r1⟩:=h1.reads I rx
 obtain⟨bs,r2⟩:=h2.reads I ry
 exact ne_dataH r1 r2 s1 s2 hu (cZ I q rfl)
end
noncomputable def Xg (x:Str):It:=⟨fun i _=>i <x.cps.size,fun i H v H'=>H'=H/\∃c,x.cps[i]?=some c/\v=.str ⟨#[c]⟩,fun i _=>x.cps.size<=i⟩
theorem Iu {P:Program} {w:World} {K:PySem.W.Frag} {tg:Expr} (it:Addr) (x:Str) (t:Tok) {ty:String} (hty:ty= "str_ascii_iterator" ∨ty= "str_iterator"):Turn P w K tg (Xg x) [it] it (fun i h=>h.IsStrIter it ty x t i) where
 mem:=by simp
 obj:=fun i h st b hb=>by
  have e:b=it:=by simpa using hb
  subst e
  obtain⟨o,e,c,d⟩:=st
  exact⟨o,e,fun v z=>by rw [d] at z;cases z⟩
 keep:=fun i h h' st k=>by
  obtain⟨o,e,r⟩:=st
  exact⟨o,k it (by simp) o e,r⟩
 item:=by
  intro X hP hw hK hc i pins s σ H E I hf st hg
  subst hP hw hK
  obtain⟨f0,f1,f2,f3,f4,f5⟩:=hf it (by simp)
  have fin:∀(v:Value) (h':Heap) (tk:Nat),SignAt x i v->h'.IsStrIter it ty x t (i+1)->(∀b o,b∉[it]->s.heap.get? b=some o->h'.get? b=some o)->
    ∃u,some v=some u/\wpAny (model X.prog X.w) X.A (letOwnedTupleGo tg (.ref it) u) (fun _ s2=>∃x' H',Inv X pins σ H' s2/\RelV x' u/\(Xg x).yld i H x' H'/\s2.heap.IsStrIter it ty x t (i+1)/\∀b∈[it],H' b=none) E { s with heap:=h',toks:=tk }:=by
   intro v h' tk hv st' kk
   obtain⟨c,u,hcc,rfl⟩:=hv
   have I1:Inv X pins σ H { s with heap:=h',toks:=tk }:=I.turned (fun b o hb e=>kk b o (by simpa using hb) e) f0 f1 f3 f4 f5
   obtain⟨o,e,c',d⟩:=id st'
   refine⟨_,rfl,Dg (s:={ s with heap:=h',toks:=tk }) (n:=ty) e c' d (by rcases hty with rfl | rfl <;> decide) ⟨.str ⟨#[c]⟩,H,I1,⟨u,rfl⟩,⟨rfl,c,hcc,rfl⟩,st',fun b hb=>(hf b hb).1⟩⟩
  rcases hty with rfl | rfl
  ·exact(Walks.strAscii (prog:=X.prog) (w:=X.w) (I.ok.hd hc) it x t).item i s _ _ hg st fun v h' tk hv st' kk=>fin v h' tk hv st' kk
  ·exact(Walks.strWide (prog:=X.prog) (w:=X.w) (I.ok.hd hc) it x t).item i s _ _ hg st fun v h' tk hv st' kk=>fin v h' tk hv st' kk
 done:=by
  intro X hP hw hK hc i pins s σ H E I hf st hg
  subst hP hw hK
  obtain⟨f0,f1,f2,f3,f4,f5⟩:=hf it (by simp)
  have hx:x.cps[i]?=none:=by
   have hg':x.cps.size<=i:=hg
   simp;omega
  rcases hty with rfl | rfl
  ·exact wpAny_pyNext_ascii_end (I.ok.hd hc) st hx fun h' eb=>⟨rfl,I.turned (t':=s.toks) (fun b o hb e=>eb b o hb e) f0 f1 f3 f4 f5⟩
  ·exact wpAny_pyNext_wide_end (I.ok.hd hc) st hx fun h' eb=>⟨rfl,I.turned (t':=s.toks) (fun b o hb e=>eb b o hb e) f0 f1 f3 f4 f5⟩
 self:=fun _ _ _ _ _ st h=>by
  rcases hty with rfl | rfl
  ·exact wpAny_pyIter_striter_ascii st h
  ·exact wpAny_pyIter_striter_wide st h
section
variable {X:Cx} {tg:Expr}
inductive Te (R:It->Hp->Prop) (x:V) (H1:Hp):Prop where
 | mk:∀z,x=.str z->R (Xg z) H1->Te R x H1
noncomputable def XM (tl:TE):TI:=fun σ H R=>tl σ H fun x H1=>Te R x H1
theorem U9 {l:Expr} {tl:TE} (hl:PE X l tl):PI X tg l (XM tl):=by
 intro pins s σ H R I h
 refine dU (hl pins s σ H _ I h) fun v s1 hpt=>?_
 obtain⟨x,H1,I1,r1,q1⟩:=hpt
 obtain⟨z,e,q⟩:=q1
 subst e
 obtain⟨t,rfl⟩:=r1
 cases ha:z.cps.all (· <128)
 ·refine wpAny_pyIter_wide ha ?_
  refine⟨s1.heap.objs.size,[s1.heap.objs.size],_,_,H1,rfl,I1.kept (t':=s1.toks) fun b o e=>Heap.get?_push_of_some _ e,Iu _ z t (ty:= "str_iterator") (.inr rfl),⟨_,Heap.get?_push_size _ rfl,rfl,rfl⟩,fun b hb=>?_,q⟩
  have e:b=s1.heap.objs.size:=by simpa using hb
  subst e
  exact I1.fpOk (Nat.le_refl _) (I1.hok.fresh (Nat.le_refl _))
 ·refine wpAny_pyIter_ascii ha ?_
  refine⟨s1.heap.objs.size,[s1.heap.objs.size],_,_,H1,rfl,I1.kept (t':=s1.toks) fun b o e=>Heap.get?_push_of_some _ e,Iu _ z t (ty:= "str_ascii_iterator") (.inl rfl),⟨_,Heap.get?_push_size _ rfl,rfl,rfl⟩,fun b hb=>?_,q⟩
  have e:b=s1.heap.objs.size:=by simpa using hb
  subst e
  exact I1.fpOk (Nat.le_refl _) (I1.hok.fresh (Nat.le_refl _))
end
theorem yes {A B:Hp->Prop} {σ:St} {H:Hp} (h:A H):WX σ H (fun b H4=>if b=true then A H4 else B H4):=by
 show if true=true then A H else B H
 exact ji h
section
variable {js:List Nat} {tt:TT} {te:TE} {σ:St} {Qd:List V->Hp->Prop}
theorem iG {lo:Int} {n:Nat} {H:Hp} (Pv:Nat->List V->Hp->Prop) (hn:n<=sizeLine) (h0:Pv 0 [] H) (hl:∀i ys H,Pv i ys H->ys.length<=i)
  (hs:∀i ys H,i <n->Pv i ys H->tt (some (.int (lo+i)):: dX σ js) H fun b H4=>if b=true then te (some (.int (lo+i)):: dX σ js) H4 fun y H5=>Pv (i+1) (ys ++ [y]) H5 else Pv (i+1) ys H4)
  (hd:∀ys H,Pv n ys H->Qd ys H):CompEnd js tt te σ Qd (Uw lo n) H:=by
 refine⟨fun i m ys H=>m=n - i/\i<=n/\Pv i ys H,⟨n,by simp,Nat.zero_le _,h0⟩,?_⟩
 rintro i m ys H ⟨rfl,hi,p⟩
 have hlen:=hl i ys H p
 by_cases hlt:i <n
 ·refine .inr ⟨hlt,by omega,Pv (i+1),fun ys' H' p'=>⟨n - (i+1),by omega,rfl,hlt,p'⟩,fun x H' y=>?_⟩
  obtain⟨e,y⟩:=y
  subst e y
  exact hs i ys _ hlt p
 ·have e:i=n:=by omega
  subst e
  exact .inl ⟨Nat.le_refl _,by omega,hd ys H p⟩
theorem iZ {K:PySem.W.Frag} {a:Addr} {xs:List V} {H:Hp} (Pv:Nat->List V->Hp->Prop) (hn:xs.length<=sizeLine) (h0:Pv 0 [] H) (hl:∀i ys H,Pv i ys H->ys.length<=i) (hq:∀i ys H,i<=xs.length->Pv i ys H->bT K H a xs)
  (hs:∀i x ys H,xs[i]?=some x->Pv i ys H->tt (some x:: dX σ js) H fun b H4=>if b=true then te (some x:: dX σ js) H4 fun y H5=>Pv (i+1) (ys ++ [y]) H5 else Pv (i+1) ys H4)
  (hd:∀ys H,Pv xs.length ys H->Qd ys H):CompEnd js tt te σ Qd (Tt K a) H:=by
 refine⟨fun i m ys H=>m=xs.length - i/\i<=xs.length/\Pv i ys H,⟨xs.length,by simp,Nat.zero_le _,h0⟩,?_⟩
 rintro i m ys H ⟨rfl,hi,p⟩
 have hlen:=hl i ys H p
 have q:=hq i ys H hi p
 by_cases hlt:i <xs.length
 ·refine .inr ⟨⟨xs,xs[i],q,by simp [hlt]⟩,by omega,Pv (i+1),fun ys' H' p'=>⟨xs.length - (i+1),by omega,rfl,hlt,p'⟩,fun x H' y=>?_⟩
  obtain⟨e,y⟩:=y
  subst e
  exact hs i x ys _ (y xs q) p
 ·have e:i=xs.length:=by omega
  subst e
  exact .inl ⟨⟨xs,q,Nat.le_refl _⟩,by omega,hd ys H p⟩
theorem Oz {z:Str} {H:Hp} (Pv:Nat->List V->Hp->Prop) (hn:z.cps.size<=sizeLine) (h0:Pv 0 [] H) (hl:∀i ys H,Pv i ys H->ys.length<=i)
  (hs:∀i c ys H,z.cps[i]?=some c->Pv i ys H->tt (some (.str ⟨#[c]⟩):: dX σ js) H fun b H4=>if b=true then te (some (.str ⟨#[c]⟩):: dX σ js) H4 fun y H5=>Pv (i+1) (ys ++ [y]) H5 else Pv (i+1) ys H4)
  (hd:∀ys H,Pv z.cps.size ys H->Qd ys H):CompEnd js tt te σ Qd (Xg z) H:=by
 refine⟨fun i m ys H=>m=z.cps.size - i/\i<=z.cps.size/\Pv i ys H,⟨z.cps.size,by simp,Nat.zero_le _,h0⟩,?_⟩
 rintro i m ys H ⟨rfl,hi,p⟩
 have hlen:=hl i ys H p
 by_cases hlt:i <z.cps.size
 ·refine .inr ⟨hlt,by omega,Pv (i+1),fun ys' H' p'=>⟨z.cps.size - (i+1),by omega,rfl,hlt,p'⟩,fun x H' y=>?_⟩
  obtain⟨e,c,hc,y⟩:=y
  subst e y
  exact hs i c ys _ hc p
 ·have e:i=z.cps.size:=by omega
  subst e
  exact .inl ⟨Nat.le_refl _,by omega,hd ys H p⟩
end
section
variable {X:Cx}
inductive Tp (x:V) (lo:Option Int) (hi:Option Int) (H:Hp) (Q:VK):Prop where
 | mk:∀z,x=.str z->z.length<=sizeLine->Q (.str (Txt.slice z lo hi)) H->Tp x lo hi H Q
noncomputable def Xk:V->Option Int->Option Int->Hp->VK->Prop:=fun x lo hi H Q=>Tp x lo hi H Q
theorem Ov:Xf X Xk:=by
 intro pins s σ H x v vl vu lo hi sl Q I rx hs pl pu h
 obtain⟨z,rfl,hz,q⟩:=h
 obtain⟨t,rfl⟩:=rx
 refine⟨"str",_,PySem.F.slot_str_getitem.lookup,typeIs_str _ _ _,?_⟩
 have fin:∀t' k,EP X pins σ Q (.str (Txt.slice z lo hi) t') { s with toks:=k }:=fun t' k=>⟨.str _,H,I.tok k,⟨_,rfl⟩,q⟩
 cases pl with
 | none=>
  cases pu with
  | none=>exact wpAny_getItem_str_slice (l:=none) (u:=none) (st:=none) hs rfl (post_val_or_str ⟨Nat.le_trans (Txt.slice_le z _ _) hz,fin⟩)
  | int j tj=>exact wpAny_getItem_str_slice (l:=none) (u:=some (j,tj)) (st:=none) hs rfl (post_val_or_str ⟨Nat.le_trans (Txt.slice_le z _ _) hz,fin⟩)
 | int i ti=>
  cases pu with
  | none=>exact wpAny_getItem_str_slice (l:=some (i,ti)) (u:=none) (st:=none) hs rfl (post_val_or_str ⟨Nat.le_trans (Txt.slice_le z _ _) hz,fin⟩)
  | int j tj=>exact wpAny_getItem_str_slice (l:=some (i,ti)) (u:=some (j,tj)) (st:=none) hs rfl (post_val_or_str ⟨Nat.le_trans (Txt.slice_le z _ _) hz,fin⟩)
theorem wM (hc:X.calm=true):jC X (.builtin "all") (fun xs H Q=>∃(p:Addr) (bs:List Bool),xs=[.ref p]/\bT X.K H p (bs.map V.bl)/\Q (.bl (bs.all id)) H):=by
 intro pins s σ H xs us Q I r h
 obtain⟨p,bs,rfl,hq,q⟩:=h
 obtain⟨u,rfl,rx⟩:=vals1 r
 cases rx
 obtain⟨its,rv,pl,_⟩:=I.list hq
 have hl:=pl.isList
 have hlt:p <s.heap.objs.size:=by obtain⟨_,e,_⟩:=hl;exact Heap.lt_size e
 have hb:∀i v,its[i]?=some v->∃b,bs[i]?=some b/\v=Value.bool b:=fun i v e=>by
  have hi:i <its.length:=(List.getElem?_eq_some_iff.mp e).1
  have hi':i <bs.length:=by have:=rv.length;rw [List.length_map] at this;omega
  obtain⟨u,e',r'⟩:=rv.get (i:=i) (x:=.bl bs[i]) (by rw [List.getElem?_map,List.getElem?_eq_getElem hi'];rfl)
  rw [e] at e'
  cases e'
  exact⟨bs[i],List.getElem?_eq_getElem hi',r'⟩
 refine call_all_walk (wpAny_pyIter_list hl ?_)
 refine⟨s.heap.objs.size,[s.heap.objs.size,p],[s.heap.objs.size],its.toArray.size,_,_,fun i=>(bs[i]?).getD true,rfl,Walks.list (A:=X.A.in1) (I.ok.hd hc) _ p (Nat.ne_of_lt hlt) its.toArray,
  ⟨⟨_,Heap.get?_push_size _ rfl,rfl,rfl⟩,hl.push _⟩,fun i v s' Q' E' hP hQ=>?_,fun h' tk hk=>?_⟩
 ·obtain⟨b,e,rfl⟩:=hb i v (by simpa using hP)
  simp only [e,Option.getD_some] at hQ
  exact wpAny_truthy_bool hQ
 ·have e:((List.range its.toArray.size).all fun i=>(bs[i]?).getD true)=bs.all id:=by
   have hlen:=rv.length
   rw [List.length_map] at hlen
   rw [List.size_toArray,<-hlen];exact LSm.range_all bs
  rw [e]
  exact⟨.bl _,H,I.kept (LSm.kept_iter hk),rfl,q⟩
end
end L2
namespace L2
open PySem PySem.StrLaws PySem.Builtin PySem.Builtin.Str
end L2
namespace L2
open PySem
theorem aB {H:L2.Hp} {p:Addr} {o:L2.HO} (hp:H p=none):L2.aM H (L2.upd H p o):=fun b o' e=>by rw [L2.aG (L2.aF e hp)];exact e
end L2
namespace L2
open PySem PySem.SeqAt
open AutoSeq1 (wpAny_loadPart')
open MeetsSeq MeetsSeq2 MeetsSeq3 SeqRoads2
section
variable {A:Around} {s:Shared}
end
open PySem.Spec PyProof.Rows
end L2
namespace L2
open PySem PySem.Spec PyProof.Rows
structure MethAt (P:Program) (w:World) (K:PySem.W.Frag) (mg:Str->Option Value) (base:Heap) (CX:Dz) (k:Nat) (C:Addr) (m:Str) (sp:Sp):Prop where
 ex:∃(f:Addr) (fd:FuncData) (ps:List Str),M5 K C/\Meth K C m f/\Binds K fd ps []/\iW P w K mg base CX k f fd ps sp
inductive KC (P:Program) (w:World) (K:PySem.W.Frag) (mg:Str->Option Value) (base:Heap) (CX:Dz) (k:Nat) (m:Str) (E:XK) (t:TA) (σ:St) (Q:VK) (x:V) (H1:Hp):Prop where
 | mk:∀a C dx fs sp,x=.ref a->H1 a=some (.ins C dx fs)->fs.lookup m=none->MethAt P w K mg base CX k C m sp->(t σ H1 fun vs H2=>sp (x:: vs) H2 Q E)->KC P w K mg base CX k m E t σ Q x H1
noncomputable def Jl (P:Program) (w:World) (K:PySem.W.Frag) (mg:Str->Option Value) (base:Heap) (CX:Dz) (k:Nat) (m:Str) (E:XK) (ta:TE) (t:TA):TE:=fun σ H Q=>ta σ H fun x H1=>KC P w K mg base CX k m E t σ Q x H1
section
variable {X:Cx} {CX:Dz} {k:Nat} {E:XK} {m:Str} {pos apos:Pos} {e o:Expr} {es:List Expr} {ta:TE} {t:TA}
theorem vV {pl:Sem Bool} (he:PE X o ta) (hr:iY k X.A) (hx:pF CX X E) (ha:PA X (e:: es) t)
  (hst:starEach (e:: es) X.env=(false,eval e X.env):: starEach es X.env:=by rfl) (hpl:(backTo pos (starEach es X.env)).any (·.1)=false:=by rfl)
  (ht:eval (.Call (.Attribute o m apos) (e:: es) [] pos) X.env=(do
   let ov <-eval o X.env
   standAt apos.atName
   let (f,first) <-holding [ov] (getMethod ov m pl)
   callWith pos f first (backTo pos (starEach (e:: es) X.env)) (backToKw pos (keywordEach [] X.env))):=by rfl):
  PE X (.Call (.Attribute o m apos) (e:: es) [] pos) (Jl X.prog X.w X.K X.mg X.base CX k m E ta t):=by
 intro pins s σ H Q I h
 refine PySem.W.methodCall_KW (pl:=pl) (dU (he pins s σ H _ I h) fun u s1 hpt=>?_) ht
 obtain⟨x,H1,I1,rx,a,C,dx,fs,sp,ex,ea,l,⟨f,fd,ps,c,hm,hb,F⟩,q⟩:=hpt
 subst ex
 obtain rfl:u=Value.ref a:=rx
 refine qO I1 ea c hm l ?_
 refine PySem.W.callWith_K (first:=[.ref a]) (h₀:=X.base) I.ok.mod.kin hm.kp (dU (ha pos pins s1 σ H1 _ I1 q) fun us s2 ⟨vs,H2,I2,r,q2⟩=>⟨I2.kIn,?_⟩) hst hpl
 exact Bh (us:=.ref a:: us) (vs:=.ref a:: vs) (ds:=[]) (dvs:=[]) F hr hb .nil hx I2 (.cons rfl r) (by rw [List.append_nil];exact q2)
theorem Ek {pl:Sem Bool} (he:PE X o ta) (hr:iY k X.A) (hx:pF CX X E)
  (ht:eval (.Call (.Attribute o m apos) [] [] pos) X.env=(do
   let ov <-eval o X.env
   standAt apos.atName
   let (f,first) <-holding [ov] (getMethod ov m pl)
   callWith pos f first (backTo pos (starEach [] X.env)) (backToKw pos (keywordEach [] X.env))):=by rfl):
  PE X (.Call (.Attribute o m apos) [] [] pos) (Jl X.prog X.w X.K X.mg X.base CX k m E ta JX):=by
 intro pins s σ H Q I h
 refine PySem.W.methodCall_KW (pl:=pl) (dU (he pins s σ H _ I h) fun u s1 hpt=>?_) ht
 obtain⟨x,H1,I1,rx,a,C,dx,fs,sp,ex,ea,l,⟨f,fd,ps,c,hm,hb,F⟩,q⟩:=hpt
 subst ex
 obtain rfl:u=Value.ref a:=rx
 refine qO I1 ea c hm l ?_
 exact PySem.W.callWith_K0 (first:=[.ref a]) I1.kIn hm.kp (Bh (us:=[.ref a]) (vs:=[.ref a]) (ds:=[]) (dvs:=[]) F hr hb .nil hx I1 (.cons rfl .nil) (by rw [List.append_nil];exact q))
end
section
variable {X:Cx}
theorem Ie:bootBuiltins "range" =some (.type "range"):=by decide +kernel
theorem yJ:jC X (.type "range") (fun xs H Q=>∃j:Int,xs=[.int j]/\∀r,H r=none->Q (.ref r) (upd H r (.rng 0 j))):=by
 intro pins s σ H xs us Q I r h
 obtain⟨j,rfl,q⟩:=h
 obtain⟨u,rfl,t,rfl⟩:=vals1 r
 refine call_range_1 ⟨.ref s.heap.objs.size,upd H s.heap.objs.size (.rng 0 j),I.laid (fun b o e=>Heap.get?_push_of_some _ e) (Nat.le_refl _) ?_,rfl,q _ (I.hok.fresh (Nat.le_refl _))⟩
 exact⟨_,_,_,Heap.get?_push_size _ rfl⟩
noncomputable def MJ (n:Nat):List V:=(List.range n).map fun i=>V.int (i:Nat)
theorem Q0 (n:Nat):(MJ n).length=n:=by simp [MJ]
theorem Ox:∀(n:Nat) (us:List Value),us.length=n->(∀(j:Nat) (v:Value),us[j]?=some v->∃t,v=.int (j:Nat) t)->Vals (MJ n) us:=by
 intro n
 induction n with
 | zero=>intro us hl _;cases us with | nil=>exact .nil | cons _ _=>cases hl
 | succ n ih=>
  intro us hl h
  have e1:MJ (n+1)=MJ n ++ [V.int (n:Nat)]:=by simp [MJ,List.range_succ]
  have hn:n <us.length:=by omega
  have e2:us=us.take n ++ [us[n]]:=by
   have:=List.take_append_drop n us
   rw [List.drop_eq_getElem_cons hn] at this
   rw [List.drop_eq_nil_of_le (by omega)] at this
   exact this.symm
  rw [e1,e2]
  refine Vals.append (ih _ (by simp;omega) fun j v e=>?_) (.cons ?_ .nil)
  ·rw [List.getElem?_take] at e
   split at e
   ·exact h j v e
   ·cases e
  ·obtain⟨t,e⟩:=h n us[n] (by simp [hn])
   exact⟨t,e⟩
theorem uA (hc:X.calm=true):jC X (.type "list") (fun xs H Q=>∃(r:Addr) (n:Nat),xs=[.ref r]/\H r=some (.rng 0 n)/\n<=1000000/\∀l,H l=none->Q (.ref l) (upd H l (.lst (MJ n)))):=by
 intro pins s σ H xs us Q I rx h
 obtain⟨r,n,rfl,hr,hn,q⟩:=h
 obtain⟨u,rfl,ru⟩:=vals1 rx
 cases ru
 have hl:sizeLine=16777216:=sizeLine_eq
 obtain⟨t,u,v,e⟩:=(show fV X.prog X.w H s.heap r (.rng 0 n) from I.hok r _ hr)
 refine call_list_range (n:=n) (I.ok.hd hc) e (small_one (by omega) (by omega) (by omega) (by omega)) (by rw [rangeSize_one];split <;> omega) (by omega) fun h' tk acc' c' kp e' hi=>?_
 refine⟨.ref s.heap.objs.size,_,I.laid (t':=tk) kp (Nat.le_refl _) (show fV X.prog X.w _ h' _ (.lst (MJ n)) from⟨by rw [Q0];omega,acc'.toList,c',Ox n _ (by simpa using hi.1) fun j v ej=>?_,by simpa using e'⟩),rfl,q _ (I.hok.fresh (Nat.le_refl _))⟩
 obtain⟨t,ev⟩:=hi.2 j v (by simpa using ej)
 exact⟨t,by rw [ev];congr 1;omega⟩
end
inductive jA (w:World) (K:PySem.W.Frag):List DictEntry->List (Str×List Int)->Prop
 | nil:jA w K [] []
 | cons {x:Str} {t:Tok} {ad:Addr} {ns:List Int} {es:List DictEntry} {rows:List (Str×List Int)} {h:Int} {its:Array Value} {n:Nat} {o:Obj}:
   h=hashStr w x->K.lookup ad=some o->o.cls=.type "tuple" ->o.data=.seq its n->Vals (ns.map V.int) its.toList->ns.length<=1000->jA w K es rows->jA w K (⟨h,.str x t,.ref ad⟩:: es) ((x,ns):: rows)
inductive KTab (w:World) (K:PySem.W.Frag) (a:Addr) (rows:List (Str×List Int)):Prop where
 | mk:∀(o:Obj) (es:Array DictEntry) (ep:Nat),K.lookup a=some o->o.cls=.type "dict" ->o.dict=none->o.slots= #[]->o.data=.dict es ep->(a == sysModules)=false->jA w K es.toList rows->(rows.map (·.1)).Nodup->KTab w K a rows
theorem KTab.mk' {w:World} {K:PySem.W.Frag} {a:Addr} {rows:List (Str×List Int)} {o:Obj} {es:Array DictEntry} {ep:Nat} (lk:K.lookup a=some o) (c1:o.cls=.type "dict") (c2:o.dict=none) (c3:o.slots= #[]) (c4:o.data=.dict es ep) (sm:(a == sysModules)=false)
  (rw':jA w K es.toList rows) (nd:(rows.map (·.1)).Nodup):KTab w K a rows:=⟨o,es,ep,lk,c1,c2,c3,c4,sm,rw',nd⟩
noncomputable def rowOf (rows:List (Str×List Int)) (z:Str):Option (List Int):=(rows.find? fun r=>decide (r.1=z)).map (·.2)
section
variable {P:Program} {w:World} {K:PySem.W.Frag}
theorem jA.kvs:∀{es:List DictEntry} {rows:List (Str×List Int)},jA w K es rows->∃kvs:List (Key×Value),Pairs (cz P w) es kvs/\kvs.map (·.1)=rows.map (fun r=>(Sum.inr r.1:Key))/\
  (∀e∈es,∃k,(cz P w).is k e.key=true/\e.hash=(cz P w).hash k)/\
  ∀z,(rowOf rows z=none->valueAt kvs (Sum.inr z)=none)/\∀ns,rowOf rows z=some ns->∃ad,valueAt kvs (Sum.inr z)=some (.ref ad)/\∀H,fY K H ad (ns.map V.int)
 | _,_,.nil=>⟨[],.nil,rfl,fun e he=>(by cases he),fun z=>⟨fun _=>rfl,fun ns e=>by cases e⟩⟩
 | _,_,@jA.cons _ _ x t ad ns es rows h its n o hh hl hc hdt hv hz hr=>by
  obtain⟨kvs,p,hk,ho,hf⟩:=jA.kvs hr
  refine⟨(Sum.inr x,.ref ad):: kvs,.cons (lg P w x t) rfl p,by rw [List.map_cons,List.map_cons,hk],fun e he=>?_,fun z=>?_⟩
  ·rcases List.mem_cons.mp he with e1 | he
   ·subst e1
    exact⟨Sum.inr x,lg P w x t,hh⟩
   ·exact ho e he
  ·by_cases hx:x=z
   ·subst hx
    have e1:rowOf ((x,ns):: rows) x=some ns:=by simp [rowOf]
    have e2:valueAt ((Sum.inr x,Value.ref ad):: kvs) (Sum.inr x:Key)=some (.ref ad):=by simp [valueAt]
    rw [e1,e2]
    refine⟨fun e=>by (cases e),fun ms e=>⟨ad,rfl,fun H=>.inr ⟨_,its,n,hl,hc,hdt,?_,?_⟩⟩⟩
    ·have:=hv.length
     have hs:sizeLine=16777216:=sizeLine_eq
     simp at this
     omega
    ·cases e;exact hv
   ·have e1:rowOf ((x,ns):: rows) z=rowOf rows z:=by simp [rowOf,hx]
    have hx':¬(Sum.inr x:Key)=Sum.inr z:=fun q=>hx (Sum.inr.inj q)
    have e2:valueAt ((Sum.inr x,Value.ref ad):: kvs) (Sum.inr z:Key)=valueAt kvs (Sum.inr z):=by simp [valueAt,hx']
    rw [e1,e2]
    exact hf z
theorem KTab.map {a:Addr} {rows:List (Str×List Int)} {h:Heap} (T:KTab w K a rows) (hk:K.In h):∃f:Key->Option Value,h.MapOf (cz P w) a f/\(a == sysModules)=false/\
  ∀z,(rowOf rows z=none->f (Sum.inr z)=none)/\∀ns,rowOf rows z=some ns->∃ad,f (Sum.inr z)=some (.ref ad)/\∀H,fY K H ad (ns.map V.int):=by
 obtain⟨o,es,ep,hl,c1,c2,c3,c4,hs,hr,nd⟩:=T
 obtain⟨kvs,p,hkk,ho,hf⟩:=hr.kvs (P:=P)
 have D:h.DictOf (cz P w) a kvs:=⟨o,es,ep,hk a _ hl,⟨c1,c2,c3⟩,c4,fun e he=>ho e (by simpa using he),p,?_⟩
 ·exact⟨_,D.mapOf,hs,hf⟩
 ·rw [hkk]
  have:rows.map (fun r=>(Sum.inr r.1:Key))=(rows.map (·.1)).map Sum.inr:=by rw [List.map_map];rfl
  rw [this]
  exact List.Pairwise.map _ (fun a b hab e=>hab (Sum.inr.inj e)) nd
end
section
variable {X:Cx} {i o:Expr} {ty td:TE} {pos:Pos}
inductive R7 (w:World) (K:PySem.W.Frag) (Q:VK) (y:V) (x:V) (H2:Hp):Prop where
 | mk:∀a rows z,x=.ref a->KTab w K a rows->y=.str z->Q (.bl (rowOf rows z).isSome) H2->R7 w K Q y x H2
noncomputable def Xj (w:World) (K:PySem.W.Frag) (ty td:TE):TE:=fun σ H Q=>ty σ H fun y H1=>td σ H1 fun x H2=>R7 w K Q y x H2
theorem Ur (hi:PE X i ty) (ho:PE X o td):PC X .In i o (Xj X.w X.K ty td):=by
 intro pins s σ H Q I h
 refine dU (hi pins s σ H _ I h) fun iv s1 ⟨y,H1,I1,ry,q1⟩=>dU (ho pins s1 σ H1 _ I1 q1) fun u s2 hpt=>?_
 obtain⟨x,H2,I2,rx,a,rows,z,ex,T,ey,q2⟩:=hpt
 subst ex
 subst ey
 obtain rfl:u=Value.ref a:=rx
 obtain⟨t,rfl⟩:=ry
 obtain⟨f,M,hs,hf⟩:=T.map (P:=X.prog) I2.kIn
 refine wpAny_in_of (k:=(Sum.inr z:Key)) (lg X.prog X.w z t) hs M ?_
 refine⟨.bl (rowOf rows z).isSome,H2,I2.tok _,?_,q2⟩
 cases e:rowOf rows z with
 | none=>rw [(hf z).1 e];rfl
 | some ns=>obtain⟨ad,e1,_⟩:=(hf z).2 ns e;rw [e1];rfl
inductive RP (w:World) (K:PySem.W.Frag) (x:V) (y:V) (H:Hp) (Q:VK):Prop where
 | mk:∀a rows z ns,x=.ref a->KTab w K a rows->y=.str z->rowOf rows z=some ns->(∀ad,fY K H ad (ns.map V.int)->Q (.ref ad) H)->RP w K x y H Q
noncomputable def VM (w:World) (K:PySem.W.Frag):R2:=fun x y H Q=>RP w K x y H Q
theorem Xi:M8 X (VM X.w X.K):=by
 intro value slice pins s σ H x y v u Q I rx ry h hs
 obtain⟨a,rows,z,ns,rfl,T,rfl,e,q⟩:=h
 cases rx
 obtain⟨t,rfl⟩:=ry
 obtain⟨f,M,hsm,hf⟩:=T.map (P:=X.prog) I.kIn
 obtain⟨ad,e1,e2⟩:=(hf z).2 ns e
 exact tail_any M.typeIs PySem.F.slot_dict_getitem.lookup (wpAny_getItem_of (k:=(Sum.inr z:Key)) (lg X.prog X.w z t) M e1 ⟨.ref ad,H,I.tok _,rfl,q ad (e2 H)⟩) hs
theorem QT (ho:PE X o td) (hi:PE X i ty) (hs:KJ i):PE X (.Subscript o i pos) (Vm (VM X.w X.K) td ty):=aU Xi ho hi hs
end
noncomputable def wJ (K:PySem.W.Frag) (H:Hp) (a:Addr) (xs:List V):Prop:=bT K H a xs∨fY K H a xs
theorem aM.seqT {K:PySem.W.Frag} {H H':Hp} {a:Addr} {xs:List V} (e:aM H H') (h:fY K H a xs):fY K H' a xs:=by
 rcases h with (h | ⟨o,h⟩) | h
 ·exact .inl (.inl (e _ _ h))
 ·exact .inl (.inr ⟨o,e _ _ h⟩)
 ·exact .inr h
theorem aM.seqA {K:PySem.W.Frag} {H H':Hp} {a:Addr} {xs:List V} (e:aM H H') (h:wJ K H a xs):wJ K H' a xs:=h.elim (fun h=>.inl (e.seq h)) fun h=>.inr (e.seqT h)
noncomputable def lq (p:Addr) (H H':Hp):Prop:=∀b o,b≠p->H b=some o->H' b=some o
theorem lq.refl {p:Addr} (H:Hp):lq p H H:=fun _ _ _ e=>e
theorem lq.trans {p:Addr} {H H1 H2:Hp} (a:lq p H H1) (b:lq p H1 H2):lq p H H2:=fun c o n e=>b c o n (a c o n e)
theorem lq.of_same {p:Addr} {H H1:Hp} (a:aM H H1):lq p H H1:=fun c o _ e=>a c o e
theorem lq.write {p:Addr} {H:Hp} {o:HO}:lq p H (upd H p o):=fun b u n e=>by rw [aG n];exact e
theorem lq.seqT {K:PySem.W.Frag} {H H':Hp} {p a C dx:Addr} {fs:List (Str×V)} {xs:List V} (e:lq p H H') (hp:H p=some (.ins C dx fs)) (h:fY K H a xs):fY K H' a xs:=by
 rcases h with (h | ⟨o,h⟩) | h
 ·exact .inl (.inl (e _ _ (uK h hp (by intro z;cases z)) h))
 ·exact .inl (.inr ⟨o,e _ _ (uK h hp (by intro z;cases z)) h⟩)
 ·exact .inr h
theorem lq.seqL {K:PySem.W.Frag} {H H':Hp} {p a C dx:Addr} {fs:List (Str×V)} {xs:List V} (e:lq p H H') (hp:H p=some (.ins C dx fs)) (h:bT K H a xs):bT K H' a xs:=by
 rcases h with (h | ⟨o,h⟩) | h
 ·exact .inl (.inl (e _ _ (uK h hp (by intro z;cases z)) h))
 ·exact .inl (.inr ⟨o,e _ _ (uK h hp (by intro z;cases z)) h⟩)
 ·exact .inr h
theorem lq.seqA {K:PySem.W.Frag} {H H':Hp} {p a C dx:Addr} {fs:List (Str×V)} {xs:List V} (e:lq p H H') (hp:H p=some (.ins C dx fs)) (h:wJ K H a xs):wJ K H' a xs:=h.elim (fun h=>.inl (e.seqL hp h)) fun h=>.inr (e.seqT hp h)
theorem Oj {K:PySem.W.Frag} {H:Hp} {a:Addr} {xs:List V} {Q:VK} (h:wJ K H a xs) (k:∀H' u,aM H H'->fY K H' u xs->Q (.ref u) H'):
  ∃p ys,[V.ref a]=[.ref p]/\((bT K H p ys/\∀l,H l=none->Q (.ref l) (upd H l (.tup ys)))∨(fY K H p ys/\Q (.ref p) H)):=by
 rcases h with h | h
 ·exact⟨a,xs,rfl,.inl ⟨h,fun l hl=>k _ _ (aB hl) (fY.of au)⟩⟩
 ·exact⟨a,xs,rfl,.inr ⟨h,k _ _ (aM.refl _) h⟩⟩
theorem tZ {X:Cx}:jC X (.type "tuple") (fun xs H Q=>∃a ys,xs=[.ref a]/\wJ X.K H a ys/\∀H' u,aM H H'->fY X.K H' u ys->Q (.ref u) H'):=by
 intro pins s σ H xs us Q I r h
 obtain⟨a,ys,rfl,hq,q⟩:=h
 exact Ce pins s σ H _ us Q I r (Oj hq q)
section
variable {es:List Expr} {env:Env}
theorem bQ {a b c}:starEach (.Tuple a b c:: es) env=(false,eval (.Tuple a b c) env):: starEach es env:=rfl
theorem aQ {a b}:starEach (.List a b:: es) env=(false,eval (.List a b) env):: starEach es env:=rfl
theorem ao {a b c}:starEach (.Constant a b c:: es) env=(false,eval (.Constant a b c) env):: starEach es env:=rfl
theorem aj {a b}:starEach (.Name a b:: es) env=(false,eval (.Name a b) env):: starEach es env:=rfl
theorem aW {a b c d}:starEach (.Call a b c d:: es) env=(false,eval (.Call a b c d) env):: starEach es env:=rfl
theorem bG {a b c d}:starEach (.BinOp a b c d:: es) env=(false,eval (.BinOp a b c d) env):: starEach es env:=rfl
theorem bF {a b c}:starEach (.Attribute a b c:: es) env=(false,eval (.Attribute a b c) env):: starEach es env:=rfl
theorem aC {a b c}:starEach (.Subscript a b c:: es) env=(false,eval (.Subscript a b c) env):: starEach es env:=rfl
theorem cP {a b c d}:starEach (.ListComp a b c d:: es) env=(false,eval (.ListComp a b c d) env):: starEach es env:=rfl
theorem Gy {a b c d}:starEach (.Compare a b c d:: es) env=(false,eval (.Compare a b c d) env):: starEach es env:=rfl
theorem Jr {a b c d}:starEach (.IfExp a b c d:: es) env=(false,eval (.IfExp a b c d) env):: starEach es env:=rfl
end
section
variable {X:Cx} {scope:Scope} {x:Str} {js:List Nat} {cl:List (Str×Addr)} {C:Addr} {s:Shared} {H:Hp} {ex:List Addr}
end
noncomputable def cL (H:Hp):List Addr->List (List V)->Prop:=Paired fun r vs=>H r=some (.tup vs)
theorem cL.same {H H':Hp} (s:aM H H'):∀{rs:List Addr} {vss:List (List V)},cL H rs vss->cL H' rs vss
 | _,_,.nil=>.nil
 | _,_,.cons h t=>.cons (s _ _ h) (cL.same s t)
theorem cL.append {H:Hp}:∀{rs rs':List Addr} {vss vss':List (List V)},cL H rs vss->cL H rs' vss'->cL H (rs ++ rs') (vss ++ vss')
 | _,_,_,_,.nil,q=>q
 | _,_,_,_,.cons h t,q=>.cons h (cL.append t q)
section
variable {X:Cx}
end
section
variable {X:Cx}
end
section
variable {P:Program} {w:World} {K:PySem.W.Frag} {mg:Str->Option Value} {base:Heap} {N:List Str} {qual:Str} {scope:Scope} {f:Addr} {cd:Value} {A:Around} {outer:List Env} {s:Shared} {H:Hp} {E:XK}
end
structure Pn (K:PySem.W.Frag) (C:Addr):Prop where
 ex:∃(nm q:Str) (Nn:Addr) (bs bm bmB:List Value) (hdct:Bool) (sn:List Str) (sub:List Value) (ab:Bool) (col:Option Bool) (dd:Option Addr) (k0 k1 k2 k3 k5:Option Value) (B newId initId:String) (mN:Str->Option Value),
  ExcBaseFacts B newId initId bmB/\bm.contains (.type "BaseException")=true/\mN "__init__" =none/\
  ∀h:Heap,K.In h->h.get? C=some (excClassObj nm q C Nn bs bm hdct sn sub ab col dd k0 k1 k2 k3 k5 newId)/\h.Ns Nn mN/\OwnTail h bmB bm
section
variable {P:Program} {w:World} {K:PySem.W.Frag} {mg:Str->Option Value} {base:Heap} {N:List Str} {qual:Str} {scope:Scope} {f:Addr} {cd:Value} {A:Around} {outer:List Env} {s:Shared} {H:Hp} {E:XK}
end
section
variable {X:Cx} {pins:List (Addr×Obj)} {σ:St} {H:Hp} {s:Shared} {E:Value->Shared->Prop}
end
section
variable {X:Cx} {pins:List (Addr×Obj)} {σ:St} {H:Hp} {s:Shared}
end
structure ExcAt (K:PySem.W.Frag) (C:Addr):Prop where
 ex:∃(nm q:Str) (Nn:Addr) (bs bm:List Value) (hdct:Bool) (sn:List Str) (sub:List Value) (ab:Bool) (col:Option Bool) (dd:Option Addr) (k0 k1 k2 k3 k5:Option Value) (newId:String),bm.contains (.type "BaseException")=true/\
  ∀h:Heap,K.In h->h.get? C=some (excClassObj nm q C Nn bs bm hdct sn sub ab col dd k0 k1 k2 k3 k5 newId)
section
variable {prog:Program} {w:World} {A:Around} {E:Value->Shared->Prop} {h:Heap} {g:Array GenState} {d:Drawn} {t:Nat} {os:OsState} {a:Addr} {o:Obj} {C:Addr}
end
noncomputable abbrev JT:List Value:=[.type "ValueError",.type "Exception",.type "BaseException",.type "object"]
noncomputable def M7 (K:PySem.W.Frag) (N:Addr) (x:Str):Option Value:=match K.lookup N with
 | some o=>(match o.data with | .dict es _=>nsFind es x | _=>none)
 | none=>none
theorem Ol {K:PySem.W.Frag} {h:Heap} {N:Addr} (X:K.In h) (ok:PySem.W.nsOkIn K N=true):h.nsMap N=M7 K N:=by
 funext x
 unfold PySem.W.nsOkIn at ok
 split at ok
 ·rename_i look
  unfold Heap.nsMap M7
  rw [X _ _ look,look]
 ·cases ok
theorem M9 {K:PySem.W.Frag} {N:Addr} {x:Str} (e:PySem.W.nsIn K N x=some none):M7 K N x=none:=by
 unfold PySem.W.nsIn at e
 split at e
 ·rename_i look
  split at e
  ·cases e
  ·rename_i f
   unfold M7
   rw [look]
   show nsFind _ _=none
   unfold nsFind findBy
   rw [<-Array.find?_toList,f]
   rfl
 ·cases e
theorem DX {K:PySem.W.Frag}:∀{l:List Value},PySem.W.tailIn K JT l=true->l.contains (.type "BaseException")=true
 | [],e=>by simp [PySem.W.tailIn,JT] at e
 | v:: r,e=>by
  unfold PySem.W.tailIn at e
  rcases Bool.or_eq_true_iff.mp e with z | z
  ·rw [beq_iff_eq.mp z];decide +kernel
  ·split at z
   ·split at z
    ·simp only [Bool.and_eq_true] at z
     rw [List.contains_cons,DX z.2,Bool.or_true]
    ·cases z
   ·cases z
theorem Pn.ofIn {K:PySem.W.Frag} {C:Addr} (z:PySem.W.excIn K C JT "ValueError.__new__" =true):Pn K C:=by
 unfold PySem.W.excIn at z
 split at z
 ·rename_i od kd slo look
  split at z
  ·rename_i C1 up a0 a1 a2 a3 nid a5 em es
   simp only [Bool.and_eq_true,beq_iff_eq,Bool.not_eq_true'] at z
   obtain⟨⟨⟨⟨⟨x1,x2⟩,x3⟩,x4⟩,x5⟩,x6⟩:=z
   subst x1 x2
   obtain⟨g1,g2,g3,g4,g5,g6,g7,g8,g9,g10,g11⟩:=kd
   dsimp only at em x3 x5 x6
   subst em x3
   have hs:slo= #[a0,a1,a2,a3,some (.builtin "ValueError.__new__"),a5]:=by
    obtain⟨l⟩:=slo
    simp only at es
    rw [es]
   subst hs
   refine⟨⟨g1,g5,g4,g2,up,JT,g6,g7,g8,g9,g10,od,a0,a1,a2,a3,a5, "ValueError", "ValueError.__new__", "ValueError.__init__",M7 K g4,PySem.F.excBase_ValueError,DX x4,M9 x6,fun h X=>⟨X _ _ look,?_,PySem.W.tail_of_in X x4⟩⟩⟩
   rw [<-Ol X x5]
   exact .of_isNs (PySem.W.isNs_of_in X x5)
  ·cases z
 ·cases z
structure XS (K:PySem.W.Frag) (C:Addr):Prop where
 cls:(PySem.W.clsIn K C).isSome=true
 ga:PySem.W.findIn K (.ref C) "__getattribute__" =some (some (.builtin "BaseException.__getattribute__"))
 gn:PySem.W.findIn K (.ref C) "__getattr__" =some none
 cl:PySem.W.findIn K (.ref C) "__class__" =some (some (.builtin "object.__class__"))
 ob:PySem.W.subIn K (.ref C) (.type "object")=some true
 be:PySem.W.subIn K (.ref C) (.type "BaseException")=some true
section
variable {P:Program} {w:World} {K:PySem.W.Frag} {mg:Str->Option Value} {base:Heap}
end
end L2
namespace L2
open PySem
section
variable {prog:Program} {w:World} {A:Around} {E:Value->Shared->Prop} {h:Heap} {g:Array GenState} {d:Drawn} {t:Nat} {os:OsState}
variable {nm q:Str} {C N:Addr} {bs bm bmB:List Value} {hdct:Bool} {sn:List Str} {sub:List Value} {ab:Bool} {col:Option Bool} {dd:Option Addr} {k0 k1 k2 k3 k5:Option Value} {B newId initId:String}
end
section
variable {prog:Program} {w:World} {A:Around} {E:Value->Shared->Prop} {h:Heap} {g:Array GenState} {d:Drawn} {t:Nat} {os:OsState}
variable {nm q:Str} {C N:Addr} {bs bm bmB:List Value} {hdct:Bool} {sn:List Str} {sub:List Value} {ab:Bool} {col:Option Bool} {dd:Option Addr} {k0 k1 k2 k3 k5:Option Value} {B newId initId:String}
end
end L2
namespace L2
open PySem Builtin Builtin.ObjectAttr
noncomputable def Gf:List Value->Bool
 | .ref _:: r=>Gf r
 | l=>l == JT
structure Yr (K:PySem.W.Frag) (C:Addr):Prop where
 xc:XS K C
 sa:PySem.W.findIn K (.ref C) "__setattr__" =some (some (.builtin "object.__setattr__"))
 ov:(PySem.W.clsIn K C).any (fun cd=>Gf cd.mro && cd.hasDict)=true
section
variable {prog:Program} {w:World} {A:Around} {E:Value->Shared->Prop} {h:Heap} {g:Array GenState} {d:Drawn} {t:Nat} {os:OsState} {x C:Addr} {K:PySem.W.Frag} {mA:Str->Option Value} {name:Str} {v:Value}
end
end L2
namespace L2
open PySem PySem.Spec PyProof.Rows
section
variable {X:Cx} {pins:List (Addr×Obj)} {σ:St} {H:Hp} {s:Shared} {a C dx:Addr} {fs:List (Str×V)} {f:Str} {v:V} {A:Around} {E:Value->Shared->Prop}
end
section
variable {X:Cx} {e o value:Expr} {f:Str} {pos pos':Pos} {ta tv:TE}
end
noncomputable def QB (K:PySem.W.Frag) (C f:Addr):Bool:=match K.lookup C with
 | some o=>(match o.data with
  | .cls kd=>o.cls == .type "type" && kd.mro.head? == some (.ref C) && PySem.W.tailIn K JT kd.mro.tail && !kd.hasDel && PySem.W.nsOkIn K kd.ns && M7 K kd.ns "__init__" == some (.ref f) && o.slots.size == 6 && o.slots[4]? == some (some (.builtin "ValueError.__new__"))
  | _=>false)
 | none=>false
structure zP (K:PySem.W.Frag) (C f:Addr):Prop where
 ex:∃(nm q:Str) (Nn:Addr) (bs bm:List Value) (hdct:Bool) (sn:List Str) (sub:List Value) (ab:Bool) (col:Option Bool) (dd:Option Addr) (k0 k1 k2 k3 k5:Option Value) (mN:Str->Option Value),
  mN "__init__" =some (.ref f)/\∀h:Heap,K.In h->h.get? C=some (excClassObj nm q C Nn bs bm hdct sn sub ab col dd k0 k1 k2 k3 k5 "ValueError.__new__")/\h.Ns Nn mN/\OwnTail h JT bm
theorem X8 {α:Type}:∀{l:List α},l.length=6->∃a b c d e f,l=[a,b,c,d,e,f]
 | [a,b,c,d,e,f],_=>⟨a,b,c,d,e,f,rfl⟩
theorem zP.ofIn {K:PySem.W.Frag} {C f:Addr} (z:QB K C f=true):zP K C f:=by
 unfold QB at z
 split at z
 ·rename_i o look
  obtain⟨oc,od,dt,slo⟩:=o
  dsimp only at z
  split at z
  ·rename_i kd
   simp only [Bool.and_eq_true,beq_iff_eq,Bool.not_eq_true'] at z
   obtain⟨⟨⟨⟨⟨⟨⟨x1,x2⟩,x3⟩,x4⟩,x5⟩,x6⟩,x7⟩,x8⟩:=z
   subst x1
   obtain⟨g1,g2,g3,g4,g5,g6,g7,g8,g9,g10,g11⟩:=kd
   dsimp only at x2 x3 x4 x5 x6
   obtain⟨sl⟩:=slo
   obtain⟨a0,a1,a2,a3,a5,rfl⟩:∃a0 a1 a2 a3 a5,sl=[a0,a1,a2,a3,some (.builtin "ValueError.__new__"),a5]:=by
    obtain⟨a0,a1,a2,a3,a4,a5,rfl⟩:=X8 (show sl.length=6 from x7)
    have e:a4=some (.builtin "ValueError.__new__"):=Option.some.inj (show some a4=_ from x8)
    subst e
    exact⟨a0,a1,a2,a3,a5,rfl⟩
   obtain⟨up,rfl⟩:∃up,g3=.ref C:: up:=by
    cases g3 with
    | nil=>cases x2
    | cons v r=>cases (show some v=some (Value.ref C) from x2);exact⟨r,rfl⟩
   subst x4
   refine⟨⟨g1,g5,g4,g2,up,g6,g7,g8,g9,g10,od,a0,a1,a2,a3,a5,M7 K g4,x6,fun h X=>⟨X _ _ look,?_,PySem.W.tail_of_in X x3⟩⟩⟩
   rw [<-Ol X x5]
   exact .of_isNs (PySem.W.isNs_of_in X x5)
  ·cases z
 ·cases z
section
variable {X:Cx} {CX:Dz} {k:Nat} {C B f:Addr} {fd:FuncData} {ps:List Str} {sp:Sp} {E:XK} {x:Str} {p pos apos:Pos} {e:Expr} {es:List Expr} {t:TA}
end
section
variable {X:Cx} {CX:Dz} {k:Nat} {C f:Addr} {fd:FuncData} {ps:List Str} {sp:Sp} {E:XK} {x:Str} {p pos:Pos} {e:Expr} {es:List Expr} {t:TA}
end
section
variable {X:Cx} {C:Addr} {x:Str} {p pos:Pos} {e:Expr} {es:List Expr} {t:TA}
end
end L2
namespace L2
open PySem
noncomputable def TV (K:PySem.W.Frag) (C:Addr):Bool:=(PySem.W.clsIn K C).isSome && PySem.W.findIn K (.ref C) "__getattribute__" == some (some (.builtin "BaseException.__getattribute__")) && PySem.W.findIn K (.ref C) "__getattr__" == some none &&
 PySem.W.findIn K (.ref C) "__class__" == some (some (.builtin "object.__class__")) && PySem.W.subIn K (.ref C) (.type "object") == some true && PySem.W.subIn K (.ref C) (.type "BaseException") == some true
theorem XS.ofIn {K:PySem.W.Frag} {C:Addr} (h:TV K C=true):XS K C:=by
 simp only [TV,Bool.and_eq_true,beq_iff_eq] at h
 obtain⟨⟨⟨⟨⟨a,b⟩,c⟩,d⟩,e⟩,f⟩:=h
 exact⟨a,b,c,d,e,f⟩
noncomputable def W8 (K:PySem.W.Frag) (C:Addr):Bool:=TV K C && PySem.W.findIn K (.ref C) "__setattr__" == some (some (.builtin "object.__setattr__")) && (PySem.W.clsIn K C).any (fun cd=>Gf cd.mro && cd.hasDict)
theorem Yr.ofIn {K:PySem.W.Frag} {C:Addr} (h:W8 K C=true):Yr K C:=by
 simp only [W8,Bool.and_eq_true,beq_iff_eq] at h
 obtain⟨⟨a,b⟩,c⟩:=h
 exact⟨.ofIn a,b,c⟩
end L2
namespace L2
open PySem PySem.Spec PyProof.Rows
section
variable {P:Program} {w:World} {K:PySem.W.Frag} {mg:Str->Option Value} {base:Heap} {N:List Str} {qual:Str} {scope:Scope} {f:Addr} {cd:Value} {A:Around} {outer:List Env} {s:Shared} {H:Hp} {E:XK}
end
section
variable {M:Model} {A:Around} {E:Value->Shared->Prop} {s:Shared} {env:Env} {nm q:Str} {C N:Addr} {bs bm:List Value} {hdct:Bool} {sn:List Str} {sub:List Value} {ab:Bool} {col:Option Bool} {dd:Option Addr} {k0 k1 k2 k3 k5:Option Value} {newId:String}
end
section
variable {P:Program} {w:World} {K:PySem.W.Frag} {mg:Str->Option Value} {base:Heap} {N:List Str} {qual:Str} {scope:Scope} {f:Addr} {cd:Value} {A:Around} {outer:List Env} {s:Shared} {H:Hp} {E:XK}
end
section
variable {M:Model} {A:Around} {E:Value->Shared->Prop} {nm q:Str} {C N:Addr} {bs bm:List Value} {hdct:Bool} {sn:List Str} {sub:List Value} {ab:Bool} {col:Option Bool} {dd:Option Addr} {k0 k1 k2 k3 k5:Option Value} {newId:String}
end
section
variable {P:Program} {w:World} {K:PySem.W.Frag} {mg:Str->Option Value} {base:Heap}
end
theorem zP.at {K:PySem.W.Frag} {C f:Addr} (c:zP K C f) {h:Heap} (X:K.In h):ExcAt K C:=by
 obtain⟨nm,q,Nn,bs,bm,hdct,sn,sub,ab,col,dd,k0,k1,k2,k3,k5,mN,_,hf⟩:=c.ex
 exact⟨⟨nm,q,Nn,bs,bm,hdct,sn,sub,ab,col,dd,k0,k1,k2,k3,k5,_,(hf h X).2.2.hasType (X:= "BaseException") (b:=true) (by decide +kernel),fun h X=>(hf h X).1⟩⟩
noncomputable def Ym (a b:TI):TI:=fun σ H R=>a σ H R∨b σ H R
theorem R1 {X:Cx} {tg it:Expr} {a b:TI} (h1:PI X tg it a) (h2:PI X tg it b):PI X tg it (Ym a b):=fun pins s σ H R I h=>h.elim (h1 pins s σ H R I) (h2 pins s σ H R I)
theorem GZ {js:List Nat} {tt:TT} {te:TE} {σ:St} {Qd:List V->Hp->Prop} {K:PySem.W.Frag} {a:Addr} {xs:List V} {H:Hp} (Pv:Nat->List V->Hp->Prop) (hn:xs.length<=sizeLine) (h0:Pv 0 [] H) (hl:∀i ys H,Pv i ys H->ys.length<=i) (hq:∀i ys H,i<=xs.length->Pv i ys H->fY K H a xs)
  (hs:∀i x ys H,xs[i]?=some x->Pv i ys H->tt (some x:: dX σ js) H fun b H4=>if b=true then te (some x:: dX σ js) H4 fun y H5=>Pv (i+1) (ys ++ [y]) H5 else Pv (i+1) ys H4)
  (hd:∀ys H,Pv xs.length ys H->Qd ys H):CompEnd js tt te σ Qd (Vj K a) H:=by
 refine⟨fun i m ys H=>m=xs.length - i/\i<=xs.length/\Pv i ys H,⟨xs.length,by simp,Nat.zero_le _,h0⟩,?_⟩
 rintro i m ys H ⟨rfl,hi,p⟩
 have hlen:=hl i ys H p
 have q:=hq i ys H hi p
 by_cases hlt:i <xs.length
 ·refine .inr ⟨⟨xs,xs[i],q,by simp [hlt]⟩,by omega,Pv (i+1),fun ys' H' p'=>⟨xs.length - (i+1),by omega,rfl,hlt,p'⟩,fun x H' y=>?_⟩
  obtain⟨e,y⟩:=y
  subst e
  exact hs i x ys _ (y xs q) p
 ·have e:i=xs.length:=by omega
  subst e
  exact .inl ⟨⟨xs,q,Nat.le_refl _⟩,by omega,hd ys H p⟩
theorem Oo {js:List Nat} {tt:TT} {te:TE} {σ σ0:St} {Qd:List V->Hp->Prop} {K:PySem.W.Frag} {a:Addr} {xs:List V} {H:Hp} {tl:TE} (ht:∀R:V->Hp->Prop,R (.ref a) H->tl σ0 H R) (ha:wJ K H a xs) (Pv:Nat->List V->Prop) (hn:xs.length<=sizeLine) (h0:Pv 0 []) (hl:∀i ys,Pv i ys->ys.length<=i)
  (hs:∀i x ys,xs[i]?=some x->Pv i ys->tt (some x:: dX σ js) H fun b H4=>if b=true then te (some x:: dX σ js) H4 fun y H5=>H5=H/\Pv (i+1) (ys ++ [y]) else H4=H/\Pv (i+1) ys)
  (hd:∀ys,Pv xs.length ys->Qd ys H):Ym (R8 K tl) (WW K tl) σ0 H (CompEnd js tt te σ Qd):=by
 rcases ha with ha | ha
 ·refine .inl (ht _ ⟨a,rfl,⟨xs,ha⟩,iZ (K:=K) (a:=a) (xs:=xs) (fun i ys H'=>H'=H/\Pv i ys) hn ⟨rfl,h0⟩ (fun i ys _ z=>hl i ys z.2) (fun i ys H' _ z=>by rw [z.1];exact ha) (fun i x ys H' hx z=>?_) fun ys H' z=>?_⟩)
  ·obtain⟨rfl,z⟩:=z;exact hs i x ys hx z
  ·obtain⟨rfl,z⟩:=z;exact hd ys z
 ·refine .inr (ht _ ⟨a,rfl,⟨xs,ha⟩,GZ (K:=K) (a:=a) (xs:=xs) (fun i ys H'=>H'=H/\Pv i ys) hn ⟨rfl,h0⟩ (fun i ys _ z=>hl i ys z.2) (fun i ys H' _ z=>by rw [z.1];exact ha) (fun i x ys H' hx z=>?_) fun ys H' z=>?_⟩)
  ·obtain⟨rfl,z⟩:=z;exact hs i x ys hx z
  ·obtain⟨rfl,z⟩:=z;exact hd ys z
theorem wJ.len {K:PySem.W.Frag} {H:Hp} {a:Addr} {xs:List V} (h:wJ K H a xs):Wb K (.ref a) H xs.length:=h.elim (fun h=>.inl ⟨xs,h,rfl⟩) fun h=>.inr ⟨xs,h,rfl⟩
theorem vC {X:Cx} {K:PySem.W.Frag} (hK:X.K=K):M8 X (UG K):=by subst hK;exact aO
theorem ue {X:Cx} {K:PySem.W.Frag} (hK:X.K=K):M8 X (Ul K):=by subst hK;exact dw
section
variable {P:Program} {w:World} {K:PySem.W.Frag} {mg:Str->Option Value} {base:Heap} {N:List Str} {qual:Str} {scope:Scope} {f:Addr} {cd:Value} {A:Around} {outer:List Env} {s:Shared} {H:Hp} {E:XK}
end
section
variable {κ:Type} [DecidableEq κ]
noncomputable def cC (kvs:List (κ×V)) (k:κ):Option V:=(kvs.find? fun kv=>decide (kv.1=k)).map (·.2)
noncomputable def putK (kvs:List (κ×V)) (k:κ) (v:V):List (κ×V):=
 if (kvs.any fun kv=>decide (kv.1=k))=true then kvs.map (fun kv=>if kv.1=k then(kv.1,v) else kv) else kvs ++ [(k,v)]
theorem gH {p:κ×V} {r:List (κ×V)} {k:κ} (e:p.1=k):cC (p:: r) k=some p.2:=by simp [cC,List.find?_cons,e]
theorem gj {p:κ×V} {r:List (κ×V)} {k:κ} (e:¬p.1=k):cC (p:: r) k=cC r k:=by simp [cC,List.find?_cons,e]
theorem qb (k:κ):∀kvs:List (κ×V),(kvs.any fun kv=>decide (kv.1=k))=(cC kvs k).isSome
 | []=>rfl
 | p:: r=>by
  rw [List.any_cons]
  by_cases e:p.1=k
  ·simp only [gH e,decide_eq_true e,Bool.true_or,Option.isSome_some]
  ·rw [gj e,decide_eq_false e,Bool.false_or];exact qb k r
theorem Hi (k j:κ) (y:V):∀kvs:List (κ×V),cC (kvs.map fun kv=>if kv.1=k then(kv.1,y) else kv) j=(cC kvs j).map fun x=>if j=k then y else x
 | []=>rfl
 | p:: r=>by
  have ih:=Hi k j y r
  rw [List.map_cons]
  by_cases h:p.1=k
  ·rw [if_pos h]
   by_cases e:p.1=j
   ·rw [gH (p:=(p.1,y)) e,gH e,Option.map_some,if_pos (e.symm.trans h)]
   ·rw [gj (p:=(p.1,y)) e,gj e,ih]
  ·rw [if_neg h]
   by_cases e:p.1=j
   ·rw [gH (p:=p) e,gH e,Option.map_some,if_neg (fun z=>h (e.trans z))]
   ·rw [gj (p:=p) e,gj e,ih]
theorem Dd (k j:κ) (y:V):∀kvs:List (κ×V),cC kvs k=none->cC (kvs ++ [(k,y)]) j=if j=k then some y else cC kvs j
 | [],_=>by
  by_cases e:k=j
  ·rw [if_pos e.symm];exact gH (p:=(k,y)) e
  ·rw [if_neg (fun z=>e z.symm)];exact gj (p:=(k,y)) e
 | p:: r,hn=>by
  rw [List.cons_append]
  have hk:¬p.1=k:=fun z=>by rw [gH z] at hn;cases hn
  rw [gj hk] at hn
  have ih:=Dd k j y r hn
  by_cases e:p.1=j
  ·rw [gH e,gH e,if_neg (fun z=>hk (e.trans z))]
  ·rw [gj e,gj e,ih]
theorem Qc (kvs:List (κ×V)) (k j:κ) (y:V):cC (putK kvs k y) j=if j=k then some y else cC kvs j:=by
 unfold putK
 by_cases a:(kvs.any fun kv=>decide (kv.1=k))=true
 ·rw [if_pos a,Hi]
  rw [qb] at a
  by_cases e:j=k
  ·obtain⟨x,hx⟩:=Option.isSome_iff_exists.mp a
   rw [if_pos e,e,hx,Option.map_some,if_pos rfl]
  ·rw [if_neg e]
   cases cC kvs j with
   | none=>rfl
   | some x=>rw [Option.map_some,if_neg e]
 ·rw [if_neg a]
  refine Dd k j y kvs ?_
  rw [qb] at a
  cases q:cC kvs k with
  | none=>rfl
  | some x=>rw [q] at a;exact(a rfl).elim
theorem jE (kvs:List (κ×V)) (k:κ) (v:V):(putK kvs k v).length<=kvs.length+1:=by
 unfold putK
 split
 ·rw [List.length_map];omega
 ·rw [List.length_append,List.length_cons,List.length_nil];omega
theorem lD {kvs:List (κ×V)} {k:κ} (v:V) (h:cC kvs k=none):putK kvs k v=kvs ++ [(k,v)]:=by
 unfold putK
 rw [qb,h]
 exact if_neg (by decide)
theorem qY.isSome_eq {o:Option V} {u:Option Value} (r:qY o u):o.isSome=u.isSome:=by
 cases o with
 | none=>cases u with
  | none=>rfl
  | some _=>exact(show False from r).elim
 | some _=>cases u with
  | none=>exact(show False from r).elim
  | some _=>rfl
theorem qY.getD {o:Option V} {u:Option Value} {d:V} {d':Value} (r:qY o u) (rd:RelV d d'):RelV (o.getD d) (u.getD d'):=by
 cases o with
 | none=>cases u with
  | none=>exact rd
  | some _=>exact(show False from r).elim
 | some _=>cases u with
  | none=>exact(show False from r).elim
  | some _=>exact r
theorem KV.val {kvs:List (κ×V)} {vs:List (κ×Value)} (r:KV kvs vs) (k:κ):qY (cC kvs k) (valueAt vs k):=by
 unfold KV at r
 induction r with
 | nil=>exact True.intro
 | @cons p q ps qs h t ih=>
  obtain⟨h1,h2⟩:=h
  by_cases e:p.1=k
  ·have e':q.1=k:=h1.symm.trans e
   have b:valueAt (q:: qs) k=some q.2:=by simp [valueAt,List.find?_cons,e']
   rw [gH e,b];exact h2
  ·have e':¬q.1=k:=fun z=>e (h1.trans z)
   have b:valueAt (q:: qs) k=valueAt qs k:=by simp [valueAt,List.find?_cons,e']
   rw [gj e,b];exact ih
theorem KV.any {kvs:List (κ×V)} {vs:List (κ×Value)} (r:KV kvs vs) (k:κ):(kvs.any fun kv=>decide (kv.1=k))=vs.any fun kv=>decide (kv.1=k):=by
 unfold KV at r
 induction r with
 | nil=>rfl
 | cons h t ih=>rw [List.any_cons,List.any_cons,ih,h.1]
theorem KV.repl {kvs:List (κ×V)} {vs:List (κ×Value)} (r:KV kvs vs) (k:κ) {y:V} {u:Value} (ry:RelV y u):
  KV (kvs.map fun kv=>if kv.1=k then(kv.1,y) else kv) (vs.map fun kv=>if kv.1=k then(kv.1,u) else kv):=by
 unfold KV at r ⊢
 induction r with
 | nil=>exact .nil
 | @cons p q ps qs h t ih=>
  rw [List.map_cons,List.map_cons]
  refine .cons ?_ ih
  obtain⟨h1,h2⟩:=h
  by_cases e:p.1=k
  ·rw [if_pos e,if_pos (h1.symm.trans e)];exact⟨h1,ry⟩
  ·rw [if_neg e,if_neg (fun z=>e (h1.trans z))];exact⟨h1,h2⟩
theorem KV.put {kvs:List (κ×V)} {vs:List (κ×Value)} (r:KV kvs vs) (k:κ) {y:V} {u:Value} (ry:RelV y u):KV (putK kvs k y) (stored vs k u):=by
 unfold putK stored
 rw [r.any k]
 by_cases e:(vs.any fun kv=>decide (kv.1=k))=true
 ·rw [if_pos e,if_pos e];exact r.repl k ry
 ·rw [if_neg e,if_neg e];exact Paired.snoc r ⟨rfl,ry⟩
theorem KV.keys {kvs:List (κ×V)} {vs:List (κ×Value)} (r:KV kvs vs):kvs.map (·.1)=vs.map (·.1):=by
 unfold KV at r
 induction r with
 | nil=>rfl
 | cons h t ih=>rw [List.map_cons,List.map_cons,ih,h.1]
theorem KV.length {kvs:List (κ×V)} {vs:List (κ×Value)} (r:KV kvs vs):kvs.length=vs.length:=Paired.length r
end
theorem wZ {P:Program} {w:World} {k:Key} {u:Value} (r:RelV (kV k) u):(cz P w).is k u=true:=by
 cases k with
 | inl i=>obtain⟨t,e⟩:=(show ∃t,u=Value.int i t from r);subst e;exact HY P w i t
 | inr x=>obtain⟨t,e⟩:=(show ∃t,u=Value.str x t from r);subst e;exact lg P w x t
theorem CP {P:Program} {w:World}:∀{ks:List Key} {us:List Value},Vals (ks.map kV) us->ItemsAre (cz P w) ks us
 | [],_,r=>by rw [List.map_nil] at r;cases r;exact .nil
 | k:: ks,_,r=>by
  rw [List.map_cons] at r
  cases r with
  | cons h t=>exact .cons (wZ h) (CP t)
noncomputable abbrev KT (H:Hp):List (List Key×V)->List (List Key×Addr×Value)->Prop:=Paired fun p q=>p.1=q.1/\H q.2.1=some (.tup (p.1.map kV))/\RelV p.2 q.2.2
theorem KT.val {H:Hp} {kvs:List (List Key×V)} {xs:List (List Key×Addr×Value)} (r:KT H kvs xs) (k:List Key):qY (cC kvs k) ((atKey xs k).map (·.2)):=by
 induction r with
 | nil=>exact True.intro
 | @cons p q ps qs h t ih=>
  obtain⟨h1,_,h2⟩:=h
  by_cases e:p.1=k
  ·have e':q.1=k:=h1.symm.trans e
   have b:atKey (q:: qs) k=some q.2:=by simp [atKey,List.find?_cons,e']
   rw [gH e,b];exact h2
  ·have e':¬q.1=k:=fun z=>e (h1.trans z)
   have b:atKey (q:: qs) k=atKey qs k:=by simp [atKey,List.find?_cons,e']
   rw [gj e,b];exact ih
theorem KT.repl {H:Hp} {kvs:List (List Key×V)} {xs:List (List Key×Addr×Value)} (r:KT H kvs xs) (k:List Key) {y:V} {u:Value} (ry:RelV y u):
  KT H (kvs.map fun kv=>if kv.1=k then(kv.1,y) else kv) (xs.map (putAt k u)):=by
 induction r with
 | nil=>exact .nil
 | @cons p q ps qs h t ih=>
  rw [List.map_cons,List.map_cons]
  refine .cons ?_ ih
  obtain⟨h1,h2,h3⟩:=h
  unfold putAt
  by_cases e:p.1=k
  ·rw [if_pos e,if_pos (h1.symm.trans e)];exact⟨h1,h2,ry⟩
  ·rw [if_neg e,if_neg (fun z=>e (h1.trans z))];exact⟨h1,h2,h3⟩
theorem KT.put {H:Hp} {kvs:List (List Key×V)} {xs:List (List Key×Addr×Value)} (r:KT H kvs xs) (k:List Key) {b:Addr} {y:V} {u:Value} (hb:H b=some (.tup (k.map kV))) (ry:RelV y u):
  KT H (putK kvs k y) (storedH xs k b u):=by
 have e:(kvs.any fun kv=>decide (kv.1=k))=(atKey xs k).isSome:=by
  rw [qb,(r.val k).isSome_eq,Option.isSome_map]
 unfold putK storedH
 rw [e]
 by_cases q:(atKey xs k).isSome=true
 ·rw [if_pos q,if_pos q];exact r.repl k ry
 ·rw [if_neg q,if_neg q];exact Paired.snoc r ⟨rfl,hb,ry⟩
theorem KT.keeps {H H':Hp} {kvs:List (List Key×V)} {xs:List (List Key×Addr×Value)} (r:KT H kvs xs) (ht:∀b ys,H b=some (.tup ys)->H' b=some (.tup ys)):KT H' kvs xs:=
 Paired.mapP r fun _ _ z=>⟨z.1,ht _ _ z.2.1,z.2.2⟩
section
variable {P:Program} {w:World} {H:Hp} {h:Heap} {a:Addr}
theorem Sx {u:HO} (ok:ut P w H h) (e:Rd H a u):fV P w H h a u:=e.ok ok
theorem qP {kvs:List (Key×V)} (ok:ut P w H h) (e:Rd H a (.dK kvs)):kvs.length<=sizeLine/\(a == sysModules)=false/\∃vs,KV kvs vs/\h.DictOf (cz P w) a vs:=
 show fV P w H h a (.dK kvs) from Sx ok e
theorem Qw {kvs:List (Key×V)} (ok:ut P w H h) (e:H a=some (.dK kvs)):kvs.length<=sizeLine/\(a == sysModules)=false/\∃vs,KV kvs vs/\h.DictOf (cz P w) a vs:=qP ok (.inl e)
theorem uU {ks:List Key} (ok:ut P w H h) (e:H a=some (.tup (ks.map kV))):(tupleKind (cz P w)).is h ks a:=by
 obtain⟨_,its,r,o,h1,h2,n,h3⟩:=(show fV P w H h a (.tup (ks.map kV)) from ok a _ e)
 exact⟨o,its.toArray,n,h1,h2,h3,by simpa using CP r⟩
theorem yN {kvs:List (List Key×V)} (ok:ut P w H h) (e:Rd H a (.dT kvs)):kvs.length<=sizeLine/\(a == sysModules)=false/\
  ∃xs,KT H kvs xs/\h.DictOfH (tupleKind (cz P w)) a xs:=by
 obtain⟨z,y,xs,r,o,es,ep,h1,h2,h3,h4,h5⟩:=(show fV P w H h a (.dT kvs) from Sx ok e)
 refine⟨z,y,xs,r,o,es,ep,h1,h2,h3,h4,fun x hx=>?_,h5⟩
 have all:∀{l:List (List Key×V)} {m:List (List Key×Addr×Value)},KT H l m->∀x∈m,(tupleKind (cz P w)).is h x.1 x.2.1:=by
  intro l m q
  induction q with
  | nil=>intro x hx;exact nomatch hx
  | @cons p q ps qs hq t ih=>
   intro x hx
   rcases List.mem_cons.mp hx with e | hx
   ·subst e
    exact uU ok (by rw [<-hq.1];exact hq.2.1)
   ·exact ih x hx
 exact all r x hx
theorem Wj {kvs:List (List Key×V)} (ok:ut P w H h) (e:H a=some (.dT kvs)):kvs.length<=sizeLine/\(a == sysModules)=false/\
  ∃xs,KT H kvs xs/\h.DictOfH (tupleKind (cz P w)) a xs:=yN ok (.inl e)
end
noncomputable def dZ (H:Hp) (a:Addr) (y:V) (r:Option V):Prop:=
 (∃kvs k,Rd H a (.dK kvs)/\y=kV k/\r=cC kvs k)∨∃kvs k b,Rd H a (.dT kvs)/\y=.ref b/\H b=some (.tup (k.map kV))/\r=cC kvs k
noncomputable def mj (H:Hp) (a:Addr) (y v:V) (H':Hp):Prop:=
 (∃kvs k,H a=some (.dK kvs)/\y=kV k/\kvs.length <sizeLine/\H'=upd H a (.dK (putK kvs k v)))∨
 ∃kvs k b,H a=some (.dT kvs)/\y=.ref b/\H b=some (.tup (k.map kV))/\kvs.length <sizeLine/\H'=upd H a (.dT (putK kvs k v))
theorem dZ.k {H:Hp} {a:Addr} {kvs:List (Key×V)} {k:Key} (e:H a=some (.dK kvs)):dZ H a (kV k) (cC kvs k):=.inl ⟨kvs,k,.inl e,rfl,rfl⟩
theorem mj.k {H:Hp} {a:Addr} {kvs:List (Key×V)} {k:Key} {v:V} (e:H a=some (.dK kvs)) (hl:kvs.length <sizeLine):mj H a (kV k) v (upd H a (.dK (putK kvs k v))):=.inl ⟨kvs,k,e,rfl,hl,rfl⟩
section
variable {X:Cx} {pins:List (Addr×Obj)} {σ:St} {H:Hp} {s:Shared} {a:Addr} {y v:V} {u r:Value} {o:Option V} {A:Around} {E:Value->Shared->Prop}
theorem Inv.big (I:Inv X pins σ H s):sysModules <s.heap.objs.size:=by
 have h:mainGlobals <s.heap.objs.size:=(I.mod.glob.keeps I.bk).lt
 exact Nat.lt_trans (by decide) h
theorem CJ {Q:Value->Shared->Prop} (hu:A.units+1 <cLine) (I:Inv X pins σ H s) (g:dZ H a y (some v)) (ry:RelV y u) (h:∀w' s',Inv X pins σ H s'->RelV v w'->Q w' s'):
  wpAny (model X.prog X.w) A (getItem (.ref a) u) Q E s:=by
 rcases g with ⟨kvs,k,e,ey,l⟩ | ⟨kvs,k,b,e,ey,eb,l⟩
 ·subst ey
  obtain⟨z,hd,vs,rel,dd⟩:=qP I.hok e
  obtain⟨w',hw,rw'⟩:=qY.some_of (v:=v) (o:=valueAt vs k) (by rw [l];exact rel.val k)
  exact wpAny_getItem_of (wZ ry) dd.mapOf hw (h w' _ (I.tok _) rw')
 ·subst ey
  cases (show u=Value.ref b from ry)
  obtain⟨z,hd,xs,rel,dd⟩:=yN I.hok e
  obtain⟨w',hw,rw'⟩:=qY.some_of (v:=v) (o:=(atKey xs k).map (·.2)) (by rw [l];exact rel.val k)
  obtain⟨p,hp,hp2⟩:=Option.map_eq_some_iff.mp hw
  refine wpAny_getItem_heap (tupleKind_room_in1 hu) (uU I.hok eb) dd hp ?_
  rw [hp2]
  exact h w' _ (I.tok _) rw'
theorem Yc {Q:Value->Shared->Prop} (hu:A.units+1 <cLine) (I:Inv X pins σ H s) (g:dZ H a y o) (ry:RelV y u) (h:∀s',Inv X pins σ H s'->Q (.bool o.isSome) s'):
  wpAny (model X.prog X.w) A (compareOp .In u (.ref a)) Q E s:=by
 rcases g with ⟨kvs,k,e,ey,l⟩ | ⟨kvs,k,b,e,ey,eb,l⟩
 ·subst ey
  obtain⟨z,hd,vs,rel,dd⟩:=qP I.hok e
  refine wpAny_in_of (wZ ry) hd dd.mapOf ?_
  rw [<-(rel.val k).isSome_eq,<-l]
  exact h _ (I.tok _)
 ·subst ey
  cases (show u=Value.ref b from ry)
  obtain⟨z,hd,xs,rel,dd⟩:=yN I.hok e
  refine wpAny_in_heap (tupleKind_room_in1 hu) (uU I.hok eb) hd dd ?_
  have q:=(rel.val k).isSome_eq
  rw [Option.isSome_map] at q
  rw [<-q,<-l]
  exact h _ (I.tok _)
theorem QJ {Q:Value->Shared->Prop} (hu:A.units+1 <cLine) (I:Inv X pins σ H s) (g:dZ H a y o) (ry:RelV y u) (h:∀s',Inv X pins σ H s'->Q (.bool (!o.isSome)) s'):
  wpAny (model X.prog X.w) A (compareOp .NotIn u (.ref a)) Q E s:=by
 rcases g with ⟨kvs,k,e,ey,l⟩ | ⟨kvs,k,b,e,ey,eb,l⟩
 ·subst ey
  obtain⟨z,hd,vs,rel,dd⟩:=qP I.hok e
  refine wpAny_notIn_of (wZ ry) hd dd.mapOf ?_
  rw [<-(rel.val k).isSome_eq,<-l]
  exact h _ (I.tok _)
 ·subst ey
  cases (show u=Value.ref b from ry)
  obtain⟨z,hd,xs,rel,dd⟩:=yN I.hok e
  refine wpAny_notIn_heap (tupleKind_room_in1 hu) (uU I.hok eb) hd dd ?_
  have q:=(rel.val k).isSome_eq
  rw [Option.isSome_map] at q
  rw [<-q,<-l]
  exact h _ (I.tok _)
theorem zH {h':Heap} {t':Nat} {ob:HO} (I:Inv X pins σ H s) (mu:VB (H a)) (hs:Heap.SameBut a s.heap h') (he:∃q,h'.get? a=some q) (new:fV X.prog X.w (upd H a ob) h' a ob):
  Inv X pins σ (upd H a ob) { s with heap:=h',toks:=t' }:=
 I.write (x:=a) (e:=a) mu (.inl rfl) (fun b q hb z=>(hs.2 b hb).trans z) he new
theorem Fv {P:Program} {w:World} {H':Hp} {h':Heap} {kvs:List (Key×V)} {vs:List (Key×Value)} (z:kvs.length<=sizeLine) (hd:(a == sysModules)=false) (rel:KV kvs vs) (dd:h'.DictOf (cz P w) a vs):
  fV P w H' h' a (.dK kvs):=⟨z,hd,vs,rel,dd⟩
theorem Cw {H':Hp} {Q:Unit->Shared->Prop} (hu:A.units+1 <cLine) (I:Inv X pins σ H s) (g:mj H a y v H') (ry:RelV y u) (rv:RelV v r) (h:∀s',Inv X pins σ H' s'->Q () s'):
  wpAny (model X.prog X.w) A (setItem (.ref a) u r) Q E s:=by
 rcases g with ⟨kvs,k,e,ey,l,eH⟩ | ⟨kvs,k,b,e,ey,eb,l,eH⟩
 ·subst ey eH
  obtain⟨z,hd,vs,rel,dd⟩:=Qw I.hok e
  have hz:vs.length<=sizeLine:=by rw [<-rel.length];exact z
  have hl:(putK kvs k v).length<=sizeLine:=by have:=jE kvs k v;omega
  refine wpAny_setItem_pairs (hsz:=hz) (wZ ry) dd fun h' dd' hs=>h _ ?_
  have he:∃q,h'.get? a=some q:=let ⟨q,_,_,hq,_⟩:=dd';⟨q,hq⟩
  exact zH I (by rw [e];exact True.intro) hs he (Fv hl hd (rel.put k rv) dd')
 ·subst ey eH
  cases (show u=Value.ref b from ry)
  obtain⟨z,hd,xs,rel,dd⟩:=Wj I.hok e
  have hz:xs.length<=sizeLine:=by rw [<-Paired.length rel];exact z
  have hl:(putK kvs k v).length<=sizeLine:=by have:=jE kvs k v;omega
  refine wpAny_setItem_heap (hsz:=hz) (tupleKind_room_in1 hu) (uU I.hok eb) dd fun h' dd' hs=>h _ ?_
  obtain⟨q,es,ep,hq,h2,h3,h4,_,h5⟩:=dd'
  refine zH I (by rw [e];exact True.intro) hs ⟨q,hq⟩ ⟨hl,hd,_,(rel.put k eb rv).keeps fun c ys ec=>?_,q,es,ep,hq,h2,h3,h4,h5⟩
  rw [aG (uK ec e (fun z=>nomatch z))]
  exact ec
end
section
variable {X:Cx} {pins:List (Addr×Obj)} {σ:St} {H:Hp} {s:Shared} {a:Addr} {kvs:List (Key×V)} {k:Key} {u:Value} {A:Around} {E:Value->Shared->Prop}
end
noncomputable def Wf (i:Expr):Prop:=∀ov iv,subscripted i false ov iv=operate [ov,iv] (getItem ov iv)
theorem Rt {prog:Program} {w:World} {A:Around} {E:Value->Shared->Prop} {s:Shared} {env:Env} {value slice:Expr} {pos:Pos} {T id:String} {Q:Value->Shared->Prop}
  (hl:typeLookup (.type T) "__getitem__" =pure (some (.builtin id))) (hs:Wf slice)
  (h:wpAny (model prog w) A (eval value env) (fun o s₁=>wpAny (model prog w) A (eval slice env) (fun i s₂=>s₂.TypeIs o T/\wpAny (model prog w) A (getItem o i) Q E s₂) E s₁) E s):
  wpAny (model prog w) A (eval (.Subscript value slice pos) env) Q E s:=by
 refine Subscript_ (wpAny_mono h (fun o s₁ h₁=>wpAny_mono h₁ (fun i s₂ h₂=>?_) fun _ _ x=>x) fun _ _ x=>x)
 obtain⟨hT,h₂⟩:=h₂
 unfold subscriptTail
 refine wpAny_bind ?_
 rw [getitemInPython_of_ne hT.not_modules]
 refine wpAny_bind (wpAny_specialOf hT hl ?_)
 have fin:wpAny (model prog w) A (subscripted slice false o i) (fun r s₃=>wpAny (model prog w) A (letTemporaryGo value o r >>= fun _=>pure r) Q E s₃) E s₂:=by
  rw [hs o i]
  exact wpAny_operating (wpAny_mono h₂ (fun r s₃ h₃=>wpAny_bind (wpAny_letTemporaryGo (wpAny_pure h₃))) fun _ _ x=>x)
 first
  | exact wpAny_pure (wpAny_bind fin)
  | exact wpAny_bind (wpAny_pure (wpAny_bind fin))
  | exact wpAny_bind fin
theorem Hm {X:Cx} {pins:List (Addr×Obj)} {σ:St} {H:Hp} {s:Shared} {a:Addr} {y:V} {o:Option V} (I:Inv X pins σ H s) (g:dZ H a y o):s.TypeIs (.ref a) "dict" :=by
 rcases g with ⟨kvs,k,e,_,_⟩ | ⟨kvs,k,b,e,_,_,_⟩
 ·obtain⟨_,_,vs,_,dd⟩:=qP I.hok e
  exact dd.typeIs
 ·obtain⟨_,_,xs,_,dd⟩:=yN I.hok e
  exact dd.typeIs
inductive Qg (Q:VK) (x:V) (y:V) (H2:Hp):Prop where
 | mk:∀a v,x=.ref a->dZ H2 a y (some v)->Q v H2->Qg Q x y H2
noncomputable def SQ (td ty:TE):TE:=fun σ H Q=>td σ H fun x H1=>ty σ H1 fun y H2=>Qg Q x y H2
inductive Sv (Q:VK) (y:V) (x:V) (H2:Hp):Prop where
 | mk:∀a o,x=.ref a->dZ H2 a y o->Q (.bl o.isSome) H2->Sv Q y x H2
noncomputable def Xx (ty td:TE):TE:=fun σ H Q=>ty σ H fun y H1=>td σ H1 fun x H2=>Sv Q y x H2
inductive Il (Q:VK) (y:V) (x:V) (H2:Hp):Prop where
 | mk:∀a o,x=.ref a->dZ H2 a y o->Q (.bl (!o.isSome)) H2->Il Q y x H2
noncomputable def RB (ty td:TE):TE:=fun σ H Q=>ty σ H fun y H1=>td σ H1 fun x H2=>Il Q y x H2
inductive O3 (D:Ends) (σ:St) (v:V) (x:V) (y:V) (H3:Hp):Prop where
 | mk:∀a H4,x=.ref a->mj H3 a y v H4->D.nx σ H4->O3 D σ v x y H3
noncomputable def Vu (td ty tv:TE):TS:=fun D σ H=>tv σ H fun v H1=>td σ H1 fun x H2=>ty σ H2 fun y H3=>O3 D σ v x y H3
inductive Qn (tv:TE) (rd:V->V->Hp->VK->Prop) (D:Ends) (σ:St) (x:V) (y:V) (H2:Hp):Prop where
 | mk:∀a v,x=.ref a->dZ H2 a y (some v)->(tv σ H2 fun y2 H3=>rd v y2 H3 fun z H4=>∃H5,mj H4 a y z H5/\D.nx σ H5)->Qn tv rd D σ x y H2
noncomputable def Vt (td ty tv:TE) (rd:V->V->Hp->VK->Prop):TS:=fun D σ H=>td σ H fun x H1=>ty σ H1 fun y H2=>Qn tv rd D σ x y H2
section
variable {X:Cx} {o i e value:Expr} {pos pos' tpos:Pos} {td ty tv:TE}
theorem bZ (hu:X.A.units+1 <cLine) (ho:PE X o td) (hi:PE X i ty) (hs:Wf i):PE X (.Subscript o i pos) (SQ td ty):=by
 intro pins s σ H Q I h
 refine Rt PySem.F.slot_dict_getitem.lookup hs (dU (ho pins s σ H _ I h) fun u s1 ⟨x,H1,I1,rx,q1⟩=>dU (hi pins s1 σ H1 _ I1 q1) fun iv s2 hpt=>?_)
 obtain⟨y,H2,I2,ry,a,v,ex,g,q2⟩:=hpt
 subst ex
 obtain rfl:u=Value.ref a:=rx
 exact⟨Hm I2 g,CJ hu I2 g ry fun w' s3 I3 rw'=>⟨v,H2,I3,rw',q2⟩⟩
theorem xF (hu:X.A.units+1 <cLine) (hi:PE X i ty) (ho:PE X o td):PC X .In i o (Xx ty td):=by
 intro pins s σ H Q I h
 refine dU (hi pins s σ H _ I h) fun iv s1 ⟨y,H1,I1,ry,q1⟩=>dU (ho pins s1 σ H1 _ I1 q1) fun u s2 hpt=>?_
 obtain⟨x,H2,I2,rx,a,ov,ex,g,q2⟩:=hpt
 subst ex
 obtain rfl:u=Value.ref a:=rx
 exact Yc hu I2 g ry fun s3 I3=>⟨.bl ov.isSome,H2,I3,rfl,q2⟩
theorem uc (hu:X.A.units+1 <cLine) (hi:PE X i ty) (ho:PE X o td):PC X .NotIn i o (RB ty td):=by
 intro pins s σ H Q I h
 refine dU (hi pins s σ H _ I h) fun iv s1 ⟨y,H1,I1,ry,q1⟩=>dU (ho pins s1 σ H1 _ I1 q1) fun u s2 hpt=>?_
 obtain⟨x,H2,I2,rx,a,ov,ex,g,q2⟩:=hpt
 subst ex
 obtain rfl:u=Value.ref a:=rx
 exact QJ hu I2 g ry fun s3 I3=>⟨.bl (!ov.isSome),H2,I3,rfl,q2⟩
theorem fL (hu:X.A.units+1 <cLine) (ho:PE X o td) (hi:PE X i ty) (hv:PE X value tv) (hs:swapsWith value (some (.Subscript o i pos')) pos.line X.env=pure false):
  PS X (.Assign [.Subscript o i pos'] value pos) (Vu td ty tv):=by
 intro pins s σ H D I h
 refine wpAny_Assign_Subscript (dU (hv pins s σ H _ I h) fun r s1 ⟨v,H1,I1,rv,q1⟩=>dU (ho pins s1 σ H1 _ I1 q1) fun u s2 ⟨x,H2,I2,rx,q2⟩=>dU (hi pins s2 σ H2 _ I2 q2) fun iv s3 hpt=>?_) hs
 obtain⟨y,H3,I3,ry,a,H4,ex,g,q3⟩:=hpt
 subst ex
 obtain rfl:u=Value.ref a:=rx
 exact Cw hu I3 g ry rv fun s4 I4=>⟨σ,H4,I4,q3⟩
theorem J4 {op:Operator} {rd:V->V->Hp->VK->Prop} (hu:X.A.units+1 <cLine) (ho:PE X o td) (hi:PE X i ty) (hv:PE X value tv) (hop:XC X op rd)
  (ha:∀ov iv new,augStore i ov iv new=(do holding [new,ov,iv] (setItem ov iv new);release [new,ov,iv] [];pure .next)):PS X (.AugAssign (.Subscript o i tpos) op value pos) (Vt td ty tv rd):=by
 intro pins s σ H D I h
 refine wpAny_AugAssign_SubscriptAny (dU (ho pins s σ H _ I h) fun u s1 ⟨x,H1,I1,rx,q1⟩=>dU (hi pins s1 σ H1 _ I1 q1) fun iv s2 hpt=>?_) ha
 obtain⟨y,H2,I2,ry,a,v,ex,g,q2⟩:=hpt
 subst ex
 obtain rfl:u=Value.ref a:=rx
 refine CJ hu I2 g ry fun w' s3 I3 rw'=>dU (hv pins s3 σ H2 _ I3 q2) fun w2 s4 ⟨y2,H3,I4,ry2,q3⟩=>dU (hop pins s4 σ H3 v y2 w' w2 _ I4 rw' ry2 q3) fun w3 s5 hpt=>?_
 obtain⟨z,H4,I5,rz,H5,g5,q4⟩:=hpt
 exact Cw hu I5 g5 ry rz fun s6 I6=>⟨σ,H5,I6,q4⟩
end
theorem Hv {P:Program} {w:World} {H:Hp} (h:Heap) (hb:sysModules <h.objs.size):fV P w H (h.push { cls:=.type "dict",data:=.dict #[] }) h.objs.size (.dK []):=
 ⟨Nat.zero_le _,beq_eq_false_iff_ne.mpr (Ne.symm (Nat.ne_of_lt hb)),[],.nil,Heap.DictOf.new h⟩
noncomputable def Ve:TE:=fun _ H Q=>∀p,H p=none->Q (.ref p) (upd H p (.dK []))
section
variable {X:Cx} {pos:Pos}
theorem gW:PE X (.Dict [] [] pos) Ve:=fun pins s σ H Q I h=>
 wpAny_Dict_empty ⟨.ref s.heap.objs.size,_,I.laid (a:=s.heap.objs.size) (o:=.dK []) (t':=s.toks) (fun _ _ q=>Heap.get?_push_of_some _ q) (Nat.le_refl _) (Hv s.heap I.big),rfl,h _ (I.hok.fresh (Nat.le_refl _))⟩
end
noncomputable def Jz:List (TE×TE)->St->Hp->(List (V×V)->Hp->Prop)->Prop
 | [],_,H,Q=>Q [] H
 | (tk,tv):: r,σ,H,Q=>tk σ H fun x H1=>tv σ H1 fun y H2=>Jz r σ H2 fun ps H3=>Q ((x,y):: ps) H3
noncomputable abbrev VV:List (V×V)->List (Value×Value)->Prop:=Paired fun p q=>RelV p.1 q.1/\RelV p.2 q.2
noncomputable def Xh (X:Cx) (pos:Pos) (keys:List (Option Expr)) (values:List Expr) (trs:List (TE×TE)):Prop:=
 ∀(pins:List (Addr×Obj)) (s:Shared) (σ:St) (H:Hp) (Q:List (V×V)->Hp->Prop),Inv X pins σ H s->Jz trs σ H Q->
  wpAny (model X.prog X.w) X.A (evalPairs (pairTrees keys values X.env pos)) (fun vs s'=>∃ps H',Inv X pins σ H' s'/\VV ps vs/\Q ps H') X.xe s
theorem Rr {X:Cx} {pos:Pos}:Xh X pos [] [] []:=fun pins s σ H Q I h=>pairTrees_nil_walk ⟨[],H,I,.nil,h⟩
theorem Nz {X:Cx} {pos:Pos} {k v:Expr} {ks:List (Option Expr)} {vs:List Expr} {tk tv:TE} {trs:List (TE×TE)} (hk:PE X k tk) (hv:PE X v tv) (hr:Xh X pos ks vs trs):
  Xh X pos (some k:: ks) (v:: vs) ((tk,tv):: trs):=fun pins s σ H Q I h=>
 pairTrees_cons_walk (dU (hk pins s σ H _ I h) fun u s1 ⟨x,H1,I1,rx,q1⟩=>dU (hv pins s1 σ H1 _ I1 q1) fun w2 s2 ⟨y,H2,I2,ry,q2⟩=>
  dU (hr pins s2 σ H2 _ I2 q2) fun ws s3 ⟨ps,H3,I3,rel,q3⟩=>⟨(x,y):: ps,H3,I3,.cons ⟨rx,ry⟩ rel,q3⟩)
noncomputable def rQ (kvs more:List (Key×V)):List (Key×V):=more.foldl (fun acc kv=>putK acc kv.1 kv.2) kvs
theorem KV.merge:∀{more:List (Key×V)} {rs:List (Key×Value)} {kvs:List (Key×V)} {vs:List (Key×Value)},KV more rs->KV kvs vs->KV (rQ kvs more) (merged vs rs):=by
 intro more rs kvs vs r
 unfold KV at r
 induction r generalizing kvs vs with
 | nil=>intro q;exact q
 | @cons p q ps qs h t ih=>
  intro r0
  have e:KV (putK kvs p.1 p.2) (stored vs q.1 q.2):=by
   have:=r0.put p.1 h.2
   rw [<-h.1];exact this
  exact ih e
theorem uQ:∀(more kvs:List (Key×V)),(rQ kvs more).length<=kvs.length+more.length
 | [],kvs=>by show kvs.length<=kvs.length+0;omega
 | p:: r,kvs=>by
  have h1:=uQ r (putK kvs p.1 p.2)
  have h2:=jE kvs p.1 p.2
  show(rQ (putK kvs p.1 p.2) r).length<=_
  rw [List.length_cons];omega
theorem zQ {P:Program} {w:World}:∀{kvs:List (Key×V)} {ws:List (Value×Value)},VV (kvs.map fun kv=>(kV kv.1,kv.2)) ws->∃rs,Carries (cz P w) ws rs/\KV kvs rs
 | [],_,r=>by rw [List.map_nil] at r;cases r;exact⟨[],True.intro,.nil⟩
 | p:: kvs,_,r=>by
  rw [List.map_cons] at r
  cases r with
  | @cons a b as bs h t=>
   obtain⟨rs,c,q⟩:=zQ (P:=P) (w:=w) t
   obtain⟨b1,b2⟩:=b
   exact⟨(p.1,b2):: rs,⟨wZ h.1,rfl,c⟩,.cons ⟨rfl,h.2⟩ q⟩
noncomputable def Wd (trs:List (TE×TE)):TE:=fun σ H Q=>∀p,H p=none->Jz trs σ (upd H p (.dK [])) fun ps H2=>H2 p=some (.dK [])/\∃kvs:List (Key×V),ps=kvs.map (fun kv=>(kV kv.1,kv.2))/\kvs.length<=15/\Q (.ref p) (upd H2 p (.dK (rQ [] kvs)))
theorem Q3 {X:Cx} {pos:Pos} {keys:List (Option Expr)} {values:List Expr} {trs:List (TE×TE)} (h:Xh X pos keys values trs) (hall:keys.all (·.isSome)=true) (hl:keys.length=values.length) (h0:keys≠[])
  (h15:keys.length<=15):PE X (.Dict keys values pos) (Wd trs):=by
 intro pins s σ H Q I q
 have hn:=I.hok.fresh (Nat.le_refl s.heap.objs.size)
 have I1:=I.laid (a:=s.heap.objs.size) (o:=.dK []) (h':=s.heap.push { cls:=.type "dict",data:=.dict #[] }) (t':=s.toks) (fun _ _ q=>Heap.get?_push_of_some _ q) (Nat.le_refl _) (Hv s.heap I.big)
 refine wpAny_Dict_walk (knd:=cz X.prog X.w) hall hl h0 h15 (dU (h pins _ σ _ _ I1 (q _ hn)) fun ws s2 hpt=>?_)
 obtain⟨ps,H2,I2,rel,e,kvs,ep,lk,q2⟩:=hpt
 subst ep
 obtain⟨rs,c,rk⟩:=zQ (P:=X.prog) (w:=X.w) rel
 obtain⟨z,hd,vs0,r0,dd⟩:=Qw I2.hok e
 cases r0
 refine⟨rs,c,dd,fun h' dd' hs=>⟨.ref s.heap.objs.size,_,?_,rfl,q2⟩⟩
 have hz:(rQ [] kvs).length<=sizeLine:=by
  have h1:=uQ kvs []
  rw [List.length_nil] at h1
  rw [sizeLine_eq];omega
 have he:∃q,h'.get? s.heap.objs.size=some q:=let ⟨q,_,_,hq,_⟩:=dd';⟨q,hq⟩
 exact zH I2 (by rw [e];exact True.intro) hs he (Fv hz hd (rk.merge .nil) dd')
structure M1 (X:Cx) (o:Expr) (m:Str) (apos:Pos) (e:Expr) (cpos:Pos):Prop where
 base:attributeBase o m X.env (eval o X.env)=eval o X.env
 few:((backTo cpos (starEach [e] X.env)).all (fun x=>!x.1) && (backToKw cpos (keywordEach [] X.env)).all (fun x=>x.1.isSome)
  && decide (([e]:List Expr).length+([]:List Keyword).length+(if ([]:List Keyword).isEmpty then 0 else 1) <30))=true
 line:(apos.endLine == cpos.line)=true
 trees:backTo cpos (starEach [e] X.env)=[(false,eval e X.env)]
structure M2 (X:Cx) (o:Expr) (m:Str) (apos:Pos) (e f:Expr) (cpos:Pos):Prop where
 base:attributeBase o m X.env (eval o X.env)=eval o X.env
 few:((backTo cpos (starEach [e,f] X.env)).all (fun x=>!x.1) && (backToKw cpos (keywordEach [] X.env)).all (fun x=>x.1.isSome)
  && decide (([e,f]:List Expr).length+([]:List Keyword).length+(if ([]:List Keyword).isEmpty then 0 else 1) <30))=true
 line:(apos.endLine == cpos.line)=true
 trees:backTo cpos (starEach [e,f] X.env)=[(false,eval e X.env),(false,eval f X.env)]
noncomputable def Xw (H:Hp) (a:Addr):Prop:=(∃kvs,Rd H a (.dK kvs))∨∃kvs,Rd H a (.dT kvs)
theorem O8 {X:Cx} {pins:List (Addr×Obj)} {σ:St} {H:Hp} {s:Shared} {a:Addr} (I:Inv X pins σ H s) (d:Xw H a):
  s.TypeIs (.ref a) "dict" /\(∀b,Value.ref a=.ref b->∃ob,s.heap.get? b=some ob/\ob.dict=none)/\(a == sysModules)=false:=by
 rcases d with ⟨kvs,e⟩ | ⟨kvs,e⟩
 ·obtain⟨_,hd,vs,_,dd⟩:=qP I.hok e
  refine⟨dd.typeIs,fun b q=>?_,hd⟩
  cases q
  obtain⟨ob,_,_,h1,h2,_⟩:=dd
  exact⟨ob,h1,h2.2.1⟩
 ·obtain⟨_,hd,xs,_,dd⟩:=yN I.hok e
  refine⟨dd.typeIs,fun b q=>?_,hd⟩
  cases q
  obtain⟨ob,_,_,h1,h2,_⟩:=dd
  exact⟨ob,h1,h2.2.1⟩
section
variable {X:Cx} {pins:List (Addr×Obj)} {σ:St} {H:Hp} {s:Shared} {a:Addr} {y d:V} {u r:Value} {o:Option V} {A:Around} {E:Value->Shared->Prop}
theorem Us {Q:Value->Shared->Prop} (hu:A.units+1 <cLine) (I:Inv X pins σ H s) (g:dZ H a y o) (ry:RelV y u) (h:∀w' s',Inv X pins σ H s'->RelV (o.getD .non) w'->Q w' s'):
  wpAny (model X.prog X.w) A (call (.builtin "dict.get") [.ref a,u]) Q E s:=by
 rcases g with ⟨kvs,k,e,ey,l⟩ | ⟨kvs,k,b,e,ey,eb,l⟩
 ·subst ey
  obtain⟨z,hd,vs,rel,dd⟩:=qP I.hok e
  refine call_meetsIn PySem.F.slot_dict_get dd.typeIs PySem.F.entry_dict_get (PySem.F.args_dict_get_2 _ _) (meets_dict_get (cz X.prog X.w) a (wZ ry) hd) ⟨_,dd.mapOf,h _ _ (I.tok _) ?_⟩
  rw [l]
  exact(rel.val k).getD rfl
 ·subst ey
  cases (show u=Value.ref b from ry)
  obtain⟨z,hd,xs,rel,dd⟩:=yN I.hok e
  refine call_meetsIn PySem.F.slot_dict_get dd.typeIs PySem.F.entry_dict_get (PySem.F.args_dict_get_2 _ _) (meetsH_dict_get (tupleKind (cz X.prog X.w)) a b hd) ⟨tupleKind_room_in1 hu,k,xs,uU I.hok eb,dd,h _ _ (I.tok _) ?_⟩
  rw [l]
  exact(rel.val k).getD rfl
theorem Uv {Q:Value->Shared->Prop} (hu:A.units+1 <cLine) (I:Inv X pins σ H s) (g:dZ H a y o) (ry:RelV y u) (rd:RelV d r) (h:∀w' s',Inv X pins σ H s'->RelV (o.getD d) w'->Q w' s'):
  wpAny (model X.prog X.w) A (call (.builtin "dict.get") [.ref a,u,r]) Q E s:=by
 rcases g with ⟨kvs,k,e,ey,l⟩ | ⟨kvs,k,b,e,ey,eb,l⟩
 ·subst ey
  obtain⟨z,hd,vs,rel,dd⟩:=qP I.hok e
  refine call_meetsIn PySem.F.slot_dict_get dd.typeIs PySem.F.entry_dict_get (PySem.F.args_dict_get_3 _ _ _) (meets_dict_get_default (cz X.prog X.w) a (wZ ry) hd r) ⟨_,dd.mapOf,h _ _ (I.tok _) ?_⟩
  rw [l]
  exact(rel.val k).getD rd
 ·subst ey
  cases (show u=Value.ref b from ry)
  obtain⟨z,hd,xs,rel,dd⟩:=yN I.hok e
  refine call_meetsIn PySem.F.slot_dict_get dd.typeIs PySem.F.entry_dict_get (PySem.F.args_dict_get_3 _ _ _) (meetsH_dict_get_default (tupleKind (cz X.prog X.w)) a b hd r) ⟨tupleKind_room_in1 hu,k,xs,uU I.hok eb,dd,h _ _ (I.tok _) ?_⟩
  rw [l]
  exact(rel.val k).getD rd
end
inductive K5 (ty:TE) (σ:St) (Q:VK) (x:V) (H1:Hp):Prop where
 | mk:∀a,x=.ref a->Xw H1 a->(ty σ H1 fun y H2=>∃o,dZ H2 a y o/\Q (o.getD .non) H2)->K5 ty σ Q x H1
noncomputable def Ua (td ty:TE):TE:=fun σ H Q=>td σ H fun x H1=>K5 ty σ Q x H1
inductive KR (ty:TE) (tx:TE) (σ:St) (Q:VK) (x:V) (H1:Hp):Prop where
 | mk:∀a,x=.ref a->Xw H1 a->(ty σ H1 fun y H2=>tx σ H2 fun z H3=>∃o,dZ H3 a y o/\Q (o.getD z) H3)->KR ty tx σ Q x H1
noncomputable def Ug (td ty tx:TE):TE:=fun σ H Q=>td σ H fun x H1=>KR ty tx σ Q x H1
section
variable {X:Cx} {o e f:Expr} {apos cpos:Pos} {td ty tx:TE}
theorem Nq (hu:X.A.units+1 <cLine) (ho:PE X o td) (he:PE X e ty) (m:M1 X o "get" apos e cpos):PE X (.Call (.Attribute o "get" apos) [e] [] cpos) (Ua td ty):=by
 intro pins s σ H Q I h
 refine wpAny_Call_method m.base m.few m.line PySem.F.plainAttrs_dict PySem.F.slot_dict_get PySem.F.type_dict_get (dU (ho pins s σ H _ I h) fun u s1 hpt=>?_)
 obtain⟨x,H1,I1,rx,a,ex,d,q1⟩:=hpt
 subst ex
 obtain rfl:u=Value.ref a:=rx
 obtain⟨t1,t2,_⟩:=O8 I1 d
 refine⟨t1,t2,?_⟩
 rw [m.trees]
 refine Calls.callWith_builtin rfl (Calls.evalArgs_plain (Calls.spliced_cons (dU (he pins s1 σ H1 _ I1 q1) fun iv s2 ⟨y,H2,I2,ry,ov,g,q2⟩=>Calls.spliced_nil ?_)))
 exact Us hu I2 g ry fun w' s3 I3 rw'=>⟨_,H2,I3,rw',q2⟩
theorem Qq (hu:X.A.units+1 <cLine) (ho:PE X o td) (he:PE X e ty) (hf:PE X f tx) (m:M2 X o "get" apos e f cpos):PE X (.Call (.Attribute o "get" apos) [e,f] [] cpos) (Ug td ty tx):=by
 intro pins s σ H Q I h
 refine wpAny_Call_method m.base m.few m.line PySem.F.plainAttrs_dict PySem.F.slot_dict_get PySem.F.type_dict_get (dU (ho pins s σ H _ I h) fun u s1 hpt=>?_)
 obtain⟨x,H1,I1,rx,a,ex,d,q1⟩:=hpt
 subst ex
 obtain rfl:u=Value.ref a:=rx
 obtain⟨t1,t2,_⟩:=O8 I1 d
 refine⟨t1,t2,?_⟩
 rw [m.trees]
 refine Calls.callWith_builtin rfl (Calls.evalArgs_plain (Calls.spliced_cons (dU (he pins s1 σ H1 _ I1 q1) fun iv s2 ⟨y,H2,I2,ry,q2⟩=>
  Calls.spliced_cons (dU (hf pins s2 σ H2 _ I2 q2) fun fv s3 ⟨z,H3,I3,rz,ov,g,q3⟩=>Calls.spliced_nil ?_))))
 exact Uv hu I3 g ry rz fun w' s4 I4 rw'=>⟨_,H3,I4,rw',q3⟩
end
section
variable {X:Cx} {pins:List (Addr×Obj)} {σ:St} {H:Hp} {s:Shared} {a:Addr} {kvs:List (Key×V)} {A:Around} {E:Value->Shared->Prop}
end
section
variable {X:Cx} {pins:List (Addr×Obj)} {σ:St} {H:Hp} {s:Shared} {a:Addr} {y:V} {u:Value} {A:Around} {E:Value->Shared->Prop}
end
section
variable {X:Cx} {pins:List (Addr×Obj)} {σ:St} {H:Hp} {s:Shared} {d:Addr} {kvs:List (Key×V)}
theorem Inv.chill (I:Inv X pins σ H s) (e:H d=some (.dK kvs)):∃o,s.heap.get? d=some o/\Inv X pins σ (upd H d (.frz o (.dK kvs))) s:=by
 obtain⟨z,hd,vs,rel,o,es,ep,ho,r⟩:=(show fV X.prog X.w H s.heap d (.dK kvs) from I.hok d _ e)
 refine⟨o,ho,?_⟩
 have:=I.write (x:=d) (e:=d) (o:=.frz o (.dK kvs)) (h':=s.heap) (t':=s.toks) (by rw [e];exact True.intro) (.inl rfl) (fun b u _ q=>q) ⟨o,ho⟩ ⟨ho,z,hd,vs,rel,o,es,ep,ho,r⟩
 exact this
theorem Inv.melt {o:Obj} (I:Inv X pins σ H s) (e:H d=some (.frz o (.dK kvs))) (h0:∀o u,X.H₀ d≠some (.frz o u)):Inv X pins σ (upd H d (.dK kvs)) s:=by
 have ne:∀b u,H b=some u->(∀o v,u≠.frz o v)->b≠d:=fun b u q n z=>by
  rw [z,e] at q
  exact n _ _ (Option.some.inj q).symm
 have no:∀b,H b=none->b≠d:=fun b q z=>by rw [z,e] at q;cases q
 refine⟨I.ok,I.os,I.bare,⟨I.base.keep,I.base.slot,fun b u q n hx=>?_,I.base.there,fun b xs q=>?_,fun b u v q=>?_,fun b ps q=>?_⟩,I.loc,I.cell,?_,fun y c q=>?_,fun p h=>?_,fun b u q=>?_,I.len⟩
 ·have z:=I.base.free b u q n hx
  rw [aG (no b z)];exact z
 ·have z:=I.base.tups b xs q
  rw [aG (ne b _ z (by intro _ _ w;cases w))];exact z
 ·have z:=I.base.frzs b u v q
  rw [aG (fun w=>by rw [w] at q;exact h0 _ _ q)];exact z
 ·obtain⟨m,z⟩:=I.base.tbls b ps q
  exact⟨m,by rw [aG (ne b _ z (by intro _ _ w;cases w))];exact z⟩
 ·rw [aG (no _ I.free)];exact I.free
 ·rw [aG (no _ (I.freeC y c q))];exact I.freeC y c q
 ·obtain⟨z1,z2,r⟩:=I.pin p h
  exact⟨z1,by rw [aG (no _ z2)];exact z2,r⟩
 ·by_cases w:b=d
  ·subst w
   rw [au] at q
   cases q
   exact(I.hok b _ e).2
  ·rw [aG w] at q
   exact(I.hok b u q).stay (fun _ _ _ z=>z) (fun c z=>by rw [aG (ne c _ z (by intro _ _ w;cases w))];exact z) fun c xs z=>by rw [aG (ne c _ z (by intro _ _ w;cases w))];exact z
end
inductive Ry (H0 H H':Hp):Prop where
 | mk:∀d o kvs,H d=some (.frz o (.dK kvs))->((∀o u,H0 d≠some (.frz o u)))->H'=upd H d (.dK kvs)->Ry H0 H H'
section
variable {X:Cx} {H0:Hp} {st:Stmt} {sts:List Stmt} {e:Expr} {t:TS} {te:TE}
theorem Kz (hH:X.H₀=H0) (h:PS X st t):PS X st (fun D σ H=>∃H',Ry H0 H H'/\t D σ H'):=by
 subst hH
 intro pins s σ H D I hh
 obtain⟨H',⟨d,o,kvs,e,n,rfl⟩,q⟩:=hh
 exact h pins s σ _ D (I.melt e n) q
theorem pN (hH:X.H₀=H0) (h:PS X st t):PS X st (fun D σ H=>t { D with nx:=fun σ' H'=>∃H'',Ry H0 H' H''/\D.nx σ' H'' } σ H):=by
 subst hH
 intro pins s σ H D I hh
 refine dU (h pins s σ H _ I hh) fun f s1 q=>?_
 cases f with
 | next=>obtain⟨σ',H',I',H'',⟨d,o,kvs,e,n,rfl⟩,q⟩:=q;exact⟨σ',_,I'.melt e n,q⟩
 | ret v=>exact q
 | brk=>exact q
 | cont=>exact q
theorem Kq (hH:X.H₀=H0) (h:PE X e te):PE X e (fun σ H Q=>te σ H fun v H1=>∃H2,Ry H0 H1 H2/\Q v H2):=by
 subst hH
 intro pins s σ H Q I hh
 refine dU (h pins s σ H _ I hh) fun u s1 q=>?_
 obtain⟨v,H1,I1,r,H2,⟨d,o,kvs,e,n,rfl⟩,q⟩:=q
 exact⟨v,_,I1.melt e n,r,q⟩
end
noncomputable def Vi (d:Addr) (o:Obj) (kvs:List (Key×V)):It:=
 ⟨fun i H=>H d=some (.frz o (.dK kvs))/\i <kvs.length,fun i H x H'=>H'=H/\∃k v,kvs[i]?=some (k,v)/\x=kV k,fun i H=>H d=some (.frz o (.dK kvs))/\kvs.length<=i⟩
theorem PQ {P:Program} {w:World} {k:Key} {u:Value} (h:(cz P w).is k u=true):RelV (kV k) u:=by
 rcases fc (k:=k) (v:=u) h with ⟨i,t,rfl,rfl⟩ | ⟨x,t,rfl,rfl⟩
 ·exact⟨t,rfl⟩
 ·exact⟨t,rfl⟩
theorem Jg:∀{kvs:List (Key×V)} {vs:List (Key×Value)} {i:Nat} {k:Key} {v:V},KV kvs vs->kvs[i]?=some (k,v)->∃v',vs[i]?=some (k,v')
 | _,_,0,k,v,.cons h _,e=>by
  cases (Option.some.inj e)
  exact⟨_,by rw [List.getElem?_cons_zero,show k=_ from h.1]⟩
 | _,_,i+1,k,v,.cons _ t,e=>by
  obtain⟨v',z⟩:=Jg (i:=i) (k:=k) (v:=v) t (by simpa using e)
  exact⟨v',by simpa using z⟩
theorem Lj {P:Program} {w:World} {K:PySem.W.Frag} {tg:Expr} {d it:Addr} {o:Obj} {kvs:List (Key×V)} {vs:List (Key×Value)} {ep:Nat} (rel:KV kvs vs) (hD:∀h:Heap,h.get? d=some o->h.DictAt (cz P w) d vs ep):
  Turn P w K tg (Vi d o kvs) [it] it (fun i h=>h.IsKeyIter it d i vs.length ep) where
 mem:=by simp
 obj:=fun i h st b hb=>by
  have e:b=it:=by simpa using hb
  subst e
  obtain⟨o,e,c,d⟩:=st
  exact⟨o,e,fun v z=>by rw [d] at z;cases z⟩
 keep:=fun i h h' st k=>st.at fun o e=>k it (by simp) o e
 item:=by
  intro X hP hw hK hc i pins s σ H E I hf st hg
  subst hP hw hK
  obtain⟨hq,hi⟩:=hg
  obtain⟨f0,f1,f2,f3,f4,f5⟩:=hf it (by simp)
  have ho:s.heap.get? d=some o:=(I.hok d _ hq).1
  have hl:kvs.length=vs.length:=Paired.length rel
  obtain⟨k,v,ek⟩:∃k v,kvs[i]?=some (k,v):=⟨_,_,List.getElem?_eq_getElem hi⟩
  obtain⟨v',ev⟩:=Jg rel ek
  refine wpAny_pyNext_dict_item st (hD _ ho) ev fun key h' hk st' sb=>?_
  have I1:Inv X pins σ H { s with heap:=h' }:=I.turned (t':=s.toks) (fun b o hb e=>(sb.2 b hb).trans e) f0 f1 f3 f4 f5
  obtain⟨o',e,c,dd⟩:=id st'
  exact⟨key,rfl,Dg (s:={ s with heap:=h' }) e c dd (by decide) ⟨kV k,H,I1,PQ hk,⟨rfl,k,v,ek,rfl⟩,st',fun b hb=>(hf b hb).1⟩⟩
 done:=by
  intro X hP hw hK hc i pins s σ H E I hf st hg
  subst hP hw hK
  obtain⟨hq,hi⟩:=hg
  obtain⟨f0,f1,f2,f3,f4,f5⟩:=hf it (by simp)
  have ho:s.heap.get? d=some o:=(I.hok d _ hq).1
  have hl:kvs.length=vs.length:=Paired.length rel
  exact wpAny_pyNext_dict_end (I.ok.hd hc) st (hD _ ho) (List.getElem?_eq_none (by omega)) fun h' eb=>⟨rfl,I.turned (t':=s.toks) (fun b o hb e=>eb b o hb e) f0 f1 f3 f4 f5⟩
 self:=fun _ _ _ _ _ st h=>wpAny_pyIter_keyiter st h
inductive OD (R:It->Hp->Prop) (x:V) (H1:Hp):Prop where
 | mk:∀d kvs,x=.ref d->H1 d=some (.dK kvs)->(∀o,R (Vi d o kvs) (upd H1 d (.frz o (.dK kvs))))->OD R x H1
noncomputable def VJ (td:TE):TI:=fun σ H R=>td σ H fun x H1=>OD R x H1
theorem nW {X:Cx} {tg l:Expr} {td:TE} (hl:PE X l td):PI X tg l (VJ td):=by
 intro pins s σ H R I h
 refine dU (hl pins s σ H _ I h) fun v s1 hpt=>?_
 obtain⟨x,H1,I1,r1,q1⟩:=hpt
 obtain⟨d,kvs,e,ed,q⟩:=q1
 subst e
 cases r1
 obtain⟨_,hd,vs,rel,o0,es,ep,ho0,r⟩:=(show fV X.prog X.w H1 s1.heap d (.dK kvs) from I1.hok d _ ed)
 obtain⟨o,ho,I2⟩:=I1.chill ed
 obtain rfl:o0=o:=Option.some.inj (ho0.symm.trans ho)
 have hD:∀h:Heap,h.get? d=some o0->h.DictAt (cz X.prog X.w) d vs ep:=fun h z=>⟨o0,es,z,r⟩
 refine wpAny_pyIter_dict hd (hD _ ho) ?_
 refine⟨s1.heap.objs.size,[s1.heap.objs.size],_,_,_,rfl,I2.kept (t':=s1.toks) fun b o e=>Heap.get?_push_of_some _ e,Lj rel hD,⟨_,Heap.get?_push_size _ rfl,rfl,rfl⟩,fun b hb=>?_,q o0⟩
 have e:b=s1.heap.objs.size:=by simpa using hb
 subst e
 exact I2.fpOk (Nat.le_refl _) (I2.hok.fresh (Nat.le_refl _))
theorem pX {d:Addr} {o:Obj} {kvs:List (Key×V)} {g:TG} {tb:TS} {D:Ends} {σ:St} {H:Hp} (Pv:Nat->St->Hp->Prop) (h0:Pv 0 σ H) (hl:∀i σ H,i<=kvs.length->Pv i σ H->H d=some (.frz o (.dK kvs)))
  (hs:∀i k v σ H,kvs[i]?=some (k,v)->Pv i σ H->g (kV k) σ H fun σ2 H2=>tb { D with nx:=Pv (i+1),ct:=Pv (i+1),bk:=D.nx } σ2 H2) (hd:∀σ H,Pv kvs.length σ H->D.nx σ H):
  ∃W:Nat->Nat->St->Hp->Prop,(∃m,W 0 m σ H)/\∀i m σ H,W i m σ H->
   ((Vi d o kvs).stop i H/\D.nx σ H)∨((Vi d o kvs).go i H/\∃N:St->Hp->Prop,(∀σ' H',N σ' H'->∃m',m' <m/\W (i+1) m' σ' H')/\∀x H',(Vi d o kvs).yld i H x H'->g x σ H' fun σ2 H2=>tb { D with nx:=N,ct:=N,bk:=D.nx } σ2 H2):=by
 refine⟨fun i m σ H=>m=kvs.length - i/\i<=kvs.length/\Pv i σ H,⟨kvs.length,by simp,Nat.zero_le _,h0⟩,?_⟩
 rintro i m σ H ⟨rfl,hi,p⟩
 have q:=hl i σ H hi p
 by_cases hlt:i <kvs.length
 ·refine .inr ⟨⟨q,hlt⟩,Pv (i+1),fun σ' H' p'=>⟨kvs.length - (i+1),by omega,rfl,hlt,p'⟩,fun x H' y=>?_⟩
  obtain⟨rfl,k,v,ek,rfl⟩:=y
  exact hs i k v σ _ ek p
 ·obtain rfl:i=kvs.length:=by omega
  exact .inl ⟨⟨q,Nat.le_refl _⟩,hd σ H p⟩
theorem Eb {js:List Nat} {tt:TT} {te:TE} {σ:St} {Qd:List V->Hp->Prop} {d:Addr} {o:Obj} {kvs:List (Key×V)} {H:Hp} (Pv:Nat->List V->Hp->Prop) (hn:kvs.length<=sizeLine) (h0:Pv 0 [] H) (hl:∀i ys H,Pv i ys H->ys.length<=i) (hq:∀i ys H,i<=kvs.length->Pv i ys H->H d=some (.frz o (.dK kvs)))
  (hs:∀i k v ys H,kvs[i]?=some (k,v)->Pv i ys H->tt (some (kV k):: dX σ js) H fun b H4=>if b=true then te (some (kV k):: dX σ js) H4 fun y H5=>Pv (i+1) (ys ++ [y]) H5 else Pv (i+1) ys H4)
  (hd:∀ys H,Pv kvs.length ys H->Qd ys H):CompEnd js tt te σ Qd (Vi d o kvs) H:=by
 refine⟨fun i m ys H=>m=kvs.length - i/\i<=kvs.length/\Pv i ys H,⟨kvs.length,by simp,Nat.zero_le _,h0⟩,?_⟩
 rintro i m ys H ⟨rfl,hi,p⟩
 have hlen:=hl i ys H p
 have q:=hq i ys H hi p
 by_cases hlt:i <kvs.length
 ·refine .inr ⟨⟨q,hlt⟩,by omega,Pv (i+1),fun ys' H' p'=>⟨kvs.length - (i+1),by omega,rfl,hlt,p'⟩,fun x H' y=>?_⟩
  obtain⟨rfl,k,v,ek,rfl⟩:=y
  exact hs i k v ys _ ek p
 ·obtain rfl:i=kvs.length:=by omega
  exact .inl ⟨⟨q,Nat.le_refl _⟩,by omega,hd ys H p⟩
theorem yt:∀{xs:List V} {us:List Value},us.length=xs.length->(∀(j:Nat) x u,xs[j]?=some x->us[j]?=some u->RelV x u)->Vals xs us
 | [],[],_,_=>.nil
 | [],_:: _,h,_=>by simp at h
 | _:: _,[],h,_=>by simp at h
 | x:: xs,u:: us,h,r=>.cons (r 0 x u rfl rfl) (yt (by simpa using h) fun j y v h1 h2=>r (j+1) y v (by simpa using h1) (by simpa using h2))
theorem mY {X:Cx} (hc:X.calm=true):jC X (.type "list") (fun xs H Q=>∃d kvs,xs=[.ref d]/\Rd H d (.dK kvs)/\∀l,H l=none->Q (.ref l) (upd H l (.lst (kvs.map fun p=>kV p.1)))):=by
 intro pins s σ H xs us Q I rx h
 obtain⟨d,kvs,rfl,hr,q⟩:=h
 obtain⟨u,rfl,ru⟩:=vals1 rx
 cases ru
 obtain⟨z,hd,vs,rel,dd⟩:=qP I.hok hr
 obtain⟨ep,da⟩:=dd.dictAt
 have hl:kvs.length=vs.length:=Paired.length rel
 refine PySem.W.kdl_call (PySem.W.kdl_dict (knd:=cz X.prog X.w) (kvs:=vs) (ep:=ep) hd) (I.ok.hd hc) da (by omega) fun h' tk acc' c' kp e' hi=>?_
 refine⟨.ref s.heap.objs.size,_,I.laid (t':=tk) kp (Nat.le_refl _) (show fV X.prog X.w _ h' _ (.lst (kvs.map fun p=>kV p.1)) from⟨by rw [List.length_map];exact z,acc'.toList,c',yt (by rw [Array.length_toList,hi.1,List.length_map,hl]) fun j x u hx hu=>?_,by simpa using e'⟩),rfl,q _ (I.hok.fresh (Nat.le_refl _))⟩
 obtain⟨k,v,hkv,hk⟩:=hi.2 j u (by rw [<-Array.getElem?_toList];exact hu)
 rw [List.getElem?_map] at hx
 obtain⟨p,hp,rfl⟩:=Option.map_eq_some_iff.mp hx
 obtain⟨v',hv'⟩:=Jg rel (k:=p.1) (v:=p.2) hp
 rw [hkv] at hv'
 cases hv'
 exact PQ hk
section
variable {X:Cx} {pins:List (Addr×Obj)} {σ:St} {H:Hp} {s:Shared}
end
section
variable {X:Cx} {tg:Expr}
end
theorem iY.u1 {k:Nat} {A:Around} (r:iY k A):A.units+1 <cLine:=by have:=r.units;omega
theorem uf:bootBuiltins "dict" =some (.type "dict"):=by decide +kernel
section
variable {prog:Program} {w:World} {A:Around} {E:Value->Shared->Prop} {s:Shared}
end
theorem uz:∀{vs:List (Key×Value)} {n:Nat} {k:Key} {v:Value},(vs.map (·.1)).Nodup->vs[n]?=some (k,v)->valueAt vs k=some v
 | p:: r,0,k,v,_,e=>by
  cases (Option.some.inj e)
  simp [valueAt]
 | p:: r,n+1,k,v,nd,e=>by
  rw [List.map_cons,List.nodup_cons] at nd
  have e':r[n]?=some (k,v):=by simpa using e
  have ne:p.1≠k:=fun z=>nd.1 (by rw [z];exact List.mem_map.mpr ⟨(k,v),List.mem_of_getElem? e',rfl⟩)
  have ih:=uz nd.2 e'
  unfold valueAt at ih ⊢
  rw [List.find?_cons,decide_eq_false ne]
  exact ih
theorem Kh:∀{kvs:List (Key×V)} {vs:List (Key×Value)} {i:Nat} {k:Key} {v:Value},KV kvs vs->vs[i]?=some (k,v)->∃v0,kvs[i]?=some (k,v0)/\RelV v0 v
 | _,_,0,k,v,@Paired.cons _ _ _ p _ kvs _ h _,e=>by
  cases (Option.some.inj e)
  exact⟨p.2,by rw [List.getElem?_cons_zero,show p=(k,p.2) from by rw [show k=p.1 from h.1.symm]],h.2⟩
 | _,_,i+1,k,v,.cons _ t,e=>by
  obtain⟨v0,z,r⟩:=Kh (i:=i) (k:=k) (v:=v) t (by simpa using e)
  exact⟨v0,by simpa using z,r⟩
theorem Km:∀{kvs:List (Key×V)} {vs:List (Key×Value)} {i:Nat} {k:Key} {v:V},KV kvs vs->kvs[i]?=some (k,v)->∃v',vs[i]?=some (k,v')/\RelV v v'
 | _,_,0,k,v,.cons h _,e=>by
  cases (Option.some.inj e)
  exact⟨_,by rw [List.getElem?_cons_zero,show k=_ from h.1],h.2⟩
 | _,_,i+1,k,v,.cons _ t,e=>by
  obtain⟨v',z,r⟩:=Km (i:=i) (k:=k) (v:=v) t (by simpa using e)
  exact⟨v',by simpa using z,r⟩
theorem iY.u100 {k:Nat} {A:Around} (r:iY k A):A.units+100 <cLine:=by have:=r.un;omega
theorem CQ {X:Cx} {K:PySem.W.Frag} (hK:X.K=K):jC X (.builtin "isinstance") (fun xs H Q=>∃x Tx T b,xs=[x,.ty T]/\VH K H x Tx/\T∈Ip/\Es Tx T=b/\Q (.bl b) H):=by subst hK;exact mO
theorem Fl {X:Cx} {K:PySem.W.Frag} {e:Expr} {f:Str} {pos:Pos} {ta:TE} (hK:X.K=K) (he:PE X e ta) (hb:attributeBase e f X.env (eval e X.env)=eval e X.env):PE X (.Attribute e f pos) (Uu K ta f):=by subst hK;exact bI he hb
section
variable {X:Cx} {P:Program} {w:World} {K:PySem.W.Frag} {mg:Str->Option Value} {base:Heap} {CX:Dz} {k:Nat} {E:XK} {m:Str} {pos apos:Pos} {e o:Expr} {es:List Expr} {ta:TE} {t:TA}
theorem JV {pl:Sem Bool} (hP:X.prog=P) (hw:X.w=w) (hK:X.K=K) (hm:X.mg=mg) (hb:X.base=base) (he:PE X o ta) (hr:iY k X.A) (hx:pF CX X E)
  (ht:eval (.Call (.Attribute o m apos) [] [] pos) X.env=(do
   let ov <-eval o X.env
   standAt apos.atName
   let (f,first) <-holding [ov] (getMethod ov m pl)
   callWith pos f first (backTo pos (starEach [] X.env)) (backToKw pos (keywordEach [] X.env))):=by rfl):
  PE X (.Call (.Attribute o m apos) [] [] pos) (Jl P w K mg base CX k m E ta JX):=by
 subst hP hw hK hm hb
 exact Ek he hr hx ht
end
section
variable {prog:Program} {w:World} {A:Around} {R:Result->Shared->Prop} {s:Shared}
theorem Vq {elt tg iter:Expr} {ifs:List Expr} {scope:Scope} {pos:Pos} {it acc:Value} {env:Env} (J:Nat->Shared->Prop)
  (turn:∀k s1,J k s1->wpAny (model prog w) A (pyNext it) (fun r s2=>match r with
   | none=>R (.ok .next) s2
   | some v=>wpAny (model prog w) A (letOwnedTupleGo tg it v) (fun _ s3=>wpAny (model prog w) A (assign tg env v) (fun _ s4=>
     wpAny (model prog w) A (forIn ifs true fun c r=>if r=true then do let ok <-isTrue c env (eval c env);pure (ForInStep.yield ok) else pure (ForInStep.yield r)) (fun ok s5=>
      if ok=true then wpAny (model prog w) A (eval elt env) (fun y s6=>wpAny (model prog w) A (call (.builtin "list.append") [acc,y]) (fun _ s7=>∃m,m <k/\J m s7) (notedBy (model prog w) A env fun e s'=>R (.error e) s') s6)
       (notedBy (model prog w) A env fun e s'=>R (.error e) s') s5
      else ∃m,m <k/\J m s5) (notedBy (model prog w) A env fun e s'=>R (.error e) s') s4) (notedBy (model prog w) A env fun e s'=>R (.error e) s') s3) (notedBy (model prog w) A env fun e s'=>R (.error e) s') s2)
   (notedBy (model prog w) A env fun e s'=>R (.error e) s') s1)
  (k:Nat) (h:J k s):codeAny (model prog w) A (.compLoop (.ListComp elt [⟨tg,iter,ifs,0⟩] scope pos) 0 it acc env) R s:=by
 refine codeAny_loop rfl J (fun k s1 hJ=>?_) k h
 show wpAny _ A ((compTurn (.ListComp elt [⟨tg,iter,ifs,0⟩] scope pos) 0 it acc env).onRaise (fun e=>do noteFrame e env;theTreesLotGoes e)) _ _ s1
 refine wpAny_noted ?_
 rw [compTurn_list]
 refine wpAny_bind (wpAny_standAt (wpAny_bind (wpAny_mono (turn k s1 hJ) (fun r s2 h2=>?_) fun _ _ z=>z)))
 cases r with
 | none=>exact wpAny_pure h2
 | some v=>
  refine wpAny_bind (wpAny_mono h2 (fun _ s3 h3=>wpAny_bind (wpAny_mono h3 (fun _ s4 h4=>wpAny_bind (wpAny_mono h4 (fun ok s5 h5=>?_) fun _ _ z=>z)) fun _ _ z=>z)) fun _ _ z=>z)
  cases ok with
  | false=>exact wpAny_pure ⟨rfl,h5⟩
  | true=>exact wpAny_bind (wpAny_bind (wpAny_mono h5 (fun y s6 h6=>wpAny_bind (wpAny_mono h6 (fun _ s7 h7=>wpAny_pure (wpAny_pure ⟨rfl,h7⟩)) fun _ _ z=>z)) fun _ _ z=>z))
end
section
variable {X:Cx} {tg:Expr} {g:TG} {pos:Pos} {iter elt:Expr} {ifs:List Expr} {scope:Scope} {wi:TI} {tt:TT} {te:TE}
end
theorem Dy {X:Cx} (hc:X.calm=true):jC X (.builtin "min") (fun xs H Q=>∃(p:Addr) (a b:Int),xs=[.ref p]/\bT X.K H p [.int a,.int b]/\Q (.int (if b <a then b else a)) H):=by
 intro pins s σ H xs us Q I r h
 obtain⟨p,a,b,rfl,hq,q⟩:=h
 obtain⟨u,rfl,rx⟩:=vals1 r
 cases rx
 obtain⟨its,rv,pl,_⟩:=I.list hq
 obtain⟨v1,v2,rfl,⟨t1,rfl⟩,⟨t2,rfl⟩⟩:=vals2 rv
 have hl:s.heap.IsList p (intItems #[(a,t1),(b,t2)]):=by simpa [intItems] using pl.isList
 refine min_intList (I.ok.hd hc) hl (by simp) fun v h' tk hv hk=>?_
 obtain⟨t,rfl⟩:=intItems_at hv
 obtain⟨h1,h2⟩:=argBest_lt (numAt #[(a,t1),(b,t2)]) (#[(a,t1),(b,t2)].size - 1)
 have h1':argBest (fun i j=>decide (numAt #[(a,t1),(b,t2)] i <numAt #[(a,t1),(b,t2)] j)) (#[(a,t1),(b,t2)].size - 1)<=1:=h1
 have ha:_<=a:=h2 0 (Nat.zero_le _)
 have hb:_<=b:=h2 1 (by simp)
 generalize argBest (fun i j=>decide (numAt #[(a,t1),(b,t2)] i <numAt #[(a,t1),(b,t2)] j)) (#[(a,t1),(b,t2)].size - 1)=k at h1' ha hb ⊢
 refine⟨.int (numAt #[(a,t1),(b,t2)] k),H,I.kept hk,⟨_,rfl⟩,?_⟩
 have e:numAt #[(a,t1),(b,t2)] k=if b <a then b else a:=by
  match k,h1',ha,hb with
  | 0,_,_,hb=>
   have hb':a<=b:=hb
   rw [if_neg (by omega)];rfl
  | 1,_,ha,_=>
   have ha':b<=a:=ha
   show b=_
   by_cases z:b <a
   ·rw [if_pos z]
   ·rw [if_neg z];omega
 rw [e]
 exact q
theorem Ec {X:Cx} (hc:X.calm=true):jC X (.builtin "max") (fun xs H Q=>∃(p:Addr) (a b:Int),xs=[.ref p]/\bT X.K H p [.int a,.int b]/\Q (.int (if b <a then a else b)) H):=by
 intro pins s σ H xs us Q I r h
 obtain⟨p,a,b,rfl,hq,q⟩:=h
 obtain⟨u,rfl,rx⟩:=vals1 r
 cases rx
 obtain⟨its,rv,pl,_⟩:=I.list hq
 obtain⟨v1,v2,rfl,⟨t1,rfl⟩,⟨t2,rfl⟩⟩:=vals2 rv
 have hl:s.heap.IsList p (intItems #[(a,t1),(b,t2)]):=by simpa [intItems] using pl.isList
 refine max_intList (I.ok.hd hc) hl (by simp) fun v h' tk hv hk=>?_
 obtain⟨t,rfl⟩:=intItems_at hv
 obtain⟨h1,h2⟩:=argBest_gt (numAt #[(a,t1),(b,t2)]) (#[(a,t1),(b,t2)].size - 1)
 have h1':argBest (fun i j=>decide (numAt #[(a,t1),(b,t2)] i >numAt #[(a,t1),(b,t2)] j)) (#[(a,t1),(b,t2)].size - 1)<=1:=h1
 have ha:a<=_:=h2 0 (Nat.zero_le _)
 have hb:b<=_:=h2 1 (by simp)
 generalize argBest (fun i j=>decide (numAt #[(a,t1),(b,t2)] i >numAt #[(a,t1),(b,t2)] j)) (#[(a,t1),(b,t2)].size - 1)=k at h1' ha hb ⊢
 refine⟨.int (numAt #[(a,t1),(b,t2)] k),H,I.kept hk,⟨_,rfl⟩,?_⟩
 have e:numAt #[(a,t1),(b,t2)] k=if b <a then a else b:=by
  match k,h1',ha,hb with
  | 0,_,_,hb=>
   have hb':b<=a:=hb
   show a=_
   by_cases z:b <a
   ·rw [if_pos z]
   ·rw [if_neg z];omega
  | 1,_,ha,_=>
   have ha':a<=b:=ha
   rw [if_neg (by omega)];rfl
 rw [e]
 exact q
theorem Ka {X:Cx} {K:PySem.W.Frag} {es:List Expr} {k:Nat} {pos:Pos} {t:QD} {n:Nat} (hK:X.K=K) (hc:X.calm=true) (h:Wg X es t)
  (hn:(assignEach es X.env).length=n:=by rfl) (hst:(assignEach es X.env).findIdx? (·.1)=none:=by rfl):PG X (.Tuple es k pos) (Vw K n t):=by
 subst hK
 exact zN hc h hn hst
noncomputable def kj (X:Cx) (scope:Scope) (xs:List Str) (js:List Nat) (cl:List (Str×Addr)) (C:Addr) (s:Shared) (H:Hp) (ex:List Addr):Cx where
 prog:=X.prog
 w:=X.w
 K:=X.K
 mg:=X.mg
 base:=X.base
 A:=X.A
 N:=xs ++ dG X.N js
 s₀:=s
 H₀:=H
 env:=compEnvC scope cl C X.env
 outer:=X.stack
 stack:=X.stack
 ex:=ex
 fn:=fun _=>false
 calm:=X.calm
 pn:=[]
 xe:=fun _ _=>False
noncomputable def Ac (xs:List Str) (js:List Nat) (σ:St) (g:TG) (tt:TT) (te:TE) (Qd:List V->Hp->Prop) (J:It) (H1:Hp):Prop:=∃W:Nat->Nat->List V->Hp->Prop,(∃m,W 0 m [] H1)/\∀i m ys H2,W i m ys H2->
 (J.stop i H2/\ys.length<=sizeLine/\Qd ys H2)∨
 (J.go i H2/\ys.length <sizeLine/\∃N:List V->Hp->Prop,(∀ys' H',N ys' H'->∃m',m' <m/\W (i+1) m' ys' H')/\∀x H3,J.yld i H2 x H3->g x ((xs.map fun _=>none) ++ dX σ js) H3 fun σ2 H4=>σ2.drop xs.length=dX σ js/\tt σ2 H4 fun b H5=>
  if b=true then te σ2 H5 fun y H6=>N (ys ++ [y]) H6 else N ys H5)
noncomputable def Pu (xs:List Str) (js:List Nat) (wi:TI) (g:TG) (tt:TT) (te:TE):TE:=fun σ H Q=>wi σ H (Ac xs js σ g tt te fun ys H2=>∀D,H2 D=none->Q (.ref D) (upd H2 D (.lst ys)))
section
variable {X:Cx} {tg:Expr} {g:TG} {pos:Pos} {iter elt:Expr} {ifs:List Expr} {scope:Scope} {wi:TI} {tt:TT} {te:TE}
theorem sS (xs:List Str) (js:List Nat) {pins:List (Addr×Obj)} {σ:St} {s:Shared} {itv:Value} {Q:List V->Hp->Prop} {RR:Value->Addr->Result->Shared->Prop} {E:Value->Shared->Prop}
  (hc:X.calm=true) (hk:scope.kind=.function) (hcell:∀y∈scope.names,y.2≠.cell)
  (hfree:∀y∈scope.names,y.2=.free->X.env.kindOf y.1=some .cell∨X.env.kindOf y.1=some .free)
  (hg:∀cl C s H ex,PG (kj X scope xs js cl C s H ex) tg g)
  (hif:∀cl C s H ex,PF (kj X scope xs js cl C s H ex) ifs tt) (he:∀cl C s H ex,PE (kj X scope xs js cl C s H ex) elt te)
  (hjs:∀y∈dG X.N js,scope.names.lookup y=some .free) (hit:PIE X pins σ tg (Ac xs js σ g tt te Q) itv s)
  (hR:∀D C s' H2 ys m,Inv X pins σ (upd H2 D (.lst ys)) s'->H2 D=none->s'.heap.Ns C m->(∀h',Heap.SameBut C s'.heap h'->Inv X pins σ (upd H2 D (.lst ys)) { s' with heap:=h' })->FZ X pins (upd H2 D (.lst ys)) C->C≠D->Q ys H2->RR (.ref D) C (.ok .next) s'):
  wpAny (model X.prog X.w) X.A (newList []) (fun acc s₃=>wpAny (model X.prog X.w) X.A (newFunctionEnv scope X.env.globals (clos X.env scope.names []) [] X.env.qual none .none (some X.env)) (fun cenv s₄=>
   codeAny (model X.prog X.w) X.A (.compStart (.ListComp elt [⟨tg,iter,ifs,0⟩] scope pos) 0 itv acc { cenv with scope:=relabel scope X.env }) (RR acc cenv.locals) s₄) E s₃) E s:=by
 obtain⟨it,fp,tn,J,H1,rfl,I1,T,st1,f1,W,⟨m0,w0⟩,turn⟩:=hit
 refine wpAny_newObj_type (wpAny_newFunctionEnv hcell (by intro y hy;simp at hy) (fun h₁ hns₁ hsb₁=>?_) hk)
 dsimp only at hns₁ hsb₁ ⊢
 generalize hH2:s.heap.push { cls:=.type "list",dict:=none,data:=.seq ([]:List Value).toArray }=Hl at hns₁ hsb₁ ⊢
 generalize hDe:s.heap.objs.size=D
 have hCe:Hl.objs.size=D+1:=by rw [<-hH2,Heap.size_push,hDe]
 generalize hC:Hl.objs.size=C at hns₁ hsb₁ hCe ⊢
 subst hCe
 have hDC:D≠D+1:=Nat.ne_of_lt (Nat.lt_succ_self _)
 have lt:∀b o,s.heap.get? b=some o->b <D:=fun b o e=>hDe ▸ Heap.lt_size e
 have old:∀b o,s.heap.get? b=some o->h₁.get? b=some o:=fun b o e=>by
  have hb:=lt b o e
  refine hsb₁.extBut b o (Nat.ne_of_lt (Nat.lt_succ_of_lt hb)) (Heap.get?_push_of_some _ ?_)
  rw [<-hH2];exact Heap.get?_push_of_some _ e
 have accD:h₁.get? D=some { cls:=.type "list",dict:=none,data:=.seq ([]:List Value).toArray }:=by
  refine hsb₁.extBut _ _ hDC (Heap.get?_push_of_some _ ?_)
  rw [<-hH2,<-hDe];exact Heap.get?_push_size _ rfl
 have fresh:∀a,D<=a->H1 a=none:=fun a ha=>I1.hok.fresh (by rw [hDe];exact ha)
 have fpD:∀b∈fp,b <D:=fun b hb=>by
  obtain⟨o,e,_⟩:=T.obj 0 s.heap st1 b hb
  exact lt b o e
 have cellD:∀y c,X.env.cells.lookup y=some c->c <D:=fun y c e=>by
  obtain⟨v,q⟩:=I1.cell y c e
  exact hDe ▸ q.lt
 generalize hcl:clos X.env scope.names []=cl
 have clsub:∀y c,cl.lookup y=some c->X.env.cells.lookup y=some c:=by
  rw [<-hcl];exact Ik scope.names [] fun y a e=>by simp at e
 have frD:∀b∈frs X.stack,b <D:=fun b hb=>by
  obtain⟨_,o,ho,_⟩:=I1.stack.mem hb
  exact lt b o ho
 let Y:Cx:=kj X scope xs js cl (D+1) s H1 fp
 have kinds:∀y,Y.env.kindOf y=some .cell∨Y.env.kindOf y=some .free->∃k∈scope.names,k.1=y/\k.2=.free:=fun y hy=>by
  have hy':(relabel scope X.env).names.lookup y=some .cell∨(relabel scope X.env).names.lookup y=some .free:=hy
  rw [rT] at hy'
  cases q:scope.names.lookup y with
  | none=>rw [q] at hy';simp at hy'
  | some k=>
   have hm:=PySem.mem_of_lookup q
   refine⟨(y,k),hm,rfl,?_⟩
   have h1:k≠.cell:=hcell _ hm
   rw [q] at hy'
   simp only [Option.map_some,Option.some.injEq] at hy'
   by_cases hkf:k=.free
   ·exact hkf
   ·have:(k == NameKind.free)=false:=by simpa using hkf
    simp only [this,Bool.false_and,Bool.false_eq_true,if_false] at hy'
    rcases hy' with e | e
    ·exact absurd e h1
    ·exact absurd e hkf
 have okY:Y.Ok:=by
  refine⟨I1.ok.mod,hk,I1.ok.glob,I1.ok.blt,(by show s.heap.objs.size<=D+1;rw [hDe];exact Nat.le_succ _),fun y z c h1 h2=>I1.ok.inj y z c (clsub y c h1) (clsub z c h2),fun y hy=>?_,fun y c h _=>absurd h (by show ¬(false=true);decide),I1.ok.hd,I1.ok.frames,.inl rfl,fun b hb=>⟨Nat.ne_of_lt (Nat.lt_succ_of_lt (fpD b hb)),fun y c e z=>(f1 b hb).2.2.2.2.1 y c (clsub y c e) z⟩,
   fun b o e=>I1.bs b o e,Nat.le_trans I1.ok.bsz I1.sz,fun b o e hb=>?_,fun b hb hf=>?_,I1.stack,I1.stkFree⟩
  ·obtain⟨k,hm,e1,e2⟩:=kinds y hy
   show ∃c,cl.lookup y=some c
   rw [<-hcl]
   refine BR scope.names [] y (.inr ⟨k,hm,e1,e2,?_⟩)
   have:=hfree k hm e2
   rw [e1] at this
   exact I1.ok.has y this
  ·obtain⟨_,_,_,h4,_,_⟩:=f1 b hb
   rcases h4 with z | z
   ·exact I1.ok.noex b o e z
   ·exact absurd (Nat.lt_of_lt_of_le (Heap.lt_size e) (Nat.le_trans I1.ok.bsz z)) (Nat.lt_irrefl _)
  ·rcases List.mem_cons.mp (I1.stkSub b hf) with z | z
   ·exact(f1 b hb).2.1 z
   ·exact(f1 b hb).2.2.1 z
 let σ0:St:=(xs.map fun _=>none) ++ dX σ js
 have IY:Inv Y [] σ0 H1 { s with heap:=h₁,toks:=s.toks+([]:List (Str×Value)).length }:=by
  refine⟨okY,rfl,I1.bare,Un.kept old,⟨_,hns₁,fun i y v e1 e2 e3=>?_⟩,fun y c e=>?_,fresh _ (Nat.le_succ _),fun y c e=>I1.freeC y c (clsub y c e),fun p hp=>absurd (show p∈([]:List (Addr×Obj)) from hp) (by simp),I1.hok.kept old,?_⟩
  ·by_cases hi:i <xs.length
   ·exfalso
    have e2':((xs.map fun _=>(none:Option V)) ++ dX σ js)[i]?=some (some v):=e2
    rw [List.getElem?_append_left (by rw [List.length_map];exact hi),List.getElem?_map,List.getElem?_eq_getElem hi] at e2'
    cases e2'
   ·have e1':(xs ++ dG X.N js)[i]?=some y:=e1
    have e2':((xs.map fun _=>(none:Option V)) ++ dX σ js)[i]?=some (some v):=e2
    rw [List.getElem?_append_right (by omega)] at e1'
    rw [List.getElem?_append_right (by rw [List.length_map];omega),List.length_map] at e2'
    generalize i - xs.length=i at e1' e2'
    unfold dG at e1'
    unfold dX at e2'
    rw [List.getElem?_map] at e1' e2'
    cases q:js[i]? with
    | none=>rw [q] at e1';cases e1'
    | some j=>
     rw [q] at e1' e2'
     simp only [Option.map_some,Option.some.injEq] at e1' e2'
     have hv:σ[j]?=some (some v):=by
      cases z:σ[j]? with
      | none=>rw [z] at e2';cases e2'
      | some w=>rw [z] at e2';simpa using e2'
     have hj:j <X.N.length:=by
      rw [<-I1.len];exact(List.getElem?_eq_some_iff.mp hv).1
     have hy:X.N[j]?=some y:=by
      rw [List.getElem?_eq_getElem hj] at e1' ⊢
      rw [<-e1'];rfl
     obtain⟨m,hn,hl⟩:=I1.loc
     have hmem:y∈dG X.N js:=List.mem_map.mpr ⟨j,List.mem_of_getElem? q,by rw [hy];rfl⟩
     have hfr:=hjs y hmem
     have hkx:=hfree _ (PySem.mem_of_lookup hfr) rfl
     have hvis:WY X.env.scope y:=hkx.elim (fun z=>.inr (.inl z)) fun z=>.inr (.inr z)
     obtain⟨u,r,l⟩:=hl j y v hy hv hvis
     refine⟨u,r,?_⟩
     rcases l with ⟨kl,_⟩ | ⟨_,c,hc1,z⟩
     ·exfalso
      have kl':X.env.kindOf y=some .local:=kl
      rcases hkx with w | w <;> · rw [show X.env.kindOf y=_ from w] at kl';cases kl'
     ·obtain⟨c',hc'⟩:=BR (env:=X.env) scope.names [] y (.inr ⟨_,PySem.mem_of_lookup hfr,rfl,rfl,c,hc1⟩)
      rw [hcl] at hc'
      have e4:=clsub y c' hc'
      rw [hc1] at e4
      cases e4
      obtain⟨o,ho,hd⟩:=z
      refine .inr ⟨?_,c,hc',o,old c o ho,hd⟩
      rcases e3 with e3 | e3 | e3
      ·exfalso
       have e3':(relabel scope X.env).names.lookup y=some .local:=e3
       rw [rT,hfr] at e3'
       simp only [Option.map_some,Option.some.injEq] at e3'
       split at e3' <;> cases e3'
      ·exact .inl e3
      ·exact .inr e3
  ·obtain⟨v,q⟩:=I1.cell y c (clsub y c e)
   obtain⟨o,ho,hd⟩:=q
   exact⟨v,o,old c o ho,hd⟩
  ·show((xs.map fun _=>(none:Option V)) ++ dX σ js).length=(xs ++ dG X.N js).length
   unfold dX dG
   rw [List.length_append,List.length_append,List.length_map,List.length_map,List.length_map]
 have mkR:∀(s':Shared) (H2:Hp) (ys:List V) (its:List Value) (σ':St),Inv Y [] σ' H2 s'->s'.heap.PlainList D its.toArray->Vals ys its->ys.length<=sizeLine->H2 D=none->Q ys H2->RR (.ref D) (D+1) (.ok .next) s':=by
  intro s' H2 ys its σ' I' pl rv hz hD hq
  obtain⟨m,hn,_⟩:=I'.loc
  have hn':s'.heap.Ns (D+1) m:=hn
  have hCn:H2 (D+1)=none:=I'.free
  have hch:∀b∈fp,(b∈X.ex∨X.s₀.heap.objs.size<=b)/\b≠X.env.locals/\(∀x c,X.env.cells.lookup x=some c->c≠b)/\∀p∈X.pn ++ pins,p.1≠b:=fun b hb=>by
   obtain⟨_,h2,_,h4,h5,h6⟩:=f1 b hb
   exact⟨h4,h2,h5,h6⟩
  have bs:Un (frs X.stack) fp H1 H2 s.heap s'.heap:=I'.base
  have all:∀h',Heap.SameBut (D+1) s'.heap h'->Inv X pins σ (upd H2 D (.lst ys)) { s' with heap:=h' }:=fun h' sb=>by
   have neD:∀b o,s.heap.get? b=some o->b≠D:=fun b o e=>Nat.ne_of_lt (lt b o e)
   have neC:∀b o,s.heap.get? b=some o->b≠D+1:=fun b o e=>Nat.ne_of_lt (Nat.lt_succ_of_lt (lt b o e))
   refine I1.call' (s':={ s' with heap:=h' }) (ch:=fp) I'.os ⟨fun b o e n hb hx=>?_,fun b o e n hb hx=>?_,fun b o e n hx=>?_,fun b o e hx=>?_,fun b xs e=>?_,fun b o u e=>?_,fun b ps e=>?_⟩ ?_ I'.bare hch
   ·exact(sb.2 b (neC b o e)).trans (bs.keep b o e n hb hx)
   ·obtain⟨sl,q⟩:=bs.slot b o e n hb hx
    exact⟨sl,(sb.2 b (neC b o e)).trans q⟩
   ·rw [aG (neD b o e)];exact bs.free b o e n hx
   ·obtain⟨o',q⟩:=bs.there b o e hx
    exact⟨o',(sb.2 b (neC b o e)).trans q⟩
   ·have:=bs.tups b xs e
    rw [aG (aF this hD)];exact this
   ·have:=bs.frzs b o u e
    rw [aG (aF this hD)];exact this
   ·obtain⟨more,q⟩:=bs.tbls b ps e
    exact⟨more,by rw [aG (aF q hD)];exact q⟩
   ·have h0:ut X.prog X.w H2 h':=fun b u e=>(I'.hok b u e).stay (fun c v hc q=>(sb.2 c (by
     rintro rfl
     rcases hc with z | z
     ·rw [z,e] at hCn;cases hCn
     ·rw [z] at hCn;cases hCn)).trans q) (fun _ q=>q) fun _ _ q=>q
    refine LC h0 hD ?_
    obtain⟨n,e⟩:=pl
    exact⟨hz,its,n,rv,(sb.2 D hDC).trans e⟩
  have hall:=all s'.heap (.refl ..)
  refine hR D (D+1) s' H2 ys m hall hD hn' all ?_ hDC.symm hq
  refine⟨by rw [aG hDC.symm];exact hCn,?_,?_,.inr (Nat.le_trans I1.sz (by rw [hDe];exact Nat.le_succ _)),fun y c e z=>?_,fun p hp z=>?_⟩
  ·exact Nat.ne_of_gt (Nat.lt_trans (hDe ▸ I1.lt) (Nat.lt_succ_self _))
  ·exact I1.nofs (by rw [hDe];exact Nat.le_succ _)
  ·exact absurd z (Nat.ne_of_lt (Nat.lt_succ_of_lt (cellD y c e)))
  ·exact absurd z (Nat.ne_of_lt (Nat.lt_succ_of_lt (lt _ _ (I1.pin p hp).1)))
 have loop:∀s₃:Shared,s₃={ s with heap:=h₁,toks:=s.toks+([]:List (Str×Value)).length }->
   codeAny (model X.prog X.w) X.A (.compLoop (.ListComp elt [⟨tg,iter,ifs,0⟩] scope pos) 0 (.ref it) (.ref D) Y.env) (RR (.ref D) (D+1)) s₃:=by
  rintro s₃ rfl
  have stat:∀{H':Hp} {ob:Obj},(∀b∈fp,H' b=none)->∀b∈fp,FZ Y [(D,ob)] H' b:=fun {H'} {ob} hn b hb=>by
   refine⟨hn b hb,Nat.ne_of_lt (Nat.lt_succ_of_lt (fpD b hb)),fun hf=>okY.exfs b hb hf,.inl hb,fun y c e=>(okY.exf b hb).2 y c e,fun p hp z=>?_⟩
   have hp':p∈[(D,ob)]:=hp
   have e:p=(D,ob):=by simpa using hp'
   rw [e] at z
   exact absurd z (Ne.symm (Nat.ne_of_lt (fpD b hb)))
  refine Vq (fun n s'=>∃i ys its H',∃ob:Obj,Inv Y [(D,ob)] σ0 H' s'/\(∃n,ob={ cls:=.type "list",data:=.seq its.toArray n })/\Vals ys its/\H' D=none/\tn i s'.heap/\(∀b∈fp,H' b=none)/\W i n ys H') ?_ m0
   ⟨0,[],[],H1,{ cls:=.type "list",dict:=none,data:=.seq ([]:List Value).toArray },?_,⟨_,rfl⟩,.nil,fresh _ (Nat.le_refl _),T.keep _ _ _ st1 fun b _ o e=>old b o e,fun b hb=>(f1 b hb).1,w0⟩
  ·rintro n s3 ⟨i,ys,its,H3,ob,I3,⟨cap,rfl⟩,rv,hD,st3,fr3,w3⟩
   rcases turn i n ys H3 w3 with ⟨stop,hz,hq⟩ | ⟨go,hz,N,hN7,step⟩
   ·refine wpAny_mono (T.done Y rfl rfl rfl hc i _ s3 σ0 H3 (fun _ _=>False) I3 (stat fr3) st3 stop) (fun r s4 ⟨hr,I4⟩=>?_) fun _ _ f=>f.elim
    subst hr
    exact mkR s4 H3 ys its σ0 (I4.pins_of fun p hp=>absurd hp (by simp)) ⟨cap,(I4.pin _ (List.mem_append_right _ List.mem_cons_self)).1⟩ rv hz hD hq
   ·refine wpAny_mono (T.item Y rfl rfl rfl hc i _ s3 σ0 H3 (fun _ _=>False) I3 (stat fr3) st3 go) (fun r s4 ⟨u,hr,h4⟩=>?_) fun _ _ f=>f.elim
    subst hr
    refine wpAny_mono h4 (fun _ s4 ⟨xv,H5,I5,r5,y5,st5,fr5⟩=>?_) fun _ _ f=>f.elim
    have I5':=I5.pinned (stat fr5) (T.obj _ _ st5)
    refine wpAny_mono (hg cl (D+1) s H1 fp _ _ σ0 H5 xv u _ I5' r5 (step xv H5 y5)) (fun _ s6 ⟨σ6,H6,I6,hσ6,q6⟩=>?_) fun _ _ f=>False.elim f
    have again:∀{s7:Shared} {H7:Hp} {ys7:List V} {its7:List Value} {cap7:Nat} {pl:List (Addr×Obj)},Inv Y ([(D,{ cls:=.type "list",data:=.seq its7.toArray cap7 })] ++ pl) σ6 H7 s7->(∀b∈fp,∀o,s4.heap.get? b=some o->s7.heap.get? b=some o/\H7 b=none)->Vals ys7 its7->(∃m',m' <n/\W (i+1) m' ys7 H7)->
      ∃m,m <n/\∃i ys its H',∃ob:Obj,Inv Y [(D,ob)] σ0 H' s7/\(∃n,ob={ cls:=.type "list",data:=.seq its.toArray n })/\Vals ys its/\H' D=none/\tn i s7.heap/\(∀b∈fp,H' b=none)/\W i m ys H':=by
     intro s7 H7 ys7 its7 cap7 pl I7 kf rv7 ⟨m',hm,w7⟩
     refine⟨m',hm,i+1,ys7,its7,H7,_,I7.unpinned.weak (by rw [I7.len];show((xs.map fun _=>(none:Option V)) ++ dX σ js).length=(xs ++ dG X.N js).length;unfold dX dG;rw [List.length_append,List.length_append,List.length_map,List.length_map,List.length_map]) fun j v e=>?_,⟨cap7,rfl⟩,rv7,(I7.pin _ (List.mem_append_right _ (List.mem_append_left _ List.mem_cons_self))).2.1,T.keep _ _ _ st5 fun b hb o e=>(kf b hb o e).1,fun b hb=>?_,w7⟩
     ·have e':((xs.map fun _=>(none:Option V)) ++ dX σ js)[j]?=some (some v):=e
      by_cases hj:j <xs.length
      ·exfalso
       rw [List.getElem?_append_left (by rw [List.length_map];exact hj),List.getElem?_map,List.getElem?_eq_getElem hj] at e'
       cases e'
      ·rw [List.getElem?_append_right (by rw [List.length_map];omega),List.length_map,<-hσ6,List.getElem?_drop] at e'
       rw [show xs.length+(j - xs.length)=j by omega] at e'
       exact e'
     ·obtain⟨o,e,_⟩:=T.obj _ _ st5 b hb
      exact(kf b hb o e).2
    refine wpAny_mono (hif cl (D+1) s H1 fp _ s6 _ H6 _ I6 q6) (fun ok s7 ⟨H7,I7,q7⟩=>?_) fun _ _ f=>False.elim f
    have kf7:∀b∈fp,∀o,s4.heap.get? b=some o->s7.heap.get? b=some o/\H7 b=none:=fun b hb o e=>
     have z:=I7.pin (b,o) (List.mem_append_right _ (List.mem_append_right _ (qC hb e)))
     ⟨z.1,z.2.1⟩
    cases ok with
    | false=>
     rw [if_neg Bool.false_ne_true] at q7 ⊢
     exact again I7 kf7 rv (hN7 _ _ q7)
    | true=>
     rw [if_pos rfl] at q7 ⊢
     refine wpAny_mono (he cl (D+1) s H1 fp _ s7 _ H7 _ I7 q7) (fun yv s8 ⟨y,H8,I8,r8,q8⟩=>?_) fun _ _ f=>False.elim f
     have pD:=I8.pin _ (List.mem_append_right _ (List.mem_append_left _ List.mem_cons_self))
     have hlen:=rv.length
     refine wpAny_list_append_plain (items:=its.toArray) ⟨cap,pD.1⟩ (fun h9 pl9 sb9=>?_) (by rw [List.size_toArray];omega)
     obtain⟨cap9,e9⟩:=pl9
     have I9:Inv Y [] σ6 H8 { s8 with heap:=h9 }:=(I8.pins_of (pins':=[]) fun p hp=>absurd hp (by simp)).turned (t':=s8.toks) (it:=D) (fun b o hb e=>(sb9.2 b hb).trans e) pD.2.1 hDC
      (.inr (Nat.le_of_eq hDe)) (fun y c e z=>absurd z (Nat.ne_of_lt (cellD y c (clsub y c e)))) fun p hp=>absurd (show p∈([]:List (Addr×Obj)) from hp) (by simp)
     have kf9:∀b∈fp,∀o,s4.heap.get? b=some o->h9.get? b=some o/\H8 b=none:=fun b hb o e=>by
      have z:=I8.pin (b,o) (List.mem_append_right _ (List.mem_append_right _ (qC hb e)))
      exact⟨(sb9.2 b (Nat.ne_of_lt (fpD b hb))).trans z.1,z.2.1⟩
     refine again (s7:={ s8 with heap:=h9 }) (its7:=its ++ [yv]) (cap7:=cap9) (pl:=[]) (I9.pins_of fun p hp=>?_) kf9 (rv.append (.cons r8 .nil)) (hN7 _ _ q8)
     have hp':p=(D,{ cls:=.type "list",data:=.seq (its ++ [yv]).toArray cap9 }):=by simpa using hp
     subst hp'
     refine⟨?_,pD.2.1,pD.2.2.1,pD.2.2.2.1,fun v z=>by cases z⟩
     rw [e9]
     simp
  ·refine IY.pins_of fun p hp=>?_
   have hp':p=(D,{ cls:=.type "list",dict:=none,data:=.seq ([]:List Value).toArray }):=by simpa using hp
   subst hp'
   exact⟨accD,fresh _ (Nat.le_refl _),hDC,fun hf=>Nat.lt_irrefl _ (frD _ hf),fun v z=>by cases z⟩
 exact codeAny_compStart_list (loop _ rfl) (wpAny_mono (T.self X.A 0 _ (fun v s'=>v=.ref it/\s'={ s with heap:=h₁,toks:=s.toks+([]:List (Str×Value)).length }) (fun _ _=>False) (T.keep _ _ _ st1 fun b _ o e=>old b o e) ⟨rfl,rfl⟩) (fun v s' ⟨e1,e2⟩=>by subst e1 e2;exact loop _ rfl) fun _ _ f=>f.elim)
theorem Pj (xs:List Str) (js:List Nat) (N0:List Str) (sc0:Scope) (hc:X.calm=true) (hi:PI X tg iter wi) (hg:∀cl C s H ex,PG (kj X scope xs js cl C s H ex) tg g)
  (hif:∀cl C s H ex,PF (kj X scope xs js cl C s H ex) ifs tt) (he:∀cl C s H ex,PE (kj X scope xs js cl C s H ex) elt te)
  (hk:scope.kind=.function:=by rfl) (hcell:∀y∈scope.names,y.2≠.cell:=by decide +kernel)
  (hnames:∀y∈scope.names,y.2=.local->scope.names.lookup y.1=some .local:=by decide +kernel)
  (hsc:X.env.scope=sc0:=by rfl) (hfree0:∀y∈scope.names,y.2=.free->sc0.names.lookup y.1=some .cell∨sc0.names.lookup y.1=some .free:=by decide +kernel)
  (hNN:X.N=N0:=by rfl) (hj0:∀y∈dG N0 js,scope.names.lookup y=some .free:=by decide +kernel)
  (hs:∀x,foldedSetIterable iter X.env x=pure x:=by intro _;rfl):
  PE X (.ListComp elt [⟨tg,iter,ifs,0⟩] scope pos) (Pu xs js wi g tt te):=by
 intro pins s σ H Q I h
 have hfree:∀y∈scope.names,y.2=.free->X.env.kindOf y.1=some .cell∨X.env.kindOf y.1=some .free:=fun y hy e=>by
  show X.env.scope.names.lookup y.1=some .cell∨X.env.scope.names.lookup y.1=some .free
  rw [hsc];exact hfree0 y hy e
 rw [eval_ListComp]
 have hcl:closureFor scope X.env=pure (clos X.env scope.names []):=kO fun y hy e=>I.ok.has y.1 (hfree y hy e)
 refine wpAny_comprehension_free (use:=none) rfl hs hcl hk hnames (dU (hi pins s σ H _ I h) fun xv s1 h1=>dU h1 fun it s2 h2=>?_)
 have hjs:∀y∈dG X.N js,scope.names.lookup y=some .free:=by rw [hNN];exact hj0
 refine sS xs js (RR:=fun acc C=>compPost (model X.prog X.w) X.A X.xe none (EP X pins σ Q) acc C) (Q:=fun ys H2=>∀D,H2 D=none->Q (.ref D) (upd H2 D (.lst ys))) hc hk hcell hfree hg hif he hjs h2 ?_
 intro D C s' H2 ys m I' hD hn all fpC hCD hq
 exact⟨m,hn,fun h' sb=>⟨.ref D,_,all h' sb,rfl,hq D hD⟩⟩
theorem Qa {i:Nat} {y:Str} {py spos:Pos} (xs:List Str) (js:List Nat) (N0:List Str) (sc0:Scope) (hc:X.calm=true) (hNX:X.N.Nodup) (hiy:X.N[i]?=some y) (hi:PI X tg iter wi) (hg:∀cl C s H ex,PG (kj X scope xs js cl C s H ex) tg g)
  (hif:∀cl C s H ex,PF (kj X scope xs js cl C s H ex) ifs tt) (he:∀cl C s H ex,PE (kj X scope xs js cl C s H ex) elt te)
  (hsw:swapsWith (.ListComp elt [⟨tg,iter,ifs,0⟩] scope pos) (some (.Name y py)) spos.line X.env=pure true:=by rfl) (hy:X.env.scope.names.lookup y=some .local:=by rfl)
  (hk:scope.kind=.function:=by rfl) (hcell:∀y∈scope.names,y.2≠.cell:=by decide +kernel)
  (hnames:∀y∈scope.names,y.2=.local->scope.names.lookup y.1=some .local:=by decide +kernel)
  (hsc:X.env.scope=sc0:=by rfl) (hfree0:∀y∈scope.names,y.2=.free->sc0.names.lookup y.1=some .cell∨sc0.names.lookup y.1=some .free:=by decide +kernel)
  (hNN:X.N=N0:=by rfl) (hj0:∀y∈dG N0 js,scope.names.lookup y=some .free:=by decide +kernel)
  (hs:∀x,foldedSetIterable iter X.env x=pure x:=by intro _;rfl):
  PS X (.Assign [.Name y py] (.ListComp elt [⟨tg,iter,ifs,0⟩] scope pos) spos) (Lz (Pu xs js wi g tt te) (uw i)):=by
 intro pins s σ H D I h
 have hfree:∀y∈scope.names,y.2=.free->X.env.kindOf y.1=some .cell∨X.env.kindOf y.1=some .free:=fun y hy e=>by
  show X.env.scope.names.lookup y.1=some .cell∨X.env.scope.names.lookup y.1=some .free
  rw [hsc];exact hfree0 y hy e
 have hjs:∀y∈dG X.N js,scope.names.lookup y=some .free:=by rw [hNN];exact hj0
 rw [exec_Assign_Name_used _ _ _ _ hsw]
 refine wpAny_bind (wpAny_standAt (wpAny_bind ?_))
 show wpAny _ X.A (do let _ <-comprehension (.ListComp elt [⟨tg,iter,ifs,0⟩] scope pos) scope X.env _ (newList []) false (eval iter X.env) (some (assign (.Name y py) X.env))) _ _ s
 have hcl:closureFor scope X.env=pure (clos X.env scope.names []):=kO fun y hy e=>I.ok.has y.1 (hfree y hy e)
 refine wpAny_bind (wpAny_mono (wpAny_comprehension_free (use:=some (assign (.Name y py) X.env)) (Q:=fun _ s'=>SP X pins D .next s') rfl hs hcl hk hnames
  (dU (hi pins s σ H _ I h) fun xv s1 h1=>dU h1 fun it s2 h2=>?_)) (fun _ s' hq=>wpAny_pure (wpAny_pure hq)) fun _ _ e=>e)
 refine sS xs js (RR:=fun acc C=>compPost (model X.prog X.w) X.A X.xe (some (assign (.Name y py) X.env)) (fun _ s'=>SP X pins D .next s') acc C) (Q:=fun ys H2=>∀D',H2 D'=none->D.nx (σ.set i (some (.ref D'))) (upd H2 D' (.lst ys))) hc hk hcell hfree hg hif he hjs h2 ?_
 intro D' C s' H2 ys m I' hD hn all fpC hCD hq
 show wpAny _ X.A (assign (.Name y py) X.env (.ref D')) _ _ _
 refine wpAny_assign_Name (xJ I' hNX hiy (.inl hy) (v:=.ref D') rfl (fun s'' I'' ⟨a,sb,ha⟩=>?_) (.inr hy))
 obtain⟨f1,f2,f3,f4,f5,f6⟩:=fpC
 have hCa:C≠a:=by
  rcases ha with z | z
  ·rw [z];exact f2
  ·exact fun w=>f5 _ _ z w.symm
 exact⟨m,hn.sameBut sb hCa,fun h' sb'=>⟨_,_,I''.turned (t':=s''.toks) (it:=C) (fun b o hb e=>(sb'.2 b hb).trans e) f1 f2 f4 f5 f6,hq D' hD⟩⟩
end
theorem zZ {ts:List Str} {js:List Nat} {σ:St} {g:TG} {tt:TT} {te:TE} {Qd:List V->Hp->Prop} {K:PySem.W.Frag} {a:Addr} {xs:List V} {H:Hp} (Pv:Nat->List V->Hp->Prop) (hn:xs.length<=sizeLine) (h0:Pv 0 [] H) (hl:∀i ys H,Pv i ys H->ys.length<=i) (hq:∀i ys H,i<=xs.length->Pv i ys H->bT K H a xs)
  (hs:∀i x ys H,xs[i]?=some x->Pv i ys H->g x ((ts.map fun _=>none) ++ dX σ js) H fun σ2 H3=>σ2.drop ts.length=dX σ js/\tt σ2 H3 fun b H4=>if b=true then te σ2 H4 fun y H5=>Pv (i+1) (ys ++ [y]) H5 else Pv (i+1) ys H4)
  (hd:∀ys H,Pv xs.length ys H->Qd ys H):Ac ts js σ g tt te Qd (Tt K a) H:=by
 refine⟨fun i m ys H=>m=xs.length - i/\i<=xs.length/\Pv i ys H,⟨xs.length,by simp,Nat.zero_le _,h0⟩,?_⟩
 rintro i m ys H ⟨rfl,hi,p⟩
 have hlen:=hl i ys H p
 have q:=hq i ys H hi p
 by_cases hlt:i <xs.length
 ·refine .inr ⟨⟨xs,xs[i],q,by simp [hlt]⟩,by omega,Pv (i+1),fun ys' H' p'=>⟨xs.length - (i+1),by omega,rfl,hlt,p'⟩,fun x H' y=>?_⟩
  obtain⟨e,y⟩:=y
  subst e
  exact hs i x ys _ (y xs q) p
 ·have e:i=xs.length:=by omega
  subst e
  exact .inl ⟨⟨xs,q,Nat.le_refl _⟩,by omega,hd ys H p⟩
structure O4 (K:PySem.W.Frag) (x qual:Str) (st:Stmt) (f:Addr) (fd:FuncData) (its:Array Value):Prop where
 ex:∃(oc:Value) (od:Option Addr) (T:Addr) (kV doc pm:Value) (an:Option Addr) (cdv ct:Value) (osl:Array (Option Value)) (o:Obj) (n:Nat),
  fd=PySem.W.fnOf x qual (iM st) (gO st) (bz st) (.ref T) kV doc pm an cdv ct/\K.lookup f=some ⟨oc,od,.func fd,osl⟩/\PySem.W.codeIn K cdv qual=true/\K.lookup T=some o/\o.data=.seq its n
 kp:PySem.W.keepIn K (.ref f)=true
section
variable {P:Program} {w:World} {K:PySem.W.Frag} {mg:Str->Option Value} {base:Heap} {its:Array Value}
theorem O4.binds {x qual:Str} {st:Stmt} {f:Addr} {fd:FuncData} {ps:List Str} (F:O4 K x qual st f fd its)
  (h:∀(T:Addr) (kV doc pm:Value) (an:Option Addr) (cdv ct:Value) (us:List Value),us.length=ps.length->∃k,bindArgs (PySem.W.fnOf x qual (iM st) (gO st) (bz st) (.ref T) kV doc pm an cdv ct) ⟨us,[]⟩=seqItems? (.ref T) >>= k/\k (some its)=pure (ps.zip us)):Binds K fd ps []:=by
 obtain⟨oc,od,T,kV,doc,pm,an,cdv,ct,osl,o,n,rfl,lk,hcd,hT,ho⟩:=F.ex
 intro s us X hl
 rw [List.append_nil] at hl ⊢
 obtain⟨k,h1,h2⟩:=h T kV doc pm an cdv ct us hl
 exact .of_defaults rfl (X _ _ hT) ho h1 h2
theorem Rz {x qual:Str} {st:Stmt} {f T:Addr} {oc:Value} {od an:Option Addr} {osl:Array (Option Value)} {kV doc pm cdv ct:Value} {o:Obj} {n:Nat} (l:K.lookup f=some ⟨oc,od,.func (PySem.W.fnOf x qual (iM st) (gO st) (bz st) (.ref T) kV doc pm an cdv ct),osl⟩)
  (c:PySem.W.codeIn K cdv qual=true) (k:PySem.W.keepIn K (.ref f)=true) (d:K.lookup T=some o) (e:o.data=.seq its n):O4 K x qual st f (PySem.W.fnOf x qual (iM st) (gO st) (bz st) (.ref T) kV doc pm an cdv ct) its:=⟨⟨oc,od,T,kV,doc,pm,an,cdv,ct,osl,o,n,rfl,l,c,d,e⟩,k⟩
end
section
variable {X:Cx} {e:Expr} {es:List Expr} {te:TE} {t:TA} {pos:Pos} {st:Stmt} {rest:List Stmt} {ts us:TS}
end
theorem Av {X:Cx} {K:PySem.W.Frag} (hK:X.K=K):jC X (.type "list") (fun xs H Q=>∃p ys,xs=[.ref p]/\(bT K H p ys∨fY K H p ys)/\∀l,H l=none->Q (.ref l) (upd H l (.lst ys))):=by subst hK;exact qN
section
variable {X:Cx}
end
section
variable {X:Cx}
inductive Hw (x:V) (vs:List V) (H:Hp) (Q:VK):Prop where
 | mk:∀d kvs,x=.ref d->vs=[]->H d=some (.dK kvs)->Q .non (upd H d (.dK []))->Hw x vs H Q
noncomputable def QQ:V->List V->Hp->VK->Prop:=fun x vs H Q=>Hw x vs H Q
theorem Ml:Xe X "dict.clear" QQ:=by
 intro pins s σ H x vs v us Q I rx rv h
 obtain⟨d,kvs,rfl,rfl,hH,q⟩:=h
 cases rx
 have hus:=rv.zero
 subst hus
 obtain⟨z,hd,ws,rel,dd⟩:=Qw I.hok hH
 refine call_meetsIn PySem.F.slot_dict_clear dd.typeIs PySem.F.entry_dict_clear (PySem.F.args_dict_clear_1 _) (meets_dict_clear (cz X.prog X.w) d) ⟨ws,dd,by rw [<-rel.length];exact z,fun h' dd' hs=>?_⟩
 have he:∃q,h'.get? d=some q:=let ⟨q,_,_,hq,_⟩:=dd';⟨q,hq⟩
 exact⟨.non,_,zH (t':=s.toks) I (by rw [hH];exact True.intro) hs he (Fv (Nat.zero_le _) hd .nil dd'),rfl,q⟩
end
section
variable {prog:Program} {w:World} {A:Around} {E:Value->Shared->Prop}
end
noncomputable def PB (K:PySem.W.Frag) (a:Addr) (xs:List V):It:=
 ⟨fun i H=>bT K H a xs/\i <xs.length,fun i H x H'=>H'=H/\xs.reverse[i]?=some x,fun i H=>bT K H a xs/\xs.length<=i⟩
theorem Nh {P:Program} {w:World} {K:PySem.W.Frag} {tg:Expr} (a it:Addr) (xs:List V):Turn P w K tg (PB K a xs) [it] it (fun i h=>i<=xs.length/\h.IsRevIter it a ((xs.length:Int) - 1 - (i:Int))) where
 mem:=by simp
 obj:=fun i h st b hb=>by
  have e:b=it:=by simpa using hb
  subst e
  obtain⟨_,o,e,c,d⟩:=st
  exact⟨o,e,fun v z=>by rw [d] at z;cases z⟩
 keep:=fun i h h' st k=>⟨st.1,st.2.at fun o e=>k it (by simp) o e⟩
 item:=by
  intro X hP hw hK hc i pins s σ H E I hf st hg
  subst hP hw hK
  obtain⟨hq,hi⟩:=hg
  obtain⟨its,rv,p,hz⟩:=I.list hq
  have hl:=rv.length
  obtain⟨f0,f1,f2,f3,f4,f5⟩:=hf it (by simp)
  have e1:(xs.length:Int) - 1 - (i:Int)=((xs.length - 1 - i:Nat):Int):=by omega
  have hit:=st.2
  rw [e1] at hit
  have hx:xs.reverse[i]?=some (xs[xs.length - 1 - i]'(by omega)):=by rw [List.getElem?_reverse hi];exact List.getElem?_eq_getElem _
  obtain⟨u,hu,ru⟩:=rv.get (List.getElem?_eq_getElem (show xs.length - 1 - i <xs.length by omega))
  refine wpAny_pyNext_rev_item hit p.isList (x:=u) (by simpa using hu) fun h' st' sb=>?_
  have e2:((xs.length - 1 - i:Nat):Int) - 1=(xs.length:Int) - 1 - ((i+1:Nat):Int):=by omega
  rw [e2] at st'
  have I1:Inv X pins σ H { s with heap:=h' }:=I.turned (t':=s.toks) (fun b o hb e=>(sb.2 b hb).trans e) f0 f1 f3 f4 f5
  obtain⟨o,e,c,d⟩:=id st'
  exact⟨u,rfl,Dg (s:={ s with heap:=h' }) e c d (by decide) ⟨_,H,I1,ru,⟨rfl,hx⟩,⟨hi,st'⟩,fun b hb=>(hf b hb).1⟩⟩
 done:=by
  intro X hP hw hK hc i pins s σ H E I hf st hg
  subst hP hw hK
  obtain⟨hq,hi⟩:=hg
  obtain⟨f0,f1,f2,f3,f4,f5⟩:=hf it (by simp)
  have hit:=st.2
  rw [show(xs.length:Int) - 1 - (i:Int)= -1 by have:=st.1;omega] at hit
  exact wpAny_pyNext_rev_end (I.ok.hd hc) hit fun h' eb=>⟨rfl,I.turned (t':=s.toks) (fun b o hb e=>eb b o hb e) f0 f1 f3 f4 f5⟩
 self:=fun _ _ _ _ _ st h=>wpAny_pyIter_revIter st.2 h
section
variable {X:Cx} {tg:Expr}
theorem Hs:bootBuiltins "reversed" =some (.type "reversed"):=by decide +kernel
inductive SN (K:PySem.W.Frag) (R:It->Hp->Prop) (vs:List V) (H1:Hp):Prop where
 | mk:∀a xs,vs=[.ref a]->bT K H1 a xs->R (PB K a xs) H1->SN K R vs H1
noncomputable def Xv (K:PySem.W.Frag) (ta:TA):TI:=fun σ H R=>ta σ H fun vs H1=>SN K R vs H1
theorem TQ {l:Expr} {ta:TA} {p pos:Pos} (hg:Gl X "reversed") (hm:X.mg "reversed" =none) (ha:PA X [l] ta) (hs:starEach [l] X.env=[(false,eval l X.env)]:=by rfl):
  PI X tg (.Call (.Name "reversed" p) [l] [] pos) (Xv X.K ta):=by
 intro pins s σ H R I h
 refine Call_ (An I hg hm Hs (PyProof.Rows.callWith_type1 (dU (ha pos pins s σ H _ I h) fun us s1 ⟨vs,H1,I1,r1,q1⟩=>?_) hs rfl))
 obtain⟨a,xs,e,hq,q⟩:=q1
 subst e
 obtain⟨u,rfl,ru⟩:=vals1 r1
 cases ru
 obtain⟨its,rv,pl,hz⟩:=I1.list hq
 have hl:=rv.length
 refine call_reversed_list pl.isList (wpAny_pyIter_revIter (it:=s1.heap.objs.size) (l:=a) (i:=(xs.length:Int) - 1) ⟨_,Heap.get?_push_size _ rfl,rfl,by simp [revObj,hl]⟩ ?_)
 refine⟨s1.heap.objs.size,[s1.heap.objs.size],_,_,H1,rfl,I1.kept (t':=s1.toks) fun b o e=>Heap.get?_push_of_some _ e,Nh a _ xs,⟨Nat.zero_le _,⟨_,Heap.get?_push_size _ rfl,rfl,by simp [revObj,hl]⟩⟩,fun b hb=>?_,q⟩
 have e:b=s1.heap.objs.size:=by simpa using hb
 subst e
 exact I1.fpOk (Nat.le_refl _) (I1.hok.fresh (Nat.le_refl _))
end
section
variable {X:Cx} {e:Expr}
end
section
variable {X:Cx}
end
section
variable {M:Model} {A:Around} {E:Value->Shared->Prop} {nm q:Str} {C N:Addr} {bs bm:List Value} {hdct:Bool} {sn:List Str} {sub:List Value} {ab:Bool} {col:Option Bool} {dd:Option Addr} {k0 k1 k2 k3 k5:Option Value} {newId:String}
end
end L2
namespace L2
open PySem PyProof
section
variable {X:Cx} {x:Str} {px pos:Pos} {iter elt:Expr} {ifs:List Expr} {scope:Scope} {wi:TI} {tt:TT} {te:TE}
theorem yS (js:List Nat) {pins:List (Addr×Obj)} {σ:St} {s:Shared} {itv:Value} {Q:List V->Hp->Prop} {RR:Value->Addr->Result->Shared->Prop} {E:Value->Shared->Prop}
  (hc:X.calm=true) (hk:scope.kind=.function) (hx:scope.names.lookup x=some .local) (hcell:∀y∈scope.names,y.2≠.cell)
  (hfree:∀y∈scope.names,y.2=.free->X.env.kindOf y.1=some .cell∨X.env.kindOf y.1=some .free)
  (hN:(x:: dG X.N js).Nodup) (hjs:∀y∈dG X.N js,scope.names.lookup y=some .free)
  (hif:∀cl C s H ex,PF (xQ X scope x js cl C s H ex) ifs tt) (he:∀cl C s H ex,PE (xQ X scope x js cl C s H ex) elt te)
  (hit:PIE X pins σ (.Name x px) (CompEnd js tt te σ Q) itv s)
  (hR:∀D C s' H2 ys m,Inv X pins σ (upd H2 D (.lst ys)) s'->H2 D=none->s'.heap.Ns C m->(∀h',Heap.SameBut C s'.heap h'->Inv X pins σ (upd H2 D (.lst ys)) { s' with heap:=h' })->FZ X pins (upd H2 D (.lst ys)) C->C≠D->Q ys H2->RR (.ref D) C (.ok .next) s'):
  wpAny (model X.prog X.w) X.A (newList []) (fun acc s₃=>wpAny (model X.prog X.w) X.A (newFunctionEnv scope X.env.globals (clos X.env scope.names []) [] X.env.qual none .none (some X.env)) (fun cenv s₄=>
   codeAny (model X.prog X.w) X.A (.compStart (.ListComp elt [⟨.Name x px,iter,ifs,0⟩] scope pos) 0 itv acc { cenv with scope:=relabel scope X.env }) (RR acc cenv.locals) s₄) E s₃) E s:=
 sS (tg:=.Name x px) (g:=uw 0) [x] js hc hk hcell hfree (fun cl C s H ex=>qw (i:=0) hN rfl (.inl (lookup_relabel_local hx)) (.inr (lookup_relabel_local hx))) hif he hjs
  (by
   obtain⟨it,fp,tn,J,H',e,I,T,t0,hf,W,h0,hW⟩:=hit
   exact⟨it,fp,tn,J,H',e,I,T,t0,hf,W,h0,fun i m ys H2 w=>(hW i m ys H2 w).imp_right fun⟨a,b,N,c,d⟩=>⟨a,b,N,c,fun y H3 z=>⟨rfl,d y H3 z⟩⟩⟩) hR
theorem fM (js:List Nat) (N0:List Str) (sc0:Scope) (hc:X.calm=true) (hi:PI X (.Name x px) iter wi)
  (hif:∀cl C s H ex,PF (xQ X scope x js cl C s H ex) ifs tt) (he:∀cl C s H ex,PE (xQ X scope x js cl C s H ex) elt te)
  (hk:scope.kind=.function:=by rfl) (hx:scope.names.lookup x=some .local:=by rfl) (hcell:∀y∈scope.names,y.2≠.cell:=by decide +kernel)
  (hnames:∀y∈scope.names,y.2=.local->scope.names.lookup y.1=some .local:=by decide +kernel)
  (hsc:X.env.scope=sc0:=by rfl) (hfree0:∀y∈scope.names,y.2=.free->sc0.names.lookup y.1=some .cell∨sc0.names.lookup y.1=some .free:=by decide +kernel)
  (hNN:X.N=N0:=by rfl) (hN0:(x:: dG N0 js).Nodup:=by decide +kernel) (hj0:∀y∈dG N0 js,scope.names.lookup y=some .free:=by decide +kernel)
  (hs:∀x,foldedSetIterable iter X.env x=pure x:=by intro _;rfl):
  PE X (.ListComp elt [⟨.Name x px,iter,ifs,0⟩] scope pos) (Sg js wi tt te):=by
 intro pins s σ H Q I h
 have hN:(x:: dG X.N js).Nodup:=by rw [hNN];exact hN0
 have hfree:∀y∈scope.names,y.2=.free->X.env.kindOf y.1=some .cell∨X.env.kindOf y.1=some .free:=fun y hy e=>by
  show X.env.scope.names.lookup y.1=some .cell∨X.env.scope.names.lookup y.1=some .free
  rw [hsc];exact hfree0 y hy e
 have hjs:∀y∈dG X.N js,scope.names.lookup y=some .free:=by rw [hNN];exact hj0
 rw [eval_ListComp]
 have hcl:closureFor scope X.env=pure (clos X.env scope.names []):=kO fun y hy e=>I.ok.has y.1 (hfree y hy e)
 refine wpAny_comprehension_free (use:=none) rfl hs hcl hk hnames (dU (hi pins s σ H _ I h) fun xv s1 h1=>dU h1 fun it s2 h2=>?_)
 refine yS js (RR:=fun acc C=>compPost (model X.prog X.w) X.A X.xe none (EP X pins σ Q) acc C) (Q:=fun ys H2=>∀D,H2 D=none->Q (.ref D) (upd H2 D (.lst ys))) hc hk hx hcell hfree hN hjs hif he h2 ?_
 intro D C s' H2 ys m I' hD hn all fpC hCD hq
 exact⟨m,hn,fun h' sb=>⟨.ref D,_,all h' sb,rfl,hq D hD⟩⟩
theorem pR {i:Nat} {y:Str} {py spos:Pos} (js:List Nat) (N0:List Str) (sc0:Scope) (hc:X.calm=true) (hNX:X.N.Nodup) (hiy:X.N[i]?=some y) (hi:PI X (.Name x px) iter wi)
  (hif:∀cl C s H ex,PF (xQ X scope x js cl C s H ex) ifs tt) (he:∀cl C s H ex,PE (xQ X scope x js cl C s H ex) elt te)
  (hsw:swapsWith (.ListComp elt [⟨.Name x px,iter,ifs,0⟩] scope pos) (some (.Name y py)) spos.line X.env=pure true:=by rfl) (hy:X.env.scope.names.lookup y=some .local:=by rfl)
  (hk:scope.kind=.function:=by rfl) (hx:scope.names.lookup x=some .local:=by rfl) (hcell:∀y∈scope.names,y.2≠.cell:=by decide +kernel)
  (hnames:∀y∈scope.names,y.2=.local->scope.names.lookup y.1=some .local:=by decide +kernel)
  (hsc:X.env.scope=sc0:=by rfl) (hfree0:∀y∈scope.names,y.2=.free->sc0.names.lookup y.1=some .cell∨sc0.names.lookup y.1=some .free:=by decide +kernel)
  (hNN:X.N=N0:=by rfl) (hN0:(x:: dG N0 js).Nodup:=by decide +kernel) (hj0:∀y∈dG N0 js,scope.names.lookup y=some .free:=by decide +kernel)
  (hs:∀x,foldedSetIterable iter X.env x=pure x:=by intro _;rfl):
  PS X (.Assign [.Name y py] (.ListComp elt [⟨.Name x px,iter,ifs,0⟩] scope pos) spos) (Lz (Sg js wi tt te) (uw i)):=by
 intro pins s σ H D I h
 have hN:(x:: dG X.N js).Nodup:=by rw [hNN];exact hN0
 have hfree:∀y∈scope.names,y.2=.free->X.env.kindOf y.1=some .cell∨X.env.kindOf y.1=some .free:=fun y hy e=>by
  show X.env.scope.names.lookup y.1=some .cell∨X.env.scope.names.lookup y.1=some .free
  rw [hsc];exact hfree0 y hy e
 have hjs:∀y∈dG X.N js,scope.names.lookup y=some .free:=by rw [hNN];exact hj0
 rw [exec_Assign_Name_used _ _ _ _ hsw]
 refine wpAny_bind (wpAny_standAt (wpAny_bind ?_))
 show wpAny _ X.A (do let _ <-comprehension (.ListComp elt [⟨.Name x px,iter,ifs,0⟩] scope pos) scope X.env _ (newList []) false (eval iter X.env) (some (assign (.Name y py) X.env))) _ _ s
 have hcl:closureFor scope X.env=pure (clos X.env scope.names []):=kO fun y hy e=>I.ok.has y.1 (hfree y hy e)
 refine wpAny_bind (wpAny_mono (wpAny_comprehension_free (use:=some (assign (.Name y py) X.env)) (Q:=fun _ s'=>SP X pins D .next s') rfl hs hcl hk hnames
  (dU (hi pins s σ H _ I h) fun xv s1 h1=>dU h1 fun it s2 h2=>?_)) (fun _ s' hq=>wpAny_pure (wpAny_pure hq)) fun _ _ e=>e)
 refine yS js (RR:=fun acc C=>compPost (model X.prog X.w) X.A X.xe (some (assign (.Name y py) X.env)) (fun _ s'=>SP X pins D .next s') acc C) (Q:=fun ys H2=>∀D',H2 D'=none->D.nx (σ.set i (some (.ref D'))) (upd H2 D' (.lst ys))) hc hk hx hcell hfree hN hjs hif he h2 ?_
 intro D' C s' H2 ys m I' hD hn all fpC hCD hq
 show wpAny _ X.A (assign (.Name y py) X.env (.ref D')) _ _ _
 refine wpAny_assign_Name (xJ I' hNX hiy (.inl hy) (v:=.ref D') rfl (fun s'' I'' ⟨a,sb,ha⟩=>?_) (.inr hy))
 obtain⟨f1,f2,f3,f4,f5,f6⟩:=fpC
 have hCa:C≠a:=by
  rcases ha with z | z
  ·rw [z];exact f2
  ·exact fun w=>f5 _ _ z w.symm
 exact⟨m,hn.sameBut sb hCa,fun h' sb'=>⟨_,_,I''.turned (t':=s''.toks) (it:=C) (fun b o hb e=>(sb'.2 b hb).trans e) f1 f2 f4 f5 f6,hq D' hD⟩⟩
end
end L2
namespace L2
open PySem PySem.Spec PyProof.Rows
noncomputable def fdOf (K:PySem.W.Frag) (f:Addr):FuncData:=match K.lookup f with
 | some ⟨_,_,.func d,_⟩=>d
 | _=>default
theorem RM {K:PySem.W.Frag} {f:Addr} {oc:Value} {od:Option Addr} {fd:FuncData} {osl:Array (Option Value)} (l:K.lookup f=some ⟨oc,od,.func fd,osl⟩):fdOf K f=fd:=by
 unfold fdOf
 rw [l]
structure fD (K:PySem.W.Frag) (nm qn:Str) (s:Stmt) (f:Addr) (ps:List Str):Prop where
 F:R4 K nm qn s f (fdOf K f)
 b:Binds K (fdOf K f) ps []
 i:PySem.W.isFn K (.ref f)=true
theorem fD.me {K:PySem.W.Frag} {nm qn m:Str} {s:Stmt} {f C:Addr} {ps:List Str} (x:fD K nm qn s f ps) (h:PySem.W.findIn K (.ref C) m=some (some (.ref f))):Meth K C m f:=⟨h,x.i,x.F.kp⟩
theorem fD.of {K:PySem.W.Frag} {nm qn:Str} {s:Stmt} {f:Addr} {ps:List Str} {oc:Value} {od an:Option Addr} {osl:Array (Option Value)} {kV doc pm cdv ct:Value}
  (l:K.lookup f=some ⟨oc,od,.func (PySem.W.fnOf nm qn (iM s) (gO s) (bz s) .none kV doc pm an cdv ct),osl⟩) (c:PySem.W.codeIn K cdv qn=true) (k:PySem.W.keepIn K (.ref f)=true) (i:PySem.W.isFn K (.ref f)=true)
  (h:∀(kV doc pm:Value) (an:Option Addr) (cdv ct:Value) (us:List Value),us.length=ps.length->bindArgs (PySem.W.fnOf nm qn (iM s) (gO s) (bz s) .none kV doc pm an cdv ct) ⟨us,[]⟩=pure (ps.zip us)):fD K nm qn s f ps:=by
 have e:fdOf K f=PySem.W.fnOf nm qn (iM s) (gO s) (bz s) .none kV doc pm an cdv ct:=by
  unfold fdOf
  rw [l]
 have F:=TJ l c k
 have b:=F.binds h
 rw [<-e] at F b
 exact⟨F,b,i⟩
structure Ye (K:PySem.W.Frag) (nm qn:Str) (s:Stmt) (f:Addr) (ps:List Str):Prop where
 F:O4 K nm qn s f (fdOf K f) #[.none]
 b:Binds K (fdOf K f) ps []
 i:PySem.W.isFn K (.ref f)=true
theorem Ye.of {K:PySem.W.Frag} {nm qn:Str} {s:Stmt} {f T:Addr} {ps:List Str} {oc oe:Value} {od an oh:Option Addr} {osl osm:Array (Option Value)} {kV doc pm cdv ct:Value} {n:Nat}
  (l:K.lookup f=some ⟨oc,od,.func (PySem.W.fnOf nm qn (iM s) (gO s) (bz s) (.ref T) kV doc pm an cdv ct),osl⟩) (d:K.lookup T=some ⟨oe,oh,.seq #[.none] n,osm⟩) (c:PySem.W.codeIn K cdv qn=true) (k:PySem.W.keepIn K (.ref f)=true) (i:PySem.W.isFn K (.ref f)=true)
  (h:∀fd:FuncData,O4 K nm qn s f fd #[.none]->Binds K fd ps []):Ye K nm qn s f ps:=by
 have F:=Rz (its:=#[.none]) l c k d rfl
 have b:=h _ F
 rw [<-RM l] at F b
 exact⟨F,b,i⟩
structure mU (K:PySem.W.Frag) (mg:Str->Option Value) (nm:Str) (s:Stmt) (f:Addr) (ps:List Str):Prop where
 x:fD K nm nm s f ps
 m:mg nm=some (.ref f)
theorem mU.of {K:PySem.W.Frag} {mg:Str->Option Value} {nm:Str} {s:Stmt} {f:Addr} {ps:List Str} (m:mg nm=some (.ref f)) (x:fD K nm nm s f ps):mU K mg nm s f ps:=⟨x,m⟩
theorem gC {mg:Str->Option Value} {nm:Str} {u:Value} {v:V} (m:mg nm=some u) (r:RelV v u):∃u,mg nm=some u/\RelV v u:=⟨u,m,r⟩
theorem mU.F {K:PySem.W.Frag} {mg:Str->Option Value} {nm:Str} {s:Stmt} {f:Addr} {ps:List Str} (h:mU K mg nm s f ps):R4 K nm nm s f (fdOf K f):=h.x.F
theorem mU.b {K:PySem.W.Frag} {mg:Str->Option Value} {nm:Str} {s:Stmt} {f:Addr} {ps:List Str} (h:mU K mg nm s f ps):Binds K (fdOf K f) ps []:=h.x.b
noncomputable def MB (K:PySem.W.Frag) (C:Addr):List (Str×Addr)->Prop
 | []=>True
 | (m,f):: r=>PySem.W.findIn K (.ref C) m=some (some (.ref f))/\MB K C r
noncomputable def NB (K:PySem.W.Frag) (C:Addr):List Str->Prop
 | []=>True
 | f:: r=>PySem.W.findIn K (.ref C) f=some none/\NB K C r
structure Ig (K:PySem.W.Frag) (mg:Str->Option Value) (nm:Str) (C:Addr) (ms:List (Str×Addr)) (as:List Str):Prop where
 m:mg nm=some (.ref C)
 c:M5 K C
 mks:PySem.W.makesIn K C=true
 kp:PySem.W.keepIn K (.ref C)=true
 me:MB K C ms
 na:NB K C as
theorem Ig.M {K:PySem.W.Frag} {mg:Str->Option Value} {nm:Str} {C f:Addr} {ms:List (Str×Addr)} {as ps:List Str} {n q:Str} {s:Stmt} (h:Ig K mg nm C (("__init__",f):: ms) as) (x:fD K n q s f ps):Mk K C f:=⟨h.mks,h.me.1,x.i,h.kp⟩
theorem Ut {K:PySem.W.Frag} {nm qn:Str} {st:Stmt} {f:Addr} {x:Str} (F:R4 K nm qn st f (fdOf K f))
  (h:∀(kV doc pm:Value) (an:Option Addr) (cdv ct v:Value),bindArgs (PySem.W.fnOf nm qn (iM st) (gO st) (bz st) .none kV doc pm an cdv ct) ⟨[v],[]⟩=pure [(x,v)]) (s:Shared) (v:Value):BindsTo s (fdOf K f) ⟨[v],[]⟩ [(x,v)]:=by
 obtain⟨oc,od,kV,doc,pm,an,cdv,ct,osl,e,lk,hcd⟩:=F.ex
 rw [e]
 exact .of_eq (h kV doc pm an cdv ct v)
theorem Yi {K:PySem.W.Frag} {h:Heap} {C f:Addr} (X:K.In h) (_:PySem.W.findIn K (.ref C) "__init__" =some (some (.ref f))) (b:QB K C f=true):ExcAt K C:=(zP.ofIn b).at X
theorem us_0 {α:Type} {P:List α->Prop} (h:P []):∀us:List α,us.length=0->P us
 | [],_=>h
theorem Cu {α:Type} {P:List α->Prop} (h:∀a,P [a]):∀us:List α,us.length=1->P us
 | [a],_=>h a
theorem Cp {α:Type} {P:List α->Prop} (h:∀a b,P [a,b]):∀us:List α,us.length=2->P us
 | [a,b],_=>h a b
theorem Fw {α:Type} {P:List α->Prop} (h:∀a b c,P [a,b,c]):∀us:List α,us.length=3->P us
 | [a,b,c],_=>h a b c
theorem QK {α:Type} {P:List α->Prop} (h:∀a b c d,P [a,b,c,d]):∀us:List α,us.length=4->P us
 | [a,b,c,d],_=>h a b c d
theorem Tw {α:Type} {P:List α->Prop} (h:∀a b c d e,P [a,b,c,d,e]):∀us:List α,us.length=5->P us
 | [a,b,c,d,e],_=>h a b c d e
theorem Vr {α:Type} {P:List α->Prop} (h:∀a b c d e f,P [a,b,c,d,e,f]):∀us:List α,us.length=6->P us
 | [a,b,c,d,e,f],_=>h a b c d e f
theorem us_7 {α:Type} {P:List α->Prop} (h:∀a b c d e f g,P [a,b,c,d,e,f,g]):∀us:List α,us.length=7->P us
 | [a,b,c,d,e,f,g],_=>h a b c d e f g
theorem fD.sc {K:PySem.W.Frag} {nm qn:Str} {s:Stmt} {f:Addr} {ps:List Str} (_:fD K nm qn s f ps) (N:List Str) (h:gP N ps (bz s):=by exact⟨rfl,rfl,rfl,by decide +kernel,rfl,by decide +kernel,by decide +kernel⟩):gP N ps (bz s):=h
theorem mU.sc {K:PySem.W.Frag} {mg:Str->Option Value} {nm:Str} {s:Stmt} {f:Addr} {ps:List Str} (_:mU K mg nm s f ps) (N:List Str) (h:gP N ps (bz s):=by exact⟨rfl,rfl,rfl,by decide +kernel,rfl,by decide +kernel,by decide +kernel⟩):gP N ps (bz s):=h
noncomputable abbrev FO (P:Program) (w:World) (K:PySem.W.Frag) (mg:Str->Option Value) (base:Heap) (k:Nat) (f:Addr) (ps:List Str) (sp:Sp):Prop:=iW P w K mg base Cm k f (fdOf K f) ps sp
theorem Qo {N ps:List Str} {sc:Scope} (h:gP N ps sc:=by exact⟨rfl,rfl,rfl,by decide +kernel,rfl,by decide +kernel,by decide +kernel⟩):gP N ps sc:=h
section
variable {X:Cx} {k k' i:Nat} {f C:Addr} {ps as:List Str} {ms:List (Str×Addr)} {sp:Sp} {x m nm qn n:Str} {p pos apos pos':Pos} {e o:Expr} {es:List Expr} {ta te:TE} {t:TA} {s:Stmt} {N:List Str}
theorem dY (F:iW X.prog X.w X.K X.mg X.base Cm k f (fdOf X.K f) ps sp) (g:mU X.K X.mg x s f ps) (hr:iY k' X.A) (ha:PA X (e:: es) t) (hk:k<=k':=by decide) (hg:Gl X x:=by rfl)
  (hdb:(x == ("__debug__" :Str))=false:=by decide) (he:starEach (e:: es) X.env=(false,eval e X.env):: starEach es X.env:=by rfl) (hpl:(backTo pos (starEach es X.env)).any (·.1)=false:=by rfl):
  PE X (.Call (.Name x p) (e:: es) [] pos) (RZ sp [] E0 t):=QZ F (hr.mono hk) hg g.m g.F.kp g.b .nil jd ha hdb he hpl
theorem Ji {pl:Sem Bool} (he:PE X o ta) (c:Ig X.K X.mg n C ms as) (hm:PySem.W.findIn X.K (.ref C) m=some (some (.ref f))) (F:iW X.prog X.w X.K X.mg X.base Cm k f (fdOf X.K f) ps sp) (g:fD X.K nm qn s f ps) (hr:iY k' X.A) (ha:PA X (e:: es) t)
  (hk:k<=k':=by decide) (hst:starEach (e:: es) X.env=(false,eval e X.env):: starEach es X.env:=by rfl) (hpl:(backTo pos (starEach es X.env)).any (·.1)=false:=by rfl)
  (ht:eval (.Call (.Attribute o m apos) (e:: es) [] pos) X.env=(do
   let ov <-eval o X.env
   standAt apos.atName
   let (f,first) <-holding [ov] (getMethod ov m pl)
   callWith pos f first (backTo pos (starEach (e:: es) X.env)) (backToKw pos (keywordEach [] X.env))):=by rfl):
  PE X (.Call (.Attribute o m apos) (e:: es) [] pos) (DP C m sp [] E0 ta t):=Rc he c.c (g.me hm) F (hr.mono hk) g.b .nil jd ha hst hpl ht
theorem Tv {pl:Sem Bool} (he:PE X o ta) (c:Ig X.K X.mg n C ms as) (hm:PySem.W.findIn X.K (.ref C) m=some (some (.ref f))) (F:iW X.prog X.w X.K X.mg X.base Cm k f (fdOf X.K f) ps sp) (g:fD X.K nm qn s f ps) (hr:iY k' X.A)
  (hk:k<=k':=by decide) (ht:eval (.Call (.Attribute o m apos) [] [] pos) X.env=(do
   let ov <-eval o X.env
   standAt apos.atName
   let (f,first) <-holding [ov] (getMethod ov m pl)
   callWith pos f first (backTo pos (starEach [] X.env)) (backToKw pos (keywordEach [] X.env))):=by rfl):
  PE X (.Call (.Attribute o m apos) [] [] pos) (DP C m sp [] E0 ta JX):=Nf he c.c (g.me hm) F (hr.mono hk) g.b .nil jd ht
theorem gN {sc:Scope} (S:gP X.N ps sc) (i:Nat) (hi:X.N[i]?=some x:=by rfl) (hx:Loc X.env.scope x:=by first | exact Or.inl rfl | exact Or.inr rfl) (hf:X.fn x=true∨X.env.scope.names.lookup x=some .local:=by first | exact .inl rfl | exact .inr rfl | assumption):PG X (.Name x pos) (uw i):=qw S.nd hi hx hf
theorem sN {sc:Scope} (S:gP X.N ps sc) (i:Nat) (he:PE X e te) (hi:X.N[i]?=some x:=by rfl) (hx:Loc X.env.scope x:=by first | exact Or.inl rfl | exact Or.inr rfl) (hs:swapsWith e (some (.Name x pos')) pos.line X.env=pure false:=by rfl) (hf:X.fn x=true∨X.env.scope.names.lookup x=some .local:=by first | exact .inl rfl | exact .inr rfl | assumption):
  PS X (.Assign [.Name x pos'] e pos) (Lz te (uw i)):=U4 S.nd hi hx he hs hf
theorem Ft (h1:PE X o ta) (h2:PA X (e:: es) t) (hbase:attributeBase o "append" X.env (eval o X.env)=eval o X.env:=by rfl)
  (hfew:((backTo pos (starEach (e:: es) X.env)).all (fun x=>!x.1) && (backToKw pos (keywordEach [] X.env)).all (fun x=>x.1.isSome) && decide ((e:: es).length+([]:List Keyword).length+(if ([]:List Keyword).isEmpty then 0 else 1) <30))=true:=by rfl)
  (hline:(apos.endLine == pos.line)=true:=by rfl) (hs:starEach (e:: es) X.env=(false,eval e X.env):: starEach es X.env:=by rfl) (hplain:(backTo pos (starEach es X.env)).any (·.1)=false:=by rfl):
  PE X (.Call (.Attribute o "append" apos) (e:: es) [] pos) (Yq X.K "list" K7 ta t):=Ag PySem.F.plainAttrs_list PySem.F.slot_list_append PySem.F.type_list_append Lk h1 h2 hbase hfew hline hs hplain
end
theorem ln {sp:Sp} {ps:List Str} (h:∀vs H Q E,sp vs H Q E->vs.length=ps.length:=by
 intro _ _ _ _ h
 first
 | (cases h;subst_vars;rfl)
 | (cases h;rename_i h;cases h;subst_vars;rfl)
 | (obtain⟨_,rfl,_⟩:=h;rfl)
 | (obtain⟨_,_,rfl,_⟩:=h;rfl)
 | (obtain⟨_,_,_,rfl,_⟩:=h;rfl)):∀vs H Q E,sp vs H Q E->vs.length=ps.length:=h
theorem xx {X:Cx}:jC X (.builtin "len") (fun xs H Q=>∃d kvs,xs=[.ref d]/\Rd H d (.dK kvs)/\Q (.int (kvs.length:Nat)) H):=by
 intro pins s σ H xs us Q I rx h
 obtain⟨d,kvs,rfl,hr,q⟩:=h
 obtain⟨u,rfl,ru⟩:=vals1 rx
 cases ru
 obtain⟨z,hd,vs,rel,dd⟩:=qP I.hok hr
 have hl:kvs.length=vs.length:=Paired.length rel
 have hs:sizeLine=16777216:=sizeLine_eq
 refine call_len_dict (knd:=cz X.prog X.w) hd dd (by omega) ?_
 rw [<-hl]
 exact⟨.int _,H,I.tok _,⟨_,rfl⟩,q⟩
theorem Ql {X:Cx} {pins:List (Addr×Obj)} {σ:St} {H:Hp} {s:Shared} (I:Inv X pins σ H s) (hu:X.A.in1.units+64 <cLine) {ka0 kb0:List (Key×V)} {va vb:List (Key×Value)} (ra:KV ka0 va) (rb:KV kb0 vb) (nd:(vb.map (·.1)).Nodup) (hn:∀(i:Nat) (k:Key) (v:V),ka0[i]?=some (k,v)->∃w d,kb0[i]?=some (k,w)/\Dt X.K H v d/\Dt X.K H w d/\SeqAt.shaped d=true/\PyData.eqv d d=true):
  ∀(n:Nat) {ka:List (Key×Value)},ka=va.drop n->PySem.W.KeqHits X.A.in1 s vb ka true:=by
 intro n ka e
 induction ka generalizing n with
 | nil=>exact .nil
 | cons kv r ih=>
  obtain⟨k,v⟩:=kv
  have hv:va[n]?=some (k,v):=by
   have:=congrArg (·[0]?) e
   simpa using this.symm
  obtain⟨v0,e0,r0⟩:=Kh ra hv
  obtain⟨w,d,ew,hd,hw,sh,ev⟩:=hn _ _ _ e0
  obtain⟨v',e',r'⟩:=Km rb ew
  obtain⟨as,q1⟩:=hd.reads I r0
  obtain⟨bs,q2⟩:=hw.reads I r'
  have hd:r=va.drop (n+1):=by
   have hlt:n <va.length:=(List.getElem?_eq_some_iff.mp hv).1
   rw [List.drop_eq_getElem_cons hlt] at e
   exact(List.cons.inj e).2
  have q:=PySem.W.keq_at (A:=X.A) q1 q2 sh sh hu
  rw [ev] at q
  exact PySem.W.KeqHits.hit (e:=true) (b:=true) (uz nd e') q (ih _ hd)
noncomputable def Va (K:PySem.W.Frag) (x y:V) (H:Hp):Prop:=∃p q ka kb,x=.ref p/\y=.ref q/\Rd H p (.dK ka)/\Rd H q (.dK kb)/\ka.length=kb.length/\∀(i:Nat) (k:Key) (v:V),ka[i]?=some (k,v)->∃w d,kb[i]?=some (k,w)/\Dt K H v d/\Dt K H w d/\SeqAt.shaped d=true/\PyData.eqv d d=true
theorem RK {X:Cx} (hu:X.A.units+100 <cLine):wK X (compareOp .NotEq) (fun x y H Q=>Va X.K x y H/\Q (.bl false) H):=by
 intro pins s σ H x y v u Q I rx ry h
 obtain⟨⟨p,q,ka,kb,rfl,rfl,h1,h2,hl,hn⟩,hq⟩:=h
 cases rx
 cases ry
 obtain⟨_,a1,va,r1,d1⟩:=qP I.hok h1
 obtain⟨_,a2,vb,r2,d2⟩:=qP I.hok h2
 obtain⟨_,_,_,_,_,_,_,_,nd⟩:=id d2
 refine PySem.W.keq_ne a1 a2 d1 d2 (by omega) (fun _=>Ql I (by show X.A.units+1+64 <cLine;omega) r1 r2 nd hn 0 (by simp)) ?_
 have e:va.length=vb.length:=(Paired.length r1).symm.trans (hl.trans (Paired.length r2))
 rw [e,beq_self_eq_true,Bool.true_and]
 exact cZ I hq rfl
end L2
namespace PySem
open PyProof.Rows
theorem Mj:typeLookup (.type "list") "keys" =pure none:=am_miss_of_fast (by kernel_rfl)
theorem Lr {prog:Program} {w:World} {A:Around} {E:Value->Shared->Prop} {s:Shared} {a:Addr} {o:Obj} {xs:Array Value} {k:Nat} {Q:Option Value->Shared->Prop}
  (hx:s.heap.get? a=some o) (hc:o.cls=.type "list") (hdat:o.data=.seq xs k) (hd:o.dict=none) (hA:A.handled=none)
  (h:∀h' tk,(∀b ob,s.heap.get? b=some ob->h'.get? b=some ob)->Q none { s with heap:=h',toks:=tk }):
  wpAny (model prog w) A (getAttr? (.ref a) "keys") Q E s:=by
 obtain⟨c,dct,dat,sl⟩:=o
 simp only at hc hdat hd
 subst hc hdat hd
 obtain⟨hp,g,d,tk,os⟩:=s
 have hT:∀tk',(⟨hp,g,d,tk',os⟩:Shared).TypeIs (.ref a) "list" :=fun _=>⟨_,hx,rfl⟩
 have f1:=sub_AttributeError
 have f3:=F.slot_list_getattribute.lookup
 have f4:=F.slot_list_getattribute.bind (.ref a)
 have f5:=am_list_getattr_none
 unfold getAttr? getAttrBy? getAttrBy
 repeat (any_goals (first | assumption | exact hT _ | ((with_reducible show wpAny _ _ (call (Value.builtin "list.__getattribute__") _ _) _ _ _);refine call_meets F.slot_list_getattribute (hT _) am_entry_list_getattribute (F.args_list_getattribute_2 _ _) (meets_getattribute_miss_list a xs k sl "keys" _ Mj (by decide +kernel) (by size_fits)) ⟨hx,hA,fun h' tk' e hx'=>?_⟩) | wp_step))
 obtain⟨t',u',he⟩:=hx'.there
 show wpAny _ _ (getattributeRaised _ _ _ _ _ _ _) _ _ _
 unfold getattributeRaised
 repeat (any_goals (first | assumption | wp_step))
 exact h _ _ hx'.keeps
theorem jP:entryFor table "dict.update.loop" =some Builtin.«dict.update.loop» :=entryFor_of_tree (by kernel_rfl)
theorem eY:plainId "dict.update.loop" =true:=by decide +kernel
section
variable {prog:Program} {w:World} {A:Around} {R:Result->Shared->Prop} {I:Addr} {fp wr:List Addr} {G:Array GenState->Array GenState->Prop} {n:Nat} {P:Nat->Value->Prop} {St:Nat->Shared->Prop} {KK:Type} [DecidableEq KK] {knd:KeyKind prog w KK}
theorem Bj (W:WalksS prog w A.in1 I fp wr G n P St) (D:Addr) (hDf:D∉fp) (h0:Heap) (ks:List (KK×Value)) (hn:ks.length=n) (hz:n<=sizeLine) (nd:(ks.map (·.1)).Nodup)
  (hP:∀i v,P i v->∃u o m kv x k,v=.ref u/\ks[i]?=some (k,x)/\knd.is k kv=true/\h0.get? u=some o/\o.cls=.type "tuple" /\o.data=.seq #[kv,x] m) (hw:∀b o,h0.get? b=some o->b∉D:: wr):
  ∀(k i:Nat) (t:Tok) (s:Shared),n - i=k->i<=n->St i s->(∀b o,h0.get? b=some o->s.heap.get? b=some o)->s.heap.DictOf knd D (ks.take i)->
   (∀s',Moved (D:: wr) G s s'->s'.heap.DictOf knd D ks->R (.ok (.ret .none)) s')->
   codeAny (model prog w) A (.builtin "dict.update.loop" ⟨[.ref D,.ref I,.int i t,.none],[]⟩) R s:=by
 have hDw:D∉wr:=fun h=>hDf (W.sub _ h)
 have hsub:∀b∈wr,b∈D:: wr:=fun b hb=>List.mem_cons_of_mem _ hb
 intro k
 induction k with
 | zero=>
  intro i t s hk hi hst hkp hD hR
  have hin:i=n:=by omega
  subst hin
  refine codeAny_builtin jP ?_
  rw [Around.under_plainId eY _]
  show wpAny _ A.in1 (pyNext (.ref I) >>= _) _ _ s
  refine wpAny_bind (W.done s _ _ hst fun s' hm=>?_)
  show wpAny _ A.in1 (Builtin.Dict.addKeywords D [] >>= _) _ _ s'
  refine wpAny_bind (wpAny_pure (wpAny_pure (hR s' (hm.mono hsub) ?_)))
  obtain⟨o,es,ep,ho,rest⟩:=hD
  rw [<-hn,List.take_length] at rest
  exact⟨o,es,ep,hm.heap D _ hDw ho,rest⟩
 | succ k ih=>
  intro i t s hk hi hst hkp hD hR
  have hlt:i <n:=by omega
  refine codeAny_builtin jP ?_
  rw [Around.under_plainId eY _]
  show wpAny _ A.in1 (pyNext (.ref I) >>= _) _ _ s
  refine wpAny_bind (W.item i s _ _ hlt hst fun v s' hPi hst' hm=>?_)
  obtain⟨u,o,m,kv,x,ky,rfl,hks,hky,hu,hc,hd⟩:=hP i v hPi
  have hkp':∀b o,h0.get? b=some o->s'.heap.get? b=some o:=fun b o e=>hm.heap b o (fun z=>hw b o e (hsub _ z)) (hkp b o e)
  have hu':=hkp' u o hu
  have hD':s'.heap.DictOf knd D (ks.take i):=by
   obtain⟨o,es,ep,ho,rest⟩:=hD
   exact⟨o,es,ep,hm.heap D _ hDw ho,rest⟩
  obtain⟨oc,od,oda,osl⟩:=o
  simp only at hc hd
  subst hc hd
  have hT:s'.TypeIs (.ref u) "tuple" :=⟨_,hu',rfl⟩
  show wpAny _ A.in1 (holding [Value.ref u] _ >>= _) _ _ s'
  refine wpAny_bind (wpAny_holding ?_)
  have hpi:wpAny (model prog w) A.in1 (Builtin.Dict.pairItems (.ref u)) (fun l s2=>l=[kv,x]/\s2=s') (fun _ _=>False) s':=by
   obtain⟨hp,g,d,tk,os⟩:=s'
   unfold Builtin.Dict.pairItems
   repeat (any_goals (first | assumption | wp_step))
   exact⟨rfl,rfl⟩
  refine wpAny_bind (wpAny_tryCatch (wpAny_mono hpi ?_ ?_))
  ·rintro l s2 ⟨rfl,rfl⟩
   have hkl:ky∉(ks.take i).map (·.1):=fun hmem=>by
    have hi':=(List.getElem?_eq_some_iff.mp hks).1
    obtain⟨j,hj,ej⟩:=List.mem_iff_getElem.mp hmem
    rw [List.length_map,List.length_take] at hj
    rw [List.getElem_map,List.getElem_take] at ej
    have e2:(ks.map (·.1))[i]'(by rw [List.length_map];exact hi')=ky:=by rw [List.getElem_map,(List.getElem?_eq_some_iff.mp hks).2]
    have e1:(ks.map (·.1))[j]'(by rw [List.length_map];omega)=ky:=by rw [List.getElem_map];exact ej
    have:=(List.getElem_inj nd).mp (e1.trans e2.symm)
    omega
   have est:stored (ks.take i) ky x=ks.take (i+1):=by
    unfold stored
    rw [if_neg,List.take_add_one,hks]
    ·rfl
    ·rw [List.any_eq_true]
     rintro⟨kx,h1,h2⟩
     exact hkl (List.mem_map.mpr ⟨kx,h1,of_decide_eq_true h2⟩)
   refine wpAny_holding (wpAny_dictSet_pairs hky hD' (fun h' hd' hsb=>?_) (by rw [List.length_take];omega))
   rw [est] at hd'
   refine wpAny_pure ⟨plainId_quiet eY _,?_⟩
   refine ih (i+1) _ _ (by omega) hlt (W.frame _ s2 _ _ hst' (Nat.le_succ _) fun b hb o e=>?_) (fun b o e=>?_) hd' fun s'' hm'' hD''=>hR s'' (Moved.trans W.gtrans ((hm.mono hsub).then_heap (Nat.le_succ _) fun b o hb e=>?_) hm'') hD''
   ·rw [hsb.2 b (fun h:b=D=>hDf (by rw [<-h];exact hb))];exact e
   ·rw [hsb.2 b (fun h:b=D=>hw b o e (by rw [h];exact .head _))];exact hkp' b o e
   ·rw [hsb.2 b (fun h:b=D=>hb (by rw [h];exact .head _))];exact e
  ·intro e s2 h;exact h.elim
end
section
variable {prog:Program} {w:World} {A:Around} {E:Value->Shared->Prop} {s:Shared} {KK:Type} [DecidableEq KK] {knd:KeyKind prog w KK}
theorem zT {l:Addr} {its:Array Value} {ks:List (KK×Value)} {Q:Value->Shared->Prop} (hh:A.handled=none) (hl:PlainL s.heap l its) (hz:its.size<=sizeLine) (hn:ks.length=its.size) (nd:(ks.map (·.1)).Nodup)
  (hP:∀(i:Nat) (v:Value),its[i]?=some v->∃(u:Addr) (o:Obj) (m:Nat) (kv x:Value) (k:KK),v=.ref u/\ks[i]?=some (k,x)/\knd.is k kv=true/\s.heap.get? u=some o/\o.cls=.type "tuple" /\o.data=.seq #[kv,x] m)
  (h:∀h' tk,h'.DictOf knd s.heap.objs.size ks->(∀b o,s.heap.get? b=some o->h'.get? b=some o)->Q (.ref s.heap.objs.size) { s with heap:=h',toks:=tk }):
  wpAny (model prog w) A (call (.type "dict") [.ref l]) Q E s:=by
 refine callType_codes (Q₁:=fun obj s₁=>obj=.ref s.heap.objs.size/\s₁={ s with heap:=s.heap.push { cls:=.type "dict",data:=.dict #[] } }) F.kt_called_dict (F.kt_typeCall_dict_1 _) F.entry_dict_init (kt_code_dict_new _ ⟨rfl,rfl⟩) ?_
 rintro obj s₁ ⟨rfl,rfl⟩
 have hnew:(s.heap.push { cls:=.type "dict",data:=.dict #[] }).DictOf knd s.heap.objs.size []:=Heap.DictOf.new s.heap
 obtain⟨ol,n,hx,hc,hdn,hdt⟩:=hl
 have hlt:=Heap.lt_size hx
 have hx1:(s.heap.push { cls:=.type "dict",data:=.dict #[] }).get? l=some ol:=Heap.get?_push_of_some _ hx
 have hT1:Shared.TypeIs { s with heap:=s.heap.push { cls:=.type "dict",data:=.dict #[] } } (.ref l) "list" :=⟨_,hx1,hc⟩
 refine⟨hnew.typeIs,F.args_dict_init_2 _ _,?_⟩
 unfold Builtin.«dict.__init__»
 refine wpAny_bind ?_
 unfold Builtin.Dict.selfAndRest
 refine wpAny_bind (wpAny_notOrdered_dict hnew.typeIs ?_)
 show wpAny _ _ (pure (s.heap.objs.size,[Value.ref l])) _ _ _
 refine wpAny_pure ?_
 show wpAny _ _ (Builtin.Dict.updateFrom "dict.__init__" s.heap.objs.size (.ref l) [] .none) _ _ _
 unfold Builtin.Dict.updateFrom
 refine wpAny_bind (wpAny_typeOf hT1 ?_)
 rw [if_pos (by decide)]
 refine wpAny_bind (Lr hx1 hc hdt hdn (by simp [hh]) fun h1 tk1 kp1=>?_)
 show wpAny _ _ (rule _ >>= fun _=>pyIter (.ref l) >>= fun it=>again (.builtin "dict.update.loop" ⟨[.ref s.heap.objs.size,it,rawInt 0,.none],[]⟩)) _ _ _
 refine wpAny_bind (wpAny_rule (wpAny_bind ?_))
 have hx2:h1.get? l=some ol:=kp1 _ _ hx1
 have hL2:h1.IsList l its:=⟨_,hx2,hc,n,hdt⟩
 have hD2:h1.DictOf knd s.heap.objs.size []:=by
  obtain⟨o,es,ep,ho,rest⟩:=hnew
  exact⟨o,es,ep,kp1 _ _ ho,rest⟩
 have hDlt:s.heap.objs.size <h1.objs.size:=by obtain⟨_,_,_,ho,_⟩:=hD2;exact Heap.lt_size ho
 have hl2:=Heap.lt_size hx2
 have kp0:∀b o,s.heap.get? b=some o->h1.get? b=some o:=fun b o e=>kp1 _ _ (Heap.get?_push_of_some _ e)
 refine wpAny_pyIter_list hL2 (wpAny_pure ⟨plainId_quiet eY _,?_⟩)
 have hh2:A.in1.in1.handled=none:=by simp [hh]
 refine Bj (A:=A.in1) ((Walks.list hh2 h1.objs.size l (Nat.ne_of_lt hl2) its).toS) s.heap.objs.size ?_ s.heap ks hn hz nd hP (fun b o e z=>?_) its.size 0 _ _ (by simp) (Nat.zero_le _) ⟨⟨_,Heap.get?_push_size _ rfl,rfl,rfl⟩,hL2.push _⟩ (fun b o e=>Heap.get?_push_of_some _ (kp0 b o e)) (hD2.push _) fun s' hm hD'=>?_
 ·simp only [List.mem_cons,List.not_mem_nil,or_false,not_or]
  exact⟨Nat.ne_of_lt hDlt,Nat.ne_of_gt hlt⟩
 ·have h1':=Heap.lt_size e
  simp only [List.mem_cons,List.not_mem_nil,or_false] at z
  rcases z with z | z
  ·exact Nat.ne_of_lt h1' z
  ·exact Nat.ne_of_lt (Heap.lt_size (kp0 b o e)) z
 ·obtain⟨h',g',d',tk',os'⟩:=s'
  have eg:g'=s.gens:=hm.gens
  have ed:d'=s.drawn:=hm.drawn
  have eo:os'=s.os:=hm.os
  subst eg;subst ed;subst eo
  refine⟨rfl,h h' tk' hD' fun b o e=>?_⟩
  have h1':=Heap.lt_size e
  exact hm.heap b o (by simp only [List.mem_cons,List.not_mem_nil,or_false,not_or];exact⟨Nat.ne_of_lt h1',Nat.ne_of_lt (Heap.lt_size (kp0 b o e))⟩) (Heap.get?_push_of_some _ (kp0 b o e))
end
end PySem
namespace L2
open PySem PySem.Spec PyProof.Rows
theorem pairs_at {X:Cx} {pins:List (Addr×Obj)} {σ:St} {H:Hp} {s:Shared} (I:Inv X pins σ H s):∀{rs:List Addr} {kvs:List (Key×V)},cL H rs (kvs.map fun kv:Key×V=>[kV kv.1,kv.2])->∃ks:List (Key×Value),KV kvs ks/\∀(i:Nat) (u:Addr),rs[i]?=some u->∃(o:Obj) (m:Nat) (kv x:Value) (k:Key),ks[i]?=some (k,x)/\(cz X.prog X.w).is k kv=true/\s.heap.get? u=some o/\o.cls=.type "tuple" /\o.data=.seq #[kv,x] m
 | [],[],_=>⟨[],.nil,by simp⟩
 | r:: rs,kv:: kvs,.cons h t=>by
  obtain⟨ks,rel,hk⟩:=pairs_at I t
  obtain⟨its,rv,⟨o,e,c,n,d⟩,_⟩:=I.tuple (fY.of h)
  cases rv with
  | cons r1 rv=>
   cases rv with
   | cons r2 rv=>
    cases rv
    refine⟨(kv.1,_):: ks,.cons ⟨rfl,r2⟩ rel,fun i u hu=>?_⟩
    cases i with
    | zero=>
     simp only [List.getElem?_cons_zero,Option.some.injEq] at hu
     subst hu
     exact⟨o,n,_,_,_,rfl,wZ r1,e,c,d⟩
    | succ i=>exact hk i u (by simpa using hu)
theorem gJ {X:Cx} (hc:X.calm=true):jC X (.type "dict") (fun xs H Q=>∃(p:Addr) (rs:List Addr) (kvs:List (Key×V)),xs=[.ref p]/\bT X.K H p (rs.map V.ref)/\cL H rs (kvs.map fun kv:Key×V=>[kV kv.1,kv.2])/\(kvs.map (·.1)).Nodup/\∀l,H l=none->Q (.ref l) (upd H l (.dK kvs))):=by
 intro pins s σ H xs us Q I r h
 obtain⟨p,rs,kvs,rfl,hq,hT,nd,q⟩:=h
 obtain⟨u,rfl,ru⟩:=vals1 r
 cases ru
 obtain⟨its,rv,pl,hz⟩:=I.list hq
 have ll:=rv.length
 rw [List.length_map] at ll hz
 obtain⟨ks,rel,hk⟩:=pairs_at I hT
 have lk:kvs.length=ks.length:=KV.length rel
 have lr:rs.length=kvs.length:=by have:=Paired.length hT;rw [List.length_map] at this;exact this
 refine zT (knd:=cz X.prog X.w) (ks:=ks) (I.ok.hd hc) pl (by simp;omega) (by simp;omega) (by rw [<-KV.keys rel];exact nd) (fun i v hv=>?_) fun h' tk hd kp=>?_
 ·have hi:i <its.length:=by have:=(Array.getElem?_eq_some_iff.mp hv).1;simpa using this
  obtain⟨u,e',r'⟩:=rv.get (i:=i) (x:=.ref (rs[i]'(by omega))) (by rw [List.getElem?_map,List.getElem?_eq_getElem (by omega)];rfl)
  have hv':its[i]?=some v:=by simpa using hv
  rw [hv'] at e'
  cases e'
  cases r'
  obtain⟨o,m,kv,x,k,h1,h2,h3,h4,h5⟩:=hk i (rs[i]'(by omega)) (List.getElem?_eq_getElem _)
  exact⟨_,o,m,kv,x,k,rfl,h1,h2,h3,h4,h5⟩
 ·refine⟨.ref s.heap.objs.size,_,I.laid (a:=s.heap.objs.size) (o:=.dK kvs) (t':=tk) kp (Nat.le_refl _) (Fv (by omega) (beq_eq_false_iff_ne.mpr (Ne.symm (Nat.ne_of_lt I.big))) rel hd),rfl,q _ (I.hok.fresh (Nat.le_refl _))⟩
theorem NP {X:Cx} {K:PySem.W.Frag} (hK:X.K=K):Xf X (Vs K):=by subst hK;exact zF
theorem Rb {K:PySem.W.Frag} {a:Addr} {xs:List V} {g:TG} {tb:TS} {D:Ends} {σ:St} {H:Hp} (Pv:Nat->St->Hp->Prop) (h0:Pv 0 σ H) (hl:∀i σ H,i<=xs.length->Pv i σ H->bT K H a xs)
  (hs:∀i x σ H,xs.reverse[i]?=some x->Pv i σ H->g x σ H fun σ2 H2=>tb { D with nx:=Pv (i+1),ct:=Pv (i+1),bk:=D.nx } σ2 H2) (hd:∀σ H,Pv xs.length σ H->D.nx σ H):
  ∃W:Nat->Nat->St->Hp->Prop,(∃m,W 0 m σ H)/\∀i m σ H,W i m σ H->
   ((PB K a xs).stop i H/\D.nx σ H)∨((PB K a xs).go i H/\∃N:St->Hp->Prop,(∀σ' H',N σ' H'->∃m',m' <m/\W (i+1) m' σ' H')/\∀x H',(PB K a xs).yld i H x H'->g x σ H' fun σ2 H2=>tb { D with nx:=N,ct:=N,bk:=D.nx } σ2 H2):=by
 refine⟨fun i m σ H=>m=xs.length - i/\i<=xs.length/\Pv i σ H,⟨xs.length,by simp,Nat.zero_le _,h0⟩,?_⟩
 rintro i m σ H ⟨rfl,hi,p⟩
 have q:=hl i σ H hi p
 by_cases hlt:i <xs.length
 ·refine .inr ⟨⟨q,hlt⟩,Pv (i+1),fun σ' H' p'=>⟨xs.length - (i+1),by omega,rfl,hlt,p'⟩,fun x H' y=>?_⟩
  obtain⟨rfl,y⟩:=y
  exact hs i x σ _ y p
 ·obtain rfl:i=xs.length:=by omega
  exact .inl ⟨⟨q,Nat.le_refl _⟩,hd σ H p⟩
end L2
namespace One
open PySem PySem.W PySem.Calls PyProof.Rows
def Do:Nat->BT->List Obj->BT
 | _,t,[]=>t
 | n,t,o:: r=>Do (n+1) (t.ins n o) r
def Ez:Nat->BT->List Obj->Bool
 | _,_,[]=>true
 | n,t,o:: r=>((t.ins n o).get n).isSome && Ez (n+1) (t.ins n o) r
theorem CT {life:Life}:∀(l:List Obj) (n:Nat) (t:BT) (as:List Obj),absHeap t n life=⟨as.toArray,life⟩->Ez n t l=true->absHeap (Do n t l) (n+l.length) life=⟨(as ++ l).toArray,life⟩
 | [],n,t,as,h,_=>by simpa [Do] using h
 | o:: r,n,t,as,h,k=>by
  simp only [Ez,Bool.and_eq_true] at k
  have e:=absHeap_ins (life:=life) k.1
  rw [h] at e
  have:=CT r (n+1) (t.ins n o) (as ++ [o]) (by rw [e];simp [Heap.push]) k.2
  rw [List.append_assoc] at this
  rw [List.length_cons,show n+(r.length+1)=n+1+r.length by omega]
  exact this
def VP (tb:String->Option Builtin) (p:Program) (w:World) (m:Nat) (an:Option Value):Nat->SharedT->Thread->Option (SharedT×Thread)
 | 0,s,t=>some (s,t)
 | n+1,s,t=>match through t with
  | true=>some (s,t)
  | false=>match stepOk m an t with
   | false=>none
   | true=>match stepT (denote tb) p w s t with
    | some (s',t')=>VP tb p w m an n s' t'
    | none=>none
theorem Pk {tb:String->Option Builtin} {p:Program} {w:World} {m:Nat} {an:Option Value}:∀{n:Nat} {s s':SharedT} {t t':Thread},VP tb p w m an n s t=some (s',t')->through t'=true->topRun tb p w m an (n+1) s.abs t=some s'.abs
 | 0,s,s',t,t',h,z=>by
  obtain⟨rfl,rfl⟩:=Prod.mk.inj (Option.some.inj h)
  unfold topRun
  rw [z]
 | n+1,s,s',t,t',h,z=>by
  unfold VP at h
  unfold topRun
  cases e1:through t with
  | true=>
   rw [e1] at h
   obtain⟨rfl,rfl⟩:=Prod.mk.inj (Option.some.inj h)
   rfl
  | false=>
   rw [e1] at h
   cases e2:stepOk m an t with
   | false=>rw [e2] at h;cases h
   | true=>
    rw [e2] at h
    cases e3:stepT (denote tb) p w s t with
    | none=>rw [e3] at h;cases h
    | some r=>
     obtain⟨s2,t2⟩:=r
     rw [e3] at h
     rw [stepT_spec e3]
     exact Pk h z
def ends (r:SharedT×Thread):Option SharedT:=match through r.2 with
 | true=>some r.1
 | false=>none
theorem Q7 {tb:String->Option Builtin} {p:Program} {w:World} {m:Nat} {an:Option Value} {n:Nat} {s s':SharedT} {t:Thread} (h:(VP tb p w m an n s t).bind ends=some s'):topRun tb p w m an (n+1) s.abs t=some s'.abs:=by
 obtain⟨⟨s2,t2⟩,e1,e2⟩:=Option.bind_eq_some_iff.mp h
 unfold ends at e2
 cases z:through t2 with
 | false=>simp only [z] at e2;cases e2
 | true=>
  simp only [z] at e2
  cases e2
  exact Pk e1 z
noncomputable def Wo (P:Params):Option Value:=(boot_heap P).nsMap mainGlobals "__annotations__"
noncomputable def S0 (w:World) (os:OsState):SharedT:=⟨Do 0 .nil (boot_heap w.params).objs.toList,11,{},Array.mk [],boot_drawn,boot_toks,os⟩
theorem Tz (w:World) (os:OsState):(S0 w os).abs=⟨boot_heap w.params,Array.mk [],boot_drawn,boot_toks,os⟩:=by
 have e:=CT (life:={}) (boot_heap w.params).objs.toList 0 .nil [] rfl (by rfl)
 have e2:absHeap (Do 0 .nil (boot_heap w.params).objs.toList) 11 {}=boot_heap w.params:=e
 show(⟨absHeap (Do 0 .nil (boot_heap w.params).objs.toList) 11 {},_,_,_,_⟩:Shared)=_
 rw [e2]
 rfl
noncomputable def Uk (p:Program) (M:Nat) (w:World) (os:OsState):Option SharedT:=(VP treeTable p w 11 (Wo w.params) M (S0 w os) (topStub p)).bind ends
noncomputable def Qf (p q:Program) (loose:List Str) (Xt:Shared->Bool) (M:Nat) (w:World) (os:OsState):=
 (Uk p M w os).map fun s=>(staticsOk (importedModules p.main.body) (boot_heap w.params) s.abs.heap && namesBound p s.abs.heap && gensDone s.abs && laidKept (boot_heap w.params) s.abs.heap,openSeen q loose (importedModules p.main.body) Xt true s.abs)
theorem Rh {p q:Program} {loose:List Str} {Xt:Shared->Bool} {α:Type} {Yf:Shared->α} {Ya:World->α} {N M:Nat} (e:opening p=plainProg p.main.scope.names) (hN:Nat.ble 600 N=true) (f:∀s,fenceModules? p s=some s) (le:Nat.ble (M+1) N=true)
  (A:∀w os,Qf p q loose Xt M w os=some (true,openGood q loose)) (B:∀w os,(Uk p M w os).map (fun s=>Yf s.abs)=some (Ya w)):LeftO p q loose Xt Yf Ya N:=fun w=>by
 obtain⟨⟨h,gs,d,k,os⟩,e1,e2⟩:=Option.map_eq_some_iff.mp (boot_open e hN f w)
 obtain⟨rfl,rfl,rfl,rfl⟩:h=boot_heap w.params/\gs=Array.mk []/\d=boot_drawn/\k=boot_toks:=by simpa using e2
 obtain⟨s1,r1,l1⟩:=Option.map_eq_some_iff.mp (A w os)
 obtain⟨s2,r2,l2⟩:=Option.map_eq_some_iff.mp (B w os)
 rw [r1] at r2
 cases r2
 obtain⟨l3,l4⟩:=Prod.mk.inj l1
 have r3:=Q7 r1
 rw [Tz] at r3
 have r4:=topRun_mono (N - (M+1)) _ _ _ _ r3
 rw [show M+1+(N - (M+1))=N by have:=Nat.le_of_ble_eq_true le;omega] at r4
 have t:topFrom treeTable p w N ⟨boot_heap w.params,Array.mk [],boot_drawn,boot_toks,os⟩=some s1.abs:=by
  unfold topFrom
  have z1:((boot_heap w.params).isNs mainGlobals && (Array.mk []:Array GenState).size == 0)=true:=by kernel_rfl
  dsimp only
  rw [z1]
  show((topRun treeTable p w 11 (Wo w.params) N _ _).bind _)=_
  rw [r4]
  show(match staticsOk (importedModules p.main.body) (boot_heap w.params) s1.abs.heap && namesBound p s1.abs.heap && gensDone s1.abs && laidKept (boot_heap w.params) s1.abs.heap with | true=>_ | false=>_)=_
  rw [l3]
 unfold openEnds
 rw [e1]
 show(topFrom treeTable p w N _).map _=_
 rw [t]
 exact congrArg some (Prod.ext l4 l2)
def wC (s:SharedT) (a:Addr):Option Obj:=match Nat.blt a s.n with
 | true=>(match s.tree.get a with | some o=>alive o | none=>none)
 | false=>none
theorem NQ {s:SharedT} {a:Addr} {o:Obj} (h:wC s a=some o):s.abs.heap.get? a=some o:=by
 unfold wC at h
 cases e:Nat.blt a s.n with
 | false=>rw [e] at h;cases h
 | true=>
  rw [e] at h
  cases g:s.tree.get a with
  | none=>rw [g] at h;cases h
  | some x=>
   rw [g] at h
   exact(abs_get (Nat.le_of_ble_eq_true e) g).trans h
theorem J1 {s:SharedT}:∀{as:List Addr} {l:List (Addr×Obj)},as.map (wC s)=l.map (fun p=>some p.2)->as.map s.abs.heap.get?=l.map fun p=>some p.2
 | [],[],_=>rfl
 | [],_:: _,h=>by cases h
 | _:: _,[],h=>by cases h
 | a:: as,x:: l,h=>by
  have h1:=List.cons.inj h
  show s.abs.heap.get? a:: as.map _=_
  rw [NQ h1.1,J1 h1.2]
  rfl
theorem chunk {o:Option SharedT} {as:List Addr} {l:List (Addr×Obj)} (n:Nat) (h1:o.map (fun s=>(as.take n).map (wC s))=some ((l.take n).map fun p=>some p.2)) (h2:o.map (fun s=>(as.drop n).map (wC s))=some ((l.drop n).map fun p=>some p.2)):
  o.map (fun s=>as.map (wC s))=some (l.map fun p=>some p.2):=by
 obtain⟨s,e1,e2⟩:=Option.map_eq_some_iff.mp h1
 subst e1
 have e3:=Option.some.inj h2
 show some (as.map (wC s))=_
 rw [<-List.take_append_drop n as,<-List.take_append_drop n l,List.map_append,List.map_append]
 exact congrArg some (congr (congrArg _ e2) e3)
theorem Ra {o:Option SharedT} {w:World} {K:Params->Frag} {as:List Addr} {e:∀P,as=(K P).map (·.1)} (h:o.map (fun s=>as.map (wC s))=some ((K w.params).map fun p=>some p.2)):
  o.map (fun s=>Hook.obs (kHook K as e) s.abs)=some (Hook.val (kHook K as e) w):=by
 obtain⟨s,h1,h2⟩:=Option.map_eq_some_iff.mp h
 rw [h1]
 exact congrArg some (J1 h2)
end One
namespace HD
open PySem PySem.W PySem.Calls PyProof.Rows
abbrev rr:OpenRow:=OpenLaw.row PySem.Challenge.rw_holdlane_k31_rows_of_the_plain_net
def q:Program:=view PySem.Challenge.pw_holdlane_k31_rows_of_the_plain_net [82]
def loose:List PySem.Str:=(["_wall", "LaneError", "BadWord", "TooMany", "NoKind", "BadName", "Doubled", "NoSuch", "BadNumbers", "BadLanes", "BadRoom", "Open", "Loose", "BadRow", "Flow", "VALUES"]:List PySem.Str) ++ (["FIGURES", "LETTERS", "LONGEST_NAME", "is_whole", "is_value", "is_name", "rest", "LONGEST_ROW", "MOST_WORKINGS", "is_row", "need_rows", "plain_rows", "work_out", "COUNTS", "Part", "Give"]:List PySem.Str) ++ (["Take", "Pass", "Copy", "Turn", "Heap", "Add", "Less", "Order", "Choose", "Split", "is_kind", "need_fit", "made_of", "part_made", "MOST_LANES", "MOST_PARTS"]:List PySem.Str) ++ (["MOST_ROOM", "need_counts", "need_fresh", "need_lane", "fresh_part", "tie_lanes", "need_ends", "joined_with", "need_joined", "Net", "_law_cell", "_law_mix", "_law_value", "_law_word", "_law_lane", "_law_part"]:List PySem.Str) ++ (["_law_pick", "_law_two", "_law_loop", "_law_step", "_law_closed", "_law_net", "_law_deed", "_law_rows", "_law_moved", "_law_due", "_law_same"]:List PySem.Str)
def Xt (s:Shared):Bool:=xlAt q [] s && recOk (RowW.records (OpenRow.toRowW (OpenLaw.row PySem.Challenge.rw_holdlane_k31_rows_of_the_plain_net))) s
structure KA where
 K:Params->Frag
 as:List Addr
def pickK {r:OpenRow} {K:Params->Frag} {as:List Addr} (_:(∀H:Hook,(∃e,H=kHook K as e)->r.Holds)->r.Holds):KA:=⟨K,as⟩
local macro_rules | `(tactic| o_head $H)=>`(tactic| (rename_i hh;exact hh $H ⟨_,rfl⟩))
noncomputable def ka:KA:=pickK (r:=rr) (fun _=>by k_head)
theorem RC (P:Params):KA.as ka=(ka.heap_1 P).map (·.1):=by kernel_rfl
noncomputable def runC:World->OsState->Option SharedT:=fun w os=>One.Uk PySem.Challenge.pw_holdlane_k31_rows_of_the_plain_net 14060 w os
noncomputable def FJ:=fun(w:World) (os:OsState)=>One.Qf PySem.Challenge.pw_holdlane_k31_rows_of_the_plain_net q loose Xt 14060 w os
noncomputable def J8:=some (true,openGood q loose)
theorem Uy:runC=runC:=rfl
name_quick runQ for HD.runC by HD.Uy
theorem PN:FJ=FJ:=rfl
name_quick looksQ for HD.FJ by HD.PN
theorem Q4:J8=J8:=rfl
name_quick goodQ for HD.J8 by HD.Q4
theorem A0 (w:World) (os:OsState):PySem.W.Fast.looksQ (w.withFollow "special-get-raises" false) os=PySem.W.Fast.goodQ:=by kernel_rfl
theorem Xo (w:World) (os:OsState):(PySem.W.Fast.runQ (w.withFollow "special-get-raises" false) os).map (fun s=>(KA.as ka).map (One.wC s))=some ((ka.heap_1 (w.withFollow "special-get-raises" false).params).map fun p=>some p.2):=by kernel_rfl
theorem B0 (w:World) (os:OsState):(PySem.W.Fast.runQ (w.withFollow "special-get-raises" false) os).map (fun s=>(KA.as ka).map (One.wC s))=some ((ka.heap_1 (w.withFollow "special-get-raises" false).params).map fun p=>some p.2):=Xo w os
theorem A1 (w:World) (os:OsState):PySem.W.Fast.looksQ (w.withFollow "special-get-raises" true) os=PySem.W.Fast.goodQ:=by kernel_rfl
theorem Xq (w:World) (os:OsState):(PySem.W.Fast.runQ (w.withFollow "special-get-raises" true) os).map (fun s=>(KA.as ka).map (One.wC s))=some ((ka.heap_1 (w.withFollow "special-get-raises" true).params).map fun p=>some p.2):=by kernel_rfl
theorem B1 (w:World) (os:OsState):(PySem.W.Fast.runQ (w.withFollow "special-get-raises" true) os).map (fun s=>(KA.as ka).map (One.wC s))=some ((ka.heap_1 (w.withFollow "special-get-raises" true).params).map fun p=>some p.2):=Xq w os
theorem A (w:World):∀os,FJ w os=J8:=by
 rw [PySem.W.Fast.looksQ_eq,PySem.W.Fast.goodQ_eq]
 exact byRow2 "special-get-raises" (P:=fun w=>∀os,PySem.W.Fast.looksQ w os=PySem.W.Fast.goodQ) A0 A1 w
theorem B (w:World):∀os,(runC w os).map (fun s=>(KA.as ka).map (One.wC s))=some ((ka.heap_1 w.params).map fun p=>some p.2):=by
 rw [PySem.W.Fast.runQ_eq]
 exact byRow2 "special-get-raises" (P:=fun w=>∀os,(PySem.W.Fast.runQ w os).map (fun s=>(KA.as ka).map (One.wC s))=some ((ka.heap_1 w.params).map fun p=>some p.2)) B0 B1 w
theorem head {d:DefRec} {kwd:List (PySem.Str×Expr)}
  (hdef:defOf q rr.name=some (d,kwd)) (hp:rr.prog.theDef rr.name=some (d.params,d.body,d.scope)) (hk:kwWritten? d.params.kwonlyargs d.params.kw_defaults=some kwd) (hwr:(!rr.writes || rr.records.isEmpty)=true)
  (k1:rr.wellSaid=true) (ok:(chainsOk q && opensWell rr.prog && (frees rr.toRowW && rr.within.isEmpty))=true) (hb:rr.prog.bare) (ho:opening PySem.Challenge.pw_holdlane_k31_rows_of_the_plain_net=plainProg (PySem.Challenge.pw_holdlane_k31_rows_of_the_plain_net).main.scope.names) (f:∀s,fenceModules? PySem.Challenge.pw_holdlane_k31_rows_of_the_plain_net s=some s)
  (hw:rr.toRowW.promised) (hc:WalkO q loose (XL q []) (Hook.says (kHook ka.heap_1 (KA.as ka) RC)) rr.toRowW d kwd fun f vs=>PySem.call f vs):rr.Holds:=by
 have left:LeftO PySem.Challenge.pw_holdlane_k31_rows_of_the_plain_net q loose Xt (Hook.obs (kHook ka.heap_1 (KA.as ka) RC)) (Hook.val (kHook ka.heap_1 (KA.as ka) RC)) 28700:=One.Rh (M:=14060) ho rfl f rfl A fun w os=>One.Ra (B w os)
 exact holds_open (XP:=XL q []) (YP:=Hook.says (kHook ka.heap_1 (KA.as ka) RC)) left (Hook.of _) (Hook.keeps _) (fun s z=>xl_of s (Bool.and_eq_true_iff.mp z).1) XL.keeps hdef hp hk (fun s z=>recFacts_of (Bool.and_eq_true_iff.mp z).2) hwr k1 ok hb hw hc
end HD
namespace K31
open PySem L2
theorem lM {α β:Type} {f:α->β} {l:List α}:(l.map f).length=l.length:=List.length_map ..
theorem lP {α:Type} {l m:List α}:(l ++ m).length=l.length+m.length:=List.length_append ..
theorem il {n:Nat} (h:Nat.ble n 16777216=true:=by rfl):n<=sizeLine:=by rw [sizeLine_eq];exact Nat.le_of_ble_eq_true h
noncomputable def top (i:Nat):Stmt:=PySem.Challenge.pw_holdlane_k31_rows_of_the_plain_net.main.body.getD i (.Pass ⟨0,0,0,0⟩)
set_option genInjectivity false in
structure nj where
 (Bg z6 bU rH sO rE rO rG sU vo rW qG pI ql DW Af CZ yF Qy cQ lH cU dz qg ph pA o8 pH qu o7 m5 lG mL pB oZ Ad yP vL yD yf yI yp Ak zf yG uD zO Cz uT wA yg vH yQ yO uH uN jU jW je rM iy mZ o9 mH qz sY jX qi m9 tD xV lJ HJ yK Bu wN yC yW vZ Ah yH Tj JC Jh JW JP JB JN Ni JR EY Bt Gr dN cj wy:Addr)
noncomputable abbrev ROWS:List (Str×List Int):=[("give",[0,0,1]),("take",[0,1,0]),("pass",[0,1,1]),("copy",[0,1,2]),("turn",[2,1,1]),("heap",[1,1,1]),("add",[0,2,1]),("less",[0,2,1]),("order",[0,2,2]),("choose",[0,3,1]),("split",[0,2,2])]
structure Txt (w:World) (K:PySem.W.Frag) (mg:Str->Option Value) (t:nj):Prop where
 ik:Ig K mg "Give" t.JC [("__init__",t.bU),("kind",t.rH),("taking",t.cQ),("lacks",t.cU),("worked",t.pB),("start",t.dz)] ["name", "numbers", "ins", "outs"]
 ig:Ig K mg "Take" t.Jh [("__init__",t.bU),("kind",t.sO),("taking",t.cQ),("lacks",t.cU),("worked",t.oZ),("start",t.dz)] ["name", "numbers", "ins", "outs"]
 iD:Ig K mg "Pass" t.JW [("__init__",t.bU),("kind",t.rE),("taking",t.cQ),("lacks",t.cU),("worked",t.ph),("start",t.dz)] ["name", "numbers", "ins", "outs"]
 iB:Ig K mg "Copy" t.JP [("__init__",t.bU),("kind",t.rO),("taking",t.cQ),("lacks",t.cU),("worked",t.pA),("start",t.dz)] ["name", "numbers", "ins", "outs"]
 iC:Ig K mg "Turn" t.JB [("__init__",t.bU),("kind",t.rG),("taking",t.cQ),("lacks",t.cU),("worked",t.o8),("start",t.dz)] ["name", "numbers", "ins", "outs"]
 iu:Ig K mg "Heap" t.JN [("__init__",t.bU),("kind",t.sU),("taking",t.cQ),("lacks",t.cU),("worked",t.pH),("start",t.qg)] ["name", "numbers", "ins", "outs"]
 lB:Ig K mg "Add" t.Ni [("__init__",t.bU),("kind",t.vo),("taking",t.cQ),("lacks",t.cU),("worked",t.qu),("start",t.dz)] ["name", "numbers", "ins", "outs"]
 iz:Ig K mg "Less" t.JR [("__init__",t.bU),("kind",t.rW),("taking",t.cQ),("lacks",t.cU),("worked",t.o7),("start",t.dz)] ["name", "numbers", "ins", "outs"]
 fK:Ig K mg "Order" t.EY [("__init__",t.bU),("kind",t.qG),("taking",t.cQ),("lacks",t.cU),("worked",t.m5),("start",t.dz)] ["name", "numbers", "ins", "outs"]
 d8:Ig K mg "Choose" t.Bt [("__init__",t.bU),("kind",t.pI),("taking",t.lH),("lacks",t.cU),("worked",t.lG),("start",t.dz)] ["name", "numbers", "ins", "outs"]
 fO:Ig K mg "Split" t.Gr [("__init__",t.bU),("kind",t.ql),("taking",t.cQ),("lacks",t.cU),("worked",t.mL),("start",t.dz)] ["name", "numbers", "ins", "outs"]
 bD:Ig K mg "Net" t.dN [("__init__",t.mH),("lane_names",t.jU),("part_names",t.jW),("names_of_kind",t.je),("gives",t.rM),("need_lane_name",t.iy),("first_of",t.mZ),("part_of",t.o9)] ["rooms", "firsts", "parts", "givers", "takers"]
 aX:Ig K mg "Flow" t.cj [("__init__",t.lJ),("holds",t.qz),("head",t.sY),("row_ended",t.jX),("heads",t.qi),("lacking",t.m9),("deed",t.tD),("do",t.xV)] ["net", "ever", "gone", "kept", "done", "rows"]
 mC:mU K mg "is_whole" (top 22) t.Bg ["thing"]
 m7:mU K mg "is_value" (top 23) t.z6 ["thing"]
 aZ:fD K "__init__" "Part.__init__" (inClass (top 35) 0) t.bU ["self", "name", "numbers", "ins", "outs"]
 oR:fD K "kind" "Give.kind" (inClass (top 36) 0) t.rH ["self"]
 oK:fD K "kind" "Take.kind" (inClass (top 37) 0) t.sO ["self"]
 nZ:fD K "kind" "Pass.kind" (inClass (top 38) 0) t.rE ["self"]
 oY:fD K "kind" "Copy.kind" (inClass (top 39) 0) t.rO ["self"]
 oU:fD K "kind" "Turn.kind" (inClass (top 40) 0) t.rG ["self"]
 oA:fD K "kind" "Heap.kind" (inClass (top 41) 0) t.sU ["self"]
 qK:fD K "kind" "Add.kind" (inClass (top 42) 0) t.vo ["self"]
 oW:fD K "kind" "Less.kind" (inClass (top 43) 0) t.rW ["self"]
 lL:fD K "kind" "Order.kind" (inClass (top 44) 0) t.qG ["self"]
 kJ:fD K "kind" "Choose.kind" (inClass (top 45) 0) t.pI ["self"]
 lX:fD K "kind" "Split.kind" (inClass (top 46) 0) t.ql ["self"]
 ud:mU K mg "is_kind" (top 47) t.DW ["word"]
 uX:mU K mg "need_fit" (top 48) t.Af ["kind", "name", "numbers", "ins", "outs"]
 Eg:mU K mg "made_of" (top 49) t.CZ ["kind", "name", "numbers", "ins", "outs"]
 yh:mU K mg "part_made" (top 50) t.yF ["kind", "name", "numbers", "ins", "outs"]
 BP:mU K mg "rest" (top 25) t.Qy ["number"]
 bB:fD K "taking" "Part.taking" (inClass (top 35) 4) t.cQ ["self", "heads"]
 jq:fD K "taking" "Choose.taking" (inClass (top 45) 1) t.lH ["self", "heads"]
 bC:fD K "lacks" "Part.lacks" (inClass (top 35) 3) t.cU ["self", "heads"]
 bH:fD K "start" "Part.start" (inClass (top 35) 2) t.dz ["self"]
 lW:fD K "start" "Heap.start" (inClass (top 41) 1) t.qg ["self"]
 j7:fD K "worked" "Pass.worked" (inClass (top 38) 1) t.ph ["self", "values", "kept"]
 j9:fD K "worked" "Copy.worked" (inClass (top 39) 1) t.pA ["self", "values", "kept"]
 km:fD K "worked" "Turn.worked" (inClass (top 40) 1) t.o8 ["self", "values", "kept"]
 j6:fD K "worked" "Heap.worked" (inClass (top 41) 2) t.pH ["self", "values", "kept"]
 lN:fD K "worked" "Add.worked" (inClass (top 42) 1) t.qu ["self", "values", "kept"]
 j8:fD K "worked" "Less.worked" (inClass (top 43) 1) t.o7 ["self", "values", "kept"]
 jQ:fD K "worked" "Order.worked" (inClass (top 44) 1) t.m5 ["self", "values", "kept"]
 jo:fD K "worked" "Choose.worked" (inClass (top 45) 2) t.lG ["self", "values", "kept"]
 jG:fD K "worked" "Split.worked" (inClass (top 46) 1) t.mL ["self", "values", "kept"]
 kI:fD K "worked" "Give.worked" (inClass (top 36) 1) t.pB ["self", "values", "kept"]
 kY:fD K "worked" "Take.worked" (inClass (top 37) 1) t.oZ ["self", "values", "kept"]
 bx:mU K mg "_law_mix" (top 66) t.Ad ["_law_cell_here", "_law_k"]
 gr:mU K mg "_law_cell" (top 65) t.yP ["_law_script", "_law_k"]
 fQ:mU K mg "_law_value" (top 67) t.vL ["_law_cell_here", "_law_k"]
 jF:mU K mg "_law_word" (top 68) t.yD ["_law_cell_here", "_law_k"]
 gY:mU K mg "_law_lane" (top 69) t.yf ["_law_state", "_law_cell_here", "_law_back"]
 kZ:mU K mg "_law_pick" (top 71) t.yI ["_law_state", "_law_number"]
 cM:mU K mg "_law_part" (top 70) t.yp ["_law_state", "_law_cell_here", "_law_kind", "_law_numbers", "_law_ins", "_law_many"]
 vf:mU K mg "_law_two" (top 72) t.Ak ["_law_state", "_law_cell_here", "_law_one", "_law_odd"]
 sW:mU K mg "_law_loop" (top 73) t.zf ["_law_state", "_law_cell_here", "_law_one"]
 sX:mU K mg "_law_step" (top 74) t.yG ["_law_state", "_law_cell_here", "_law_odd"]
 pC:mU K mg "_law_closed" (top 75) t.uD ["_law_state", "_law_cell_here", "_law_back"]
 vp:mU K mg "_law_net" (top 76) t.zO ["_law_script", "_law_start", "_law_steps", "_law_odd"]
 yd:mU K mg "is_name" (top 24) t.Cz ["thing"]
 pL:mU K mg "need_counts" (top 55) t.uT ["lanes", "parts"]
 lO:mU K mg "need_fresh" (top 56) t.wA ["name", "known"]
 tE:mU K mg "need_lane" (top 57) t.yg ["name", "room", "first"]
 qJ:mU K mg "fresh_part" (top 58) t.vH ["row", "known"]
 ou:mU K mg "tie_lanes" (top 59) t.yQ ["part", "lanes", "rooms", "ends"]
 rU:mU K mg "need_ends" (top 60) t.yO ["rooms", "givers", "takers"]
 pK:mU K mg "joined_with" (top 61) t.uH ["part", "givers", "takers"]
 pG:mU K mg "need_joined" (top 62) t.uN ["names", "givers", "takers"]
 iV:fD K "lane_names" "Net.lane_names" (inClass (top 63) 1) t.jU ["self"]
 fZ:fD K "part_names" "Net.part_names" (inClass (top 63) 2) t.jW ["self"]
 jg:fD K "names_of_kind" "Net.names_of_kind" (inClass (top 63) 5) t.je ["self", "kind"]
 n6:fD K "gives" "Net.gives" (inClass (top 63) 3) t.rM ["self"]
 ie:fD K "need_lane_name" "Net.need_lane_name" (inClass (top 63) 12) t.iy ["self", "name"]
 m8:fD K "first_of" "Net.first_of" (inClass (top 63) 8) t.mZ ["self", "name"]
 jl:fD K "part_of" "Net.part_of" (inClass (top 63) 11) t.o9 ["self", "name"]
 jO:fD K "__init__" "Net.__init__" (inClass (top 63) 0) t.mH ["self", "lanes", "parts"]
 qm:fD K "holds" "Flow.holds" (inClass (top 16) 1) t.qz ["self", "lane"]
 rP:fD K "head" "Flow.head" (inClass (top 16) 5) t.sY ["self", "lane"]
 jZ:fD K "row_ended" "Flow.row_ended" (inClass (top 16) 8) t.jX ["self", "name"]
 lY:fD K "heads" "Flow.heads" (inClass (top 16) 6) t.qi ["self", "part"]
 mF:fD K "lacking" "Flow.lacking" (inClass (top 16) 7) t.m9 ["self", "name"]
 nY:fD K "deed" "Flow.deed" (inClass (top 16) 9) t.tD ["self", "name"]
 xG:fD K "do" "Flow.do" (inClass (top 16) 10) t.xV ["self", "name", "deed"]
 jr:fD K "__init__" "Flow.__init__" (inClass (top 16) 0) t.lJ ["self", "net", "rows"]
 Ay:mU K mg "is_row" (top 29) t.HJ ["thing"]
 tK:mU K mg "need_rows" (top 30) t.yK ["net", "rows"]
 u9:mU K mg "work_out" (top 32) t.Bu ["flow", "name", "most"]
 lQ:mU K mg "plain_rows" (top 31) t.wN ["net", "rows", "most"]
 rC:mU K mg "_law_deed" (top 77) t.yC ["_law_kind", "_law_numbers", "_law_heads", "_law_many", "_law_kept"]
 rJ:mU K mg "_law_rows" (top 78) t.yW ["_law_script", "_law_parts", "_law_start"]
 qM:mU K mg "_law_moved" (top 79) t.vZ ["_law_part_here", "_law_rows_here", "_law_past", "_law_out", "_law_counts", "_law_kept"]
 uY:mU K mg "_law_due" (top 80) t.Ah ["_law_lanes", "_law_parts", "_law_rows_here", "_law_most"]
 nQ:mU K mg "_law_same" (top 81) t.yH ["_law_found", "_law_due_here"]
 KY:mU K mg "law" (top 82) t.Tj ["_law_script"]
 Ef:mg "COUNTS" =some (.ref t.wy)
 GP:KTab w K t.wy ROWS
 Kc:mg "all" =none
 Nv:mg "bool" =none
 xn:mg "dict" =none
 Og:mg "int" =none
 fP:mg "isinstance" =none
 fj:mg "len" =none
 mX:mg "list" =none
 Kr:mg "max" =none
 SX:mg "min" =none
 j5:mg "range" =none
 Je:mg "reversed" =none
 S9:mg "str" =none
 zB:mg "tuple" =none
 HS:∃u,mg "VALUES" =some u/\RelV (.int 1000000000) u
 DN:∃u,mg "LETTERS" =some u/\RelV (.str "abcdefghijklmnopqrstuvwxyz") u
 Az:∃u,mg "LONGEST_NAME" =some u/\RelV (.int 8) u
 Mv:∃u,mg "FIGURES" =some u/\RelV (.str "0123456789") u
 Fg:∃u,mg "MOST_LANES" =some u/\RelV (.int 24) u
 Gj:∃u,mg "MOST_PARTS" =some u/\RelV (.int 16) u
 G5:∃u,mg "MOST_ROOM" =some u/\RelV (.int 199) u
 Ca:∃u,mg "LONGEST_ROW" =some u/\RelV (.int 300) u
 zu:∃u,mg "MOST_WORKINGS" =some u/\RelV (.int 300) u
section
variable {P:Program} {w:World} {K:PySem.W.Frag} {mg:Str->Option Value} {base:Heap} {t:nj}
noncomputable def dM (i:Nat):Str:=match i with
 | 0=> "give"
 | 1=> "take"
 | 2=> "pass"
 | 3=> "copy"
 | 4=> "turn"
 | 5=> "heap"
 | 6=> "add"
 | 7=> "less"
 | 8=> "order"
 | 9=> "choose"
 | _=> "split"
noncomputable def cN (i:Nat):Nat:=match i with
 | 0=>0
 | 1=>0
 | 2=>0
 | 3=>0
 | 4=>2
 | 5=>1
 | 6=>0
 | 7=>0
 | 8=>0
 | 9=>0
 | _=>0
noncomputable def cI (i:Nat):Nat:=match i with
 | 0=>0
 | 1=>1
 | 2=>1
 | 3=>1
 | 4=>1
 | 5=>1
 | 6=>2
 | 7=>2
 | 8=>2
 | 9=>3
 | _=>2
noncomputable def cO (i:Nat):Nat:=match i with
 | 0=>1
 | 1=>0
 | 2=>1
 | 3=>2
 | 4=>1
 | 5=>1
 | 6=>1
 | 7=>1
 | 8=>2
 | 9=>1
 | _=>2
noncomputable def cls (t:nj) (i:Nat):Addr:=match i with
 | 0=>t.JC
 | 1=>t.Jh
 | 2=>t.JW
 | 3=>t.JP
 | 4=>t.JB
 | 5=>t.JN
 | 6=>t.Ni
 | 7=>t.JR
 | 8=>t.EY
 | 9=>t.Bt
 | _=>t.Gr
theorem row_of (i:Nat):rowOf ROWS (dM i)=some [((cN i:Nat):Int),((cI i:Nat):Int),((cO i:Nat):Int)]:=match i with
 | 0=>by show rowOf ROWS "give" =some [0,0,1];decide +kernel
 | 1=>by show rowOf ROWS "take" =some [0,1,0];decide +kernel
 | 2=>by show rowOf ROWS "pass" =some [0,1,1];decide +kernel
 | 3=>by show rowOf ROWS "copy" =some [0,1,2];decide +kernel
 | 4=>by show rowOf ROWS "turn" =some [2,1,1];decide +kernel
 | 5=>by show rowOf ROWS "heap" =some [1,1,1];decide +kernel
 | 6=>by show rowOf ROWS "add" =some [0,2,1];decide +kernel
 | 7=>by show rowOf ROWS "less" =some [0,2,1];decide +kernel
 | 8=>by show rowOf ROWS "order" =some [0,2,2];decide +kernel
 | 9=>by show rowOf ROWS "choose" =some [0,3,1];decide +kernel
 | n+10=>by show rowOf ROWS "split" =some [0,2,2];decide +kernel
theorem gZ (T:Txt w K mg t) (i:Nat):M5 K (cls t i):=match i with
 | 0=>T.ik.c
 | 1=>T.ig.c
 | 2=>T.iD.c
 | 3=>T.iB.c
 | 4=>T.iC.c
 | 5=>T.iu.c
 | 6=>T.lB.c
 | 7=>T.iz.c
 | 8=>T.fK.c
 | 9=>T.d8.c
 | n+10=>T.fO.c
theorem zM (T:Txt w K mg t) (i:Nat):pq K (cls t i) "name" :=match i with
 | 0=>T.ik.na.1
 | 1=>T.ig.na.1
 | 2=>T.iD.na.1
 | 3=>T.iB.na.1
 | 4=>T.iC.na.1
 | 5=>T.iu.na.1
 | 6=>T.lB.na.1
 | 7=>T.iz.na.1
 | 8=>T.fK.na.1
 | 9=>T.d8.na.1
 | n+10=>T.fO.na.1
theorem qD (T:Txt w K mg t) (i:Nat):pq K (cls t i) "numbers" :=match i with
 | 0=>T.ik.na.2.1
 | 1=>T.ig.na.2.1
 | 2=>T.iD.na.2.1
 | 3=>T.iB.na.2.1
 | 4=>T.iC.na.2.1
 | 5=>T.iu.na.2.1
 | 6=>T.lB.na.2.1
 | 7=>T.iz.na.2.1
 | 8=>T.fK.na.2.1
 | 9=>T.d8.na.2.1
 | n+10=>T.fO.na.2.1
theorem xP (T:Txt w K mg t) (i:Nat):pq K (cls t i) "ins" :=match i with
 | 0=>T.ik.na.2.2.1
 | 1=>T.ig.na.2.2.1
 | 2=>T.iD.na.2.2.1
 | 3=>T.iB.na.2.2.1
 | 4=>T.iC.na.2.2.1
 | 5=>T.iu.na.2.2.1
 | 6=>T.lB.na.2.2.1
 | 7=>T.iz.na.2.2.1
 | 8=>T.fK.na.2.2.1
 | 9=>T.d8.na.2.2.1
 | n+10=>T.fO.na.2.2.1
theorem Em (T:Txt w K mg t) (i:Nat):pq K (cls t i) "outs" :=match i with
 | 0=>T.ik.na.2.2.2.1
 | 1=>T.ig.na.2.2.2.1
 | 2=>T.iD.na.2.2.2.1
 | 3=>T.iB.na.2.2.2.1
 | 4=>T.iC.na.2.2.2.1
 | 5=>T.iu.na.2.2.2.1
 | 6=>T.lB.na.2.2.2.1
 | 7=>T.iz.na.2.2.2.1
 | 8=>T.fK.na.2.2.2.1
 | 9=>T.d8.na.2.2.2.1
 | n+10=>T.fO.na.2.2.2.1
theorem Wx (i:Nat):cN i<=2:=match i with
 | 0=>by show 0<=2;decide
 | 1=>by show 0<=2;decide
 | 2=>by show 0<=2;decide
 | 3=>by show 0<=2;decide
 | 4=>by show 2<=2;decide
 | 5=>by show 1<=2;decide
 | 6=>by show 0<=2;decide
 | 7=>by show 0<=2;decide
 | 8=>by show 0<=2;decide
 | 9=>by show 0<=2;decide
 | n+10=>by show 0<=2;decide
theorem yo (i:Nat):cI i<=3:=match i with
 | 0=>by show 0<=3;decide
 | 1=>by show 1<=3;decide
 | 2=>by show 1<=3;decide
 | 3=>by show 1<=3;decide
 | 4=>by show 1<=3;decide
 | 5=>by show 1<=3;decide
 | 6=>by show 2<=3;decide
 | 7=>by show 2<=3;decide
 | 8=>by show 2<=3;decide
 | 9=>by show 3<=3;decide
 | n+10=>by show 2<=3;decide
theorem Ow (i:Nat):cO i<=2:=match i with
 | 0=>by show 1<=2;decide
 | 1=>by show 0<=2;decide
 | 2=>by show 1<=2;decide
 | 3=>by show 2<=2;decide
 | 4=>by show 1<=2;decide
 | 5=>by show 1<=2;decide
 | 6=>by show 1<=2;decide
 | 7=>by show 1<=2;decide
 | 8=>by show 2<=2;decide
 | 9=>by show 1<=2;decide
 | n+10=>by show 2<=2;decide
theorem ju {f:Str} {y:V} {fs:List (Str×V)} {n:Nat} (h:fs.length<=n):(aJ f y fs).length<=n+1:=Nat.le_trans (rZ f y fs) (Nat.succ_le_succ h)
noncomputable def BV (nm:V) (tn ti to:Addr):List (Str×V):=aJ "outs" (.ref to) (aJ "ins" (.ref ti) (aJ "numbers" (.ref tn) (aJ "name" nm [])))
theorem xO (nm:V) (tn ti to:Addr):(BV nm tn ti to).lookup ("name" :Str)=some nm:=by
 unfold BV
 rw [aD,if_neg (by decide +kernel),aD,if_neg (by decide +kernel),aD,if_neg (by decide +kernel),aD,if_pos rfl]
theorem qj (nm:V) (tn ti to:Addr):(BV nm tn ti to).lookup ("numbers" :Str)=some (.ref tn):=by
 unfold BV
 rw [aD,if_neg (by decide +kernel),aD,if_neg (by decide +kernel),aD,if_pos rfl]
theorem tG (nm:V) (tn ti to:Addr):(BV nm tn ti to).lookup ("ins" :Str)=some (.ref ti):=by
 unfold BV
 rw [aD,if_neg (by decide +kernel),aD,if_pos rfl]
theorem Ed (nm:V) (tn ti to:Addr):(BV nm tn ti to).lookup ("outs" :Str)=some (.ref to):=by
 unfold BV
 rw [aD,if_pos rfl]
theorem tY (nm:V) (tn ti to:Addr) {m:Str} (h1:¬m= "outs") (h2:¬m= "ins") (h3:¬m= "numbers") (h4:¬m= "name"):(BV nm tn ti to).lookup m=none:=by
 unfold BV
 rw [aD,if_neg h1,aD,if_neg h2,aD,if_neg h3,aD,if_neg h4]
 all_goals rfl
structure fG (K:PySem.W.Frag) (t:nj) (H:Hp) (p:Addr) (i:Nat) (nm:V) (ns is os:List V):Prop where
 ex:∃dx tn ti to,H p=some (.ins (cls t i) dx (BV nm tn ti to))/\fY K H tn ns/\fY K H ti is/\fY K H to os
theorem fG.same {H H':Hp} {p:Addr} {i:Nat} {nm:V} {ns is os:List V} (h:fG K t H p i nm ns is os) (s:aM H H'):fG K t H' p i nm ns is os:=by
 obtain⟨dx,tn,ti,to,h1,h2,h3,h4⟩:=h
 exact⟨dx,tn,ti,to,s _ _ h1,s.seqT h2,s.seqT h3,s.seqT h4⟩
noncomputable def iU (i:Nat):Sp:=fun vs H Q _=>∃x,vs=[x]/\Q (.str (dM i)) H
noncomputable def nV (j:Nat):V:=.int (j:Nat)
inductive Val (v:V):Prop where
 | mk:∀n:Int,v=.int n->0<=n->n <1000000000->Val v
inductive Flat:PyData->Prop
 | non:Flat .none
 | int (i:Int):Flat (.int i)
noncomputable def places (i:Nat) (hs:List V):List Nat:=if i=9 then(match hs with | .int n:: _=>[0,1+(n % 2).toNat] | _=>[0]) else List.range hs.length
noncomputable def qp (i:Nat) (hs:List V):Prop:=hs.length=cI i/\∀h∈hs,h=.non∨∃n:Int,h=.int n
noncomputable def jN (hs:List V) (q:Nat):Bool:=decide (hs[q]?=some V.non)
noncomputable def Kf (i:Nat) (hs:List V):V:=match (places i hs).find? (jN hs) with
 | some q=>nV q
 | none=>.non
theorem iJ {i:Nat} {hs:List V} (h:qp i hs):∀q∈places i hs,q <hs.length:=by
 intro q hq
 unfold places at hq
 by_cases hi:i=9
 ·rw [if_pos hi] at hq
  have hl:hs.length=3:=by rw [h.1,hi];rfl
  rw [hl]
  split at hq
  ·rename_i n r
   have h0:=Int.emod_nonneg n (show(2:Int)≠0 by decide)
   have h1:=Int.emod_lt_of_pos n (show(0:Int) <2 by decide)
   simp at hq
   omega
  ·simp at hq
   omega
 ·rw [if_neg hi] at hq
  simpa using hq
theorem K6 {f:Nat->Bool}:∀{l:List Nat} {j q:Nat},l[j]?=some q->(∀x∈l.take j,f x=false)->f q=true->l.find? f=some q
 | [],_,_,e,_,_=>by simp at e
 | x:: r,0,q,e,_,hq=>by
  simp at e
  subst e
  rw [List.find?_cons,hq]
 | x:: r,j+1,q,e,h,hq=>by
  have hx:f x=false:=h x (by simp)
  rw [List.find?_cons,hx]
  exact K6 (l:=r) (j:=j) (by simpa using e) (fun y hy=>h y (by simp [hy])) hq
theorem Rg {f:Nat->Bool} {l:List Nat} (h:∀x∈l,f x=false):l.find? f=none:=by
 rw [List.find?_eq_none]
 intro x hx
 rw [h x hx]
 decide
inductive my (K:PySem.W.Frag) (t:nj) (i:Nat) (vs:List V) (H:Hp) (Q:VK) (E:XK):Prop where
 | mk:∀(p a:Addr) (nm:V) (ns is os hs:List V),vs=[.ref p,.ref a]->fG K t H p i nm ns is os->is.length=cI i->bT K H a hs->qp i hs->(∀H' L,aM H H'->H L=none->H' L=some (.lst ((places i hs).map nV))->Q (.ref L) H')->my K t i vs H Q E
inductive xf (K:PySem.W.Frag) (t:nj) (i:Nat) (vs:List V) (H:Hp) (Q:VK) (E:XK):Prop where
 | mk:∀(p a:Addr) (nm:V) (ns is os hs:List V),vs=[.ref p,.ref a]->fG K t H p i nm ns is os->is.length=cI i->bT K H a hs->qp i hs->(∀H',aM H H'->Q (Kf i hs) H')->xf K t i vs H Q E
noncomputable def g0 (l:List Int):Int:=l.getD 0 0
noncomputable def g1 (l:List Int):Int:=l.getD 1 0
noncomputable def cV (i:Nat):Nat:=match i with
 | 0=>1
 | 1=>1
 | 2=>1
 | 3=>1
 | 4=>1
 | 5=>1
 | 6=>2
 | 7=>2
 | 8=>2
 | 9=>2
 | _=>2
noncomputable def cD (i:Nat) (ns ws:List Int) (kp:Int):List (Int×Int):=match i with
 | 0=>[(0,g0 ws)]
 | 1=>[]
 | 2=>[(0,g0 ws)]
 | 3=>[(0,g0 ws),(1,g0 ws)]
 | 4=>[(0,(g0 ns * g0 ws+g1 ns) % 1000000000)]
 | 5=>[(0,(kp+g0 ws) % 1000000000)]
 | 6=>[(0,(g0 ws+g1 ws) % 1000000000)]
 | 7=>[(0,if g0 ws <g1 ws then 1 else 0)]
 | 8=>[(0,if g1 ws <g0 ws then g1 ws else g0 ws),(1,if g1 ws <g0 ws then g0 ws else g1 ws)]
 | 9=>[(0,g1 ws)]
 | _=>[(g0 ws % 2,g1 ws)]
noncomputable def fW (i:Nat) (ws:List Int) (kp:Int):Int:=if i=5 then(kp+g0 ws) % 1000000000 else kp
noncomputable def uJ (ps:List (Int×Int)):List (List V):=ps.map fun p=>[.int p.1,.int p.2]
noncomputable def Vd (ws:List Int):Prop:=∀w∈ws,0<=w/\w <1000000000
inductive d9 (K:PySem.W.Frag) (t:nj) (i:Nat) (vs:List V) (H:Hp) (Q:VK) (E:XK):Prop where
 | mk:∀(p a:Addr) (nm:V) (ns:List Int) (is os:List V) (ws:List Int) (kp:Int),vs=[.ref p,.ref a,.int kp]->fG K t H p i nm (ns.map V.int) is os->ns.length=cN i->bT K H a (ws.map V.int)->ws.length=cV i->Vd ws->(∀H' U L rs,aM H H'->H L=none->H' U=some (.tup [.ref L,.int (fW i ws kp)])->H' L=some (.lst (rs.map V.ref))->cL H' rs (uJ (cD i ns ws kp))->Q (.ref U) H')->d9 K t i vs H Q E
theorem wW {H:Hp} {Q:VK} {a b x y:Int} (hx:x=a) (hy:y=b) (k:∀H' L rs,aM H H'->H L=none->H' L=some (.lst (rs.map V.ref))->cL H' rs (uJ [(a,b)])->Q (.ref L) H') {t0 L:Addr} (n0:H t0=none)
  (nL:(upd H t0 (.tup [.int x,.int y])) L=none):Q (.ref L) (upd (upd H t0 (.tup [.int x,.int y])) L (.lst [.ref t0])):=by
 subst hx hy
 have s0:=aB (o:=.tup [.int x,.int y]) n0
 have s1:=aB (o:=.lst [.ref t0]) nL
 exact k _ L [t0] (s0.trans s1) (s0.free nL) au (.cons (s1 _ _ au) .nil)
theorem S5 {H:Hp} {Q:VK} {a b c d x y u v:Int} (hx:x=a) (hy:y=b) (hu:u=c) (hv:v=d) (k:∀H' L rs,aM H H'->H L=none->H' L=some (.lst (rs.map V.ref))->cL H' rs (uJ [(a,b),(c,d)])->Q (.ref L) H') {t0 t1 L:Addr} (n0:H t0=none)
  (n1:(upd H t0 (.tup [.int x,.int y])) t1=none) (nL:(upd (upd H t0 (.tup [.int x,.int y])) t1 (.tup [.int u,.int v])) L=none):Q (.ref L) (upd (upd (upd H t0 (.tup [.int x,.int y])) t1 (.tup [.int u,.int v])) L (.lst [.ref t0,.ref t1])):=by
 subst hx hy hu hv
 have s0:=aB (o:=.tup [.int x,.int y]) n0
 have s1:=aB (o:=.tup [.int u,.int v]) n1
 have s2:=aB (o:=.lst [.ref t0,.ref t1]) nL
 exact k _ L [t0,t1] (s0.trans (s1.trans s2)) (s0.free (s1.free nL)) au (.cons (s2 _ _ (s1 _ _ au)) (.cons (s2 _ _ au) .nil))
theorem Ae {H:Hp} {Q:VK} {c:Int} {ps:List (Int×Int)} (k:∀H' U L rs,aM H H'->H L=none->H' U=some (.tup [.ref L,.int c])->H' L=some (.lst (rs.map V.ref))->cL H' rs (uJ ps)->Q (.ref U) H'):
  ∀H' L rs,aM H H'->H L=none->H' L=some (.lst (rs.map V.ref))->cL H' rs (uJ ps)->∀U,H' U=none->Q (.ref U) (upd H' U (.tup [.ref L,.int c])):=fun H' L rs s nL eL tL U nU=>
 have s2:=aB (o:=.tup [.ref L,.int c]) nU
 k _ U L rs (s.trans s2) nL au (s2 _ _ eL) (tL.same s2)
theorem b8:(2:Nat)<=sizeLine:=by decide
theorem one_le:(1:Nat)<=sizeLine:=by decide
theorem Wq {a b:Int} {ws:List Int} (h:Vd ws) (hb:b∈ws):IntMulOk a b:=.of_right (intBits_le_64 (by have:=(h b hb).1;omega) (by have:=(h b hb).2;omega))
noncomputable def Fe (i:Nat) (ns:List V):V:=if i=5 then ns.headD .non else .int 0
inductive sG (K:PySem.W.Frag) (t:nj) (i:Nat) (vs:List V) (H:Hp) (Q:VK) (E:XK):Prop where
 | mk:∀(p:Addr) (nm:V) (ns is os:List V),vs=[.ref p]->fG K t H p i nm ns is os->ns.length=cN i->Q (Fe i ns) H->sG K t i vs H Q E
noncomputable def UV (i:Nat) (kv:V) (ns:List V):List V:=if i=5 then [kv] else ns
inductive BW (K:PySem.W.Frag) (t:nj) (i:Nat) (vs:List V) (H:Hp) (Q:VK) (E:XK):Prop where
 | mk:∀(p:Addr) (kv nm:V) (ns is os:List V),vs=[.ref p,kv]->i<=10->fG K t H p i nm ns is os->(∀H' q,aM H H'->H q=none->fG K t H' q i nm (UV i kv ns) is os->Q (.ref q) H')->BW K t i vs H Q E
noncomputable def cH (a b:Int):Int:=((((a % 2147483647 * 48271+7919 * b+11) % 2147483647) * ((a % 2147483647 * 48271+7919 * b+11) % 2147483647) % 2147483629+613 * b) * (((a % 2147483647 * 48271+7919 * b+11) % 2147483647) * ((a % 2147483647 * 48271+7919 * b+11) % 2147483647) % 2147483629)) % 2147483587
theorem yX (a b:Int):0<=cH a b:=Int.emod_nonneg _ (by decide)
noncomputable def jB (ns:List Int) (j:Nat):Int:=(ns[j]?).getD (41 * (j:Int)+3)
noncomputable def mD (a b:Int):Int:=if cH a b / 7 % 3=0 then cH a b % 5 else if cH a b / 7 % 3=1 then cH a b % 10 ^ 9 else 10 ^ 9 - 1 - cH a b % 3
theorem mz (a b:Int):0<=mD a b/\mD a b <1000000000:=by
 unfold mD
 have h0:=yX a b
 generalize cH a b=n at h0
 split
 ·omega
 ·split
  ·have h1:=Int.emod_lt_of_pos n (show(0:Int) <10 ^ 9 by decide)
   have h2:=Int.emod_nonneg n (show(10:Int) ^ 9≠0 by decide)
   exact⟨h2,h1⟩
  ·have h1:=Int.emod_lt_of_pos n (show(0:Int) <3 by decide)
   have h2:=Int.emod_nonneg n (show(3:Int)≠0 by decide)
   have e:(10:Int) ^ 9=1000000000:=by decide
   rw [e]
   omega
noncomputable def low (c:Nat):Bool:=decide (97<=c) && decide (c<=122)
noncomputable def Lf (c:Nat):Bool:=decide (48<=c) && decide (c<=57)
noncomputable def nameB (x:Str):Bool:=match x.cps.toList with
 | []=>false
 | c:: r=>decide (r.length<=7) && (low c && (c:: r).all fun d=>low d || Lf d)
theorem mq (x:Str):x.cps.toList.length=x.length:=by simp [Str.length]
theorem Bq:∀(ws:List Str),(Str.join Str.empty ws).cps.toList=(ws.map fun w=>w.cps.toList).flatten
 | []=>rfl
 | [w]=>by simp [Str.join]
 | w:: v:: r=>by
  have ih:=Bq (v:: r)
  show(w.cps ++ #[] ++ (Str.join Str.empty (v:: r)).cps).toList=_
  rw [Array.toList_append,ih]
  simp
theorem Qs {n:Nat}:∀(ws:List Str),(∀w∈ws,w.length<=n)->(ws.map (·.length)).sum<=ws.length * n
 | [],_=>by simp
 | w:: r,h=>by
  have h1:=h w (by simp)
  have h2:=Qs r fun v hv=>h v (by simp [hv])
  simp only [List.map_cons,List.sum_cons,List.length_cons,Nat.add_mul]
  omega
noncomputable def Hu (n:Int):Nat:=97+(n % 26).toNat
theorem Gh (n:Int):low (Hu n)=true:=by
 unfold low Hu
 have h0:=Int.emod_nonneg n (show(26:Int)≠0 by decide)
 have h1:=Int.emod_lt_of_pos n (show(0:Int) <26 by decide)
 simp
 omega
noncomputable abbrev LT:Str:= "abcdefghijklmnopqrstuvwxyz"
theorem JD:LT.length=26:=by decide +kernel
theorem Qi:LT.cps.toList=List.range' 97 26:=by decide +kernel
theorem Qm (n:Int):Cq LT.cps.toList (n % 26)=some (Hu n):=by
 have h0:=Int.emod_nonneg n (show(26:Int)≠0 by decide)
 have h1:=Int.emod_lt_of_pos n (show(0:Int) <26 by decide)
 obtain⟨j,hj⟩:∃j:Nat,n % 26=(j:Int):=⟨(n % 26).toNat,by omega⟩
 unfold Hu
 rw [hj,Qi]
 exact aN (by rw [List.getElem?_range' (by omega)];simp)
noncomputable def gA (a:Int):List Nat:=(List.range (cH a 50 % 7).toNat).map fun j=>Hu (cH a (60+(j:Nat)))
noncomputable def oM (a:Int):Nat:=(cH a 51 % (cH a 50 % 7+1)).toNat
noncomputable def Jm (n:Nat):List Nat:=(toString (Int.ofNat n):Str).cps.toList
noncomputable def yU (a:Int) (k:Nat):List Nat:=if cH a 52 % 3=0 then Hu (cH a 53):: Jm (cH a 54 % 1000+37 * (k:Int)).toNat else(gA a).take (oM a) ++ Hu (cH a 55+k):: (gA a).drop (oM a)
noncomputable def cY (a:Int) (k:Nat):Str:=⟨(yU a k).toArray⟩
noncomputable def O2 (l:List Nat):Nat:=l.foldl (fun r c=>10 * r+(c - 48)) 0
theorem RG:(List.range 2000).all (fun i=>(Jm i).all Lf && decide ((Jm i).length<=4) && decide (O2 (Jm i)=i))=true:=by decide +kernel
theorem tW {n:Nat} (h:n <2000):(Jm n).all Lf=true/\(Jm n).length<=4/\O2 (Jm n)=n:=by
 have z:=List.all_eq_true.mp RG n (List.mem_range.mpr h)
 simp only [Bool.and_eq_true,decide_eq_true_eq] at z
 exact⟨z.1.1,z.1.2,z.2⟩
theorem Ao (a:Int):(gA a).length<=6/\((gA a).length:Int)=cH a 50 % 7:=by
 unfold gA
 have h0:=Int.emod_nonneg (cH a 50) (show(7:Int)≠0 by decide)
 have h1:=Int.emod_lt_of_pos (cH a 50) (show(0:Int) <7 by decide)
 rw [lM,List.length_range]
 omega
theorem K8 (a:Int):oM a<=(gA a).length:=by
 have h:=(Ao a).2
 unfold oM
 have h0:=Int.emod_nonneg (cH a 50) (show(7:Int)≠0 by decide)
 have h1:=Int.emod_lt_of_pos (cH a 51) (show(0:Int) <cH a 50 % 7+1 by omega)
 have h2:=Int.emod_nonneg (cH a 51) (show cH a 50 % 7+1≠0 by omega)
 omega
theorem z7 {x:Str} {c:Nat} {r:List Nat} (e:x.cps.toList=c:: r) (h:r.length<=7) (hc:low c=true) (ha:∀d∈r,low d=true∨Lf d=true):nameB x=true:=by
 unfold nameB
 rw [e]
 simp only [Bool.and_eq_true,decide_eq_true_eq,List.all_eq_true,Bool.or_eq_true]
 refine⟨h,hc,fun d hd=>?_⟩
 rcases List.mem_cons.mp hd with rfl | hd
 ·exact .inl hc
 ·exact ha d hd
theorem Bm (a:Int) (k:Nat):(cY a k).cps.toList=yU a k:=by simp [cY]
theorem KH (a:Int) {k:Nat} (hk:k <26):nameB (cY a k)=true:=by
 have h0:=Int.emod_nonneg (cH a 54) (show(1000:Int)≠0 by decide)
 have h1:=Int.emod_lt_of_pos (cH a 54) (show(0:Int) <1000 by decide)
 have e:=Bm a k
 unfold yU at e
 split at e
 ·obtain⟨n1,n2,_⟩:=tW (n:=(cH a 54 % 1000+37 * (k:Int)).toNat) (by omega)
  exact z7 e (by omega) (Gh _) fun c hc=>.inr (List.all_eq_true.mp n1 c hc)
 ·have b1:=(Ao a).1
  have b2:=K8 a
  have all:∀c∈(gA a).take (oM a) ++ Hu (cH a 55+k):: (gA a).drop (oM a),low c=true:=fun c hc=>by
   have hb:∀c∈gA a,low c=true:=fun c hc=>by
    unfold gA at hc
    obtain⟨j,_,rfl⟩:=List.mem_map.mp hc
    exact Gh _
   rcases List.mem_append.mp hc with h | h
   ·exact hb c (List.mem_of_mem_take h)
   ·rcases List.mem_cons.mp h with rfl | h
    ·exact Gh _
    ·exact hb c (List.mem_of_mem_drop h)
  have len:((gA a).take (oM a) ++ Hu (cH a 55+k):: (gA a).drop (oM a)).length<=7:=by
   rw [lP,List.length_take,List.length_cons,List.length_drop]
   omega
  have ne:(gA a).take (oM a) ++ Hu (cH a 55+k):: (gA a).drop (oM a)≠[]:=by simp
  generalize (gA a).take (oM a) ++ Hu (cH a 55+k):: (gA a).drop (oM a)=l at all len ne e
  obtain⟨c,r,rfl⟩:=List.exists_cons_of_ne_nil ne
  rw [List.length_cons] at len
  exact z7 e (by omega) (all c List.mem_cons_self) fun d hd=>.inl (all d (List.mem_cons_of_mem _ hd))
theorem Ij (a:Int) {j k:Nat} (hj:j <26) (hk:k <26) (h:cY a j=cY a k):j=k:=by
 have e:yU a j=yU a k:=by
  have:=congrArg (fun s:Str=>s.cps.toList) h
  simpa [cY] using this
 unfold yU at e
 split at e
 ·have h0:=Int.emod_nonneg (cH a 54) (show(1000:Int)≠0 by decide)
  have h1:=Int.emod_lt_of_pos (cH a 54) (show(0:Int) <1000 by decide)
  have e2:=congrArg O2 (List.cons.inj e).2
  rw [(tW (by omega)).2.2,(tW (by omega)).2.2] at e2
  omega
 ·have e2:=(List.cons.inj (List.append_cancel_left e)).1
  unfold Hu at e2
  omega
namespace Drawn
variable {S:Type}
structure gU (S:Type) where
 kind:Nat
 name:S
 nums:List Int
 ins:List S
 outs:List S
structure NS (S:Type) where
 lanes:List S
 parts:List (gU S)
 opens:List S
 back:List S
inductive jn (ps:List (gU S)):S->S->Prop
 | refl (x:S):jn ps x x
 | step {x y z:S} {p:gU S}:p∈ps->x∈p.ins ++ p.outs->y∈p.ins ++ p.outs->jn ps y z->jn ps x z
theorem jn.trans {ps:List (gU S)} {x y z:S} (h:jn ps x y) (k:jn ps y z):jn ps x z:=by
 induction h with
 | refl _=>exact k
 | step hp hx hy _ ih=>exact .step hp hx hy (ih k)
theorem jn.symm {ps:List (gU S)} {x y:S} (h:jn ps x y):jn ps y x:=by
 induction h with
 | refl _=>exact .refl _
 | step hp hx hy _ ih=>exact ih.trans (.step hp hy hx (.refl _))
theorem jn.mono {ps qs:List (gU S)} (hs:∀p∈ps,p∈qs) {x y:S} (h:jn ps x y):jn qs x y:=by
 induction h with
 | refl _=>exact .refl _
 | step hp hx hy _ ih=>exact .step (hs _ hp) hx hy ih
theorem jn.part {ps:List (gU S)} {p:gU S} (hp:p∈ps) {x y:S} (hx:x∈p.ins ++ p.outs) (hy:y∈p.ins ++ p.outs):jn ps x y:=.step hp hx hy (.refl _)
structure WF (ns:NS S):Prop where
 nod:ns.lanes.Nodup
 outs:((ns.parts.flatMap (·.outs)) ++ ns.back).Perm ns.lanes
 ins:((ns.parts.flatMap (·.ins)) ++ ns.opens).Perm ns.lanes
 hang:∀p∈ns.parts,∃x∈p.ins ++ p.outs,∃o∈ns.opens,jn ns.parts x o
 touch:∀p∈ns.parts,p.ins ++ p.outs≠[]
theorem WF.add {ns:NS S} (w:WF ns) {p:gU S} {newl opens' back':List S} (hn:(ns.lanes ++ newl).Nodup) (ho:(p.outs ++ back').Perm (ns.back ++ newl)) (hi:(p.ins ++ opens').Perm (ns.opens ++ newl))
  (hg:∀o∈ns.opens,∃o'∈opens',jn (ns.parts ++ [p]) o o') (hp:∃x∈p.ins ++ p.outs,∃o∈opens',jn (ns.parts ++ [p]) x o):
  WF { lanes:=ns.lanes ++ newl,parts:=ns.parts ++ [p],opens:=opens',back:=back' }:=by
 have mono:∀q∈ns.parts,q∈ns.parts ++ [p]:=fun q hq=>List.mem_append.mpr (.inl hq)
 refine⟨hn,?_,?_,?_,?_⟩
 ·have e:(ns.parts ++ [p]).flatMap (·.outs)=ns.parts.flatMap (·.outs) ++ p.outs:=by simp
  show(((ns.parts ++ [p]).flatMap (·.outs)) ++ back').Perm _
  rw [e,List.append_assoc]
  exact(ho.append_left _).trans (by rw [<-List.append_assoc];exact w.outs.append_right _)
 ·have e:(ns.parts ++ [p]).flatMap (·.ins)=ns.parts.flatMap (·.ins) ++ p.ins:=by simp
  show(((ns.parts ++ [p]).flatMap (·.ins)) ++ opens').Perm _
  rw [e,List.append_assoc]
  exact(hi.append_left _).trans (by rw [<-List.append_assoc];exact w.ins.append_right _)
 ·intro q hq
  rcases List.mem_append.mp hq with h | h
  ·obtain⟨x,hx,o,hoq,c⟩:=w.hang q h
   obtain⟨o',ho',c'⟩:=hg o hoq
   exact⟨x,hx,o',ho',(c.mono mono).trans c'⟩
  ·rw [List.mem_singleton] at h
   subst h
   exact hp
 ·intro q hq
  rcases List.mem_append.mp hq with h | h
  ·exact w.touch q h
  ·rw [List.mem_singleton] at h
   subst h
   obtain⟨x,hx,_⟩:=hp
   intro z
   rw [z] at hx
   cases hx
theorem WF.start:WF (⟨[],[],[],[]⟩:NS S):=⟨List.nodup_nil,.refl _,.refl _,fun p hp=>(by cases hp),fun p hp=>(by cases hp)⟩
theorem WF.backLane {ns:NS S} (w:WF ns) {b:S} (hn:(ns.lanes ++ [b]).Nodup):WF { ns with lanes:=ns.lanes ++ [b],opens:=ns.opens ++ [b],back:=ns.back ++ [b] }:=by
 refine⟨hn,?_,?_,fun p hp=>?_,w.touch⟩
 ·show(_ ++ (ns.back ++ [b])).Perm _
  rw [<-List.append_assoc]
  exact w.outs.append_right _
 ·show(_ ++ (ns.opens ++ [b])).Perm _
  rw [<-List.append_assoc]
  exact w.ins.append_right _
 ·obtain⟨x,hx,o,ho,c⟩:=w.hang p hp
  exact⟨x,hx,o,List.mem_append.mpr (.inl ho),c⟩
theorem WF.part {ns:NS S} (w:WF ns) {p:gU S} {rest:List S} (hi:ns.opens.Perm (p.ins ++ rest)) (hf:(ns.lanes ++ p.outs).Nodup) (ho:p.outs≠[]):
  WF { ns with lanes:=ns.lanes ++ p.outs,parts:=ns.parts ++ [p],opens:=rest ++ p.outs }:=by
 have hp:p∈ns.parts ++ [p]:=by simp
 obtain⟨o1,hoo⟩:∃o1,o1∈p.outs:=List.exists_mem_of_ne_nil _ ho
 have h1:o1∈rest ++ p.outs:=List.mem_append.mpr (.inr hoo)
 refine w.add hf List.perm_append_comm ?_ (fun o h=>?_) ⟨o1,List.mem_append.mpr (.inr hoo),o1,h1,.refl _⟩
 ·rw [<-List.append_assoc]
  exact hi.symm.append_right _
 ·rcases List.mem_append.mp (hi.mem_iff.mp h) with h | h
  ·exact⟨o1,h1,jn.part hp (List.mem_append.mpr (.inl h)) (List.mem_append.mpr (.inr hoo))⟩
  ·exact⟨o,List.mem_append.mpr (.inl h),.refl _⟩
theorem WF.take {ns:NS S} (w:WF ns) {p:gU S} {rest:List S} {y x:S} (hi:p.ins=[y]) (ho:p.outs=[]) (hr:ns.opens.Perm (y:: rest)) (hx:x∈rest) (c:jn ns.parts y x):
  WF { ns with parts:=ns.parts ++ [p],opens:=rest }:=by
 have mono:∀q∈ns.parts,q∈ns.parts ++ [p]:=fun q hq=>List.mem_append.mpr (.inl hq)
 have:=w.add (p:=p) (newl:=[]) (opens':=rest) (back':=ns.back) (by rw [List.append_nil];exact w.nod) (by rw [ho,List.append_nil];exact .refl _) (by rw [hi,List.append_nil];exact hr.symm)
  (fun o h=>by
   rcases List.mem_cons.mp (hr.mem_iff.mp h) with rfl | h
   ·exact⟨x,hx,c.mono mono⟩
   ·exact⟨o,h,.refl _⟩) ⟨y,by simp [hi],x,hx,c.mono mono⟩
 rw [List.append_nil] at this
 exact this
theorem WF.loop {ns:NS S} (w:WF ns) {p:gU S} {rest:List S} {one own fresh:S} (hi:p.ins=[one,own]) (ho:p.outs=[own,fresh]) (hr:ns.opens.Perm (one:: rest)) (hn:(ns.lanes ++ [own,fresh]).Nodup):
  WF { ns with lanes:=ns.lanes ++ [own,fresh],parts:=ns.parts ++ [p],opens:=rest ++ [fresh] }:=by
 have hp:p∈ns.parts ++ [p]:=by simp
 have hf:fresh∈rest ++ [fresh]:=by simp
 refine w.add hn (by rw [ho];exact List.perm_append_comm) ?_ (fun o h=>?_) ⟨fresh,by simp [ho],fresh,hf,.refl _⟩
 ·rw [hi]
  show(one:: own:: (rest ++ [fresh])).Perm (ns.opens ++ [own,fresh])
  refine .trans ?_ (hr.symm.append_right _)
  refine .cons _ ?_
  show(own:: (rest ++ [fresh])).Perm (rest ++ ([own] ++ [fresh]))
  rw [<-List.append_assoc]
  exact(List.perm_append_comm (l₁:=[own]) (l₂:=rest)).append_right [fresh]
 ·rcases List.mem_cons.mp (hr.mem_iff.mp h) with rfl | h
  ·exact⟨fresh,hf,jn.part hp (by simp [hi]) (by simp [ho])⟩
  ·exact⟨o,List.mem_append.mpr (.inl h),.refl _⟩
theorem WF.closeBack {ns:NS S} (w:WF ns) {p:gU S} {rest:List S} {one b fresh:S} (hi:p.ins=[one]) (ho:p.outs=[b,fresh]) (hb:ns.back.Perm (b:: rest)) (h1:ns.opens=[one]) (hn:(ns.lanes ++ [fresh]).Nodup):
  WF { lanes:=ns.lanes ++ [fresh],parts:=ns.parts ++ [p],opens:=[fresh],back:=rest }:=by
 have hp:p∈ns.parts ++ [p]:=by simp
 refine w.add hn ?_ (by rw [hi,h1]) (fun o h=>?_) ⟨fresh,by simp [ho],fresh,by simp,.refl _⟩
 ·rw [ho]
  show(b:: fresh:: rest).Perm (ns.back ++ [fresh])
  refine .trans ?_ (hb.symm.append_right _)
  exact .cons _ (List.perm_append_comm (l₁:=[fresh]) (l₂:=rest))
 ·rw [h1,List.mem_singleton] at h
  subst h
  exact⟨fresh,by simp,jn.part hp (by simp [hi]) (by simp [ho])⟩
theorem WF.last {ns:NS S} (w:WF ns) {p:gU S} {y:S} (hb:ns.back=[]) (h1:ns.opens=[y]) (hi:p.ins=[y]) (ho:p.outs=[]):
  ((ns.parts ++ [p]).flatMap (·.outs)).Perm ns.lanes/\((ns.parts ++ [p]).flatMap (·.ins)).Perm ns.lanes/\∀q∈ns.parts ++ [p],∃x∈q.ins ++ q.outs,jn (ns.parts ++ [p]) x y:=by
 have mono:∀q∈ns.parts,q∈ns.parts ++ [p]:=fun q hq=>List.mem_append.mpr (.inl hq)
 refine⟨?_,?_,?_⟩
 ·have e:(ns.parts ++ [p]).flatMap (·.outs)=ns.parts.flatMap (·.outs):=by simp [ho]
  rw [e]
  have:=w.outs
  rw [hb,List.append_nil] at this
  exact this
 ·have e:(ns.parts ++ [p]).flatMap (·.ins)=ns.parts.flatMap (·.ins) ++ [y]:=by simp [hi]
  rw [e]
  have:=w.ins
  rw [h1] at this
  exact this
 ·intro q hq
  rcases List.mem_append.mp hq with h | h
  ·obtain⟨x,hx,o,hoq,c⟩:=w.hang q h
   rw [h1,List.mem_singleton] at hoq
   subst hoq
   exact⟨x,hx,c.mono mono⟩
  ·rw [List.mem_singleton] at h
   subst h
   exact⟨y,by simp [hi],.refl _⟩
theorem JM {ps:List (gU S)} {J:gU S->Prop} (closed:∀(l:S) (p q:gU S),p∈ps->q∈ps->l∈p.ins ++ p.outs->l∈q.ins ++ q.outs->J p->J q) {y:S} (hang:∀q∈ps,∃x∈q.ins ++ q.outs,jn ps x y)
  {p0:gU S} (hp0:p0∈ps) (h0:J p0):∀q∈ps,J q:=by
 have go:∀{x z:S},jn ps x z->(∃p∈ps,x∈p.ins ++ p.outs/\J p)->∃p∈ps,z∈p.ins ++ p.outs/\J p:=by
  intro x z c
  induction c with
  | refl _=>exact id
  | step hp hx hy _ ih=>
   rintro⟨p',hp',hx',hJ⟩
   exact ih ⟨_,hp,hy,closed _ _ _ hp' hp hx' hx hJ⟩
 obtain⟨x0,hx0,c0⟩:=hang p0 hp0
 have hy:=go c0 ⟨p0,hp0,hx0,h0⟩
 intro q hq
 obtain⟨x,hx,c⟩:=hang q hq
 obtain⟨p',hp',hx',hJ⟩:=go c.symm hy
 exact closed _ _ _ hp' hq hx' hx hJ
theorem Mw {ps:List (gU S)} (f:gU S->List S) (h:(ps.flatMap f).Nodup) {i j:Nat} {p q:gU S} {l:S} (hi:ps[i]?=some p) (hj:ps[j]?=some q) (hp:l∈f p) (hq:l∈f q):i=j:=by
 induction ps generalizing i j with
 | nil=>cases hi
 | cons r rs ih=>
  rw [List.flatMap_cons,List.nodup_append] at h
  obtain⟨h1,h2,h3⟩:=h
  have far:∀{k:Nat} {s:gU S},rs[k]?=some s->l∈f s->l∈rs.flatMap f:=fun e hs=>List.mem_flatMap.mpr ⟨_,List.mem_of_getElem? e,hs⟩
  match i,j with
  | 0,0=>rfl
  | 0,j+1=>
   simp only [List.getElem?_cons_zero,Option.some.injEq] at hi
   subst hi
   exact absurd rfl (h3 l hp l (far (by simpa using hj) hq))
  | i+1,0=>
   simp only [List.getElem?_cons_zero,Option.some.injEq] at hj
   subst hj
   exact absurd rfl (h3 l hq l (far (by simpa using hi) hp))
  | i+1,j+1=>exact congrArg (· +1) (ih h2 (by simpa using hi) (by simpa using hj))
end Drawn
structure aK where
 name:Str
 room:Int
 first:List Int
noncomputable def aK.ok (l:aK):Prop:=1<=l.room/\l.room<=10/\(l.first.length:Int)<=l.room/\∀v∈l.first,0<=v/\v <1000000000
noncomputable abbrev PD:=Drawn.gU Str
noncomputable def m6 (p:PD):Prop:=p.kind <11/\p.nums.length=cN p.kind/\p.ins.length=cI p.kind/\p.outs.length=cO p.kind/\∀v∈p.nums,0<=v/\v <1000000000
noncomputable def bA (E:List Addr) (H:Hp):Hp:=fun b=>if b∈E then none else H b
theorem dF {E:List Addr} {H:Hp}:aM (bA E H) H:=fun b o e=>by
 unfold bA at e
 split at e
 ·cases e
 ·exact e
theorem dH {E:List Addr} {H:Hp} {p:Addr} {o:HO} (h:H p=some o) (n:p∉E):bA E H p=some o:=by
 unfold bA
 rw [if_neg n]
 exact h
theorem fJ {E:List Addr} {H:Hp} {a:Addr} {o:HO} (h:a∈E):bA E (upd H a o)=bA E H:=by
 funext b
 unfold bA
 split
 ·rfl
 ·rename_i n
  rw [aG (fun z=>n (by rw [z];exact h))]
theorem Hh {E:List Addr} {H H':Hp} (s:aM H H') (hE:∀a∈E,∃o,H a=some o):aM (bA E H) (bA E H'):=fun b o e=>by
 have e':=dF b o e
 unfold bA at e ⊢
 split at e
 ·cases e
 ·rename_i n
  rw [if_neg n]
  exact s _ _ e'
inductive iT {α β:Type} (R:α->β->Prop):List α->List β->Prop
 | nil:iT R [] []
 | cons {a:α} {b:β} {l:List α} {m:List β}:R a b->iT R l m->iT R (a:: l) (b:: m)
theorem iT.imp {α β:Type} {R R':α->β->Prop} (h:∀a b,R a b->R' a b):∀{l:List α} {m:List β},iT R l m->iT R' l m
 | _,_,.nil=>.nil
 | _,_,.cons r t=>.cons (h _ _ r) (t.imp h)
theorem iT.length {α β:Type} {R:α->β->Prop}:∀{l:List α} {m:List β},iT R l m->l.length=m.length
 | _,_,.nil=>rfl
 | _,_,.cons _ t=>by rw [List.length_cons,List.length_cons,t.length]
theorem iT.app {α β:Type} {R:α->β->Prop}:∀{l l':List α} {m m':List β},iT R l m->iT R l' m'->iT R (l ++ l') (m ++ m')
 | _,_,_,_,.nil,h=>h
 | _,_,_,_,.cons r t,h=>.cons r (t.app h)
theorem iT.get {α β:Type} {R:α->β->Prop}:∀{l:List α} {m:List β},iT R l m->∀{i:Nat} {a:α},l[i]?=some a->∃b,m[i]?=some b/\R a b
 | _,_,.nil,_,_,h=>by simp at h
 | _,_,.cons r t,0,_,h=>by
  simp only [List.getElem?_cons_zero,Option.some.injEq] at h
  subst h
  exact⟨_,rfl,r⟩
 | _,_,.cons r t,i+1,_,h=>t.get (i:=i) (by simpa using h)
theorem iT.take {α β:Type} {R:α->β->Prop}:∀{l:List α} {m:List β},iT R l m->∀n:Nat,iT R (l.take n) (m.take n)
 | _,_,.nil,_=>by simp;exact .nil
 | _,_,.cons r t,0=>by simp;exact .nil
 | _,_,.cons r t,n+1=>by simp;exact .cons r (t.take n)
theorem iT.drop {α β:Type} {R:α->β->Prop}:∀{l:List α} {m:List β},iT R l m->∀n:Nat,iT R (l.drop n) (m.drop n)
 | _,_,.nil,_=>by simp;exact .nil
 | _,_,.cons r t,0=>.cons r t
 | _,_,.cons r t,n+1=>by simp;exact t.drop n
inductive uW (G:Hp) (v:V) (l:aK):Prop where
 | mk:∀q f,v=.ref q->G q=some (.tup [.str l.name,.int l.room,.ref f])->G f=some (.lst (l.first.map V.int))->uW G v l
inductive sZ (G:Hp) (v:V) (p:PD):Prop where
 | mk:∀q a1 a2 a3,v=.ref q->G q=some (.tup [.str (dM p.kind),.str p.name,.ref a1,.ref a2,.ref a3])->G a1=some (.lst (p.nums.map V.int))->G a2=some (.lst (p.ins.map V.str))->G a3=some (.lst (p.outs.map V.str))->sZ G v p
theorem uW.same {G G':Hp} {v:V} {l:aK} (h:uW G v l) (s:aM G G'):uW G' v l:=by
 obtain⟨q,f,e,h1,h2⟩:=h
 exact⟨q,f,e,s _ _ h1,s _ _ h2⟩
theorem sZ.same {G G':Hp} {v:V} {p:PD} (h:sZ G v p) (s:aM G G'):sZ G' v p:=by
 obtain⟨q,a1,a2,a3,e,h1,h2,h3,h4⟩:=h
 exact⟨q,a1,a2,a3,e,s _ _ h1,s _ _ h2,s _ _ h3,s _ _ h4⟩
structure Dw where
 S:Addr
 L:Addr
 P:Addr
 O:Addr
 c3:Int
 c4:Int
noncomputable abbrev Dw.E (d:Dw):List Addr:=[d.L,d.P,d.O]
structure lZ (d:Dw) (H:Hp) (ls:List aK) (ps:List PD) (os:List Str):Prop where
 top:bA d.E H d.S=some (.lst [.ref d.L,.ref d.P,.ref d.O,.int d.c3,.int d.c4])
 lanes:∃xs,H d.L=some (.lst xs)/\iT (uW (bA d.E H)) xs ls
 parts:∃xs,H d.P=some (.lst xs)/\iT (sZ (bA d.E H)) xs ps
 opens:H d.O=some (.lst (os.map V.str))
 ne:d.L≠d.P/\d.L≠d.O/\d.P≠d.O
 lok:∀l∈ls,l.ok
 pok:∀p∈ps,m6 p
 ln:ls.map (·.name)=(List.range ls.length).map (cY d.c3)
 pn:ps.map (·.name)=(List.range ps.length).map (cY d.c4)
theorem lZ.seqS {d:Dw} {H:Hp} {ls:List aK} {ps:List PD} {os:List Str} (D:lZ d H ls ps os):bT K H d.S [.ref d.L,.ref d.P,.ref d.O,.int d.c3,.int d.c4]:=bT.of (dF _ _ D.top)
theorem lZ.has {d:Dw} {H:Hp} {ls:List aK} {ps:List PD} {os:List Str} (D:lZ d H ls ps os) {a:Addr} (h:a∈d.E):∃o,H a=some o:=by
 obtain⟨_,e1,_⟩:=D.lanes
 obtain⟨_,e2,_⟩:=D.parts
 rcases List.mem_cons.mp h with rfl | h
 ·exact⟨_,e1⟩
 ·rcases List.mem_cons.mp h with rfl | h
  ·exact⟨_,e2⟩
  ·rw [List.mem_singleton] at h
   subst h
   exact⟨_,D.opens⟩
theorem lZ.out {d:Dw} {H:Hp} {ls:List aK} {ps:List PD} {os:List Str} (D:lZ d H ls ps os) {p:Addr} (h:H p=none):p∉d.E:=fun z=>by
 obtain⟨o,e⟩:=D.has z
 rw [h] at e
 cases e
theorem lZ.keep {d:Dw} {H H':Hp} {ls:List aK} {ps:List PD} {os:List Str} (D:lZ d H ls ps os) (s:aM H H'):lZ d H' ls ps os:=by
 obtain⟨xs,e1,a1⟩:=D.lanes
 obtain⟨ys,e2,a2⟩:=D.parts
 have c:=Hh (E:=d.E) s (fun a h=>D.has h)
 exact⟨c _ _ D.top,⟨xs,s _ _ e1,a1.imp fun _ _ h=>h.same c⟩,⟨ys,s _ _ e2,a2.imp fun _ _ h=>h.same c⟩,s _ _ D.opens,D.ne,D.lok,D.pok,D.ln,D.pn⟩
theorem lZ.cut {d:Dw} {H H':Hp} {ls:List aK} {ps:List PD} {os:List Str} (D:lZ d H ls ps os) (s:aM H H'):aM (bA d.E H) (bA d.E H'):=Hh s (fun _ h=>D.has h)
theorem CN {α:Type} {f:α->Str} {w:Nat->Str} {l:List α} {x:α} (h:l.map f=(List.range l.length).map w) (hx:f x=w l.length):(l ++ [x]).map f=(List.range (l ++ [x]).length).map w:=by
 rw [List.map_append,lP,List.length_singleton,List.range_succ,List.map_append,h,List.map_singleton,List.map_singleton,hx]
theorem lZ.lane {d:Dw} {H:Hp} {ls:List aK} {ps:List PD} {os:List Str} (D:lZ d H ls ps os) {v:V} {l:aK} (h:uW (bA d.E H) v l) (hl:l.ok) (hn:l.name=cY d.c3 ls.length) {xs:List V} (e:H d.L=some (.lst xs)):
  lZ d (upd H d.L (.lst (xs ++ [v]))) (ls ++ [l]) ps os:=by
 obtain⟨xs',e1,a1⟩:=D.lanes
 obtain⟨ys,e2,a2⟩:=D.parts
 rw [e] at e1
 cases e1
 have c:bA d.E (upd H d.L (.lst (xs ++ [v])))=bA d.E H:=fJ (by simp)
 refine⟨by rw [c];exact D.top,⟨_,au,by rw [c];exact a1.app (.cons h .nil)⟩,⟨ys,by rw [aG (Ne.symm D.ne.1)];exact e2,by rw [c];exact a2⟩,by rw [aG (Ne.symm D.ne.2.1)];exact D.opens,D.ne,fun x hx=>?_,D.pok,CN D.ln hn,D.pn⟩
 rcases List.mem_append.mp hx with hx | hx
 ·exact D.lok x hx
 ·rw [List.mem_singleton] at hx
  subst hx
  exact hl
theorem lZ.part {d:Dw} {H:Hp} {ls:List aK} {ps:List PD} {os:List Str} (D:lZ d H ls ps os) {v:V} {p:PD} (h:sZ (bA d.E H) v p) (hl:m6 p) (hn:p.name=cY d.c4 ps.length) {xs:List V} (e:H d.P=some (.lst xs)):
  lZ d (upd H d.P (.lst (xs ++ [v]))) ls (ps ++ [p]) os:=by
 obtain⟨xs',e1,a1⟩:=D.lanes
 obtain⟨ys,e2,a2⟩:=D.parts
 rw [e] at e2
 cases e2
 have c:bA d.E (upd H d.P (.lst (xs ++ [v])))=bA d.E H:=fJ (by simp)
 refine⟨by rw [c];exact D.top,⟨_,by rw [aG D.ne.1];exact e1,by rw [c];exact a1⟩,⟨_,au,by rw [c];exact a2.app (.cons h .nil)⟩,by rw [aG (Ne.symm D.ne.2.2)];exact D.opens,D.ne,D.lok,fun x hx=>?_,D.ln,CN D.pn hn⟩
 rcases List.mem_append.mp hx with hx | hx
 ·exact D.pok x hx
 ·rw [List.mem_singleton] at hx
  subst hx
  exact hl
theorem lZ.open {d:Dw} {H:Hp} {ls:List aK} {ps:List PD} {os os':List Str} (D:lZ d H ls ps os):lZ d (upd H d.O (.lst (os'.map V.str))) ls ps os':=by
 obtain⟨xs,e1,a1⟩:=D.lanes
 obtain⟨ys,e2,a2⟩:=D.parts
 have c:bA d.E (upd H d.O (.lst (os'.map V.str)))=bA d.E H:=fJ (by simp)
 exact⟨by rw [c];exact D.top,⟨xs,by rw [aG D.ne.2.1];exact e1,by rw [c];exact a1⟩,⟨ys,by rw [aG D.ne.2.2];exact e2,by rw [c];exact a2⟩,au,D.ne,D.lok,D.pok,D.ln,D.pn⟩
theorem yE (a:Int) {n:Nat} (h:n<=26):((List.range n).map (cY a)).Nodup:=by
 induction n with
 | zero=>exact List.nodup_nil
 | succ n ih=>
  rw [List.range_succ,List.map_append,List.nodup_append]
  refine⟨ih (by omega),by simp,fun x hx y hy=>?_⟩
  obtain⟨j,hj,rfl⟩:=List.mem_map.mp hx
  rw [List.map_singleton,List.mem_singleton] at hy
  subst hy
  have hj':=List.mem_range.mp hj
  intro z
  have:=Ij a (by omega) (by omega) z
  omega
noncomputable abbrev rN (ls:List aK) (ps:List PD) (os back:List Str):Drawn.NS Str:=⟨ls.map (·.name),ps,os,back⟩
theorem lZ.nod {d:Dw} {H:Hp} {ls:List aK} {ps:List PD} {os:List Str} (D:lZ d H ls ps os) (h:ls.length<=26):(ls.map (·.name)).Nodup:=by
 rw [D.ln]
 exact yE _ h
theorem UJ {ns:Drawn.NS Str} (w:Drawn.WF ns) {os:List Str} (h:ns.opens.Perm os):Drawn.WF { ns with opens:=os }:=
 ⟨w.nod,w.outs,(h.symm.append_left _).trans w.ins,fun p hp=>by
  obtain⟨x,hx,o,ho,c⟩:=w.hang p hp
  exact⟨x,hx,o,h.mem_iff.mp ho,c⟩,w.touch⟩
theorem pY {d:Dw} {H:Hp} {ls newl:List aK} {ps:List PD} {p:PD} {os ops back:List Str} (w:Drawn.WF (rN ls ps ops back)) (ho:p.outs=newl.map (·.name)) (D:lZ d H (ls ++ newl) (ps ++ [p]) (os ++ newl.map (·.name))) (hi:ops.Perm (p.ins ++ os)) (hne:newl.length≠0) (hl:(ls ++ newl).length<=26):
  Drawn.WF (rN (ls ++ newl) (ps ++ [p]) (os ++ newl.map (·.name)) back):=by
 have nd:=D.nod hl
 rw [List.map_append] at nd
 have:=w.part (p:=p) hi (by rw [ho];exact nd) (by rw [ho];intro z;exact hne (by rw [<-lM (f:=fun l:aK=>l.name),z];rfl))
 rw [ho] at this
 unfold rN
 rw [List.map_append]
 exact this
structure XJ (d:Dw) (H H':Hp) (ls:List aK) (ps:List PD) (back:List Str) (ls':List aK) (ps':List PD) (os':List Str):Prop where
 cut:aM (bA d.E H) (bA d.E H')
 at':lZ d H' ls' ps' os'
 wf:Drawn.WF (rN ls' ps' os' back)
 o1:1<=os'.length
 o4:os'.length<=4
 l2:ls'.length<=ls.length+2
 p2:ps'.length<=ps.length+2
theorem Bd {c X Y B:Prop} [Decidable c] (k:B) (hx:c->B->X) (hy:B->Y):if c then X else Y:=by
 split
 ·rename_i h;exact hx h k
 ·exact hy k
theorem hide {t u:TS} {D:Ends} {σ:St} {H:Hp} (h:∀v,v=u->ur t v D σ H):ur t u D σ H:=h u rfl
theorem Nm {i:Nat} {x:V} {t u:TS} {D:Ends} {σ:St} {H:Hp} (h:∀E,E=D->∀v,v=u->ur t v E (σ.set i (some x)) H):uw i x σ H fun σ2 H2=>ur t u D σ2 H2:=h D rfl u rfl
theorem Th {i:Nat} {x:V} {t:TS} {D:Ends} {σ:St} {H:Hp} (h:∀E,E=D->t E (σ.set i (some x)) H):uw i x σ H fun σ2 H2=>t D σ2 H2:=h D rfl
theorem WN {t u:TS} {D:Ends} {σ:St} {H:Hp} (h:∀E,E=D->∀v,v=u->ur t v E σ H):ur t u D σ H:=h D rfl u rfl
theorem dD {t u v:TS} {D:Ends} {σ:St} {H:Hp} (hv:v=ur t u) (h:∀w,w=u->ur t w D σ H):v D σ H:=by
 subst hv
 exact h u rfl
theorem lZ.two {d:Dw} {H:Hp} {ls:List aK} {ps:List PD} {os:List Str} (D:lZ d H ls ps os) {a1 a2:Addr} {x y:HO} (n1:H a1=none) (n2:upd H a1 x a2=none):
  lZ d (upd (upd H a1 x) a2 y) ls ps os/\bA d.E (upd (upd H a1 x) a2 y) a1=some x/\bA d.E (upd (upd H a1 x) a2 y) a2=some y/\aM (bA d.E H) (bA d.E (upd (upd H a1 x) a2 y)):=by
 have s1:=aB (o:=x) n1
 have s2:=aB (o:=y) n2
 have s:=s1.trans s2
 exact⟨D.keep s,dH (s2 _ _ au) (D.out n1),dH au (D.out (s1.free n2)),D.cut s⟩
structure Dk (lanes:List Str) (ps:List PD):Prop where
 nod:lanes.Nodup
 outs:(ps.flatMap (·.outs)).Perm lanes
 ins:(ps.flatMap (·.ins)).Perm lanes
 hang:∃y,∀q∈ps,∃x∈q.ins ++ q.outs,Drawn.jn ps x y
noncomputable def NZ (H:Hp) (a:Addr):Nat:=match H a with
 | some (.lst xs)=>xs.length
 | _=>0
theorem Hr {H:Hp} {a:Addr} {xs:List V} (h:H a=some (.lst xs)):NZ H a=xs.length:=by
 unfold NZ
 rw [h]
theorem Jp (m:Int) {n:Int} {k:Nat} (h0:0 <n) (hk:n=k):∃j:Nat,m % n=(j:Int)/\j <k:=by
 have h1:=Int.emod_nonneg m (Int.ne_of_gt h0)
 have h2:=Int.emod_lt_of_pos m h0
 exact⟨(m % n).toNat,(Int.toNat_of_nonneg h1).symm,by omega⟩
theorem VG (m:Int):∃i:Nat,Cq [V.str "add",V.str "less",V.str "add"] (m % 3)=some (.str (dM i))/\(i=6∨i=7):=by
 have key:∀j,j <3->Cq [V.str "add",V.str "less",V.str "add"] ((j:Nat):Int)=some (.str (dM (([6,7,6]:List Nat).getD j 0)))/\(([6,7,6]:List Nat).getD j 0=6∨([6,7,6]:List Nat).getD j 0=7):=by decide +kernel
 obtain⟨j,e,hj⟩:=Jp m (n:=3) (k:=3) (by decide) rfl
 rw [e]
 exact⟨_,key j hj⟩
structure Nx (c3 c4:Int) (ls:List aK) (ps:List PD):Prop where
 lok:∀l∈ls,l.ok
 pok:∀p∈ps,m6 p
 ln:ls.map (·.name)=(List.range ls.length).map (cY c3)
 pn:((List.range ps.length).map (cY c4)).Perm (ps.map (·.name))
 whole:Dk (ls.map (·.name)) ps
 l1:1<=ls.length
 l17:ls.length<=17
 p1:1<=ps.length
 p16:ps.length<=16
structure Ar (H:Hp) (L P:Addr) (ls:List aK) (ps:List PD):Prop where
 lanes:∃xs,H L=some (.lst xs)/\iT (uW H) xs ls
 parts:∃xs,H P=some (.lst xs)/\iT (sZ H) xs ps
theorem Ar.same {H H':Hp} {L P:Addr} {ls:List aK} {ps:List PD} (h:Ar H L P ls ps) (s:aM H H'):Ar H' L P ls ps:=by
 obtain⟨⟨xs,e1,a1⟩,⟨ys,e2,a2⟩⟩:=h
 exact⟨⟨xs,s _ _ e1,a1.imp fun _ _ h=>h.same s⟩,⟨ys,s _ _ e2,a2.imp fun _ _ h=>h.same s⟩⟩
theorem Mf {ps qs:List PD} (h:ps.Perm qs) {x y:Str} (c:Drawn.jn ps x y):Drawn.jn qs x y:=c.mono fun _ hp=>h.mem_iff.mp hp
theorem Dk.perm {ns:List Str} {ps qs:List PD} (w:Dk ns ps) (h:ps.Perm qs):Dk ns qs:=by
 obtain⟨y,hy⟩:=w.hang
 exact⟨w.nod,(h.symm.flatMap_right _).trans w.outs,(h.symm.flatMap_right _).trans w.ins,y,fun q hq=>by
  obtain⟨x,hx,c⟩:=hy q (h.mem_iff.mpr hq)
  exact⟨x,hx,Mf h c⟩⟩
theorem Qx {α:Type} (l:List α) (n:Nat):l.Perm (l.drop n ++ l.take n):=by
 have h:l.Perm (l.take n ++ l.drop n):=by rw [List.take_append_drop]
 exact h.trans List.perm_append_comm
theorem Mg (xs:List V) (g:Nat):qZ xs (some (g:Int)) none=xs.drop g:=by
 unfold qZ
 rw [HT.IV,HT.zK,<-List.length_drop,List.take_length]
 rcases Nat.le_total g xs.length with h | h
 ·rw [Nat.min_eq_left h]
 ·rw [Nat.min_eq_right h,List.drop_length,List.drop_eq_nil_of_le h]
theorem QR (xs:List V) (g:Nat):qZ xs none (some (g:Int))=xs.take g:=by
 unfold qZ
 rw [HT.IV,HT.zK,List.drop_zero,Nat.sub_zero]
 rcases Nat.le_total g xs.length with h | h
 ·rw [Nat.min_eq_left h]
 ·rw [Nat.min_eq_right h,List.take_length,List.take_of_length_le h]
theorem lZ.init {H:Hp} {S L P O:Addr} (c3 c4:Int) (nL:H L=none) (nP:upd H L (.lst []) P=none) (nO:upd (upd H L (.lst [])) P (.lst []) O=none) (nS:upd (upd (upd H L (.lst [])) P (.lst [])) O (.lst []) S=none):
  lZ ⟨S,L,P,O,c3,c4⟩ (upd (upd (upd (upd H L (.lst [])) P (.lst [])) O (.lst [])) S (.lst [.ref L,.ref P,.ref O,.int c3,.int c4])) [] [] []/\aM H (bA [L,P,O] (upd (upd (upd (upd H L (.lst [])) P (.lst [])) O (.lst [])) S (.lst [.ref L,.ref P,.ref O,.int c3,.int c4])))/\H P=none:=by
 have s1:=aB (o:=.lst []) nL
 have s2:=aB (o:=.lst []) nP
 have s3:=aB (o:=.lst []) nO
 have s4:=aB (o:=.lst [.ref L,.ref P,.ref O,.int c3,.int c4]) nS
 have e1:=s4 _ _ (s3 _ _ (s2 L (.lst []) au))
 have e2:=s4 _ _ (s3 P (.lst []) au)
 have e3:=s4 O (.lst []) au
 have n1:L≠P:=aF (au (H:=H) (o:=.lst [])) nP
 have n2:L≠O:=aF (s2 L (.lst []) au) nO
 have n3:P≠O:=aF (au (H:=upd H L (.lst [])) (o:=.lst [])) nO
 have m1:L≠S:=aF (s3 _ _ (s2 L (.lst []) au)) nS
 have m2:P≠S:=aF (s3 P (.lst []) au) nS
 have m3:O≠S:=aF (au (H:=upd (upd H L (.lst [])) P (.lst [])) (o:=.lst [])) nS
 refine⟨⟨dH au ?_,⟨[],e1,.nil⟩,⟨[],e2,.nil⟩,e3,⟨n1,n2,n3⟩,(fun _ h=>by cases h),(fun _ h=>by cases h),rfl,rfl⟩,fun b o e=>dH (s4 _ _ (s3 _ _ (s2 _ _ (s1 _ _ e)))) ?_,s1.free nP⟩
 ·show S∉[L,P,O]
  simp [m1.symm,m2.symm,m3.symm]
 ·have q1:=aF e nL
  have q2:=aF (s1 _ _ e) nP
  have q3:=aF (s2 _ _ (s1 _ _ e)) nO
  simp [q1,q2,q3]
noncomputable abbrev LET:Str:= "abcdefghijklmnopqrstuvwxyz"
noncomputable abbrev XN:Str:= "0123456789"
theorem Ln:LET.cps.toList=List.range' 97 26:=by decide +kernel
theorem Mm:XN.cps.toList=List.range' 48 10:=by decide +kernel
theorem Qz (c:Nat):(!(Builtin.Str.occurrences LET ⟨#[c]⟩ 0 LET.length 1).isEmpty)=low c:=by
 rw [StrLaws.found_one,Ln]
 unfold low
 rw [Bool.eq_iff_iff]
 simp [List.mem_range'_1]
 omega
theorem UT (c:Nat):(!(Builtin.Str.occurrences XN ⟨#[c]⟩ 0 XN.length 1).isEmpty)=Lf c:=by
 rw [StrLaws.found_one,Mm]
 unfold Lf
 rw [Bool.eq_iff_iff]
 simp [List.mem_range'_1]
 omega
structure WM (ms:List Str) (want:List (Str×V)) (fs:List (Str×V)):Prop where
 has:∀p∈want,fs.lookup p.1=some p.2
 no:∀m∈ms,fs.lookup m=none
theorem jD {H:Hp} {d:Addr} {kvs:List (Key×V)} {v:HO} (e:H d=some (.dK kvs)) {b:Addr} {u:HO} (h:H b=some u) (hu:∀ks,u≠.dK ks):upd H d v b=some u:=by
 rw [aG]
 ·exact h
 ·rintro rfl
  rw [e] at h
  exact hu _ (Option.some.inj h).symm
theorem fU {H:Hp} {d a:Addr} {kvs:List (Key×V)} {v:HO} {xs:List V} (e:H d=some (.dK kvs)) (h:fY K H a xs):fY K (upd H d v) a xs:=by
 rcases h with (h | ⟨o,h⟩) | h
 ·exact .inl (.inl (jD e h (by intro _ z;cases z)))
 ·exact .inl (.inr ⟨o,jD e h (by intro _ z;cases z)⟩)
 ·exact .inr h
theorem fG.chill {H:Hp} {d p:Addr} {kvs:List (Key×V)} {v:HO} {i:Nat} {nm:V} {ns is os:List V} (e:H d=some (.dK kvs)) (h:fG K t H p i nm ns is os):fG K t (upd H d v) p i nm ns is os:=by
 obtain⟨dx,tn,ti,to,h1,h2,h3,h4⟩:=h
 exact⟨dx,tn,ti,to,jD e h1 (by intro _ z;cases z),fU e h2,fU e h3,fU e h4⟩
theorem Mi {H:Hp} {d D:Addr} {kvs:List (Key×V)} {o:Obj} {u:HO} (e:H d=some (.dK kvs)) (hD:(upd H d (.frz o (.dK kvs))) D=none):upd (upd (upd H d (.frz o (.dK kvs))) D u) d (.dK kvs)=upd H D u:=by
 have n:D≠d:=by rintro rfl;rw [au] at hD;cases hD
 funext b
 by_cases h:b=d
 ·subst h
  rw [au,aG (Ne.symm n)]
  exact e.symm
 ·rw [aG h]
  unfold upd
  rw [if_neg h]
theorem Jw {H:Hp} {d D:Addr} {v:HO} (hD:(upd H d v) D=none):H D=none:=by
 by_cases h:D=d
 ·subst h;rw [au] at hD;cases hD
 ·rw [aG h] at hD;exact hD
theorem Fo {H:Hp} {a:Addr} {o:HO} (e:H a=some o):upd H a o=H:=by
 funext b
 unfold upd
 split
 ·rename_i h;rw [h];exact e.symm
 ·rfl
theorem ir {κ:Type} [DecidableEq κ] {kvs:List (κ×V)} {k:κ} (h:k∉kvs.map (·.1)):cC kvs k=none:=by
 induction kvs with
 | nil=>rfl
 | cons p r ih=>
  simp only [List.map_cons,List.mem_cons,not_or] at h
  rw [gj (Ne.symm h.1)]
  exact ih h.2
theorem f9 {κ:Type} [DecidableEq κ] {kvs:List (κ×V)} {k:κ} {v:V} (nd:(kvs.map (·.1)).Nodup) (h:(k,v)∈kvs):cC kvs k=some v:=by
 induction kvs with
 | nil=>cases h
 | cons p r ih=>
  simp only [List.map_cons,List.nodup_cons] at nd
  rcases List.mem_cons.mp h with h | h
  ·subst h
   exact gH rfl
  ·have:¬p.1=k:=fun z=>nd.1 (List.mem_map.mpr ⟨_,h,z.symm⟩)
   rw [gj this]
   exact ih nd.2 h
noncomputable def dg (f:PD->List Str) (ps:List PD):List (Key×V):=ps.flatMap fun p=>(f p).map fun l=>((Sum.inr l:Key),V.str p.name)
theorem u5 (f:PD->List Str) (ps:List PD):(dg f ps).map (·.1)=(ps.flatMap f).map (fun l=>(Sum.inr l:Key)):=by
 induction ps with
 | nil=>rfl
 | cons p r ih=>
  unfold dg at ih ⊢
  simp only [List.flatMap_cons,List.map_append,ih,List.map_map]
  rfl
theorem dh {l:List Str} (h:l.Nodup):(l.map (fun x=>(Sum.inr x:Key))).Nodup:=by
 induction l with
 | nil=>exact List.nodup_nil
 | cons a r ih=>
  simp only [List.map_cons,List.nodup_cons,List.mem_map] at h ⊢
  refine⟨?_,ih h.2⟩
  rintro⟨b,hb,e⟩
  cases e
  exact h.1 hb
theorem iR {f:PD->List Str} {ps:List PD} (nd:(ps.flatMap f).Nodup) {p:PD} (hp:p∈ps) {l:Str} (hl:l∈f p):cC (dg f ps) (Sum.inr l)=some (.str p.name):=
 f9 (by rw [u5];exact dh nd) (List.mem_flatMap.mpr ⟨p,hp,List.mem_map.mpr ⟨l,hl,rfl⟩⟩)
theorem Ba {f:PD->List Str} {ps:List PD} {l:Str} (h:l∉ps.flatMap f):cC (dg f ps) (Sum.inr l)=none:=ir (by
 rw [u5]
 intro z
 obtain⟨b,hb,e⟩:=List.mem_map.mp z
 cases e
 exact h hb)
theorem Lw (f:PD->List Str) (ps:List PD):(dg f ps).length=(ps.flatMap f).length:=by
 have:=congrArg List.length (u5 f ps)
 simpa using this
theorem BK (f:PD->List Str) (ps:List PD) (p:PD):dg f (ps ++ [p])=dg f ps ++ (f p).map fun l=>((Sum.inr l:Key),V.str p.name):=by
 unfold dg
 rw [List.flatMap_append]
 simp
theorem Ky {α:Type} {f g:α->Bool}:∀{l:List α},(∀a∈l,g a=true->f a=true)->(∃a∈l,f a=true/\g a=false)->(l.filter g).length <(l.filter f).length
 | [],_,h=>by obtain⟨a,ha,_⟩:=h;cases ha
 | x:: r,h,h2=>by
  have le:∀r:List α,(∀a∈r,g a=true->f a=true)->(r.filter g).length<=(r.filter f).length:=fun r=>by
   induction r with
   | nil=>intro _;exact Nat.le_refl _
   | cons y t ih=>
    intro q
    have:=ih fun a ha=>q a (List.mem_cons_of_mem _ ha)
    have q0:=q y List.mem_cons_self
    rw [List.filter_cons,List.filter_cons]
    cases hg:g y
    ·simp only [Bool.false_eq_true,if_false]
     split
     ·rw [List.length_cons];omega
     ·exact this
    ·rw [q0 hg]
     simp only [if_true,List.length_cons]
     omega
  obtain⟨a,ha,hf,hg⟩:=h2
  have hr:=fun a ha=>h a (List.mem_cons_of_mem x ha)
  rw [List.filter_cons,List.filter_cons]
  rcases List.mem_cons.mp ha with rfl | ha
  ·rw [hf,hg]
   have:=le r hr
   simp
   omega
  ·have ih:=Ky hr ⟨a,ha,hf,hg⟩
   have q0:=h x List.mem_cons_self
   cases hx:g x
   ·simp only [Bool.false_eq_true,if_false]
    split
    ·rw [List.length_cons];omega
    ·exact ih
   ·rw [q0 hx]
    simp only [if_true,List.length_cons]
    omega
noncomputable def gB (jk:List (Key×V)) (x:Str):Bool:=(cC jk (Sum.inr x)).isSome
noncomputable def mV (ps:List PD) (jk:List (Key×V)):Nat:=(ps.filter fun p=>!gB jk p.name).length
theorem Ir (jk:List (Key×V)) (x y:Str) (v:V):gB (putK jk (Sum.inr x) v) y=(decide (y=x) || gB jk y):=by
 unfold gB
 rw [Qc]
 by_cases h:y=x
 ·subst h;simp
 ·have:¬(Sum.inr y:Key)=Sum.inr x:=fun z=>h (Sum.inr.inj z)
  rw [if_neg this]
  simp [h]
theorem HN {ps:List PD} {jk jk':List (Key×V)} (h:∀x,gB jk x=true->gB jk' x=true) {p:PD} (hp:p∈ps) (h1:gB jk p.name=false) (h2:gB jk' p.name=true):mV ps jk' <mV ps jk:=by
 refine Ky (fun a _ q=>?_) ⟨p,hp,by simp [h1],by simp [h2]⟩
 cases hj:gB jk a.name
 ·rfl
 ·rw [h _ hj] at q;cases q
theorem MF {ps:List PD} (pm:(ps.flatMap (·.outs)).Perm (ps.flatMap (·.ins))) {l:Str} (h:l∈ps.flatMap (·.outs)):∃a∈ps,∃b∈ps,l∈a.outs/\l∈b.ins:=by
 obtain⟨a,ha,hl⟩:=List.mem_flatMap.mp h
 obtain⟨b,hb,hl2⟩:=List.mem_flatMap.mp (pm.mem_iff.mp h)
 exact⟨a,ha,b,hb,hl,hl2⟩
theorem UL {ps:List PD} (no:(ps.flatMap (·.outs)).Nodup) (ni:(ps.flatMap (·.ins)).Nodup) (pm:(ps.flatMap (·.outs)).Perm (ps.flatMap (·.ins))) {jk:List (Key×V)} (hang:∃y,∀q∈ps,∃x∈q.ins ++ q.outs,Drawn.jn ps x y)
  (cl:∀a∈ps,∀b∈ps,∀l,l∈a.outs->l∈b.ins->gB jk a.name=gB jk b.name) {p0:PD} (hp0:p0∈ps) (h0:gB jk p0.name=true):∀q∈ps,gB jk q.name=true:=by
 obtain⟨y,hy⟩:=hang
 refine Drawn.JM (J:=fun p=>gB jk p.name=true) (fun l p q hp hq hlp hlq hJ=>?_) hy hp0 h0
 have same:∀{f:PD->List Str},(ps.flatMap f).Nodup->∀{a b:PD},a∈ps->b∈ps->l∈f a->l∈f b->a.name=b.name:=fun {f} nd {a b} ha hb h1 h2=>by
  obtain⟨i,hi,ei⟩:=List.mem_iff_getElem.mp ha
  obtain⟨j,hj,ej⟩:=List.mem_iff_getElem.mp hb
  have:=Drawn.Mw f nd (i:=i) (j:=j) (p:=a) (q:=b) (l:=l) (by rw [List.getElem?_eq_getElem hi,ei]) (by rw [List.getElem?_eq_getElem hj,ej]) h1 h2
  subst this
  rw [<-ei,<-ej]
 have hl:l∈ps.flatMap (·.outs):=by
  rcases List.mem_append.mp hlp with h | h
  ·exact pm.mem_iff.mpr (List.mem_flatMap.mpr ⟨p,hp,h⟩)
  ·exact List.mem_flatMap.mpr ⟨p,hp,h⟩
 obtain⟨a,ha,b,hb,la,lb⟩:=MF pm hl
 have e:=cl a ha b hb l la lb
 have np:p.name=a.name∨p.name=b.name:=(List.mem_append.mp hlp).elim (fun h=>.inr (same ni hp hb h lb)) fun h=>.inl (same no hp ha h la)
 have nq:q.name=a.name∨q.name=b.name:=(List.mem_append.mp hlq).elim (fun h=>.inr (same ni hq hb h lb)) fun h=>.inl (same no hq ha h la)
 show gB jk q.name=true
 change gB jk p.name=true at hJ
 rcases np with np | np <;> rcases nq with nq | nq <;> rw [np] at hJ <;> rw [nq]
 ·exact hJ
 ·rw [<-e];exact hJ
 ·rw [e];exact hJ
 ·exact hJ
theorem CW {z:Str} (h:nameB z=true):z.length<=100:=by
 unfold nameB at h
 rw [<-mq]
 split at h
 ·simp_all
 ·rename_i e
  rw [e]
  simp only [Bool.and_eq_true,decide_eq_true_eq] at h
  rw [List.length_cons]
  omega
structure vh (ls:List aK) (ps:List PD):Prop where
 lok:∀l∈ls,1<=l.room/\l.room<=199/\(l.first.length:Int)<=l.room/\∀v∈l.first,0<=v/\v <1000000000
 pok:∀p∈ps,m6 p
 lnm:∀l∈ls,nameB l.name=true
 pnm:∀p∈ps,nameB p.name=true
 pnd:(ps.map (·.name)).Nodup
 whole:Dk (ls.map (·.name)) ps
 l1:1<=ls.length
 l24:ls.length<=24
 p1:1<=ps.length
 p16:ps.length<=16
theorem Fp {c:Int} {n:Nat} (hn:n<=26) {x:Str} (h:x∈(List.range n).map (cY c)):∃k,k <n/\x=cY c k:=by
 obtain⟨k,hk,rfl⟩:=List.mem_map.mp h
 exact⟨k,List.mem_range.mp hk,rfl⟩
theorem Nx.fit {c3 c4:Int} {ls:List aK} {ps:List PD} (h:Nx c3 c4 ls ps):vh ls ps:=by
 have a:=h.l17
 have b:=h.p16
 refine⟨fun l hl=>?_,h.pok,fun l hl=>?_,fun p hp=>?_,?_,h.whole,h.l1,by omega,h.p1,h.p16⟩
 ·obtain⟨x1,x2,x3,x4⟩:=h.lok l hl
  exact⟨x1,by omega,x3,x4⟩
 ·obtain⟨k,hk,e⟩:=Fp (c:=c3) (n:=ls.length) (by omega) (by rw [<-h.ln];exact List.mem_map.mpr ⟨l,hl,rfl⟩)
  rw [e]
  exact KH _ (by omega)
 ·obtain⟨k,hk,e⟩:=Fp (c:=c4) (n:=ps.length) (by omega) (h.pn.mem_iff.mpr (List.mem_map.mpr ⟨p,hp,rfl⟩))
  rw [e]
  exact KH _ (by omega)
 ·exact h.pn.nodup_iff.mp (yE _ (by omega))
theorem Nx.lane20 {c3 c4:Int} {ls:List aK} {ps:List PD} (h:Nx c3 c4 ls ps):cY c3 20∉ls.map (·.name):=fun z=>by
 have a:=h.l17
 rw [h.ln] at z
 obtain⟨k,hk,e⟩:=Fp (by omega) z
 have:=Ij _ (by omega) (by omega) e
 omega
noncomputable def fB (ls:List aK):List (Key×V):=ls.map fun l=>((Sum.inr l.name:Key),V.int l.room)
noncomputable def bN (FL:List (aK×Addr)):List (Key×V):=FL.map fun q=>((Sum.inr q.1.name:Key),V.ref q.2)
noncomputable def eG (PL:List (PD×Addr)):List (Key×V):=PL.map fun q=>((Sum.inr q.1.name:Key),V.ref q.2)
theorem rK (ls:List aK):(fB ls).map (·.1)=(ls.map (·.name)).map (fun x=>(Sum.inr x:Key)):=by unfold fB;rw [List.map_map,List.map_map];rfl
theorem qL (FL:List (aK×Addr)):(bN FL).map (·.1)=((FL.map (·.1)).map (·.name)).map (fun x=>(Sum.inr x:Key)):=by unfold bN;rw [List.map_map,List.map_map,List.map_map];rfl
theorem yj (PL:List (PD×Addr)):(eG PL).map (·.1)=((PL.map (·.1)).map (·.name)).map (fun x=>(Sum.inr x:Key)):=by unfold eG;rw [List.map_map,List.map_map,List.map_map];rfl
structure uq (K:PySem.W.Frag) (t:nj) (H:Hp) (n:Addr) (ls:List aK) (ps:List PD) (dx:Addr) (fs:List (Str×V)) (R F Pd G Tk:Addr) (FL:List (aK×Addr)) (PL:List (PD×Addr)):Prop where
 obj:H n=some (.ins t.dN dx fs)
 fl:WM ["lane_names", "part_names", "names_of_kind", "gives", "need_lane_name", "first_of", "part_of", "__init__"] [("rooms",.ref R),("firsts",.ref F),("parts",.ref Pd),("givers",.ref G),("takers",.ref Tk)] fs
 rooms:H R=some (.dK (fB ls))
 firsts:H F=some (.dK (bN FL))
 parts:H Pd=some (.dK (eG PL))
 givers:H G=some (.dK (dg (·.outs) ps))
 takers:H Tk=some (.dK (dg (·.ins) ps))
 fls:FL.map (·.1)=ls
 pls:PL.map (·.1)=ps
 tups:∀q∈FL,fY K H q.2 (q.1.first.map V.int)
 pats:∀q∈PL,fG K t H q.2 q.1.kind (.str q.1.name) (q.1.nums.map V.int) (q.1.ins.map V.str) (q.1.outs.map V.str)
 fit:vh ls ps
 neRF:R≠F
inductive nC (K:PySem.W.Frag) (t:nj) (H:Hp) (n:Addr) (ls:List aK) (ps:List PD):Prop where
 | mk:∀dx fs R F Pd G Tk FL PL,uq K t H n ls ps dx fs R F Pd G Tk FL PL->nC K t H n ls ps
section
variable {H H':Hp} {n dx R F Pd G Tk:Addr} {ls:List aK} {ps:List PD} {fs:List (Str×V)} {FL:List (aK×Addr)} {PL:List (PD×Addr)}
theorem uq.same (N:uq K t H n ls ps dx fs R F Pd G Tk FL PL) (s:aM H H'):uq K t H' n ls ps dx fs R F Pd G Tk FL PL:=
 ⟨s _ _ N.obj,N.fl,s _ _ N.rooms,s _ _ N.firsts,s _ _ N.parts,s _ _ N.givers,s _ _ N.takers,N.fls,N.pls,fun q hq=>s.seqT (N.tups q hq),fun q hq=>(N.pats q hq).same s,N.fit,N.neRF⟩
theorem nC.same (N:nC K t H n ls ps) (s:aM H H'):nC K t H' n ls ps:=by
 obtain⟨dx,fs,R,F,Pd,G,Tk,FL,PL,N⟩:=N
 exact⟨dx,fs,R,F,Pd,G,Tk,FL,PL,N.same s⟩
theorem uq.s (N:uq K t H n ls ps dx fs R F Pd G Tk FL PL):nC K t H n ls ps:=⟨dx,fs,R,F,Pd,G,Tk,FL,PL,N⟩
theorem uq.room (N:uq K t H n ls ps dx fs R F Pd G Tk FL PL) {l:aK} (hl:l∈ls):cC (fB ls) (Sum.inr l.name)=some (.int l.room):=
 f9 (by rw [rK];exact dh N.fit.whole.nod) (List.mem_map.mpr ⟨l,hl,rfl⟩)
theorem uq.firstV (N:uq K t H n ls ps dx fs R F Pd G Tk FL PL) {q:aK×Addr} (hq:q∈FL):cC (bN FL) (Sum.inr q.1.name)=some (.ref q.2):=
 f9 (by rw [qL,N.fls];exact dh N.fit.whole.nod) (List.mem_map.mpr ⟨q,hq,rfl⟩)
theorem uq.partV (N:uq K t H n ls ps dx fs R F Pd G Tk FL PL) {q:PD×Addr} (hq:q∈PL):cC (eG PL) (Sum.inr q.1.name)=some (.ref q.2):=
 f9 (by rw [yj,N.pls];exact dh N.fit.pnd) (List.mem_map.mpr ⟨q,hq,rfl⟩)
theorem uq.ono (N:uq K t H n ls ps dx fs R F Pd G Tk FL PL):(ps.flatMap (·.outs)).Nodup:=N.fit.whole.outs.nodup_iff.mpr N.fit.whole.nod
theorem uq.ini (N:uq K t H n ls ps dx fs R F Pd G Tk FL PL):(ps.flatMap (·.ins)).Nodup:=N.fit.whole.ins.nodup_iff.mpr N.fit.whole.nod
end
theorem GK {α:Type} {f:α->Str} {xs:List α} {x:Str}:inV (.str x) (xs.map fun p=>V.str (f p))=decide (x∈xs.map f):=by
 rw [Bool.eq_iff_iff]
 unfold inV
 rw [List.any_eq_true,decide_eq_true_eq]
 constructor
 ·rintro⟨v,hv,e⟩
  obtain⟨p,hp,rfl⟩:=List.mem_map.mp hv
  exact List.mem_map.mpr ⟨p,hp,by simpa [Ma] using e⟩
 ·intro h
  obtain⟨p,hp,rfl⟩:=List.mem_map.mp h
  exact⟨.str (f p),List.mem_map.mpr ⟨p,hp,rfl⟩,by simp [Ma]⟩
noncomputable def lC (ps:List PD) (x:Str):List V:=(ps.filter fun p=>decide (dM p.kind=x)).map fun p=>V.str p.name
theorem Li (ps:List PD) (x:Str) (p:PD):lC (ps ++ [p]) x=if dM p.kind=x then lC ps x ++ [V.str p.name] else lC ps x:=by
 unfold lC
 rw [List.filter_append,List.map_append]
 by_cases h:dM p.kind=x
 ·rw [if_pos h];simp [h]
 ·rw [if_neg h];simp [h]
theorem GX (ps:List PD) (x:Str):(lC ps x).length<=ps.length:=by
 unfold lC
 rw [lM]
 exact List.length_filter_le _ _
noncomputable def XX (p:PD):Bool:=decide (dM p.kind= "choose") || decide (dM p.kind= "split")
noncomputable def oddN (ps:List PD):V:=match ps.find? XX with
 | some p=>.str p.name
 | none=>.non
inductive Hz (K:PySem.W.Frag) (H:Hp) (v:V) (l:aK):Prop where
 | mk:∀q f,v=.ref q->H q=some (.tup [.str l.name,.int l.room,.ref f])->fY K H f (l.first.map V.int)->Hz K H v l
inductive O9 (K:PySem.W.Frag) (H:Hp) (v:V) (p:PD):Prop where
 | mk:∀q a1 a2 a3,v=.ref q->H q=some (.tup [.str (dM p.kind),.str p.name,.ref a1,.ref a2,.ref a3])->fY K H a1 (p.nums.map V.int)->fY K H a2 (p.ins.map V.str)->fY K H a3 (p.outs.map V.str)->O9 K H v p
theorem Hz.same {H H':Hp} {v:V} {l:aK} (h:Hz K H v l) (s:aM H H'):Hz K H' v l:=by
 obtain⟨q,f,e,h1,h2⟩:=h
 exact⟨q,f,e,s _ _ h1,s.seqT h2⟩
theorem O9.same {H H':Hp} {v:V} {p:PD} (h:O9 K H v p) (s:aM H H'):O9 K H' v p:=by
 obtain⟨q,a1,a2,a3,e,h1,h2,h3,h4⟩:=h
 exact⟨q,a1,a2,a3,e,s _ _ h1,s.seqT h2,s.seqT h3,s.seqT h4⟩
structure Ja (K:PySem.W.Frag) (H:Hp) (T a b:Addr) (ls:List aK) (ps:List PD):Prop where
 tup:H T=some (.tup [.ref a,.ref b])
 lanes:∃xs,H a=some (.lst xs)/\iT (Hz K H) xs ls
 parts:∃xs,H b=some (.lst xs)/\iT (O9 K H) xs ps
theorem Ja.same {H H':Hp} {T a b:Addr} {ls:List aK} {ps:List PD} (h:Ja K H T a b ls ps) (s:aM H H'):Ja K H' T a b ls ps:=by
 obtain⟨h1,⟨xs,e1,a1⟩,⟨ys,e2,a2⟩⟩:=h
 exact⟨s _ _ h1,⟨xs,s _ _ e1,a1.imp fun _ _ h=>h.same s⟩,⟨ys,s _ _ e2,a2.imp fun _ _ h=>h.same s⟩⟩
structure Tr (H:Hp) (f:Addr) (L:List (Addr×HO)) (Hk:Hp):Prop where
 but:lq f H Hk
 all:∀p∈L,Hk p.1=some p.2
 fre:∀p∈L,p.1=f∨H p.1=none
 nod:(L.map Prod.fst).Nodup
 obj:∃o,(f,o)∈L
theorem Tr.free {H Hk:Hp} {f x:Addr} {L:List (Addr×HO)} (T:Tr H f L Hk) (nx:Hk x=none):H x=none:=by
 cases e:H x with
 | none=>rfl
 | some o=>
  by_cases h:x=f
  ·obtain⟨u,hu⟩:=T.obj
   have:=T.all _ hu
   rw [h] at nx
   rw [nx] at this
   cases this
  ·rw [T.but x o h e] at nx
   cases nx
theorem Tr.new {H Hk:Hp} {f x:Addr} {L:List (Addr×HO)} {o:HO} (T:Tr H f L Hk) (nx:Hk x=none):Tr H f (L ++ [(x,o)]) (upd Hk x o):=by
 have hne:∀p∈L,p.1≠x:=fun p hp z=>by have:=T.all p hp;rw [z,nx] at this;cases this
 have hx:=T.free nx
 refine⟨fun b u n e=>by rw [aG (aF e hx)];exact T.but b u n e,fun p hp=>?_,fun p hp=>?_,?_,?_⟩
 ·rcases List.mem_append.mp hp with h | h
  ·rw [aG (hne p h)];exact T.all p h
  ·rw [List.mem_singleton] at h;subst h;exact au
 ·rcases List.mem_append.mp hp with h | h
  ·exact T.fre p h
  ·rw [List.mem_singleton] at h;subst h;exact .inr hx
 ·rw [List.map_append,List.nodup_append]
  refine⟨T.nod,by simp,fun a ha b hb=>?_⟩
  obtain⟨p,hp,rfl⟩:=List.mem_map.mp ha
  simp at hb
  subst hb
  exact hne p hp
 ·obtain⟨u,hu⟩:=T.obj
  exact⟨u,List.mem_append.mpr (.inl hu)⟩
theorem Tr.same {H Hk Hk':Hp} {f:Addr} {L:List (Addr×HO)} (T:Tr H f L Hk) (s:aM Hk Hk'):Tr H f L Hk':=
 ⟨fun b u n e=>s _ _ (T.but b u n e),fun p hp=>s _ _ (T.all p hp),T.fre,T.nod,T.obj⟩
theorem Tr.put {H Hk:Hp} {f x:Addr} {o o':HO} {L1 L2:List (Addr×HO)} (T:Tr H f (L1 ++ (x,o):: L2) Hk):Tr H f (L1 ++ (x,o'):: L2) (upd Hk x o'):=by
 have hx:x=f∨H x=none:=T.fre (x,o) (by simp)
 have nd:=T.nod
 rw [List.map_append,List.map_cons,List.nodup_append] at nd
 obtain⟨n1,n2,n3⟩:=nd
 rw [List.nodup_cons] at n2
 refine⟨fun b u n e=>?_,fun p hp=>?_,fun p hp=>?_,?_,?_⟩
 ·have:b≠x:=by
   rcases hx with rfl | hx
   ·exact n
   ·exact aF e hx
  rw [aG this];exact T.but b u n e
 ·rcases List.mem_append.mp hp with h | h
  ·have:p.1≠x:=n3 p.1 (List.mem_map.mpr ⟨p,h,rfl⟩) x (by simp)
   rw [aG this];exact T.all p (by simp [h])
  ·rcases List.mem_cons.mp h with rfl | h
   ·exact au
   ·have:p.1≠x:=fun z=>n2.1 (by rw [<-z];exact List.mem_map.mpr ⟨p,h,rfl⟩)
    rw [aG this];exact T.all p (by simp [h])
 ·rcases List.mem_append.mp hp with h | h
  ·exact T.fre p (by simp [h])
  ·rcases List.mem_cons.mp h with rfl | h
   ·exact hx
   ·exact T.fre p (by simp [h])
 ·have:=T.nod
  rw [List.map_append,List.map_cons] at this ⊢
  exact this
 ·obtain⟨u,hu⟩:=T.obj
  rcases List.mem_append.mp hu with h | h
  ·exact⟨u,by simp [h]⟩
  ·rcases List.mem_cons.mp h with h | h
   ·cases h;exact⟨o',by simp⟩
   ·exact⟨u,by simp [h]⟩
theorem Tr.start {H:Hp} {f:Addr} {o:HO} (e:H f=some o):Tr H f [(f,o)] H:=⟨lq.refl _,fun p hp=>by rw [List.mem_singleton] at hp;subst hp;exact e,fun p hp=>by rw [List.mem_singleton] at hp;subst hp;exact .inl rfl,by simp,o,by simp⟩
inductive R0 (K:PySem.W.Frag) (H:Hp) (v:V) (l:aK):Prop where
 | mk:∀q f,v=.ref q->H q=some (.tup [.str l.name,.int l.room,.ref f])->wJ K H f (l.first.map V.int)->R0 K H v l
inductive Vv (K:PySem.W.Frag) (H:Hp) (v:V) (p:PD):Prop where
 | mk:∀q a1 a2 a3,v=.ref q->H q=some (.tup [.str (dM p.kind),.str p.name,.ref a1,.ref a2,.ref a3])->wJ K H a1 (p.nums.map V.int)->wJ K H a2 (p.ins.map V.str)->wJ K H a3 (p.outs.map V.str)->Vv K H v p
structure Hand (K:PySem.W.Frag) (H:Hp) (Ll Lp:Addr) (ls:List aK) (ps:List PD):Prop where
 ll:∃xs,bT K H Ll xs/\iT (R0 K H) xs ls
 lp:∃xs,bT K H Lp xs/\iT (Vv K H) xs ps
theorem p7 {α:Type} {f:α->Str} {xs:List α} (nd:(xs.map f).Nodup) {j:Nat} {x:α} (h:xs[j]?=some x):f x∉(xs.take j).map f:=fun hm=>by
 have hj:=(List.getElem?_eq_some_iff.mp h).1
 have e:xs[j]=x:=(List.getElem?_eq_some_iff.mp h).2
 rw [List.map_take] at hm
 obtain⟨i,hi,ei⟩:=List.mem_iff_getElem.mp hm
 rw [List.length_take,lM] at hi
 rw [List.getElem_take] at ei
 have e2:(xs.map f)[j]'(by rw [lM];exact hj)=f x:=by rw [List.getElem_map,e]
 have:=(List.getElem_inj nd).mp (ei.trans e2.symm)
 omega
theorem J2 {f:PD->List Str} {ps:List PD} (nd:(ps.flatMap f).Nodup) {j:Nat} {p:PD} (h:ps[j]?=some p):(f p).Nodup/\∀z∈f p,z∉(ps.take j).flatMap f:=by
 have hj:=(List.getElem?_eq_some_iff.mp h).1
 have e:ps[j]=p:=(List.getElem?_eq_some_iff.mp h).2
 have e2:ps=ps.take j ++ p:: ps.drop (j+1):=by rw [<-e,<-List.drop_eq_getElem_cons hj,List.take_append_drop]
 rw [e2,List.flatMap_append,List.flatMap_cons,List.nodup_append] at nd
 obtain⟨n1,n2,n3⟩:=nd
 rw [List.nodup_append] at n2
 exact⟨n2.1,fun z hz hm=>n3 z hm z (List.mem_append.mpr (.inl hz)) rfl⟩
structure qI (K:PySem.W.Frag) (t:nj) (H:Hp) (f n E G Kp D Rw:Addr):Prop where
 ex:∃dx fs,H f=some (.ins t.cj dx fs)/\WM ["holds", "held_now", "gone_by", "row_left", "head", "heads", "lacking", "row_ended", "deed", "do"] [("net",.ref n),("ever",.ref E),("gone",.ref G),("kept",.ref Kp),("done",.ref D),("rows",.ref Rw)] fs
theorem qI.same {H H':Hp} {f n E G Kp D Rw:Addr} (h:qI K t H f n E G Kp D Rw) (s:aM H H'):qI K t H' f n E G Kp D Rw:=by
 obtain⟨dx,fs,h1,h2⟩:=h
 exact⟨dx,fs,s _ _ h1,h2⟩
noncomputable def eO (i:Nat) (xs:List Str) (hs:List V):V:=match (places i hs).find? (jN hs) with
 | some q=>((xs[q]?).map V.str).getD .non
 | none=>.non
theorem wz {H:Hp}:∀{rs:List Addr} {vss:List (List V)} {j:Nat} {r:Addr},cL H rs vss->rs[j]?=some r->∃vs,vss[j]?=some vs/\H r=some (.tup vs)
 | _,_,_,_,.nil,e=>by simp at e
 | _,_,0,_,.cons h _,e=>by simp at e;subst e;exact⟨_,rfl,h⟩
 | _,_,j+1,_,.cons _ t,e=>by
  obtain⟨vs,h1,h2⟩:=wz (j:=j) t (by simpa using e)
  exact⟨vs,by simpa using h1,h2⟩
theorem places_len {i:Nat} {hs:List V} (h:qp i hs):(places i hs).length<=3:=by
 have h3:=yo i
 have h1:=h.1
 unfold places
 by_cases hi:i=9
 ·rw [if_pos hi]
  split <;> simp
 ·rw [if_neg hi,List.length_range]
  omega
theorem Tr.got {H Hk Hk':Hp} {f x:Addr} {L:List (Addr×HO)} {o:HO} (T:Tr H f L Hk) (s:aM Hk Hk') (nx:Hk x=none) (ex:Hk' x=some o):Tr H f (L ++ [(x,o)]) Hk':=by
 have T':=T.same s
 have hx:=T.free nx
 refine⟨T'.but,fun p hp=>?_,fun p hp=>?_,?_,?_⟩
 ·rcases List.mem_append.mp hp with h | h
  ·exact T'.all p h
  ·rw [List.mem_singleton] at h;subst h;exact ex
 ·rcases List.mem_append.mp hp with h | h
  ·exact T.fre p h
  ·rw [List.mem_singleton] at h;subst h;exact .inr hx
 ·rw [List.map_append,List.nodup_append]
  refine⟨T.nod,by simp,fun a ha b hb z=>?_⟩
  obtain⟨p,hp,rfl⟩:=List.mem_map.mp ha
  simp at hb
  have:=T.all p hp
  rw [z,hb,nx] at this
  cases this
 ·obtain⟨u,hu⟩:=T.obj
  exact⟨u,List.mem_append.mpr (.inl hu)⟩
theorem Du {α:Type} {a b c d e f g x:α} {M:List α} (h:x∈M):x∈a:: b:: c:: d:: e:: f:: g:: M:=by simp [h]
theorem Tr.perm {H Hk:Hp} {f:Addr} {L L':List (Addr×HO)} (T:Tr H f L Hk) (h:L.Perm L'):Tr H f L' Hk:=
 ⟨T.but,fun p hp=>T.all p (h.mem_iff.mpr hp),fun p hp=>T.fre p (h.mem_iff.mpr hp),(h.map _).nodup_iff.mp T.nod,by obtain⟨o,ho⟩:=T.obj;exact⟨o,h.mem_iff.mp ho⟩⟩
theorem Tr.sub {H Hk:Hp} {f:Addr} {L L':List (Addr×HO)} (T:Tr H f L Hk) (h:L'.Sublist L) (hf:∃o,(f,o)∈L'):Tr H f L' Hk:=
 ⟨T.but,fun p hp=>T.all p (h.subset hp),fun p hp=>T.fre p (h.subset hp),T.nod.sublist (h.map _),hf⟩
noncomputable def jT (EL:List (aK×Addr)):List (Addr×HO):=EL.map fun q=>(q.2,HO.lst (q.1.first.map V.int))
noncomputable def cG (g:Str->Nat) (ls:List aK):List (Key×V):=ls.map fun l=>((Sum.inr l.name:Key),V.int (g l.name:Nat))
noncomputable def bJ (k:Str->Int) (ps:List PD):List (Key×V):=ps.map fun p=>((Sum.inr p.name:Key),V.int (k p.name))
theorem u0 (g:Str->Nat) (ls:List aK):(cG g ls).map (·.1)=(ls.map (·.name)).map (fun x=>(Sum.inr x:Key)):=by unfold cG;rw [List.map_map,List.map_map];rfl
theorem qy (k:Str->Int) (ps:List PD):(bJ k ps).map (·.1)=(ps.map (·.name)).map (fun x=>(Sum.inr x:Key)):=by unfold bJ;rw [List.map_map,List.map_map];rfl
noncomputable def fC (ps:List PD) (x:Str):Int:=((ps.find? fun p=>decide (p.name=x)).map fun p=>if p.kind=5 then p.nums.headD 0 else 0).getD 0
noncomputable def Eu (p:PD):Int:=if p.kind=5 then p.nums.headD 0 else 0
theorem find_name {α:Type} {f:α->Str}:∀{ls:List α} (_:(ls.map f).Nodup) {l:α} (_:l∈ls),ls.find? (fun x=>decide (f x=f l))=some l
 | a:: r,nd,l,hl=>by
  rw [List.map_cons,List.nodup_cons] at nd
  rcases List.mem_cons.mp hl with rfl | h
  ·rw [List.find?_cons_of_pos (by simp)]
  ·have:¬f a=f l:=fun z=>nd.1 (by rw [z];exact List.mem_map.mpr ⟨l,h,rfl⟩)
   rw [List.find?_cons_of_neg (by simp [this])]
   exact find_name nd.2 h
theorem vh.inL {ls:List aK} {ps:List PD} (F:vh ls ps) {p:PD} (hp:p∈ps) {x:Str} (hx:x∈p.ins ++ p.outs):∃l∈ls,l.name=x:=by
 rcases List.mem_append.mp hx with h | h
 ·exact List.mem_map.mp (F.whole.ins.mem_iff.mp (List.mem_flatMap.mpr ⟨p,hp,h⟩))
 ·exact List.mem_map.mp (F.whole.outs.mem_iff.mp (List.mem_flatMap.mpr ⟨p,hp,h⟩))
theorem qx {α β:Type} {f:α->β}:∀{l:List α},(l.map f).Nodup->∀{a b:α},a∈l->b∈l->f a=f b->a=b
 | x:: r,nd,a,b,ha,hb,e=>by
  rw [List.map_cons,List.nodup_cons] at nd
  rcases List.mem_cons.mp ha with h1 | h1
  ·rcases List.mem_cons.mp hb with h2 | h2
   ·rw [h1,h2]
   ·exact absurd (List.mem_map.mpr ⟨b,h2,by rw [<-e,h1]⟩) nd.1
  ·rcases List.mem_cons.mp hb with h2 | h2
   ·exact absurd (List.mem_map.mpr ⟨a,h1,by rw [e,h2]⟩) nd.1
   ·exact qx nd.2 h1 h2 e
noncomputable def Hj:V->Int
 | .int n=>n
 | _=>0
structure FS where
 ev:Str->List Int
 g:Str->Nat
 k:Str->Int
 d:Str->Nat
 r:Str->List Int
structure xg where
 (f n E G Kp D Rw:Addr)
 (ea ra:Str->Addr)
noncomputable def pM (ps:List PD):List PD:=ps.filter fun p=>decide (p.kind=0)
noncomputable def qQ (ea:Str->Addr) (ls:List aK):List (Key×V):=ls.map fun l=>((Sum.inr l.name:Key),V.ref (ea l.name))
noncomputable def IW (ra:Str->Addr) (ps:List PD):List (Key×V):=(pM ps).map fun p=>((Sum.inr p.name:Key),V.ref (ra p.name))
noncomputable def xg.cells (A:xg) (ls:List aK) (ps:List PD):List Addr:=A.E:: A.G:: A.Kp:: A.D:: A.Rw:: (ls.map (fun l=>A.ea l.name) ++ (pM ps).map (fun p=>A.ra p.name))
structure jK (K:PySem.W.Frag) (t:nj) (H:Hp) (A:xg) (ls:List aK) (ps:List PD) (S:FS):Prop where
 at':qI K t H A.f A.n A.E A.G A.Kp A.D A.Rw
 ever:H A.E=some (.dK (qQ A.ea ls))
 lists:∀l∈ls,H (A.ea l.name)=some (.lst ((S.ev l.name).map V.int))
 gone:H A.G=some (.dK (cG S.g ls))
 kept:H A.Kp=some (.dK (bJ S.k ps))
 done:H A.D=some (.dK (bJ (fun x=>(S.d x:Int)) ps))
 rows:H A.Rw=some (.dK (IW A.ra ps))
 rlst:∀p∈ps,p.kind=0->H (A.ra p.name)=some (.lst ((S.r p.name).map V.int))
 nod:(A.cells ls ps).Nodup
theorem jK.same {H H':Hp} {A:xg} {ls:List aK} {ps:List PD} {S:FS} (h:jK K t H A ls ps S) (s:aM H H'):jK K t H' A ls ps S:=
 ⟨h.at'.same s,s _ _ h.ever,fun l hl=>s _ _ (h.lists l hl),s _ _ h.gone,s _ _ h.kept,s _ _ h.done,s _ _ h.rows,fun p hp h0=>s _ _ (h.rlst p hp h0),h.nod⟩
structure Mt (b:Nat) (ls:List aK) (ps:List PD) (S:FS):Prop where
 vb:∀l∈ls,∀v∈S.ev l.name,0<=v/\v <1000000000
 rb:∀p∈ps,p.kind=0->∀v∈S.r p.name,0<=v/\v <1000000000
 dl:∀p∈ps,p.kind=0->S.d p.name<=(S.r p.name).length
 len:∀l∈ls,(S.ev l.name).length<=b
 rl:∀p∈ps,p.kind=0->(S.r p.name).length<=300
theorem N7 (ea:Str->Addr) (ls:List aK):(qQ ea ls).map (·.1)=(ls.map (·.name)).map (fun x=>(Sum.inr x:Key)):=by unfold qQ;rw [List.map_map,List.map_map];rfl
theorem oJ {ea:Str->Addr} {ls:List aK} (nd:(ls.map (·.name)).Nodup) {l:aK} (hl:l∈ls):cC (qQ ea ls) (Sum.inr l.name)=some (.ref (ea l.name)):=
 f9 (by rw [N7];exact dh nd) (List.mem_map.mpr ⟨l,hl,rfl⟩)
theorem pO {g:Str->Nat} {ls:List aK} (nd:(ls.map (·.name)).Nodup) {l:aK} (hl:l∈ls):cC (cG g ls) (Sum.inr l.name)=some (.int (g l.name:Nat)):=
 f9 (by rw [u0];exact dh nd) (List.mem_map.mpr ⟨l,hl,rfl⟩)
theorem iQ {k:Str->Int} {ps:List PD} (nd:(ps.map (·.name)).Nodup) {p:PD} (hp:p∈ps):cC (bJ k ps) (Sum.inr p.name)=some (.int (k p.name)):=
 f9 (by rw [qy];exact dh nd) (List.mem_map.mpr ⟨p,hp,rfl⟩)
theorem Dp (ra:Str->Addr) (ps:List PD):(IW ra ps).map (·.1)=((pM ps).map (·.name)).map (fun x=>(Sum.inr x:Key)):=by unfold IW;rw [List.map_map,List.map_map];rfl
theorem Rk {ps:List PD} (nd:(ps.map (·.name)).Nodup):((pM ps).map (·.name)).Nodup:=nd.sublist (List.filter_sublist.map _)
theorem Am {ra:Str->Addr} {ps:List PD} (nd:(ps.map (·.name)).Nodup) {p:PD} (hp:p∈ps) (h0:p.kind=0):cC (IW ra ps) (Sum.inr p.name)=some (.ref (ra p.name)):=
 f9 (by rw [Dp];exact dh (Rk nd)) (List.mem_map.mpr ⟨p,List.mem_filter.mpr ⟨hp,by simp [h0]⟩,rfl⟩)
theorem J9 {ra:Str->Addr} {ps:List PD} (nd:(ps.map (·.name)).Nodup) {p:PD} (hp:p∈ps) (h0:p.kind≠0):cC (IW ra ps) (Sum.inr p.name)=none:=by
 refine ir ?_
 rw [Dp]
 intro z
 obtain⟨b,hb,e⟩:=List.mem_map.mp z
 cases e
 obtain⟨p',hp',en⟩:=List.mem_map.mp hb
 have hf:=List.mem_filter.mp hp'
 have a1:=find_name nd hf.1
 have a2:=find_name nd hp
 rw [en] at a1
 rw [a1] at a2
 cases a2
 exact h0 (by simpa using hf.2)
noncomputable def gQ (S:FS) (x:Str):V:=(((S.ev x)[S.g x]?).map V.int).getD .non
noncomputable def aV (S:FS) (p:PD):List V:=p.ins.map (gQ S)
structure jc where
 tk:List Str
 gv:List (Str×Int)
 kv:Int
noncomputable def strAt (xs:List Str) (q:Nat):Str:=(xs[q]?).getD Str.empty
noncomputable def sJ (S:FS) (p:PD):List Int:=if p.kind=0 then((S.r p.name)[S.d p.name]?).toList else(places p.kind (aV S p)).map fun q=>Hj (((aV S p)[q]?).getD .non)
noncomputable def sy (S:FS) (p:PD):Bool:=decide (p.kind=0) && decide (S.d p.name=(S.r p.name).length)
noncomputable def bW (S:FS) (p:PD):Option jc:=if eO p.kind p.ins (aV S p)≠.non then none else if sy S p=true then none else
 some ⟨(places p.kind (aV S p)).map (strAt p.ins),(cD p.kind p.nums (sJ S p) (S.k p.name)).map fun pv=>(strAt p.outs pv.1.toNat,pv.2),fW p.kind (sJ S p) (S.k p.name)⟩
inductive pP (M:List Addr) (H:Hp) (U:Addr) (dd:jc):Prop where
 | mk:∀La Lg rs,H U=some (.tup [.ref La,.ref Lg,.int dd.kv])->H La=some (.lst (dd.tk.map V.str))->H Lg=some (.lst (rs.map V.ref))->(cL H rs (dd.gv.map fun q=>[.str q.1,.int q.2]))->La∉M->Lg∉M->pP M H U dd
theorem pP.same {M:List Addr} {H H':Hp} {U:Addr} {dd:jc} (h:pP M H U dd) (s:aM H H'):pP M H' U dd:=by
 obtain⟨La,Lg,rs,a,b,c,d,e,f⟩:=h
 exact⟨La,Lg,rs,s _ _ a,s _ _ b,s _ _ c,cL.same s d,e,f⟩
theorem mG (S:FS) (p:PD) (h:m6 p):qp p.kind (aV S p):=by
 refine⟨by unfold aV;rw [lM];exact h.2.2.1,fun v hv=>?_⟩
 obtain⟨x,_,rfl⟩:=List.mem_map.mp hv
 unfold gQ
 cases (S.ev x)[S.g x]? with
 | none=>exact .inl rfl
 | some n=>exact .inr ⟨n,rfl⟩
theorem jK.cell {H:Hp} {A:xg} {ls:List aK} {ps:List PD} {S:FS} (h:jK K t H A ls ps S) {a:Addr} (ha:H a=none):a∉A.cells ls ps:=by
 intro z
 have no:∀{b:Addr} {u:HO},H b=some u->a=b->False:=fun e q=>by rw [<-q,ha] at e;cases e
 unfold xg.cells at z
 simp only [List.mem_cons,List.mem_append,List.mem_map] at z
 rcases z with z | z | z | z | z | ⟨l,hl,z⟩ | ⟨p,hp,z⟩
 ·exact no h.ever z
 ·exact no h.gone z
 ·exact no h.kept z
 ·exact no h.done z
 ·exact no h.rows z
 ·exact no (h.lists l hl) z.symm
 ·have hf:=List.mem_filter.mp hp
  exact no (h.rlst p hf.1 (by simpa using hf.2)) z.symm
structure Gd (n:Nat) (d:PyData):Prop where
 eq:PyData.eqv d d=true
 lay:PyData.canLay0 d=true
 dep:PyData.depth d<=n
theorem Gd.all {n:Nat}:∀{ds:List PyData},(∀d∈ds,Gd n d)->PyData.eqvAll ds ds=true/\PyData.canLayAll0 ds=true/\PyData.depthAll ds<=n
 | [],_=>⟨by simp [PyData.eqvAll],by simp [PyData.canLayAll0],by simp [PyData.depthAll]⟩
 | d:: r,h=>by
  obtain⟨h1,h2,h3⟩:=Gd.all (ds:=r) fun x hx=>h x (List.mem_cons_of_mem _ hx)
  have g:=h d List.mem_cons_self
  have g3:=g.dep
  refine⟨by simp [PyData.eqvAll,g.eq,h1],by simp [PyData.canLayAll0,g.lay,h2],?_⟩
  simp only [PyData.depthAll]
  omega
theorem Gd.list {n:Nat} {ds:List PyData} (h:∀d∈ds,Gd n d):Gd (n+1) (.list ds):=by
 obtain⟨h1,h2,h3⟩:=Gd.all h
 exact⟨by simp [PyData.eqv,h1],by simp [PyData.canLay0,h2],by simp only [PyData.depth];omega⟩
theorem Gd.tuple {n:Nat} {ds:List PyData} (h:∀d∈ds,Gd n d):Gd (n+1) (.tuple ds):=by
 obtain⟨h1,h2,h3⟩:=Gd.all h
 exact⟨by simp [PyData.eqv,h1],by simp [PyData.canLay0,h2],by simp only [PyData.depth];omega⟩
theorem Gd.int (n:Nat) (i:Int):Gd n (.int i):=⟨by simp [PyData.eqv],by simp [PyData.canLay0],by simp [PyData.depth]⟩
theorem Gd.str (n:Nat) {x:Str} (h:PyData.strOk x=true):Gd n (.str x):=⟨by simp [PyData.eqv],by simp [PyData.canLay0,h],by simp [PyData.depth]⟩
theorem Gd.ints (n:Nat) (ws:List Int):∀d∈ws.map PyData.int,Gd n d:=fun d hd=>by
 obtain⟨i,_,rfl⟩:=List.mem_map.mp hd
 exact .int n i
theorem Gd.shaped {n:Nat} {d:PyData} (h:Gd n d) (hn:n<=64):SeqAt.shaped d=true:=by
 have:=h.dep
 unfold SeqAt.shaped
 rw [h.lay,decide_eq_true (show d.depth<=64 by omega)]
 rfl
theorem Kl {H:Hp}:∀ws:List Int,Nj K H (ws.map V.int) (ws.map PyData.int)
 | []=>.nil
 | i:: r=>.cons (.int i) (Kl r)
theorem uh {H:Hp} {p:Addr} {ws:List Int} (h:bT K H p (ws.map V.int)):Dt K H (.ref p) (.list (ws.map PyData.int)):=.list h (Kl ws)
theorem Bk (xs:List V) (a b:Nat):qZ xs (some (a:Int)) (some (b:Int))=(xs.drop (min a xs.length)).take (min b xs.length - min a xs.length):=by
 unfold qZ
 rw [HT.zK,HT.zK]
theorem Vo {H H1:Hp} {a:Addr} {o:Obj} {kvs:List (Key×V)} (e:H a=some (.dK kvs)) (s:aM (upd H a (.frz o (.dK kvs))) H1):aM H (upd H1 a (.dK kvs)):=fun b u eb=>by
 by_cases hb:b=a
 ·rw [hb,au,<-eb,hb,e]
 ·rw [aG hb]
  exact s b u (by rw [aG hb];exact eb)
theorem MK {H:Hp} {a:Addr} {kvs:List (Key×V)} {x:Str} {v:V} (e:H a=some (.dK kvs)) (h:cC kvs (Sum.inr x)=some v):dZ H a (.str x) (some v):=by
 rw [<-h]
 exact dZ.k (k:=Sum.inr x) e
inductive yR (K:PySem.W.Frag) (vs:List V) (H:Hp) (Q:VK) (E:XK):Prop where
 | mk:∀x Tx b,vs=[x]->VH K H x Tx->Tx∈nH->decide (Tx= "int")=b->Q (.bl b) H->yR K vs H Q E
theorem sE (T:Txt w K mg t):FO P w K mg base 1 t.Bg ["thing"] (yR K):=by
 have sc:=T.mC.sc ["thing"]
 refine T.mC.F.ok sc ln (fun _ _ _ _ H vs Q E hr h=>?_)
 obtain⟨x,Tx,b,rfl,ty,hm,rfl,k⟩:=h
 refine⟨_,(aA (aR (xX (bf mO (by rfl) T.fP eZ (aa (pv 0) (aa (oH (by rfl) T.Og Jk) ak aj) aj)) (xY (Ue (bf mO (by rfl) T.fP eZ (aa (pv 0) (aa (oH (by rfl) T.Nv Kg) ak aj) aj))))))),?_⟩
 have hm':Tx= "int" ∨Tx= "bool" ∨(Es Tx "int" =false/\Tx≠ "int"):=by
  simp only [nH,List.mem_cons,List.not_mem_nil,or_false] at hm
  rcases hm with rfl | rfl | rfl | rfl | rfl | rfl | rfl
  ·exact .inr (.inr (by decide))
  ·exact .inr (.inl rfl)
  ·exact .inl rfl
  ·exact .inr (.inr (by decide))
  ·exact .inr (.inr (by decide))
  ·exact .inr (.inr (by decide))
  ·exact .inr (.inr (by decide))
 rcases hm' with rfl | rfl | ⟨h1,h2⟩
 ·exact⟨_,rfl,x, "int", "int",true,rfl,ty,by decide,by decide,true,rfl,ji ⟨_,rfl,x, "int", "bool",false,rfl,ty,by decide,by decide,_,rfl,k⟩⟩
 ·exact⟨_,rfl,x, "bool", "int",true,rfl,ty,by decide,by decide,true,rfl,ji ⟨_,rfl,x, "bool", "bool",true,rfl,ty,by decide,by decide,_,rfl,k⟩⟩
 ·rw [decide_eq_false h2] at k
  exact⟨_,rfl,x,Tx, "int",false,rfl,ty,by decide,h1,false,rfl,dI k⟩
inductive yx (K:PySem.W.Frag) (vs:List V) (H:Hp) (Q:VK) (E:XK):Prop where
 | mk:∀x,vs=[x]->(((∃i:Int,x=.int i/\Q (.bl (decide (0<=i) && decide (i <1000000000))) H)∨∃Tx,VH K H x Tx/\Tx∈nH/\Tx≠ "int" /\Q (.bl false) H))->yx K vs H Q E
theorem tQ (T:Txt w K mg t):FO P w K mg base 2 t.z6 ["thing"] (yx K):=by
 have sc:=T.m7.sc ["thing"]
 refine T.m7.F.ok sc ln (fun _ _ _ _ H vs Q E hr h=>?_)
 obtain⟨x,rfl,h⟩:=h
 refine⟨_,(aA (aR (xX (dY (sE T) T.mC hr (aa (pv 0) ak aj)) (xY (PX qR pU aq (pv 0) (iw (by rfl) T.HS)))))),?_⟩
 rcases h with ⟨i,rfl,k⟩ | ⟨Tx,ty,hm,hne,k⟩
 ·refine⟨_,rfl,.int i, "int",true,rfl,rfl,by decide,by decide,true,rfl,ji ⟨_,rfl,_,_,rfl,rfl,_,rfl,jt (fun h=>?_) (fun h=>?_)⟩⟩
  ·have h':0<=i:=of_decide_eq_true h
   rw [decide_eq_true h',Bool.true_and] at k
   exact⟨_,_,rfl,rfl,k⟩
  ·have h':¬0<=i:=fun z=>h (decide_eq_true z)
   rw [decide_eq_false h',Bool.false_and] at k
   exact k
 ·exact⟨_,rfl,x,Tx,false,rfl,ty,hm,decide_eq_false hne,false,rfl,dI k⟩
inductive qe (K:PySem.W.Frag) (t:nj) (vs:List V) (H:Hp) (Q:VK) (E:XK):Prop where
 | mk:∀(i:Nat) (p dx a1 a2 a3:Addr) (nm:V) (ns is os:List V),vs=[.ref p,nm,.ref a1,.ref a2,.ref a3]->H p=some (.ins (cls t i) dx [])->wJ K H a1 ns->wJ K H a2 is->wJ K H a3 os->(∀H',lq p H H'->fG K t H' p i nm ns is os->Q .non H')->qe K t vs H Q E
noncomputable abbrev lF:List Str:=["self", "name", "numbers", "ins", "outs"]
theorem cg (T:Txt w K mg t):FO P w K mg base 1 t.bU lF (qe K t):=by
 have sc:gP lF lF (bz (inClass (top 35) 0)):=Qo
 refine T.aZ.F.ok sc ln (fun _ _ _ _ H vs Q E hr h=>?_)
 obtain⟨i,p,dx,a1,a2,a3,nm,ns,is,os,rfl,hp,q1,q2,q3,k⟩:=h
 refine⟨_,(az (jw (pv 0) (pv 1) rfl)
  (az (jw (pv 0) (cB tZ (by rfl) T.zB vy (aa (pv 2) ak aj)) rfl)
  (az (jw (pv 0) (cB tZ (by rfl) T.zB vy (aa (pv 3) ak aj)) rfl)
  (aA (jw (pv 0) (cB tZ (by rfl) T.zB vy (aa (pv 4) ak aj)) rfl))))),?_⟩
 refine⟨_,rfl,_,rfl,p,cls t i,dx,[],rfl,hp,gZ T i,zM T i,by show 0 <1000;decide,?_⟩
 have b1:lq p H (upd H p (.ins (cls t i) dx (aJ "name" nm []))):=lq.write
 have e1:(upd H p (.ins (cls t i) dx (aJ "name" nm []))) p=some (.ins (cls t i) dx (aJ "name" nm [])):=au
 generalize upd H p (.ins (cls t i) dx (aJ "name" nm []))=H1 at b1 e1 ⊢
 have r2:=b1.seqA hp q2
 have r3:=b1.seqA hp q3
 refine⟨_,rfl,a1,ns,rfl,b1.seqA hp q1,fun H2 u2 s2 t2=>⟨_,rfl,p,cls t i,dx,_,rfl,s2 _ _ e1,gZ T i,qD T i,Nat.lt_of_le_of_lt (ju (Nat.zero_le 0)) (by decide),?_⟩⟩
 have e2:=s2 _ _ e1
 have b2:lq p H2 (upd H2 p (.ins (cls t i) dx (aJ "numbers" (.ref u2) (aJ "name" nm [])))):=lq.write
 have e3:(upd H2 p (.ins (cls t i) dx (aJ "numbers" (.ref u2) (aJ "name" nm [])))) p=some (.ins (cls t i) dx (aJ "numbers" (.ref u2) (aJ "name" nm []))):=au
 generalize upd H2 p (.ins (cls t i) dx (aJ "numbers" (.ref u2) (aJ "name" nm [])))=H3 at b2 e3 ⊢
 have r2':=b2.seqA e2 (s2.seqA r2)
 have r3':=b2.seqA e2 (s2.seqA r3)
 have t2':=b2.seqT e2 t2
 refine⟨_,rfl,a2,is,rfl,r2',fun H4 u4 s4 t4=>⟨_,rfl,p,cls t i,dx,_,rfl,s4 _ _ e3,gZ T i,xP T i,Nat.lt_of_le_of_lt (ju (ju (Nat.zero_le 0))) (by decide),?_⟩⟩
 have e4:=s4 _ _ e3
 have b4:lq p H4 (upd H4 p (.ins (cls t i) dx (aJ "ins" (.ref u4) (aJ "numbers" (.ref u2) (aJ "name" nm []))))):=lq.write
 have e5:(upd H4 p (.ins (cls t i) dx (aJ "ins" (.ref u4) (aJ "numbers" (.ref u2) (aJ "name" nm []))))) p=some (.ins (cls t i) dx (aJ "ins" (.ref u4) (aJ "numbers" (.ref u2) (aJ "name" nm [])))):=au
 generalize upd H4 p (.ins (cls t i) dx (aJ "ins" (.ref u4) (aJ "numbers" (.ref u2) (aJ "name" nm []))))=H5 at b4 e5 ⊢
 have r3'':=b4.seqA e4 (s4.seqA r3')
 have t2'':=b4.seqT e4 (s4.seqT t2')
 have t4':=b4.seqT e4 t4
 refine⟨_,rfl,a3,os,rfl,r3'',fun H6 u6 s6 t6=>⟨_,rfl,p,cls t i,dx,_,rfl,s6 _ _ e5,gZ T i,Em T i,Nat.lt_of_le_of_lt (ju (ju (ju (Nat.zero_le 0)))) (by decide),?_⟩⟩
 have e6:=s6 _ _ e5
 refine k _ (b1.trans ((lq.of_same s2).trans (b2.trans ((lq.of_same s4).trans (b4.trans ((lq.of_same s6).trans lq.write)))))) ⟨dx,u2,u4,u6,au,?_,?_,?_⟩
 ·exact lq.write.seqT e6 (s6.seqT t2'')
 ·exact lq.write.seqT e6 (s6.seqT t4')
 ·exact lq.write.seqT e6 t6
theorem Ga (T:Txt w K mg t):FO P w K mg base 1 t.rH ["self"] (iU 0):=by
 have sc:=T.oR.sc ["self"]
 refine T.oR.F.ok sc ln (fun _ _ _ _ H vs Q E hr h=>?_)
 obtain⟨x,rfl,k⟩:=h
 refine⟨_,(aA (aR bR)),?_⟩
 exact k
theorem FP (T:Txt w K mg t):FO P w K mg base 1 t.sO ["self"] (iU 1):=by
 have sc:=T.oK.sc ["self"]
 refine T.oK.F.ok sc ln (fun _ _ _ _ H vs Q E hr h=>?_)
 obtain⟨x,rfl,k⟩:=h
 refine⟨_,(aA (aR bR)),?_⟩
 exact k
theorem Gw (T:Txt w K mg t):FO P w K mg base 1 t.rE ["self"] (iU 2):=by
 have sc:=T.nZ.sc ["self"]
 refine T.nZ.F.ok sc ln (fun _ _ _ _ H vs Q E hr h=>?_)
 obtain⟨x,rfl,k⟩:=h
 refine⟨_,(aA (aR bR)),?_⟩
 exact k
theorem En (T:Txt w K mg t):FO P w K mg base 1 t.rO ["self"] (iU 3):=by
 have sc:=T.oY.sc ["self"]
 refine T.oY.F.ok sc ln (fun _ _ _ _ H vs Q E hr h=>?_)
 obtain⟨x,rfl,k⟩:=h
 refine⟨_,(aA (aR bR)),?_⟩
 exact k
theorem FW (T:Txt w K mg t):FO P w K mg base 1 t.rG ["self"] (iU 4):=by
 have sc:=T.oU.sc ["self"]
 refine T.oU.F.ok sc ln (fun _ _ _ _ H vs Q E hr h=>?_)
 obtain⟨x,rfl,k⟩:=h
 refine⟨_,(aA (aR bR)),?_⟩
 exact k
theorem Er (T:Txt w K mg t):FO P w K mg base 1 t.sU ["self"] (iU 5):=by
 have sc:=T.oA.sc ["self"]
 refine T.oA.F.ok sc ln (fun _ _ _ _ H vs Q E hr h=>?_)
 obtain⟨x,rfl,k⟩:=h
 refine⟨_,(aA (aR bR)),?_⟩
 exact k
theorem Hy (T:Txt w K mg t):FO P w K mg base 1 t.vo ["self"] (iU 6):=by
 have sc:=T.qK.sc ["self"]
 refine T.qK.F.ok sc ln (fun _ _ _ _ H vs Q E hr h=>?_)
 obtain⟨x,rfl,k⟩:=h
 refine⟨_,(aA (aR bR)),?_⟩
 exact k
theorem Fb (T:Txt w K mg t):FO P w K mg base 1 t.rW ["self"] (iU 7):=by
 have sc:=T.oW.sc ["self"]
 refine T.oW.F.ok sc ln (fun _ _ _ _ H vs Q E hr h=>?_)
 obtain⟨x,rfl,k⟩:=h
 refine⟨_,(aA (aR bR)),?_⟩
 exact k
theorem Cr (T:Txt w K mg t):FO P w K mg base 1 t.qG ["self"] (iU 8):=by
 have sc:=T.lL.sc ["self"]
 refine T.lL.F.ok sc ln (fun _ _ _ _ H vs Q E hr h=>?_)
 obtain⟨x,rfl,k⟩:=h
 refine⟨_,(aA (aR bR)),?_⟩
 exact k
theorem Aa (T:Txt w K mg t):FO P w K mg base 1 t.pI ["self"] (iU 9):=by
 have sc:=T.kJ.sc ["self"]
 refine T.kJ.F.ok sc ln (fun _ _ _ _ H vs Q E hr h=>?_)
 obtain⟨x,rfl,k⟩:=h
 refine⟨_,(aA (aR bR)),?_⟩
 exact k
theorem Cv (T:Txt w K mg t):FO P w K mg base 1 t.ql ["self"] (iU 10):=by
 have sc:=T.lX.sc ["self"]
 refine T.lX.F.ok sc ln (fun _ _ _ _ H vs Q E hr h=>?_)
 obtain⟨x,rfl,k⟩:=h
 refine⟨_,(aA (aR bR)),?_⟩
 exact k
inductive Aq (vs:List V) (H:Hp) (Q:VK) (E:XK):Prop where
 | mk:∀z:Str,vs=[.str z]->Q (.bl (rowOf ROWS z).isSome) H->Aq vs H Q E
theorem Ab (T:Txt w K mg t):FO P w K mg base 1 t.DW ["word"] (Aq):=by
 have sc:=T.ud.sc ["word"]
 refine T.ud.F.ok sc ln (fun _ _ _ _ H vs Q E hr h=>?_)
 obtain⟨z,rfl,k⟩:=h
 refine⟨_,(aA (aR (Et (Ur (pv 0) (FQ (v:=.ref _) (by rfl) T.Ef rfl)) (by with_unfolding_all rfl)))),?_⟩
 exact⟨_,rfl,t.wy,ROWS,z,rfl,T.GP,rfl,k⟩
inductive zc (K:PySem.W.Frag) (vs:List V) (H:Hp) (Q:VK) (E:XK):Prop where
 | mk:∀(i:Nat) (nm:V) (a1 a2 a3:Addr) (ns is os:List V),vs=[.str (dM i),nm,.ref a1,.ref a2,.ref a3]->wJ K H a1 ns->wJ K H a2 is->wJ K H a3 os->ns.length=cN i->is.length=cI i->os.length=cO i->((∀v∈ns,Val v))->(∀H',aM H H'->Q .non H')->zc K vs H Q E
noncomputable abbrev zU:List Str:=["kind", "name", "numbers", "ins", "outs", "counts"]
theorem G7 (T:Txt w K mg t):FO P w K mg base 3 t.Af ["kind", "name", "numbers", "ins", "outs"] (zc K):=by
 have sc:=T.uX.sc zU
 refine T.uX.F.ok sc ln (fun _ _ _ _ H vs Q E hr h=>?_)
 obtain⟨i,nm,a1,a2,a3,ns,is,os,rfl,h1,h2,h3,l1,l2,l3,hv,k⟩:=h
 refine⟨_,(az (bO (gM (fH (dY (Ab T) T.ud hr (aa (pv 0) ak aj))))
   (aA dW)
   bc)
  (az (sN sc 5 (QT (FQ (v:=.ref _) (by rfl) T.Ef rfl) (pv 0) (fun _ _=>rfl)))
  (az (bO (PW.pt (qd (bj Dh (bf b7 (by rfl) T.fj dB (aa (pv 2) ak aj)) (aU dw (pv 5) aq (fun _ _=>rfl)) (bK _)) (j4 (gM (fH (bf (wM rfl) (by rfl) T.Kc GC (aa (fM [] zU (bz (top 48)) rfl (R1 (cW (pv 2)) (FT (pv 2))) (fun _ _ _ _ _=>gh) (fun _ _ _ _ _=>(dY (tQ T) T.m7 hr (aa (pv 0) ak aj)))) ak cP)))))))
   (aA dW)
   bc)
  (aA (bO (PW.pt (qd (bj Dh (bf b7 (by rfl) T.fj dB (aa (pv 3) ak aj)) (aU dw (pv 5) aq (fun _ _=>rfl)) (bK _)) (j4 (bj Dh (bf b7 (by rfl) T.fj dB (aa (pv 4) ak aj)) (aU dw (pv 5) aq (fun _ _=>rfl)) (bK _)))))
   (aA dW)
   bc))))),?_⟩
 have hl:sizeLine=16777216:=sizeLine_eq
 have hN:=Wx i
 have hI:=yo i
 have hO:=Ow i
 refine⟨_,rfl,dM i,rfl,true,by rw [row_of];rfl,dI ?_⟩
 refine⟨_,rfl,t.wy,ROWS,dM i,_,rfl,T.GP,rfl,row_of i,fun ad had=>?_⟩
 refine⟨_,rfl,.ref a1,ns.length,rfl,h1.len,_,rfl,ad,_,0,_,rfl,rfl,had,aN (j:=0) rfl,rfl,_,rfl,?_⟩
 rw [show(!decide (V.int ((ns.length:Nat):Int)=V.int ((cN i:Nat):Int)))=false by rw [l1];simp]
 refine dI ?_
 refine Oo (a:=a1) (xs:=ns) ?_ h1 (fun j ys=>ys=(List.replicate j true).map V.bl) (by omega) rfl (fun j ys e=>by rw [e];simp) (fun j x ys hx e=>?_) (fun ys e D hD=>?_)
 ·exact fun R r=>⟨_,rfl,r⟩
 ·subst e
  obtain⟨n,rfl,n0,n1⟩:=hv x (List.mem_of_getElem? hx)
  refine yes ⟨_,rfl,.int n,rfl,.inl ⟨n,rfl,rfl,?_⟩⟩
  rw [decide_eq_true n0,decide_eq_true n1,List.replicate_succ']
  simp
 ·subst e
  refine⟨D,_,rfl,bT.of au,_,rfl,?_⟩
  rw [show((List.replicate ns.length true).all id)=true by simp]
  refine dI ?_
  have s1:aM H (upd H D (.lst ((List.replicate ns.length true).map V.bl))):=aB hD
  refine⟨_,rfl,.ref a2,is.length,rfl,(s1.seqA h2).len,_,rfl,ad,_,1,_,rfl,rfl,s1.seqT had,aN (j:=1) rfl,rfl,_,rfl,?_⟩
  rw [show(!decide (V.int ((is.length:Nat):Int)=V.int ((cI i:Nat):Int)))=false by rw [l2];simp]
  refine dI ?_
  refine⟨_,rfl,.ref a3,os.length,rfl,(s1.seqA h3).len,_,rfl,ad,_,2,_,rfl,rfl,s1.seqT had,aN (j:=2) rfl,rfl,_,rfl,?_⟩
  rw [show(!decide (V.int ((os.length:Nat):Int)=V.int ((cO i:Nat):Int)))=false by rw [l3];simp]
  exact dI (k _ s1)
inductive BL (K:PySem.W.Frag) (t:nj) (vs:List V) (H:Hp) (Q:VK) (E:XK):Prop where
 | mk:∀(i:Nat) (nm:V) (a1 a2 a3:Addr) (ns is os:List V),vs=[.str (dM i),nm,.ref a1,.ref a2,.ref a3]->i<=10->wJ K H a1 ns->wJ K H a2 is->wJ K H a3 os->(∀H' p,aM H H'->H p=none->fG K t H' p i nm ns is os->Q (.ref p) H')->BL K t vs H Q E
noncomputable abbrev xH:List Str:=["kind", "name", "numbers", "ins", "outs"]
theorem JS (T:Txt w K mg t):FO P w K mg base 3 t.CZ xH (BL K t):=by
 have sc:gP xH xH (bz (top 49)):=Qo
 refine T.Eg.F.ok sc ln (fun _ _ _ _ H vs Q E hr h=>?_)
 obtain⟨i,nm,a1,a2,a3,ns,is,os,rfl,hi,h1,h2,h3,k⟩:=h
 refine⟨_,(az (bO (bj fX (pv 0) bR (bK _))
   (aA (aR (iK (T.ik.M T.aZ) (cg T) (hr.mono (by decide)) (by rfl) T.ik.m T.aZ.b .nil jd (aa (pv 1) (aa (pv 2) (aa (pv 3) (aa (pv 4) ak aj) aj) aj) aj))))
   bc)
  (az (bO (bj fX (pv 0) bR (bK _))
   (aA (aR (iK (T.ig.M T.aZ) (cg T) (hr.mono (by decide)) (by rfl) T.ig.m T.aZ.b .nil jd (aa (pv 1) (aa (pv 2) (aa (pv 3) (aa (pv 4) ak aj) aj) aj) aj))))
   bc)
  (az (bO (bj fX (pv 0) bR (bK _))
   (aA (aR (iK (T.iD.M T.aZ) (cg T) (hr.mono (by decide)) (by rfl) T.iD.m T.aZ.b .nil jd (aa (pv 1) (aa (pv 2) (aa (pv 3) (aa (pv 4) ak aj) aj) aj) aj))))
   bc)
  (az (bO (bj fX (pv 0) bR (bK _))
   (aA (aR (iK (T.iB.M T.aZ) (cg T) (hr.mono (by decide)) (by rfl) T.iB.m T.aZ.b .nil jd (aa (pv 1) (aa (pv 2) (aa (pv 3) (aa (pv 4) ak aj) aj) aj) aj))))
   bc)
  (az (bO (bj fX (pv 0) bR (bK _))
   (aA (aR (iK (T.iC.M T.aZ) (cg T) (hr.mono (by decide)) (by rfl) T.iC.m T.aZ.b .nil jd (aa (pv 1) (aa (pv 2) (aa (pv 3) (aa (pv 4) ak aj) aj) aj) aj))))
   bc)
  (az (bO (bj fX (pv 0) bR (bK _))
   (aA (aR (iK (T.iu.M T.aZ) (cg T) (hr.mono (by decide)) (by rfl) T.iu.m T.aZ.b .nil jd (aa (pv 1) (aa (pv 2) (aa (pv 3) (aa (pv 4) ak aj) aj) aj) aj))))
   bc)
  (az (bO (bj fX (pv 0) bR (bK _))
   (aA (aR (iK (T.lB.M T.aZ) (cg T) (hr.mono (by decide)) (by rfl) T.lB.m T.aZ.b .nil jd (aa (pv 1) (aa (pv 2) (aa (pv 3) (aa (pv 4) ak aj) aj) aj) aj))))
   bc)
  (az (bO (bj fX (pv 0) bR (bK _))
   (aA (aR (iK (T.iz.M T.aZ) (cg T) (hr.mono (by decide)) (by rfl) T.iz.m T.aZ.b .nil jd (aa (pv 1) (aa (pv 2) (aa (pv 3) (aa (pv 4) ak aj) aj) aj) aj))))
   bc)
  (az (bO (bj fX (pv 0) bR (bK _))
   (aA (aR (iK (T.fK.M T.aZ) (cg T) (hr.mono (by decide)) (by rfl) T.fK.m T.aZ.b .nil jd (aa (pv 1) (aa (pv 2) (aa (pv 3) (aa (pv 4) ak aj) aj) aj) aj))))
   bc)
  (az (bO (bj fX (pv 0) bR (bK _))
   (aA (aR (iK (T.d8.M T.aZ) (cg T) (hr.mono (by decide)) (by rfl) T.d8.m T.aZ.b .nil jd (aa (pv 1) (aa (pv 2) (aa (pv 3) (aa (pv 4) ak aj) aj) aj) aj))))
   bc)
  (aA (aR (iK (T.fO.M T.aZ) (cg T) (hr.mono (by decide)) (by rfl) T.fO.m T.aZ.b .nil jd (aa (pv 1) (aa (pv 2) (aa (pv 3) (aa (pv 4) ak aj) aj) aj) aj)))))))))))))),?_⟩
 match i,hi with
 | 0,_=>
  refine⟨_,rfl,rfl,_,rfl,pJ rfl ?_⟩
  refine⟨_,rfl,_,rfl,_,rfl,_,rfl,fun x dx nx ndx nex=>?_⟩
  have s0:aM H (upd (upd H dx (.own x)) x (.ins t.JC dx [])):=fun b o e=>by rw [aG (aF e nx),aG (aF e ndx)];exact e
  exact⟨0,x,dx,a1,a2,a3,nm,ns,is,os,rfl,au,s0.seqA h1,s0.seqA h2,s0.seqA h3,fun H' b P=>⟨rfl,k H' x (fun c o e=>b c o (aF e nx) (s0 c o e)) nx P⟩⟩
 | 1,_=>
  refine⟨_,rfl,rfl,_,rfl,bV (by decide +kernel) ?_⟩
  refine⟨_,rfl,rfl,_,rfl,pJ rfl ?_⟩
  refine⟨_,rfl,_,rfl,_,rfl,_,rfl,fun x dx nx ndx nex=>?_⟩
  have s0:aM H (upd (upd H dx (.own x)) x (.ins t.Jh dx [])):=fun b o e=>by rw [aG (aF e nx),aG (aF e ndx)];exact e
  exact⟨1,x,dx,a1,a2,a3,nm,ns,is,os,rfl,au,s0.seqA h1,s0.seqA h2,s0.seqA h3,fun H' b P=>⟨rfl,k H' x (fun c o e=>b c o (aF e nx) (s0 c o e)) nx P⟩⟩
 | 2,_=>
  refine⟨_,rfl,rfl,_,rfl,bV (by decide +kernel) ?_⟩
  refine⟨_,rfl,rfl,_,rfl,bV (by decide +kernel) ?_⟩
  refine⟨_,rfl,rfl,_,rfl,pJ rfl ?_⟩
  refine⟨_,rfl,_,rfl,_,rfl,_,rfl,fun x dx nx ndx nex=>?_⟩
  have s0:aM H (upd (upd H dx (.own x)) x (.ins t.JW dx [])):=fun b o e=>by rw [aG (aF e nx),aG (aF e ndx)];exact e
  exact⟨2,x,dx,a1,a2,a3,nm,ns,is,os,rfl,au,s0.seqA h1,s0.seqA h2,s0.seqA h3,fun H' b P=>⟨rfl,k H' x (fun c o e=>b c o (aF e nx) (s0 c o e)) nx P⟩⟩
 | 3,_=>
  refine⟨_,rfl,rfl,_,rfl,bV (by decide +kernel) ?_⟩
  refine⟨_,rfl,rfl,_,rfl,bV (by decide +kernel) ?_⟩
  refine⟨_,rfl,rfl,_,rfl,bV (by decide +kernel) ?_⟩
  refine⟨_,rfl,rfl,_,rfl,pJ rfl ?_⟩
  refine⟨_,rfl,_,rfl,_,rfl,_,rfl,fun x dx nx ndx nex=>?_⟩
  have s0:aM H (upd (upd H dx (.own x)) x (.ins t.JP dx [])):=fun b o e=>by rw [aG (aF e nx),aG (aF e ndx)];exact e
  exact⟨3,x,dx,a1,a2,a3,nm,ns,is,os,rfl,au,s0.seqA h1,s0.seqA h2,s0.seqA h3,fun H' b P=>⟨rfl,k H' x (fun c o e=>b c o (aF e nx) (s0 c o e)) nx P⟩⟩
 | 4,_=>
  refine⟨_,rfl,rfl,_,rfl,bV (by decide +kernel) ?_⟩
  refine⟨_,rfl,rfl,_,rfl,bV (by decide +kernel) ?_⟩
  refine⟨_,rfl,rfl,_,rfl,bV (by decide +kernel) ?_⟩
  refine⟨_,rfl,rfl,_,rfl,bV (by decide +kernel) ?_⟩
  refine⟨_,rfl,rfl,_,rfl,pJ rfl ?_⟩
  refine⟨_,rfl,_,rfl,_,rfl,_,rfl,fun x dx nx ndx nex=>?_⟩
  have s0:aM H (upd (upd H dx (.own x)) x (.ins t.JB dx [])):=fun b o e=>by rw [aG (aF e nx),aG (aF e ndx)];exact e
  exact⟨4,x,dx,a1,a2,a3,nm,ns,is,os,rfl,au,s0.seqA h1,s0.seqA h2,s0.seqA h3,fun H' b P=>⟨rfl,k H' x (fun c o e=>b c o (aF e nx) (s0 c o e)) nx P⟩⟩
 | 5,_=>
  refine⟨_,rfl,rfl,_,rfl,bV (by decide +kernel) ?_⟩
  refine⟨_,rfl,rfl,_,rfl,bV (by decide +kernel) ?_⟩
  refine⟨_,rfl,rfl,_,rfl,bV (by decide +kernel) ?_⟩
  refine⟨_,rfl,rfl,_,rfl,bV (by decide +kernel) ?_⟩
  refine⟨_,rfl,rfl,_,rfl,bV (by decide +kernel) ?_⟩
  refine⟨_,rfl,rfl,_,rfl,pJ rfl ?_⟩
  refine⟨_,rfl,_,rfl,_,rfl,_,rfl,fun x dx nx ndx nex=>?_⟩
  have s0:aM H (upd (upd H dx (.own x)) x (.ins t.JN dx [])):=fun b o e=>by rw [aG (aF e nx),aG (aF e ndx)];exact e
  exact⟨5,x,dx,a1,a2,a3,nm,ns,is,os,rfl,au,s0.seqA h1,s0.seqA h2,s0.seqA h3,fun H' b P=>⟨rfl,k H' x (fun c o e=>b c o (aF e nx) (s0 c o e)) nx P⟩⟩
 | 6,_=>
  refine⟨_,rfl,rfl,_,rfl,bV (by decide +kernel) ?_⟩
  refine⟨_,rfl,rfl,_,rfl,bV (by decide +kernel) ?_⟩
  refine⟨_,rfl,rfl,_,rfl,bV (by decide +kernel) ?_⟩
  refine⟨_,rfl,rfl,_,rfl,bV (by decide +kernel) ?_⟩
  refine⟨_,rfl,rfl,_,rfl,bV (by decide +kernel) ?_⟩
  refine⟨_,rfl,rfl,_,rfl,bV (by decide +kernel) ?_⟩
  refine⟨_,rfl,rfl,_,rfl,pJ rfl ?_⟩
  refine⟨_,rfl,_,rfl,_,rfl,_,rfl,fun x dx nx ndx nex=>?_⟩
  have s0:aM H (upd (upd H dx (.own x)) x (.ins t.Ni dx [])):=fun b o e=>by rw [aG (aF e nx),aG (aF e ndx)];exact e
  exact⟨6,x,dx,a1,a2,a3,nm,ns,is,os,rfl,au,s0.seqA h1,s0.seqA h2,s0.seqA h3,fun H' b P=>⟨rfl,k H' x (fun c o e=>b c o (aF e nx) (s0 c o e)) nx P⟩⟩
 | 7,_=>
  refine⟨_,rfl,rfl,_,rfl,bV (by decide +kernel) ?_⟩
  refine⟨_,rfl,rfl,_,rfl,bV (by decide +kernel) ?_⟩
  refine⟨_,rfl,rfl,_,rfl,bV (by decide +kernel) ?_⟩
  refine⟨_,rfl,rfl,_,rfl,bV (by decide +kernel) ?_⟩
  refine⟨_,rfl,rfl,_,rfl,bV (by decide +kernel) ?_⟩
  refine⟨_,rfl,rfl,_,rfl,bV (by decide +kernel) ?_⟩
  refine⟨_,rfl,rfl,_,rfl,bV (by decide +kernel) ?_⟩
  refine⟨_,rfl,rfl,_,rfl,pJ rfl ?_⟩
  refine⟨_,rfl,_,rfl,_,rfl,_,rfl,fun x dx nx ndx nex=>?_⟩
  have s0:aM H (upd (upd H dx (.own x)) x (.ins t.JR dx [])):=fun b o e=>by rw [aG (aF e nx),aG (aF e ndx)];exact e
  exact⟨7,x,dx,a1,a2,a3,nm,ns,is,os,rfl,au,s0.seqA h1,s0.seqA h2,s0.seqA h3,fun H' b P=>⟨rfl,k H' x (fun c o e=>b c o (aF e nx) (s0 c o e)) nx P⟩⟩
 | 8,_=>
  refine⟨_,rfl,rfl,_,rfl,bV (by decide +kernel) ?_⟩
  refine⟨_,rfl,rfl,_,rfl,bV (by decide +kernel) ?_⟩
  refine⟨_,rfl,rfl,_,rfl,bV (by decide +kernel) ?_⟩
  refine⟨_,rfl,rfl,_,rfl,bV (by decide +kernel) ?_⟩
  refine⟨_,rfl,rfl,_,rfl,bV (by decide +kernel) ?_⟩
  refine⟨_,rfl,rfl,_,rfl,bV (by decide +kernel) ?_⟩
  refine⟨_,rfl,rfl,_,rfl,bV (by decide +kernel) ?_⟩
  refine⟨_,rfl,rfl,_,rfl,bV (by decide +kernel) ?_⟩
  refine⟨_,rfl,rfl,_,rfl,pJ rfl ?_⟩
  refine⟨_,rfl,_,rfl,_,rfl,_,rfl,fun x dx nx ndx nex=>?_⟩
  have s0:aM H (upd (upd H dx (.own x)) x (.ins t.EY dx [])):=fun b o e=>by rw [aG (aF e nx),aG (aF e ndx)];exact e
  exact⟨8,x,dx,a1,a2,a3,nm,ns,is,os,rfl,au,s0.seqA h1,s0.seqA h2,s0.seqA h3,fun H' b P=>⟨rfl,k H' x (fun c o e=>b c o (aF e nx) (s0 c o e)) nx P⟩⟩
 | 9,_=>
  refine⟨_,rfl,rfl,_,rfl,bV (by decide +kernel) ?_⟩
  refine⟨_,rfl,rfl,_,rfl,bV (by decide +kernel) ?_⟩
  refine⟨_,rfl,rfl,_,rfl,bV (by decide +kernel) ?_⟩
  refine⟨_,rfl,rfl,_,rfl,bV (by decide +kernel) ?_⟩
  refine⟨_,rfl,rfl,_,rfl,bV (by decide +kernel) ?_⟩
  refine⟨_,rfl,rfl,_,rfl,bV (by decide +kernel) ?_⟩
  refine⟨_,rfl,rfl,_,rfl,bV (by decide +kernel) ?_⟩
  refine⟨_,rfl,rfl,_,rfl,bV (by decide +kernel) ?_⟩
  refine⟨_,rfl,rfl,_,rfl,bV (by decide +kernel) ?_⟩
  refine⟨_,rfl,rfl,_,rfl,pJ rfl ?_⟩
  refine⟨_,rfl,_,rfl,_,rfl,_,rfl,fun x dx nx ndx nex=>?_⟩
  have s0:aM H (upd (upd H dx (.own x)) x (.ins t.Bt dx [])):=fun b o e=>by rw [aG (aF e nx),aG (aF e ndx)];exact e
  exact⟨9,x,dx,a1,a2,a3,nm,ns,is,os,rfl,au,s0.seqA h1,s0.seqA h2,s0.seqA h3,fun H' b P=>⟨rfl,k H' x (fun c o e=>b c o (aF e nx) (s0 c o e)) nx P⟩⟩
 | 10,_=>
  refine⟨_,rfl,rfl,_,rfl,bV (by decide +kernel) ?_⟩
  refine⟨_,rfl,rfl,_,rfl,bV (by decide +kernel) ?_⟩
  refine⟨_,rfl,rfl,_,rfl,bV (by decide +kernel) ?_⟩
  refine⟨_,rfl,rfl,_,rfl,bV (by decide +kernel) ?_⟩
  refine⟨_,rfl,rfl,_,rfl,bV (by decide +kernel) ?_⟩
  refine⟨_,rfl,rfl,_,rfl,bV (by decide +kernel) ?_⟩
  refine⟨_,rfl,rfl,_,rfl,bV (by decide +kernel) ?_⟩
  refine⟨_,rfl,rfl,_,rfl,bV (by decide +kernel) ?_⟩
  refine⟨_,rfl,rfl,_,rfl,bV (by decide +kernel) ?_⟩
  refine⟨_,rfl,rfl,_,rfl,bV (by decide +kernel) ?_⟩
  refine⟨_,rfl,_,rfl,_,rfl,_,rfl,fun x dx nx ndx nex=>?_⟩
  have s0:aM H (upd (upd H dx (.own x)) x (.ins t.Gr dx [])):=fun b o e=>by rw [aG (aF e nx),aG (aF e ndx)];exact e
  exact⟨10,x,dx,a1,a2,a3,nm,ns,is,os,rfl,au,s0.seqA h1,s0.seqA h2,s0.seqA h3,fun H' b P=>⟨rfl,k H' x (fun c o e=>b c o (aF e nx) (s0 c o e)) nx P⟩⟩
 | (n+11),h=>exact absurd h (by omega)
inductive wY (K:PySem.W.Frag) (t:nj) (vs:List V) (H:Hp) (Q:VK) (E:XK):Prop where
 | mk:∀(i:Nat) (nm:V) (a1 a2 a3:Addr) (ns is os:List V),vs=[.str (dM i),nm,.ref a1,.ref a2,.ref a3]->i<=10->wJ K H a1 ns->wJ K H a2 is->wJ K H a3 os->ns.length=cN i->is.length=cI i->os.length=cO i->((∀v∈ns,Val v))->(∀H' p,aM H H'->H p=none->fG K t H' p i nm ns is os->Q (.ref p) H')->wY K t vs H Q E
noncomputable abbrev tM:List Str:=["kind", "name", "numbers", "ins", "outs"]
theorem GD (T:Txt w K mg t):FO P w K mg base 4 t.yF tM (wY K t):=by
 have sc:gP tM tM (bz (top 50)):=Qo
 refine T.yh.F.ok sc ln (fun _ _ _ _ H vs Q E hr h=>?_)
 obtain⟨i,nm,a1,a2,a3,ns,is,os,rfl,hi,h1,h2,h3,l1,l2,l3,hv,k⟩:=h
 refine⟨_,(az (bM (dY (G7 T) T.uX hr (aa (pv 0) (aa (pv 1) (aa (pv 2) (aa (pv 3) (aa (pv 4) ak aj) aj) aj) aj) aj)))
  (aA (aR (dY (JS T) T.Eg hr (aa (pv 0) (aa (pv 1) (aa (pv 2) (aa (pv 3) (aa (pv 4) ak aj) aj) aj) aj) aj))))),?_⟩
 refine⟨_,rfl,_,rfl,_,rfl,_,rfl,_,rfl,i,nm,a1,a2,a3,ns,is,os,rfl,h1,h2,h3,l1,l2,l3,hv,fun H1 s1=>?_⟩
 exact⟨_,rfl,_,rfl,_,rfl,_,rfl,_,rfl,i,nm,a1,a2,a3,ns,is,os,rfl,hi,s1.seqA h1,s1.seqA h2,s1.seqA h3,fun H2 p s2 np P=>k H2 p (s1.trans s2) (s1.free np) P⟩
inductive KN (vs:List V) (H:Hp) (Q:VK) (E:XK):Prop where
 | mk:∀a:Int,vs=[.int a]->Q (.int (a % 1000000000)) H->KN vs H Q E
theorem Eo (T:Txt w K mg t):FO P w K mg base 1 t.Qy ["number"] (KN):=by
 have sc:=T.BP.sc ["number"]
 refine T.BP.F.ok sc ln (fun _ _ _ _ H vs Q E hr h=>?_)
 obtain⟨a,rfl,k⟩:=h
 refine⟨_,(aA (aR (aY bY (pv 0) (iw (by rfl) T.HS)))),?_⟩
 exact⟨_,rfl,_,_,rfl,rfl,by show(0:Int) <1000000000;decide,k⟩
inductive rF (K:PySem.W.Frag) (t:nj) (vs:List V) (H:Hp) (Q:VK) (E:XK):Prop where
 | mk:∀i,i≠9->my K t i vs H Q E->rF K t vs H Q E
theorem du (T:Txt w K mg t):FO P w K mg base 1 t.cQ ["self", "heads"] (rF K t):=by
 have sc:=T.bB.sc ["self", "heads"]
 refine T.bB.F.ok sc ln (fun _ _ _ _ H vs Q E hr h=>?_)
 obtain⟨i,hi,p,a,nm,ns,is,os,hs,rfl,hP,hI,hS,hH,k⟩:=h
 refine⟨_,(aA (aR (cB (uA rfl) (by rfl) T.mX jL (aa (cB yJ (by rfl) T.j5 Ie (aa (bf b7 (by rfl) T.fj dB (aa (bI (pv 0) rfl) ak bF)) ak aW)) ak aW)))),?_⟩
 obtain⟨dx,tn,ti,to,hp,h2,h3,h4⟩:=id hP.ex
 have h3':=yo i
 refine⟨_,rfl,p,cls t i,dx,_,.ref ti,rfl,hp,gZ T i,xP T i,tG _ _ _ _,.ref ti,is.length,rfl,.inr ⟨is,h3,rfl⟩,_,rfl,fun r hr=>⟨r,is.length,rfl,au,by omega,fun l hl=>?_⟩⟩
 have e:(places i hs).map nV=MJ is.length:=by
  unfold places MJ
  rw [if_neg hi,hH.1,hI]
  rfl
 refine k _ l ((aB hr).trans (aB hl)) ((aB hr).free hl) ?_
 rw [e]
 exact au
theorem xj (T:Txt w K mg t):FO P w K mg base 1 t.lH ["self", "heads"] (my K t 9):=by
 have sc:=T.jq.sc ["self", "heads"]
 refine T.jq.F.ok sc ln (fun _ _ _ _ H vs Q E hr h=>?_)
 obtain⟨p,a,nm,ns,is,os,hs,rfl,hP,hI,hS,hH,k⟩:=h
 refine⟨_,(az (bO (jy (xK (aU aO (pv 1) aq (fun _ _=>rfl))))
   (aA (aR (bu (aa aq ak ao))))
   bc)
  (aA (aR (bu (aa aq (aa (aY cJ aq (aY bY (aU aO (pv 1) aq (fun _ _=>rfl)) aq)) ak bG) ao))))),?_⟩
 have hl:sizeLine=16777216:=sizeLine_eq
 have hlen:hs.length=3:=hH.1
 match hs,hlen,hH with
 | h0:: r,hlen,hH=>
  have ea:Cq (h0:: r) 0=some h0:=aN (xs:=h0:: r) (j:=0) rfl
  rcases hH.2 h0 List.mem_cons_self with e | ⟨n,e⟩
  ·subst e
   refine⟨_,rfl,a,_,0,_,rfl,rfl,hS,ea,_,rfl,pJ rfl ?_⟩
   exact⟨il,fun L hL=>k _ L (aB hL) hL au⟩
  ·subst e
   refine⟨_,rfl,a,_,0,_,rfl,rfl,hS,ea,_,rfl,bV (by intro z;cases z) ?_⟩
   refine⟨_,rfl,a,_,0,_,rfl,rfl,hS,ea,_,_,rfl,rfl,by show(0:Int) <2;decide,_,_,rfl,rfl,il,fun L hL=>k _ L (aB hL) hL ?_⟩
   have h0:=Int.emod_nonneg n (show(2:Int)≠0 by decide)
   have e1:(1:Int)+n % 2=((1+(n % 2).toNat:Nat):Int):=by omega
   rw [au]
   show some (HO.lst [.int 0,.int (1+n % 2)])=some (HO.lst [.int ((0:Nat):Int),.int ((1+(n % 2).toNat:Nat):Int)])
   rw [e1]
   rfl
theorem Ej (T:Txt w K mg t) (i:Nat):MethAt P w K mg base Cm 1 (cls t i) "taking" (my K t i):=match i with
 | 0=>⟨_,_,_,T.ik.c,(T.bB.me T.ik.me.2.2.1),T.bB.b,(du T).imp fun _ _ _ _ h=>⟨_,by omega,h⟩⟩
 | 1=>⟨_,_,_,T.ig.c,(T.bB.me T.ig.me.2.2.1),T.bB.b,(du T).imp fun _ _ _ _ h=>⟨_,by omega,h⟩⟩
 | 2=>⟨_,_,_,T.iD.c,(T.bB.me T.iD.me.2.2.1),T.bB.b,(du T).imp fun _ _ _ _ h=>⟨_,by omega,h⟩⟩
 | 3=>⟨_,_,_,T.iB.c,(T.bB.me T.iB.me.2.2.1),T.bB.b,(du T).imp fun _ _ _ _ h=>⟨_,by omega,h⟩⟩
 | 4=>⟨_,_,_,T.iC.c,(T.bB.me T.iC.me.2.2.1),T.bB.b,(du T).imp fun _ _ _ _ h=>⟨_,by omega,h⟩⟩
 | 5=>⟨_,_,_,T.iu.c,(T.bB.me T.iu.me.2.2.1),T.bB.b,(du T).imp fun _ _ _ _ h=>⟨_,by omega,h⟩⟩
 | 6=>⟨_,_,_,T.lB.c,(T.bB.me T.lB.me.2.2.1),T.bB.b,(du T).imp fun _ _ _ _ h=>⟨_,by omega,h⟩⟩
 | 7=>⟨_,_,_,T.iz.c,(T.bB.me T.iz.me.2.2.1),T.bB.b,(du T).imp fun _ _ _ _ h=>⟨_,by omega,h⟩⟩
 | 8=>⟨_,_,_,T.fK.c,(T.bB.me T.fK.me.2.2.1),T.bB.b,(du T).imp fun _ _ _ _ h=>⟨_,by omega,h⟩⟩
 | 9=>⟨_,_,_,T.d8.c,(T.jq.me T.d8.me.2.2.1),T.jq.b,xj T⟩
 | n+10=>⟨_,_,_,T.fO.c,(T.bB.me T.fO.me.2.2.1),T.bB.b,(du T).imp fun _ _ _ _ h=>⟨_,by omega,h⟩⟩
inductive uI (K:PySem.W.Frag) (t:nj) (vs:List V) (H:Hp) (Q:VK) (E:XK):Prop where
 | mk:∀i,xf K t i vs H Q E->uI K t vs H Q E
theorem dj (T:Txt w K mg t):FO P w K mg base 2 t.cU ["self", "heads"] (uI K t):=by
 have sc:=T.bC.sc ["self", "heads", "place"]
 refine T.bC.F.ok sc ln (fun _ _ _ _ H vs Q E hr h=>?_)
 obtain⟨i,p,a,nm,ns,is,os,hs,rfl,hP,hI,hS,hH,k⟩:=h
 refine⟨_,(az (eN PassesOwn.never rfl (cW (vV (CX:=Cm) (k:=1) (E:=E0) (pv 0) (hr.mono (by decide)) jd (aa (pv 1) ak aj))) (gN sc 2)
   (aA (bO (jy (xK (aU aO (pv 1) (pv 2) (fun _ _=>rfl))))
    (aA (aR (pv 2)))
    bc)))
  (aA (aR qH))),?_⟩
 obtain⟨dx,tn,ti,to,hp,h2,h3,h4⟩:=id hP.ex
 refine⟨_,rfl,p,cls t i,dx,_,my K t i,rfl,hp,tY _ _ _ _ (by decide +kernel) (by decide +kernel) (by decide +kernel) (by decide +kernel),Ej T i,_,rfl,p,a,nm,ns,is,os,hs,rfl,hP,hI,hS,hH,fun H1 L s1 nL eL=>⟨L,rfl,⟨_,bT.of eL⟩,?_⟩⟩
 refine fu (K:=K) (a:=L) (xs:=(places i hs).map nV) (fun j σ H2=>H2=H1/\∃v,σ=[some (.ref p),some (.ref a),v]/\∀q∈(places i hs).take j,jN hs q=false)
  ⟨rfl,none,rfl,by simp⟩ (fun j σ H2 _ ⟨e,_⟩=>by rw [e];exact bT.of eL) ?_ ?_
 ·rintro j x σ H2 hx ⟨rfl,v,rfl,hno⟩
  rw [List.getElem?_map] at hx
  obtain⟨q,hq,rfl⟩:=Option.map_eq_some_iff.mp hx
  have hlt:=iJ hH q (List.mem_of_getElem? hq)
  obtain⟨hv,ev⟩:∃hv,hs[q]?=some hv:=⟨hs[q],List.getElem?_eq_getElem hlt⟩
  refine⟨_,rfl,_,rfl,a,hs,_,hv,rfl,rfl,s1.seq hS,aN ev,_,rfl,jt (fun hn=>?_) (fun hn=>?_)⟩
  ·have hn':hv=.non:=of_decide_eq_true hn
   refine⟨_,rfl,?_⟩
   have:=k H2 s1
   unfold Kf at this
   rw [K6 hq hno (by unfold jN;rw [ev,hn'];simp)] at this
   exact this
  ·have hn':¬hv=.non:=fun z=>hn (decide_eq_true z)
   refine⟨rfl,_,rfl,fun y hy=>?_⟩
   rw [List.take_add_one,hq] at hy
   rcases List.mem_append.mp hy with hy | hy
   ·exact hno y hy
   ·have e:y=q:=by simpa using hy
    subst e
    unfold jN
    rw [ev]
    simpa using hn'
 ·rintro σ H2 ⟨rfl,v,rfl,hno⟩
  have:=k H2 s1
  unfold Kf at this
  rw [lM,List.take_of_length_le (Nat.le_refl _)] at hno
  rw [Rg hno] at this
  exact this
inductive uB (K:PySem.W.Frag) (t:nj) (vs:List V) (H:Hp) (Q:VK) (E:XK):Prop where
 | mk:∀i,i≠5->sG K t i vs H Q E->uB K t vs H Q E
theorem dJ (T:Txt w K mg t):FO P w K mg base 1 t.dz ["self"] (uB K t):=by
 have sc:=T.bH.sc ["self"]
 refine T.bH.F.ok sc ln (fun _ _ _ _ H vs Q E hr h=>?_)
 obtain⟨i,hi,p,nm,ns,is,os,rfl,hP,hn,k⟩:=h
 refine⟨_,(aA (aR aq)),?_⟩
 unfold Fe at k
 rw [if_neg hi] at k
 exact k
theorem Ci (T:Txt w K mg t):FO P w K mg base 1 t.qg ["self"] (sG K t 5):=by
 have sc:=T.lW.sc ["self"]
 refine T.lW.F.ok sc ln (fun _ _ _ _ H vs Q E hr h=>?_)
 obtain⟨p,nm,ns,is,os,rfl,hP,hn,k⟩:=h
 refine⟨_,(aA (aR (aU Jv (bI (pv 0) rfl) aq (fun _ _=>rfl)))),?_⟩
 obtain⟨dx,tn,ti,to,hp,h2,h3,h4⟩:=id hP.ex
 match ns,hn with
 | v:: r,hn=>
  exact⟨_,rfl,p,cls t 5,dx,_,.ref tn,rfl,hp,gZ T 5,qD T 5,qj _ _ _ _,.inr (.inl ⟨tn,_,0,v,rfl,rfl,h2,aN (xs:=v:: r) (j:=0) rfl,k⟩)⟩
theorem Aw (T:Txt w K mg t):FO P w K mg base 1 t.ph ["self", "values", "kept"] (d9 K t 2):=by
 have sc:=T.j7.sc ["self", "values", "kept"]
 refine T.j7.F.ok sc ln (fun _ _ _ _ H vs Q E hr h=>?_)
 obtain⟨p,a,nm,ns,is,os,ws,kp,rfl,hP,ln,hS,lw,hB,k⟩:=h
 refine⟨_,(aA (aR (bL (aa (bu (aa (bL (aa aq (aa (aU aO (pv 1) aq (fun _ _=>rfl)) ak aC) ao)) ak bQ)) (aa (pv 2) ak aj) aQ)))),?_⟩
 obtain⟨dx,tn,ti,to,hp,h2,h3,h4⟩:=id hP.ex
 match ws,lw with
 | [v],_=>
  have fin:∀H' L rs,aM H H'->H L=none->H' L=some (.lst (rs.map V.ref))->cL H' rs (uJ (cD 2 ns [v] kp))->∀U,H' U=none->Q (.ref U) (upd H' U (.tup [.ref L,.int (fW 2 [v] kp)])):=Ae k
  exact⟨_,rfl,a,_,0,_,rfl,rfl,hS,rfl,b8,fun t0 n0=>⟨one_le,fun L nL=>⟨_,rfl,b8,fun U nU=>wW (Q:=fun x H'=>∀U,H' U=none->Q (.ref U) (upd H' U (.tup [x,.int (fW 2 [v] kp)]))) rfl rfl fin n0 nL U nU⟩⟩⟩
theorem zR (T:Txt w K mg t):FO P w K mg base 1 t.pA ["self", "values", "kept"] (d9 K t 3):=by
 have sc:=T.j9.sc ["self", "values", "kept"]
 refine T.j9.F.ok sc ln (fun _ _ _ _ H vs Q E hr h=>?_)
 obtain⟨p,a,nm,ns,is,os,ws,kp,rfl,hP,ln,hS,lw,hB,k⟩:=h
 refine⟨_,(aA (aR (bL (aa (bu (aa (bL (aa aq (aa (aU aO (pv 1) aq (fun _ _=>rfl)) ak aC) ao)) (aa (bL (aa aq (aa (aU aO (pv 1) aq (fun _ _=>rfl)) ak aC) ao)) ak bQ) bQ)) (aa (pv 2) ak aj) aQ)))),?_⟩
 obtain⟨dx,tn,ti,to,hp,h2,h3,h4⟩:=id hP.ex
 match ws,lw with
 | [v],_=>
  have fin:∀H' L rs,aM H H'->H L=none->H' L=some (.lst (rs.map V.ref))->cL H' rs (uJ (cD 3 ns [v] kp))->∀U,H' U=none->Q (.ref U) (upd H' U (.tup [.ref L,.int (fW 3 [v] kp)])):=Ae k
  exact⟨_,rfl,a,_,0,_,rfl,rfl,hS,rfl,b8,fun t0 n0=>⟨_,rfl,a,_,0,_,rfl,rfl,((aB n0).seq hS),rfl,b8,fun t1 n1=>⟨b8,fun L nL=>⟨_,rfl,b8,fun U nU=>S5 (Q:=fun x H'=>∀U,H' U=none->Q (.ref U) (upd H' U (.tup [x,.int (fW 3 [v] kp)]))) rfl rfl rfl rfl fin n0 n1 nL U nU⟩⟩⟩⟩
theorem Ax (T:Txt w K mg t):FO P w K mg base 2 t.o8 ["self", "values", "kept"] (d9 K t 4):=by
 have sc:=T.km.sc ["self", "values", "kept"]
 refine T.km.F.ok sc ln (fun _ _ _ _ H vs Q E hr h=>?_)
 obtain⟨p,a,nm,ns,is,os,ws,kp,rfl,hP,ln,hS,lw,hB,k⟩:=h
 refine⟨_,(aA (aR (bL (aa (bu (aa (bL (aa aq (aa (dY (Eo T) T.BP hr (aa (aY cJ (aY kW (aU Jv (bI (pv 0) rfl) aq (fun _ _=>rfl)) (aU aO (pv 1) aq (fun _ _=>rfl))) (aU Jv (bI (pv 0) rfl) aq (fun _ _=>rfl))) ak bG)) ak aW) ao)) ak bQ)) (aa (pv 2) ak aj) aQ)))),?_⟩
 obtain⟨dx,tn,ti,to,hp,h2,h3,h4⟩:=id hP.ex
 match ws,lw,ns,ln with
 | [v],_,[m,m1],_=>
  have fin:∀H' L rs,aM H H'->H L=none->H' L=some (.lst (rs.map V.ref))->cL H' rs (uJ (cD 4 [m,m1] [v] kp))->∀U,H' U=none->Q (.ref U) (upd H' U (.tup [.ref L,.int (fW 4 [v] kp)])):=Ae k
  exact⟨_,rfl,p,cls t 4,dx,_,.ref tn,rfl,hp,gZ T 4,qD T 4,qj _ _ _ _,.inr (.inl ⟨tn,_,0,_,rfl,rfl,h2,rfl,_,rfl,a,_,0,_,rfl,rfl,hS,rfl,_,_,rfl,rfl,Wq hB (by simp),_,rfl,p,cls t 4,dx,_,.ref tn,rfl,hp,gZ T 4,qD T 4,qj _ _ _ _,.inr (.inl ⟨tn,_,1,_,rfl,rfl,h2,rfl,_,_,rfl,rfl,_,rfl,b8,fun t0 n0=>⟨one_le,fun L nL=>⟨_,rfl,b8,fun U nU=>wW (Q:=fun x H'=>∀U,H' U=none->Q (.ref U) (upd H' U (.tup [x,.int (fW 4 [v] kp)]))) rfl rfl fin n0 nL U nU⟩⟩⟩)⟩)⟩
theorem BX (T:Txt w K mg t):FO P w K mg base 2 t.pH ["self", "values", "kept"] (d9 K t 5):=by
 have sc:=T.j6.sc ["self", "values", "kept", "together"]
 refine T.j6.F.ok sc ln (fun _ _ _ _ H vs Q E hr h=>?_)
 obtain⟨p,a,nm,ns,is,os,ws,kp,rfl,hP,ln,hS,lw,hB,k⟩:=h
 refine⟨_,(az (sN sc 3 (dY (Eo T) T.BP hr (aa (aY cJ (pv 2) (aU aO (pv 1) aq (fun _ _=>rfl))) ak bG)))
  (aA (aR (bL (aa (bu (aa (bL (aa aq (aa (pv 3) ak aj) ao)) ak bQ)) (aa (pv 3) ak aj) aQ))))),?_⟩
 obtain⟨dx,tn,ti,to,hp,h2,h3,h4⟩:=id hP.ex
 match ws,lw with
 | [v],_=>
  have fin:∀H' L rs,aM H H'->H L=none->H' L=some (.lst (rs.map V.ref))->cL H' rs (uJ (cD 5 ns [v] kp))->∀U,H' U=none->Q (.ref U) (upd H' U (.tup [.ref L,.int (fW 5 [v] kp)])):=Ae k
  exact⟨_,rfl,_,rfl,a,_,0,_,rfl,rfl,hS,rfl,_,_,rfl,rfl,_,rfl,_,rfl,b8,fun t0 n0=>⟨one_le,fun L nL=>⟨_,rfl,b8,fun U nU=>wW (Q:=fun x H'=>∀U,H' U=none->Q (.ref U) (upd H' U (.tup [x,.int (fW 5 [v] kp)]))) rfl rfl fin n0 nL U nU⟩⟩⟩
theorem BZ (T:Txt w K mg t):FO P w K mg base 2 t.qu ["self", "values", "kept"] (d9 K t 6):=by
 have sc:=T.lN.sc ["self", "values", "kept"]
 refine T.lN.F.ok sc ln (fun _ _ _ _ H vs Q E hr h=>?_)
 obtain⟨p,a,nm,ns,is,os,ws,kp,rfl,hP,ln,hS,lw,hB,k⟩:=h
 refine⟨_,(aA (aR (bL (aa (bu (aa (bL (aa aq (aa (dY (Eo T) T.BP hr (aa (aY cJ (aU aO (pv 1) aq (fun _ _=>rfl)) (aU aO (pv 1) aq (fun _ _=>rfl))) ak bG)) ak aW) ao)) ak bQ)) (aa (pv 2) ak aj) aQ)))),?_⟩
 obtain⟨dx,tn,ti,to,hp,h2,h3,h4⟩:=id hP.ex
 match ws,lw with
 | [v,v1],_=>
  have fin:∀H' L rs,aM H H'->H L=none->H' L=some (.lst (rs.map V.ref))->cL H' rs (uJ (cD 6 ns [v,v1] kp))->∀U,H' U=none->Q (.ref U) (upd H' U (.tup [.ref L,.int (fW 6 [v,v1] kp)])):=Ae k
  exact⟨_,rfl,a,_,0,_,rfl,rfl,hS,rfl,_,rfl,a,_,1,_,rfl,rfl,hS,rfl,_,_,rfl,rfl,_,rfl,b8,fun t0 n0=>⟨one_le,fun L nL=>⟨_,rfl,b8,fun U nU=>wW (Q:=fun x H'=>∀U,H' U=none->Q (.ref U) (upd H' U (.tup [x,.int (fW 6 [v,v1] kp)]))) rfl rfl fin n0 nL U nU⟩⟩⟩
theorem Bf (T:Txt w K mg t):FO P w K mg base 1 t.o7 ["self", "values", "kept"] (d9 K t 7):=by
 have sc:=T.j8.sc ["self", "values", "kept"]
 refine T.j8.F.ok sc ln (fun _ _ _ _ H vs Q E hr h=>?_)
 obtain⟨p,a,nm,ns,is,os,ws,kp,rfl,hP,ln,hS,lw,hB,k⟩:=h
 refine⟨_,(aA (aR (bL (aa (bu (aa (bL (aa aq (aa (zV (bj pU (aU aO (pv 1) aq (fun _ _=>rfl)) (aU aO (pv 1) aq (fun _ _=>rfl)) (bK _)) aq aq) ak Jr) ao)) ak bQ)) (aa (pv 2) ak aj) aQ)))),?_⟩
 obtain⟨dx,tn,ti,to,hp,h2,h3,h4⟩:=id hP.ex
 match ws,lw with
 | [v,v1],_=>
  have fin:∀H' L rs,aM H H'->H L=none->H' L=some (.lst (rs.map V.ref))->cL H' rs (uJ (cD 7 ns [v,v1] kp))->∀U,H' U=none->Q (.ref U) (upd H' U (.tup [.ref L,.int (fW 7 [v,v1] kp)])):=Ae k
  refine⟨_,rfl,a,_,0,_,rfl,rfl,hS,rfl,_,rfl,a,_,1,_,rfl,rfl,hS,rfl,_,_,rfl,rfl,_,rfl,jt (fun h=>?_) (fun h=>?_)⟩
  ·have h':v <v1:=of_decide_eq_true h
   exact⟨b8,fun t0 n0=>⟨one_le,fun L nL=>⟨_,rfl,b8,fun U nU=>wW (Q:=fun x H'=>∀U,H' U=none->Q (.ref U) (upd H' U (.tup [x,.int (fW 7 [v,v1] kp)]))) rfl (by show(1:Int)=if v <v1 then 1 else 0;rw [if_pos h']) fin n0 nL U nU⟩⟩⟩
  ·have h':¬v <v1:=fun z=>h (decide_eq_true z)
   exact⟨b8,fun t0 n0=>⟨one_le,fun L nL=>⟨_,rfl,b8,fun U nU=>wW (Q:=fun x H'=>∀U,H' U=none->Q (.ref U) (upd H' U (.tup [x,.int (fW 7 [v,v1] kp)]))) rfl (by show(0:Int)=if v <v1 then 1 else 0;rw [if_neg h']) fin n0 nL U nU⟩⟩⟩
theorem zq (T:Txt w K mg t):FO P w K mg base 1 t.m5 ["self", "values", "kept"] (d9 K t 8):=by
 have sc:=T.jQ.sc ["self", "values", "kept"]
 refine T.jQ.F.ok sc ln (fun _ _ _ _ H vs Q E hr h=>?_)
 obtain⟨p,a,nm,ns,is,os,ws,kp,rfl,hP,ln,hS,lw,hB,k⟩:=h
 refine⟨_,(aA (aR (bL (aa (bu (aa (bL (aa aq (aa (bf (Dy rfl) (by rfl) T.SX Qp (aa (pv 1) ak aj)) ak aW) ao)) (aa (bL (aa aq (aa (bf (Ec rfl) (by rfl) T.Kr Ey (aa (pv 1) ak aj)) ak aW) ao)) ak bQ) bQ)) (aa (pv 2) ak aj) aQ)))),?_⟩
 obtain⟨dx,tn,ti,to,hp,h2,h3,h4⟩:=id hP.ex
 match ws,lw with
 | [v,v1],_=>
  have fin:∀H' L rs,aM H H'->H L=none->H' L=some (.lst (rs.map V.ref))->cL H' rs (uJ (cD 8 ns [v,v1] kp))->∀U,H' U=none->Q (.ref U) (upd H' U (.tup [.ref L,.int (fW 8 [v,v1] kp)])):=Ae k
  exact⟨_,rfl,a,v,v1,rfl,hS,b8,fun t0 n0=>⟨_,rfl,a,v,v1,rfl,(aB n0).seq hS,b8,fun t1 n1=>⟨b8,fun L nL=>⟨_,rfl,b8,fun U nU=>S5 (Q:=fun x H'=>∀U,H' U=none->Q (.ref U) (upd H' U (.tup [x,.int (fW 8 [v,v1] kp)]))) rfl rfl rfl rfl fin n0 n1 nL U nU⟩⟩⟩⟩
theorem xU (T:Txt w K mg t):FO P w K mg base 1 t.lG ["self", "values", "kept"] (d9 K t 9):=by
 have sc:=T.jo.sc ["self", "values", "kept"]
 refine T.jo.F.ok sc ln (fun _ _ _ _ H vs Q E hr h=>?_)
 obtain⟨p,a,nm,ns,is,os,ws,kp,rfl,hP,ln,hS,lw,hB,k⟩:=h
 refine⟨_,(aA (aR (bL (aa (bu (aa (bL (aa aq (aa (aU aO (pv 1) aq (fun _ _=>rfl)) ak aC) ao)) ak bQ)) (aa (pv 2) ak aj) aQ)))),?_⟩
 obtain⟨dx,tn,ti,to,hp,h2,h3,h4⟩:=id hP.ex
 match ws,lw with
 | [v,v1],_=>
  have fin:∀H' L rs,aM H H'->H L=none->H' L=some (.lst (rs.map V.ref))->cL H' rs (uJ (cD 9 ns [v,v1] kp))->∀U,H' U=none->Q (.ref U) (upd H' U (.tup [.ref L,.int (fW 9 [v,v1] kp)])):=Ae k
  exact⟨_,rfl,a,_,1,_,rfl,rfl,hS,rfl,b8,fun t0 n0=>⟨one_le,fun L nL=>⟨_,rfl,b8,fun U nU=>wW (Q:=fun x H'=>∀U,H' U=none->Q (.ref U) (upd H' U (.tup [x,.int (fW 9 [v,v1] kp)]))) rfl rfl fin n0 nL U nU⟩⟩⟩
theorem zm (T:Txt w K mg t):FO P w K mg base 1 t.mL ["self", "values", "kept"] (d9 K t 10):=by
 have sc:=T.jG.sc ["self", "values", "kept"]
 refine T.jG.F.ok sc ln (fun _ _ _ _ H vs Q E hr h=>?_)
 obtain⟨p,a,nm,ns,is,os,ws,kp,rfl,hP,ln,hS,lw,hB,k⟩:=h
 refine⟨_,(aA (aR (bL (aa (bu (aa (bL (aa (aY bY (aU aO (pv 1) aq (fun _ _=>rfl)) aq) (aa (aU aO (pv 1) aq (fun _ _=>rfl)) ak aC) bG)) ak bQ)) (aa (pv 2) ak aj) aQ)))),?_⟩
 obtain⟨dx,tn,ti,to,hp,h2,h3,h4⟩:=id hP.ex
 match ws,lw with
 | [v,v1],_=>
  have fin:∀H' L rs,aM H H'->H L=none->H' L=some (.lst (rs.map V.ref))->cL H' rs (uJ (cD 10 ns [v,v1] kp))->∀U,H' U=none->Q (.ref U) (upd H' U (.tup [.ref L,.int (fW 10 [v,v1] kp)])):=Ae k
  exact⟨_,rfl,a,_,0,_,rfl,rfl,hS,rfl,_,_,rfl,rfl,by show(0:Int) <2;decide,_,rfl,a,_,1,_,rfl,rfl,hS,rfl,b8,fun t0 n0=>⟨one_le,fun L nL=>⟨_,rfl,b8,fun U nU=>wW (Q:=fun x H'=>∀U,H' U=none->Q (.ref U) (upd H' U (.tup [x,.int (fW 10 [v,v1] kp)]))) rfl rfl fin n0 nL U nU⟩⟩⟩
theorem By (T:Txt w K mg t):FO P w K mg base 1 t.pB ["self", "values", "kept"] (d9 K t 0):=by
 have sc:=T.kI.sc ["self", "values", "kept"]
 refine T.kI.F.ok sc ln (fun _ _ _ _ H vs Q E hr h=>?_)
 obtain⟨p,a,nm,ns,is,os,ws,kp,rfl,hP,ln,hS,lw,hB,k⟩:=h
 refine⟨_,(aA (aR (bL (aa (bu (aa (bL (aa aq (aa (aU aO (pv 1) aq (fun _ _=>rfl)) ak aC) ao)) ak bQ)) (aa (pv 2) ak aj) aQ)))),?_⟩
 obtain⟨dx,tn,ti,to,hp,h2,h3,h4⟩:=id hP.ex
 match ws,lw with
 | [v],_=>
  have fin:∀H' L rs,aM H H'->H L=none->H' L=some (.lst (rs.map V.ref))->cL H' rs (uJ (cD 0 ns [v] kp))->∀U,H' U=none->Q (.ref U) (upd H' U (.tup [.ref L,.int (fW 0 [v] kp)])):=Ae k
  exact⟨_,rfl,a,_,0,_,rfl,rfl,hS,rfl,b8,fun t0 n0=>⟨one_le,fun L nL=>⟨_,rfl,b8,fun U nU=>wW (Q:=fun x H'=>∀U,H' U=none->Q (.ref U) (upd H' U (.tup [x,.int (fW 0 [v] kp)]))) rfl rfl fin n0 nL U nU⟩⟩⟩
theorem Bx (T:Txt w K mg t):FO P w K mg base 1 t.oZ ["self", "values", "kept"] (d9 K t 1):=by
 have sc:=T.kY.sc ["self", "values", "kept"]
 refine T.kY.F.ok sc ln (fun _ _ _ _ H vs Q E hr h=>?_)
 obtain⟨p,a,nm,ns,is,os,ws,kp,rfl,hP,ln,hS,lw,hB,k⟩:=h
 refine⟨_,(aA (aR (bL (aa (bu ak) (aa (pv 2) ak aj) aQ)))),?_⟩
 obtain⟨dx,tn,ti,to,hp,h2,h3,h4⟩:=id hP.ex
 match ws,lw with
 | [v],_=>
  have fin:∀H' L rs,aM H H'->H L=none->H' L=some (.lst (rs.map V.ref))->cL H' rs (uJ (cD 1 ns [v] kp))->∀U,H' U=none->Q (.ref U) (upd H' U (.tup [.ref L,.int (fW 1 [v] kp)])):=Ae k
  exact⟨by show 0<=sizeLine;decide,fun L nL=>⟨_,rfl,b8,fun U nU=>fin _ L [] (aB nL) nL au .nil U nU⟩⟩
inductive ye (vs:List V) (H:Hp) (Q:VK) (E:XK):Prop where
 | mk:∀a b:Int,vs=[.int a,.int b]->Q (.int (cH a b)) H->ye vs H Q E
theorem bh (T:Txt w K mg t):FO P w K mg base 1 t.Ad ["_law_cell_here", "_law_k"] (ye):=by
 have sc:=T.bx.sc ["_law_cell_here", "_law_k", "_law_number"]
 refine T.bx.F.ok sc ln (fun _ _ _ _ H vs Q E hr h=>?_)
 obtain⟨a,b,rfl,k⟩:=h
 refine⟨_,(az (sN sc 2 (aY bY (aY cJ (aY cJ (aY kW (aY bY (pv 0) aq) aq) (aY kW aq (pv 1))) aq) aq))
  (az (sN sc 2 (aY bY (aY kW (pv 2) (pv 2)) aq))
  (aA (aR (aY bY (aY kW (aY cJ (pv 2) (aY kW aq (pv 1))) (pv 2)) aq))))),?_⟩
 refine⟨_,rfl,_,_,rfl,rfl,by show(0:Int) <2147483647;decide,_,_,rfl,rfl,Gk,_,rfl,_,_,rfl,rfl,lE,_,_,rfl,rfl,_,_,rfl,rfl,_,_,rfl,rfl,by show(0:Int) <2147483647;decide,?_⟩
 unfold cH at k
 have y0:0<=(a % 2147483647 * 48271+7919 * b+11) % 2147483647:=Int.emod_nonneg _ (by decide)
 have y1:(a % 2147483647 * 48271+7919 * b+11) % 2147483647 <2147483647:=Int.emod_lt_of_pos _ (by decide)
 refine⟨_,rfl,_,rfl,_,_,rfl,rfl,.of_right (intBits_le_64 (Int.lt_of_lt_of_le (show -(2 ^ 64) <(0:Int) by decide) y0) (Int.lt_trans y1 (by decide))),_,_,rfl,rfl,by show(0:Int) <2147483629;decide,?_⟩
 have z0:0<=((a % 2147483647 * 48271+7919 * b+11) % 2147483647) * ((a % 2147483647 * 48271+7919 * b+11) % 2147483647) % 2147483629:=Int.emod_nonneg _ (by decide)
 have z1:((a % 2147483647 * 48271+7919 * b+11) % 2147483647) * ((a % 2147483647 * 48271+7919 * b+11) % 2147483647) % 2147483629 <2147483629:=Int.emod_lt_of_pos _ (by decide)
 exact⟨_,rfl,_,rfl,_,_,rfl,rfl,lE,_,_,rfl,rfl,_,rfl,_,_,rfl,rfl,.of_right (intBits_le_64 (Int.lt_of_lt_of_le (show -(2 ^ 64) <(0:Int) by decide) z0) (Int.lt_trans z1 (by decide))),_,_,rfl,rfl,by show(0:Int) <2147483587;decide,k⟩
inductive wU (K:PySem.W.Frag) (vs:List V) (H:Hp) (Q:VK) (E:XK):Prop where
 | mk:∀(a:Addr) (ns:List Int) (j:Nat),vs=[.ref a,.int (j:Nat)]->bT K H a (ns.map V.int)->Q (.int (jB ns j)) H->wU K vs H Q E
theorem iI (T:Txt w K mg t):FO P w K mg base 1 t.yP ["_law_script", "_law_k"] (wU K):=by
 have sc:=T.gr.sc ["_law_script", "_law_k"]
 refine T.gr.F.ok sc ln (fun _ _ _ _ H vs Q E hr h=>?_)
 obtain⟨a,ns,j,rfl,hS,k⟩:=h
 refine⟨_,(az (bO (bj pU (pv 1) (bf b7 (by rfl) T.fj dB (aa (pv 0) ak aj)) (bK _))
   (aA (aR (aU aO (pv 0) (pv 1) (fun _ _=>rfl))))
   bc)
  (aA (aR (aY cJ (aY kW aq (pv 1)) aq)))),?_⟩
 unfold jB at k
 refine⟨_,rfl,_,rfl,.ref a,ns.length,rfl,.inl ⟨_,hS,by simp⟩,_,_,rfl,rfl,_,rfl,jt (fun h=>?_) (fun h=>?_)⟩
 ·have h':j <ns.length:=by have:=of_decide_eq_true h;omega
  rw [List.getElem?_eq_getElem h'] at k
  exact⟨_,rfl,_,rfl,a,_,j,_,rfl,rfl,hS,aN (by rw [List.getElem?_map,List.getElem?_eq_getElem h'];rfl),k⟩
 ·have h':¬j <ns.length:=fun z=>h (decide_eq_true (by omega))
  rw [List.getElem?_eq_none (by omega)] at k
  exact⟨_,rfl,_,_,rfl,rfl,lE,_,_,rfl,rfl,k⟩
inductive ux (vs:List V) (H:Hp) (Q:VK) (E:XK):Prop where
 | mk:∀a b:Int,vs=[.int a,.int b]->Q (.int (mD a b)) H->ux vs H Q E
theorem gK (T:Txt w K mg t):FO P w K mg base 2 t.vL ["_law_cell_here", "_law_k"] (ux):=by
 have sc:=T.fQ.sc ["_law_cell_here", "_law_k", "_law_number", "_law_way"]
 refine T.fQ.F.ok sc ln (fun _ _ _ _ H vs Q E hr h=>?_)
 obtain⟨a,b,rfl,k⟩:=h
 refine⟨_,(az (sN sc 2 (dY (bh T) T.bx hr (aa (pv 0) (aa (pv 1) ak aj) aj)))
  (az (sN sc 3 (aY bY (aY Ob (pv 2) aq) aq))
  (az (bO (bj fX (pv 3) aq (bK _))
   (aA (aR (aY bY (pv 2) aq)))
   bc)
  (az (bO (bj fX (pv 3) aq (bK _))
   (aA (aR (aY bY (pv 2) (aY xR aq aq))))
   bc)
  (aA (aR (aY Jb (aY Jb (aY xR aq aq) aq) (aY bY (pv 2) aq)))))))),?_⟩
 refine⟨_,rfl,_,rfl,a,b,rfl,?_⟩
 unfold mD at k
 have n0:=yX a b
 generalize cH a b=n at n0 k ⊢
 refine⟨_,rfl,_,_,rfl,rfl,VD (by decide) (by decide),_,_,rfl,rfl,by show(0:Int) <3;decide,?_⟩
 refine⟨_,rfl,rfl,_,rfl,jt (fun h=>?_) (fun h=>?_)⟩
 ·have h':n / 7 % 3=0:=by simpa using of_decide_eq_true h
  rw [if_pos h'] at k
  exact⟨_,rfl,_,_,rfl,rfl,by show(0:Int) <5;decide,k⟩
 have h':¬n / 7 % 3=0:=fun z=>h (decide_eq_true (by show V.int (n / 7 % 3)=V.int 0;rw [z]))
 rw [if_neg h'] at k
 refine⟨_,rfl,rfl,_,rfl,jt (fun h2=>?_) (fun h2=>?_)⟩
 ·have h2':n / 7 % 3=1:=by simpa using of_decide_eq_true h2
  rw [if_pos h2'] at k
  exact⟨_,rfl,_,_,rfl,rfl,⟨by decide,by decide,by decide⟩,_,_,rfl,rfl,by show(0:Int) <10 ^ 9;decide,k⟩
 have h2':¬n / 7 % 3=1:=fun z=>h2 (decide_eq_true (by show V.int (n / 7 % 3)=V.int 1;rw [z]))
 rw [if_neg h2'] at k
 exact⟨_,_,rfl,rfl,⟨by decide,by decide,by decide⟩,_,_,rfl,rfl,_,rfl,_,_,rfl,rfl,by show(0:Int) <3;decide,_,_,rfl,rfl,k⟩
theorem Kv {x y:Str} (h:x.cps.toList=y.cps.toList):x=y:=PyProof.Rows.ext_toList h
theorem Mh {n:Int} (h0:0<=n) (h1:n <2000):n.natAbs.log2 <1920:=by
 by_cases z:n.natAbs=0
 ·rw [z]
  decide
 ·have:n.natAbs.log2 <11:=(Nat.log2_lt z).mpr (by omega)
  omega
theorem join_ones (cs:List Nat):(Txt.join Str.empty (cs.map fun c=>(⟨#[c]⟩:Str))).cps.toList=cs:=by
 unfold Txt.join
 rw [StrLaws.glued_eq_join,Bq]
 induction cs with
 | nil=>rfl
 | cons c r ih=>simpa using ih
theorem Ud {x:Str} {n:Nat} (h:n<=x.length):(Txt.slice x none (some (n:Int))).cps.toList=x.cps.toList.take n:=by
 have e:=beq_iff_eq.mp (PyProof.Rows.slice_closes_toL (x:=x) (j:=(n:Int)) (by omega) (by omega))
 rw [e]
 simp
theorem Ou {x:Str} {n:Nat} (h:n<=x.length):(Txt.slice x (some (n:Int)) none).cps.toList=x.cps.toList.drop n:=by
 have e:=PyProof.Rows.slice_from_eq (x:=x) (i:=(n:Int)) (b:=(x.length:Int)) (by omega) (by omega) rfl
 rw [e]
 show List.take ((x.length:Int) - n).toNat (List.drop ((n:Int)).toNat x.cps.toList)=_
 rw [Int.toNat_natCast,List.take_of_length_le (by rw [List.length_drop,mq];omega)]
inductive wO (vs:List V) (H:Hp) (Q:VK) (E:XK):Prop where
 | mk:∀(a:Int) (b:Nat),vs=[.int a,.int (b:Nat)]->b<=25->(∀H':Hp,aM H H'->Q (.str (cY a b)) H')->wO vs H Q E
noncomputable abbrev yu:List Str:=["_law_cell_here", "_law_k", "_law_letters", "_law_many", "_law_base", "_law_at"]
theorem lV (T:Txt w K mg t):FO P w K mg base 2 t.yD ["_law_cell_here", "_law_k"] (wO):=by
 have sc:=T.jF.sc yu
 refine T.jF.F.ok sc ln (fun _ _ _ _ H vs Q E hr h=>?_)
 obtain⟨a,b,rfl,b1,k⟩:=h
 refine⟨_,(az (sN sc 2 bR)
  (az (bO (bj fX (aY bY (dY (bh T) T.bx hr (aa (pv 0) (aa aq ak ao) aj)) aq) aq (bK _))
   (aA (aR (aY uV (aU Be (pv 2) (aY bY (dY (bh T) T.bx hr (aa (pv 0) (aa aq ak ao) aj)) aq) (fun _ _=>rfl)) (cB Gu (by rfl) T.S9 QC (aa (aY cJ (aY bY (dY (bh T) T.bx hr (aa (pv 0) (aa aq ak ao) aj)) aq) (aY kW aq (pv 1))) ak bG)))))
   bc)
  (az (sN sc 3 (aY bY (dY (bh T) T.bx hr (aa (pv 0) (aa aq ak ao) aj)) aq))
  (az (sN sc 4 (Ag PySem.F.plainAttrs_str PySem.F.slot_str_join PySem.F.type_str_join QL bR (aa (fM [0,2] yu (bz (top 68)) rfl (jz rfl T.j5 (aa (pv 3) ak aj)) (fun _ _ _ _ _=>gh) (fun _ _ _ _ _=>(aU Be (pv 2) (aY bY (dY (bh T) T.bx hr (aa (pv 1) (aa (aY cJ aq (pv 0)) ak bG) aj)) aq) (fun _ _=>rfl)))) ak cP)))
  (az (sN sc 5 (aY bY (dY (bh T) T.bx hr (aa (pv 0) (aa aq ak ao) aj)) (aY cJ (pv 3) aq)))
  (aA (aR (aY uV (aY uV (p8 Ov (pv 4) zL (n8 (pv 5))) (aU Be (pv 2) (aY bY (aY cJ (dY (bh T) T.bx hr (aa (pv 0) (aa aq ak ao) aj)) (pv 1)) aq) (fun _ _=>rfl))) (p8 Ov (pv 4) (n8 (pv 5)) zL))))))))),?_⟩
 have hl:sizeLine=16777216:=sizeLine_eq
 have hF:(cY a b).cps.toList=yU a b:=Bm a b
 unfold yU at hF
 refine⟨_,rfl,_,_,rfl,⟨_,_,rfl,rfl,by show(0:Int) <3;decide,rfl,_,rfl,jt (fun hw=>?_) (fun hw=>?_)⟩⟩
 ·have hw':cH a 52 % 3=0:=by simpa using of_decide_eq_true hw
  rw [if_pos hw'] at hF
  refine⟨_,rfl,_,rfl,_,_,rfl,?_⟩
  refine⟨_,_,rfl,rfl,by show(0:Int) <26;decide,LT,_,_,rfl,rfl,by rw [JD];omega,Qm _,?_⟩
  refine⟨_,rfl,_,_,rfl,⟨_,_,rfl,rfl,by show(0:Int) <1000;decide,_,rfl,_,_,rfl,rfl,lE,_,_,rfl,rfl,?_⟩⟩
  have q0:=Int.emod_nonneg (cH a 54) (show(1000:Int)≠0 by decide)
  have q1:=Int.emod_lt_of_pos (cH a 54) (show(0:Int) <1000 by decide)
  obtain⟨m,hm⟩:∃m:Nat,cH a 54 % 1000+37 * (b:Int)=(m:Int):=⟨(cH a 54 % 1000+37 * (b:Int)).toNat,by omega⟩
  obtain⟨_,g2,_⟩:=tW (n:=m) (by omega)
  have g3:(toString (m:Int):Str).length<=4:=by rw [<-mq];exact g2
  have e:(⟨#[Hu (cH a 53)]⟩:Str) ++ (toString (m:Int):Str)=cY a b:=Kv (by
   rw [hF,Str.cps_append,hm,Int.toNat_natCast]
   simp only [Array.toList_append]
   rfl)
  have k':=k H (aM.refl _)
  rw [<-e] at k'
  dsimp only
  rw [hm]
  exact⟨_,rfl,Mh (by omega) (by omega),_,_,rfl,rfl,by show 1+_<=sizeLine;omega,k'⟩
 have hw':¬cH a 52 % 3=0:=fun z=>hw (decide_eq_true (by show V.int (cH a 52 % 3)=V.int 0;rw [z]))
 rw [if_neg hw'] at hF
 refine⟨_,rfl,_,_,rfl,⟨_,_,rfl,rfl,by show(0:Int) <7;decide,?_⟩⟩
 have z0:=Int.emod_nonneg (cH a 50) (show(7:Int)≠0 by decide)
 have z1:=Int.emod_lt_of_pos (cH a 50) (show(0:Int) <7 by decide)
 refine⟨rfl,_,rfl,cH a 50 % 7,rfl,by omega,by omega,?_⟩
 refine iG (fun i ys H'=>H'=H/\ys=((List.range i).map fun j=>Hu (cH a (60+(j:Nat)))).map fun c=>V.str ⟨#[c]⟩) (by omega) ⟨rfl,rfl⟩ (fun i ys H' ⟨_,e⟩=>by rw [e,lM,lM,List.length_range];omega) ?_ ?_
 ·rintro i ys H' hi ⟨rfl,rfl⟩
  refine yes ?_
  refine⟨_,rfl,_,rfl,_,rfl,_,_,rfl,rfl,_,_,rfl,?_⟩
  refine⟨_,_,rfl,rfl,by show(0:Int) <26;decide,LT,_,_,rfl,rfl,by rw [JD];omega,Qm _,rfl,?_⟩
  rw [List.range_succ,List.map_append,List.map_append]
  simp
 rintro ys H' ⟨rfl,rfl⟩ D hD
 have eb:((List.range (cH a 50 % 7).toNat).map fun j=>Hu (cH a (60+(j:Nat))))=gA a:=rfl
 rw [eb]
 have s1:aM H' (upd H' D (.lst ((gA a).map fun c=>V.str ⟨#[c]⟩))):=aB hD
 have bl:=(Ao a).1
 have es:((gA a).map fun c=>V.str ⟨#[c]⟩)=((gA a).map fun c=>(⟨#[c]⟩:Str)).map V.str:=by rw [List.map_map];rfl
 refine⟨Str.empty,D,(gA a).map fun c=>(⟨#[c]⟩:Str),rfl,rfl,bT.of (by rw [<-es];exact au),?_,?_⟩
 ·have:=Qs (n:=1) ((gA a).map fun c=>(⟨#[c]⟩:Str)) fun w h=>by
   obtain⟨c,_,rfl⟩:=List.mem_map.mp h
   exact Nat.le_refl 1
  have he:Str.empty.length=0:=rfl
  rw [he]
  rw [lM] at this
  omega
 have ej:=join_ones (gA a)
 generalize upd H' D (.lst ((gA a).map fun c=>V.str ⟨#[c]⟩))=H1 at s1 ⊢
 generalize Txt.join Str.empty ((gA a).map fun c=>(⟨#[c]⟩:Str))=x0 at ej ⊢
 have hx0:x0.length=(gA a).length:=by rw [<-mq,ej]
 refine⟨_,rfl,_,_,rfl,⟨_,rfl,_,_,rfl,rfl,_,_,rfl,rfl,by show(0:Int) <cH a 50 % 7+1;omega,?_⟩⟩
 have hsp:=K8 a
 obtain⟨n,hn,hn2⟩:∃n:Nat,cH a 51 % (cH a 50 % 7+1)=(n:Int)/\n=oM a:=⟨oM a,(Int.toNat_of_nonneg (Int.emod_nonneg _ (by omega))).symm,rfl⟩
 rw [<-hn2] at hsp hF
 dsimp only
 rw [hn]
 have s0:=Txt.slice_le x0 none (some (n:Int))
 have s2:=Txt.slice_le x0 (some (n:Int)) none
 refine⟨_,rfl,_,rfl,_,rfl,x0,rfl,by omega,_,rfl,_,rfl,_,_,rfl,⟨_,rfl,_,_,rfl,rfl,?_⟩⟩
 have h1:(⟨#[Hu (cH a 55+(b:Int))]⟩:Str).length=1:=rfl
 refine⟨_,_,rfl,rfl,by show(0:Int) <26;decide,LT,_,_,rfl,rfl,by rw [JD];omega,Qm _,_,_,rfl,rfl,by rw [h1];omega,?_⟩
 refine⟨_,rfl,_,rfl,_,rfl,x0,rfl,by omega,_,_,rfl,rfl,by rw [Str.length_append,h1];omega,?_⟩
 have e:Txt.slice x0 none (some (n:Int)) ++ (⟨#[Hu (cH a 55+(b:Int))]⟩:Str) ++ Txt.slice x0 (some (n:Int)) none=cY a b:=Kv (by
  rw [hF,Str.cps_append,Str.cps_append]
  simp only [Array.toList_append]
  rw [Ud (by omega),Ou (by omega),ej]
  simp)
 rw [e]
 exact k H1 s1
theorem VL (m:Int):∃c:Nat,Cq [V.int 0,.int 0,.int 0,.int 1,.int 2] (m % 5)=some (.int (c:Nat))/\c<=2:=by
 have key:∀j,j <5->Cq [V.int 0,.int 0,.int 0,.int 1,.int 2] ((j:Nat):Int)=some (.int (([0,0,0,1,2]:List Nat).getD j 0:Nat))/\([0,0,0,1,2]:List Nat).getD j 0<=2:=by decide +kernel
 obtain⟨j,e,hj⟩:=Jp m (n:=5) (k:=5) (by decide) rfl
 rw [e]
 exact⟨_,key j hj⟩
theorem WL (m:Int):∃c:Nat,Cq [V.int 0,.int 0,.int 1,.int 1,.int 2,.int 7] (m % 6)=some (.int (c:Nat))/\c<=7:=by
 have key:∀j,j <6->Cq [V.int 0,.int 0,.int 1,.int 1,.int 2,.int 7] ((j:Nat):Int)=some (.int (([0,0,1,1,2,7]:List Nat).getD j 0:Nat))/\([0,0,1,1,2,7]:List Nat).getD j 0<=7:=by decide +kernel
 obtain⟨j,e,hj⟩:=Jp m (n:=6) (k:=6) (by decide) rfl
 rw [e]
 exact⟨_,key j hj⟩
inductive vI (vs:List V) (H:Hp) (Q:VK) (E:XK):Prop where
 | mk:∀(d:Dw) (ls:List aK) (ps:List PD) (os:List Str) (c:Int) (b:Bool),vs=[.ref d.S,.int c,.bl b]->lZ d H ls ps os->ls.length<=24->(∀(l:aK) (H':Hp),l.name=cY d.c3 ls.length->aM (bA d.E H) (bA d.E H')->lZ d H' (ls ++ [l]) ps os->Q (.str l.name) H')->vI vs H Q E
noncomputable abbrev yq:List Str:=["_law_state", "_law_cell_here", "_law_back", "_law_many", "_law_first", "_law_room", "_law_name"]
theorem jH (T:Txt w K mg t):FO P w K mg base 3 t.yf ["_law_state", "_law_cell_here", "_law_back"] (vI):=by
 have sc:=T.gY.sc yq
 refine T.gY.F.ok sc ln (fun _ _ _ _ H vs Q E hr h=>?_)
 obtain⟨d,ls,ps,os,c,b,rfl,D,hn,k⟩:=h
 refine⟨_,(az (sN sc 3 (aU aO (bu (aa aq (aa aq (aa aq (aa aq (aa aq ak ao) ao) ao) ao) ao)) (aY bY (dY (bh T) T.bx hr (aa (pv 1) (aa aq ak ao) aj)) aq) (fun _ _=>rfl)))
  (az (eX (bO (fH (pv 2))
   (aA (sN sc 3 (aY bY (dY (bh T) T.bx hr (aa (pv 1) (aa aq ak ao) aj)) aq)))
   bc))
  (az (pR (i:=4) [1] yq (bz (top 69)) rfl sc.nd rfl (jz rfl T.j5 (aa (pv 3) ak aj)) (fun _ _ _ _ _=>gh) (fun _ _ _ _ _=>(dY (gK T) T.fQ hr (aa (pv 1) (aa (aY cJ aq (pv 0)) ak bG) aj))))
  (az (sN sc 5 (aY cJ (bf (CG rfl) (by rfl) T.Kr Ey (aa aq (aa (pv 3) ak aj) ao)) (aU aO (bu (aa aq (aa aq (aa aq (aa aq (aa aq (aa aq ak ao) ao) ao) ao) ao) ao)) (aY bY (dY (bh T) T.bx hr (aa (pv 1) (aa aq ak ao) aj)) aq) (fun _ _=>rfl))))
  (az (sN sc 6 (dY (lV T) T.jF hr (aa (aU aO (pv 0) aq (fun _ _=>rfl)) (aa (bf b7 (by rfl) T.fj dB (aa (aU aO (pv 0) aq (fun _ _=>rfl)) ak aC)) ak aW) aC)))
  (az (bM (Ft (aU aO (pv 0) aq (fun _ _=>rfl)) (aa (bL (aa (pv 6) (aa (pv 5) (aa (pv 4) ak aj) aj) aj)) ak bQ)))
  (aA (aR (pv 6))))))))),?_⟩
 have hl:sizeLine=16777216:=sizeLine_eq
 refine⟨il,fun l0 n0=>?_⟩
 have s0:=aB (o:=.lst [.int 0,.int 0,.int 0,.int 1,.int 2]) n0
 obtain⟨c0,e0,h0⟩:=VL (cH c 1)
 refine⟨_,rfl,_,_,rfl,_,_,rfl,rfl,by show(0:Int) <5;decide,l0,_,_,_,rfl,rfl,bT.of au,e0,?_⟩
 generalize upd H l0 (.lst [.int 0,.int 0,.int 0,.int 1,.int 2])=H0 at s0 ⊢
 refine⟨fun σ H1=>∃m:Nat,m<=3/\H1=H0/\σ=[some (.ref d.S),some (.int c),some (.bl b),some (.int (m:Nat)),none,none,none],?_,?_⟩
 ·cases b
  ·exact⟨_,rfl,false,rfl,dI ⟨c0,by omega,rfl,rfl⟩⟩
  ·refine⟨_,rfl,true,rfl,ji ⟨_,rfl,_,_,rfl,_,_,rfl,rfl,by show(0:Int) <4;decide,?_⟩⟩
   have h1:=Int.emod_nonneg (cH c 1) (show(4:Int)≠0 by decide)
   have h2:=Int.emod_lt_of_pos (cH c 1) (show(0:Int) <4 by decide)
   refine⟨(cH c 1 % 4).toNat,by omega,rfl,?_⟩
   rw [Int.toNat_of_nonneg h1]
   rfl
 rintro σ H1 ⟨m,hm,rfl,rfl⟩
 refine⟨_,rfl,(m:Int),rfl,by omega,by omega,?_⟩
 rw [Int.toNat_natCast]
 refine iG (fun i ys H'=>H'=H1/\∃ws:List Int,ys=ws.map V.int/\ws.length=i/\∀v∈ws,0<=v/\v <1000000000) (by omega) ⟨rfl,[],rfl,rfl,by simp⟩ (fun i ys H' ⟨_,ws,e,e2,_⟩=>by rw [e,lM];omega) ?_ ?_
 ·rintro i ys H' hi ⟨rfl,ws,rfl,hw,hB⟩
  refine yes ⟨_,rfl,_,rfl,_,_,rfl,rfl,c,10+(0+(i:Int)),rfl,rfl,ws ++ [mD c (10+(0+(i:Int)))],by simp,by simp [hw],fun v hv=>?_⟩
  rcases List.mem_append.mp hv with hv | hv
  ·exact hB v hv
  ·rw [List.mem_singleton] at hv
   subst hv
   exact mz _ _
 rintro ys H' ⟨rfl,ws,rfl,hw,hB⟩ F nF
 have t1:=aB (o:=.lst (ws.map V.int)) nF
 have sF:=s0.trans t1
 have eF:upd H' F (.lst (ws.map V.int)) F=some (.lst (ws.map V.int)):=au
 have oF:F∉d.E:=D.out (s0.free nF)
 generalize upd H' F (.lst (ws.map V.int))=H2 at t1 sF eF ⊢
 refine⟨_,rfl,_,_,rfl,il,fun l1 n1=>?_⟩
 have t2:=aB (o:=.lst [.int 0,.int 0,.int 1,.int 1,.int 2,.int 7]) n1
 obtain⟨c1,e1,h1⟩:=WL (cH c 2)
 refine⟨_,rfl,_,_,rfl,_,_,rfl,rfl,by show(0:Int) <6;decide,l1,_,_,_,rfl,rfl,bT.of au,e1,_,_,rfl,rfl,?_⟩
 have s2:=sF.trans t2
 have eF2:=t2 _ _ eF
 generalize upd H2 l1 (.lst [.int 0,.int 0,.int 1,.int 1,.int 2,.int 7])=H3 at t2 s2 eF2 ⊢
 have D3:=D.keep s2
 obtain⟨xs,eL,aL⟩:=D3.lanes
 have xl:=aL.length
 refine⟨_,rfl,d.S,_,3,_,rfl,rfl,D3.seqS,aN (j:=3) rfl,?_⟩
 refine⟨_,rfl,d.S,_,0,_,rfl,rfl,D3.seqS,aN (j:=0) rfl,.ref d.L,ls.length,rfl,.inl ⟨_,bT.of eL,xl.symm⟩,?_⟩
 refine⟨d.c3,ls.length,rfl,by omega,fun H4 s4=>?_⟩
 have D4:=D3.keep s4
 have eL4:=s4 _ _ eL
 have eF4:=s4 _ _ eF2
 have s04:=s2.trans s4
 refine⟨_,rfl,d.S,_,0,_,rfl,rfl,D4.seqS,aN (j:=0) rfl,?_⟩
 refine⟨.inl ⟨rfl,_,bT.of eL4⟩,_,rfl,_,rfl,_,rfl,il,fun q nq=>?_⟩
 have t5:=aB (o:=.tup [.str (cY d.c3 ls.length),.int ((if (m:Int) >1 then(m:Int) else 1)+(c1:Int)),.ref F]) nq
 have s5:=s04.trans t5
 have D5:=D4.keep t5
 have oq:q∉d.E:=D4.out nq
 have eq:upd H4 q (.tup [.str (cY d.c3 ls.length),.int ((if (m:Int) >1 then(m:Int) else 1)+(c1:Int)),.ref F]) q=some (.tup [.str (cY d.c3 ls.length),.int ((if (m:Int) >1 then(m:Int) else 1)+(c1:Int)),.ref F]):=au
 have eL5:=t5 _ _ eL4
 have eF5:=t5 _ _ eF4
 refine⟨d.L,xs,_,rfl,rfl,eL5,by omega,_,rfl,?_⟩
 refine k ⟨cY d.c3 ls.length,(if (m:Int) >1 then(m:Int) else 1)+(c1:Int),ws⟩ _ rfl ?_ (D5.lane ⟨q,F,rfl,dH eq oq,dH eF5 oF⟩ ⟨by dsimp only;split <;> omega,by dsimp only;split <;> omega,by dsimp only;split <;> omega,hB⟩ rfl eL5)
 rw [fJ (by simp)]
 exact D.cut s5
theorem pop_at:∀{os:List Str} {j:Nat} (h:j <os.length),os.Perm (os[j]:: os.eraseIdx j)
 | [],_,h=>absurd h (by simp)
 | a:: l,0,_=>.refl _
 | a:: l,j+1,h=>by
  have h':j <l.length:=by simpa using h
  show(a:: l).Perm (l[j]:: a:: l.eraseIdx j)
  exact((pop_at (os:=l) (j:=j) (by simpa using h)).cons a).trans (.swap _ _ _)
theorem Dr {α β:Type} {f:α->β}:∀(l:List α) (j:Nat),(l.map f).eraseIdx j=(l.eraseIdx j).map f
 | [],_=>rfl
 | a:: l,0=>rfl
 | a:: l,j+1=>by
  show f a:: (l.map f).eraseIdx j=f a:: (l.eraseIdx j).map f
  rw [Dr l j]
theorem Jd {j n:Nat} (h:j <n):seqIndex? (j:Int) n=some j:=by
 unfold seqIndex?
 have z:¬(j:Int) <0:=by omega
 simp [h,z]
inductive vN (vs:List V) (H:Hp) (Q:VK) (E:XK):Prop where
 | mk:∀(d:Dw) (ls:List aK) (ps:List PD) (os:List Str) (n:Int),vs=[.ref d.S,.int n]->lZ d H ls ps os->os≠[]->os.length<=100->(∀(x:Str) (os':List Str) (H':Hp),os.Perm (x:: os')->aM (bA d.E H) (bA d.E H')->lZ d H' ls ps os'->Q (.str x) H')->vN vs H Q E
theorem qF (T:Txt w K mg t):FO P w K mg base 1 t.yI ["_law_state", "_law_number"] (vN):=by
 have sc:=T.kZ.sc ["_law_state", "_law_number"]
 refine T.kZ.F.ok sc ln (fun _ _ _ _ H vs Q E hr h=>?_)
 obtain⟨d,ls,ps,os,n,rfl,D,hne,hs,k⟩:=h
 refine⟨_,(aA (aR (Ag PySem.F.plainAttrs_list PySem.F.slot_list_pop PySem.F.type_list_pop Bl (aU aO (pv 0) aq (fun _ _=>rfl)) (aa (aY bY (pv 1) (bf b7 (by rfl) T.fj dB (aa (aU aO (pv 0) aq (fun _ _=>rfl)) ak aC))) ak bG)))),?_⟩
 have hpos:0 <os.length:=List.length_pos_iff.mpr hne
 refine⟨_,rfl,d.S,_,2,_,rfl,rfl,D.seqS,aN (j:=2) rfl,.inl ⟨rfl,_,bT.of D.opens⟩,?_⟩
 refine⟨_,rfl,_,rfl,d.S,_,2,_,rfl,rfl,D.seqS,aN (j:=2) rfl,.ref d.O,os.length,rfl,.inl ⟨_,bT.of D.opens,by simp⟩,n,(os.length:Int),rfl,rfl,by omega,?_⟩
 have h0:=Int.emod_nonneg n (show(os.length:Int)≠0 by omega)
 have h1:=Int.emod_lt_of_pos n (show(0:Int) <(os.length:Int) by omega)
 obtain⟨j,hj⟩:∃j:Nat,n % (os.length:Int)=(j:Int):=⟨(n % (os.length:Int)).toNat,by omega⟩
 have hj':j <os.length:=by omega
 refine⟨d.O,_,(j:Int),j,.str os[j],rfl,by show [V.int (n % (os.length:Int))]=_;rw [hj],D.opens,by omega,by omega,by rw [lM];exact Jd hj',by rw [List.getElem?_map,List.getElem?_eq_getElem hj'];rfl,?_⟩
 rw [Dr]
 exact k os[j] (os.eraseIdx j) _ (pop_at hj') (by rw [fJ (by simp)];exact aM.refl _) D.open
inductive vM (vs:List V) (H:Hp) (Q:VK) (E:XK):Prop where
 | mk:∀(d:Dw) (ls:List aK) (ps:List PD) (os:List Str) (c:Int) (i:Nat) (a1 a2:Addr) (nums:List Int) (ins:List Str) (many:Nat),vs=[.ref d.S,.int c,.str (dM i),.ref a1,.ref a2,.int (many:Nat)]->lZ d H ls ps os->bA d.E H a1=some (.lst (nums.map V.int))->bA d.E H a2=some (.lst (ins.map V.str))->i <11->nums.length=cN i->((∀v∈nums,0<=v/\v <1000000000))->ins.length=cI i->many=cO i->ls.length<=22->ps.length<=25->os.length<=100->(∀(newl:List aK) (H':Hp),newl.length=many->aM (bA d.E H) (bA d.E H')->lZ d H' (ls ++ newl) (ps ++ [⟨i,cY d.c4 ps.length,nums,ins,newl.map (·.name)⟩]) (os ++ newl.map (·.name))->Q .non H')->vM vs H Q E
noncomputable abbrev yM:List Str:=["_law_state", "_law_cell_here", "_law_kind", "_law_numbers", "_law_ins", "_law_many", "_law_outs"]
theorem cX (T:Txt w K mg t):FO P w K mg base 4 t.yp ["_law_state", "_law_cell_here", "_law_kind", "_law_numbers", "_law_ins", "_law_many"] (vM):=by
 have sc:=T.cM.sc yM
 refine T.cM.F.ok sc ln (fun _ _ _ _ H vs Q E hr h=>?_)
 obtain⟨d,ls,ps,os,c,i,a1,a2,nums,ins,many,rfl,D,e1,e2,hi,hN,hB,hI,hO,hls,hps,hos,k⟩:=h
 refine⟨_,(az (pR (i:=6) [0,1] yM (bz (top 70)) rfl sc.nd rfl (jz rfl T.j5 (aa (pv 5) ak aj)) (fun _ _ _ _ _=>gh) (fun _ _ _ _ _=>(dY (jH T) T.gY hr (aa (pv 1) (aa (dY (bh T) T.bx hr (aa (pv 2) (aa (aY cJ aq (pv 0)) ak bG) aj)) (aa gm ak ao) aW) aj))))
  (az (bM (Ft (aU aO (pv 0) aq (fun _ _=>rfl)) (aa (bL (aa (pv 2) (aa (dY (lV T) T.jF hr (aa (aU aO (pv 0) aq (fun _ _=>rfl)) (aa (bf b7 (by rfl) T.fj dB (aa (aU aO (pv 0) aq (fun _ _=>rfl)) ak aC)) ak aW) aC)) (aa (pv 3) (aa (pv 4) (aa (pv 6) ak aj) aj) aj) aW) aj)) ak bQ)))
  (aA (bM (Ag PySem.F.plainAttrs_list PySem.F.slot_list_extend PySem.F.type_list_extend Dm (aU aO (pv 0) aq (fun _ _=>rfl)) (aa (pv 6) ak aj)))))),?_⟩
 have hl:sizeLine=16777216:=sizeLine_eq
 have hm2:many<=2:=by rw [hO];exact Ow i
 refine⟨_,rfl,(many:Int),rfl,by omega,by omega,?_⟩
 rw [Int.toNat_natCast]
 refine iG (fun i ys H'=>∃newl:List aK,newl.length=i/\ys=newl.map (fun l=>V.str l.name)/\aM (bA d.E H) (bA d.E H')/\lZ d H' (ls ++ newl) ps os) (by omega) ⟨[],rfl,rfl,aM.refl _,by rw [List.append_nil];exact D⟩ (fun i ys H' ⟨newl,e,e2,_⟩=>by rw [e2,lM];omega) ?_ ?_
 ·rintro j ys H' hj ⟨newl,hn,rfl,s,D'⟩
  refine yes ⟨_,rfl,_,rfl,_,rfl,_,_,rfl,rfl,c,20+(0+(j:Int)),rfl,?_⟩
  refine⟨d,ls ++ newl,ps,os,_,false,rfl,D',by rw [lP];omega,fun l H1 _ s1 D1=>?_⟩
  exact⟨newl ++ [l],by simp [hn],by simp,s.trans s1,by rw [<-List.append_assoc];exact D1⟩
 rintro ys H1 ⟨newl,hn,rfl,s1,D1⟩ F nF
 have t1:=aB (o:=.lst (newl.map fun l=>V.str l.name)) nF
 have eF:upd H1 F (.lst (newl.map fun l=>V.str l.name)) F=some (.lst ((newl.map (·.name)).map V.str)):=by rw [List.map_map];exact au
 have oF:=D1.out nF
 have D2:=D1.keep t1
 have s2:=s1.trans (D1.cut t1)
 generalize upd H1 F (.lst (newl.map fun l=>V.str l.name))=H2 at t1 eF D2 s2 ⊢
 obtain⟨xs,eP,aP⟩:=D2.parts
 have xl:=aP.length
 refine⟨_,rfl,d.S,_,1,_,rfl,rfl,D2.seqS,aN (j:=1) rfl,.inl ⟨rfl,_,bT.of eP⟩,?_⟩
 refine⟨_,rfl,_,rfl,d.S,_,4,_,rfl,rfl,D2.seqS,aN (j:=4) rfl,?_⟩
 refine⟨_,rfl,d.S,_,1,_,rfl,rfl,D2.seqS,aN (j:=1) rfl,.ref d.P,ps.length,rfl,.inl ⟨_,bT.of eP,xl.symm⟩,?_⟩
 refine⟨d.c4,ps.length,rfl,by omega,fun H3 s3=>?_⟩
 have D3:=D2.keep s3
 have t3:=s2.trans (D2.cut s3)
 have eP3:=s3 _ _ eP
 have eF3:=s3 _ _ eF
 refine⟨_,rfl,_,rfl,_,rfl,il,fun q nq=>?_⟩
 have s4:=aB (o:=.tup [.str (dM i),.str (cY d.c4 ps.length),.ref a1,.ref a2,.ref F]) nq
 have D4:=D3.keep s4
 have t4:=t3.trans (D3.cut s4)
 have eP4:=s4 _ _ eP3
 have eF4:=s4 _ _ eF3
 have oq:=D3.out nq
 have eq:upd H3 q (.tup [.str (dM i),.str (cY d.c4 ps.length),.ref a1,.ref a2,.ref F]) q=some (.tup [.str (dM i),.str (cY d.c4 ps.length),.ref a1,.ref a2,.ref F]):=au
 refine⟨d.P,xs,_,rfl,rfl,eP4,by omega,?_⟩
 generalize upd H3 q (.tup [.str (dM i),.str (cY d.c4 ps.length),.ref a1,.ref a2,.ref F])=H4 at s4 D4 t4 eP4 eF4 eq ⊢
 have D5:=D4.part (p:=⟨i,cY d.c4 ps.length,nums,ins,newl.map (·.name)⟩) ⟨q,a1,a2,F,rfl,dH eq oq,t4 _ _ e1,t4 _ _ e2,dH eF4 oF⟩ ⟨hi,hN,hI,by show(newl.map _).length=_;rw [lM,hn];exact hO,hB⟩ rfl eP4
 have hcu:bA d.E (upd H4 d.P (.lst (xs ++ [.ref q])))=bA d.E H4:=fJ (by simp)
 have eF5:upd H4 d.P (.lst (xs ++ [.ref q])) F=some (.lst ((newl.map (·.name)).map V.str)):=by rw [aG (fun z=>oF (by rw [z];simp))];exact eF4
 generalize upd H4 d.P (.lst (xs ++ [.ref q]))=H5 at D5 hcu eF5 ⊢
 refine⟨_,rfl,d.S,_,2,_,rfl,rfl,D5.seqS,aN (j:=2) rfl,.inl ⟨rfl,_,bT.of D5.opens⟩,?_⟩
 refine⟨_,rfl,d.O,F,_,_,rfl,rfl,D5.opens,eF5,by rw [lM,lM,lM];omega,?_⟩
 rw [<-List.map_append]
 exact k newl _ hn (by rw [fJ (by simp),hcu];exact t4) D5.open
theorem R3 (m:Int):∃i:Nat,Cq [V.str "add",V.str "less"] (m % 2)=some (.str (dM i))/\(i=6∨i=7):=by
 have h0:=Int.emod_nonneg m (show(2:Int)≠0 by decide)
 have h1:=Int.emod_lt_of_pos m (show(0:Int) <2 by decide)
 have:m % 2=0∨m % 2=1:=by omega
 rcases this with e | e <;> rw [e]
 ·exact⟨6,rfl,.inl rfl⟩
 ·exact⟨7,rfl,.inr rfl⟩
theorem G6 {one other:Str} {os os1:List Str} (h:os.Perm (other:: os1)):(one:: os).Perm ([one,other] ++ os1):=h.cons one
theorem Vz {one other third:Str} {os os1 os2:List Str} (h:os.Perm (other:: os1)) (h2:os1.Perm (third:: os2)):(one:: os).Perm ([one,other,third] ++ os2):=(h.trans (h2.cons other)).cons one
inductive yr (vs:List V) (H:Hp) (Q:VK) (E:XK):Prop where
 | mk:∀(d:Dw) (ls:List aK) (ps:List PD) (os:List Str) (c:Int) (one:Str) (back:List Str) (odd:Bool),vs=[.ref d.S,.int c,.str one,.bl odd]->lZ d H ls ps os->Drawn.WF (rN ls ps (one:: os) back)->os≠[]->os.length<=3->ls.length<=20->ps.length<=22->(∀ls' ps' os' H',XJ d H H' ls ps back ls' ps' os'->Q .non H')->yr vs H Q E
theorem Iv (T:Txt w K mg t):FO P w K mg base 5 t.Ak ["_law_state", "_law_cell_here", "_law_one", "_law_odd"] (yr):=by
 have sc:=T.vf.sc ["_law_state", "_law_cell_here", "_law_one", "_law_odd", "_law_other", "_law_way", "_law_third"]
 refine T.vf.F.ok sc ln (fun _ _ _ _ H vs Q E hr h=>?_)
 obtain⟨d,ls,ps,os,c,one,back,odd,rfl,D,w,hne,ho,hls,hps,k⟩:=h
 refine⟨_,(az (sN sc 4 (dY (qF T) T.kZ hr (aa (pv 0) (aa (dY (bh T) T.bx hr (aa (pv 1) (aa aq ak ao) aj)) ak aW) aj)))
  (az (sN sc 5 (aY bY (dY (bh T) T.bx hr (aa (pv 1) (aa aq ak ao) aj)) aq))
  (aA (eX (bO (PW.pt (uZ (fH (pv 3)) (uZ (bj pU (pv 5) aq (bK _)) (tX (bj Ds (bf b7 (by rfl) T.fj dB (aa (aU aO (pv 0) aq (fun _ _=>rfl)) ak aC)) aq (bK _))))))
   (az (sN sc 6 (dY (qF T) T.kZ hr (aa (pv 0) (aa (dY (bh T) T.bx hr (aa (pv 1) (aa aq ak ao) aj)) ak aW) aj)))
   (aA (bM (dY (cX T) T.cM hr (aa (pv 0) (aa (pv 1) (aa bR (aa (bu ak) (aa (bu (aa (pv 2) (aa (pv 4) (aa (pv 6) ak aj) aj) aj)) (aa aq ak ao) aQ) aQ) ao) aj) aj)))))
   (aA (eX (bO (PW.pt (uZ (fH (pv 3)) (tX (bj pU (pv 5) aq (bK _)))))
    (aA (bM (dY (cX T) T.cM hr (aa (pv 0) (aa (pv 1) (aa bR (aa (bu ak) (aa (bu (aa (pv 2) (aa (pv 4) ak aj) aj)) (aa aq ak ao) aQ) aQ) ao) aj) aj))))
    (aA (eX (bO (bj fX (aY bY (pv 5) aq) aq (bK _))
     (aA (bM (dY (cX T) T.cM hr (aa (pv 0) (aa (pv 1) (aa bR (aa (bu ak) (aa (bu (aa (pv 2) (aa (pv 4) ak aj) aj)) (aa aq ak ao) aQ) aQ) ao) aj) aj))))
     (aA (bM (dY (cX T) T.cM hr (aa (pv 0) (aa (pv 1) (aa (aU aO (bu (aa bR (aa bR ak ao) ao)) (aY bY (pv 5) aq) (fun _ _=>rfl)) (aa (bu ak) (aa (bu (aa (pv 2) (aa (pv 4) ak aj) aj)) (aa aq ak ao) aQ) aQ) aC) aj) aj))))))))))))))),?_⟩
 have hl:sizeLine=16777216:=sizeLine_eq
 refine⟨_,rfl,_,rfl,_,_,rfl,d,ls,ps,os,_,rfl,D,hne,by omega,fun other os1 H1 p1 s1 D1=>?_⟩
 have l1:=p1.length_eq
 rw [List.length_cons] at l1
 refine⟨_,rfl,_,_,rfl,_,_,rfl,rfl,by show(0:Int) <6;decide,?_⟩
 refine⟨fun _ H'=>Q .non H',?_,fun _ _ h=>h⟩
 have fin:∀{i:Nat} {nm:Str} {newl:List aK} {ins os2:List Str} {H':Hp},aM (bA d.E H) (bA d.E H')->lZ d H' (ls ++ newl) (ps ++ [⟨i,nm,[],ins,newl.map (·.name)⟩]) (os2 ++ newl.map (·.name))->(one:: os).Perm (ins ++ os2)->newl.length≠0->newl.length<=2->os2.length+newl.length<=4->Q .non H':=fun s DD hp h1 h2 h4=>
  k _ _ _ _ ⟨s,DD,pY w rfl DD hp h1 (by rw [lP];omega),by rw [lP,lM];omega,by rw [lP,lM];omega,by rw [lP];omega,by rw [lP,List.length_singleton];omega⟩
 cases odd
 ·refine⟨_,rfl,false,rfl,dI (dI ?_)⟩
  refine⟨fun _ H'=>Q .non H',?_,fun _ _ h=>h⟩
  refine⟨_,rfl,false,rfl,dI (dI ?_)⟩
  refine⟨fun _ H'=>Q .non H',?_,fun _ _ h=>h⟩
  refine⟨_,rfl,_,_,rfl,rfl,by show(0:Int) <3;decide,rfl,_,rfl,jt (fun _=>?_) (fun _=>?_)⟩
  ·refine⟨_,rfl,_,rfl,il,fun a1 n1=>⟨_,rfl,_,rfl,il,fun a2 n2=>?_⟩⟩
   obtain⟨D9,z1,z2,z3⟩:=D1.two n1 n2 (y:=.lst [.str one,.str other])
   refine⟨d,_,_,os1,_,8,a1,a2,[],[one,other],2,rfl,D9,z1,z2,by omega,rfl,by simp,rfl,rfl,by omega,by omega,by omega,fun newl H8 hn s8 D8=>?_⟩
   exact fin (s1.trans (z3.trans s8)) D8 (G6 p1) (by omega) (by omega) (by omega)
  ·refine⟨_,rfl,_,rfl,il,fun a0 n0=>?_⟩
   have s0:=aB (o:=.lst [.str "add",.str "less"]) n0
   have D0:=D1.keep s0
   have c0:=D1.cut s0
   refine⟨_,rfl,_,_,rfl,rfl,by show(0:Int) <2;decide,?_⟩
   obtain⟨i,ei,hi⟩:=R3 (cH c 6 % 6)
   refine⟨a0,_,_,_,rfl,rfl,bT.of au,ei,?_⟩
   generalize upd H1 a0 (.lst [.str "add",.str "less"])=H0 at s0 D0 c0 ⊢
   have hN:([]:List Int).length=cN i:=by rcases hi with rfl | rfl <;> rfl
   have hI:[one,other].length=cI i:=by rcases hi with rfl | rfl <;> rfl
   have hO:1=cO i:=by rcases hi with rfl | rfl <;> rfl
   refine⟨il,fun a1 n1=>⟨_,rfl,_,rfl,il,fun a2 n2=>?_⟩⟩
   obtain⟨D9,z1,z2,z3⟩:=D0.two n1 n2 (y:=.lst [.str one,.str other])
   refine⟨d,_,_,os1,_,i,a1,a2,[],[one,other],1,rfl,D9,z1,z2,by omega,hN,by simp,hI,hO,by omega,by omega,by omega,fun newl H8 hn s8 D8=>?_⟩
   exact fin (s1.trans (c0.trans (z3.trans s8))) D8 (G6 p1) (by omega) (by omega) (by omega)
 ·refine⟨_,rfl,true,rfl,ji ⟨_,rfl,_,_,rfl,rfl,_,rfl,Bd ?_ (fun h2 b=>?_) (fun b=>b)⟩⟩
  ·refine⟨fun _ H'=>Q .non H',?_,fun _ _ h=>h⟩
   refine⟨_,rfl,true,rfl,ji ?_⟩
   refine⟨_,rfl,_,_,rfl,rfl,_,rfl,jt (fun h5=>?_) (fun h5=>?_)⟩
   ·refine⟨_,rfl,_,rfl,il,fun a1 n1=>⟨_,rfl,_,rfl,il,fun a2 n2=>?_⟩⟩
    obtain⟨D9,z1,z2,z3⟩:=D1.two n1 n2 (y:=.lst [.str one,.str other])
    refine⟨d,_,_,os1,_,10,a1,a2,[],[one,other],2,rfl,D9,z1,z2,by omega,rfl,by simp,rfl,rfl,by omega,by omega,by omega,fun newl H8 hn s8 D8=>?_⟩
    exact fin (s1.trans (z3.trans s8)) D8 (G6 p1) (by omega) (by omega) (by omega)
   ·refine⟨fun _ H'=>Q .non H',?_,fun _ _ h=>h⟩
    refine⟨_,rfl,_,_,rfl,rfl,by show(0:Int) <3;decide,rfl,_,rfl,jt (fun _=>?_) (fun _=>?_)⟩
    ·refine⟨_,rfl,_,rfl,il,fun a1 n1=>⟨_,rfl,_,rfl,il,fun a2 n2=>?_⟩⟩
     obtain⟨D9,z1,z2,z3⟩:=D1.two n1 n2 (y:=.lst [.str one,.str other])
     refine⟨d,_,_,os1,_,8,a1,a2,[],[one,other],2,rfl,D9,z1,z2,by omega,rfl,by simp,rfl,rfl,by omega,by omega,by omega,fun newl H8 hn s8 D8=>?_⟩
     exact fin (s1.trans (z3.trans s8)) D8 (G6 p1) (by omega) (by omega) (by omega)
    ·refine⟨_,rfl,_,rfl,il,fun a0 n0=>?_⟩
     have s0:=aB (o:=.lst [.str "add",.str "less"]) n0
     have D0:=D1.keep s0
     have c0:=D1.cut s0
     refine⟨_,rfl,_,_,rfl,rfl,by show(0:Int) <2;decide,?_⟩
     obtain⟨i,ei,hi⟩:=R3 (cH c 6 % 6)
     refine⟨a0,_,_,_,rfl,rfl,bT.of au,ei,?_⟩
     generalize upd H1 a0 (.lst [.str "add",.str "less"])=H0 at s0 D0 c0 ⊢
     have hN:([]:List Int).length=cN i:=by rcases hi with rfl | rfl <;> rfl
     have hI:[one,other].length=cI i:=by rcases hi with rfl | rfl <;> rfl
     have hO:1=cO i:=by rcases hi with rfl | rfl <;> rfl
     refine⟨il,fun a1 n1=>⟨_,rfl,_,rfl,il,fun a2 n2=>?_⟩⟩
     obtain⟨D9,z1,z2,z3⟩:=D0.two n1 n2 (y:=.lst [.str one,.str other])
     refine⟨d,_,_,os1,_,i,a1,a2,[],[one,other],1,rfl,D9,z1,z2,by omega,hN,by simp,hI,hO,by omega,by omega,by omega,fun newl H8 hn s8 D8=>?_⟩
     exact fin (s1.trans (c0.trans (z3.trans s8))) D8 (G6 p1) (by omega) (by omega) (by omega)
  ·refine⟨_,rfl,d.S,_,2,_,rfl,rfl,D1.seqS,aN (j:=2) rfl,.ref d.O,os1.length,rfl,.inl ⟨_,bT.of D1.opens,by simp⟩,_,_,rfl,rfl,_,rfl,jt (fun h3=>?_) (fun _=>b)⟩
   have hne1:os1≠[]:=fun z=>by rw [z] at h3;exact absurd (of_decide_eq_true h3) (by decide)
   refine⟨_,rfl,_,rfl,_,_,rfl,d,ls,ps,os1,_,rfl,D1,hne1,by omega,fun third os2 H2 p2 s2 D2=>?_⟩
   have l2:=p2.length_eq
   rw [List.length_cons] at l2
   refine⟨_,rfl,_,rfl,il,fun a1 n1=>⟨_,rfl,_,rfl,_,rfl,il,fun a2 n2=>?_⟩⟩
   obtain⟨D9,z1,z2,z3⟩:=D2.two n1 n2 (y:=.lst [.str one,.str other,.str third])
   refine⟨d,_,_,os2,_,9,a1,a2,[],[one,other,third],1,rfl,D9,z1,z2,by omega,rfl,by simp,rfl,rfl,by omega,by omega,by omega,fun newl H8 hn s8 D8=>?_⟩
   exact fin (s1.trans (s2.trans (z3.trans s8))) D8 (Vz p1 p2) (by omega) (by omega) (by omega)
inductive wj (vs:List V) (H:Hp) (Q:VK) (E:XK):Prop where
 | mk:∀(d:Dw) (ls:List aK) (ps:List PD) (os:List Str) (c:Int) (one:Str) (back:List Str),vs=[.ref d.S,.int c,.str one]->lZ d H ls ps os->Drawn.WF (rN ls ps (one:: os) back)->os.length<=3->ls.length<=20->ps.length<=22->(∀ls' ps' os' H',XJ d H H' ls ps back ls' ps' os'->Q .non H')->wj vs H Q E
theorem Fz (T:Txt w K mg t):FO P w K mg base 4 t.zf ["_law_state", "_law_cell_here", "_law_one"] (wj):=by
 have sc:=T.sW.sc ["_law_state", "_law_cell_here", "_law_one", "_law_own", "_law_fresh"]
 refine T.sW.F.ok sc ln (fun _ _ _ _ H vs Q E hr h=>?_)
 obtain⟨d,ls,ps,os,c,one,back,rfl,D,w,ho,hls,hps,k⟩:=h
 refine⟨_,(az (sN sc 3 (dY (jH T) T.gY hr (aa (pv 0) (aa (dY (bh T) T.bx hr (aa (pv 1) (aa aq ak ao) aj)) (aa gm ak ao) aW) aj)))
  (az (sN sc 4 (dY (jH T) T.gY hr (aa (pv 0) (aa (dY (bh T) T.bx hr (aa (pv 1) (aa aq ak ao) aj)) (aa gm ak ao) aW) aj)))
  (az (bM (Ft (aU aO (pv 0) aq (fun _ _=>rfl)) (aa (bL (aa bR (aa (dY (lV T) T.jF hr (aa (aU aO (pv 0) aq (fun _ _=>rfl)) (aa (bf b7 (by rfl) T.fj dB (aa (aU aO (pv 0) aq (fun _ _=>rfl)) ak aC)) ak aW) aC)) (aa (bu ak) (aa (bu (aa (pv 2) (aa (pv 3) ak aj) aj)) (aa (bu (aa (pv 3) (aa (pv 4) ak aj) aj)) ak aQ) aQ) aQ) aW) ao)) ak bQ)))
  (aA (bM (Ft (aU aO (pv 0) aq (fun _ _=>rfl)) (aa (pv 4) ak aj))))))),?_⟩
 have hl:sizeLine=16777216:=sizeLine_eq
 refine⟨_,rfl,_,rfl,_,_,rfl,d,ls,ps,os,_,true,rfl,D,by omega,fun l1 H1 e1 s1 D1=>?_⟩
 refine⟨_,rfl,_,rfl,_,_,rfl,d,ls ++ [l1],ps,os,_,false,rfl,D1,by rw [lP,List.length_singleton];omega,fun l2 H2 e2 s2 D2=>?_⟩
 have s12:=s1.trans s2
 obtain⟨xs,eP,aP⟩:=D2.parts
 have xl:=aP.length
 refine⟨_,rfl,d.S,_,1,_,rfl,rfl,D2.seqS,aN (j:=1) rfl,.inl ⟨rfl,_,bT.of eP⟩,?_⟩
 refine⟨_,rfl,d.S,_,4,_,rfl,rfl,D2.seqS,aN (j:=4) rfl,?_⟩
 refine⟨_,rfl,d.S,_,1,_,rfl,rfl,D2.seqS,aN (j:=1) rfl,.ref d.P,ps.length,rfl,.inl ⟨_,bT.of eP,xl.symm⟩,?_⟩
 refine⟨d.c4,ps.length,rfl,by omega,fun H3 s3=>?_⟩
 have D3:=D2.keep s3
 have c3:=s12.trans (D2.cut s3)
 have eP3:=s3 _ _ eP
 refine⟨il,fun a1 n1=>⟨_,rfl,_,rfl,il,fun a2 n2=>⟨_,rfl,_,rfl,il,fun a3 n3=>⟨il,fun q nq=>?_⟩⟩⟩⟩
 obtain⟨D4,z1,z2,z3⟩:=D3.two n1 n2 (y:=.lst [.str one,.str l1.name])
 have t4:aM H3 (upd (upd H3 a1 (.lst [])) a2 (.lst [.str one,.str l1.name])):=(aB n1).trans (aB n2)
 have eP4:=t4 _ _ eP3
 generalize upd (upd H3 a1 (.lst [])) a2 (.lst [.str one,.str l1.name])=H4 at D4 z1 z2 z3 t4 eP4 n3 nq ⊢
 obtain⟨D5,y1,y2,y3⟩:=D4.two n3 nq (y:=.tup [.str "order",.str (cY d.c4 ps.length),.ref a1,.ref a2,.ref a3])
 have t5:aM H4 (upd (upd H4 a3 (.lst [.str l1.name,.str l2.name])) q (.tup [.str "order",.str (cY d.c4 ps.length),.ref a1,.ref a2,.ref a3])):=(aB n3).trans (aB nq)
 have eP5:=t5 _ _ eP4
 generalize upd (upd H4 a3 (.lst [.str l1.name,.str l2.name])) q (.tup [.str "order",.str (cY d.c4 ps.length),.ref a1,.ref a2,.ref a3])=H5 at D5 y1 y2 y3 t5 eP5 ⊢
 have c5:=c3.trans (z3.trans y3)
 refine⟨d.P,xs,_,rfl,rfl,eP5,by omega,?_⟩
 have D6:=D5.part (p:=⟨8,cY d.c4 ps.length,[],[one,l1.name],[l1.name,l2.name]⟩) ⟨q,a1,a2,a3,rfl,y2,y3 _ _ z1,y3 _ _ z2,y1⟩ ⟨by show 8 <11;omega,rfl,rfl,rfl,by simp⟩ rfl eP5
 have c6:bA d.E (upd H5 d.P (.lst (xs ++ [.ref q])))=bA d.E H5:=fJ (by simp)
 generalize upd H5 d.P (.lst (xs ++ [.ref q]))=H6 at D6 c6 ⊢
 refine⟨_,rfl,d.S,_,2,_,rfl,rfl,D6.seqS,aN (j:=2) rfl,.inl ⟨rfl,_,bT.of D6.opens⟩,_,rfl,d.O,_,_,rfl,rfl,D6.opens,by rw [lM];omega,?_⟩
 have D7:=D6.open (os':=os ++ [l2.name])
 rw [List.map_append] at D7
 have nd:=D7.nod (by rw [lP,lP,List.length_singleton,List.length_singleton];omega)
 have wl:=w.loop (p:=⟨8,cY d.c4 ps.length,[],[one,l1.name],[l1.name,l2.name]⟩) (rest:=os) (one:=one) (own:=l1.name) (fresh:=l2.name) rfl rfl (.refl _) (by simpa using nd)
 refine k _ _ _ _ ⟨by rw [fJ (by simp),c6];exact c5,D7,by simpa [rN] using wl,by rw [lP,List.length_singleton];omega,by rw [lP,List.length_singleton];omega,by simp,by simp⟩
inductive wX (vs:List V) (H:Hp) (Q:VK) (E:XK):Prop where
 | mk:∀(d:Dw) (ls:List aK) (ps:List PD) (os:List Str) (c:Int) (back:List Str) (odd:Bool),vs=[.ref d.S,.int c,.bl odd]->lZ d H ls ps os->Drawn.WF (rN ls ps os back)->os≠[]->os.length<=4->ls.length<=20->ps.length<=22->(∀ls' ps' os' H',XJ d H H' ls ps back ls' ps' os'->Q .non H')->wX vs H Q E
theorem Gg (T:Txt w K mg t):FO P w K mg base 6 t.yG ["_law_state", "_law_cell_here", "_law_odd"] (wX):=by
 have sc:=T.sX.sc ["_law_state", "_law_cell_here", "_law_odd", "_law_way", "_law_one"]
 refine T.sX.F.ok sc ln (fun _ _ _ _ H vs Q E hr h=>?_)
 obtain⟨d,ls,ps,os,c,back,odd,rfl,D,w,hne,ho,hls,hps,k⟩:=h
 refine⟨_,(az (sN sc 3 (aY bY (dY (bh T) T.bx hr (aa (pv 1) (aa aq ak ao) aj)) aq))
  (az (sN sc 4 (dY (qF T) T.kZ hr (aa (pv 0) (aa (dY (bh T) T.bx hr (aa (pv 1) (aa aq ak ao) aj)) ak aW) aj)))
  (aA (eX (bO (PW.pt (uZ (bj pU (pv 3) aq (bK _)) (tX (bj pU (bf b7 (by rfl) T.fj dB (aa (aU aO (pv 0) aq (fun _ _=>rfl)) ak aC)) aq (bK _)))))
   (aA (bM (dY (cX T) T.cM hr (aa (pv 0) (aa (pv 1) (aa bR (aa (bu ak) (aa (bu (aa (pv 4) ak aj)) (aa aq ak ao) aQ) aQ) ao) aj) aj))))
   (aA (eX (bO (bj fX (pv 3) aq (bK _))
    (az (bM (dY (cX T) T.cM hr (aa (pv 0) (aa (pv 1) (aa bR (aa (bu ak) (aa (bu (aa (pv 4) ak aj)) (aa aq ak ao) aQ) aQ) ao) aj) aj)))
    (aA (bM (dY (cX T) T.cM hr (aa (pv 0) (aa (pv 1) (aa bR (aa (bu ak) (aa (bu (aa (Bo PySem.F.plainAttrs_list PySem.F.slot_list_pop PySem.F.type_list_pop JQ (aU aO (pv 0) aq (fun _ _=>rfl))) ak aW)) (aa aq ak ao) aQ) aQ) ao) aj) aj)))))
    (aA (eX (bO (PW.pt (uZ (bj pU (pv 3) aq (bK _)) (tX (bj Ds (bf b7 (by rfl) T.fj dB (aa (aU aO (pv 0) aq (fun _ _=>rfl)) ak aC)) aq (bK _)))))
     (aA (bM (dY (Iv T) T.vf hr (aa (pv 0) (aa (pv 1) (aa (pv 4) (aa (pv 2) ak aj) aj) aj) aj))))
     (aA (eX (bO (bj pU (pv 3) aq (bK _))
      (aA (bM (dY (cX T) T.cM hr (aa (pv 0) (aa (pv 1) (aa bR (aa (bu (aa (dY (gK T) T.fQ hr (aa (pv 1) (aa aq ak ao) aj)) (aa (dY (gK T) T.fQ hr (aa (pv 1) (aa aq ak ao) aj)) ak aW) aW)) (aa (bu (aa (pv 4) ak aj)) (aa aq ak ao) aQ) aQ) ao) aj) aj))))
      (aA (eX (bO (bj fX (pv 3) aq (bK _))
       (aA (bM (dY (cX T) T.cM hr (aa (pv 0) (aa (pv 1) (aa bR (aa (bu (aa (dY (gK T) T.fQ hr (aa (pv 1) (aa aq ak ao) aj)) ak aW)) (aa (bu (aa (pv 4) ak aj)) (aa aq ak ao) aQ) aQ) ao) aj) aj))))
       (aA (eX (bO (bj fX (aY bY (dY (bh T) T.bx hr (aa (pv 1) (aa aq ak ao) aj)) aq) aq (bK _))
        (aA (bM (dY (Fz T) T.sW hr (aa (pv 0) (aa (pv 1) (aa (pv 4) ak aj) aj) aj))))
        (aA (bM (dY (cX T) T.cM hr (aa (pv 0) (aa (pv 1) (aa bR (aa (bu ak) (aa (bu (aa (pv 4) ak aj)) (aa aq ak ao) aQ) aQ) ao) aj) aj)))))))))))))))))))))))),?_⟩
 have hl:sizeLine=16777216:=sizeLine_eq
 refine⟨_,rfl,_,_,rfl,_,_,rfl,rfl,by show(0:Int) <9;decide,?_⟩
 refine⟨_,rfl,_,rfl,_,_,rfl,d,ls,ps,os,_,rfl,D,hne,by omega,fun one os1 H1 p1 s1 D1=>?_⟩
 have w1:Drawn.WF (rN ls ps (one:: os1) back):=UJ w p1
 have lo:=p1.length_eq
 rw [List.length_cons] at lo
 have fin:∀{i:Nat} {nm:Str} {nums:List Int} {newl:List aK} {ins os2:List Str} {H':Hp},aM (bA d.E H) (bA d.E H')->lZ d H' (ls ++ newl) (ps ++ [⟨i,nm,nums,ins,newl.map (·.name)⟩]) (os2 ++ newl.map (·.name))->(one:: os1).Perm (ins ++ os2)->newl.length≠0->newl.length<=2->os2.length+newl.length<=4->Q .non H':=fun s DD hp h1 h2 h4=>
  k _ _ _ _ ⟨s,DD,pY w1 rfl DD hp h1 (by rw [lP];omega),by rw [lP,lM];omega,by rw [lP,lM];omega,by rw [lP];omega,by rw [lP,List.length_singleton];omega⟩
 refine⟨fun _ H'=>Q .non H',?_,fun _ _ h=>h⟩
 refine⟨_,rfl,_,_,rfl,rfl,_,rfl,Bd ?_ (fun h2 b=>?_) (fun b=>b)⟩
 ·refine⟨fun _ H'=>Q .non H',?_,fun _ _ h=>h⟩
  refine⟨_,rfl,rfl,_,rfl,jt (fun _=>?_) (fun _=>?_)⟩
  ·refine⟨_,rfl,_,rfl,il,fun a1 n1=>⟨_,rfl,il,fun a2 n2=>?_⟩⟩
   obtain⟨D9,z1,z2,z3⟩:=D1.two n1 n2 (y:=.lst [.str one])
   refine⟨d,_,_,os1,_,3,a1,a2,[],[one],2,rfl,D9,z1,z2,by omega,rfl,by simp,rfl,rfl,by omega,by omega,by omega,fun newl H8 hn s8 D8=>?_⟩
   obtain⟨l1,l2,rfl⟩:∃l1 l2,newl=[l1,l2]:=by
    match newl,hn with
    | [x,y],_=>exact⟨x,y,rfl⟩
   have w8:=pY w1 rfl D8 (.refl _) (by simp) (by simp;omega)
   have s18:=s1.trans (z3.trans s8)
   clear D9 z1 z2 z3 n1 n2 s8
   refine⟨_,rfl,_,rfl,il,fun a3 n3=>?_⟩
   have s3:=aB (o:=.lst []) n3
   have D3:=D8.keep s3
   have c3:=s18.trans (D8.cut s3)
   have o3:=D8.out n3
   have e3:upd H8 a3 (.lst []) a3=some (.lst ([]:List V)):=au
   generalize upd H8 a3 (.lst [])=H3 at s3 D3 c3 e3 ⊢
   have eo:((os1 ++ [l1,l2].map (·.name)).map V.str)=((os1 ++ [l1.name]).map V.str) ++ [.str l2.name]:=by simp
   have hop:=D3.opens
   rw [eo] at hop
   refine⟨_,rfl,d.S,_,2,_,rfl,rfl,D3.seqS,aN (j:=2) rfl,.inl ⟨rfl,_,bT.of D3.opens⟩,d.O,_,.str l2.name,rfl,rfl,hop,by rw [lP,List.length_singleton,Nat.add_sub_cancel];exact List.getElem?_concat_length,?_⟩
   rw [List.dropLast_concat]
   have D4:=D3.open (os':=os1 ++ [l1.name])
   have c4:bA d.E (upd H3 d.O (.lst ((os1 ++ [l1.name]).map V.str)))=bA d.E H3:=fJ (by simp)
   have e4:=dH e3 o3
   generalize upd H3 d.O (.lst ((os1 ++ [l1.name]).map V.str))=H4 at D4 c4 ⊢
   refine⟨il,fun a4 n4=>?_⟩
   have s5:=aB (o:=.lst [.str l2.name]) n4
   have D5:=D4.keep s5
   have c5:=D4.cut s5
   rw [c4] at c5
   have e5:=dH (E:=d.E) (H:=upd H4 a4 (.lst [.str l2.name])) au (D4.out n4)
   refine⟨d,ls ++ [l1,l2],_,os1 ++ [l1.name],_,1,a3,a4,[],[l2.name],0,rfl,D5,c5 _ _ e4,e5,by omega,rfl,by simp,rfl,rfl,by simp;omega,by simp;omega,by simp;omega,fun newl2 H9 hn2 s9 D9=>?_⟩
   have hz:newl2=[]:=List.length_eq_zero_iff.mp hn2
   subst hz
   have wt:=w8.take (p:=⟨1,cY d.c4 (ps ++ [(⟨3,cY d.c4 ps.length,[],[one],[l1,l2].map (·.name)⟩:PD)]).length,[],[l2.name],[]⟩) (rest:=os1 ++ [l1.name]) (y:=l2.name) (x:=l1.name) rfl rfl (by
     show(os1 ++ [l1.name,l2.name]).Perm (l2.name:: (os1 ++ [l1.name]))
     rw [show os1 ++ [l1.name,l2.name]=(os1 ++ [l1.name]) ++ [l2.name] by simp]
     exact List.perm_append_comm) (by simp) (Drawn.jn.part (p:=⟨3,cY d.c4 ps.length,[],[one],[l1,l2].map (·.name)⟩) (by simp) (by simp) (by simp))
   rw [List.map_nil,List.append_nil,List.append_nil] at D9
   exact k _ _ _ _ ⟨c3.trans (c5.trans s9),D9,wt,by simp,by simp;omega,by simp,by simp⟩
  ·refine⟨fun _ H'=>Q .non H',?_,fun _ _ h=>h⟩
   refine⟨_,rfl,_,_,rfl,rfl,_,rfl,Bd ?_ (fun h2 b=>?_) (fun b=>b)⟩
   ·refine⟨fun _ H'=>Q .non H',?_,fun _ _ h=>h⟩
    refine⟨_,rfl,_,_,rfl,rfl,_,rfl,jt (fun _=>?_) (fun _=>?_)⟩
    ·refine⟨_,rfl,_,rfl,_,rfl,c,8,rfl,_,rfl,c,9,rfl,il,fun a1 n1=>⟨_,rfl,il,fun a2 n2=>?_⟩⟩
     obtain⟨D9,z1,z2,z3⟩:=D1.two n1 n2 (y:=.lst [.str one])
     refine⟨d,_,_,os1,_,4,a1,a2,[mD c 8,mD c 9],[one],1,rfl,D9,z1,z2,by omega,rfl,?_,rfl,rfl,by omega,by omega,by omega,fun newl H8 hn s8 D8=>?_⟩
     ·intro v hv
      rcases List.mem_cons.mp hv with rfl | hv
      ·exact mz _ _
      ·rw [List.mem_singleton] at hv
       subst hv
       exact mz _ _
     exact fin (s1.trans (z3.trans s8)) D8 (.refl _) (by omega) (by omega) (by omega)
    ·refine⟨fun _ H'=>Q .non H',?_,fun _ _ h=>h⟩
     refine⟨_,rfl,rfl,_,rfl,jt (fun _=>?_) (fun _=>?_)⟩
     ·refine⟨_,rfl,_,rfl,_,rfl,c,8,rfl,il,fun a1 n1=>⟨_,rfl,il,fun a2 n2=>?_⟩⟩
      obtain⟨D9,z1,z2,z3⟩:=D1.two n1 n2 (y:=.lst [.str one])
      refine⟨d,_,_,os1,_,5,a1,a2,[mD c 8],[one],1,rfl,D9,z1,z2,by omega,rfl,?_,rfl,rfl,by omega,by omega,by omega,fun newl H8 hn s8 D8=>?_⟩
      ·intro v hv
       rw [List.mem_singleton] at hv
       subst hv
       exact mz _ _
      exact fin (s1.trans (z3.trans s8)) D8 (.refl _) (by omega) (by omega) (by omega)
     ·refine⟨fun _ H'=>Q .non H',?_,fun _ _ h=>h⟩
      refine⟨_,rfl,_,_,rfl,_,_,rfl,rfl,by show(0:Int) <2;decide,rfl,_,rfl,jt (fun _=>?_) (fun _=>?_)⟩
      ·exact⟨_,rfl,_,rfl,_,rfl,d,ls,ps,os1,c,one,back,rfl,D1,w1,by omega,hls,hps,fun ls' ps' os' H' X=>k ls' ps' os' H' ⟨s1.trans X.cut,X.at',X.wf,X.o1,X.o4,X.l2,X.p2⟩⟩
      ·refine⟨_,rfl,_,rfl,il,fun a1 n1=>⟨_,rfl,il,fun a2 n2=>?_⟩⟩
       obtain⟨D9,z1,z2,z3⟩:=D1.two n1 n2 (y:=.lst [.str one])
       refine⟨d,_,_,os1,_,2,a1,a2,[],[one],1,rfl,D9,z1,z2,by omega,rfl,by simp,rfl,rfl,by omega,by omega,by omega,fun newl H8 hn s8 D8=>?_⟩
       exact fin (s1.trans (z3.trans s8)) D8 (.refl _) (by omega) (by omega) (by omega)
   ·refine⟨_,rfl,d.S,_,2,_,rfl,rfl,D1.seqS,aN (j:=2) rfl,.ref d.O,os1.length,rfl,.inl ⟨_,bT.of D1.opens,by simp⟩,_,_,rfl,rfl,_,rfl,jt (fun h3=>?_) (fun _=>b)⟩
    have hne1:os1≠[]:=fun z=>by rw [z] at h3;exact absurd (of_decide_eq_true h3) (by decide)
    exact⟨_,rfl,_,rfl,_,rfl,_,rfl,d,ls,ps,os1,c,one,back,odd,rfl,D1,w1,hne1,by omega,hls,hps,fun ls' ps' os' H' X=>k ls' ps' os' H' ⟨s1.trans X.cut,X.at',X.wf,X.o1,X.o4,X.l2,X.p2⟩⟩
 ·refine⟨_,rfl,d.S,_,2,_,rfl,rfl,D1.seqS,aN (j:=2) rfl,.ref d.O,os1.length,rfl,.inl ⟨_,bT.of D1.opens,by simp⟩,_,_,rfl,rfl,_,rfl,jt (fun h3=>?_) (fun _=>b)⟩
  have h3:os1.length <3:=by have:=of_decide_eq_true h3;omega
  refine⟨_,rfl,_,rfl,il,fun a1 n1=>⟨_,rfl,il,fun a2 n2=>?_⟩⟩
  obtain⟨D9,z1,z2,z3⟩:=D1.two n1 n2 (y:=.lst [.str one])
  refine⟨d,_,_,os1,_,3,a1,a2,[],[one],2,rfl,D9,z1,z2,by omega,rfl,by simp,rfl,rfl,by omega,by omega,by omega,fun newl H8 hn s8 D8=>?_⟩
  exact fin (s1.trans (z3.trans s8)) D8 (.refl _) (by omega) (by omega) (by omega)
inductive rn (vs:List V) (H:Hp) (Q:VK) (E:XK):Prop where
 | mk:∀(d:Dw) (ls:List aK) (ps:List PD) (os:List Str) (c:Int) (B:Addr) (back:List Str),vs=[.ref d.S,.int c,.ref B]->lZ d H ls ps os->Drawn.WF (rN ls ps os back)->bA d.E H B=some (.lst (back.map V.str))->os≠[]->os.length<=4->back.length<=2->ls.length<=12->ps.length<=10->(∀ls' ps' H',aM (bA d.E H) (bA d.E H')->lZ d H' ls' ps' []->Dk (ls'.map (·.name)) ps'->ls'.length<=17->ls.length<=ls'.length->ps'.length<=16->1<=ps'.length->Q .non H')->rn vs H Q E
theorem Ai (T:Txt w K mg t):FO P w K mg base 5 t.uD ["_law_state", "_law_cell_here", "_law_back"] (rn):=by
 have sc:=T.pC.sc ["_law_state", "_law_cell_here", "_law_back", "_law_one", "_law_other", "_law_kind", "_law_lane_here", "_law_fresh"]
 refine T.pC.F.ok sc ln (fun _ _ _ _ H vs Q E hr h=>?_)
 obtain⟨d,ls,ps,os,c,B,back,rfl,D,w,eB,hne,ho,hb,hls,hps,k⟩:=h
 refine⟨_,(az (sr PassesOwn.never (bj Ds (bf b7 (by rfl) T.fj dB (aa (aU aO (pv 0) aq (fun _ _=>rfl)) ak aC)) aq (bK _))
   (az (sN sc 3 (Ag PySem.F.plainAttrs_list PySem.F.slot_list_pop PySem.F.type_list_pop Bl (aU aO (pv 0) aq (fun _ _=>rfl)) (aa aq ak ao)))
   (az (sN sc 4 (Ag PySem.F.plainAttrs_list PySem.F.slot_list_pop PySem.F.type_list_pop Bl (aU aO (pv 0) aq (fun _ _=>rfl)) (aa aq ak ao)))
   (az (sN sc 5 (aU aO (bu (aa bR (aa bR (aa bR ak ao) ao) ao)) (aY bY (dY (bh T) T.bx hr (aa (pv 1) (aa (bf b7 (by rfl) T.fj dB (aa (aU aO (pv 0) aq (fun _ _=>rfl)) ak aC)) ak aW) aj)) aq) (fun _ _=>rfl)))
   (aA (bM (dY (cX T) T.cM hr (aa (pv 0) (aa (dY (bh T) T.bx hr (aa (pv 1) (aa (aY cJ aq (bf b7 (by rfl) T.fj dB (aa (aU aO (pv 0) aq (fun _ _=>rfl)) ak aC))) ak bG) aj)) (aa (pv 5) (aa (bu ak) (aa (bu (aa (pv 3) (aa (pv 4) ak aj) aj)) (aa aq ak ao) aQ) aQ) aj) aW) aj))))))))
  (az (eN PassesOwn.never rfl (cW (pv 2)) (gN sc 6)
   (az (sN sc 3 (Bo PySem.F.plainAttrs_list PySem.F.slot_list_pop PySem.F.type_list_pop JQ (aU aO (pv 0) aq (fun _ _=>rfl))))
   (az (sN sc 7 (dY (jH T) T.gY hr (aa (pv 0) (aa (dY (bh T) T.bx hr (aa (pv 1) (aa (aY cJ aq (bf b7 (by rfl) T.fj dB (aa (aU aO (pv 0) aq (fun _ _=>rfl)) ak aC))) ak bG) aj)) (aa gm ak ao) aW) aj)))
   (az (bM (Ft (aU aO (pv 0) aq (fun _ _=>rfl)) (aa (bL (aa bR (aa (dY (lV T) T.jF hr (aa (aU aO (pv 0) aq (fun _ _=>rfl)) (aa (bf b7 (by rfl) T.fj dB (aa (aU aO (pv 0) aq (fun _ _=>rfl)) ak aC)) ak aW) aC)) (aa (bu ak) (aa (bu (aa (pv 3) ak aj)) (aa (bu (aa (pv 6) (aa (pv 7) ak aj) aj)) ak aQ) aQ) aQ) aW) ao)) ak bQ)))
   (aA (bM (Ft (aU aO (pv 0) aq (fun _ _=>rfl)) (aa (pv 7) ak aj))))))))
  (aA (bM (dY (cX T) T.cM hr (aa (pv 0) (aa (pv 1) (aa bR (aa (bu ak) (aa (bu (aa (Bo PySem.F.plainAttrs_list PySem.F.slot_list_pop PySem.F.type_list_pop JQ (aU aO (pv 0) aq (fun _ _=>rfl))) ak aW)) (aa aq ak ao) aQ) aQ) ao) aj) aj)))))),?_⟩
 have hl:sizeLine=16777216:=sizeLine_eq
 have hpos:0 <os.length:=List.length_pos_iff.mpr hne
 refine hide fun u hu=>?_
 refine rR (fun σ H1=>∃(ls1:List aK) (ps1:List PD) (os1:List Str) (v3 v4 v5:Option V),σ=[some (.ref d.S),some (.int c),some (.ref B),v3,v4,v5,none,none]/\aM (bA d.E H) (bA d.E H1)/\lZ d H1 ls1 ps1 os1/\Drawn.WF (rN ls1 ps1 os1 back)/\1<=os1.length/\os1.length<=4/\ls.length<=ls1.length/\ls1.length+os1.length<=16/\ps1.length+os1.length<=14)
  (fun _ H1=>NZ H1 d.O) ⟨ls,ps,os,none,none,none,rfl,aM.refl _,D,w,by omega,ho,Nat.le_refl _,by omega,by omega⟩ ?_ ?_
 ·rintro σ H1 ⟨ls1,ps1,os1,v3,v4,v5,rfl,s1,D1,w1,o1,o4,hl1,hl2,hp2⟩
  refine⟨_,rfl,d.S,_,2,_,rfl,rfl,D1.seqS,aN (j:=2) rfl,.ref d.O,os1.length,rfl,.inl ⟨_,bT.of D1.opens,by simp⟩,_,_,rfl,rfl,_,rfl,jt (fun h3=>?_) (fun h3=>?_)⟩
  ·have h3:1 <os1.length:=by have:=of_decide_eq_true h3;omega
   obtain⟨one,other,os2,rfl⟩:∃one other os2,os1=one:: other:: os2:=by
    match os1,h3 with
    | x:: y:: r,_=>exact⟨x,y,r,rfl⟩
   rw [List.length_cons,List.length_cons] at h3 o1 o4 hl2 hp2
   have lm:=Hr D1.opens
   refine WN fun De hD u hu=>?_
   refine⟨_,rfl,d.S,_,2,_,rfl,rfl,D1.seqS,aN (j:=2) rfl,.inl ⟨rfl,_,bT.of D1.opens⟩,d.O,_,0,0,.str one,rfl,rfl,D1.opens,by decide,by decide,Jd (by simp),rfl,?_⟩
   have D2:=D1.open (os':=other:: os2)
   have c2:bA d.E (upd H1 d.O (.lst ((other:: os2).map V.str)))=bA d.E H1:=fJ (by simp)
   refine dD (v:=u) hu fun u hu=>?_
   change ur _ _ _ _ (upd H1 d.O (.lst ((other:: os2).map V.str)))
   generalize upd H1 d.O (.lst ((other:: os2).map V.str))=H2 at D2 c2 ⊢
   refine⟨_,rfl,d.S,_,2,_,rfl,rfl,D2.seqS,aN (j:=2) rfl,.inl ⟨rfl,_,bT.of D2.opens⟩,d.O,_,0,0,.str other,rfl,rfl,D2.opens,by decide,by decide,Jd (by simp),rfl,?_⟩
   have D3:=D2.open (os':=os2)
   have c3:bA d.E (upd H2 d.O (.lst (os2.map V.str)))=bA d.E H2:=fJ (by simp)
   refine dD (v:=u) hu fun u hu=>?_
   change ur _ _ _ _ (upd H2 d.O (.lst (os2.map V.str)))
   generalize upd H2 d.O (.lst (os2.map V.str))=H3 at D3 c3 ⊢
   have s3:aM (bA d.E H) (bA d.E H3):=by rw [c3,c2];exact s1
   refine⟨il,fun a0 n0=>?_⟩
   have s0:=aB (o:=.lst [.str "add",.str "less",.str "add"]) n0
   have D0:=D3.keep s0
   have c0:=s3.trans (D3.cut s0)
   refine⟨_,rfl,_,rfl,d.S,_,2,_,rfl,rfl,D0.seqS,aN (j:=2) rfl,.ref d.O,os2.length,rfl,.inl ⟨_,bT.of D0.opens,by simp⟩,c,(os2.length:Int),rfl,_,_,rfl,rfl,by show(0:Int) <3;decide,?_⟩
   obtain⟨i,ei,hi⟩:=VG (cH c (os2.length:Int))
   refine⟨a0,_,_,_,rfl,rfl,bT.of au,ei,?_⟩
   generalize upd H3 a0 (.lst [.str "add",.str "less",.str "add"])=H0 at s0 D0 c0 ⊢
   obtain⟨xs,eP,aP⟩:=D0.parts
   have xl:=aP.length
   have hN:([]:List Int).length=cN i:=by rcases hi with rfl | rfl <;> rfl
   have hI:[one,other].length=cI i:=by rcases hi with rfl | rfl <;> rfl
   have hO:1=cO i:=by rcases hi with rfl | rfl <;> rfl
   subst hu
   refine⟨_,rfl,_,rfl,_,rfl,d.S,_,1,_,rfl,rfl,D0.seqS,aN (j:=1) rfl,.ref d.P,ps1.length,rfl,.inl ⟨_,bT.of eP,xl.symm⟩,_,_,rfl,rfl,_,_,rfl,?_⟩
   refine⟨_,rfl,il,fun a1 n1=>⟨_,rfl,_,rfl,il,fun a2 n2=>?_⟩⟩
   obtain⟨D9,z1,z2,z3⟩:=D0.two n1 n2 (y:=.lst [.str one,.str other])
   refine⟨d,_,_,os2,_,i,a1,a2,[],[one,other],1,rfl,D9,z1,z2,by omega,hN,by simp,hI,hO,by omega,by omega,by omega,fun newl H8 hn s8 D8=>?_⟩
   have w8:=pY w1 rfl D8 (.refl _) (by omega) (by rw [lP];omega)
   subst hD
   refine⟨⟨_,_,_,_,_,_,rfl,c0.trans (z3.trans s8),D8,w8,?_,?_,?_,?_,?_⟩,?_⟩
   ·rw [lP,lM];omega
   ·rw [lP,lM];omega
   ·rw [lP];omega
   ·rw [lP,lP,lM];omega
   ·rw [lP,lP,lM,List.length_singleton];omega
   ·rw [Hr D8.opens,lm,lM,lM,lP,lM,List.length_cons,List.length_cons]
    omega
  ·have h3:os1.length=1:=by
    have:¬(1:Int) <(os1.length:Int):=fun z=>h3 (decide_eq_true z)
    omega
   obtain⟨y,rfl⟩:=List.length_eq_one_iff.mp h3
   refine dD (v:=u) hu fun u hu=>?_
   refine⟨_,rfl,B,rfl,⟨_,bT.of (dF _ _ (s1 _ _ eB))⟩,?_⟩
   refine fu (K:=K) (a:=B) (xs:=back.map V.str) (fun j σ H2=>∃(ls2:List aK) (ps2:List PD) (y:Str) (u3 u6 u7:Option V),σ=[some (.ref d.S),some (.int c),some (.ref B),u3,v4,v5,u6,u7]/\aM (bA d.E H) (bA d.E H2)/\lZ d H2 ls2 ps2 [y]/\Drawn.WF (rN ls2 ps2 [y] (back.drop j))/\ls.length<=ls2.length/\ls2.length<=15+j/\ps2.length<=13+j) ⟨ls1,ps1,y,v3,none,none,rfl,s1,D1,w1,hl1,by have z:=hl2;rw [List.length_singleton] at z;omega,by have z:=hp2;rw [List.length_singleton] at z;omega⟩ (fun j σ H2 _ ⟨ls2,ps2,y,u3,u6,u7,e,s2,h⟩=>bT.of (dF _ _ (s2 _ _ eB))) ?_ ?_
   ·rintro j x σ H2 hx ⟨ls2,ps2,y2,u3,u6,u7,rfl,s2,D2,w2,hl2',hl3,hp3⟩
    rw [List.getElem?_map] at hx
    obtain⟨bn,hbn,rfl⟩:=Option.map_eq_some_iff.mp hx
    have hj:j <back.length:=by
     rcases Nat.lt_or_ge j back.length with h | h
     ·exact h
     ·rw [List.getElem?_eq_none h] at hbn;cases hbn
    have hdr:back.drop j=bn:: back.drop (j+1):=by
     rw [List.drop_eq_getElem_cons hj]
     rw [List.getElem?_eq_getElem hj,Option.some.injEq] at hbn
     rw [hbn]
    refine Nm fun De hD u hu=>?_
    refine⟨_,rfl,d.S,_,2,_,rfl,rfl,D2.seqS,aN (j:=2) rfl,.inl ⟨rfl,_,bT.of D2.opens⟩,d.O,_,.str y2,rfl,rfl,D2.opens,rfl,?_⟩
    have D3:=D2.open (os':=[])
    have c3:bA d.E (upd H2 d.O (.lst (([]:List Str).map V.str)))=bA d.E H2:=fJ (by simp)
    refine dD (v:=u) hu fun u hu=>?_
    change ur _ _ _ _ (upd H2 d.O (.lst (([]:List Str).map V.str)))
    generalize upd H2 d.O (.lst (([]:List Str).map V.str))=H3 at D3 c3 ⊢
    obtain⟨xs,eP,aP⟩:=D3.parts
    have xl:=aP.length
    refine⟨_,rfl,_,rfl,_,rfl,d.S,_,1,_,rfl,rfl,D3.seqS,aN (j:=1) rfl,.ref d.P,ps2.length,rfl,.inl ⟨_,bT.of eP,xl.symm⟩,_,_,rfl,rfl,_,_,rfl,d,ls2,ps2,[],_,false,rfl,D3,by omega,fun l H4 _ s4 D4=>?_⟩
    rw [c3] at s4
    have s24:=s2.trans s4
    obtain⟨xs4,eP4,aP4⟩:=D4.parts
    have xl4:=aP4.length
    refine dD (v:=u) hu fun u hu=>?_
    refine⟨_,rfl,d.S,_,1,_,rfl,rfl,D4.seqS,aN (j:=1) rfl,.inl ⟨rfl,_,bT.of eP4⟩,?_⟩
    refine⟨_,rfl,d.S,_,4,_,rfl,rfl,D4.seqS,aN (j:=4) rfl,?_⟩
    refine⟨_,rfl,d.S,_,1,_,rfl,rfl,D4.seqS,aN (j:=1) rfl,.ref d.P,ps2.length,rfl,.inl ⟨_,bT.of eP4,xl4.symm⟩,?_⟩
    refine⟨d.c4,ps2.length,rfl,by omega,fun H5 s5=>?_⟩
    have D5:=D4.keep s5
    have c5:=s24.trans (D4.cut s5)
    have eP5:=s5 _ _ eP4
    refine⟨il,fun a1 n1=>⟨_,rfl,il,fun a2 n2=>⟨_,rfl,_,rfl,il,fun a3 n3=>⟨il,fun q nq=>?_⟩⟩⟩⟩
    obtain⟨D6,z1,z2,z3⟩:=D5.two n1 n2 (y:=.lst [.str y2])
    have t6:aM H5 (upd (upd H5 a1 (.lst [])) a2 (.lst [.str y2])):=(aB n1).trans (aB n2)
    have eP6:=t6 _ _ eP5
    generalize upd (upd H5 a1 (.lst [])) a2 (.lst [.str y2])=H6 at D6 z1 z2 z3 t6 eP6 n3 nq ⊢
    obtain⟨D7,y1,y2',y3⟩:=D6.two n3 nq (y:=.tup [.str "copy",.str (cY d.c4 ps2.length),.ref a1,.ref a2,.ref a3])
    have t7:aM H6 (upd (upd H6 a3 (.lst [.str bn,.str l.name])) q (.tup [.str "copy",.str (cY d.c4 ps2.length),.ref a1,.ref a2,.ref a3])):=(aB n3).trans (aB nq)
    have eP7:=t7 _ _ eP6
    generalize upd (upd H6 a3 (.lst [.str bn,.str l.name])) q (.tup [.str "copy",.str (cY d.c4 ps2.length),.ref a1,.ref a2,.ref a3])=H7 at D7 y1 y2' y3 t7 eP7 ⊢
    have c7:=c5.trans (z3.trans y3)
    refine⟨d.P,xs4,_,rfl,rfl,eP7,by omega,?_⟩
    have D8:=D7.part (p:=⟨3,cY d.c4 ps2.length,[],[y2],[bn,l.name]⟩) ⟨q,a1,a2,a3,rfl,y2',y3 _ _ z1,y3 _ _ z2,y1⟩ ⟨by show 3 <11;omega,rfl,rfl,rfl,by simp⟩ rfl eP7
    have c8:bA d.E (upd H7 d.P (.lst (xs4 ++ [.ref q])))=bA d.E H7:=fJ (by simp)
    generalize upd H7 d.P (.lst (xs4 ++ [.ref q]))=H8 at D8 c8 ⊢
    subst hu
    refine⟨_,rfl,d.S,_,2,_,rfl,rfl,D8.seqS,aN (j:=2) rfl,.inl ⟨rfl,_,bT.of D8.opens⟩,_,rfl,d.O,_,_,rfl,rfl,D8.opens,by simp;omega,?_⟩
    have D9:=D8.open (os':=[l.name])
    have nd:=D9.nod (by rw [lP,List.length_singleton];omega)
    rw [hdr] at w2
    have wc:=w2.closeBack (p:=⟨3,cY d.c4 ps2.length,[],[y2],[bn,l.name]⟩) (rest:=back.drop (j+1)) (one:=y2) (b:=bn) (fresh:=l.name) rfl rfl (.refl _) rfl (by simpa using nd)
    subst hD
    exact⟨ls2 ++ [l],_,l.name,_,_,_,rfl,by rw [fJ (by simp),c8];exact c7,D9,by simpa [rN] using wc,by rw [lP];omega,by rw [lP,List.length_singleton];omega,by rw [lP,List.length_singleton];omega⟩
   rintro σ H2 ⟨ls2,ps2,y2,u3,u6,u7,rfl,s2,D2,w2,hl2',hl3,hp3⟩
   rw [lM] at w2 hl3 hp3
   rw [List.drop_length] at w2
   subst hu
   refine⟨_,rfl,_,rfl,il,fun a3 n3=>?_⟩
   have t3:=aB (o:=.lst []) n3
   have D3:=D2.keep t3
   have c3:=s2.trans (D2.cut t3)
   have o3:=D2.out n3
   have e3:=dH (au (H:=H2) (a:=a3) (o:=.lst ([]:List V))) o3
   generalize upd H2 a3 (.lst [])=H3 at t3 D3 c3 e3 ⊢
   refine⟨_,rfl,d.S,_,2,_,rfl,rfl,D3.seqS,aN (j:=2) rfl,.inl ⟨rfl,_,bT.of D3.opens⟩,d.O,_,.str y2,rfl,rfl,D3.opens,rfl,?_⟩
   have D4:=D3.open (os':=[])
   have c4:bA d.E (upd H3 d.O (.lst (([]:List Str).map V.str)))=bA d.E H3:=fJ (by simp)
   rw [show([y2].map V.str).dropLast=([]:List Str).map V.str from rfl]
   refine⟨il,fun a4 n4=>?_⟩
   generalize upd H3 d.O (.lst (([]:List Str).map V.str))=H4 at D4 c4 n4 ⊢
   have s5:=aB (o:=.lst [.str y2]) n4
   have D5:=D4.keep s5
   have c5:=D4.cut s5
   rw [c4] at c5
   have e5:=dH (E:=d.E) (H:=upd H4 a4 (.lst [.str y2])) au (D4.out n4)
   refine⟨d,ls2,ps2,[],_,1,a3,a4,[],[y2],0,rfl,D5,c5 _ _ e3,e5,by omega,rfl,by simp,rfl,rfl,by omega,by omega,by simp,fun newl2 H9 hn2 s9 D9=>?_⟩
   have hz:newl2=[]:=List.length_eq_zero_iff.mp hn2
   subst hz
   rw [List.map_nil,List.append_nil,List.append_nil] at D9
   obtain⟨x1,x2,x3⟩:=w2.last (p:=⟨1,cY d.c4 ps2.length,[],[y2],[]⟩) (y:=y2) rfl rfl rfl rfl
   exact k ls2 _ H9 (c3.trans (c5.trans s9)) D9 ⟨w2.nod,x1,x2,y2,x3⟩ (by omega) hl2' (by rw [lP,List.length_singleton];omega) (by rw [lP,List.length_singleton];omega)
 ·intro σ H' Q' Q'' hm hq
  obtain⟨x1,x2,x3,x4,x5,x6,x7,x8,x9,x10,x11,x12,x13,x14,x15,x16,x17,x18,x19,x20,q⟩:=hq
  exact⟨x1,x2,x3,x4,x5,x6,x7,x8,x9,x10,x11,x12,x13,x14,x15,x16,x17,x18,x19,x20,hm _ _ q⟩
inductive yw (K:PySem.W.Frag) (vs:List V) (H:Hp) (Q:VK) (E:XK):Prop where
 | mk:∀(a:Addr) (ns:List Int) (start steps:Nat) (odd:Bool),vs=[.ref a,.int (start:Nat),.int (steps:Nat),.bl odd]->bT K H a (ns.map V.int)->steps<=4->(∀(T L P:Addr) (ls:List aK) (ps:List PD) (H':Hp),aM H H'->H L=none->H P=none->L≠P->H' T=some (.tup [.ref L,.ref P])->Ar H' L P ls ps->Nx (jB ns start) (jB ns (start+1)) ls ps->Q (.ref T) H')->yw K vs H Q E
noncomputable abbrev Al:List Str:=["_law_script", "_law_start", "_law_steps", "_law_odd", "_law_one", "_law_other", "_law_state", "_law_k", "_law_back", "_law_at"]
theorem IK (T:Txt w K mg t):FO P w K mg base 7 t.zO ["_law_script", "_law_start", "_law_steps", "_law_odd"] (yw K):=by
 have sc:=T.vp.sc Al
 refine T.vp.F.ok sc ln (fun _ _ _ _ H vs Q E hr h=>?_)
 obtain⟨a,ns,start,steps,odd,rfl,hS,hst,k⟩:=h
 refine⟨_,(az (sN sc 4 (dY (iI T) T.gr hr (aa (pv 0) (aa (pv 1) ak aj) aj)))
  (az (sN sc 5 (dY (iI T) T.gr hr (aa (pv 0) (aa (aY cJ (pv 1) aq) ak bG) aj)))
  (az (sN sc 6 (bu (aa (bu ak) (aa (bu ak) (aa (bu ak) (aa (pv 4) (aa (pv 5) ak aj) aj) aQ) aQ) aQ)))
  (az (eN PassesOwn.never rfl (jz rfl T.j5 (aa (aY cJ aq (aY bY (dY (bh T) T.bx hr (aa (pv 4) (aa aq ak ao) aj)) aq)) ak bG)) (gN sc 7)
   (aA (bM (dY (cX T) T.cM hr (aa (pv 6) (aa (dY (bh T) T.bx hr (aa (pv 5) (aa (pv 7) ak aj) aj)) (aa bR (aa (bu ak) (aa (bu ak) (aa aq ak ao) aQ) aQ) ao) aW) aj)))))
  (az (pR (i:=8) [5,6] Al (bz (top 76)) rfl sc.nd rfl (jz rfl T.j5 (aa (aY bY (dY (bh T) T.bx hr (aa (pv 4) (aa aq ak ao) aj)) aq) ak bG)) (fun _ _ _ _ _=>gh) (fun _ _ _ _ _=>(dY (jH T) T.gY hr (aa (pv 2) (aa (dY (bh T) T.bx hr (aa (pv 1) (aa (aY cJ aq (pv 0)) ak bG) aj)) (aa gm ak ao) aW) aj))))
  (az (bM (Ag PySem.F.plainAttrs_list PySem.F.slot_list_extend PySem.F.type_list_extend Dm (aU aO (pv 6) aq (fun _ _=>rfl)) (aa (pv 8) ak aj)))
  (az (eN PassesOwn.never rfl (jz rfl T.j5 (aa (pv 2) ak aj)) (gN sc 7)
   (aA (bM (dY (Gg T) T.sX hr (aa (pv 6) (aa (dY (iI T) T.gr hr (aa (pv 0) (aa (aY cJ (aY cJ (pv 1) aq) (pv 7)) ak bG) aj)) (aa (pv 3) ak aj) aW) aj)))))
  (az (bM (dY (Ai T) T.pC hr (aa (pv 6) (aa (pv 5) (aa (pv 8) ak aj) aj) aj)))
  (az (sN sc 9 (aY bY (dY (bh T) T.bx hr (aa (pv 4) (aa aq ak ao) aj)) (bf b7 (by rfl) T.fj dB (aa (aU aO (pv 6) aq (fun _ _=>rfl)) ak aC))))
  (aA (aR (bL (aa (aU aO (pv 6) aq (fun _ _=>rfl)) (aa (aY JH (p8 zF (aU aO (pv 6) aq (fun _ _=>rfl)) (n8 (pv 9)) zL) (p8 zF (aU aO (pv 6) aq (fun _ _=>rfl)) zL (n8 (pv 9)))) ak bG) aC))))))))))))),?_⟩
 have hl:sizeLine=16777216:=sizeLine_eq
 refine hide fun u hu=>?_
 refine⟨_,rfl,_,rfl,a,ns,start,rfl,hS,?_⟩
 refine dD (v:=u) hu fun u hu=>?_
 refine⟨_,rfl,_,rfl,_,_,rfl,rfl,a,ns,start+1,rfl,hS,?_⟩
 refine dD (v:=u) hu fun u hu=>?_
 refine⟨il,fun L nL=>⟨il,fun P' nP=>⟨il,fun O nO=>⟨_,rfl,_,rfl,il,fun S nS=>?_⟩⟩⟩⟩
 obtain⟨D1,s1,nP0⟩:=lZ.init (jB ns start) (jB ns (start+1)) nL nP nO nS
 have nLP:L≠P':=D1.ne.1
 refine dD (v:=u) hu fun u hu=>?_
 change ur _ _ _ [some (.ref a),some (.int (start:Nat)),some (.int (steps:Nat)),some (.bl odd),some (.int (jB ns start)),some (.int (jB ns (start+1))),some (.ref S),none,none,none] (upd (upd (upd (upd H L (.lst [])) P' (.lst [])) O (.lst [])) S (.lst [.ref L,.ref P',.ref O,.int (jB ns start),.int (jB ns (start+1))]))
 generalize upd (upd (upd (upd H L (.lst [])) P' (.lst [])) O (.lst [])) S (.lst [.ref L,.ref P',.ref O,.int (jB ns start),.int (jB ns (start+1))])=H1 at D1 s1 ⊢
 obtain⟨d,hd⟩:∃d:Dw,d=⟨S,L,P',O,jB ns start,jB ns (start+1)⟩:=⟨_,rfl⟩
 rw [<-hd] at D1
 have hE:[L,P',O]=d.E:=by rw [hd]
 have hSd:S=d.S:=by rw [hd]
 have hLd:L=d.L:=by rw [hd]
 have hc3:jB ns start=d.c3:=by rw [hd]
 have hc4:jB ns (start+1)=d.c4:=by rw [hd]
 rw [hE] at s1
 rw [hLd] at nL nLP
 rw [hc3,hc4] at k
 rw [hSd,hc3,hc4]
 clear hd hE nP nO nS
 have g0:=Int.emod_nonneg (cH d.c3 5) (show(2:Int)≠0 by decide)
 have g1:=Int.emod_lt_of_pos (cH d.c3 5) (show(0:Int) <2 by decide)
 refine⟨_,rfl,_,_,rfl,_,_,rfl,rfl,by show(0:Int) <2;decide,_,_,rfl,rfl,1+cH d.c3 5 % 2,rfl,by omega,by omega,?_⟩
 obtain⟨g,hg,hg1,hg2⟩:∃g:Nat,(1+cH d.c3 5 % 2).toNat=g/\1<=g/\g<=2:=⟨_,rfl,by omega,by omega⟩
 rw [hg]
 refine Ei (fun j σ H2=>∃(ls:List aK) (ps:List PD) (os:List Str) (v7:Option V),σ=[some (.ref a),some (.int (start:Nat)),some (.int (steps:Nat)),some (.bl odd),some (.int d.c3),some (.int d.c4),some (.ref d.S),v7,none,none]/\aM (bA d.E H1) (bA d.E H2)/\lZ d H2 ls ps os/\Drawn.WF (rN ls ps os [])/\ls.length=j/\ps.length=j/\os.length=j) ⟨[],[],[],none,rfl,aM.refl _,D1,Drawn.WF.start,rfl,rfl,rfl⟩ ?_ ?_
 ·rintro j σ H2 hj ⟨ls,ps,os,v7,rfl,s2,D2,w2,h1,h2,h3⟩
  refine Th fun De hD=>?_
  refine⟨_,rfl,_,rfl,_,rfl,_,_,rfl,il,fun a1 n1=>⟨il,fun a2 n2=>?_⟩⟩
  obtain⟨D9,z1,z2,z3⟩:=D2.two n1 n2 (y:=.lst [])
  refine⟨d,ls,ps,os,_,0,a1,a2,[],[],1,rfl,D9,z1,z2,by omega,rfl,by simp,rfl,rfl,by omega,by omega,by omega,fun newl H8 hn s8 D8=>?_⟩
  have w8:=pY w2 rfl D8 (.refl _) (by omega) (by rw [lP];omega)
  subst hD
  exact⟨_,_,_,_,rfl,s2.trans (z3.trans s8),D8,w8,by rw [lP];omega,by rw [lP,List.length_singleton];omega,by rw [lP,lM];omega⟩
 rintro σ H2 ⟨ls,ps,os,v7,rfl,s2,D2,w2,h1,h2,h3⟩
 have b0:=Int.emod_nonneg (cH d.c3 6) (show(3:Int)≠0 by decide)
 have b1:=Int.emod_lt_of_pos (cH d.c3 6) (show(0:Int) <3 by decide)
 refine dD (v:=u) hu fun u hu=>?_
 refine⟨_,rfl,_,_,rfl,_,_,rfl,rfl,by show(0:Int) <3;decide,cH d.c3 6 % 3,rfl,by omega,by omega,?_⟩
 obtain⟨nb,hnb,hnb2⟩:∃nb:Nat,(cH d.c3 6 % 3).toNat=nb/\nb<=2:=⟨_,rfl,by omega⟩
 rw [hnb]
 refine iG (fun j ys H3=>∃(ls3:List aK) (bl:List Str),ys=bl.map V.str/\bl.length=j/\aM (bA d.E H1) (bA d.E H3)/\lZ d H3 ls3 ps os/\Drawn.WF (rN ls3 ps (os ++ bl) bl)/\ls3.length=g+j) (by omega) ⟨ls,[],rfl,rfl,s2,D2,by rw [List.append_nil];exact w2,by omega⟩ (fun j ys H3 ⟨_,bl,e,e2,_⟩=>by rw [e,lM];omega) ?_ ?_
 ·rintro j ys H3 hj ⟨ls3,bl,rfl,hb,s3,D3,w3,h4⟩
  refine yes ⟨_,rfl,_,rfl,_,rfl,_,_,rfl,rfl,_,_,rfl,d,ls3,ps,os,_,true,rfl,D3,by omega,fun l H4 _ s4 D4=>?_⟩
  have nd:=D4.nod (by rw [lP,List.length_singleton];omega)
  have wb:=w3.backLane (b:=l.name) (by simpa using nd)
  exact⟨ls3 ++ [l],bl ++ [l.name],by simp,by simp [hb],s3.trans s4,D4,by simpa [rN] using wb,by rw [lP,List.length_singleton];omega⟩
 rintro ys H3 ⟨ls3,bl,rfl,hbl,s3,D3,w3,h4⟩ B nB
 have t4:=aB (o:=.lst (bl.map V.str)) nB
 have D4:=D3.keep t4
 have s4:=s3.trans (D3.cut t4)
 have eB:=dH (au (H:=H3) (a:=B) (o:=.lst (bl.map V.str))) (D3.out nB)
 generalize upd H3 B (.lst (bl.map V.str))=H4 at t4 D4 s4 eB ⊢
 refine dD (v:=u) hu fun u hu=>?_
 refine⟨_,rfl,d.S,_,2,_,rfl,rfl,D4.seqS,aN (j:=2) rfl,.inl ⟨rfl,_,bT.of D4.opens⟩,_,rfl,d.O,B,_,_,rfl,rfl,D4.opens,dF _ _ eB,by rw [lM,lM];omega,?_⟩
 rw [<-List.map_append]
 have D5:=D4.open (os':=os ++ bl)
 have c5:bA d.E (upd H4 d.O (.lst ((os ++ bl).map V.str)))=bA d.E H4:=fJ (by simp)
 generalize upd H4 d.O (.lst ((os ++ bl).map V.str))=H5 at D5 c5 ⊢
 rw [<-c5] at s4 eB
 refine dD (v:=u) hu fun u hu=>?_
 refine⟨_,rfl,(steps:Int),rfl,by omega,by omega,?_⟩
 rw [Int.toNat_natCast]
 refine Ei (fun j σ H6=>∃(ls6:List aK) (ps6:List PD) (os6:List Str) (v7:Option V),σ=[some (.ref a),some (.int (start:Nat)),some (.int (steps:Nat)),some (.bl odd),some (.int d.c3),some (.int d.c4),some (.ref d.S),v7,some (.ref B),none]/\aM (bA d.E H5) (bA d.E H6)/\lZ d H6 ls6 ps6 os6/\Drawn.WF (rN ls6 ps6 os6 bl)/\1<=ls6.length/\ls6.length<=4+2 * j/\ps6.length<=2+2 * j/\os6≠[]/\os6.length<=4) ⟨ls3,ps,os ++ bl,v7,rfl,aM.refl _,D5,w3,by omega,by omega,by omega,by intro z;have:=congrArg List.length z;rw [lP,List.length_nil] at this;omega,by rw [lP];omega⟩ ?_ ?_
 ·rintro j σ H6 hj ⟨ls6,ps6,os6,u7,rfl,s6,D6,w6,l0,l6,p6,o0,o6⟩
  have hS6:bT K H6 a (ns.map V.int):=dF.seq ((s1.trans (s4.trans s6)).seq hS)
  refine Th fun De hD=>?_
  refine⟨_,rfl,_,rfl,_,rfl,_,_,rfl,rfl,_,rfl,_,_,rfl,rfl,a,ns,start+2+(0+j),rfl,hS6,_,rfl,d,ls6,ps6,os6,_,bl,odd,rfl,D6,w6,o0,o6,by omega,by omega,fun ls' ps' os' H' X=>?_⟩
  subst hD
  exact⟨ls',ps',os',_,rfl,s6.trans X.cut,X.at',X.wf,by have h1:=X.wf.ins.length_eq;have h2:=X.o1;rw [lP,lM] at h1;change _+os'.length=_ at h1;omega,by have:=X.l2;omega,by have:=X.p2;omega,by intro z;have:=X.o1;rw [z] at this;simp at this,X.o4⟩
 rintro σ H6 ⟨ls6,ps6,os6,u7,rfl,s6,D6,w6,l0,l6,p6,o0,o6⟩
 refine dD (v:=u) hu fun u hu=>?_
 refine⟨_,rfl,_,rfl,_,rfl,d,ls6,ps6,os6,_,B,bl,rfl,D6,w6,s6 _ _ eB,o0,o6,by omega,by omega,by omega,fun ls7 ps7 H7 s7 D7 W7 l17 l7 p16 p1=>?_⟩
 obtain⟨xsL,eL,aL⟩:=D7.lanes
 obtain⟨xsP,eP,aP⟩:=D7.parts
 have xl:=aP.length
 refine dD (v:=u) hu fun u hu=>?_
 refine⟨_,rfl,_,_,rfl,_,rfl,d.S,_,1,_,rfl,rfl,D7.seqS,aN (j:=1) rfl,.ref d.P,ps7.length,rfl,.inl ⟨_,bT.of eP,xl.symm⟩,cH d.c3 7,(ps7.length:Int),rfl,rfl,by omega,?_⟩
 have r0:=Int.emod_nonneg (cH d.c3 7) (show(ps7.length:Int)≠0 by omega)
 obtain⟨r,hr'⟩:∃r:Nat,cH d.c3 7 % (ps7.length:Int)=(r:Int):=⟨_,(Int.toNat_of_nonneg r0).symm⟩
 dsimp only
 rw [hr']
 subst hu
 refine⟨_,rfl,d.S,_,0,_,rfl,rfl,D7.seqS,aN (j:=0) rfl,?_⟩
 refine⟨_,rfl,d.S,_,1,_,rfl,rfl,D7.seqS,aN (j:=1) rfl,?_⟩
 refine⟨_,rfl,_,rfl,d.P,_,rfl,bT.of eP,fun q1 m1=>?_⟩
 rw [Mg]
 have t1:=aB (o:=.lst (xsP.drop r)) m1
 have f1:upd H7 q1 (.lst (xsP.drop r)) q1=some (.lst (xsP.drop r)):=au
 have D8:=D7.keep t1
 have eP8:=t1 _ _ eP
 have eL8:=t1 _ _ eL
 generalize upd H7 q1 (.lst (xsP.drop r))=H8 at t1 f1 D8 eP8 eL8 ⊢
 refine⟨_,rfl,d.S,_,1,_,rfl,rfl,D8.seqS,aN (j:=1) rfl,_,rfl,_,rfl,d.P,_,rfl,bT.of eP8,fun q2 m2=>?_⟩
 rw [QR]
 have t2:=aB (o:=.lst (xsP.take r)) m2
 have f2:upd H8 q2 (.lst (xsP.take r)) q2=some (.lst (xsP.take r)):=au
 have f12:=t2 _ _ f1
 have eL9:=t2 _ _ eL8
 generalize upd H8 q2 (.lst (xsP.take r))=H9 at t2 f2 f12 eL9 ⊢
 refine⟨q1,q2,_,_,rfl,rfl,f12,f2,by rw [List.length_drop,List.length_take];omega,fun q3 m3=>?_⟩
 have t3:=aB (o:=.lst (xsP.drop r ++ xsP.take r)) m3
 have f3:upd H9 q3 (.lst (xsP.drop r ++ xsP.take r)) q3=some (.lst (xsP.drop r ++ xsP.take r)):=au
 have eLA:=t3 _ _ eL9
 generalize upd H9 q3 (.lst (xsP.drop r ++ xsP.take r))=HA at t3 f3 eLA ⊢
 refine⟨il,fun T' nT=>?_⟩
 have t4:=aB (o:=.tup [.ref d.L,.ref q3]) nT
 have sA:aM H7 (upd HA T' (.tup [.ref d.L,.ref q3])):=t1.trans (t2.trans (t3.trans t4))
 have s17:aM H (bA d.E H7):=s1.trans (s4.trans (s6.trans s7))
 have s07:aM H H7:=s17.trans dF
 have free3:H q3=none:=s07.free (t1.free (t2.free m3))
 have cA:aM (bA d.E H7) (upd HA T' (.tup [.ref d.L,.ref q3])):=dF.trans sA
 have nq:d.L≠q3:=aF eL9 m3
 have rp:=Qx ps7 r
 refine k T' d.L q3 ls7 (ps7.drop r ++ ps7.take r) _ (s07.trans sA) nL free3 nq au ⟨⟨xsL,t4 _ _ eLA,aL.imp fun _ _ h=>h.same cA⟩,⟨_,t4 _ _ f3,((aP.drop r).app (aP.take r)).imp fun _ _ h=>h.same cA⟩⟩ ⟨D7.lok,fun p hp=>D7.pok p (rp.mem_iff.mpr hp),D7.ln,?_,W7.perm rp,by omega,l17,by rw [<-rp.length_eq];exact p1,by rw [<-rp.length_eq];exact p16⟩
 rw [<-rp.length_eq,<-D7.pn]
 exact rp.map _
inductive Aj (K:PySem.W.Frag) (vs:List V) (H:Hp) (Q:VK) (E:XK):Prop where
 | mk:∀x,vs=[x]->(((∃z:Str,x=.str z/\z.length<=100/\∀H',aM H H'->Q (.bl (nameB z)) H')∨∃Tx,VH K H x Tx/\Tx∈nH/\Tx≠ "str" /\Q (.bl false) H))->Aj K vs H Q E
theorem Jc (T:Txt w K mg t):FO P w K mg base 1 t.Cz ["thing"] (Aj K):=by
 have sc:=T.yd.sc ["thing"]
 refine T.yd.F.ok sc ln (fun _ _ _ _ H vs Q E hr h=>?_)
 obtain⟨x,rfl,h⟩:=h
 refine⟨_,(az (bO (PW.pt (qd (gM (fH (bf mO (by rfl) T.fP eZ (aa (pv 0) (aa (oH (by rfl) T.S9 QC) ak aj) aj)))) (j4 (gM (rD qR qR aq (bf b7 (by rfl) T.fj dB (aa (pv 0) ak aj)) (iw (by rfl) T.Az))))))
   (aA (aR gm))
   bc)
  (aA (aR (xX (tR xN (aU Be (pv 0) aq (fun _ _=>rfl)) (iw (by rfl) T.DN) (by with_unfolding_all rfl)) (xY (bf (wM rfl) (by rfl) T.Kc GC (aa (fM [] ["thing"] (bz (top 24)) rfl (U9 (pv 0)) (fun _ _ _ _ _=>gh) (fun _ _ _ _ _=>(V6 (tR xN (pv 0) (iw (by rfl) T.DN) (by with_unfolding_all rfl)) (xY (tR xN (pv 0) (iw (by rfl) T.Mv) (by with_unfolding_all rfl)))))) ak cP))))))),?_⟩
 have hl:sizeLine=16777216:=sizeLine_eq
 rcases h with ⟨z,rfl,hz,k⟩ | ⟨Tx,ty,hm,hne,k⟩
 ·refine⟨_,rfl,.str z, "str", "str",true,rfl,rfl,by decide,by decide,_,rfl,dI ?_⟩
  refine⟨_,rfl,.str z,z.length,rfl,⟨by omega,rfl⟩,_,_,rfl,rfl,_,rfl,?_⟩
  cases e:z.cps.toList with
  | nil=>
   have h0:z.length=0:=by rw [<-mq,e];rfl
   rw [h0]
   refine dI ⟨_,rfl,ji ?_⟩
   have:=k H (aM.refl _)
   unfold nameB at this
   rw [e] at this
   exact this
  | cons c r=>
   have hlen:z.length=r.length+1:=by rw [<-mq,e];rfl
   refine pJ (by omega) ⟨_,_,rfl,rfl,_,rfl,jt (fun h=>?_) (fun h=>?_)⟩
   ·have h8:¬(z.length:Int)<=8:=by simpa using h
    have:=k H (aM.refl _)
    unfold nameB at this
    rw [e] at this
    simp only [show ¬r.length<=7 by omega,decide_false,Bool.false_and] at this
    exact this
   ·have h8:(z.length:Int)<=8:=by simpa using h
    have hc0:Cq z.cps.toList 0=some c:=by rw [e];exact aN (xs:=c:: r) (j:=0) rfl
    refine⟨_,rfl,z,_,c,rfl,rfl,by omega,hc0,_,_,rfl,rfl,_,rfl,?_⟩
    have kk:∀H',aM H H'->Q (.bl (low c && z.cps.toList.all fun d=>low d || Lf d)) H':=fun H' s'=>by
     have:=k H' s'
     unfold nameB at this
     rw [e] at this ⊢
     simp only [show r.length<=7 by omega,decide_true,Bool.true_and] at this
     exact this
    rw [Qz]
    refine jt (fun hc=>?_) (fun hc=>?_)
    ·rw [hc,Bool.true_and] at kk
     refine⟨_,rfl,z,rfl,Oz (fun i ys H'=>H'=H/\ys=((z.cps.toList.take i).map fun d=>low d || Lf d).map V.bl) (by simp only [Str.length] at hz;omega) ⟨rfl,by simp⟩ (fun i ys H' ⟨_,e⟩=>by rw [e];simp only [lM,List.length_take];omega) ?_ ?_⟩
     ·rintro i d ys H' hd ⟨rfl,rfl⟩
      refine yes ⟨_,rfl,_,_,rfl,rfl,_,rfl,?_⟩
      have hd':z.cps.toList[i]?=some d:=by simpa using hd
      have next:∀b,b=(low d || Lf d)->(((z.cps.toList.take i).map fun d=>low d || Lf d).map V.bl) ++ [V.bl b]=((z.cps.toList.take (i+1)).map fun d=>low d || Lf d).map V.bl:=fun b hb=>by
       rw [List.take_add_one,hd',hb]
       simp
      rw [Qz]
      refine jt (fun hl'=>?_) (fun hl'=>?_)
      ·exact⟨rfl,next true (by rw [hl'];rfl)⟩
      ·have hl2:low d=false:=by simpa using hl'
       refine⟨_,rfl,_,_,rfl,rfl,rfl,next _ ?_⟩
       rw [UT,hl2,Bool.false_or]
     ·rintro ys H' ⟨rfl,rfl⟩ D hD
      refine⟨D,(z.cps.toList.take z.cps.size).map fun d=>low d || Lf d,rfl,bT.of au,?_⟩
      have hall:((z.cps.toList.take z.cps.size).map fun d=>low d || Lf d).all id=z.cps.toList.all fun d=>low d || Lf d:=by
       rw [List.take_of_length_le (by simp),List.all_map]
       rfl
      rw [hall]
      exact kk _ (aB hD)
    ·have hc':low c=false:=by simpa using hc
     rw [hc',Bool.false_and] at kk
     exact kk H (aM.refl _)
 ·have hb:Es Tx "str" =false:=by
   simp only [nH,List.mem_cons,List.not_mem_nil,or_false] at hm
   rcases hm with rfl | rfl | rfl | rfl | rfl | rfl | rfl <;> first | decide | exact absurd rfl hne
  exact⟨_,rfl,x,Tx, "str",false,rfl,ty,by decide,hb,_,rfl,ji (ji k)⟩
inductive tH (K:PySem.W.Frag) (vs:List V) (H:Hp) (Q:VK) (E:XK):Prop where
 | mk:∀(a b:Addr) (xs ys:List V),vs=[.ref a,.ref b]->bT K H a xs->bT K H b ys->1<=xs.length->xs.length<=24->1<=ys.length->ys.length<=16->Q .non H->tH K vs H Q E
theorem Bb (T:Txt w K mg t):FO P w K mg base 1 t.uT ["lanes", "parts"] (tH K):=by
 have sc:=T.pL.sc ["lanes", "parts"]
 refine T.pL.F.ok sc ln (fun _ _ _ _ H vs Q E hr h=>?_)
 obtain⟨a,b,xs,ys,rfl,h1,h2,c1,c2,c3,c4,k⟩:=h
 refine⟨_,(az (bO (gM (rD qR qR aq (bf b7 (by rfl) T.fj dB (aa (pv 0) ak aj)) (iw (by rfl) T.Fg)))
   (aA dW)
   bc)
  (aA (bO (gM (rD qR qR aq (bf b7 (by rfl) T.fj dB (aa (pv 1) ak aj)) (iw (by rfl) T.Gj)))
   (aA dW)
   bc))),?_⟩
 have hl:sizeLine=16777216:=sizeLine_eq
 refine⟨_,rfl,.ref a,xs.length,rfl,.inl ⟨_,h1,rfl⟩,_,_,rfl,rfl,_,rfl,pJ (by omega) ⟨_,_,rfl,rfl,_,rfl,?_⟩⟩
 rw [show decide ((xs.length:Int)<=24)=true from decide_eq_true (by omega)]
 refine dI ?_
 refine⟨_,rfl,.ref b,ys.length,rfl,.inl ⟨_,h2,rfl⟩,_,_,rfl,rfl,_,rfl,pJ (by omega) ⟨_,_,rfl,rfl,_,rfl,?_⟩⟩
 rw [show decide ((ys.length:Int)<=16)=true from decide_eq_true (by omega)]
 exact dI k
inductive uL (K:PySem.W.Frag) (vs:List V) (H:Hp) (Q:VK) (E:XK):Prop where
 | mk:∀(z:Str) (d:Addr) (kvs:List (Key×V)),vs=[.str z,.ref d]->H d=some (.dK kvs)->nameB z=true->z.length<=100->cC kvs (Sum.inr z)=none->(∀H',aM H H'->Q .non H')->uL K vs H Q E
theorem uR (T:Txt w K mg t):FO P w K mg base 2 t.wA ["name", "known"] (uL K):=by
 have sc:=T.lO.sc ["name", "known"]
 refine T.lO.F.ok sc ln (fun _ _ _ _ H vs Q E hr h=>?_)
 obtain⟨z,d,kvs,rfl,hd,hz,hl,hv,k⟩:=h
 refine⟨_,(az (bO (gM (fH (dY (Jc T) T.yd hr (aa (pv 0) ak aj))))
   (aA dW)
   bc)
  (aA (bO (jy (xF hr.u1 (pv 0) (pv 1)))
   (aA dW)
   bc))),?_⟩
 refine⟨_,rfl,.str z,rfl,.inl ⟨z,rfl,hl,fun H1 s1=>?_⟩⟩
 rw [hz]
 refine⟨_,rfl,dI ?_⟩
 refine⟨_,rfl,_,rfl,d,_,rfl,dZ.k (k:=Sum.inr z) (s1 _ _ hd),?_⟩
 rw [hv]
 exact⟨_,rfl,dI (k _ s1)⟩
inductive wQ (K:PySem.W.Frag) (vs:List V) (H:Hp) (Q:VK) (E:XK):Prop where
 | mk:∀(nm:V) (room:Int) (L:Addr) (ws:List Int),vs=[nm,.int room,.ref L]->wJ K H L (ws.map V.int)->ws.length<=1000->((∀v∈ws,0<=v/\v <1000000000))->1<=room->(ws.length:Int)<=room->room<=199->(∀H',aM H H'->Q .non H')->wQ K vs H Q E
theorem Ep (T:Txt w K mg t):FO P w K mg base 3 t.yg ["name", "room", "first"] (wQ K):=by
 have sc:=T.tE.sc ["name", "room", "first"]
 refine T.tE.F.ok sc ln (fun _ _ _ _ H vs Q E hr h=>?_)
 obtain⟨nm,room,L,ws,rfl,hL,hw,hB,c1,c2,c3,k⟩:=h
 refine⟨_,(az (bO (PW.pt (qd (gM (fH (dY (sE T) T.mC hr (aa (pv 1) ak aj)))) (j4 (gM (rD qR qR (bf (CG rfl) (by rfl) T.Kr Ey (aa aq (aa (bf b7 (by rfl) T.fj dB (aa (pv 2) ak aj)) ak aW) ao)) (pv 1) (iw (by rfl) T.G5))))))
   (aA dW)
   bc)
  (aA (bO (gM (fH (bf (wM rfl) (by rfl) T.Kc GC (aa (fM [] ["name", "room", "first"] (bz (top 57)) rfl (R1 (cW (pv 2)) (FT (pv 2))) (fun _ _ _ _ _=>gh) (fun _ _ _ _ _=>(dY (tQ T) T.m7 hr (aa (pv 0) ak aj)))) ak cP))))
   (aA dW)
   bc))),?_⟩
 have hl:sizeLine=16777216:=sizeLine_eq
 have hlw:(ws.map V.int).length=ws.length:=lM ..
 refine⟨_,rfl,.int room, "int",true,rfl,rfl,by decide,by decide,true,rfl,dI ?_⟩
 refine⟨_,rfl,.ref L,(ws.map V.int).length,rfl,hL.len,_,_,rfl,_,rfl,_,_,rfl,rfl,_,rfl,pJ ?_ ⟨_,_,rfl,rfl,_,rfl,?_⟩⟩
 ·split <;> omega
 rw [show decide (room<=199)=true from decide_eq_true c3]
 refine dI ?_
 refine Oo (a:=L) (xs:=ws.map V.int) ?_ hL (fun j ys=>ys=(List.replicate j true).map V.bl) (by rw [lM];omega) rfl (fun j ys e=>by rw [e];simp) (fun j x ys hx e=>?_) (fun ys e D hD=>?_)
 ·exact fun R r=>⟨_,rfl,r⟩
 ·subst e
  rw [List.getElem?_map] at hx
  obtain⟨n,hn,rfl⟩:=Option.map_eq_some_iff.mp hx
  obtain⟨n0,n1⟩:=hB n (List.mem_of_getElem? hn)
  refine yes ⟨_,rfl,.int n,rfl,.inl ⟨n,rfl,rfl,?_⟩⟩
  rw [decide_eq_true n0,decide_eq_true n1,List.replicate_succ']
  simp
 ·subst e
  refine⟨D,_,rfl,bT.of au,_,rfl,?_⟩
  rw [show((List.replicate (ws.map V.int).length true).all id)=true by simp]
  exact dI (k _ (aB hD))
inductive uP (K:PySem.W.Frag) (t:nj) (vs:List V) (H:Hp) (Q:VK) (E:XK):Prop where
 | mk:∀(i:Nat) (nm:Str) (r d a1 a2 a3:Addr) (ns is os:List V) (kvs:List (Key×V)),vs=[.ref r,.ref d]->H r=some (.tup [.str (dM i),.str nm,.ref a1,.ref a2,.ref a3])->i<=10->H d=some (.dK kvs)->nameB nm=true->nm.length<=100->cC kvs (Sum.inr nm)=none->wJ K H a1 ns->wJ K H a2 is->wJ K H a3 os->ns.length=cN i->is.length=cI i->os.length=cO i->((∀v∈ns,Val v))->(∀H' p,aM H H'->H p=none->fG K t H' p i (.str nm) ns is os->Q (.ref p) H')->uP K t vs H Q E
theorem Cd (T:Txt w K mg t):FO P w K mg base 5 t.vH ["row", "known"] (uP K t):=by
 have sc:=T.qJ.sc ["row", "known"]
 refine T.qJ.F.ok sc ln (fun _ _ _ _ H vs Q E hr h=>?_)
 obtain⟨i,nm,r,d,a1,a2,a3,ns,is,os,kvs,rfl,hr1,hi,hd,hz,hl,hv,q1,q2,q3,l1,l2,l3,hV,k⟩:=h
 refine⟨_,(az (bO (gM (fH (dY (Ab T) T.ud hr (aa (aU dw (pv 0) aq (fun _ _=>rfl)) ak aC))))
   (aA dW)
   bc)
  (az (bM (dY (uR T) T.lO hr (aa (aU dw (pv 0) aq (fun _ _=>rfl)) (aa (pv 1) ak aj) aC)))
  (aA (aR (dY (GD T) T.yh hr (aa (aU dw (pv 0) aq (fun _ _=>rfl)) (aa (aU dw (pv 0) aq (fun _ _=>rfl)) (aa (aU dw (pv 0) aq (fun _ _=>rfl)) (aa (aU dw (pv 0) aq (fun _ _=>rfl)) (aa (aU dw (pv 0) aq (fun _ _=>rfl)) ak aC) aC) aC) aC) aC)))))),?_⟩
 refine⟨_,rfl,r,_,0,_,rfl,rfl,fY.of hr1,aN (j:=0) rfl,dM i,rfl,?_⟩
 rw [row_of]
 refine⟨_,rfl,dI ?_⟩
 refine⟨_,rfl,r,_,1,_,rfl,rfl,fY.of hr1,aN (j:=1) rfl,_,rfl,nm,d,kvs,rfl,hd,hz,hl,hv,fun H1 s1=>?_⟩
 have e1:=fY.of (K:=K) (s1 _ _ hr1)
 exact⟨_,rfl,r,_,0,_,rfl,rfl,e1,aN (j:=0) rfl,_,rfl,r,_,1,_,rfl,rfl,e1,aN (j:=1) rfl,_,rfl,r,_,2,_,rfl,rfl,e1,aN (j:=2) rfl,_,rfl,r,_,3,_,rfl,rfl,e1,aN (j:=3) rfl,_,rfl,r,_,4,_,rfl,rfl,e1,aN (j:=4) rfl,i,.str nm,a1,a2,a3,ns,is,os,rfl,hi,s1.seqA q1,s1.seqA q2,s1.seqA q3,l1,l2,l3,hV,fun H2 p s2 np P=>k _ p (s1.trans s2) (s1.free np) P⟩
inductive ww (K:PySem.W.Frag) (vs:List V) (H:Hp) (Q:VK) (E:XK):Prop where
 | mk:∀(y:Str) (a rd d:Addr) (zs:List Str) (rk kvs:List (Key×V)),vs=[.str y,.ref a,.ref rd,.ref d]->fY K H a (zs.map V.str)->H rd=some (.dK rk)->rd≠d->H d=some (.dK kvs)->zs.Nodup->((∀z∈zs,(cC rk (Sum.inr z)).isSome=true/\cC kvs (Sum.inr z)=none))->kvs.length+zs.length<=1000->(Q .non (upd H d (.dK (kvs ++ zs.map fun l=>((Sum.inr l:Key),V.str y)))))->ww K vs H Q E
theorem wL (T:Txt w K mg t):FO P w K mg base 1 t.yQ ["part", "lanes", "rooms", "ends"] (ww K):=by
 have sc:=T.ou.sc ["part", "lanes", "rooms", "ends", "lane"]
 refine T.ou.F.ok sc ln (fun _ _ _ _ H vs Q E hr h=>?_)
 obtain⟨y,a,rd,d,zs,rk,kvs,rfl,hT,hrd,hne,hd,nd,hz,hlen,k⟩:=h
 refine⟨_,(aA (eN PassesOwn.never rfl (FT (pv 1)) (gN sc 4)
   (az (bO (PW.pt (qd (jy (uc hr.u1 (pv 4) (pv 2))) (j4 (jy (xF hr.u1 (pv 4) (pv 3))))))
    (aA dW)
    bc)
   (aA (fL hr.u1 (pv 3) (pv 4) (pv 0) rfl))))),?_⟩
 have hl:sizeLine=16777216:=sizeLine_eq
 refine⟨_,rfl,a,rfl,⟨_,hT⟩,RJ (K:=K) (a:=a) (xs:=zs.map V.str) (fun j σ H'=>H'=upd H d (.dK (kvs ++ (zs.take j).map fun l=>((Sum.inr l:Key),V.str y)))/\∃v4,σ=[some (.str y),some (.ref a),some (.ref rd),some (.ref d),v4]) ⟨by rw [List.take_zero,List.map_nil,List.append_nil,Fo hd],none,rfl⟩ (fun j σ H' _ ⟨e,_⟩=>by rw [e];exact fU hd hT) ?_ ?_⟩
 ·rintro j x σ H' hx ⟨rfl,v4,rfl⟩
  rw [List.getElem?_map] at hx
  obtain⟨z,hzj,rfl⟩:=Option.map_eq_some_iff.mp hx
  have hj:j <zs.length:=(List.getElem?_eq_some_iff.mp hzj).1
  obtain⟨r1,r2⟩:=hz z (List.mem_of_getElem? hzj)
  obtain⟨rv,hrv⟩:=Option.isSome_iff_exists.mp r1
  have erd:upd H d (.dK (kvs ++ (zs.take j).map fun l=>((Sum.inr l:Key),V.str y))) rd=some (.dK rk):=by rw [aG hne];exact hrd
  have nin:z∉zs.take j:=fun hm=>by
   obtain⟨i,hi,ei⟩:=List.mem_iff_getElem.mp hm
   rw [List.length_take] at hi
   rw [List.getElem_take] at ei
   have e2:zs[j]=z:=by rw [List.getElem?_eq_getElem hj] at hzj;exact Option.some.inj hzj
   have:=(List.getElem_inj nd).mp (ei.trans e2.symm)
   omega
  have none':cC (kvs ++ (zs.take j).map fun l=>((Sum.inr l:Key),V.str y)) (Sum.inr z)=none:=ir (by
   rw [List.map_append,List.mem_append,not_or]
   refine⟨fun hm=>?_,fun hm=>?_⟩
   ·have:(cC kvs (Sum.inr z)).isSome=true:=by rw [<-qb];obtain⟨p,hp,e⟩:=List.mem_map.mp hm;exact List.any_eq_true.mpr ⟨p,hp,decide_eq_true e⟩
    rw [r2] at this
    cases this
   ·rw [List.map_map] at hm
    obtain⟨b,hb,e⟩:=List.mem_map.mp hm
    cases e
    exact nin hb)
  refine⟨_,rfl,_,rfl,rd,some rv,rfl,(by rw [<-hrv];exact dZ.k (k:=Sum.inr z) erd),_,rfl,dI ?_⟩
  refine⟨_,rfl,_,rfl,d,none,rfl,(by rw [<-none'];exact dZ.k (k:=Sum.inr z) au),_,rfl,dI ?_⟩
  refine⟨_,rfl,_,rfl,_,rfl,d,_,rfl,mj.k (k:=Sum.inr z) au (by rw [lP,lM,List.length_take];omega),?_,_,rfl⟩
  rw [um,lD _ none',List.append_assoc,List.take_succ,hzj,Option.toList_some,List.map_append]
  rfl
 ·rintro σ H' ⟨rfl,v4,rfl⟩
  rw [lM,List.take_length]
  exact k
inductive vB (K:PySem.W.Frag) (vs:List V) (H:Hp) (Q:VK) (E:XK):Prop where
 | mk:∀(r g d:Addr) (rk gk tk:List (Key×V)),vs=[.ref r,.ref g,.ref d]->H r=some (.dK rk)->H g=some (.dK gk)->H d=some (.dK tk)->r≠g->r≠d->((∀q∈rk,(cC gk q.1).isSome=true/\(cC tk q.1).isSome=true))->Q .non H->vB K vs H Q E
theorem Gp (T:Txt w K mg t):FO P w K mg base 1 t.yO ["rooms", "givers", "takers"] (vB K):=by
 have sc:=T.rU.sc ["rooms", "givers", "takers", "lane"]
 refine T.rU.F.ok sc ln (fun _ _ _ _ H vs Q E hr h=>?_)
 obtain⟨r,g,d,rk,gk,tk,rfl,h1,h2,h3,n1,n2,hA,k⟩:=h
 refine⟨_,(aA (pN (H0:=H) rfl (eN PassesOwn.never rfl (nW (pv 0)) (gN sc 3)
   (aA (bO (PW.pt (qd (jy (uc hr.u1 (pv 3) (pv 1))) (j4 (jy (uc hr.u1 (pv 3) (pv 2))))))
    (aA dW)
    bc))))),?_⟩
 refine⟨_,rfl,r,_,rfl,h1,fun o=>pX (fun j σ H'=>H'=upd H r (.frz o (.dK rk))/\∃v3,σ=[some (.ref r),some (.ref g),some (.ref d),v3]) ⟨rfl,none,rfl⟩ (fun j σ H' _ ⟨e,_⟩=>by rw [e];exact au) ?_ ?_⟩
 ·rintro j kk w σ H' hj ⟨rfl,v3,rfl⟩
  obtain⟨a1,a2⟩:=hA _ (List.mem_of_getElem? hj)
  obtain⟨u1,b1⟩:=Option.isSome_iff_exists.mp a1
  obtain⟨u2,b2⟩:=Option.isSome_iff_exists.mp a2
  have e2:upd H r (.frz o (.dK rk)) g=some (.dK gk):=by rw [aG (Ne.symm n1)];exact h2
  have e3:upd H r (.frz o (.dK rk)) d=some (.dK tk):=by rw [aG (Ne.symm n2)];exact h3
  exact⟨_,rfl,_,rfl,g,some u1,rfl,(by rw [<-b1];exact dZ.k e2),_,rfl,dI ⟨_,rfl,_,rfl,d,some u2,rfl,(by rw [<-b2];exact dZ.k e3),_,rfl,dI ⟨rfl,_,rfl⟩⟩⟩
 ·rintro σ H' ⟨rfl,v3,rfl⟩
  refine⟨_,⟨r,o,_,au,?_,rfl⟩,?_⟩
  ·intro o' u' z
   rw [show H r=_ from h1] at z
   cases z
  ·rw [um,Fo h1]
   exact k
noncomputable def Oh (H:Hp) (J:Addr):List (Key×V):=match H J with
 | some (.dK jk)=>jk
 | _=>[]
theorem KD {H:Hp} {J:Addr} {jk:List (Key×V)} (h:H J=some (.dK jk)):Oh H J=jk:=by
 unfold Oh
 rw [h]
theorem Nk {f:PD->List Str} {ps:List PD} {j:Nat} {k:Key} {v:V} (h:(dg f ps)[j]?=some (k,v)):∃p∈ps,∃l∈f p,k=Sum.inr l/\v=.str p.name:=by
 have:=List.mem_of_getElem? h
 unfold dg at this
 obtain⟨p,hp,hm⟩:=List.mem_flatMap.mp this
 obtain⟨l,hl,e⟩:=List.mem_map.mp hm
 cases e
 exact⟨p,hp,l,hl,rfl,rfl⟩
noncomputable def Nu (ps:List PD) (jk:List (Key×V)) (j:Nat):Prop:=∀i k v,i <j->(dg (·.outs) ps)[i]?=some (k,v)->∀a∈ps,∀b∈ps,∀l,k=Sum.inr l->l∈a.outs->l∈b.ins->gB jk a.name=gB jk b.name
theorem Nu.all {ps:List PD} {jk:List (Key×V)} (h:Nu ps jk (dg (·.outs) ps).length):∀a∈ps,∀b∈ps,∀l,l∈a.outs->l∈b.ins->gB jk a.name=gB jk b.name:=fun a ha b hb l la lb=>by
 have hm:((Sum.inr l:Key),V.str a.name)∈dg (·.outs) ps:=List.mem_flatMap.mpr ⟨a,ha,List.mem_map.mpr ⟨l,la,rfl⟩⟩
 obtain⟨i,hi,ei⟩:=List.mem_iff_getElem.mp hm
 exact h i _ _ hi (by rw [List.getElem?_eq_getElem hi,ei]) a ha b hb l rfl la lb
inductive su (K:PySem.W.Frag) (vs:List V) (H:Hp) (Q:VK) (E:XK):Prop where
 | mk:∀(p0:PD) (g d:Addr) (ps:List PD),vs=[.str p0.name,.ref g,.ref d]->p0∈ps->ps.length<=16->H g=some (.dK (dg (·.outs) ps))->H d=some (.dK (dg (·.ins) ps))->g≠d->(ps.flatMap (·.outs)).Nodup->(ps.flatMap (·.ins)).Nodup->(ps.flatMap (·.outs)).Perm (ps.flatMap (·.ins))->((∃y,∀q∈ps,∃x∈q.ins ++ q.outs,Drawn.jn ps x y))->(∀H' J jk,aM H H'->H' J=some (.dK jk)->(∀p∈ps,gB jk p.name=true)->Q (.ref J) H')->su K vs H Q E
theorem zX (T:Txt w K mg t):FO P w K mg base 1 t.uH ["part", "givers", "takers"] (su K):=by
 have sc:=T.pK.sc ["part", "givers", "takers", "joined", "grown", "lane"]
 refine T.pK.F.ok sc ln (fun _ _ _ _ H vs Q E hr h=>?_)
 obtain⟨p0,g,d,ps,rfl,hp0,hps,h1,h2,n1,no,ni,pm,hang,k⟩:=h
 refine⟨_,(az (sN sc 3 (Q3 (Nz (pv 0) gm Rr) rfl rfl (by simp) (by decide)))
  (az (sN sc 4 gm)
  (az (sr PassesOwn.never (fH (pv 4))
   (az (sN sc 4 gm)
   (aA (pN (H0:=H) rfl (eN PassesOwn.never rfl (nW (pv 1)) (gN sc 5)
    (aA (eX (bO (bj Dh (Et (xF hr.u1 (bZ hr.u1 (pv 1) (pv 5) (fun _ _=>rfl)) (pv 3))) (Et (xF hr.u1 (bZ hr.u1 (pv 2) (pv 5) (fun _ _=>rfl)) (pv 3))) (bK _))
     (az (fL hr.u1 (pv 3) (bZ hr.u1 (pv 1) (pv 5) (fun _ _=>rfl)) gm rfl)
     (az (fL hr.u1 (pv 3) (bZ hr.u1 (pv 2) (pv 5) (fun _ _=>rfl)) gm rfl)
     (aA (sN sc 4 gm))))
     bc))))))))
  (aA (aR (pv 3)))))),?_⟩
 have hl:sizeLine=16777216:=sizeLine_eq
 refine fun J nJ=>⟨_,rfl,au,[((Sum.inr p0.name:Key),V.bl true)],rfl,by show 1<=15;decide,?_⟩
 rw [um]
 have s0:aM H (upd H J (.dK (rQ [] [((Sum.inr p0.name:Key),V.bl true)]))):=aB nJ
 have e0:(upd H J (.dK (rQ [] [((Sum.inr p0.name:Key),V.bl true)]))) J=some (.dK [((Sum.inr p0.name:Key),V.bl true)]):=au
 generalize upd H J (.dK (rQ [] [((Sum.inr p0.name:Key),V.bl true)]))=H0 at s0 e0 ⊢
 have ngJ:J≠g:=Ne.symm (aF h1 nJ)
 have ndJ:J≠d:=Ne.symm (aF h2 nJ)
 have melt:∀{H':Hp} {o:Obj},lq g H H'->H' g=some (.frz o (.dK (dg (·.outs) ps)))->aM H (upd H' g (.dK (dg (·.outs) ps))):=fun hb hg b u e=>by
  by_cases h:b=g
  ·subst h;rw [au];rw [h1] at e;exact e
  ·rw [aG h];exact hb b u h e
 have m0:mV ps [((Sum.inr p0.name:Key),V.bl true)]<=16:=Nat.le_trans (List.length_filter_le _ _) hps
 refine rR (fun σ H'=>aM H H'/\∃b v5 jk,σ=[some (.str p0.name),some (.ref g),some (.ref d),some (.ref J),some (.bl b),v5]/\H' J=some (.dK jk)/\gB jk p0.name=true/\jk.length+2 * mV ps jk<=40/\(b=false->Nu ps jk (dg (·.outs) ps).length))
  (fun σ H'=>match σ with | [_,_,_,_,some (.bl b),_]=>(if b then 1 else 0)+2 * mV ps (Oh H' J) | _=>0) ⟨s0,true,none,_,rfl,e0,by simp [gB,cC],by rw [List.length_singleton];omega,by intro z;cases z⟩ ?_ ?_
 ·rintro σ H1 ⟨s1,b,v5,jk,rfl,hJ,hp,hlen,hev⟩
  cases b with
  | false=>exact⟨_,rfl,_,rfl,dI ⟨_,rfl,k _ J jk s1 hJ (UL no ni pm hang (hev rfl).all hp0 hp)⟩⟩
  | true=>
   refine⟨_,rfl,_,rfl,ji ?_⟩
   refine⟨_,rfl,g,_,rfl,s1 _ _ h1,fun o=>?_⟩
   have gD:∀{H':Hp},lq g H H'->H' d=some (.dK (dg (·.ins) ps)):=fun hb=>hb d _ (Ne.symm n1) h2
   refine pX (fun j σ H'=>lq g H H'/\H' g=some (.frz o (.dK (dg (·.outs) ps)))/\∃b v5 jk',σ=[some (.str p0.name),some (.ref g),some (.ref d),some (.ref J),some (.bl b),v5]/\H' J=some (.dK jk')/\gB jk' p0.name=true/\jk'.length+2 * mV ps jk'<=40/\((b=false/\jk'=jk/\Nu ps jk j)∨(b=true/\mV ps jk' <mV ps jk)))
    ⟨fun b u hn e=>by rw [aG hn];exact s1 b u e,au,false,v5,jk,rfl,by rw [aG ngJ];exact hJ,hp,hlen,.inl ⟨rfl,rfl,fun i _ _ hi=>absurd hi (by omega)⟩⟩ (fun j σ H' _ h=>h.2.1) ?_ ?_
   ·rintro j kk w σ H' hj ⟨hb,hg,b,v5,jk',rfl,hJ',hp',hlen',hv⟩
    obtain⟨a,ha,l,la,rfl,rfl⟩:=Nk hj
    obtain⟨b',hb',lb⟩:=List.mem_flatMap.mp (pm.mem_iff.mp (List.mem_flatMap.mpr ⟨a,ha,la⟩))
    have ga:dZ H' g (.str l) (some (.str a.name)):=.inl ⟨_,Sum.inr l,.inr ⟨o,hg⟩,rfl,(iR no ha la).symm⟩
    have gb:dZ H' d (.str l) (some (.str b'.name)):=by rw [<-iR ni hb' lb];exact dZ.k (k:=Sum.inr l) (gD hb)
    have ja:dZ H' J (.str a.name) (cC jk' (Sum.inr a.name)):=dZ.k (k:=Sum.inr a.name) hJ'
    have jb:dZ H' J (.str b'.name) (cC jk' (Sum.inr b'.name)):=dZ.k (k:=Sum.inr b'.name) hJ'
    have nm:∀a2∈ps,∀b2∈ps,l∈a2.outs->l∈b2.ins->a2.name=a.name/\b2.name=b'.name:=fun a2 ha2 b2 hb2 q1 q2=>by
     have e1:=iR no ha2 q1
     rw [iR no ha la] at e1
     have e2:=iR ni hb2 q2
     rw [iR ni hb' lb] at e2
     simp only [Option.some.injEq,V.str.injEq] at e1 e2
     exact⟨e1.symm,e2.symm⟩
    refine⟨fun σ H''=>lq g H H''/\H'' g=some (.frz o (.dK (dg (·.outs) ps)))/\∃b jk'',σ=[some (.str p0.name),some (.ref g),some (.ref d),some (.ref J),some (.bl b),some (.str l)]/\H'' J=some (.dK jk'')/\gB jk'' p0.name=true/\jk''.length+2 * mV ps jk''<=40/\((b=false/\jk''=jk/\Nu ps jk (j+1))∨(b=true/\mV ps jk'' <mV ps jk)),?_,?_⟩
    ·refine⟨_,rfl,_,rfl,g,_,rfl,ga,_,rfl,J,_,rfl,ja,?_⟩
     refine⟨_,rfl,_,rfl,d,_,rfl,gb,_,rfl,J,_,rfl,jb,rfl,_,rfl,?_⟩
     change if (!decide (V.bl (gB jk' a.name)=V.bl (gB jk' b'.name)))=true then _ else _
     refine jt (fun hne=>?_) (fun heq=>?_)
     ·have hne':gB jk' a.name≠gB jk' b'.name:=fun z=>by rw [z] at hne;simp at hne
      refine⟨_,rfl,_,rfl,_,rfl,g,_,rfl,ga,J,_,rfl,mj.k (k:=Sum.inr a.name) hJ' (by omega),?_⟩
      have b2:lq g H (upd H' J (.dK (putK jk' (Sum.inr a.name) (.bl true)))):=fun x u hn e=>by rw [aG (aF e nJ)];exact hb x u hn e
      have g2:(upd H' J (.dK (putK jk' (Sum.inr a.name) (.bl true)))) g=some (.frz o (.dK (dg (·.outs) ps))):=by rw [aG (Ne.symm ngJ)];exact hg
      have gb2:dZ (upd H' J (.dK (putK jk' (Sum.inr a.name) (.bl true)))) d (.str l) (some (.str b'.name)):=by rw [<-iR ni hb' lb];exact dZ.k (k:=Sum.inr l) (gD b2)
      have len1:=jE jk' (Sum.inr a.name:Key) (.bl true)
      have len2:=jE (putK jk' (Sum.inr a.name) (.bl true)) (Sum.inr b'.name:Key) (.bl true)
      refine⟨_,rfl,_,rfl,_,rfl,d,_,rfl,gb2,J,_,rfl,mj.k (k:=Sum.inr b'.name) au (by omega),?_⟩
      rw [um]
      have has2:∀x,gB (putK (putK jk' (Sum.inr a.name) (.bl true)) (Sum.inr b'.name) (.bl true)) x=(decide (x=b'.name) || (decide (x=a.name) || gB jk' x)):=fun x=>by rw [Ir,Ir]
      have mono:∀x,gB jk' x=true->gB (putK (putK jk' (Sum.inr a.name) (.bl true)) (Sum.inr b'.name) (.bl true)) x=true:=fun x hx=>by rw [has2,hx];simp
      have lt:mV ps (putK (putK jk' (Sum.inr a.name) (.bl true)) (Sum.inr b'.name) (.bl true)) <mV ps jk':=by
       cases hA:gB jk' a.name
       ·exact HN mono ha hA (by rw [has2];simp)
       ·cases hB:gB jk' b'.name
        ·exact HN mono hb' hB (by rw [has2];simp)
        ·rw [hA,hB] at hne';exact absurd rfl hne'
      refine⟨fun x u hn e=>by rw [aG (aF e nJ)];exact hb x u hn e,by rw [aG (Ne.symm ngJ)];exact hg,true,_,rfl,au,mono _ hp',by omega,.inr ⟨rfl,?_⟩⟩
      rcases hv with ⟨_,rfl,_⟩ | ⟨_,hv⟩
      ·exact lt
      ·omega
     ·have heq':gB jk' a.name=gB jk' b'.name:=by
       cases hA:gB jk' a.name <;> cases hB:gB jk' b'.name <;> rw [hA,hB] at heq <;> simp_all
      refine⟨hb,hg,b,jk',rfl,hJ',hp',hlen',?_⟩
      rcases hv with ⟨rfl,rfl,hE⟩ | hv
      ·refine .inl ⟨rfl,rfl,fun i k2 v2 hi e2 a2 ha2 b2 hb2 l2 ek q1 q2=>?_⟩
       rcases Nat.lt_or_ge i j with h | h
       ·exact hE i k2 v2 h e2 a2 ha2 b2 hb2 l2 ek q1 q2
       ·have:i=j:=by omega
        subst this
        rw [hj] at e2
        cases e2
        cases ek
        obtain⟨x1,x2⟩:=nm a2 ha2 b2 hb2 q1 q2
        rw [x1,x2]
        exact heq'
      ·exact .inr hv
    ·rintro σ H'' ⟨hb,hg,b,jk'',rfl,r⟩
     exact⟨hb,hg,b,_,jk'',rfl,r⟩
   ·rintro σ H' ⟨hb,hg,b,v5',jk',rfl,hJ',hp',hlen',hv⟩
    refine⟨_,⟨g,o,_,hg,(fun o' u' z=>by rw [show H g=_ from h1] at z;cases z),rfl⟩,?_⟩
    have eJ:(upd H' g (.dK (dg (·.outs) ps))) J=some (.dK jk'):=by rw [aG ngJ];exact hJ'
    refine⟨⟨melt hb hg,b,v5',jk',rfl,eJ,hp',hlen',fun z=>?_⟩,?_⟩
    ·rcases hv with ⟨_,rfl,hE⟩ | ⟨h,_⟩
     ·exact hE
     ·rw [h] at z;cases z
    ·show(if b=true then 1 else 0)+2 * mV ps (Oh _ J) <(if true=true then 1 else 0)+2 * mV ps (Oh _ J)
     rw [KD eJ,KD hJ]
     rcases hv with ⟨rfl,rfl,_⟩ | ⟨rfl,h⟩
     ·simp
     ·simp;omega
 ·intro σ H' Q' Q'' hm hq
  obtain⟨v,e,b,e2,q⟩:=hq
  exact⟨v,e,b,e2,hm _ _ q⟩
inductive sH (K:PySem.W.Frag) (vs:List V) (H:Hp) (Q:VK) (E:XK):Prop where
 | mk:∀(L g d:Addr) (ps:List PD),vs=[.ref L,.ref g,.ref d]->(bT K H L (ps.map fun p=>V.str p.name))->1<=ps.length->ps.length<=16->H g=some (.dK (dg (·.outs) ps))->H d=some (.dK (dg (·.ins) ps))->g≠d->(ps.flatMap (·.outs)).Nodup->(ps.flatMap (·.ins)).Nodup->(ps.flatMap (·.outs)).Perm (ps.flatMap (·.ins))->((∃y,∀q∈ps,∃x∈q.ins ++ q.outs,Drawn.jn ps x y))->(∀H',aM H H'->Q .non H')->sH K vs H Q E
theorem Bv (T:Txt w K mg t):FO P w K mg base 2 t.uN ["names", "givers", "takers"] (sH K):=by
 have sc:=T.pG.sc ["names", "givers", "takers", "joined", "name"]
 refine T.pG.F.ok sc ln (fun _ _ _ _ H vs Q E hr h=>?_)
 obtain⟨L,g,d,ps,rfl,hL,hp1,hps,h1,h2,n1,no,ni,pm,hang,k⟩:=h
 refine⟨_,(az (sN sc 3 (dY (zX T) T.pK hr (aa (aU aO (pv 0) aq (fun _ _=>rfl)) (aa (pv 1) (aa (pv 2) ak aj) aj) aC)))
  (aA (eN PassesOwn.never rfl (cW (pv 0)) (gN sc 4)
   (aA (bO (jy (uc hr.u1 (pv 4) (pv 3)))
    (aA dW)
    bc))))),?_⟩
 obtain⟨p0,pr,rfl⟩:∃p0 pr,ps=p0:: pr:=by
  cases ps with
  | nil=>simp at hp1
  | cons a r=>exact⟨a,r,rfl⟩
 refine⟨_,rfl,L,_,0,_,rfl,rfl,hL,aN (j:=0) rfl,_,rfl,_,rfl,p0,g,d,_,rfl,List.mem_cons_self,hps,h1,h2,n1,no,ni,pm,hang,fun H1 J jk s1 eJ hA=>?_⟩
 refine⟨_,rfl,L,rfl,⟨_,s1.seq hL⟩,fu (K:=K) (a:=L) (xs:=(p0:: pr).map fun p=>V.str p.name) (fun j σ H'=>H'=H1/\∃v4,σ=[some (.ref L),some (.ref g),some (.ref d),some (.ref J),v4]) ⟨rfl,none,rfl⟩ (fun j σ H' _ ⟨e,_⟩=>by rw [e];exact s1.seq hL) ?_ ?_⟩
 ·rintro j x σ H' hx ⟨rfl,v4,rfl⟩
  rw [List.getElem?_map] at hx
  obtain⟨p,hp,rfl⟩:=Option.map_eq_some_iff.mp hx
  obtain⟨u,hu⟩:=Option.isSome_iff_exists.mp (hA p (List.mem_of_getElem? hp))
  exact⟨_,rfl,_,rfl,J,some u,rfl,(by rw [<-hu];exact dZ.k (k:=Sum.inr p.name) eJ),_,rfl,dI ⟨rfl,_,rfl⟩⟩
 ·rintro σ H' ⟨rfl,v4,rfl⟩
  exact k _ s1
inductive oN (K:PySem.W.Frag) (t:nj) (vs:List V) (H:Hp) (Q:VK) (E:XK):Prop where
 | mk:∀(n:Addr) (ls:List aK) (ps:List PD),vs=[.ref n]->nC K t H n ls ps->(∀l,H l=none->Q (.ref l) (upd H l (.lst (ls.map fun x=>V.str x.name))))->oN K t vs H Q E
theorem oE (T:Txt w K mg t):FO P w K mg base 1 t.jU ["self"] (oN K t):=by
 have sc:=T.iV.sc ["self"]
 refine T.iV.F.ok sc ln (fun _ _ _ _ H vs Q E hr h=>?_)
 obtain⟨n,ls,ps,rfl,N,k⟩:=h
 refine⟨_,(aA (aR (cB (mY rfl) (by rfl) T.mX jL (aa (bI (pv 0) rfl) ak bF)))),?_⟩
 obtain⟨dx,fs,R,F,Pd,G,Tk,FL,PL,W⟩:=id N
 refine⟨_,rfl,n,_,dx,fs,_,rfl,W.obj,T.bD.c,T.bD.na.1,W.fl.has ("rooms",.ref R) (by simp),R,_,rfl,.inl W.rooms,fun l hl=>?_⟩
 unfold fB
 rw [List.map_map]
 exact k l hl
inductive oV (K:PySem.W.Frag) (t:nj) (vs:List V) (H:Hp) (Q:VK) (E:XK):Prop where
 | mk:∀(n:Addr) (ls:List aK) (ps:List PD),vs=[.ref n]->nC K t H n ls ps->(∀l,H l=none->Q (.ref l) (upd H l (.lst (ps.map fun x=>V.str x.name))))->oV K t vs H Q E
theorem jJ (T:Txt w K mg t):FO P w K mg base 1 t.jW ["self"] (oV K t):=by
 have sc:=T.fZ.sc ["self"]
 refine T.fZ.F.ok sc ln (fun _ _ _ _ H vs Q E hr h=>?_)
 obtain⟨n,ls,ps,rfl,N,k⟩:=h
 refine⟨_,(aA (aR (cB (mY rfl) (by rfl) T.mX jL (aa (bI (pv 0) rfl) ak bF)))),?_⟩
 obtain⟨dx,fs,R,F,Pd,G,Tk,FL,PL,W⟩:=id N
 refine⟨_,rfl,n,_,dx,fs,_,rfl,W.obj,T.bD.c,T.bD.na.2.2.1,W.fl.has ("parts",.ref Pd) (by simp),Pd,_,rfl,.inl W.parts,fun l hl=>?_⟩
 unfold eG
 rw [List.map_map]
 have e:ps.map (fun x=>V.str x.name)=PL.map (fun q=>V.str q.1.name):=by rw [<-W.pls,List.map_map];rfl
 rw [e] at k
 exact k l hl
theorem Q9 (T:Txt w K mg t) (i:Nat):MethAt P w K mg base Cm 1 (cls t i) "kind" (iU i):=match i with
 | 0=>⟨_,_,_,T.ik.c,(T.oR.me T.ik.me.2.1),T.oR.b,Ga T⟩
 | 1=>⟨_,_,_,T.ig.c,(T.oK.me T.ig.me.2.1),T.oK.b,FP T⟩
 | 2=>⟨_,_,_,T.iD.c,(T.nZ.me T.iD.me.2.1),T.nZ.b,Gw T⟩
 | 3=>⟨_,_,_,T.iB.c,(T.oY.me T.iB.me.2.1),T.oY.b,En T⟩
 | 4=>⟨_,_,_,T.iC.c,(T.oU.me T.iC.me.2.1),T.oU.b,FW T⟩
 | 5=>⟨_,_,_,T.iu.c,(T.oA.me T.iu.me.2.1),T.oA.b,Er T⟩
 | 6=>⟨_,_,_,T.lB.c,(T.qK.me T.lB.me.2.1),T.qK.b,Hy T⟩
 | 7=>⟨_,_,_,T.iz.c,(T.oW.me T.iz.me.2.1),T.oW.b,Fb T⟩
 | 8=>⟨_,_,_,T.fK.c,(T.lL.me T.fK.me.2.1),T.lL.b,Cr T⟩
 | 9=>⟨_,_,_,T.d8.c,(T.kJ.me T.d8.me.2.1),T.kJ.b,Aa T⟩
 | n+10=>⟨_,_,_,T.fO.c,(T.lX.me T.fO.me.2.1),T.lX.b,Cv T⟩
inductive lu (K:PySem.W.Frag) (t:nj) (vs:List V) (H:Hp) (Q:VK) (E:XK):Prop where
 | mk:∀(n:Addr) (ls:List aK) (ps:List PD) (x:Str),vs=[.ref n,.str x]->nC K t H n ls ps->(∀p,H p=none->Q (.ref p) (upd H p (.lst (lC ps x))))->lu K t vs H Q E
theorem sI (T:Txt w K mg t):FO P w K mg base 2 t.je ["self", "kind"] (lu K t):=by
 have sc:=T.jg.sc ["self", "kind"]
 refine T.jg.F.ok sc ln (fun _ _ _ _ H vs Q E hr h=>?_)
 obtain⟨n,ls,ps,x,rfl,N,k⟩:=h
 refine⟨_,(aA (aR (Kq (H0:=H) rfl (fM [0,1] ["self", "kind"] (bz (inClass (top 63) 5)) rfl (nW (bI (pv 0) rfl)) (fun _ _ _ _ _=>(Np (bj fX (JV (P:=P) (w:=w) (K:=K) (mg:=mg) (base:=base) (CX:=Cm) (k:=1) (E:=E0) rfl rfl rfl rfl rfl (bZ hr.u1 (Fl (K:=K) rfl (pv 1) rfl) (pv 0) (fun _ _=>rfl)) (hr.mono (by decide)) jd) (pv 2) (bK _)))) (fun _ _ _ _ _=>(pv 0)))))),?_⟩
 obtain⟨dx,fs,R,F,Pd,G,Tk,FL,PL,W⟩:=id N
 have hz:sizeLine=16777216:=sizeLine_eq
 have hp:=W.fit.p16
 have h5:=W.parts
 have lpl:PL.length=ps.length:=by rw [<-W.pls,lM]
 refine⟨_,rfl,n,_,dx,fs,_,rfl,W.obj,T.bD.c,T.bD.na.2.2.1,W.fl.has ("parts",.ref Pd) (by simp),Pd,_,rfl,h5,fun o=>?_⟩
 refine Eb (fun j ys H'=>H'=upd H Pd (.frz o (.dK (eG PL)))/\ys=lC ((PL.take j).map (·.1)) x) (by unfold eG;rw [lM];omega) ⟨rfl,by simp [lC]⟩ ?_ ?_ ?_ ?_
 ·rintro j ys H' ⟨_,rfl⟩
  have:=GX ((PL.take j).map (·.1)) x
  rw [lM,List.length_take] at this
  omega
 ·rintro j ys H' _ ⟨rfl,_⟩
  exact au
 ·rintro j kk v ys H' hj ⟨rfl,rfl⟩
  unfold eG at hj
  rw [List.getElem?_map] at hj
  obtain⟨q,hq,e⟩:=Option.map_eq_some_iff.mp hj
  cases e
  have hm:=List.mem_of_getElem? hq
  obtain⟨dxp,tn,ti,to,p1,p2,p3,p4⟩:=((W.pats q hm).chill (v:=.frz o (.dK (eG PL))) h5).ex
  refine⟨_,rfl,n,_,dx,fs,_,rfl,jD h5 W.obj (by intro _ z;cases z),T.bD.c,T.bD.na.2.2.1,W.fl.has ("parts",.ref Pd) (by simp),_,rfl,Pd,_,rfl,(by rw [<-W.partV hm];exact .inl ⟨_,Sum.inr q.1.name,.inr ⟨o,au⟩,rfl,rfl⟩),?_⟩
  refine⟨q.2,cls t q.1.kind,dxp,_,iU q.1.kind,rfl,p1,tY _ _ _ _ (by decide +kernel) (by decide +kernel) (by decide +kernel) (by decide +kernel),Q9 T q.1.kind,_,rfl,_,rfl,rfl,_,rfl,?_⟩
  rw [List.take_succ,hq,Option.toList_some,List.map_append,List.map_singleton,Li]
  refine jt (fun e=>?_) (fun e=>?_)
  ·have e':dM q.1.kind=x:=by simpa using e
   rw [if_pos e']
   exact⟨_,rfl,rfl,rfl⟩
  ·have e':¬dM q.1.kind=x:=by simpa using e
   rw [if_neg e']
   exact⟨rfl,rfl⟩
 ·rintro ys H' ⟨rfl,rfl⟩ D hD
  refine⟨_,⟨Pd,o,eG PL,?_,?_,rfl⟩,?_⟩
  ·rw [aG (by rintro rfl;rw [au] at hD;cases hD)]
   exact au
  ·intro o' u z
   rw [show H Pd=_ from h5] at z
   cases z
  ·rw [Mi h5 hD]
   have:=k D (Jw hD)
   rw [show(eG PL).length=PL.length by unfold eG;rw [lM],List.take_length,W.pls]
   exact this
inductive wH (K:PySem.W.Frag) (t:nj) (vs:List V) (H:Hp) (Q:VK) (E:XK):Prop where
 | mk:∀(n:Addr) (ls:List aK) (ps:List PD),vs=[.ref n]->nC K t H n ls ps->(∀p,H p=none->Q (.ref p) (upd H p (.lst (lC ps "give"))))->wH K t vs H Q E
theorem wB (T:Txt w K mg t):FO P w K mg base 3 t.rM ["self"] (wH K t):=by
 have sc:=T.n6.sc ["self"]
 refine T.n6.F.ok sc ln (fun _ _ _ _ H vs Q E hr h=>?_)
 obtain⟨n,ls,ps,rfl,N,k⟩:=h
 refine⟨_,(aA (aR (Ji (pv 0) T.bD T.bD.me.2.2.2.1 (sI T) T.jg hr (aa bR ak ao)))),?_⟩
 obtain⟨dx,fs,R,F,Pd,G,Tk,FL,PL,W⟩:=id N
 exact⟨_,rfl,n,dx,fs,rfl,W.obj,W.fl.no _ (by decide +kernel),n,ls,ps,_,rfl,N,k⟩
inductive jR (K:PySem.W.Frag) (t:nj) (vs:List V) (H:Hp) (Q:VK) (E:XK):Prop where
 | mk:∀(n:Addr) (ls:List aK) (ps:List PD) (x:Str),vs=[.ref n,.str x]->nC K t H n ls ps->(((x∈ls.map (·.name)/\∀H',aM H H'->Q .non H')∨False))->jR K t vs H Q E
theorem rm (T:Txt w K mg t):FO P w K mg base 2 t.iy ["self", "name"] (jR K t):=by
 have sc:=T.ie.sc ["self", "name"]
 refine T.ie.F.ok sc ln (fun _ _ _ _ H vs Q E hr h=>?_)
 obtain⟨n,ls,ps,x,rfl,N,h⟩:=h
 refine⟨_,(aA (bO (bj qt (pv 1) (Tv (pv 0) T.bD T.bD.me.2.1 (oE T) T.iV hr) (by with_unfolding_all rfl))
   (aA dW)
   bc)),?_⟩
 obtain⟨dx,fs,R,F,Pd,G,Tk,FL,PL,W⟩:=id N
 refine⟨_,rfl,_,rfl,n,dx,fs,rfl,W.obj,W.fl.no _ (by decide +kernel),n,ls,ps,rfl,N,fun l hl=>?_⟩
 have s1:=aB (o:=.lst (ls.map fun x=>V.str x.name)) hl
 refine⟨l,_,rfl,.inl (bT.of au),rfl,by simp [qX],_,rfl,?_⟩
 rw [GK (f:=fun x:aK=>x.name)]
 rcases h with ⟨hx,k⟩ | h
 ·rw [decide_eq_true hx]
  exact dI (k _ s1)
 ·exact h.elim
inductive qW (K:PySem.W.Frag) (t:nj) (vs:List V) (H:Hp) (Q:VK) (E:XK):Prop where
 | mk:∀(n:Addr) (ls:List aK) (ps:List PD) (x:Str),vs=[.ref n,.str x]->nC K t H n ls ps->(((∃l∈ls,l.name=x/\∀H' p,aM H H'->H p=none->H' p=some (.lst (l.first.map V.int))->Q (.ref p) H')∨False))->qW K t vs H Q E
theorem zj (T:Txt w K mg t):FO P w K mg base 3 t.mZ ["self", "name"] (qW K t):=by
 have sc:=T.m8.sc ["self", "name"]
 refine T.m8.F.ok sc ln (fun _ _ _ _ H vs Q E hr h=>?_)
 obtain⟨n,ls,ps,x,rfl,N,h⟩:=h
 refine⟨_,(az (bM (Ji (pv 0) T.bD T.bD.me.2.2.2.2.2.1 (rm T) T.ie hr (aa (pv 1) ak aj)))
  (aA (aR (cB qN (by rfl) T.mX jL (aa (bZ hr.u1 (bI (pv 0) rfl) (pv 1) (fun _ _=>rfl)) ak aC))))),?_⟩
 obtain⟨dx,fs,R,F,Pd,G,Tk,FL,PL,W⟩:=id N
 refine⟨_,rfl,n,dx,fs,rfl,W.obj,W.fl.no _ (by decide +kernel),_,rfl,n,ls,ps,x,rfl,N,?_⟩
 rcases h with ⟨l,hl,rfl,k⟩ | h
 ·refine .inl ⟨List.mem_map.mpr ⟨l,hl,rfl⟩,fun H1 s1=>?_⟩
  have W1:=W.same s1
  obtain⟨q,hq,eq⟩:∃q∈FL,q.1=l:=by
   rw [<-W.fls] at hl
   obtain⟨q,hq,e⟩:=List.mem_map.mp hl
   exact⟨q,hq,e⟩
  subst eq
  have hv:=W1.firstV hq
  refine⟨_,rfl,n,_,dx,fs,_,rfl,W1.obj,T.bD.c,T.bD.na.2.1,W1.fl.has ("firsts",.ref F) (by simp),_,rfl,F,_,rfl,(by rw [<-hv];exact dZ.k (k:=Sum.inr q.1.name) W1.firsts),?_⟩
  exact⟨q.2,_,rfl,.inr (W1.tups q hq),fun p hp=>k _ p (s1.trans (aB hp)) (s1.free hp) au⟩
 ·exact .inr h
inductive rY (K:PySem.W.Frag) (t:nj) (vs:List V) (H:Hp) (Q:VK) (E:XK):Prop where
 | mk:∀(n:Addr) (ls:List aK) (ps:List PD) (x:Str),vs=[.ref n,.str x]->nC K t H n ls ps->(((∃p∈ps,p.name=x/\∀H' q,aM H H'->fG K t H' q p.kind (.str p.name) (p.nums.map V.int) (p.ins.map V.str) (p.outs.map V.str)->Q (.ref q) H')∨False))->rY K t vs H Q E
theorem mJ (T:Txt w K mg t):FO P w K mg base 2 t.o9 ["self", "name"] (rY K t):=by
 have sc:=T.jl.sc ["self", "name"]
 refine T.jl.F.ok sc ln (fun _ _ _ _ H vs Q E hr h=>?_)
 obtain⟨n,ls,ps,x,rfl,N,h⟩:=h
 refine⟨_,(az (bO (bj qt (pv 1) (Tv (pv 0) T.bD T.bD.me.2.2.1 (jJ T) T.fZ hr) (by with_unfolding_all rfl))
   (aA dW)
   bc)
  (aA (aR (bZ hr.u1 (bI (pv 0) rfl) (pv 1) (fun _ _=>rfl))))),?_⟩
 obtain⟨dx,fs,R,F,Pd,G,Tk,FL,PL,W⟩:=id N
 refine⟨_,rfl,_,rfl,n,dx,fs,rfl,W.obj,W.fl.no _ (by decide +kernel),n,ls,ps,rfl,N,fun l hl=>?_⟩
 have s1:=aB (o:=.lst (ps.map fun x=>V.str x.name)) hl
 refine⟨l,_,rfl,.inl (bT.of au),rfl,by simp [qX],_,rfl,?_⟩
 rw [GK (f:=fun x:PD=>x.name)]
 rcases h with ⟨p,hp,rfl,k⟩ | h
 ·rw [decide_eq_true (List.mem_map.mpr ⟨p,hp,rfl⟩)]
  refine dI ?_
  obtain⟨q,hq,eq⟩:∃q∈PL,q.1=p:=by
   rw [<-W.pls] at hp
   obtain⟨q,hq,e⟩:=List.mem_map.mp hp
   exact⟨q,hq,e⟩
  subst eq
  have W1:=W.same s1
  have hv:=W1.partV hq
  exact⟨_,rfl,n,_,dx,fs,_,rfl,W1.obj,T.bD.c,T.bD.na.2.2.1,W1.fl.has ("parts",.ref Pd) (by simp),_,rfl,Pd,_,rfl,(by rw [<-hv];exact dZ.k (k:=Sum.inr q.1.name) W1.parts),k _ q.2 s1 (W1.pats q hq)⟩
 ·exact h.elim
inductive qU (K:PySem.W.Frag) (t:nj) (vs:List V) (H:Hp) (Q:VK) (E:XK):Prop where
 | mk:∀(n dx Ll Lp:Addr) (ls:List aK) (ps:List PD),vs=[.ref n,.ref Ll,.ref Lp]->H n=some (.ins t.dN dx [])->Hand K H Ll Lp ls ps->vh ls ps->(∀H',lq n H H'->nC K t H' n ls ps->Q .non H')->qU K t vs H Q E
theorem zg (T:Txt w K mg t):FO P w K mg base 6 t.mH ["self", "lanes", "parts"] (qU K t):=by
 have sc:=T.jO.sc ["self", "lanes", "parts", "lane", "row", "part"]
 refine T.jO.F.ok sc ln (fun _ _ _ _ H vs Q E hr h=>?_)
 obtain⟨n,dx,Ll,Lp,ls,ps,rfl,hn,hH,hF,k⟩:=h
 refine⟨_,(az (bM (dY (Bb T) T.pL hr (aa (pv 1) (aa (pv 2) ak aj) aj)))
  (az (jw (pv 0) gW rfl)
  (az (jw (pv 0) gW rfl)
  (az (eN PassesOwn.never rfl (cW (pv 1)) (gN sc 3)
   (az (bM (dY (uR T) T.lO hr (aa (aU dw (pv 3) aq (fun _ _=>rfl)) (aa (bI (pv 0) rfl) ak bF) aC)))
   (az (bM (dY (Ep T) T.tE hr (aa (aU dw (pv 3) aq (fun _ _=>rfl)) (aa (aU dw (pv 3) aq (fun _ _=>rfl)) (aa (aU dw (pv 3) aq (fun _ _=>rfl)) ak aC) aC) aC)))
   (az (fL hr.u1 (bI (pv 0) rfl) (aU dw (pv 3) aq (fun _ _=>rfl)) (aU dw (pv 3) aq (fun _ _=>rfl)) rfl)
   (aA (fL hr.u1 (bI (pv 0) rfl) (aU dw (pv 3) aq (fun _ _=>rfl)) (cB tZ (by rfl) T.zB vy (aa (aU dw (pv 3) aq (fun _ _=>rfl)) ak aC)) rfl))))))
  (az (jw (pv 0) gW rfl)
  (az (jw (pv 0) gW rfl)
  (az (jw (pv 0) gW rfl)
  (az (eN PassesOwn.never rfl (cW (pv 2)) (gN sc 4)
   (az (sN sc 5 (dY (Cd T) T.qJ hr (aa (pv 4) (aa (bI (pv 0) rfl) ak bF) aj)))
   (az (bM (dY (wL T) T.ou hr (aa (bI (pv 5) rfl) (aa (bI (pv 5) rfl) (aa (bI (pv 0) rfl) (aa (bI (pv 0) rfl) ak bF) bF) bF) bF)))
   (az (bM (dY (wL T) T.ou hr (aa (bI (pv 5) rfl) (aa (bI (pv 5) rfl) (aa (bI (pv 0) rfl) (aa (bI (pv 0) rfl) ak bF) bF) bF) bF)))
   (aA (fL hr.u1 (bI (pv 0) rfl) (bI (pv 5) rfl) (pv 5) rfl))))))
  (az (bM (dY (Gp T) T.rU hr (aa (bI (pv 0) rfl) (aa (bI (pv 0) rfl) (aa (bI (pv 0) rfl) ak bF) bF) bF)))
  (aA (bM (dY (Bv T) T.pG hr (aa (cB (mY rfl) (by rfl) T.mX jL (aa (bI (pv 0) rfl) ak bF)) (aa (bI (pv 0) rfl) (aa (bI (pv 0) rfl) ak bF) bF) aW))))))))))))),?_⟩
 have hl:sizeLine=16777216:=sizeLine_eq
 obtain⟨xs,hLl,aL⟩:=hH.ll
 obtain⟨ys,hLp,aP⟩:=hH.lp
 have lx:=aL.length
 have ly:=aP.length
 have l1:=hF.l1
 have l24:=hF.l24
 have p1:=hF.p1
 have p16:=hF.p16
 refine⟨_,rfl,_,rfl,Ll,Lp,_,_,rfl,hLl,hLp,by omega,by omega,by omega,by omega,?_⟩
 have T0:=Tr.start hn
 refine fun R nR=>?_
 have T1:=T0.new (o:=.dK []) nR
 have gR:=aB (o:=.dK []) nR
 generalize upd H R (.dK [])=H1 at T1 gR ⊢
 have cR:=T1.all (n,.ins t.dN dx []) (.head _)
 refine⟨_,rfl,n,_,dx,_,rfl,cR,T.bD.c,T.bD.na.1,Nat.lt_of_le_of_lt (show 0<=0 from Nat.le_refl 0) (by decide),?_⟩
 have T2:=T1.put (L1:=[]) (o':=.ins t.dN dx (aJ "rooms" (.ref R) []))
 have wR:lq n H1 (upd H1 n (.ins t.dN dx (aJ "rooms" (.ref R) []))):=lq.write
 generalize upd H1 n (.ins t.dN dx (aJ "rooms" (.ref R) []))=H2 at T2 wR ⊢
 refine fun F nF=>?_
 have T3:=T2.new (o:=.dK []) nF
 have gF:=aB (o:=.dK []) nF
 generalize upd H2 F (.dK [])=H3 at T3 gF ⊢
 have cF:=T3.all (n,.ins t.dN dx (aJ "rooms" (.ref R) [])) (.head _)
 refine⟨_,rfl,n,_,dx,_,rfl,cF,T.bD.c,T.bD.na.2.1,Nat.lt_of_le_of_lt (ju (Nat.zero_le 0)) (by decide),?_⟩
 have T4:=T3.put (L1:=[]) (o':=.ins t.dN dx (aJ "firsts" (.ref F) (aJ "rooms" (.ref R) [])))
 have wF:lq n H3 (upd H3 n (.ins t.dN dx (aJ "firsts" (.ref F) (aJ "rooms" (.ref R) [])))):=lq.write
 generalize upd H3 n (.ins t.dN dx (aJ "firsts" (.ref F) (aJ "rooms" (.ref R) [])))=H4 at T4 wF ⊢
 have kb:∀{Hk:Hp} {q:Addr} {u:HO},lq n H Hk->H q=some u->(∀C d f,u≠.ins C d f)->Hk q=some u:=fun b h hu=>b _ _ (uK h hn (by intro z;exact hu _ _ _ z)) h
 refine⟨_,rfl,Ll,rfl,⟨_,T4.but.seqL hn hLl⟩,fu (K:=K) (a:=Ll) (xs:=xs) (fun j σ H'=>(∃x3,σ=[some (.ref n),some (.ref Ll),some (.ref Lp),x3,none,none])/\∃FL:List (aK×Addr),FL.map (·.1)=ls.take j/\Tr H n [(n,.ins t.dN dx (aJ "firsts" (.ref F) (aJ "rooms" (.ref R) []))),(R,.dK (fB (ls.take j))),(F,.dK (bN FL))] H'/\∀q∈FL,fY K H' q.2 (q.1.first.map V.int)) ⟨⟨none,rfl⟩,[],rfl,T4,by simp⟩ (fun j σ H' _ ⟨_,_,_,T',_⟩=>T'.but.seqL hn hLl) ?_ ?_⟩
 ·rintro j x σ H' hx ⟨⟨x3,rfl⟩,FL,eFL,T4,hS⟩
  obtain⟨l,hlj,q,f,rfl,hq,hf⟩:=aL.get hx
  have hm:=List.mem_of_getElem? hlj
  obtain⟨v1,v2,v3,v4⟩:=hF.lok l hm
  have hnm:=hF.lnm l hm
  have hj:=(List.getElem?_eq_some_iff.mp hlj).1
  have kq:∀{Hk:Hp},lq n H Hk->Hk q=some (.tup [.str l.name,.int l.room,.ref f]):=fun b=>kb b hq (by intro _ _ _ z;cases z)
  have nin:=p7 hF.whole.nod hlj
  have vR:cC (fB (ls.take j)) (Sum.inr l.name)=none:=ir (by rw [rK];intro z;obtain⟨b,hb,e⟩:=List.mem_map.mp z;cases e;exact nin hb)
  have vF:cC (bN FL) (Sum.inr l.name)=none:=ir (by rw [qL,eFL];intro z;obtain⟨b,hb,e⟩:=List.mem_map.mp z;cases e;exact nin hb)
  have tk:ls.take (j+1)=ls.take j ++ [l]:=by rw [List.take_succ,hlj];rfl
  have e4:=T4.all (n,.ins t.dN dx (aJ "firsts" (.ref F) (aJ "rooms" (.ref R) []))) (.head _)
  refine Nm fun De hD u hu=>?_
  refine⟨_,rfl,q,_,0,_,rfl,rfl,fY.of (kq T4.but),aN (j:=0) rfl,_,rfl,n,_,dx,_,_,rfl,e4,T.bD.c,T.bD.na.1,(by (repeat first | (rw [aD,if_pos rfl];done) | rw [aD,if_neg (by decide +kernel)])),l.name,R,_,rfl,T4.all (R,.dK (fB (ls.take j))) (by simp),hnm,CW hnm,vR,fun H5 s5=>?_⟩
  have T5:=T4.same s5
  refine dD (v:=u) hu fun u hu=>?_
  refine⟨_,rfl,q,_,0,_,rfl,rfl,fY.of (kq T5.but),aN (j:=0) rfl,_,rfl,q,_,1,_,rfl,rfl,fY.of (kq T5.but),aN (j:=1) rfl,_,rfl,q,_,2,_,rfl,rfl,fY.of (kq T5.but),aN (j:=2) rfl,.str l.name,l.room,f,l.first,rfl,T5.but.seqA hn hf,by omega,v4,v1,v3,v2,fun H6 s6=>?_⟩
  have T6:=T5.same s6
  have e6:=T6.all (n,.ins t.dN dx (aJ "firsts" (.ref F) (aJ "rooms" (.ref R) []))) (.head _)
  have eR6:=T6.all (R,.dK (fB (ls.take j))) (by simp)
  refine dD (v:=u) hu fun u hu=>?_
  refine⟨_,rfl,q,_,1,_,rfl,rfl,fY.of (kq T6.but),aN (j:=1) rfl,_,rfl,n,_,dx,_,_,rfl,e6,T.bD.c,T.bD.na.1,(by (repeat first | (rw [aD,if_pos rfl];done) | rw [aD,if_neg (by decide +kernel)])),_,rfl,q,_,0,_,rfl,rfl,fY.of (kq T6.but),aN (j:=0) rfl,R,_,rfl,mj.k (k:=Sum.inr l.name) eR6 (by unfold fB;rw [lM,List.length_take];omega),?_⟩
  have e7:putK (fB (ls.take j)) (Sum.inr l.name) (.int l.room)=fB (ls.take (j+1)):=by rw [lD _ vR,tk];unfold fB;rw [List.map_append];rfl
  have T7:=T6.put (L1:=[_]) (o':=.dK (fB (ls.take (j+1))))
  rw [e7]
  have hS7:∀q∈FL,fY K (upd H6 R (.dK (fB (ls.take (j+1))))) q.2 (q.1.first.map V.int):=fun q hq=>fU eR6 (s6.seqT (s5.seqT (hS q hq)))
  generalize upd H6 R (.dK (fB (ls.take (j+1))))=H7 at T7 hS7 ⊢
  subst hu
  refine⟨_,rfl,q,_,2,_,rfl,rfl,fY.of (kq T7.but),aN (j:=2) rfl,f,_,rfl,T7.but.seqA hn hf,fun H8 F0 s8 t8=>?_⟩
  have T8:=T7.same s8
  have e8:=T8.all (n,.ins t.dN dx (aJ "firsts" (.ref F) (aJ "rooms" (.ref R) []))) (.head _)
  have eF8:=T8.all (F,.dK (bN FL)) (by simp)
  have lFL:FL.length<=24:=by have:=congrArg List.length eFL;rw [lM,List.length_take] at this;omega
  refine⟨_,rfl,n,_,dx,_,_,rfl,e8,T.bD.c,T.bD.na.2.1,(by (repeat first | (rw [aD,if_pos rfl];done) | rw [aD,if_neg (by decide +kernel)])),_,rfl,q,_,0,_,rfl,rfl,fY.of (kq T8.but),aN (j:=0) rfl,F,_,rfl,mj.k (k:=Sum.inr l.name) eF8 (by unfold bN;rw [lM];omega),?_⟩
  have e9:putK (bN FL) (Sum.inr l.name) (.ref F0)=bN (FL ++ [(l,F0)]):=by rw [lD _ vF];unfold bN;rw [List.map_append];rfl
  have T9:=T8.put (L1:=[_,_]) (o':=.dK (bN (FL ++ [(l,F0)])))
  rw [e9]
  subst hD
  refine⟨⟨_,rfl⟩,FL ++ [(l,F0)],by rw [List.map_append,eFL,tk];rfl,T9,fun q hq=>?_⟩
  rcases List.mem_append.mp hq with h | h
  ·exact fU eF8 (s8.seqT (hS7 q h))
  ·rw [List.mem_singleton] at h
   subst h
   exact fU eF8 t8
 rintro σ H9 ⟨⟨x3,rfl⟩,FL,eFL,T9,t9⟩
 rw [lx,List.take_length] at eFL T9
 clear T0 T1 T2 T3 T4
 refine fun Pd nPd=>?_
 have T10:=T9.new (o:=.dK []) nPd
 have gPd:=aB (o:=.dK []) nPd
 generalize upd H9 Pd (.dK [])=H10 at T10 gPd ⊢
 have cPd:=T10.all (n,.ins t.dN dx (aJ "firsts" (.ref F) (aJ "rooms" (.ref R) []))) (.head _)
 refine⟨_,rfl,n,_,dx,_,rfl,cPd,T.bD.c,T.bD.na.2.2.1,Nat.lt_of_le_of_lt (ju (ju (Nat.zero_le 0))) (by decide),?_⟩
 have T11:=T10.put (L1:=[]) (o':=.ins t.dN dx (aJ "parts" (.ref Pd) (aJ "firsts" (.ref F) (aJ "rooms" (.ref R) []))))
 have wPd:lq n H10 (upd H10 n (.ins t.dN dx (aJ "parts" (.ref Pd) (aJ "firsts" (.ref F) (aJ "rooms" (.ref R) []))))):=lq.write
 generalize upd H10 n (.ins t.dN dx (aJ "parts" (.ref Pd) (aJ "firsts" (.ref F) (aJ "rooms" (.ref R) []))))=H11 at T11 wPd ⊢
 refine fun Gv nGv=>?_
 have T12:=T11.new (o:=.dK []) nGv
 have gGv:=aB (o:=.dK []) nGv
 generalize upd H11 Gv (.dK [])=H12 at T12 gGv ⊢
 have cGv:=T12.all (n,.ins t.dN dx (aJ "parts" (.ref Pd) (aJ "firsts" (.ref F) (aJ "rooms" (.ref R) [])))) (.head _)
 refine⟨_,rfl,n,_,dx,_,rfl,cGv,T.bD.c,T.bD.na.2.2.2.1,Nat.lt_of_le_of_lt (ju (ju (ju (Nat.zero_le 0)))) (by decide),?_⟩
 have T13:=T12.put (L1:=[]) (o':=.ins t.dN dx (aJ "givers" (.ref Gv) (aJ "parts" (.ref Pd) (aJ "firsts" (.ref F) (aJ "rooms" (.ref R) [])))))
 have wGv:lq n H12 (upd H12 n (.ins t.dN dx (aJ "givers" (.ref Gv) (aJ "parts" (.ref Pd) (aJ "firsts" (.ref F) (aJ "rooms" (.ref R) [])))))):=lq.write
 generalize upd H12 n (.ins t.dN dx (aJ "givers" (.ref Gv) (aJ "parts" (.ref Pd) (aJ "firsts" (.ref F) (aJ "rooms" (.ref R) [])))))=H13 at T13 wGv ⊢
 refine fun Tk nTk=>?_
 have T14:=T13.new (o:=.dK []) nTk
 have gTk:=aB (o:=.dK []) nTk
 generalize upd H13 Tk (.dK [])=H14 at T14 gTk ⊢
 have cTk:=T14.all (n,.ins t.dN dx (aJ "givers" (.ref Gv) (aJ "parts" (.ref Pd) (aJ "firsts" (.ref F) (aJ "rooms" (.ref R) []))))) (.head _)
 refine⟨_,rfl,n,_,dx,_,rfl,cTk,T.bD.c,T.bD.na.2.2.2.2.1,Nat.lt_of_le_of_lt (ju (ju (ju (ju (Nat.zero_le 0))))) (by decide),?_⟩
 have T15:=T14.put (L1:=[]) (o':=.ins t.dN dx (aJ "takers" (.ref Tk) (aJ "givers" (.ref Gv) (aJ "parts" (.ref Pd) (aJ "firsts" (.ref F) (aJ "rooms" (.ref R) []))))))
 have wTk:lq n H14 (upd H14 n (.ins t.dN dx (aJ "takers" (.ref Tk) (aJ "givers" (.ref Gv) (aJ "parts" (.ref Pd) (aJ "firsts" (.ref F) (aJ "rooms" (.ref R) []))))))):=lq.write
 generalize upd H14 n (.ins t.dN dx (aJ "takers" (.ref Tk) (aJ "givers" (.ref Gv) (aJ "parts" (.ref Pd) (aJ "firsts" (.ref F) (aJ "rooms" (.ref R) []))))))=H15 at T15 wTk ⊢
 have T15:Tr H n [(n,.ins t.dN dx (aJ "takers" (.ref Tk) (aJ "givers" (.ref Gv) (aJ "parts" (.ref Pd) (aJ "firsts" (.ref F) (aJ "rooms" (.ref R) [])))))),(R,.dK (fB ls)),(F,.dK (bN FL)),(Pd,.dK []),(Gv,.dK []),(Tk,.dK [])] H15:=T15
 have t15:∀q∈FL,fY K H15 q.2 (q.1.first.map V.int):=fun q hq=>wTk.seqT cTk (gTk.seqT (wGv.seqT cGv (gGv.seqT (wPd.seqT cPd (gPd.seqT (t9 q hq))))))
 have nod:=T15.nod
 simp only [List.map_append,List.map_cons,List.map_nil,List.nil_append,List.cons_append,List.nodup_cons,List.mem_cons,List.not_mem_nil,or_false,not_or] at nod
 have nRF:R≠F:=nod.2.1.1
 have nRT:R≠Tk:=nod.2.1.2.2.2
 have nRG:R≠Gv:=nod.2.1.2.2.1
 have nGT:Gv≠Tk:=nod.2.2.2.2.1
 clear nod
 have ono:(ps.flatMap (·.outs)).Nodup:=hF.whole.outs.nodup_iff.mpr hF.whole.nod
 have ini:(ps.flatMap (·.ins)).Nodup:=hF.whole.ins.nodup_iff.mpr hF.whole.nod
 have inR:∀z∈ls.map (·.name),(cC (fB ls) (Sum.inr z)).isSome=true:=fun z hz=>by
  obtain⟨l,hl,rfl⟩:=List.mem_map.mp hz
  have e:cC (fB ls) (Sum.inr l.name)=some (.int l.room):=f9 (by rw [rK];exact dh hF.whole.nod) (List.mem_map.mpr ⟨l,hl,rfl⟩)
  rw [e]
  rfl
 have lenE:∀(f:PD->List Str) (j:Nat),(ps.flatMap f).Perm (ls.map (·.name))->(dg f (ps.take j)).length<=24:=fun f j pm=>by
  rw [Lw]
  have e1:((ps.take j).flatMap f).length+((ps.drop j).flatMap f).length=(ps.flatMap f).length:=by rw [<-lP,<-List.flatMap_append,List.take_append_drop]
  have e2:=pm.length_eq
  rw [lM] at e2
  omega
 refine⟨_,rfl,Lp,rfl,⟨_,T15.but.seqL hn hLp⟩,fu (K:=K) (a:=Lp) (xs:=ys) (fun j σ H'=>(∃x3 x4 x5,σ=[some (.ref n),some (.ref Ll),some (.ref Lp),x3,x4,x5])/\∃PL:List (PD×Addr),PL.map (·.1)=ps.take j/\Tr H n [(n,.ins t.dN dx (aJ "takers" (.ref Tk) (aJ "givers" (.ref Gv) (aJ "parts" (.ref Pd) (aJ "firsts" (.ref F) (aJ "rooms" (.ref R) [])))))),(R,.dK (fB ls)),(F,.dK (bN FL)),(Pd,.dK (eG PL)),(Gv,.dK (dg (·.outs) (ps.take j))),(Tk,.dK (dg (·.ins) (ps.take j)))] H'/\(∀q∈FL,fY K H' q.2 (q.1.first.map V.int))/\∀q∈PL,fG K t H' q.2 q.1.kind (.str q.1.name) (q.1.nums.map V.int) (q.1.ins.map V.str) (q.1.outs.map V.str)) ⟨⟨x3,none,none,rfl⟩,[],rfl,T15,t15,by simp⟩ (fun j σ H' _ ⟨_,_,_,T',_⟩=>T'.but.seqL hn hLp) ?_ ?_⟩
 ·rintro j x σ H' hx ⟨⟨x3,x4,x5,rfl⟩,PL,ePL,T15,hS,hP⟩
  obtain⟨p,hpj,r,a1,a2,a3,rfl,hr,q1,q2,q3⟩:=aP.get hx
  have hm:=List.mem_of_getElem? hpj
  have hj:=(List.getElem?_eq_some_iff.mp hpj).1
  obtain⟨o1,o2,o3,o4,o5⟩:=hF.pok p hm
  have hnm:=hF.pnm p hm
  have nin:=p7 hF.pnd hpj
  have tk:ps.take (j+1)=ps.take j ++ [p]:=by rw [List.take_succ,hpj];rfl
  have vP:cC (eG PL) (Sum.inr p.name)=none:=ir (by rw [yj,ePL];intro z;obtain⟨b,hb,e⟩:=List.mem_map.mp z;cases e;exact nin hb)
  obtain⟨di,fi⟩:=J2 ini hpj
  obtain⟨do',fo⟩:=J2 ono hpj
  have e15:=T15.all (n,.ins t.dN dx (aJ "takers" (.ref Tk) (aJ "givers" (.ref Gv) (aJ "parts" (.ref Pd) (aJ "firsts" (.ref F) (aJ "rooms" (.ref R) [])))))) (.head _)
  refine Nm fun De hD u hu=>?_
  refine⟨_,rfl,_,rfl,n,_,dx,_,_,rfl,e15,T.bD.c,T.bD.na.2.2.1,(by (repeat first | (rw [aD,if_pos rfl];done) | rw [aD,if_neg (by decide +kernel)])),p.kind,p.name,r,Pd,a1,a2,a3,_,_,_,_,rfl,kb T15.but hr (by intro _ _ _ z;cases z),by omega,T15.all (Pd,.dK (eG PL)) (by simp),hnm,CW hnm,vP,T15.but.seqA hn q1,T15.but.seqA hn q2,T15.but.seqA hn q3,by rw [lM];exact o2,by rw [lM];exact o3,by rw [lM];exact o4,?_,fun H16 pp s16 npp Pp=>?_⟩
  ·intro v hv
   obtain⟨i,hi,rfl⟩:=List.mem_map.mp hv
   exact⟨i,rfl,(o5 i hi).1,(o5 i hi).2⟩
  have T16:=T15.same s16
  obtain⟨dxp,tn,ti,to,z1,z2,z3,z4⟩:=id Pp.ex
  have e16:=T16.all (n,.ins t.dN dx (aJ "takers" (.ref Tk) (aJ "givers" (.ref Gv) (aJ "parts" (.ref Pd) (aJ "firsts" (.ref F) (aJ "rooms" (.ref R) [])))))) (.head _)
  have eTk:=T16.all (Tk,.dK (dg (·.ins) (ps.take j))) (by simp)
  have li:=lenE (·.ins) j hF.whole.ins
  have lo:=lenE (·.outs) j hF.whole.outs
  have h3I:p.ins.length<=3:=by rw [o3];exact yo _
  have h3O:p.outs.length<=2:=by rw [o4];exact Ow _
  refine dD (v:=u) hu fun u hu=>?_
  refine⟨_,rfl,pp,_,dxp,_,_,rfl,z1,gZ T p.kind,zM T p.kind,xO _ _ _ _,_,rfl,pp,_,dxp,_,_,rfl,z1,gZ T p.kind,xP T p.kind,tG _ _ _ _,_,rfl,n,_,dx,_,_,rfl,e16,T.bD.c,T.bD.na.1,(by (repeat first | (rw [aD,if_pos rfl];done) | rw [aD,if_neg (by decide +kernel)])),_,rfl,n,_,dx,_,_,rfl,e16,T.bD.c,T.bD.na.2.2.2.2.1,(by (repeat first | (rw [aD,if_pos rfl];done) | rw [aD,if_neg (by decide +kernel)])),p.name,ti,R,Tk,p.ins,_,_,rfl,z3,T16.all (R,.dK (fB ls)) (by simp),nRT,eTk,di,fun z hz=>⟨inR z (hF.whole.ins.mem_iff.mp (List.mem_flatMap.mpr ⟨p,hm,hz⟩)),Ba (fi z hz)⟩,by omega,?_⟩
  rw [<-BK (·.ins) (ps.take j) p,<-tk]
  have T17:=T16.put (L1:=[_,_,_,_,_]) (o':=.dK (dg (·.ins) (ps.take (j+1))))
  have Pp17:=Pp.chill (v:=.dK (dg (·.ins) (ps.take (j+1)))) eTk
  have hS17:∀q∈FL,fY K (upd H16 Tk (.dK (dg (·.ins) (ps.take (j+1))))) q.2 (q.1.first.map V.int):=fun q hq=>fU eTk (s16.seqT (hS q hq))
  have hP17:∀q∈PL,fG K t (upd H16 Tk (.dK (dg (·.ins) (ps.take (j+1))))) q.2 q.1.kind (.str q.1.name) (q.1.nums.map V.int) (q.1.ins.map V.str) (q.1.outs.map V.str):=fun q hq=>((hP q hq).same s16).chill eTk
  generalize upd H16 Tk (.dK (dg (·.ins) (ps.take (j+1))))=H17 at T17 Pp17 hS17 hP17 ⊢
  clear z1 z2 z3 z4 e16
  obtain⟨dxp,tn,ti,to,z1,z2,z3,z4⟩:=id Pp17.ex
  have e17:=T17.all (n,.ins t.dN dx (aJ "takers" (.ref Tk) (aJ "givers" (.ref Gv) (aJ "parts" (.ref Pd) (aJ "firsts" (.ref F) (aJ "rooms" (.ref R) [])))))) (.head _)
  have eGv:=T17.all (Gv,.dK (dg (·.outs) (ps.take j))) (by simp)
  refine dD (v:=u) hu fun u hu=>?_
  refine⟨_,rfl,pp,_,dxp,_,_,rfl,z1,gZ T p.kind,zM T p.kind,xO _ _ _ _,_,rfl,pp,_,dxp,_,_,rfl,z1,gZ T p.kind,Em T p.kind,Ed _ _ _ _,_,rfl,n,_,dx,_,_,rfl,e17,T.bD.c,T.bD.na.1,(by (repeat first | (rw [aD,if_pos rfl];done) | rw [aD,if_neg (by decide +kernel)])),_,rfl,n,_,dx,_,_,rfl,e17,T.bD.c,T.bD.na.2.2.2.1,(by (repeat first | (rw [aD,if_pos rfl];done) | rw [aD,if_neg (by decide +kernel)])),p.name,to,R,Gv,p.outs,_,_,rfl,z4,T17.all (R,.dK (fB ls)) (by simp),nRG,eGv,do',fun z hz=>⟨inR z (hF.whole.outs.mem_iff.mp (List.mem_flatMap.mpr ⟨p,hm,hz⟩)),Ba (fo z hz)⟩,by omega,?_⟩
  rw [<-BK (·.outs) (ps.take j) p,<-tk]
  have T18:=T17.put (L1:=[_,_,_,_]) (o':=.dK (dg (·.outs) (ps.take (j+1))))
  have Pp18:=Pp17.chill (v:=.dK (dg (·.outs) (ps.take (j+1)))) eGv
  have hS18:∀q∈FL,fY K (upd H17 Gv (.dK (dg (·.outs) (ps.take (j+1))))) q.2 (q.1.first.map V.int):=fun q hq=>fU eGv (hS17 q hq)
  have hP18:∀q∈PL,fG K t (upd H17 Gv (.dK (dg (·.outs) (ps.take (j+1))))) q.2 q.1.kind (.str q.1.name) (q.1.nums.map V.int) (q.1.ins.map V.str) (q.1.outs.map V.str):=fun q hq=>(hP17 q hq).chill eGv
  generalize upd H17 Gv (.dK (dg (·.outs) (ps.take (j+1))))=H18 at T18 Pp18 hS18 hP18 ⊢
  clear z1 z2 z3 z4 e17
  obtain⟨dxp,tn,ti,to,z1,z2,z3,z4⟩:=id Pp18.ex
  have e18:=T18.all (n,.ins t.dN dx (aJ "takers" (.ref Tk) (aJ "givers" (.ref Gv) (aJ "parts" (.ref Pd) (aJ "firsts" (.ref F) (aJ "rooms" (.ref R) [])))))) (.head _)
  have ePd:=T18.all (Pd,.dK (eG PL)) (by simp)
  have lPL:PL.length<=16:=by have:=congrArg List.length ePL;rw [lM,List.length_take] at this;omega
  subst hu
  refine⟨_,rfl,_,rfl,n,_,dx,_,_,rfl,e18,T.bD.c,T.bD.na.2.2.1,(by (repeat first | (rw [aD,if_pos rfl];done) | rw [aD,if_neg (by decide +kernel)])),_,rfl,pp,_,dxp,_,_,rfl,z1,gZ T p.kind,zM T p.kind,xO _ _ _ _,Pd,_,rfl,mj.k (k:=Sum.inr p.name) ePd (by unfold eG;rw [lM];omega),?_⟩
  have e19:putK (eG PL) (Sum.inr p.name) (.ref pp)=eG (PL ++ [(p,pp)]):=by rw [lD _ vP];unfold eG;rw [List.map_append];rfl
  have T19:=T18.put (L1:=[_,_,_]) (o':=.dK (eG (PL ++ [(p,pp)])))
  rw [e19]
  subst hD
  refine⟨⟨_,_,_,rfl⟩,PL ++ [(p,pp)],by rw [List.map_append,ePL,tk];rfl,T19,fun q hq=>fU ePd (hS18 q hq),fun q hq=>?_⟩
  rcases List.mem_append.mp hq with h | h
  ·exact(hP18 q h).chill ePd
  ·rw [List.mem_singleton] at h
   subst h
   exact Pp18.chill ePd
 rintro σ H18 ⟨⟨x3,x4,x5,rfl⟩,PL,ePL,T18,hS,hP⟩
 rw [ly,List.take_length] at ePL T18
 have e18:=T18.all (n,.ins t.dN dx (aJ "takers" (.ref Tk) (aJ "givers" (.ref Gv) (aJ "parts" (.ref Pd) (aJ "firsts" (.ref F) (aJ "rooms" (.ref R) [])))))) (.head _)
 have eR:=T18.all (R,.dK (fB ls)) (by simp)
 have eF:=T18.all (F,.dK (bN FL)) (by simp)
 have ePd:=T18.all (Pd,.dK (eG PL)) (by simp)
 have eGv:=T18.all (Gv,.dK (dg (·.outs) ps)) (by simp)
 have eTk:=T18.all (Tk,.dK (dg (·.ins) ps)) (by simp)
 refine⟨_,rfl,n,_,dx,_,_,rfl,e18,T.bD.c,T.bD.na.1,(by (repeat first | (rw [aD,if_pos rfl];done) | rw [aD,if_neg (by decide +kernel)])),_,rfl,n,_,dx,_,_,rfl,e18,T.bD.c,T.bD.na.2.2.2.1,(by (repeat first | (rw [aD,if_pos rfl];done) | rw [aD,if_neg (by decide +kernel)])),_,rfl,n,_,dx,_,_,rfl,e18,T.bD.c,T.bD.na.2.2.2.2.1,(by (repeat first | (rw [aD,if_pos rfl];done) | rw [aD,if_neg (by decide +kernel)])),R,Gv,Tk,_,_,_,rfl,eR,eGv,eTk,nRG,nRT,?_,?_⟩
 ·intro q hq
  obtain⟨l,hl,rfl⟩:=List.mem_map.mp hq
  have hln:l.name∈ls.map (·.name):=List.mem_map.mpr ⟨l,hl,rfl⟩
  obtain⟨pa,ha,la⟩:=List.mem_flatMap.mp (hF.whole.outs.mem_iff.mpr hln)
  obtain⟨pb,hb,lb⟩:=List.mem_flatMap.mp (hF.whole.ins.mem_iff.mpr hln)
  exact⟨by rw [iR ono ha la];rfl,by rw [iR ini hb lb];rfl⟩
 refine⟨_,rfl,n,_,dx,_,_,rfl,e18,T.bD.c,T.bD.na.2.2.1,(by (repeat first | (rw [aD,if_pos rfl];done) | rw [aD,if_neg (by decide +kernel)])),Pd,_,rfl,.inl ePd,fun l nl=>?_⟩
 have s19:=aB (o:=.lst ((eG PL).map fun p=>kV p.1)) nl
 have eL:(eG PL).map (fun p=>kV p.1)=ps.map fun p=>V.str p.name:=by unfold eG;rw [List.map_map,<-ePL,List.map_map];rfl
 refine⟨_,rfl,n,_,dx,_,_,rfl,(s19 _ _ e18),T.bD.c,T.bD.na.2.2.2.1,(by (repeat first | (rw [aD,if_pos rfl];done) | rw [aD,if_neg (by decide +kernel)])),_,rfl,n,_,dx,_,_,rfl,(s19 _ _ e18),T.bD.c,T.bD.na.2.2.2.2.1,(by (repeat first | (rw [aD,if_pos rfl];done) | rw [aD,if_neg (by decide +kernel)])),l,Gv,Tk,ps,rfl,bT.of (by rw [<-eL];exact au),by omega,by omega,s19 _ _ eGv,s19 _ _ eTk,nGT,ono,ini,hF.whole.outs.trans hF.whole.ins.symm,hF.whole.hang,fun H20 s20=>?_⟩
 have s:=s19.trans s20
 refine k _ (fun b u hb e=>s _ _ (T18.but b u hb e)) ⟨dx,_,R,F,Pd,Gv,Tk,FL,PL,s _ _ e18,⟨?_,?_⟩,s _ _ eR,s _ _ eF,s _ _ ePd,s _ _ eGv,s _ _ eTk,eFL,ePL,fun q hq=>s.seqT (hS q hq),fun q hq=>(hP q hq).same s,hF,nRF⟩
 ·intro q hq
  simp only [List.mem_cons,List.not_mem_nil,or_false] at hq
  rcases hq with rfl | rfl | rfl | rfl | rfl <;> (dsimp only;(repeat first | (rw [aD,if_pos rfl];done) | rw [aD,if_neg (by decide +kernel)]))
 ·intro m hm
  have hne:∀m∈(["lane_names", "part_names", "names_of_kind", "gives", "need_lane_name", "first_of", "part_of", "__init__"]:List Str),∀g∈(["takers", "givers", "parts", "firsts", "rooms"]:List Str),¬m=g:=by decide +kernel
  have h:=hne m hm
  rw [aD,if_neg (h _ (by simp)),aD,if_neg (h _ (by simp)),aD,if_neg (h _ (by simp)),aD,if_neg (h _ (by simp)),aD,if_neg (h _ (by simp))]
  rfl
inductive uF (K:PySem.W.Frag) (t:nj) (vs:List V) (H:Hp) (Q:VK) (E_:XK):Prop where
 | mk:∀(f n E G Kp D Rw l:Addr) (ed gd:List (Key×V)) (x:Str) (vs':List V) (g:Nat),vs=[.ref f,.str x]->qI K t H f n E G Kp D Rw->H E=some (.dK ed)->H G=some (.dK gd)->cC ed (Sum.inr x)=some (.ref l)->cC gd (Sum.inr x)=some (.int g)->bT K H l vs'->Q (.int (vs'.length - g)) H->uF K t vs H Q E_
theorem Cg (T:Txt w K mg t):FO P w K mg base 1 t.qz ["self", "lane"] (uF K t):=by
 have sc:=T.qm.sc ["self", "lane"]
 refine T.qm.F.ok sc ln (fun _ _ _ _ H vs Q E hr h=>?_)
 obtain⟨f,n,E,G,Kp,D,Rw,l,ed,gd,x,vs',g,rfl,N,hE,hG,h3,h4,h5,k⟩:=h
 refine⟨_,(aA (aR (aY Jb (bf b7 (by rfl) T.fj dB (aa (bZ hr.u1 (bI (pv 0) rfl) (pv 1) (fun _ _=>rfl)) ak aC)) (bZ hr.u1 (bI (pv 0) rfl) (pv 1) (fun _ _=>rfl))))),?_⟩
 obtain⟨dx,fs,h1,h2⟩:=id N.ex
 refine⟨_,rfl,f,_,dx,fs,_,rfl,h1,T.aX.c,T.aX.na.2.1,h2.has ("ever",.ref E) (by simp),_,rfl,E,_,rfl,(by rw [<-h3];exact dZ.k (k:=Sum.inr x) hE),?_⟩
 refine⟨.ref l,vs'.length,rfl,.inl ⟨vs',h5,rfl⟩,_,rfl,f,_,dx,fs,_,rfl,h1,T.aX.c,T.aX.na.2.2.1,h2.has ("gone",.ref G) (by simp),_,rfl,G,_,rfl,(by rw [<-h4];exact dZ.k (k:=Sum.inr x) hG),?_⟩
 refine⟨_,_,rfl,rfl,?_⟩
 exact k
inductive wg (K:PySem.W.Frag) (t:nj) (vs:List V) (H:Hp) (Q:VK) (E_:XK):Prop where
 | mk:∀(f n E G Kp D Rw l:Addr) (ed gd:List (Key×V)) (x:Str) (vs':List V) (g:Nat),vs=[.ref f,.str x]->qI K t H f n E G Kp D Rw->H E=some (.dK ed)->H G=some (.dK gd)->cC ed (Sum.inr x)=some (.ref l)->cC gd (Sum.inr x)=some (.int g)->bT K H l vs'->Q ((vs'[g]?).getD .non) H->wg K t vs H Q E_
theorem Gz (T:Txt w K mg t):FO P w K mg base 2 t.sY ["self", "lane"] (wg K t):=by
 have sc:=T.rP.sc ["self", "lane"]
 refine T.rP.F.ok sc ln (fun _ _ _ _ H vs Q E hr h=>?_)
 obtain⟨f,n,E,G,Kp,D,Rw,l,ed,gd,x,vs',g,rfl,N,hE,hG,h3,h4,h5,k⟩:=h
 refine⟨_,(aA (aR (zV (bj Ds (Ji (pv 0) T.aX T.aX.me.2.1 (Cg T) T.qm hr (aa (pv 1) ak aj)) aq (bK _)) (aU aO (bZ hr.u1 (bI (pv 0) rfl) (pv 1) (fun _ _=>rfl)) (bZ hr.u1 (bI (pv 0) rfl) (pv 1) (fun _ _=>rfl)) (fun _ _=>rfl)) qH))),?_⟩
 obtain⟨dx,fs,h1,h2⟩:=id N.ex
 refine⟨_,rfl,f,dx,fs,rfl,h1,h2.no _ (by decide +kernel),_,rfl,f,n,E,G,Kp,D,Rw,l,ed,gd,x,vs',g,rfl,N,hE,hG,h3,h4,h5,?_⟩
 refine⟨_,_,rfl,rfl,_,rfl,jt (fun e=>?_) (fun e=>?_)⟩
 ·have e':g <vs'.length:=by have:=of_decide_eq_true e;omega
  refine⟨_,rfl,f,_,dx,fs,_,rfl,h1,T.aX.c,T.aX.na.2.1,h2.has ("ever",.ref E) (by simp),_,rfl,E,_,rfl,(by rw [<-h3];exact dZ.k (k:=Sum.inr x) hE),?_⟩
  refine⟨_,rfl,f,_,dx,fs,_,rfl,h1,T.aX.c,T.aX.na.2.2.1,h2.has ("gone",.ref G) (by simp),_,rfl,G,_,rfl,(by rw [<-h4];exact dZ.k (k:=Sum.inr x) hG),?_⟩
  rw [List.getElem?_eq_getElem e'] at k
  exact⟨l,vs',g,_,rfl,rfl,h5,aN (List.getElem?_eq_getElem e'),k⟩
 ·have e':¬g <vs'.length:=fun z=>e (decide_eq_true (by omega))
  rw [List.getElem?_eq_none (by omega)] at k
  exact k
inductive mQ (K:PySem.W.Frag) (t:nj) (vs:List V) (H:Hp) (Q:VK):Prop where
 | mk:∀(f n E G Kp D Rw:Addr) (rd dd:List (Key×V)) (x:Str),vs=[.ref f,.str x]->qI K t H f n E G Kp D Rw->H Rw=some (.dK rd)->H D=some (.dK dd)->(((cC rd (Sum.inr x)=none/\Q (.bl false) H)∨∃(l:Addr) (vs':List V) (g:Nat),cC rd (Sum.inr x)=some (.ref l)/\cC dd (Sum.inr x)=some (.int g)/\bT K H l vs'/\Q (.bl (decide (g=vs'.length))) H))->mQ K t vs H Q
@[irreducible] noncomputable def eE (K:PySem.W.Frag) (t:nj):Sp:=fun vs H Q _=>mQ K t vs H Q
theorem wD (T:Txt w K mg t):FO P w K mg base 1 t.jX ["self", "name"] (eE K t):=by
 have sc:=T.jZ.sc ["self", "name"]
 refine T.jZ.F.ok sc (fun vs H Q E h=>?_) (fun cdv A outer s H vs Q E hr h=>?_)
 ·unfold eE at h
  obtain⟨f,n,E,G,Kp,D,Rw,rd,dd,x,rfl,_⟩:=h
  rfl
 ·unfold eE at h
  obtain⟨f,n,E,G,Kp,D,Rw,rd,dd,x,rfl,N,hR,hD,k⟩:=h
  refine⟨_,(aA (aR (xX (Et (xF hr.u1 (pv 1) (bI (pv 0) rfl))) (xY (tR fX (bZ hr.u1 (bI (pv 0) rfl) (pv 1) (fun _ _=>rfl)) (bf b7 (by rfl) T.fj dB (aa (bZ hr.u1 (bI (pv 0) rfl) (pv 1) (fun _ _=>rfl)) ak aC)) (bK _)))))),?_⟩
  obtain⟨dx,fs,h1,h2⟩:=id N.ex
  refine⟨_,rfl,_,rfl,f,_,dx,fs,_,rfl,h1,T.aX.c,T.aX.na.2.2.2.2.2.1,h2.has ("rows",.ref Rw) (by simp),Rw,_,rfl,dZ.k (k:=Sum.inr x) hR,?_⟩
  rcases k with ⟨k1,k⟩ | ⟨l,vs',g,k1,k2,k3,k⟩
  ·rw [k1]
   exact⟨_,rfl,dI k⟩
  ·rw [k1]
   refine⟨_,rfl,ji ?_⟩
   refine⟨_,rfl,f,_,dx,fs,_,rfl,h1,T.aX.c,T.aX.na.2.2.2.2.1,h2.has ("done",.ref D) (by simp),_,rfl,D,_,rfl,(by rw [<-k2];exact dZ.k (k:=Sum.inr x) hD),?_⟩
   refine⟨_,rfl,f,_,dx,fs,_,rfl,h1,T.aX.c,T.aX.na.2.2.2.2.2.1,h2.has ("rows",.ref Rw) (by simp),_,rfl,Rw,_,rfl,(by rw [<-k1];exact dZ.k (k:=Sum.inr x) hR),?_⟩
   refine⟨.ref l,vs'.length,rfl,.inl ⟨vs',k3,rfl⟩,rfl,?_⟩
   rw [show decide (V.int (g:Int)=V.int (vs'.length:Int))=decide (g=vs'.length) by rw [decide_eq_decide,V.int.injEq];omega]
   exact k
inductive uv (K:PySem.W.Frag) (t:nj) (vs:List V) (H:Hp) (Q:VK) (E_:XK):Prop where
 | mk:∀(f n E G Kp D Rw p:Addr) (ed gd:List (Key×V)) (i:Nat) (nm:V) (ns os:List V) (xs:List Str) (hv:Str->V),vs=[.ref f,.ref p]->qI K t H f n E G Kp D Rw->H E=some (.dK ed)->H G=some (.dK gd)->fG K t H p i nm ns (xs.map V.str) os->xs.length<=3->((∀x∈xs,∃(l:Addr) (vs':List V) (g:Nat),cC ed (Sum.inr x)=some (.ref l)/\cC gd (Sum.inr x)=some (.int g)/\bT K H l vs'/\hv x=(vs'[g]?).getD .non))->(∀d,H d=none->Q (.ref d) (upd H d (.lst (xs.map hv))))->uv K t vs H Q E_
theorem uG (T:Txt w K mg t):FO P w K mg base 3 t.qi ["self", "part"] (uv K t):=by
 have sc:=T.lY.sc ["self", "part"]
 refine T.lY.F.ok sc ln (fun _ _ _ _ H vs Q E hr h=>?_)
 obtain⟨f,n,E,G,Kp,D,Rw,p,ed,gd,i,nm,ns,os,xs,hv,rfl,N,hE,hG,hP,hx,hh,k⟩:=h
 refine⟨_,(aA (aR (fM [0] ["self", "part"] (bz (inClass (top 16) 6)) rfl (FT (bI (pv 1) rfl)) (fun _ _ _ _ _=>gh) (fun _ _ _ _ _=>(Ji (pv 1) T.aX T.aX.me.2.2.1 (Gz T) T.rP hr (aa (pv 0) ak aj)))))),?_⟩
 obtain⟨dx,fs,h1,h2⟩:=id N.ex
 obtain⟨dxp,tn,ti,to,p1,p2,p3,p4⟩:=id hP.ex
 have hz:sizeLine=16777216:=sizeLine_eq
 refine⟨_,rfl,p,_,dxp,_,_,rfl,p1,gZ T i,xP T i,tG _ _ _ _,ti,rfl,⟨_,p3⟩,?_⟩
 refine GZ (K:=K) (a:=ti) (xs:=xs.map V.str) (fun j ys H'=>H'=H/\ys=(xs.take j).map hv) (by simp;omega) ⟨rfl,rfl⟩ (fun j ys H' ⟨_,e⟩=>by rw [e];simp;omega) (fun j ys H' _ ⟨e,_⟩=>by rw [e];exact p3) ?_ ?_
 ·rintro j y ys H' hy ⟨rfl,rfl⟩
  rw [List.getElem?_map] at hy
  obtain⟨x,hq,rfl⟩:=Option.map_eq_some_iff.mp hy
  obtain⟨l,vs',g,g1,g2,g3,g4⟩:=hh x (List.mem_of_getElem? hq)
  refine yes ⟨_,rfl,f,dx,fs,rfl,h1,h2.no _ (by decide +kernel),_,rfl,f,n,E,G,Kp,D,Rw,l,ed,gd,x,vs',g,rfl,N,hE,hG,g1,g2,g3,rfl,?_⟩
  rw [List.take_succ,hq,Option.toList_some,List.map_append,<-g4]
  rfl
 ·rintro ys H' ⟨rfl,rfl⟩ d hd
  rw [lM,List.take_length]
  exact k d hd
theorem Oc (T:Txt w K mg t) (i:Nat):MethAt P w K mg base Cm 2 (cls t i) "lacks" (xf K t i):=match i with
 | 0=>⟨_,_,_,T.ik.c,(T.bC.me T.ik.me.2.2.2.1),T.bC.b,(dj T).imp fun _ _ _ _ h=>⟨_,h⟩⟩
 | 1=>⟨_,_,_,T.ig.c,(T.bC.me T.ig.me.2.2.2.1),T.bC.b,(dj T).imp fun _ _ _ _ h=>⟨_,h⟩⟩
 | 2=>⟨_,_,_,T.iD.c,(T.bC.me T.iD.me.2.2.2.1),T.bC.b,(dj T).imp fun _ _ _ _ h=>⟨_,h⟩⟩
 | 3=>⟨_,_,_,T.iB.c,(T.bC.me T.iB.me.2.2.2.1),T.bC.b,(dj T).imp fun _ _ _ _ h=>⟨_,h⟩⟩
 | 4=>⟨_,_,_,T.iC.c,(T.bC.me T.iC.me.2.2.2.1),T.bC.b,(dj T).imp fun _ _ _ _ h=>⟨_,h⟩⟩
 | 5=>⟨_,_,_,T.iu.c,(T.bC.me T.iu.me.2.2.2.1),T.bC.b,(dj T).imp fun _ _ _ _ h=>⟨_,h⟩⟩
 | 6=>⟨_,_,_,T.lB.c,(T.bC.me T.lB.me.2.2.2.1),T.bC.b,(dj T).imp fun _ _ _ _ h=>⟨_,h⟩⟩
 | 7=>⟨_,_,_,T.iz.c,(T.bC.me T.iz.me.2.2.2.1),T.bC.b,(dj T).imp fun _ _ _ _ h=>⟨_,h⟩⟩
 | 8=>⟨_,_,_,T.fK.c,(T.bC.me T.fK.me.2.2.2.1),T.bC.b,(dj T).imp fun _ _ _ _ h=>⟨_,h⟩⟩
 | 9=>⟨_,_,_,T.d8.c,(T.bC.me T.d8.me.2.2.2.1),T.bC.b,(dj T).imp fun _ _ _ _ h=>⟨_,h⟩⟩
 | n+10=>⟨_,_,_,T.fO.c,(T.bC.me T.fO.me.2.2.2.1),T.bC.b,(dj T).imp fun _ _ _ _ h=>⟨_,h⟩⟩
inductive qT (K:PySem.W.Frag) (t:nj) (vs:List V) (H:Hp) (Q:VK) (E:XK):Prop where
 | mk:∀(A:xg) (ls:List aK) (ps:List PD) (S:FS) (p:PD),vs=[.ref A.f,.str p.name]->nC K t H A.n ls ps->jK K t H A ls ps S->p∈ps->(∀H',aM H H'->Q (eO p.kind p.ins (aV S p)) H')->qT K t vs H Q E
theorem zp (T:Txt w K mg t):FO P w K mg base 4 t.m9 ["self", "name"] (qT K t):=by
 have sc:=T.mF.sc ["self", "name", "part", "place"]
 refine T.mF.F.ok sc ln (fun _ _ _ _ H vs Q E hr h=>?_)
 obtain⟨A,ls,ps,S,p,rfl,N,W,hp,k⟩:=h
 refine⟨_,(az (sN sc 2 (Ji (bI (pv 0) rfl) T.bD T.bD.me.2.2.2.2.2.2.2.1 (mJ T) T.jl hr (aa (pv 1) ak aj)))
  (az (sN sc 3 (vV (CX:=Cm) (k:=2) (E:=E0) (pv 2) (hr.mono (by decide)) jd (aa (Ji (pv 0) T.aX T.aX.me.2.2.2.2.1 (uG T) T.lY hr (aa (pv 2) ak aj)) ak aW)))
  (aA (aR (zV (jy (xK (pv 3))) qH (aU dw (bI (pv 2) rfl) (pv 3) (fun _ _=>rfl))))))),?_⟩
 obtain⟨dxn,fsn,R,F,Pd,Gn,Tk,FL,PL,Wn⟩:=id N
 have F:=Wn.fit
 obtain⟨dx,fs,h1,h2⟩:=id W.at'.ex
 have hh1:∀{H':Hp},aM H H'->(∀x∈p.ins,∃(l:Addr) (vs':List V) (g:Nat),cC (qQ A.ea ls) (Sum.inr x)=some (.ref l)/\cC (cG S.g ls) (Sum.inr x)=some (.int g)/\bT K H' l vs'/\gQ S x=(vs'[g]?).getD .non):=fun s x hx=>by
  obtain⟨l,hl,rfl⟩:=F.inL hp (List.mem_append.mpr (.inl hx))
  exact⟨A.ea l.name,_,S.g l.name,oJ F.whole.nod hl,pO F.whole.nod hl,bT.of (s _ _ (W.lists l hl)),by unfold gQ;rw [List.getElem?_map]⟩
 refine⟨_,rfl,A.f,_,dx,fs,_,rfl,h1,T.aX.c,T.aX.na.1,h2.has ("net",.ref A.n) (by simp),A.n,dxn,fsn,rfl,Wn.obj,Wn.fl.no _ (by decide +kernel),_,rfl,A.n,ls,ps,p.name,rfl,N,.inl ⟨p,hp,rfl,fun H1 q s1 P1=>?_⟩⟩
 obtain⟨dxp,tn,ti,to,p1,p2,p3,p4⟩:=id P1.ex
 have W1:=W.same s1
 have hI:=(F.pok p hp).2.2.1
 have hO:=mG S p (F.pok p hp)
 refine⟨_,rfl,q,cls t p.kind,dxp,_,xf K t p.kind,rfl,p1,tY _ _ _ _ (by decide +kernel) (by decide +kernel) (by decide +kernel) (by decide +kernel),Oc T p.kind,?_⟩
 refine⟨_,rfl,A.f,dx,fs,rfl,s1 _ _ h1,h2.no _ (by decide +kernel),_,rfl,A.f,A.n,A.E,A.G,A.Kp,A.D,A.Rw,q,_,_,p.kind,_,_,_,p.ins,gQ S,rfl,W1.at',W1.ever,W1.gone,P1,(by have:=yo p.kind;omega),hh1 s1,fun d hd=>?_⟩
 have s2:aM H1 (upd H1 d (.lst (p.ins.map (gQ S)))):=aB hd
 refine⟨q,d,_,_,_,_,aV S p,rfl,P1.same s2,by rw [lM];exact hI,bT.of au,hO,fun H3 s3=>?_⟩
 have s23:=s2.trans s3
 have k':=k H3 (s1.trans s23)
 have hlt:=iJ hO
 unfold eO at k'
 unfold Kf
 cases hf:(places p.kind (aV S p)).find? (jN (aV S p)) with
 | none=>
  rw [hf] at k'
  exact⟨_,rfl,_,rfl,ji k'⟩
 | some j=>
  rw [hf] at k'
  have hq:j <p.ins.length:=by have:=hlt j (List.mem_of_find?_eq_some hf);unfold aV at this;rwa [lM] at this
  have k':Q (V.str p.ins[j]) H3:=by simpa only [List.getElem?_eq_getElem hq,Option.map_some,Option.getD_some] using k'
  exact⟨_,rfl,_,rfl,dI ⟨_,rfl,q,_,dxp,_,_,rfl,s23 _ _ p1,gZ T p.kind,xP T p.kind,tG _ _ _ _,_,rfl,ti,p.ins.map V.str,j,_,rfl,rfl,s23.seqT p3,aN (j:=j) (by rw [List.getElem?_map,List.getElem?_eq_getElem hq];rfl),k'⟩⟩
theorem My (T:Txt w K mg t) {i:Nat} (hi:i <11):MethAt P w K mg base Cm 2 (cls t i) "worked" (d9 K t i):=match i,hi with
 | 0,_=>⟨_,_,_,T.ik.c,(T.kI.me T.ik.me.2.2.2.2.1),T.kI.b,iW.mono (k:=2) (By T) (by decide)⟩
 | 1,_=>⟨_,_,_,T.ig.c,(T.kY.me T.ig.me.2.2.2.2.1),T.kY.b,iW.mono (k:=2) (Bx T) (by decide)⟩
 | 2,_=>⟨_,_,_,T.iD.c,(T.j7.me T.iD.me.2.2.2.2.1),T.j7.b,iW.mono (k:=2) (Aw T) (by decide)⟩
 | 3,_=>⟨_,_,_,T.iB.c,(T.j9.me T.iB.me.2.2.2.2.1),T.j9.b,iW.mono (k:=2) (zR T) (by decide)⟩
 | 4,_=>⟨_,_,_,T.iC.c,(T.km.me T.iC.me.2.2.2.2.1),T.km.b,iW.mono (k:=2) (Ax T) (by decide)⟩
 | 5,_=>⟨_,_,_,T.iu.c,(T.j6.me T.iu.me.2.2.2.2.1),T.j6.b,iW.mono (k:=2) (BX T) (by decide)⟩
 | 6,_=>⟨_,_,_,T.lB.c,(T.lN.me T.lB.me.2.2.2.2.1),T.lN.b,iW.mono (k:=2) (BZ T) (by decide)⟩
 | 7,_=>⟨_,_,_,T.iz.c,(T.j8.me T.iz.me.2.2.2.2.1),T.j8.b,iW.mono (k:=2) (Bf T) (by decide)⟩
 | 8,_=>⟨_,_,_,T.fK.c,(T.jQ.me T.fK.me.2.2.2.2.1),T.jQ.b,iW.mono (k:=2) (zq T) (by decide)⟩
 | 9,_=>⟨_,_,_,T.d8.c,(T.jo.me T.d8.me.2.2.2.2.1),T.jo.b,iW.mono (k:=2) (xU T) (by decide)⟩
 | 10,_=>⟨_,_,_,T.fO.c,(T.jG.me T.fO.me.2.2.2.2.1),T.jG.b,iW.mono (k:=2) (zm T) (by decide)⟩
theorem Wi (ns ws:List Int) (kp:Int):∀pv∈cD 0 ns ws kp,∃q:Nat,pv.1=(q:Int)/\q <cO 0:=by
 intro pv h
 simp [cD] at h
 subst h
 exact⟨0,rfl,by decide⟩
theorem Wz (ns ws:List Int) (kp:Int):∀pv∈cD 1 ns ws kp,∃q:Nat,pv.1=(q:Int)/\q <cO 1:=by
 intro pv h
 simp [cD] at h
theorem Vx (ns ws:List Int) (kp:Int):∀pv∈cD 2 ns ws kp,∃q:Nat,pv.1=(q:Int)/\q <cO 2:=by
 intro pv h
 simp [cD] at h
 subst h
 exact⟨0,rfl,by decide⟩
theorem VN (ns ws:List Int) (kp:Int):∀pv∈cD 3 ns ws kp,∃q:Nat,pv.1=(q:Int)/\q <cO 3:=by
 intro pv h
 simp [cD] at h
 rcases h with rfl | rfl
 ·exact⟨0,rfl,by decide⟩
 ·exact⟨1,rfl,by decide⟩
theorem Wk (ns ws:List Int) (kp:Int):∀pv∈cD 4 ns ws kp,∃q:Nat,pv.1=(q:Int)/\q <cO 4:=by
 intro pv h
 simp [cD] at h
 subst h
 exact⟨0,rfl,by decide⟩
theorem V7 (ns ws:List Int) (kp:Int):∀pv∈cD 5 ns ws kp,∃q:Nat,pv.1=(q:Int)/\q <cO 5:=by
 intro pv h
 simp [cD] at h
 subst h
 exact⟨0,rfl,by decide⟩
theorem Ww (ns ws:List Int) (kp:Int):∀pv∈cD 6 ns ws kp,∃q:Nat,pv.1=(q:Int)/\q <cO 6:=by
 intro pv h
 simp [cD] at h
 subst h
 exact⟨0,rfl,by decide⟩
theorem VF (ns ws:List Int) (kp:Int):∀pv∈cD 7 ns ws kp,∃q:Nat,pv.1=(q:Int)/\q <cO 7:=by
 intro pv h
 simp [cD] at h
 subst h
 exact⟨0,rfl,by decide⟩
theorem WD (ns ws:List Int) (kp:Int):∀pv∈cD 8 ns ws kp,∃q:Nat,pv.1=(q:Int)/\q <cO 8:=by
 intro pv h
 simp [cD] at h
 rcases h with rfl | rfl
 ·exact⟨0,rfl,by decide⟩
 ·exact⟨1,rfl,by decide⟩
theorem Wa (ns ws:List Int) (kp:Int):∀pv∈cD 9 ns ws kp,∃q:Nat,pv.1=(q:Int)/\q <cO 9:=by
 intro pv h
 simp [cD] at h
 subst h
 exact⟨0,rfl,by decide⟩
theorem U5 (ns ws:List Int) (kp:Int):∀pv∈cD 10 ns ws kp,∃q:Nat,pv.1=(q:Int)/\q <cO 10:=by
 intro pv h
 simp [cD] at h
 subst h
 have h0:=Int.emod_nonneg (g0 ws) (show(2:Int)≠0 by decide)
 have h1:=Int.emod_lt_of_pos (g0 ws) (show(0:Int) <2 by decide)
 exact⟨(g0 ws % 2).toNat,by show g0 ws % 2=_;omega,by show(g0 ws % 2).toNat <2;omega⟩
theorem zE {i:Nat} (hi:i<=10) (ns ws:List Int) (kp:Int):∀pv∈cD i ns ws kp,∃q:Nat,pv.1=(q:Int)/\q <cO i:=by
 match i,hi with
 | 0,_=>exact Wi ns ws kp
 | 1,_=>exact Wz ns ws kp
 | 2,_=>exact Vx ns ws kp
 | 3,_=>exact VN ns ws kp
 | 4,_=>exact Wk ns ws kp
 | 5,_=>exact V7 ns ws kp
 | 6,_=>exact Ww ns ws kp
 | 7,_=>exact VF ns ws kp
 | 8,_=>exact WD ns ws kp
 | 9,_=>exact Wa ns ws kp
 | 10,_=>exact U5 ns ws kp
 | (n+11),z=>exact absurd z (by omega)
theorem vX (i:Nat) (ns ws:List Int) (kp:Int):(cD i ns ws kp).length<=2:=match i with
 | 0=>by simp [cD]
 | 1=>by simp [cD]
 | 2=>by simp [cD]
 | 3=>by simp [cD]
 | 4=>by simp [cD]
 | 5=>by simp [cD]
 | 6=>by simp [cD]
 | 7=>by simp [cD]
 | 8=>by simp [cD]
 | 9=>by simp [cD]
 | n+10=>by simp [cD]
noncomputable def nameAt (xs:List Str) (q:Nat):V:=V.str ((xs[q]?).getD Str.empty)
theorem Tf {H:Hp} {Q:VK} {Ex:XK} {f n E G Kp D Rw:Addr} {rd dd:List (Key×V)} {y:Str} (N:qI K t H f n E G Kp D Rw) (hR:H Rw=some (.dK rd)) (hD:H D=some (.dK dd))
  (k:(cC rd (Sum.inr y)=none/\Q (.bl false) H)∨∃(l:Addr) (vs':List V) (g:Nat),cC rd (Sum.inr y)=some (.ref l)/\cC dd (Sum.inr y)=some (.int g)/\bT K H l vs'/\Q (.bl (decide (g=vs'.length))) H):eE K t [.ref f,.str y] H Q Ex:=by
 unfold eE
 exact⟨f,n,E,G,Kp,D,Rw,rd,dd,y,rfl,N,hR,hD,k⟩
theorem V4 {i:Nat} (h0:i≠0) (hi:i <11) (h9:i≠9):cV i=cI i:=by
 match i,h0,hi with
 | 1,_,_=>rfl
 | 2,_,_=>rfl
 | 3,_,_=>rfl
 | 4,_,_=>rfl
 | 5,_,_=>rfl
 | 6,_,_=>rfl
 | 7,_,_=>rfl
 | 8,_,_=>rfl
 | 9,_,_=>exact absurd rfl h9
 | 10,_,_=>rfl
theorem Fq {S:FS} {p:PD} (ok:m6 p) (hl:eO p.kind p.ins (aV S p)=.non):∀q∈places p.kind (aV S p),∃x n,p.ins[q]?=some x/\(aV S p)[q]?=some (.int n)/\(S.ev x)[S.g x]?=some n:=by
 have hO:=mG S p ok
 have hf:(places p.kind (aV S p)).find? (jN (aV S p))=none:=by
  cases hf:(places p.kind (aV S p)).find? (jN (aV S p)) with
  | none=>rfl
  | some j=>
   unfold eO at hl
   rw [hf] at hl
   have hq:j <p.ins.length:=by have:=iJ hO j (List.mem_of_find?_eq_some hf);unfold aV at this;rwa [lM] at this
   simp only [List.getElem?_eq_getElem hq,Option.map_some,Option.getD_some] at hl
   cases hl
 intro q hq
 have h1:=List.find?_eq_none.mp hf q hq
 have hlt:=iJ hO q hq
 have hlt':q <p.ins.length:=by unfold aV at hlt;rwa [lM] at hlt
 have e:(aV S p)[q]?=some (gQ S p.ins[q]):=by unfold aV;rw [List.getElem?_map,List.getElem?_eq_getElem hlt'];rfl
 refine⟨p.ins[q],?_⟩
 unfold jN at h1
 rw [e] at h1 ⊢
 unfold gQ at h1 ⊢
 cases h0:(S.ev p.ins[q])[S.g p.ins[q]]? with
 | none=>rw [h0] at h1;exact absurd (by simp) h1
 | some n=>exact⟨n,List.getElem?_eq_getElem hlt',by simp,rfl⟩
theorem Qv {b:Nat} {ls:List aK} {ps:List PD} {S:FS} (F:vh ls ps) (O:Mt b ls ps S) {p:PD} (hp:p∈ps) (hl:eO p.kind p.ins (aV S p)=.non) (he:sy S p=false):(sJ S p).length=cV p.kind/\Vd (sJ S p)/\
  (p.kind≠0->(places p.kind (aV S p)).map (fun q=>((aV S p)[q]?).getD .non)=(sJ S p).map V.int)/\(p.kind=0->∃w,(S.r p.name)[S.d p.name]?=some w/\sJ S p=[w]):=by
 have ok:=F.pok p hp
 have hn:=Fq ok hl
 by_cases h0:p.kind=0
 ·have hd:=O.dl p hp h0
  have hlt:S.d p.name <(S.r p.name).length:=by
   unfold sy at he
   simp [h0] at he
   omega
  have e:=List.getElem?_eq_getElem hlt
  have ew:sJ S p=[(S.r p.name)[S.d p.name]]:=by unfold sJ;rw [if_pos h0,e];rfl
  refine⟨by rw [ew,h0];rfl,fun w hw=>?_,fun z=>absurd h0 z,fun _=>⟨_,e,ew⟩⟩
  rw [ew,List.mem_singleton] at hw
  subst hw
  exact O.rb p hp h0 _ (List.getElem_mem hlt)
 ·have ew:sJ S p=(places p.kind (aV S p)).map fun q=>Hj (((aV S p)[q]?).getD .non):=by unfold sJ;rw [if_neg h0]
  refine⟨?_,fun w hw=>?_,fun _=>?_,fun z=>absurd z h0⟩
  ·rw [ew,lM]
   by_cases h9:p.kind=9
   ·have h3:=hn
    unfold places at h3 ⊢
    rw [if_pos h9] at h3 ⊢
    split
    ·rw [h9];rfl
    ·rename_i hno
     obtain⟨x,n,_,h3,_⟩:=h3 0 (by split <;> simp)
     cases hs:aV S p with
     | nil=>rw [hs] at h3;cases h3
     | cons a r=>
      rw [hs] at h3
      have:a=.int n:=by simpa using h3
      exact absurd (by rw [hs,this]) (hno n r)
   ·unfold places
    rw [if_neg h9,List.length_range,(mG S p ok).1,V4 h0 ok.1 h9]
  ·rw [ew] at hw
   obtain⟨q,hq,rfl⟩:=List.mem_map.mp hw
   obtain⟨x,n,hx,h3,h4⟩:=hn q hq
   rw [h3]
   show 0<=n/\n <1000000000
   obtain⟨l,hll,rfl⟩:=F.inL hp (List.mem_append.mpr (.inl (List.mem_of_getElem? hx)))
   exact O.vb l hll n (List.mem_of_getElem? h4)
  ·rw [ew,List.map_map]
   refine List.map_congr_left fun q hq=>?_
   obtain⟨x,n,_,h3,_⟩:=hn q hq
   show _=V.int (Hj _)
   rw [h3]
   rfl
theorem z8 {S:FS} {p:PD} (h:eO p.kind p.ins (aV S p)≠.non):bW S p=none:=by unfold bW;rw [if_pos h]
theorem Eh {S:FS} {p:PD} (h:sy S p=true):bW S p=none:=by unfold bW;split <;> simp [h]
inductive uM (K:PySem.W.Frag) (t:nj) (vs:List V) (H:Hp) (Q:VK):Prop where
 | mk:∀(b:Nat) (A:xg) (ls:List aK) (ps:List PD) (S:FS) (p:PD),vs=[.ref A.f,.str p.name]->nC K t H A.n ls ps->jK K t H A ls ps S->p∈ps->Mt b ls ps S->((bW S p=none->∀H',aM H H'->Q .non H'))->(∀dd,bW S p=some dd->∀H' U,aM H H'->H U=none->pP (A.cells ls ps) H' U dd->Q (.ref U) H')->uM K t vs H Q
@[irreducible] noncomputable def iH (K:PySem.W.Frag) (t:nj):Sp:=fun vs H Q _=>uM K t vs H Q
noncomputable abbrev oO:List Str:=["self", "name", "part", "heads", "places", "values", "answer", "given"]
theorem wG (T:Txt w K mg t):FO P w K mg base 5 t.tD ["self", "name"] (iH K t):=by
 have sc:=T.nY.sc oO
 refine T.nY.F.ok sc (fun vs H Q E h=>?_) (fun cdv A outer s H vs Q E hr h=>?_)
 ·unfold iH at h
  obtain⟨b,A,ls,ps,S,p,rfl,_⟩:=h
  rfl
 ·unfold iH at h
  obtain⟨b,A,ls,ps,S,p,rfl,N,W,hp,O,kn,k⟩:=h
  refine⟨_,(az (bO (PW.pt (qd (jy (K1 (Ji (pv 0) T.aX T.aX.me.2.2.2.2.2.1 (zp T) T.mF hr (aa (pv 1) ak aj)))) (j4 (fH (Ji (pv 0) T.aX T.aX.me.2.2.2.1 (wD T) T.jZ hr (aa (pv 1) ak aj))))))
    (aA (aR qH))
    bc)
   (az (sN sc 2 (Ji (bI (pv 0) rfl) T.bD T.bD.me.2.2.2.2.2.2.2.1 (mJ T) T.jl hr (aa (pv 1) ak aj)))
   (az (sN sc 3 (Ji (pv 0) T.aX T.aX.me.2.2.2.2.1 (uG T) T.lY hr (aa (pv 2) ak aj)))
   (az (sN sc 4 (vV (CX:=Cm) (k:=1) (E:=E0) (pv 2) (hr.mono (by decide)) jd (aa (pv 3) ak aj)))
   (az (pR (i:=5) [3] oO (bz (inClass (top 16) 9)) rfl sc.nd rfl (cW (pv 4)) (fun _ _ _ _ _=>gh) (fun _ _ _ _ _=>(aU (vC (K:=K) rfl) (pv 1) (pv 0) (fun _ _=>rfl))))
   (az (eX (bO (jy (xF hr.u1 (pv 1) (bI (pv 0) rfl)))
    (aA (sN sc 5 (bu (aa (aU aO (bZ hr.u1 (bI (pv 0) rfl) (pv 1) (fun _ _=>rfl)) (bZ hr.u1 (bI (pv 0) rfl) (pv 1) (fun _ _=>rfl)) (fun _ _=>rfl)) ak aC))))
    bc))
   (az (sN sc 6 (vV (CX:=Cm) (k:=2) (E:=E0) (pv 2) (hr.mono (by decide)) jd (aa (pv 5) (aa (bZ hr.u1 (bI (pv 0) rfl) (pv 1) (fun _ _=>rfl)) ak aC) aj)))
   (az (Qa (i:=7) ["place", "value"] [2] oO (bz (inClass (top 16) 9)) rfl sc.nd rfl (cW (aU dw (pv 6) aq (fun _ _=>rfl))) (fun _ _ _ _ _=>Ka (K:=K) (n:=2) rfl rfl (eQ (qw (i:=0) (show(["place", "value", "part"]:List Str).Nodup by decide +kernel) rfl (Or.inl rfl) (.inr rfl)) (eQ (qw (i:=1) (show(["place", "value", "part"]:List Str).Nodup by decide +kernel) rfl (Or.inl rfl) (.inr rfl)) uo))) (fun _ _ _ _ _=>gh) (fun _ _ _ _ _=>(bL (aa (aU (ue (K:=K) rfl) (Fl (K:=K) rfl (pv 2) rfl) (pv 0) (fun _ _=>rfl)) (aa (pv 1) ak aj) aC))))
   (aA (aR (bL (aa (fM [2] oO (bz (inClass (top 16) 9)) rfl (cW (pv 4)) (fun _ _ _ _ _=>gh) (fun _ _ _ _ _=>(aU (ue (K:=K) rfl) (Fl (K:=K) rfl (pv 1) rfl) (pv 0) (fun _ _=>rfl)))) (aa (pv 7) (aa (aU dw (pv 6) aq (fun _ _=>rfl)) ak aC) aj) cP)))))))))))),?_⟩
  obtain⟨dxn,fsn,R,F,Pd,Gn,Tk,FL,PL,Wn⟩:=id N
  have F:=Wn.fit
  obtain⟨dx,fs,h1,h2⟩:=id W.at'.ex
  have ok:=F.pok p hp
  have hO:=mG S p ok
  have hI:=ok.2.2.1
  have hh1:∀{H':Hp},aM H H'->(∀x∈p.ins,∃(l:Addr) (vs':List V) (g:Nat),cC (qQ A.ea ls) (Sum.inr x)=some (.ref l)/\cC (cG S.g ls) (Sum.inr x)=some (.int g)/\bT K H' l vs'/\gQ S x=(vs'[g]?).getD .non):=fun s x hx=>by
   obtain⟨l,hl,rfl⟩:=F.inL hp (List.mem_append.mpr (.inl hx))
   exact⟨A.ea l.name,_,S.g l.name,oJ F.whole.nod hl,pO F.whole.nod hl,bT.of (s _ _ (W.lists l hl)),by unfold gQ;rw [List.getElem?_map]⟩
  have hz:sizeLine=16777216:=sizeLine_eq
  have hpl:(places p.kind (aV S p)).length<=3:=places_len hO
  refine⟨_,rfl,A.f,dx,fs,rfl,h1,h2.no _ (by decide +kernel),_,rfl,A,ls,ps,S,p,rfl,N,W,hp,fun H1 s1=>?_⟩
  by_cases hlk:eO p.kind p.ins (aV S p)≠.non
  ·have e:(!decide (eO p.kind p.ins (aV S p)=V.non))=true:=by simp [hlk]
   refine⟨_,rfl,?_⟩
   rw [e]
   exact ji (ji (kn (z8 hlk) H1 s1))
  have hlk:=Classical.not_not.mp hlk
  rw [hlk]
  have W1:=W.same s1
  refine⟨_,rfl,dI ⟨_,rfl,A.f,dx,fs,rfl,s1 _ _ h1,h2.no _ (by decide +kernel),_,rfl,?_⟩⟩
  have vd:=iQ (k:=fun x=>(S.d x:Int)) F.pnd hp
  cases he:sy S p with
  | true=>
   have h0:p.kind=0/\S.d p.name=(S.r p.name).length:=by unfold sy at he;simpa using he
   refine Tf W1.at' W1.rows W1.done (.inr ⟨_,_,S.d p.name,Am F.pnd hp h0.1,vd,bT.of (W1.rlst p hp h0.1),?_⟩)
   rw [decide_eq_true (by rw [lM];exact h0.2)]
   exact⟨_,rfl,ji (kn (Eh he) H1 s1)⟩
  | false=>
  obtain⟨lw,hB,hv,hw0⟩:=Qv F O hp hlk he
  have k':=k _ (show bW S p=some _ by unfold bW;rw [if_neg (by simp [hlk]),if_neg (by simp [he])])
  have hwl:=zE (show p.kind<=10 by have:=ok.1;omega) p.nums (sJ S p) (S.k p.name)
  have hw2:=vX p.kind p.nums (sJ S p) (S.k p.name)
  have pick:∀(Q':VK) (E':XK),Q' (.bl false) H1->eE K t [.ref A.f,.str p.name] H1 Q' E':=by
   intro Q' E' z
   refine Tf W1.at' W1.rows W1.done ?_
   by_cases h0:p.kind=0
   ·refine .inr ⟨_,_,S.d p.name,Am F.pnd hp h0,vd,bT.of (W1.rlst p hp h0),?_⟩
    obtain⟨w,ew,_⟩:=hw0 h0
    have:=(List.getElem?_eq_some_iff.mp ew).1
    rw [decide_eq_false (by rw [lM];omega)]
    exact z
   ·exact .inl ⟨J9 F.pnd hp h0,z⟩
  refine pick _ _ ?_
  clear pick
  refine⟨_,rfl,dI ?_⟩
  have Wn1:=Wn.same s1
  refine⟨_,rfl,A.f,_,dx,fs,_,rfl,s1 _ _ h1,T.aX.c,T.aX.na.1,h2.has ("net",.ref A.n) (by simp),A.n,dxn,fsn,rfl,Wn1.obj,Wn1.fl.no _ (by decide +kernel),_,rfl,A.n,ls,ps,p.name,rfl,Wn1.s,.inl ⟨p,hp,rfl,fun H2 q s2' hP=>?_⟩⟩
  have s2:=s1.trans s2'
  have W2:=W.same s2
  obtain⟨dxp,tn,ti,to,p1,p2,p3,p4⟩:=id hP.ex
  clear s2' W1 Wn1
  refine⟨_,rfl,A.f,dx,fs,rfl,s2 _ _ h1,h2.no _ (by decide +kernel),_,rfl,A.f,A.n,A.E,A.G,A.Kp,A.D,A.Rw,q,_,_,p.kind,_,_,_,p.ins,gQ S,rfl,W2.at',W2.ever,W2.gone,hP,(by have:=yo p.kind;omega),hh1 s2,fun d hd=>?_⟩
  have s3':=aB (o:=.lst (aV S p)) hd
  have ed3:(upd H2 d (.lst (p.ins.map (gQ S)))) d=some (.lst (aV S p)):=au
  change aM H2 (upd H2 d (.lst (p.ins.map (gQ S)))) at s3'
  generalize upd H2 d (.lst (p.ins.map (gQ S)))=H3 at s3' ed3 ⊢
  have s3:=s2.trans s3'
  refine⟨_,rfl,q,cls t p.kind,dxp,_,my K t p.kind,rfl,s3' _ _ p1,tY _ _ _ _ (by decide +kernel) (by decide +kernel) (by decide +kernel) (by decide +kernel),Ej T p.kind,_,rfl,q,d,_,_,_,_,aV S p,rfl,hP.same s3',by rw [lM];exact hI,bT.of ed3,hO,fun H4 L s4' nL eL=>?_⟩
  have s24:=s3'.trans s4'
  have s4:=s3.trans s4'
  have ed4:=s4' _ _ ed3
  refine⟨_,rfl,L,rfl,⟨_,bT.of eL⟩,iZ (K:=K) (a:=L) (xs:=(places p.kind (aV S p)).map nV) (fun j ys H'=>H'=H4/\ys=((places p.kind (aV S p)).take j).map (fun q=>((aV S p)[q]?).getD .non)) (by rw [lM];omega) ⟨rfl,rfl⟩ (fun j ys H' ⟨_,e⟩=>by rw [e,lM,List.length_take];omega) (fun j ys H' _ ⟨e,_⟩=>by rw [e];exact bT.of eL) ?_ ?_⟩
  ·rintro j v ys H' hv' ⟨e',rfl⟩
   subst e'
   rw [List.getElem?_map] at hv'
   obtain⟨r,hr',rfl⟩:=Option.map_eq_some_iff.mp hv'
   have hql:r <(aV S p).length:=iJ hO r (List.mem_of_getElem? hr')
   refine yes ⟨_,rfl,_,rfl,d,aV S p,r,_,rfl,rfl,bT.of ed4,aN (j:=r) (List.getElem?_eq_getElem hql),rfl,?_⟩
   rw [List.take_succ,hr',Option.toList_some,List.map_append,List.map_cons,List.map_nil,List.getElem?_eq_getElem hql]
   rfl
  rintro ys H' ⟨e',rfl⟩ V1 hV1
  subst e'
  rw [lM,List.take_length]
  have s5':=aB (o:=.lst ((places p.kind (aV S p)).map fun q=>((aV S p)[q]?).getD .non)) hV1
  have eV:(upd H' V1 (.lst ((places p.kind (aV S p)).map fun q=>((aV S p)[q]?).getD .non))) V1=some (.lst ((places p.kind (aV S p)).map fun q=>((aV S p)[q]?).getD .non)):=au
  generalize upd H' V1 (.lst ((places p.kind (aV S p)).map fun q=>((aV S p)[q]?).getD .non))=H5 at s5' eV ⊢
  have s25:=s24.trans s5'
  have s5:=s4.trans s5'
  have W5:=W.same s5
  refine⟨fun σ' H6=>∃V2,aM H H6/\aM H2 H6/\aM H' H6/\σ'=[some (.ref A.f),some (.str p.name),some (.ref q),some (.ref d),some (.ref L),some (.ref V2),none,none]/\H6 V2=some (.lst ((sJ S p).map V.int)),?_,?_⟩
  ·refine⟨_,rfl,_,rfl,A.f,_,dx,fs,_,rfl,s5 _ _ h1,T.aX.c,T.aX.na.2.2.2.2.2.1,h2.has ("rows",.ref A.Rw) (by simp),A.Rw,_,rfl,dZ.k (k:=Sum.inr p.name) W5.rows,?_⟩
   by_cases h0:p.kind=0
   ·obtain⟨w,ew,eW⟩:=hw0 h0
    have v1:=Am (ra:=A.ra) F.pnd hp h0
    rw [v1,eW]
    refine⟨_,rfl,ji ?_⟩
    refine⟨_,rfl,A.f,_,dx,fs,_,rfl,s5 _ _ h1,T.aX.c,T.aX.na.2.2.2.2.2.1,h2.has ("rows",.ref A.Rw) (by simp),_,rfl,A.Rw,_,rfl,(by rw [<-v1];exact dZ.k (k:=Sum.inr p.name) W5.rows),?_⟩
    refine⟨_,rfl,A.f,_,dx,fs,_,rfl,s5 _ _ h1,T.aX.c,T.aX.na.2.2.2.2.1,h2.has ("done",.ref A.D) (by simp),_,rfl,A.D,_,rfl,(by rw [<-vd];exact dZ.k (k:=Sum.inr p.name) W5.done),?_⟩
    refine⟨A.ra p.name,_,S.d p.name,_,rfl,rfl,bT.of (W5.rlst p hp h0),aN (j:=S.d p.name) (by rw [List.getElem?_map,ew];rfl),il,fun V2 hV2=>?_⟩
    exact⟨V2,s5.trans (aB hV2),s25.trans (aB hV2),s5'.trans (aB hV2),rfl,au⟩
   ·rw [J9 F.pnd hp h0]
    exact⟨_,rfl,dI ⟨V1,s5,s25,s5',rfl,by rw [<-hv h0];exact eV⟩⟩
  rintro σ' H6 ⟨V2,s6,s26,s46,rfl,eV2⟩
  clear W5 W2 s25 s24 s5 s5' s4 s3 s3' eV ed4 ed3
  have W6:=W.same s6
  have hkp:=iQ (k:=S.k) F.pnd hp
  refine⟨_,rfl,q,cls t p.kind,dxp,_,d9 K t p.kind,rfl,s26 _ _ p1,tY _ _ _ _ (by decide +kernel) (by decide +kernel) (by decide +kernel) (by decide +kernel),My T ok.1,_,rfl,_,rfl,A.f,_,dx,fs,_,rfl,s6 _ _ h1,T.aX.c,T.aX.na.2.2.2.1,h2.has ("kept",.ref A.Kp) (by simp),_,rfl,A.Kp,_,rfl,(by rw [<-hkp];exact dZ.k (k:=Sum.inr p.name) W6.kept),?_⟩
  refine⟨q,V2,_,p.nums,_,_,sJ S p,S.k p.name,rfl,hP.same s26,ok.2.1,bT.of eV2,lw,hB,fun H7 U0 L0 rs s7 nL0 eU0 eL0 tU=>?_⟩
  have s57:=s6.trans s7
  have s27:=s26.trans s7
  have eL7:=s7 _ _ (s46 _ _ eL)
  have hlr:rs.length=(cD p.kind p.nums (sJ S p) (S.k p.name)).length:=by have:=Paired.length tU;unfold uJ at this;rw [lM] at this;exact this
  clear W6
  refine⟨_,rfl,U0,_,0,_,rfl,rfl,fY.of eU0,aN (j:=0) rfl,L0,rfl,⟨_,bT.of eL0⟩,?_⟩
  refine zZ (K:=K) (a:=L0) (xs:=rs.map V.ref) (fun j ys H8=>aM H7 H8/\∃qs:List Addr,ys=qs.map V.ref/\cL H8 qs (((cD p.kind p.nums (sJ S p) (S.k p.name)).take j).map fun pv=>[.str (strAt p.outs pv.1.toNat),.int pv.2])) (by rw [lM];omega) ⟨aM.refl _,[],rfl,.nil⟩ ?_ (fun j ys H8 _ ⟨e,_⟩=>e.seq (bT.of eL0)) ?_ ?_
  ·rintro j ys H8 ⟨_,qs,rfl,tq⟩
   have:=Paired.length tq
   rw [lM,List.length_take] at this
   rw [lM]
   omega
  ·rintro j v ys H8 hj ⟨s8,qs,rfl,tq⟩
   rw [List.getElem?_map] at hj
   obtain⟨r,hr',rfl⟩:=Option.map_eq_some_iff.mp hj
   have hjl:j <(cD p.kind p.nums (sJ S p) (S.k p.name)).length:=by have:=(List.getElem?_eq_some_iff.mp hr').1;omega
   obtain⟨pv,hpv⟩:∃pv,(cD p.kind p.nums (sJ S p) (S.k p.name))[j]?=some pv:=⟨_,List.getElem?_eq_getElem hjl⟩
   have hr2:H7 r=some (.tup [.int pv.1,.int pv.2]):=by
    obtain⟨vs2,z1,z2⟩:=wz tU hr'
    unfold uJ at z1
    rw [List.getElem?_map,hpv] at z1
    cases z1
    exact z2
   obtain⟨o,ho1,ho2⟩:=hwl _ (List.mem_of_getElem? hpv)
   have ho3:o <p.outs.length:=by rw [ok.2.2.2.1];exact ho2
   have hn:strAt p.outs o=p.outs[o]:=by unfold strAt;rw [List.getElem?_eq_getElem ho3];rfl
   refine⟨r,_,rfl,fY.of (s8 _ _ hr2),rfl,_,_,rfl,_,_,rfl,rfl,rfl,?_⟩
   refine yes ⟨_,rfl,q,_,dxp,_,_,rfl,s8 _ _ (s27 _ _ p1),gZ T p.kind,Em T p.kind,Ed _ _ _ _,_,rfl,to,p.outs.map V.str,_,.str (strAt p.outs o),rfl,rfl,s8.seqT (s27.seqT p4),?_,_,rfl,il,fun u hu=>⟨s8.trans (aB hu),qs ++ [u],by simp,?_⟩⟩
   ·rw [ho1,hn]
    exact aN (j:=o) (by rw [List.getElem?_map,List.getElem?_eq_getElem ho3];rfl)
   ·rw [List.take_succ,hpv,Option.toList_some,List.map_append]
    refine(cL.same (aB hu) tq).append (.cons ?_ .nil)
    show upd H8 u _ u=some (HO.tup [V.str (strAt p.outs pv.1.toNat),V.int pv.2])
    rw [ho1,Int.toNat_natCast]
    exact au
  rintro ys H8 ⟨s8,qs,rfl,tq⟩ Lg hLg
  rw [lM,hlr,List.take_length] at tq
  have t9:=aB (o:=.lst (qs.map V.ref)) hLg
  have s9':=s8.trans t9
  have tq9:=cL.same t9 tq
  have eLg:(upd H8 Lg (.lst (qs.map V.ref))) Lg=some (.lst (qs.map V.ref)):=au
  generalize upd H8 Lg (.lst (qs.map V.ref))=H9 at t9 s9' tq9 eLg ⊢
  have s9:=s57.trans s9'
  have s29:=s27.trans s9'
  have eL9:=s9' _ _ eL7
  have eU9:=s9' _ _ eU0
  refine⟨_,rfl,L,rfl,⟨_,bT.of eL9⟩,iZ (K:=K) (a:=L) (xs:=(places p.kind (aV S p)).map nV) (fun j ys H'=>H'=H9/\ys=((places p.kind (aV S p)).take j).map (fun q=>V.str (strAt p.ins q))) (by rw [lM];omega) ⟨rfl,rfl⟩ (fun j ys H' ⟨_,e⟩=>by rw [e,lM,List.length_take];omega) (fun j ys H' _ ⟨e,_⟩=>by rw [e];exact bT.of eL9) ?_ ?_⟩
  ·rintro j v ys HX hv' ⟨e',rfl⟩
   subst e'
   rw [List.getElem?_map] at hv'
   obtain⟨r,hr',rfl⟩:=Option.map_eq_some_iff.mp hv'
   have hql:r <p.ins.length:=by have:=iJ hO r (List.mem_of_getElem? hr');unfold aV at this;rwa [lM] at this
   have hn:strAt p.ins r=p.ins[r]:=by unfold strAt;rw [List.getElem?_eq_getElem hql];rfl
   refine yes ⟨_,rfl,q,_,dxp,_,_,rfl,s29 _ _ p1,gZ T p.kind,xP T p.kind,tG _ _ _ _,_,rfl,ti,p.ins.map V.str,r,.str (strAt p.ins r),rfl,rfl,s29.seqT p3,by rw [hn];exact aN (j:=r) (by rw [List.getElem?_map,List.getElem?_eq_getElem hql];rfl),rfl,?_⟩
   rw [List.take_succ,hr',Option.toList_some,List.map_append]
   rfl
  rintro ys H10 ⟨e',rfl⟩ La hLa
  subst e'
  rw [lM,List.take_length]
  have s10':=aB (o:=.lst ((places p.kind (aV S p)).map fun q=>V.str (strAt p.ins q))) hLa
  refine⟨_,rfl,_,rfl,U0,_,1,_,rfl,rfl,fY.of (s10' _ _ eU9),aN (j:=1) rfl,il,fun U hU=>?_⟩
  refine k' _ U ((s9.trans s10').trans (aB hU)) ((s9.trans s10').free hU) ⟨La,Lg,qs,au,?_,aB hU _ _ (s10' _ _ eLg),?_,W.cell (s9.free hLa),W.cell ((s57.trans s8).free hLg)⟩
  ·rw [List.map_map]
   exact aB hU _ _ au
  ·rw [List.map_map]
   exact cL.same (s10'.trans (aB hU)) tq9
theorem Dv (g:Str->Nat) {ls:List aK} {x:Str} (hx:x∈ls.map (·.name)) (v:Nat):putK (cG g ls) (Sum.inr x) (.int (v:Nat))=cG (fun y=>if y=x then v else g y) ls:=by
 unfold putK
 rw [if_pos (by
  obtain⟨l,hl,rfl⟩:=List.mem_map.mp hx
  exact List.any_eq_true.mpr ⟨_,List.mem_map.mpr ⟨l,hl,rfl⟩,by simp⟩)]
 unfold cG
 rw [List.map_map]
 refine List.map_congr_left fun l _=>?_
 by_cases h:l.name=x
 ·simp [h]
 ·simp [h]
theorem tV (g:Str->Int) {ps:List PD} {x:Str} (hx:x∈ps.map (·.name)) (v:Int):putK (bJ g ps) (Sum.inr x) (.int v)=bJ (fun y=>if y=x then v else g y) ps:=by
 unfold putK
 rw [if_pos (by
  obtain⟨l,hl,rfl⟩:=List.mem_map.mp hx
  exact List.any_eq_true.mpr ⟨_,List.mem_map.mpr ⟨l,hl,rfl⟩,by simp⟩)]
 unfold bJ
 rw [List.map_map]
 refine List.map_congr_left fun l _=>?_
 by_cases h:l.name=x
 ·simp [h]
 ·simp [h]
noncomputable def jh (S:FS) (x:Str) (dd:jc):FS:=⟨fun y=>S.ev y ++ (dd.gv.filter fun q=>decide (q.1=y)).map (·.2),fun y=>if y∈dd.tk then S.g y+1 else S.g y,fun y=>if y=x then dd.kv else S.k y,fun y=>if y=x then S.d y+1 else S.d y,S.r⟩
noncomputable def Ht (M:List Addr) (H H':Hp):Prop:=∀b,b∉M->H' b=H b
structure Fd (ls:List aK) (dd:jc):Prop where
 ntk:dd.tk.Nodup
 tin:∀x∈dd.tk,x∈ls.map (·.name)
 gin:∀q∈dd.gv,q.1∈ls.map (·.name)
 g2:dd.gv.length<=2
inductive yL (K:PySem.W.Frag) (t:nj) (vs:List V) (H:Hp) (Q:VK):Prop where
 | mk:∀(b:Nat) (A:xg) (ls:List aK) (ps:List PD) (S:FS) (p:PD) (U:Addr) (dd:jc),vs=[.ref A.f,.str p.name,.ref U]->vh ls ps->jK K t H A ls ps S->p∈ps->((∀l∈ls,(S.ev l.name).length<=b))->b<=100000->pP (A.cells ls ps) H U dd->Fd ls dd->(∀H',Ht (A.cells ls ps) H H'->jK K t H' A ls ps (jh S p.name dd)->Q .non H')->yL K t vs H Q
@[irreducible] noncomputable def jY (K:PySem.W.Frag) (t:nj):Sp:=fun vs H Q _=>yL K t vs H Q
theorem Jf (T:Txt w K mg t):FO P w K mg base 1 t.xV ["self", "name", "deed"] (jY K t):=by
 have sc:=T.xG.sc ["self", "name", "deed", "lane", "value"]
 refine T.xG.F.ok sc (fun vs H Q E h=>?_) (fun cdv A outer s H vs Q E hr h=>?_)
 ·unfold jY at h
  obtain⟨b,A,ls,ps,S,p,U,dd,rfl,_⟩:=h
  rfl
 ·unfold jY at h
  obtain⟨b,A,ls,ps,S,p,U,dd,rfl,F,W,hp,O,hb,⟨La,Lg,rs,hU,hLa,hLg,hT,na,ng⟩,⟨ntk,hin,hout,hg2⟩,k⟩:=h
  refine⟨_,(az (eN PassesOwn.never rfl (cW (aU dw (pv 2) aq (fun _ _=>rfl))) (gN sc 3)
    (aA (J4 hr.u1 (bI (pv 0) rfl) (pv 3) aq Ko (fun _ _ _=>rfl))))
   (az (eN PassesOwn.never rfl (cW (aU dw (pv 2) aq (fun _ _=>rfl))) (zN rfl (eQ (gN sc 3) (eQ (gN sc 4) uo)))
    (aA (bM (Ft (bZ hr.u1 (bI (pv 0) rfl) (pv 3) (fun _ _=>rfl)) (aa (pv 4) ak aj)))))
   (az (fL hr.u1 (bI (pv 0) rfl) (pv 1) (aU dw (pv 2) aq (fun _ _=>rfl)) rfl)
   (aA (J4 hr.u1 (bI (pv 0) rfl) (pv 1) aq Ko (fun _ _ _=>rfl)))))),?_⟩
  have hl:sizeLine=16777216:=sizeLine_eq
  have l24:=F.l24
  have p16:=F.p16
  obtain⟨dx,fs,h1,h2⟩:=id W.at'.ex
  have hG:=W.gone
  have hn:=W.nod
  unfold xg.cells at hn na ng
  simp only [List.nodup_cons,List.mem_cons,List.mem_append,not_or] at hn na ng
  obtain⟨⟨nEG,nEK,nED,nER,nEE,nE2⟩,⟨nGK,nGD,nGR,nGE,nG2⟩,⟨nKD,nKR,nKE,nK2⟩,⟨nDR,nDE,nD2⟩,⟨nRE,nR2⟩,nA⟩:=hn
  obtain⟨nE1,nR1,nER1⟩:=List.nodup_append.mp nA
  refine⟨_,rfl,U,_,0,_,rfl,rfl,fY.of hU,aN (j:=0) rfl,La,rfl,⟨_,bT.of hLa⟩,fu (K:=K) (a:=La) (xs:=dd.tk.map V.str) (fun j σ H'=>H'=upd H A.G (.dK (cG (fun x=>if x∈dd.tk.take j then S.g x+1 else S.g x) ls))/\∃v3,σ=[some (.ref A.f),some (.str p.name),some (.ref U),v3,none]) ⟨?_,none,rfl⟩ ?_ ?_ ?_⟩
  ·have:cG (fun x=>if x∈dd.tk.take 0 then S.g x+1 else S.g x) ls=cG S.g ls:=by simp
   rw [this,Fo hG]
  ·rintro j σ H' _ ⟨rfl,_⟩
   exact bT.of (jD hG hLa (by intro _ z;cases z))
  ·rintro j x σ H' hx ⟨rfl,v3,rfl⟩
   rw [List.getElem?_map] at hx
   obtain⟨y,hy,rfl⟩:=Option.map_eq_some_iff.mp hx
   have hym:=hin y (List.mem_of_getElem? hy)
   have nin:y∉dd.tk.take j:=by
    have:=p7 (f:=id) (xs:=dd.tk) (by rw [List.map_id];exact ntk) hy
    rwa [List.map_id] at this
   have vg:cC (cG (fun x=>if x∈dd.tk.take j then S.g x+1 else S.g x) ls) (Sum.inr y)=some (.int ((S.g y:Nat):Int)):=by
    obtain⟨l,hl',rfl⟩:=List.mem_map.mp hym
    rw [pO F.whole.nod hl',if_neg nin]
   refine⟨_,rfl,A.f,_,dx,fs,_,rfl,jD hG h1 (by intro _ z;cases z),T.aX.c,T.aX.na.2.2.1,h2.has ("gone",.ref A.G) (by simp),_,rfl,A.G,.int ((S.g y:Nat):Int),rfl,(by rw [<-vg];exact dZ.k (k:=Sum.inr y) au),_,_,rfl,rfl,_,mj.k (k:=Sum.inr y) au (by unfold cG;rw [lM];omega),?_,_,rfl⟩
   rw [um]
   show upd H A.G (.dK (putK _ (Sum.inr y) (.int ((S.g y+1:Nat):Int))))=_
   rw [Dv _ hym (S.g y+1)]
   have:(fun z=>if z=y then S.g y+1 else if z∈dd.tk.take j then S.g z+1 else S.g z)=fun z=>if z∈dd.tk.take (j+1) then S.g z+1 else S.g z:=by
    funext z
    simp only [List.take_succ,hy,Option.toList_some,List.mem_append,List.mem_singleton]
    by_cases h3:z=y <;> by_cases h4:z∈dd.tk.take j <;> simp [h3,h4]
   rw [this]
  rintro σ H' ⟨rfl,v3,rfl⟩
  rw [lM,List.take_length]
  have m1:Ht [A.G] H (upd H A.G (.dK (cG (jh S p.name dd).g ls))):=fun b hb=>aG (by simpa using hb)
  have gG:upd H A.G (.dK (cG (jh S p.name dd).g ls)) A.G=some (.dK (cG (jh S p.name dd).g ls)):=au
  change ur _ _ _ _ (upd H A.G (.dK (cG (jh S p.name dd).g ls)))
  generalize upd H A.G (.dK (cG (jh S p.name dd).g ls))=H1 at m1 gG ⊢
  have g1:∀{b:Addr} {u:HO},H b=some u->(∀ks,u≠.dK ks)->H1 b=some u:=fun {b u} h hu=>by
   rw [m1 b (by rw [List.mem_singleton];rintro rfl;rw [hG] at h;exact hu _ (Option.some.inj h).symm)]
   exact h
  have hlr:rs.length=dd.gv.length:=by have:=Paired.length hT;rw [lM] at this;exact this
  have eE1:H1 A.E=some (.dK (qQ A.ea ls)):=by rw [m1 A.E (by simpa using nEG)];exact W.ever
  have lists1:∀l∈ls,H1 (A.ea l.name)=some (.lst ((S.ev l.name).map V.int)):=fun l hl=>g1 (W.lists l hl) (by intro _ z;cases z)
  have nM:∀{b:Addr} {u:HO},H1 b=some u->(∀ks,u≠.lst ks)->b∉ls.map (fun l=>A.ea l.name):=fun {b u} h hu hm=>by
   obtain⟨l,hl,rfl⟩:=List.mem_map.mp hm
   rw [lists1 l hl] at h
   exact hu _ (Option.some.inj h).symm
  refine⟨_,rfl,U,_,1,_,rfl,rfl,fY.of (g1 hU (by intro _ z;cases z)),aN (j:=1) rfl,Lg,rfl,⟨_,bT.of (g1 hLg (by intro _ z;cases z))⟩,fu (K:=K) (a:=Lg) (xs:=rs.map V.ref) (fun j σ H'=>(Ht (ls.map (fun l=>A.ea l.name)) H1 H'/\∀l∈ls,H' (A.ea l.name)=some (.lst ((S.ev l.name ++ ((dd.gv.take j).filter fun q=>decide (q.1=l.name)).map (·.2)).map V.int)))/\∃v3 v4,σ=[some (.ref A.f),some (.str p.name),some (.ref U),v3,v4]) ⟨⟨fun _ _=>rfl,fun l hl=>?_⟩,v3,none,rfl⟩ ?_ ?_ ?_⟩
  ·rw [lists1 l hl]
   simp
  ·rintro j σ H' _ ⟨⟨m2,_⟩,_⟩
   exact bT.of (by rw [m2 Lg ng.2.2.2.2.2.1];exact g1 hLg (by intro _ z;cases z))
  ·rintro j x σ H' hx ⟨⟨m2,l2⟩,v3,v4,rfl⟩
   rw [List.getElem?_map] at hx
   obtain⟨r,hr',rfl⟩:=Option.map_eq_some_iff.mp hx
   obtain⟨vs2,z1,z2⟩:=wz hT hr'
   rw [List.getElem?_map] at z1
   obtain⟨w,ew,rfl⟩:=Option.map_eq_some_iff.mp z1
   have hj:=(List.getElem?_eq_some_iff.mp ew).1
   have er:=g1 z2 (by intro _ z;cases z)
   have er':H' r=some (.tup [.str w.1,.int w.2]):=by rw [m2 r (nM er (by intro _ z;cases z))];exact er
   have fe:H' A.f=some (.ins t.cj dx fs):=by
    have e1:=g1 h1 (by intro _ z;cases z)
    rw [m2 A.f (nM e1 (by intro _ z;cases z))]
    exact e1
   have ee:H' A.E=some (.dK (qQ A.ea ls)):=by rw [m2 A.E nEE];exact eE1
   obtain⟨l,hl',hln⟩:=List.mem_map.mp (hout w (List.mem_of_getElem? ew))
   have va:=oJ (ea:=A.ea) F.whole.nod hl'
   have ea:=l2 _ hl'
   rw [hln] at va
   refine⟨r,_,rfl,fY.of er',rfl,_,_,rfl,_,_,rfl,rfl,?_⟩
   refine⟨_,rfl,A.f,_,dx,fs,_,rfl,fe,T.aX.c,T.aX.na.2.1,h2.has ("ever",.ref A.E) (by simp),_,rfl,A.E,.ref (A.ea w.1),rfl,(by rw [<-va];exact dZ.k (k:=Sum.inr w.1) ee),.inl ⟨rfl,_,bT.of (by rw [<-hln];exact ea)⟩,?_⟩
   refine⟨_,rfl,A.ea w.1,_,.int w.2,rfl,rfl,by rw [<-hln];exact ea,?_,⟨fun b hb=>?_,fun l1 hl1=>?_⟩,some (.str w.1),some (.int w.2),rfl⟩
   ·have h3:=O l hl'
    have h4:=List.length_filter_le (fun q:Str×Int=>decide (q.1=l.name)) (dd.gv.take j)
    rw [List.length_take] at h4
    rw [lM,lP,lM]
    omega
   ·rw [aG (fun z=>hb (by rw [z,<-hln];exact List.mem_map.mpr ⟨l,hl',rfl⟩))]
    exact m2 b hb
   ·rw [List.take_succ,ew,Option.toList_some,List.filter_append,List.map_append]
    by_cases h:w.1=l1.name
    ·have e:l1=l:=by
      have a1:=find_name F.whole.nod hl1
      have a2:=find_name F.whole.nod hl'
      rw [<-h,<-hln,a2] at a1
      exact(Option.some.inj a1).symm
     subst e
     rw [<-hln,au]
     simp [h]
    ·have hne:A.ea l1.name≠A.ea w.1:=fun z=>by
      rw [<-hln] at z
      have:=qx nE1 hl1 hl' z
      exact h (by rw [this,hln])
     rw [aG hne,l2 l1 hl1]
     simp [h]
  rintro σ H2 ⟨⟨m2,l2⟩,v5,v6,rfl⟩
  rw [lM,hlr,List.take_length] at l2
  have fe:H2 A.f=some (.ins t.cj dx fs):=by
   have e1:=g1 h1 (by intro _ z;cases z)
   rw [m2 A.f (nM e1 (by intro _ z;cases z))]
   exact e1
  have uE:H2 U=some (.tup [.ref La,.ref Lg,.int dd.kv]):=by
   have e1:=g1 hU (by intro _ z;cases z)
   rw [m2 U (nM e1 (by intro _ z;cases z))]
   exact e1
  have kE:H2 A.Kp=some (.dK (bJ S.k ps)):=by rw [m2 A.Kp nKE,m1 A.Kp (by simpa using Ne.symm nGK)];exact W.kept
  have dE:H2 A.D=some (.dK (bJ (fun x=>(S.d x:Int)) ps)):=by rw [m2 A.D nDE,m1 A.D (by simpa using Ne.symm nGD)];exact W.done
  have lk:∀k1:Str->Int,(bJ k1 ps).length <sizeLine:=fun k1=>by unfold bJ;rw [lM];omega
  have hpn:p.name∈ps.map (·.name):=List.mem_map.mpr ⟨p,hp,rfl⟩
  refine⟨_,rfl,U,_,2,_,rfl,rfl,fY.of uE,aN (j:=2) rfl,_,rfl,A.f,_,dx,fs,_,rfl,fe,T.aX.c,T.aX.na.2.2.2.1,h2.has ("kept",.ref A.Kp) (by simp),_,rfl,A.Kp,_,rfl,mj.k (k:=Sum.inr p.name) kE (lk _),?_⟩
  rw [tV S.k hpn]
  have m3:Ht [A.Kp] H2 (upd H2 A.Kp (.dK (bJ (fun y=>if y=p.name then dd.kv else S.k y) ps))):=fun b hb=>aG (by simpa using hb)
  have kE3:upd H2 A.Kp (.dK (bJ (fun y=>if y=p.name then dd.kv else S.k y) ps)) A.Kp=some (.dK (bJ (fun y=>if y=p.name then dd.kv else S.k y) ps)):=au
  generalize upd H2 A.Kp (.dK (bJ (fun y=>if y=p.name then dd.kv else S.k y) ps))=H3 at m3 kE3 ⊢
  have fe3:H3 A.f=some (.ins t.cj dx fs):=by rw [m3 A.f (by simpa using uK fe kE (by intro z;cases z))];exact fe
  have dE3:H3 A.D=some (.dK (bJ (fun x=>(S.d x:Int)) ps)):=by rw [m3 A.D (by simpa using Ne.symm nKD)];exact dE
  have vd:=iQ (k:=fun x=>(S.d x:Int)) F.pnd hp
  refine⟨_,rfl,A.f,_,dx,fs,_,rfl,fe3,T.aX.c,T.aX.na.2.2.2.2.1,h2.has ("done",.ref A.D) (by simp),_,rfl,A.D,.int (S.d p.name:Int),rfl,(by rw [<-vd];exact dZ.k (k:=Sum.inr p.name) dE3),_,_,rfl,rfl,_,mj.k (k:=Sum.inr p.name) dE3 (lk _),?_⟩
  rw [tV (fun x=>(S.d x:Int)) hpn]
  have eD:(fun y=>if y=p.name then(S.d p.name:Int)+1 else(S.d y:Int))=fun x=>(((jh S p.name dd).d x:Nat):Int):=by
   funext y
   unfold jh
   by_cases h:y=p.name
   ·subst h;simp
   ·simp [h]
  change Q .non (upd H3 A.D (.dK (bJ (fun y=>if y=p.name then(S.d p.name:Int)+1 else(S.d y:Int)) ps)))
  rw [eD]
  have m4:Ht [A.D] H3 (upd H3 A.D (.dK (bJ (fun x=>(((jh S p.name dd).d x:Nat):Int)) ps))):=fun b hb=>aG (by simpa using hb)
  have dE4:upd H3 A.D (.dK (bJ (fun x=>(((jh S p.name dd).d x:Nat):Int)) ps)) A.D=some (.dK (bJ (fun x=>(((jh S p.name dd).d x:Nat):Int)) ps)):=au
  generalize upd H3 A.D (.dK (bJ (fun x=>(((jh S p.name dd).d x:Nat):Int)) ps))=H4 at m4 dE4 ⊢
  have mv:∀b,b≠A.D->b≠A.Kp->H4 b=H2 b:=fun b a1 a2=>by rw [m4 b (by simpa using a1),m3 b (by simpa using a2)]
  have fe4:H4 A.f=some (.ins t.cj dx fs):=by rw [m4 A.f (by simpa using uK fe3 dE3 (by intro z;cases z))];exact fe3
  refine k H4 (fun b hb=>?_) ⟨⟨dx,fs,fe4,h2⟩,?_,?_,?_,?_,dE4,?_,?_,W.nod⟩
  ·unfold xg.cells at hb
   simp only [List.mem_cons,List.mem_append,not_or] at hb
   rw [mv b hb.2.2.2.1 hb.2.2.1,m2 b hb.2.2.2.2.2.1,m1 b (by simpa using hb.2.1)]
  ·rw [mv A.E nED nEK,m2 A.E nEE,eE1]
  ·intro l hl
   have a2:=l2 l hl
   rw [mv _ (uK a2 dE (by intro z;cases z)) (uK a2 kE (by intro z;cases z))]
   exact a2
  ·rw [mv A.G nGD nGK,m2 A.G nGE,gG]
  ·rw [m4 A.Kp (by simpa using nKD)]
   exact kE3
  ·rw [mv A.Rw (Ne.symm nDR) (Ne.symm nKR),m2 A.Rw nRE,m1 A.Rw (by simpa using Ne.symm nGR)]
   exact W.rows
  ·intro p' hp' h0
   have hm:A.ra p'.name∈(pM ps).map (fun p=>A.ra p.name):=List.mem_map.mpr ⟨p',List.mem_filter.mpr ⟨hp',by simp [h0]⟩,rfl⟩
   rw [mv _ (fun z=>nD2 (by rw [<-z];exact hm)) (fun z=>nK2 (by rw [<-z];exact hm)),m2 _ (fun z=>nER1 _ z _ hm rfl),m1 _ (by simpa using fun z=>nG2 (by rw [<-z];exact hm))]
   exact W.rlst p' hp' h0
theorem O1 (T:Txt w K mg t) (i:Nat):MethAt P w K mg base Cm 1 (cls t i) "start" (sG K t i):=match i with
 | 0=>⟨_,_,_,T.ik.c,(T.bH.me T.ik.me.2.2.2.2.2.1),T.bH.b,(dJ T).imp fun _ _ _ _ h=>⟨_,by omega,h⟩⟩
 | 1=>⟨_,_,_,T.ig.c,(T.bH.me T.ig.me.2.2.2.2.2.1),T.bH.b,(dJ T).imp fun _ _ _ _ h=>⟨_,by omega,h⟩⟩
 | 2=>⟨_,_,_,T.iD.c,(T.bH.me T.iD.me.2.2.2.2.2.1),T.bH.b,(dJ T).imp fun _ _ _ _ h=>⟨_,by omega,h⟩⟩
 | 3=>⟨_,_,_,T.iB.c,(T.bH.me T.iB.me.2.2.2.2.2.1),T.bH.b,(dJ T).imp fun _ _ _ _ h=>⟨_,by omega,h⟩⟩
 | 4=>⟨_,_,_,T.iC.c,(T.bH.me T.iC.me.2.2.2.2.2.1),T.bH.b,(dJ T).imp fun _ _ _ _ h=>⟨_,by omega,h⟩⟩
 | 5=>⟨_,_,_,T.iu.c,(T.lW.me T.iu.me.2.2.2.2.2.1),T.lW.b,Ci T⟩
 | 6=>⟨_,_,_,T.lB.c,(T.bH.me T.lB.me.2.2.2.2.2.1),T.bH.b,(dJ T).imp fun _ _ _ _ h=>⟨_,by omega,h⟩⟩
 | 7=>⟨_,_,_,T.iz.c,(T.bH.me T.iz.me.2.2.2.2.2.1),T.bH.b,(dJ T).imp fun _ _ _ _ h=>⟨_,by omega,h⟩⟩
 | 8=>⟨_,_,_,T.fK.c,(T.bH.me T.fK.me.2.2.2.2.2.1),T.bH.b,(dJ T).imp fun _ _ _ _ h=>⟨_,by omega,h⟩⟩
 | 9=>⟨_,_,_,T.d8.c,(T.bH.me T.d8.me.2.2.2.2.2.1),T.bH.b,(dJ T).imp fun _ _ _ _ h=>⟨_,by omega,h⟩⟩
 | n+10=>⟨_,_,_,T.fO.c,(T.bH.me T.fO.me.2.2.2.2.2.1),T.bH.b,(dJ T).imp fun _ _ _ _ h=>⟨_,by omega,h⟩⟩
theorem Q6:∀i,i <11->dM i= "give" ->i=0:=by decide +kernel
theorem MT (p:PD) (h:m6 p):Fe p.kind (p.nums.map V.int)=.int (Eu p):=by
 unfold Fe Eu
 by_cases h5:p.kind=5
 ·rw [if_pos h5,if_pos h5]
  have hl:p.nums.length=1:=by rw [h.2.1,h5];rfl
  match p.nums,hl with
  | [m],_=>rfl
 ·rw [if_neg h5,if_neg h5]
noncomputable def K4 (ls:List aK) (x:Str):List Int:=((ls.find? fun l=>decide (l.name=x)).map (·.first)).getD []
theorem vA {ls:List aK} (nd:(ls.map (·.name)).Nodup) {l:aK} (hl:l∈ls):K4 ls l.name=l.first:=by
 unfold K4
 rw [find_name nd hl]
 rfl
noncomputable def cT (RW:List (Str×Addr×List Int)):List (Key×V):=RW.map fun q=>((Sum.inr q.1:Key),V.ref q.2.1)
noncomputable def lU (RW:List (Str×Addr×List Int)) (x:Str):List Int:=((RW.find? fun q=>decide (q.1=x)).map (·.2.2)).getD []
structure jf (H:Hp) (rw:Addr) (RW:List (Str×Addr×List Int)):Prop where
 dict:H rw=some (.dK (cT RW))
 lists:∀q∈RW,H q.2.1=some (.lst (q.2.2.map V.int))
 nd:(RW.map (·.1)).Nodup
 len:∀q∈RW,q.2.2.length<=300
theorem jf.same {H H':Hp} {rw:Addr} {RW:List (Str×Addr×List Int)} (h:jf H rw RW) (s:aM H H'):jf H' rw RW:=⟨s _ _ h.dict,fun q hq=>s _ _ (h.lists q hq),h.nd,h.len⟩
theorem jV (RW:List (Str×Addr×List Int)):(cT RW).map (·.1)=(RW.map (·.1)).map (fun x=>(Sum.inr x:Key)):=by unfold cT;rw [List.map_map,List.map_map];rfl
theorem jf.get {H:Hp} {rw:Addr} {RW:List (Str×Addr×List Int)} (h:jf H rw RW) (x:Str):(cC (cT RW) (Sum.inr x)=none/\lU RW x=[])∨∃a,cC (cT RW) (Sum.inr x)=some (.ref a)/\H a=some (.lst ((lU RW x).map V.int))/\(lU RW x).length<=300:=by
 by_cases hx:x∈RW.map (·.1)
 ·obtain⟨q,hq,rfl⟩:=List.mem_map.mp hx
  have e:lU RW q.1=q.2.2:=by unfold lU;rw [find_name (f:=fun q:Str×Addr×List Int=>q.1) h.nd hq];rfl
  refine .inr ⟨q.2.1,f9 (by rw [jV];exact dh h.nd) (List.mem_map.mpr ⟨q,hq,rfl⟩),?_,?_⟩
  ·rw [e];exact h.lists q hq
  ·rw [e];exact h.len q hq
 ·refine .inl ⟨ir (by rw [jV];intro z;obtain⟨b,hb,e⟩:=List.mem_map.mp z;cases e;exact hx hb),?_⟩
  unfold lU
  rw [List.find?_eq_none.mpr fun q hq=>by simpa using fun e=>hx (List.mem_map.mpr ⟨q,hq,e⟩)]
  rfl
noncomputable def d7 (ls:List aK) (ps:List PD) (RW:List (Str×Addr×List Int)):FS:=⟨K4 ls,fun _=>0,fC ps,fun _=>0,lU RW⟩
noncomputable def Io (RW:List (Str×Addr×List Int)) (RL:List (PD×Addr)):List (Addr×HO):=RL.map fun q=>(q.2,HO.lst ((lU RW q.1.name).map V.int))
theorem Qh {ps:List PD} (h:∀p∈ps,m6 p):(ps.filter fun p=>decide (dM p.kind= "give"))=pM ps:=by
 unfold pM
 refine List.filter_congr fun p hp=>?_
 by_cases h0:p.kind=0
 ·rw [h0];rfl
 ·have:¬dM p.kind= "give" :=fun z=>h0 (Q6 _ (h p hp).1 z)
  simp [h0,this]
noncomputable def Dq {α:Type} (f:α->Str) (L:List (α×Addr)) (x:Str):Addr:=((L.find? fun q=>decide (f q.1=x)).map (·.2)).getD 0
theorem pQ {α:Type} {f:α->Str} {L:List (α×Addr)} (nd:(L.map fun q=>f q.1).Nodup) {q:α×Addr} (hq:q∈L):Dq f L (f q.1)=q.2:=by
 unfold Dq
 rw [find_name (f:=fun q:α×Addr=>f q.1) nd hq]
 rfl
theorem Dj {α:Type} {f:α->Str} {L:List (α×Addr)} (nd:(L.map fun q=>f q.1).Nodup):(L.map (·.1)).map (fun a=>Dq f L (f a))=L.map (·.2):=by
 rw [List.map_map]
 exact List.map_congr_left fun q hq=>pQ nd hq
inductive oX (K:PySem.W.Frag) (t:nj) (vs:List V) (H:Hp) (Q:VK):Prop where
 | mk:∀(H0:Hp) (f dx n rw:Addr) (ls:List aK) (ps:List PD) (RW:List (Str×Addr×List Int)),vs=[.ref f,.ref n,.ref rw]->H f=some (.ins t.cj dx [])->aM H0 H->H0 f=none->nC K t H0 n ls ps->jf H0 rw RW->(∀H' A,A.f=f->A.n=n->lq f H H'->jK K t H' A ls ps (d7 ls ps RW)->(∀a∈A.cells ls ps,H a=none)->Q .non H')->oX K t vs H Q
@[irreducible] noncomputable def gf (K:PySem.W.Frag) (t:nj):Sp:=fun vs H Q _=>oX K t vs H Q
theorem xZ (T:Txt w K mg t):FO P w K mg base 4 t.lJ ["self", "net", "rows"] (gf K t):=by
 have sc:=T.jr.sc ["self", "net", "rows", "lane", "name", "door"]
 refine T.jr.F.ok sc (fun vs H Q E h=>?_) (fun cdv A outer s H vs Q E hr h=>?_)
 ·unfold gf at h
  obtain⟨H0,f,dx,n,rw,ls,ps,RW,rfl,_⟩:=h
  rfl
 ·unfold gf at h
  obtain⟨H0,f,dx,n,rw,ls,ps,RW,rfl,hf,s0,nf0,N,hrw,k⟩:=h
  refine⟨_,(az (jw (pv 0) (pv 1) rfl)
   (az (jw (pv 0) gW rfl)
   (az (jw (pv 0) gW rfl)
   (az (eN PassesOwn.never rfl (cW (Tv (pv 1) T.bD T.bD.me.2.1 (oE T) T.iV hr)) (gN sc 3)
    (az (fL hr.u1 (bI (pv 0) rfl) (pv 3) (Ji (pv 1) T.bD T.bD.me.2.2.2.2.2.2.1 (zj T) T.m8 hr (aa (pv 3) ak aj)) rfl)
    (aA (fL hr.u1 (bI (pv 0) rfl) (pv 3) aq rfl))))
   (az (jw (pv 0) gW rfl)
   (az (jw (pv 0) gW rfl)
   (az (eN PassesOwn.never rfl (cW (Tv (pv 1) T.bD T.bD.me.2.2.1 (jJ T) T.fZ hr)) (gN sc 4)
    (az (fL hr.u1 (bI (pv 0) rfl) (pv 4) (Ek (CX:=Cm) (k:=1) (E:=E0) (Ji (pv 1) T.bD T.bD.me.2.2.2.2.2.2.2.1 (mJ T) T.jl hr (aa (pv 4) ak aj)) (hr.mono (by decide)) jd) rfl)
    (aA (fL hr.u1 (bI (pv 0) rfl) (pv 4) aq rfl))))
   (az (jw (pv 0) gW rfl)
   (aA (eN PassesOwn.never rfl (cW (Tv (pv 1) T.bD T.bD.me.2.2.2.2.1 (wB T) T.n6 hr)) (gN sc 5)
    (aA (fL hr.u1 (bI (pv 0) rfl) (pv 5) (cB qN (by rfl) T.mX jL (aa (Qq hr.u1 (pv 2) (pv 5) (bu ak) ⟨rfl,rfl,rfl,rfl⟩) ak aW)) rfl)))))))))))),?_⟩
  obtain⟨dxn,fsn,R,F,Pd,Gn,Tk,FL,PL,W⟩:=id N
  have hl:sizeLine=16777216:=sizeLine_eq
  have l24:=W.fit.l24
  have p16:=W.fit.p16
  have sk:∀{Hk:Hp},lq f H Hk->aM H0 Hk:=fun b x o e=>b x o (aF e nf0) (s0 x o e)
  have T0:=Tr.start hf
  refine⟨_,rfl,_,rfl,f,_,dx,[],rfl,hf,T.aX.c,T.aX.na.1,by show 0 <1000;decide,?_⟩
  have T1:=T0.put (L1:=[]) (L2:=[]) (o':=.ins t.cj dx (aJ "net" (.ref n) []))
  generalize upd H f (.ins t.cj dx (aJ "net" (.ref n) []))=H1 at T1 ⊢
  refine fun E nE=>?_
  have T2:=T1.new (o:=.dK []) nE
  generalize upd H1 E (.dK [])=H2 at T2 ⊢
  refine⟨_,rfl,f,_,dx,_,rfl,T2.all (f,_) (.head _),T.aX.c,T.aX.na.2.1,Nat.lt_of_le_of_lt (ju (Nat.zero_le 0)) (by decide),?_⟩
  have T3:=T2.put (L1:=[]) (o':=.ins t.cj dx (aJ "ever" (.ref E) (aJ "net" (.ref n) [])))
  generalize upd H2 f (.ins t.cj dx (aJ "ever" (.ref E) (aJ "net" (.ref n) [])))=H3 at T3 ⊢
  refine fun G nG=>?_
  have T4:=T3.new (o:=.dK []) nG
  generalize upd H3 G (.dK [])=H4 at T4 ⊢
  refine⟨_,rfl,f,_,dx,_,rfl,T4.all (f,_) (.head _),T.aX.c,T.aX.na.2.2.1,Nat.lt_of_le_of_lt (ju (ju (Nat.zero_le 0))) (by decide),?_⟩
  have T5:=T4.put (L1:=[]) (o':=.ins t.cj dx (aJ "gone" (.ref G) (aJ "ever" (.ref E) (aJ "net" (.ref n) []))))
  generalize upd H4 f (.ins t.cj dx (aJ "gone" (.ref G) (aJ "ever" (.ref E) (aJ "net" (.ref n) []))))=H5 at T5 ⊢
  have W5:=W.same (sk T5.but)
  refine⟨_,rfl,n,dxn,fsn,rfl,W5.obj,W5.fl.no _ (by decide +kernel),n,ls,ps,rfl,W5.s,fun l nl=>?_⟩
  have T6:Tr H f ((f,.ins t.cj dx (aJ "gone" (.ref G) (aJ "ever" (.ref E) (aJ "net" (.ref n) [])))):: (E,.dK (bN [])):: (G,.dK (cG (fun _=>0) [])):: (l,.lst (ls.map fun x:aK=>V.str x.name)):: jT []) (upd H5 l (.lst (ls.map fun x:aK=>V.str x.name))):=T5.new nl
  generalize upd H5 l (.lst (ls.map fun x:aK=>V.str x.name))=H6 at T6 ⊢
  clear T0 T1 T2 T3 T4 T5 W5
  refine⟨l,rfl,⟨_,bT.of (T6.all (l,.lst (ls.map fun x:aK=>V.str x.name)) (by simp))⟩,fu (K:=K) (a:=l) (xs:=ls.map fun x:aK=>V.str x.name) (fun j σ H'=>(∃v3,σ=[some (.ref f),some (.ref n),some (.ref rw),v3,none,none])/\∃EL:List (aK×Addr),EL.map (·.1)=ls.take j/\Tr H f ((f,.ins t.cj dx (aJ "gone" (.ref G) (aJ "ever" (.ref E) (aJ "net" (.ref n) [])))):: (E,.dK (bN EL)):: (G,.dK (cG (fun _=>0) (ls.take j))):: (l,.lst (ls.map fun x:aK=>V.str x.name)):: jT EL) H') ⟨⟨none,rfl⟩,[],rfl,T6⟩ (fun j σ H' _ ⟨_,_,_,T'⟩=>bT.of (T'.all (l,.lst (ls.map fun x:aK=>V.str x.name)) (by simp))) ?_ ?_⟩
  ·rintro j x σ H' hx ⟨⟨v3,rfl⟩,EL,eEL,T7⟩
   rw [List.getElem?_map] at hx
   obtain⟨ln,hlj,rfl⟩:=Option.map_eq_some_iff.mp hx
   have hm:=List.mem_of_getElem? hlj
   have hj:=(List.getElem?_eq_some_iff.mp hlj).1
   have nin:=p7 W.fit.whole.nod hlj
   have vE:cC (bN EL) (Sum.inr ln.name)=none:=ir (by rw [qL,eEL];intro z;obtain⟨b,hb,e⟩:=List.mem_map.mp z;cases e;exact nin hb)
   have vG:cC (cG (fun _=>0) (ls.take j)) (Sum.inr ln.name)=none:=ir (by rw [u0];intro z;obtain⟨b,hb,e⟩:=List.mem_map.mp z;cases e;exact nin hb)
   have tk:ls.take (j+1)=ls.take j ++ [ln]:=by rw [List.take_succ,hlj];rfl
   have lEL:EL.length<=24:=by have:=congrArg List.length eEL;rw [lM,List.length_take] at this;omega
   have W7:=W.same (sk T7.but)
   refine⟨_,rfl,n,dxn,fsn,rfl,W7.obj,W7.fl.no _ (by decide +kernel),_,rfl,n,ls,ps,ln.name,rfl,W7.s,.inl ⟨ln,hm,rfl,fun H8 le s8 nle ele=>?_⟩⟩
   have T8:Tr H f ((f,.ins t.cj dx (aJ "gone" (.ref G) (aJ "ever" (.ref E) (aJ "net" (.ref n) [])))):: (E,.dK (bN EL)):: (G,.dK (cG (fun _=>0) (ls.take j))):: (l,.lst (ls.map fun x:aK=>V.str x.name)):: jT (EL ++ [(ln,le)])) H8:=by
    unfold jT
    rw [List.map_append]
    exact T7.got s8 nle ele
   refine⟨_,rfl,f,_,dx,_,_,rfl,T8.all (f,_) (.head _),T.aX.c,T.aX.na.2.1,(by (repeat first | (rw [aD,if_pos rfl];done) | rw [aD,if_neg (by decide +kernel)])),_,rfl,E,_,rfl,mj.k (k:=Sum.inr ln.name) (T8.all (E,.dK (bN EL)) (by simp)) (by unfold bN;rw [lM];omega),?_⟩
   have e8:putK (bN EL) (Sum.inr ln.name) (.ref le)=bN (EL ++ [(ln,le)]):=by rw [lD _ vE];unfold bN;rw [List.map_append];rfl
   rw [e8]
   have T9:=T8.put (L1:=[_]) (o':=.dK (bN (EL ++ [(ln,le)])))
   generalize upd H8 E (.dK (bN (EL ++ [(ln,le)])))=H9 at T9 ⊢
   refine⟨_,rfl,f,_,dx,_,_,rfl,T9.all (f,_) (.head _),T.aX.c,T.aX.na.2.2.1,(by (repeat first | (rw [aD,if_pos rfl];done) | rw [aD,if_neg (by decide +kernel)])),_,rfl,G,_,rfl,mj.k (k:=Sum.inr ln.name) (T9.all (G,.dK (cG (fun _=>0) (ls.take j))) (by simp)) (by unfold cG;rw [lM,List.length_take];omega),?_⟩
   have e9:putK (cG (fun _=>0) (ls.take j)) (Sum.inr ln.name) (.int 0)=cG (fun _=>0) (ls.take (j+1)):=by rw [lD _ vG,tk];unfold cG;rw [List.map_append];rfl
   rw [e9]
   have TA:=T9.put (L1:=[_,_]) (o':=.dK (cG (fun _=>0) (ls.take (j+1))))
   exact⟨⟨_,rfl⟩,EL ++ [(ln,le)],by rw [List.map_append,eEL,tk];rfl,TA⟩
  rintro σ H7 ⟨⟨v3,rfl⟩,EL,eEL,T7⟩
  rw [lM,List.take_length] at eEL T7
  have T7:Tr H f ((f,.ins t.cj dx (aJ "gone" (.ref G) (aJ "ever" (.ref E) (aJ "net" (.ref n) [])))):: (E,.dK (bN EL)):: (G,.dK (cG (fun _=>0) ls)):: jT EL) H7:=T7.sub (.cons₂ _ (.cons₂ _ (.cons₂ _ (.cons _ (List.Sublist.refl _))))) ⟨_,.head _⟩
  clear T6
  refine fun Kp nKp=>?_
  have T8:Tr H f ((f,.ins t.cj dx (aJ "gone" (.ref G) (aJ "ever" (.ref E) (aJ "net" (.ref n) [])))):: (E,.dK (bN EL)):: (G,.dK (cG (fun _=>0) ls)):: (Kp,.dK []):: jT EL) (upd H7 Kp (.dK [])):=(T7.new nKp).perm (.cons _ (.cons _ (.cons _ (List.perm_append_singleton _ _))))
  generalize upd H7 Kp (.dK [])=H8 at T8 ⊢
  refine⟨_,rfl,f,_,dx,_,rfl,T8.all (f,_) (.head _),T.aX.c,T.aX.na.2.2.2.1,Nat.lt_of_le_of_lt (ju (ju (ju (Nat.zero_le 0)))) (by decide),?_⟩
  have T9:=T8.put (L1:=[]) (o':=.ins t.cj dx (aJ "kept" (.ref Kp) (aJ "gone" (.ref G) (aJ "ever" (.ref E) (aJ "net" (.ref n) [])))))
  generalize upd H8 f (.ins t.cj dx (aJ "kept" (.ref Kp) (aJ "gone" (.ref G) (aJ "ever" (.ref E) (aJ "net" (.ref n) [])))))=H9 at T9 ⊢
  refine fun D nD=>?_
  have TA:Tr H f ((f,.ins t.cj dx (aJ "kept" (.ref Kp) (aJ "gone" (.ref G) (aJ "ever" (.ref E) (aJ "net" (.ref n) []))))):: (E,.dK (bN EL)):: (G,.dK (cG (fun _=>0) ls)):: (Kp,.dK []):: (D,.dK []):: jT EL) (upd H9 D (.dK [])):=(T9.new nD).perm (.cons _ (.cons _ (.cons _ (.cons _ (List.perm_append_singleton _ _)))))
  generalize upd H9 D (.dK [])=HA at TA ⊢
  refine⟨_,rfl,f,_,dx,_,rfl,TA.all (f,_) (.head _),T.aX.c,T.aX.na.2.2.2.2.1,Nat.lt_of_le_of_lt (ju (ju (ju (ju (Nat.zero_le 0))))) (by decide),?_⟩
  have TB:=TA.put (L1:=[]) (o':=.ins t.cj dx (aJ "done" (.ref D) (aJ "kept" (.ref Kp) (aJ "gone" (.ref G) (aJ "ever" (.ref E) (aJ "net" (.ref n) []))))))
  generalize upd HA f (.ins t.cj dx (aJ "done" (.ref D) (aJ "kept" (.ref Kp) (aJ "gone" (.ref G) (aJ "ever" (.ref E) (aJ "net" (.ref n) []))))))=HB at TB ⊢
  have WB:=W.same (sk TB.but)
  refine⟨_,rfl,n,dxn,fsn,rfl,WB.obj,WB.fl.no _ (by decide +kernel),n,ls,ps,rfl,WB.s,fun m nm=>?_⟩
  have TC:Tr H f ((f,.ins t.cj dx (aJ "done" (.ref D) (aJ "kept" (.ref Kp) (aJ "gone" (.ref G) (aJ "ever" (.ref E) (aJ "net" (.ref n) [])))))):: (E,.dK (bN EL)):: (G,.dK (cG (fun _=>0) ls)):: (Kp,.dK (bJ (fC ps) [])):: (D,.dK (bJ (fun _=>0) [])):: (m,.lst (ps.map fun x:PD=>V.str x.name)):: jT EL) (upd HB m (.lst (ps.map fun x:PD=>V.str x.name))):=(TB.new nm).perm (.cons _ (.cons _ (.cons _ (.cons _ (.cons _ (List.perm_append_singleton _ _))))))
  generalize upd HB m (.lst (ps.map fun x:PD=>V.str x.name))=HC at TC ⊢
  clear T7 T8 T9 TA TB WB
  refine⟨m,rfl,⟨_,bT.of (TC.all (m,.lst (ps.map fun x:PD=>V.str x.name)) (by simp))⟩,fu (K:=K) (a:=m) (xs:=ps.map fun x:PD=>V.str x.name) (fun j σ H'=>(∃v4,σ=[some (.ref f),some (.ref n),some (.ref rw),v3,v4,none])/\Tr H f ((f,.ins t.cj dx (aJ "done" (.ref D) (aJ "kept" (.ref Kp) (aJ "gone" (.ref G) (aJ "ever" (.ref E) (aJ "net" (.ref n) [])))))):: (E,.dK (bN EL)):: (G,.dK (cG (fun _=>0) ls)):: (Kp,.dK (bJ (fC ps) (ps.take j))):: (D,.dK (bJ (fun _=>0) (ps.take j))):: (m,.lst (ps.map fun x:PD=>V.str x.name)):: jT EL) H') ⟨⟨none,rfl⟩,TC⟩ (fun j σ H' _ ⟨_,T'⟩=>bT.of (T'.all (m,.lst (ps.map fun x:PD=>V.str x.name)) (by simp))) ?_ ?_⟩
  ·rintro j x σ H' hx ⟨⟨v4,rfl⟩,T7⟩
   rw [List.getElem?_map] at hx
   obtain⟨p,hpj,rfl⟩:=Option.map_eq_some_iff.mp hx
   have hm:=List.mem_of_getElem? hpj
   have hj:=(List.getElem?_eq_some_iff.mp hpj).1
   have nin:=p7 W.fit.pnd hpj
   have vK:∀k0:Str->Int,cC (bJ k0 (ps.take j)) (Sum.inr p.name)=none:=fun k0=>ir (by rw [qy];intro z;obtain⟨b,hb,e⟩:=List.mem_map.mp z;cases e;exact nin hb)
   have tk:ps.take (j+1)=ps.take j ++ [p]:=by rw [List.take_succ,hpj];rfl
   have so:fC ps p.name=Eu p:=by unfold fC Eu;rw [find_name W.fit.pnd hm];rfl
   have W7:=W.same (sk T7.but)
   refine⟨_,rfl,n,dxn,fsn,rfl,W7.obj,W7.fl.no _ (by decide +kernel),_,rfl,n,ls,ps,p.name,rfl,W7.s,.inl ⟨p,hm,rfl,fun H8 q s8 P8=>?_⟩⟩
   have T8:=T7.same s8
   obtain⟨dxp,tn,ti,to,p1,p2,p3,p4⟩:=id P8.ex
   refine⟨q,cls t p.kind,dxp,_,sG K t p.kind,rfl,p1,tY _ _ _ _ (by decide +kernel) (by decide +kernel) (by decide +kernel) (by decide +kernel),O1 T p.kind,q,_,_,_,_,rfl,P8,by rw [lM];exact(W.fit.pok p hm).2.1,?_⟩
   rw [MT p (W.fit.pok p hm),<-so]
   refine⟨_,rfl,f,_,dx,_,_,rfl,T8.all (f,_) (.head _),T.aX.c,T.aX.na.2.2.2.1,(by (repeat first | (rw [aD,if_pos rfl];done) | rw [aD,if_neg (by decide +kernel)])),_,rfl,Kp,_,rfl,mj.k (k:=Sum.inr p.name) (T8.all (Kp,.dK (bJ (fC ps) (ps.take j))) (by simp)) (by unfold bJ;rw [lM,List.length_take];omega),?_⟩
   have e8:∀k0:Str->Int,putK (bJ k0 (ps.take j)) (Sum.inr p.name) (.int (k0 p.name))=bJ k0 (ps.take (j+1)):=fun k0=>by rw [lD _ (vK k0),tk];unfold bJ;rw [List.map_append];rfl
   rw [e8]
   have T9:=T8.put (L1:=[_,_,_]) (o':=.dK (bJ (fC ps) (ps.take (j+1))))
   generalize upd H8 Kp (.dK (bJ (fC ps) (ps.take (j+1))))=H9 at T9 ⊢
   refine⟨_,rfl,f,_,dx,_,_,rfl,T9.all (f,_) (.head _),T.aX.c,T.aX.na.2.2.2.2.1,(by (repeat first | (rw [aD,if_pos rfl];done) | rw [aD,if_neg (by decide +kernel)])),_,rfl,D,_,rfl,mj.k (k:=Sum.inr p.name) (T9.all (D,.dK (bJ (fun _=>0) (ps.take j))) (by simp)) (by unfold bJ;rw [lM,List.length_take];omega),?_⟩
   rw [e8 fun _=>0]
   exact⟨⟨_,rfl⟩,T9.put (L1:=[_,_,_,_])⟩
  rintro σ HD ⟨⟨v4,rfl⟩,TD⟩
  rw [lM,List.take_length] at TD
  have TD:Tr H f ((f,.ins t.cj dx (aJ "done" (.ref D) (aJ "kept" (.ref Kp) (aJ "gone" (.ref G) (aJ "ever" (.ref E) (aJ "net" (.ref n) [])))))):: (E,.dK (bN EL)):: (G,.dK (cG (fun _=>0) ls)):: (Kp,.dK (bJ (fC ps) ps)):: (D,.dK (bJ (fun _=>0) ps)):: jT EL) HD:=TD.sub (.cons₂ _ (.cons₂ _ (.cons₂ _ (.cons₂ _ (.cons₂ _ (.cons _ (List.Sublist.refl _))))))) ⟨_,.head _⟩
  clear TC
  refine fun Rw nRw=>?_
  have TE:Tr H f ((f,.ins t.cj dx (aJ "done" (.ref D) (aJ "kept" (.ref Kp) (aJ "gone" (.ref G) (aJ "ever" (.ref E) (aJ "net" (.ref n) [])))))):: (E,.dK (bN EL)):: (G,.dK (cG (fun _=>0) ls)):: (Kp,.dK (bJ (fC ps) ps)):: (D,.dK (bJ (fun _=>0) ps)):: (Rw,.dK []):: jT EL) (upd HD Rw (.dK [])):=(TD.new nRw).perm (.cons _ (.cons _ (.cons _ (.cons _ (.cons _ (List.perm_append_singleton _ _))))))
  generalize upd HD Rw (.dK [])=HE at TE ⊢
  refine⟨_,rfl,f,_,dx,_,rfl,TE.all (f,_) (.head _),T.aX.c,T.aX.na.2.2.2.2.2.1,Nat.lt_of_le_of_lt (ju (ju (ju (ju (ju (Nat.zero_le 0)))))) (by decide),?_⟩
  have TF:=TE.put (L1:=[]) (o':=.ins t.cj dx (aJ "rows" (.ref Rw) (aJ "done" (.ref D) (aJ "kept" (.ref Kp) (aJ "gone" (.ref G) (aJ "ever" (.ref E) (aJ "net" (.ref n) [])))))))
  generalize upd HE f (.ins t.cj dx (aJ "rows" (.ref Rw) (aJ "done" (.ref D) (aJ "kept" (.ref Kp) (aJ "gone" (.ref G) (aJ "ever" (.ref E) (aJ "net" (.ref n) [])))))))=HF at TF ⊢
  have WF:=W.same (sk TF.but)
  refine⟨_,rfl,n,dxn,fsn,rfl,WF.obj,WF.fl.no _ (by decide +kernel),n,ls,ps,rfl,WF.s,fun d nd=>?_⟩
  have TG:Tr H f ((f,.ins t.cj dx (aJ "rows" (.ref Rw) (aJ "done" (.ref D) (aJ "kept" (.ref Kp) (aJ "gone" (.ref G) (aJ "ever" (.ref E) (aJ "net" (.ref n) []))))))):: (E,.dK (bN EL)):: (G,.dK (cG (fun _=>0) ls)):: (Kp,.dK (bJ (fC ps) ps)):: (D,.dK (bJ (fun _=>0) ps)):: (Rw,.dK []):: (d,.lst (lC ps "give")):: jT EL) (upd HF d (.lst (lC ps "give"))):=(TF.new nd).perm (.cons _ (.cons _ (.cons _ (.cons _ (.cons _ (.cons _ (List.perm_append_singleton _ _)))))))
  generalize upd HF d (.lst (lC ps "give"))=HG at TG ⊢
  clear TD TE TF WF
  have lgv:=GX ps "give"
  have ndg:((ps.filter fun p=>decide (dM p.kind= "give")).map (·.name)).Nodup:=W.fit.pnd.sublist ((List.filter_sublist).map _)
  rw [Qh W.fit.pok] at ndg
  have ePg:lC ps "give" =(pM ps).map fun p=>V.str p.name:=by unfold lC;rw [Qh W.fit.pok]
  rw [ePg] at TG
  have lgP:(pM ps).length<=16:=by have:=List.length_filter_le (fun p:PD=>decide (p.kind=0)) ps;unfold pM;omega
  have TG:Tr H f ((f,.ins t.cj dx (aJ "rows" (.ref Rw) (aJ "done" (.ref D) (aJ "kept" (.ref Kp) (aJ "gone" (.ref G) (aJ "ever" (.ref E) (aJ "net" (.ref n) []))))))):: (E,.dK (bN EL)):: (G,.dK (cG (fun _=>0) ls)):: (Kp,.dK (bJ (fC ps) ps)):: (D,.dK (bJ (fun _=>0) ps)):: (Rw,.dK []):: (d,.lst ((pM ps).map fun p=>V.str p.name)):: (jT EL ++ Io RW [])) HG:=by
   unfold Io
   rw [List.map_nil,List.append_nil]
   exact TG
  refine⟨d,rfl,⟨_,bT.of (TG.all (d,.lst ((pM ps).map fun p=>V.str p.name)) (by simp))⟩,fu (K:=K) (a:=d) (xs:=(pM ps).map fun p=>V.str p.name) (fun j σ H'=>(∃v5,σ=[some (.ref f),some (.ref n),some (.ref rw),v3,v4,v5])/\∃RL:List (PD×Addr),RL.map (·.1)=(pM ps).take j/\Tr H f ((f,.ins t.cj dx (aJ "rows" (.ref Rw) (aJ "done" (.ref D) (aJ "kept" (.ref Kp) (aJ "gone" (.ref G) (aJ "ever" (.ref E) (aJ "net" (.ref n) []))))))):: (E,.dK (bN EL)):: (G,.dK (cG (fun _=>0) ls)):: (Kp,.dK (bJ (fC ps) ps)):: (D,.dK (bJ (fun _=>0) ps)):: (Rw,.dK (RL.map fun q=>((Sum.inr q.1.name:Key),V.ref q.2))):: (d,.lst ((pM ps).map fun p=>V.str p.name)):: (jT EL ++ Io RW RL)) H') ⟨⟨none,rfl⟩,[],rfl,TG⟩ (fun j σ H' _ ⟨_,_,_,T7⟩=>bT.of (T7.all (d,.lst ((pM ps).map fun p=>V.str p.name)) (by simp))) ?_ ?_⟩
  ·rintro j x σ H' hx ⟨⟨v5,rfl⟩,RL,eRL,T7⟩
   rw [List.getElem?_map] at hx
   obtain⟨p,hpj,rfl⟩:=Option.map_eq_some_iff.mp hx
   have nin:=p7 ndg hpj
   have tk:(pM ps).take (j+1)=(pM ps).take j ++ [p]:=by rw [List.take_succ,hpj];rfl
   have vR:cC (RL.map fun q=>((Sum.inr q.1.name:Key),V.ref q.2)) (Sum.inr p.name)=none:=ir (by
    rw [List.map_map]
    intro z
    obtain⟨q,hq,e⟩:=List.mem_map.mp z
    have hm:q.1∈RL.map (·.1):=List.mem_map.mpr ⟨q,hq,rfl⟩
    rw [eRL] at hm
    exact nin (List.mem_map.mpr ⟨q.1,hm,by injection e⟩))
   have lRL:RL.length<=16:=by
    have:=congrArg List.length eRL
    rw [lM,List.length_take] at this
    omega
   have rw7:=hrw.same (sk T7.but)
   refine⟨_,rfl,rw,rfl,.inl ⟨_,.inl rw7.dict⟩,_,rfl,il,fun u nu=>?_⟩
   have tu:=aB (o:=.lst []) nu
   have xu:upd H' u (.lst []) u=some (.lst []):=au
   generalize upd H' u (.lst [])=H8 at tu xu ⊢
   have rw8:=rw7.same tu
   refine⟨_,dZ.k (k:=Sum.inr p.name) rw8.dict,?_⟩
   obtain⟨y,ey,hy⟩:∃y:Addr,(cC (cT RW) (Sum.inr p.name)).getD (V.ref u)=.ref y/\H8 y=some (.lst ((lU RW p.name).map V.int)):=by
    rcases rw8.get p.name with ⟨e1,e2⟩ | ⟨a,e1,e2,_⟩
    ·rw [e1,e2]
     exact⟨u,rfl,xu⟩
    ·rw [e1]
     exact⟨a,rfl,e2⟩
   refine⟨y,(lU RW p.name).map V.int,by rw [ey],.inl (bT.of hy),fun r nr=>?_⟩
   have T9:Tr H f ((f,.ins t.cj dx (aJ "rows" (.ref Rw) (aJ "done" (.ref D) (aJ "kept" (.ref Kp) (aJ "gone" (.ref G) (aJ "ever" (.ref E) (aJ "net" (.ref n) []))))))):: (E,.dK (bN EL)):: (G,.dK (cG (fun _=>0) ls)):: (Kp,.dK (bJ (fC ps) ps)):: (D,.dK (bJ (fun _=>0) ps)):: (Rw,.dK (RL.map fun q=>((Sum.inr q.1.name:Key),V.ref q.2))):: (d,.lst ((pM ps).map fun p=>V.str p.name)):: (jT EL ++ Io RW (RL ++ [(p,r)]))) (upd H8 r (.lst ((lU RW p.name).map V.int))):=by
    unfold Io
    rw [List.map_append,<-List.append_assoc]
    exact(T7.same tu).new nr
   generalize upd H8 r (.lst ((lU RW p.name).map V.int))=H9 at T9 ⊢
   refine⟨_,rfl,f,_,dx,_,_,rfl,T9.all (f,_) (.head _),T.aX.c,T.aX.na.2.2.2.2.2.1,(by (repeat first | (rw [aD,if_pos rfl];done) | rw [aD,if_neg (by decide +kernel)])),_,rfl,Rw,_,rfl,mj.k (k:=Sum.inr p.name) (T9.all (Rw,.dK (RL.map fun q=>((Sum.inr q.1.name:Key),V.ref q.2))) (by simp)) (by rw [lM];omega),?_⟩
   rw [lD _ vR]
   refine⟨⟨_,rfl⟩,RL ++ [(p,r)],by rw [List.map_append,eRL,tk];rfl,?_⟩
   rw [List.map_append]
   exact T9.put (L1:=[_,_,_,_,_])
  rintro σ HH ⟨⟨v5,rfl⟩,RL,eRL,TH⟩
  rw [lM,List.take_length] at eRL
  have eo:=TH.all (f,.ins t.cj dx (aJ "rows" (.ref Rw) (aJ "done" (.ref D) (aJ "kept" (.ref Kp) (aJ "gone" (.ref G) (aJ "ever" (.ref E) (aJ "net" (.ref n) []))))))) (.head _)
  have nod:=TH.nod
  have fre:=TH.fre
  have nE:(EL.map fun q=>q.1.name).Nodup:=by
   have:(EL.map (·.1)).map (·.name)=EL.map fun q=>q.1.name:=by rw [List.map_map];rfl
   rw [<-this,eEL]
   exact W.fit.whole.nod
  have nR:(RL.map fun q=>q.1.name).Nodup:=by
   have:(RL.map (·.1)).map (·.name)=RL.map fun q=>q.1.name:=by rw [List.map_map];rfl
   rw [<-this,eRL]
   exact ndg
  let A:xg:=⟨f,n,E,G,Kp,D,Rw,Dq (·.name) EL,Dq (·.name) RL⟩
  have mE:ls.map (fun l=>A.ea l.name)=EL.map (·.2):=by rw [<-eEL];exact Dj nE
  have mR:(pM ps).map (fun p=>A.ra p.name)=RL.map (·.2):=by rw [<-eRL];exact Dj nR
  have eC:A.cells ls ps=E:: G:: Kp:: D:: Rw:: (EL.map (·.2) ++ RL.map (·.2)):=by unfold xg.cells;rw [mE,mR]
  have e2:(jT EL ++ Io RW RL).map Prod.fst=EL.map (·.2) ++ RL.map (·.2):=by unfold jT Io;rw [List.map_append,List.map_map,List.map_map];rfl
  refine k HH A rfl rfl TH.but ⟨⟨dx,_,eo,⟨?_,?_⟩⟩,?_,fun l hl=>?_,TH.all (G,.dK (cG (fun _=>0) ls)) (by simp),TH.all (Kp,.dK (bJ (fC ps) ps)) (by simp),TH.all (D,.dK (bJ (fun _=>0) ps)) (by simp),?_,fun p hp h0=>?_,?_⟩ ?_
  ·intro q hq
   simp only [List.mem_cons,List.not_mem_nil,or_false] at hq
   rcases hq with rfl | rfl | rfl | rfl | rfl | rfl <;> (dsimp only;(repeat first | (rw [aD,if_pos rfl];done) | rw [aD,if_neg (by decide +kernel)]))
  ·intro m hm
   have hne:∀m∈(["holds", "held_now", "gone_by", "row_left", "head", "heads", "lacking", "row_ended", "deed", "do"]:List Str),∀g∈(["rows", "done", "kept", "gone", "ever", "net"]:List Str),¬m=g:=by decide +kernel
   have h:=hne m hm
   rw [aD,if_neg (h _ (by simp)),aD,if_neg (h _ (by simp)),aD,if_neg (h _ (by simp)),aD,if_neg (h _ (by simp)),aD,if_neg (h _ (by simp)),aD,if_neg (h _ (by simp))]
   rfl
  ·have:qQ A.ea ls=bN EL:=by
    unfold qQ bN
    rw [<-eEL,List.map_map]
    refine List.map_congr_left fun q hq=>?_
    show((Sum.inr q.1.name:Key),V.ref (A.ea q.1.name))=_
    rw [show A.ea q.1.name=q.2 from pQ nE hq]
   rw [this]
   exact TH.all (E,.dK (bN EL)) (by simp)
  ·rw [<-eEL] at hl
   obtain⟨q,hq,rfl⟩:=List.mem_map.mp hl
   rw [show A.ea q.1.name=q.2 from pQ nE hq]
   have hm:q.1∈ls:=by rw [<-eEL];exact List.mem_map.mpr ⟨q,hq,rfl⟩
   show HH q.2=some (.lst ((K4 ls q.1.name).map V.int))
   rw [vA W.fit.whole.nod hm]
   exact TH.all (q.2,.lst (q.1.first.map V.int)) (Du (List.mem_append.mpr (.inl (List.mem_map.mpr ⟨q,hq,rfl⟩))))
  ·have:IW A.ra ps=RL.map fun q=>((Sum.inr q.1.name:Key),V.ref q.2):=by
    unfold IW
    rw [<-eRL,List.map_map]
    refine List.map_congr_left fun q hq=>?_
    show((Sum.inr q.1.name:Key),V.ref (A.ra q.1.name))=_
    rw [show A.ra q.1.name=q.2 from pQ nR hq]
   rw [this]
   exact TH.all (Rw,.dK (RL.map fun q=>((Sum.inr q.1.name:Key),V.ref q.2))) (by simp)
  ·have hm:p∈RL.map (·.1):=by rw [eRL];exact List.mem_filter.mpr ⟨hp,by simp [h0]⟩
   obtain⟨q,hq,rfl⟩:=List.mem_map.mp hm
   rw [show A.ra q.1.name=q.2 from pQ nR hq]
   exact TH.all (q.2,.lst ((lU RW q.1.name).map V.int)) (Du (List.mem_append.mpr (.inr (List.mem_map.mpr ⟨q,hq,rfl⟩))))
  ·rw [eC,<-e2]
   exact nod.sublist (List.Sublist.cons _ (.cons₂ _ (.cons₂ _ (.cons₂ _ (.cons₂ _ (.cons₂ _ (.cons _ (List.Sublist.refl _))))))))
  ·intro a ha
   rw [eC,<-e2] at ha
   have h2:a∈(((E,.dK (bN EL)):: (G,.dK (cG (fun _=>0) ls)):: (Kp,.dK (bJ (fC ps) ps)):: (D,.dK (bJ (fun _=>0) ps)):: (Rw,.dK (RL.map fun q=>((Sum.inr q.1.name:Key),V.ref q.2))):: (d,.lst ((pM ps).map fun p=>V.str p.name)):: (jT EL ++ Io RW RL):List (Addr×HO))).map Prod.fst:=
    (List.Sublist.cons₂ E (.cons₂ G (.cons₂ Kp (.cons₂ D (.cons₂ Rw (.cons d (List.Sublist.refl _))))))).subset ha
   have hne:a≠f:=fun z=>by
    rw [List.map_cons,List.nodup_cons] at nod
    exact nod.1 (by rw [<-z];exact h2)
   obtain⟨q,hq,hqa⟩:=List.mem_map.mp h2
   have:=fre q (List.mem_cons_of_mem _ hq)
   rw [hqa] at this
   exact this.resolve_left hne
inductive DR (K:PySem.W.Frag) (vs:List V) (H:Hp) (Q:VK) (E:XK):Prop where
 | mk:∀(a:Addr) (ws:List Int),vs=[.ref a]->bT K H a (ws.map V.int)->ws.length<=300->((∀v∈ws,0<=v/\v <1000000000))->(∀H',aM H H'->Q (.bl true) H')->DR K vs H Q E
theorem Lq (T:Txt w K mg t):FO P w K mg base 3 t.HJ ["thing"] (DR K):=by
 have sc:=T.Ay.sc ["thing"]
 refine T.Ay.F.ok sc ln (fun _ _ _ _ H vs Q E hr h=>?_)
 obtain⟨a,ws,rfl,hS,hl,hB,k⟩:=h
 refine⟨_,(aA (aR (xX (bf mO (by rfl) T.fP eZ (aa (pv 0) (aa (oH (by rfl) T.mX jL) ak aj) aj)) (xX (tR qR (bf b7 (by rfl) T.fj dB (aa (pv 0) ak aj)) (iw (by rfl) T.Ca) (bK _)) (xY (bf (wM rfl) (by rfl) T.Kc GC (aa (fM [] ["thing"] (bz (top 29)) rfl (cW (pv 0)) (fun _ _ _ _ _=>gh) (fun _ _ _ _ _=>(dY (tQ T) T.m7 hr (aa (pv 0) ak aj)))) ak cP))))))),?_⟩
 have hz:sizeLine=16777216:=sizeLine_eq
 refine⟨_,rfl,_,_,_,_,rfl,.inl ⟨rfl,_,hS⟩,by decide,rfl,_,rfl,ji ?_⟩
 refine⟨_,rfl,_,(ws.map V.int).length,rfl,.inl ⟨_,hS,by simp⟩,_,_,rfl,rfl,_,rfl,?_⟩
 rw [lM,decide_eq_true (show(ws.length:Int)<=300 by omega)]
 refine ji ?_
 refine⟨_,rfl,a,rfl,⟨_,hS⟩,iZ (K:=K) (a:=a) (xs:=ws.map V.int) (fun j ys H'=>H'=H/\ys=(List.replicate j true).map V.bl) (by rw [lM];omega) ⟨rfl,rfl⟩ (fun j ys H' ⟨_,e⟩=>by rw [e];simp) (fun j ys H' _ ⟨e,_⟩=>by rw [e];exact hS) ?_ ?_⟩
 ·rintro j x ys H' hx ⟨rfl,rfl⟩
  rw [List.getElem?_map] at hx
  obtain⟨n,hn,rfl⟩:=Option.map_eq_some_iff.mp hx
  obtain⟨n0,n1⟩:=hB n (List.mem_of_getElem? hn)
  refine yes ⟨_,rfl,.int n,rfl,.inl ⟨n,rfl,rfl,?_⟩⟩
  rw [decide_eq_true n0,decide_eq_true n1,List.replicate_succ']
  simp
 rintro ys H' ⟨rfl,rfl⟩ D hD
 refine⟨D,List.replicate (ws.map V.int).length true,rfl,bT.of au,?_⟩
 rw [show(List.replicate (ws.map V.int).length true).all id=true by simp]
 exact k _ (aB hD)
theorem Ub {x:V} {xs:List V} (h:x∈xs) (f:Ma x x=true):inV x xs=true:=List.any_eq_true.mpr ⟨x,h,f⟩
structure vm (ps:List PD) (RW:List (Str×Addr×List Int)):Prop where
 door:∀q∈RW,V.str q.1∈lC ps "give"
 bnd:∀q∈RW,∀v∈q.2.2,0<=v/\v <1000000000
theorem xM {ls:List aK} {ps:List PD} {RW:List (Str×Addr×List Int)} (F:vh ls ps) (hl:∀q∈RW,q.2.2.length<=300) (hb:∀q∈RW,∀v∈q.2.2,0<=v/\v <1000000000):Mt 199 ls ps (d7 ls ps RW):=by
 have rq:∀x,lU RW x=[]∨∃q∈RW,lU RW x=q.2.2:=fun x=>by
  unfold lU
  cases e:RW.find? fun q=>decide (q.1=x) with
  | none=>exact .inl rfl
  | some q=>exact .inr ⟨q,List.mem_of_find?_eq_some e,rfl⟩
 refine⟨fun l h v hv=>?_,fun p hp h0 v hv=>?_,fun p hp h0=>Nat.zero_le _,fun l h=>?_,fun p hp h0=>?_⟩
 ·have e:(d7 ls ps RW).ev l.name=l.first:=vA F.whole.nod h
  rw [e] at hv
  exact(F.lok l h).2.2.2 v hv
 ·rcases rq p.name with e | ⟨q,hq,e⟩
  ·rw [show(d7 ls ps RW).r p.name=[] from e] at hv
   cases hv
  ·rw [show(d7 ls ps RW).r p.name=q.2.2 from e] at hv
   exact hb q hq v hv
 ·have e:(d7 ls ps RW).ev l.name=l.first:=vA F.whole.nod h
  rw [e]
  have:=F.lok l h
  omega
 ·rcases rq p.name with e | ⟨q,hq,e⟩
  ·rw [show(d7 ls ps RW).r p.name=[] from e]
   exact Nat.zero_le _
  ·rw [show(d7 ls ps RW).r p.name=q.2.2 from e]
   exact hl q hq
inductive vW (K:PySem.W.Frag) (t:nj) (vs:List V) (H:Hp) (Q:VK) (E:XK):Prop where
 | mk:∀(n rw:Addr) (ls:List aK) (ps:List PD) (RW:List (Str×Addr×List Int)),vs=[.ref n,.ref rw]->nC K t H n ls ps->jf H rw RW->vm ps RW->(∀H',aM H H'->Q .non H')->vW K t vs H Q E
theorem Gm (T:Txt w K mg t):FO P w K mg base 4 t.yK ["net", "rows"] (vW K t):=by
 have sc:=T.tK.sc ["net", "rows", "doors", "door"]
 refine T.tK.F.ok sc ln (fun _ _ _ _ H vs Q E hr h=>?_)
 obtain⟨n,rw,ls,ps,RW,rfl,N,hrw,hO,k⟩:=h
 refine⟨_,(az (sN sc 2 (Tv (pv 0) T.bD T.bD.me.2.2.2.2.1 (wB T) T.n6 hr))
  (az (pN (H0:=H) rfl (eN PassesOwn.never rfl (nW (pv 1)) (gN sc 3)
   (aA (bO (bj qt (pv 3) (pv 2) (by with_unfolding_all rfl))
    (aA dW)
    bc))))
  (aA (pN (H0:=H) rfl (eN PassesOwn.never rfl (nW (pv 1)) (gN sc 3)
   (aA (bO (gM (fH (dY (Lq T) T.Ay hr (aa (bZ hr.u1 (pv 1) (pv 3) (fun _ _=>rfl)) ak aC))))
    (aA dW)
    bc))))))),?_⟩
 have hz:sizeLine=16777216:=sizeLine_eq
 obtain⟨dxn,fsn,R,F,Pd,Gn,Tk,FL,PL,Wn⟩:=id N
 refine⟨_,rfl,n,dxn,fsn,rfl,Wn.obj,Wn.fl.no _ (by decide +kernel),n,ls,ps,rfl,N,fun l nl=>?_⟩
 have s1:=aB (o:=.lst (lC ps "give")) nl
 have el:upd H l (.lst (lC ps "give")) l=some (.lst (lC ps "give")):=au
 generalize upd H l (.lst (lC ps "give"))=H1 at s1 el ⊢
 have fl:(lC ps "give").all qX=true:=by
  rw [List.all_eq_true]
  intro v hv
  obtain⟨p,_,rfl⟩:=List.mem_map.mp hv
  rfl
 have w1:=hrw.same s1
 have nf:∀(o':Obj) (u':HO),H rw≠some (.frz o' u'):=fun o' u' z=>by rw [hrw.dict] at z;cases z
 refine⟨_,rfl,rw,_,rfl,w1.dict,fun o=>pX (fun j σ H'=>H'=upd H1 rw (.frz o (.dK (cT RW)))/\∃v3,σ=[some (.ref n),some (.ref rw),some (.ref l),v3]) ⟨rfl,none,rfl⟩ (fun j σ H' _ ⟨e,_⟩=>by rw [e];exact au) ?_ ?_⟩
 ·rintro j kk v σ H' hj ⟨rfl,v3,rfl⟩
  unfold cT at hj
  rw [List.getElem?_map] at hj
  obtain⟨q,hq,e⟩:=Option.map_eq_some_iff.mp hj
  cases e
  refine⟨_,rfl,_,rfl,l,_,rfl,.inl (bT.of (jD w1.dict el (by intro _ z;cases z))),rfl,fl,_,rfl,?_⟩
  have hin:inV (kV (Sum.inr q.1)) (lC ps "give")=true:=Ub (hO.door q (List.mem_of_getElem? hq)) (by simp [Ma,kV])
  rw [hin]
  exact dI ⟨rfl,_,rfl⟩
 rintro σ H' ⟨rfl,v3,rfl⟩
 refine⟨_,⟨rw,o,_,au,nf,rfl⟩,?_⟩
 rw [um,Fo w1.dict]
 refine⟨_,rfl,rw,_,rfl,w1.dict,fun o=>pX (fun j σ H'=>aM (upd H1 rw (.frz o (.dK (cT RW)))) H'/\∃v3,σ=[some (.ref n),some (.ref rw),some (.ref l),v3]) ⟨aM.refl _,v3,rfl⟩ (fun j σ H' _ ⟨e,_⟩=>e _ _ au) ?_ ?_⟩
 ·rintro j kk v σ H' hj ⟨s2,v3,rfl⟩
  unfold cT at hj
  rw [List.getElem?_map] at hj
  obtain⟨q,hq,e⟩:=Option.map_eq_some_iff.mp hj
  cases e
  have hm:=List.mem_of_getElem? hq
  have vq:cC (cT RW) (Sum.inr q.1)=some (.ref q.2.1):=f9 (by rw [jV];exact dh hrw.nd) (List.mem_map.mpr ⟨q,hm,rfl⟩)
  have eq2:=s2 _ _ (jD w1.dict (w1.lists q hm) (by intro _ z;cases z))
  refine⟨_,rfl,_,rfl,rw,_,rfl,(by rw [<-vq];exact .inl ⟨_,Sum.inr q.1,.inr ⟨o,s2 _ _ au⟩,rfl,rfl⟩),q.2.1,q.2.2,rfl,bT.of eq2,hrw.len q hm,hO.bnd q hm,fun H3 s3=>⟨_,rfl,dI ⟨s2.trans s3,_,rfl⟩⟩⟩
 rintro σ H' ⟨s2,v3,rfl⟩
 refine⟨_,⟨rw,o,_,s2 _ _ au,nf,rfl⟩,?_⟩
 refine k _ fun b u e=>?_
 by_cases hb:b=rw
 ·subst hb
  rw [au]
  rw [hrw.dict] at e
  exact e
 ·rw [aG hb]
  exact s2 _ _ (by rw [aG hb];exact s1 _ _ e)
noncomputable def roomF (ls:List aK) (x:Str):Int:=((ls.find? fun l=>decide (l.name=x)).map (·.room)).getD 0
noncomputable def Ws (ls:List aK) (S:FS) (q:Str×Int):Bool:=decide (roomF ls q.1<=((S.ev q.1).length:Int) - (S.g q.1:Int))
noncomputable def S6 (ls:List aK) (S:FS) (dd:jc):V:=match dd.gv.find? (Ws ls S) with
 | some q=>.str q.1
 | none=>.non
theorem Ke {H:Hp} {Q:VK} {Ex:XK} {b:Nat} {A:xg} {ls:List aK} {ps:List PD} {S:FS} {p:PD} (N:nC K t H A.n ls ps) (W:jK K t H A ls ps S) (hp:p∈ps) (O:Mt b ls ps S) (kn:bW S p=none->∀H',aM H H'->Q .non H')
  (k:∀dd,bW S p=some dd->∀H' U,aM H H'->H U=none->pP (A.cells ls ps) H' U dd->Q (.ref U) H'):iH K t [.ref A.f,.str p.name] H Q Ex:=by
 unfold iH
 exact⟨b,A,ls,ps,S,p,rfl,N,W,hp,O,kn,k⟩
noncomputable def yV (ls:List aK) (S:FS) (p:PD):Option jc:=match bW S p with
 | none=>none
 | some dd=>if S6 ls S dd=.non then some dd else none
theorem jx {S:FS} {p:PD} {dd:jc} (h:bW S p=some dd):eO p.kind p.ins (aV S p)=.non/\sy S p=false/\dd=⟨(places p.kind (aV S p)).map (strAt p.ins),(cD p.kind p.nums (sJ S p) (S.k p.name)).map fun pv=>(strAt p.outs pv.1.toNat,pv.2),fW p.kind (sJ S p) (S.k p.name)⟩:=by
 unfold bW at h
 split at h
 ·cases h
 ·rename_i h1
  split at h
  ·cases h
  ·rename_i h2
   exact⟨Classical.not_not.mp h1,by simpa using h2,(Option.some.inj h).symm⟩
theorem xW {xs:List Str} {q:Nat} (h:q <xs.length):strAt xs q∈xs:=by unfold strAt;rw [List.getElem?_eq_getElem h];exact List.getElem_mem h
theorem mK {xs:List Str} {q:Nat} (h:q <xs.length):strAt xs q=xs[q]:=by unfold strAt;rw [List.getElem?_eq_getElem h];rfl
theorem DK {i:Nat} {hs:List V}:(places i hs).Nodup:=by
 unfold places
 split
 ·split
  ·rename_i n _
   have h0:=Int.emod_nonneg n (show(2:Int)≠0 by decide)
   simp
   omega
  ·simp
 ·exact List.nodup_range
theorem Rn {xs:List Str} (nd:xs.Nodup) {l:List Nat} (hl:l.Nodup) (h:∀q∈l,q <xs.length):(l.map (strAt xs)).Nodup:=by
 unfold List.Nodup at hl ⊢
 rw [List.pairwise_map]
 refine hl.imp_of_mem fun {a b} ha hb hne e=>hne ?_
 rw [mK (h a ha),mK (h b hb)] at e
 exact(List.getElem_inj nd).mp e
theorem zJ {f:PD->List Str}:∀{ps:List PD},(ps.flatMap f).Nodup->∀{p:PD},p∈ps->(f p).Nodup
 | q:: r,nd,p,hp=>by
  rw [List.flatMap_cons,List.nodup_append] at nd
  rcases List.mem_cons.mp hp with h | h
  ·rw [h];exact nd.1
  ·exact zJ nd.2.1 h
theorem Gs {ls:List aK} {ps:List PD} {S:FS} (F:vh ls ps) {p:PD} (hp:p∈ps) {dd:jc} (h:bW S p=some dd):Fd ls dd:=by
 obtain⟨hl,he,rfl⟩:=jx h
 have ok:=F.pok p hp
 have hO:=mG S p ok
 have hlt:∀q∈places p.kind (aV S p),q <p.ins.length:=fun q hq=>by
  have:=iJ hO q hq
  unfold aV at this
  rwa [lM] at this
 have inL:∀x∈p.ins ++ p.outs,x∈ls.map (·.name):=fun x hx=>by
  obtain⟨l,hl,rfl⟩:=F.inL hp hx
  exact List.mem_map.mpr ⟨l,hl,rfl⟩
 refine⟨?_,fun x hx=>?_,fun q hq=>?_,?_⟩
 ·exact Rn (zJ (F.whole.ins.nodup_iff.mpr F.whole.nod) hp) DK hlt
 ·obtain⟨q,hq,rfl⟩:=List.mem_map.mp hx
  exact inL _ (List.mem_append.mpr (.inl (xW (hlt q hq))))
 ·obtain⟨pv,hpv,rfl⟩:=List.mem_map.mp hq
  obtain⟨o,ho1,ho2⟩:=zE (show p.kind<=10 by have:=ok.1;omega) _ _ _ _ hpv
  refine inL _ (List.mem_append.mpr (.inr (xW ?_)))
  rw [ho1,Int.toNat_natCast,ok.2.2.2.1]
  exact ho2
 ·show(List.map _ _).length<=2
  rw [lM]
  exact vX ..
noncomputable def Hq (xs:List Str) (p:PD):Bool:=!decide (p.name∈xs)
noncomputable def vz (ls:List aK) (ps:List PD) (S:FS) (xs:List Str):List (PD×jc):=(ps.filter (Hq xs)).filterMap fun p=>(yV ls S p).map fun dd=>(p,dd)
noncomputable def lA (S:FS) (ws:List (PD×jc)):FS:=ws.foldl (fun S w=>jh S w.1.name w.2) S
noncomputable def DQ (ls:List aK) (ps:List PD) (S:FS) (xs:List Str):FS:=lA S (vz ls ps S xs)
theorem CK {S:FS} {b:Nat} {x:Str}:∀{ws:List (PD×jc)},(S.ev x).length<=b->(∀w∈ws,w.2.gv.length<=2)->((lA S ws).ev x).length<=b+2 * ws.length
 | [],h,_=>by simpa [lA] using h
 | w:: r,h,g=>by
  have h1:=g w List.mem_cons_self
  have h2:((jh S w.1.name w.2).ev x).length<=b+2:=by
   unfold jh
   rw [lP,lM]
   have:=List.length_filter_le (fun q:Str×Int=>decide (q.1=x)) w.2.gv
   omega
  have h3:=CK (S:=jh S w.1.name w.2) (ws:=r) h2 (fun w' hw=>g w' (List.mem_cons_of_mem _ hw))
  show((lA (jh S w.1.name w.2) r).ev x).length<=_
  rw [List.length_cons]
  omega
theorem Xa {H:Hp} {Q:VK} {Ex:XK} {b:Nat} {A:xg} {ls:List aK} {ps:List PD} {S:FS} {p:PD} {U:Addr} {dd:jc} (F:vh ls ps) (W:jK K t H A ls ps S) (hp:p∈ps) (hl:∀l∈ls,(S.ev l.name).length<=b) (hb:b<=100000) (d:pP (A.cells ls ps) H U dd) (o:Fd ls dd)
  (k:∀H',Ht (A.cells ls ps) H H'->jK K t H' A ls ps (jh S p.name dd)->Q .non H'):jY K t [.ref A.f,.str p.name,.ref U] H Q Ex:=by
 unfold jY
 exact⟨b,A,ls,ps,S,p,U,dd,rfl,F,W,hp,hl,hb,d,o,k⟩
theorem jK.ins {H:Hp} {A:xg} {ls:List aK} {ps:List PD} {S:FS} (W:jK K t H A ls ps S) {x:Addr} (nx:x∉A.cells ls ps) {o:HO} (nf:x≠A.f):jK K t (upd H x o) A ls ps S:=by
 have st:∀a,a∈A.cells ls ps->upd H x o a=H a:=fun a ha=>aG fun z=>nx (by rw [<-z];exact ha)
 obtain⟨dx,fs,h1,h2⟩:=W.at'.ex
 refine⟨⟨dx,fs,by rw [aG (Ne.symm nf)];exact h1,h2⟩,?_,fun l hl=>?_,?_,?_,?_,?_,fun p hp h0=>?_,W.nod⟩
 ·rw [st _ (by simp [xg.cells])];exact W.ever
 ·rw [st _ (by unfold xg.cells;simp only [List.mem_cons,List.mem_append,List.mem_map];exact .inr (.inr (.inr (.inr (.inr (.inl ⟨l,hl,rfl⟩))))))];exact W.lists l hl
 ·rw [st _ (by simp [xg.cells])];exact W.gone
 ·rw [st _ (by simp [xg.cells])];exact W.kept
 ·rw [st _ (by simp [xg.cells])];exact W.done
 ·rw [st _ (by simp [xg.cells])];exact W.rows
 ·rw [st _ (by unfold xg.cells;simp only [List.mem_cons,List.mem_append,List.mem_map];exact .inr (.inr (.inr (.inr (.inr (.inr ⟨p,List.mem_filter.mpr ⟨hp,by simp [h0]⟩,rfl⟩))))))];exact W.rlst p hp h0
inductive Ku (M:List Addr) (ls:List aK) (S:FS) (H:Hp) (q:PD×Addr):Prop where
 | mk:∀u,H q.2=some (.tup [.str q.1.name,u])->(((yV ls S q.1=none/\u=.non)∨∃dd U,yV ls S q.1=some dd/\u=.ref U/\pP M H U dd))->Ku M ls S H q
theorem Ku.same {M:List Addr} {ls:List aK} {S:FS} {H H':Hp} {q:PD×Addr} (h:Ku M ls S H q) (s:aM H H'):Ku M ls S H' q:=by
 obtain⟨u,h1,h2⟩:=h
 refine⟨u,s _ _ h1,?_⟩
 rcases h2 with h2 | ⟨dd,U,a,b,c⟩
 ·exact .inl h2
 ·exact .inr ⟨dd,U,a,b,c.same s⟩
theorem pW {ls:List aK} {S:FS} {p:PD} {dd:jc} (h:yV ls S p=some dd):bW S p=some dd/\S6 ls S dd=.non:=by
 unfold yV at h
 split at h
 ·cases h
 ·rename_i d hd
  split at h
  ·rename_i hf
   cases h
   exact⟨hd,hf⟩
  ·cases h
theorem Uz {ws:List Int} (h:Vd ws):0<=g0 ws/\g0 ws <1000000000:=by
 unfold g0
 match ws,h with
 | [],_=>exact⟨by decide,by decide⟩
 | w:: r,h=>exact h w List.mem_cons_self
theorem Vg {ws:List Int} (h:Vd ws):0<=g1 ws/\g1 ws <1000000000:=by
 unfold g1
 match ws,h with
 | [],_=>exact⟨by decide,by decide⟩
 | [w],_=>exact⟨Int.le_refl 0,by show(0:Int) <1000000000;decide⟩
 | w:: v:: r,h=>exact h v (by simp)
theorem Fy (n:Int):0<=n % 1000000000/\n % 1000000000 <1000000000:=⟨Int.emod_nonneg _ (by decide),Int.emod_lt_of_pos _ (by decide)⟩
theorem G8 {i:Nat} (hi:i <11) (ns:List Int) {ws:List Int} (kp:Int) (h:Vd ws):∀pv∈cD i ns ws kp,0<=pv.2/\pv.2 <1000000000:=by
 have a0:=Uz h
 have a1:=Vg h
 match i,hi with
 | 0,_=>simp [cD];exact a0
 | 1,_=>simp [cD]
 | 2,_=>simp [cD];exact a0
 | 3,_=>simp [cD];exact a0
 | 4,_=>simp [cD];exact Fy _
 | 5,_=>simp [cD];exact Fy _
 | 6,_=>simp [cD];exact Fy _
 | 7,_=>simp [cD];split <;> decide
 | 8,_=>simp [cD];constructor <;> split <;> omega
 | 9,_=>simp [cD];exact a1
 | 10,_=>simp [cD];exact a1
theorem Ih (x:Str):∀(ws:List (PD×jc)) (S:FS),(lA S ws).ev x=S.ev x ++ ws.flatMap fun w=>(w.2.gv.filter fun q=>decide (q.1=x)).map (·.2)
 | [],S=>by simp [lA]
 | w:: r,S=>by
  show(lA (jh S w.1.name w.2) r).ev x=_
  rw [Ih x r,List.flatMap_cons,<-List.append_assoc]
  rfl
theorem zA:∀(ws:List (PD×jc)) (S:FS),(lA S ws).r=S.r
 | [],_=>rfl
 | w:: r,S=>by show(lA (jh S w.1.name w.2) r).r=_;rw [zA r];rfl
theorem J3 (x:Str):∀(ws:List (PD×jc)) (S:FS),(lA S ws).d x=S.d x+(ws.filter fun w=>decide (w.1.name=x)).length
 | [],S=>by simp [lA]
 | w:: r,S=>by
  show(lA (jh S w.1.name w.2) r).d x=_
  rw [J3 x r,List.filter_cons]
  show(if x=w.1.name then S.d x+1 else S.d x)+_=_
  by_cases h:x=w.1.name
  ·rw [if_pos h,if_pos (by simp [h])]
   simp
   omega
  ·rw [if_neg h,if_neg (by simpa using fun e=>h e.symm)]
theorem Le (x:Str):∀(ws:List (PD×jc)) (S:FS),(lA S ws).g x=S.g x+(ws.filter fun w=>decide (x∈w.2.tk)).length
 | [],S=>by simp [lA]
 | w:: r,S=>by
  show(lA (jh S w.1.name w.2) r).g x=_
  rw [Le x r,List.filter_cons]
  show(if x∈w.2.tk then S.g x+1 else S.g x)+_=_
  by_cases h:x∈w.2.tk
  ·rw [if_pos h,if_pos (by simp [h])]
   simp
   omega
  ·rw [if_neg h,if_neg (by simp [h])]
theorem ul {ls:List aK} {ps:List PD} {S:FS} {xs:List Str} {w:PD×jc} (h:w∈vz ls ps S xs):w.1∈ps/\Hq xs w.1=true/\yV ls S w.1=some w.2:=by
 obtain⟨p,hp,e⟩:=List.mem_filterMap.mp h
 obtain⟨dd,hd,rfl⟩:=Option.map_eq_some_iff.mp e
 obtain⟨h1,h2⟩:=List.mem_filter.mp hp
 exact⟨h1,h2,hd⟩
theorem pZ {ls:List aK} {S:FS}:∀{qs:List PD},((qs.filterMap fun p=>(yV ls S p).map fun dd=>(p,dd)).map (·.1)).Sublist qs
 | []=>by simp
 | q:: r=>by
  rw [List.filterMap_cons]
  cases yV ls S q with
  | none=>exact pZ.cons _
  | some dd=>exact pZ.cons₂ _
theorem Uc {ls:List aK} {ps:List PD} {S:FS} {xs:List Str} (nd:(ps.map (·.name)).Nodup):((vz ls ps S xs).map fun w=>w.1.name).Nodup:=by
 have h:((vz ls ps S xs).map (·.1)).Sublist ps:=(pZ (qs:=ps.filter (Hq xs))).trans List.filter_sublist
 have e:(vz ls ps S xs).map (fun w=>w.1.name)=((vz ls ps S xs).map (·.1)).map (·.name):=by rw [List.map_map];rfl
 rw [e]
 exact nd.sublist (h.map _)
theorem RN {ls:List aK} {ps:List PD} {S:FS} {xs:List Str}:(vz ls ps S xs).length<=ps.length:=by
 have h:((vz ls ps S xs).map (·.1)).Sublist ps:=(pZ (qs:=ps.filter (Hq xs))).trans List.filter_sublist
 have:=h.length_le
 rwa [lM] at this
theorem OJ {α:Type} {f:α->Str} {x:Str}:∀{l:List α},(l.map f).Nodup->(l.filter fun a=>decide (f a=x)).length<=1
 | [],_=>by simp
 | a:: r,nd=>by
  rw [List.map_cons,List.nodup_cons] at nd
  rw [List.filter_cons]
  by_cases h:f a=x
  ·rw [if_pos (by simp [h]),List.filter_eq_nil_iff.mpr fun b hb=>by simpa using fun e=>nd.1 (List.mem_map.mpr ⟨b,hb,by rw [e,h]⟩)]
   simp
  ·rw [if_neg (by simp [h])]
   exact OJ nd.2
theorem Xb {b:Nat} {ls:List aK} {ps:List PD} {S:FS} (F:vh ls ps) (O:Mt b ls ps S) (xs:List Str):Mt (b+32) ls ps (DQ ls ps S xs):=by
 have dk:∀w∈vz ls ps S xs,Fd ls w.2:=fun w hw=>Gs F (ul hw).1 (pW (ul hw).2.2).1
 refine⟨fun l hl v hv=>?_,fun p hp h0=>?_,fun p hp h0=>?_,fun l hl=>?_,fun p hp h0=>?_⟩
 ·unfold DQ at hv
  rw [Ih] at hv
  rcases List.mem_append.mp hv with h | h
  ·exact O.vb l hl v h
  ·obtain⟨w,hw,hv⟩:=List.mem_flatMap.mp h
   obtain⟨q,hq,rfl⟩:=List.mem_map.mp hv
   obtain⟨h1,_,h3⟩:=ul hw
   obtain⟨e1,e2,e3⟩:=jx (pW h3).1
   have hq':=(List.mem_filter.mp hq).1
   rw [e3] at hq'
   obtain⟨pv,hpv,rfl⟩:=List.mem_map.mp hq'
   exact G8 (F.pok _ h1).1 _ _ (Qv F O h1 e1 e2).2.1 pv hpv
 ·unfold DQ
  rw [zA]
  exact O.rb p hp h0
 ·unfold DQ
  rw [zA,J3]
  have h1:=OJ (x:=p.name) (Uc (ls:=ls) (S:=S) (xs:=xs) F.pnd)
  have h2:=O.dl p hp h0
  by_cases hm:∃w∈vz ls ps S xs,w.1.name=p.name
  ·obtain⟨w,hw,e⟩:=hm
   obtain⟨a1,_,a3⟩:=ul hw
   have ew:w.1=p:=qx F.pnd a1 hp e
   obtain⟨_,e2,_⟩:=jx (pW a3).1
   rw [ew] at e2
   unfold sy at e2
   simp [h0] at e2
   omega
  ·rw [List.filter_eq_nil_iff.mpr fun w hw=>by simpa using fun e=>hm ⟨w,hw,e⟩]
   simpa using h2
 ·have h1:=CK (O.len l hl) fun w hw=>(dk w hw).g2
  have h2:=RN (ls:=ls) (ps:=ps) (S:=S) (xs:=xs)
  have:=F.p16
  unfold DQ
  omega
 ·unfold DQ
  rw [zA]
  exact O.rl p hp h0
theorem Ph {H:Hp} {Q:VK} {Ex:XK} {H0:Hp} {f dx n rw:Addr} {ls:List aK} {ps:List PD} {RW:List (Str×Addr×List Int)} (hf:H f=some (.ins t.cj dx [])) (s0:aM H0 H) (nf:H0 f=none) (N:nC K t H0 n ls ps) (hrw:jf H0 rw RW)
  (k:∀(H':Hp) (A:xg),A.f=f->A.n=n->lq f H H'->jK K t H' A ls ps (d7 ls ps RW)->(∀a∈A.cells ls ps,H a=none)->Q .non H'):gf K t [.ref f,.ref n,.ref rw] H Q Ex:=by
 unfold gf
 exact⟨H0,f,dx,n,rw,ls,ps,RW,rfl,hf,s0,nf,N,hrw,k⟩
theorem z9 {α:Type} {f:α->List Str}:∀{l m:List α},l.Sublist m->(l.flatMap f).Sublist (m.flatMap f)
 | _,_,.slnil=>List.Sublist.refl _
 | _,_,.cons a h=>by rw [List.flatMap_cons];exact(z9 h).trans (List.sublist_append_right _ _)
 | _,_,.cons₂ a h=>by rw [List.flatMap_cons,List.flatMap_cons];exact(List.Sublist.refl _).append (z9 h)
theorem QF {ls:List aK} {ps:List PD} {S:FS} {xs:List Str} (F:vh ls ps):((vz ls ps S xs).flatMap (·.1.ins)).Nodup:=by
 have h:((vz ls ps S xs).map (·.1)).Sublist ps:=(pZ (qs:=ps.filter (Hq xs))).trans List.filter_sublist
 have h2:=(F.whole.ins.nodup_iff.mpr F.whole.nod).sublist (z9 (f:=(·.ins)) h)
 rwa [List.flatMap_map] at h2
theorem Pr {ls:List aK} {ps:List PD} {S:FS} (F:vh ls ps) {p:PD} (hp:p∈ps) {dd:jc} (h:bW S p=some dd) {x:Str} (hx:x∈dd.tk):x∈p.ins/\S.g x <(S.ev x).length:=by
 obtain⟨hl,_,rfl⟩:=jx h
 obtain⟨q,hq,rfl⟩:=List.mem_map.mp hx
 obtain⟨y,n,e1,_,e3⟩:=Fq (F.pok p hp) hl q hq
 have e:strAt p.ins q=y:=by unfold strAt;rw [e1];rfl
 rw [e]
 exact⟨List.mem_of_getElem? e1,(List.getElem?_eq_some_iff.mp e3).1⟩
theorem Oi {α:Type} {l:List α} {j:Nat} {a:α} (h:l[j]?=some a):l=l.take j ++ a:: l.drop (j+1):=by
 obtain⟨hj,e⟩:=List.getElem?_eq_some_iff.mp h
 rw [<-e,<-List.drop_eq_getElem_cons hj,List.take_append_drop]
theorem Xu {ls:List aK} {ps:List PD} {S:FS} {xs:List Str} (F:vh ls ps) {j:Nat} {w:PD×jc} (h:(vz ls ps S xs)[j]?=some w) {x:Str} (hx:x∈w.2.tk):(lA S ((vz ls ps S xs).take j)).g x=S.g x/\S.g x <(S.ev x).length:=by
 have hw:=ul (List.mem_of_getElem? h)
 have t1:=Pr F hw.1 (pW hw.2.2).1 hx
 refine⟨?_,t1.2⟩
 have nd:=QF (ls:=ls) (S:=S) (xs:=xs) F
 rw [Oi h,List.flatMap_append,List.flatMap_cons,List.nodup_append] at nd
 rw [Le,List.filter_eq_nil_iff.mpr fun w' hw'=>?_]
 ·rfl
 ·intro z
  have hx':=of_decide_eq_true z
  have hd:=ul (List.mem_of_mem_take hw')
  have t2:=Pr F hd.1 (pW hd.2.2).1 hx'
  exact nd.2.2 x (List.mem_flatMap.mpr ⟨w',hw',t2.1⟩) x (List.mem_append.mpr (.inl t1.1)) rfl
theorem Br {f:PD->List Str}:∀{ps:List PD},(ps.flatMap f).Nodup->∀{p q:PD},p∈ps->q∈ps->∀{x:Str},x∈f p->x∈f q->p=q
 | a:: r,nd,p,q,hp,hq,x,h1,h2=>by
  rw [List.flatMap_cons,List.nodup_append] at nd
  rcases List.mem_cons.mp hp with e1 | e1
  ·rcases List.mem_cons.mp hq with e2 | e2
   ·rw [e1,e2]
   ·rw [e1] at h1
    exact absurd rfl (nd.2.2 x h1 x (List.mem_flatMap.mpr ⟨q,e2,h2⟩))
  ·rcases List.mem_cons.mp hq with e2 | e2
   ·rw [e2] at h2
    exact absurd rfl (nd.2.2 x h2 x (List.mem_flatMap.mpr ⟨p,e1,h1⟩))
   ·exact Br nd.2.1 e1 e2 h1 h2
noncomputable def X3 (S:FS) (p:PD):List (Str×Int):=(cD p.kind p.nums (sJ S p) (S.k p.name)).map fun pv=>(strAt p.outs pv.1.toNat,pv.2)
noncomputable def PK (S:FS) (p:PD):List Str:=(X3 S p).map (·.1)
theorem Rx {S:FS} {p:PD} (ok:m6 p) (hA:p.kind≠10):PK S p=p.outs:=by
 have h:=ok.1
 have hO:=ok.2.2.2.1
 unfold PK X3
 rw [List.map_map]
 have key:∀i,i <11->i≠10->∀(ns ws:List Int) (k:Int),(cD i ns ws k).map (fun pv=>pv.1.toNat)=List.range (cO i):=by
  intro i hi hn ns ws k
  match i,hi,hn with
  | 0,_,_=>rfl
  | 1,_,_=>rfl
  | 2,_,_=>rfl
  | 3,_,_=>rfl
  | 4,_,_=>rfl
  | 5,_,_=>rfl
  | 6,_,_=>rfl
  | 7,_,_=>rfl
  | 8,_,_=>rfl
  | 9,_,_=>rfl
  | 10,_,hn=>exact absurd rfl hn
 have e:(cD p.kind p.nums (sJ S p) (S.k p.name)).map ((fun q:Str×Int=>q.1)∘fun pv=>(strAt p.outs pv.1.toNat,pv.2))=((cD p.kind p.nums (sJ S p) (S.k p.name)).map (fun pv=>pv.1.toNat)).map (strAt p.outs):=by rw [List.map_map];rfl
 rw [e,key _ h hA,<-hO]
 refine List.ext_getElem? fun i=>?_
 rw [List.getElem?_map]
 by_cases h:i <p.outs.length
 ·rw [List.getElem?_range h,List.getElem?_eq_getElem h,Option.map_some,mK h]
 ·rw [List.getElem?_eq_none (by rw [List.length_range];omega),List.getElem?_eq_none (by omega)]
  rfl
theorem Tq {S:FS} {p:PD} (ok:m6 p) {x:Str} (hx:x∈PK S p):x∈p.outs:=by
 obtain⟨q,hq,rfl⟩:=List.mem_map.mp hx
 obtain⟨pv,hpv,rfl⟩:=List.mem_map.mp hq
 obtain⟨o,ho1,ho2⟩:=zE (show p.kind<=10 by have:=ok.1;omega) _ _ _ _ hpv
 refine xW ?_
 rw [ho1,Int.toNat_natCast,ok.2.2.2.1]
 exact ho2
theorem SM {ls:List aK} {ps:List PD} {S:FS} (F:vh ls ps) {p:PD} (hp:p∈ps) {dd:jc} (h:bW S p=some dd):(dd.gv.map (·.1)).Nodup/\∀q∈dd.gv,q.1∈p.outs:=by
 obtain⟨_,_,rfl⟩:=jx h
 have ok:=F.pok p hp
 have eg:((cD p.kind p.nums (sJ S p) (S.k p.name)).map fun pv=>(strAt p.outs pv.1.toNat,pv.2)).map (·.1)=PK S p:=rfl
 refine⟨?_,fun q hq=>Tq (S:=S) ok (List.mem_map.mpr ⟨q,hq,rfl⟩)⟩
 show(((cD p.kind p.nums (sJ S p) (S.k p.name)).map fun pv=>(strAt p.outs pv.1.toNat,pv.2)).map (·.1)).Nodup
 rw [eg]
 by_cases hA:p.kind=10
 ·unfold PK X3
  rw [hA]
  show [_].Nodup
  simp
 ·rw [Rx ok hA]
  exact zJ (F.whole.outs.nodup_iff.mpr F.whole.nod) hp
theorem Jx {ls:List aK} {ps:List PD} {S:FS} (F:vh ls ps) {p q:PD} (hp:p∈ps) (hq:q∈ps) (hne:p≠q) {dd:jc} (h:bW S p=some dd) {x:Str} (hx:x∈q.ins) {n:Int} (hn:gQ S x=.int n):gQ (jh S p.name dd) x=.int n:=by
 have hg:x∉dd.tk:=fun z=>by
  have h1:=(Pr F hp h z).1
  have nd:=F.whole.ins.nodup_iff.mpr F.whole.nod
  exact hne (Br nd hp hq h1 hx)
 unfold gQ at hn ⊢
 show((((S.ev x) ++ _)[if x∈dd.tk then S.g x+1 else S.g x]?).map V.int).getD .non=.int n
 rw [if_neg hg]
 cases e:(S.ev x)[S.g x]? with
 | none=>rw [e] at hn;cases hn
 | some m=>
  rw [e] at hn
  rw [List.getElem?_append_left (List.getElem?_eq_some_iff.mp e).1,e]
  exact hn
theorem yc {ls:List aK} {ps:List PD} {S:FS} (F:vh ls ps) {p q:PD} (hp:p∈ps) (hq:q∈ps) (hne:p≠q) {dd dq:jc} (h:bW S p=some dd) (hd:bW S q=some dq):bW (jh S p.name dd) q=some dq:=by
 obtain⟨hl,he,rfl⟩:=jx hd
 have ok:=F.pok q hq
 have hno:=Fq ok hl
 have nn:q.name≠p.name:=fun z=>hne (qx F.pnd hp hq z.symm)
 have at':∀i∈places q.kind (aV S q),∃n,(aV S q)[i]?=some (.int n)/\(aV (jh S p.name dd) q)[i]?=some (.int n):=fun i hi=>by
  obtain⟨x,n,e1,e2,_⟩:=hno i hi
  refine⟨n,e2,?_⟩
  unfold aV at e2 ⊢
  rw [List.getElem?_map,e1] at e2 ⊢
  rw [Option.map_some] at e2 ⊢
  rw [Jx F hp hq hne h (List.mem_of_getElem? e1) (Option.some.inj e2)]
 have pl:places q.kind (aV (jh S p.name dd) q)=places q.kind (aV S q):=by
  by_cases h9:q.kind=9
  ·obtain⟨n,e1,e2⟩:=at' 0 (by unfold places;rw [if_pos h9];split <;> simp)
   unfold places
   rw [if_pos h9,if_pos h9]
   cases a:aV S q with
   | nil=>rw [a] at e1;cases e1
   | cons u r=>
    rw [a] at e1
    cases b:aV (jh S p.name dd) q with
    | nil=>rw [b] at e2;cases e2
    | cons v s=>
     rw [b] at e2
     have e1:u=.int n:=by simpa using e1
     have e2:v=.int n:=by simpa using e2
     rw [e1,e2]
  ·unfold places aV
   rw [if_neg h9,if_neg h9,lM,lM]
 have ws:sJ (jh S p.name dd) q=sJ S q:=by
  unfold sJ
  rw [pl]
  by_cases h0:q.kind=0
  ·rw [if_pos h0,if_pos h0]
   show((S.r q.name)[if q.name=p.name then _ else S.d q.name]?).toList=_
   rw [if_neg nn]
  ·rw [if_neg h0,if_neg h0]
   refine List.map_congr_left fun i hi=>?_
   obtain⟨n,e1,e2⟩:=at' i hi
   rw [e1,e2]
 have kk:(jh S p.name dd).k q.name=S.k q.name:=if_neg nn
 have hl':eO q.kind q.ins (aV (jh S p.name dd) q)=.non:=by
  unfold eO
  rw [pl,List.find?_eq_none.mpr fun i hi=>?_]
  obtain⟨n,_,e2⟩:=at' i hi
  unfold jN
  rw [e2]
  simp
 have he':sy (jh S p.name dd) q=false:=by
  unfold sy at he ⊢
  show(decide (q.kind=0) && decide ((if q.name=p.name then _ else S.d q.name)=(S.r q.name).length))=false
  rw [if_neg nn]
  exact he
 unfold bW
 rw [if_neg (by simp [hl']),if_neg (by simp [he']),pl,ws,kk]
theorem Rj {ls:List aK} {ps:List PD} {S:FS} (F:vh ls ps) {p q:PD} (hp:p∈ps) (hq:q∈ps) (hne:p≠q) {dd dq:jc} (h:bW S p=some dd) (hd:bW S q=some dq):jh (jh S p.name dd) q.name dq=jh (jh S q.name dq) p.name dd:=by
 have nn:q.name≠p.name:=fun z=>hne (qx F.pnd hp hq z.symm)
 have go:=(SM F hp h).2
 have gq:=(SM F hq hd).2
 have nd:=F.whole.outs.nodup_iff.mpr F.whole.nod
 have e1:(jh (jh S p.name dd) q.name dq).ev=(jh (jh S q.name dq) p.name dd).ev:=by
  funext y
  show(S.ev y ++ (dd.gv.filter fun z=>decide (z.1=y)).map (·.2)) ++ (dq.gv.filter fun z=>decide (z.1=y)).map (·.2)=(S.ev y ++ (dq.gv.filter fun z=>decide (z.1=y)).map (·.2)) ++ (dd.gv.filter fun z=>decide (z.1=y)).map (·.2)
  by_cases ha:(dd.gv.filter fun z=>decide (z.1=y))=[]
  ·rw [ha];simp
  ·by_cases hb:(dq.gv.filter fun z=>decide (z.1=y))=[]
   ·rw [hb];simp
   ·obtain⟨a,ha⟩:=List.exists_mem_of_ne_nil _ ha
    obtain⟨b,hb⟩:=List.exists_mem_of_ne_nil _ hb
    obtain⟨a1,a2⟩:=List.mem_filter.mp ha
    obtain⟨b1,b2⟩:=List.mem_filter.mp hb
    have z1:=go a a1
    have z2:=gq b b1
    rw [of_decide_eq_true a2] at z1
    rw [of_decide_eq_true b2] at z2
    exact absurd (Br nd hp hq z1 z2) hne
 have e2:(jh (jh S p.name dd) q.name dq).g=(jh (jh S q.name dq) p.name dd).g:=by
  funext y
  show(if y∈dq.tk then(if y∈dd.tk then S.g y+1 else S.g y)+1 else if y∈dd.tk then S.g y+1 else S.g y)=if y∈dd.tk then(if y∈dq.tk then S.g y+1 else S.g y)+1 else if y∈dq.tk then S.g y+1 else S.g y
  by_cases a:y∈dq.tk <;> by_cases b:y∈dd.tk <;> simp [a,b]
 have e3:(jh (jh S p.name dd) q.name dq).k=(jh (jh S q.name dq) p.name dd).k:=by
  funext y
  show(if y=q.name then dq.kv else if y=p.name then dd.kv else S.k y)=if y=p.name then dd.kv else if y=q.name then dq.kv else S.k y
  by_cases a:y=q.name
  ·rw [if_pos a,if_neg (by rw [a];exact nn),if_pos a]
  ·rw [if_neg a,if_neg a]
 have e4:(jh (jh S p.name dd) q.name dq).d=(jh (jh S q.name dq) p.name dd).d:=by
  funext y
  show(if y=q.name then(if y=p.name then S.d y+1 else S.d y)+1 else if y=p.name then S.d y+1 else S.d y)=if y=p.name then(if y=q.name then S.d y+1 else S.d y)+1 else if y=q.name then S.d y+1 else S.d y
  by_cases a:y=q.name
  ·rw [if_pos a,if_neg (by rw [a];exact nn),if_neg (by rw [a];exact nn),if_pos a]
  ·rw [if_neg a,if_neg a]
 show(⟨_,_,_,_,_⟩:FS)=⟨_,_,_,_,_⟩
 exact congr (congr (congr (congr (congrArg FS.mk e1) e2) e3) e4) rfl
inductive ug (ps:List PD) (m:Nat):FS->FS->Prop
 | refl (S:FS):ug ps m S S
 | head {S T:FS} {p:PD} {dd:jc}:p∈ps->S.d p.name <m->bW S p=some dd->ug ps m (jh S p.name dd) T->ug ps m S T
theorem ug.trans {ps:List PD} {m:Nat} {S T U:FS} (a:ug ps m S T) (b:ug ps m T U):ug ps m S U:=by
 induction a with
 | refl _=>exact b
 | head h1 h2 h3 _ ih=>exact .head h1 h2 h3 (ih b)
noncomputable def Done (ps:List PD) (m:Nat) (T:FS):Prop:=∀p∈ps,T.d p.name <m->bW T p=none
theorem ug.swap {ls:List aK} {ps:List PD} {m:Nat} (F:vh ls ps) {A T:FS} (r:ug ps m A T) (hT:Done ps m T):∀{p:PD} {dd:jc},p∈ps->A.d p.name <m->bW A p=some dd->ug ps m (jh A p.name dd) T:=by
 induction r with
 | refl S=>intro p dd hp hm hd;rw [hT p hp hm] at hd;cases hd
 | @head S T q dq hq hm' hd' r ih=>
  intro p dd hp hm hd
  by_cases e:q=p
  ·subst e
   rw [hd] at hd'
   cases hd'
   exact r
  ·have nn:p.name≠q.name:=fun z=>e (qx F.pnd hq hp z.symm)
   have c:=ih hT hp (show(if p.name=q.name then _ else S.d p.name) <m by rw [if_neg nn];exact hm) (yc F hq hp e hd' hd)
   rw [Rj F hq hp e hd' hd] at c
   exact .head hq (show(if q.name=p.name then _ else S.d q.name) <m by rw [if_neg (Ne.symm nn)];exact hm') (yc F hp hq (Ne.symm e) hd hd') c
theorem ug.ends {ls:List aK} {ps:List PD} {m:Nat} (F:vh ls ps) {A S T:FS} (a:ug ps m A S) (b:ug ps m A T) (hT:Done ps m T):ug ps m S T:=by
 induction a with
 | refl _=>exact b
 | head h1 h2 h3 _ ih=>exact ih (b.swap F hT h1 h2 h3)
theorem ug.all {ls:List aK} {ps:List PD} {m:Nat} (F:vh ls ps):∀{ws:List (PD×jc)} {S:FS},(ws.map fun w=>w.1.name).Nodup->(∀w∈ws,w.1∈ps/\S.d w.1.name <m/\bW S w.1=some w.2)->ug ps m S (lA S ws)
 | [],S,_,_=>.refl S
 | w:: r,S,nd,h=>by
  rw [List.map_cons,List.nodup_cons] at nd
  obtain⟨h1,h2,h3⟩:=h w List.mem_cons_self
  refine .head h1 h2 h3 (ug.all F nd.2 fun w' hw'=>?_)
  obtain⟨a1,a2,a3⟩:=h w' (List.mem_cons_of_mem _ hw')
  have ne:w'.1.name≠w.1.name:=fun z=>nd.1 (List.mem_map.mpr ⟨w',hw',z⟩)
  refine⟨a1,?_,yc F h1 a1 (fun z=>ne (by rw [z])) h3 a3⟩
  show(if w'.1.name=w.1.name then _ else S.d w'.1.name) <m
  rw [if_neg ne]
  exact a2
noncomputable def j0 (ps:List PD) (S:FS):Nat:=(ps.map fun p=>S.d p.name).sum
noncomputable def JF:Option HO->Nat
 | some (.dK kvs)=>(kvs.map fun kv=>match kv.2 with | .int n=>n.toNat | _=>0).sum
 | _=>0
theorem Gi {H:Hp} {a:Addr} {ps:List PD} {S:FS} (h:H a=some (.dK (bJ (fun x=>(S.d x:Int)) ps))):JF (H a)=j0 ps S:=by
 rw [h]
 show(List.map _ (bJ _ ps)).sum=_
 unfold bJ j0
 rw [List.map_map]
 congr 1
theorem Iz {ps:List PD} {S:FS} {dd:jc}:∀{qs:List PD} {p:PD},(qs.map (·.name)).Nodup->p∈qs->j0 qs (jh S p.name dd)=j0 qs S+1
 | a:: r,p,nd,hp=>by
  rw [List.map_cons,List.nodup_cons] at nd
  have tl:∀{x:Str},x∉r.map (·.name)->(r.map fun p=>(jh S x dd).d p.name)=r.map fun p=>S.d p.name:=fun {x} hx=>List.map_congr_left fun q hq=>if_neg fun z=>hx (List.mem_map.mpr ⟨q,hq,z⟩)
  unfold j0
  rw [List.map_cons,List.map_cons,List.sum_cons,List.sum_cons]
  rcases List.mem_cons.mp hp with rfl | hp
  ·rw [tl nd.1]
   show(if p.name=p.name then S.d p.name+1 else S.d p.name)+_=_
   rw [if_pos rfl]
   omega
  ·have ih:=Iz (ps:=ps) (S:=S) (dd:=dd) nd.2 hp
   unfold j0 at ih
   rw [ih]
   have ne:a.name≠p.name:=fun z=>nd.1 (List.mem_map.mpr ⟨p,hp,z.symm⟩)
   show(if a.name=p.name then S.d a.name+1 else S.d a.name)+_=_
   rw [if_neg ne]
   omega
theorem Bs {S:FS} {m:Nat}:∀{ps:List PD},(∀p∈ps,S.d p.name<=m)->j0 ps S<=ps.length * m
 | [],_=>Nat.zero_le _
 | a:: r,h=>by
  have:=Bs fun p hp=>h p (List.mem_cons_of_mem _ hp)
  have:=h a List.mem_cons_self
  unfold j0 at *
  rw [List.map_cons,List.sum_cons,List.length_cons,Nat.add_mul]
  omega
theorem Pz {b:Nat} {ls:List aK} {ps:List PD} {S:FS} (F:vh ls ps) (O:Mt b ls ps S) {p:PD} (hp:p∈ps) {dd:jc} (h:bW S p=some dd):Mt (b+2) ls ps (jh S p.name dd):=by
 obtain⟨e1,e2,rfl⟩:=jx h
 have hw2:=vX p.kind p.nums (sJ S p) (S.k p.name)
 refine⟨fun l hl v hv=>?_,fun p' hp' h0=>O.rb p' hp' h0,fun p' hp' h0=>?_,fun l hl=>?_,fun p' hp' h0=>O.rl p' hp' h0⟩
 ·rcases List.mem_append.mp hv with hv | hv
  ·exact O.vb l hl v hv
  ·obtain⟨q,hq,rfl⟩:=List.mem_map.mp hv
   obtain⟨pv,hpv,rfl⟩:=List.mem_map.mp (List.mem_filter.mp hq).1
   exact G8 (F.pok _ hp).1 _ _ (Qv F O hp e1 e2).2.1 pv hpv
 ·show(if p'.name=p.name then S.d p'.name+1 else S.d p'.name)<=_
  have hd:=O.dl p' hp' h0
  by_cases e:p'.name=p.name
  ·have:=qx F.pnd hp' hp e
   subst this
   rw [if_pos rfl]
   unfold sy at e2
   simp [h0] at e2
   show S.d p'.name+1<=(S.r p'.name).length
   omega
  ·rw [if_neg e]
   exact hd
 ·show(S.ev l.name ++ _).length<=_
  rw [lP,lM]
  have:=O.len l hl
  refine Nat.le_trans (Nat.add_le_add_left (List.length_filter_le _ _) _) ?_
  rw [lM]
  omega
theorem ug.snoc {ps:List PD} {m:Nat} {S T:FS} (r:ug ps m S T) {p:PD} {dd:jc} (hp:p∈ps) (hm:T.d p.name <m) (hd:bW T p=some dd):ug ps m S (jh T p.name dd):=r.trans (.head hp hm hd (.refl _))
structure GF (K:PySem.W.Frag) (t:nj) (H H':Hp) (A:xg) (ls:List aK) (ps:List PD) (m:Nat) (S0 S:FS):Prop where
 net:nC K t (bA (A.cells ls ps) H') A.n ls ps
 flow:jK K t H' A ls ps S
 con:aM (bA (A.cells ls ps) H) (bA (A.cells ls ps) H')
 rch:ug ps m S0 S
 ok:Mt (199+2 * j0 ps S) ls ps S
 dm:∀p∈ps,S.d p.name<=m
theorem Di {E:List Addr} {H H':Hp} (s:aM H H'):aM (bA E H) (bA E H'):=fun b o e=>by
 have hb:b∉E:=fun z=>by unfold bA at e;rw [if_pos z] at e;cases e
 exact dH (s _ _ (dF _ _ e)) hb
theorem Rp {E:List Addr} {H H':Hp} (m:Ht E H H'):bA E H'=bA E H:=by
 funext b
 unfold bA
 split
 ·rfl
 ·rename_i h
  exact m b h
theorem GF.mv {H H' H'':Hp} {A:xg} {ls:List aK} {ps:List PD} {m:Nat} {S0 S:FS} (h:GF K t H H' A ls ps m S0 S) (s:aM H' H''):GF K t H H'' A ls ps m S0 S:=⟨h.net.same (Di s),h.flow.same s,h.con.trans (Di s),h.rch,h.ok,h.dm⟩
theorem GF.work {H H' H'':Hp} {A:xg} {ls:List aK} {ps:List PD} {m:Nat} {S0 S:FS} (F:vh ls ps) (h:GF K t H H' A ls ps m S0 S) (mv:Ht (A.cells ls ps) H' H'') {p:PD} {dd:jc} (hp:p∈ps) (hm:S.d p.name <m) (hd:bW S p=some dd) (W:jK K t H'' A ls ps (jh S p.name dd)):GF K t H H'' A ls ps m S0 (jh S p.name dd):=by
 have e:=Rp mv
 have sd:=Iz (ps:=ps) (S:=S) (dd:=dd) F.pnd hp
 refine⟨by rw [e];exact h.net,W,by rw [e];exact h.con,h.rch.snoc hp hm hd,?_,fun p' hp'=>?_⟩
 ·have:=Pz F h.ok hp hd
  rw [sd]
  exact⟨this.vb,this.rb,this.dl,this.len,this.rl⟩
 ·show(if p'.name=p.name then S.d p'.name+1 else S.d p'.name)<=m
  by_cases e:p'.name=p.name
  ·rw [if_pos e,e];omega
  ·rw [if_neg e];exact h.dm p' hp'
inductive vY (K:PySem.W.Frag) (t:nj) (vs:List V) (H:Hp) (Q:VK):Prop where
 | mk:∀(H0:Hp) (A:xg) (ls:List aK) (ps:List PD) (S0 S:FS) (p:PD) (m:Nat),vs=[.ref A.f,.str p.name,.int (m:Nat)]->GF K t H0 H A ls ps m S0 S->vh ls ps->p∈ps->m<=300->(∀H' S' (c:Nat),GF K t H0 H' A ls ps m S0 S'->(c=0->S'=S)->(0 <c->j0 ps S <j0 ps S')->j0 ps S<=j0 ps S'->(S'.d p.name <m->bW S' p=none)->Q (.int (c:Nat)) H')->vY K t vs H Q
@[irreducible] noncomputable def oG (K:PySem.W.Frag) (t:nj):Sp:=fun vs H Q _=>vY K t vs H Q
theorem Ho (T:Txt w K mg t):FO P w K mg base 6 t.Bu ["flow", "name", "most"] (oG K t):=by
 have sc:=T.u9.sc ["flow", "name", "most", "times", "deed"]
 refine T.u9.F.ok sc (fun vs H Q E h=>?_) (fun cdv A outer s H vs Q E hr h=>?_)
 ·unfold oG at h
  obtain⟨H0,A,ls,ps,S0,S,p,m,rfl,_⟩:=h
  rfl
 ·unfold oG at h
  obtain⟨H0,A,ls,ps,S0,S,p,m,rfl,I,F,hp,hm,k⟩:=h
  refine⟨_,(az (sN sc 3 aq)
   (az (sN sc 4 (Ji (pv 0) T.aX T.aX.me.2.2.2.2.2.2.1 (wG T) T.nY hr (aa (pv 1) ak aj)))
   (az (sr PassesOwn.never (PW.pt (uZ (jy (K1 (pv 4))) (tX (bj pU (bZ hr.u1 (bI (pv 0) rfl) (pv 1) (fun _ _=>rfl)) (pv 2) (bK _)))))
    (az (bM (Ji (pv 0) T.aX T.aX.me.2.2.2.2.2.2.2.1 (Jf T) T.xG hr (aa (pv 1) (aa (pv 4) ak aj) aj)))
    (az (TY (i:=3) sc.nd rfl (Or.inl rfl) aq Uh)
    (aA (sN sc 4 (Ji (pv 0) T.aX T.aX.me.2.2.2.2.2.2.1 (wG T) T.nY hr (aa (pv 1) ak aj)))))))
   (aA (aR (pv 3)))))),?_⟩
  have hz:sizeLine=16777216:=sizeLine_eq
  have hpl:ps.length * m<=4800:=Nat.le_trans (Nat.mul_le_mul F.p16 hm) (by decide)
  have bnd:∀{H':Hp} {S1:FS},GF K t H0 H' A ls ps m S0 S1->199+2 * j0 ps S1<=100000:=fun J=>by have:=Bs J.dm;omega
  obtain⟨dx,fs,h1,h2⟩:=id I.flow.at'.ex
  have go:∀{H1:Hp} {S1:FS} {c:Nat} {dv:V},GF K t H0 H1 A ls ps m S0 S1->(c=0->S1=S)->(0 <c->j0 ps S <j0 ps S1)->j0 ps S<=j0 ps S1->S1.d p.name=S.d p.name+c->((dv=.non/\bW S1 p=none)∨∃U dd,dv=.ref U/\bW S1 p=some dd/\pP (A.cells ls ps) H1 U dd)->∃(S':FS) (c':Nat) (dv':V),[some (V.ref A.f),some (.str p.name),some (.int (m:Nat)),some (.int (c:Nat)),some dv]=[some (V.ref A.f),some (.str p.name),some (.int (m:Nat)),some (.int (c':Nat)),some dv']/\GF K t H0 H1 A ls ps m S0 S'/\(c'=0->S'=S)/\(0 <c'->j0 ps S <j0 ps S')/\j0 ps S<=j0 ps S'/\S'.d p.name=S.d p.name+c'/\((dv'=.non/\bW S' p=none)∨∃U dd,dv'=.ref U/\bW S' p=some dd/\pP (A.cells ls ps) H1 U dd):=fun {H1 S1 c dv} a b c1 d e f=>⟨S1,c,dv,rfl,a,b,c1,d,e,f⟩
  have lp:∀{H1:Hp} {dv:V},GF K t H0 H1 A ls ps m S0 S->((dv=.non/\bW S p=none)∨∃U dd,dv=.ref U/\bW S p=some dd/\pP (A.cells ls ps) H1 U dd)->Jy (Wv (tB (S8 (zx 4))) (Pq (Vm (QM fun i j=>V.bl (decide (i <j))) (SQ (Uu K (zx 0) "done") (zx 1)) (zx 2)))) (ur (Td (DP t.cj "do" (jY K t) [] E0 (zx 0) (Ld (zx 1) (Ld (zx 4) JX)))) (ur (Wh 3 (tC (V.int 1)) (Yl fun i j=>i+j)) (Lz (DP t.cj "deed" (iH K t) [] E0 (zx 0) (Ld (zx 1) JX)) (uw 4)))) { nx:=Wy (zx 3) { nx:=fun x H'=>Q V.non H',rt:=Q },rt:=Q } [some (V.ref A.f),some (.str p.name),some (.int (m:Nat)),some (.int ((0:Nat):Int)),some dv] H1:=fun {H1 dv} I1 hdv=>by
   refine rR (fun σ H'=>∃(S':FS) (c':Nat) (dv':V),σ=[some (V.ref A.f),some (.str p.name),some (.int (m:Nat)),some (.int (c':Nat)),some dv']/\GF K t H0 H' A ls ps m S0 S'/\(c'=0->S'=S)/\(0 <c'->j0 ps S <j0 ps S')/\j0 ps S<=j0 ps S'/\S'.d p.name=S.d p.name+c'/\((dv'=.non/\bW S' p=none)∨∃U dd,dv'=.ref U/\bW S' p=some dd/\pP (A.cells ls ps) H' U dd)) (fun(σ:St) (_:Hp)=>match σ[3]? with | some (some (V.int c))=>m - c.toNat | _=>0) (go I1 (fun _=>rfl) (fun z=>absurd z (Nat.lt_irrefl 0)) (Nat.le_refl _) rfl hdv) ?_ ?_
   ·rintro σ H2 ⟨S1,c,dv,rfl,I2,c0,c1,hle,hdc,hdv⟩
    rcases hdv with ⟨rfl,hn⟩ | ⟨U,dd,rfl,hd,hA⟩
    ·exact⟨_,rfl,_,rfl,dI (dI ⟨_,rfl,k H2 S1 c I2 c0 c1 hle fun _=>hn⟩)⟩
    obtain⟨dx,fs,h1,h2⟩:=id I2.flow.at'.ex
    refine⟨_,rfl,_,rfl,ji ⟨_,rfl,A.f,_,dx,fs,_,rfl,h1,T.aX.c,T.aX.na.2.2.2.2.1,h2.has ("done",.ref A.D) (by simp),_,rfl,A.D,_,rfl,(by rw [<-iQ (k:=fun x=>(S1.d x:Int)) F.pnd hp];exact dZ.k (k:=Sum.inr p.name) I2.flow.done),_,rfl,_,_,rfl,rfl,_,rfl,jt (fun hlt=>?_) (fun hge=>?_)⟩⟩
    ·have hlt:S1.d p.name <m:=by simpa using hlt
     refine⟨_,rfl,A.f,dx,fs,rfl,h1,h2.no _ (by decide +kernel),_,rfl,_,rfl,Xa F I2.flow hp (fun l hl=>I2.ok.len l hl) (bnd I2) hA (Gs F hp hd) fun H3 mv W3=>?_⟩
     have I3:=I2.work F mv hp hlt hd W3
     have sd:=Iz (ps:=ps) (S:=S1) (dd:=dd) F.pnd hp
     have d3:(jh S1 p.name dd).d p.name=S.d p.name+(c+1):=by
      show(if p.name=p.name then S1.d p.name+1 else _)=_
      rw [if_pos rfl]
      omega
     obtain⟨dx,fs,h1,h2⟩:=id I3.flow.at'.ex
     have ms:m - (c+1) <m - c:=by omega
     refine⟨_,rfl,_,_,rfl,rfl,_,rfl,A.f,dx,fs,rfl,h1,h2.no _ (by decide +kernel),_,rfl,Ke (I3.net.same dF) I3.flow hp I3.ok (fun hn H4 s4=>?_) (fun dd' hd' H4 U' s4 nU' hA'=>?_)⟩
     ·exact⟨⟨_,c+1,_,rfl,I3.mv s4,(fun z=>absurd z (Nat.succ_ne_zero _)),fun _=>by omega,by omega,d3,.inl ⟨rfl,hn⟩⟩,ms⟩
     ·exact⟨⟨_,c+1,_,rfl,I3.mv s4,(fun z=>absurd z (Nat.succ_ne_zero _)),fun _=>by omega,by omega,d3,.inr ⟨U',dd',rfl,hd',hA'⟩⟩,ms⟩
    ·have hge:¬S1.d p.name <m:=fun z=>hge (by simpa using z)
     exact⟨_,rfl,k H2 S1 c I2 c0 c1 hle fun z=>absurd z hge⟩
   ·intro σ H' Q' Q'' hQ hq
    obtain⟨v,e,b,e2,hq⟩:=hq
    refine⟨v,e,b,e2,?_⟩
    split at hq
    ·rename_i hb
     rw [if_pos hb]
     obtain⟨x1,x2,x3,x4,x5,x6,x7,x8,x9,x10,x11,x12,x13,x14,x15,x16,x17,x18,x19,x20,x21,x22,x23,x24,x25,x26,hq⟩:=hq
     exact⟨x1,x2,x3,x4,x5,x6,x7,x8,x9,x10,x11,x12,x13,x14,x15,x16,x17,x18,x19,x20,x21,x22,x23,x24,x25,x26,hQ _ _ hq⟩
    ·rename_i hb
     rw [if_neg hb]
     exact hQ _ _ hq
  refine⟨_,rfl,A.f,dx,fs,rfl,h1,h2.no _ (by decide +kernel),_,rfl,Ke (I.net.same dF) I.flow hp I.ok (fun hn H1 s1=>?_) (fun dd hd H1 U s1 nU hA=>?_)⟩
  ·exact lp (I.mv s1) (.inl ⟨rfl,hn⟩)
  ·exact lp (I.mv s1) (.inr ⟨U,dd,rfl,hd,hA⟩)
inductive tO (K:PySem.W.Frag) (t:nj) (vs:List V) (H:Hp) (Q:VK):Prop where
 | mk:∀(n rw:Addr) (ls:List aK) (ps:List PD) (RW:List (Str×Addr×List Int)) (m:Nat),vs=[.ref n,.ref rw,.int (m:Nat)]->nC K t H n ls ps->vh ls ps->jf H rw RW->vm ps RW->m<=300->(∀H' D pa T,aM H H'->H' D=some (.dK (qQ pa ls))->(∀l∈ls,H' (pa l.name)=some (.lst ((T.ev l.name).map V.int)))->(∀a∈D:: ls.map (fun l=>pa l.name),H a=none)->(D:: ls.map (fun l=>pa l.name)).Nodup->ug ps m (d7 ls ps RW) T->Done ps m T->Q (.ref D) H')->tO K t vs H Q
@[irreducible] noncomputable def jm (K:PySem.W.Frag) (t:nj):Sp:=fun vs H Q _=>tO K t vs H Q
theorem uy (T:Txt w K mg t):FO P w K mg base 7 t.wN ["net", "rows", "most"] (jm K t):=by
 have sc:=T.lQ.sc ["net", "rows", "most", "flow", "busy", "name"]
 refine T.lQ.F.ok sc (fun vs H Q E h=>?_) (fun cdv A outer s H vs Q E hr h=>?_)
 ·unfold jm at h
  obtain⟨n,rw,ls,ps,RW,m,rfl,_⟩:=h
  rfl
 ·unfold jm at h
  obtain⟨n,rw,ls,ps,RW,m,rfl,N,F,hrw,hO,hm,k⟩:=h
  refine⟨_,(az (bO (PW.pt (qd (gM (fH (dY (sE T) T.mC hr (aa (pv 2) ak aj)))) (j4 (gM (rD qR qR aq (pv 2) (iw (by rfl) T.zu))))))
    (aA dW)
    bc)
   (az (bM (dY (Gm T) T.tK hr (aa (pv 0) (aa (pv 1) ak aj) aj)))
   (az (sN sc 3 (iK (T.aX.M T.jr) (xZ T) (hr.mono (by decide)) (by rfl) T.aX.m T.jr.b .nil jd (aa (pv 0) (aa (pv 1) ak aj) aj)))
   (az (sN sc 4 gm)
   (az (sr PassesOwn.never (fH (pv 4))
    (az (sN sc 4 gm)
    (aA (eN PassesOwn.never rfl (cW (Tv (pv 0) T.bD T.bD.me.2.2.1 (jJ T) T.fZ hr)) (gN sc 5)
     (aA (eX (bO (bj Ds (dY (Ho T) T.u9 hr (aa (pv 3) (aa (pv 5) (aa (pv 2) ak aj) aj) aj)) aq (bK _))
      (aA (sN sc 4 gm))
      bc)))))))
   (aA (aR (bI (pv 3) rfl)))))))),?_⟩
  have hz:sizeLine=16777216:=sizeLine_eq
  have p16:=F.p16
  have hpl:ps.length * m<=4800:=Nat.le_trans (Nat.mul_le_mul p16 hm) (by decide)
  refine⟨_,rfl,_, "int",true,rfl,rfl,by decide,rfl,_,rfl,dI ?_⟩
  refine⟨_,rfl,_,_,rfl,rfl,_,rfl,?_⟩
  rw [decide_eq_true (show(0:Int)<=(m:Int) by omega)]
  refine ji ⟨_,_,rfl,rfl,_,rfl,?_⟩
  rw [decide_eq_true (show(m:Int)<=300 by omega)]
  refine dI ?_
  refine⟨_,rfl,_,rfl,n,rw,ls,ps,RW,rfl,N,hrw,hO,fun H1 s1=>?_⟩
  have N1:=N.same s1
  refine⟨_,rfl,_,rfl,fun f dxf nf ndf nef=>?_⟩
  have s2:aM H1 (upd (upd H1 dxf (.own f)) f (.ins t.cj dxf [])):=fun b o e=>by rw [aG (aF e nf),aG (aF e ndf)];exact e
  have ef:(upd (upd H1 dxf (.own f)) f (.ins t.cj dxf [])) f=some (.ins t.cj dxf []):=au
  generalize upd (upd H1 dxf (.own f)) f (.ins t.cj dxf [])=H2 at s2 ef ⊢
  refine Ph ef s2 nf N1 (hrw.same s1) fun H3 A eAf eAn b3 W3 fr3=>⟨rfl,?_⟩
  subst eAf
  subst eAn
  have s13:aM H1 H3:=fun b o e=>b3 b o (aF e nf) (s2 _ _ e)
  have fr1:∀a∈A.cells ls ps,H1 a=none:=fun a ha=>s2.free (fr3 a ha)
  have fr0:∀a∈A.cells ls ps,H a=none:=fun a ha=>s1.free (fr1 a ha)
  have I3:GF K t H3 H3 A ls ps m (d7 ls ps RW) (d7 ls ps RW):=by
   refine⟨N1.same fun b o e=>dH (s13 _ _ e) (fun z=>by rw [fr1 b z] at e;cases e),W3,aM.refl _,.refl _,?_,fun p hp=>Nat.zero_le _⟩
   have o:=xM (RW:=RW) F (fun q hq=>hrw.len q hq) hO.bnd
   exact⟨o.vb,o.rb,o.dl,fun l hl=>Nat.le_trans (o.len l hl) (Nat.le_add_right _ _),o.rl⟩
  have sF:∀{H':Hp},aM (bA (A.cells ls ps) H3) (bA (A.cells ls ps) H')->aM H H':=fun s b o e=>dF _ _ (s _ _ (dH (s13 _ _ (s1 _ _ e)) fun z=>by rw [fr0 b z] at e;cases e))
  generalize d7 ls ps RW=S0 at I3 k W3
  have nc:(A.E:: ls.map fun l=>A.ea l.name).Sublist (A.cells ls ps):=.cons₂ _ (.cons _ (.cons _ (.cons _ (.cons _ (List.sublist_append_left _ _)))))
  refine rR (fun σ H'=>∃S bb v5,σ=[some (.ref A.n),some (.ref rw),some (.int (m:Nat)),some (.ref A.f),some (.bl bb),v5]/\GF K t H3 H' A ls ps m S0 S/\(bb=false->Done ps m S)) (fun(σ:St) (H':Hp)=>2 * (ps.length * m - JF (H' A.D))+(match σ[4]? with | some (some (V.bl true))=>1 | _=>0)) ⟨S0,true,_,rfl,I3,by intro z;cases z⟩ ?_ ?_
  ·rintro σ H4 ⟨S,bb,w5,rfl,I4,hd⟩
   obtain⟨dx,fs,h1,h2⟩:=id I4.flow.at'.ex
   cases bb with
   | false=>
    refine⟨_,rfl,_,rfl,dI ⟨_,rfl,A.f,_,dx,fs,_,rfl,h1,T.aX.c,T.aX.na.2.1,h2.has ("ever",.ref A.E) (by simp),?_⟩⟩
    exact k H4 A.E A.ea S (sF I4.con) I4.flow.ever I4.flow.lists (fun a ha=>fr0 a (nc.subset ha)) (I4.flow.nod.sublist nc) I4.rch (hd rfl)
   | true=>
    have c4:=Gi I4.flow.done
    have N4:=I4.net.same dF
    obtain⟨dxn,fsn,R,F0,Pd,Gn,Tk,FL,PL,Wn⟩:=id N4
    refine⟨_,rfl,_,rfl,ji ?_⟩
    refine⟨_,rfl,A.n,dxn,fsn,rfl,Wn.obj,Wn.fl.no _ (by decide +kernel),A.n,ls,ps,rfl,N4,fun L nL=>?_⟩
    have tL:=aB (o:=.lst (ps.map fun p=>V.str p.name)) nL
    have eL:upd H4 L (.lst (ps.map fun p=>V.str p.name)) L=some (.lst (ps.map fun p=>V.str p.name)):=au
    generalize upd H4 L (.lst (ps.map fun p=>V.str p.name))=H5 at tL eL ⊢
    have I5:=I4.mv tL
    have nLc:L∉A.cells ls ps:=I4.flow.cell nL
    have J5:GF K t H5 H5 A ls ps m S0 S:=⟨I5.net,I5.flow,aM.refl _,I5.rch,I5.ok,I5.dm⟩
    refine⟨L,rfl,⟨_,bT.of eL⟩,fu (K:=K) (a:=L) (xs:=ps.map fun p=>V.str p.name) (fun j σ H'=>∃S' bb v5,σ=[some (.ref A.n),some (.ref rw),some (.int (m:Nat)),some (.ref A.f),some (.bl bb),v5]/\GF K t H5 H' A ls ps m S0 S'/\(bb=false->S'=S/\∀p∈ps.take j,S.d p.name <m->bW S p=none)/\(bb=true->j0 ps S <j0 ps S')/\j0 ps S<=j0 ps S') ⟨S,false,w5,rfl,J5,fun _=>⟨rfl,by simp⟩,(fun z=>by cases z),Nat.le_refl _⟩ (fun j σ H' _ ⟨_,_,_,_,J,_⟩=>bT.of (dF _ _ (J.con _ _ (dH eL nLc)))) ?_ ?_⟩
    ·rintro j x σ H6 hx ⟨S',bb,v5,rfl,J6,hf,ht,hle⟩
     rw [List.getElem?_map] at hx
     obtain⟨p,hpj,rfl⟩:=Option.map_eq_some_iff.mp hx
     have hp:=List.mem_of_getElem? hpj
     refine⟨fun σ' H'=>∃S' bb v5,σ'=[some (.ref A.n),some (.ref rw),some (.int (m:Nat)),some (.ref A.f),some (.bl bb),v5]/\GF K t H5 H' A ls ps m S0 S'/\(bb=false->S'=S/\∀p∈ps.take (j+1),S.d p.name <m->bW S p=none)/\(bb=true->j0 ps S <j0 ps S')/\j0 ps S<=j0 ps S',?_,fun _ _ h=>h⟩
     refine⟨_,rfl,_,rfl,_,rfl,?_⟩
     unfold oG
     refine⟨H5,A,ls,ps,S0,S',p,m,rfl,J6,F,hp,hm,fun H7 S7 c J7 c0 c1 hle7 hn7=>⟨_,_,rfl,rfl,_,rfl,jt (fun hc=>?_) (fun hc=>?_)⟩⟩
     ·have hc:0 <c:=by simpa using hc
      have:=c1 hc
      exact⟨S7,true,_,rfl,J7,(fun z=>by cases z),fun _=>by omega,by omega⟩
     ·have hc:c=0:=by
       have:¬0 <c:=fun z=>hc (by simpa using z)
       omega
      have e7:=c0 hc
      refine⟨S7,bb,_,rfl,J7,fun hb=>⟨by rw [e7];exact(hf hb).1,fun p' hp' hlt=>?_⟩,fun hb=>by rw [e7];exact ht hb,by omega⟩
      rw [List.take_succ,hpj,Option.toList_some] at hp'
      rcases List.mem_append.mp hp' with z | z
      ·exact(hf hb).2 p' z hlt
      ·rw [List.mem_singleton] at z
       rw [z,<-(hf hb).1,<-e7] at hlt ⊢
       exact hn7 hlt
    rintro σ H6 ⟨S',bb,v5,rfl,J6,hf,ht,hle⟩
    have c6:=Gi J6.flow.done
    have sm6:=Bs J6.dm
    refine⟨⟨S',bb,_,rfl,⟨J6.net,J6.flow,I5.con.trans J6.con,J6.rch,J6.ok,J6.dm⟩,fun hb p hp hlt=>?_⟩,?_⟩
    ·obtain⟨e,h⟩:=hf hb
     rw [e] at hlt ⊢
     exact h p (by rw [lM,List.take_length];exact hp) hlt
    ·show 2 * (ps.length * m - JF (H6 A.D))+(match some (some (V.bl bb)) with | some (some (V.bl true))=>1 | _=>0) <2 * (ps.length * m - JF (H4 A.D))+1
     rw [c4,c6]
     cases bb with
     | false=>show _+0 <_;omega
     | true=>
      have:=ht rfl
      show _+1 <_
      omega
  ·intro σ H' Q' Q'' hQ hq
   obtain⟨v,e,b,e2,q⟩:=hq
   exact⟨v,e,b,e2,hQ _ _ q⟩
noncomputable def M6 (i:Nat) (hs:List V):Option (List Nat):=if ((places i hs).find? (jN hs)).isSome then none else some (places i hs)
theorem Mu:∀i,i <11->decide (V.str (dM i)=V.str "choose")=decide (i=9):=by decide +kernel
theorem Ux {r:List V}:M6 9 (V.non:: r)=none:=by unfold M6;simp [places,jN]
theorem W0 {n:Int} {r:List V} {v:V} (hv:(V.int n:: r)[1+(n % 2).toNat]?=some v):M6 9 (V.int n:: r)=if v=.non then none else some [0,1+(n % 2).toNat]:=by
 have e:places 9 (V.int n:: r)=[0,1+(n % 2).toNat]:=rfl
 unfold M6
 rw [e]
 have l0:jN (V.int n:: r) 0=false:=by unfold jN;simp
 have l1:jN (V.int n:: r) (1+(n % 2).toNat)=decide (v=.non):=by unfold jN;rw [hv];simp
 rw [List.find?_cons_of_neg (by simp [l0]),List.find?_cons,l1]
 by_cases h:v=.non
 ·simp [h]
 ·simp [h]
theorem Up {hs:List V}:inV .non hs=decide (V.non∈hs):=by
 rw [Bool.eq_iff_iff,decide_eq_true_iff]
 unfold inV
 rw [List.any_eq_true]
 constructor
 ·rintro⟨v,hv,e⟩
  cases v <;> simp [Ma] at e
  exact hv
 ·intro h
  exact⟨_,h,rfl⟩
theorem WK {i:Nat} (h9:i≠9) (hs:List V):M6 i hs=if V.non∈hs then none else some (List.range hs.length):=by
 have e:places i hs=List.range hs.length:=by unfold places;rw [if_neg h9]
 unfold M6
 rw [e]
 by_cases h:V.non∈hs
 ·rw [if_pos h,if_pos]
  obtain⟨j,hj,ej⟩:=List.mem_iff_getElem.mp h
  rw [List.find?_isSome]
  exact⟨j,List.mem_range.mpr hj,by unfold jN;rw [List.getElem?_eq_getElem hj,ej];simp⟩
 ·rw [if_neg h,if_neg]
  rw [List.find?_isSome]
  rintro⟨j,hj,e⟩
  have hj:=List.mem_range.mp hj
  unfold jN at e
  rw [List.getElem?_eq_getElem hj] at e
  exact h (by have:=of_decide_eq_true e;rw [<-Option.some.inj this];exact List.getElem_mem hj)
theorem Dl {H:Hp} {Q:VK} {a b x y kv kw:Int} {Pl:Addr} (hx:x=a) (hy:y=b) (hk:kv=kw) (k:∀H' U L rs,aM H H'->H U=none->H L=none->H' U=some (.tup [.ref Pl,.ref L,.int kw])->H' L=some (.lst (rs.map V.ref))->cL H' rs (uJ [(a,b)])->Q (.ref U) H') {t0 L U:Addr} (n0:H t0=none)
  (nL:(upd H t0 (.tup [.int x,.int y])) L=none) (nU:(upd (upd H t0 (.tup [.int x,.int y])) L (.lst [.ref t0])) U=none):Q (.ref U) (upd (upd (upd H t0 (.tup [.int x,.int y])) L (.lst [.ref t0])) U (.tup [.ref Pl,.ref L,.int kv])):=by
 subst hx hy hk
 have s0:=aB (o:=.tup [.int x,.int y]) n0
 have s1:=aB (o:=.lst [.ref t0]) nL
 have s2:=aB (o:=.tup [.ref Pl,.ref L,.int kv]) nU
 exact k _ U L [t0] (s0.trans (s1.trans s2)) ((s0.trans s1).free nU) (s0.free nL) au (s2 _ _ au) (.cons (s2 _ _ (s1 _ _ au)) .nil)
theorem WR {H:Hp} {Q:VK} {x y u v c d kv:Int} {Pl:Addr} (hy:y=c) (hv:v=d) (k:∀H' U L rs,aM H H'->H U=none->H L=none->H' U=some (.tup [.ref Pl,.ref L,.int kv])->H' L=some (.lst (rs.map V.ref))->cL H' rs (uJ [(x,c),(u,d)])->Q (.ref U) H') {t0 t1 L U:Addr} (n0:H t0=none)
  (n1:(upd H t0 (.tup [.int x,.int y])) t1=none) (nL:(upd (upd H t0 (.tup [.int x,.int y])) t1 (.tup [.int u,.int v])) L=none) (nU:(upd (upd (upd H t0 (.tup [.int x,.int y])) t1 (.tup [.int u,.int v])) L (.lst [.ref t0,.ref t1])) U=none):
  Q (.ref U) (upd (upd (upd (upd H t0 (.tup [.int x,.int y])) t1 (.tup [.int u,.int v])) L (.lst [.ref t0,.ref t1])) U (.tup [.ref Pl,.ref L,.int kv])):=by
 subst hy hv
 have s0:=aB (o:=.tup [.int x,.int y]) n0
 have s1:=aB (o:=.tup [.int u,.int v]) n1
 have s2:=aB (o:=.lst [.ref t0,.ref t1]) nL
 have s3:=aB (o:=.tup [.ref Pl,.ref L,.int kv]) nU
 exact k _ U L [t0,t1] (s0.trans (s1.trans (s2.trans s3))) ((s0.trans (s1.trans s2)).free nU) ((s0.trans s1).free nL) au (s3 _ _ au) (.cons (s3 _ _ (s2 _ _ (s1 _ _ au))) (.cons (s3 _ _ (s2 _ _ au)) .nil))
theorem e9:(10:Int) ^ (9:Int).toNat=1000000000:=by decide
theorem zW:∀{hs:List V},(∀v∈hs,v=.non∨∃n,v=.int n)->V.non∉hs->∃ws:List Int,hs=ws.map V.int
 | [],_,_=>⟨[],rfl⟩
 | v:: r,h,n=>by
  obtain⟨ws,e⟩:=zW (fun u hu=>h u (.tail _ hu)) (fun z=>n (.tail _ z))
  rcases h v (.head _) with rfl | ⟨m,rfl⟩
  ·exact absurd (.head _) n
  ·exact⟨m:: ws,by rw [e];rfl⟩
theorem QV (ws:List Int):((List.range ws.length).map fun q=>Hj (((ws.map V.int)[q]?).getD .non))=ws:=by
 refine List.ext_getElem (by simp) fun j h1 h2=>?_
 rw [List.getElem_map,List.getElem_range,List.getElem?_map,List.getElem?_eq_getElem h2]
 rfl
inductive uO (K:PySem.W.Frag) (vs:List V) (H:Hp) (Q:VK):Prop where
 | mk:∀(i:Nat) (b a:Addr) (ns:List Int) (hs:List V) (kk:Int),vs=[.str (dM i),.ref b,.ref a,.int (cO i:Nat),.int kk]->1<=i->i <11->bT K H b (ns.map V.int)->ns.length=cN i->bT K H a hs->qp i hs->((∀n,V.int n∈hs->0<=n/\n <1000000000))->((M6 i hs=none->∀H',aM H H'->Q .non H'))->(∀qs ws,M6 i hs=some qs->ws=(qs.map fun q=>Hj ((hs[q]?).getD .non))->∀H' U Pl L rs,aM H H'->H U=none->H Pl=none->H L=none->H' U=some (.tup [.ref Pl,.ref L,.int (fW i ws kk)])->H' Pl=some (.lst (qs.map nV))->H' L=some (.lst (rs.map V.ref))->cL H' rs (uJ (cD i ns ws kk))->Q (.ref U) H')->uO K vs H Q
@[irreducible] noncomputable def jM (K:PySem.W.Frag):Sp:=fun vs H Q _=>uO K vs H Q
noncomputable abbrev yZ:List Str:=["_law_kind", "_law_numbers", "_law_heads", "_law_many", "_law_kept", "_law_places"]
theorem Gb (T:Txt w K mg t):FO P w K mg base 1 t.yC ["_law_kind", "_law_numbers", "_law_heads", "_law_many", "_law_kept"] (jM K):=by
 have sc:=T.rC.sc yZ
 refine T.rC.F.ok sc (fun vs H Q E h=>?_) (fun cdv A outer s H vs Q E hr h=>?_)
 ·unfold jM at h
  obtain⟨i,b,a,ns,hs,kk,rfl,_⟩:=h
  rfl
 ·unfold jM at h
  obtain⟨i,b,a,ns,hs,kk,rfl,h1,hi,hN,ln,hS,hO,hB,kn,k⟩:=h
  refine⟨_,(az (bO (bj fX (pv 0) bR (bK _))
    (az (bO (PW.pt (qd (jy (xK (aU aO (pv 2) aq (fun _ _=>rfl)))) (j4 (jy (xK (aU aO (pv 2) (aY cJ aq (aY bY (aU aO (pv 2) aq (fun _ _=>rfl)) aq)) (fun _ _=>rfl)))))))
     (aA (aR qH))
     bc)
    (aA (aR (bL (aa (bu (aa aq (aa (aY cJ aq (aY bY (aU aO (pv 2) aq (fun _ _=>rfl)) aq)) ak bG) ao)) (aa (bu (aa (bL (aa aq (aa (aU aO (pv 2) (aY cJ aq (aY bY (aU aO (pv 2) aq (fun _ _=>rfl)) aq)) (fun _ _=>rfl)) ak aC) ao)) ak bQ)) (aa (pv 4) ak aj) aQ) aQ)))))
    bc)
   (az (bO (bj LR qH (pv 2) (by with_unfolding_all rfl))
    (aA (aR qH))
    bc)
   (az (sN sc 5 (cB (uA rfl) (by rfl) T.mX jL (aa (cB yJ (by rfl) T.j5 Ie (aa (bf b7 (by rfl) T.fj dB (aa (pv 2) ak aj)) ak aW)) ak aW)))
   (az (bO (bj fX (pv 0) bR (bK _))
    (aA (aR (bL (aa (pv 5) (aa (bu (aa (bL (aa (aY bY (aU aO (pv 2) aq (fun _ _=>rfl)) aq) (aa (aU aO (pv 2) aq (fun _ _=>rfl)) ak aC) bG)) ak bQ)) (aa (pv 4) ak aj) aQ) aj))))
    bc)
   (az (bO (bj fX (pv 0) bR (bK _))
    (aA (aR (bL (aa (pv 5) (aa (bu (aa (bL (aa aq (aa (aY bY (aY cJ (pv 4) (aU aO (pv 2) aq (fun _ _=>rfl))) (aY xR aq aq)) ak bG) ao)) ak bQ)) (aa (aY bY (aY cJ (pv 4) (aU aO (pv 2) aq (fun _ _=>rfl))) (aY xR aq aq)) ak bG) aQ) aj))))
    bc)
   (az (bO (bj fX (pv 0) bR (bK _))
    (aA (aR (bL (aa (pv 5) (aa (bu (aa (bL (aa aq (aa (aY bY (aY cJ (aY kW (aU aO (pv 1) aq (fun _ _=>rfl)) (aU aO (pv 2) aq (fun _ _=>rfl))) (aU aO (pv 1) aq (fun _ _=>rfl))) (aY xR aq aq)) ak bG) ao)) ak bQ)) (aa (pv 4) ak aj) aQ) aj))))
    bc)
   (az (bO (bj fX (pv 0) bR (bK _))
    (aA (aR (bL (aa (pv 5) (aa (bu (aa (bL (aa aq (aa (aY bY (aY cJ (aU aO (pv 2) aq (fun _ _=>rfl)) (aU aO (pv 2) aq (fun _ _=>rfl))) (aY xR aq aq)) ak bG) ao)) ak bQ)) (aa (pv 4) ak aj) aQ) aj))))
    bc)
   (az (bO (bj fX (pv 0) bR (bK _))
    (aA (aR (bL (aa (pv 5) (aa (bu (aa (bL (aa aq (aa (cB M3 (by rfl) T.Og Jk (aa (tR pU (aU aO (pv 2) aq (fun _ _=>rfl)) (aU aO (pv 2) aq (fun _ _=>rfl)) (bK _)) ak Gy)) ak aW) ao)) ak bQ)) (aa (pv 4) ak aj) aQ) aj))))
    bc)
   (az (bO (bj fX (pv 0) bR (bK _))
    (aA (aR (bL (aa (pv 5) (aa (bu (aa (bL (aa aq (aa (bf (Dy rfl) (by rfl) T.SX Qp (aa (pv 2) ak aj)) ak aW) ao)) (aa (bL (aa aq (aa (bf (Ec rfl) (by rfl) T.Kr Ey (aa (pv 2) ak aj)) ak aW) ao)) ak bQ) bQ)) (aa (pv 4) ak aj) aQ) aj))))
    bc)
   (aA (aR (bL (aa (pv 5) (aa (fM [2] yZ (bz (top 77)) rfl (jz rfl T.j5 (aa (pv 3) ak aj)) (fun _ _ _ _ _=>gh) (fun _ _ _ _ _=>(bL (aa (pv 0) (aa (aU (vC (K:=K) rfl) (pv 1) aq (fun _ _=>rfl)) ak aC) aj)))) (aa (pv 4) ak aj) cP) aj))))))))))))),?_⟩
  have hz:sizeLine=16777216:=sizeLine_eq
  refine⟨_,rfl,rfl,_,rfl,?_⟩
  rw [Mu i hi]
  by_cases h9:i=9
  ·subst h9
   rw [decide_eq_true rfl]
   refine ji ?_
   match hs,hO with
   | [x,y,z],hO=>
   rcases hO.2 x (by simp) with rfl | ⟨m,rfl⟩
   ·exact⟨_,rfl,a,_,0,_,rfl,rfl,hS,rfl,_,rfl,ji (ji (kn Ux _ (aM.refl _)))⟩
   have h0:=Int.emod_nonneg m (show(2:Int)≠0 by decide)
   have h1:=Int.emod_lt_of_pos m (show(0:Int) <2 by decide)
   obtain⟨v,hv⟩:∃v,([V.int m,y,z]:List V)[1+(m % 2).toNat]?=some v:=⟨_,List.getElem?_eq_getElem (by show 1+(m % 2).toNat <3;omega)⟩
   have ev:=W0 (r:=[y,z]) hv
   have ix:Cq [V.int m,y,z] (1+m % 2)=some v:=by
    rw [show(1+m % 2:Int)=((1+(m % 2).toNat:Nat):Int) by omega]
    exact aN hv
   refine⟨_,rfl,a,_,0,_,rfl,rfl,hS,rfl,_,rfl,dI ?_⟩
   refine⟨_,rfl,_,rfl,a,_,0,_,rfl,rfl,hS,rfl,_,_,rfl,rfl,by show(0:Int) <2;decide,_,_,rfl,rfl,a,_,_,v,rfl,rfl,hS,ix,_,rfl,?_⟩
   by_cases hn:v=.non
   ·rw [decide_eq_true hn]
    exact ji (kn (by rw [ev,if_pos hn]) _ (aM.refl _))
   ·rw [decide_eq_false hn]
    refine dI ?_
    obtain⟨x,rfl⟩:∃x,v=.int x:=(hO.2 v (List.mem_of_getElem? hv)).resolve_left hn
    have b8:2<=sizeLine:=by omega
    refine⟨_,rfl,a,_,0,_,rfl,rfl,hS,rfl,_,_,rfl,rfl,by show(0:Int) <2;decide,_,_,rfl,rfl,b8,fun Pl nPl=>?_⟩
    have s1:=aB (o:=.lst [V.int 0,V.int (1+m % 2)]) nPl
    have ePl:upd H Pl (.lst [V.int 0,V.int (1+m % 2)]) Pl=some (.lst ([0,1+(m % 2).toNat].map nV)):=by
     rw [au]
     show some (HO.lst [V.int 0,V.int (1+m % 2)])=some (.lst [nV 0,nV (1+(m % 2).toNat)])
     unfold nV
     rw [show((1+(m % 2).toNat:Nat):Int)=1+m % 2 by omega]
     rfl
    generalize upd H Pl (.lst [V.int 0,V.int (1+m % 2)])=H1 at s1 ePl ⊢
    have hS1:=s1.seq hS
    refine⟨_,rfl,_,rfl,a,_,0,_,rfl,rfl,hS1,rfl,_,_,rfl,rfl,by show(0:Int) <2;decide,_,_,rfl,rfl,a,_,_,_,rfl,rfl,hS1,ix,b8,fun t0 n0=>⟨il,fun L nL=>⟨_,rfl,il,fun U nU=>?_⟩⟩⟩
    refine Dl (a:=0) (b:=x) (kw:=kk) rfl rfl rfl (fun H' U L rs s nU nL eU eL tL=>?_) n0 nL nU
    refine k _ [m,x] (by rw [ev,if_neg (by intro z;cases z)]) ?_ H' U Pl L rs (s1.trans s) (s1.free nU) nPl (s1.free nL) eU (s _ _ ePl) eL tL
    show [m,x]=[Hj (([V.int m,y,z][0]?).getD .non),Hj (([V.int m,y,z][1+(m % 2).toNat]?).getD .non)]
    rw [hv]
    rfl
  rw [decide_eq_false h9]
  refine dI ?_
  have e:=WK h9 hs
  have hfl:hs.all qX=true:=by
   rw [List.all_eq_true]
   intro v hv
   rcases hO.2 v hv with rfl | ⟨_,rfl⟩ <;> rfl
  refine⟨_,rfl,a,_,rfl,.inl hS,rfl,hfl,_,rfl,?_⟩
  rw [Up]
  by_cases hn:V.non∈hs
  ·rw [decide_eq_true hn]
   exact ji (kn (by rw [e,if_pos hn]) _ (aM.refl _))
  ·rw [decide_eq_false hn]
   refine dI ?_
   have h3:hs.length<=3:=by have:=hO.1;have:=yo i;omega
   refine⟨_,rfl,_,hs.length,rfl,.inl ⟨_,hS,rfl⟩,_,rfl,fun r nr=>⟨r,hs.length,rfl,au,by omega,fun Pl nPl=>?_⟩⟩
   have s1:=(aB (o:=.rng 0 (hs.length:Nat)) nr).trans (aB (o:=.lst (MJ hs.length)) nPl)
   have nPl0:=(aB (o:=.rng 0 (hs.length:Nat)) nr).free nPl
   have ePl:upd (upd H r (.rng 0 (hs.length:Nat))) Pl (.lst (MJ hs.length)) Pl=some (.lst ((List.range hs.length).map nV)):=by rw [au];rfl
   generalize upd (upd H r (.rng 0 (hs.length:Nat))) Pl (.lst (MJ hs.length))=H1 at s1 ePl ⊢
   have hS2:=s1.seq hS
   have hN2:=s1.seq hN
   obtain⟨ws,ew⟩:=zW hO.2 hn
   have lw:ws.length=cI i:=by have:=hO.1;rw [ew,lM] at this;exact this
   have bw:Vd ws:=fun v hv=>hB v (by rw [ew];exact List.mem_map.mpr ⟨v,hv,rfl⟩)
   have k2:∀H' U L rs,aM H1 H'->H1 U=none->H1 L=none->H' U=some (.tup [.ref Pl,.ref L,.int (fW i ws kk)])->H' L=some (.lst (rs.map V.ref))->cL H' rs (uJ (cD i ns ws kk))->Q (.ref U) H':=fun H' U L rs s nU nL eU eL tL=>by
    refine k _ ws (by rw [e,if_neg hn]) ?_ H' U Pl L rs (s1.trans s) (s1.free nU) nPl0 (s1.free nL) eU (s _ _ ePl) eL tL
    rw [ew,lM,QV]
   clear e hfl hn kn hB hO k hN
   rw [ew] at hS2
   clear hS ePl s1 nPl0 ew nPl h3
   have b8:2<=sizeLine:=by omega
   have one_le:1<=sizeLine:=by omega
   have thr_le:3<=sizeLine:=by omega
   match i,h1,hi,h9,lw,ln,k2 with
   | 1,_,_,_,lw,ln,k=>
    match ws,lw,ns,ln,hS2,hN2,bw,k with
    | [v],_,ns,_,hS,hN,bw,k=>
    refine⟨_,rfl,rfl,_,rfl,bV (by decide +kernel) ?_⟩
    refine⟨_,rfl,rfl,_,rfl,bV (by decide +kernel) ?_⟩
    refine⟨_,rfl,rfl,_,rfl,bV (by decide +kernel) ?_⟩
    refine⟨_,rfl,rfl,_,rfl,bV (by decide +kernel) ?_⟩
    refine⟨_,rfl,rfl,_,rfl,bV (by decide +kernel) ?_⟩
    refine⟨_,rfl,rfl,_,rfl,bV (by decide +kernel) ?_⟩
    refine⟨_,rfl,_,rfl,((0:Nat):Int),rfl,by decide,by decide,?_⟩
    refine iG (n:=0) (fun j ys H'=>aM H1 H'/\∃rs:List Addr,ys=rs.map V.ref/\rs.length<=j/\(∀r∈rs,H1 r=none)/\cL H' rs (uJ ((List.range j).map fun q=>((q:Nat),v)))) (by omega) ⟨aM.refl _,[],rfl,Nat.le_refl _,by simp,.nil⟩ (fun j ys H' ⟨_,rs,e,e2,_⟩=>by rw [e,lM];exact e2) ?_ ?_
    ·rintro j ys H' hj ⟨s,rs,rfl,lr,nr,tr⟩
     refine yes ⟨_,rfl,_,rfl,a,_,0,_,rfl,rfl,s.seq hS,rfl,b8,fun u nu=>⟨s.trans (aB nu),rs ++ [u],by simp,by rw [lP];exact Nat.succ_le_succ lr,fun r hr=>?_,?_⟩⟩
     ·rcases List.mem_append.mp hr with h | h
      ·exact nr r h
      ·rw [List.mem_singleton.mp h];exact s.free nu
     ·rw [List.range_succ,List.map_append]
      unfold uJ
      rw [List.map_append]
      refine cL.append (cL.same (aB nu) tr) (.cons ?_ .nil)
      rw [au]
      simp
    rintro ys H' ⟨s,rs,rfl,lr,nr,tr⟩ L nL
    have t1:=aB (o:=.lst (rs.map V.ref)) nL
    refine⟨_,rfl,thr_le,fun U nU=>k _ U L rs (s.trans (t1.trans (aB nU))) ((s.trans t1).free nU) (s.free nL) au (aB nU _ _ au) (cL.same (t1.trans (aB nU)) tr)⟩
   | 2,_,_,_,lw,ln,k=>
    match ws,lw,ns,ln,hS2,hN2,bw,k with
    | [v],_,ns,_,hS,hN,bw,k=>
    refine⟨_,rfl,rfl,_,rfl,bV (by decide +kernel) ?_⟩
    refine⟨_,rfl,rfl,_,rfl,bV (by decide +kernel) ?_⟩
    refine⟨_,rfl,rfl,_,rfl,bV (by decide +kernel) ?_⟩
    refine⟨_,rfl,rfl,_,rfl,bV (by decide +kernel) ?_⟩
    refine⟨_,rfl,rfl,_,rfl,bV (by decide +kernel) ?_⟩
    refine⟨_,rfl,rfl,_,rfl,bV (by decide +kernel) ?_⟩
    refine⟨_,rfl,_,rfl,((1:Nat):Int),rfl,by decide,by decide,?_⟩
    refine iG (n:=1) (fun j ys H'=>aM H1 H'/\∃rs:List Addr,ys=rs.map V.ref/\rs.length<=j/\(∀r∈rs,H1 r=none)/\cL H' rs (uJ ((List.range j).map fun q=>((q:Nat),v)))) (by omega) ⟨aM.refl _,[],rfl,Nat.le_refl _,by simp,.nil⟩ (fun j ys H' ⟨_,rs,e,e2,_⟩=>by rw [e,lM];exact e2) ?_ ?_
    ·rintro j ys H' hj ⟨s,rs,rfl,lr,nr,tr⟩
     refine yes ⟨_,rfl,_,rfl,a,_,0,_,rfl,rfl,s.seq hS,rfl,b8,fun u nu=>⟨s.trans (aB nu),rs ++ [u],by simp,by rw [lP];exact Nat.succ_le_succ lr,fun r hr=>?_,?_⟩⟩
     ·rcases List.mem_append.mp hr with h | h
      ·exact nr r h
      ·rw [List.mem_singleton.mp h];exact s.free nu
     ·rw [List.range_succ,List.map_append]
      unfold uJ
      rw [List.map_append]
      refine cL.append (cL.same (aB nu) tr) (.cons ?_ .nil)
      rw [au]
      simp
    rintro ys H' ⟨s,rs,rfl,lr,nr,tr⟩ L nL
    have t1:=aB (o:=.lst (rs.map V.ref)) nL
    refine⟨_,rfl,thr_le,fun U nU=>k _ U L rs (s.trans (t1.trans (aB nU))) ((s.trans t1).free nU) (s.free nL) au (aB nU _ _ au) (cL.same (t1.trans (aB nU)) tr)⟩
   | 3,_,_,_,lw,ln,k=>
    match ws,lw,ns,ln,hS2,hN2,bw,k with
    | [v],_,ns,_,hS,hN,bw,k=>
    refine⟨_,rfl,rfl,_,rfl,bV (by decide +kernel) ?_⟩
    refine⟨_,rfl,rfl,_,rfl,bV (by decide +kernel) ?_⟩
    refine⟨_,rfl,rfl,_,rfl,bV (by decide +kernel) ?_⟩
    refine⟨_,rfl,rfl,_,rfl,bV (by decide +kernel) ?_⟩
    refine⟨_,rfl,rfl,_,rfl,bV (by decide +kernel) ?_⟩
    refine⟨_,rfl,rfl,_,rfl,bV (by decide +kernel) ?_⟩
    refine⟨_,rfl,_,rfl,((2:Nat):Int),rfl,by decide,by decide,?_⟩
    refine iG (n:=2) (fun j ys H'=>aM H1 H'/\∃rs:List Addr,ys=rs.map V.ref/\rs.length<=j/\(∀r∈rs,H1 r=none)/\cL H' rs (uJ ((List.range j).map fun q=>((q:Nat),v)))) (by omega) ⟨aM.refl _,[],rfl,Nat.le_refl _,by simp,.nil⟩ (fun j ys H' ⟨_,rs,e,e2,_⟩=>by rw [e,lM];exact e2) ?_ ?_
    ·rintro j ys H' hj ⟨s,rs,rfl,lr,nr,tr⟩
     refine yes ⟨_,rfl,_,rfl,a,_,0,_,rfl,rfl,s.seq hS,rfl,b8,fun u nu=>⟨s.trans (aB nu),rs ++ [u],by simp,by rw [lP];exact Nat.succ_le_succ lr,fun r hr=>?_,?_⟩⟩
     ·rcases List.mem_append.mp hr with h | h
      ·exact nr r h
      ·rw [List.mem_singleton.mp h];exact s.free nu
     ·rw [List.range_succ,List.map_append]
      unfold uJ
      rw [List.map_append]
      refine cL.append (cL.same (aB nu) tr) (.cons ?_ .nil)
      rw [au]
      simp
    rintro ys H' ⟨s,rs,rfl,lr,nr,tr⟩ L nL
    have t1:=aB (o:=.lst (rs.map V.ref)) nL
    refine⟨_,rfl,thr_le,fun U nU=>k _ U L rs (s.trans (t1.trans (aB nU))) ((s.trans t1).free nU) (s.free nL) au (aB nU _ _ au) (cL.same (t1.trans (aB nU)) tr)⟩
   | 4,_,_,_,lw,ln,k=>
    match ws,lw,ns,ln,hS2,hN2,bw,k with
    | [v],_,[m,m1],_,hS,hN,bw,k=>
    refine⟨_,rfl,rfl,_,rfl,bV (by decide +kernel) ?_⟩
    refine⟨_,rfl,rfl,_,rfl,bV (by decide +kernel) ?_⟩
    refine⟨_,rfl,rfl,_,rfl,pJ rfl ?_⟩
    exact⟨_,rfl,_,rfl,b,_,0,_,rfl,rfl,hN,rfl,_,rfl,a,_,0,_,rfl,rfl,hS,rfl,_,_,rfl,rfl,Wq bw (by simp),_,rfl,b,_,1,_,rfl,rfl,hN,rfl,_,_,rfl,rfl,_,_,rfl,rfl,⟨by decide,by decide,by decide⟩,_,_,rfl,rfl,by show(0:Int) <10 ^ 9;decide,b8,fun t0 n0=>⟨one_le,fun L nL=>⟨_,rfl,thr_le,fun U nU=>Dl rfl (by rw [e9];rfl) rfl k n0 nL nU⟩⟩⟩
   | 5,_,_,_,lw,ln,k=>
    match ws,lw,ns,ln,hS2,hN2,bw,k with
    | [v],_,[m],_,hS,hN,bw,k=>
    refine⟨_,rfl,rfl,_,rfl,bV (by decide +kernel) ?_⟩
    refine⟨_,rfl,rfl,_,rfl,pJ rfl ?_⟩
    exact⟨_,rfl,_,rfl,_,rfl,a,_,0,_,rfl,rfl,hS,rfl,_,_,rfl,rfl,_,_,rfl,rfl,⟨by decide,by decide,by decide⟩,_,_,rfl,rfl,by show(0:Int) <10 ^ 9;decide,b8,fun t0 n0=>⟨one_le,fun L nL=>⟨_,rfl,_,rfl,a,_,0,_,rfl,rfl,(((aB n0).trans (aB nL)).seq hS),rfl,_,_,rfl,rfl,_,_,rfl,rfl,⟨by decide,by decide,by decide⟩,_,_,rfl,rfl,by show(0:Int) <10 ^ 9;decide,thr_le,fun U nU=>Dl rfl (by rw [e9];rfl) (by rw [e9];rfl) k n0 nL nU⟩⟩⟩
   | 6,_,_,_,lw,ln,k=>
    match ws,lw,ns,ln,hS2,hN2,bw,k with
    | [v,v1],_,ns,_,hS,hN,bw,k=>
    refine⟨_,rfl,rfl,_,rfl,bV (by decide +kernel) ?_⟩
    refine⟨_,rfl,rfl,_,rfl,bV (by decide +kernel) ?_⟩
    refine⟨_,rfl,rfl,_,rfl,bV (by decide +kernel) ?_⟩
    refine⟨_,rfl,rfl,_,rfl,pJ rfl ?_⟩
    exact⟨_,rfl,_,rfl,a,_,0,_,rfl,rfl,hS,rfl,_,rfl,a,_,1,_,rfl,rfl,hS,rfl,_,_,rfl,rfl,_,_,rfl,rfl,⟨by decide,by decide,by decide⟩,_,_,rfl,rfl,by show(0:Int) <10 ^ 9;decide,b8,fun t0 n0=>⟨one_le,fun L nL=>⟨_,rfl,thr_le,fun U nU=>Dl rfl (by rw [e9];rfl) rfl k n0 nL nU⟩⟩⟩
   | 7,_,_,_,lw,ln,k=>
    match ws,lw,ns,ln,hS2,hN2,bw,k with
    | [v,v1],_,ns,_,hS,hN,bw,k=>
    refine⟨_,rfl,rfl,_,rfl,bV (by decide +kernel) ?_⟩
    refine⟨_,rfl,rfl,_,rfl,bV (by decide +kernel) ?_⟩
    refine⟨_,rfl,rfl,_,rfl,bV (by decide +kernel) ?_⟩
    refine⟨_,rfl,rfl,_,rfl,bV (by decide +kernel) ?_⟩
    refine⟨_,rfl,rfl,_,rfl,pJ rfl ?_⟩
    exact⟨_,rfl,_,rfl,a,_,0,_,rfl,rfl,hS,rfl,_,rfl,a,_,1,_,rfl,rfl,hS,rfl,_,_,rfl,rfl,.inr ⟨_,rfl,b8,fun t0 n0=>⟨one_le,fun L nL=>⟨_,rfl,thr_le,fun U nU=>Dl rfl (by show(if decide (v <v1)=true then(1:Int) else 0)=if v <v1 then 1 else 0;by_cases z:v <v1 <;> simp [z]) rfl k n0 nL nU⟩⟩⟩⟩
   | 8,_,_,_,lw,ln,k=>
    match ws,lw,ns,ln,hS2,hN2,bw,k with
    | [v,v1],_,ns,_,hS,hN,bw,k=>
    refine⟨_,rfl,rfl,_,rfl,bV (by decide +kernel) ?_⟩
    refine⟨_,rfl,rfl,_,rfl,bV (by decide +kernel) ?_⟩
    refine⟨_,rfl,rfl,_,rfl,bV (by decide +kernel) ?_⟩
    refine⟨_,rfl,rfl,_,rfl,bV (by decide +kernel) ?_⟩
    refine⟨_,rfl,rfl,_,rfl,bV (by decide +kernel) ?_⟩
    refine⟨_,rfl,rfl,_,rfl,pJ rfl ?_⟩
    exact⟨_,rfl,_,rfl,a,v,v1,rfl,hS,b8,fun t0 n0=>⟨_,rfl,a,v,v1,rfl,(aB n0).seq hS,b8,fun t1 n1=>⟨b8,fun L nL=>⟨_,rfl,thr_le,fun U nU=>WR rfl rfl k n0 n1 nL nU⟩⟩⟩⟩
   | 10,_,_,_,lw,ln,k=>
    match ws,lw,ns,ln,hS2,hN2,bw,k with
    | [v,v1],_,ns,_,hS,hN,bw,k=>
    refine⟨_,rfl,rfl,_,rfl,pJ rfl ?_⟩
    exact⟨_,rfl,_,rfl,a,_,0,_,rfl,rfl,hS,rfl,_,_,rfl,rfl,by show(0:Int) <2;decide,_,rfl,a,_,1,_,rfl,rfl,hS,rfl,b8,fun t0 n0=>⟨one_le,fun L nL=>⟨_,rfl,thr_le,fun U nU=>Dl rfl rfl rfl k n0 nL nU⟩⟩⟩
noncomputable def zz (RW:List (Str×Addr×List Int)) (x:Str) (a:Addr) (ws:List Int):List (Str×Addr×List Int):=if x∈RW.map (·.1) then RW.map (fun q=>if q.1=x then(x,a,ws) else q) else RW ++ [(x,a,ws)]
theorem Tu (RW:List (Str×Addr×List Int)) (x:Str) (a:Addr) (ws:List Int):cT (zz RW x a ws)=putK (cT RW) (Sum.inr x) (.ref a):=by
 unfold zz putK
 by_cases h:x∈RW.map (·.1)
 ·rw [if_pos h,if_pos (by
   obtain⟨q,hq,rfl⟩:=List.mem_map.mp h
   exact List.any_eq_true.mpr ⟨_,List.mem_map.mpr ⟨q,hq,rfl⟩,by simp⟩)]
  unfold cT
  rw [List.map_map,List.map_map]
  refine List.map_congr_left fun q _=>?_
  by_cases e:q.1=x
  ·simp [e]
  ·simp [e]
 ·rw [if_neg h,if_neg (by
   intro z
   obtain⟨kv,hk,e⟩:=List.any_eq_true.mp z
   obtain⟨q,hq,rfl⟩:=List.mem_map.mp hk
   exact h (List.mem_map.mpr ⟨q,hq,by simpa using e⟩))]
  unfold cT
  rw [List.map_append]
  rfl
theorem O5 {RW:List (Str×Addr×List Int)} {x:Str} {a:Addr} {ws:List Int} {q:Str×Addr×List Int} (h:q∈zz RW x a ws):q∈RW∨q=(x,a,ws):=by
 unfold zz at h
 split at h
 ·obtain⟨q',hq,e⟩:=List.mem_map.mp h
  split at e
  ·exact .inr e.symm
  ·exact .inl (by rw [<-e];exact hq)
 ·rcases List.mem_append.mp h with h | h
  ·exact .inl h
  ·exact .inr (List.mem_singleton.mp h)
theorem QG {RW:List (Str×Addr×List Int)} {x:Str} {a:Addr} {ws:List Int} (nd:(RW.map (·.1)).Nodup):((zz RW x a ws).map (·.1)).Nodup:=by
 unfold zz
 split
 ·have e:(RW.map (fun q=>if q.1=x then(x,a,ws) else q)).map (·.1)=RW.map (·.1):=by
   rw [List.map_map]
   refine List.map_congr_left fun q _=>?_
   by_cases h:q.1=x
   ·simp [h]
   ·simp [h]
  rw [e]
  exact nd
 ·rename_i h
  rw [List.map_append,List.nodup_append]
  exact⟨nd,by simp,fun b hb c hc z=>h (by simp at hc;rw [<-hc,<-z];exact hb)⟩
theorem Pa (RW:List (Str×Addr×List Int)) (x:Str) (a:Addr) (ws:List Int):(zz RW x a ws).length<=RW.length+1:=by
 unfold zz
 split
 ·rw [lM];omega
 ·simp
structure vU (B H:Hp) (d:Addr) (m:Nat) (G:List V) (RW:List (Str×Addr×List Int)):Prop where
 at':jf H d RW
 bnd:∀q∈RW,∀v∈q.2.2,0<=v/\v <1000000000
 door:∀q∈RW,V.str q.1∈G
 new:∀q∈RW,B q.2.1=none/\q.2.1≠d
 len:∀q∈RW,q.2.2.length<=m
theorem vU.same {B H H':Hp} {d:Addr} {m:Nat} {G:List V} {RW:List (Str×Addr×List Int)} (h:vU B H d m G RW) (s:aM H H'):vU B H' d m G RW:=⟨h.at'.same s,h.bnd,h.door,h.new,h.len⟩
theorem vU.put {B H:Hp} {d:Addr} {m:Nat} {G:List V} {RW:List (Str×Addr×List Int)} (h:vU B H d m G RW) {x:Str} {a:Addr} {ws:List Int} (ea:H a=some (.lst (ws.map V.int))) (na:B a=none) (nd:a≠d) (hx:V.str x∈G) (hb:∀v∈ws,0<=v/\v <1000000000) (hl:ws.length<=m) (hm:m<=299):
  vU B (upd H d (.dK (putK (cT RW) (Sum.inr x) (.ref a)))) d m G (zz RW x a ws):=by
 refine⟨⟨by rw [Tu];exact au,fun q hq=>?_,QG h.at'.nd,fun q hq=>?_⟩,fun q hq=>?_,fun q hq=>?_,fun q hq=>?_,fun q hq=>?_⟩ <;> rcases O5 hq with hq | rfl
 ·rw [aG (h.new q hq).2];exact h.at'.lists q hq
 ·rw [aG nd];exact ea
 ·exact h.at'.len q hq
 ·show ws.length<=300;omega
 ·exact h.bnd q hq
 ·exact hb
 ·exact h.door q hq
 ·exact hx
 ·exact h.new q hq
 ·exact⟨na,nd⟩
 ·exact h.len q hq
 ·exact hl
theorem GQ {RW:List (Str×Addr×List Int)} {x y:Str} {a:Addr} {ws:List Int} (h:y∈RW.map (·.1)∨y=x):y∈(zz RW x a ws).map (·.1):=by
 unfold zz
 split
 ·rename_i hx
  have e:(RW.map fun q=>if q.1=x then(x,a,ws) else q).map (·.1)=RW.map (·.1):=by
   rw [List.map_map]
   refine List.map_congr_left fun q _=>?_
   show(if q.1=x then(x,a,ws) else q).1=q.1
   split
   ·rename_i e;exact e.symm
   ·rfl
  rw [e]
  rcases h with h | h
  ·exact h
  ·rw [h];exact hx
 ·rw [List.map_append]
  rcases h with h | h
  ·exact List.mem_append.mpr (.inl h)
  ·rw [h];exact List.mem_append.mpr (.inr (by simp))
inductive wV (K:PySem.W.Frag) (vs:List V) (H:Hp) (Q:VK) (E:XK):Prop where
 | mk:∀(a P:Addr) (ns:List Int) (xs:List V) (ps:List PD) (st:Nat),vs=[.ref a,.ref P,.int (st:Nat)]->bT K H a (ns.map V.int)->H P=some (.lst xs)->iT (sZ H) xs ps->ps.length<=16->(∀H' d RW,aM H H'->H d=none->vU H H' d 39 (lC ps "give") RW->RW.length<=16->(∀p∈ps,p.kind=0->p.name∈RW.map (·.1))->Q (.ref d) H')->wV K vs H Q E
noncomputable abbrev yz:List Str:=["_law_script", "_law_parts", "_law_start", "_law_rows_here", "_law_part_here", "_law_j", "_law_one", "_law_row", "_law_cell_here"]
theorem Ff (T:Txt w K mg t):FO P w K mg base 3 t.yW ["_law_script", "_law_parts", "_law_start"] (wV K):=by
 have sc:=T.rJ.sc yz
 refine T.rJ.F.ok sc ln (fun _ _ _ _ H vs Q E hr h=>?_)
 obtain⟨a,P,ns,xs,ps,st,rfl,hS,eP,aP,p16,k⟩:=h
 refine⟨_,(az (sN sc 3 gW)
  (az (eN PassesOwn.never rfl (cW (pv 1)) (gN sc 4)
   (aA (eX (bO (bj fX (aU dw (pv 4) aq (fun _ _=>rfl)) bR (bK _))
    (az (sN sc 5 (bf xx (by rfl) T.fj dB (aa (pv 3) ak aj)))
    (az (sN sc 6 (dY (iI T) T.gr hr (aa (pv 0) (aa (pv 2) ak aj) aj)))
    (az (pR (i:=7) [5,6] yz (bz (top 78)) rfl sc.nd rfl (jz rfl T.j5 (aa (aY bY (dY (bh T) T.bx hr (aa (pv 6) (aa (aY cJ aq (pv 5)) ak bG) aj)) aq) ak bG)) (fun _ _ _ _ _=>gh) (fun _ _ _ _ _=>(dY (gK T) T.fQ hr (aa (pv 2) (aa (aY cJ (aY cJ aq (pv 0)) (aY kW aq (pv 1))) ak bG) aj))))
    (az (eN PassesOwn.never rfl (cW (p8 zF (pv 0) (n8 (pv 2)) (n8 (aY cJ (pv 2) aq)))) (gN sc 8)
     (aA (eX (bO (bj Ds (aY bY (dY (bh T) T.bx hr (aa (pv 8) (aa (aY cJ aq (pv 5)) ak bG) aj)) aq) aq (bK _))
      (aA (bM (Ft (pv 7) (aa (dY (gK T) T.fQ hr (aa (pv 8) (aa (pv 5) ak aj) aj)) ak aW))))
      bc))))
    (aA (fL hr.u1 (pv 3) (aU dw (pv 4) aq (fun _ _=>rfl)) (pv 7) rfl))))))
    bc))))
  (aA (aR (pv 3))))),?_⟩
 have hz:sizeLine=16777216:=sizeLine_eq
 have xl:=aP.length
 refine fun d nd=>?_
 have s1:=aB (o:=.dK []) nd
 have ed:upd H d (.dK []) d=some (.dK []):=au
 have sB:aM H (bA [d] (upd H d (.dK []))):=fun b o e=>dH (s1 _ _ e) (by simpa using aF e nd)
 generalize upd H d (.dK [])=H1 at s1 ed sB ⊢
 have upB:∀{H':Hp} {o:HO},aM H H'->aM H (upd H' d o):=fun s b o e=>by rw [aG (aF e nd)];exact s b o e
 refine⟨_,rfl,P,rfl,⟨_,bT.of (s1 _ _ eP)⟩,fu (K:=K) (a:=P) (xs:=xs) (fun j σ H'=>(∃v4 v5 v6 v7 v8,σ=[some (.ref a),some (.ref P),some (.int st),some (.ref d),v4,v5,v6,v7,v8])/\aM H H'/\∃RW,vU H H' d 39 (lC ps "give") RW/\RW.length<=j/\(∀p∈ps.take j,p.kind=0->p.name∈RW.map (·.1))) ⟨⟨none,none,none,none,none,rfl⟩,s1,[],⟨⟨ed,by simp,by simp,by simp⟩,by simp,by simp,by simp,by simp⟩,Nat.le_refl _,fun p hp=>by simp at hp⟩ (fun j σ H' _ h=>bT.of (h.2.1 _ _ eP)) ?_ ?_⟩
 ·rintro j x σ H2 hx ⟨⟨w4,w5,w6,w7,w8,rfl⟩,s2,RW,hR,lR,hne⟩
  obtain⟨p,hpj,q,a1,a2,a3,rfl,hq,_⟩:=aP.get hx
  have hj:=(List.getElem?_eq_some_iff.mp hx).1
  have hq2:=s2 _ _ hq
  refine⟨fun σ' H'=>(∃v4 v5 v6 v7 v8,σ'=[some (.ref a),some (.ref P),some (.int st),some (.ref d),v4,v5,v6,v7,v8])/\aM H H'/\∃RW,vU H H' d 39 (lC ps "give") RW/\RW.length<=j+1/\(∀p∈ps.take (j+1),p.kind=0->p.name∈RW.map (·.1)),?_,fun _ _ h=>h⟩
  refine⟨_,rfl,q,_,0,_,rfl,rfl,fY.of hq2,aN (j:=0) rfl,rfl,_,rfl,jt (fun hg=>?_) (fun hng=>⟨⟨_,_,_,_,_,rfl⟩,s2,RW,hR,by omega,fun p' hp' h0'=>?_⟩)⟩
  rotate_left
  ·rw [List.take_succ,hpj,Option.toList_some] at hp'
   rcases List.mem_append.mp hp' with h | h
   ·exact hne p' h h0'
   ·rw [List.mem_singleton] at h
    subst h
    exact absurd (decide_eq_true (by rw [h0'];rfl)) hng
  have hG:V.str p.name∈lC ps "give" :=List.mem_map.mpr ⟨p,List.mem_filter.mpr ⟨List.mem_of_getElem? hpj,by simpa using of_decide_eq_true hg⟩,rfl⟩
  refine⟨_,rfl,d,_,rfl,.inl hR.at'.dict,?_⟩
  have lK:((cT RW).length:Int)=(RW.length:Int):=by unfold cT;rw [lM]
  refine⟨_,rfl,_,rfl,a,ns,st,rfl,s2.seq hS,?_⟩
  generalize jB ns st=c
  have h0:=Int.emod_nonneg (cH c (7+((cT RW).length:Int))) (show(6:Int)≠0 by decide)
  have h1:=Int.emod_lt_of_pos (cH c (7+((cT RW).length:Int))) (show(0:Int) <6 by decide)
  refine⟨_,rfl,_,rfl,_,_,rfl,rfl,_,_,rfl,_,_,rfl,rfl,by show(0:Int) <6;decide,_,rfl,by omega,by omega,?_⟩
  refine iG (fun i ys H'=>H'=H2/\∃ws:List Int,ys=ws.map V.int/\ws.length=i/\∀v∈ws,0<=v/\v <1000000000) (by omega) ⟨rfl,[],rfl,rfl,by simp⟩ (fun i ys H' ⟨_,ws,e,e2,_⟩=>by rw [e,lM];omega) ?_ ?_
  ·rintro i ys H' hi ⟨rfl,ws,rfl,hw,hB⟩
   refine yes ⟨_,rfl,_,rfl,_,_,rfl,rfl,_,rfl,_,_,rfl,rfl,lE,_,_,rfl,rfl,_,_,rfl,rfl,ws ++ [mD c (30+(0+(i:Int))+9 * ((cT RW).length:Int))],by simp,by simp [hw],fun v hv=>?_⟩
   rcases List.mem_append.mp hv with hv | hv
   ·exact hB v hv
   ·rw [List.mem_singleton] at hv
    subst hv
    exact mz _ _
  rintro ys H' ⟨rfl,ws,rfl,hw,hB⟩ u nu
  have t3:=aB (o:=.lst (ws.map V.int)) nu
  have eu:upd H' u (.lst (ws.map V.int)) u=some (.lst (ws.map V.int)):=au
  have nud:u≠d:=fun z=>by rw [z,hR.at'.dict] at nu;cases nu
  have nuH:=s2.free nu
  have s3:=s2.trans t3
  generalize upd H' u (.lst (ws.map V.int))=H3 at t3 eu s3 ⊢
  refine⟨_,rfl,_,rfl,_,rfl,_,rfl,_,_,rfl,rfl,_,rfl,a,_,rfl,s3.seq hS,fun Lc nLc=>⟨Lc,rfl,⟨_,bT.of au⟩,?_⟩⟩
  obtain⟨cs,ecs,lcs⟩:∃cs:List Int,qZ (ns.map V.int) (some (st:Int)) (some ((st:Int)+34))=cs.map V.int/\cs.length<=34:=by
   refine⟨(ns.drop (min st ns.length)).take (min (st+34) ns.length - min st ns.length),(Bk (ns.map V.int) st (st+34)).trans ?_,?_⟩
   ·rw [List.map_take,List.map_drop,lM]
   ·rw [List.length_take];omega
  rw [ecs]
  have t4:=aB (o:=.lst (cs.map V.int)) nLc
  have eLc:upd H3 Lc (.lst (cs.map V.int)) Lc=some (.lst (cs.map V.int)):=au
  have nLu:Lc≠u:=fun z=>by rw [z,eu] at nLc;cases nLc
  generalize upd H3 Lc (.lst (cs.map V.int))=H4 at t4 eLc ⊢
  have sC:aM H' (bA [u] H4):=fun b o e=>dH (t4 _ _ (t3 _ _ e)) (by simpa using aF e nu)
  have eLcC:bA [u] H4 Lc=some (.lst (cs.map V.int)):=dH eLc (by simpa using nLu)
  have C4:aM (bA [u] H4) H4:=dF
  have cu:bA [u] H4 u=none:=by simp [bA]
  generalize bA [u] H4=C at sC eLcC C4 cu
  have hRC:=hR.same sC
  have hqC:=sC _ _ hq2
  refine fu (K:=K) (a:=Lc) (xs:=cs.map V.int) (fun i σ H5=>(∃v8,σ=[some (.ref a),some (.ref P),some (.int st),some (.ref d),some (.ref q),some (.int ((cT RW).length:Nat)),some (.int c),some (.ref u),v8])/\aM C H5/\∃ws:List Int,H5 u=some (.lst (ws.map V.int))/\ws.length<=5+i/\∀v∈ws,0<=v/\v <1000000000) ⟨⟨_,rfl⟩,C4,ws,t4 _ _ eu,by omega,hB⟩ (fun i σ H5 _ h=>bT.of (h.2.1 _ _ eLcC)) ?_ ?_
  ·rintro i x σ H5 hx ⟨⟨x8,rfl⟩,s5,ws,eu5,lw,hB⟩
   rw [List.getElem?_map] at hx
   obtain⟨cc,hcc,rfl⟩:=Option.map_eq_some_iff.mp hx
   have hi:=(List.getElem?_eq_some_iff.mp hcc).1
   refine⟨fun σ H5=>(∃v8,σ=[some (.ref a),some (.ref P),some (.int st),some (.ref d),some (.ref q),some (.int ((cT RW).length:Nat)),some (.int c),some (.ref u),v8])/\aM C H5/\∃ws:List Int,H5 u=some (.lst (ws.map V.int))/\ws.length<=5+(i+1)/\∀v∈ws,0<=v/\v <1000000000,?_,fun _ _ h=>h⟩
   refine⟨_,rfl,_,rfl,_,_,rfl,rfl,_,_,rfl,_,_,rfl,rfl,by show(0:Int) <4;decide,_,_,rfl,rfl,_,rfl,jt (fun _=>?_) (fun _=>⟨⟨_,rfl⟩,s5,ws,eu5,by omega,hB⟩)⟩
   refine⟨_,rfl,.inl ⟨rfl,_,bT.of eu5⟩,_,rfl,_,rfl,_,_,rfl,u,_,.int _,rfl,rfl,eu5,by rw [lM];omega,⟨_,rfl⟩,fun b o e=>?_,ws ++ [mD cc ((cT RW).length:Int)],by rw [au,List.map_append];rfl,by rw [lP,List.length_singleton];omega,fun v hv=>?_⟩
   ·rw [aG (fun z=>by rw [z,cu] at e;cases e)]
    exact s5 b o e
   ·rcases List.mem_append.mp hv with hv | hv
    ·exact hB v hv
    ·rw [List.mem_singleton] at hv
     subst hv
     exact mz _ _
  rintro σ H5 ⟨⟨x8,rfl⟩,s5,ws,eu5,lw,hB⟩
  rw [lM] at lw
  have hR5:=hRC.same s5
  refine⟨_,rfl,_,rfl,_,rfl,q,_,1,_,rfl,rfl,fY.of (s5 _ _ hqC),aN (j:=1) rfl,d,_,rfl,mj.k (k:=Sum.inr p.name) hR5.at'.dict (by unfold cT;rw [lM];omega),⟨_,_,_,_,_,rfl⟩,upB ((s2.trans sC).trans s5),zz RW p.name u ws,hR5.put eu5 nuH nud hG hB (by omega) (by decide),?_,fun p' hp' h0'=>?_⟩
  rotate_left
  ·rw [List.take_succ,hpj,Option.toList_some] at hp'
   rcases List.mem_append.mp hp' with h | h
   ·exact GQ (.inl (hne p' h h0'))
   ·rw [List.mem_singleton] at h
    subst h
    exact GQ (.inr rfl)
  have:=Pa RW p.name u ws
  omega
 rintro σ H2 ⟨⟨w4,w5,w6,w7,w8,rfl⟩,s2,RW,hR,lR,hne⟩
 rw [xl,List.take_length] at hne
 exact⟨_,rfl,k H2 d RW s2 nd hR (by omega) hne⟩
theorem HR {S:FS} {p:PD} (ok:m6 p):M6 p.kind (aV S p)=if eO p.kind p.ins (aV S p)=.non then some (places p.kind (aV S p)) else none:=by
 have hO:=mG S p ok
 unfold M6 eO
 cases hf:(places p.kind (aV S p)).find? (jN (aV S p)) with
 | none=>simp
 | some j=>
  have hq:j <p.ins.length:=by have:=iJ hO j (List.mem_of_find?_eq_some hf);unfold aV at this;rwa [lM] at this
  simp [List.getElem?_eq_getElem hq]
theorem QX {i:Nat} (h:i≠5) (ns ws:List Int) (k k':Int):cD i ns ws k=cD i ns ws k':=by
 unfold cD
 split <;> first | rfl | exact absurd rfl h
structure FN where
 (P O C Kp:Addr)
 (pa:Str->Addr)
noncomputable def FN.cells (B:FN) (ls:List aK):List Addr:=B.P:: B.O:: B.C:: B.Kp:: ls.map (fun l=>B.pa l.name)
structure zG (H:Hp) (B:FN) (ls:List aK) (ps:List PD) (ev:Str->List Int) (g d:Str->Nat) (kk:Str->Int):Prop where
 past:H B.P=some (.dK (qQ B.pa ls))
 out:H B.O=some (.dK (cG g ls))
 cnt:H B.C=some (.dK (bJ (fun x=>(d x:Int)) ps))
 kept:H B.Kp=some (.dK (bJ kk ps))
 hl:∀l∈ls,H (B.pa l.name)=some (.lst ((ev l.name).map V.int))
 nod:(B.cells ls).Nodup
noncomputable abbrev Vk (H:Hp) (B:FN) (ls:List aK) (ps:List PD) (S:FS) (kk:Str->Int):Prop:=zG H B ls ps S.ev S.g S.d kk
noncomputable def Wl (ps:List PD) (S:FS) (kk:Str->Int):Prop:=∀p∈ps,p.kind=5->kk p.name=S.k p.name
section
variable {H H':Hp} {B:FN} {ls:List aK} {ps:List PD} {ev ev2:Str->List Int} {g g2 d d2:Str->Nat} {kk k2:Str->Int}
theorem zG.same (h:zG H B ls ps ev g d kk) (s:aM H H'):zG H' B ls ps ev g d kk:=⟨s _ _ h.past,s _ _ h.out,s _ _ h.cnt,s _ _ h.kept,fun l hl=>s _ _ (h.hl l hl),h.nod⟩
theorem zG.nd (h:zG H B ls ps ev g d kk):(B.P≠B.O/\B.P≠B.C/\B.P≠B.Kp)/\(B.O≠B.C/\B.O≠B.Kp)/\B.C≠B.Kp/\∀l∈ls,B.pa l.name≠B.P/\B.pa l.name≠B.O/\B.pa l.name≠B.C/\B.pa l.name≠B.Kp:=by
 have n:=h.nod
 unfold FN.cells at n
 simp only [List.nodup_cons,List.mem_cons,not_or] at n
 have m:∀l∈ls,B.pa l.name∈ls.map (fun l=>B.pa l.name):=fun l hl=>List.mem_map.mpr ⟨l,hl,rfl⟩
 exact⟨⟨n.1.1,n.1.2.1,n.1.2.2.1⟩,⟨n.2.1.1,n.2.1.2.1⟩,n.2.2.1.1,fun l hl=>⟨fun z=>n.1.2.2.2 (by rw [<-z];exact m l hl),fun z=>n.2.1.2.2 (by rw [<-z];exact m l hl),fun z=>n.2.2.1.2 (by rw [<-z];exact m l hl),fun z=>n.2.2.2.1 (by rw [<-z];exact m l hl)⟩⟩
theorem zG.o (h:zG H B ls ps ev g d kk) {kvs:List (Key×V)} (e:kvs=cG g2 ls):zG (upd H B.O (.dK kvs)) B ls ps ev g2 d kk:=by
 obtain⟨n1,n2,n3,n4⟩:=h.nd
 exact⟨by rw [aG n1.1];exact h.past,by rw [au,e],by rw [aG (Ne.symm n2.1)];exact h.cnt,by rw [aG (Ne.symm n2.2)];exact h.kept,fun l hl=>by rw [aG (n4 l hl).2.1];exact h.hl l hl,h.nod⟩
theorem zG.c (h:zG H B ls ps ev g d kk) {kvs:List (Key×V)} (e:kvs=bJ (fun x=>(d2 x:Int)) ps):zG (upd H B.C (.dK kvs)) B ls ps ev g d2 kk:=by
 obtain⟨n1,n2,n3,n4⟩:=h.nd
 exact⟨by rw [aG n1.2.1];exact h.past,by rw [aG n2.1];exact h.out,by rw [au,e],by rw [aG (Ne.symm n3)];exact h.kept,fun l hl=>by rw [aG (n4 l hl).2.2.1];exact h.hl l hl,h.nod⟩
theorem zG.k (h:zG H B ls ps ev g d kk) {kvs:List (Key×V)} (e:kvs=bJ k2 ps):zG (upd H B.Kp (.dK kvs)) B ls ps ev g d k2:=by
 obtain⟨n1,n2,n3,n4⟩:=h.nd
 exact⟨by rw [aG n1.2.2];exact h.past,by rw [aG n2.2];exact h.out,by rw [aG n3];exact h.cnt,by rw [au,e],fun l hl=>by rw [aG (n4 l hl).2.2.2];exact h.hl l hl,h.nod⟩
theorem zG.l (h:zG H B ls ps ev g d kk) {l:aK} (hl:l∈ls) {vs:List V} (hv:vs=(ev2 l.name).map V.int) (h2:∀x,x≠l.name->ev2 x=ev x):zG (upd H (B.pa l.name) (.lst vs)) B ls ps ev2 g d kk:=by
 obtain⟨n1,n2,n3,n4⟩:=h.nd
 obtain⟨m1,m2,m3,m4⟩:=n4 l hl
 refine⟨by rw [aG (Ne.symm m1)];exact h.past,by rw [aG (Ne.symm m2)];exact h.out,by rw [aG (Ne.symm m3)];exact h.cnt,by rw [aG (Ne.symm m4)];exact h.kept,fun l' hl'=>?_,h.nod⟩
 have n:=h.nod
 unfold FN.cells at n
 simp only [List.nodup_cons] at n
 by_cases e:l'.name=l.name
 ·rw [e,au,hv]
 ·rw [aG (fun z=>e (by rw [qx n.2.2.2.2 hl' hl z])),h2 _ e]
  exact h.hl l' hl'
theorem zG.new (h:zG H B ls ps ev g d kk) {a:Addr} (ha:H a=none):a∉B.cells ls:=by
 intro z
 have no:∀{b:Addr} {u:HO},H b=some u->a=b->False:=fun e q=>by rw [<-q,ha] at e;cases e
 unfold FN.cells at z
 simp only [List.mem_cons,List.mem_map] at z
 rcases z with z | z | z | z | ⟨l,hl,z⟩
 ·exact no h.past z
 ·exact no h.out z
 ·exact no h.cnt z
 ·exact no h.kept z
 ·exact no (h.hl l hl) z.symm
theorem zG.tup (h:zG H B ls ps ev g d kk) {a:Addr} {v:List V} (ha:H a=some (.tup v)):a∉B.cells ls:=by
 intro z
 have no:∀{b:Addr} {u:HO},H b=some u->(∀x,u≠.tup x)->a=b->False:=fun e n q=>by rw [<-q,ha] at e;exact n _ (Option.some.inj e).symm
 unfold FN.cells at z
 simp only [List.mem_cons,List.mem_map] at z
 rcases z with z | z | z | z | ⟨l,hl,z⟩
 ·exact no h.past (by intro _ z;cases z) z
 ·exact no h.out (by intro _ z;cases z) z
 ·exact no h.cnt (by intro _ z;cases z) z
 ·exact no h.kept (by intro _ z;cases z) z
 ·exact no (h.hl l hl) (by intro _ z;cases z) z.symm
end
theorem Ui (B:FN) (ls:List aK):B.P∈B.cells ls/\B.O∈B.cells ls/\B.C∈B.cells ls/\B.Kp∈B.cells ls/\∀l∈ls,B.pa l.name∈B.cells ls:=by
 unfold FN.cells
 refine⟨by simp,by simp,by simp,by simp,fun l hl=>?_⟩
 simp only [List.mem_cons,List.mem_map]
 exact .inr (.inr (.inr (.inr ⟨l,hl,rfl⟩)))
theorem xT {E:List Addr} {H H' H'':Hp} (a:aM (bA E H) H') (b:aM (bA E H') H''):aM (bA E H) H'':=fun x o e=>b x o (dH (a x o e) fun z=>by unfold bA at e;rw [if_pos z] at e;cases e)
theorem wI {E:List Addr} {H H':Hp} {a:Addr} {o:HO} (s:aM (bA E H) H') (ha:a∈E):aM (bA E H) (upd H' a o):=fun b u e=>by
 rw [aG (fun z=>by rw [z] at e;unfold bA at e;rw [if_pos ha] at e;cases e)]
 exact s b u e
theorem Bc {E:List Addr} {H H':Hp} (s:aM (bA E H) H'):aM (bA E H) (bA E H'):=fun b u e=>dH (s b u e) fun z=>by unfold bA at e;rw [if_pos z] at e;cases e
theorem NT (S:FS) (x:Str):Cq (qZ ((S.ev x).map V.int) (some (S.g x:Int)) (some ((S.g x:Int)+1)) ++ [V.non]) 0=some (gQ S x):=by
 have e:=Bk ((S.ev x).map V.int) (S.g x) (S.g x+1)
 rw [show((S.g x+1:Nat):Int)=(S.g x:Int)+1 by omega] at e
 rw [e]
 refine aN (j:=0) ?_
 unfold gQ
 rw [lM]
 by_cases h:S.g x <(S.ev x).length
 ·rw [Nat.min_eq_left (Nat.le_of_lt h),Nat.min_eq_left h,show S.g x+1 - S.g x=1 by omega,List.getElem?_eq_getElem h]
  rw [List.getElem?_append_left (by rw [List.length_take,List.length_drop,lM];omega),List.getElem?_take_of_lt (by omega),List.getElem?_drop,List.getElem?_map,Nat.add_zero,List.getElem?_eq_getElem h]
  rfl
 ·rw [Nat.min_eq_right (by omega),Nat.min_eq_right (by omega),Nat.sub_self,List.take_zero,show(S.ev x)[S.g x]?=none from List.getElem?_eq_none (by omega)]
  rfl
structure Yk (H:Hp) (cs:List Addr) (S:FS) (p:PD) (U:Addr) (dd:jc) (Pl L:Addr) (rs:List Addr) (qs:List Nat) (wo:List (Int×Int)) (kv:Int):Prop where
 deed:bW S p=some dd
 u:H U=some (.tup [.ref Pl,.ref L,.int kv])
 pl:H Pl=some (.lst (qs.map nV))
 ll:H L=some (.lst (rs.map V.ref))
 tups:cL H rs (uJ wo)
 npl:Pl∉cs
 nl:L∉cs
 tk:dd.tk=qs.map (strAt p.ins)
 gv:dd.gv=wo.map fun pv=>(strAt p.outs pv.1.toNat,pv.2)
 kv5:p.kind=5->kv=dd.kv
 lt:∀q∈qs,q <p.ins.length
 nd:qs.Nodup
 wl:∀pv∈wo,∃o:Nat,pv.1=(o:Int)/\o <p.outs.length
 w2:wo.length<=2
theorem Ri:∀i,i <11->decide (V.str (dM i)=V.str "give")=decide (i=0):=by decide +kernel
theorem M4 {H:Hp} {Q:VK} {Ex:XK} {i:Nat} {b a:Addr} {ns:List Int} {hs:List V} {kk:Int} (h1:1<=i) (hi:i <11) (hN:bT K H b (ns.map V.int)) (ln:ns.length=cN i) (hS:bT K H a hs) (hO:qp i hs) (hB:∀n,V.int n∈hs->0<=n/\n <1000000000) (kn:M6 i hs=none->∀H',aM H H'->Q .non H') (k:∀qs ws,M6 i hs=some qs->ws=(qs.map fun q=>Hj ((hs[q]?).getD .non))->∀H' U Pl L rs,aM H H'->H U=none->H Pl=none->H L=none->H' U=some (.tup [.ref Pl,.ref L,.int (fW i ws kk)])->H' Pl=some (.lst (qs.map nV))->H' L=some (.lst (rs.map V.ref))->cL H' rs (uJ (cD i ns ws kk))->Q (.ref U) H'):jM K [.str (dM i),.ref b,.ref a,.int (cO i:Nat),.int kk] H Q Ex:=by
 unfold jM
 exact⟨i,b,a,ns,hs,kk,rfl,h1,hi,hN,ln,hS,hO,hB,kn,k⟩
inductive sV (vs:List V) (H:Hp) (Q:VK):Prop where
 | mk:∀(b:Nat) (q rw:Addr) (B:FN) (ls:List aK) (ps:List PD) (p:PD) (S:FS) (kk:Str->Int) (RW:List (Str×Addr×List Int)),vs=[.ref q,.ref rw,.ref B.P,.ref B.O,.ref B.C,.ref B.Kp]->Vk H B ls ps S kk->Wl ps S kk->vh ls ps->p∈ps->sZ (bA (B.cells ls) H) (.ref q) p->jf (bA (B.cells ls) H) rw RW->((p.kind=0->p.name∈RW.map (·.1)/\S.r p.name=lU RW p.name))->Mt b ls ps S->b<=90000->((bW S p=none->∀H',aM H H'->Q (.bl false) H'))->(∀dd kk',bW S p=some dd->∀H',aM (bA (B.cells ls) H) (bA (B.cells ls) H')->Vk H' B ls ps (jh S p.name dd) kk'->Wl ps (jh S p.name dd) kk'->Q (.bl true) H')->sV vs H Q
@[irreducible] noncomputable def jj (K:PySem.W.Frag):Sp:=fun vs H Q _=>sV vs H Q
noncomputable abbrev vQ:List Str:=["_law_part_here", "_law_rows_here", "_law_past", "_law_out", "_law_counts", "_law_kept", "_law_kind", "_law_name", "_law_numbers", "_law_ins", "_law_outs", "_law_heads", "_law_deed_here", "_law_place", "_law_value_here"]
theorem Ck (T:Txt w K mg t):FO P w K mg base 2 t.vZ ["_law_part_here", "_law_rows_here", "_law_past", "_law_out", "_law_counts", "_law_kept"] (jj K):=by
 have sc:=T.qM.sc vQ
 refine T.qM.F.ok sc (fun vs H Q E h=>?_) (fun cdv A outer s H vs Q E hr h=>?_)
 ·unfold jj at h
  obtain⟨b,q,rw,B,ls,ps,p,S,kk,RW,rfl,_⟩:=h
  rfl
 ·unfold jj at h
  obtain⟨b,q,rw,B,ls,ps,p,S,kk,RW,rfl,G,kh,F,hp,hq,hrw,hr0,O,hb,kn,k⟩:=h
  refine⟨_,(az (Qj (pv 0) (zN rfl (eQ (gN sc 6) (eQ (gN sc 7) (eQ (gN sc 8) (eQ (gN sc 9) (eQ (gN sc 10) uo)))))))
   (az (pR (i:=11) [2,3] vQ (bz (top 79)) rfl sc.nd rfl (cW (pv 9)) (fun _ _ _ _ _=>gh) (fun _ _ _ _ _=>(aU (vC (K:=K) rfl) (aY JH (p8 (NP (K:=K) rfl) (bZ hr.u1 (pv 1) (pv 0) (fun _ _=>rfl)) (n8 (bZ hr.u1 (pv 2) (pv 0) (fun _ _=>rfl))) (n8 (aY cJ (bZ hr.u1 (pv 2) (pv 0) (fun _ _=>rfl)) aq))) (bu (aa qH ak ao))) aq (fun _ _=>rfl))))
   (az (sN sc 12 qH)
   (az (eX (bO (bj Dh (pv 6) bR (bK _))
    (aA (sN sc 12 (dY (Gb T) T.rC hr (aa (pv 6) (aa (pv 8) (aa (pv 11) (aa (bf b7 (by rfl) T.fj dB (aa (pv 10) ak aj)) (aa (bZ hr.u1 (pv 5) (pv 7) (fun _ _=>rfl)) ak aC) aW) aj) aj) aj))))
    (aA (eX (bO (bj pU (bZ hr.u1 (pv 4) (pv 7) (fun _ _=>rfl)) (bf b7 (by rfl) T.fj dB (aa (bZ hr.u1 (pv 1) (pv 7) (fun _ _=>rfl)) ak aC)) (bK _))
     (aA (sN sc 12 (bL (aa (bu ak) (aa (bu (aa (bL (aa aq (aa (aU aO (bZ hr.u1 (pv 1) (pv 7) (fun _ _=>rfl)) (bZ hr.u1 (pv 4) (pv 7) (fun _ _=>rfl)) (fun _ _=>rfl)) ak aC) ao)) ak bQ)) (aa aq ak ao) aQ) aQ))))
     bc)))))
   (az (bO (jy (xK (pv 12)))
    (aA (aR gm))
    bc)
   (az (eN PassesOwn.never rfl (cW (aU dw (pv 12) aq (fun _ _=>rfl))) (gN sc 13)
    (aA (fL hr.u1 (pv 3) (aU aO (pv 9) (pv 13) (fun _ _=>rfl)) (aY cJ (bZ hr.u1 (pv 3) (aU aO (pv 9) (pv 13) (fun _ _=>rfl)) (fun _ _=>rfl)) aq) rfl)))
   (az (eN PassesOwn.never rfl (cW (aU dw (pv 12) aq (fun _ _=>rfl))) (zN rfl (eQ (gN sc 13) (eQ (gN sc 14) uo)))
    (aA (bM (Ft (bZ hr.u1 (pv 2) (aU aO (pv 10) (pv 13) (fun _ _=>rfl)) (fun _ _=>rfl)) (aa (pv 14) ak aj)))))
   (az (fL hr.u1 (pv 5) (pv 7) (aU dw (pv 12) aq (fun _ _=>rfl)) rfl)
   (az (fL hr.u1 (pv 4) (pv 7) (aY cJ (bZ hr.u1 (pv 4) (pv 7) (fun _ _=>rfl)) aq) rfl)
   (aA (aR gm))))))))))),?_⟩
  have hz:sizeLine=16777216:=sizeLine_eq
  obtain⟨_,a1,a2,a3,eq,q0,q1,q2,q3⟩:=id hq
  cases eq
  have cs:=dF (E:=B.cells ls) (H:=H)
  have ok:=F.pok p hp
  have hO:=mG S p ok
  have h3i:p.ins.length<=3:=by rw [ok.2.2.1];exact yo _
  refine⟨_,rfl,q,_,rfl,fY.of (cs _ _ q0),rfl,_,_,rfl,_,_,rfl,_,_,rfl,_,_,rfl,_,_,rfl,rfl,?_⟩
  refine⟨_,rfl,a2,rfl,⟨_,bT.of (cs _ _ q2)⟩,iZ (K:=K) (a:=a2) (xs:=p.ins.map V.str) (fun j ys H'=>aM H H'/\ys=(p.ins.take j).map (gQ S)) (by rw [lM];omega) ⟨aM.refl _,rfl⟩ (fun j ys H' ⟨_,e⟩=>by rw [e,lM,List.length_take];omega) (fun j ys H' _ h=>h.1.seq (bT.of (cs _ _ q2))) ?_ ?_⟩
  ·rintro j x ys H1 hx ⟨s1,rfl⟩
   rw [List.getElem?_map] at hx
   obtain⟨y,hy,rfl⟩:=Option.map_eq_some_iff.mp hx
   obtain⟨l,hl,rfl⟩:=F.inL hp (List.mem_append.mpr (.inl (List.mem_of_getElem? hy)))
   have G1:=G.same s1
   have lb:=O.len l hl
   have dO:dZ H1 B.O (.str l.name) (some (.int (S.g l.name:Nat))):=MK G1.out (pO F.whole.nod hl)
   refine yes ⟨_,rfl,_,rfl,B.P,_,rfl,MK G1.past (oJ F.whole.nod hl),_,rfl,_,rfl,B.O,_,rfl,dO,_,rfl,_,rfl,_,rfl,B.O,_,rfl,dO,_,_,rfl,rfl,_,rfl,B.pa l.name,_,rfl,bT.of (G1.hl l hl),fun v nv=>?_⟩
   have t2:=aB (o:=.lst (qZ ((S.ev l.name).map V.int) (some (S.g l.name:Int)) (some ((S.g l.name:Int)+1)))) nv
   have lc:(qZ ((S.ev l.name).map V.int) (some (S.g l.name:Int)) (some ((S.g l.name:Int)+1))).length<=100000:=by
    rw [show(S.g l.name:Int)+1=((S.g l.name+1:Nat):Int) by omega,Bk,List.length_take,List.length_drop,lM]
    omega
   have hc:=NT S l.name
   have ev:upd H1 v (.lst (qZ ((S.ev l.name).map V.int) (some (S.g l.name:Int)) (some ((S.g l.name:Int)+1)))) v=some (.lst (qZ ((S.ev l.name).map V.int) (some (S.g l.name:Int)) (some ((S.g l.name:Int)+1)))):=au
   generalize upd H1 v (.lst (qZ ((S.ev l.name).map V.int) (some (S.g l.name:Int)) (some ((S.g l.name:Int)+1))))=H2 at t2 ev ⊢
   generalize qZ ((S.ev l.name).map V.int) (some (S.g l.name:Int)) (some ((S.g l.name:Int)+1))=zs at lc hc ev
   refine⟨il,fun w nw=>⟨v,w,zs,[.non],rfl,rfl,aB nw _ _ ev,au,by show zs.length+1<=sizeLine;omega,fun u nu=>⟨u,_,0,_,rfl,rfl,bT.of au,hc,(((s1.trans t2).trans (aB nw)).trans (aB nu)),?_⟩⟩⟩
   rw [List.take_succ,hy,Option.toList_some,List.map_append]
   rfl
  rintro ys H1 ⟨s1,rfl⟩ hd nhd
  rw [lM,List.take_length]
  have t2:=aB (o:=.lst (p.ins.map (gQ S))) nhd
  have ehd:upd H1 hd (.lst (p.ins.map (gQ S))) hd=some (.lst (aV S p)):=au
  have s2:=s1.trans t2
  generalize upd H1 hd (.lst (p.ins.map (gQ S)))=H2 at t2 ehd s2 ⊢
  have G2:=G.same s2
  refine⟨fun σ' H'=>∃v12,σ'=[some (.ref q),some (.ref rw),some (.ref B.P),some (.ref B.O),some (.ref B.C),some (.ref B.Kp),some (.str (dM p.kind)),some (.str p.name),some (.ref a1),some (.ref a2),some (.ref a3),some (.ref hd),some v12,none,none]/\aM H H'/\((v12=.non/\bW S p=none)∨∃U dd Pl L rs qs wo kv,v12=.ref U/\Yk H' (B.cells ls) S p U dd Pl L rs qs wo kv),?_,?_⟩
  ·refine⟨_,rfl,rfl,_,rfl,?_⟩
   rw [Ri _ ok.1]
   by_cases h0:p.kind=0
   ·rw [decide_eq_true h0]
    refine dI ?_
    obtain⟨hn0,er⟩:=hr0 h0
    have hd0:=O.dl p hp h0
    rcases(hrw.same (cs.trans s2)).get p.name with ⟨e1,_⟩ | ⟨rA,e1,e2,_⟩
    ·obtain⟨r',hr',e'⟩:=List.mem_map.mp hn0
     have ev':cC (cT RW) (Sum.inr r'.1)=some (.ref r'.2.1):=f9 (by rw [jV];exact dh hrw.nd) (List.mem_map.mpr ⟨r',hr',rfl⟩)
     rw [show p.name=r'.1 from e'.symm,ev'] at e1
     cases e1
    have dR:dZ H2 rw (.str p.name) (some (.ref rA)):=MK (hrw.same (cs.trans s2)).dict e1
    have dC:dZ H2 B.C (.str p.name) (some (.int (S.d p.name:Int))):=MK G2.cnt (iQ (k:=fun x=>(S.d x:Int)) F.pnd hp)
    rw [<-er] at e2
    have hlk:eO p.kind p.ins (aV S p)=.non:=by
     have:places p.kind (aV S p)=[]:=by unfold places aV;rw [if_neg (by rw [h0];decide),lM,ok.2.2.1,h0];rfl
     unfold eO
     rw [this]
     rfl
    refine⟨fun σ' H'=>∃v12,σ'=[some (.ref q),some (.ref rw),some (.ref B.P),some (.ref B.O),some (.ref B.C),some (.ref B.Kp),some (.str (dM p.kind)),some (.str p.name),some (.ref a1),some (.ref a2),some (.ref a3),some (.ref hd),some v12,none,none]/\aM H H'/\((v12=.non/\bW S p=none)∨∃U dd Pl L rs qs wo kv,v12=.ref U/\Yk H' (B.cells ls) S p U dd Pl L rs qs wo kv),?_,fun _ _ h=>h⟩
    refine⟨_,rfl,_,rfl,B.C,_,rfl,dC,_,rfl,_,rfl,rw,_,rfl,dR,_,(S.r p.name).length,rfl,.inl ⟨_,bT.of e2,by rw [lM]⟩,_,_,rfl,rfl,_,rfl,jt (fun hlt=>?_) (fun hge=>?_)⟩
    ·have hlt:S.d p.name <(S.r p.name).length:=by simpa using hlt
     have he:sy S p=false:=by unfold sy;simp [h0];omega
     refine⟨il,fun Pl nPl=>?_⟩
     have t3:=aB (o:=.lst []) nPl
     have ePl:upd H2 Pl (.lst []) Pl=some (.lst []):=au
     generalize upd H2 Pl (.lst [])=H3 at t3 ePl ⊢
     have G3:=G2.same t3
     have e3:=t3 _ _ e2
     refine⟨_,rfl,_,rfl,rw,_,rfl,MK ((hrw.same (cs.trans s2)).same t3).dict e1,_,rfl,_,rfl,B.C,_,rfl,MK G3.cnt (iQ (k:=fun x=>(S.d x:Int)) F.pnd hp),rA,_,S.d p.name,.int ((S.r p.name)[S.d p.name]),rfl,rfl,bT.of e3,aN (by rw [List.getElem?_map,List.getElem?_eq_getElem hlt];rfl),il,fun t0 n0=>⟨il,fun L nL=>⟨il,fun U nU=>?_⟩⟩⟩
     have t4:=aB (o:=.tup [.int 0,.int ((S.r p.name)[S.d p.name])]) n0
     have t5:=aB (o:=.lst [.ref t0]) nL
     have t6:=aB (o:=.tup [.ref Pl,.ref L,.int 0]) nU
     have hp0:places p.kind (aV S p)=[]:=by unfold places aV;rw [if_neg (by rw [h0];decide),lM,ok.2.2.1,h0];rfl
     have hws:sJ S p=[(S.r p.name)[S.d p.name]]:=by unfold sJ;rw [if_pos h0,List.getElem?_eq_getElem hlt];rfl
     refine⟨_,rfl,((((s2.trans t3).trans t4).trans t5).trans t6),.inr ⟨U,_,Pl,L,[t0],[],[(0,(S.r p.name)[S.d p.name])],0,rfl,by unfold bW;rw [if_neg (by simp [hlk]),if_neg (by simp [he])],au,t6 _ _ (t5 _ _ (t4 _ _ ePl)),t6 _ _ au,.cons (t6 _ _ (t5 _ _ au)) .nil,G2.new nPl,(G3.same t4).new nL,by rw [hp0],by rw [hws,h0];rfl,(fun h5=>by rw [h0] at h5;cases h5),by simp,List.nodup_nil,fun pv hpv=>?_,by simp⟩⟩
     rw [List.mem_singleton] at hpv
     subst hpv
     exact⟨0,rfl,by rw [ok.2.2.2.1,h0];decide⟩
    ·have hge:¬S.d p.name <(S.r p.name).length:=fun z=>hge (by simpa using z)
     have he:sy S p=true:=by unfold sy;simp [h0];omega
     exact⟨_,rfl,s2,.inl ⟨rfl,Eh he⟩⟩
   ·rw [decide_eq_false h0]
    refine ji ?_
    refine⟨_,rfl,_,rfl,_,rfl,_,rfl,_,p.outs.length,rfl,.inl ⟨_,bT.of (s2 _ _ (cs _ _ q3)),by rw [lM]⟩,_,rfl,_,rfl,B.Kp,_,rfl,MK G2.kept (iQ F.pnd hp),?_⟩
    rw [ok.2.2.2.1]
    refine M4 (by omega) ok.1 (bT.of (s2 _ _ (cs _ _ q1))) ok.2.1 (bT.of ehd) hO (fun n hn=>?_) (fun hn H3 s3=>?_) (fun qs ws hqs ews H3 U Pl L rs s3 nU nPl nL eU ePl eL tL=>?_)
    ·unfold aV at hn
     obtain⟨x,hx,e⟩:=List.mem_map.mp hn
     obtain⟨l,hl,rfl⟩:=F.inL hp (List.mem_append.mpr (.inl hx))
     unfold gQ at e
     cases h:(S.ev l.name)[S.g l.name]? with
     | none=>rw [h] at e;cases e
     | some m=>rw [h] at e;cases e;exact O.vb l hl _ (List.mem_of_getElem? h)
    ·rw [HR ok] at hn
     split at hn
     ·cases hn
     ·rename_i hlk
      exact⟨_,rfl,s2.trans s3,.inl ⟨rfl,z8 hlk⟩⟩
    ·rw [HR ok] at hqs
     split at hqs
     case isFalse=>cases hqs
     rename_i hlk
     cases hqs
     have he:sy S p=false:=by unfold sy;simp [h0]
     have hws:ws=sJ S p:=by rw [ews];unfold sJ;rw [if_neg h0]
     have eo:cD p.kind p.nums ws (kk p.name)=cD p.kind p.nums (sJ S p) (S.k p.name):=by
      rw [hws]
      by_cases h5:p.kind=5
      ·rw [kh p hp h5]
      ·exact QX h5 _ _ _ _
     rw [eo] at tL
     have hlt:∀q∈places p.kind (aV S p),q <p.ins.length:=fun q hq=>by have:=iJ hO q hq;unfold aV at this;rwa [lM] at this
     refine⟨_,rfl,s2.trans s3,.inr ⟨U,_,Pl,L,rs,places p.kind (aV S p),_,_,rfl,by unfold bW;rw [if_neg (by simp [hlk]),if_neg (by simp [he])],eU,ePl,eL,tL,G2.new nPl,G2.new nL,rfl,rfl,fun h5=>by rw [hws,kh p hp h5],hlt,DK,fun pv hpv=>?_,vX _ _ _ _⟩⟩
     obtain⟨o,ho1,ho2⟩:=zE (show p.kind<=10 by have:=ok.1;omega) p.nums (sJ S p) (S.k p.name) pv hpv
     exact⟨o,ho1,by rw [ok.2.2.2.1];exact ho2⟩
  rintro σ' H3 ⟨v12,rfl,s3,hd3⟩
  rcases hd3 with ⟨rfl,hdn⟩ | ⟨U,dd,Pl,L,rs,qs,wo,kv,rfl,M⟩
  ·exact⟨_,rfl,_,rfl,ji (kn hdn _ s3)⟩
  refine⟨_,rfl,_,rfl,dI ?_⟩
  have dok:=Gs F hp M.deed
  have G3:=G.same s3
  obtain⟨c1,c2,c3,c4,c5⟩:=Ui B ls
  have l24:=F.l24
  have p16:=F.p16
  have cs3:aM (bA (B.cells ls) H) (bA (B.cells ls) H3):=Bc (cs.trans s3)
  have ePl:=dH M.pl M.npl
  have eL:=dH M.ll M.nl
  have eU:=dH M.u (G3.tup M.u)
  have nI:p.ins.Nodup:=zJ (F.whole.ins.nodup_iff.mpr F.whole.nod) hp
  have insAt:∀{r:Nat},r∈qs->∃l∈ls,strAt p.ins r=l.name/\Cq (p.ins.map V.str) (r:Int)=some (.str l.name):=fun {r} hr=>by
   have hrl:=M.lt r hr
   obtain⟨l,hl,el⟩:=F.inL hp (List.mem_append.mpr (.inl (List.getElem_mem hrl)))
   exact⟨l,hl,by rw [mK hrl,el],aN (by rw [List.getElem?_map,List.getElem?_eq_getElem hrl,el];rfl)⟩
  refine⟨_,rfl,U,_,0,_,rfl,rfl,fY.of M.u,aN (j:=0) rfl,Pl,rfl,⟨_,bT.of M.pl⟩,fu (K:=K) (a:=Pl) (xs:=qs.map nV) (fun j σ H'=>(∃v13,σ=[some (.ref q),some (.ref rw),some (.ref B.P),some (.ref B.O),some (.ref B.C),some (.ref B.Kp),some (.str (dM p.kind)),some (.str p.name),some (.ref a1),some (.ref a2),some (.ref a3),some (.ref hd),some (.ref U),v13,none])/\aM (bA (B.cells ls) H3) H'/\zG H' B ls ps S.ev (fun x=>if x∈(qs.take j).map (strAt p.ins) then S.g x+1 else S.g x) S.d kk) ⟨⟨none,rfl⟩,dF,by simpa using G3⟩ (fun j σ H' _ h=>bT.of (h.2.1 _ _ ePl)) ?_ ?_⟩
  ·rintro j x σ H4 hx ⟨⟨v13,rfl⟩,s4,W4⟩
   rw [List.getElem?_map] at hx
   obtain⟨r,hr,rfl⟩:=Option.map_eq_some_iff.mp hx
   have hrm:=List.mem_of_getElem? hr
   obtain⟨l,hl,es,ea⟩:=insAt hrm
   have nin:l.name∉(qs.take j).map (strAt p.ins):=fun z=>by
    obtain⟨r',hr',e'⟩:=List.mem_map.mp z
    have h1:=M.lt r' (List.mem_of_mem_take hr')
    have h2:=M.lt r hrm
    rw [<-es,mK h1,mK h2] at e'
    have e2:=(List.getElem_inj nI).mp e'
    obtain⟨i,hi,ei⟩:=List.mem_iff_getElem.mp hr'
    rw [List.length_take] at hi
    rw [List.getElem_take] at ei
    obtain⟨hj1,ej⟩:=List.getElem?_eq_some_iff.mp hr
    have:=(List.getElem_inj M.nd).mp (ei.trans (e2.trans ej.symm))
    omega
   have vO:cC (cG (fun x=>if x∈(qs.take j).map (strAt p.ins) then S.g x+1 else S.g x) ls) (Sum.inr l.name)=some (.int ((S.g l.name:Nat):Int)):=by rw [pO F.whole.nod hl,if_neg nin]
   have i4:=bT.of (K:=K) (s4 _ _ (cs3 _ _ q2))
   refine⟨_,rfl,_,rfl,_,rfl,a2,_,r,_,rfl,rfl,i4,ea,B.O,_,rfl,MK W4.out vO,_,_,rfl,rfl,_,rfl,_,rfl,_,rfl,a2,_,r,_,rfl,rfl,i4,ea,B.O,_,rfl,mj.k (k:=Sum.inr l.name) W4.out (by unfold cG;rw [lM];omega),⟨_,rfl⟩,wI s4 c2,W4.o ?_⟩
   show putK _ (Sum.inr l.name) (.int ((S.g l.name+1:Nat):Int))=_
   rw [Dv _ (List.mem_map.mpr ⟨l,hl,rfl⟩) (S.g l.name+1)]
   congr 1
   funext z
   simp only [List.take_succ,hr,Option.toList_some,List.map_append,List.mem_append,List.map_cons,List.map_nil,List.mem_singleton,es]
   by_cases h3:z=l.name <;> by_cases h4:z∈(qs.take j).map (strAt p.ins) <;> simp [h3,h4]
  rintro σ H4 ⟨⟨v13,rfl⟩,s4,W4⟩
  rw [lM,List.take_length,<-M.tk] at W4
  have cs4:=Bc s4
  have hlr:rs.length=wo.length:=by have:=Paired.length M.tups;unfold uJ at this;rw [lM] at this;exact this
  have pvAt:∀{j:Nat} {r:Addr},rs[j]?=some r->∃pv l,wo[j]?=some pv/\bA (B.cells ls) H4 r=some (.tup [.int pv.1,.int pv.2])/\l∈ls/\strAt p.outs pv.1.toNat=l.name/\Cq (p.outs.map V.str) pv.1=some (.str l.name):=fun {j r} hr'=>by
   have hjl:j <wo.length:=by have:=(List.getElem?_eq_some_iff.mp hr').1;omega
   obtain⟨pv,hpv⟩:∃pv,wo[j]?=some pv:=⟨_,List.getElem?_eq_getElem hjl⟩
   obtain⟨vs2,z1,z2⟩:=wz M.tups hr'
   unfold uJ at z1
   rw [List.getElem?_map,hpv] at z1
   cases z1
   obtain⟨o,ho1,ho3⟩:=M.wl _ (List.mem_of_getElem? hpv)
   obtain⟨l,hl,el⟩:=F.inL hp (List.mem_append.mpr (.inr (List.getElem_mem ho3)))
   refine⟨pv,l,hpv,cs4 _ _ (dH z2 (G3.tup z2)),hl,by rw [ho1,Int.toNat_natCast,mK ho3,el],?_⟩
   rw [ho1,el]
   exact aN (j:=o) (by rw [List.getElem?_map,List.getElem?_eq_getElem ho3];rfl)
  have e0:(fun y=>S.ev y ++ ((dd.gv.take 0).filter fun z=>decide (z.1=y)).map (·.2))=S.ev:=by funext y;simp
  refine⟨_,rfl,U,_,1,_,rfl,rfl,fY.of (s4 _ _ eU),aN (j:=1) rfl,L,rfl,⟨_,bT.of (s4 _ _ eL)⟩,fu (K:=K) (a:=L) (xs:=rs.map V.ref) (fun j σ H'=>(∃v13 v14,σ=[some (.ref q),some (.ref rw),some (.ref B.P),some (.ref B.O),some (.ref B.C),some (.ref B.Kp),some (.str (dM p.kind)),some (.str p.name),some (.ref a1),some (.ref a2),some (.ref a3),some (.ref hd),some (.ref U),v13,v14])/\aM (bA (B.cells ls) H4) H'/\zG H' B ls ps (fun y=>S.ev y ++ ((dd.gv.take j).filter fun z=>decide (z.1=y)).map (·.2)) (jh S p.name dd).g S.d kk) ⟨⟨_,_,rfl⟩,dF,(by rw [e0];exact W4)⟩ (fun j σ H' _ h=>bT.of (h.2.1 _ _ (cs4 _ _ eL))) ?_ ?_⟩
  ·rintro j x σ H5 hx ⟨⟨w1,w2,rfl⟩,s5,W5⟩
   rw [List.getElem?_map] at hx
   obtain⟨u,hu,rfl⟩:=Option.map_eq_some_iff.mp hx
   obtain⟨pv,l,hpv,eu,hl,es,ea⟩:=pvAt hu
   have lb:=O.len l hl
   have e5:=W5.hl l hl
   have tkj:dd.gv.take (j+1)=dd.gv.take j ++ [(l.name,pv.2)]:=by rw [List.take_succ,M.gv,List.getElem?_map,hpv,Option.map_some,Option.toList_some,es]
   refine⟨u,_,rfl,fY.of (s5 _ _ eu),rfl,_,_,rfl,_,_,rfl,rfl,?_⟩
   refine⟨_,rfl,_,rfl,_,rfl,a3,_,pv.1,_,rfl,rfl,bT.of (s5 _ _ (cs4 _ _ (cs3 _ _ q3))),ea,B.P,_,rfl,MK W5.past (oJ F.whole.nod hl),.inl ⟨rfl,_,bT.of e5⟩,_,rfl,B.pa l.name,_,_,rfl,rfl,e5,?_,⟨_,_,rfl⟩,wI s5 (c5 l hl),W5.l hl ?_ ?_⟩
   ·rw [lM,lP,lM]
    have h4:=List.length_filter_le (fun z:Str×Int=>decide (z.1=l.name)) (dd.gv.take j)
    rw [List.length_take] at h4
    have:=dok.g2
    omega
   ·show _=List.map V.int (S.ev l.name ++ _)
    rw [tkj,List.filter_append,List.map_append,List.map_append,List.map_append,List.map_append,List.append_assoc]
    simp
   ·intro y hy
    show S.ev y ++ _=S.ev y ++ _
    rw [tkj,List.filter_append]
    rw [show([(l.name,pv.2)].filter fun z=>decide (z.1=y))=[] by simp [Ne.symm hy],List.append_nil]
  rintro σ H5 ⟨⟨w1,w2,rfl⟩,s5,W5⟩
  rw [lM,hlr,List.take_of_length_le (by rw [M.gv,lM];exact Nat.le_refl _)] at W5
  have cs5:=Bc s5
  have lk:∀k1:Str->Int,(bJ k1 ps).length <sizeLine:=fun k1=>by unfold bJ;rw [lM];omega
  have hpn:p.name∈ps.map (·.name):=List.mem_map.mpr ⟨p,hp,rfl⟩
  refine⟨_,rfl,U,_,2,_,rfl,rfl,fY.of (s5 _ _ (cs4 _ _ eU)),aN (j:=2) rfl,_,rfl,_,rfl,B.Kp,_,rfl,mj.k (k:=Sum.inr p.name) W5.kept (lk _),?_⟩
  have W6:=W5.k (tV kk hpn kv)
  have s6:aM (bA (B.cells ls) H5) (upd H5 B.Kp (.dK (putK (bJ kk ps) (Sum.inr p.name) (.int kv)))):=wI dF c4
  generalize upd H5 B.Kp (.dK (putK (bJ kk ps) (Sum.inr p.name) (.int kv)))=H6 at W6 s6 ⊢
  refine⟨_,rfl,_,rfl,B.C,_,rfl,MK W6.cnt (iQ (k:=fun x=>(S.d x:Int)) F.pnd hp),_,_,rfl,rfl,_,rfl,_,rfl,B.C,_,rfl,mj.k (k:=Sum.inr p.name) W6.cnt (lk _),?_⟩
  refine k dd _ M.deed _ (Bc (xT (cs.trans s3) (xT s4 (xT s5 (wI s6 c3))))) (W6.c ?_) ?_
  ·show putK _ (Sum.inr p.name) (.int ((S.d p.name:Int)+1))=_
   rw [tV (fun x=>(S.d x:Int)) hpn]
   congr 1
   funext y
   unfold jh
   by_cases h:y=p.name
   ·subst h;simp
   ·simp [h]
  ·intro p' hp' h5
   show(if p'.name=p.name then kv else kk p'.name)=if p'.name=p.name then dd.kv else S.k p'.name
   by_cases e:p'.name=p.name
   ·have e2:=qx F.pnd hp' hp e
    subst e2
    rw [if_pos rfl,if_pos rfl,M.kv5 h5]
   ·rw [if_neg e,if_neg e,kh p' hp' h5]
noncomputable def zy (ps:List PD) (x:Str):Int:=((ps.find? fun p=>decide (p.name=x)).map fun p=>p.nums.headD 0).getD 0
theorem K9 {ps:List PD} (nd:(ps.map (·.name)).Nodup) {p:PD} (hp:p∈ps):zy ps p.name=p.nums.headD 0:=by
 unfold zy
 rw [find_name nd hp]
 rfl
structure Vl (H H':Hp) (B:FN) (ls:List aK) (ps:List PD) (m:Nat) (S0 S:FS) (kk:Str->Int):Prop where
 w:Vk H' B ls ps S kk
 kh:Wl ps S kk
 con:aM (bA (B.cells ls) H) (bA (B.cells ls) H')
 rch:ug ps m S0 S
 ok:Mt (199+2 * j0 ps S) ls ps S
 dm:∀p∈ps,S.d p.name<=m
theorem ug.row {ps:List PD} {m:Nat} {S T:FS} (r:ug ps m S T):T.r=S.r:=by
 induction r with
 | refl _=>rfl
 | head _ _ _ _ ih=>exact ih
theorem Od {H:Hp} {Q:VK} {Ex:XK} {b:Nat} {q rw:Addr} {B:FN} {ls:List aK} {ps:List PD} {p:PD} {S:FS} {kk:Str->Int} {RW:List (Str×Addr×List Int)} (G:Vk H B ls ps S kk) (kh:Wl ps S kk) (F:vh ls ps) (hp:p∈ps) (hq:sZ (bA (B.cells ls) H) (.ref q) p) (hrw:jf (bA (B.cells ls) H) rw RW) (hr:p.kind=0->p.name∈RW.map (·.1)/\S.r p.name=lU RW p.name) (O:Mt b ls ps S) (hb:b<=90000)
  (kn:bW S p=none->∀H',aM H H'->Q (.bl false) H') (k:∀dd kk',bW S p=some dd->∀H',aM (bA (B.cells ls) H) (bA (B.cells ls) H')->Vk H' B ls ps (jh S p.name dd) kk'->Wl ps (jh S p.name dd) kk'->Q (.bl true) H'):jj K [.ref q,.ref rw,.ref B.P,.ref B.O,.ref B.C,.ref B.Kp] H Q Ex:=by
 unfold jj
 exact⟨b,q,rw,B,ls,ps,p,S,kk,RW,rfl,G,kh,F,hp,hq,hrw,hr,O,hb,kn,k⟩
theorem Ls {E:List Addr} {H H':Hp} (s:aM H H'):aM (bA E H) (bA E H'):=Bc (dF.trans s)
inductive wu (vs:List V) (H:Hp) (Q:VK):Prop where
 | mk:∀(L P rw:Addr) (ls:List aK) (ps:List PD) (RW:List (Str×Addr×List Int)) (m:Nat),vs=[.ref L,.ref P,.ref rw,.int (m:Nat)]->Ar H L P ls ps->vh ls ps->jf H rw RW->vm ps RW->((∀p∈ps,p.kind=0->p.name∈RW.map (·.1)))->m<=300->(∀H' D pa T,aM H H'->H' D=some (.dK (qQ pa ls))->(∀l∈ls,H' (pa l.name)=some (.lst ((T.ev l.name).map V.int)))->(∀a∈D:: ls.map (fun l=>pa l.name),H a=none)->(D:: ls.map (fun l=>pa l.name)).Nodup->ug ps m (d7 ls ps RW) T->Done ps m T->Q (.ref D) H')->wu vs H Q
@[irreducible] noncomputable def lz (K:PySem.W.Frag):Sp:=fun vs H Q _=>wu vs H Q
noncomputable abbrev mW:List Str:=["_law_lanes", "_law_parts", "_law_rows_here", "_law_most", "_law_past", "_law_out", "_law_counts", "_law_kept", "_law_moved_here", "_law_part_here"]
theorem Im (T:Txt w K mg t):FO P w K mg base 3 t.Ah ["_law_lanes", "_law_parts", "_law_rows_here", "_law_most"] (lz K):=by
 have sc:=T.uY.sc mW
 refine T.uY.F.ok sc (fun vs H Q E h=>?_) (fun cdv A outer s H vs Q E hr h=>?_)
 ·unfold lz at h
  obtain⟨L,P,rw,ls,ps,RW,m,rfl,_⟩:=h
  rfl
 ·unfold lz at h
  obtain⟨L,P,rw,ls,ps,RW,m,rfl,A,F,hrw,hO,hg,hm,k⟩:=h
  refine⟨_,(az (sN sc 4 (cB (gJ rfl) (by rfl) T.xn uf (aa (Pj ["_law_name", "_law_room", "_law_first"] [] mW (bz (top 80)) rfl (cW (pv 0)) (fun _ _ _ _ _=>Ka (K:=K) (n:=3) rfl rfl (eQ (qw (i:=0) (show(["_law_name", "_law_room", "_law_first"]:List Str).Nodup by decide +kernel) rfl (Or.inl rfl) (.inr rfl)) (eQ (qw (i:=1) (show(["_law_name", "_law_room", "_law_first"]:List Str).Nodup by decide +kernel) rfl (Or.inl rfl) (.inr rfl)) (eQ (qw (i:=2) (show(["_law_name", "_law_room", "_law_first"]:List Str).Nodup by decide +kernel) rfl (Or.inl rfl) (.inr rfl)) uo)))) (fun _ _ _ _ _=>gh) (fun _ _ _ _ _=>(bL (aa (pv 0) (aa (cB (Av (K:=K) rfl) (by rfl) T.mX jL (aa (pv 2) ak aj)) ak aW) aj)))) ak cP)))
   (az (sN sc 5 (cB (gJ rfl) (by rfl) T.xn uf (aa (fM [] mW (bz (top 80)) rfl (cW (pv 0)) (fun _ _ _ _ _=>gh) (fun _ _ _ _ _=>(bL (aa (aU (ue (K:=K) rfl) (pv 0) aq (fun _ _=>rfl)) (aa aq ak ao) aC)))) ak cP)))
   (az (sN sc 6 (cB (gJ rfl) (by rfl) T.xn uf (aa (fM [] mW (bz (top 80)) rfl (cW (pv 1)) (fun _ _ _ _ _=>gh) (fun _ _ _ _ _=>(bL (aa (aU (ue (K:=K) rfl) (pv 0) aq (fun _ _=>rfl)) (aa aq ak ao) aC)))) ak cP)))
   (az (sN sc 7 (cB (gJ rfl) (by rfl) T.xn uf (aa (fM [] mW (bz (top 80)) rfl (cW (pv 1)) (fun _ _ _ _ _=>gh) (fun _ _ _ _ _=>(bL (aa (aU (ue (K:=K) rfl) (pv 0) aq (fun _ _=>rfl)) (aa (aU (vC (K:=K) rfl) (aY JH (aU (ue (K:=K) rfl) (pv 0) aq (fun _ _=>rfl)) (bu (aa aq ak ao))) aq (fun _ _=>rfl)) ak aC) aC)))) ak cP)))
   (az (sN sc 8 gm)
   (az (sr PassesOwn.never (fH (pv 8))
    (az (sN sc 8 gm)
    (aA (eN PassesOwn.never rfl (TQ rfl T.Je (aa (pv 1) ak aj)) (gN sc 9)
     (aA (eX (bO (PW.pt (uZ (bj pU (bZ hr.u1 (pv 6) (aU dw (pv 9) aq (fun _ _=>rfl)) (fun _ _=>rfl)) (pv 3) (bK _)) (tX (fH (dY (Ck T) T.qM hr (aa (pv 9) (aa (pv 2) (aa (pv 4) (aa (pv 5) (aa (pv 6) (aa (pv 7) ak aj) aj) aj) aj) aj) aj))))))
      (aA (sN sc 8 gm))
      bc)))))))
   (aA (aR (pv 4))))))))),?_⟩
  have hz:sizeLine=16777216:=sizeLine_eq
  have l24:=F.l24
  have p16:=F.p16
  have nodL:=F.whole.nod
  have nodP:=F.pnd
  obtain⟨⟨xs,eL,aL⟩,⟨ys,eP,aP⟩⟩:=id A
  have xl:=aL.length
  have yl:=aP.length
  refine⟨_,rfl,L,rfl,⟨_,bT.of eL⟩,zZ (K:=K) (a:=L) (xs:=xs) (fun j zs H'=>aM H H'/\∃(rs:List Addr) (FL:List (aK×Addr)),zs=rs.map V.ref/\rs.length<=j/\FL.map (·.1)=ls.take j/\cL H' rs (FL.map fun q=>[.str q.1.name,.ref q.2])/\(∀q∈FL,H' q.2=some (.lst (q.1.first.map V.int))/\H q.2=none)/\(FL.map (·.2)).Nodup) (by omega) ⟨aM.refl _,[],[],rfl,Nat.le_refl _,rfl,.nil,by simp,by simp⟩ (fun j zs H' ⟨_,rs,_,e,e2,_⟩=>by rw [e,lM];exact e2) (fun j zs H' _ h=>h.1.seq (bT.of eL)) ?_ ?_⟩
  ·rintro j x zs H1 hx ⟨s1,rs,FL,rfl,lr,eFL,tr,hFL,nFL⟩
   obtain⟨l,hlj,q,f,rfl,hq,hf⟩:=aL.get hx
   refine⟨q,_,rfl,fY.of (s1 _ _ hq),rfl,_,_,rfl,_,_,rfl,_,_,rfl,rfl,rfl,yes ?_⟩
   refine⟨_,rfl,_,rfl,f,_,rfl,.inl (bT.of (s1 _ _ hf)),fun u nu=>⟨il,fun v nv=>?_⟩⟩
   have t2:=aB (o:=.lst (l.first.map V.int)) nu
   have t3:=aB (o:=.tup [.str l.name,.ref u]) nv
   refine⟨s1.trans (t2.trans t3),rs ++ [v],FL ++ [(l,u)],by simp,by rw [lP];exact Nat.succ_le_succ lr,by rw [List.map_append,eFL,List.take_succ,hlj];rfl,?_,fun q' hq'=>?_,?_⟩
   ·rw [List.map_append]
    exact cL.append (cL.same (t2.trans t3) tr) (.cons au .nil)
   ·rcases List.mem_append.mp hq' with h | h
    ·exact⟨t3 _ _ (t2 _ _ (hFL q' h).1),(hFL q' h).2⟩
    ·rw [List.mem_singleton] at h
     subst h
     exact⟨t3 _ _ au,s1.free nu⟩
   ·rw [List.map_append,List.nodup_append]
    refine⟨nFL,by simp,fun a ha b hb e=>?_⟩
    simp at hb
    obtain⟨q',h1,h2⟩:=List.mem_map.mp ha
    have:=(hFL q' h1).1
    rw [h2,e,hb,nu] at this
    cases this
  rintro zs H1 ⟨s1,rs,FL,rfl,lr,eFL,tr,hFL,nFL⟩ D1 nD1
  rw [xl,List.take_length] at eFL
  have t2:=aB (o:=.lst (rs.map V.ref)) nD1
  have nmF:FL.map (fun q=>q.1.name)=ls.map (·.name):=by rw [<-eFL,List.map_map];rfl
  refine⟨D1,rs,FL.map (fun q=>((Sum.inr q.1.name:Key),V.ref q.2)),rfl,bT.of au,by rw [List.map_map];exact cL.same t2 tr,?_,fun P0 nP0=>?_⟩
  ·rw [List.map_map]
   have:FL.map ((fun x=>x.1)∘fun q:aK×Addr=>((Sum.inr q.1.name:Key),V.ref q.2))=(ls.map (·.name)).map (fun x=>(Sum.inr x:Key)):=by rw [<-nmF,List.map_map];rfl
   rw [this]
   exact dh nodL
  have nE:(FL.map fun q=>q.1.name).Nodup:=by rw [nmF];exact nodL
  obtain⟨pa,hpa⟩:∃pa:Str->Addr,pa=Dq (·.name) FL:=⟨_,rfl⟩
  have ePa:∀q∈FL,pa q.1.name=q.2:=fun q hq=>by rw [hpa];exact pQ nE hq
  have mPa:ls.map (fun l=>pa l.name)=FL.map (·.2):=by
   rw [<-eFL,List.map_map]
   exact List.map_congr_left fun q hq=>ePa q hq
  have eK:FL.map (fun q=>((Sum.inr q.1.name:Key),V.ref q.2))=qQ pa ls:=by
   unfold qQ
   rw [<-eFL,List.map_map]
   exact List.map_congr_left fun q hq=>by rw [<-ePa q hq];rfl
  have lst0:∀l∈ls,H1 (pa l.name)=some (.lst (l.first.map V.int))/\H (pa l.name)=none:=fun l hl=>by
   rw [<-eFL] at hl
   obtain⟨q,hq,rfl⟩:=List.mem_map.mp hl
   rw [ePa q hq]
   exact hFL q hq
  rw [eK]
  have s2:=s1.trans t2
  have t3:=aB (o:=.dK (qQ pa ls)) nP0
  have eP0:upd (upd H1 D1 (.lst (rs.map V.ref))) P0 (.dK (qQ pa ls)) P0=some (.dK (qQ pa ls)):=au
  have s3:=s2.trans t3
  have nP0':=s2.free nP0
  have l3:∀l∈ls,upd (upd H1 D1 (.lst (rs.map V.ref))) P0 (.dK (qQ pa ls)) (pa l.name)=some (.lst (l.first.map V.int)):=fun l hl=>t3 _ _ (t2 _ _ (lst0 l hl).1)
  generalize upd (upd H1 D1 (.lst (rs.map V.ref))) P0 (.dK (qQ pa ls))=H3 at t3 eP0 s3 l3 ⊢
  have nPa:(ls.map fun l=>pa l.name).Nodup:=by rw [mPa];exact nFL
  clear t3 t2 nP0 nD1 tr lr hFL eK ePa nE
  have eL3:=s3 _ _ eL
  refine⟨_,rfl,L,rfl,⟨_,bT.of eL3⟩,iZ (K:=K) (a:=L) (xs:=xs) (fun j zs H'=>aM H3 H'/\∃(rs:List Addr),zs=rs.map V.ref/\rs.length<=j/\cL H' rs ((ls.take j).map fun l=>[.str l.name,.int 0])) (by omega) ⟨aM.refl _,[],rfl,Nat.le_refl _,.nil⟩ (fun j zs H' ⟨_,rs,e,e2,_⟩=>by rw [e,lM];exact e2) (fun j zs H' _ h=>h.1.seq (bT.of eL3)) ?_ ?_⟩
  ·rintro j x zs H4 hx ⟨s4,rs,rfl,lr,tr⟩
   obtain⟨l,hlj,q,f,rfl,hq,hf⟩:=aL.get hx
   refine yes ⟨_,rfl,q,_,0,_,rfl,rfl,fY.of (s4 _ _ (s3 _ _ hq)),aN (j:=0) rfl,il,fun v nv=>⟨s4.trans (aB nv),rs ++ [v],by simp,by rw [lP];exact Nat.succ_le_succ lr,?_⟩⟩
   rw [List.take_succ,hlj,Option.toList_some,List.map_append]
   exact cL.append (cL.same (aB nv) tr) (.cons au .nil)
  rintro zs H4 ⟨s4,rs4,rfl,lr4,tr4⟩ D2 nD2
  rw [xl,List.take_length] at tr4
  have t5:=aB (o:=.lst (rs4.map V.ref)) nD2
  refine⟨D2,rs4,cG (fun _=>0) ls,rfl,bT.of au,by unfold cG;rw [List.map_map];exact cL.same t5 tr4,by rw [u0];exact dh nodL,fun O0 nO0=>?_⟩
  have s5:=(s4.trans t5).trans (aB (o:=.dK (cG (fun _=>0) ls)) nO0)
  have eO0:upd (upd H4 D2 (.lst (rs4.map V.ref))) O0 (.dK (cG (fun _=>0) ls)) O0=some (.dK (cG (fun _=>0) ls)):=au
  have nO0:=(s4.trans t5).free nO0
  generalize upd (upd H4 D2 (.lst (rs4.map V.ref))) O0 (.dK (cG (fun _=>0) ls))=H5 at s5 eO0 ⊢
  have s05:=s3.trans s5
  have eP5:=s05 _ _ eP
  refine⟨_,rfl,P,rfl,⟨_,bT.of eP5⟩,iZ (K:=K) (a:=P) (xs:=ys) (fun j zs H'=>aM H5 H'/\∃(rs:List Addr),zs=rs.map V.ref/\rs.length<=j/\cL H' rs ((ps.take j).map fun p=>[.str p.name,.int 0])) (by omega) ⟨aM.refl _,[],rfl,Nat.le_refl _,.nil⟩ (fun j zs H' ⟨_,rs,e,e2,_⟩=>by rw [e,lM];exact e2) (fun j zs H' _ h=>h.1.seq (bT.of eP5)) ?_ ?_⟩
  ·rintro j x zs H6 hx ⟨s6,rs,rfl,lr,tr⟩
   obtain⟨p,hpj,q,a1,a2,a3,rfl,hq,_⟩:=aP.get hx
   refine yes ⟨_,rfl,q,_,1,_,rfl,rfl,fY.of (s6 _ _ (s05 _ _ hq)),aN (j:=1) rfl,il,fun v nv=>⟨s6.trans (aB nv),rs ++ [v],by simp,by rw [lP];exact Nat.succ_le_succ lr,?_⟩⟩
   rw [List.take_succ,hpj,Option.toList_some,List.map_append]
   exact cL.append (cL.same (aB nv) tr) (.cons au .nil)
  rintro zs H6 ⟨s6,rs6,rfl,lr6,tr6⟩ D3 nD3
  rw [yl,List.take_length] at tr6
  have t7:=aB (o:=.lst (rs6.map V.ref)) nD3
  refine⟨D3,rs6,bJ (fun _=>0) ps,rfl,bT.of au,by unfold bJ;rw [List.map_map];exact cL.same t7 tr6,by rw [qy];exact dh nodP,fun C0 nC0=>?_⟩
  have s7:=(s6.trans t7).trans (aB (o:=.dK (bJ (fun _=>0) ps)) nC0)
  have eC0:upd (upd H6 D3 (.lst (rs6.map V.ref))) C0 (.dK (bJ (fun _=>0) ps)) C0=some (.dK (bJ (fun _=>0) ps)):=au
  have nC0:=(s6.trans t7).free nC0
  generalize upd (upd H6 D3 (.lst (rs6.map V.ref))) C0 (.dK (bJ (fun _=>0) ps))=H7 at s7 eC0 ⊢
  have s07:=s05.trans s7
  have eP7:=s07 _ _ eP
  refine⟨_,rfl,P,rfl,⟨_,bT.of eP7⟩,iZ (K:=K) (a:=P) (xs:=ys) (fun j zs H'=>aM H7 H'/\∃(rs:List Addr),zs=rs.map V.ref/\rs.length<=j/\cL H' rs ((ps.take j).map fun p=>[.str p.name,.int (zy ps p.name)])) (by omega) ⟨aM.refl _,[],rfl,Nat.le_refl _,.nil⟩ (fun j zs H' ⟨_,rs,e,e2,_⟩=>by rw [e,lM];exact e2) (fun j zs H' _ h=>h.1.seq (bT.of eP7)) ?_ ?_⟩
  ·rintro j x zs H8 hx ⟨s8,rs,rfl,lr,tr⟩
   obtain⟨p,hpj,q,a1,a2,a3,rfl,hq,q1,_⟩:=aP.get hx
   have hp:=List.mem_of_getElem? hpj
   have hq8:=s8 _ _ (s07 _ _ hq)
   have ln:p.nums.length<=3:=by rw [(F.pok p hp).2.1];unfold cN;split <;> decide
   refine yes ⟨_,rfl,q,_,1,_,rfl,rfl,fY.of hq8,aN (j:=1) rfl,_,rfl,q,_,2,_,rfl,rfl,fY.of hq8,aN (j:=2) rfl,il,fun u nu=>⟨a1,u,_,_,rfl,rfl,aB nu _ _ (s8 _ _ (s07 _ _ q1)),au,by rw [lM];show _+1<=sizeLine;omega,fun v nv=>⟨v,_,0,.int (zy ps p.name),rfl,rfl,bT.of au,?_,il,fun w nw=>?_⟩⟩⟩
   ·refine aN (j:=0) ?_
    rw [K9 nodP hp]
    cases p.nums with
    | nil=>rfl
    | cons a r=>rfl
   ·have t9:=((aB (o:=.lst [.int 0]) nu).trans (aB (o:=.lst (p.nums.map V.int ++ [.int 0])) nv)).trans (aB (o:=.tup [.str p.name,.int (zy ps p.name)]) nw)
    refine⟨s8.trans t9,rs ++ [w],by simp,by rw [lP];exact Nat.succ_le_succ lr,?_⟩
    rw [List.take_succ,hpj,Option.toList_some,List.map_append]
    exact cL.append (cL.same t9 tr) (.cons au .nil)
  rintro zs H8 ⟨s8,rs8,rfl,lr8,tr8⟩ D4 nD4
  rw [yl,List.take_length] at tr8
  have t9:=aB (o:=.lst (rs8.map V.ref)) nD4
  refine⟨D4,rs8,bJ (zy ps) ps,rfl,bT.of au,by unfold bJ;rw [List.map_map];exact cL.same t9 tr8,by rw [qy];exact dh nodP,fun Kp nKp=>?_⟩
  have s9:=(s8.trans t9).trans (aB (o:=.dK (bJ (zy ps) ps)) nKp)
  have eKp:upd (upd H8 D4 (.lst (rs8.map V.ref))) Kp (.dK (bJ (zy ps) ps)) Kp=some (.dK (bJ (zy ps) ps)):=au
  have nKp:=(s8.trans t9).free nKp
  generalize upd (upd H8 D4 (.lst (rs8.map V.ref))) Kp (.dK (bJ (zy ps) ps))=H9 at s9 eKp ⊢
  have u79:=s9
  have u59:=s7.trans s9
  have u39:=s5.trans u59
  have s09:=s07.trans s9
  obtain⟨B,hB⟩:∃B:FN,B=⟨P0,O0,C0,Kp,pa⟩:=⟨_,rfl⟩
  have fr:∀a∈B.cells ls,H a=none:=fun a ha=>by
   rw [hB] at ha
   unfold FN.cells at ha
   simp only [List.mem_cons,List.mem_map] at ha
   rcases ha with rfl | rfl | rfl | rfl | ⟨l,hl,rfl⟩
   ·exact nP0'
   ·exact s3.free nO0
   ·exact s05.free nC0
   ·exact s07.free nKp
   ·exact(lst0 l hl).2
  have lne:∀{Hx:Hp} {a:Addr},aM H3 Hx->Hx a=none->a∉ls.map (fun l=>pa l.name):=fun {Hx a} sx na z=>by
   obtain⟨l,hl,e⟩:=List.mem_map.mp z
   rw [<-e,sx _ _ (l3 l hl)] at na
   cases na
  have nod:(B.cells ls).Nodup:=by
   rw [hB]
   unfold FN.cells
   simp only [List.nodup_cons,List.mem_cons,not_or]
   refine⟨⟨aF eP0 nO0,aF (s5 _ _ eP0) nC0,aF (s7 _ _ (s5 _ _ eP0)) nKp,fun z=>?_⟩,⟨aF eO0 nC0,aF (s7 _ _ eO0) nKp,lne (aM.refl _) nO0⟩,⟨aF eC0 nKp,lne s5 nC0⟩,lne (s5.trans s7) nKp,nPa⟩
   obtain⟨l,hl,e⟩:=List.mem_map.mp z
   have:=l3 l hl
   rw [show pa l.name=P0 from e,eP0] at this
   cases this
  have W9:Vk H9 B ls ps (d7 ls ps RW) (zy ps):=by
   refine⟨?_,?_,?_,?_,fun l hl=>?_,nod⟩ <;> rw [hB]
   ·exact u39 _ _ eP0
   ·exact u59 _ _ eO0
   ·exact u79 _ _ eC0
   ·exact eKp
   ·rw [show(d7 ls ps RW).ev l.name=l.first from vA nodL hl]
    exact u39 _ _ (l3 l hl)
  have I9:Vl H9 H9 B ls ps m (d7 ls ps RW) (d7 ls ps RW) (zy ps):=by
   refine⟨W9,fun p hp h5=>?_,aM.refl _,.refl _,?_,fun p hp=>Nat.zero_le _⟩
   ·rw [K9 nodP hp]
    show _=fC ps p.name
    unfold fC
    rw [find_name nodP hp]
    simp [h5]
   ·have o:=xM (RW:=RW) F (fun q hq=>hrw.len q hq) hO.bnd
    exact⟨o.vb,o.rb,o.dl,fun l hl=>Nat.le_trans (o.len l hl) (Nat.le_add_right _ _),o.rl⟩
  have sC:aM H (bA (B.cells ls) H9):=fun b o e=>dH (s09 _ _ e) fun z=>by rw [fr b z] at e;cases e
  have eS0:(d7 ls ps RW).r=lU RW:=rfl
  generalize d7 ls ps RW=S0 at I9 k eS0 W9
  have hpl:ps.length * m<=4800:=Nat.le_trans (Nat.mul_le_mul p16 hm) (by decide)
  have eB:P0=B.P/\O0=B.O/\C0=B.C/\Kp=B.Kp:=by rw [hB];exact⟨rfl,rfl,rfl,rfl⟩
  obtain⟨e1,e2,e3,e4⟩:=eB
  rw [e1,e2,e3,e4]
  clear e1 e2 e3 e4 hB lne nod l3 lst0 eP0 eO0 eC0 eKp W9 u39 u59 u79 tr8 tr6 tr4
  refine rR (fun σ H'=>∃S bb v9 kk,σ=[some (.ref L),some (.ref P),some (.ref rw),some (.int (m:Nat)),some (.ref B.P),some (.ref B.O),some (.ref B.C),some (.ref B.Kp),some (.bl bb),v9]/\Vl H9 H' B ls ps m S0 S kk/\(bb=false->Done ps m S)) (fun(σ:St) (H':Hp)=>2 * (ps.length * m - JF (H' B.C))+(match σ[8]? with | some (some (V.bl true))=>1 | _=>0)) ⟨S0,true,_,_,rfl,I9,by intro z;cases z⟩ ?_ ?_
  ·rintro σ Ha ⟨S,bb,w9,kk,rfl,Ia,hd⟩
   have sa:aM H Ha:=fun b o e=>dF _ _ (Ia.con _ _ (sC _ _ e))
   cases bb with
   | false=>
    refine⟨_,rfl,_,rfl,dI ⟨_,rfl,?_⟩⟩
    refine k Ha B.P B.pa S sa Ia.w.past Ia.w.hl (fun a ha=>fr a ?_) ?_ Ia.rch (hd rfl)
    ·unfold FN.cells
     rcases List.mem_cons.mp ha with rfl | ha
     ·exact .head _
     ·exact .tail _ (.tail _ (.tail _ (.tail _ ha)))
    ·have n:=Ia.w.nod
     unfold FN.cells at n
     exact n.sublist (.cons₂ _ (.cons _ (.cons _ (.cons _ (List.Sublist.refl _)))))
   | true=>
    have ca:=Gi Ia.w.cnt
    have sma:=Bs Ia.dm
    refine⟨_,rfl,_,rfl,ji ⟨_,rfl,P,ys,rfl,bT.of (sa _ _ eP),?_⟩⟩
    refine Rb (K:=K) (a:=P) (xs:=ys) (fun j σ H'=>∃S' bb v9 kk,σ=[some (.ref L),some (.ref P),some (.ref rw),some (.int (m:Nat)),some (.ref B.P),some (.ref B.O),some (.ref B.C),some (.ref B.Kp),some (.bl bb),v9]/\Vl H9 H' B ls ps m S0 S' kk/\(bb=false->S'=S/\∀p∈ps.reverse.take j,S.d p.name <m->bW S p=none)/\(bb=true->j0 ps S <j0 ps S')/\j0 ps S<=j0 ps S') ⟨S,false,_,kk,rfl,Ia,fun _=>⟨rfl,by simp⟩,(by intro z;cases z),Nat.le_refl _⟩ (fun j σ H' _ ⟨_,_,_,_,_,I,_⟩=>bT.of (dF _ _ (I.con _ _ (sC _ _ eP)))) ?_ ?_
    ·rintro j x σ Hb hx ⟨S',bb,v9,kk,rfl,Ib,hf,ht,hle⟩
     have hyj:∃p,ps.reverse[j]?=some p/\sZ H x p:=by
      have hj:=(List.getElem?_eq_some_iff.mp hx).1
      rw [List.length_reverse] at hj
      rw [List.getElem?_reverse hj] at hx
      obtain⟨p,h1,h2⟩:=aP.get hx
      exact⟨p,by rw [List.getElem?_reverse (by omega),<-yl];exact h1,h2⟩
     obtain⟨p,hpj,hrow⟩:=hyj
     have hp:p∈ps:=List.mem_reverse.mp (List.mem_of_getElem? hpj)
     obtain⟨q,a1,a2,a3,rfl,hq,hq1,hq2,hq3⟩:=id hrow
     have scb:=sC.trans Ib.con
     have sb:aM H Hb:=scb.trans dF
     have sml:=Bs Ib.dm
     have step:∀{bb':Bool} {σ':St} {Hc:Hp} {S'':FS} {kk':Str->Int},σ'=[some (.ref L),some (.ref P),some (.ref rw),some (.int (m:Nat)),some (.ref B.P),some (.ref B.O),some (.ref B.C),some (.ref B.Kp),some (.bl bb'),some (.ref q)]->Vl H9 Hc B ls ps m S0 S'' kk'->(bb'=false->S''=S/\∀p'∈ps.reverse.take (j+1),S.d p'.name <m->bW S p'=none)->(bb'=true->j0 ps S <j0 ps S'')->j0 ps S<=j0 ps S''->∃S' bb v9 kk,σ'=[some (.ref L),some (.ref P),some (.ref rw),some (.int (m:Nat)),some (.ref B.P),some (.ref B.O),some (.ref B.C),some (.ref B.Kp),some (.bl bb),v9]/\Vl H9 Hc B ls ps m S0 S' kk/\(bb=false->S'=S/\∀p∈ps.reverse.take (j+1),S.d p.name <m->bW S p=none)/\(bb=true->j0 ps S <j0 ps S')/\j0 ps S<=j0 ps S':=fun a b c d e=>⟨_,_,_,_,a,b,c,d,e⟩
     have more:∀{bb':Bool},(bb'=false->S'=S/\∀p∈ps.reverse.take j,S.d p.name <m->bW S p=none)->(S'.d p.name <m->bW S' p=none)->(bb'=false->S'=S/\∀p'∈ps.reverse.take (j+1),S.d p'.name <m->bW S p'=none):=fun h1 h2 hb=>⟨(h1 hb).1,fun p' hp' hlt=>by
      rw [List.take_succ,hpj,Option.toList_some] at hp'
      rcases List.mem_append.mp hp' with z | z
      ·exact(h1 hb).2 p' z hlt
      ·rw [List.mem_singleton] at z
       rw [z,<-(h1 hb).1] at hlt ⊢
       exact h2 hlt⟩
     refine⟨fun σ' Hc=>∃S' bb v9 kk,σ'=[some (.ref L),some (.ref P),some (.ref rw),some (.int (m:Nat)),some (.ref B.P),some (.ref B.O),some (.ref B.C),some (.ref B.Kp),some (.bl bb),v9]/\Vl H9 Hc B ls ps m S0 S' kk/\(bb=false->S'=S/\∀p∈ps.reverse.take (j+1),S.d p.name <m->bW S p=none)/\(bb=true->j0 ps S <j0 ps S')/\j0 ps S<=j0 ps S',?_,fun _ _ h=>h⟩
     refine⟨_,rfl,_,rfl,q,_,1,_,rfl,rfl,fY.of (sb _ _ hq),aN (j:=1) rfl,B.C,_,rfl,MK Ib.w.cnt (iQ (k:=fun x=>(S'.d x:Int)) nodP hp),_,rfl,_,_,rfl,rfl,_,rfl,jt (fun hlt=>?_) (fun hge=>?_)⟩
     ·have hlt:S'.d p.name <m:=by simpa using hlt
      refine⟨_,rfl,_,rfl,_,rfl,_,rfl,_,rfl,_,rfl,Od Ib.w Ib.kh F hp (hrow.same scb) (hrw.same scb) (fun h0=>⟨hg p hp h0,by rw [Ib.rch.row,eS0]⟩) Ib.ok (by omega) (fun hn Hc sc=>⟨_,rfl,dI ?_⟩) (fun dd kk' hdd Hc cc Wc khc=>⟨_,rfl,ji ?_⟩)⟩
      ·exact step rfl ⟨Ib.w.same sc,Ib.kh,Ib.con.trans (Ls sc),Ib.rch,Ib.ok,Ib.dm⟩ (more hf fun _=>hn) ht hle
      ·have sd:=Iz (ps:=ps) (S:=S') (dd:=dd) nodP hp
       refine step (bb':=true) rfl ⟨Wc,khc,Ib.con.trans cc,Ib.rch.snoc hp hlt hdd,?_,fun p' hp'=>?_⟩ (by intro z;cases z) (fun _=>by omega) (by omega)
       ·have:=Pz F Ib.ok hp hdd
        rw [sd]
        exact⟨this.vb,this.rb,this.dl,this.len,this.rl⟩
       ·show(if p'.name=p.name then S'.d p'.name+1 else S'.d p'.name)<=m
        by_cases e:p'.name=p.name
        ·rw [if_pos e,e];omega
        ·rw [if_neg e];exact Ib.dm p' hp'
     ·have hge:¬S'.d p.name <m:=fun z=>hge (by simpa using z)
      exact dI (step rfl Ib (more hf fun z=>absurd z hge) ht hle)
    rintro σ Hb ⟨S',bb,v9,kk',rfl,Ib,hf,ht,hle⟩
    have cb:=Gi Ib.w.cnt
    have smb:=Bs Ib.dm
    refine⟨⟨S',bb,_,kk',rfl,Ib,fun hb p hp hlt=>?_⟩,?_⟩
    ·obtain⟨e,h⟩:=hf hb
     rw [e] at hlt ⊢
     exact h p (by rw [yl,<-List.length_reverse,List.take_length];exact List.mem_reverse.mpr hp) hlt
    ·show 2 * (ps.length * m - JF (Hb B.C))+(match some (some (V.bl bb)) with | some (some (V.bl true))=>1 | _=>0) <2 * (ps.length * m - JF (Ha B.C))+1
     rw [ca,cb]
     cases bb with
     | false=>show _+0 <_;omega
     | true=>
      have:=ht rfl
      show _+1 <_
      omega
  ·intro σ H' Q' Q'' hQ hq
   obtain⟨v,e,b,e2,q⟩:=hq
   exact⟨v,e,b,e2,hQ _ _ q⟩
structure Tg (H:Hp) (D:Addr) (pa:Str->Addr) (ls:List aK) (T:FS):Prop where
 dict:H D=some (.dK (qQ pa ls))
 lists:∀l∈ls,H (pa l.name)=some (.lst ((T.ev l.name).map V.int))
theorem Tg.same {H H':Hp} {D:Addr} {pa:Str->Addr} {ls:List aK} {T:FS} (h:Tg H D pa ls T) (s:aM H H'):Tg H' D pa ls T:=⟨s _ _ h.dict,fun l hl=>s _ _ (h.lists l hl)⟩
inductive wk (K:PySem.W.Frag) (vs:List V) (H:Hp) (Q:VK) (E:XK):Prop where
 | mk:∀(D1 D2:Addr) (p1 p2:Str->Addr) (ls:List aK) (T1 T2:FS),vs=[.ref D1,.ref D2]->Tg H D1 p1 ls T1->Tg H D2 p2 ls T2->D1≠D2->(ls.map (·.name)).Nodup->((∀l∈ls,T1.ev l.name=T2.ev l.name))->((∀l∈ls,(T1.ev l.name).length<=90000))->(∀H',aM H H'->Q (.bl true) H')->wk K vs H Q E
noncomputable abbrev ym:List Str:=["_law_found", "_law_due_here", "_law_name", "_law_row"]
theorem vJ (T:Txt w K mg t):FO P w K mg base 1 t.yH ["_law_found", "_law_due_here"] (wk K):=by
 have sc:=T.nQ.sc ym
 refine T.nQ.F.ok sc ln (fun _ _ _ _ H vs Q E hr h=>?_)
 obtain⟨D1,D2,p1,p2,ls,T1,T2,rfl,P1,P2,nD,nod,ev,lb,k⟩:=h
 refine⟨_,(az (bO (PW.pt (qd (gM (fH (bf mO (by rfl) T.fP eZ (aa (pv 0) (aa (oH (by rfl) T.xn uf) ak aj) aj)))) (j4 (bj Dh (bf xx (by rfl) T.fj dB (aa (pv 0) ak aj)) (bf xx (by rfl) T.fj dB (aa (pv 1) ak aj)) (bK _)))))
   (aA (aR gm))
   bc)
  (az (pN (H0:=H) rfl (eN PassesOwn.never rfl (nW (pv 1)) (gN sc 2)
   (az (sN sc 3 (Nq hr.u1 (pv 0) (pv 2) ⟨rfl,rfl,rfl,rfl⟩))
   (az (bO (PW.pt (qd (gM (fH (bf mO (by rfl) T.fP eZ (aa (pv 3) (aa (oH (by rfl) T.mX jL) ak aj) aj)))) (j4 (bj (O7 hr.units) (pv 3) (bZ hr.u1 (pv 1) (pv 2) (fun _ _=>rfl)) (bK _)))))
    (aA (Kz (H0:=H) rfl (aR gm)))
    bc)
   (aA (bO (bj (O7 hr.units) (fM [] ym (bz (top 81)) rfl (cW (pv 3)) (fun _ _ _ _ _=>(Np (PW.pt (qd (gM (fH (bf (CQ (K:=K) rfl) (by rfl) T.fP eZ (aa (pv 0) (aa (oH (by rfl) T.Og Jk) ak aj) aj)))) (j4 (fH (bf (CQ (K:=K) rfl) (by rfl) T.fP eZ (aa (pv 0) (aa (oH (by rfl) T.Nv Kg) ak aj) aj)))))))) (fun _ _ _ _ _=>(pv 0))) (bu ak) (bK _))
    (aA (Kz (H0:=H) rfl (aR gm)))
    bc))))))
  (aA (aR gm)))),?_⟩
 have hz:sizeLine=16777216:=sizeLine_eq
 have gdL:∀l:List Int,Gd 1 (.list (l.map PyData.int)):=fun l=>.list (.ints 0 _)
 have le:(qQ p1 ls).length=(qQ p2 ls).length:=by unfold qQ;rw [lM,lM]
 have nl:∀l∈ls,p1 l.name≠D2/\p2 l.name≠D2:=fun l hl=>⟨fun z=>(by have:=P1.lists l hl;rw [z,P2.dict] at this;cases this),fun z=>(by have:=P2.lists l hl;rw [z,P2.dict] at this;cases this)⟩
 refine⟨_,rfl,_, "dict", "dict",true,rfl,.inr (.inr ⟨rfl,_,P1.dict⟩),by decide,by decide,true,rfl,dI ?_⟩
 refine⟨_,rfl,D1,_,rfl,.inl P1.dict,_,rfl,D2,_,rfl,.inl P2.dict,rfl,_,rfl,WP (by rw [le]) ?_⟩
 have f2:∀{H':Hp} {l:aK} {o:Obj},l∈ls->H' D2=some (.frz o (.dK (qQ p2 ls)))->dZ H' D2 (.str l.name) (some (.ref (p2 l.name))):=fun {H' l o} hl e=>by rw [<-oJ (ea:=p2) nod hl];exact .inl ⟨_,Sum.inr l.name,.inr ⟨o,e⟩,rfl,rfl⟩
 refine⟨_,rfl,D2,_,rfl,P2.dict,fun o=>pX (fun j σ H'=>aM (upd H D2 (.frz o (.dK (qQ p2 ls)))) H'/\∃v2 v3,σ=[some (.ref D1),some (.ref D2),v2,v3]) ⟨aM.refl _,none,none,rfl⟩ (fun j σ H' _ h=>h.1 _ _ au) ?_ ?_⟩
 ·rintro j ky v σ H1 hj ⟨s1,v2,v3,rfl⟩
  unfold qQ at hj
  rw [List.getElem?_map] at hj
  obtain⟨l,hlj,e⟩:=Option.map_eq_some_iff.mp hj
  cases e
  have hl:=List.mem_of_getElem? hlj
  have d1:H1 D1=some (.dK (qQ p1 ls)):=s1 _ _ (by rw [aG nD];exact P1.dict)
  have x1:H1 (p1 l.name)=some (.lst ((T1.ev l.name).map V.int)):=s1 _ _ (by rw [aG (nl l hl).1];exact P1.lists l hl)
  have x2:H1 (p2 l.name)=some (.lst ((T1.ev l.name).map V.int)):=by rw [ev l hl];exact s1 _ _ (by rw [aG (nl l hl).2];exact P2.lists l hl)
  have lbl:=lb l hl
  refine⟨_,rfl,D1,rfl,.inl ⟨_,.inl d1⟩,_,rfl,_,MK d1 (oJ nod hl),?_⟩
  refine⟨_,rfl,_, "list", "list",true,rfl,.inl ⟨rfl,_,bT.of x1⟩,by decide,by decide,true,rfl,dI ?_⟩
  refine⟨_,rfl,_,rfl,_,rfl,D2,_,rfl,f2 hl (s1 _ _ au),_,_,uh (bT.of x1),uh (bT.of x2),(gdL _).shaped (by decide),(gdL _).shaped (by decide),_,rfl,?_⟩
  rw [(gdL (T1.ev l.name)).eq]
  refine dI ⟨_,rfl,p1 l.name,rfl,⟨_,bT.of x1⟩,iZ (K:=K) (a:=p1 l.name) (xs:=(T1.ev l.name).map V.int) (fun j ys H'=>H'=H1/\ys=[]) (by rw [lM];omega) ⟨rfl,rfl⟩ (fun j ys H' h=>by rw [h.2];exact Nat.zero_le _) (fun j ys H' _ h=>by rw [h.1];exact bT.of x1) ?_ ?_⟩
  ·rintro i x ys H' hx ⟨rfl,rfl⟩
   rw [List.getElem?_map] at hx
   obtain⟨n,_,rfl⟩:=Option.map_eq_some_iff.mp hx
   exact⟨_,rfl,_, "int", "int",true,rfl,rfl,by decide,by decide,true,rfl,dI ⟨_,rfl,_, "int", "bool",false,rfl,rfl,by decide,by decide,false,rfl,dI ⟨rfl,rfl⟩⟩⟩
  rintro ys H' ⟨rfl,rfl⟩ u nu
  refine⟨il,fun w nw=>⟨_,_,uh (ws:=[]) (bT.of (aB nw _ _ au)),uh (ws:=[]) (bT.of au),(gdL []).shaped (by decide),(gdL []).shaped (by decide),_,rfl,?_⟩⟩
  rw [(gdL []).eq]
  exact dI ⟨s1.trans ((aB nu).trans (aB nw)),_,_,rfl⟩
 rintro σ H1 ⟨s1,v2,v3,rfl⟩
 exact⟨_,⟨D2,o,_,s1 _ _ au,(fun o' u' z=>by rw [P2.dict] at z;cases z),rfl⟩,k _ (Vo P2.dict s1)⟩
theorem Rq {H:Hp} {L P:Addr} {ls:List aK} {ps:List PD} (A:Ar H L P ls ps):Hand K H L P ls ps:=by
 obtain⟨⟨x1,x2,x3⟩,⟨y1,y2,y3⟩⟩:=A
 refine⟨⟨x1,bT.of x2,x3.imp fun _ _ h=>?_⟩,⟨y1,bT.of y2,y3.imp fun _ _ h=>?_⟩⟩
 ·obtain⟨q,f,e,h1,h2⟩:=h
  exact⟨q,f,e,h1,.inl (bT.of h2)⟩
 ·obtain⟨q,a1,a2,a3,e,h1,h2,h3,h4⟩:=h
  exact⟨q,a1,a2,a3,e,h1,.inl (bT.of h2),.inl (bT.of h3),.inl (bT.of h4)⟩
theorem Done.same {ps:List PD} {m:Nat} {S T:FS} (c:ug ps m S T) (d:Done ps m S):T=S:=by
 cases c with
 | refl _=>rfl
 | head hp hd h _=>rw [d _ hp hd] at h;cases h
theorem gw {H:Hp} {a b:Addr} {o:HO} (e:H a=some o) (n:H b=none):b≠a:=fun z=>by rw [z,e] at n;cases n
theorem Hg {H H':Hp} (h:∀r vs,H r=some (.tup vs)->H' r=some (.tup vs)):∀{rs:List Addr} {vss:List (List V)},cL H rs vss->cL H' rs vss
 | _,_,.nil=>.nil
 | _,_,.cons e t=>.cons (h _ _ e) (Hg h t)
noncomputable def V3 (q r:Str×Addr×List Int):Prop:=q.1=r.1/\q.2.2=r.2.2
theorem CV:∀{SW RW:List (Str×Addr×List Int)},iT V3 SW RW->SW.map (·.1)=RW.map (·.1)
 | _,_,.nil=>rfl
 | _,_,.cons h r=>by rw [List.map_cons,List.map_cons,h.1,CV r]
theorem Ew:∀{SW RW:List (Str×Addr×List Int)},iT V3 SW RW->∀q∈SW,∃r∈RW,V3 q r
 | _,_,.cons h r,q,hq=>by
  rcases List.mem_cons.mp hq with rfl | hq
  ·exact⟨_,.head _,h⟩
  ·obtain⟨r',h1,h2⟩:=Ew r q hq
   exact⟨r',.tail _ h1,h2⟩
theorem K3:∀{SW RW:List (Str×Addr×List Int)},iT V3 SW RW->∀x,lU SW x=lU RW x
 | _,_,.nil,x=>rfl
 | _,_,@iT.cons _ _ _ q r _ _ h t,x=>by
  have ih:=K3 t x
  unfold lU at ih ⊢
  rw [List.find?_cons,List.find?_cons,h.1]
  by_cases e:r.1=x
  ·rw [decide_eq_true e]
   show(Option.map _ (some q)).getD []=(Option.map _ (some r)).getD []
   exact h.2
  ·rw [decide_eq_false e];exact ih
theorem Yn {H:Hp} {Q:VK} {Ex:XK} {n rw:Addr} {ls:List aK} {ps:List PD} {RW:List (Str×Addr×List Int)} {m:Nat} (N:nC K t H n ls ps) (F:vh ls ps) (R:jf H rw RW) (O:vm ps RW) (hm:m<=300) (k:∀H' D pa T,aM H H'->Tg H' D pa ls T->(∀a∈D:: ls.map (fun l=>pa l.name),H a=none)->(D:: ls.map (fun l=>pa l.name)).Nodup->ug ps m (d7 ls ps RW) T->Done ps m T->Q (.ref D) H'):jm K t [.ref n,.ref rw,.int (m:Nat)] H Q Ex:=by
 unfold jm
 exact⟨n,rw,ls,ps,RW,m,rfl,N,F,R,O,hm,fun H' D pa T s e l fr nd c d=>k H' D pa T s ⟨e,l⟩ fr nd c d⟩
theorem X7 {H:Hp} {Q:VK} {Ex:XK} {L P rw:Addr} {ls:List aK} {ps:List PD} {RW:List (Str×Addr×List Int)} {m:Nat} (A:Ar H L P ls ps) (F:vh ls ps) (R:jf H rw RW) (O:vm ps RW) (hg:∀p∈ps,p.kind=0->p.name∈RW.map (·.1)) (hm:m<=300) (k:∀H' D pa T,aM H H'->Tg H' D pa ls T->(∀a∈D:: ls.map (fun l=>pa l.name),H a=none)->(D:: ls.map (fun l=>pa l.name)).Nodup->ug ps m (d7 ls ps RW) T->Done ps m T->Q (.ref D) H'):lz K [.ref L,.ref P,.ref rw,.int (m:Nat)] H Q Ex:=by
 unfold lz
 exact⟨L,P,rw,ls,ps,RW,m,rfl,A,F,R,O,hg,hm,fun H' D pa T s e l fr nd c d=>k H' D pa T s ⟨e,l⟩ fr nd c d⟩
theorem ug.lenB {ls:List aK} {ps:List PD} {m:Nat} (F:vh ls ps) {S T:FS} (r:ug ps m S T):∀{b:Nat},Mt b ls ps S->(∀p∈ps,S.d p.name<=m)->∀l∈ls,(T.ev l.name).length<=b+2 * (j0 ps T - j0 ps S)/\j0 ps S<=j0 ps T/\∀p∈ps,T.d p.name<=m:=by
 induction r with
 | refl S=>intro b O d l hl;exact⟨Nat.le_trans (O.len l hl) (by omega),Nat.le_refl _,d⟩
 | @head S T p dd hp hm hd _ ih=>
  intro b O d l hl
  have sd:=Iz (ps:=ps) (S:=S) (dd:=dd) F.pnd hp
  obtain⟨h1,h2,h3⟩:=ih (Pz F O hp hd) (fun p' hp'=>by
   show(if p'.name=p.name then S.d p'.name+1 else S.d p'.name)<=m
   by_cases e:p'.name=p.name
   ·rw [if_pos e,e];omega
   ·rw [if_neg e];exact d p' hp') l hl
  exact⟨by omega,by omega,h3⟩
inductive zY (K:PySem.W.Frag) (vs:List V) (H:Hp) (Q:VK) (E:XK):Prop where
 | mk:∀(a:Addr) (ns:List Int),vs=[.ref a]->bT K H a (ns.map V.int)->ns.length<=63->(∀H',Q (.bl true) H')->zY K vs H Q E
noncomputable abbrev Su:List Str:=["_law_script", "_law_lanes", "_law_parts", "_law_net_one", "_law_rows_here", "_law_handed", "_law_most", "_law_due_here", "_law_found", "_law_name"]
theorem U7 (T:Txt w K mg t):FO P w K mg base 8 t.Tj ["_law_script"] (zY K):=by
 have sc:=T.KY.sc Su
 refine T.KY.F.ok sc ln (fun _ _ _ _ H vs Q E hr h=>?_)
 obtain⟨a,ns,rfl,hS,hl,k⟩:=h
 refine⟨_,(az (Qj (dY (IK T) T.vp hr (aa (pv 0) (aa aq (aa aq (aa gm ak ao) ao) ao) aj)) (zN rfl (eQ (gN sc 1) (eQ (gN sc 2) uo))))
  (az (sN sc 3 (iK (T.bD.M T.jO) (zg T) (hr.mono (by decide)) (by rfl) T.bD.m T.jO.b .nil jd (aa (pv 1) (aa (pv 2) ak aj) aj)))
  (az (sN sc 4 (dY (Ff T) T.rJ hr (aa (pv 0) (aa (pv 2) (aa aq ak ao) aj) aj)))
  (az (sN sc 5 (cB (gJ rfl) (by rfl) T.xn uf (aa (Kq (H0:=H) rfl (fM [4] Su (bz (top 82)) rfl (nW (pv 4)) (fun _ _ _ _ _=>gh) (fun _ _ _ _ _=>(bL (aa (pv 0) (aa (cB (Av (K:=K) rfl) (by rfl) T.mX jL (aa (bZ hr.u1 (pv 1) (pv 0) (fun _ _=>rfl)) ak aC)) ak aW) aj))))) ak cP)))
  (az (sN sc 6 (aY bY (dY (bh T) T.bx hr (aa (dY (iI T) T.gr hr (aa (pv 0) (aa aq ak ao) aj)) (aa aq ak ao) aW)) aq))
  (az (eX (bO (bj fX (aY bY (dY (bh T) T.bx hr (aa (dY (iI T) T.gr hr (aa (pv 0) (aa aq ak ao) aj)) (aa aq ak ao) aW)) aq) aq (bK _))
   (aA (sN sc 6 aq))
   bc))
  (az (sN sc 7 (dY (Im T) T.uY hr (aa (pv 1) (aa (pv 2) (aa (pv 4) (aa (pv 6) ak aj) aj) aj) aj)))
  (az (sN sc 8 (dY (uy T) T.lQ hr (aa (pv 3) (aa (pv 5) (aa (pv 6) ak aj) aj) aj)))
  (az (bO (PW.pt (qd (gM (fH (dY (vJ T) T.nQ hr (aa (pv 8) (aa (pv 7) ak aj) aj)))) (j4 (bj (RK hr.u100) (pv 5) (pv 4) (bK _)))))
   (aA (aR gm))
   bc)
  (az (pN (H0:=H) rfl (eN PassesOwn.never rfl (nW (pv 7)) (gN sc 9)
   (az (bM (Bo PySem.F.plainAttrs_list PySem.F.slot_list_clear PySem.F.type_list_clear N6 (bZ hr.u1 (pv 8) (pv 9) (fun _ _=>rfl))))
   (aA (fL hr.u1 (pv 5) (pv 9) (bu (aa aq ak ao)) rfl)))))
  (az (bM (Bo PySem.F.plainAttrs_dict PySem.F.slot_dict_clear PySem.F.type_dict_clear Ml (pv 8)))
  (aA (aR (dY (vJ T) T.nQ hr (aa (dY (uy T) T.lQ hr (aa (pv 3) (aa (pv 4) (aa (pv 6) ak aj) aj) aj)) (aa (pv 7) ak aj) aW))))))))))))))),?_⟩
 have hz:sizeLine=16777216:=sizeLine_eq
 refine⟨_,rfl,a,ns,1,3,true,rfl,hS,by decide,fun T' L P ls ps H2 s2 nL nP nLP eT A D=>?_⟩
 refine⟨T',_,rfl,fY.of eT,rfl,_,_,rfl,_,_,rfl,rfl,?_⟩
 have F:=D.fit
 clear eT nL nP nLP D
 have p16:=F.p16
 have l24:=F.l24
 have nod:=F.whole.nod
 obtain⟨⟨xs,eL,aL⟩,⟨ys,eP,aP⟩⟩:=id A
 refine⟨_,rfl,_,rfl,fun n dxn nn ndn nen=>?_⟩
 have gn:aM H2 (upd (upd H2 dxn (.own n)) n (.ins t.dN dxn [])):=fun b o e=>by rw [aG (aF e nn),aG (aF e ndn)];exact e
 have en:upd (upd H2 dxn (.own n)) n (.ins t.dN dxn []) n=some (.ins t.dN dxn []):=au
 generalize upd (upd H2 dxn (.own n)) n (.ins t.dN dxn [])=Hn at gn en ⊢
 refine⟨n,dxn,L,P,ls,ps,rfl,en,Rq (A.same gn),F,fun H5 b5 N5=>⟨rfl,?_⟩⟩
 have s25:aM H2 H5:=fun b o e=>b5 b o (aF e nn) (gn b o e)
 have A5:=A.same s25
 obtain⟨⟨xs5,eL5,aL5⟩,⟨ys5,eP5,aP5⟩⟩:=id A5
 refine⟨_,rfl,_,rfl,a,P,ns,ys5,ps,6,rfl,(s2.trans s25).seq hS,eP5,aP5,p16,fun H6 d RW s6 nd hR6 lR hg=>?_⟩
 have R6:=hR6.at'
 have O6:vm ps RW:=⟨hR6.door,hR6.bnd⟩
 have lK:(cT RW).length=RW.length:=by unfold cT;rw [lM]
 have nfd:∀o u,H d≠some (.frz o u):=fun o u z=>by rw [(s2.trans s25).free nd] at z;cases z
 have nfr:∀r∈RW,r.2.1≠d:=fun r hr z=>by have:=R6.lists r hr;rw [z,R6.dict] at this;cases this
 refine⟨_,rfl,d,_,rfl,R6.dict,fun o=>Eb (fun j zs H'=>aM (upd H6 d (.frz o (.dK (cT RW)))) H'/\∃(rs:List Addr) (HW:List (Str×Addr×List Int)),zs=rs.map V.ref/\rs.length<=j/\iT V3 HW (RW.take j)/\cL H' rs (HW.map fun q=>[.str q.1,.ref q.2.1])/\∀q∈HW,H' q.2.1=some (.lst (q.2.2.map V.int))/\q.2.1≠d) (by omega) ⟨aM.refl _,[],[],rfl,Nat.le_refl _,.nil,.nil,by simp⟩ (fun j zs H' ⟨_,rs,_,e,e2,_⟩=>by rw [e,lM];exact e2) (fun j zs H' _ h=>h.1 _ _ au) ?_ ?_⟩
 ·rintro j ky v zs H7 hj ⟨s7,rs,HW,rfl,lr,aH,tr,hH⟩
  unfold cT at hj
  rw [List.getElem?_map] at hj
  obtain⟨r,hrj,e⟩:=Option.map_eq_some_iff.mp hj
  cases e
  have hr:=List.mem_of_getElem? hrj
  have ev:cC (cT RW) (Sum.inr r.1)=some (.ref r.2.1):=f9 (by rw [jV];exact dh R6.nd) (List.mem_map.mpr ⟨r,hr,rfl⟩)
  have g6:dZ H7 d (.str r.1) (some (.ref r.2.1)):=by rw [<-ev];exact .inl ⟨_,Sum.inr r.1,.inr ⟨o,s7 _ _ au⟩,rfl,rfl⟩
  have x7:H7 r.2.1=some (.lst (r.2.2.map V.int)):=s7 _ _ (by rw [aG (nfr r hr)];exact R6.lists r hr)
  refine yes ⟨_,rfl,_,rfl,_,rfl,d,_,rfl,g6,r.2.1,_,rfl,.inl (bT.of x7),fun u nu=>⟨il,fun w nw=>?_⟩⟩
  have t8:=aB (o:=.lst (r.2.2.map V.int)) nu
  have t9:=aB (o:=.tup [.str r.1,.ref u]) nw
  have nud:u≠d:=gw (s7 _ _ au) nu
  refine⟨s7.trans (t8.trans t9),rs ++ [w],HW ++ [(r.1,u,r.2.2)],by simp,by rw [lP];exact Nat.succ_le_succ lr,?_,?_,fun q hq=>?_⟩
  ·rw [List.take_succ,hrj,Option.toList_some]
   exact aH.app (.cons ⟨rfl,rfl⟩ .nil)
  ·rw [List.map_append]
   exact cL.append (cL.same (t8.trans t9) tr) (.cons au .nil)
  ·rcases List.mem_append.mp hq with h | h
   ·exact⟨t9 _ _ (t8 _ _ (hH q h).1),(hH q h).2⟩
   ·rw [List.mem_singleton] at h
    subst h
    exact⟨t9 _ _ au,nud⟩
 rintro zs H7 ⟨s7,rs,HW,rfl,lr,aH,tr,hH⟩ Lh nLh
 rw [lK,List.take_length] at aH
 have t8:=aB (o:=.lst (rs.map V.ref)) nLh
 refine⟨_,⟨d,o,_,t8 _ _ (s7 _ _ au),nfd,rfl⟩,?_⟩
 have s8:=Vo R6.dict (s7.trans t8)
 have g8:∀{b:Addr} {u:HO},upd H7 Lh (.lst (rs.map V.ref)) b=some u->(∀o k,u≠.frz o k)->upd (upd H7 Lh (.lst (rs.map V.ref))) d (.dK (cT RW)) b=some u:=fun {b u} e h=>by
  rw [aG fun z=>by rw [z,t8 _ _ (s7 _ _ au)] at e;exact h _ _ (Option.some.inj e).symm]
  exact e
 have eLh:=g8 (b:=Lh) au (by intro _ _ z;cases z)
 have tr8:cL (upd (upd H7 Lh (.lst (rs.map V.ref))) d (.dK (cT RW))) rs (HW.map fun q=>[.str q.1,.ref q.2.1]):=Hg (fun r vs e=>g8 (t8 _ _ e) (by intro _ _ z;cases z)) tr
 have hH8:∀q∈HW,upd (upd H7 Lh (.lst (rs.map V.ref))) d (.dK (cT RW)) q.2.1=some (.lst (q.2.2.map V.int)):=fun q hq=>g8 (t8 _ _ (hH q hq).1) (by intro _ _ z;cases z)
 generalize upd (upd H7 Lh (.lst (rs.map V.ref))) d (.dK (cT RW))=H8 at s8 eLh tr8 hH8 ⊢
 clear g8 t8 tr hH s7 nLh
 have nmH:=CV aH
 refine⟨Lh,rs,cT HW,rfl,bT.of eLh,by unfold cT;rw [List.map_map];exact tr8,by rw [jV,nmH];exact dh R6.nd,fun hd nhd=>?_⟩
 have t9:=aB (o:=.dK (cT HW)) nhd
 have ehd:upd H8 hd (.dK (cT HW)) hd=some (.dK (cT HW)):=au
 have s69:=s8.trans t9
 have RH:jf (upd H8 hd (.dK (cT HW))) hd HW:=by
  refine⟨au,fun q hq=>t9 _ _ (hH8 q hq),by rw [nmH];exact R6.nd,fun q hq=>?_⟩
  obtain⟨r,hr,_,e⟩:=Ew aH q hq
  rw [e]
  exact R6.len r hr
 have nhd6:=s8.free nhd
 generalize upd H8 hd (.dK (cT HW))=H9 at t9 ehd s69 RH ⊢
 have OH:vm ps HW:=by
  refine⟨fun q hq=>?_,fun q hq v hv=>?_⟩ <;> obtain⟨r,hr,e1,e⟩:=Ew aH q hq
  ·rw [e1];exact O6.door r hr
  ·exact O6.bnd r hr v (by rw [<-e];exact hv)
 have eS:d7 ls ps HW=d7 ls ps RW:=by
  have:lU HW=lU RW:=funext (K3 aH)
  unfold d7
  rw [this]
 have s59:=s6.trans s69
 have N9:=N5.same s59
 have A9:=A5.same s59
 have R9:=R6.same s69
 have hS9:=((s2.trans s25).trans s59).seq hS
 clear eLh tr8 hH8
 refine⟨_,rfl,a,ns,0,rfl,hS9,_,_,rfl,_,_,rfl,rfl,by show(0:Int) <41;decide,?_⟩
 obtain⟨m0,hm0,hm40⟩:∃m:Nat,cH (jB ns 0) 3 % 41=(m:Int)/\m<=40:=⟨(cH (jB ns 0) 3 % 41).toNat,(Int.toNat_of_nonneg (Int.emod_nonneg _ (by decide))).symm,by have:=Int.emod_lt_of_pos (cH (jB ns 0) 3) (show(0:Int) <41 by decide);omega⟩
 dsimp only
 rw [hm0]
 refine⟨fun σ' H'=>H'=H9/\∃m:Nat,m<=300/\σ'=[some (.ref a),some (.ref L),some (.ref P),some (.ref n),some (.ref d),some (.ref hd),some (.int (m:Nat)),none,none,none],?_,?_⟩
 ·exact⟨_,rfl,a,ns,0,rfl,hS9,_,_,rfl,_,_,rfl,rfl,by show(0:Int) <16;decide,rfl,_,rfl,jt (fun _=>⟨rfl,300,by decide,rfl⟩) (fun _=>⟨rfl,m0,by omega,rfl⟩)⟩
 rintro σ' H' ⟨rfl,m,hm,rfl⟩
 refine⟨_,rfl,_,rfl,_,rfl,_,rfl,X7 A9 F R9 O6 hg hm fun H10 D2 p2 T2 s10 P2 fr2 nd2 c2 d2=>?_⟩
 refine⟨_,rfl,_,rfl,_,rfl,Yn (N9.same s10) F (RH.same s10) OH hm fun H11 D1 p1 T1 s11 P1 fr1 nd1 c1 d1=>?_⟩
 rw [eS] at c1
 have eT:T2=T1:=Done.same (ug.ends F c1 c2 d2) d1
 have lb:∀T,ug ps m (d7 ls ps RW) T->∀l∈ls,(T.ev l.name).length<=90000:=fun T c l hl=>by
  obtain⟨h1,h2,h3⟩:=c.lenB F (xM (RW:=RW) F (fun q hq=>R6.len q hq) O6.bnd) (fun p _=>Nat.zero_le _) l hl
  have:=Bs h3
  have hpl:ps.length * m<=4800:=Nat.le_trans (Nat.mul_le_mul p16 hm) (by decide)
  omega
 have m1:∀l∈ls,p1 l.name∈D1:: ls.map (fun l=>p1 l.name):=fun l hl=>.tail _ (List.mem_map.mpr ⟨l,hl,rfl⟩)
 have m2:∀l∈ls,p2 l.name∈D2:: ls.map (fun l=>p2 l.name):=fun l hl=>.tail _ (List.mem_map.mpr ⟨l,hl,rfl⟩)
 have nD12:D1≠D2:=gw P2.dict (fr1 D1 (.head _))
 refine⟨_,rfl,_,rfl,D1,D2,p1,p2,ls,T1,T2,rfl,P1,P2.same s11,nD12,nod,fun l _=>by rw [eT],lb T1 c1,fun H12 s12=>⟨_,rfl,dI ?_⟩⟩
 have s1012:=s11.trans s12
 have s912:=s10.trans s1012
 have ehd12:=s912 _ _ ehd
 have gdL:∀l:List Int,Gd 1 (.list (l.map PyData.int)):=fun l=>.list (.ints 0 _)
 refine⟨_,rfl,_,rfl,⟨hd,d,_,_,rfl,rfl,.inl ehd12,.inl (R9.same s912).dict,?_,fun i ky v hi=>?_⟩,_,rfl,dI ?_⟩
 ·unfold cT
  rw [lM,lM,aH.length]
 ·unfold cT at hi ⊢
  rw [List.getElem?_map] at hi ⊢
  obtain⟨q,hq,e1⟩:=Option.map_eq_some_iff.mp hi
  cases e1
  obtain⟨r,hr,en,ev⟩:=aH.get hq
  have xq:=(RH.same s912).lists q (List.mem_of_getElem? hq)
  have xr:=(R9.same s912).lists r (List.mem_of_getElem? hr)
  rw [<-ev] at xr
  exact⟨.ref r.2.1,_,by rw [hr,en];rfl,uh (bT.of xq),uh (bT.of xr),(gdL _).shaped (by decide),(gdL _).eq⟩
 have P12:=P1.same s12
 have Q12:=P2.same s1012
 obtain⟨E,hE⟩:∃E:List Addr,E=hd:: ls.map (fun l=>p1 l.name):=⟨_,rfl⟩
 have nE:∀{b:Addr},b≠hd->(∀l∈ls,p1 l.name≠b)->b∉E:=fun {b} h1 h2 z=>by
  rw [hE] at z
  rcases List.mem_cons.mp z with z | z
  ·exact h1 z
  ·obtain⟨l,hl,e⟩:=List.mem_map.mp z
   exact h2 l hl e
 have old9:∀{b:Addr} {u:HO},H10 b=some u->b≠hd->b∉E:=fun {b u} e h=>nE h fun l hl z=>by rw [<-z,fr1 _ (m1 l hl)] at e;cases e
 have D1E:D1∉E:=nE (gw (s10 _ _ ehd) (fr1 D1 (.head _))) fun l hl z=>(List.nodup_cons.mp nd1).1 (by rw [<-z];exact List.mem_map.mpr ⟨l,hl,rfl⟩)
 have D2E:D2∉E:=old9 P2.dict (gw ehd (fr2 D2 (.head _)))
 have L2E:∀l∈ls,p2 l.name∉E:=fun l hl=>old9 (P2.lists l hl) (gw ehd (fr2 _ (m2 l hl)))
 have nfD2:∀o u,H D2≠some (.frz o u):=fun o u z=>by rw [((s2.trans s25).trans s59).free (fr2 D2 (.head _))] at z;cases z
 have lne2:∀l∈ls,p2 l.name≠D2:=fun l hl z=>by have:=P2.lists l hl;rw [z,P2.dict] at this;cases this
 refine⟨_,rfl,D2,_,rfl,Q12.dict,fun o2=>?_⟩
 obtain⟨C,hC⟩:∃C,C=bA E (upd H12 D2 (.frz o2 (.dK (qQ p2 ls)))):=⟨_,rfl⟩
 have C2:C D2=some (.frz o2 (.dK (qQ p2 ls))):=by rw [hC];exact dH au D2E
 have C1:C D1=some (.dK (qQ p1 ls)):=by rw [hC];exact dH (by rw [aG nD12];exact P12.dict) D1E
 have CE:∀{b:Addr} {u:HO},C b=some u->b∉E:=fun {b u} e z=>by rw [hC] at e;unfold bA at e;rw [if_pos z] at e;cases e
 have hdD2:hd≠D2:=Ne.symm (gw ehd (fr2 D2 (.head _)))
 have p1D2:∀l∈ls,p1 l.name≠D2:=fun l hl=>gw P2.dict (fr1 _ (m1 l hl))
 have hdE:hd∈E:=by rw [hE];exact .head _
 have plE:∀l∈ls,p1 l.name∈E:=fun l hl=>by rw [hE];exact .tail _ (List.mem_map.mpr ⟨l,hl,rfl⟩)
 have lHW:HW.length<=16:=by have:=aH.length;omega
 refine pX (fun j σ H'=>(∃v9,σ=[some (.ref a),some (.ref L),some (.ref P),some (.ref n),some (.ref d),some (.ref hd),some (.int (m:Nat)),some (.ref D2),some (.ref D1),v9])/\aM C H'/\(∃kvs,H' hd=some (.dK kvs)/\kvs.length<=16+j)/\∀l∈ls,∃zs,H' (p1 l.name)=some (.lst zs)) ⟨⟨none,rfl⟩,by rw [hC];exact dF,⟨cT HW,by rw [aG hdD2];exact ehd12,by unfold cT;rw [lM];omega⟩,fun l hl=>⟨_,by rw [aG (p1D2 l hl)];exact P12.lists l hl⟩⟩ (fun j σ H' _ h=>h.2.1 _ _ C2) ?_ ?_
 ·rintro j ky v σ Ha hj ⟨⟨v9,rfl⟩,sa,⟨kvs,ea,la⟩,za⟩
  have hj24:=(List.getElem?_eq_some_iff.mp hj).1
  unfold qQ at hj hj24
  rw [lM] at hj24
  rw [List.getElem?_map] at hj
  obtain⟨l,hlj,e⟩:=Option.map_eq_some_iff.mp hj
  cases e
  have hl:=List.mem_of_getElem? hlj
  obtain⟨zs,ez⟩:=za l hl
  have nh:hd≠p1 l.name:=fun z=>by rw [z,ez] at ea;cases ea
  refine⟨_,rfl,_,rfl,D1,_,rfl,MK (sa _ _ C1) (oJ nod hl),.inl ⟨rfl,_,bT.of ez⟩,p1 l.name,_,rfl,rfl,ez,?_⟩
  have sb:aM C (upd Ha (p1 l.name) (.lst [])):=fun b u e=>by rw [aG fun z=>CE e (by rw [z];exact plE l hl)];exact sa b u e
  have eb:upd Ha (p1 l.name) (.lst []) hd=some (.dK kvs):=by rw [aG nh];exact ea
  have zb:∀l'∈ls,∃zs,upd Ha (p1 l.name) (.lst []) (p1 l'.name)=some (.lst zs):=fun l' hl'=>by
   by_cases e:p1 l'.name=p1 l.name
   ·rw [e];exact⟨_,au⟩
   ·rw [aG e];exact za l' hl'
  generalize upd Ha (p1 l.name) (.lst [])=Hb at sb eb zb ⊢
  refine⟨il,fun u nu=>⟨_,rfl,_,rfl,hd,_,rfl,mj.k (k:=Sum.inr l.name) (aB nu _ _ eb) (by omega),⟨_,rfl⟩,fun b w e=>?_,⟨_,au,by have:=jE kvs (Sum.inr l.name:Key) (.ref u);omega⟩,fun l' hl'=>?_⟩⟩
  ·rw [aG fun z=>CE e (by rw [z];exact hdE)]
   exact aB nu _ _ (sb b w e)
  ·obtain⟨zs,e⟩:=zb l' hl'
   refine⟨zs,?_⟩
   rw [aG fun z=>by rw [z,eb] at e;cases e]
   exact aB nu _ _ e
 rintro σ Ha ⟨⟨v9,rfl⟩,sa,_,_⟩
 refine⟨_,⟨D2,o2,_,sa _ _ C2,nfD2,rfl⟩,?_⟩
 have kp:∀{b:Addr} {u:HO},H12 b=some u->b∉E->b≠D2->upd Ha D2 (.dK (qQ p2 ls)) b=some u:=fun {b u} e h1 h2=>by
  rw [aG h2]
  exact sa _ _ (by rw [hC];exact dH (by rw [aG h2];exact e) h1)
 have eD1:=kp P12.dict D1E nD12
 have eD2:upd Ha D2 (.dK (qQ p2 ls)) D2=some (.dK (qQ p2 ls)):=au
 have eL2:∀l∈ls,upd Ha D2 (.dK (qQ p2 ls)) (p2 l.name)=some (.lst ((T2.ev l.name).map V.int)):=fun l hl=>kp (Q12.lists l hl) (L2E l hl) (lne2 l hl)
 have s6a:aM H6 (upd Ha D2 (.dK (qQ p2 ls))):=fun b u e=>kp (s912 _ _ (s69 _ _ e)) (old9 (s10 _ _ (s69 _ _ e)) (aF e nhd6)) fun z=>by rw [z,s69.free (fr2 D2 (.head _))] at e;cases e
 generalize upd Ha D2 (.dK (qQ p2 ls))=Hb at eD1 eD2 eL2 s6a ⊢
 refine⟨_,rfl,.inr (.inr (.inl ⟨rfl,.inl ⟨_,eD1⟩⟩)),D1,_,rfl,rfl,eD1,?_⟩
 have nD1o:∀{b:Addr} {u:HO},H10 b=some u->b≠D1:=fun {b u} e z=>by rw [z,fr1 D1 (.head _)] at e;cases e
 have s6b:aM H6 (upd Hb D1 (.dK [])):=fun b u e=>by rw [aG (nD1o (s10 _ _ (s69 _ _ e)))];exact s6a b u e
 have P2b:Tg (upd Hb D1 (.dK [])) D2 p2 ls T2:=⟨by rw [aG (Ne.symm nD12)];exact eD2,fun l hl=>by rw [aG (nD1o (P2.lists l hl))];exact eL2 l hl⟩
 generalize upd Hb D1 (.dK [])=Hc at s6b P2b ⊢
 refine⟨_,rfl,_,rfl,_,rfl,Yn ((N5.same s6).same s6b) F (R6.same s6b) O6 hm fun Hd D3 p3 T3 sd P3 fr3 nd3 c3 d3=>?_⟩
 have eT3:T2=T3:=Done.same (ug.ends F c3 c2 d2) d3
 exact⟨_,rfl,D3,D2,p3,p2,ls,T3,T2,rfl,P3,P2b.same sd,gw P2b.dict (fr3 D3 (.head _)),nod,fun l _=>by rw [eT3],lb T3 c3,fun _ _=>k _⟩
end
theorem fin {l:PySem.W.OpenLaw} {w:World} {K:PySem.W.Frag} {mg:Str->Option Value} {fa r0 r1 r2 r3 r4 r5 r6 r7 r8 r9 r10 r11 r12 r13 r14 r15 r16 r17 r18 r19 r20 r21 r22 r23 r24 r25 r26 r27 r28 r29 r30 r31 r32 r33 r34 r35 r36 r37 r38 r39 r40 r41 r42 r43 r44 r45 r46 r47 r48 r49 r50 r51 r52 r53 r54 r55 r56 r57 r58 r59 r60 r61 r62 r63 r64 r65 r66 r67 r68 r69 r70 r71 r72 r73 r74 r75 r76 r77 r78 r79 r80 r81 r82 r83 r84 r85 r86 r87 r88 r89 r90 r91 r92 r93 r94 r95:Addr} (hfa:mg "law" =some (.ref fa)) (T:Txt w K mg ⟨r0,r1,r2,r3,r4,r5,r6,r7,r8,r9,r10,r11,r12,r13,r14,r15,r16,r17,r18,r19,r20,r21,r22,r23,r24,r25,r26,r27,r28,r29,r30,r31,r32,r33,r34,r35,r36,r37,r38,r39,r40,r41,r42,r43,r44,r45,r46,r47,r48,r49,r50,r51,r52,r53,r54,r55,r56,r57,r58,r59,r60,r61,r62,r63,r64,r65,r66,r67,r68,r69,r70,r71,r72,r73,r74,r75,r76,r77,r78,r79,r80,r81,r82,r83,r84,r85,r86,r87,r88,r89,r90,r91,r92,r93,r94,r95⟩):∃fd:FuncData,(∀(s:Shared) (v:Value),BindsTo s fd ⟨[v],[]⟩ [("_law_script",v)])/\∀base:Heap,K.In base->base.Ns mainGlobals mg->iW l.prog w K mg base Cm 8 fa fd ["_law_script"] (zY K):=by
 have e:=hfa.symm.trans T.KY.m
 cases e
 exact⟨_,Ut T.KY.F fun _ _ _ _ _ _ _=>rfl,fun base _ _=>U7 T⟩
theorem walk {l:PySem.W.OpenLaw} {q:Program} {loose:List Str} {XP:(Str->Option Value)->Heap->Prop} {YP:World->Heap->Prop} {d:DefRec} {K:Params->PySem.W.Frag} (hn:l.most=some 63) (hdf:d.params.defaults=[])
  (hY:∀(w:World) (h:Heap),YP w h->(K w.params).In h)
  (F:∀(w:World) (mg:Str->Option Value) (fa:Addr) (h:Heap),(K w.params).In h->h.Ns mainGlobals mg->mg d.name=some (.ref fa)->
   ∃fd:FuncData,(∀(s:Shared) (u:Value),BindsTo s fd ⟨[u],[]⟩ [("_law_script",u)])/\∀base:Heap,(K w.params).In base->base.Ns mainGlobals mg->iW l.prog w (K w.params) mg base Cm 8 fa fd ["_law_script"] (zY (K w.params))):
  PySem.W.WalkO q loose XP YP l.row.toRowW d [] (fun f vs=>PySem.call f vs):=
 L2.RD (n:=63) (k:=8) (x:= "_law_script") (CX:=fun _=>Cm) (sp:=fun w=>zY (K w.params)) hn (by decide) hdf ⟨rfl,by decide,by decide⟩ hY F (fun _ _ a ns hl _ hS=>⟨a,ns,rfl,hS,hl,fun _=>rfl⟩) fun _ _ _ _ _ z=>z
end K31
open PySem PySem.W PyProof.Rows L2
set_option maxRecDepth 100000 in
set_option maxHeartbeats 0 in
theorem PySem.Challenge.cw_holdlane_k31_rows_of_the_plain_net_holds : PySem.Challenge.rw_holdlane_k31_rows_of_the_plain_net.Holds := by
 w_on;o_law
 refine HD.head (by rfl) (by rfl) (by rfl) (by rfl) (by first | assumption | decide +kernel) (by decide +kernel) ⟨rfl,rfl,rfl,rfl,rfl,by decide +kernel⟩ rfl (fun _=>rfl) ?_ ?_
 ·w_witness2
 k_fill
 refine K31.walk (l:=PySem.Challenge.rw_holdlane_k31_rows_of_the_plain_net) rfl rfl (fun w h Y=>PySem.W.kIn_of Y) ?F
 case F=>
  intro w mg fa h KX G hmg
  refine' K31.fin hmg ⟨?q0,?q1,?q2,?q3,?q4,?q5,?q6,?q7,?q8,?q9,?q10,?q11,?q12,?q13,?q14,?q15,?q16,?q17,?q18,?q19,?q20,?q21,?q22,?q23,?q24,?q25,?q26,?q27,?q28,?q29,?q30,?q31,?q32,?q33,?q34,?q35,?q36,?q37,?q38,?q39,?q40,?q41,?q42,?q43,?q44,?q45,?q46,?q47,?q48,?q49,?q50,?q51,?q52,?q53,?q54,?q55,?q56,?q57,?q58,?q59,?q60,?q61,?q62,?q63,?q64,?q65,?q66,?q67,?q68,?q69,?q70,?q71,?q72,?q73,?q74,?q75,?q76,?q77,?q78,?q79,?q80,?q81,?q82,?q83,?q84,?q85,?q86,?q87,?q88,?q89,?q90,?q91,?q92,?q93,?q94,?q95,?q96,?q97,?q98,?q99,?q100,?q101,?q102,?q103,?q104,?q105,?q106,?q107,?q108,?q109,?q110,?q111,?q112,?q113,?q114,?q115,?q116,?q117,?q118⟩
  all_goals try dsimp only
  (case q0 | q1 | q2 | q3 | q4 | q5 | q6 | q7 | q8 | q9 | q10=>refine' ⟨mg_of KX G ?_,⟨?_,?_,?_,?_⟩,?_,?_,⟨?_,?_,?_,?_,?_,?_,trivial⟩,⟨?_,?_,?_,?_,trivial⟩⟩ <;> (try dsimp only) <;> k_is)
  (case q11=>refine' ⟨mg_of KX G ?_,⟨?_,?_,?_,?_⟩,?_,?_,⟨?_,?_,?_,?_,?_,?_,?_,?_,trivial⟩,⟨?_,?_,?_,?_,?_,trivial⟩⟩ <;> (try dsimp only) <;> k_is)
  (case q12=>refine' ⟨mg_of KX G ?_,⟨?_,?_,?_,?_⟩,?_,?_,⟨?_,?_,?_,?_,?_,?_,?_,?_,trivial⟩,⟨?_,?_,?_,?_,?_,?_,trivial⟩⟩ <;> (try dsimp only) <;> k_is)
  (case q13 | q14=>refine' .of (mg_of KX G ?_) (fD.of ?_ ?_ ?_ ?_ (fun _ _ _ _ _ _=>Cu fun _=>rfl)) <;> (try k_is);all_goals try k_is)
  (case q15=>refine' fD.of ?_ ?_ ?_ ?_ (fun _ _ _ _ _ _=>Tw fun _ _ _ _ _=>rfl) <;> try k_is)
  (case q16 | q17 | q18 | q19 | q20 | q21 | q22 | q23 | q24 | q25 | q26=>refine' fD.of ?_ ?_ ?_ ?_ (fun _ _ _ _ _ _=>Cu fun _=>rfl) <;> try k_is)
  (case q27=>refine' .of (mg_of KX G ?_) (fD.of ?_ ?_ ?_ ?_ (fun _ _ _ _ _ _=>Cu fun _=>rfl)) <;> (try k_is);all_goals try k_is)
  (case q28 | q29 | q30=>refine' .of (mg_of KX G ?_) (fD.of ?_ ?_ ?_ ?_ (fun _ _ _ _ _ _=>Tw fun _ _ _ _ _=>rfl)) <;> (try k_is);all_goals try k_is)
  (case q31=>refine' .of (mg_of KX G ?_) (fD.of ?_ ?_ ?_ ?_ (fun _ _ _ _ _ _=>Cu fun _=>rfl)) <;> (try k_is);all_goals try k_is)
  (case q32 | q33 | q34=>refine' fD.of ?_ ?_ ?_ ?_ (fun _ _ _ _ _ _=>Cp fun _ _=>rfl) <;> try k_is)
  (case q35 | q36=>refine' fD.of ?_ ?_ ?_ ?_ (fun _ _ _ _ _ _=>Cu fun _=>rfl) <;> try k_is)
  (case q37 | q38 | q39 | q40 | q41 | q42 | q43 | q44 | q45 | q46 | q47=>refine' fD.of ?_ ?_ ?_ ?_ (fun _ _ _ _ _ _=>Fw fun _ _ _=>rfl) <;> try k_is)
  (case q48 | q49 | q50 | q51=>refine' .of (mg_of KX G ?_) (fD.of ?_ ?_ ?_ ?_ (fun _ _ _ _ _ _=>Cp fun _ _=>rfl)) <;> (try k_is);all_goals try k_is)
  (case q52=>refine' .of (mg_of KX G ?_) (fD.of ?_ ?_ ?_ ?_ (fun _ _ _ _ _ _=>Fw fun _ _ _=>rfl)) <;> (try k_is);all_goals try k_is)
  (case q53=>refine' .of (mg_of KX G ?_) (fD.of ?_ ?_ ?_ ?_ (fun _ _ _ _ _ _=>Cp fun _ _=>rfl)) <;> (try k_is);all_goals try k_is)
  (case q54=>refine' .of (mg_of KX G ?_) (fD.of ?_ ?_ ?_ ?_ (fun _ _ _ _ _ _=>Vr fun _ _ _ _ _ _=>rfl)) <;> (try k_is);all_goals try k_is)
  (case q55=>refine' .of (mg_of KX G ?_) (fD.of ?_ ?_ ?_ ?_ (fun _ _ _ _ _ _=>QK fun _ _ _ _=>rfl)) <;> (try k_is);all_goals try k_is)
  (case q56 | q57 | q58=>refine' .of (mg_of KX G ?_) (fD.of ?_ ?_ ?_ ?_ (fun _ _ _ _ _ _=>Fw fun _ _ _=>rfl)) <;> (try k_is);all_goals try k_is)
  (case q59=>refine' .of (mg_of KX G ?_) (fD.of ?_ ?_ ?_ ?_ (fun _ _ _ _ _ _=>QK fun _ _ _ _=>rfl)) <;> (try k_is);all_goals try k_is)
  (case q60=>refine' .of (mg_of KX G ?_) (fD.of ?_ ?_ ?_ ?_ (fun _ _ _ _ _ _=>Cu fun _=>rfl)) <;> (try k_is);all_goals try k_is)
  (case q61 | q62=>refine' .of (mg_of KX G ?_) (fD.of ?_ ?_ ?_ ?_ (fun _ _ _ _ _ _=>Cp fun _ _=>rfl)) <;> (try k_is);all_goals try k_is)
  (case q63=>refine' .of (mg_of KX G ?_) (fD.of ?_ ?_ ?_ ?_ (fun _ _ _ _ _ _=>Fw fun _ _ _=>rfl)) <;> (try k_is);all_goals try k_is)
  (case q64=>refine' .of (mg_of KX G ?_) (fD.of ?_ ?_ ?_ ?_ (fun _ _ _ _ _ _=>Cp fun _ _=>rfl)) <;> (try k_is);all_goals try k_is)
  (case q65=>refine' .of (mg_of KX G ?_) (fD.of ?_ ?_ ?_ ?_ (fun _ _ _ _ _ _=>QK fun _ _ _ _=>rfl)) <;> (try k_is);all_goals try k_is)
  (case q66 | q67 | q68=>refine' .of (mg_of KX G ?_) (fD.of ?_ ?_ ?_ ?_ (fun _ _ _ _ _ _=>Fw fun _ _ _=>rfl)) <;> (try k_is);all_goals try k_is)
  (case q69 | q70=>refine' fD.of ?_ ?_ ?_ ?_ (fun _ _ _ _ _ _=>Cu fun _=>rfl) <;> try k_is)
  (case q71=>refine' fD.of ?_ ?_ ?_ ?_ (fun _ _ _ _ _ _=>Cp fun _ _=>rfl) <;> try k_is)
  (case q72=>refine' fD.of ?_ ?_ ?_ ?_ (fun _ _ _ _ _ _=>Cu fun _=>rfl) <;> try k_is)
  (case q73 | q74 | q75=>refine' fD.of ?_ ?_ ?_ ?_ (fun _ _ _ _ _ _=>Cp fun _ _=>rfl) <;> try k_is)
  (case q76=>refine' fD.of ?_ ?_ ?_ ?_ (fun _ _ _ _ _ _=>Fw fun _ _ _=>rfl) <;> try k_is)
  (case q77 | q78 | q79 | q80 | q81 | q82=>refine' fD.of ?_ ?_ ?_ ?_ (fun _ _ _ _ _ _=>Cp fun _ _=>rfl) <;> try k_is)
  (case q83 | q84=>refine' fD.of ?_ ?_ ?_ ?_ (fun _ _ _ _ _ _=>Fw fun _ _ _=>rfl) <;> try k_is)
  (case q85=>refine' .of (mg_of KX G ?_) (fD.of ?_ ?_ ?_ ?_ (fun _ _ _ _ _ _=>Cu fun _=>rfl)) <;> (try k_is);all_goals try k_is)
  (case q86=>refine' .of (mg_of KX G ?_) (fD.of ?_ ?_ ?_ ?_ (fun _ _ _ _ _ _=>Cp fun _ _=>rfl)) <;> (try k_is);all_goals try k_is)
  (case q87 | q88=>refine' .of (mg_of KX G ?_) (fD.of ?_ ?_ ?_ ?_ (fun _ _ _ _ _ _=>Fw fun _ _ _=>rfl)) <;> (try k_is);all_goals try k_is)
  (case q89=>refine' .of (mg_of KX G ?_) (fD.of ?_ ?_ ?_ ?_ (fun _ _ _ _ _ _=>Tw fun _ _ _ _ _=>rfl)) <;> (try k_is);all_goals try k_is)
  (case q90=>refine' .of (mg_of KX G ?_) (fD.of ?_ ?_ ?_ ?_ (fun _ _ _ _ _ _=>Fw fun _ _ _=>rfl)) <;> (try k_is);all_goals try k_is)
  (case q91=>refine' .of (mg_of KX G ?_) (fD.of ?_ ?_ ?_ ?_ (fun _ _ _ _ _ _=>Vr fun _ _ _ _ _ _=>rfl)) <;> (try k_is);all_goals try k_is)
  (case q92=>refine' .of (mg_of KX G ?_) (fD.of ?_ ?_ ?_ ?_ (fun _ _ _ _ _ _=>QK fun _ _ _ _=>rfl)) <;> (try k_is);all_goals try k_is)
  (case q93=>refine' .of (mg_of KX G ?_) (fD.of ?_ ?_ ?_ ?_ (fun _ _ _ _ _ _=>Cp fun _ _=>rfl)) <;> (try k_is);all_goals try k_is)
  (case q94=>refine' .of (mg_of KX G ?_) (fD.of ?_ ?_ ?_ ?_ (fun _ _ _ _ _ _=>Cu fun _=>rfl)) <;> (try k_is);all_goals try k_is)
  (case q95=>refine' mg_of KX G ?_;k_is)
  (case q96=>
   refine' L2.KTab.mk' ?lk ?c1 ?c2 ?c3 ?c4 ?sm ?rows ?nd
   (case lk=>k_is)
   (case c1=>exact rfl)
   (case c2=>exact rfl)
   (case c3=>exact rfl)
   (case c4=>exact rfl)
   (case sm=>exact rfl)
   (case nd=>decide +kernel)
   (case rows=>
    refine' L2.jA.cons ?hh0 ?lk0 ?cc0 ?dd0 ?vv0 ?zz0 ?rest0
    (case hh0=>exact rfl)
    (case lk0=>k_is)
    (case cc0=>exact rfl)
    (case dd0=>exact rfl)
    (case vv0=>exact .cons ⟨_,rfl⟩ (.cons ⟨_,rfl⟩ (.cons ⟨_,rfl⟩ .nil)))
    (case zz0=>decide)
    refine' L2.jA.cons ?hh1 ?lk1 ?cc1 ?dd1 ?vv1 ?zz1 ?rest1
    (case hh1=>exact rfl)
    (case lk1=>k_is)
    (case cc1=>exact rfl)
    (case dd1=>exact rfl)
    (case vv1=>exact .cons ⟨_,rfl⟩ (.cons ⟨_,rfl⟩ (.cons ⟨_,rfl⟩ .nil)))
    (case zz1=>decide)
    refine' L2.jA.cons ?hh2 ?lk2 ?cc2 ?dd2 ?vv2 ?zz2 ?rest2
    (case hh2=>exact rfl)
    (case lk2=>k_is)
    (case cc2=>exact rfl)
    (case dd2=>exact rfl)
    (case vv2=>exact .cons ⟨_,rfl⟩ (.cons ⟨_,rfl⟩ (.cons ⟨_,rfl⟩ .nil)))
    (case zz2=>decide)
    refine' L2.jA.cons ?hh3 ?lk3 ?cc3 ?dd3 ?vv3 ?zz3 ?rest3
    (case hh3=>exact rfl)
    (case lk3=>k_is)
    (case cc3=>exact rfl)
    (case dd3=>exact rfl)
    (case vv3=>exact .cons ⟨_,rfl⟩ (.cons ⟨_,rfl⟩ (.cons ⟨_,rfl⟩ .nil)))
    (case zz3=>decide)
    refine' L2.jA.cons ?hh4 ?lk4 ?cc4 ?dd4 ?vv4 ?zz4 ?rest4
    (case hh4=>exact rfl)
    (case lk4=>k_is)
    (case cc4=>exact rfl)
    (case dd4=>exact rfl)
    (case vv4=>exact .cons ⟨_,rfl⟩ (.cons ⟨_,rfl⟩ (.cons ⟨_,rfl⟩ .nil)))
    (case zz4=>decide)
    refine' L2.jA.cons ?hh5 ?lk5 ?cc5 ?dd5 ?vv5 ?zz5 ?rest5
    (case hh5=>exact rfl)
    (case lk5=>k_is)
    (case cc5=>exact rfl)
    (case dd5=>exact rfl)
    (case vv5=>exact .cons ⟨_,rfl⟩ (.cons ⟨_,rfl⟩ (.cons ⟨_,rfl⟩ .nil)))
    (case zz5=>decide)
    refine' L2.jA.cons ?hh6 ?lk6 ?cc6 ?dd6 ?vv6 ?zz6 ?rest6
    (case hh6=>exact rfl)
    (case lk6=>k_is)
    (case cc6=>exact rfl)
    (case dd6=>exact rfl)
    (case vv6=>exact .cons ⟨_,rfl⟩ (.cons ⟨_,rfl⟩ (.cons ⟨_,rfl⟩ .nil)))
    (case zz6=>decide)
    refine' L2.jA.cons ?hh7 ?lk7 ?cc7 ?dd7 ?vv7 ?zz7 ?rest7
    (case hh7=>exact rfl)
    (case lk7=>k_is)
    (case cc7=>exact rfl)
    (case dd7=>exact rfl)
    (case vv7=>exact .cons ⟨_,rfl⟩ (.cons ⟨_,rfl⟩ (.cons ⟨_,rfl⟩ .nil)))
    (case zz7=>decide)
    refine' L2.jA.cons ?hh8 ?lk8 ?cc8 ?dd8 ?vv8 ?zz8 ?rest8
    (case hh8=>exact rfl)
    (case lk8=>k_is)
    (case cc8=>exact rfl)
    (case dd8=>exact rfl)
    (case vv8=>exact .cons ⟨_,rfl⟩ (.cons ⟨_,rfl⟩ (.cons ⟨_,rfl⟩ .nil)))
    (case zz8=>decide)
    refine' L2.jA.cons ?hh9 ?lk9 ?cc9 ?dd9 ?vv9 ?zz9 ?rest9
    (case hh9=>exact rfl)
    (case lk9=>k_is)
    (case cc9=>exact rfl)
    (case dd9=>exact rfl)
    (case vv9=>exact .cons ⟨_,rfl⟩ (.cons ⟨_,rfl⟩ (.cons ⟨_,rfl⟩ .nil)))
    (case zz9=>decide)
    refine' L2.jA.cons ?hh10 ?lk10 ?cc10 ?dd10 ?vv10 ?zz10 ?rest10
    (case hh10=>exact rfl)
    (case lk10=>k_is)
    (case cc10=>exact rfl)
    (case dd10=>exact rfl)
    (case vv10=>exact .cons ⟨_,rfl⟩ (.cons ⟨_,rfl⟩ (.cons ⟨_,rfl⟩ .nil)))
    (case zz10=>decide)
    exact .nil))
  (case q97 | q98 | q99 | q100 | q101 | q102 | q103 | q104 | q105 | q106 | q107 | q108 | q109=>refine' mg_none_of KX G ?_;k_is)
  (case q110 | q111 | q112 | q113 | q114 | q115 | q116 | q117 | q118=>refine' gC (mg_of KX G ?_) ?_ <;> (try k_is);all_goals exact⟨_,rfl⟩)
