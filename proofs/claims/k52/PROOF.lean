import PyProof.Rows.All
import Wide.All
import OpenK.AllK
import Wide.FinOn
import Lean
import PyProof.EqAt
import PyProof.EqKinds
import PyProof.TupleCall
import PyProof.StrLawsChain
import PyProof.StrLawsOccR
import PyProof.StrLawsReplace
import PyProof.NeKinds
import PyProof.EnumStmt
import PyProof.EnumMake
import PyProof.ListRange
import PyProof.StationsW
import PyProof.ExcClass2
import PyProof.ExcInit
import PyProof.InstStoreFacts
import OpenK.KRaise
import PyProof.NsDelKeeps
import PyProof.RulesAs
import PyProof.Rows.Catch
import OpenK.KOwn
import PyProof.ExcArgsOwn
import PyProof.ExcAttrAll.ValueError
import PyProof.IsiBase
import PyProof.MaxThree
import PyProof.SeqI3
import KE.KIsAll
import KE.IntTextLaws
import PyProof.StrLawsIdx
import PyProof.FitsInt
import PySem.Challenge.RW_holdlane_k52_rings_of_waits
set_option Elab.async false
set_option linter.all false
set_option maxRecDepth 100000
namespace L2
open PySem PySem.Spec PyProof.Rows
noncomputable abbrev Key:=Sum Int Str
noncomputable def Ao:Key->Value->Bool
 | .inl k,v=>Value.isInt k v
 | .inr x,v=>Value.isStrOf x v
noncomputable def Ye (w:World):Key->Int
 | .inl k=>hashInt k
 | .inr x=>hashStr w x
theorem dm:∀{k:Key} {v:Value},Ao k v=true->(∃i t,k=Sum.inl i/\v=Value.int i t)∨(∃x t,k=Sum.inr x/\v=Value.str x t)
 | .inl i,v,h=>by
  obtain⟨t,e⟩:=Value.isInt_shape (k:=i) (v:=v) h
  exact .inl ⟨i,t,rfl,e⟩
 | .inr x,v,h=>by
  obtain⟨t,e⟩:=Value.isStrOf_shape (x:=x) (v:=v) h
  exact .inr ⟨x,t,rfl,e⟩
theorem PK (i:Int) (t:Tok):Ao (.inl i) (.int i t)=true:=by simp [Ao,Value.isInt]
theorem Pa (x:Str) (t:Tok):Ao (.inr x) (.str x t)=true:=by simp [Ao,Value.isStrOf]
theorem WT (a b:Int):decide ((Sum.inl a:Key)=Sum.inl b)=(a == b):=by
 by_cases e:a=b
 ·subst e;simp
 ·have h:¬(Sum.inl a:Key)=Sum.inl b:=fun q=>e (Sum.inl.inj q)
  rw [decide_eq_false h]
  exact(beq_eq_false_iff_ne.mpr e).symm
theorem WR (a b:Str):decide ((Sum.inr a:Key)=Sum.inr b)=decide (a=b):=by
 by_cases e:a=b
 ·subst e;simp
 ·have h:¬(Sum.inr a:Key)=Sum.inr b:=fun q=>e (Sum.inr.inj q)
  rw [decide_eq_false h,decide_eq_false e]
theorem Wj (a:Int) (b:Str):decide ((Sum.inl a:Key)=Sum.inr b)=false:=decide_eq_false (fun q=>nomatch q)
theorem Wx (a:Str) (b:Int):decide ((Sum.inr a:Key)=Sum.inl b)=false:=decide_eq_false (fun q=>nomatch q)
noncomputable def bQ (prog:Program) (w:World):PySem.KeyKind prog w Key where
 is:=Ao
 hash:=Ye w
 inj:=fun v a b ha hb=>by
  rcases dm ha with ⟨i,t,rfl,rfl⟩ | ⟨x,t,rfl,rfl⟩
  ·rcases dm hb with ⟨j,u,rfl,e⟩ | ⟨y,u,rfl,e⟩
   ·injection e with e1 _;rw [e1]
   ·exact nomatch e
  ·rcases dm hb with ⟨j,u,rfl,e⟩ | ⟨y,u,rfl,e⟩
   ·exact nomatch e
   ·injection e with e1 _;rw [e1]
 byValue:=fun k v h=>by
  rcases dm h with ⟨i,t,rfl,rfl⟩ | ⟨x,t,rfl,rfl⟩ <;> rfl
 pyHash:=fun hv h=>by
  rcases dm hv with ⟨i,t,rfl,rfl⟩ | ⟨x,t,rfl,rfl⟩
  ·exact wpAny_pyHash_int h
  ·exact wpAny_pyHash_str h
 eqBool:=fun hu hv h=>by
  rcases dm hu with ⟨i,t,rfl,rfl⟩ | ⟨x,t,rfl,rfl⟩
  ·rcases dm hv with ⟨j,u,rfl,rfl⟩ | ⟨y,u,rfl,rfl⟩
   ·rw [WT] at h;exact wpAny_eqBool_int h
   ·rw [Wj] at h;exact SeqAt.EqAt.int_str i t y u _ _ _ _ h
  ·rcases dm hv with ⟨j,u,rfl,rfl⟩ | ⟨y,u,rfl,rfl⟩
   ·rw [Wx] at h;exact SeqAt.EqAt.str_int x t j u _ _ _ _ h
   ·rw [WR] at h;exact wpAny_eqBool_str h
 «strs» :=fun k x t v h=>by
  rcases dm h with ⟨i,u,rfl,e⟩ | ⟨y,u,rfl,e⟩
  ·exact nomatch e
  ·injection e with e1 _
   subst e1
   cases v <;> rfl
theorem J8 (prog:Program) (w:World) (i:Int) (t:Tok):(bQ prog w).is (.inl i) (.int i t)=true:=PK i t
theorem lC (prog:Program) (w:World) (x:Str) (t:Tok):(bQ prog w).is (.inr x) (.str x t)=true:=Pa x t
inductive V where
 | non | bl (b:Bool) | int (i:Int) | str (x:Str) | byt (b:Array UInt8) | flt (b:UInt64) | ref (a:Addr) | ty (n:String)
 deriving DecidableEq
noncomputable def RelV:V->Value->Prop
 | .non,u=>u=Value.none
 | .bl b,u=>u=Value.bool b
 | .int i,u=>∃t,u=Value.int i t
 | .str x,u=>∃t,u=Value.str x t
 | .byt b,u=>∃t,u=Value.bytes b t
 | .flt b,u=>∃t,u=Value.float b t
 | .ref a,u=>u=Value.ref a
 | .ty n,u=>u=Value.type n
noncomputable abbrev Vals:List V->List Value->Prop:=Paired RelV
theorem Vals.length {xs:List V} {us:List Value} (r:Vals xs us):xs.length=us.length:=Paired.length r
theorem Vals.get:∀{xs:List V} {us:List Value} {i:Nat} {x:V},Vals xs us->xs[i]?=some x->∃u,us[i]?=some u/\RelV x u
 | _,_,_,_,.nil,e=>by simp at e
 | _,_,0,_,.cons r _,e=>by simp at e;subst e;exact⟨_,rfl,r⟩
 | _,_,i+1,x,.cons _ t,e=>by
  obtain⟨u,h1,h2⟩:=Vals.get (i:=i) (x:=x) t (by simpa using e)
  exact⟨u,by simpa using h1,h2⟩
theorem Vals.append:∀{xs ys:List V} {us ws:List Value},Vals xs us->Vals ys ws->Vals (xs ++ ys) (us ++ ws)
 | _,_,_,_,.nil,s=>s
 | _,_,_,_,.cons r t,s=>.cons r (Vals.append t s)
theorem Vals.take:∀{xs:List V} {us:List Value} (n:Nat),Vals xs us->Vals (xs.take n) (us.take n)
 | _,_,0,_=>.nil
 | _,_,_+1,.nil=>.nil
 | _,_,n+1,.cons r t=>.cons r (Vals.take n t)
theorem Vals.drop:∀{xs:List V} {us:List Value} (n:Nat),Vals xs us->Vals (xs.drop n) (us.drop n)
 | _,_,0,r=>r
 | _,_,_+1,.nil=>.nil
 | _,_,n+1,.cons _ t=>Vals.drop n t
noncomputable def tD:Option V->Option Value->Prop
 | some v,some u=>RelV v u
 | none,none=>True
 | _,_=>False
noncomputable def KV {κ:Type}:List (κ×V)->List (κ×Value)->Prop:=Paired fun(p:κ×V) (q:κ×Value)=>p.1=q.1/\RelV p.2 q.2
noncomputable def kV:Key->V
 | .inl i=>.int i
 | .inr x=>.str x
inductive HO where
  | lst (xs:List V)
  | tup (xs:List V)
  | dK (kvs:List (Key×V)) | dT (kvs:List (List Key×V))
  | set (S:Int->Bool) (n:Nat)
  | ins (C dx:Addr) (fs:List (Str×V))
  | own (x:Addr)
  | xd (fs:List (Str×V))
  | met (f x:Addr)
  | rng (lo hi:Int)
  | frz (o:Obj) (u:HO)
  | tbl (ps:Array Value)
  | ext (φ:Heap->Prop)
noncomputable abbrev Hp:=Addr->Option HO
noncomputable def upd (H:Hp) (a:Addr) (o:HO):Hp:=fun b=>if b=a then some o else H b
theorem au {H:Hp} {a:Addr} {o:HO}:upd H a o a=some o:=by unfold upd;rw [if_pos rfl]
theorem aK {H:Hp} {a b:Addr} {o:HO} (h:b≠a):upd H a o b=H b:=by unfold upd;rw [if_neg h]
theorem jt {H:Hp} {a:Addr} {o u:HO}:upd (upd H a o) a u=upd H a u:=by
 funext b;unfold upd;split <;> rfl
theorem ww {H:Hp} {a b:Addr} {o u:HO} (h:H a=some o) (h':H b=some u) (d:o≠u):a≠b:=by
 intro e;subst e;rw [h] at h';exact d (Option.some.inj h')
theorem aD {H:Hp} {a b:Addr} {o:HO} (h:H a=some o) (h':H b=none):a≠b:=by
 intro e;subst e;rw [h] at h';cases h'
section
variable (P:Program) (w:World)
noncomputable def fW (H:Hp) (h:Heap) (a:Addr):HO->Prop
 | .lst xs=>xs.length<=sizeLine/\∃(its:List Value) (n:Nat),Vals xs its/\h.get? a=some { cls:=.type "list",data:=.seq its.toArray n }
 | .tup xs=>xs.length<=sizeLine/\∃its:List Value,Vals xs its/\IsTup h a its.toArray
 | .dK kvs=>kvs.length<=sizeLine/\(a == sysModules)=false/\∃vs,KV kvs vs/\h.DictOf (bQ P w) a vs
 | .dT kvs=>kvs.length<=sizeLine/\(a == sysModules)=false/\∃xs:List (List Key×Addr×Value),
   Paired (fun(p:List Key×V) (q:List Key×Addr×Value)=>p.1=q.1/\H q.2.1=some (.tup (p.1.map kV))/\RelV p.2 q.2.2) kvs xs/\
   ∃o es ep,h.get? a=some o/\o.ExactDict/\o.data=.dict es ep/\es.toList=xs.map (entryOfKey (tupleKind (bQ P w)))/\(xs.map (·.1)).Nodup
 | .set S n=>h.SetOf (intKind P w) a S n
 | .ins C dx fs=>H dx=some (.own a)/\fs.length<=1000/\dx≠a/\h.get? a=some (PySem.W.instObj C dx)/\
   ∃mA,h.Ns1 dx mA/\(∀f,tD (fs.lookup f) (mA f))/\PySem.Within mA (fs.map (·.1))
 | .own _=>∃o,h.get? a=some o
 | .xd fs=>∃mA,h.Ns1 a mA/\∀f,tD (fs.lookup f) (mA f)
 | .rng lo hi=>∃t u v,h.get? a=some { cls:=.type "range",data:=.fields #[.int lo t,.int hi u,.int 1 v] }
 | .frz o u=>h.get? a=some o/\fW H h a u
 | .tbl ps=>h.get? a=some { cls:=.none,data:=.fields ps }
 | .met f x=>h.get? a=some (PySem.W.methodObj (.ref f) (.ref x))
 | .ext φ=>φ h/\(∃o,h.get? a=some o)/\∀h1 h2:Heap,φ h1->(∀o,h1.get? a=some o->h2.get? a=some o)->φ h2
noncomputable def vD (H:Hp) (h:Heap):Prop:=∀a o,H a=some o->fW P w H h a o
end
section
variable {P:Program} {w:World} {H H':Hp} {h h':Heap} {a:Addr} {o:HO}
theorem fW.lt (x:fW P w H h a o):a <h.objs.size:=by
 cases o with
 | lst xs=>obtain⟨_,_,_,_,e⟩:=x;exact Heap.lt_size e
 | tup xs=>obtain⟨_,_,_,p⟩:=x;exact p.lt
 | dK kvs=>obtain⟨_,_,_,_,o,_,_,e,_⟩:=x;exact Heap.lt_size e
 | dT kvs=>obtain⟨_,_,_,_,o,_,_,e,_⟩:=x;exact Heap.lt_size e
 | set S n=>obtain⟨o,_,_,_,e,_⟩:=x;exact Heap.lt_size e
 | ins C dx fs=>obtain⟨_,_,_,e,_⟩:=x;exact Heap.lt_size e
 | own y=>obtain⟨_,e⟩:=x;exact Heap.lt_size e
 | xd fs=>obtain⟨_,⟨_,_,_,e,_⟩,_⟩:=x;exact Heap.lt_size e
 | rng lo hi=>obtain⟨_,_,_,e⟩:=x;exact Heap.lt_size e
 | frz ob u=>obtain⟨e,_⟩:=x;exact Heap.lt_size e
 | tbl ps=>exact Heap.lt_size (show h.get? a=some _ from x)
 | met f y=>exact Heap.lt_size (show h.get? a=some _ from x)
 | ext φ=>obtain⟨_,⟨_,e⟩,_⟩:=x;exact Heap.lt_size e
theorem Paired.mapP {α β:Type} {F G:α->β->Prop}:∀{l₁:List α} {l₂:List β},Paired F l₁ l₂->(∀a b,F a b->G a b)->Paired G l₁ l₂
 | _,_,.nil,_=>.nil
 | _,_,.cons r t,f=>.cons (f _ _ r) (Paired.mapP t f)
theorem fW.stay (x:fW P w H h a o) (k:∀b u,(b=a∨H b=some (.own a))->h.get? b=some u->h'.get? b=some u)
  (ho:∀b,H b=some (.own a)->H' b=some (.own a)) (ht:∀b xs,H b=some (.tup xs)->H' b=some (.tup xs)):fW P w H' h' a o:=by
 induction o with
 | lst xs=>obtain⟨z,its,n,r,e⟩:=x;exact⟨z,its,n,r,k _ _ (.inl rfl) e⟩
 | tup xs=>obtain⟨z,its,r,ob,e,c⟩:=x;exact⟨z,its,r,ob,k _ _ (.inl rfl) e,c⟩
 | dK kvs=>obtain⟨z,y,vs,r,ob,es,ep,e,c⟩:=x;exact⟨z,y,vs,r,ob,es,ep,k _ _ (.inl rfl) e,c⟩
 | dT kvs=>
  obtain⟨z,y,xs,r,ob,es,ep,e,c⟩:=x
  exact⟨z,y,xs,Paired.mapP r fun p q z=>⟨z.1,ht _ _ z.2.1,z.2.2⟩,ob,es,ep,k _ _ (.inl rfl) e,c⟩
 | set S n=>obtain⟨ob,es,ep,t,e,c⟩:=x;exact⟨ob,es,ep,t,k _ _ (.inl rfl) e,c⟩
 | ins C dx fs=>
  obtain⟨d,z,ne,e,mA,⟨od,es,ep,e2,c⟩,r⟩:=x
  exact⟨ho _ d,z,ne,k _ _ (.inl rfl) e,mA,⟨od,es,ep,k _ _ (.inr d) e2,c⟩,r⟩
 | own y=>obtain⟨ob,e⟩:=x;exact⟨ob,k _ _ (.inl rfl) e⟩
 | xd fs=>obtain⟨mA,⟨od,es,ep,e,c⟩,r⟩:=x;exact⟨mA,⟨od,es,ep,k _ _ (.inl rfl) e,c⟩,r⟩
 | rng lo hi=>obtain⟨t,u,v,e⟩:=x;exact⟨t,u,v,k _ _ (.inl rfl) e⟩
 | frz ob u ih=>obtain⟨e,q⟩:=x;exact⟨k _ _ (.inl rfl) e,ih q⟩
 | tbl ps=>
  have e:h.get? a=some { cls:=.none,data:=.fields ps }:=x
  show h'.get? a=some { cls:=.none,data:=.fields ps }
  exact k a _ (.inl rfl) e
 | met f y=>
  have e:h.get? a=some (PySem.W.methodObj (.ref f) (.ref y)):=x
  show h'.get? a=some (PySem.W.methodObj (.ref f) (.ref y))
  exact k a _ (.inl rfl) e
 | ext φ=>obtain⟨p,⟨o,e⟩,st⟩:=x;exact⟨st _ _ p fun o q=>k _ _ (.inl rfl) q,⟨o,k _ _ (.inl rfl) e⟩,st⟩
theorem vD.lt (x:vD P w H h) (e:H a=some o):a <h.objs.size:=(x a o e).lt
theorem vD.fresh (x:vD P w H h) (e:h.objs.size<=a):H a=none:=by
 cases q:H a with
 | none=>rfl
 | some u=>exact absurd (Nat.lt_of_lt_of_le (x.lt q) e) (Nat.lt_irrefl _)
theorem vD.kept (x:vD P w H h) (k:∀b u,h.get? b=some u->h'.get? b=some u):vD P w H h':=fun a o e=>
 (x a o e).stay (fun b u _ q=>k b u q) (fun _ q=>q) fun _ _ q=>q
theorem vD.laid (x:vD P w H h) (k:∀b u,h.get? b=some u->h'.get? b=some u) (hp:h.objs.size<=a) (new:fW P w (upd H a o) h' a o):vD P w (upd H a o) h':=fun b u e=>by
 have hn:=x.fresh hp
 by_cases hb:b=a
 ·subst hb;rw [au] at e;cases e;exact new
 ·rw [aK hb] at e
  exact(x b u e).stay (fun c v _ q=>k c v q) (fun c q=>by rw [aK (aD q hn)];exact q) fun c xs q=>by rw [aK (aD q hn)];exact q
end
noncomputable def Rd (H:Hp) (a:Addr) (u:HO):Prop:=H a=some u∨∃o,H a=some (.frz o u)
theorem Rd.ok {P:Program} {w:World} {H:Hp} {h:Heap} {a:Addr} {u:HO} (r:Rd H a u) (x:vD P w H h):fW P w H h a u:=by
 rcases r with r | ⟨o,r⟩
 ·exact x a u r
 ·obtain⟨_,q⟩:=x a _ r
  exact q
noncomputable def YQ:Option HO->Prop
 | some (.lst _)=>True
 | some (.dK _)=>True
 | some (.dT _)=>True
 | some (.set _ _)=>True
 | some (.ins _ _ _)=>True
 | some (.ext _)=>True
 | _=>False
section
variable {P:Program} {w:World} {H:Hp} {h h':Heap} {x e:Addr} {o':HO}
theorem vD.write (ok:vD P w H h) (mu:YQ (H x)) (he:e=x∨H e=some (.own x)) (k:∀b u,b≠e->h.get? b=some u->h'.get? b=some u) (heo:∃u,h'.get? e=some u)
  (new:fW P w (upd H x o') h' x o'):vD P w (upd H x o') h':=fun b u q=>by
 have nown:∀c y,H c=some (.own y)->c≠x:=fun c y r z=>by subst z;rw [r] at mu;exact mu
 have ntup:∀c xs,H c=some (.tup xs)->c≠x:=fun c xs r z=>by subst z;rw [r] at mu;exact mu
 by_cases hb:b=x
 ·subst hb;rw [au] at q;cases q;exact new
 ·rw [aK hb] at q
  by_cases hbe:b=e
  ·have q':H b=some (.own x):=by
    rcases he with z | z
    ·exact absurd (hbe.trans z) hb
    ·rw [hbe];exact z
   rw [q] at q';cases q'
   obtain⟨v,hv⟩:=heo
   exact⟨v,by rw [hbe];exact hv⟩
  ·refine(ok b u q).stay (fun c v hc r=>k c v ?_ r) (fun c r=>by rw [aK (nown c b r)];exact r) fun c xs r=>by rw [aK (ntup c xs r)];exact r
   rcases hc with rfl | hc
   ·exact hbe
   ·rintro rfl
    rcases he with z | z
    ·exact nown c b hc z
    ·rw [hc] at z;cases z;exact hb rfl
end
structure Un (fs ex:List Addr) (H H':Hp) (h h':Heap):Prop where
 keep:∀b o,h.get? b=some o->H b=none->b∉fs->b∉ex->h'.get? b=some o
 slot:∀b o,h.get? b=some o->H b=none->b∈fs->b∉ex->∃sl,h'.get? b=some { o with slots:=sl }
 free:∀b o,h.get? b=some o->H b=none->b∉ex->H' b=none
 there:∀b o,h.get? b=some o->b∉ex->∃o',h'.get? b=some o'
 tups:∀b xs,H b=some (.tup xs)->H' b=some (.tup xs)
 frzs:∀b o u,H b=some (.frz o u)->H' b=some (.frz o u)
 tbls:∀b ps,H b=some (.tbl ps)->∃more,H' b=some (.tbl (ps ++ more))
section
variable {fs fs' ex ex':List Addr} {H H1 H2:Hp} {h h1 h2 h':Heap} {a x e:Addr} {o:HO}
theorem Un.any (u:Un fs ex H H1 h h1) {b:Addr} {ob:Obj} (q:h.get? b=some ob) (n:H b=none) (hx:b∉ex):∃sl,h1.get? b=some { ob with slots:=sl }:=by
 by_cases hb:b∈fs
 ·exact u.slot b ob q n hb hx
 ·exact⟨ob.slots,u.keep b ob q n hb hx⟩
theorem Un.kept (k:∀b u,h.get? b=some u->h'.get? b=some u):Un fs ex H H h h':=
 ⟨fun b ob q _ _ _=>k b ob q,fun b ob q _ _ _=>⟨ob.slots,k b ob q⟩,fun _ _ _ n _=>n,fun b ob q _=>⟨ob,k b ob q⟩,fun _ _ q=>q,fun _ _ _ q=>q,fun _ ps q=>⟨#[],by rw [q];simp⟩⟩
theorem Un.refl:Un fs ex H H h h:=Un.kept fun _ _ q=>q
theorem Un.laid (k:∀b u,h.get? b=some u->h'.get? b=some u) (hp:h.objs.size<=a) (hn:H a=none):Un fs ex H (upd H a o) h h' where
 keep:=fun b u q _ _ _=>k b u q
 slot:=fun b u q _ _ _=>⟨u.slots,k b u q⟩
 free:=fun b u q n _=>by rw [aK (Nat.ne_of_lt (Nat.lt_of_lt_of_le (Heap.lt_size q) hp))];exact n
 there:=fun b u q _=>⟨u,k b u q⟩
 tups:=fun b xs q=>by rw [aK (aD q hn)];exact q
 frzs:=fun b u xs q=>by rw [aK (aD q hn)];exact q
 tbls:=fun b ps q=>⟨#[],by rw [aK (aD q hn),q];simp⟩
theorem Un.write (mu:YQ (H x)) (he:e=x∨H e=some (.own x)) (k:∀b u,b≠e->h.get? b=some u->h'.get? b=some u) (heo:∃u,h'.get? e=some u):Un fs ex H (upd H x o) h h':=by
 have hx:∀b,H b=none->b≠x:=fun b n z=>by subst z;rw [n] at mu;exact mu
 have hb:∀b,H b=none->b≠e:=fun b n z=>by
  subst z
  rcases he with r | r
  ·exact hx b n r
  ·rw [n] at r;cases r
 have hm:∀b u,H b=some u->¬YQ (some u)->b≠x:=fun b u q nm z=>by subst z;rw [q] at mu;exact nm mu
 refine⟨fun b u q n _ _=>k b u (hb b n) q,fun b u q n _ _=>⟨u.slots,k b u (hb b n) q⟩,fun b u q n _=>by rw [aK (hx b n)];exact n,fun b u q _=>?_,
  fun b xs q=>by rw [aK (hm b _ q fun z=>z)];exact q,fun b u xs q=>by rw [aK (hm b _ q fun z=>z)];exact q,fun b ps q=>⟨#[],by rw [aK (hm b _ q fun z=>z),q];simp⟩⟩
 by_cases hbe:b=e
 ·subst hbe;exact heo
 ·exact⟨u,k b u hbe q⟩
end
noncomputable def Y7 (h:Heap) (H:Hp):List Addr:=(List.range h.objs.size).filter fun a=>(H a).isSome
noncomputable def Hi (h:Heap) (H:Hp):Heap:=PySem.W.hideAll h (Y7 h H)
theorem Oo (h:Heap) (H:Hp):(Hi h H).objs.size=h.objs.size:=PySem.W.hideAll_size _ _
theorem Q3 {h:Heap} {H:Hp} {b:Addr} {o:Obj} (e:h.get? b=some o) (n:H b=none):(Hi h H).get? b=some o:=
 PySem.W.hideAll_get _ e fun hm=>by
  have q:(H b).isSome=true:=(List.mem_filter.mp hm).2
  rw [n] at q;simp at q
theorem Vd {h:Heap} {H:Hp} {b:Addr} {o:Obj} (e:(Hi h H).get? b=some o):h.get? b=some o/\H b=none:=by
 have e':h.get? b=some o:=PySem.W.of_hideAll (Y7 h H) e
 refine⟨e',?_⟩
 cases q:H b with
 | none=>rfl
 | some x=>
  have hm:b∈Y7 h H:=List.mem_filter.mpr ⟨List.mem_range.mpr (Heap.lt_size e'),by simp [q]⟩
  have z:(Hi h H).get? b=none:=PySem.W.hideAll_none (Y7 h H) hm
  rw [z] at e;cases e
structure Mod (K:PySem.W.Frag) (mg:Str->Option Value) (base:Heap):Prop where
 kin:K.In base
 glob:base.Ns mainGlobals mg
 blt:∃mb,base.Ns builtinsNs mb/\∀x:Str,x≠ "__name__" ->mb x=bootBuiltins x
 nolimit:base.NoLimit
structure Cx where
 prog:Program
 w:World
 K:PySem.W.Frag
 mg:Str->Option Value
 base:Heap
 A:Around
 N:List Str
 s₀:Shared
 H₀:Hp
 env:Env
 outer:List Env
 stack:List Env
 ex:List Addr
 fn:Str->Bool
 calm:Bool
 pn:List (Addr×Obj)
 xe:Value->Shared->Prop
noncomputable def frs (l:List Env):List Addr:=l.filterMap (·.frame)
noncomputable abbrev Cx.fs (X:Cx):List Addr:=frs X.outer
noncomputable def Y6 (sc:Scope) (x:Str):Prop:=sc.names.lookup x=some .local∨sc.names.lookup x=some .cell∨sc.names.lookup x=some .free
noncomputable def Loc (sc:Scope) (x:Str):Prop:=sc.names.lookup x=some .local∨sc.names.lookup x=some .cell
noncomputable def Look (env:Env) (h:Heap) (m:Str->Option Value) (x:Str) (u:Value):Prop:=
 (env.kindOf x=some .local/\m x=some u)∨((env.kindOf x=some .cell∨env.kindOf x=some .free)/\∃c,env.cells.lookup x=some c/\h.IsCell c (some u))
structure Cx.Ok (X:Cx):Prop where
 mod:Mod X.K X.mg X.base
 kind:X.env.scope.kind=.function
 glob:X.env.globals=mainGlobals
 blt:X.env.builtins=builtinsNs
 above:X.s₀.heap.objs.size<=X.env.locals
 inj:∀x y c,X.env.cells.lookup x=some c->X.env.cells.lookup y=some c->x=y
 has:∀x,(X.env.kindOf x=some .cell∨X.env.kindOf x=some .free)->∃c,X.env.cells.lookup x=some c
 cab:∀x c,X.fn x=true->X.env.cells.lookup x=some c->X.s₀.heap.objs.size<=c
 hd:X.calm=true->X.A.handled=none
 frames:X.A.frames=some X.stack
 stk:X.stack=X.outer∨(X.stack=X.env:: X.outer/\X.env.frame=some X.env.locals)
 exf:∀b∈X.ex,b≠X.env.locals/\∀x c,X.env.cells.lookup x=some c->c≠b
 bs:∀b o,X.base.get? b=some o->X.s₀.heap.get? b=some o/\X.H₀ b=none
 bsz:X.base.objs.size<=X.s₀.heap.objs.size
 noex:∀b o,X.base.get? b=some o->b∉X.ex
 exfs:∀b∈X.ex,b∉X.fs
 funs:X.s₀.heap.FunFrames X.base X.outer
 frf:∀b∈X.fs,X.H₀ b=none
structure Inv (X:Cx) (pins:List (Addr×Obj)) (σ:List (Option V)) (H:Hp) (s:Shared):Prop where
 ok:X.Ok
 os:s.os=X.s₀.os
 bare:AllBare s.gens
 base:Un X.fs X.ex X.H₀ H X.s₀.heap s.heap
 loc:∃m,s.heap.Ns X.env.locals m/\∀(i:Nat) (x:Str) (v:V),X.N[i]?=some x->σ[i]?=some (some v)->Y6 X.env.scope x->∃u,RelV v u/\Look X.env s.heap m x u
 cell:∀x c,X.env.cells.lookup x=some c->∃v,s.heap.IsCell c v
 free:H X.env.locals=none
 freeC:∀x c,X.env.cells.lookup x=some c->H c=none
 pin:∀p∈X.pn ++ pins,s.heap.get? p.1=some p.2/\H p.1=none/\p.1≠X.env.locals/\p.1∉X.fs/\∀v,p.2.data≠.cell v
 hok:vD X.prog X.w H s.heap
 len:σ.length=X.N.length
section
variable {X:Cx} {pins:List (Addr×Obj)} {σ:List (Option V)} {H H':Hp} {s:Shared} {h':Heap}
theorem Cx.Ok.nofr (ok:X.Ok) {b:Addr} {o:Obj} (e:X.base.get? b=some o):b∉X.fs:=fun hb=>by
 have:=(ok.funs.mem hb).1
 rw [e] at this;cases this
theorem Inv.bs (I:Inv X pins σ H s):∀b o,X.base.get? b=some o->s.heap.get? b=some o/\H b=none:=fun b o e=>
 ⟨I.base.keep b o (I.ok.bs b o e).1 (I.ok.bs b o e).2 (I.ok.nofr e) (I.ok.noex b o e),I.base.free b o (I.ok.bs b o e).1 (I.ok.bs b o e).2 (I.ok.noex b o e)⟩
theorem Inv.bk (I:Inv X pins σ H s):∀b o,X.base.get? b=some o->s.heap.get? b=some o:=fun b o e=>(I.bs b o e).1
theorem Inv.mod (I:Inv X pins σ H s):Mod X.K X.mg X.base:=I.ok.mod
theorem Inv.kIn (I:Inv X pins σ H s):X.K.In s.heap:=I.ok.mod.kin.keeps I.bk
theorem Inv.lt (I:Inv X pins σ H s):X.env.locals <s.heap.objs.size:=let ⟨_,hn,_⟩:=I.loc;hn.lt
theorem Inv.sz (I:Inv X pins σ H s):X.s₀.heap.objs.size<=s.heap.objs.size:=Nat.le_trans I.ok.above (Nat.le_of_lt I.lt)
theorem Inv.nofs (I:Inv X pins σ H s) {a:Addr} (h:s.heap.objs.size<=a):a∉X.fs:=fun hb=>by
 obtain⟨_,o,ho,_⟩:=I.ok.funs.mem hb
 exact absurd (Nat.lt_of_lt_of_le (Heap.lt_size ho) (Nat.le_trans I.sz h)) (Nat.lt_irrefl _)
theorem Inv.cne (I:Inv X pins σ H s):∀x c,X.env.cells.lookup x=some c->c≠X.env.locals:=fun x c e z=>by
 obtain⟨v,o,ho,hd⟩:=I.cell x c e
 obtain⟨m,⟨o',es,ep,ho',hd',_⟩,_⟩:=I.loc
 rw [z,ho'] at ho;cases ho;rw [hd'] at hd;cases hd
theorem Inv.funs (I:Inv X pins σ H s):s.heap.FunFrames X.base X.outer:=by
 have all:∀(l:List Env),(∀b∈frs l,b∈X.fs)->X.s₀.heap.FunFrames X.base l->s.heap.FunFrames X.base l:=by
  intro l
  induction l with
  | nil=>intro _ _;trivial
  | cons env r ih=>
   intro hs hl
   obtain⟨hk,⟨L,o,hf,hn,ho,hd⟩,hr⟩:=hl
   have hL:L∈X.fs:=hs L (by unfold frs;rw [List.filterMap_cons,hf];exact List.mem_cons_self)
   obtain⟨sl,e⟩:=I.base.slot L o ho (I.ok.frf L hL) hL fun z=>I.ok.exfs L z hL
   exact⟨hk,⟨L,_,hf,hn,e,hd⟩,ih (fun b hb=>hs b (by unfold frs;rw [List.filterMap_cons,hf];exact List.mem_cons_of_mem _ hb)) hr⟩
 exact all X.outer (fun _ hb=>hb) I.ok.funs
theorem Inv.stack (I:Inv X pins σ H s):s.heap.FunFrames X.base X.stack:=by
 rcases I.ok.stk with e | ⟨e,hf⟩
 ·rw [e];exact I.funs
 ·rw [e]
  obtain⟨m,hn,_⟩:=I.loc
  refine .cons (by rw [I.ok.kind];decide) hf hn ?_ I.funs
  exact Heap.get?_none_of_le (Nat.le_trans I.ok.bsz I.ok.above)
theorem Inv.stkSub (I:Inv X pins σ H s):∀b∈frs X.stack,b∈X.env.locals:: X.fs:=fun b hb=>by
 rcases I.ok.stk with e | ⟨e,hf⟩
 ·rw [e] at hb;exact List.mem_cons_of_mem _ hb
 ·rw [e] at hb
  unfold frs at hb
  rw [List.filterMap_cons,hf] at hb
  exact hb
theorem Inv.stkFree (I:Inv X pins σ H s):∀b∈frs X.stack,H b=none:=fun b hb=>by
 rcases List.mem_cons.mp (I.stkSub b hb) with e | hb
 ·rw [e];exact I.free
 ·obtain⟨_,o,ho,_⟩:=I.ok.funs.mem hb
  exact I.base.free b o ho (I.ok.frf b hb) fun z=>I.ok.exfs b z hb
theorem Inv.step {g':Array GenState} {t':Nat} {d':Drawn} {ch:List Addr} (I:Inv X pins σ H s)
  (hch:∀b∈ch,(b∈X.ex∨X.s₀.heap.objs.size<=b)/\b≠X.env.locals/\(∀x c,X.env.cells.lookup x=some c->c≠b)/\∀p∈X.pn ++ pins,p.1≠b)
  (keep:∀b o,b≠X.env.locals->b∉X.fs->b∉ch->s.heap.get? b=some o->H b=none->h'.get? b=some o)
  (slot:∀b o,b≠X.env.locals->b∈X.fs->b∉ch->s.heap.get? b=some o->H b=none->∃sl,h'.get? b=some { o with slots:=sl }) (free:∀b o,b∉ch->s.heap.get? b=some o->H b=none->H' b=none)
  (there:∀b o,b∉ch->s.heap.get? b=some o->∃o',h'.get? b=some o')
  (tups:∀b xs,H b=some (.tup xs)->H' b=some (.tup xs)) (frzs:∀b o u,H b=some (.frz o u)->H' b=some (.frz o u)) (tbls:∀b ps,H b=some (.tbl ps)->∃more,H' b=some (.tbl (ps ++ more)))
  (ns:∀m,s.heap.Ns X.env.locals m->h'.Ns X.env.locals m) (hok:vD X.prog X.w H' h') (hg:AllBare g'):
  Inv X pins σ H' { s with heap:=h',gens:=g',drawn:=d',toks:=t' }:=by
 have neL:∀b o,X.s₀.heap.get? b=some o->b≠X.env.locals:=fun b o e=>Nat.ne_of_lt (Nat.lt_of_lt_of_le (Heap.lt_size e) I.ok.above)
 have neC:∀b o,X.s₀.heap.get? b=some o->b∉X.ex->b∉ch:=fun b o e hx hb=>by
  rcases(hch b hb).1 with z | z
  ·exact hx z
  ·exact absurd (Nat.lt_of_lt_of_le (Heap.lt_size e) z) (Nat.lt_irrefl _)
 have cellK:∀x c,X.env.cells.lookup x=some c->∀v,s.heap.IsCell c v->h'.IsCell c v:=fun x c e v ⟨o,ho,hd⟩=>by
  have nch:c∉ch:=fun z=>(hch c z).2.2.1 x c e rfl
  by_cases hc:c∈X.fs
  ·obtain⟨sl,q⟩:=slot c o (I.cne x c e) hc nch ho (I.freeC x c e)
   exact⟨_,q,hd⟩
  ·exact⟨o,keep c o (I.cne x c e) hc nch ho (I.freeC x c e),hd⟩
 refine⟨I.ok,I.os,hg,⟨fun b o e n hb hx=>?_,fun b o e n hb hx=>?_,fun b o e n hx=>?_,fun b o e hx=>?_,fun b xs e=>tups b xs (I.base.tups b xs e),fun b o xs e=>frzs b o xs (I.base.frzs b o xs e),fun b ps e=>?_⟩,?_,fun x c e=>?_,?_,fun x c e=>?_,fun p hp=>?_,hok,I.len⟩
 ·exact keep b o (neL b o e) hb (neC b o e hx) (I.base.keep b o e n hb hx) (I.base.free b o e n hx)
 ·obtain⟨sl,e1⟩:=I.base.slot b o e n hb hx
  obtain⟨sl',e2⟩:=slot b _ (neL b o e) hb (neC b o e hx) e1 (I.base.free b o e n hx)
  exact⟨sl',e2⟩
 ·obtain⟨o',e1⟩:=I.base.there b o e hx
  exact free b o' (neC b o e hx) e1 (I.base.free b o e n hx)
 ·obtain⟨o',e1⟩:=I.base.there b o e hx
  exact there b o' (neC b o e hx) e1
 ·obtain⟨m1,e1⟩:=I.base.tbls b ps e
  obtain⟨m2,e2⟩:=tbls b _ e1
  exact⟨m1 ++ m2,by rw [e2,Array.append_assoc]⟩
 ·obtain⟨m,hn,hl⟩:=I.loc
  refine⟨m,ns m hn,fun i x v e1 e2 e3=>?_⟩
  obtain⟨u,r,l⟩:=hl i x v e1 e2 e3
  refine⟨u,r,?_⟩
  rcases l with l | ⟨k,c,e,z⟩
  ·exact .inl l
  ·exact .inr ⟨k,c,e,cellK x c e _ z⟩
 ·obtain⟨v,z⟩:=I.cell x c e
  exact⟨v,cellK x c e v z⟩
 ·obtain⟨m,⟨o,_,_,ho,_⟩,_⟩:=I.loc
  exact free _ o (fun z=>(hch _ z).2.1 rfl) ho I.free
 ·obtain⟨v,o,ho,hd⟩:=I.cell x c e
  exact free c o (fun z=>(hch c z).2.2.1 x c e rfl) ho (I.freeC x c e)
 ·obtain⟨e,n,ne,nf,d⟩:=I.pin p hp
  have nch:p.1∉ch:=fun z=>(hch p.1 z).2.2.2 p hp rfl
  exact⟨keep p.1 p.2 ne nf nch e n,free p.1 p.2 nch e n,ne,nf,d⟩
theorem Inv.un {t':Nat} (I:Inv X pins σ H s) (u:Un X.fs [] H H' s.heap h') (hok:vD X.prog X.w H' h'):Inv X pins σ H' { s with heap:=h',toks:=t' }:=by
 obtain⟨m,⟨o,es,ep,ho,r⟩,_⟩:=id I.loc
 obtain⟨sl,hL⟩:=u.any ho I.free (by simp)
 exact I.step (g':=s.gens) (d':=s.drawn) (ch:=[]) (fun _ z=>nomatch z) (fun b o _ hb _ e n=>u.keep b o e n hb (by simp)) (fun b o _ hb _ e n=>u.slot b o e n hb (by simp)) (fun b o _ e n=>u.free b o e n (by simp)) (fun b o _ e=>u.there b o e (by simp)) u.tups u.frzs u.tbls (fun m' hm=>by
  obtain⟨o',es',ep',ho',r'⟩:=hm
  rw [ho] at ho';cases ho'
  exact⟨_,es',ep',hL,r'⟩) hok I.bare
theorem Inv.call {g':Array GenState} {t':Nat} {d':Drawn} {ch:List Addr} (I:Inv X pins σ H s) (u:Un (frs X.stack) ch H H' s.heap h') (hok:vD X.prog X.w H' h') (hg:AllBare g')
  (hch:∀b∈ch,(b∈X.ex∨X.s₀.heap.objs.size<=b)/\b≠X.env.locals/\(∀x c,X.env.cells.lookup x=some c->c≠b)/\∀p∈X.pn ++ pins,p.1≠b):
  Inv X pins σ H' { s with heap:=h',gens:=g',drawn:=d',toks:=t' }:=by
 obtain⟨m,⟨o,es,ep,ho,r⟩,_⟩:=id I.loc
 obtain⟨sl,hL⟩:=u.any ho I.free fun z=>(hch _ z).2.1 rfl
 exact I.step (ch:=ch) hch (fun b o hL hb hc e n=>u.keep b o e n (fun z=>(List.mem_cons.mp (I.stkSub b z)).elim hL hb) hc) (fun b o _ _ hc e n=>u.any e n hc) (fun b o hc e n=>u.free b o e n hc) (fun b o hc e=>u.there b o e hc) u.tups u.frzs u.tbls (fun m' hm=>by
  obtain⟨o',es',ep',ho',r'⟩:=hm
  rw [ho] at ho';cases ho'
  exact⟨_,es',ep',hL,r'⟩) hok hg
theorem Inv.turned {t':Nat} {it:Addr} (I:Inv X pins σ H s) (k:∀b o,b≠it->s.heap.get? b=some o->h'.get? b=some o) (hn:H it=none) (hL:it≠X.env.locals)
  (h1:it∈X.ex∨X.s₀.heap.objs.size<=it) (h2:∀x c,X.env.cells.lookup x=some c->c≠it) (h3:∀p∈X.pn ++ pins,p.1≠it):Inv X pins σ H { s with heap:=h',toks:=t' }:=by
 have nit:∀b u,H b=some u->b≠it:=fun b u e z=>by rw [z,hn] at e;cases e
 refine I.step (g':=s.gens) (d':=s.drawn) (ch:=[it]) (fun b hb=>?_) (fun b o _ _ hc e _=>k b o (fun z=>hc (by simp [z])) e) (fun b o _ _ hc e _=>⟨o.slots,k b o (fun z=>hc (by simp [z])) e⟩) (fun _ _ _ _ n=>n)
  (fun b o hc e=>⟨o,k b o (fun z=>hc (by simp [z])) e⟩) (fun _ _ e=>e) (fun _ _ _ e=>e) (fun b ps e=>⟨#[],by rw [e];simp⟩) (fun m hm=>?_) (fun b u e=>?_) I.bare
 ·have e:b=it:=by simpa using hb
  subst e
  exact⟨h1,hL,h2,h3⟩
 ·obtain⟨o,es,ep,ho,r⟩:=hm
  exact⟨o,es,ep,k _ o (Ne.symm hL) ho,r⟩
 ·refine(I.hok b u e).stay (fun c v hc q=>k c v ?_ q) (fun _ q=>q) fun _ _ q=>q
  rcases hc with z | z
  ·rw [z];exact nit b u e
  ·exact nit c _ z
theorem Inv.tok (I:Inv X pins σ H s) (t:Nat):Inv X pins σ H { s with toks:=t }:=I.un (h':=s.heap) (t':=t) Un.refl I.hok
theorem Inv.kept {t':Nat} (I:Inv X pins σ H s) (k:∀b u,s.heap.get? b=some u->h'.get? b=some u):Inv X pins σ H { s with heap:=h',toks:=t' }:=I.un (Un.kept k) (I.hok.kept k)
theorem Inv.laid {a:Addr} {o:HO} {t':Nat} (I:Inv X pins σ H s) (k:∀b u,s.heap.get? b=some u->h'.get? b=some u) (hp:s.heap.objs.size<=a) (new:fW X.prog X.w (upd H a o) h' a o):
  Inv X pins σ (upd H a o) { s with heap:=h',toks:=t' }:=I.un (Un.laid k hp (I.hok.fresh hp)) (I.hok.laid k hp new)
theorem Inv.write {x e:Addr} {o:HO} {t':Nat} (I:Inv X pins σ H s) (mu:YQ (H x)) (he:e=x∨H e=some (.own x)) (k:∀b u,b≠e->s.heap.get? b=some u->h'.get? b=some u) (heo:∃u,h'.get? e=some u)
  (new:fW X.prog X.w (upd H x o) h' x o):Inv X pins σ (upd H x o) { s with heap:=h',toks:=t' }:=I.un (Un.write mu he k heo) (I.hok.write mu he k heo new)
theorem Inv.weak {σ':List (Option V)} (I:Inv X pins σ H s) (hl:σ'.length=σ.length) (w:∀(i:Nat) v,σ'[i]?=some (some v)->σ[i]?=some (some v)):Inv X pins σ' H s:=
 ⟨I.ok,I.os,I.bare,I.base,let ⟨m,hn,hl'⟩:=I.loc;⟨m,hn,fun i x v e1 e2 e3=>hl' i x v e1 (w i v e2) e3⟩,I.cell,I.free,I.freeC,I.pin,I.hok,hl.trans I.len⟩
theorem Inv.pins_of {pins':List (Addr×Obj)} (I:Inv X pins σ H s) (h:∀p∈pins',s.heap.get? p.1=some p.2/\H p.1=none/\p.1≠X.env.locals/\p.1∉X.fs/\∀v,p.2.data≠.cell v):Inv X pins' σ H s:=
 ⟨I.ok,I.os,I.bare,I.base,I.loc,I.cell,I.free,I.freeC,fun p hp=>(List.mem_append.mp hp).elim (fun z=>I.pin p (List.mem_append_left _ z)) (h p),I.hok,I.len⟩
theorem JG {N:List Str} (hN:N.Nodup) {i j:Nat} {x:Str} (a:N[i]?=some x) (b:N[j]?=some x):i=j:=by
 obtain⟨h1,e1⟩:=List.getElem?_eq_some_iff.mp a
 obtain⟨h2,e2⟩:=List.getElem?_eq_some_iff.mp b
 exact(List.getElem_inj hN).mp (e1.trans e2.symm)
theorem zy {M:Model} {A:Around} {E:Value->Shared->Prop} {i:Nat} {x:Str} {v:V} {u:Value} {Q:Unit->Shared->Prop} (I:Inv X pins σ H s) (hN:X.N.Nodup) (hi:X.N[i]?=some x) (hx:Loc X.env.scope x) (r:RelV v u)
  (h:∀s',Inv X pins (σ.set i (some v)) H s'->(∃a,Heap.SameBut a s.heap s'.heap/\(a=X.env.locals∨X.env.cells.lookup x=some a))->Q () s') (hf:X.fn x=true∨X.env.scope.names.lookup x=some .local:=by first | exact .inl rfl | exact .inr rfl | assumption):wpAny M A (storeName X.env x u) Q E s:=by
 obtain⟨m,hn,hl⟩:=id I.loc
 have hcls:(X.env.scope.kind == .class || (X.env.scope.kind == .module && X.env.locals != X.env.globals))=false:=by rw [I.ok.kind];rfl
 have hiσ:i <σ.length:=by rw [I.len];exact(List.getElem?_eq_some_iff.mp hi).1
 have cne:=I.cne
 have tracked:∀{a:Addr} {h':Heap},(∃o,s.heap.get? a=some o/\H a=none)->Heap.SameBut a s.heap h'->vD X.prog X.w H h':=fun {a h'} ha hs b ob e=>by
  obtain⟨_,_,hfree⟩:=ha
  refine(I.hok b ob e).stay (fun c w' hc q=>(hs.2 c ?_).trans q) (fun _ q=>q) fun _ _ q=>q
  rintro rfl
  rcases hc with rfl | hc
  ·rw [hfree] at e;cases e
  ·rw [hfree] at hc;cases hc
 rcases hx with hk | hk
 ·refine wpAny_storeName_local hk hn (fun h' hn' hs=>?_) hcls
  obtain⟨oL,_,_,hoL,_⟩:=id hn
  refine h _ ⟨I.ok,I.os,I.bare,⟨fun b o e n hb hx=>?_,fun b o e n hb hx=>?_,I.base.free,fun b o e hx=>?_,I.base.tups,I.base.frzs,I.base.tbls⟩,⟨_,hn',fun j y v' e1 e2 e3=>?_⟩,fun y c e=>?_,I.free,I.freeC,fun p hp=>?_,tracked ⟨oL,hoL,I.free⟩ hs,by simpa using I.len⟩ ⟨_,hs,.inl rfl⟩
  ·exact(hs.2 b (Nat.ne_of_lt (Nat.lt_of_lt_of_le (Heap.lt_size e) I.ok.above))).trans (I.base.keep b o e n hb hx)
  ·obtain⟨sl,e1⟩:=I.base.slot b o e n hb hx
   exact⟨sl,(hs.2 b (Nat.ne_of_lt (Nat.lt_of_lt_of_le (Heap.lt_size e) I.ok.above))).trans e1⟩
  ·obtain⟨o',e1⟩:=I.base.there b o e hx
   exact⟨o',(hs.2 b (Nat.ne_of_lt (Nat.lt_of_lt_of_le (Heap.lt_size e) I.ok.above))).trans e1⟩
  ·by_cases hj:j=i
   ·subst hj
    rw [hi] at e1;cases e1
    rw [List.getElem?_set_self hiσ] at e2
    cases e2
    exact⟨u,r,.inl ⟨hk,by simp⟩⟩
   ·rw [List.getElem?_set_ne (Ne.symm hj)] at e2
    obtain⟨u',r',q⟩:=hl j y v' e1 e2 e3
    refine⟨u',r',?_⟩
    rcases q with ⟨k,e⟩ | ⟨k,c,e,z⟩
    ·refine .inl ⟨k,?_⟩
     have:y≠x:=fun e=>hj (JG hN e1 (e ▸ hi))
     simp [this,e]
    ·exact .inr ⟨k,c,e,z.sameBut hs (cne y c e)⟩
  ·obtain⟨w',z⟩:=I.cell y c e
   exact⟨w',z.sameBut hs (cne y c e)⟩
  ·obtain⟨e,n,ne,nf,d⟩:=I.pin p hp
   exact⟨(hs.2 p.1 ne).trans e,n,ne,nf,d⟩
 ·have hfn:X.fn x=true:=by
   rcases hf with z | z
   ·exact z
   ·rw [z] at hk;cases hk
  obtain⟨c,hc⟩:=I.ok.has x (.inl hk)
  obtain⟨w',z⟩:=I.cell x c hc
  refine wpAny_storeName_cell I.ok.kind hk hc z (fun h' hc' hs=>?_)
  obtain⟨oc,hoc,hocd⟩:=id z
  refine h { s with heap:=h' } ⟨I.ok,I.os,I.bare,⟨fun b o e n hb hx=>?_,fun b o e n hb hx=>?_,I.base.free,fun b o e hx=>?_,I.base.tups,I.base.frzs,I.base.tbls⟩,⟨m,hn.sameBut hs (Ne.symm (cne x c hc)),fun j y v' e1 e2 e3=>?_⟩,fun y c' e=>?_,I.free,I.freeC,fun p hp=>?_,tracked ⟨oc,hoc,I.freeC x c hc⟩ hs,by simpa using I.len⟩ ⟨c,hs,.inr hc⟩
  ·exact(hs.2 b (Nat.ne_of_lt (Nat.lt_of_lt_of_le (Heap.lt_size e) (I.ok.cab x c hfn hc)))).trans (I.base.keep b o e n hb hx)
  ·obtain⟨sl,e1⟩:=I.base.slot b o e n hb hx
   exact⟨sl,(hs.2 b (Nat.ne_of_lt (Nat.lt_of_lt_of_le (Heap.lt_size e) (I.ok.cab x c hfn hc)))).trans e1⟩
  ·obtain⟨o',e1⟩:=I.base.there b o e hx
   exact⟨o',(hs.2 b (Nat.ne_of_lt (Nat.lt_of_lt_of_le (Heap.lt_size e) (I.ok.cab x c hfn hc)))).trans e1⟩
  ·by_cases hj:j=i
   ·subst hj
    rw [hi] at e1;cases e1
    rw [List.getElem?_set_self hiσ] at e2
    cases e2
    exact⟨u,r,.inr ⟨.inl hk,c,hc,hc'⟩⟩
   ·rw [List.getElem?_set_ne (Ne.symm hj)] at e2
    obtain⟨u',r',q⟩:=hl j y v' e1 e2 e3
    refine⟨u',r',?_⟩
    rcases q with q | ⟨k,c',e,z'⟩
    ·exact .inl q
    ·refine .inr ⟨k,c',e,z'.sameBut hs ?_⟩
     rintro rfl
     exact hj (JG hN e1 (I.ok.inj _ _ _ e hc ▸ hi))
  ·by_cases hcc:c'=c
   ·subst hcc;exact⟨_,hc'⟩
   ·obtain⟨w2,z2⟩:=I.cell y c' e
    exact⟨w2,z2.sameBut hs hcc⟩
  ·obtain⟨e,n,ne,nf,d⟩:=I.pin p hp
   refine⟨(hs.2 p.1 ?_).trans e,n,ne,nf,d⟩
   intro q
   rw [q,hoc] at e
   have q':oc=p.2:=Option.some.inj e
   exact d w' (by rw [<-q'];exact hocd)
theorem Kr {M:Model} {A:Around} {E:Value->Shared->Prop} {i:Nat} {x:Str} {v:V} {u:Value} {Q:Unit->Shared->Prop} (I:Inv X pins σ H s) (hN:X.N.Nodup) (hi:X.N[i]?=some x) (hx:Loc X.env.scope x) (r:RelV v u)
  (h:∀s',Inv X pins (σ.set i (some v)) H s'->Q () s') (hf:X.fn x=true∨X.env.scope.names.lookup x=some .local:=by first | exact .inl rfl | exact .inr rfl | assumption):wpAny M A (storeName X.env x u) Q E s:=
 zy I hN hi hx r (fun s' I' _=>h s' I') hf
theorem Inv.call' {s':Shared} {ch:List Addr} (I:Inv X pins σ H s) (ho:s'.os=s.os) (u:Un (frs X.stack) ch H H' s.heap s'.heap) (hok:vD X.prog X.w H' s'.heap) (hg:AllBare s'.gens)
  (hch:∀b∈ch,(b∈X.ex∨X.s₀.heap.objs.size<=b)/\b≠X.env.locals/\(∀x c,X.env.cells.lookup x=some c->c≠b)/\∀p∈X.pn ++ pins,p.1≠b):Inv X pins σ H' s':=by
 obtain⟨h',g',d',t',o'⟩:=s'
 have e:o'=s.os:=ho
 subst e
 exact I.call (g':=g') (t':=t') (d':=d') u hok hg hch
end
noncomputable abbrev XK:=Value->Option Addr->Hp->Prop
noncomputable abbrev St:=List (Option V)
noncomputable abbrev VK:=V->Hp->Prop
noncomputable abbrev TE:=St->Hp->VK->Prop
noncomputable abbrev TT:=St->Hp->(Bool->Hp->Prop)->Prop
noncomputable abbrev TA:=St->Hp->(List V->Hp->Prop)->Prop
structure Ends where
 nx:St->Hp->Prop
 rt:VK
 bk:St->Hp->Prop:=fun _ _=>False
 ct:St->Hp->Prop:=fun _ _=>False
noncomputable abbrev TS:=Ends->St->Hp->Prop
noncomputable def EP (X:Cx) (pins:List (Addr×Obj)) (σ:St) (Q:VK) (u:Value) (s':Shared):Prop:=∃v H',Inv X pins σ H' s'/\RelV v u/\Q v H'
noncomputable def TP (X:Cx) (pins:List (Addr×Obj)) (σ:St) (Q:Bool->Hp->Prop) (b:Bool) (s':Shared):Prop:=∃H',Inv X pins σ H' s'/\Q b H'
noncomputable def AP (X:Cx) (pins:List (Addr×Obj)) (σ:St) (Q:List V->Hp->Prop) (us:List Value) (s':Shared):Prop:=∃vs H',Inv X pins σ H' s'/\Vals vs us/\Q vs H'
noncomputable def SP (X:Cx) (pins:List (Addr×Obj)) (D:Ends) (f:Flow) (s':Shared):Prop:=
 match f with
 | .next=>∃σ' H',Inv X pins σ' H' s'/\D.nx σ' H'
 | .brk=>∃σ' H',Inv X pins σ' H' s'/\D.bk σ' H'
 | .cont=>∃σ' H',Inv X pins σ' H' s'/\D.ct σ' H'
 | .ret u=>∃v σ' H',Inv X pins σ' H' s'/\RelV v u/\D.rt v H'
noncomputable def PE (X:Cx) (e:Expr) (t:TE):Prop:=
 ∀(pins:List (Addr×Obj)) (s:Shared) (σ:St) (H:Hp) (Q:VK),Inv X pins σ H s->t σ H Q->wpAny (model X.prog X.w) X.A (eval e X.env) (EP X pins σ Q) X.xe s
noncomputable def PT (X:Cx) (e:Expr) (t:TT):Prop:=
 ∀(pins:List (Addr×Obj)) (s:Shared) (σ:St) (H:Hp) (Q:Bool->Hp->Prop),Inv X pins σ H s->t σ H Q->wpAny (model X.prog X.w) X.A (isTrue e X.env (eval e X.env)) (TP X pins σ Q) X.xe s
noncomputable def PW (X:Cx) (e:Expr) (t:TT):Prop:=
 ∀(whole:Sem Value) (pins:List (Addr×Obj)) (s:Shared) (σ:St) (H:Hp) (Q:Bool->Hp->Prop),Inv X pins σ H s->t σ H Q->wpAny (model X.prog X.w) X.A (isTrue e X.env whole) (TP X pins σ Q) X.xe s
theorem PW.pt {X:Cx} {e:Expr} {t:TT} (h:PW X e t):PT X e t:=h _
noncomputable def PA (X:Cx) (es:List Expr) (t:TA):Prop:=
 ∀(pos:Pos) (pins:List (Addr×Obj)) (s:Shared) (σ:St) (H:Hp) (Q:List V->Hp->Prop),Inv X pins σ H s->t σ H Q->wpAny (model X.prog X.w) X.A (spliced (backTo pos (starEach es X.env))) (AP X pins σ Q) X.xe s
noncomputable def PS (X:Cx) (st:Stmt) (t:TS):Prop:=
 ∀(pins:List (Addr×Obj)) (s:Shared) (σ:St) (H:Hp) (D:Ends),Inv X pins σ H s->t D σ H->wpAny (model X.prog X.w) X.A (exec st X.env) (SP X pins D) X.xe s
noncomputable def Ng (X:Cx) (st:List Stmt) (t:TS):Prop:=
 ∀(pins:List (Addr×Obj)) (s:Shared) (σ:St) (H:Hp) (D:Ends),Inv X pins σ H s->t D σ H->wpAny (model X.prog X.w) X.A (execs st X.env) (SP X pins D) X.xe s
theorem dH {α:Type} {t:Sem α} {Q Q':α->Shared->Prop} {M:Model} {A:Around} {E:Value->Shared->Prop} {s:Shared} (h:wpAny M A t Q E s) (hQ:∀a s,Q a s->Q' a s):wpAny M A t Q' E s:=wpAny_mono h hQ fun _ _ x=>x
section
variable {X:Cx}
inductive VD (i:Nat) (σ:St) (H:Hp) (Q:VK):Prop where
 | mk:∀v,σ[i]?=some (some v)->Q v H->VD i σ H Q
noncomputable def vH (i:Nat):TE:=fun σ H Q=>VD i σ H Q
noncomputable def tC (v:V):TE:=fun _ H Q=>Q v H
theorem Xd {i:Nat} {x:Str} {pos:Pos} (hN:X.N[i]?=some x) (hv:Y6 X.env.scope x) (hd:(x == ("__debug__" :Str))=false:=by decide) (hcd:(x == ("__classdict__" :Str))=false:=by decide):PE X (.Name x pos) (vH i):=by
 intro pins s σ H Q I h
 obtain⟨v,e,h⟩:=h
 obtain⟨m,hn,hl⟩:=I.loc
 obtain⟨u,r,l⟩:=hl i x v hN e hv
 have fin:EP X pins σ Q u s:=⟨v,H,I,r,h⟩
 rcases l with ⟨hk,hm⟩ | ⟨hk,c,hc,hcell⟩
 ·exact wpAny_Name (wpAny_loadName_local I.ok.kind hk hn hm fin) hd
 ·rcases hk with hk | hk
  ·exact wpAny_Name (wpAny_loadName_cell I.ok.kind hk hc hcell fin) hd
  ·exact wpAny_Name (wpAny_loadName_free I.ok.kind hk hc hcell fin hcd) hd
theorem az {i j pos}:PE X (.Constant (.int i) j pos) (tC (.int i)):=fun _ _ _ H _ I h=>wpAny_Constant_int ⟨.int i,H,I.tok _,⟨_,rfl⟩,h⟩
theorem jF {b j pos}:PE X (.Constant (.bool b) j pos) (tC (.bl b)):=fun _ _ _ H _ I h=>Constant_bool ⟨.bl b,H,I,rfl,h⟩
theorem rQ {j pos}:PE X (.Constant .none j pos) (tC .non):=fun _ _ _ H _ I h=>Constant_none ⟨.non,H,I,rfl,h⟩
theorem bJ {x j pos}:PE X (.Constant (.str x) j pos) (tC (.str x)):=fun _ _ _ H _ I h=>Calls.Constant_str ⟨.str x,H,I.tok _,⟨_,rfl⟩,h⟩
noncomputable def Gl (X:Cx) (x:Str):Prop:=X.env.kindOf x=some .globalImplicit
theorem Hr {E:Value->Shared->Prop} {pins:List (Addr×Obj)} {s:Shared} {σ:St} {H:Hp} {x:Str} {u:Value} {pos:Pos} {Q:Value->Shared->Prop} (I:Inv X pins σ H s) (hg:Gl X x) (hm:X.mg x=some u) (h:Q u s)
  (hd:(x == ("__debug__" :Str))=false:=by decide):wpAny (model X.prog X.w) X.A (eval (.Name x pos) X.env) Q E s:=
 Calls.Name_function_global I.ok.kind hg (Calls.loadGlobal_global (by rw [I.ok.glob];exact I.mod.glob.keeps I.bk) hm h) hd
theorem HJ {E:Value->Shared->Prop} {pins:List (Addr×Obj)} {s:Shared} {σ:St} {H:Hp} {x:Str} {u:Value} {pos:Pos} {Q:Value->Shared->Prop} (I:Inv X pins σ H s) (hg:Gl X x) (hm:X.mg x=none) (hv:bootBuiltins x=some u) (h:Q u s)
  (hn:x≠ "__name__" :=by decide) (hd:(x == ("__debug__" :Str))=false:=by decide):wpAny (model X.prog X.w) X.A (eval (.Name x pos) X.env) Q E s:=by
 obtain⟨mb,h1,h2⟩:=I.mod.blt
 exact Calls.Name_function_global I.ok.kind hg (Calls.loadGlobal_builtin (by rw [I.ok.glob];exact I.mod.glob.keeps I.bk) hm (by rw [I.ok.blt];exact h1.keeps I.bk) ((h2 x hn).trans hv) h) hd
theorem HY {x:Str} {v:V} {u:Value} {pos:Pos} (hg:Gl X x) (hm:X.mg x=some u) (r:RelV v u) (hd:(x == ("__debug__" :Str))=false:=by decide):PE X (.Name x pos) (tC v):=
 fun _ _ _ H _ I h=>Hr I hg hm ⟨v,H,I,r,h⟩ hd
theorem U5 {x:Str} {v:V} {u:Value} {pos:Pos} (hg:Gl X x) (hm:X.mg x=none) (hv:bootBuiltins x=some u) (r:RelV v u) (hn:x≠ "__name__" :=by decide) (hd:(x == ("__debug__" :Str))=false:=by decide):PE X (.Name x pos) (tC v):=
 fun _ _ _ H _ I h=>HJ I hg hm hv ⟨v,H,I,r,h⟩ hn hd
variable {a b:Expr} {ta tb:TE} {pos:Pos}
noncomputable def PC (X:Cx) (op:CmpOp) (a b:Expr) (t:TE):Prop:=
 ∀(pins:List (Addr×Obj)) (s:Shared) (σ:St) (H:Hp) (Q:VK),Inv X pins σ H s->t σ H Q->
  wpAny (model X.prog X.w) X.A (eval a X.env) (fun v s₁=>wpAny (model X.prog X.w) X.A (eval b X.env) (fun u s₂=>wpAny (model X.prog X.w) X.A (compareOp op v u) (EP X pins σ Q) X.xe s₂) X.xe s₁) X.xe s
theorem Kg (b:Expr) {op:CmpOp} (h:op≠.In) (h2:op≠.NotIn):behindInMarks op b=false:=by
 have e1:(op == CmpOp.In)=false:=by cases op <;> first | rfl | exact absurd rfl h
 have e2:(op == CmpOp.NotIn)=false:=by cases op <;> first | rfl | exact absurd rfl h2
 cases b <;> simp [behindInMarks,e1,e2]
noncomputable def Zd (ta:TE):TE:=fun σ H Q=>ta σ H fun x H1=>Q (.bl (decide (x=.non))) H1
noncomputable def Xp (ta:TE):TE:=fun σ H Q=>ta σ H fun x H1=>Q (.bl (!decide (x=.non))) H1
theorem RelV.none_iff {x:V} {v:Value} (r:RelV x v):(v == Value.none)=decide (x=.non):=by
 cases x with
 | non=>cases r;rfl
 | bl _=>cases r;rfl
 | int _=>obtain⟨t,rfl⟩:=r;rfl
 | str _=>obtain⟨t,rfl⟩:=r;rfl
 | byt _=>obtain⟨t,rfl⟩:=r;rfl
 | flt _=>obtain⟨t,rfl⟩:=r;rfl
 | ref _=>cases r;rfl
 | ty _=>cases r;rfl
theorem zr {j pos'} (ha:PE X a ta):PC X .Is a (.Constant .none j pos') (Zd ta):=by
 intro pins s σ H Q I h
 refine dH (ha pins s σ H _ I h) fun v s1 hpt=>?_
 obtain⟨x,H1,I1,r1,q1⟩:=hpt
 exact Constant_none (is_none_gen ⟨.bl _,H1,I1,by rw [r1.none_iff];rfl,q1⟩)
theorem vA {j pos'} (ha:PE X a ta):PC X .IsNot a (.Constant .none j pos') (Xp ta):=by
 intro pins s σ H Q I h
 refine dH (ha pins s σ H _ I h) fun v s1 hpt=>?_
 obtain⟨x,H1,I1,r1,q1⟩:=hpt
 exact Constant_none (isnot_none_gen ⟨.bl _,H1,I1,by rw [r1.none_iff];rfl,q1⟩)
inductive ZZ (Q:Bool->Hp->Prop) (x:V) (H1:Hp):Prop where
 | mk:∀c,x=.bl c->Q c H1->ZZ Q x H1
noncomputable def tB (t:TE):TT:=fun σ H Q=>t σ H fun x H1=>ZZ Q x H1
theorem CG {op:CmpOp} {t:TE} (h:PC X op a b t) (h1:behindInMarks op b=false:=by first | exact Kg _ (by decide) (by decide) | rfl):PE X (.Compare a [op] [b] pos) t:=fun pins s σ H Q I hw=>wpAny_Compare1 (h pins s σ H Q I hw) h1
theorem gh {op:CmpOp} {t:TE} (h:PC X op a b t) (h1:behindInMarks op b=false:=by first | exact Kg _ (by decide) (by decide) | rfl):PT X (.Compare a [op] [b] pos) (tB t):=by
 intro pins s σ H Q I hw
 refine wpAny_isTrue_Compare1 (dH (h pins s σ H _ I hw) fun v s1 h1=>dH h1 fun u s2 h2=>dH h2 fun c s3 hpt=>?_) h1
 obtain⟨x,H1,I1,r1,q1⟩:=hpt
 obtain⟨d,rfl,q⟩:=q1
 cases r1
 exact wpAny_truthy_bool ⟨H1,I1,q⟩
theorem gZ {e:Expr} {t:TE} (h:PE X e t) (he:∀whole,isTrue e X.env whole=(do let v <-whole;standAt e.pos;holding [v] (truthy v)):=by intro _;rfl):PT X e (tB t):=by
 intro pins s σ H Q I hw
 refine isTrue_plain (dH (h pins s σ H _ I hw) fun v s1 ⟨x,H1,I1,r1,q1⟩=>?_) (he _)
 obtain⟨d,rfl,q⟩:=q1
 cases r1
 exact wpAny_truthy_bool ⟨H1,I1,q⟩
variable {tA tB':TT} {rest:List Expr}
noncomputable def WM (t u:TT):TT:=fun σ H Q=>t σ H fun c H1=>if c=true then u σ H1 Q else Q false H1
noncomputable def tOr (t u:TT):TT:=fun σ H Q=>t σ H fun c H1=>if c=true then Q true H1 else u σ H1 Q
noncomputable def ZQ (t:TT):TT:=fun σ H Q=>t σ H fun c H1=>Q (!c) H1
theorem pO (ha:PT X a tA):PW X (.BoolOp .And [a] pos) tA:=by
 intro wh pins s σ H Q I h
 refine isTrue_and (dH (ha pins s σ H Q I h) fun c s1 e=>?_)
 cases c with
 | true=>exact isTrue_and_nil e
 | false=>exact e
theorem lU (ha:PT X a tA):PW X (.BoolOp .Or [a] pos) tA:=by
 intro wh pins s σ H Q I h
 refine isTrue_or (dH (ha pins s σ H Q I h) fun c s1 e=>?_)
 cases c with
 | false=>exact isTrue_or_nil e
 | true=>exact e
theorem qX (ha:PT X a tA) (hb:PW X (.BoolOp .And (b:: rest) pos) tB'):PW X (.BoolOp .And (a:: b:: rest) pos) (WM tA tB'):=by
 intro wh pins s σ H Q I h
 refine isTrue_and (dH (ha pins s σ H _ I h) fun c s1 hpt=>?_)
 obtain⟨H1,I1,q1⟩:=hpt
 cases c with
 | true=>exact hb wh pins s1 σ H1 Q I1 q1
 | false=>exact⟨H1,I1,q1⟩
theorem sy (ha:PT X a tA) (hb:PW X (.BoolOp .Or (b:: rest) pos) tB'):PW X (.BoolOp .Or (a:: b:: rest) pos) (tOr tA tB'):=by
 intro wh pins s σ H Q I h
 refine isTrue_or (dH (ha pins s σ H _ I h) fun c s1 hpt=>?_)
 obtain⟨H1,I1,q1⟩:=hpt
 cases c with
 | true=>exact⟨H1,I1,q1⟩
 | false=>exact hb wh pins s1 σ H1 Q I1 q1
theorem jf (ha:PT X a tA):PT X (.UnaryOp .Not a pos) (ZQ tA):=by
 intro pins s σ H Q I h
 exact isTrue_not (ha pins s σ H (fun c H1=>Q (!c) H1) I h)
inductive Sq (tb:TE) (σ:St) (Q:VK) (x:V) (H1:Hp):Prop where
 | mk:∀c,x=.bl c->(if c=true then tb σ H1 Q else Q (.bl false) H1)->Sq tb σ Q x H1
noncomputable def Yn (ta tb:TE):TE:=fun σ H Q=>ta σ H fun x H1=>Sq tb σ Q x H1
inductive Vg (tb:TE) (σ:St) (Q:VK) (x:V) (H1:Hp):Prop where
 | mk:∀c,x=.bl c->(if c=true then Q (.bl true) H1 else tb σ H1 Q)->Vg tb σ Q x H1
noncomputable def ZR (ta tb:TE):TE:=fun σ H Q=>ta σ H fun x H1=>Vg tb σ Q x H1
inductive RX (Q:VK) (x:V) (H1:Hp):Prop where
 | mk:∀c,x=.bl c->Q (.bl (!c)) H1->RX Q x H1
noncomputable def X8 (ta:TE):TE:=fun σ H Q=>ta σ H fun x H1=>RX Q x H1
theorem yZ {op} {t:TE} (h:PE X a t):PE X (.BoolOp op [a] pos) t:=fun pins s σ H Q I hw=>BoolOp_one (h pins s σ H Q I hw)
theorem zp (ha:PE X a ta) (hb:PE X (.BoolOp .And (b:: rest) pos) tb):PE X (.BoolOp .And (a:: b:: rest) pos) (Yn ta tb):=by
 intro pins s σ H Q I h
 refine BoolOp_and (dH (ha pins s σ H _ I h) fun v s1 hpt=>?_)
 obtain⟨x,H1,I1,r1,q1⟩:=hpt
 obtain⟨c,rfl,q1⟩:=q1
 cases r1
 refine wpAny_truthy_bool ?_
 cases c with
 | true=>exact hb pins s1 σ H1 Q I1 q1
 | false=>exact⟨.bl false,H1,I1,rfl,q1⟩
theorem YF (ha:PE X a ta) (hb:PE X (.BoolOp .Or (b:: rest) pos) tb):PE X (.BoolOp .Or (a:: b:: rest) pos) (ZR ta tb):=by
 intro pins s σ H Q I h
 refine BoolOp_or (dH (ha pins s σ H _ I h) fun v s1 hpt=>?_)
 obtain⟨x,H1,I1,r1,q1⟩:=hpt
 obtain⟨c,rfl,q1⟩:=q1
 cases r1
 refine wpAny_truthy_bool ?_
 cases c with
 | false=>exact hb pins s1 σ H1 Q I1 q1
 | true=>exact⟨.bl true,H1,I1,rfl,q1⟩
theorem RB (ha:PE X a ta):PE X (.UnaryOp .Not a pos) (X8 ta):=by
 intro pins s σ H Q I h
 refine UnaryOp_ (dH (ha pins s σ H _ I h) fun v s1 hpt=>?_)
 obtain⟨x,H1,I1,r1,q1⟩:=hpt
 obtain⟨c,rfl,q1⟩:=q1
 cases r1
 exact not_of (wpAny_truthy_bool ⟨.bl (!c),H1,I1,rfl,q1⟩)
noncomputable def tIf (t:TT) (ta tb:TE):TE:=fun σ H Q=>t σ H fun c H1=>if c=true then ta σ H1 Q else tb σ H1 Q
theorem oA {c:Expr} (hc:PT X c tA) (ha:PE X a ta) (hb:PE X b tb):PE X (.IfExp c a b pos) (tIf tA ta tb):=by
 intro pins s σ H Q I h
 refine wpAny_IfExp (dH (hc pins s σ H _ I h) fun d s1 hpt=>?_)
 obtain⟨H1,I1,q1⟩:=hpt
 cases d with
 | true=>exact ha pins s1 σ H1 Q I1 q1
 | false=>exact hb pins s1 σ H1 Q I1 q1
end
noncomputable def bF (K:PySem.W.Frag) (H:Hp) (a:Addr) (xs:List V):Prop:=
 Rd H a (.lst xs)∨
  ∃(o:Obj) (its:Array Value) (n:Nat),K.lookup a=some o/\o.cls=.type "list" /\o.dict=none/\o.data=.seq its n/\its.size<=sizeLine/\Vals xs its.toList
noncomputable def eN (K:PySem.W.Frag) (H:Hp) (a:Addr) (xs:List V):Prop:=
 Rd H a (.tup xs)∨
  ∃(o:Obj) (its:Array Value) (n:Nat),K.lookup a=some o/\o.cls=.type "tuple" /\o.data=.seq its n/\its.size<=sizeLine/\Vals xs its.toList
noncomputable def ZJ:Value->Option V
 | .none=>some .non
 | .bool b=>some (.bl b)
 | .int i _=>some (.int i)
 | .str x _=>some (.str x)
 | .bytes b _=>some (.byt b)
 | .float b _=>some (.flt b)
 | .ref a=>some (.ref a)
 | .type n=>some (.ty n)
 | _=>none
theorem RelV.abs {x:V} {u:Value} (r:RelV x u):ZJ u=some x:=by
 cases x with
 | non=>cases r;rfl
 | bl _=>cases r;rfl
 | int _=>obtain⟨t,rfl⟩:=r;rfl
 | str _=>obtain⟨t,rfl⟩:=r;rfl
 | byt _=>obtain⟨t,rfl⟩:=r;rfl
 | flt _=>obtain⟨t,rfl⟩:=r;rfl
 | ref _=>cases r;rfl
 | ty _=>cases r;rfl
theorem RelV.inj {x y:V} {u:Value} (r:RelV x u) (q:RelV y u):x=y:=Option.some.inj (r.abs.symm.trans q.abs)
theorem Vals.inj:∀{xs ys:List V} {us:List Value},Vals xs us->Vals ys us->xs=ys
 | _,_,_,.nil,.nil=>rfl
 | _,_,_,.cons r t,.cons r' t'=>by rw [r.inj r',Vals.inj t t']
section
variable {X:Cx} {pins:List (Addr×Obj)} {σ:St} {H:Hp} {s:Shared} {a:Addr} {xs ys:List V}
theorem bF.of {K:PySem.W.Frag} (h:H a=some (.lst xs)):bF K H a xs:=.inl (.inl h)
theorem eN.of {K:PySem.W.Frag} (h:H a=some (.tup xs)):eN K H a xs:=.inl (.inl h)
theorem Inv.list (I:Inv X pins σ H s) (h:bF X.K H a xs):∃its:List Value,Vals xs its/\PlainL s.heap a its.toArray/\xs.length<=sizeLine:=by
 rcases h with h | ⟨o,its,n,hk,hc,hd,hs,hz,r⟩
 ·obtain⟨z,its,n,r,e⟩:=h.ok I.hok
  exact⟨its,r,⟨_,n,e,rfl,rfl,rfl⟩,z⟩
 ·refine⟨its.toList,r,⟨o,n,I.kIn a o hk,hc,hd,by simpa using hs⟩,?_⟩
  have e:=r.length
  simp only [Array.length_toList] at e
  omega
theorem Inv.tuple (I:Inv X pins σ H s) (h:eN X.K H a xs):∃its:List Value,Vals xs its/\IsTup s.heap a its.toArray/\xs.length<=sizeLine:=by
 rcases h with h | ⟨o,its,n,hk,hc,hs,hz,r⟩
 ·obtain⟨z,its,r,p⟩:=h.ok I.hok
  exact⟨its,r,p,z⟩
 ·refine⟨its.toList,r,⟨o,I.kIn a o hk,hc,n,by simpa using hs⟩,?_⟩
  have e:=r.length
  simp only [Array.length_toList] at e
  omega
theorem Inv.list_inj (I:Inv X pins σ H s) (h:bF X.K H a xs) (h':bF X.K H a ys):xs=ys:=by
 obtain⟨its,r,⟨o,n,e,_,_,d⟩,_⟩:=I.list h
 obtain⟨its',r',⟨o',n',e',_,_,d'⟩,_⟩:=I.list h'
 rw [e] at e';cases e'
 rw [d] at d'
 injection d' with d1 _
 have:its=its':=by simpa using congrArg Array.toList d1
 subst this
 exact r.inj r'
theorem Inv.tuple_inj (I:Inv X pins σ H s) (h:eN X.K H a xs) (h':eN X.K H a ys):xs=ys:=by
 obtain⟨its,r,⟨o,e,_,n,d⟩,_⟩:=I.tuple h
 obtain⟨its',r',⟨o',e',_,n',d'⟩,_⟩:=I.tuple h'
 rw [e] at e';cases e'
 rw [d] at d'
 injection d' with d1 _
 have:its=its':=by simpa using congrArg Array.toList d1
 subst this
 exact r.inj r'
end
noncomputable abbrev Cx.wish (X:Cx) (E:Value->Shared->Prop):Cx:={ X with xe:=E }
noncomputable abbrev Cx.nox (X:Cx):Cx:=X.wish fun _ _=>False
theorem Cx.Ok.wish {X:Cx} (ok:X.Ok) (E:Value->Shared->Prop):(X.wish E).Ok:=
 ⟨ok.mod,ok.kind,ok.glob,ok.blt,ok.above,ok.inj,ok.has,ok.cab,ok.hd,ok.frames,ok.stk,ok.exf,ok.bs,ok.bsz,ok.noex,ok.exfs,ok.funs,ok.frf⟩
theorem Cx.Ok.unwish {X:Cx} {E:Value->Shared->Prop} (ok:(X.wish E).Ok):X.Ok:=
 ⟨ok.mod,ok.kind,ok.glob,ok.blt,ok.above,ok.inj,ok.has,ok.cab,ok.hd,ok.frames,ok.stk,ok.exf,ok.bs,ok.bsz,ok.noex,ok.exfs,ok.funs,ok.frf⟩
section
variable {X:Cx} {pins:List (Addr×Obj)} {σ:St} {H:Hp} {s:Shared} {E:Value->Shared->Prop}
theorem Inv.wish (I:Inv X pins σ H s) (E:Value->Shared->Prop):Inv (X.wish E) pins σ H s:=⟨I.ok.wish E,I.os,I.bare,I.base,I.loc,I.cell,I.free,I.freeC,I.pin,I.hok,I.len⟩
theorem Inv.unwish (I:Inv (X.wish E) pins σ H s):Inv X pins σ H s:=⟨I.ok.unwish,I.os,I.bare,I.base,I.loc,I.cell,I.free,I.freeC,I.pin,I.hok,I.len⟩
theorem SP.unwish {D:Ends} {f:Flow} {s':Shared} (h:SP (X.wish E) pins D f s'):SP X pins D f s':=by
 cases f with
 | next=>obtain⟨σ',H',I,q⟩:=h;exact⟨σ',H',I.unwish,q⟩
 | brk=>obtain⟨σ',H',I,q⟩:=h;exact⟨σ',H',I.unwish,q⟩
 | cont=>obtain⟨σ',H',I,q⟩:=h;exact⟨σ',H',I.unwish,q⟩
 | ret u=>obtain⟨v,σ',H',I,r,q⟩:=h;exact⟨v,σ',H',I.unwish,r,q⟩
theorem Ng.nox {st:List Stmt} {t:TS} (h:Ng X.nox st t):Ng X st t:=fun pins s σ H D I hw=>
 wpAny_mono (h pins s σ H D (I.wish _) hw) (fun _ _ q=>q.unwish) fun _ _ z=>False.elim z
end
section
variable {X:Cx} {st:Stmt} {rest:List Stmt} {t u:TS} {e:Expr} {te:TE} {pos:Pos}
noncomputable def XJ:TS:=fun D σ H=>D.nx σ H
noncomputable def yP (t u:TS):TS:=fun D σ H=>t { D with nx:=u D } σ H
theorem bj:Ng X [] XJ:=fun _ _ σ H _ I h=>wpAny_execs_nil ⟨σ,H,I,h⟩
theorem aq (h1:PS X st t) (h2:Ng X rest u):Ng X (st:: rest) (yP t u):=by
 intro pins s σ H D I h
 refine wpAny_execs_cons (dH (h1 pins s σ H { D with nx:=u D } I h) fun f s1 q=>?_)
 cases f with
 | next=>
  obtain⟨σ',H',I',q⟩:=q
  exact h2 pins s1 σ' H' D I' q
 | ret v=>exact q
 | brk=>exact q
 | cont=>exact q
theorem aA (h1:PS X st t):Ng X [st] t:=by
 intro pins s σ H D I h
 refine wpAny_execs_cons (dH (h1 pins s σ H D I h) fun f s1 q=>?_)
 cases f with
 | next=>exact wpAny_execs_nil q
 | ret v=>exact q
 | brk=>exact q
 | cont=>exact q
theorem Inv.quiet {pins:List (Addr×Obj)} {σ:St} {H:Hp} {s:Shared} (I:Inv X pins σ H s):interactive X.env=false:=by simp [interactive,I.ok.kind]
noncomputable def X5 (te:TE):TS:=fun D σ H=>te σ H fun _ H1=>D.nx σ H1
theorem bC (he:PE X e te) (hs:swapsWith e none pos.line X.env=pure false:=by rfl):PS X (.Expr e pos) (X5 te):=by
 intro pins s σ H D I h
 exact wpAny_Expr_any (dH (he pins s σ H _ I h) fun v s1 ⟨x,H1,I1,r1,q1⟩=>⟨σ,H1,I1,q1⟩) I.quiet hs
noncomputable def Zj (te:TE):TS:=fun D σ H=>te σ H D.rt
theorem aN (he:PE X e te):PS X (.Return (some e) pos) (Zj te):=by
 intro pins s σ H D I h
 exact wpAny_Return_some (dH (he pins s σ H _ I h) fun v s1 ⟨x,H1,I1,r1,q1⟩=>⟨x,σ,H1,I1,r1,q1⟩)
noncomputable def Zc (c:TT) (t u:TS):TS:=fun D σ H=>c σ H fun b H1=>if b=true then t D σ H1 else u D σ H1
theorem bN {c:Expr} {a b:List Stmt} {tc:TT} (hc:PT X c tc) (ha:Ng X a t) (hb:Ng X b u):PS X (.If c a b pos) (Zc tc t u):=by
 intro pins s σ H D I h
 refine wpAny_If (dH (hc pins s σ H _ I h) fun d s1 hpt=>?_)
 obtain⟨H1,I1,q1⟩:=hpt
 cases d with
 | true=>exact ha pins s1 σ H1 D I1 q1
 | false=>exact hb pins s1 σ H1 D I1 q1
noncomputable def Wr:TS:=fun _ _ _=>False
theorem dJ:PS X st Wr:=fun _ _ _ _ _ _ h=>h.elim
end
noncomputable abbrev TG:=V->St->Hp->(St->Hp->Prop)->Prop
noncomputable abbrev S7:=List V->St->Hp->(St->Hp->Prop)->Prop
noncomputable def PG (X:Cx) (target:Expr) (t:TG):Prop:=
 ∀(pins:List (Addr×Obj)) (s:Shared) (σ:St) (H:Hp) (v:V) (u:Value) (Q:St->Hp->Prop),Inv X pins σ H s->RelV v u->t v σ H Q->
  wpAny (model X.prog X.w) X.A (assign target X.env u) (fun _ s'=>∃σ' H',Inv X pins σ' H' s'/\Q σ' H') X.xe s
noncomputable def YH (X:Cx) (ts:List Expr) (t:S7):Prop:=
 ∀(pins:List (Addr×Obj)) (s:Shared) (σ:St) (H:Hp) (vs:List V) (us:List Value) (Q:St->Hp->Prop),Inv X pins σ H s->Vals vs us->t vs σ H Q->
  wpAny (model X.prog X.w) X.A (assignInOrder ((assignEach ts X.env).map (·.2)) us) (fun _ s'=>∃σ' H',Inv X pins σ' H' s'/\Q σ' H') X.xe s
section
variable {X:Cx} {pos:Pos}
noncomputable def yf (i:Nat):TG:=fun v σ H Q=>Q (σ.set i (some v)) H
theorem uY {i:Nat} {x:Str} (hN:X.N.Nodup) (hi:X.N[i]?=some x) (hx:Loc X.env.scope x) (hf:X.fn x=true∨X.env.scope.names.lookup x=some .local:=by first | exact .inl rfl | exact .inr rfl | assumption):PG X (.Name x pos) (yf i):=by
 intro pins s σ H v u Q I r h
 exact wpAny_assign_Name (Kr I hN hi hx r (fun s' I'=>⟨_,H,I',h⟩) hf)
noncomputable def ZL:S7:=fun vs σ H Q=>vs=[]/\Q σ H
inductive Qn (t:TG) (u:S7) (vs:List V) (σ:St) (H:Hp) (Q:St->Hp->Prop):Prop where
 | mk:∀v r,vs=v:: r->(t v σ H fun σ' H'=>u r σ' H' Q)->Qn t u vs σ H Q
noncomputable def Yi (t:TG) (u:S7):S7:=fun vs σ H Q=>Qn t u vs σ H Q
theorem vh:YH X [] ZL:=by
 intro pins s σ H vs us Q I r h
 obtain⟨e,h⟩:=h
 subst e
 cases r
 exact assignInOrder_nil ⟨σ,H,I,h⟩
theorem gQ {e:Expr} {es:List Expr} {t:TG} {u:S7} (h1:PG X e t) (h2:YH X es u)
  (hs:(assignEach (e:: es) X.env).map (·.2)=assign e X.env:: (assignEach es X.env).map (·.2):=by rfl):YH X (e:: es) (Yi t u):=by
 intro pins s σ H vs us Q I r h
 obtain⟨v,vr,e1,h⟩:=h
 subst e1
 cases r with
 | cons r rr=>
  rw [hs]
  refine assignInOrder_cons (dH (h1 pins s σ H _ _ _ I r h) fun _ s1 hpt=>?_)
  obtain⟨σ1,H1,I1,q1⟩:=hpt
  exact h2 pins s1 σ1 H1 _ _ Q I1 rr q1
inductive VR (K:PySem.W.Frag) (n:Nat) (t:S7) (v:V) (σ:St) (H:Hp) (Q:St->Hp->Prop):Prop where
 | mk:∀a xs,v=.ref a->eN K H a xs->xs.length=n->t xs σ H Q->VR K n t v σ H Q
noncomputable def YM (K:PySem.W.Frag) (n:Nat) (t:S7):TG:=fun v σ H Q=>VR K n t v σ H Q
theorem CT {es:List Expr} {k:Nat} {t:S7} {n:Nat} (hc:X.calm=true) (h:YH X es t)
  (hn:(assignEach es X.env).length=n:=by rfl) (hst:(assignEach es X.env).findIdx? (·.1)=none:=by rfl):PG X (.Tuple es k pos) (YM X.K n t):=by
 intro pins s σ H v u Q I r hw
 obtain⟨a,xs,e1,hq,hl,hw⟩:=hw
 subst e1
 cases r
 obtain⟨its,rv,ht,hz⟩:=I.tuple hq
 refine assign_Tuple_tuple (I.ok.hd hc) ht (by simp [hn,<-hl,rv.length]) hst fun h' hx=>?_
 have I1:Inv X pins σ H { s with heap:=h' }:=I.kept (t':=s.toks) fun b o e=>hx b o (Nat.ne_of_lt (Heap.lt_size e)) e
 exact h pins _ σ H xs _ Q I1 (by simpa using rv) hw
noncomputable def Qe (te:TE) (g:TG):TS:=fun D σ H=>te σ H fun x H1=>g x σ H1 D.nx
theorem W3 {tg e:Expr} {te:TE} {g:TG} (he:PE X e te) (hg:PG X tg g) (hs:swapsWithSole [tg] e pos.line X.env=pure false:=by rfl) (hw:swappedStores [tg] e X.env=pure none:=by rfl)
  (h1:(assignEach [tg] X.env).map (·.2)=[assign tg X.env]:=by rfl):PS X (.Assign [tg] e pos) (Qe te g):=by
 intro pins s σ H D I h
 refine wpAny_Assign_stores (dH (he pins s σ H _ I h) fun v s1 hpt=>?_) hs hw
 obtain⟨x,H1,I1,r1,q1⟩:=hpt
 rw [h1]
 exact dH (hg pins s1 σ H1 x v _ I1 r1 q1) fun _ s2 q=>q
theorem Ww {i:Nat} {x:Str} {e:Expr} {te:TE} {pos':Pos} (hN:X.N.Nodup) (hi:X.N[i]?=some x) (hx:Loc X.env.scope x) (he:PE X e te) (hs:swapsWith e (some (.Name x pos')) pos.line X.env=pure false:=by rfl) (hf:X.fn x=true∨X.env.scope.names.lookup x=some .local:=by first | exact .inl rfl | exact .inr rfl | assumption):
  PS X (.Assign [.Name x pos'] e pos) (Qe te (yf i)):=by
 intro pins s σ H D I h
 refine wpAny_Assign_Name (dH (he pins s σ H _ I h) fun v s1 hpt=>?_) hs
 obtain⟨y,H1,I1,r1,q1⟩:=hpt
 exact Kr I1 hN hi hx r1 (fun s2 I2=>⟨_,H1,I2,q1⟩) hf
end
section
variable {X:Cx} {pos:Pos}
inductive M5 (c:TT) (tb:TS) (D:Ends) (σ:St) (H:Hp):Prop where
 | mk:∀W:Nat->St->Hp->Prop,((∃m,W m σ H))->(∀m σ H,W m σ H->
 c σ H fun b H1=>if b=true then ∃N:St->Hp->Prop,(∀σ' H',N σ' H'->∃m',m' <m/\W m' σ' H')/\tb { D with nx:=N,ct:=N,bk:=D.nx } σ H1 else D.nx σ H1)->M5 c tb D σ H
noncomputable def RT (c:TT) (tb:TS):TS:=fun D σ H=>M5 c tb D σ H
theorem qM {c:Expr} {body:List Stmt} {tc:TT} {tb:TS} (hp:PassesOwn (model X.prog X.w) X.A X.env X.xe) (hc:PT X c tc) (hb:Ng X body tb):PS X (.While c body [] pos) (RT tc tb):=by
 intro pins s σ H D I h
 obtain⟨W,⟨m0,w0⟩,turn⟩:=h
 refine wpAny_While (codeAny_whileLoop (fun n s'=>∃σ' H',Inv X pins σ' H' s'/\W n σ' H') ?_ m0 ⟨σ,H,I,w0⟩)
 rintro n s1 ⟨σ1,H1,I1,w1⟩
 refine wpAny_passesOwn hp (dH (hc pins s1 σ1 H1 _ I1 (turn n σ1 H1 w1)) fun b s2 hpt=>?_)
 obtain⟨H2,I2,q2⟩:=hpt
 cases b with
 | true=>
  obtain⟨N,hN,q2⟩:=q2
  rw [if_pos rfl]
  refine wpAny_passesOwn hp (dH (hb pins s2 σ1 H2 _ I2 q2) fun f s3 q3=>?_)
  cases f with
  | next=>
   obtain⟨σ3,H3,I3,n3⟩:=q3
   obtain⟨m',hm,w3⟩:=hN σ3 H3 n3
   exact⟨m',hm,σ3,H3,I3,w3⟩
  | cont=>
   obtain⟨σ3,H3,I3,n3⟩:=q3
   obtain⟨m',hm,w3⟩:=hN σ3 H3 n3
   exact⟨m',hm,σ3,H3,I3,w3⟩
  | brk=>exact q3
  | ret v=>exact q3
 | false=>
  rw [if_neg Bool.false_ne_true]
  exact wpAny_execs_nil ⟨σ1,H2,I2,q2⟩
end
structure It where
 go:Nat->Hp->Prop
 yld:Nat->Hp->V->Hp->Prop
 stop:Nat->Hp->Prop
noncomputable def Hc (X:Cx) (pins:List (Addr×Obj)) (H:Hp) (b:Addr):Prop:=
 H b=none/\b≠X.env.locals/\b∉X.fs/\(b∈X.ex∨X.s₀.heap.objs.size<=b)/\(∀x c,X.env.cells.lookup x=some c->c≠b)/\∀p∈X.pn ++ pins,p.1≠b
theorem Inv.fpOk {X:Cx} {pins:List (Addr×Obj)} {σ:St} {H H':Hp} {s:Shared} {b:Addr} (I:Inv X pins σ H s) (hb:s.heap.objs.size<=b) (hn:H' b=none):Hc X pins H' b:=by
 refine⟨hn,Nat.ne_of_gt (Nat.lt_of_lt_of_le I.lt hb),I.nofs hb,.inr (Nat.le_trans I.sz hb),fun x c e z=>?_,fun p hp z=>?_⟩
 ·obtain⟨v,q⟩:=I.cell x c e
  exact absurd (Nat.lt_of_lt_of_le q.lt (by rw [z];exact hb)) (Nat.lt_irrefl _)
 ·exact absurd (Nat.lt_of_lt_of_le (Heap.lt_size (I.pin p hp).1) (by rw [z];exact hb)) (Nat.lt_irrefl _)
structure Turn (P:Program) (w:World) (K:PySem.W.Frag) (tg:Expr) (J:It) (fp:List Addr) (it:Addr) (tn:Nat->Heap->Prop):Prop where
 mem:it∈fp
 obj:∀i h,tn i h->∀b∈fp,∃o,h.get? b=some o/\∀v,o.data≠.cell v
 keep:∀i h h',tn i h->(∀b∈fp,∀o,h.get? b=some o->h'.get? b=some o)->tn i h'
 item:∀(X:Cx),X.prog=P->X.w=w->X.K=K->X.calm=true->∀(i:Nat) (pins:List (Addr×Obj)) (s:Shared) (σ:St) (H:Hp) (E:Value->Shared->Prop),Inv X pins σ H s->(∀b∈fp,Hc X pins H b)->tn i s.heap->J.go i H->
  wpAny (model P w) X.A (pyNext (.ref it)) (fun r s1=>∃u,r=some u/\
   wpAny (model P w) X.A (letOwnedTupleGo tg (.ref it) u) (fun _ s2=>∃x H',Inv X pins σ H' s2/\RelV x u/\J.yld i H x H'/\tn (i+1) s2.heap/\∀b∈fp,H' b=none) E s1) E s
 done:∀(X:Cx),X.prog=P->X.w=w->X.K=K->X.calm=true->∀(i:Nat) (pins:List (Addr×Obj)) (s:Shared) (σ:St) (H:Hp) (E:Value->Shared->Prop),Inv X pins σ H s->(∀b∈fp,Hc X pins H b)->tn i s.heap->J.stop i H->
  wpAny (model P w) X.A (pyNext (.ref it)) (fun r s1=>r=none/\Inv X pins σ H s1) E s
 self:∀(A:Around) (i:Nat) (s:Shared) (Q:Value->Shared->Prop) (E:Value->Shared->Prop),tn i s.heap->Q (.ref it) s->wpAny (model P w) A (pyIter (.ref it)) Q E s
noncomputable abbrev TI:=St->Hp->(It->Hp->Prop)->Prop
noncomputable def PIE (X:Cx) (pins:List (Addr×Obj)) (σ:St) (tg:Expr) (R:It->Hp->Prop) (itv:Value) (s2:Shared):Prop:=
 ∃(it:Addr) (fp:List Addr) (tn:Nat->Heap->Prop) (J:It) (H':Hp),itv=.ref it/\Inv X pins σ H' s2/\Turn X.prog X.w X.K tg J fp it tn/\tn 0 s2.heap/\(∀b∈fp,Hc X pins H' b)/\R J H'
noncomputable def PI (X:Cx) (tg iter:Expr) (wi:TI):Prop:=
 ∀(pins:List (Addr×Obj)) (s:Shared) (σ:St) (H:Hp) (R:It->Hp->Prop),Inv X pins σ H s->wi σ H R->
  wpAny (model X.prog X.w) X.A (eval iter X.env) (fun v s1=>wpAny (model X.prog X.w) X.A (pyIter v) (PIE X pins σ tg R) X.xe s1) X.xe s
theorem Ko {M:Model} {A:Around} {E:Value->Shared->Prop} {s:Shared} {tg:Expr} {it:Addr} {u:Value} {o:Obj} {n:String} {vs:Array Value} {Q:Unit->Shared->Prop} (ho:s.heap.get? it=some o) (hc:o.cls=.type n) (hd:o.data=.fields vs)
  (hn:["enumerate", "zip", "dict_itemiterator", "dict_reverseitemiterator", "odict_iterator", "itertools.zip_longest", "itertools.pairwise"].contains n=false) (hQ:Q () s):wpAny M A (letOwnedTupleGo tg (.ref it) u) Q E s:=by
 unfold letOwnedTupleGo
 cases tg <;> first
  | exact wpAny_pure hQ
  | (cases u <;> first
    | exact wpAny_pure hQ
    | (refine wpAny_bind (wpAny_load ho ?_)
       rw [hc,hd]
       show wpAny M A (if (["enumerate", "zip", "dict_itemiterator", "dict_reverseitemiterator", "odict_iterator", "itertools.zip_longest", "itertools.pairwise"].contains n && vs[0]? == some (rawInt _))=true then _ else _) Q E s
       rw [if_neg (by intro h;rw [hn,Bool.false_and] at h;cases h)]
       exact wpAny_pure hQ))
noncomputable def Xb (K:PySem.W.Frag) (a:Addr):It:=
 ⟨fun i H=>∃xs x,bF K H a xs/\xs[i]?=some x,fun i H x H'=>H'=H/\∀xs,bF K H a xs->xs[i]?=some x,fun i H=>∃xs,bF K H a xs/\xs.length<=i⟩
noncomputable def Xk (K:PySem.W.Frag) (a:Addr):It:=
 ⟨fun i H=>∃xs x,eN K H a xs/\xs[i]?=some x,fun i H x H'=>H'=H/\∀xs,eN K H a xs->xs[i]?=some x,fun i H=>∃xs,eN K H a xs/\xs.length<=i⟩
noncomputable def Wi (lo:Int) (n:Nat):It:=⟨fun i _=>i <n,fun i H x H'=>H'=H/\x=.int (lo+i),fun i _=>n<=i⟩
theorem Ow {P:Program} {w:World} {K:PySem.W.Frag} {tg:Expr} (a it:Addr):Turn P w K tg (Xb K a) [it] it (fun i h=>h.IsListIter it a i) where
 mem:=by simp
 obj:=fun i h st b hb=>by
  have e:b=it:=by simpa using hb
  subst e
  obtain⟨o,e,c,d⟩:=st
  exact⟨o,e,fun v z=>by rw [d] at z;cases z⟩
 keep:=fun i h h' st k=>st.at fun o e=>k it (by simp) o e
 item:=by
  intro X hP hw hK hc i pins s σ H E I hf st hg
  subst hP hw hK
  obtain⟨xs,x,hq,hx⟩:=hg
  obtain⟨its,rv,p,hz⟩:=I.list hq
  obtain⟨u,hu,ru⟩:=rv.get hx
  obtain⟨f0,f1,f2,f3,f4,f5⟩:=hf it (by simp)
  refine wpAny_pyNext_list_item st p.isList (x:=u) (by simpa using hu) fun h' st' sb=>?_
  have I1:Inv X pins σ H { s with heap:=h' }:=I.turned (t':=s.toks) (fun b o hb e=>(sb.2 b hb).trans e) f0 f1 f3 f4 f5
  obtain⟨o,e,c,d⟩:=id st'
  exact⟨u,rfl,Ko (s:={ s with heap:=h' }) e c d (by decide) ⟨x,H,I1,ru,⟨rfl,fun ys hy=>by rw [I.list_inj hy hq];exact hx⟩,st',fun b hb=>(hf b hb).1⟩⟩
 done:=by
  intro X hP hw hK hc i pins s σ H E I hf st hg
  subst hP hw hK
  obtain⟨xs,hq,hx⟩:=hg
  obtain⟨its,rv,p,hz⟩:=I.list hq
  obtain⟨f0,f1,f2,f3,f4,f5⟩:=hf it (by simp)
  have hl:=rv.length
  exact wpAny_pyNext_list_end (I.ok.hd hc) st p.isList (by simp;omega) fun h' eb=>⟨rfl,I.turned (t':=s.toks) (fun b o hb e=>eb b o hb e) f0 f1 f3 f4 f5⟩
 self:=fun _ _ _ _ _ st h=>wpAny_pyIter_listiter st h
theorem LC {P:Program} {w:World} {K:PySem.W.Frag} {tg:Expr} (a it:Addr):Turn P w K tg (Xk K a) [it] it (fun i h=>h.IsTupleIter it a i) where
 mem:=by simp
 obj:=fun i h st b hb=>by
  have e:b=it:=by simpa using hb
  subst e
  obtain⟨o,e,c,d⟩:=st
  exact⟨o,e,fun v z=>by rw [d] at z;cases z⟩
 keep:=fun i h h' st k=>st.at fun o e=>k it (by simp) o e
 item:=by
  intro X hP hw hK hc i pins s σ H E I hf st hg
  subst hP hw hK
  obtain⟨xs,x,hq,hx⟩:=hg
  obtain⟨its,rv,p,hz⟩:=I.tuple hq
  obtain⟨u,hu,ru⟩:=rv.get hx
  obtain⟨f0,f1,f2,f3,f4,f5⟩:=hf it (by simp)
  refine wpAny_pyNext_tuple_item st (show s.heap.IsTuple a its.toArray from p) (x:=u) (by simpa using hu) fun h' st' sb=>?_
  have I1:Inv X pins σ H { s with heap:=h' }:=I.turned (t':=s.toks) (fun b o hb e=>(sb.2 b hb).trans e) f0 f1 f3 f4 f5
  obtain⟨o,e,c,d⟩:=id st'
  exact⟨u,rfl,Ko (s:={ s with heap:=h' }) e c d (by decide) ⟨x,H,I1,ru,⟨rfl,fun ys hy=>by rw [I.tuple_inj hy hq];exact hx⟩,st',fun b hb=>(hf b hb).1⟩⟩
 done:=by
  intro X hP hw hK hc i pins s σ H E I hf st hg
  subst hP hw hK
  obtain⟨xs,hq,hx⟩:=hg
  obtain⟨its,rv,p,hz⟩:=I.tuple hq
  obtain⟨f0,f1,f2,f3,f4,f5⟩:=hf it (by simp)
  have hl:=rv.length
  exact wpAny_pyNext_tuple_end (I.ok.hd hc) st (show s.heap.IsTuple a its.toArray from p) (by simp;omega) fun h' eb=>⟨rfl,I.turned (t':=s.toks) (fun b o hb e=>eb b o hb e) f0 f1 f3 f4 f5⟩
 self:=fun _ _ _ _ _ st h=>wpAny_pyIter_tupleiter st h
theorem Li {P:Program} {w:World} {K:PySem.W.Frag} {tg:Expr} (it:Addr) (lo:Int) (n:Nat):Turn P w K tg (Wi lo n) [it] it (fun i h=>IsRangeIter h it (lo+(i:Nat) * 1) ((n:Int) - (i:Nat)) 1) where
 mem:=by simp
 obj:=fun i h st b hb=>by
  have e:b=it:=by simpa using hb
  subst e
  exact⟨_,st,fun v z=>by
   have z':Data.fields _=Data.cell v:=z
   cases z'⟩
 keep:=fun i h h' st k=>k it (by simp) _ st
 item:=by
  intro X hP hw hK hc i pins s σ H E I hf st hg
  subst hP hw hK
  obtain⟨f0,f1,f2,f3,f4,f5⟩:=hf it (by simp)
  have W:=Walks.range (prog:=X.prog) (w:=X.w) (I.ok.hd hc) it lo 1 n
  refine W.item i s _ _ hg st fun v h' tk hv st' kk=>?_
  obtain⟨t,rfl⟩:=hv
  have I1:Inv X pins σ H { s with heap:=h',toks:=tk }:=I.turned (fun b o hb e=>kk b o (by simpa using hb) e) f0 f1 f3 f4 f5
  refine⟨_,rfl,Ko (s:={ s with heap:=h',toks:=tk }) (n:= "range_iterator") st' rfl rfl (by decide) ⟨.int (lo+i),H,I1,⟨t,?_⟩,⟨rfl,rfl⟩,st',fun b hb=>(hf b hb).1⟩⟩
  rw [Int.mul_one]
 done:=by
  intro X hP hw hK hc i pins s σ H E I hf st hg
  subst hP hw hK
  obtain⟨f0,f1,f2,f3,f4,f5⟩:=hf it (by simp)
  exact wpAny_pyNext_range_end (I.ok.hd hc) st (by have:n<=i:=hg;omega) fun h' eb=>⟨rfl,I.turned (t':=s.toks) (fun b o hb e=>eb b o hb e) f0 f1 f3 f4 f5⟩
 self:=fun _ _ _ _ _ st h=>wpAny_pyIter_rangeiter st h
section
variable {X:Cx} {tg:Expr}
inductive Rp (K:PySem.W.Frag) (R:It->Hp->Prop) (x:V) (H1:Hp):Prop where
 | mk:∀a,x=.ref a->((∃xs,bF K H1 a xs))->R (Xb K a) H1->Rp K R x H1
noncomputable def Ve (K:PySem.W.Frag) (tl:TE):TI:=fun σ H R=>tl σ H fun x H1=>Rp K R x H1
inductive VP (K:PySem.W.Frag) (R:It->Hp->Prop) (x:V) (H1:Hp):Prop where
 | mk:∀a,x=.ref a->((∃xs,eN K H1 a xs))->R (Xk K a) H1->VP K R x H1
noncomputable def Xq (K:PySem.W.Frag) (tl:TE):TI:=fun σ H R=>tl σ H fun x H1=>VP K R x H1
theorem bM {l:Expr} {tl:TE} (hl:PE X l tl):PI X tg l (Ve X.K tl):=by
 intro pins s σ H R I h
 refine dH (hl pins s σ H _ I h) fun v s1 hpt=>?_
 obtain⟨x,H1,I1,r1,q1⟩:=hpt
 obtain⟨a,e,⟨xs,hq⟩,q⟩:=q1
 subst e
 cases r1
 obtain⟨its,rv,p,hz⟩:=I1.list hq
 refine wpAny_pyIter_list p.isList ?_
 refine⟨s1.heap.objs.size,[s1.heap.objs.size],_,_,H1,rfl,I1.kept (t':=s1.toks) fun b o e=>Heap.get?_push_of_some _ e,Ow a _,⟨_,Heap.get?_push_size _ rfl,rfl,rfl⟩,fun b hb=>?_,q⟩
 have e:b=s1.heap.objs.size:=by simpa using hb
 subst e
 exact I1.fpOk (Nat.le_refl _) (I1.hok.fresh (Nat.le_refl _))
theorem Je {l:Expr} {tl:TE} (hl:PE X l tl):PI X tg l (Xq X.K tl):=by
 intro pins s σ H R I h
 refine dH (hl pins s σ H _ I h) fun v s1 hpt=>?_
 obtain⟨x,H1,I1,r1,q1⟩:=hpt
 obtain⟨a,e,⟨xs,hq⟩,q⟩:=q1
 subst e
 cases r1
 obtain⟨its,rv,p,hz⟩:=I1.tuple hq
 refine wpAny_pyIter_tuple (show s1.heap.IsTuple a its.toArray from p) ?_
 refine⟨s1.heap.objs.size,[s1.heap.objs.size],_,_,H1,rfl,I1.kept (t':=s1.toks) fun b o e=>Heap.get?_push_of_some _ e,LC a _,⟨_,Heap.get?_push_size _ rfl,rfl,rfl⟩,fun b hb=>?_,q⟩
 have e:b=s1.heap.objs.size:=by simpa using hb
 subst e
 exact I1.fpOk (Nat.le_refl _) (I1.hok.fresh (Nat.le_refl _))
theorem Q6 {pins:List (Addr×Obj)} {σ:St} {H:Hp} {s:Shared} {R:It->Hp->Prop} {E:Value->Shared->Prop} {lo hi:Int} {t u v:Tok} {tk:Nat} (I:Inv X pins σ H s) (h1: -(2 ^ 62)<=lo) (h2:lo <2 ^ 62) (h3: -(2 ^ 62)<=hi) (h4:hi <2 ^ 62)
  (q:R (Wi lo (hi - lo).toNat) H):wpAny (model X.prog X.w) X.A (pyIter (.ref s.heap.objs.size)) (PIE X pins σ tg R) E { s with heap:=s.heap.push { cls:=.type "range",data:=.fields #[.int lo t,.int hi u,.int 1 v] },toks:=tk }:=by
 refine wpAny_pyIter_range (IsRange.new ..) (small_one h1 h2 h3 h4) ?_
 have I1:Inv X pins σ H { s with heap:=s.heap.push { cls:=.type "range",data:=.fields #[.int lo t,.int hi u,.int 1 v] },toks:=tk }:=I.kept fun b o e=>Heap.get?_push_of_some _ e
 refine⟨(s.heap.push { cls:=.type "range",data:=.fields #[.int lo t,.int hi u,.int 1 v] }).objs.size,[(s.heap.push { cls:=.type "range",data:=.fields #[.int lo t,.int hi u,.int 1 v] }).objs.size],_,_,H,rfl,
  I1.kept (t':=tk) fun b o e=>Heap.get?_push_of_some _ e,Li _ lo (hi - lo).toNat,?_,fun b hb=>?_,q⟩
 ·have e1:lo+((0:Nat):Int) * 1=lo:=by simp
  have e2:(((hi - lo).toNat:Nat):Int) - ((0:Nat):Int)=Builtin.Range.rangeSize lo hi 1:=by rw [rangeSize_one];split <;> omega
  show IsRangeIter _ _ (lo+((0:Nat):Int) * 1) ((((hi - lo).toNat:Nat):Int) - ((0:Nat):Int)) 1
  rw [e1,e2]
  exact Heap.get?_push_size _ rfl
 ·have e:b=(s.heap.push { cls:=.type "range",data:=.fields #[.int lo t,.int hi u,.int 1 v] }).objs.size:=by simpa using hb
  subst e
  exact I1.fpOk (Nat.le_refl _) (I1.hok.fresh (Nat.le_refl _))
inductive QK (R:It->Hp->Prop) (vs:List V) (H1:Hp):Prop where
 | mk:∀j:Int,vs=[.int j]-> -(2 ^ 62)<=j->j <2 ^ 62->R (Wi 0 j.toNat) H1->QK R vs H1
noncomputable def Xv (ta:TA):TI:=fun σ H R=>ta σ H fun vs H1=>QK R vs H1
theorem jc {a:Expr} {ta:TA} {p pos:Pos} (hg:Gl X "range") (hm:X.mg "range" =none) (ha:PA X [a] ta) (hs:starEach [a] X.env=[(false,eval a X.env)]:=by rfl):PI X tg (.Call (.Name "range" p) [a] [] pos) (Xv ta):=by
 intro pins s σ H R I h
 refine Call_ (HJ I hg hm boot_range (PyProof.Rows.callWith_type1 (dH (ha pos pins s σ H _ I h) fun us s1 ⟨vs,H1,I1,r1,q1⟩=>?_) hs rfl))
 obtain⟨j,e,q1,q2,q⟩:=q1
 subst e
 cases r1 with
 | cons r rr=>
  cases rr
  obtain⟨t,rfl⟩:=r
  exact call_range_1 (Q6 I1 (by omega) (by omega) q1 q2 (by simpa using q))
noncomputable def ZM (wi:TI) (g:TG) (tb:TS):TS:=fun D σ H=>wi σ H fun J H1=>∃W:Nat->Nat->St->Hp->Prop,(∃m,W 0 m σ H1)/\∀i m σ H,W i m σ H->
 (J.stop i H/\D.nx σ H)∨(J.go i H/\∃N:St->Hp->Prop,(∀σ' H',N σ' H'->∃m',m' <m/\W (i+1) m' σ' H')/\∀x H',J.yld i H x H'->g x σ H' fun σ2 H2=>tb { D with nx:=N,ct:=N,bk:=D.nx } σ2 H2)
noncomputable def Ib (fp:List Addr) (h:Heap):List (Addr×Obj):=fp.filterMap fun b=>(h.get? b).map fun o=>(b,o)
theorem rM {fp:List Addr} {h:Heap} {b:Addr} {o:Obj} (hb:b∈fp) (e:h.get? b=some o):(b,o)∈Ib fp h:=List.mem_filterMap.mpr ⟨b,hb,by rw [e];rfl⟩
theorem Pz {fp:List Addr} {h:Heap} {p:Addr×Obj} (hp:p∈Ib fp h):p.1∈fp/\h.get? p.1=some p.2:=by
 obtain⟨b,hb,e⟩:=List.mem_filterMap.mp hp
 cases q:h.get? b with
 | none=>rw [q] at e;cases e
 | some o=>
  rw [q] at e
  have e':(b,o)=p:=Option.some.inj e
  subst e'
  exact⟨hb,q⟩
theorem Inv.pinned {pins:List (Addr×Obj)} {σ:St} {H:Hp} {s:Shared} {fp:List Addr} (I:Inv X pins σ H s) (hf:∀b∈fp,Hc X pins H b) (ho:∀b∈fp,∃o,s.heap.get? b=some o/\∀v,o.data≠.cell v):Inv X (pins ++ Ib fp s.heap) σ H s:=
 I.pins_of fun p hp=>(List.mem_append.mp hp).elim (fun z=>I.pin p (List.mem_append_right _ z)) fun z=>by
  obtain⟨hb,e⟩:=Pz z
  obtain⟨f0,f1,f2,_⟩:=hf p.1 hb
  obtain⟨o,e',d⟩:=ho p.1 hb
  rw [e] at e';cases e'
  exact⟨e,f0,f1,f2,d⟩
theorem Inv.unpinned {pins pl:List (Addr×Obj)} {σ:St} {H:Hp} {s:Shared} (I:Inv X (pins ++ pl) σ H s):Inv X pins σ H s:=I.pins_of fun p hp=>I.pin p (List.mem_append_right _ (List.mem_append_left _ hp))
theorem dG {iter:Expr} {body:List Stmt} {wi:TI} {g:TG} {tb:TS} {pos:Pos} (hp:PassesOwn (model X.prog X.w) X.A X.env X.xe) (hc:X.calm=true) (hi:PI X tg iter wi) (hg:PG X tg g) (hb:Ng X body tb)
  (hs:∀x,foldedSetIterable iter X.env x=pure x:=by intro _;rfl):PS X (.For tg iter body [] pos) (ZM wi g tb):=by
 intro pins s σ H D I h
 refine wpAny_For (dH (hi pins s σ H _ I h) fun v s1 h1=>dH h1 fun itv s2 h2=>?_) hs
 obtain⟨it,fp,tn,J,H2,e,I2,T,st2,f2,W,⟨m0,w0⟩,turn⟩:=h2
 subst e
 have stat:∀{H':Hp},(∀b∈fp,H' b=none)->∀b∈fp,Hc X pins H' b:=fun hn b hb=>⟨hn b hb,(f2 b hb).2⟩
 refine codeAny_forLoop_any (fun n s'=>∃i σ' H',Inv X pins σ' H' s'/\tn i s'.heap/\(∀b∈fp,H' b=none)/\W i n σ' H') ?_ m0 ⟨0,σ,H2,I2,st2,fun b hb=>(f2 b hb).1,w0⟩
 rintro n s3 ⟨i,σ3,H3,I3,st3,fr3,w3⟩
 rcases turn i n σ3 H3 w3 with ⟨stop,qn⟩ | ⟨go,N,hN,step⟩
 ·refine wpAny_passesOwn hp (dH (T.done X rfl rfl rfl hc i pins s3 σ3 H3 X.xe I3 (stat fr3) st3 stop) fun r s4 hpt=>?_)
  obtain⟨hr,I4⟩:=hpt
  subst hr
  exact wpAny_execs_nil ⟨σ3,H3,I4,qn⟩
 ·refine wpAny_passesOwn hp (dH (T.item X rfl rfl rfl hc i pins s3 σ3 H3 X.xe I3 (stat fr3) st3 go) fun r s4 hpt=>?_)
  obtain⟨u,hr,h4⟩:=hpt
  subst hr
  refine wpAny_passesOwn hp (dH h4 fun _ s5 hpt=>?_)
  obtain⟨x,H5,I5,r5,y5,st5,fr5⟩:=hpt
  have I5':=I5.pinned (stat fr5) (T.obj _ _ st5)
  refine wpAny_passesOwn hp (dH (hg _ s5 σ3 H5 x u _ I5' r5 (step x H5 y5)) fun _ s6 hpt=>?_)
  obtain⟨σ6,H6,I6,q6⟩:=hpt
  refine wpAny_passesOwn hp (dH (hb _ s6 σ6 H6 _ I6 q6) fun f s7 q7=>?_)
  have again:∀{σ7:St} {H7:Hp},Inv X (pins ++ Ib fp s5.heap) σ7 H7 s7->N σ7 H7->∃m,m <n/\∃i σ' H',Inv X pins σ' H' s7/\tn i s7.heap/\(∀b∈fp,H' b=none)/\W i m σ' H':=fun {σ7 H7} I7 n7=>by
   obtain⟨m',hm,w7⟩:=hN σ7 H7 n7
   refine⟨m',hm,i+1,σ7,H7,I7.unpinned,T.keep _ _ _ st5 fun b hb o e=>(I7.pin (b,o) (List.mem_append_right _ (List.mem_append_right _ (rM hb e)))).1,fun b hb=>?_,w7⟩
   obtain⟨o,e,d⟩:=T.obj _ _ st5 b hb
   exact(I7.pin (b,o) (List.mem_append_right _ (List.mem_append_right _ (rM hb e)))).2.1
  cases f with
  | next=>obtain⟨σ7,H7,I7,n7⟩:=q7;exact again I7 n7
  | cont=>obtain⟨σ7,H7,I7,n7⟩:=q7;exact again I7 n7
  | brk=>obtain⟨σ7,H7,I7,q7⟩:=q7;exact⟨σ7,H7,I7.unpinned,q7⟩
  | ret v=>obtain⟨x7,σ7,H7,I7,r7,q7⟩:=q7;exact⟨x7,σ7,H7,I7.unpinned,r7,q7⟩
end
theorem cX {K:PySem.W.Frag} {a:Addr} {xs:List V} {g:TG} {tb:TS} {D:Ends} {σ:St} {H:Hp} (Pv:Nat->St->Hp->Prop) (h0:Pv 0 σ H) (hl:∀i σ H,i<=xs.length->Pv i σ H->bF K H a xs)
  (hs:∀i x σ H,xs[i]?=some x->Pv i σ H->g x σ H fun σ2 H2=>tb { D with nx:=Pv (i+1),ct:=Pv (i+1),bk:=D.nx } σ2 H2) (hd:∀σ H,Pv xs.length σ H->D.nx σ H):
  ∃W:Nat->Nat->St->Hp->Prop,(∃m,W 0 m σ H)/\∀i m σ H,W i m σ H->
   ((Xb K a).stop i H/\D.nx σ H)∨((Xb K a).go i H/\∃N:St->Hp->Prop,(∀σ' H',N σ' H'->∃m',m' <m/\W (i+1) m' σ' H')/\∀x H',(Xb K a).yld i H x H'->g x σ H' fun σ2 H2=>tb { D with nx:=N,ct:=N,bk:=D.nx } σ2 H2):=by
 refine⟨fun i m σ H=>m=xs.length - i/\i<=xs.length/\Pv i σ H,⟨xs.length,by simp,Nat.zero_le _,h0⟩,?_⟩
 rintro i m σ H ⟨rfl,hi,p⟩
 have q:=hl i σ H hi p
 by_cases hlt:i <xs.length
 ·refine .inr ⟨⟨xs,xs[i],q,by simp [hlt]⟩,Pv (i+1),fun σ' H' p'=>⟨xs.length - (i+1),by omega,rfl,hlt,p'⟩,fun x H' y=>?_⟩
  obtain⟨e,y⟩:=y
  subst e
  exact hs i x σ _ (y xs q) p
 ·have e:i=xs.length:=by omega
  subst e
  exact .inl ⟨⟨xs,q,Nat.le_refl _⟩,hd σ H p⟩
theorem Up {K:PySem.W.Frag} {a:Addr} {xs:List V} {g:TG} {tb:TS} {D:Ends} {σ:St} {H:Hp} (Pv:Nat->St->Hp->Prop) (h0:Pv 0 σ H) (hl:∀i σ H,i<=xs.length->Pv i σ H->eN K H a xs)
  (hs:∀i x σ H,xs[i]?=some x->Pv i σ H->g x σ H fun σ2 H2=>tb { D with nx:=Pv (i+1),ct:=Pv (i+1),bk:=D.nx } σ2 H2) (hd:∀σ H,Pv xs.length σ H->D.nx σ H):
  ∃W:Nat->Nat->St->Hp->Prop,(∃m,W 0 m σ H)/\∀i m σ H,W i m σ H->
   ((Xk K a).stop i H/\D.nx σ H)∨((Xk K a).go i H/\∃N:St->Hp->Prop,(∀σ' H',N σ' H'->∃m',m' <m/\W (i+1) m' σ' H')/\∀x H',(Xk K a).yld i H x H'->g x σ H' fun σ2 H2=>tb { D with nx:=N,ct:=N,bk:=D.nx } σ2 H2):=by
 refine⟨fun i m σ H=>m=xs.length - i/\i<=xs.length/\Pv i σ H,⟨xs.length,by simp,Nat.zero_le _,h0⟩,?_⟩
 rintro i m σ H ⟨rfl,hi,p⟩
 have q:=hl i σ H hi p
 by_cases hlt:i <xs.length
 ·refine .inr ⟨⟨xs,xs[i],q,by simp [hlt]⟩,Pv (i+1),fun σ' H' p'=>⟨xs.length - (i+1),by omega,rfl,hlt,p'⟩,fun x H' y=>?_⟩
  obtain⟨e,y⟩:=y
  subst e
  exact hs i x σ _ (y xs q) p
 ·have e:i=xs.length:=by omega
  subst e
  exact .inl ⟨⟨xs,q,Nat.le_refl _⟩,hd σ H p⟩
theorem GK {lo:Int} {n:Nat} {g:TG} {tb:TS} {D:Ends} {σ:St} {H:Hp} (Pv:Nat->St->Hp->Prop) (h0:Pv 0 σ H)
  (hs:∀i σ H,i <n->Pv i σ H->g (.int (lo+i)) σ H fun σ2 H2=>tb { D with nx:=Pv (i+1),ct:=Pv (i+1),bk:=D.nx } σ2 H2) (hd:∀σ H,Pv n σ H->D.nx σ H):
  ∃W:Nat->Nat->St->Hp->Prop,(∃m,W 0 m σ H)/\∀i m σ H,W i m σ H->
   ((Wi lo n).stop i H/\D.nx σ H)∨((Wi lo n).go i H/\∃N:St->Hp->Prop,(∀σ' H',N σ' H'->∃m',m' <m/\W (i+1) m' σ' H')/\∀x H',(Wi lo n).yld i H x H'->g x σ H' fun σ2 H2=>tb { D with nx:=N,ct:=N,bk:=D.nx } σ2 H2):=by
 refine⟨fun i m σ H=>m=n - i/\i<=n/\Pv i σ H,⟨n,by simp,Nat.zero_le _,h0⟩,?_⟩
 rintro i m σ H ⟨rfl,hi,p⟩
 by_cases hlt:i <n
 ·refine .inr ⟨hlt,Pv (i+1),fun σ' H' p'=>⟨n - (i+1),by omega,rfl,hlt,p'⟩,fun x H' y=>?_⟩
  obtain⟨e,y⟩:=y
  subst e y
  exact hs i σ _ hlt p
 ·have e:i=n:=by omega
  subst e
  exact .inl ⟨Nat.le_refl _,hd σ H p⟩
theorem qI {c:TT} {tb:TS} {D:Ends} {σ:St} {H:Hp} (Pv:St->Hp->Prop) (μ:St->Hp->Nat) (h0:Pv σ H)
  (hs:∀σ H,Pv σ H->c σ H fun b H1=>if b=true then tb { D with nx:=fun σ' H'=>Pv σ' H'/\μ σ' H' <μ σ H,ct:=fun σ' H'=>Pv σ' H'/\μ σ' H' <μ σ H,bk:=D.nx } σ H1 else D.nx σ H1)
  (mono:∀σ H Q Q',(∀b H1,Q b H1->Q' b H1)->c σ H Q->c σ H Q'):RT c tb D σ H:=by
 refine⟨fun m σ H=>m=μ σ H/\Pv σ H,⟨_,rfl,h0⟩,?_⟩
 rintro m σ H ⟨rfl,p⟩
 refine mono σ H _ _ (fun b H1 q=>?_) (hs σ H p)
 cases b with
 | true=>exact⟨_,fun σ' H' ⟨p',l⟩=>⟨_,l,rfl,p'⟩,q⟩
 | false=>exact q
noncomputable abbrev R2:=V->V->Hp->VK->Prop
noncomputable def wH (X:Cx) (f:Value->Value->Sem Value) (r:R2):Prop:=
 ∀(pins:List (Addr×Obj)) (s:Shared) (σ:St) (H:Hp) (x y:V) (v u:Value) (Q:VK),Inv X pins σ H s->RelV x v->RelV y u->r x y H Q->
  wpAny (model X.prog X.w) X.A (f v u) (EP X pins σ Q) X.xe s
noncomputable def jY (X:Cx) (f:Value) (r:List V->Hp->VK->Prop):Prop:=
 ∀(pins:List (Addr×Obj)) (s:Shared) (σ:St) (H:Hp) (xs:List V) (us:List Value) (Q:VK),Inv X pins σ H s->Vals xs us->r xs H Q->
  wpAny (model X.prog X.w) X.A (call f us) (EP X pins σ Q) X.xe s
noncomputable def Rv (r:R2) (ta tb:TE):TE:=fun σ H Q=>ta σ H fun x H1=>tb σ H1 fun y H2=>r x y H2 Q
inductive Z2 (C:Int->Int->Prop) (g:Int->Int->V) (x:V) (y:V) (H:Hp) (Q:VK):Prop where
 | mk:∀i j,x=.int i->y=.int j->C i j->Q (g i j) H->Z2 C g x y H Q
noncomputable def rI (C:Int->Int->Prop) (g:Int->Int->V):R2:=fun x y H Q=>Z2 C g x y H Q
inductive Yc (g:Int->Int->V) (x:V) (y:V) (H:Hp) (Q:VK):Prop where
 | mk:∀i j,x=.int i->y=.int j->Q (g i j) H->Yc g x y H Q
noncomputable def Vb (g:Int->Int->V):R2:=fun x y H Q=>Yc g x y H Q
section
variable {X:Cx} {a b c:Expr} {ta tb tc:TE} {pos:Pos}
theorem Wh (ha:PE X a ta) (hb:PE X b tb) {pins:List (Addr×Obj)} {s:Shared} {σ:St} {H:Hp} {R:V->V->Hp->Prop} (I:Inv X pins σ H s)
  (h:ta σ H fun x H1=>tb σ H1 fun y H2=>R x y H2) {Q:Value->Shared->Prop} {f:Value->Value->Sem Value}
  (hf:∀v u s2 x y H2,Inv X pins σ H2 s2->RelV x v->RelV y u->R x y H2->wpAny (model X.prog X.w) X.A (f v u) Q X.xe s2):
  wpAny (model X.prog X.w) X.A (eval a X.env) (fun v s₁=>wpAny (model X.prog X.w) X.A (eval b X.env) (fun u s₂=>wpAny (model X.prog X.w) X.A (f v u) Q X.xe s₂) X.xe s₁) X.xe s:=by
 refine dH (ha pins s σ H _ I h) fun v s1 hpt=>?_
 obtain⟨x,H1,I1,r1,q1⟩:=hpt
 refine dH (hb pins s1 σ H1 _ I1 q1) fun u s2 hpt=>?_
 obtain⟨y,H2,I2,r2,q2⟩:=hpt
 exact hf v u s2 x y H2 I2 r1 r2 q2
theorem bx {op:Operator} {r:R2} (ho:wH X (binaryOp op) r) (ha:PE X a ta) (hb:PE X b tb):PE X (.BinOp a op b pos) (Rv r ta tb):=by
 intro pins s σ H Q I h
 exact wpAny_BinOp (Wh ha hb I h fun v u s2 x y H2 I2 rx ry q=>ho pins s2 σ H2 x y v u Q I2 rx ry q)
theorem Y9 {f:Value->Value->Sem Value} {C:Int->Int->Prop} {g:Int->Int->Int}
  (rule:∀(i j:Int) (t u:Tok) (s:Shared) (Q:Value->Shared->Prop) (E:Value->Shared->Prop),C i j->Q (.int (g i j) s.toks) { s with toks:=s.toks+1 }->wpAny (model X.prog X.w) X.A (f (.int i t) (.int j u)) Q E s):
  wH X f (rI C fun i j=>.int (g i j)):=by
 intro pins s σ H x y v u Q I rx ry h
 obtain⟨i,j,rfl,rfl,hc,q⟩:=h
 obtain⟨t,rfl⟩:=rx
 obtain⟨t',rfl⟩:=ry
 exact rule i j t t' s _ _ hc ⟨.int (g i j),H,I.tok _,⟨_,rfl⟩,q⟩
theorem Xf {f:Value->Value->Sem Value} {g:Int->Int->Int}
  (rule:∀(i j:Int) (t u:Tok) (s:Shared) (Q:Value->Shared->Prop) (E:Value->Shared->Prop),Q (.int (g i j) s.toks) { s with toks:=s.toks+1 }->wpAny (model X.prog X.w) X.A (f (.int i t) (.int j u)) Q E s):
  wH X f (Vb fun i j=>.int (g i j)):=by
 intro pins s σ H x y v u Q I rx ry h
 obtain⟨i,j,rfl,rfl,q⟩:=h
 obtain⟨t,rfl⟩:=rx
 obtain⟨t',rfl⟩:=ry
 exact rule i j t t' s _ _ ⟨.int (g i j),H,I.tok _,⟨_,rfl⟩,q⟩
theorem Uc {f:Value->Value->Sem Value} {g:Int->Int->Bool}
  (rule:∀(i j:Int) (t u:Tok) (s:Shared) (Q:Value->Shared->Prop) (E:Value->Shared->Prop),Q (.bool (g i j)) s->wpAny (model X.prog X.w) X.A (f (.int i t) (.int j u)) Q E s):
  wH X f (Vb fun i j=>.bl (g i j)):=by
 intro pins s σ H x y v u Q I rx ry h
 obtain⟨i,j,rfl,rfl,q⟩:=h
 obtain⟨t,rfl⟩:=rx
 obtain⟨t',rfl⟩:=ry
 exact rule i j t t' s _ _ ⟨.bl (g i j),H,I,rfl,q⟩
noncomputable def Zz (i j:Int):Prop:=0<=j/\j<=1000000/\i.natAbs <2 ^ 64
theorem dD:wH X (binaryOp .Add) (Vb fun i j=>.int (i+j)):=Xf fun _ _ _ _ _ _ _ q=>add_int q
theorem Ly:wH X (binaryOp .Sub) (Vb fun i j=>.int (i - j)):=Xf fun _ _ _ _ _ _ _ q=>sub_int q
theorem cj:wH X (binaryOp .Mod) (rI (fun _ j=>0 <j) fun i j=>.int (i % j)):=Y9 fun i j _ _ _ _ _ hc q=>by
 have h1:(0:Int) <j:=hc
 exact mod_int' (by omega) (by rw [Int.fmod_eq_emod_of_nonneg i (by omega)];exact q)
theorem RM:wH X (binaryOp .Pow) (rI Zz fun i j=>.int (i ^ j.toNat)):=Y9 fun _ _ _ _ _ _ _ hc q=>pow_int_small hc.1 hc.2.1 hc.2.2 q
theorem HS:wH X (inplaceOp .Add) (Vb fun i j=>.int (i+j)):=Xf fun _ _ _ _ _ _ _ q=>iadd_int q
end
noncomputable def Yb:V->V->Bool
 | .non,.non=>true | .non,.int _=>true | .int _,.non=>true | .non,.bl _=>true | .bl _,.non=>true | .non,.str _=>true | .str _,.non=>true
 | .int _,.int _=>true | .bl _,.bl _=>true | .str _,.str _=>true | .byt _,.byt _=>true
 | .int _,.str _=>true | .str _,.int _=>true | .bl _,.str _=>true | .str _,.bl _=>true
 | _,_=>false
noncomputable def rEq:R2:=fun x y H Q=>Yb x y=true/\Q (.bl (decide (x=y))) H
noncomputable def Zh:R2:=fun x y H Q=>Yb x y=true/\Q (.bl (!decide (x=y))) H
theorem MK {i j:Int}:decide (V.int i=V.int j)=(i == j):=by
 rw [Bool.eq_iff_iff]
 simp
theorem Ss {i j:Bool}:decide (V.bl i=V.bl j)=(i == j):=by
 rw [Bool.eq_iff_iff]
 simp
theorem NZ {i j:Str}:decide (V.str i=V.str j)=(i == j):=by
 rw [Bool.eq_iff_iff]
 simp
theorem Mz {i j:Array UInt8}:decide (V.byt i=V.byt j)=(i.toList == j.toList):=by
 rw [Bool.eq_iff_iff]
 cases i
 cases j
 simp
section
variable {X:Cx} {a b c:Expr} {ta tb tc:TE} {pos:Pos}
theorem cP {pins:List (Addr×Obj)} {σ:St} {H:Hp} {s:Shared} {Q:VK} {k k':Bool} (I:Inv X pins σ H s) (q:Q (.bl k) H) (e:k=k'):EP X pins σ Q (.bool k') s:=by
 subst e
 exact⟨.bl k,H,I,rfl,q⟩
theorem fL:wH X (compareOp .Eq) rEq:=by
 intro pins s σ H x y v u Q I rx ry h
 obtain⟨hs,q⟩:=h
 cases x with
 | non=>
  cases rx
  cases y with
  | non=>cases ry;exact PySem.EqNone.eq_none_none (cP I q (by simp))
  | bl j=>cases ry;exact PySem.EqNone.eq_none_bool (cP I q (by simp))
  | int j=>obtain⟨t',rfl⟩:=ry;exact PySem.EqNone.eq_none_int (cP I q (by simp))
  | str j=>obtain⟨t',rfl⟩:=ry;exact PySem.EqNone.eq_none_str (cP I q (by simp))
  | _=>exact absurd (show false=true from hs) Bool.false_ne_true
 | bl i=>
  cases rx
  cases y with
  | non=>cases ry;exact PySem.EqNone.eq_bool_none (cP I q (by simp))
  | bl j=>cases ry;exact eq_bool (cP I q Ss)
  | str j=>obtain⟨t',rfl⟩:=ry;exact PySem.EqMixed.eq_bool_str (cP I q (by simp))
  | _=>exact absurd (show false=true from hs) Bool.false_ne_true
 | int i=>
  obtain⟨t,rfl⟩:=rx
  cases y with
  | non=>cases ry;exact PySem.EqNone.eq_int_none (cP I q (by simp))
  | int j=>obtain⟨t',rfl⟩:=ry;exact eq_int (cP I q MK)
  | str j=>obtain⟨t',rfl⟩:=ry;exact PySem.EqMixed.eq_int_str (cP I q (by simp))
  | _=>exact absurd (show false=true from hs) Bool.false_ne_true
 | str i=>
  obtain⟨t,rfl⟩:=rx
  cases y with
  | non=>cases ry;exact PySem.EqNone.eq_str_none (cP I q (by simp))
  | bl j=>cases ry;exact PySem.EqMixed.eq_str_bool (cP I q (by simp))
  | int j=>obtain⟨t',rfl⟩:=ry;exact PySem.EqMixed.eq_str_int (cP I q (by simp))
  | str j=>obtain⟨t',rfl⟩:=ry;exact eq_str (cP I q NZ)
  | _=>exact absurd (show false=true from hs) Bool.false_ne_true
 | byt i=>
  obtain⟨t,rfl⟩:=rx
  cases y with
  | byt j=>obtain⟨t',rfl⟩:=ry;exact PySem.W.eq_bytes (cP I q Mz)
  | _=>exact absurd (show false=true from hs) Bool.false_ne_true
 | _=>cases y <;> exact absurd (show false=true from hs) Bool.false_ne_true
theorem DG:wH X (compareOp .NotEq) Zh:=by
 intro pins s σ H x y v u Q I rx ry h
 obtain⟨hs,q⟩:=h
 cases x with
 | non=>
  cases rx
  cases y with
  | non=>cases ry;exact PySem.EqNone.ne_none_none (cP I q (by simp))
  | bl j=>cases ry;exact PySem.EqNone.ne_none_bool (cP I q (by simp))
  | int j=>obtain⟨t',rfl⟩:=ry;exact PySem.EqNone.ne_none_int (cP I q (by simp))
  | str j=>obtain⟨t',rfl⟩:=ry;exact PySem.EqNone.ne_none_str (cP I q (by simp))
  | _=>exact absurd (show false=true from hs) Bool.false_ne_true
 | bl i=>
  cases rx
  cases y with
  | non=>cases ry;exact PySem.EqNone.ne_bool_none (cP I q (by simp))
  | bl j=>cases ry;exact ne_bool (cP I q (congrArg not Ss))
  | str j=>obtain⟨t',rfl⟩:=ry;exact PySem.EqMixed.ne_bool_str (cP I q (by simp))
  | _=>exact absurd (show false=true from hs) Bool.false_ne_true
 | int i=>
  obtain⟨t,rfl⟩:=rx
  cases y with
  | non=>cases ry;exact PySem.EqNone.ne_int_none (cP I q (by simp))
  | int j=>obtain⟨t',rfl⟩:=ry;exact ne_int (cP I q (congrArg not MK))
  | str j=>obtain⟨t',rfl⟩:=ry;exact PySem.EqMixed.ne_int_str (cP I q (by simp))
  | _=>exact absurd (show false=true from hs) Bool.false_ne_true
 | str i=>
  obtain⟨t,rfl⟩:=rx
  cases y with
  | non=>cases ry;exact PySem.EqNone.ne_str_none (cP I q (by simp))
  | bl j=>cases ry;exact PySem.EqMixed.ne_str_bool (cP I q (by simp))
  | int j=>obtain⟨t',rfl⟩:=ry;exact PySem.EqMixed.ne_str_int (cP I q (by simp))
  | str j=>obtain⟨t',rfl⟩:=ry;exact ne_str (cP I q (congrArg not NZ))
  | _=>exact absurd (show false=true from hs) Bool.false_ne_true
 | byt i=>
  obtain⟨t,rfl⟩:=rx
  cases y with
  | byt j=>obtain⟨t',rfl⟩:=ry;exact PySem.W.ne_bytes (cP I q (congrArg not Mz))
  | _=>exact absurd (show false=true from hs) Bool.false_ne_true
 | _=>cases y <;> exact absurd (show false=true from hs) Bool.false_ne_true
theorem yr:wH X (compareOp .Lt) (Vb fun i j=>.bl (decide (i <j))):=Uc fun _ _ _ _ _ _ _ q=>lt_int q
theorem vY:wH X (compareOp .LtE) (Vb fun i j=>.bl (decide (i<=j))):=Uc fun _ _ _ _ _ _ _ q=>le_int q
theorem Gs:wH X (compareOp .Gt) (Vb fun i j=>.bl (decide (j <i))):=Uc fun _ _ _ _ _ _ _ q=>gt_int q
theorem YL:wH X (compareOp .GtE) (Vb fun i j=>.bl (decide (j<=i))):=Uc fun _ _ _ _ _ _ _ q=>ge_int q
theorem zF:wH X (compareOp .In) (fun x y H Q=>∃i j,x=.str i/\y=.str j/\Q (.bl (!(Builtin.Str.occurrences j i 0 j.length 1).isEmpty)) H):=by
 intro pins s σ H x y v u Q I rx ry h
 obtain⟨i,j,rfl,rfl,q⟩:=h
 obtain⟨t,rfl⟩:=rx
 obtain⟨t',rfl⟩:=ry
 exact in_str (cP I q rfl)
theorem bI (b:Expr) {op:CmpOp} (h:op≠.In:=by decide) (h2:op≠.NotIn:=by decide):behindInMarks op b=false:=by
 have e1:(op == CmpOp.In)=false:=by cases op <;> first | rfl | exact absurd rfl h
 have e2:(op == CmpOp.NotIn)=false:=by cases op <;> first | rfl | exact absurd rfl h2
 cases b <;> simp [behindInMarks,e1,e2]
theorem rY {op:CmpOp} {r:R2} (ho:wH X (compareOp op) r) (ha:PE X a ta) (hb:PE X b tb) (hm:behindInMarks op b=false):PE X (.Compare a [op] [b] pos) (Rv r ta tb):=by
 intro pins s σ H Q I h
 exact wpAny_Compare1 (Wh ha hb I h fun v u s2 x y H2 I2 rx ry q=>ho pins s2 σ H2 x y v u Q I2 rx ry q) hm
inductive QG (Q:Bool->Hp->Prop) (x:V) (H':Hp):Prop where
 | mk:∀k,x=.bl k->Q k H'->QG Q x H'
noncomputable def z6 (t:TE):TT:=fun σ H Q=>t σ H fun x H'=>QG Q x H'
theorem aV {op:CmpOp} {r:R2} (ho:wH X (compareOp op) r) (ha:PE X a ta) (hb:PE X b tb) (hm:behindInMarks op b=false):PT X (.Compare a [op] [b] pos) (z6 (Rv r ta tb)):=by
 intro pins s σ H Q I h
 refine wpAny_isTrue_Compare1 (dH (ha pins s σ H _ I h) fun v s1 ⟨x,H1,I1,r1,q1⟩=>dH (hb pins s1 σ H1 _ I1 q1) fun u s2 ⟨y,H2,I2,r2,q2⟩=>
  dH (ho pins s2 σ H2 x y v u _ I2 r1 r2 q2) fun c s3 ⟨z,H3,I3,r3,k,e,q3⟩=>?_) hm
 subst e
 cases r3
 exact wpAny_truthy_bool ⟨H3,I3,q3⟩
inductive MT (r':R2) (tc:TE) (σ:St) (Q:VK) (y:V) (z:V) (H3:Hp):Prop where
 | mk:∀k,z=.bl k->((if k=true then tc σ H3 fun w' H4=>r' y w' H4 Q else Q (.bl false) H3))->MT r' tc σ Q y z H3
noncomputable def Su (r r':R2) (ta tb tc:TE):TE:=fun σ H Q=>ta σ H fun x H1=>tb σ H1 fun y H2=>r x y H2 fun z H3=>MT r' tc σ Q y z H3
theorem Qv {op op':CmpOp} {r r':R2} (ho:wH X (compareOp op) r) (ho':wH X (compareOp op') r') (ha:PE X a ta) (hb:PE X b tb) (hc:PE X c tc)
  (hm:lastMarks [op,op'] [b,c]=false:=by with_unfolding_all rfl):PE X (.Compare a [op,op'] [b,c] pos) (Su r r' ta tb tc):=by
 intro pins s σ H Q I h
 refine Compare_chain (dH (ha pins s σ H _ I h) fun v s1 ⟨x,H1,I1,r1,q1⟩=>chain_link (dH (hb pins s1 σ H1 _ I1 q1) fun u s2 ⟨y,H2,I2,r2,q2⟩=>
  dH (ho pins s2 σ H2 x y v u _ I2 r1 r2 q2) fun d s3 ⟨z,H3,I3,r3,k,e,q3⟩=>?_)) hm
 subst e
 cases r3
 refine wpAny_truthy_bool ?_
 cases k with
 | false=>exact ite_ff ⟨.bl false,H3,I3,rfl,q3⟩
 | true=>exact ite_tt (chain_last (dH (hc pins s3 σ H3 _ I3 q3) fun w' s4 ⟨z',H4,I4,r4,q4⟩=>ho' pins s4 σ H4 y z' u w' Q I4 r2 r4 q4))
theorem xG {op op':CmpOp} {r r':R2} (ho:wH X (compareOp op) r) (ho':wH X (compareOp op') r') (ha:PE X a ta) (hb:PE X b tb) (hc:PE X c tc)
  (hm:lastMarks [op,op'] [b,c]=false:=by with_unfolding_all rfl):PT X (.Compare a [op,op'] [b,c] pos) (z6 (Su r r' ta tb tc)):=by
 intro pins s σ H Q I h
 refine isTrue_chain (dH (ha pins s σ H _ I h) fun v s1 ⟨x,H1,I1,r1,q1⟩=>test_link (dH (hb pins s1 σ H1 _ I1 q1) fun u s2 ⟨y,H2,I2,r2,q2⟩=>
  dH (ho pins s2 σ H2 x y v u _ I2 r1 r2 q2) fun d s3 ⟨z,H3,I3,r3,k,e,q3⟩=>?_)) hm
 subst e
 cases r3
 refine wpAny_truthy_bool ?_
 cases k with
 | false=>
  obtain⟨k',e',q'⟩:=q3
  cases e'
  exact ite_ff ⟨H3,I3,q'⟩
 | true=>
  refine ite_tt (test_last (dH (hc pins s3 σ H3 _ I3 q3) fun w' s4 ⟨z',H4,I4,r4,q4⟩=>dH (ho' pins s4 σ H4 y z' u w' _ I4 r2 r4 q4) fun d' s5 hpt=>?_))
  obtain⟨z2,H5,I5,r5,k2,e2,q5⟩:=hpt
  subst e2
  cases r5
  exact wpAny_truthy_bool ⟨H5,I5,q5⟩
theorem Iz:(sizeLine:Nat) <2 ^ 63:=by rw [sizeLine_eq];decide
theorem xj:wH X (binaryOp .Add) (fun x y H Q=>∃i j,x=.str i/\y=.str j/\i.length+j.length<=sizeLine/\Q (.str (i ++ j)) H):=by
 intro pins s σ H x y v u Q I rx ry h
 obtain⟨i,j,rfl,rfl,hz,q⟩:=h
 obtain⟨t,rfl⟩:=rx
 obtain⟨t',rfl⟩:=ry
 exact add_str (fun t' tk=>⟨.str (i ++ j),H,I.tok _,⟨_,rfl⟩,q⟩) hz
theorem vals1 {x:V} {us:List Value} (r:Vals [x] us):∃u,us=[u]/\RelV x u:=by
 cases r with
 | cons r1 r2=>cases r2;exact⟨_,rfl,r1⟩
theorem vals2 {x y:V} {us:List Value} (r:Vals [x,y] us):∃u w',us=[u,w']/\RelV x u/\RelV y w':=by
 cases r with
 | cons r1 r2=>
  cases r2 with
  | cons r3 r4=>cases r4;exact⟨_,_,rfl,r1,r3⟩
theorem Gq (hc:X.calm=true):jY X (.builtin "max") (fun xs H Q=>∃i j,xs=[.int i,.int j]/\Q (.int (if j >i then j else i)) H):=by
 intro pins s σ H xs us Q I r h
 obtain⟨i,j,rfl,q⟩:=h
 obtain⟨u,w',rfl,⟨t,rfl⟩,⟨t',rfl⟩⟩:=vals2 r
 refine max_two_ints (I.ok.hd hc) fun h' tk k=>⟨_,H,I.kept k,?_,q⟩
 by_cases hj:j >i
 ·rw [if_pos hj,if_pos hj];exact⟨_,rfl⟩
 ·rw [if_neg hj,if_neg hj];exact⟨_,rfl⟩
theorem Ha:jY X (.type "str") (fun xs H Q=>∃i,xs=[.int i]/\i.natAbs.log2 <1920/\Q (.str (toString i)) H):=by
 intro pins s σ H xs us Q I r h
 obtain⟨i,rfl,hz,q⟩:=h
 obtain⟨u,rfl,t,rfl⟩:=vals1 r
 exact PySem.P.str_of_int hz ⟨.str _,H,I.tok _,⟨_,rfl⟩,q⟩
noncomputable def YT (K:PySem.W.Frag) (x:V) (H:Hp) (n:Nat):Prop:=
 match x with
 | .str y=>y.length<=sizeLine/\n=y.length
 | .byt y=>y.size<=sizeLine/\n=y.size
 | .ref p=>(∃xs,bF K H p xs/\n=xs.length)∨∃xs,eN K H p xs/\n=xs.length
 | _=>False
theorem bR:jY X (.builtin "len") (fun xs H Q=>∃x n,xs=[x]/\YT X.K x H n/\Q (.int n) H):=by
 intro pins s σ H xs us Q I r h
 obtain⟨x,n,rfl,e,q⟩:=h
 obtain⟨u,rfl,rx⟩:=vals1 r
 have hl:=Iz
 have hs:sizeLine=16777216:=sizeLine_eq
 cases x with
 | str y=>
  obtain⟨t,rfl⟩:=rx
  obtain⟨hy,e'⟩:y.length<=sizeLine/\n=y.length:=e
  subst e'
  exact len_str (by omega) ⟨.int _,H,I.tok _,⟨_,rfl⟩,q⟩
 | byt y=>
  obtain⟨t,rfl⟩:=rx
  obtain⟨hy,e'⟩:y.size<=sizeLine/\n=y.size:=e
  subst e'
  exact PySem.W.len_bytes (by omega) ⟨.int _,H,I.tok _,⟨_,rfl⟩,q⟩
 | ref p=>
  cases rx
  have e':(∃xs,bF X.K H p xs/\n=xs.length)∨∃xs,eN X.K H p xs/\n=xs.length:=e
  rcases e' with ⟨xs,hx,e'⟩ | ⟨xs,hx,e'⟩
  ·subst e'
   obtain⟨its,r',pl,hz⟩:=I.list hx
   have hlen:=r'.length
   exact Calls.call_len_list pl.isList (by simp only [List.size_toArray];omega) ⟨.int xs.length,H,I.tok _,⟨_,by simp only [List.size_toArray];rw [hlen]⟩,q⟩
  ·subst e'
   obtain⟨its,r',pl,hz⟩:=I.tuple hx
   have hlen:=r'.length
   exact len_tuple pl (by simp only [List.size_toArray];omega) ⟨.int xs.length,H,I.tok _,⟨_,by simp only [List.size_toArray];rw [hlen]⟩,q⟩
 | _=>exact(show False from e).elim
end
structure KY (h:Heap) (x dx C:Addr) (mA:Str->Option Value):Prop where
 obj:h.get? x=some (PySem.W.instObj C dx)
 ns:h.Ns1 dx mA
 ne:dx≠x
theorem O2 {h:Heap} {dx:Addr} {mA:Str->Option Value} (n:h.Ns1 dx mA):∃od,h.get? dx=some od/\∀name,PySem.W.lookIn name od=some (mA name):=by
 obtain⟨o,es,ep,ho,hd,hk,_,hm⟩:=n
 refine⟨o,ho,fun name=>?_⟩
 have e:=hm name
 unfold nsFind findBy at e
 rw [<-Array.find?_toList] at e
 unfold PySem.W.lookIn
 rw [hd]
 dsimp only
 split
 ·rename_i y q
  rw [q] at e
  exact congrArg some e
 ·rename_i q
  rw [q] at e
  have a:es.toList.any (·.refKey)=false:=by
   rw [List.any_eq_false]
   intro y hy
   obtain⟨z,t,hkey⟩:=hk y (Array.mem_toList_iff.mp hy)
   simp [DictEntry.refKey,hkey]
  have a':¬es.toList.any (·.refKey)=true:=by rw [a];exact Bool.false_ne_true
  rw [if_neg a']
  exact congrArg some e
theorem KY.look {h:Heap} {x dx C:Addr} {mA:Str->Option Value} (I:KY h x dx C mA):∃od,PySem.W.InstAt h x (PySem.W.instObj C dx) C (some od)/\∀name,PySem.W.lookIn name od=some (mA name):=
 let ⟨od,ho,hl⟩:=O2 I.ns
 ⟨od,⟨I.obj,rfl,rfl,ho⟩,hl⟩
section
variable {prog:Program} {w:World} {A:Around} {E:Value->Shared->Prop} {s:Shared} {K:PySem.W.Frag} {x dx C f:Addr} {mA:Str->Option Value} {name:Str} {v:Value}
theorem U6 {expr:Bool} {Q:Value->Shared->Prop} (X:K.In s.heap) (I:KY s.heap x dx C mA) (hg:PySem.W.plainGet K C name=true) (hh:PySem.W.hasDictIn K C=true)
  (ha:PySem.W.findIn K (.ref C) name=some none) (hv:mA name=some v) (hv':PySem.W.handedIn v=true) (h:Q v { s with toks:=s.toks+1 }):
  wpAny (model prog w) A (getAttr (.ref x) name expr) Q E s:=by
 obtain⟨od,J,hl⟩:=I.look
 exact PySem.W.get_value X J (PySem.W.plainGet_of hg).1 (PySem.W.findObj_own hh ha rfl (by rw [hl,hv])) hv' h
theorem Sx {pl:Sem Bool} {Q:Value×List Value->Shared->Prop} (X:K.In s.heap) (I:KY s.heap x dx C mA) (hg:PySem.W.plainGet K C name=true)
  (hf:PySem.W.findIn K (.ref C) name=some (some (.ref f))) (ht:PySem.W.isFn K (.ref f)=true) (hv:mA name=none) (h:Q (.ref f,[.ref x]) s):
  wpAny (model prog w) A (getMethod (.ref x) name pl) Q E s:=by
 obtain⟨od,J,hl⟩:=I.look
 exact PySem.W.method_fn X J (PySem.W.plainGet_of hg).1 (PySem.W.plainGet_of hg).2 hf (beq_iff_eq.mp ht) (by show(PySem.W.lookIn name od).map (·.isSome)=some false;rw [hl,hv];rfl) h
theorem Vc {ns:List Str} {Q:Unit->Shared->Prop} (X:K.In s.heap) (I:KY s.heap x dx C mA)
  (hs:PySem.W.findIn K (.ref C) "__setattr__" =some (some (.builtin "object.__setattr__"))) (hp:PySem.W.plainOver K C=true) (ht:PySem.W.takerIn K C name=some none) (hh:PySem.W.hasDictIn K C=true)
  (hw:PySem.Within mA ns) (hsz:ns.length<=sizeLine)
  (h:∀h',KY h' x dx C (fun y=>if y=name then some v else mA y)->Heap.SameBut dx s.heap h'->Q () { s with heap:=h',toks:=s.toks+2 }):
  wpAny (model prog w) A (setAttr (.ref x) name v) Q E s:=by
 obtain⟨od,J,hl⟩:=I.look
 refine PySem.W.set_plain X J hs (PySem.W.osa_open (s:={ s with toks:=s.toks+1 }) (r:=none) X J hp ht fun b=>?_)
 obtain⟨cd,hc,hd'⟩:=PySem.W.any_some hh
 have hx:s.heap.get? x=some ⟨.ref C,some dx,.plain,#[]⟩:=I.obj
 refine wpAny_bind (wpAny_pure (wpAny_bind (wpAny_bind (wpAny_loadPart hx (wpAny_bind (PySem.W.Looks.here (s:={ s with toks:=s.toks+1 }) (PySem.W.looks_clsIn X hc) ?_))))))
 rw [hd']
 refine wpAny_pure (a:=some dx) (wpAny_bind (wpAny_pure (wpAny_bind ?_)))
 refine wpAny_nsSet1 (s:={ s with toks:=s.toks+1 }) I.ns fun h' hn2 hs2=>?_
 obtain⟨oD,esD,epD,hoD,hdD,hcD⟩:=hn2.count (PySem.Within.cons name v hw)
 refine wpAny_bind (wpAny_lookBehind hoD (by rw [hdD];exact pastItsLine_dict (Nat.le_trans hcD (by rw [List.length_cons];omega))) ?_)
 exact wpAny_pure (h _ ⟨(hs2.2 _ (Ne.symm I.ne)).trans I.obj,hn2,I.ne⟩ hs2)
theorem RK {R:Result->Shared->Prop} {vs:List Value} {kw:List (Str×Value)} (X:K.In s.heap) (hm:PySem.W.makesIn K C=true)
  (hi:PySem.W.findIn K (.ref C) "__init__" =some (some (.ref f))) (hf:PySem.W.typeIn K (.ref f)=some (.type "function"))
  (h:codeAny (model prog w) (A.under (.builtin "type.__call__" ⟨.ref C:: vs,kw⟩)) (.call (.ref f) ⟨.ref (s.heap.objs.size+1):: vs,kw⟩) (PySem.W.InitBack (s.heap.objs.size+1) R)
   { s with heap:=(s.heap.push PySem.W.emptyDict).push (PySem.W.instObj C s.heap.objs.size) }):
  codeAny (model prog w) A (.call (.ref C) ⟨vs,kw⟩) R s:=by
 obtain⟨hh,g,d,t,os⟩:=s
 exact PySem.W.make_core (PySem.W.makes_of X hm) (PySem.W.looks_findIn X hi) (fun self=>PySem.W.bind_fn X self hf) (.inl rfl) h
end
noncomputable def aH (f:Str) (v:V):List (Str×V)->List (Str×V)
 | []=>[(f,v)]
 | (g,x):: r=>if g=f then(g,v):: r else(g,x):: aH f v r
theorem aC (f g:Str) (v:V):∀fs:List (Str×V),(aH f v fs).lookup g=if g=f then some v else fs.lookup g
 | []=>by
  show List.lookup g [(f,v)]=_
  by_cases h:g=f
  ·have hb:(g == f)=true:=beq_iff_eq.mpr h
   simp only [List.lookup,hb,if_pos h]
  ·have hb:(g == f)=false:=beq_eq_false_iff_ne.mpr h
   simp only [List.lookup,hb,if_neg h]
 | (k,x):: r=>by
  have ih:=aC f g v r
  rw [show aH f v ((k,x):: r)=(if k=f then(k,v):: r else(k,x):: aH f v r) from rfl]
  by_cases hk:k=f
  ·rw [if_pos hk]
   by_cases h:g=k
   ·have hb:(g == k)=true:=beq_iff_eq.mpr h
    simp only [List.lookup,hb,if_pos (h.trans hk)]
   ·have hb:(g == k)=false:=beq_eq_false_iff_ne.mpr h
    simp only [List.lookup,hb,if_neg (fun e:g=f=>h (e.trans hk.symm))]
  ·rw [if_neg hk]
   by_cases h:g=k
   ·have hb:(g == k)=true:=beq_iff_eq.mpr h
    simp only [List.lookup,hb,if_neg (fun e:g=f=>hk (h.symm.trans e))]
   ·have hb:(g == k)=false:=beq_eq_false_iff_ne.mpr h
    simp only [List.lookup,hb]
    exact ih
theorem yX (f:Str) (v:V):∀fs:List (Str×V),f∈(aH f v fs).map (·.1)/\∀g,g∈fs.map (·.1)->g∈(aH f v fs).map (·.1)
 | []=>⟨by simp [aH],fun g h=>by simp at h⟩
 | (k,x):: r=>by
  obtain⟨i1,i2⟩:=yX f v r
  rw [show aH f v ((k,x):: r)=(if k=f then(k,v):: r else(k,x):: aH f v r) from rfl]
  by_cases hk:k=f
  ·rw [if_pos hk]
   subst hk
   exact⟨by simp,fun g h=>by simpa using h⟩
  ·rw [if_neg hk]
   refine⟨?_,fun g h=>?_⟩
   ·rw [List.map_cons]
    exact List.mem_cons_of_mem _ i1
   ·rw [List.map_cons] at h ⊢
    rcases List.mem_cons.mp h with e | e
    ·exact List.mem_cons.mpr (.inl e)
    ·exact List.mem_cons_of_mem _ (i2 g e)
theorem tH (f:Str) (v:V):∀fs:List (Str×V),(aH f v fs).length<=fs.length+1
 | []=>by simp [aH]
 | (k,x):: r=>by
  have ih:=tH f v r
  rw [show aH f v ((k,x):: r)=(if k=f then(k,v):: r else(k,x):: aH f v r) from rfl]
  by_cases hk:k=f
  ·rw [if_pos hk,List.length_cons,List.length_cons];omega
  ·rw [if_neg hk,List.length_cons,List.length_cons];omega
theorem tD.some_of {v:V} {o:Option Value} (r:tD (some v) o):∃u,o=some u/\RelV v u:=by
 cases o with
 | none=>exact(show False from r).elim
 | some u=>exact⟨u,rfl,r⟩
theorem tD.none_of {o:Option Value} (r:tD none o):o=none:=by
 cases o with
 | none=>rfl
 | some u=>exact(show False from r).elim
theorem Pb {v:V} {u:Value} (r:RelV v u):PySem.W.handedIn u=true:=by
 cases v with
 | non=>cases (show u=Value.none from r);rfl
 | bl b=>cases (show u=Value.bool b from r);rfl
 | int i=>obtain⟨t,e⟩:=(show ∃t,u=Value.int i t from r);cases e;rfl
 | str x=>obtain⟨t,e⟩:=(show ∃t,u=Value.str x t from r);cases e;rfl
 | byt b=>obtain⟨t,e⟩:=(show ∃t,u=Value.bytes b t from r);cases e;rfl
 | flt b=>obtain⟨t,e⟩:=(show ∃t,u=Value.float b t from r);cases e;rfl
 | ref a=>cases (show u=Value.ref a from r);rfl
 | ty n=>cases (show u=Value.type n from r);rfl
section
variable {P:Program} {w:World} {H H':Hp} {h h':Heap} {a C dx:Addr} {fs fs':List (Str×V)}
theorem Il (hok:vD P w H h) (e:H a=some (.ins C dx fs)):∃mA,KY h a dx C mA/\(∀f,tD (fs.lookup f) (mA f))/\PySem.Within mA (fs.map (·.1))/\fs.length<=1000/\H dx=some (.own a):=by
 obtain⟨d,z,ne,ob,mA,n,r,q⟩:=(show fW P w H h a (.ins C dx fs) from hok a _ e)
 exact⟨mA,⟨ob,n,ne⟩,r,q,z,d⟩
end
structure Py (K:PySem.W.Frag) (C:Addr):Prop where
 pg:PySem.W.plainGet K C Str.empty=true
 hd:PySem.W.hasDictIn K C=true
 po:PySem.W.plainOver K C=true
 sa:PySem.W.findIn K (.ref C) "__setattr__" =some (some (.builtin "object.__setattr__"))
theorem Py.get {K:PySem.W.Frag} {C:Addr} (c:Py K C) (f:Str):PySem.W.plainGet K C f=true:=c.pg
noncomputable def nH (K:PySem.W.Frag) (C:Addr) (f:Str):Prop:=PySem.W.findIn K (.ref C) f=some none
theorem nH.taker {K:PySem.W.Frag} {C:Addr} {f:Str} (n:nH K C f):PySem.W.takerIn K C f=some none:=by
 unfold PySem.W.takerIn
 rw [show PySem.W.findIn K (.ref C) f=some none from n]
 rfl
structure Meth (K:PySem.W.Frag) (C:Addr) (m:Str) (f:Addr):Prop where
 at_:PySem.W.findIn K (.ref C) m=some (some (.ref f))
 fn:PySem.W.isFn K (.ref f)=true
 kp:PySem.W.keepIn K (.ref f)=true
section
variable {X:Cx} {pins:List (Addr×Obj)} {σ:St} {H:Hp} {s:Shared} {a C dx:Addr} {fs:List (Str×V)} {f:Str} {v:V} {A:Around} {E:Value->Shared->Prop}
theorem Dq {b:Bool} {Q:Value->Shared->Prop} (I:Inv X pins σ H s) (e:H a=some (.ins C dx fs)) (c:Py X.K C) (n:nH X.K C f) (l:fs.lookup f=some v)
  (h:∀u s',Inv X pins σ H s'->RelV v u->Q u s'):wpAny (model X.prog X.w) A (getAttr (.ref a) f b) Q E s:=by
 obtain⟨mA,O,r,_,_,_⟩:=Il I.hok e
 obtain⟨u,hu,ru⟩:=tD.some_of (v:=v) (o:=mA f) (by rw [<-l];exact r f)
 exact U6 I.kIn O (c.get f) c.hd n hu (Pb ru) (h u _ (I.tok _) ru)
theorem sr {m:Str} {g:Addr} {pl:Sem Bool} {Q:Value×List Value->Shared->Prop} (I:Inv X pins σ H s) (e:H a=some (.ins C dx fs)) (c:Py X.K C) (k:Meth X.K C m g) (l:fs.lookup m=none)
  (h:Q (.ref g,[.ref a]) s):wpAny (model X.prog X.w) A (getMethod (.ref a) m pl) Q E s:=by
 obtain⟨mA,O,r,_,_,_⟩:=Il I.hok e
 have hn:mA m=none:=tD.none_of (by rw [<-l];exact r m)
 exact Sx I.kIn O (c.get m) k.at_ k.fn hn h
theorem Ej {y:V} {u:Value} {Q:Unit->Shared->Prop} (I:Inv X pins σ H s) (e:H a=some (.ins C dx fs)) (c:Py X.K C) (n:nH X.K C f) (hl:fs.length <1000) (ry:RelV y u)
  (h:∀s',Inv X pins σ (upd H a (.ins C dx (aH f y fs))) s'->Q () s'):wpAny (model X.prog X.w) A (setAttr (.ref a) f u) Q E s:=by
 obtain⟨mA,O,r,wi,_,ho⟩:=Il I.hok e
 have hz:(fs.map (·.1)).length<=sizeLine:=by rw [List.length_map,sizeLine_eq];omega
 refine Vc I.kIn O c.sa c.po n.taker c.hd wi hz fun h' O' sb=>h _ ?_
 have hd:∃o,h'.get? dx=some o:=let ⟨o,_,_,e',_⟩:=O'.ns;⟨o,e'⟩
 refine I.write (x:=a) (e:=dx) (by rw [e];exact True.intro) (.inr ho) (fun b q hb z=>(sb.2 b hb).trans z) hd ?_
 refine⟨by rw [aK O.ne];exact ho,?_,O.ne,O'.obj,_,O'.ns,fun g=>?_,fun g hg=>?_⟩
 ·have:=tH f y fs;omega
 ·show tD ((aH f y fs).lookup g) (if g=f then some u else mA g)
  rw [aC]
  by_cases q:g=f
  ·rw [if_pos q,if_pos q];exact ry
  ·rw [if_neg q,if_neg q];exact r g
 ·by_cases q:g=f
  ·rw [q];exact(yX f y fs).1
  ·refine(yX f y fs).2 g (wi g fun z=>hg ?_)
   show(if g=f then some u else mA g)=none
   rw [if_neg q];exact z
theorem Inv.made (I:Inv X pins σ H s):Inv X pins σ (upd (upd H s.heap.objs.size (.own (s.heap.objs.size+1))) (s.heap.objs.size+1) (.ins C s.heap.objs.size []))
  { s with heap:=(s.heap.push PySem.W.emptyDict).push (PySem.W.instObj C s.heap.objs.size) }:=by
 have e1:(s.heap.push PySem.W.emptyDict).get? s.heap.objs.size=some PySem.W.emptyDict:=Heap.get?_push_size s.heap rfl
 have e2:((s.heap.push PySem.W.emptyDict).push (PySem.W.instObj C s.heap.objs.size)).get? (s.heap.objs.size+1)=some (PySem.W.instObj C s.heap.objs.size):=by
  have:=Heap.get?_push_size (s.heap.push PySem.W.emptyDict) (o:=PySem.W.instObj C s.heap.objs.size) rfl
  rwa [Heap.size_push] at this
 have e3:(s.heap.push PySem.W.emptyDict).Ns s.heap.objs.size (fun _=>none):=⟨PySem.W.emptyDict,#[],_,e1,rfl,(fun e he=>absurd he (by simp)),fun _=>rfl⟩
 have I1:=I.laid (a:=s.heap.objs.size) (o:=.own (s.heap.objs.size+1)) (h':=s.heap.push PySem.W.emptyDict) (t':=s.toks) (fun b u q=>Heap.get?_push_of_some _ q) (Nat.le_refl _) ⟨_,e1⟩
 refine I1.laid (a:=s.heap.objs.size+1) (o:=.ins C s.heap.objs.size []) (t':=s.toks) (fun b u q=>Heap.get?_push_of_some _ q) (Nat.le_of_eq (Heap.size_push _ _)) ?_
 have ne:s.heap.objs.size≠s.heap.objs.size+1:=Nat.ne_of_lt (Nat.lt_succ_self _)
 refine⟨by rw [aK ne,au],Nat.zero_le _,ne,e2,fun _=>none,(Heap.Ns1.of_empty e3).at fun o q=>Heap.get?_push_of_some _ q,fun _=>True.intro,fun y hy=>absurd rfl hy⟩
theorem Tw {prog:Program} {w:World} {env:Env} {e:Expr} {f:Str} {pos:Pos} {s:Shared} {Q:Value->Shared->Prop} (hb:attributeBase e f env (eval e env)=eval e env)
  (h:wpAny (model prog w) A (eval e env) (fun o s₁=>wpAny (model prog w) A (getAttr o f true) Q E s₁) E s):wpAny (model prog w) A (eval (.Attribute e f pos) env) Q E s:=
 Attribute_any_ h (by rw [arm_eval_Attribute,hb])
end
inductive V3 (K:PySem.W.Frag) (f:Str) (Q:VK) (x:V) (H1:Hp):Prop where
 | mk:∀a C dx fs v,x=.ref a->H1 a=some (.ins C dx fs)->Py K C->nH K C f->fs.lookup f=some v->Q v H1->V3 K f Q x H1
noncomputable def Yj (K:PySem.W.Frag) (ta:TE) (f:Str):TE:=fun σ H Q=>ta σ H fun x H1=>V3 K f Q x H1
inductive V6 (K:PySem.W.Frag) (f:Str) (D:Ends) (σ:St) (y:V) (x:V) (H2:Hp):Prop where
 | mk:∀a C dx fs,x=.ref a->H2 a=some (.ins C dx fs)->Py K C->nH K C f->fs.length <1000->D.nx σ (upd H2 a (.ins C dx (aH f y fs)))->V6 K f D σ y x H2
noncomputable def ZD (K:PySem.W.Frag) (ta tv:TE) (f:Str):TS:=fun D σ H=>tv σ H fun y H1=>ta σ H1 fun x H2=>V6 K f D σ y x H2
noncomputable def Xw (X:Cx) (op:Operator) (rd:V->V->Hp->VK->Prop):Prop:=
 ∀(pins:List (Addr×Obj)) (s:Shared) (σ:St) (H:Hp) (x y:V) (u v:Value) (Q:VK),Inv X pins σ H s->RelV x u->RelV y v->rd x y H Q->wpAny (model X.prog X.w) X.A (inplaceOp op u v) (EP X pins σ Q) X.xe s
inductive Jy (K:PySem.W.Frag) (tv:TE) (rd:V->V->Hp->VK->Prop) (f:Str) (D:Ends) (σ:St) (x:V) (H1:Hp):Prop where
 | mk:∀a C dx fs v,x=.ref a->H1 a=some (.ins C dx fs)->Py K C->nH K C f->fs.lookup f=some v->(tv σ H1 fun y H2=>rd v y H2 fun z H3=>∃dx' fs',H3 a=some (.ins C dx' fs')/\fs'.length <1000/\D.nx σ (upd H3 a (.ins C dx' (aH f z fs'))))->Jy K tv rd f D σ x H1
noncomputable def Ud (K:PySem.W.Frag) (ta tv:TE) (rd:V->V->Hp->VK->Prop) (f:Str):TS:=fun D σ H=>ta σ H fun x H1=>Jy K tv rd f D σ x H1
section
variable {X:Cx} {o e value:Expr} {f:Str} {pos pos' tpos:Pos} {ta tv:TE}
theorem bh (he:PE X e ta) (hb:attributeBase e f X.env (eval e X.env)=eval e X.env):PE X (.Attribute e f pos) (Yj X.K ta f):=by
 intro pins s σ H Q I h
 refine Tw hb (dH (he pins s σ H _ I h) fun u s1 hpt=>?_)
 obtain⟨x,H1,I1,rx,a,C,dx,fs,v,ex,ea,c,n,l,q⟩:=hpt
 subst ex
 obtain rfl:u=Value.ref a:=rx
 exact Dq I1 ea c n l fun u' s2 I2 ru=>⟨v,H1,I2,ru,q⟩
theorem ie (ha:PE X o ta) (hv:PE X value tv) (hs:swapsWith value (some (.Attribute o f pos')) pos.line X.env=pure false):PS X (.Assign [.Attribute o f pos'] value pos) (ZD X.K ta tv f):=by
 intro pins s σ H D I h
 refine plainObj_wpAny_Assign_Attribute (dH (hv pins s σ H _ I h) fun u s1 ⟨y,H1,I1,ry,q⟩=>dH (ha pins s1 σ H1 _ I1 q) fun ov s2 hpt=>?_) hs
 obtain⟨x,H2,I2,rx,a,C,dx,fs,ex,ea,c,n,l,q2⟩:=hpt
 subst ex
 obtain rfl:ov=Value.ref a:=rx
 exact Ej I2 ea c n l ry fun s3 I3=>⟨σ,_,I3,q2⟩
theorem Pu {op:Operator} {rd:V->V->Hp->VK->Prop} (ha:PE X o ta) (hv:PE X value tv) (hop:Xw X op rd):PS X (.AugAssign (.Attribute o f tpos) op value pos) (Ud X.K ta tv rd f):=by
 intro pins s σ H D I h
 refine wpAny_AugAssign_AttributeAny (dH (ha pins s σ H _ I h) fun ov s1 hpt=>?_)
 obtain⟨x,H1,I1,rx,a,C,dx,fs,v,ex,ea,c,n,l,q⟩:=hpt
 subst ex
 obtain rfl:ov=Value.ref a:=rx
 refine Dq I1 ea c n l fun u s2 I2 ru=>dH (hv pins s2 σ H1 _ I2 q) fun w3 s3 ⟨y,H2,I3,ry,q3⟩=>dH (hop pins s3 σ H2 v y u w3 _ I3 ru ry q3) fun w4 s4 hpt=>?_
 obtain⟨z,H3,I4,rz,dx',fs',ea',l',q4⟩:=hpt
 exact Ej I4 ea' c n l' rz fun s5 I5=>⟨σ,_,I5,q4⟩
end
section
variable {X:Cx} {pins:List (Addr×Obj)} {σ:St} {H:Hp} {s:Shared} {A:Around} {E:Value->Shared->Prop} {Q:Value->Shared->Prop} {c:Value} {b:Bool}
end
structure jg (k:Nat) (A:Around):Prop where
 hd:A.handled=none
 dp:A.depth+3 * k+5 <recursionLimit
 un:A.units+16 * k+200 <cLine
theorem jg.mono {j k:Nat} {A:Around} (r:jg k A) (h:j<=k):jg j A:=⟨r.hd,by have:=r.dp;omega,by have:=r.un;omega⟩
theorem jg.deeper {k:Nat} {A:Around} (r:jg (k+1) A) (env:Env):jg k (A.deeper env):=
 ⟨r.hd,by have:=r.dp;show A.depth+1+3 * k+5 <_;omega,by have:=r.un;show A.units+3+16 * k+200 <_;omega⟩
theorem Lq {A:Around} {C:Addr} {us:List Value} {kw:List (Str×Value)}:(A.under (.builtin "type.__call__" ⟨.ref C:: us,kw⟩)).depth=A.depth+1:=by
 first | rfl | simp [Around.under,Code.weight,Code.isCreation,Code.isGuard,Code.isCaller,Code.frames,Code.isFrame,guardIds]
theorem Mr {A:Around} {C:Addr} {us:List Value} {kw:List (Str×Value)}:(A.under (.builtin "type.__call__" ⟨.ref C:: us,kw⟩)).units=A.units+1:=by
 first | rfl | simp [Around.under,Code.cUnits,Code.frames,Code.isFrame]
theorem jg.make {k:Nat} {A:Around} (r:jg (k+1) A) (C:Addr) (us:List Value) (kw:List (Str×Value)):jg k (A.under (.builtin "type.__call__" ⟨.ref C:: us,kw⟩)):=
 ⟨r.hd,by have:=r.dp;rw [Lq];omega,by have:=r.un;rw [Mr];omega⟩
theorem jg.depth {k:Nat} {A:Around} (r:jg k A):A.depth <recursionLimit:=by have:=r.dp;omega
theorem jg.units {k:Nat} {A:Around} (r:jg k A):A.units+64 <cLine:=by have:=r.un;omega
noncomputable def QV:TA:=fun _ H Q=>Q [] H
noncomputable def Yp (ta:TE) (tr:TA):TA:=fun σ H Q=>ta σ H fun x H1=>tr σ H1 fun xs H2=>Q (x:: xs) H2
section
variable {X:Cx} {e:Expr} {es:List Expr} {te:TE} {t:TA} {pos:Pos}
theorem ak:PA X [] QV:=fun _ _ _ _ H Q I h=>Calls.spliced_nil ⟨[],H,I,.nil,h⟩
theorem aa (ha:PE X e te) (hr:PA X es t) (hs:starEach (e:: es) X.env=(false,eval e X.env):: starEach es X.env:=by rfl):PA X (e:: es) (Yp te t):=by
 intro pos pins s σ H Q I h
 rw [hs]
 show wpAny _ _ (spliced ((false,eval e X.env):: backTo pos (starEach es X.env))) _ _ s
 refine Calls.spliced_cons (dH (ha pins s σ H _ I h) fun u s1 hpt=>?_)
 obtain⟨x,H1,I1,r1,q1⟩:=hpt
 exact dH (hr pos pins s1 σ H1 _ I1 q1) fun us s2 ⟨xs,H2,I2,r2,q2⟩=>⟨x:: xs,H2,I2,.cons r1 r2,q2⟩
noncomputable def Zq (t:TA):TE:=fun σ H Q=>t σ H fun xs H1=>xs.length<=sizeLine/\∀p,H1 p=none->Q (.ref p) (upd H1 p (.tup xs))
noncomputable def Zm (t:TA):TE:=fun σ H Q=>t σ H fun xs H1=>xs.length<=sizeLine/\∀p,H1 p=none->Q (.ref p) (upd H1 p (.lst xs))
theorem cz {x1} (h:PA X es t):PE X (.Tuple es x1 pos) (Zq t):=by
 intro pins s σ H Q I hq
 refine wpAny_Tuple_spliced (dH (h pos pins s σ H _ I hq) fun us s1 ⟨xs,H1,I1,r,z,q⟩=>⟨by rw [<-r.length];exact z,?_⟩)
 have hf:H1 s1.heap.objs.size=none:=I1.hok.fresh (Nat.le_refl _)
 refine⟨.ref s1.heap.objs.size,upd H1 s1.heap.objs.size (.tup xs),I1.laid (t':=s1.toks) (fun b u e=>Heap.get?_push_of_some _ e) (Nat.le_refl _) ?_,rfl,q _ hf⟩
 exact⟨z,us,r,⟨_,Heap.get?_push_size _ rfl,rfl,_,rfl⟩⟩
theorem bz (h:PA X es t):PE X (.List es pos) (Zm t):=by
 intro pins s σ H Q I hq
 refine wpAny_List_spliced (dH (h pos pins s σ H _ I hq) fun us s1 ⟨xs,H1,I1,r,z,q⟩=>⟨by rw [<-r.length];exact z,?_⟩)
 have hf:H1 s1.heap.objs.size=none:=I1.hok.fresh (Nat.le_refl _)
 refine⟨.ref s1.heap.objs.size,upd H1 s1.heap.objs.size (.lst xs),I1.laid (t':=s1.toks) (fun b u e=>Heap.get?_push_of_some _ e) (Nat.le_refl _) ?_,rfl,q _ hf⟩
 exact⟨z,us,0,r,Heap.get?_push_size _ rfl⟩
end
noncomputable abbrev Sp:=List V->Hp->VK->XK->Prop
noncomputable abbrev Ft:=List Env->Hp->Shared->XK->Value->Shared->Prop
structure LR (P:Program) (w:World) (K:PySem.W.Frag) (mg:Str->Option Value) (base:Heap) (A:Around) (outer:List Env) (s:Shared) (H:Hp):Prop where
 frames:A.frames=some outer
 mod:Mod K mg base
 bs:∀b o,base.get? b=some o->s.heap.get? b=some o/\H b=none
 bsz:base.objs.size<=s.heap.objs.size
 funs:s.heap.FunFrames base outer
 frf:∀b∈frs outer,H b=none
 hok:vD P w H s.heap
 bare:AllBare s.gens
noncomputable def CE (outer:List Env) (P:Program) (w:World) (H:Hp) (s:Shared) (Q:VK) (u:Value) (s':Shared):Prop:=
 ∃v H',s'.os=s.os/\AllBare s'.gens/\Un (frs outer) [] H H' s.heap s'.heap/\vD P w H' s'.heap/\RelV v u/\Q v H'
noncomputable def CR (CX:Ft) (outer:List Env) (P:Program) (w:World) (H:Hp) (s:Shared) (Q:VK) (E:XK) (r:Result) (s':Shared):Prop:=
 match r with
 | .ok (.ret u)=>CE outer P w H s Q u s'
 | .ok _=>False
 | .error e=>CX outer H s E e s'
structure iy (P:Program) (w:World) (K:PySem.W.Frag) (mg:Str->Option Value) (base:Heap) (CX:Ft) (k:Nat) (f:Addr) (fd:FuncData) (ps:List Str) (sp:Sp):Prop where
 len:∀vs H Q E,sp vs H Q E->vs.length=ps.length
 run:∀(A:Around) (outer:List Env) (s:Shared) (H:Hp) (args:Args) (us:List Value) (vs:List V) (Q:VK) (E:XK),jg k A->LR P w K mg base A outer s H->BindsTo s fd args (ps.zip us)->Vals vs us->sp vs H Q E->
  codeAny (model P w) A (.call (.ref f) args) (CR CX outer P w H s Q E) s
theorem iy.mono {P:Program} {w:World} {K:PySem.W.Frag} {mg:Str->Option Value} {base:Heap} {CX:Ft} {j k:Nat} {f:Addr} {fd:FuncData} {ps:List Str} {sp:Sp} (F:iy P w K mg base CX j f fd ps sp) (h:j<=k):
  iy P w K mg base CX k f fd ps sp:=⟨F.len,fun A outer s H args us vs Q E hr=>F.run A outer s H args us vs Q E (hr.mono h)⟩
theorem iy.imp {P:Program} {w:World} {K:PySem.W.Frag} {mg:Str->Option Value} {base:Heap} {CX:Ft} {k:Nat} {f:Addr} {fd:FuncData} {ps:List Str} {sp sp':Sp} (F:iy P w K mg base CX k f fd ps sp)
  (h:∀vs H Q E,sp' vs H Q E->sp vs H Q E):iy P w K mg base CX k f fd ps sp':=
 ⟨fun vs H Q E q=>F.len vs H Q E (h _ _ _ _ q),fun A outer s H args us vs Q E hr he hb hv hs=>F.run A outer s H args us vs Q E hr he hb hv (h _ _ _ _ hs)⟩
theorem LR.make {P:Program} {w:World} {K:PySem.W.Frag} {mg:Str->Option Value} {base:Heap} {A:Around} {outer:List Env} {s:Shared} {H:Hp} (e:LR P w K mg base A outer s H) (C:Addr) (us:List Value) (kw:List (Str×Value)):
  LR P w K mg base (A.under (.builtin "type.__call__" ⟨.ref C:: us,kw⟩)) outer s H:=⟨by first | exact e.frames | (simpa [Around.under,Code.envs,Code.isFrame,pushEnvs] using e.frames),e.mod,e.bs,e.bsz,e.funs,e.frf,e.hok,e.bare⟩
section
variable {X:Cx} {pins:List (Addr×Obj)} {σ:St} {H:Hp} {s s':Shared}
theorem Inv.env0 (I:Inv X pins σ H s):LR X.prog X.w X.K X.mg X.base X.A X.stack s H:=
 ⟨I.ok.frames,I.ok.mod,I.bs,Nat.le_trans I.ok.bsz I.sz,I.stack,I.stkFree,I.hok,I.bare⟩
theorem Inv.after {Q:VK} {u:Value} (I:Inv X pins σ H s) (h:CE X.stack X.prog X.w H s Q u s'):EP X pins σ Q u s':=by
 obtain⟨v,H',os,bare,un,hok,r,q⟩:=h
 obtain⟨hh,g,d,t,os'⟩:=s'
 obtain rfl:os'=s.os:=os
 exact⟨v,H',I.call (h':=hh) (g':=g) (d':=d) (t':=t) (ch:=[]) un hok bare (fun b z=>absurd z (by simp)),r,q⟩
end
noncomputable def VL (sp:Sp) (dvs:List V) (E:XK) (t:TA):TE:=fun σ H Q=>t σ H fun vs H1=>sp (vs ++ dvs) H1 Q E
inductive Rq (C:Addr) (m:Str) (sp:Sp) (dvs:List V) (E:XK) (t:TA) (σ:St) (Q:VK) (x:V) (H1:Hp):Prop where
 | mk:∀a dx fs,x=.ref a->H1 a=some (.ins C dx fs)->fs.lookup m=none->(t σ H1 fun vs H2=>sp (x:: (vs ++ dvs)) H2 Q E)->Rq C m sp dvs E t σ Q x H1
noncomputable def NT (C:Addr) (m:Str) (sp:Sp) (dvs:List V) (E:XK) (ta:TE) (t:TA):TE:=fun σ H Q=>ta σ H fun x H1=>Rq C m sp dvs E t σ Q x H1
noncomputable def Yu (C:Addr) (sp:Sp) (dvs:List V) (E:XK) (t:TA):TE:=fun σ H Q=>t σ H fun vs H1=>∀x dx,H1 x=none->H1 dx=none->dx≠x->
 sp (.ref x:: (vs ++ dvs)) (upd (upd H1 dx (.own x)) x (.ins C dx [])) (fun v H2=>v=.non/\Q (.ref x) H2) E
noncomputable def Binds (K:PySem.W.Frag) (fd:FuncData) (ps:List Str) (ds:List Value):Prop:=
 ∀(s:Shared) (us:List Value),K.In s.heap->(us ++ ds).length=ps.length->BindsTo s fd ⟨us,[]⟩ (ps.zip (us ++ ds))
theorem Binds.all {K:PySem.W.Frag} {fd:FuncData} {ps:List Str} (h:∀us:List Value,us.length=ps.length->bindArgs fd ⟨us,[]⟩=pure (ps.zip us)):Binds K fd ps []:=fun s us _ hl=>by
 rw [List.append_nil] at hl ⊢
 exact .of_eq (h us hl)
noncomputable def qd (CX:Ft) (X:Cx) (E:XK):Prop:=∀(pins:List (Addr×Obj)) (σ:St) (H:Hp) (s:Shared) (e:Value) (s':Shared),Inv X pins σ H s->CX X.stack H s E e s'->X.xe e s'
section
variable {X:Cx} {CX:Ft} {k:Nat} {f C:Addr} {fd:FuncData} {ps:List Str} {sp:Sp} {dvs:List V} {ds:List Value} {E:XK} {x m:Str} {p pos apos:Pos} {e o:Expr} {es:List Expr} {ta:TE} {t:TA}
theorem Dh {pins:List (Addr×Obj)} {σ:St} {H:Hp} {s:Shared} {Q:VK} {us:List Value} {vs:List V} (F:iy X.prog X.w X.K X.mg X.base CX k f fd ps sp) (hr:jg k X.A) (hb:Binds X.K fd ps ds) (hd:Vals dvs ds) (hx:qd CX X E)
  (I:Inv X pins σ H s) (r:Vals vs us) (h:sp (vs ++ dvs) H Q E):wpAny (model X.prog X.w) X.A (call (.ref f) us) (EP X pins σ Q) X.xe s:=by
 have r2:Vals (vs ++ dvs) (us ++ ds):=r.append hd
 have hl:(us ++ ds).length=ps.length:=by rw [<-r2.length];exact F.len _ _ _ _ h
 refine wpAny_call (codeAny_mono (F.run X.A X.stack s H ⟨us,[]⟩ (us ++ ds) (vs ++ dvs) Q E hr I.env0 (hb s us I.kIn hl) r2 h) fun r s' hq=>?_)
 cases r with
 | error e=>exact hx pins σ H s e s' I hq
 | ok fl=>
  cases fl with
  | ret u=>exact I.after hq
  | next=>exact False.elim hq
  | brk=>exact False.elim hq
  | cont=>exact False.elim hq
theorem Um (F:iy X.prog X.w X.K X.mg X.base CX k f fd ps sp) (hr:jg k X.A) (hg:Gl X x) (hm:X.mg x=some (.ref f)) (hk:PySem.W.keepIn X.K (.ref f)=true) (hb:Binds X.K fd ps ds) (hd:Vals dvs ds) (hx:qd CX X E)
  (ha:PA X (e:: es) t) (hdb:(x == ("__debug__" :Str))=false:=by decide) (he:starEach (e:: es) X.env=(false,eval e X.env):: starEach es X.env:=by rfl) (hpl:(backTo pos (starEach es X.env)).any (·.1)=false:=by rfl):
  PE X (.Call (.Name x p) (e:: es) [] pos) (VL sp dvs E t):=by
 intro pins s σ H Q I h
 refine wpAny_Call_Name_kw (Hr I hg hm ?_ hdb)
 refine PySem.W.callWith_K (h₀:=X.base) I.ok.mod.kin hk (dH (ha pos pins s σ H _ I h) fun us s1 ⟨vs,H1,I1,r,q⟩=>⟨I1.kIn,?_⟩) he hpl
 exact Dh F hr hb hd hx I1 r q
theorem NP {pl:Sem Bool} (he:PE X o ta) (c:Py X.K C) (hm:Meth X.K C m f) (F:iy X.prog X.w X.K X.mg X.base CX k f fd ps sp) (hr:jg k X.A) (hb:Binds X.K fd ps ds) (hd:Vals dvs ds) (hx:qd CX X E) (ha:PA X (e:: es) t)
  (hst:starEach (e:: es) X.env=(false,eval e X.env):: starEach es X.env:=by rfl) (hpl:(backTo pos (starEach es X.env)).any (·.1)=false:=by rfl)
  (ht:eval (.Call (.Attribute o m apos) (e:: es) [] pos) X.env=(do
   let ov <-eval o X.env
   standAt apos.atName
   let (f,first) <-holding [ov] (getMethod ov m pl)
   callWith pos f first (backTo pos (starEach (e:: es) X.env)) (backToKw pos (keywordEach [] X.env))):=by rfl):
  PE X (.Call (.Attribute o m apos) (e:: es) [] pos) (NT C m sp dvs E ta t):=by
 intro pins s σ H Q I h
 refine PySem.W.methodCall_KW (pl:=pl) (dH (he pins s σ H _ I h) fun u s1 hpt=>?_) ht
 obtain⟨x,H1,I1,rx,a,dx,fs,ex,ea,l,q⟩:=hpt
 subst ex
 obtain rfl:u=Value.ref a:=rx
 refine sr I1 ea c hm l ?_
 refine PySem.W.callWith_K (first:=[.ref a]) (h₀:=X.base) I.ok.mod.kin hm.kp (dH (ha pos pins s1 σ H1 _ I1 q) fun us s2 ⟨vs,H2,I2,r,q2⟩=>⟨I2.kIn,?_⟩) hst hpl
 exact Dh (us:=.ref a:: us) (vs:=.ref a:: vs) F hr hb hd hx I2 (.cons rfl r) q2
theorem Rh {pl:Sem Bool} (he:PE X o ta) (c:Py X.K C) (hm:Meth X.K C m f) (F:iy X.prog X.w X.K X.mg X.base CX k f fd ps sp) (hr:jg k X.A) (hb:Binds X.K fd ps ds) (hd:Vals dvs ds) (hx:qd CX X E)
  (ht:eval (.Call (.Attribute o m apos) [] [] pos) X.env=(do
   let ov <-eval o X.env
   standAt apos.atName
   let (f,first) <-holding [ov] (getMethod ov m pl)
   callWith pos f first (backTo pos (starEach [] X.env)) (backToKw pos (keywordEach [] X.env))):=by rfl):
  PE X (.Call (.Attribute o m apos) [] [] pos) (NT C m sp dvs E ta QV):=by
 intro pins s σ H Q I h
 refine PySem.W.methodCall_KW (pl:=pl) (dH (he pins s σ H _ I h) fun u s1 hpt=>?_) ht
 obtain⟨x,H1,I1,rx,a,dx,fs,ex,ea,l,q⟩:=hpt
 subst ex
 obtain rfl:u=Value.ref a:=rx
 refine sr I1 ea c hm l ?_
 exact PySem.W.callWith_K0 (first:=[.ref a]) I1.kIn hm.kp (Dh (us:=[.ref a]) (vs:=[.ref a]) F hr hb hd hx I1 (.cons rfl .nil) q)
structure Mk (K:PySem.W.Frag) (C f:Addr):Prop where
 makes:PySem.W.makesIn K C=true
 init:PySem.W.findIn K (.ref C) "__init__" =some (some (.ref f))
 fn:PySem.W.isFn K (.ref f)=true
 kp:PySem.W.keepIn K (.ref C)=true
theorem QB {pins:List (Addr×Obj)} {σ:St} {H:Hp} {s:Shared} {Q:VK} {us:List Value} {vs:List V} (M:Mk X.K C f) (F:iy X.prog X.w X.K X.mg X.base CX k f fd ps sp) (hr:jg (k+1) X.A) (hb:Binds X.K fd ps ds) (hd:Vals dvs ds)
  (hx:qd CX X E) (I:Inv X pins σ H s) (r:Vals vs us)
  (h:∀x dx,H x=none->H dx=none->dx≠x->sp (.ref x:: (vs ++ dvs)) (upd (upd H dx (.own x)) x (.ins C dx [])) (fun v H2=>v=.non/\Q (.ref x) H2) E):
  wpAny (model X.prog X.w) X.A (call (.ref C) us) (EP X pins σ Q) X.xe s:=by
 have hq:=h (s.heap.objs.size+1) s.heap.objs.size (I.hok.fresh (Nat.le_succ _)) (I.hok.fresh (Nat.le_refl _)) (Nat.ne_of_lt (Nat.lt_succ_self _))
 have I2:=Inv.made (C:=C) I
 have r2:Vals (V.ref (s.heap.objs.size+1):: (vs ++ dvs)) (Value.ref (s.heap.objs.size+1):: (us ++ ds)):=.cons rfl (r.append hd)
 have hl:(Value.ref (s.heap.objs.size+1):: us ++ ds).length=ps.length:=by
  have e:=r2.length
  rw [F.len _ _ _ _ hq] at e
  exact e.symm
 refine wpAny_call (RK (f:=f) I.kIn M.makes M.init (beq_iff_eq.mp M.fn) (codeAny_mono (F.run _ X.stack _ _ ⟨Value.ref (s.heap.objs.size+1):: us,[]⟩ (Value.ref (s.heap.objs.size+1):: (us ++ ds)) _ _ E (hr.make C us [])
  (I2.env0.make C us []) (hb _ (Value.ref (s.heap.objs.size+1):: us) I2.kIn hl) r2 hq) fun r s' hq'=>?_))
 cases r with
 | error e=>exact hx pins σ _ _ e s' I2 hq'
 | ok fl=>
  cases fl with
  | ret u=>
   obtain⟨v,H',I3,rv,ev,q3⟩:=I2.after hq'
   subst ev
   exact⟨rv,⟨V.ref (s.heap.objs.size+1),H',I3,rfl,q3⟩⟩
  | next=>exact False.elim hq'
  | brk=>exact False.elim hq'
  | cont=>exact False.elim hq'
theorem ik (M:Mk X.K C f) (F:iy X.prog X.w X.K X.mg X.base CX k f fd ps sp) (hr:jg (k+1) X.A) (hg:Gl X x) (hm:X.mg x=some (.ref C)) (hb:Binds X.K fd ps ds) (hd:Vals dvs ds) (hx:qd CX X E)
  (ha:PA X (e:: es) t) (hdb:(x == ("__debug__" :Str))=false:=by decide) (he:starEach (e:: es) X.env=(false,eval e X.env):: starEach es X.env:=by rfl) (hpl:(backTo pos (starEach es X.env)).any (·.1)=false:=by rfl):
  PE X (.Call (.Name x p) (e:: es) [] pos) (Yu C sp dvs E t):=by
 intro pins s σ H Q I h
 refine wpAny_Call_Name_kw (Hr I hg hm ?_ hdb)
 refine PySem.W.callWith_K (h₀:=X.base) I.ok.mod.kin M.kp (dH (ha pos pins s σ H _ I h) fun us s1 ⟨vs,H1,I1,r,q⟩=>⟨I1.kIn,?_⟩) he hpl
 exact QB M F hr hb hd hx I1 r q
end
section
variable {X:Cx} {CX:Ft} {k:Nat} {f C:Addr} {fd:FuncData} {ps ks:List Str} {sp:Sp} {E:XK} {x m:Str} {p pos apos kpos:Pos} {e o:Expr} {es:List Expr} {kws:List Keyword} {te ta:TE} {t tk:TA} {nm:Option Str}
variable {g:List Value->List Value->List Value} {gV:List V->List V->List V}
end
structure fX (N P:List Str) (sc:Scope):Prop where
 kind:sc.kind=.function
 co:sc.isCoroutine=false
 gen:sc.isGenerator=false
 nd:N.Nodup
 pre:N.take P.length=P
 par:∀x∈P,sc.names.lookup x=some .local∨sc.names.lookup x=some .cell
 nofree:∀y∈sc.names,y.2≠.free
theorem Fz {kindOf:Str->Option NameKind} {x:Str}:∀{binds:List (Str×Value)} {m:Str->Option Value},(∀v,(x,v)∉binds)->bindL kindOf binds m x=m x
 | [],_,_=>rfl
 | (n,v):: r,m,h=>by
  unfold bindL
  rw [Fz fun w hw=>h w (List.mem_cons_of_mem _ hw)]
  split
  ·have:x≠n:=by rintro rfl;exact h v List.mem_cons_self
   simp [this]
  ·rfl
theorem Fx {kindOf:Str->Option NameKind} {x:Str}:∀{binds:List (Str×Value)} {m:Str->Option Value},(∀v,(x,v)∉binds)->bindC kindOf binds m x=m x
 | [],_,_=>rfl
 | (n,v):: r,m,h=>by
  unfold bindC
  rw [Fx fun w hw=>h w (List.mem_cons_of_mem _ hw)]
  split
  ·rfl
  ·have:x≠n:=by rintro rfl;exact h v List.mem_cons_self
   simp [this]
theorem FJ {kindOf:Str->Option NameKind} {x:Str} {v:Value}:∀{P:List Str} {vs:List Value} {i:Nat} {m:Str->Option Value},P.Nodup->P[i]?=some x->vs[i]?=some v->kindOf x=some .local->
  bindL kindOf (P.zip vs) m x=some v
 | [],_,_,_,_,h,_,_=>by simp at h
 | _:: _,[],_,_,_,_,h,_=>by simp at h
 | p:: P,w:: vs,0,m,nd,h1,h2,hk=>by
  simp at h1 h2;subst h1;subst h2
  show bindL kindOf ((p,w):: P.zip vs) m p=_
  unfold bindL
  rw [Fz fun v hv=>(List.nodup_cons.mp nd).1 (List.of_mem_zip hv).1,if_pos hk]
  simp
 | p:: P,w:: vs,i+1,m,nd,h1,h2,hk=>by
  show bindL kindOf ((p,w):: P.zip vs) m x=_
  unfold bindL
  exact FJ (i:=i) (List.nodup_cons.mp nd).2 (by simpa using h1) (by simpa using h2) hk
theorem FT {kindOf:Str->Option NameKind} {x:Str} {v:Value}:∀{P:List Str} {vs:List Value} {i:Nat} {m:Str->Option Value},P.Nodup->P[i]?=some x->vs[i]?=some v->kindOf x≠some .local->
  bindC kindOf (P.zip vs) m x=some v
 | [],_,_,_,_,h,_,_=>by simp at h
 | _:: _,[],_,_,_,_,h,_=>by simp at h
 | p:: P,w:: vs,0,m,nd,h1,h2,hk=>by
  simp at h1 h2;subst h1;subst h2
  show bindC kindOf ((p,w):: P.zip vs) m p=_
  unfold bindC
  rw [Fx fun v hv=>(List.nodup_cons.mp nd).1 (List.of_mem_zip hv).1,if_neg hk]
  simp
 | p:: P,w:: vs,i+1,m,nd,h1,h2,hk=>by
  show bindC kindOf ((p,w):: P.zip vs) m x=_
  unfold bindC
  exact FT (i:=i) (List.nodup_cons.mp nd).2 (by simpa using h1) (by simpa using h2) hk
noncomputable def start (N:List Str) (vs:List V):St:=vs.map some ++ List.replicate (N.length - vs.length) none
noncomputable def KD (CX:Ft) (P:Program) (w:World) (K:PySem.W.Frag) (mg:Str->Option Value) (base:Heap) (N:List Str) (qual:Str) (scope:Scope) (f:Addr) (cd:Value) (A:Around) (outer:List Env) (s:Shared) (H:Hp) (E:XK):Cx where
 prog:=P
 w:=w
 K:=K
 mg:=mg
 base:=base
 A:=A.deeper (envOfC qual scope s.heap.objs.size f cd)
 N:=N
 s₀:=s
 H₀:=H
 env:=envOfC qual scope s.heap.objs.size f cd
 outer:=outer
 stack:=envOfC qual scope s.heap.objs.size f cd:: outer
 ex:=[]
 calm:=true
 fn:=fun _=>true
 pn:=[]
 xe:=fun e s'=>wpAny (model P w) (A.deeper (envOfC qual scope s.heap.objs.size f cd)) (leaving (envOfC qual scope s.heap.objs.size f cd) e) (fun _ s''=>CX outer H s E e s'') (fun e' s''=>CX outer H s E e' s'') s'
theorem Ke {sc:Scope} {n:Nat} {x:Str} (h:sc.names.lookup x=some .cell):∃c,(cellsFrom n sc.names []).lookup x=some c:=by
 have q:=PySem.W.cellsFrom_some sc.names n [] (.inl h)
 exact Option.isSome_iff_exists.mp q
theorem O1 {CX:Ft} {P:Program} {w:World} {K:PySem.W.Frag} {mg:Str->Option Value} {base:Heap} {N ps:List Str} {qual:Str} {scope:Scope} {f:Addr} {cd:Value} {A:Around} {outer:List Env} {s s1:Shared} {H:Hp} {E:XK} {us:List Value} {vs:List V}
  (S:fX N ps scope) (hd:A.handled=none) (e0:LR P w K mg base A outer s H) (hl:vs.length=ps.length) (r:Vals vs us)
  (x:InCallC s s.heap.objs.size (bindL (envOfC qual scope s.heap.objs.size f cd).kindOf (ps.zip us) fun _=>none) (cellsFrom (s.heap.objs.size+1) scope.names []) (bindC (envOfC qual scope s.heap.objs.size f cd).kindOf (ps.zip us) fun _=>none) s1):
  Inv (KD CX P w K mg base N qual scope f cd A outer s H E) [] (start N vs) H s1:=by
 have hpl:ps.length<=N.length:=by have:=congrArg List.length S.pre;rw [List.length_take] at this;omega
 obtain⟨h1,tk,rfl,hk⟩:=x.done
 have noA:∀b:Addr,b∉(KD CX P w K mg base N qual scope f cd A outer s H E).ex:=fun b z=>absurd (show b∈([]:List Addr) from z) (by simp)
 refine⟨⟨e0.mod,S.kind,rfl,rfl,Nat.le_refl _,fun y z c h1 h2=>?_,fun y hy=>?_,fun y c _ h=>?_,fun _=>hd,Around.frames_deeper e0.frames,.inr ⟨rfl,rfl⟩,fun b z=>absurd z (noA b),e0.bs,e0.bsz,fun b _ _=>noA b,fun b z=>absurd z (noA b),e0.funs,e0.frf⟩,
  rfl,e0.bare,Un.kept hk,⟨_,x.toInCall.ns,fun i y v h1 h2 h3=>?_⟩,fun y c h=>⟨_,x.cell y c h⟩,e0.hok.fresh (Nat.le_refl _),fun y c h=>?_,fun p hp=>absurd (show p∈([]:List (Addr×Obj)) from hp) (by simp),e0.hok.kept hk,?_⟩
 ·exact name_of_addr x.apart (PySem.mem_of_lookup h1) (PySem.mem_of_lookup h2)
 ·have hy:scope.names.lookup y=some .cell∨scope.names.lookup y=some .free:=hy
  rcases hy with hy | hy
  ·exact Ke hy
  ·exact absurd rfl (S.nofree _ (PySem.mem_of_lookup hy))
 ·exact Nat.le_of_lt (x.above y c (PySem.mem_of_lookup h))
 ·have hi:i <vs.length:=by
   unfold start at h2
   by_cases hi:i <vs.length
   ·exact hi
   ·rw [List.getElem?_append_right (by simpa using hi)] at h2
    rw [List.getElem?_replicate] at h2
    split at h2 <;> cases h2
  have ha:vs[i]?=some v:=by
   unfold start at h2
   rw [List.getElem?_append_left (by simpa using hi),List.getElem?_map] at h2
   cases e:vs[i]? with
   | none=>rw [e] at h2;cases h2
   | some a=>rw [e] at h2;cases h2;rfl
  obtain⟨u,hu,rv⟩:=r.get ha
  have hp:ps[i]?=some y:=by
   rw [<-S.pre,List.getElem?_take_of_lt (by omega)];exact h1
  have ndP:ps.Nodup:=by rw [<-S.pre];exact S.nd.sublist (List.take_sublist _ _)
  refine⟨u,rv,?_⟩
  rcases S.par y (List.mem_of_getElem? hp) with k | k
  ·exact .inl ⟨k,FJ ndP hp hu k⟩
  ·obtain⟨c,e⟩:=Ke (n:=s.heap.objs.size+1) k
   refine .inr ⟨.inl k,c,e,?_⟩
   have q:=x.cell y c e
   rw [FT ndP hp hu (by show scope.names.lookup y≠_;rw [k];decide)] at q
   exact q
 ·exact e0.hok.fresh (Nat.le_of_lt (x.above y c (PySem.mem_of_lookup h)))
 ·unfold start
  show _=N.length
  rw [List.length_append,List.length_map,List.length_replicate]
  omega
theorem Vt {CX:Ft} {P:Program} {w:World} {K:PySem.W.Frag} {mg:Str->Option Value} {base:Heap} {k:Nat} {f:Addr} {name qual:Str} {params:Arguments} {body:List Stmt} {scope:Scope} {dV kV doc pm cdv ct oc:Value} {an od:Option Addr}
  {osl:Array (Option Value)} {N ps:List Str} {sp:Sp} (lk:K.lookup f=some ⟨oc,od,.func (PySem.W.fnOf name qual params body scope dV kV doc pm an cdv ct),osl⟩) (hcd:PySem.W.codeIn K cdv qual=true) (S:fX N ps scope)
  (len:∀vs H Q E,sp vs H Q E->vs.length=ps.length)
  (hbody:∀(A:Around) (outer:List Env) (s:Shared) (H:Hp) (vs:List V) (Q:VK) (E:XK),jg k (A.deeper (envOfC qual scope s.heap.objs.size f cdv))->sp vs H Q E->
   ∃t,Ng (KD CX P w K mg base N qual scope f cdv A outer s H E) body t/\t { nx:=fun _ H'=>Q .non H',rt:=Q } (start N vs) H):
  iy P w K mg base CX (k+1) f (PySem.W.fnOf name qual params body scope dV kV doc pm an cdv ct) ps sp:=by
 refine⟨len,fun A outer s H args us vs Q E hr e0 hb r hsp=>?_⟩
 have hl:=len _ _ _ _ hsp
 have KX:K.In s.heap:=e0.mod.kin.keeps fun b o e=>(e0.bs b o e).1
 have lim:s.heap.NoLimit:=e0.mod.nolimit.keeps fun b o e=>(e0.bs b o e).1
 have hkind:∀y∈ps.zip us,scope.names.lookup y.1=some .local∨(scope.names.lookup y.1=some .cell/\((cellsFrom (s.heap.objs.size+1) scope.names []).lookup y.1).isSome=true):=fun⟨n,v⟩ hy=>by
  rcases S.par n (List.of_mem_zip hy).1 with q | q
  ·exact .inl q
  ·exact .inr ⟨q,PySem.W.cellsFrom_some _ _ _ (.inl q)⟩
 refine codeAny_call_function hr.depth (KX _ _ lk) rfl S.co S.gen rfl (PySem.W.codeRec_of KX hcd) (hb _ _ _ _ ?_)
 refine wpAny_newFunctionEnv_cells S.kind hkind fun env he s1 x=>?_
 subst he
 refine⟨lim.keeps x.toInCall.keep,codeAny_func ?_⟩
 obtain⟨t,ht,hq⟩:=hbody A outer s H vs Q E (hr.deeper _) hsp
 have I:Inv (KD CX P w K mg base N qual scope f cdv A outer s H E) [] (start N vs) H s1:=O1 S hr.hd e0 hl r x
 refine wpAny_mono (ht [] s1 (start N vs) H _ I hq) (fun fl s' hs=>?_) fun e s' hs=>hs
 have fin:∀{σ':St} {H':Hp} {v:V} {u:Value},Inv (KD CX P w K mg base N qual scope f cdv A outer s H E) [] σ' H' s'->RelV v u->Q v H'->CE outer P w H s Q u s':=
  fun {σ' H' v u} J rv q=>⟨v,H',J.os,J.bare,J.base,J.hok,rv,q⟩
 cases fl with
 | ret u=>
  obtain⟨v,σ',H',J,rv,q⟩:=hs
  exact fin J rv q
 | next=>
  obtain⟨σ',H',J,q⟩:=hs
  exact fin (v:=V.non) (u:=Value.none) J rfl q
 | brk=>
  obtain⟨_,_,_,q⟩:=hs
  exact False.elim q
 | cont=>
  obtain⟨_,_,_,q⟩:=hs
  exact False.elim q
section
variable {X:Cx} {x:Str} {p pos:Pos} {e:Expr} {es:List Expr} {t:TA} {id T:String} {r:List V->Hp->VK->Prop}
noncomputable def Z0 (r:List V->Hp->VK->Prop) (t:TA):TE:=fun σ H Q=>t σ H fun vs H1=>r vs H1 Q
theorem bu (hc:jY X (.builtin id) r) (hg:Gl X x) (hm:X.mg x=none) (hv:bootBuiltins x=some (.builtin id)) (ha:PA X (e:: es) t) (hn:x≠ "__name__" :=by decide) (hdb:(x == ("__debug__" :Str))=false:=by decide)
  (he:starEach (e:: es) X.env=(false,eval e X.env):: starEach es X.env:=by rfl) (hpl:(backTo pos (starEach es X.env)).any (·.1)=false:=by rfl):PE X (.Call (.Name x p) (e:: es) [] pos) (Z0 r t):=by
 intro pins s σ H Q I h
 refine wpAny_Call_Name_kw (HJ I hg hm hv ?_ hn hdb)
 exact PyProof.Rows.callWith_builtin1 (dH (ha pos pins s σ H _ I h) fun us s1 ⟨vs,H1,I1,r1,q1⟩=>hc pins s1 σ H1 vs us Q I1 r1 q1) he hpl
theorem eY (hc:jY X (.type T) r) (hg:Gl X x) (hm:X.mg x=none) (hv:bootBuiltins x=some (.type T)) (ha:PA X (e:: es) t) (hn:x≠ "__name__" :=by decide) (hdb:(x == ("__debug__" :Str))=false:=by decide)
  (he:starEach (e:: es) X.env=(false,eval e X.env):: starEach es X.env:=by rfl) (hpl:(backTo pos (starEach es X.env)).any (·.1)=false:=by rfl):PE X (.Call (.Name x p) (e:: es) [] pos) (Z0 r t):=by
 intro pins s σ H Q I h
 refine wpAny_Call_Name_kw (HJ I hg hm hv ?_ hn hdb)
 exact PyProof.Rows.callWith_type1 (dH (ha pos pins s σ H _ I h) fun us s1 ⟨vs,H1,I1,r1,q1⟩=>hc pins s1 σ H1 vs us Q I1 r1 q1) he hpl
end
end L2
namespace HT
open PySem PyProof.Rows
section
open PySem.SeqAt
open PySem.AutoSeq1 (wpAny_loadPart')
open PySem.MeetsSeq PySem.MeetsSeq2 PySem.MeetsSeq3
end
section
variable {prog:Program} {w:World} {A:Around} {E:Value->Shared->Prop} {s:Shared}
noncomputable def Kd (n d:Nat):Option Int->Nat
 | none=>d
 | some v=>if v <0 then(v+(n:Int)).toNat else min v.toNat n
theorem Ef (n d:Nat):Kd n d none=d:=rfl
theorem yl (n d k:Nat):Kd n d (some (k:Int))=min k n:=by
 show(if (k:Int) <0 then((k:Int)+(n:Int)).toNat else min (k:Int).toNat n)=min k n
 rw [if_neg (by omega),Int.toNat_natCast]
end
end HT
namespace L2
open PySem PySem.Spec PyProof.Rows
noncomputable abbrev TO:=St->Hp->(Option Int->Hp->Prop)->Prop
noncomputable def PO (X:Cx) (e:Option Expr) (t:TO):Prop:=
 ∀(pins:List (Addr×Obj)) (s:Shared) (σ:St) (H:Hp) (Q:Option Int->Hp->Prop),Inv X pins σ H s->t σ H Q->
  wpAny (model X.prog X.w) X.A (evalPart e X.env) (fun u s'=>∃o H',Inv X pins σ H' s'/\IsPart u o/\Q o H') X.xe s
noncomputable def UV:TO:=fun _ H Q=>Q none H
inductive QC (Q:Option Int->Hp->Prop) (x:V) (H1:Hp):Prop where
 | mk:∀i,x=.int i->Q (some i) H1->QC Q x H1
noncomputable def Yr (t:TE):TO:=fun σ H Q=>t σ H fun x H1=>QC Q x H1
section
variable {X:Cx} {e:Expr} {te:TE} {lo hi:Option Expr} {tl th:TO} {pos p2:Pos}
theorem rD:PO X none UV:=by
 intro pins s σ H Q I h
 rw [evalPart_none]
 exact wpAny_pure ⟨none,H,I,.none,h⟩
theorem jT (h:PE X e te):PO X (some e) (Yr te):=by
 intro pins s σ H Q I hw
 rw [evalPart_some]
 refine dH (h pins s σ H _ I hw) fun u s1 hpt=>?_
 obtain⟨x,H1,I1,r1,q1⟩:=hpt
 obtain⟨i,rfl,q⟩:=q1
 obtain⟨t,rfl⟩:=r1
 exact⟨some i,H1,I1,.int i t,q⟩
noncomputable def Zt (X:Cx) (r:V->Option Int->Option Int->Hp->VK->Prop):Prop:=
 ∀(pins:List (Addr×Obj)) (s:Shared) (σ:St) (H:Hp) (x:V) (v vl vu:Value) (lo hi:Option Int) (sl:Addr) (Q:VK),Inv X pins σ H s->RelV x v->s.heap.IsSliceOf sl vl vu .none->IsPart vl lo->IsPart vu hi->r x lo hi H Q->
  ∃T id,typeLookup (.type T) "__getitem__" =pure (some (.builtin id))/\s.TypeIs v T/\wpAny (model X.prog X.w) X.A (getItem v (.ref sl)) (EP X pins σ Q) X.xe s
noncomputable def tSl (r:V->Option Int->Option Int->Hp->VK->Prop) (te:TE) (tl th:TO):TE:=fun σ H Q=>te σ H fun x H1=>tl σ H1 fun l H2=>th σ H2 fun u H3=>r x l u H3 Q
theorem jK {r:V->Option Int->Option Int->Hp->VK->Prop} (hr:Zt X r) (he:PE X e te) (hl:PO X lo tl) (hu:PO X hi th):PE X (.Subscript e (.Slice lo hi none p2) pos) (tSl r te tl th):=by
 intro pins s σ H Q I h
 refine Subscript_ (dH (he pins s σ H _ I h) fun v s1 hpt=>?_)
 obtain⟨x,H1,I1,r1,q1⟩:=hpt
 refine wpAny_Slice (dH (hl pins s1 σ H1 _ I1 q1) fun vl s2 ⟨l,H2,I2,pl,q2⟩=>dH (hu pins s2 σ H2 _ I2 q2) fun vu s3 hpt=>?_)
 obtain⟨u,H3,I3,pu,q3⟩:=hpt
 rw [evalPart_none]
 refine wpAny_pure ?_
 have I4:Inv X pins σ H3 { s3 with heap:=s3.heap.push { cls:=.type "slice",data:=.fields #[vl,vu,.none] } }:=I3.kept (t':=s3.toks) fun b ob q=>Heap.get?_push_of_some _ q
 obtain⟨T,id,hT,ht,hg⟩:=hr pins { s3 with heap:=s3.heap.push { cls:=.type "slice",data:=.fields #[vl,vu,.none] } } σ H3 x v vl vu l u s3.heap.objs.size Q I4 r1 (Heap.IsSliceOf.new ..) pl pu q3
 show wpAny (model X.prog X.w) X.A (subscriptTail e (.Slice lo hi none p2) v (.ref s3.heap.objs.size)) (EP X pins σ Q) X.xe { s3 with heap:=s3.heap.push { cls:=.type "slice",data:=.fields #[vl,vu,.none] } }
 exact tail_any (ops:=[.ref s3.heap.objs.size,v]) ht hT hg (by with_unfolding_all rfl)
noncomputable def xX (xs:List V) (lo hi:Option Int):List V:=(xs.drop (HT.Kd xs.length 0 lo)).take (HT.Kd xs.length xs.length hi - HT.Kd xs.length 0 lo)
theorem Ka (xs:List V) (lo hi:Option Int):(xX xs lo hi).length<=xs.length:=by
 unfold xX
 rw [List.length_take,List.length_drop]
 omega
end
noncomputable def Xl (n:Nat) (i:Int):Option Nat:=if 0<=i then(if i <n then some i.toNat else none) else if -(n:Int)<=i then some (i+n).toNat else none
noncomputable def Fi {α:Type} (xs:List α) (i:Int):Option α:=(Xl xs.length i).bind fun j=>xs[j]?
theorem UG {n:Nat} {i:Int} {j:Nat} (h:Xl n i=some j):seqIndex? i n=some j/\j <n/\ -(n:Int)<=i/\i <n:=by
 unfold Xl at h
 by_cases h0:0<=i
 ·rw [if_pos h0] at h
  by_cases h1:i <n
  ·rw [if_pos h1] at h
   have e:i.toNat=j:=Option.some.inj h
   exact⟨by rw [seqIndex_of h0 h1,e],by omega,by omega,h1⟩
  ·rw [if_neg h1] at h;cases h
 ·rw [if_neg h0] at h
  by_cases h1: -(n:Int)<=i
  ·rw [if_pos h1] at h
   have e:(i+n).toNat=j:=Option.some.inj h
   exact⟨by rw [seqIndex_neg (by omega) h1,e],by omega,h1,by omega⟩
  ·rw [if_neg h1] at h;cases h
theorem Ja {α:Type} {xs:List α} {i:Int} {v:α} (h:Fi xs i=some v):∃j,seqIndex? i xs.length=some j/\xs[j]?=some v/\j <xs.length/\ -(xs.length:Int)<=i/\i <xs.length:=by
 unfold Fi at h
 cases e:Xl xs.length i with
 | none=>rw [e] at h;cases h
 | some j=>
  rw [e] at h
  obtain⟨h1,h2,h3,h4⟩:=UG e
  exact⟨j,h1,h,h2,h3,h4⟩
theorem aJ {α:Type} {xs:List α} {j:Nat} {v:α} (h:xs[j]?=some v):Fi xs (j:Int)=some v:=by
 have hj:j <xs.length:=(List.getElem?_eq_some_iff.mp h).1
 have e:Xl xs.length (j:Int)=some j:=by
  unfold Xl
  rw [if_pos (by omega),if_pos (by omega)];simp
 unfold Fi;rw [e];exact h
noncomputable def M7 (b:Expr):Prop:=∀o i,subscripted b false o i=operate [o,i] (getItem o i)
noncomputable def P0 (X:Cx) (r:R2):Prop:=
 ∀(value slice:Expr) (pins:List (Addr×Obj)) (s:Shared) (σ:St) (H:Hp) (x y:V) (v u:Value) (Q:VK),Inv X pins σ H s->RelV x v->RelV y u->r x y H Q->
  subscripted slice false v u=operate [v,u] (getItem v u)->wpAny (model X.prog X.w) X.A (subscriptTail value slice v u) (EP X pins σ Q) X.xe s
noncomputable def Zw (X:Cx) (id:String) (r:V->List V->Hp->VK->Prop):Prop:=
 ∀(pins:List (Addr×Obj)) (s:Shared) (σ:St) (H:Hp) (x:V) (xs:List V) (v:Value) (us:List Value) (Q:VK),Inv X pins σ H s->RelV x v->Vals xs us->r x xs H Q->
  wpAny (model X.prog X.w) X.A (call (.builtin id) (v:: us)) (EP X pins σ Q) X.xe s
section
variable {X:Cx} {a b:Expr} {ta tb:TE} {pos:Pos}
theorem P0.or {r r':R2} (h:P0 X r) (h':P0 X r'):P0 X (fun x y H Q=>r x y H Q∨r' x y H Q):=by
 intro value slice pins s σ H x y v u Q I rx ry q hs
 rcases q with q | q
 ·exact h value slice pins s σ H x y v u Q I rx ry q hs
 ·exact h' value slice pins s σ H x y v u Q I rx ry q hs
theorem aO {r:R2} (hr:P0 X r) (ha:PE X a ta) (hb:PE X b tb) (hs:M7 b):PE X (.Subscript a b pos) (Rv r ta tb):=by
 intro pins s σ H Q I h
 exact Subscript_ (Wh ha hb I h fun v u s2 x y H2 I2 rx ry q=>hr a b pins s2 σ H2 x y v u Q I2 rx ry q (hs _ _))
inductive VH (K:PySem.W.Frag) (x:V) (y:V) (H:Hp) (Q:VK):Prop where
 | mk:∀p xs i v,x=.ref p->y=.int i->bF K H p xs->Fi xs i=some v->Q v H->VH K x y H Q
noncomputable def WX (K:PySem.W.Frag):R2:=fun x y H Q=>VH K x y H Q
inductive VN (K:PySem.W.Frag) (x:V) (y:V) (H:Hp) (Q:VK):Prop where
 | mk:∀p xs i v,x=.ref p->y=.int i->eN K H p xs->Fi xs i=some v->Q v H->VN K x y H Q
noncomputable def Wf (K:PySem.W.Frag):R2:=fun x y H Q=>VN K x y H Q
inductive Vj (x:V) (y:V) (H:Hp) (Q:VK):Prop where
 | mk:∀z i c,x=.str z->y=.int i->z.length<=sizeLine->Fi z.cps.toList i=some c->Q (.str ⟨#[c]⟩) H->Vj x y H Q
noncomputable def Xx:R2:=fun x y H Q=>Vj x y H Q
theorem aX:P0 X (WX X.K):=by
 intro value slice pins s σ H x y v u Q I rx ry h hs
 obtain⟨p,xs,i,z,rfl,rfl,hq,he,q⟩:=h
 cases rx
 obtain⟨t,rfl⟩:=ry
 obtain⟨its,r,pl,hz⟩:=I.list hq
 obtain⟨j,h1,h2,h3,h4,h5⟩:=Ja he
 obtain⟨w,ew,rw'⟩:=r.get h2
 have hl:=r.length
 have hn:=Iz
 have fin:EP X pins σ Q w s:=⟨z,H,I,rw',q⟩
 by_cases h0:0<=i
 ·have hj:i.toNat=j:=by
   rw [seqIndex_of h0 h5] at h1
   exact Option.some.inj h1
  exact item_listR pl.isList h0 (by omega) (by rw [hj];simpa using ew) fin hs
 ·have hj:(i+(its.toArray.size:Int)).toNat=j:=by
   rw [seqIndex_neg (by omega) h4] at h1
   rw [List.size_toArray,<-hl]
   exact Option.some.inj h1
  exact subscriptTail_builtinR (x:=w) pl.isList.typeIs slot_list_getitem.lookup
   (wpAny_getItem_list_neg (Q:=fun r s'=>r=w/\EP X pins σ Q r s') pl.isList (by omega) (by rw [List.size_toArray] <;> omega) (by omega) (by rw [hj];simpa using ew) ⟨rfl,fin⟩) hs
theorem bT:P0 X (Wf X.K):=by
 intro value slice pins s σ H x y v u Q I rx ry h hs
 obtain⟨p,xs,i,z,rfl,rfl,hq,he,q⟩:=h
 cases rx
 obtain⟨t,rfl⟩:=ry
 obtain⟨its,r,pl,hz⟩:=I.tuple hq
 obtain⟨j,h1,h2,h3,h4,h5⟩:=Ja he
 obtain⟨w,ew,rw'⟩:=r.get h2
 have hl:=r.length
 have hn:=Iz
 have fin:EP X pins σ Q w s:=⟨z,H,I,rw',q⟩
 exact subscriptTail_builtinR (x:=w) pl.typeIs slot_tuple_getitem.lookup
  (getItem_tuple (j:=j) (Q:=fun r s'=>r=w/\EP X pins σ Q r s') pl (by omega) (by omega) (by rw [List.size_toArray,<-hl];exact h1) (by simpa using ew) ⟨rfl,fin⟩) hs
theorem CW:P0 X Xx:=by
 intro value slice pins s σ H x y v u Q I rx ry h hs
 obtain⟨z,i,c,rfl,rfl,hz,he,q⟩:=h
 obtain⟨t,rfl⟩:=rx
 obtain⟨t',rfl⟩:=ry
 obtain⟨j,h1,h2,h3,h4,h5⟩:=Ja he
 have hl:z.cps.toList.length=z.length:=by simp [Str.length]
 rw [hl] at h1 h4 h5
 have hn:=Iz
 exact tail_any (typeIs_str s z t) slot_str_getitem.lookup (getItem_str (c:=c) (by
  have e1:decide (i < -(2 ^ 63:Int))=false:=decide_eq_false (by omega)
  have e2:decide (i≥2 ^ 63)=false:=decide_eq_false (by omega)
  rw [e1,e2,Bool.or_false]) (by rw [h1];simpa using h2) ⟨.str ⟨#[c]⟩,H,I.tok _,⟨_,rfl⟩,q⟩) hs
noncomputable def rIx (K:PySem.W.Frag):R2:=fun x y H Q=>WX K x y H Q∨Wf K x y H Q∨Xx x y H Q
theorem Mi:P0 X (rIx X.K):=aX.or (bT.or CW)
theorem IW (lo hi:Option Int) (n:Nat):(sliceBounds lo hi none n).1=((HT.Kd n 0 lo:Nat):Int)/\(sliceBounds lo hi none n).2.1=((HT.Kd n n hi:Nat):Int)/\(sliceBounds lo hi none n).2.2=1:=by
 refine⟨?_,?_,rfl⟩
 ·cases lo with
  | none=>simp [sliceBounds,HT.Kd]
  | some i=>
   simp only [sliceBounds,HT.Kd,Option.getD_none,show(1:Int) >0 by decide,if_true]
   by_cases h:i <0
   ·simp only [h,if_true] <;> omega
   ·simp only [h,if_false] <;> omega
 ·cases hi with
  | none=>simp [sliceBounds,HT.Kd]
  | some i=>
   simp only [sliceBounds,HT.Kd,Option.getD_none,show(1:Int) >0 by decide,if_true]
   by_cases h:i <0
   ·simp only [h,if_true] <;> omega
   ·simp only [h,if_false] <;> omega
theorem Fe (its:List Value) (lo hi:Option Int):slicePick its.toArray lo hi none=((its.drop (HT.Kd its.length 0 lo)).take (HT.Kd its.length its.length hi - HT.Kd its.length 0 lo)).toArray:=by
 obtain⟨h1,h2,h3⟩:=IW lo hi its.toArray.size
 unfold slicePick
 rw [h1,h2,h3]
 simp only [sliceRange_one,pick_run,List.size_toArray] <;> rfl
inductive VJ (K:PySem.W.Frag) (x:V) (lo:Option Int) (hi:Option Int) (H:Hp) (Q:VK):Prop where
 | mk:∀a xs,x=.ref a->bF K H a xs->(∀p,H p=none->Q (.ref p) (upd H p (.lst (xX xs lo hi))))->VJ K x lo hi H Q
noncomputable def Ze (K:PySem.W.Frag):V->Option Int->Option Int->Hp->VK->Prop:=fun x lo hi H Q=>VJ K x lo hi H Q
theorem rU:Zt X (Ze X.K):=by
 intro pins s σ H x v vl vu lo hi sl Q I rx hs pl pu h
 obtain⟨a,xs,rfl,hx,q⟩:=h
 cases rx
 obtain⟨its,r,ht,hz⟩:=I.list hx
 have hlen:=r.length
 refine⟨"list",_,slot_list_getitem.lookup,ht.isList.typeIs,?_⟩
 refine wpAny_getItem_list_slice ht.isList hs pl pu .none (by simp) ?_ (by rw [List.size_toArray] <;> omega)
 rw [Fe,<-hlen]
 refine⟨.ref s.heap.objs.size,_,I.laid (t':=s.toks) (o:=.lst (xX xs lo hi)) (fun b ob q=>Heap.get?_push_of_some _ q) (Nat.le_refl _) ?_,rfl,q _ (I.hok.fresh (Nat.le_refl _))⟩
 exact⟨Nat.le_trans (Ka xs lo hi) hz,_,0,(r.drop (HT.Kd xs.length 0 lo)).take (HT.Kd xs.length xs.length hi - HT.Kd xs.length 0 lo),Heap.get?_push_size _ rfl⟩
noncomputable def mD:V->Bool
 | .non=>true
 | .bl _=>true
 | .int _=>true
 | .str _=>true
 | _=>false
noncomputable def Kv:V->V->Bool
 | .non,.non=>true
 | .bl a,.bl b=>a == b
 | .bl a,.int b=>(if a then 1 else 0) == b
 | .int a,.bl b=>a == (if b then 1 else 0)
 | .int a,.int b=>a == b
 | .str a,.str b=>a == b
 | _,_=>false
theorem WQ {A:Around} {s:Shared} {y x:V} {u v:Value} (ry:RelV y u) (rx:RelV x v) (fy:mD y=true) (fx:mD x=true):SeqAt.EqAt A s u v (Kv y x):=by
 cases y with
 | non=>
  cases ry
  cases x with
  | non=>cases rx;exact SeqAt.EqAt.same _
  | bl b=>cases rx;exact SeqAt.EqAt.none_bool b
  | int b=>obtain⟨t,rfl⟩:=rx;exact SeqAt.EqAt.none_int b t
  | str b=>obtain⟨t,rfl⟩:=rx;exact SeqAt.EqAt.none_str b t
  | _=>exact absurd (show false=true from fx) Bool.false_ne_true
 | bl a=>
  cases ry
  cases x with
  | non=>cases rx;exact SeqAt.EqAt.bool_none a
  | bl b=>cases rx;exact SeqAt.EqAt.bool_bool a b
  | int b=>obtain⟨t,rfl⟩:=rx;exact SeqAt.EqAt.bool_int a b t
  | str b=>obtain⟨t,rfl⟩:=rx;exact SeqAt.EqAt.bool_str a b t
  | _=>exact absurd (show false=true from fx) Bool.false_ne_true
 | int a=>
  obtain⟨t',rfl⟩:=ry
  cases x with
  | non=>cases rx;exact SeqAt.EqAt.int_none a t'
  | bl b=>cases rx;exact SeqAt.EqAt.int_bool a t' b
  | int b=>obtain⟨t,rfl⟩:=rx;exact SeqAt.EqAt.int_int a t' b t
  | str b=>obtain⟨t,rfl⟩:=rx;exact SeqAt.EqAt.int_str a t' b t
  | _=>exact absurd (show false=true from fx) Bool.false_ne_true
 | str a=>
  obtain⟨t',rfl⟩:=ry
  cases x with
  | non=>cases rx;exact SeqAt.EqAt.str_none a t'
  | bl b=>cases rx;exact SeqAt.EqAt.str_bool a t' b
  | int b=>obtain⟨t,rfl⟩:=rx;exact SeqAt.EqAt.str_int a t' b t
  | str b=>obtain⟨t,rfl⟩:=rx;exact SeqAt.EqAt.str_str a t' b t
  | _=>exact absurd (show false=true from fx) Bool.false_ne_true
 | _=>exact absurd (show false=true from fy) Bool.false_ne_true
noncomputable def Lk (x:V) (u:Value):Bool:=match u with
 | .none=>Kv .non x
 | .bool b=>Kv (.bl b) x
 | .int i _=>Kv (.int i) x
 | .str z _=>Kv (.str z) x
 | _=>false
theorem Rg {x y:V} {u:Value} (r:RelV y u) (f:mD y=true):Lk x u=Kv y x:=by
 cases y with
 | non=>cases r;rfl
 | bl b=>cases r;rfl
 | int i=>obtain⟨t,rfl⟩:=r;rfl
 | str z=>obtain⟨t,rfl⟩:=r;rfl
 | _=>exact absurd (show false=true from f) Bool.false_ne_true
theorem xM {x:V}:∀{xs:List V} {us:List Value},Vals xs us->xs.all mD=true->us.any (Lk x)=xs.any fun y=>Kv y x
 | _,_,.nil,_=>rfl
 | y:: xs,u:: us,.cons r t,f=>by
  rw [List.all_cons,Bool.and_eq_true] at f
  rw [List.any_cons,List.any_cons,Rg r f.1,xM t f.2]
theorem uP {A:Around} {s:Shared} {x:V} {v:Value} (rx:RelV x v) (fx:mD x=true):∀{xs:List V} {us:List Value},Vals xs us->xs.all mD=true->∀u∈us,SeqAt.EqAt A s u v (Lk x u)
 | _,_,.nil,_=>fun u hu=>by cases hu
 | y:: xs,u:: us,.cons r t,f=>fun u' hu=>by
  rw [List.all_cons,Bool.and_eq_true] at f
  rcases List.mem_cons.mp hu with rfl | hu
  ·rw [Rg r f.1];exact WQ r rx f.1 fx
  ·exact uP rx fx t f.2 u' hu
noncomputable def inV (x:V) (xs:List V):Bool:=xs.any fun y=>Kv y x
inductive Xu (K:PySem.W.Frag) (neg:Bool) (x:V) (y:V) (H:Hp) (Q:VK):Prop where
 | mk:∀p xs,y=.ref p->((bF K H p xs∨eN K H p xs))->mD x=true->xs.all mD=true->(Q (.bl (if neg then !inV x xs else inV x xs)) H)->Xu K neg x y H Q
noncomputable def V4 (K:PySem.W.Frag) (neg:Bool):R2:=fun x y H Q=>Xu K neg x y H Q
theorem vo:wH X (compareOp .In) (V4 X.K false):=by
 intro pins s σ H x y v u Q I rx ry h
 obtain⟨p,xs,rfl,hq,fx,fs,q⟩:=h
 cases ry
 rcases hq with hq | hq
 ·obtain⟨its,r,pl,hz⟩:=I.list hq
  refine SeqAt.in_listAt (Lk x) pl.isList (fun w hw=>uP rx fx r fs w (by simpa using hw)) ⟨.bl _,H,I,rfl,?_⟩
  rw [show its.toArray.any (Lk x)=its.any (Lk x) by simp,xM r fs]
  exact q
 ·obtain⟨its,r,pl,hz⟩:=I.tuple hq
  refine SeqAt.in_tupleAt (Lk x) pl (fun w hw=>uP rx fx r fs w (by simpa using hw)) ⟨.bl _,H,I,rfl,?_⟩
  rw [show its.toArray.any (Lk x)=its.any (Lk x) by simp,xM r fs]
  exact q
theorem fP:wH X (compareOp .NotIn) (V4 X.K true):=by
 intro pins s σ H x y v u Q I rx ry h
 obtain⟨p,xs,rfl,hq,fx,fs,q⟩:=h
 cases ry
 rcases hq with hq | hq
 ·obtain⟨its,r,pl,hz⟩:=I.list hq
  refine SeqAt.notIn_listAt (Lk x) pl.isList (fun w hw=>uP rx fx r fs w (by simpa using hw)) ⟨.bl _,H,I,rfl,?_⟩
  rw [show its.toArray.any (Lk x)=its.any (Lk x) by simp,xM r fs]
  exact q
 ·obtain⟨its,r,pl,hz⟩:=I.tuple hq
  refine SeqAt.notIn_tupleAt (Lk x) pl (fun w hw=>uP rx fx r fs w (by simpa using hw)) ⟨.bl _,H,I,rfl,?_⟩
  rw [show its.toArray.any (Lk x)=its.any (Lk x) by simp,xM r fs]
  exact q
theorem yM:jY X (.type "list") (fun xs H Q=>∃p ys,xs=[.ref p]/\(bF X.K H p ys∨eN X.K H p ys)/\∀l,H l=none->Q (.ref l) (upd H l (.lst ys))):=by
 intro pins s σ H xs us Q I r h
 obtain⟨p,ys,rfl,hq,q⟩:=h
 obtain⟨u,rfl,rx⟩:=vals1 r
 cases rx
 have fin:∀(its:List Value),Vals ys its->ys.length<=sizeLine->∀(h':Heap) (c':Nat),(∀b o',s.heap.get? b=some o'->h'.get? b=some o')->
   h'.get? s.heap.objs.size=some { cls:=.type "list",dict:=none,data:=.seq its.toArray c',slots:=#[] }->EP X pins σ Q (.ref s.heap.objs.size) { s with heap:=h' }:=fun its r' hz h' c' kp e=>
  ⟨.ref s.heap.objs.size,_,I.laid (t':=s.toks) kp (Nat.le_refl _) (show fW X.prog X.w _ h' _ (.lst ys) from⟨hz,its,c',r',e⟩),rfl,q _ (I.hok.fresh (Nat.le_refl _))⟩
 rcases hq with hq | hq
 ·obtain⟨its,r',pl,hz⟩:=I.list hq
  have hlen:=r'.length
  obtain⟨o,ho,hc,n,hd⟩:=pl.isList
  exact call_list_seq p (.inl rfl) ho hc hd (fun h' c' kp e=>fin its r' hz h' c' kp e) (by simp only [List.size_toArray] <;> omega)
 ·obtain⟨its,r',pl,hz⟩:=I.tuple hq
  have hlen:=r'.length
  obtain⟨o,ho,hc,n,hd⟩:=pl
  exact call_list_seq p (.inr rfl) ho hc hd (fun h' c' kp e=>fin its r' hz h' c' kp e) (by simp only [List.size_toArray] <;> omega)
theorem Ff:jY X (.type "tuple") (fun xs H Q=>∃p ys,xs=[.ref p]/\((bF X.K H p ys/\∀l,H l=none->Q (.ref l) (upd H l (.tup ys)))∨(eN X.K H p ys/\Q (.ref p) H))):=by
 intro pins s σ H xs us Q I r h
 obtain⟨p,ys,rfl,h⟩:=h
 obtain⟨u,rfl,rx⟩:=vals1 r
 cases rx
 rcases h with ⟨hq,q⟩ | ⟨hq,q⟩
 ·obtain⟨its,r',pl,hz⟩:=I.list hq
  have hlen:=r'.length
  refine call_tuple_list pl.isList (fun h' kp=>?_) (by simp only [List.size_toArray] <;> omega)
  have I1:Inv X pins σ H { s with heap:=h' }:=I.kept (t':=s.toks) kp
  have I2:Inv X pins σ (upd H h'.objs.size (.tup ys)) { s with heap:=h'.push { cls:=.type "tuple",data:=.seq its.toArray } }:=
   I1.laid (t':=s.toks) (fun b o e=>Heap.get?_push_of_some _ e) (Nat.le_refl _) (show fW X.prog X.w _ _ _ (.tup ys) from⟨hz,its,r',IsTup.new _ _⟩)
  exact⟨.ref h'.objs.size,_,I2,rfl,q _ (I1.hok.fresh (Nat.le_refl _))⟩
 ·obtain⟨its,r',pl,hz⟩:=I.tuple hq
  exact call_tuple_same pl ⟨.ref p,H,I,rfl,q⟩
noncomputable def Zi (K:PySem.W.Frag) (T:String) (x:V) (H:Hp):Prop:=match x with
 | .str _=>T= "str"
 | .int _=>T= "int"
 | .ref p=>(T= "list" /\∃xs,bF K H p xs)∨(T= "tuple" /\∃o,K.lookup p=some o/\o.cls=.type "tuple" /\o.dict=none)∨
   (T= "dict" /\((∃kvs,H p=some (.dK kvs))∨∃kvs,H p=some (.dT kvs)))∨(T= "set" /\∃S n,H p=some (.set S n))
 | _=>False
theorem QS {pins:List (Addr×Obj)} {σ:St} {H:Hp} {s:Shared} {T:String} {x:V} {v:Value} (I:Inv X pins σ H s) (r:RelV x v) (ty:Zi X.K T x H):
  s.TypeIs v T/\∀a,v=.ref a->∃ob,s.heap.get? a=some ob/\ob.dict=none:=by
 cases x with
 | str z=>
  obtain⟨t,rfl⟩:=r
  cases (show T= "str" from ty)
  exact⟨typeIs_str s z t,fun _ e=>nomatch e⟩
 | int i=>
  obtain⟨t,rfl⟩:=r
  cases (show T= "int" from ty)
  exact⟨typeIs_int s i t,fun _ e=>nomatch e⟩
 | ref p=>
  cases r
  rcases ty with ⟨rfl,xs,hq⟩ | ⟨rfl,o,hk,hc,hd⟩ | ⟨rfl,hk⟩ | ⟨rfl,S,n,hk⟩
  ·obtain⟨its,_,pl,_⟩:=I.list hq
   refine⟨pl.isList.typeIs,fun a e=>?_⟩
   cases e
   obtain⟨o,n,e,c,hd,_⟩:=pl
   exact⟨o,e,hd⟩
  ·refine⟨⟨o,I.kIn p o hk,hc⟩,fun a e=>?_⟩
   cases e
   exact⟨o,I.kIn _ o hk,hd⟩
  ·have z:∃o,s.heap.get? p=some o/\o.ExactDict:=by
    rcases hk with ⟨kvs,hk⟩ | ⟨kvs,hk⟩
    ·obtain⟨_,_,_,_,o,_,_,e,ex,_⟩:=I.hok p _ hk
     exact⟨o,e,ex⟩
    ·obtain⟨_,_,_,_,o,_,_,e,ex,_⟩:=I.hok p _ hk
     exact⟨o,e,ex⟩
   obtain⟨o,e,ex⟩:=z
   refine⟨⟨o,e,ex.1⟩,fun a e2=>?_⟩
   cases e2
   exact⟨o,e,ex.2.1⟩
  ·obtain⟨o,_,_,_,e,ex,_⟩:=I.hok p _ hk
   refine⟨⟨o,e,ex.1⟩,fun a e2=>?_⟩
   cases e2
   exact⟨o,e,ex.2.1⟩
 | _=>exact False.elim ty
noncomputable def Zg (K:PySem.W.Frag) (T:String) (r:V->List V->Hp->VK->Prop) (to:TE):TE:=fun σ H Q=>to σ H fun x H1=>Zi K T x H1/\r x [] H1 Q
noncomputable def Z4 (K:PySem.W.Frag) (T:String) (r:V->List V->Hp->VK->Prop) (to:TE) (t:TA):TE:=fun σ H Q=>to σ H fun x H1=>Zi K T x H1/\t σ H1 fun xs H2=>r x xs H2 Q
variable {o e:Expr} {es:List Expr} {to:TE} {t:TA} {name:Str} {apos cpos:Pos} {T id:String} {r:V->List V->Hp->VK->Prop}
theorem Hy (pa:PlainAttrs T) (slot:Slot T name id) (hty:typeOf (.builtin id)=pure (.type "method_descriptor")) (hm:Zw X id r) (ho:PE X o to)
  (hbase:attributeBase o name X.env (eval o X.env)=eval o X.env:=by rfl) (hline:(apos.endLine == cpos.line)=true:=by rfl):PE X (.Call (.Attribute o name apos) [] [] cpos) (Zg X.K T r to):=by
 intro pins s σ H Q I h
 refine wpAny_Call_method0_late hbase hline (dH (ho pins s σ H _ I h) fun v s1 hpt=>?_)
 obtain⟨x,H1,I1,r1,ty,q1⟩:=hpt
 obtain⟨h1,h2⟩:=QS I1 r1 ty
 exact⟨T,id,pa,slot,hty,h1,h2,Calls.callWith_builtin rfl (PySem.evalArgs_none (hm pins s1 σ H1 x [] v [] Q I1 r1 .nil q1))⟩
theorem tW (pa:PlainAttrs T) (slot:Slot T name id) (hty:typeOf (.builtin id)=pure (.type "method_descriptor")) (hm:Zw X id r) (ho:PE X o to) (ha:PA X (e:: es) t)
  (hbase:attributeBase o name X.env (eval o X.env)=eval o X.env:=by rfl)
  (hfew:((backTo cpos (starEach (e:: es) X.env)).all (fun x=>!x.1) && (backToKw cpos (keywordEach [] X.env)).all (fun x=>x.1.isSome)
   && decide ((e:: es).length+([]:List Keyword).length+(if ([]:List Keyword).isEmpty then 0 else 1) <30))=true:=by rfl)
  (hline:(apos.endLine == cpos.line)=true:=by rfl) (hs:starEach (e:: es) X.env=(false,eval e X.env):: starEach es X.env:=by rfl) (hplain:(backTo cpos (starEach es X.env)).any (·.1)=false:=by rfl):
  PE X (.Call (.Attribute o name apos) (e:: es) [] cpos) (Z4 X.K T r to t):=by
 intro pins s σ H Q I h
 refine wpAny_Call_method_late hbase hfew hline rfl (dH (ho pins s σ H _ I h) fun v s1 hpt=>?_)
 obtain⟨x,H1,I1,r1,ty,q1⟩:=hpt
 obtain⟨h1,h2⟩:=QS I1 r1 ty
 refine⟨T,id,pa,slot,hty,h1,h2,?_⟩
 have hA:=ha cpos pins s1 σ H1 _ I1 q1
 rw [hs] at hA ⊢
 refine Calls.callWith_builtin (by show(false || (backTo cpos (starEach es X.env)).any (·.1))=false;rw [hplain] <;> rfl) (Calls.evalArgs_plain ?_)
 exact dH hA fun us s2 ⟨vs,H2,I2,r2,q2⟩=>hm pins s2 σ H2 x vs v us Q I2 r1 r2 q2
end
noncomputable def Xn (X:Cx) (id:String) (r:V->List V->Hp->VK->Prop):Prop:=
 ∀(pins:List (Addr×Obj)) (s:Shared) (σ:St) (H:Hp) (x:V) (xs:List V) (v:Value) (us:List Value) (Q:VK),Inv X pins σ H s->RelV x v->Vals xs us->r x xs H Q->
  wpAny (model X.prog X.w) X.A (call (.builtin id) (v:: us)) (EP X pins σ Q) X.xe s
theorem Vals.one:∀{x:V} {us:List Value},Vals [x] us->∃u,us=[u]/\RelV x u
 | _,_,.cons r .nil=>⟨_,rfl,r⟩
theorem Vals.zero:∀{us:List Value},Vals [] us->us=[]
 | _,.nil=>rfl
theorem Vals.dropLast {xs:List V} {us:List Value} (h:Vals xs us):Vals xs.dropLast us.dropLast:=by
 induction h with
 | nil=>exact .nil
 | cons r t ih=>
  cases t with
  | nil=>exact .nil
  | cons q t'=>exact .cons r ih
theorem Vals.eraseIdx:∀{xs:List V} {us:List Value} (i:Nat),Vals xs us->Vals (xs.eraseIdx i) (us.eraseIdx i)
 | _,_,_,.nil=>.nil
 | _,_,0,.cons _ t=>t
 | _,_,i+1,.cons r t=>.cons r (Vals.eraseIdx i t)
theorem Lx {α:Type} (l:List α):l.eraseIdx (l.length - 1)=l.dropLast:=by
 induction l with
 | nil=>rfl
 | cons a r ih=>
  cases r with
  | nil=>rfl
  | cons b r=>
   have e:(a:: b:: r).length - 1=((b:: r).length - 1)+1:=by
    have h1:(a:: b:: r).length=r.length+2:=rfl
    have h2:(b:: r).length=r.length+1:=rfl
    omega
   rw [e,List.eraseIdx_cons_succ,ih]
   all_goals rfl
theorem FP {α:Type}:∀(l:List α) (i:Nat),(l.eraseIdx i).length<=l.length
 | [],_=>Nat.le_refl _
 | _:: _,0=>Nat.le_succ _
 | _:: r,i+1=>Nat.succ_le_succ (FP r i)
section
variable {X:Cx} {pins:List (Addr×Obj)} {σ:St} {H:Hp} {s:Shared} {l b:Addr} {xs ys zs:List V}
theorem Inv.lset {its its':List Value} {n:Nat} {f:Array Value->Array Value} {t':Nat} (I:Inv X pins σ H s) (hH:H l=some (.lst xs))
  (e:s.heap.get? l=some { cls:=.type "list",data:=.seq its.toArray n }) (hf:f its.toArray=its'.toArray) (hv:Vals ys its') (hz:ys.length<=sizeLine):
  Inv X pins σ (upd H l (.lst ys)) { s with heap:=s.heap.update l (Obj.mapSeq f),toks:=t' }:=by
 have q:=PySem.IsL.update e f
 rw [hf] at q
 refine I.write (x:=l) (e:=l) (by rw [hH];exact trivial) (.inl rfl) (fun b' u hb hu=>(Heap.get?_update_other s.heap (Obj.mapSeq f) (Ne.symm hb)).trans hu) ⟨_,q⟩ ?_
 exact⟨hz,its',_,hv,q⟩
theorem Inv.lnew {its:List Value} {t':Nat} (I:Inv X pins σ H s) (hv:Vals ys its) (hz:ys.length<=sizeLine):
  Inv X pins σ (upd H s.heap.objs.size (.lst ys)) { s with heap:=s.heap.push { cls:=.type "list",data:=.seq its.toArray },toks:=t' }:=
 I.laid (fun _ _ q=>Heap.get?_push_of_some _ q) (Nat.le_refl _) ⟨hz,its,0,hv,Heap.get?_push_size _ rfl⟩
theorem Inv.fresh (I:Inv X pins σ H s):H s.heap.objs.size=none:=I.hok.fresh (Nat.le_refl _)
theorem Inv.lstM (I:Inv X pins σ H s) (hH:H l=some (.lst xs)):xs.length<=sizeLine/\∃(its:List Value) (n:Nat),Vals xs its/\xs.length=its.length/\s.heap.get? l=some { cls:=.type "list",data:=.seq its.toArray n }:=by
 obtain⟨z,its,n,r,e⟩:=I.hok l _ hH
 exact⟨z,its,n,r,r.length,e⟩
theorem Ro {n:Nat} (h:n<=sizeLine):Builtin.List.listTooLong n=false:=by
 unfold Builtin.List.listTooLong
 exact decide_eq_false (by omega)
end
section
variable {X:Cx}
inductive JV (x:V) (vs:List V) (H:Hp) (Q:VK):Prop where
 | mk:∀l xs y,x=.ref l->vs=[y]->H l=some (.lst xs)->xs.length <sizeLine->Q .non (upd H l (.lst (xs ++ [y])))->JV x vs H Q
noncomputable def Ni:V->List V->Hp->VK->Prop:=fun x vs H Q=>JV x vs H Q
theorem Pk:Xn X "list.append" Ni:=by
 intro pins s σ H x vs v us Q I rx rv h
 obtain⟨l,xs,y,rfl,rfl,hH,hz,q⟩:=h
 cases rx
 obtain⟨u,rfl,ru⟩:=rv.one
 obtain⟨z,its,n,r,hl,e⟩:=I.lstM hH
 refine call_meets F.slot_list_append ⟨_,e,rfl⟩ F.entry_list_append (F.args_list_append_2 _ _) (PySem.list_append l its.toArray n u (by rw [List.size_toArray];omega)) ⟨e,?_⟩
 refine⟨.non,_,I.lset (its':=its ++ [u]) hH e (by simp) (r.append (.cons ru .nil)) ?_,rfl,q⟩
 rw [List.length_append,List.length_singleton]
 omega
inductive Jw (x:V) (vs:List V) (H:Hp) (Q:VK):Prop where
 | mk:∀l b xs zs,x=.ref l->vs=[.ref b]->H l=some (.lst xs)->H b=some (.lst zs)->xs.length+zs.length<=sizeLine->Q .non (upd H l (.lst (xs ++ zs)))->Jw x vs H Q
noncomputable def Td:V->List V->Hp->VK->Prop:=fun x vs H Q=>Jw x vs H Q
theorem Ge:Xn X "list.extend" Td:=by
 intro pins s σ H x vs v us Q I rx rv h
 obtain⟨l,b,xs,zs,rfl,rfl,hH,hB,hz,q⟩:=h
 cases rx
 obtain⟨u,rfl,ru⟩:=rv.one
 cases ru
 obtain⟨z,its,n,r,hl,e⟩:=I.lstM hH
 obtain⟨z2,its2,n2,r2,hl2,e2⟩:=I.lstM hB
 have hsz:its.toArray.size+its2.toArray.size<=sizeLine:=by rw [List.size_toArray,List.size_toArray];omega
 have hlong:¬(!its.toArray.isEmpty && Builtin.List.listTooLong (its.toArray.size+its2.toArray.size))=true:=by
  rw [Ro hsz,Bool.and_false]
  exact Bool.false_ne_true
 refine call_meets F.slot_list_extend ⟨_,e,rfl⟩ F.entry_list_extend (F.args_list_extend_2 _ _)
  (AutoSeq1.list_extend_list_list_0 l its.toArray n b its2.toArray n2 hlong (by rw [List.size_toArray];omega) (by omega)) ⟨e,e2,?_⟩
 refine⟨.non,_,I.lset (its':=its ++ its2) hH e (by simp) (r.append r2) ?_,rfl,q⟩
 rw [List.length_append]
 omega
inductive V0 (x:V) (vs:List V) (H:Hp) (Q:VK):Prop where
 | mk:∀l xs y,x=.ref l->vs=[]->H l=some (.lst xs)->xs[xs.length - 1]?=some y->Q y (upd H l (.lst xs.dropLast))->V0 x vs H Q
noncomputable def Za:V->List V->Hp->VK->Prop:=fun x vs H Q=>V0 x vs H Q
theorem Mu:Xn X "list.pop" Za:=by
 intro pins s σ H x vs v us Q I rx rv h
 obtain⟨l,xs,y,rfl,rfl,hH,hy,q⟩:=h
 cases rx
 have hus:=rv.zero
 subst hus
 obtain⟨z,its,n,r,hl,e⟩:=I.lstM hH
 obtain⟨u,hu,ru⟩:=r.get hy
 have hy':its.toArray[its.toArray.size - 1]?=some u:=by
  show its.toArray[its.length - 1]?=some u
  rw [<-Array.getElem?_toList,<-hl]
  exact hu
 refine call_meets F.slot_list_pop ⟨_,e,rfl⟩ F.entry_list_pop (F.args_list_pop_1 _) (MeetsSeq.list_pop_last l its.toArray n u hy' (by rw [List.size_toArray];omega)) ⟨e,?_⟩
 refine⟨y,_,I.lset (its':=its.dropLast) hH e ?_ r.dropLast ?_,ru,q⟩
 ·show its.toArray.eraseIdxIfInBounds (its.toArray.size - 1)=its.dropLast.toArray
  rw [List.size_toArray,List.eraseIdxIfInBounds_toArray,Lx]
 ·rw [List.length_dropLast]
  omega
inductive N7 (x:V) (vs:List V) (H:Hp) (Q:VK):Prop where
 | mk:∀l xs i k y,x=.ref l->vs=[.int i]->H l=some (.lst xs)-> -(2 ^ 63)<=i->i <2 ^ 63->seqIndex? i xs.length=some k->xs[k]?=some y->Q y (upd H l (.lst (xs.eraseIdx k)))->N7 x vs H Q
noncomputable def Wq:V->List V->Hp->VK->Prop:=fun x vs H Q=>N7 x vs H Q
theorem uA:Xn X "list.pop" Wq:=by
 intro pins s σ H x vs v us Q I rx rv h
 obtain⟨l,xs,i,k,y,rfl,rfl,hH,h1,h2,hk,hy,q⟩:=h
 cases rx
 obtain⟨u,rfl,ru⟩:=rv.one
 obtain⟨t,rfl⟩:=ru
 obtain⟨z,its,n,r,hl,e⟩:=I.lstM hH
 obtain⟨w,hw,rw'⟩:=r.get hy
 refine call_meets F.slot_list_pop ⟨_,e,rfl⟩ F.entry_list_pop (F.args_list_pop_2 _ _)
  (MeetsSeq.list_pop_at l its.toArray n i t k w (fitsIndex_both h1 h2) (by rw [List.size_toArray,<-hl];exact hk) (by rw [<-Array.getElem?_toList];exact hw) (by rw [List.size_toArray];omega)) ⟨e,?_⟩
 refine⟨y,_,I.lset (its':=its.eraseIdx k) hH e ?_ (r.eraseIdx k) ?_,rw',q⟩
 ·show its.toArray.eraseIdxIfInBounds k=(its.eraseIdx k).toArray
  rw [List.eraseIdxIfInBounds_toArray]
 ·have:=FP xs k
  omega
inductive N8 (x:V) (vs:List V) (H:Hp) (Q:VK):Prop where
 | mk:∀l xs,x=.ref l->vs=[]->H l=some (.lst xs)->Q .non (upd H l (.lst []))->N8 x vs H Q
noncomputable def WY:V->List V->Hp->VK->Prop:=fun x vs H Q=>N8 x vs H Q
theorem Sg:Xn X "list.clear" WY:=by
 intro pins s σ H x vs v us Q I rx rv h
 obtain⟨l,xs,rfl,rfl,hH,q⟩:=h
 cases rx
 have hus:=rv.zero
 subst hus
 obtain⟨z,its,n,r,hl,e⟩:=I.lstM hH
 refine call_meets F.slot_list_clear ⟨_,e,rfl⟩ F.entry_list_clear (F.args_list_clear_1 _) (AutoSeq1.list_clear_list_0 l its.toArray n (by rw [List.size_toArray];omega)) ⟨e,?_⟩
 exact⟨.non,_,I.lset (its':=[]) (ys:=[]) hH e rfl .nil (Nat.zero_le _),rfl,q⟩
inductive Vm (x:V) (y:V) (H:Hp) (Q:VK):Prop where
 | mk:∀l b xs zs,x=.ref l->y=.ref b->H l=some (.lst xs)->H b=some (.lst zs)->xs.length+zs.length<=sizeLine->(∀p,H p=none->Q (.ref p) (upd H p (.lst (xs ++ zs))))->Vm x y H Q
noncomputable def ZS:R2:=fun x y H Q=>Vm x y H Q
theorem Ik:wH X (binaryOp .Add) ZS:=by
 intro pins s σ H x y v u Q I rx ry h
 obtain⟨l,b,xs,zs,rfl,rfl,hH,hB,hz,q⟩:=h
 cases rx
 cases ry
 obtain⟨z,its,n,r,hl,e⟩:=I.lstM hH
 obtain⟨z2,its2,n2,r2,hl2,e2⟩:=I.lstM hB
 refine PySem.P.add_list e e2 ?_ (by rw [List.size_toArray,List.size_toArray];omega)
 have ea:its.toArray ++ its2.toArray=(its ++ its2).toArray:=by simp
 rw [ea]
 exact⟨.ref _,_,I.lnew (t':=s.toks) (r.append r2) (by rw [List.length_append];omega),rfl,q _ I.fresh⟩
end
section
variable {prog:Program} {w:World} {A:Around} {E:Value->Shared->Prop} {s:Shared}
end
section
variable {X:Cx}
end
end L2
namespace Att
open PySem PySem.W PySem.Calls PyProof.Rows
theorem Bj {P:Params} {h:Heap}:∀(ns:List Int) (vs:List Value),WellAll P h vs (ns.map WData.int)->IntsAre vs ns:=by
 intro ns
 induction ns with
 | nil=>
  intro vs w
  rw [List.map_nil] at w
  cases w
  exact .nil
 | cons n ns ih=>
  intro vs w
  rw [List.map_cons] at w
  cases w with
  | cons a b=>
   cases a
   exact .cons _ _ (ih _ b)
theorem Ou {l:OpenLaw} {n:Nat} (hn:l.most=some n) {P:Params} {h:Heap} {args:List WData} {vals:List Value}
  (hpre:l.row.toRowW.claim.pre args=true) (hwl:WellAll P h vals args):
  ∃a vs ns,vals=[Value.ref a]/\args=[WData.list (ns.map WData.int)]/\h.get? a=some { cls:=.type "list",data:=.seq vs.toArray }/\IntsAre vs ns/\ns.length<=n:=by
 have hsh:WShape.hasAll [] args [.list .int]=true:=(pre_splitW hpre).1
 have hc:l.pre.holds [] { args:=args }=true:=(pre_splitW hpre).2
 obtain⟨d,r,rfl,h1,h2⟩:=hasAllW_cons hsh
 obtain rfl:=hasAllW_nil h2
 obtain⟨xs,rfl,h3⟩:=hasW_list h1
 obtain⟨ns,rfl⟩:=items_int h3
 have hlen:ns.length<=n:=by
  unfold OpenLaw.pre at hc
  have h4:(WTm.not (.lt (.lit (.int (n:Int))) (.len (.arg 0)))).holds [] { args:=[.list (ns.map .int)] }=true:=by
   have h4:=(holds_andW hc).1
   rw [hn] at h4
   exact h4
  have h5:=condW_of h4 (w_not (w_lt w_lit (w_len_list (w_arg rfl))))
  rw [List.length_map] at h5
  refine Nat.le_of_not_lt fun q=>?_
  have q':(n:Int) <((ns.length:Nat):Int):=by omega
  first
   | (rw [decide_eq_true q'] at h5;exact absurd h5 (by decide))
   | (simp at h5;omega)
 cases hwl with
 | cons w1 w2=>
  cases w2
  cases w1 with
  | list ho hall=>exact⟨_,_,ns,rfl,rfl,ho,Bj ns _ hall,hlen⟩
theorem O7 (l:OpenLaw) (args:List WData):l.row.toRowW.claim.post args (.bool true) args=true:=
 postW_of (r:=l.row.toRowW) (X:=(true == true))
  (show WShape.has [] (.bool true) .bool=true by first | rfl | decide | simp [WShape.has,WShape.arms,WShape.armsAll])
  (show(WTm.eq .res (.lit (.bool true))).value [] { args:=args,res:=some (.bool true),after:=args }=some (.bool (true == true)) from w_eq_bool (w_res rfl) w_lit) rfl
theorem Jv {l:OpenLaw} {n:Nat} {q:Program} {loose:List Str} {XP:(Str->Option Value)->Heap->Prop} {YP:World->Heap->Prop} {d:DefRec}
  (hn:l.most=some n) (hdf:d.params.defaults=[])
  (call:∀(w:World) (s₀ s₁:Shared) (mg mb:Str->Option Value) (fa:Addr) (o:Obj) (pm cd doc:Value) (a:Addr) (vs:List Value) (ns:List Int),
   Ground q loose [] XP w s₀ mg mb s₁.heap->YP w s₁.heap->
   s₁.heap.get? fa=some o->o.data=.func (docDef d.name d.params d.body d.scope pm cd doc)->s₁.heap.CodeRec cd d.name->mg d.name=some (.ref fa)->
   s₁.heap.get? a=some { cls:=.type "list",data:=.seq vs.toArray }->IntsAre vs ns->ns.length<=n->s₁.gens= #[]->
   codeAny (model l.prog w) callerA (.call (.ref fa) ⟨[.ref a],[]⟩) (fun r s'=>r=.ok (.ret (.bool true))/\OldK s₁.heap s'.heap/\s'.os=s₁.os/\AllBare s'.gens) s₁):
  WalkO q loose XP YP l.row.toRowW d [] (fun f vs=>PySem.call f vs):=by
 intro w s₀ s₁ mg mb G Y fa o pm cd doc dV kV ho hd hcd hD hmg hg args vals as hpre hlay hrd hwl hlo
 obtain rfl:dV=.none:=Dflts.none hD hdf
 obtain rfl:kV=.none:=Dflts.noKw hD
 obtain⟨a,vs,ns,rfl,rfl,hobj,hints,hlen⟩:=Ou hn hpre hwl
 refine enter_call (codeAny_mono (call w s₀ s₁ mg mb fa o pm cd doc a vs ns G Y ho (fd_plain hd) hcd hmg hobj hints hlen hg) fun r s' hq=>?_)
 obtain⟨rfl,h2,h3,h4⟩:=hq
 exact⟨.inl ⟨.bool true,.bool true,[],rfl,fun _=>rfl,.bool true,O7 l _,fun _=>⟨List.Pairwise.nil,fun _ hm=>(nomatch hm)⟩⟩,h2,h3,h4⟩
section
variable {prog:Program} {w:World} {A:Around} {E:Value->Shared->Prop} {s:Shared} {K:Frag}
end
end Att
namespace L2
open PySem PySem.Spec PyProof.Rows
theorem Gm:∀{vs:List Value} {ns:List Int},IntsAre vs ns->Vals (ns.map V.int) vs
 | _,_,.nil=>.nil
 | _,_,.cons n t h=>.cons ⟨t,rfl⟩ (Gm h)
noncomputable def Only (H:Hp):Prop:=∀b,H b=none∨∃o xs,H b=some (.frz o (.lst xs))
theorem Qm {P:Program} {w:World} {K:PySem.W.Frag} {mg mb:Str->Option Value} {CX:Ft} {k:Nat} {fa a:Addr} {fd:FuncData} {x:Str} {sp:Sp} {s₁:Shared} {vs:List Value} {ns:List Int}
  (KX:K.In s₁.heap) (hns:s₁.heap.Ns mainGlobals mg) (hb:s₁.heap.Ns builtinsNs mb) (hbb:∀x:Str,x≠ "__name__" ->mb x=bootBuiltins x) (hlim:s₁.heap.NoLimit) (hg:s₁.gens= #[])
  (ha:s₁.heap.get? a=some { cls:=.type "list",data:=.seq vs.toArray }) (hi:IntsAre vs ns) (hl:ns.length<=sizeLine) (hr:jg k callerA)
  (F:∀base:Heap,K.In base->base.Ns mainGlobals mg->iy P w K mg base CX k fa fd [x] sp) (hbind:∀(s:Shared) (u:Value),BindsTo s fd ⟨[u],[]⟩ [(x,u)])
  (hsp:∀H:Hp,Only H->bF K H a (ns.map V.int)->sp [.ref a] H (fun v _=>v=.bl true) fun _ _ _=>False)
  (hCX:∀H e s',CX [] H s₁ (fun _ _ _=>False) e s'->False):
  codeAny (model P w) callerA (.call (.ref fa) ⟨[.ref a],[]⟩) (fun r s'=>r=.ok (.ret (.bool true))/\OldK s₁.heap s'.heap/\s'.os=s₁.os/\AllBare s'.gens) s₁:=by
 have rv:=Gm hi
 have lenV:=hi.length
 have core:∀H:Hp,Only H->bF K H a (ns.map V.int)->vD P w H s₁.heap->(∀b,H b≠none->b=a)->(H a≠none->K.lookup a=none)->
   codeAny (model P w) callerA (.call (.ref fa) ⟨[.ref a],[]⟩) (fun r s'=>r=.ok (.ret (.bool true))/\OldK s₁.heap s'.heap/\s'.os=s₁.os/\AllBare s'.gens) s₁:=by
  intro H hO hS hok hA hK
  have base_of:∀{b:Addr} {o:Obj},s₁.heap.get? b=some o->H b=none->(Hi s₁.heap H).get? b=some o:=fun e n=>Q3 e n
  have noA:∀{b:Addr} {o:Obj} {es:Array DictEntry} {ep:Nat},s₁.heap.get? b=some o->o.data=.dict es ep->H b=none:=fun {b o es ep} e d=>by
   cases q:H b with
   | none=>rfl
   | some u=>
    have e':b=a:=hA b (by rw [q];simp)
    subst e'
    rw [ha] at e;cases e
    have d':Data.seq vs.toArray _=Data.dict es ep:=d
    cases d'
  have PX:∀{b:Addr} {m:Str->Option Value},s₁.heap.Ns b m->(Hi s₁.heap H).Ns b m:=fun {b m} ⟨o,es,ep,e,d,r⟩=>⟨o,es,ep,base_of e (noA e d),d,r⟩
  have hKb:K.In (Hi s₁.heap H):=fun b o e=>base_of (KX b o e) (by
   cases q:H b with
   | none=>rfl
   | some u=>
    have e':b=a:=hA b (by rw [q];simp)
    subst e'
    rw [hK (by rw [q];simp)] at e;cases e)
  have hM:Mod K mg (Hi s₁.heap H):=⟨hKb,PX hns,⟨mb,PX hb,hbb⟩,let ⟨mc,h1,h2⟩:=hlim;⟨mc,PX h1,h2⟩⟩
  have e0:LR P w K mg (Hi s₁.heap H) callerA [] s₁ H:=⟨rfl,hM,fun b o e=>Vd e,Nat.le_of_eq (Oo _ _),trivial,fun b hb=>absurd (show b∈([]:List Addr) from hb) (by simp),hok,.of_eq hg⟩
  refine codeAny_mono ((F _ hKb (PX hns)).run callerA [] s₁ H ⟨[.ref a],[]⟩ [.ref a] [.ref a] _ _ hr e0 (hbind s₁ (.ref a)) (.cons rfl .nil) (hsp H hO hS)) fun r s' h=>?_
  cases r with
  | error e=>exact(hCX H e s' h).elim
  | ok fl=>
   cases fl with
   | next=>exact False.elim h
   | brk=>exact False.elim h
   | cont=>exact False.elim h
   | ret u=>
    obtain⟨v,H',os,bare,un,hok',r',q⟩:=h
    have q':v=.bl true:=q
    subst q'
    obtain rfl:u=Value.bool true:=r'
    refine⟨rfl,OldK.of_keep fun b o e=>?_,os,bare⟩
    cases q:H b with
    | none=>exact un.keep b o e q (by intro z;exact absurd (show b∈([]:List Addr) from z) (by simp)) (by simp)
    | some u=>
     rcases hO b with z | ⟨ob,xs,z⟩
     ·rw [q] at z;cases z
     ·have z2:=un.frzs b ob _ z
      obtain⟨e1,_⟩:=hok b _ z
      obtain⟨e2,_⟩:=hok' b _ z2
      rw [e] at e1;cases e1
      exact e2
 cases hk:K.lookup a with
 | some o=>
  have e:=KX a o hk
  rw [ha] at e
  cases e
  refine core (fun _=>none) (fun _=>.inl rfl) (.inr ⟨_,vs.toArray,_,hk,rfl,rfl,rfl,by rw [List.size_toArray,lenV];exact hl,by simpa using rv⟩) (fun b u z=>by have z':(none:Option HO)=some u:=z;cases z') (fun b z=>absurd rfl z) fun z=>absurd rfl z
 | none=>
  refine core (fun b=>if b=a then some (.frz { cls:=.type "list",data:=.seq vs.toArray } (.lst (ns.map V.int))) else none) (fun b=>?_) (.inl (.inr ⟨{ cls:=.type "list",data:=.seq vs.toArray },if_pos rfl⟩)) (fun b u z=>?_) (fun b z=>?_) fun _=>hk
  ·by_cases hb:b=a
   ·exact .inr ⟨_,_,if_pos hb⟩
   ·exact .inl (if_neg hb)
  ·by_cases hb:b=a
   ·have z':=(if_pos hb).symm.trans z
    cases z'
    subst hb
    exact⟨ha,by rw [List.length_map];exact hl,vs,_,rv,ha⟩
   ·have z':=(if_neg hb).symm.trans z
    cases z'
  ·by_cases hb:b=a
   ·exact hb
   ·exact absurd (if_neg hb) z
theorem Tf {l:PySem.W.OpenLaw} {n k:Nat} {q:Program} {loose:List Str} {XP:(Str->Option Value)->Heap->Prop} {YP:World->Heap->Prop} {d:DefRec} {K:Params->PySem.W.Frag} {CX:World->Ft} {sp:World->Sp} {x:Str}
  (hn:l.most=some n) (hn2:n<=sizeLine) (hdf:d.params.defaults=[]) (hr:jg k callerA)
  (hY:∀(w:World) (h:Heap),YP w h->(K w.params).In h)
  (F:∀(w:World) (mg:Str->Option Value) (fa:Addr) (h:Heap),(K w.params).In h->h.Ns mainGlobals mg->mg d.name=some (.ref fa)->
   ∃fd:FuncData,(∀(s:Shared) (u:Value),BindsTo s fd ⟨[u],[]⟩ [(x,u)])/\
    ∀base:Heap,(K w.params).In base->base.Ns mainGlobals mg->iy l.prog w (K w.params) mg base (CX w) k fa fd [x] (sp w))
  (hsp:∀(w:World) (H:Hp) (a:Addr) (ns:List Int),ns.length<=n->Only H->bF (K w.params) H a (ns.map V.int)->sp w [.ref a] H (fun v _=>v=.bl true) fun _ _ _=>False)
  (hCX:∀(w:World) (H:Hp) (s:Shared) (e:Value) (s':Shared),CX w [] H s (fun _ _ _=>False) e s'->False):
  PySem.W.WalkO q loose XP YP l.row.toRowW d [] (fun f vs=>PySem.call f vs):=by
 refine Att.Jv hn hdf fun w s₀ s₁ mg mb fa o pm cd doc a vs ns G Y ho hd hcd hmg hobj hints hlen hg=>?_
 have KX:=hY w _ Y
 obtain⟨fd,hb,hF⟩:=F w mg fa _ KX G.T.g hmg
 exact Qm KX G.T.g G.T.b G.T.builtins G.T.nolimit hg hobj hints (Nat.le_trans hlen hn2) hr hF hb (fun H hO hS=>hsp w H a ns hlen hO hS) fun H e s'=>hCX w H s₁ e s'
noncomputable def inClass (s:Stmt) (j:Nat):Stmt:=match s with
 | .ClassDef _ _ _ body _ _ _ _ _ _ _=>body.getD j (.Pass ⟨0,0,0,0⟩)
 | _=>.Pass ⟨0,0,0,0⟩
noncomputable def iU (s:Stmt):Arguments:=match s with
 | .FunctionDef _ a _ _ _ _ _ _ _ _=>a
 | _=>{ posonlyargs:=[],args:=[],vararg:=none,kwonlyargs:=[],kw_defaults:=[],kwarg:=none,defaults:=[] }
noncomputable def gJ (s:Stmt):List Stmt:=match s with
 | .FunctionDef _ _ b _ _ _ _ _ _ _=>b
 | _=>[]
noncomputable def aR (s:Stmt):Scope:=match s with
 | .FunctionDef _ _ _ _ _ _ sc _ _ _=>sc
 | _=>{ kind:=.function,names:=[],isGenerator:=false,isCoroutine:=false }
noncomputable abbrev Ce:Ft:=fun _ _ _ _ _ _=>False
noncomputable abbrev E0:XK:=fun _ _ _=>False
theorem ig {X:Cx}:qd Ce X E0:=fun _ _ _ _ _ _ _ h=>h.elim
structure Vx (K:PySem.W.Frag) (x qual:Str) (st:Stmt) (f:Addr) (fd:FuncData):Prop where
 ex:∃(oc:Value) (od:Option Addr) (kV doc pm:Value) (an:Option Addr) (cdv ct:Value) (osl:Array (Option Value)),
  fd=PySem.W.fnOf x qual (iU st) (gJ st) (aR st) .none kV doc pm an cdv ct/\K.lookup f=some ⟨oc,od,.func fd,osl⟩/\PySem.W.codeIn K cdv qual=true
 kp:PySem.W.keepIn K (.ref f)=true
section
variable {P:Program} {w:World} {K:PySem.W.Frag} {mg:Str->Option Value} {base:Heap}
theorem Vx.ok {x qual:Str} {st:Stmt} {f:Addr} {fd:FuncData} {N ps:List Str} {k:Nat} {sp:Sp} (F:Vx K x qual st f fd) (S:fX N ps (aR st)) (len:∀vs H Q E,sp vs H Q E->vs.length=ps.length)
  (hbody:∀(cdv:Value) (A:Around) (outer:List Env) (s:Shared) (H:Hp) (vs:List V) (Q:VK) (E:XK),jg k (A.deeper (envOfC qual (aR st) s.heap.objs.size f cdv))->sp vs H Q E->
   ∃t,Ng (KD Ce P w K mg base N qual (aR st) f cdv A outer s H E).nox (gJ st) t/\t { nx:=fun _ H'=>Q .non H',rt:=Q } (start N vs) H):iy P w K mg base Ce (k+1) f fd ps sp:=by
 obtain⟨oc,od,kV,doc,pm,an,cdv,ct,osl,rfl,lk,hcd⟩:=F.ex
 refine Vt lk hcd S len fun A outer s H vs Q E hr hsp=>?_
 obtain⟨t,h,q⟩:=hbody cdv A outer s H vs Q E hr hsp
 exact⟨t,h.nox,q⟩
theorem Vx.binds {x qual:Str} {st:Stmt} {f:Addr} {fd:FuncData} {ps:List Str} (F:Vx K x qual st f fd)
  (h:∀(kV doc pm:Value) (an:Option Addr) (cdv ct:Value) (us:List Value),us.length=ps.length->bindArgs (PySem.W.fnOf x qual (iU st) (gJ st) (aR st) .none kV doc pm an cdv ct) ⟨us,[]⟩=pure (ps.zip us)):Binds K fd ps []:=by
 obtain⟨oc,od,kV,doc,pm,an,cdv,ct,osl,rfl,lk,hcd⟩:=F.ex
 exact .all (h kV doc pm an cdv ct)
theorem Wm {x qual:Str} {st:Stmt} {f:Addr} {oc:Value} {od an:Option Addr} {osl:Array (Option Value)} {kV doc pm cdv ct:Value} (l:K.lookup f=some ⟨oc,od,.func (PySem.W.fnOf x qual (iU st) (gJ st) (aR st) .none kV doc pm an cdv ct),osl⟩)
  (c:PySem.W.codeIn K cdv qual=true) (k:PySem.W.keepIn K (.ref f)=true):Vx K x qual st f (PySem.W.fnOf x qual (iU st) (gJ st) (aR st) .none kV doc pm an cdv ct):=⟨⟨oc,od,kV,doc,pm,an,cdv,ct,osl,rfl,l,c⟩,k⟩
end
section
variable {X:Cx}
theorem pv (i:Nat) {x:Str} {pos:Pos} (hN:X.N[i]?=some x:=by rfl) (hv:Y6 X.env.scope x:=by first | exact Or.inl rfl | exact Or.inr (Or.inl rfl) | exact Or.inr (Or.inr rfl)) (hd:(x == ("__debug__" :Str))=false:=by decide)
  (hcd:(x == ("__classdict__" :Str))=false:=by decide):PE X (.Name x pos) (vH i):=Xd hN hv hd hcd
end
theorem bU {A B:Prop} (h:B):if false=true then A else B:=by
 rw [if_neg Bool.false_ne_true]
 exact h
theorem d9 {A B:Prop} (h:A):if true=true then A else B:=by
 rw [if_pos rfl]
 exact h
theorem jz {c A B:Prop} [Decidable c] (h1:c->A) (h2:¬c->B):if c then A else B:=by
 by_cases h:c
 ·rw [if_pos h]
  exact h1 h
 ·rw [if_neg h]
  exact h2 h
noncomputable def aM (H H':Hp):Prop:=∀b o,H b=some o->H' b=some o
theorem aM.refl (H:Hp):aM H H:=fun _ _ h=>h
theorem aM.trans {H H1 H2:Hp} (a:aM H H1) (b:aM H1 H2):aM H H2:=fun c o h=>b c o (a c o h)
theorem aM.free {H H':Hp} (e:aM H H') {l:Addr} (h:H' l=Option.none):H l=Option.none:=by
 cases q:H l with
 | none=>rfl
 | some o=>
  rw [e l o q] at h
  cases h
theorem aM.seq {K:PySem.W.Frag} {H H':Hp} {a:Addr} {xs:List V} (e:aM H H') (h:bF K H a xs):bF K H' a xs:=by
 rcases h with (h | ⟨o,h⟩) | h
 ·exact .inl (.inl (e _ _ h))
 ·exact .inl (.inr ⟨o,e _ _ h⟩)
 ·exact .inr h
end L2
set_option maxHeartbeats 4000000
namespace L2
open PySem PySem.Spec PyProof.Rows
theorem Oq {P:Program} {w:World} {H:Hp} {h:Heap} {a:Addr} {o:HO} (x:vD P w H h) (hn:H a=none) (new:fW P w (upd H a o) h a o):vD P w (upd H a o) h:=fun b u e=>by
 by_cases hb:b=a
 ·subst hb;rw [au] at e;cases e;exact new
 ·rw [aK hb] at e
  exact(x b u e).stay (fun c v _ q=>q) (fun c q=>by rw [aK (aD q hn)];exact q) fun c xs q=>by rw [aK (aD q hn)];exact q
theorem Ca {α β:Type} {f:α->β->Sem (ForInStep β)} (g:α->β->β):∀(l:List α) (c:β),(∀x∈l,∀c,f x c=pure (.yield (g x c)))->forIn l c f=pure (l.foldl (fun c x=>g x c) c)
 | [],_,_=>rfl
 | x:: l,c,h=>by
  rw [List.forIn_cons,h x List.mem_cons_self,pure_bind]
  exact Ca g l (g x c) fun y hy=>h y (List.mem_cons_of_mem _ hy)
noncomputable def vO (env:Env) (x:Str×NameKind) (cs:List (Str×Addr)):List (Str×Addr):=
 if x.2=.free then(match env.cells.lookup x.1 with | some c=>(x.1,c):: cs | none=>cs) else cs
noncomputable def clos (env:Env) (l:List (Str×NameKind)) (c:List (Str×Addr)):List (Str×Addr):=l.foldl (fun c x=>vO env x c) c
theorem kY {env:Env} {scope:Scope} (h:∀y∈scope.names,y.2=.free->∃c,env.cells.lookup y.1=some c):closureFor scope env=pure (clos env scope.names []):=by
 simp only [closureFor]
 rw [Ca (vO env) scope.names [] fun x hx c=>?_]
 ·rfl
 ·obtain⟨n,k⟩:=x
  by_cases hk:k=.free
  ·subst hk
   obtain⟨a,ha⟩:=h _ hx rfl
   have ha':env.cells.lookup n=some a:=ha
   simp [cellOf,ha',vO]
  ·have:(k == NameKind.free)=false:=by simpa using hk
   simp [this,vO,hk]
theorem J6 {env:Env}:∀(l:List (Str×NameKind)) (c:List (Str×Addr)),(∀y a,c.lookup y=some a->env.cells.lookup y=some a)->∀y a,(clos env l c).lookup y=some a->env.cells.lookup y=some a
 | [],_,h=>h
 | x:: l,c,h=>by
  refine J6 l (vO env x c) fun y a e=>?_
  unfold vO at e
  by_cases hk:x.2=.free
  ·rw [if_pos hk] at e
   cases q:env.cells.lookup x.1 with
   | none=>rw [q] at e;exact h y a e
   | some b=>
    rw [q] at e
    by_cases hy:(y == x.1)=true
    ·have:y=x.1:=by simpa using hy
     subst this
     have e':((x.1,b):: c).lookup x.1=some a:=e
     simp [List.lookup_cons] at e'
     rw [q,e']
    ·have hy':(y == x.1)=false:=by simpa using hy
     have e':((x.1,b):: c).lookup y=some a:=e
     rw [List.lookup_cons,hy'] at e'
     exact h y a e'
  ·rw [if_neg hk] at e;exact h y a e
theorem Dr {env:Env}:∀(l:List (Str×NameKind)) (c:List (Str×Addr)) (y:Str),((∃a,c.lookup y=some a)∨∃k∈l,k.1=y/\k.2=.free/\∃a,env.cells.lookup y=some a)->∃a,(clos env l c).lookup y=some a
 | [],_,_,h=>by
  rcases h with h | ⟨k,hk,_⟩
  ·exact h
  ·cases hk
 | x:: l,c,y,h=>by
  refine Dr l (vO env x c) y ?_
  have up:(∃a,c.lookup y=some a)->∃a,(vO env x c).lookup y=some a:=fun⟨a,e⟩=>by
   unfold vO
   split
   ·split
    ·rename_i b q
     by_cases hy:(y == x.1)=true
     ·exact⟨b,by rw [List.lookup_cons,hy]⟩
     ·have hy':(y == x.1)=false:=by simpa using hy
      exact⟨a,by rw [List.lookup_cons,hy'];exact e⟩
    ·exact⟨a,e⟩
   ·exact⟨a,e⟩
  rcases h with h | ⟨k,hk,h1,h2,a,h3⟩
  ·exact .inl (up h)
  ·rcases List.mem_cons.mp hk with e | hk
   ·subst e
    left
    unfold vO
    rw [if_pos h2,h1,h3]
    exact⟨a,by simp [List.lookup_cons]⟩
   ·exact .inr ⟨k,hk,h1,h2,a,h3⟩
theorem tQ (scope:Scope) (env:Env) (y:Str):(relabel scope env).names.lookup y=(scope.names.lookup y).map fun k=>if (k == NameKind.free && env.scope.kind == .function && env.kindOf y == some .cell)=true then .cell else k:=by
 show(scope.names.map _).lookup y=_
 induction scope.names with
 | nil=>rfl
 | cons p l ih=>
  obtain⟨n,k⟩:=p
  rw [List.map_cons]
  show List.lookup y ((if (k == NameKind.free && env.scope.kind == .function && env.kindOf n == some .cell)=true then(n,NameKind.cell) else(n,k)):: _)=_
  by_cases hy:(y == n)=true
  ·have:y=n:=by simpa using hy
   subst this
   by_cases hc:(k == NameKind.free && env.scope.kind == .function && env.kindOf y == some .cell)=true
   ·rw [if_pos hc]
    simp only [List.lookup_cons,beq_self_eq_true,Option.map_some]
    rw [if_pos hc]
   ·rw [if_neg hc]
    simp only [List.lookup_cons,beq_self_eq_true,Option.map_some]
    rw [if_neg hc]
  ·have hy':(y == n)=false:=by simpa using hy
   by_cases hc:(k == NameKind.free && env.scope.kind == .function && env.kindOf n == some .cell)=true
   ·rw [if_pos hc]
    simp only [List.lookup_cons,hy']
    exact ih
   ·rw [if_neg hc]
    simp only [List.lookup_cons,hy']
    exact ih
noncomputable def dq (N:List Str) (js:List Nat):List Str:=js.map fun j=>(N[j]?).getD Str.empty
noncomputable def dN (σ:St) (js:List Nat):St:=js.map fun j=>(σ[j]?).join
noncomputable def zB (X:Cx) (scope:Scope) (x:Str) (js:List Nat) (cl:List (Str×Addr)) (C:Addr) (s:Shared) (H:Hp) (ex:List Addr):Cx where
 prog:=X.prog
 w:=X.w
 K:=X.K
 mg:=X.mg
 base:=X.base
 A:=X.A
 N:=x:: dq X.N js
 s₀:=s
 H₀:=H
 env:=compEnvC scope cl C X.env
 outer:=X.stack
 stack:=X.stack
 ex:=ex
 fn:=fun _=>false
 calm:=X.calm
 pn:=[]
 xe:=fun _ _=>False
noncomputable def PF (X:Cx) (ifs:List Expr) (t:TT):Prop:=
 ∀(pins:List (Addr×Obj)) (s:Shared) (σ:St) (H:Hp) (Q:Bool->Hp->Prop),Inv X pins σ H s->t σ H Q->
  wpAny (model X.prog X.w) X.A (forIn ifs true fun c r=>if r=true then do let ok <-isTrue c X.env (eval c X.env);pure (ForInStep.yield ok) else pure (ForInStep.yield r)) (TP X pins σ Q) X.xe s
noncomputable def YZ:TT:=fun _ H Q=>Q true H
theorem gm {X:Cx}:PF X [] YZ:=fun _ _ _ H _ I h=>wpAny_pure ⟨H,I,h⟩
theorem uR {X:Cx} {c:Expr} {t:TT} (hc:PT X c t):PF X [c] t:=by
 intro pins s σ H Q I h
 rw [List.forIn_cons,if_pos rfl]
 refine wpAny_bind (wpAny_bind (dH (hc pins s σ H Q I h) fun b s1 q=>wpAny_pure ?_))
 show wpAny (model X.prog X.w) X.A (pure b) (TP X pins σ Q) X.xe s1
 exact wpAny_pure q
inductive CompEnd (js:List Nat) (tt:TT) (te:TE) (σ:St) (Qd:List V->Hp->Prop) (J:It) (H1:Hp):Prop where
 | mk:∀W:Nat->Nat->List V->Hp->Prop,((∃m,W 0 m [] H1))->(∀i m ys H2,W i m ys H2->
 (J.stop i H2/\ys.length<=sizeLine/\Qd ys H2)∨
 (J.go i H2/\ys.length <sizeLine/\∃N:List V->Hp->Prop,(∀ys' H',N ys' H'->∃m',m' <m/\W (i+1) m' ys' H')/\∀x H3,J.yld i H2 x H3->tt (some x:: dN σ js) H3 fun b H4=>
  if b=true then te (some x:: dN σ js) H4 fun y H5=>N (ys ++ [y]) H5 else N ys H4))->CompEnd js tt te σ Qd J H1
noncomputable def VB (js:List Nat) (wi:TI) (tt:TT) (te:TE):TE:=fun σ H Q=>wi σ H (CompEnd js tt te σ fun ys H2=>∀D,H2 D=none->Q (.ref D) (upd H2 D (.lst ys)))
section
variable {X:Cx} {x:Str} {px pos:Pos} {iter elt:Expr} {ifs:List Expr} {scope:Scope} {wi:TI} {tt:TT} {te:TE}
end
section
variable {X:Cx}
theorem mQ:wH X (binaryOp .Mult) (rI IntMulOk fun i j=>.int (i * j)):=Y9 fun _ _ _ _ _ _ _ hc q=>mul_int q hc
noncomputable def Vf (_ j:Int):Prop:=0 <j/\j.natAbs.log2 <9000
theorem Sh:wH X (binaryOp .FloorDiv) (rI Vf fun i j=>.int (i / j)):=Y9 fun i j _ _ _ _ _ hc q=>by
 have h1:(0:Int) <j:=hc.1
 exact floordiv_int (by omega) (by rw [Int.fdiv_eq_ediv_of_nonneg i (by omega)];exact q) (.inl (PyProof.noPylong_of_log2 hc.2))
theorem Yg {i j:Int} (h0:0 <j) (h:j.natAbs <2 ^ 9000):Vf i j:=⟨h0,(Nat.log2_lt (by omega)).mpr h⟩
noncomputable def Y4 (K:PySem.W.Frag) (H:Hp) (x:V) (T:String):Prop:=match x with
 | .non=>T= "NoneType"
 | .bl _=>T= "bool"
 | .int _=>T= "int"
 | .str _=>T= "str"
 | .ref p=>(T= "list" /\∃xs,bF K H p xs)∨(T= "tuple" /\∃xs,eN K H p xs)∨(T= "dict" /\∃kvs,H p=some (.dK kvs))
 | _=>False
noncomputable def Jr (a b:String):Bool:=a == b || (a == "bool" && b == "int")
noncomputable def Mx:List String:=["int", "bool", "str", "list", "tuple", "dict"]
noncomputable def ph:List String:=["NoneType", "bool", "int", "str", "list", "tuple", "dict"]
theorem Sd:∀T∈Mx,PySem.W.kitMeta T=true:=by decide +kernel
theorem Ur:∀a∈ph,∀b∈Mx,(PySem.fastBuiltinMro a).map (·.contains (.type b))=some (Jr a b):=by decide +kernel
theorem Ux (K:PySem.W.Frag) {a b:String} (ha:a∈ph) (hb:b∈Mx):PySem.W.kitOne K (.type a) (.type b)=some (Jr a b):=by
 unfold PySem.W.kitOne
 by_cases h:(Value.type a == Value.type b)=true
 ·rw [if_pos h]
  have e:a=b:=by
   have:=beq_iff_eq.mp h
   injection this
  subst e
  simp [Jr]
 ·rw [if_neg h]
  show(if PySem.W.kitMeta b=true then PySem.W.subIn K (.type a) (.type b) else none)=_
  rw [if_pos (Sd b hb)]
  exact Ur a ha b hb
theorem qU:jY X (.builtin "isinstance") (fun xs H Q=>∃x Tx T b,xs=[x,.ty T]/\Y4 X.K H x Tx/\T∈Mx/\Jr Tx T=b/\Q (.bl b) H):=by
 intro pins s σ H xs us Q I r h
 obtain⟨x,Tx,T,b,rfl,ty,hT,rfl,q⟩:=h
 obtain⟨u,w',rfl,rx,ry⟩:=vals2 r
 cases ry
 have fin:∀{b:Bool},b=Jr Tx T->∀tk,EP X pins σ Q (.bool b) { s with toks:=tk }:=fun e tk=>⟨.bl (Jr Tx T),H,I.tok tk,by rw [e];rfl,q⟩
 have go:∀{P:Heap->Prop},PySem.W.KitX X.K u (.type Tx) P->P s.heap->Tx∈ph->u≠.builtin "__main__.__loader__#opaque" ->wpAny (model X.prog X.w) X.A (call (.builtin "isinstance") [u,.type T]) (EP X pins σ Q) X.xe s:=fun Z p hm hx=>
  PySem.W.kia_one Z I.kIn p (Ux X.K hm hT) hx fun tk=>fin rfl tk
 cases x with
 | non=>cases rx;cases (show Tx= "NoneType" from ty);exact go PySem.W.kitx_none trivial (by decide) (by intro e;cases e)
 | bl b=>cases rx;cases (show Tx= "bool" from ty);exact go PySem.W.kitx_bool trivial (by decide) (by intro e;cases e)
 | int i=>obtain⟨t,rfl⟩:=rx;cases (show Tx= "int" from ty);exact go PySem.W.kitx_int trivial (by decide) (by intro e;cases e)
 | str z=>obtain⟨t,rfl⟩:=rx;cases (show Tx= "str" from ty);exact go PySem.W.kitx_str trivial (by decide) (by intro e;cases e)
 | ref p=>
  cases rx
  rcases ty with ⟨rfl,ys,hq⟩ | ⟨rfl,ys,hq⟩ | ⟨rfl,kvs,hq⟩
  ·obtain⟨its,_,pl,_⟩:=I.list hq
   obtain⟨o,n,e,c,_,_⟩:=pl
   exact go PySem.W.kitx_list ⟨o,e,c⟩ (by decide) (by intro e;cases e)
  ·obtain⟨its,_,⟨o,e,c,_⟩,_⟩:=I.tuple hq
   exact go PySem.W.kitx_tuple ⟨o,e,c⟩ (by decide) (by intro e;cases e)
  ·obtain⟨_,_,_,_,o,_,_,e,ex,_⟩:=I.hok p _ hq
   exact go PySem.W.kitx_dict ⟨o,e,ex.1⟩ (by decide) (by intro e;cases e)
 | _=>exact(show False from ty).elim
inductive Qo (K:PySem.W.Frag) (x:V) (xs:List V) (H:Hp) (Q:VK):Prop where
 | mk:∀z p ys,x=.str z->xs=[.ref p]->bF K H p (ys.map V.str)->(ys.map (·.length)).sum+ys.length * z.length<=16777216->Q (.str (Txt.join z ys)) H->Qo K x xs H Q
noncomputable def rJoin (K:PySem.W.Frag):V->List V->Hp->VK->Prop:=fun x xs H Q=>Qo K x xs H Q
theorem Cm:∀{ys:List Str} {us:List Value},Vals (ys.map V.str) us->StrsAre us ys
 | [],us,r=>by rw [List.map_nil] at r;cases r;exact .nil
 | y:: ys,us,r=>by
  rw [List.map_cons] at r
  cases r with
  | cons r1 r2=>
   obtain⟨t,e⟩:=r1
   subst e
   exact .cons y t (Cm r2)
theorem Tj:Zw X "str.join" (rJoin X.K):=by
 intro pins s σ H x xs v us Q I rx rs h
 obtain⟨z,p,ys,rfl,rfl,hq,hz,q⟩:=h
 obtain⟨t,rfl⟩:=rx
 obtain⟨u,rfl,ru⟩:=vals1 rs
 cases ru
 obtain⟨its,rv,pl,_⟩:=I.list hq
 exact join_list (items:=its.toArray) pl.isList (by simpa using Cm rv) hz fun t' k=>⟨.str (Txt.join z ys),H,I.tok k,⟨_,rfl⟩,q⟩
end
theorem Xc:bootBuiltins "int" =some (.type "int"):=by decide +kernel
theorem Nf:bootBuiltins "bool" =some (.type "bool"):=by decide +kernel
theorem Rb:bootBuiltins "str" =some (.type "str"):=by decide +kernel
theorem pX:bootBuiltins "list" =some (.type "list"):=by decide +kernel
theorem yq:bootBuiltins "tuple" =some (.type "tuple"):=by decide +kernel
theorem du:bootBuiltins "len" =some (.builtin "len"):=by decide +kernel
theorem gW:bootBuiltins "isinstance" =some (.builtin "isinstance"):=by decide +kernel
theorem Wb:bootBuiltins "min" =some (.builtin "min"):=by decide +kernel
theorem Lj:bootBuiltins "max" =some (.builtin "max"):=by decide +kernel
theorem Im:bootBuiltins "all" =some (.builtin "all"):=by decide +kernel
section
variable {X:Cx} {pos:Pos}
theorem jm {x:Str} {v:V} (hg:Gl X x) (hm:∃u,X.mg x=some u/\RelV v u) (hd:(x == ("__debug__" :Str))=false:=by decide):PE X (.Name x pos) (tC v):=by
 obtain⟨u,h1,h2⟩:=hm
 exact HY hg h1 h2 hd
theorem vf {x:Str} {T:String} (hg:Gl X x) (hm:X.mg x=none) (hv:bootBuiltins x=some (.type T)) (hn:x≠ "__name__" :=by decide) (hd:(x == ("__debug__" :Str))=false:=by decide):PE X (.Name x pos) (tC (.ty T)):=
 U5 hg hm hv rfl hn hd
end
theorem lQ {a b:Int} (h: -(2 ^ 64) <a/\a <2 ^ 64:=by decide):IntMulOk a b:=.of_left (intBits_le_64 h.1 h.2)
theorem G6 {a b:Int} (h: -(2 ^ 64) <b/\b <2 ^ 64:=by decide):IntMulOk a b:=.of_right (intBits_le_64 h.1 h.2)
inductive Rr (t:TS) (D:Ends) (σ:St) (H:Hp):Prop where
 | mk:∀J:St->Hp->Prop,t { D with nx:=J } σ H->(∀σ' H',J σ' H'->D.nx σ' H')->Rr t D σ H
noncomputable def Xo (t:TS):TS:=fun D σ H=>Rr t D σ H
theorem ir {X:Cx} {st:Stmt} {t:TS} (h:PS X st t):PS X st (Xo t):=by
 intro pins s σ H D I hw
 obtain⟨J,h1,h2⟩:=hw
 refine dH (h pins s σ H { D with nx:=J } I h1) fun f s1 q=>?_
 cases f with
 | next=>obtain⟨σ',H',I',q⟩:=q;exact⟨σ',H',I',h2 _ _ q⟩
 | ret v=>exact q
 | brk=>exact q
 | cont=>exact q
theorem dI {c A B:Prop} [Decidable c] (hc:¬c) (h:B):if decide c=true then A else B:=by rw [decide_eq_false hc];exact bU h
theorem wV {c A B:Prop} [Decidable c] (hc:c) (h:A):if decide c=true then A else B:=by rw [decide_eq_true hc];exact d9 h
mutual
inductive Dt (K:PySem.W.Frag) (H:Hp):V->PyData->Prop
 | non:Dt K H .non .none
 | bl (b:Bool):Dt K H (.bl b) (.bool b)
 | int (i:Int):Dt K H (.int i) (.int i)
 | str (x:Str):Dt K H (.str x) (.str x)
 | list {p:Addr} {xs:List V} {ds:List PyData}:bF K H p xs->Qa K H xs ds->Dt K H (.ref p) (.list ds)
 | tuple {p:Addr} {xs:List V} {ds:List PyData}:eN K H p xs->Qa K H xs ds->Dt K H (.ref p) (.tuple ds)
inductive Qa (K:PySem.W.Frag) (H:Hp):List V->List PyData->Prop
 | nil:Qa K H [] []
 | cons {x:V} {xs:List V} {d:PyData} {ds:List PyData}:Dt K H x d->Qa K H xs ds->Qa K H (x:: xs) (d:: ds)
end
section
variable {X:Cx} {pins:List (Addr×Obj)} {σ:St} {H:Hp} {s:Shared}
mutual
theorem Dt.reads (I:Inv X pins σ H s):∀{x:V} {d:PyData},Dt X.K H x d->∀{u:Value},RelV x u->∃as,Reads s.heap u d as
 | _,_,.non,_,r=>by cases r;exact⟨_,.none⟩
 | _,_,.bl b,_,r=>by cases r;exact⟨_,.bool b⟩
 | _,_,.int i,_,r=>by obtain⟨t,rfl⟩:=r;exact⟨_,.int i t⟩
 | _,_,.str x,_,r=>by obtain⟨t,rfl⟩:=r;exact⟨_,.str x t⟩
 | _,_,.list hq hd,_,r=>by
  cases r
  obtain⟨its,rv,⟨o,n,e,c,_,d⟩,_⟩:=I.list hq
  obtain⟨as,q⟩:=Qa.reads I hd rv
  exact⟨_,.list e c d (by simpa using q)⟩
 | _,_,.tuple hq hd,_,r=>by
  cases r
  obtain⟨its,rv,⟨o,e,c,n,d⟩,_⟩:=I.tuple hq
  obtain⟨as,q⟩:=Qa.reads I hd rv
  exact⟨_,.tuple e c d (by simpa using q)⟩
theorem Qa.reads (I:Inv X pins σ H s):∀{xs:List V} {ds:List PyData},Qa X.K H xs ds->∀{us:List Value},Vals xs us->∃as,ReadsAll s.heap us ds as
 | _,_,.nil,_,r=>by cases r;exact⟨_,.nil⟩
 | _,_,.cons h t,_,r=>by
  cases r with
  | cons r1 r2=>
   obtain⟨as,q⟩:=Dt.reads I h r1
   obtain⟨bs,q'⟩:=Qa.reads I t r2
   exact⟨_,.cons q q'⟩
end
inductive Vq (K:PySem.W.Frag) (x:V) (y:V) (H:Hp) (Q:VK):Prop where
 | mk:∀da db,Dt K H x da->Dt K H y db->SeqAt.shaped da=true->SeqAt.shaped db=true->Q (.bl (PyData.eqv da db)) H->Vq K x y H Q
noncomputable def Zb (K:PySem.W.Frag):R2:=fun x y H Q=>Vq K x y H Q
inductive Vs (K:PySem.W.Frag) (x:V) (y:V) (H:Hp) (Q:VK):Prop where
 | mk:∀da db,Dt K H x da->Dt K H y db->SeqAt.shaped da=true->SeqAt.shaped db=true->Q (.bl (!PyData.eqv da db)) H->Vs K x y H Q
noncomputable def Zx (K:PySem.W.Frag):R2:=fun x y H Q=>Vs K x y H Q
theorem Wg (hu:X.A.units+64 <cLine):wH X (compareOp .Eq) (Zb X.K):=by
 intro pins s σ H x y v u Q I rx ry h
 obtain⟨da,db,h1,h2,s1,s2,q⟩:=h
 obtain⟨as,r1⟩:=h1.reads I rx
 obtain⟨bs,r2⟩:=h2.reads I ry
 exact eq_dataH r1 r2 s1 s2 hu (cP I q rfl)
theorem Mq (hu:X.A.units+64 <cLine):wH X (compareOp .NotEq) (Zx X.K):=by
 intro pins s σ H x y v u Q I rx ry h
 obtain⟨da,db,h1,h2,s1,s2,q⟩:=h
 obtain⟨as,r1⟩:=h1.reads I rx
 obtain⟨bs,r2⟩:=h2.reads I ry
 exact ne_dataH r1 r2 s1 s2 hu (cP I q rfl)
end
noncomputable def Y8 (x:Str):It:=⟨fun i _=>i <x.cps.size,fun i H v H'=>H'=H/\∃c,x.cps[i]?=some c/\v=.str ⟨#[c]⟩,fun i _=>x.cps.size<=i⟩
theorem Kh {P:Program} {w:World} {K:PySem.W.Frag} {tg:Expr} (it:Addr) (x:Str) (t:Tok) {ty:String} (hty:ty= "str_ascii_iterator" ∨ty= "str_iterator"):Turn P w K tg (Y8 x) [it] it (fun i h=>h.IsStrIter it ty x t i) where
 mem:=by simp
 obj:=fun i h st b hb=>by
  have e:b=it:=by simpa using hb
  subst e
  obtain⟨o,e,c,d⟩:=st
  exact⟨o,e,fun v z=>by rw [d] at z;cases z⟩
 keep:=fun i h h' st k=>by
  obtain⟨o,e,r⟩:=st
  exact⟨o,k it (by simp) o e,r⟩
 item:=by
  intro X hP hw hK hc i pins s σ H E I hf st hg
  subst hP hw hK
  obtain⟨f0,f1,f2,f3,f4,f5⟩:=hf it (by simp)
  have fin:∀(v:Value) (h':Heap) (tk:Nat),SignAt x i v->h'.IsStrIter it ty x t (i+1)->(∀b o,b∉[it]->s.heap.get? b=some o->h'.get? b=some o)->
    ∃u,some v=some u/\wpAny (model X.prog X.w) X.A (letOwnedTupleGo tg (.ref it) u) (fun _ s2=>∃x' H',Inv X pins σ H' s2/\RelV x' u/\(Y8 x).yld i H x' H'/\s2.heap.IsStrIter it ty x t (i+1)/\∀b∈[it],H' b=none) E { s with heap:=h',toks:=tk }:=by
   intro v h' tk hv st' kk
   obtain⟨c,u,hcc,rfl⟩:=hv
   have I1:Inv X pins σ H { s with heap:=h',toks:=tk }:=I.turned (fun b o hb e=>kk b o (by simpa using hb) e) f0 f1 f3 f4 f5
   obtain⟨o,e,c',d⟩:=id st'
   refine⟨_,rfl,Ko (s:={ s with heap:=h',toks:=tk }) (n:=ty) e c' d (by rcases hty with rfl | rfl <;> decide) ⟨.str ⟨#[c]⟩,H,I1,⟨u,rfl⟩,⟨rfl,c,hcc,rfl⟩,st',fun b hb=>(hf b hb).1⟩⟩
  rcases hty with rfl | rfl
  ·exact(Walks.strAscii (prog:=X.prog) (w:=X.w) (I.ok.hd hc) it x t).item i s _ _ hg st fun v h' tk hv st' kk=>fin v h' tk hv st' kk
  ·exact(Walks.strWide (prog:=X.prog) (w:=X.w) (I.ok.hd hc) it x t).item i s _ _ hg st fun v h' tk hv st' kk=>fin v h' tk hv st' kk
 done:=by
  intro X hP hw hK hc i pins s σ H E I hf st hg
  subst hP hw hK
  obtain⟨f0,f1,f2,f3,f4,f5⟩:=hf it (by simp)
  have hx:x.cps[i]?=none:=by
   have hg':x.cps.size<=i:=hg
   simp;omega
  rcases hty with rfl | rfl
  ·exact wpAny_pyNext_ascii_end (I.ok.hd hc) st hx fun h' eb=>⟨rfl,I.turned (t':=s.toks) (fun b o hb e=>eb b o hb e) f0 f1 f3 f4 f5⟩
  ·exact wpAny_pyNext_wide_end (I.ok.hd hc) st hx fun h' eb=>⟨rfl,I.turned (t':=s.toks) (fun b o hb e=>eb b o hb e) f0 f1 f3 f4 f5⟩
 self:=fun _ _ _ _ _ st h=>by
  rcases hty with rfl | rfl
  ·exact wpAny_pyIter_striter_ascii st h
  ·exact wpAny_pyIter_striter_wide st h
section
variable {X:Cx} {tg:Expr}
inductive Vu (R:It->Hp->Prop) (x:V) (H1:Hp):Prop where
 | mk:∀z,x=.str z->R (Y8 z) H1->Vu R x H1
noncomputable def Zv (tl:TE):TI:=fun σ H R=>tl σ H fun x H1=>Vu R x H1
theorem W9 {l:Expr} {tl:TE} (hl:PE X l tl):PI X tg l (Zv tl):=by
 intro pins s σ H R I h
 refine dH (hl pins s σ H _ I h) fun v s1 hpt=>?_
 obtain⟨x,H1,I1,r1,q1⟩:=hpt
 obtain⟨z,e,q⟩:=q1
 subst e
 obtain⟨t,rfl⟩:=r1
 cases ha:z.cps.all (· <128)
 ·refine wpAny_pyIter_wide ha ?_
  refine⟨s1.heap.objs.size,[s1.heap.objs.size],_,_,H1,rfl,I1.kept (t':=s1.toks) fun b o e=>Heap.get?_push_of_some _ e,Kh _ z t (ty:= "str_iterator") (.inr rfl),⟨_,Heap.get?_push_size _ rfl,rfl,rfl⟩,fun b hb=>?_,q⟩
  have e:b=s1.heap.objs.size:=by simpa using hb
  subst e
  exact I1.fpOk (Nat.le_refl _) (I1.hok.fresh (Nat.le_refl _))
 ·refine wpAny_pyIter_ascii ha ?_
  refine⟨s1.heap.objs.size,[s1.heap.objs.size],_,_,H1,rfl,I1.kept (t':=s1.toks) fun b o e=>Heap.get?_push_of_some _ e,Kh _ z t (ty:= "str_ascii_iterator") (.inl rfl),⟨_,Heap.get?_push_size _ rfl,rfl,rfl⟩,fun b hb=>?_,q⟩
  have e:b=s1.heap.objs.size:=by simpa using hb
  subst e
  exact I1.fpOk (Nat.le_refl _) (I1.hok.fresh (Nat.le_refl _))
end
theorem yes {A B:Hp->Prop} {σ:St} {H:Hp} (h:A H):YZ σ H (fun b H4=>if b=true then A H4 else B H4):=by
 show if true=true then A H else B H
 exact d9 h
section
variable {js:List Nat} {tt:TT} {te:TE} {σ:St} {Qd:List V->Hp->Prop}
theorem jx {lo:Int} {n:Nat} {H:Hp} (Pv:Nat->List V->Hp->Prop) (hn:n<=sizeLine) (h0:Pv 0 [] H) (hl:∀i ys H,Pv i ys H->ys.length<=i)
  (hs:∀i ys H,i <n->Pv i ys H->tt (some (.int (lo+i)):: dN σ js) H fun b H4=>if b=true then te (some (.int (lo+i)):: dN σ js) H4 fun y H5=>Pv (i+1) (ys ++ [y]) H5 else Pv (i+1) ys H4)
  (hd:∀ys H,Pv n ys H->Qd ys H):CompEnd js tt te σ Qd (Wi lo n) H:=by
 refine⟨fun i m ys H=>m=n - i/\i<=n/\Pv i ys H,⟨n,by simp,Nat.zero_le _,h0⟩,?_⟩
 rintro i m ys H ⟨rfl,hi,p⟩
 have hlen:=hl i ys H p
 by_cases hlt:i <n
 ·refine .inr ⟨hlt,by omega,Pv (i+1),fun ys' H' p'=>⟨n - (i+1),by omega,rfl,hlt,p'⟩,fun x H' y=>?_⟩
  obtain⟨e,y⟩:=y
  subst e y
  exact hs i ys _ hlt p
 ·have e:i=n:=by omega
  subst e
  exact .inl ⟨Nat.le_refl _,by omega,hd ys H p⟩
theorem dR {K:PySem.W.Frag} {a:Addr} {xs:List V} {H:Hp} (Pv:Nat->List V->Hp->Prop) (hn:xs.length<=sizeLine) (h0:Pv 0 [] H) (hl:∀i ys H,Pv i ys H->ys.length<=i) (hq:∀i ys H,i<=xs.length->Pv i ys H->bF K H a xs)
  (hs:∀i x ys H,xs[i]?=some x->Pv i ys H->tt (some x:: dN σ js) H fun b H4=>if b=true then te (some x:: dN σ js) H4 fun y H5=>Pv (i+1) (ys ++ [y]) H5 else Pv (i+1) ys H4)
  (hd:∀ys H,Pv xs.length ys H->Qd ys H):CompEnd js tt te σ Qd (Xb K a) H:=by
 refine⟨fun i m ys H=>m=xs.length - i/\i<=xs.length/\Pv i ys H,⟨xs.length,by simp,Nat.zero_le _,h0⟩,?_⟩
 rintro i m ys H ⟨rfl,hi,p⟩
 have hlen:=hl i ys H p
 have q:=hq i ys H hi p
 by_cases hlt:i <xs.length
 ·refine .inr ⟨⟨xs,xs[i],q,by simp [hlt]⟩,by omega,Pv (i+1),fun ys' H' p'=>⟨xs.length - (i+1),by omega,rfl,hlt,p'⟩,fun x H' y=>?_⟩
  obtain⟨e,y⟩:=y
  subst e
  exact hs i x ys _ (y xs q) p
 ·have e:i=xs.length:=by omega
  subst e
  exact .inl ⟨⟨xs,q,Nat.le_refl _⟩,by omega,hd ys H p⟩
theorem Rm {z:Str} {H:Hp} (Pv:Nat->List V->Hp->Prop) (hn:z.cps.size<=sizeLine) (h0:Pv 0 [] H) (hl:∀i ys H,Pv i ys H->ys.length<=i)
  (hs:∀i c ys H,z.cps[i]?=some c->Pv i ys H->tt (some (.str ⟨#[c]⟩):: dN σ js) H fun b H4=>if b=true then te (some (.str ⟨#[c]⟩):: dN σ js) H4 fun y H5=>Pv (i+1) (ys ++ [y]) H5 else Pv (i+1) ys H4)
  (hd:∀ys H,Pv z.cps.size ys H->Qd ys H):CompEnd js tt te σ Qd (Y8 z) H:=by
 refine⟨fun i m ys H=>m=z.cps.size - i/\i<=z.cps.size/\Pv i ys H,⟨z.cps.size,by simp,Nat.zero_le _,h0⟩,?_⟩
 rintro i m ys H ⟨rfl,hi,p⟩
 have hlen:=hl i ys H p
 by_cases hlt:i <z.cps.size
 ·refine .inr ⟨hlt,by omega,Pv (i+1),fun ys' H' p'=>⟨z.cps.size - (i+1),by omega,rfl,hlt,p'⟩,fun x H' y=>?_⟩
  obtain⟨e,c,hc,y⟩:=y
  subst e y
  exact hs i c ys _ hc p
 ·have e:i=z.cps.size:=by omega
  subst e
  exact .inl ⟨Nat.le_refl _,by omega,hd ys H p⟩
end
section
variable {X:Cx}
inductive Vo (x:V) (lo:Option Int) (hi:Option Int) (H:Hp) (Q:VK):Prop where
 | mk:∀z,x=.str z->z.length<=sizeLine->Q (.str (Txt.slice z lo hi)) H->Vo x lo hi H Q
noncomputable def Zu:V->Option Int->Option Int->Hp->VK->Prop:=fun x lo hi H Q=>Vo x lo hi H Q
theorem RV:Zt X Zu:=by
 intro pins s σ H x v vl vu lo hi sl Q I rx hs pl pu h
 obtain⟨z,rfl,hz,q⟩:=h
 obtain⟨t,rfl⟩:=rx
 refine⟨"str",_,PySem.F.slot_str_getitem.lookup,typeIs_str _ _ _,?_⟩
 have fin:∀t' k,EP X pins σ Q (.str (Txt.slice z lo hi) t') { s with toks:=k }:=fun t' k=>⟨.str _,H,I.tok k,⟨_,rfl⟩,q⟩
 cases pl with
 | none=>
  cases pu with
  | none=>exact wpAny_getItem_str_slice (l:=none) (u:=none) (st:=none) hs rfl (post_val_or_str ⟨Nat.le_trans (Txt.slice_le z _ _) hz,fin⟩)
  | int j tj=>exact wpAny_getItem_str_slice (l:=none) (u:=some (j,tj)) (st:=none) hs rfl (post_val_or_str ⟨Nat.le_trans (Txt.slice_le z _ _) hz,fin⟩)
 | int i ti=>
  cases pu with
  | none=>exact wpAny_getItem_str_slice (l:=some (i,ti)) (u:=none) (st:=none) hs rfl (post_val_or_str ⟨Nat.le_trans (Txt.slice_le z _ _) hz,fin⟩)
  | int j tj=>exact wpAny_getItem_str_slice (l:=some (i,ti)) (u:=some (j,tj)) (st:=none) hs rfl (post_val_or_str ⟨Nat.le_trans (Txt.slice_le z _ _) hz,fin⟩)
theorem xQ (hc:X.calm=true):jY X (.builtin "all") (fun xs H Q=>∃(p:Addr) (bs:List Bool),xs=[.ref p]/\bF X.K H p (bs.map V.bl)/\Q (.bl (bs.all id)) H):=by
 intro pins s σ H xs us Q I r h
 obtain⟨p,bs,rfl,hq,q⟩:=h
 obtain⟨u,rfl,rx⟩:=vals1 r
 cases rx
 obtain⟨its,rv,pl,_⟩:=I.list hq
 have hl:=pl.isList
 have hlt:p <s.heap.objs.size:=by obtain⟨_,e,_⟩:=hl;exact Heap.lt_size e
 have hb:∀i v,its[i]?=some v->∃b,bs[i]?=some b/\v=Value.bool b:=fun i v e=>by
  have hi:i <its.length:=(List.getElem?_eq_some_iff.mp e).1
  have hi':i <bs.length:=by have:=rv.length;rw [List.length_map] at this;omega
  obtain⟨u,e',r'⟩:=rv.get (i:=i) (x:=.bl bs[i]) (by rw [List.getElem?_map,List.getElem?_eq_getElem hi'];rfl)
  rw [e] at e'
  cases e'
  exact⟨bs[i],List.getElem?_eq_getElem hi',r'⟩
 refine call_all_walk (wpAny_pyIter_list hl ?_)
 refine⟨s.heap.objs.size,[s.heap.objs.size,p],[s.heap.objs.size],its.toArray.size,_,_,fun i=>(bs[i]?).getD true,rfl,Walks.list (A:=X.A.in1) (I.ok.hd hc) _ p (Nat.ne_of_lt hlt) its.toArray,
  ⟨⟨_,Heap.get?_push_size _ rfl,rfl,rfl⟩,hl.push _⟩,fun i v s' Q' E' hP hQ=>?_,fun h' tk hk=>?_⟩
 ·obtain⟨b,e,rfl⟩:=hb i v (by simpa using hP)
  simp only [e,Option.getD_some] at hQ
  exact wpAny_truthy_bool hQ
 ·have e:((List.range its.toArray.size).all fun i=>(bs[i]?).getD true)=bs.all id:=by
   have hlen:=rv.length
   rw [List.length_map] at hlen
   rw [List.size_toArray,<-hlen];exact LSm.range_all bs
  rw [e]
  exact⟨.bl _,H,I.kept (LSm.kept_iter hk),rfl,q⟩
end
end L2
namespace L2
open PySem PySem.StrLaws PySem.Builtin PySem.Builtin.Str
end L2
namespace L2
open PySem
theorem aB {H:L2.Hp} {p:Addr} {o:L2.HO} (hp:H p=none):L2.aM H (L2.upd H p o):=fun b o' e=>by rw [L2.aK (L2.aD e hp)];exact e
end L2
namespace L2
open PySem PySem.SeqAt
open AutoSeq1 (wpAny_loadPart')
open MeetsSeq MeetsSeq2 MeetsSeq3 SeqRoads2
section
variable {A:Around} {s:Shared}
end
open PySem.Spec PyProof.Rows
end L2
namespace L2
open PySem PySem.Spec PyProof.Rows
structure MethAt (P:Program) (w:World) (K:PySem.W.Frag) (mg:Str->Option Value) (base:Heap) (CX:Ft) (k:Nat) (C:Addr) (m:Str) (sp:Sp):Prop where
 ex:∃(f:Addr) (fd:FuncData) (ps:List Str),Py K C/\Meth K C m f/\Binds K fd ps []/\iy P w K mg base CX k f fd ps sp
inductive Nm (P:Program) (w:World) (K:PySem.W.Frag) (mg:Str->Option Value) (base:Heap) (CX:Ft) (k:Nat) (m:Str) (E:XK) (t:TA) (σ:St) (Q:VK) (x:V) (H1:Hp):Prop where
 | mk:∀a C dx fs sp,x=.ref a->H1 a=some (.ins C dx fs)->fs.lookup m=none->MethAt P w K mg base CX k C m sp->(t σ H1 fun vs H2=>sp (x:: vs) H2 Q E)->Nm P w K mg base CX k m E t σ Q x H1
noncomputable def KR (P:Program) (w:World) (K:PySem.W.Frag) (mg:Str->Option Value) (base:Heap) (CX:Ft) (k:Nat) (m:Str) (E:XK) (ta:TE) (t:TA):TE:=fun σ H Q=>ta σ H fun x H1=>Nm P w K mg base CX k m E t σ Q x H1
section
variable {X:Cx} {CX:Ft} {k:Nat} {E:XK} {m:Str} {pos apos:Pos} {e o:Expr} {es:List Expr} {ta:TE} {t:TA}
theorem yz {pl:Sem Bool} (he:PE X o ta) (hr:jg k X.A) (hx:qd CX X E) (ha:PA X (e:: es) t)
  (hst:starEach (e:: es) X.env=(false,eval e X.env):: starEach es X.env:=by rfl) (hpl:(backTo pos (starEach es X.env)).any (·.1)=false:=by rfl)
  (ht:eval (.Call (.Attribute o m apos) (e:: es) [] pos) X.env=(do
   let ov <-eval o X.env
   standAt apos.atName
   let (f,first) <-holding [ov] (getMethod ov m pl)
   callWith pos f first (backTo pos (starEach (e:: es) X.env)) (backToKw pos (keywordEach [] X.env))):=by rfl):
  PE X (.Call (.Attribute o m apos) (e:: es) [] pos) (KR X.prog X.w X.K X.mg X.base CX k m E ta t):=by
 intro pins s σ H Q I h
 refine PySem.W.methodCall_KW (pl:=pl) (dH (he pins s σ H _ I h) fun u s1 hpt=>?_) ht
 obtain⟨x,H1,I1,rx,a,C,dx,fs,sp,ex,ea,l,⟨f,fd,ps,c,hm,hb,F⟩,q⟩:=hpt
 subst ex
 obtain rfl:u=Value.ref a:=rx
 refine sr I1 ea c hm l ?_
 refine PySem.W.callWith_K (first:=[.ref a]) (h₀:=X.base) I.ok.mod.kin hm.kp (dH (ha pos pins s1 σ H1 _ I1 q) fun us s2 ⟨vs,H2,I2,r,q2⟩=>⟨I2.kIn,?_⟩) hst hpl
 exact Dh (us:=.ref a:: us) (vs:=.ref a:: vs) (ds:=[]) (dvs:=[]) F hr hb .nil hx I2 (.cons rfl r) (by rw [List.append_nil];exact q2)
theorem G3 {pl:Sem Bool} (he:PE X o ta) (hr:jg k X.A) (hx:qd CX X E)
  (ht:eval (.Call (.Attribute o m apos) [] [] pos) X.env=(do
   let ov <-eval o X.env
   standAt apos.atName
   let (f,first) <-holding [ov] (getMethod ov m pl)
   callWith pos f first (backTo pos (starEach [] X.env)) (backToKw pos (keywordEach [] X.env))):=by rfl):
  PE X (.Call (.Attribute o m apos) [] [] pos) (KR X.prog X.w X.K X.mg X.base CX k m E ta QV):=by
 intro pins s σ H Q I h
 refine PySem.W.methodCall_KW (pl:=pl) (dH (he pins s σ H _ I h) fun u s1 hpt=>?_) ht
 obtain⟨x,H1,I1,rx,a,C,dx,fs,sp,ex,ea,l,⟨f,fd,ps,c,hm,hb,F⟩,q⟩:=hpt
 subst ex
 obtain rfl:u=Value.ref a:=rx
 refine sr I1 ea c hm l ?_
 exact PySem.W.callWith_K0 (first:=[.ref a]) I1.kIn hm.kp (Dh (us:=[.ref a]) (vs:=[.ref a]) (ds:=[]) (dvs:=[]) F hr hb .nil hx I1 (.cons rfl .nil) (by rw [List.append_nil];exact q))
end
section
variable {X:Cx}
theorem SX:bootBuiltins "range" =some (.type "range"):=by decide +kernel
theorem J2:jY X (.type "range") (fun xs H Q=>∃j:Int,xs=[.int j]/\∀r,H r=none->Q (.ref r) (upd H r (.rng 0 j))):=by
 intro pins s σ H xs us Q I r h
 obtain⟨j,rfl,q⟩:=h
 obtain⟨u,rfl,t,rfl⟩:=vals1 r
 refine call_range_1 ⟨.ref s.heap.objs.size,upd H s.heap.objs.size (.rng 0 j),I.laid (fun b o e=>Heap.get?_push_of_some _ e) (Nat.le_refl _) ?_,rfl,q _ (I.hok.fresh (Nat.le_refl _))⟩
 exact⟨_,_,_,Heap.get?_push_size _ rfl⟩
noncomputable def S8 (n:Nat):List V:=(List.range n).map fun i=>V.int (i:Nat)
theorem TY (n:Nat):(S8 n).length=n:=by simp [S8]
theorem Sy:∀(n:Nat) (us:List Value),us.length=n->(∀(j:Nat) (v:Value),us[j]?=some v->∃t,v=.int (j:Nat) t)->Vals (S8 n) us:=by
 intro n
 induction n with
 | zero=>intro us hl _;cases us with | nil=>exact .nil | cons _ _=>cases hl
 | succ n ih=>
  intro us hl h
  have e1:S8 (n+1)=S8 n ++ [V.int (n:Nat)]:=by simp [S8,List.range_succ]
  have hn:n <us.length:=by omega
  have e2:us=us.take n ++ [us[n]]:=by
   have:=List.take_append_drop n us
   rw [List.drop_eq_getElem_cons hn] at this
   rw [List.drop_eq_nil_of_le (by omega)] at this
   exact this.symm
  rw [e1,e2]
  refine Vals.append (ih _ (by simp;omega) fun j v e=>?_) (.cons ?_ .nil)
  ·rw [List.getElem?_take] at e
   split at e
   ·exact h j v e
   ·cases e
  ·obtain⟨t,e⟩:=h n us[n] (by simp [hn])
   exact⟨t,e⟩
theorem Fl (hc:X.calm=true):jY X (.type "list") (fun xs H Q=>∃(r:Addr) (n:Nat),xs=[.ref r]/\H r=some (.rng 0 n)/\n<=1000000/\∀l,H l=none->Q (.ref l) (upd H l (.lst (S8 n)))):=by
 intro pins s σ H xs us Q I rx h
 obtain⟨r,n,rfl,hr,hn,q⟩:=h
 obtain⟨u,rfl,ru⟩:=vals1 rx
 cases ru
 have hl:sizeLine=16777216:=sizeLine_eq
 obtain⟨t,u,v,e⟩:=(show fW X.prog X.w H s.heap r (.rng 0 n) from I.hok r _ hr)
 refine call_list_range (n:=n) (I.ok.hd hc) e (small_one (by omega) (by omega) (by omega) (by omega)) (by rw [rangeSize_one];split <;> omega) (by omega) fun h' tk acc' c' kp e' hi=>?_
 refine⟨.ref s.heap.objs.size,_,I.laid (t':=tk) kp (Nat.le_refl _) (show fW X.prog X.w _ h' _ (.lst (S8 n)) from⟨by rw [TY];omega,acc'.toList,c',Sy n _ (by simpa using hi.1) fun j v ej=>?_,by simpa using e'⟩),rfl,q _ (I.hok.fresh (Nat.le_refl _))⟩
 obtain⟨t,ev⟩:=hi.2 j v (by simpa using ej)
 exact⟨t,by rw [ev];congr 1;omega⟩
end
inductive jE (w:World) (K:PySem.W.Frag):List DictEntry->List (Str×List Int)->Prop
 | nil:jE w K [] []
 | cons {x:Str} {t:Tok} {ad:Addr} {ns:List Int} {es:List DictEntry} {rows:List (Str×List Int)} {h:Int} {its:Array Value} {n:Nat} {o:Obj}:
   h=hashStr w x->K.lookup ad=some o->o.cls=.type "tuple" ->o.data=.seq its n->Vals (ns.map V.int) its.toList->ns.length<=1000->jE w K es rows->jE w K (⟨h,.str x t,.ref ad⟩:: es) ((x,ns):: rows)
inductive KTab (w:World) (K:PySem.W.Frag) (a:Addr) (rows:List (Str×List Int)):Prop where
 | mk:∀(o:Obj) (es:Array DictEntry) (ep:Nat),K.lookup a=some o->o.cls=.type "dict" ->o.dict=none->o.slots= #[]->o.data=.dict es ep->(a == sysModules)=false->jE w K es.toList rows->(rows.map (·.1)).Nodup->KTab w K a rows
theorem KTab.mk' {w:World} {K:PySem.W.Frag} {a:Addr} {rows:List (Str×List Int)} {o:Obj} {es:Array DictEntry} {ep:Nat} (lk:K.lookup a=some o) (c1:o.cls=.type "dict") (c2:o.dict=none) (c3:o.slots= #[]) (c4:o.data=.dict es ep) (sm:(a == sysModules)=false)
  (rw':jE w K es.toList rows) (nd:(rows.map (·.1)).Nodup):KTab w K a rows:=⟨o,es,ep,lk,c1,c2,c3,c4,sm,rw',nd⟩
noncomputable def rowOf (rows:List (Str×List Int)) (z:Str):Option (List Int):=(rows.find? fun r=>decide (r.1=z)).map (·.2)
section
variable {P:Program} {w:World} {K:PySem.W.Frag}
theorem jE.kvs:∀{es:List DictEntry} {rows:List (Str×List Int)},jE w K es rows->∃kvs:List (Key×Value),Pairs (bQ P w) es kvs/\kvs.map (·.1)=rows.map (fun r=>(Sum.inr r.1:Key))/\
  (∀e∈es,∃k,(bQ P w).is k e.key=true/\e.hash=(bQ P w).hash k)/\
  ∀z,(rowOf rows z=none->valueAt kvs (Sum.inr z)=none)/\∀ns,rowOf rows z=some ns->∃ad,valueAt kvs (Sum.inr z)=some (.ref ad)/\∀H,eN K H ad (ns.map V.int)
 | _,_,.nil=>⟨[],.nil,rfl,fun e he=>(by cases he),fun z=>⟨fun _=>rfl,fun ns e=>by cases e⟩⟩
 | _,_,@jE.cons _ _ x t ad ns es rows h its n o hh hl hc hdt hv hz hr=>by
  obtain⟨kvs,p,hk,ho,hf⟩:=jE.kvs hr
  refine⟨(Sum.inr x,.ref ad):: kvs,.cons (lC P w x t) rfl p,by rw [List.map_cons,List.map_cons,hk],fun e he=>?_,fun z=>?_⟩
  ·rcases List.mem_cons.mp he with e1 | he
   ·subst e1
    exact⟨Sum.inr x,lC P w x t,hh⟩
   ·exact ho e he
  ·by_cases hx:x=z
   ·subst hx
    have e1:rowOf ((x,ns):: rows) x=some ns:=by simp [rowOf]
    have e2:valueAt ((Sum.inr x,Value.ref ad):: kvs) (Sum.inr x:Key)=some (.ref ad):=by simp [valueAt]
    rw [e1,e2]
    refine⟨fun e=>by (cases e),fun ms e=>⟨ad,rfl,fun H=>.inr ⟨_,its,n,hl,hc,hdt,?_,?_⟩⟩⟩
    ·have:=hv.length
     have hs:sizeLine=16777216:=sizeLine_eq
     simp at this
     omega
    ·cases e;exact hv
   ·have e1:rowOf ((x,ns):: rows) z=rowOf rows z:=by simp [rowOf,hx]
    have hx':¬(Sum.inr x:Key)=Sum.inr z:=fun q=>hx (Sum.inr.inj q)
    have e2:valueAt ((Sum.inr x,Value.ref ad):: kvs) (Sum.inr z:Key)=valueAt kvs (Sum.inr z):=by simp [valueAt,hx']
    rw [e1,e2]
    exact hf z
theorem KTab.map {a:Addr} {rows:List (Str×List Int)} {h:Heap} (T:KTab w K a rows) (hk:K.In h):∃f:Key->Option Value,h.MapOf (bQ P w) a f/\(a == sysModules)=false/\
  ∀z,(rowOf rows z=none->f (Sum.inr z)=none)/\∀ns,rowOf rows z=some ns->∃ad,f (Sum.inr z)=some (.ref ad)/\∀H,eN K H ad (ns.map V.int):=by
 obtain⟨o,es,ep,hl,c1,c2,c3,c4,hs,hr,nd⟩:=T
 obtain⟨kvs,p,hkk,ho,hf⟩:=hr.kvs (P:=P)
 have D:h.DictOf (bQ P w) a kvs:=⟨o,es,ep,hk a _ hl,⟨c1,c2,c3⟩,c4,fun e he=>ho e (by simpa using he),p,?_⟩
 ·exact⟨_,D.mapOf,hs,hf⟩
 ·rw [hkk]
  have:rows.map (fun r=>(Sum.inr r.1:Key))=(rows.map (·.1)).map Sum.inr:=by rw [List.map_map];rfl
  rw [this]
  exact List.Pairwise.map _ (fun a b hab e=>hab (Sum.inr.inj e)) nd
end
section
variable {X:Cx} {i o:Expr} {ty td:TE} {pos:Pos}
inductive Vk (w:World) (K:PySem.W.Frag) (Q:VK) (y:V) (x:V) (H2:Hp):Prop where
 | mk:∀a rows z,x=.ref a->KTab w K a rows->y=.str z->Q (.bl (rowOf rows z).isSome) H2->Vk w K Q y x H2
noncomputable def ZF (w:World) (K:PySem.W.Frag) (ty td:TE):TE:=fun σ H Q=>ty σ H fun y H1=>td σ H1 fun x H2=>Vk w K Q y x H2
theorem Wt (hi:PE X i ty) (ho:PE X o td):PC X .In i o (ZF X.w X.K ty td):=by
 intro pins s σ H Q I h
 refine dH (hi pins s σ H _ I h) fun iv s1 ⟨y,H1,I1,ry,q1⟩=>dH (ho pins s1 σ H1 _ I1 q1) fun u s2 hpt=>?_
 obtain⟨x,H2,I2,rx,a,rows,z,ex,T,ey,q2⟩:=hpt
 subst ex
 subst ey
 obtain rfl:u=Value.ref a:=rx
 obtain⟨t,rfl⟩:=ry
 obtain⟨f,M,hs,hf⟩:=T.map (P:=X.prog) I2.kIn
 refine wpAny_in_of (k:=(Sum.inr z:Key)) (lC X.prog X.w z t) hs M ?_
 refine⟨.bl (rowOf rows z).isSome,H2,I2.tok _,?_,q2⟩
 cases e:rowOf rows z with
 | none=>rw [(hf z).1 e];rfl
 | some ns=>obtain⟨ad,e1,_⟩:=(hf z).2 ns e;rw [e1];rfl
inductive V5 (w:World) (K:PySem.W.Frag) (x:V) (y:V) (H:Hp) (Q:VK):Prop where
 | mk:∀a rows z ns,x=.ref a->KTab w K a rows->y=.str z->rowOf rows z=some ns->(∀ad,eN K H ad (ns.map V.int)->Q (.ref ad) H)->V5 w K x y H Q
noncomputable def Yw (w:World) (K:PySem.W.Frag):R2:=fun x y H Q=>V5 w K x y H Q
theorem Zk:P0 X (Yw X.w X.K):=by
 intro value slice pins s σ H x y v u Q I rx ry h hs
 obtain⟨a,rows,z,ns,rfl,T,rfl,e,q⟩:=h
 cases rx
 obtain⟨t,rfl⟩:=ry
 obtain⟨f,M,hsm,hf⟩:=T.map (P:=X.prog) I.kIn
 obtain⟨ad,e1,e2⟩:=(hf z).2 ns e
 exact tail_any M.typeIs PySem.F.slot_dict_getitem.lookup (wpAny_getItem_of (k:=(Sum.inr z:Key)) (lC X.prog X.w z t) M e1 ⟨.ref ad,H,I.tok _,rfl,q ad (e2 H)⟩) hs
theorem Ua (ho:PE X o td) (hi:PE X i ty) (hs:M7 i):PE X (.Subscript o i pos) (Rv (Yw X.w X.K) td ty):=aO Zk ho hi hs
end
noncomputable def ym (K:PySem.W.Frag) (H:Hp) (a:Addr) (xs:List V):Prop:=bF K H a xs∨eN K H a xs
theorem aM.seqT {K:PySem.W.Frag} {H H':Hp} {a:Addr} {xs:List V} (e:aM H H') (h:eN K H a xs):eN K H' a xs:=by
 rcases h with (h | ⟨o,h⟩) | h
 ·exact .inl (.inl (e _ _ h))
 ·exact .inl (.inr ⟨o,e _ _ h⟩)
 ·exact .inr h
theorem aM.seqA {K:PySem.W.Frag} {H H':Hp} {a:Addr} {xs:List V} (e:aM H H') (h:ym K H a xs):ym K H' a xs:=h.elim (fun h=>.inl (e.seq h)) fun h=>.inr (e.seqT h)
noncomputable def lD (p:Addr) (H H':Hp):Prop:=∀b o,b≠p->H b=some o->H' b=some o
theorem lD.refl {p:Addr} (H:Hp):lD p H H:=fun _ _ _ e=>e
theorem lD.trans {p:Addr} {H H1 H2:Hp} (a:lD p H H1) (b:lD p H1 H2):lD p H H2:=fun c o n e=>b c o n (a c o n e)
theorem lD.of_same {p:Addr} {H H1:Hp} (a:aM H H1):lD p H H1:=fun c o _ e=>a c o e
theorem lD.write {p:Addr} {H:Hp} {o:HO}:lD p H (upd H p o):=fun b u n e=>by rw [aK n];exact e
theorem lD.seqT {K:PySem.W.Frag} {H H':Hp} {p a C dx:Addr} {fs:List (Str×V)} {xs:List V} (e:lD p H H') (hp:H p=some (.ins C dx fs)) (h:eN K H a xs):eN K H' a xs:=by
 rcases h with (h | ⟨o,h⟩) | h
 ·exact .inl (.inl (e _ _ (ww h hp (by intro z;cases z)) h))
 ·exact .inl (.inr ⟨o,e _ _ (ww h hp (by intro z;cases z)) h⟩)
 ·exact .inr h
theorem lD.seqL {K:PySem.W.Frag} {H H':Hp} {p a C dx:Addr} {fs:List (Str×V)} {xs:List V} (e:lD p H H') (hp:H p=some (.ins C dx fs)) (h:bF K H a xs):bF K H' a xs:=by
 rcases h with (h | ⟨o,h⟩) | h
 ·exact .inl (.inl (e _ _ (ww h hp (by intro z;cases z)) h))
 ·exact .inl (.inr ⟨o,e _ _ (ww h hp (by intro z;cases z)) h⟩)
 ·exact .inr h
theorem lD.seqA {K:PySem.W.Frag} {H H':Hp} {p a C dx:Addr} {fs:List (Str×V)} {xs:List V} (e:lD p H H') (hp:H p=some (.ins C dx fs)) (h:ym K H a xs):ym K H' a xs:=h.elim (fun h=>.inl (e.seqL hp h)) fun h=>.inr (e.seqT hp h)
theorem Q0 {K:PySem.W.Frag} {H:Hp} {a:Addr} {xs:List V} {Q:VK} (h:ym K H a xs) (k:∀H' u,aM H H'->eN K H' u xs->Q (.ref u) H'):
  ∃p ys,[V.ref a]=[.ref p]/\((bF K H p ys/\∀l,H l=none->Q (.ref l) (upd H l (.tup ys)))∨(eN K H p ys/\Q (.ref p) H)):=by
 rcases h with h | h
 ·exact⟨a,xs,rfl,.inl ⟨h,fun l hl=>k _ _ (aB hl) (eN.of au)⟩⟩
 ·exact⟨a,xs,rfl,.inr ⟨h,k _ _ (aM.refl _) h⟩⟩
theorem uX {X:Cx}:jY X (.type "tuple") (fun xs H Q=>∃a ys,xs=[.ref a]/\ym X.K H a ys/\∀H' u,aM H H'->eN X.K H' u ys->Q (.ref u) H'):=by
 intro pins s σ H xs us Q I r h
 obtain⟨a,ys,rfl,hq,q⟩:=h
 exact Ff pins s σ H _ us Q I r (Q0 hq q)
section
variable {es:List Expr} {env:Env}
theorem cL {a b c}:starEach (.Tuple a b c:: es) env=(false,eval (.Tuple a b c) env):: starEach es env:=rfl
theorem aW {a b}:starEach (.List a b:: es) env=(false,eval (.List a b) env):: starEach es env:=rfl
theorem ao {a b c}:starEach (.Constant a b c:: es) env=(false,eval (.Constant a b c) env):: starEach es env:=rfl
theorem aj {a b}:starEach (.Name a b:: es) env=(false,eval (.Name a b) env):: starEach es env:=rfl
theorem aZ {a b c d}:starEach (.Call a b c d:: es) env=(false,eval (.Call a b c d) env):: starEach es env:=rfl
theorem bL {a b c d}:starEach (.BinOp a b c d:: es) env=(false,eval (.BinOp a b c d) env):: starEach es env:=rfl
theorem bB {a b c}:starEach (.Attribute a b c:: es) env=(false,eval (.Attribute a b c) env):: starEach es env:=rfl
theorem aF {a b c}:starEach (.Subscript a b c:: es) env=(false,eval (.Subscript a b c) env):: starEach es env:=rfl
theorem eU {a b c d}:starEach (.ListComp a b c d:: es) env=(false,eval (.ListComp a b c d) env):: starEach es env:=rfl
theorem Mf {a b c d}:starEach (.IfExp a b c d:: es) env=(false,eval (.IfExp a b c d) env):: starEach es env:=rfl
end
section
variable {X:Cx} {scope:Scope} {x:Str} {js:List Nat} {cl:List (Str×Addr)} {C:Addr} {s:Shared} {H:Hp} {ex:List Addr}
end
noncomputable def cM (H:Hp):List Addr->List (List V)->Prop:=Paired fun r vs=>H r=some (.tup vs)
theorem cM.same {H H':Hp} (s:aM H H'):∀{rs:List Addr} {vss:List (List V)},cM H rs vss->cM H' rs vss
 | _,_,.nil=>.nil
 | _,_,.cons h t=>.cons (s _ _ h) (cM.same s t)
theorem cM.append {H:Hp}:∀{rs rs':List Addr} {vss vss':List (List V)},cM H rs vss->cM H rs' vss'->cM H (rs ++ rs') (vss ++ vss')
 | _,_,_,_,.nil,q=>q
 | _,_,_,_,.cons h t,q=>.cons h (cM.append t q)
section
variable {X:Cx}
end
section
variable {X:Cx}
end
section
variable {P:Program} {w:World} {K:PySem.W.Frag} {mg:Str->Option Value} {base:Heap} {N:List Str} {qual:Str} {scope:Scope} {f:Addr} {cd:Value} {A:Around} {outer:List Env} {s:Shared} {H:Hp} {E:XK}
end
structure Sw (K:PySem.W.Frag) (C:Addr):Prop where
 ex:∃(nm q:Str) (Nn:Addr) (bs bm bmB:List Value) (hdct:Bool) (sn:List Str) (sub:List Value) (ab:Bool) (col:Option Bool) (dd:Option Addr) (k0 k1 k2 k3 k5:Option Value) (B newId initId:String) (mN:Str->Option Value),
  ExcBaseFacts B newId initId bmB/\bm.contains (.type "BaseException")=true/\mN "__init__" =none/\
  ∀h:Heap,K.In h->h.get? C=some (excClassObj nm q C Nn bs bm hdct sn sub ab col dd k0 k1 k2 k3 k5 newId)/\h.Ns Nn mN/\OwnTail h bmB bm
section
variable {P:Program} {w:World} {K:PySem.W.Frag} {mg:Str->Option Value} {base:Heap} {N:List Str} {qual:Str} {scope:Scope} {f:Addr} {cd:Value} {A:Around} {outer:List Env} {s:Shared} {H:Hp} {E:XK}
end
section
variable {X:Cx} {pins:List (Addr×Obj)} {σ:St} {H:Hp} {s:Shared} {E:Value->Shared->Prop}
end
section
variable {X:Cx} {pins:List (Addr×Obj)} {σ:St} {H:Hp} {s:Shared}
end
structure ExcAt (K:PySem.W.Frag) (C:Addr):Prop where
 ex:∃(nm q:Str) (Nn:Addr) (bs bm:List Value) (hdct:Bool) (sn:List Str) (sub:List Value) (ab:Bool) (col:Option Bool) (dd:Option Addr) (k0 k1 k2 k3 k5:Option Value) (newId:String),bm.contains (.type "BaseException")=true/\
  ∀h:Heap,K.In h->h.get? C=some (excClassObj nm q C Nn bs bm hdct sn sub ab col dd k0 k1 k2 k3 k5 newId)
section
variable {prog:Program} {w:World} {A:Around} {E:Value->Shared->Prop} {h:Heap} {g:Array GenState} {d:Drawn} {t:Nat} {os:OsState} {a:Addr} {o:Obj} {C:Addr}
end
noncomputable abbrev LK:List Value:=[.type "ValueError",.type "Exception",.type "BaseException",.type "object"]
noncomputable def PX (K:PySem.W.Frag) (N:Addr) (x:Str):Option Value:=match K.lookup N with
 | some o=>(match o.data with | .dict es _=>nsFind es x | _=>none)
 | none=>none
theorem QR {K:PySem.W.Frag} {h:Heap} {N:Addr} (X:K.In h) (ok:PySem.W.nsOkIn K N=true):h.nsMap N=PX K N:=by
 funext x
 unfold PySem.W.nsOkIn at ok
 split at ok
 ·rename_i look
  unfold Heap.nsMap PX
  rw [X _ _ look,look]
 ·cases ok
theorem Q4 {K:PySem.W.Frag} {N:Addr} {x:Str} (e:PySem.W.nsIn K N x=some none):PX K N x=none:=by
 unfold PySem.W.nsIn at e
 split at e
 ·rename_i look
  split at e
  ·cases e
  ·rename_i f
   unfold PX
   rw [look]
   show nsFind _ _=none
   unfold nsFind findBy
   rw [<-Array.find?_toList,f]
   rfl
 ·cases e
theorem Fv {K:PySem.W.Frag}:∀{l:List Value},PySem.W.tailIn K LK l=true->l.contains (.type "BaseException")=true
 | [],e=>by simp [PySem.W.tailIn,LK] at e
 | v:: r,e=>by
  unfold PySem.W.tailIn at e
  rcases Bool.or_eq_true_iff.mp e with z | z
  ·rw [beq_iff_eq.mp z];decide +kernel
  ·split at z
   ·split at z
    ·simp only [Bool.and_eq_true] at z
     rw [List.contains_cons,Fv z.2,Bool.or_true]
    ·cases z
   ·cases z
theorem Sw.ofIn {K:PySem.W.Frag} {C:Addr} (z:PySem.W.excIn K C LK "ValueError.__new__" =true):Sw K C:=by
 unfold PySem.W.excIn at z
 split at z
 ·rename_i od kd slo look
  split at z
  ·rename_i C1 up a0 a1 a2 a3 nid a5 em es
   simp only [Bool.and_eq_true,beq_iff_eq,Bool.not_eq_true'] at z
   obtain⟨⟨⟨⟨⟨x1,x2⟩,x3⟩,x4⟩,x5⟩,x6⟩:=z
   subst x1 x2
   obtain⟨g1,g2,g3,g4,g5,g6,g7,g8,g9,g10,g11⟩:=kd
   dsimp only at em x3 x5 x6
   subst em x3
   have hs:slo= #[a0,a1,a2,a3,some (.builtin "ValueError.__new__"),a5]:=by
    obtain⟨l⟩:=slo
    simp only at es
    rw [es]
   subst hs
   refine⟨⟨g1,g5,g4,g2,up,LK,g6,g7,g8,g9,g10,od,a0,a1,a2,a3,a5, "ValueError", "ValueError.__new__", "ValueError.__init__",PX K g4,PySem.F.excBase_ValueError,Fv x4,Q4 x6,fun h X=>⟨X _ _ look,?_,PySem.W.tail_of_in X x4⟩⟩⟩
   rw [<-QR X x5]
   exact .of_isNs (PySem.W.isNs_of_in X x5)
  ·cases z
 ·cases z
structure Zn (K:PySem.W.Frag) (C:Addr):Prop where
 cls:(PySem.W.clsIn K C).isSome=true
 ga:PySem.W.findIn K (.ref C) "__getattribute__" =some (some (.builtin "BaseException.__getattribute__"))
 gn:PySem.W.findIn K (.ref C) "__getattr__" =some none
 cl:PySem.W.findIn K (.ref C) "__class__" =some (some (.builtin "object.__class__"))
 ob:PySem.W.subIn K (.ref C) (.type "object")=some true
 be:PySem.W.subIn K (.ref C) (.type "BaseException")=some true
section
variable {P:Program} {w:World} {K:PySem.W.Frag} {mg:Str->Option Value} {base:Heap}
end
end L2
namespace L2
open PySem
section
variable {prog:Program} {w:World} {A:Around} {E:Value->Shared->Prop} {h:Heap} {g:Array GenState} {d:Drawn} {t:Nat} {os:OsState}
variable {nm q:Str} {C N:Addr} {bs bm bmB:List Value} {hdct:Bool} {sn:List Str} {sub:List Value} {ab:Bool} {col:Option Bool} {dd:Option Addr} {k0 k1 k2 k3 k5:Option Value} {B newId initId:String}
end
section
variable {prog:Program} {w:World} {A:Around} {E:Value->Shared->Prop} {h:Heap} {g:Array GenState} {d:Drawn} {t:Nat} {os:OsState}
variable {nm q:Str} {C N:Addr} {bs bm bmB:List Value} {hdct:Bool} {sn:List Str} {sub:List Value} {ab:Bool} {col:Option Bool} {dd:Option Addr} {k0 k1 k2 k3 k5:Option Value} {B newId initId:String}
end
end L2
namespace L2
open PySem Builtin Builtin.ObjectAttr
noncomputable def Jk:List Value->Bool
 | .ref _:: r=>Jk r
 | l=>l == LK
structure Z1 (K:PySem.W.Frag) (C:Addr):Prop where
 xc:Zn K C
 sa:PySem.W.findIn K (.ref C) "__setattr__" =some (some (.builtin "object.__setattr__"))
 ov:(PySem.W.clsIn K C).any (fun cd=>Jk cd.mro && cd.hasDict)=true
section
variable {prog:Program} {w:World} {A:Around} {E:Value->Shared->Prop} {h:Heap} {g:Array GenState} {d:Drawn} {t:Nat} {os:OsState} {x C:Addr} {K:PySem.W.Frag} {mA:Str->Option Value} {name:Str} {v:Value}
end
end L2
namespace L2
open PySem PySem.Spec PyProof.Rows
section
variable {X:Cx} {pins:List (Addr×Obj)} {σ:St} {H:Hp} {s:Shared} {a C dx:Addr} {fs:List (Str×V)} {f:Str} {v:V} {A:Around} {E:Value->Shared->Prop}
end
section
variable {X:Cx} {e o value:Expr} {f:Str} {pos pos':Pos} {ta tv:TE}
end
noncomputable def Qk (K:PySem.W.Frag) (C f:Addr):Bool:=match K.lookup C with
 | some o=>(match o.data with
  | .cls kd=>o.cls == .type "type" && kd.mro.head? == some (.ref C) && PySem.W.tailIn K LK kd.mro.tail && !kd.hasDel && PySem.W.nsOkIn K kd.ns && PX K kd.ns "__init__" == some (.ref f) && o.slots.size == 6 && o.slots[4]? == some (some (.builtin "ValueError.__new__"))
  | _=>false)
 | none=>false
structure Dn (K:PySem.W.Frag) (C f:Addr):Prop where
 ex:∃(nm q:Str) (Nn:Addr) (bs bm:List Value) (hdct:Bool) (sn:List Str) (sub:List Value) (ab:Bool) (col:Option Bool) (dd:Option Addr) (k0 k1 k2 k3 k5:Option Value) (mN:Str->Option Value),
  mN "__init__" =some (.ref f)/\∀h:Heap,K.In h->h.get? C=some (excClassObj nm q C Nn bs bm hdct sn sub ab col dd k0 k1 k2 k3 k5 "ValueError.__new__")/\h.Ns Nn mN/\OwnTail h LK bm
theorem ZK {α:Type}:∀{l:List α},l.length=6->∃a b c d e f,l=[a,b,c,d,e,f]
 | [a,b,c,d,e,f],_=>⟨a,b,c,d,e,f,rfl⟩
theorem Dn.ofIn {K:PySem.W.Frag} {C f:Addr} (z:Qk K C f=true):Dn K C f:=by
 unfold Qk at z
 split at z
 ·rename_i o look
  obtain⟨oc,od,dt,slo⟩:=o
  dsimp only at z
  split at z
  ·rename_i kd
   simp only [Bool.and_eq_true,beq_iff_eq,Bool.not_eq_true'] at z
   obtain⟨⟨⟨⟨⟨⟨⟨x1,x2⟩,x3⟩,x4⟩,x5⟩,x6⟩,x7⟩,x8⟩:=z
   subst x1
   obtain⟨g1,g2,g3,g4,g5,g6,g7,g8,g9,g10,g11⟩:=kd
   dsimp only at x2 x3 x4 x5 x6
   obtain⟨sl⟩:=slo
   obtain⟨a0,a1,a2,a3,a5,rfl⟩:∃a0 a1 a2 a3 a5,sl=[a0,a1,a2,a3,some (.builtin "ValueError.__new__"),a5]:=by
    obtain⟨a0,a1,a2,a3,a4,a5,rfl⟩:=ZK (show sl.length=6 from x7)
    have e:a4=some (.builtin "ValueError.__new__"):=Option.some.inj (show some a4=_ from x8)
    subst e
    exact⟨a0,a1,a2,a3,a5,rfl⟩
   obtain⟨up,rfl⟩:∃up,g3=.ref C:: up:=by
    cases g3 with
    | nil=>cases x2
    | cons v r=>cases (show some v=some (Value.ref C) from x2);exact⟨r,rfl⟩
   subst x4
   refine⟨⟨g1,g5,g4,g2,up,g6,g7,g8,g9,g10,od,a0,a1,a2,a3,a5,PX K g4,x6,fun h X=>⟨X _ _ look,?_,PySem.W.tail_of_in X x3⟩⟩⟩
   rw [<-QR X x5]
   exact .of_isNs (PySem.W.isNs_of_in X x5)
  ·cases z
 ·cases z
section
variable {X:Cx} {CX:Ft} {k:Nat} {C B f:Addr} {fd:FuncData} {ps:List Str} {sp:Sp} {E:XK} {x:Str} {p pos apos:Pos} {e:Expr} {es:List Expr} {t:TA}
end
section
variable {X:Cx} {CX:Ft} {k:Nat} {C f:Addr} {fd:FuncData} {ps:List Str} {sp:Sp} {E:XK} {x:Str} {p pos:Pos} {e:Expr} {es:List Expr} {t:TA}
end
section
variable {X:Cx} {C:Addr} {x:Str} {p pos:Pos} {e:Expr} {es:List Expr} {t:TA}
end
end L2
namespace L2
open PySem
noncomputable def WL (K:PySem.W.Frag) (C:Addr):Bool:=(PySem.W.clsIn K C).isSome && PySem.W.findIn K (.ref C) "__getattribute__" == some (some (.builtin "BaseException.__getattribute__")) && PySem.W.findIn K (.ref C) "__getattr__" == some none &&
 PySem.W.findIn K (.ref C) "__class__" == some (some (.builtin "object.__class__")) && PySem.W.subIn K (.ref C) (.type "object") == some true && PySem.W.subIn K (.ref C) (.type "BaseException") == some true
theorem Zn.ofIn {K:PySem.W.Frag} {C:Addr} (h:WL K C=true):Zn K C:=by
 simp only [WL,Bool.and_eq_true,beq_iff_eq] at h
 obtain⟨⟨⟨⟨⟨a,b⟩,c⟩,d⟩,e⟩,f⟩:=h
 exact⟨a,b,c,d,e,f⟩
noncomputable def Yo (K:PySem.W.Frag) (C:Addr):Bool:=WL K C && PySem.W.findIn K (.ref C) "__setattr__" == some (some (.builtin "object.__setattr__")) && (PySem.W.clsIn K C).any (fun cd=>Jk cd.mro && cd.hasDict)
theorem Z1.ofIn {K:PySem.W.Frag} {C:Addr} (h:Yo K C=true):Z1 K C:=by
 simp only [Yo,Bool.and_eq_true,beq_iff_eq] at h
 obtain⟨⟨a,b⟩,c⟩:=h
 exact⟨.ofIn a,b,c⟩
end L2
namespace L2
open PySem PySem.Spec PyProof.Rows
section
variable {P:Program} {w:World} {K:PySem.W.Frag} {mg:Str->Option Value} {base:Heap} {N:List Str} {qual:Str} {scope:Scope} {f:Addr} {cd:Value} {A:Around} {outer:List Env} {s:Shared} {H:Hp} {E:XK}
end
section
variable {M:Model} {A:Around} {E:Value->Shared->Prop} {s:Shared} {env:Env} {nm q:Str} {C N:Addr} {bs bm:List Value} {hdct:Bool} {sn:List Str} {sub:List Value} {ab:Bool} {col:Option Bool} {dd:Option Addr} {k0 k1 k2 k3 k5:Option Value} {newId:String}
end
section
variable {P:Program} {w:World} {K:PySem.W.Frag} {mg:Str->Option Value} {base:Heap} {N:List Str} {qual:Str} {scope:Scope} {f:Addr} {cd:Value} {A:Around} {outer:List Env} {s:Shared} {H:Hp} {E:XK}
end
section
variable {M:Model} {A:Around} {E:Value->Shared->Prop} {nm q:Str} {C N:Addr} {bs bm:List Value} {hdct:Bool} {sn:List Str} {sub:List Value} {ab:Bool} {col:Option Bool} {dd:Option Addr} {k0 k1 k2 k3 k5:Option Value} {newId:String}
end
section
variable {P:Program} {w:World} {K:PySem.W.Frag} {mg:Str->Option Value} {base:Heap}
end
theorem Dn.at {K:PySem.W.Frag} {C f:Addr} (c:Dn K C f) {h:Heap} (X:K.In h):ExcAt K C:=by
 obtain⟨nm,q,Nn,bs,bm,hdct,sn,sub,ab,col,dd,k0,k1,k2,k3,k5,mN,_,hf⟩:=c.ex
 exact⟨⟨nm,q,Nn,bs,bm,hdct,sn,sub,ab,col,dd,k0,k1,k2,k3,k5,_,(hf h X).2.2.hasType (X:= "BaseException") (b:=true) (by decide +kernel),fun h X=>(hf h X).1⟩⟩
noncomputable def ZW (a b:TI):TI:=fun σ H R=>a σ H R∨b σ H R
theorem Vn {X:Cx} {tg it:Expr} {a b:TI} (h1:PI X tg it a) (h2:PI X tg it b):PI X tg it (ZW a b):=fun pins s σ H R I h=>h.elim (h1 pins s σ H R I) (h2 pins s σ H R I)
theorem Kl {js:List Nat} {tt:TT} {te:TE} {σ:St} {Qd:List V->Hp->Prop} {K:PySem.W.Frag} {a:Addr} {xs:List V} {H:Hp} (Pv:Nat->List V->Hp->Prop) (hn:xs.length<=sizeLine) (h0:Pv 0 [] H) (hl:∀i ys H,Pv i ys H->ys.length<=i) (hq:∀i ys H,i<=xs.length->Pv i ys H->eN K H a xs)
  (hs:∀i x ys H,xs[i]?=some x->Pv i ys H->tt (some x:: dN σ js) H fun b H4=>if b=true then te (some x:: dN σ js) H4 fun y H5=>Pv (i+1) (ys ++ [y]) H5 else Pv (i+1) ys H4)
  (hd:∀ys H,Pv xs.length ys H->Qd ys H):CompEnd js tt te σ Qd (Xk K a) H:=by
 refine⟨fun i m ys H=>m=xs.length - i/\i<=xs.length/\Pv i ys H,⟨xs.length,by simp,Nat.zero_le _,h0⟩,?_⟩
 rintro i m ys H ⟨rfl,hi,p⟩
 have hlen:=hl i ys H p
 have q:=hq i ys H hi p
 by_cases hlt:i <xs.length
 ·refine .inr ⟨⟨xs,xs[i],q,by simp [hlt]⟩,by omega,Pv (i+1),fun ys' H' p'=>⟨xs.length - (i+1),by omega,rfl,hlt,p'⟩,fun x H' y=>?_⟩
  obtain⟨e,y⟩:=y
  subst e
  exact hs i x ys _ (y xs q) p
 ·have e:i=xs.length:=by omega
  subst e
  exact .inl ⟨⟨xs,q,Nat.le_refl _⟩,by omega,hd ys H p⟩
theorem RN {js:List Nat} {tt:TT} {te:TE} {σ σ0:St} {Qd:List V->Hp->Prop} {K:PySem.W.Frag} {a:Addr} {xs:List V} {H:Hp} {tl:TE} (ht:∀R:V->Hp->Prop,R (.ref a) H->tl σ0 H R) (ha:ym K H a xs) (Pv:Nat->List V->Prop) (hn:xs.length<=sizeLine) (h0:Pv 0 []) (hl:∀i ys,Pv i ys->ys.length<=i)
  (hs:∀i x ys,xs[i]?=some x->Pv i ys->tt (some x:: dN σ js) H fun b H4=>if b=true then te (some x:: dN σ js) H4 fun y H5=>H5=H/\Pv (i+1) (ys ++ [y]) else H4=H/\Pv (i+1) ys)
  (hd:∀ys,Pv xs.length ys->Qd ys H):ZW (Ve K tl) (Xq K tl) σ0 H (CompEnd js tt te σ Qd):=by
 rcases ha with ha | ha
 ·refine .inl (ht _ ⟨a,rfl,⟨xs,ha⟩,dR (K:=K) (a:=a) (xs:=xs) (fun i ys H'=>H'=H/\Pv i ys) hn ⟨rfl,h0⟩ (fun i ys _ z=>hl i ys z.2) (fun i ys H' _ z=>by rw [z.1];exact ha) (fun i x ys H' hx z=>?_) fun ys H' z=>?_⟩)
  ·obtain⟨rfl,z⟩:=z;exact hs i x ys hx z
  ·obtain⟨rfl,z⟩:=z;exact hd ys z
 ·refine .inr (ht _ ⟨a,rfl,⟨xs,ha⟩,Kl (K:=K) (a:=a) (xs:=xs) (fun i ys H'=>H'=H/\Pv i ys) hn ⟨rfl,h0⟩ (fun i ys _ z=>hl i ys z.2) (fun i ys H' _ z=>by rw [z.1];exact ha) (fun i x ys H' hx z=>?_) fun ys H' z=>?_⟩)
  ·obtain⟨rfl,z⟩:=z;exact hs i x ys hx z
  ·obtain⟨rfl,z⟩:=z;exact hd ys z
theorem ym.len {K:PySem.W.Frag} {H:Hp} {a:Addr} {xs:List V} (h:ym K H a xs):YT K (.ref a) H xs.length:=h.elim (fun h=>.inl ⟨xs,h,rfl⟩) fun h=>.inr ⟨xs,h,rfl⟩
theorem JH {X:Cx} {K:PySem.W.Frag} (hK:X.K=K):P0 X (WX K):=by subst hK;exact aX
theorem mY {X:Cx} {K:PySem.W.Frag} (hK:X.K=K):P0 X (Wf K):=by subst hK;exact bT
section
variable {P:Program} {w:World} {K:PySem.W.Frag} {mg:Str->Option Value} {base:Heap} {N:List Str} {qual:Str} {scope:Scope} {f:Addr} {cd:Value} {A:Around} {outer:List Env} {s:Shared} {H:Hp} {E:XK}
end
section
variable {κ:Type} [DecidableEq κ]
noncomputable def b8 (kvs:List (κ×V)) (k:κ):Option V:=(kvs.find? fun kv=>decide (kv.1=k)).map (·.2)
noncomputable def putK (kvs:List (κ×V)) (k:κ) (v:V):List (κ×V):=
 if (kvs.any fun kv=>decide (kv.1=k))=true then kvs.map (fun kv=>if kv.1=k then(kv.1,v) else kv) else kvs ++ [(k,v)]
theorem gq {p:κ×V} {r:List (κ×V)} {k:κ} (e:p.1=k):b8 (p:: r) k=some p.2:=by simp [b8,List.find?_cons,e]
theorem fM {p:κ×V} {r:List (κ×V)} {k:κ} (e:¬p.1=k):b8 (p:: r) k=b8 r k:=by simp [b8,List.find?_cons,e]
theorem qF (k:κ):∀kvs:List (κ×V),(kvs.any fun kv=>decide (kv.1=k))=(b8 kvs k).isSome
 | []=>rfl
 | p:: r=>by
  rw [List.any_cons]
  by_cases e:p.1=k
  ·simp only [gq e,decide_eq_true e,Bool.true_or,Option.isSome_some]
  ·rw [fM e,decide_eq_false e,Bool.false_or];exact qF k r
theorem Jq (k j:κ) (y:V):∀kvs:List (κ×V),b8 (kvs.map fun kv=>if kv.1=k then(kv.1,y) else kv) j=(b8 kvs j).map fun x=>if j=k then y else x
 | []=>rfl
 | p:: r=>by
  have ih:=Jq k j y r
  rw [List.map_cons]
  by_cases h:p.1=k
  ·rw [if_pos h]
   by_cases e:p.1=j
   ·rw [gq (p:=(p.1,y)) e,gq e,Option.map_some,if_pos (e.symm.trans h)]
   ·rw [fM (p:=(p.1,y)) e,fM e,ih]
  ·rw [if_neg h]
   by_cases e:p.1=j
   ·rw [gq (p:=p) e,gq e,Option.map_some,if_neg (fun z=>h (e.trans z))]
   ·rw [fM (p:=p) e,fM e,ih]
theorem FQ (k j:κ) (y:V):∀kvs:List (κ×V),b8 kvs k=none->b8 (kvs ++ [(k,y)]) j=if j=k then some y else b8 kvs j
 | [],_=>by
  by_cases e:k=j
  ·rw [if_pos e.symm];exact gq (p:=(k,y)) e
  ·rw [if_neg (fun z=>e z.symm)];exact fM (p:=(k,y)) e
 | p:: r,hn=>by
  rw [List.cons_append]
  have hk:¬p.1=k:=fun z=>by rw [gq z] at hn;cases hn
  rw [fM hk] at hn
  have ih:=FQ k j y r hn
  by_cases e:p.1=j
  ·rw [gq e,gq e,if_neg (fun z=>hk (e.trans z))]
  ·rw [fM e,fM e,ih]
theorem Ra (kvs:List (κ×V)) (k j:κ) (y:V):b8 (putK kvs k y) j=if j=k then some y else b8 kvs j:=by
 unfold putK
 by_cases a:(kvs.any fun kv=>decide (kv.1=k))=true
 ·rw [if_pos a,Jq]
  rw [qF] at a
  by_cases e:j=k
  ·obtain⟨x,hx⟩:=Option.isSome_iff_exists.mp a
   rw [if_pos e,e,hx,Option.map_some,if_pos rfl]
  ·rw [if_neg e]
   cases b8 kvs j with
   | none=>rfl
   | some x=>rw [Option.map_some,if_neg e]
 ·rw [if_neg a]
  refine FQ k j y kvs ?_
  rw [qF] at a
  cases q:b8 kvs k with
  | none=>rfl
  | some x=>rw [q] at a;exact(a rfl).elim
theorem lB (kvs:List (κ×V)) (k:κ) (v:V):(putK kvs k v).length<=kvs.length+1:=by
 unfold putK
 split
 ·rw [List.length_map];omega
 ·rw [List.length_append,List.length_cons,List.length_nil];omega
theorem jL {kvs:List (κ×V)} {k:κ} (v:V) (h:b8 kvs k=none):putK kvs k v=kvs ++ [(k,v)]:=by
 unfold putK
 rw [qF,h]
 exact if_neg (by decide)
theorem tD.isSome_eq {o:Option V} {u:Option Value} (r:tD o u):o.isSome=u.isSome:=by
 cases o with
 | none=>cases u with
  | none=>rfl
  | some _=>exact(show False from r).elim
 | some _=>cases u with
  | none=>exact(show False from r).elim
  | some _=>rfl
theorem tD.getD {o:Option V} {u:Option Value} {d:V} {d':Value} (r:tD o u) (rd:RelV d d'):RelV (o.getD d) (u.getD d'):=by
 cases o with
 | none=>cases u with
  | none=>exact rd
  | some _=>exact(show False from r).elim
 | some _=>cases u with
  | none=>exact(show False from r).elim
  | some _=>exact r
theorem KV.val {kvs:List (κ×V)} {vs:List (κ×Value)} (r:KV kvs vs) (k:κ):tD (b8 kvs k) (valueAt vs k):=by
 unfold KV at r
 induction r with
 | nil=>exact True.intro
 | @cons p q ps qs h t ih=>
  obtain⟨h1,h2⟩:=h
  by_cases e:p.1=k
  ·have e':q.1=k:=h1.symm.trans e
   have b:valueAt (q:: qs) k=some q.2:=by simp [valueAt,List.find?_cons,e']
   rw [gq e,b];exact h2
  ·have e':¬q.1=k:=fun z=>e (h1.trans z)
   have b:valueAt (q:: qs) k=valueAt qs k:=by simp [valueAt,List.find?_cons,e']
   rw [fM e,b];exact ih
theorem KV.any {kvs:List (κ×V)} {vs:List (κ×Value)} (r:KV kvs vs) (k:κ):(kvs.any fun kv=>decide (kv.1=k))=vs.any fun kv=>decide (kv.1=k):=by
 unfold KV at r
 induction r with
 | nil=>rfl
 | cons h t ih=>rw [List.any_cons,List.any_cons,ih,h.1]
theorem KV.repl {kvs:List (κ×V)} {vs:List (κ×Value)} (r:KV kvs vs) (k:κ) {y:V} {u:Value} (ry:RelV y u):
  KV (kvs.map fun kv=>if kv.1=k then(kv.1,y) else kv) (vs.map fun kv=>if kv.1=k then(kv.1,u) else kv):=by
 unfold KV at r ⊢
 induction r with
 | nil=>exact .nil
 | @cons p q ps qs h t ih=>
  rw [List.map_cons,List.map_cons]
  refine .cons ?_ ih
  obtain⟨h1,h2⟩:=h
  by_cases e:p.1=k
  ·rw [if_pos e,if_pos (h1.symm.trans e)];exact⟨h1,ry⟩
  ·rw [if_neg e,if_neg (fun z=>e (h1.trans z))];exact⟨h1,h2⟩
theorem KV.put {kvs:List (κ×V)} {vs:List (κ×Value)} (r:KV kvs vs) (k:κ) {y:V} {u:Value} (ry:RelV y u):KV (putK kvs k y) (stored vs k u):=by
 unfold putK stored
 rw [r.any k]
 by_cases e:(vs.any fun kv=>decide (kv.1=k))=true
 ·rw [if_pos e,if_pos e];exact r.repl k ry
 ·rw [if_neg e,if_neg e];exact Paired.snoc r ⟨rfl,ry⟩
theorem KV.keys {kvs:List (κ×V)} {vs:List (κ×Value)} (r:KV kvs vs):kvs.map (·.1)=vs.map (·.1):=by
 unfold KV at r
 induction r with
 | nil=>rfl
 | cons h t ih=>rw [List.map_cons,List.map_cons,ih,h.1]
theorem KV.length {kvs:List (κ×V)} {vs:List (κ×Value)} (r:KV kvs vs):kvs.length=vs.length:=Paired.length r
end
theorem Av {P:Program} {w:World} {k:Key} {u:Value} (r:RelV (kV k) u):(bQ P w).is k u=true:=by
 cases k with
 | inl i=>obtain⟨t,e⟩:=(show ∃t,u=Value.int i t from r);subst e;exact J8 P w i t
 | inr x=>obtain⟨t,e⟩:=(show ∃t,u=Value.str x t from r);subst e;exact lC P w x t
theorem Gz {P:Program} {w:World}:∀{ks:List Key} {us:List Value},Vals (ks.map kV) us->ItemsAre (bQ P w) ks us
 | [],_,r=>by rw [List.map_nil] at r;cases r;exact .nil
 | k:: ks,_,r=>by
  rw [List.map_cons] at r
  cases r with
  | cons h t=>exact .cons (Av h) (Gz t)
noncomputable abbrev KT (H:Hp):List (List Key×V)->List (List Key×Addr×Value)->Prop:=Paired fun p q=>p.1=q.1/\H q.2.1=some (.tup (p.1.map kV))/\RelV p.2 q.2.2
theorem KT.val {H:Hp} {kvs:List (List Key×V)} {xs:List (List Key×Addr×Value)} (r:KT H kvs xs) (k:List Key):tD (b8 kvs k) ((atKey xs k).map (·.2)):=by
 induction r with
 | nil=>exact True.intro
 | @cons p q ps qs h t ih=>
  obtain⟨h1,_,h2⟩:=h
  by_cases e:p.1=k
  ·have e':q.1=k:=h1.symm.trans e
   have b:atKey (q:: qs) k=some q.2:=by simp [atKey,List.find?_cons,e']
   rw [gq e,b];exact h2
  ·have e':¬q.1=k:=fun z=>e (h1.trans z)
   have b:atKey (q:: qs) k=atKey qs k:=by simp [atKey,List.find?_cons,e']
   rw [fM e,b];exact ih
theorem KT.repl {H:Hp} {kvs:List (List Key×V)} {xs:List (List Key×Addr×Value)} (r:KT H kvs xs) (k:List Key) {y:V} {u:Value} (ry:RelV y u):
  KT H (kvs.map fun kv=>if kv.1=k then(kv.1,y) else kv) (xs.map (putAt k u)):=by
 induction r with
 | nil=>exact .nil
 | @cons p q ps qs h t ih=>
  rw [List.map_cons,List.map_cons]
  refine .cons ?_ ih
  obtain⟨h1,h2,h3⟩:=h
  unfold putAt
  by_cases e:p.1=k
  ·rw [if_pos e,if_pos (h1.symm.trans e)];exact⟨h1,h2,ry⟩
  ·rw [if_neg e,if_neg (fun z=>e (h1.trans z))];exact⟨h1,h2,h3⟩
theorem KT.put {H:Hp} {kvs:List (List Key×V)} {xs:List (List Key×Addr×Value)} (r:KT H kvs xs) (k:List Key) {b:Addr} {y:V} {u:Value} (hb:H b=some (.tup (k.map kV))) (ry:RelV y u):
  KT H (putK kvs k y) (storedH xs k b u):=by
 have e:(kvs.any fun kv=>decide (kv.1=k))=(atKey xs k).isSome:=by
  rw [qF,(r.val k).isSome_eq,Option.isSome_map]
 unfold putK storedH
 rw [e]
 by_cases q:(atKey xs k).isSome=true
 ·rw [if_pos q,if_pos q];exact r.repl k ry
 ·rw [if_neg q,if_neg q];exact Paired.snoc r ⟨rfl,hb,ry⟩
theorem KT.keeps {H H':Hp} {kvs:List (List Key×V)} {xs:List (List Key×Addr×Value)} (r:KT H kvs xs) (ht:∀b ys,H b=some (.tup ys)->H' b=some (.tup ys)):KT H' kvs xs:=
 Paired.mapP r fun _ _ z=>⟨z.1,ht _ _ z.2.1,z.2.2⟩
section
variable {P:Program} {w:World} {H:Hp} {h:Heap} {a:Addr}
theorem VG {u:HO} (ok:vD P w H h) (e:Rd H a u):fW P w H h a u:=e.ok ok
theorem vL {kvs:List (Key×V)} (ok:vD P w H h) (e:Rd H a (.dK kvs)):kvs.length<=sizeLine/\(a == sysModules)=false/\∃vs,KV kvs vs/\h.DictOf (bQ P w) a vs:=
 show fW P w H h a (.dK kvs) from VG ok e
theorem Vv {kvs:List (Key×V)} (ok:vD P w H h) (e:H a=some (.dK kvs)):kvs.length<=sizeLine/\(a == sysModules)=false/\∃vs,KV kvs vs/\h.DictOf (bQ P w) a vs:=vL ok (.inl e)
theorem yW {ks:List Key} (ok:vD P w H h) (e:H a=some (.tup (ks.map kV))):(tupleKind (bQ P w)).is h ks a:=by
 obtain⟨_,its,r,o,h1,h2,n,h3⟩:=(show fW P w H h a (.tup (ks.map kV)) from ok a _ e)
 exact⟨o,its.toArray,n,h1,h2,h3,by simpa using Gz r⟩
theorem DQ {kvs:List (List Key×V)} (ok:vD P w H h) (e:Rd H a (.dT kvs)):kvs.length<=sizeLine/\(a == sysModules)=false/\
  ∃xs,KT H kvs xs/\h.DictOfH (tupleKind (bQ P w)) a xs:=by
 obtain⟨z,y,xs,r,o,es,ep,h1,h2,h3,h4,h5⟩:=(show fW P w H h a (.dT kvs) from VG ok e)
 refine⟨z,y,xs,r,o,es,ep,h1,h2,h3,h4,fun x hx=>?_,h5⟩
 have all:∀{l:List (List Key×V)} {m:List (List Key×Addr×Value)},KT H l m->∀x∈m,(tupleKind (bQ P w)).is h x.1 x.2.1:=by
  intro l m q
  induction q with
  | nil=>intro x hx;exact nomatch hx
  | @cons p q ps qs hq t ih=>
   intro x hx
   rcases List.mem_cons.mp hx with e | hx
   ·subst e
    exact yW ok (by rw [<-hq.1];exact hq.2.1)
   ·exact ih x hx
 exact all r x hx
theorem Yk {kvs:List (List Key×V)} (ok:vD P w H h) (e:H a=some (.dT kvs)):kvs.length<=sizeLine/\(a == sysModules)=false/\
  ∃xs,KT H kvs xs/\h.DictOfH (tupleKind (bQ P w)) a xs:=DQ ok (.inl e)
end
noncomputable def eE (H:Hp) (a:Addr) (y:V) (r:Option V):Prop:=
 (∃kvs k,Rd H a (.dK kvs)/\y=kV k/\r=b8 kvs k)∨∃kvs k b,Rd H a (.dT kvs)/\y=.ref b/\H b=some (.tup (k.map kV))/\r=b8 kvs k
noncomputable def o9 (H:Hp) (a:Addr) (y v:V) (H':Hp):Prop:=
 (∃kvs k,H a=some (.dK kvs)/\y=kV k/\kvs.length <sizeLine/\H'=upd H a (.dK (putK kvs k v)))∨
 ∃kvs k b,H a=some (.dT kvs)/\y=.ref b/\H b=some (.tup (k.map kV))/\kvs.length <sizeLine/\H'=upd H a (.dT (putK kvs k v))
theorem eE.k {H:Hp} {a:Addr} {kvs:List (Key×V)} {k:Key} (e:H a=some (.dK kvs)):eE H a (kV k) (b8 kvs k):=.inl ⟨kvs,k,.inl e,rfl,rfl⟩
theorem o9.k {H:Hp} {a:Addr} {kvs:List (Key×V)} {k:Key} {v:V} (e:H a=some (.dK kvs)) (hl:kvs.length <sizeLine):o9 H a (kV k) v (upd H a (.dK (putK kvs k v))):=.inl ⟨kvs,k,e,rfl,hl,rfl⟩
section
variable {X:Cx} {pins:List (Addr×Obj)} {σ:St} {H:Hp} {s:Shared} {a:Addr} {y v:V} {u r:Value} {o:Option V} {A:Around} {E:Value->Shared->Prop}
theorem Inv.big (I:Inv X pins σ H s):sysModules <s.heap.objs.size:=by
 have h:mainGlobals <s.heap.objs.size:=(I.mod.glob.keeps I.bk).lt
 exact Nat.lt_trans (by decide) h
theorem Gg {Q:Value->Shared->Prop} (hu:A.units+1 <cLine) (I:Inv X pins σ H s) (g:eE H a y (some v)) (ry:RelV y u) (h:∀w' s',Inv X pins σ H s'->RelV v w'->Q w' s'):
  wpAny (model X.prog X.w) A (getItem (.ref a) u) Q E s:=by
 rcases g with ⟨kvs,k,e,ey,l⟩ | ⟨kvs,k,b,e,ey,eb,l⟩
 ·subst ey
  obtain⟨z,hd,vs,rel,dd⟩:=vL I.hok e
  obtain⟨w',hw,rw'⟩:=tD.some_of (v:=v) (o:=valueAt vs k) (by rw [l];exact rel.val k)
  exact wpAny_getItem_of (Av ry) dd.mapOf hw (h w' _ (I.tok _) rw')
 ·subst ey
  cases (show u=Value.ref b from ry)
  obtain⟨z,hd,xs,rel,dd⟩:=DQ I.hok e
  obtain⟨w',hw,rw'⟩:=tD.some_of (v:=v) (o:=(atKey xs k).map (·.2)) (by rw [l];exact rel.val k)
  obtain⟨p,hp,hp2⟩:=Option.map_eq_some_iff.mp hw
  refine wpAny_getItem_heap (tupleKind_room_in1 hu) (yW I.hok eb) dd hp ?_
  rw [hp2]
  exact h w' _ (I.tok _) rw'
theorem Yl {Q:Value->Shared->Prop} (hu:A.units+1 <cLine) (I:Inv X pins σ H s) (g:eE H a y o) (ry:RelV y u) (h:∀s',Inv X pins σ H s'->Q (.bool o.isSome) s'):
  wpAny (model X.prog X.w) A (compareOp .In u (.ref a)) Q E s:=by
 rcases g with ⟨kvs,k,e,ey,l⟩ | ⟨kvs,k,b,e,ey,eb,l⟩
 ·subst ey
  obtain⟨z,hd,vs,rel,dd⟩:=vL I.hok e
  refine wpAny_in_of (Av ry) hd dd.mapOf ?_
  rw [<-(rel.val k).isSome_eq,<-l]
  exact h _ (I.tok _)
 ·subst ey
  cases (show u=Value.ref b from ry)
  obtain⟨z,hd,xs,rel,dd⟩:=DQ I.hok e
  refine wpAny_in_heap (tupleKind_room_in1 hu) (yW I.hok eb) hd dd ?_
  have q:=(rel.val k).isSome_eq
  rw [Option.isSome_map] at q
  rw [<-q,<-l]
  exact h _ (I.tok _)
theorem UJ {Q:Value->Shared->Prop} (hu:A.units+1 <cLine) (I:Inv X pins σ H s) (g:eE H a y o) (ry:RelV y u) (h:∀s',Inv X pins σ H s'->Q (.bool (!o.isSome)) s'):
  wpAny (model X.prog X.w) A (compareOp .NotIn u (.ref a)) Q E s:=by
 rcases g with ⟨kvs,k,e,ey,l⟩ | ⟨kvs,k,b,e,ey,eb,l⟩
 ·subst ey
  obtain⟨z,hd,vs,rel,dd⟩:=vL I.hok e
  refine wpAny_notIn_of (Av ry) hd dd.mapOf ?_
  rw [<-(rel.val k).isSome_eq,<-l]
  exact h _ (I.tok _)
 ·subst ey
  cases (show u=Value.ref b from ry)
  obtain⟨z,hd,xs,rel,dd⟩:=DQ I.hok e
  refine wpAny_notIn_heap (tupleKind_room_in1 hu) (yW I.hok eb) hd dd ?_
  have q:=(rel.val k).isSome_eq
  rw [Option.isSome_map] at q
  rw [<-q,<-l]
  exact h _ (I.tok _)
theorem Hw {h':Heap} {t':Nat} {ob:HO} (I:Inv X pins σ H s) (mu:YQ (H a)) (hs:Heap.SameBut a s.heap h') (he:∃q,h'.get? a=some q) (new:fW X.prog X.w (upd H a ob) h' a ob):
  Inv X pins σ (upd H a ob) { s with heap:=h',toks:=t' }:=
 I.write (x:=a) (e:=a) mu (.inl rfl) (fun b q hb z=>(hs.2 b hb).trans z) he new
theorem Mg {P:Program} {w:World} {H':Hp} {h':Heap} {kvs:List (Key×V)} {vs:List (Key×Value)} (z:kvs.length<=sizeLine) (hd:(a == sysModules)=false) (rel:KV kvs vs) (dd:h'.DictOf (bQ P w) a vs):
  fW P w H' h' a (.dK kvs):=⟨z,hd,vs,rel,dd⟩
theorem FN {H':Hp} {Q:Unit->Shared->Prop} (hu:A.units+1 <cLine) (I:Inv X pins σ H s) (g:o9 H a y v H') (ry:RelV y u) (rv:RelV v r) (h:∀s',Inv X pins σ H' s'->Q () s'):
  wpAny (model X.prog X.w) A (setItem (.ref a) u r) Q E s:=by
 rcases g with ⟨kvs,k,e,ey,l,eH⟩ | ⟨kvs,k,b,e,ey,eb,l,eH⟩
 ·subst ey eH
  obtain⟨z,hd,vs,rel,dd⟩:=Vv I.hok e
  have hz:vs.length<=sizeLine:=by rw [<-rel.length];exact z
  have hl:(putK kvs k v).length<=sizeLine:=by have:=lB kvs k v;omega
  refine wpAny_setItem_pairs (hsz:=hz) (Av ry) dd fun h' dd' hs=>h _ ?_
  have he:∃q,h'.get? a=some q:=let ⟨q,_,_,hq,_⟩:=dd';⟨q,hq⟩
  exact Hw I (by rw [e];exact True.intro) hs he (Mg hl hd (rel.put k rv) dd')
 ·subst ey eH
  cases (show u=Value.ref b from ry)
  obtain⟨z,hd,xs,rel,dd⟩:=Yk I.hok e
  have hz:xs.length<=sizeLine:=by rw [<-Paired.length rel];exact z
  have hl:(putK kvs k v).length<=sizeLine:=by have:=lB kvs k v;omega
  refine wpAny_setItem_heap (hsz:=hz) (tupleKind_room_in1 hu) (yW I.hok eb) dd fun h' dd' hs=>h _ ?_
  obtain⟨q,es,ep,hq,h2,h3,h4,_,h5⟩:=dd'
  refine Hw I (by rw [e];exact True.intro) hs ⟨q,hq⟩ ⟨hl,hd,_,(rel.put k eb rv).keeps fun c ys ec=>?_,q,es,ep,hq,h2,h3,h4,h5⟩
  rw [aK (ww ec e (fun z=>nomatch z))]
  exact ec
end
section
variable {X:Cx} {pins:List (Addr×Obj)} {σ:St} {H:Hp} {s:Shared} {a:Addr} {kvs:List (Key×V)} {k:Key} {u:Value} {A:Around} {E:Value->Shared->Prop}
end
noncomputable def Yy (i:Expr):Prop:=∀ov iv,subscripted i false ov iv=operate [ov,iv] (getItem ov iv)
theorem Th {prog:Program} {w:World} {A:Around} {E:Value->Shared->Prop} {s:Shared} {env:Env} {value slice:Expr} {pos:Pos} {T id:String} {Q:Value->Shared->Prop}
  (hl:typeLookup (.type T) "__getitem__" =pure (some (.builtin id))) (hs:Yy slice)
  (h:wpAny (model prog w) A (eval value env) (fun o s₁=>wpAny (model prog w) A (eval slice env) (fun i s₂=>s₂.TypeIs o T/\wpAny (model prog w) A (getItem o i) Q E s₂) E s₁) E s):
  wpAny (model prog w) A (eval (.Subscript value slice pos) env) Q E s:=by
 refine Subscript_ (wpAny_mono h (fun o s₁ h₁=>wpAny_mono h₁ (fun i s₂ h₂=>?_) fun _ _ x=>x) fun _ _ x=>x)
 obtain⟨hT,h₂⟩:=h₂
 unfold subscriptTail
 refine wpAny_bind ?_
 rw [getitemInPython_of_ne hT.not_modules]
 refine wpAny_bind (wpAny_specialOf hT hl ?_)
 have fin:wpAny (model prog w) A (subscripted slice false o i) (fun r s₃=>wpAny (model prog w) A (letTemporaryGo value o r >>= fun _=>pure r) Q E s₃) E s₂:=by
  rw [hs o i]
  exact wpAny_operating (wpAny_mono h₂ (fun r s₃ h₃=>wpAny_bind (wpAny_letTemporaryGo (wpAny_pure h₃))) fun _ _ x=>x)
 first
  | exact wpAny_pure (wpAny_bind fin)
  | exact wpAny_bind (wpAny_pure (wpAny_bind fin))
  | exact wpAny_bind fin
theorem Js {X:Cx} {pins:List (Addr×Obj)} {σ:St} {H:Hp} {s:Shared} {a:Addr} {y:V} {o:Option V} (I:Inv X pins σ H s) (g:eE H a y o):s.TypeIs (.ref a) "dict" :=by
 rcases g with ⟨kvs,k,e,_,_⟩ | ⟨kvs,k,b,e,_,_,_⟩
 ·obtain⟨_,_,vs,_,dd⟩:=vL I.hok e
  exact dd.typeIs
 ·obtain⟨_,_,xs,_,dd⟩:=DQ I.hok e
  exact dd.typeIs
inductive S5 (Q:VK) (x:V) (y:V) (H2:Hp):Prop where
 | mk:∀a v,x=.ref a->eE H2 a y (some v)->Q v H2->S5 Q x y H2
noncomputable def YK (td ty:TE):TE:=fun σ H Q=>td σ H fun x H1=>ty σ H1 fun y H2=>S5 Q x y H2
inductive Vy (Q:VK) (y:V) (x:V) (H2:Hp):Prop where
 | mk:∀a o,x=.ref a->eE H2 a y o->Q (.bl o.isSome) H2->Vy Q y x H2
noncomputable def Zr (ty td:TE):TE:=fun σ H Q=>ty σ H fun y H1=>td σ H1 fun x H2=>Vy Q y x H2
inductive JK (Q:VK) (y:V) (x:V) (H2:Hp):Prop where
 | mk:∀a o,x=.ref a->eE H2 a y o->Q (.bl (!o.isSome)) H2->JK Q y x H2
noncomputable def Us (ty td:TE):TE:=fun σ H Q=>ty σ H fun y H1=>td σ H1 fun x H2=>JK Q y x H2
inductive Sv (D:Ends) (σ:St) (v:V) (x:V) (y:V) (H3:Hp):Prop where
 | mk:∀a H4,x=.ref a->o9 H3 a y v H4->D.nx σ H4->Sv D σ v x y H3
noncomputable def XC (td ty tv:TE):TS:=fun D σ H=>tv σ H fun v H1=>td σ H1 fun x H2=>ty σ H2 fun y H3=>Sv D σ v x y H3
inductive Qx (tv:TE) (rd:V->V->Hp->VK->Prop) (D:Ends) (σ:St) (x:V) (y:V) (H2:Hp):Prop where
 | mk:∀a v,x=.ref a->eE H2 a y (some v)->(tv σ H2 fun y2 H3=>rd v y2 H3 fun z H4=>∃H5,o9 H4 a y z H5/\D.nx σ H5)->Qx tv rd D σ x y H2
noncomputable def XQ (td ty tv:TE) (rd:V->V->Hp->VK->Prop):TS:=fun D σ H=>td σ H fun x H1=>ty σ H1 fun y H2=>Qx tv rd D σ x y H2
section
variable {X:Cx} {o i e value:Expr} {pos pos' tpos:Pos} {td ty tv:TE}
theorem cZ (hu:X.A.units+1 <cLine) (ho:PE X o td) (hi:PE X i ty) (hs:Yy i):PE X (.Subscript o i pos) (YK td ty):=by
 intro pins s σ H Q I h
 refine Th PySem.F.slot_dict_getitem.lookup hs (dH (ho pins s σ H _ I h) fun u s1 ⟨x,H1,I1,rx,q1⟩=>dH (hi pins s1 σ H1 _ I1 q1) fun iv s2 hpt=>?_)
 obtain⟨y,H2,I2,ry,a,v,ex,g,q2⟩:=hpt
 subst ex
 obtain rfl:u=Value.ref a:=rx
 exact⟨Js I2 g,Gg hu I2 g ry fun w' s3 I3 rw'=>⟨v,H2,I3,rw',q2⟩⟩
theorem zb (hu:X.A.units+1 <cLine) (hi:PE X i ty) (ho:PE X o td):PC X .In i o (Zr ty td):=by
 intro pins s σ H Q I h
 refine dH (hi pins s σ H _ I h) fun iv s1 ⟨y,H1,I1,ry,q1⟩=>dH (ho pins s1 σ H1 _ I1 q1) fun u s2 hpt=>?_
 obtain⟨x,H2,I2,rx,a,ov,ex,g,q2⟩:=hpt
 subst ex
 obtain rfl:u=Value.ref a:=rx
 exact Yl hu I2 g ry fun s3 I3=>⟨.bl ov.isSome,H2,I3,rfl,q2⟩
theorem uW (hu:X.A.units+1 <cLine) (hi:PE X i ty) (ho:PE X o td):PC X .NotIn i o (Us ty td):=by
 intro pins s σ H Q I h
 refine dH (hi pins s σ H _ I h) fun iv s1 ⟨y,H1,I1,ry,q1⟩=>dH (ho pins s1 σ H1 _ I1 q1) fun u s2 hpt=>?_
 obtain⟨x,H2,I2,rx,a,ov,ex,g,q2⟩:=hpt
 subst ex
 obtain rfl:u=Value.ref a:=rx
 exact UJ hu I2 g ry fun s3 I3=>⟨.bl (!ov.isSome),H2,I3,rfl,q2⟩
theorem gM (hu:X.A.units+1 <cLine) (ho:PE X o td) (hi:PE X i ty) (hv:PE X value tv) (hs:swapsWith value (some (.Subscript o i pos')) pos.line X.env=pure false):
  PS X (.Assign [.Subscript o i pos'] value pos) (XC td ty tv):=by
 intro pins s σ H D I h
 refine wpAny_Assign_Subscript (dH (hv pins s σ H _ I h) fun r s1 ⟨v,H1,I1,rv,q1⟩=>dH (ho pins s1 σ H1 _ I1 q1) fun u s2 ⟨x,H2,I2,rx,q2⟩=>dH (hi pins s2 σ H2 _ I2 q2) fun iv s3 hpt=>?_) hs
 obtain⟨y,H3,I3,ry,a,H4,ex,g,q3⟩:=hpt
 subst ex
 obtain rfl:u=Value.ref a:=rx
 exact FN hu I3 g ry rv fun s4 I4=>⟨σ,H4,I4,q3⟩
theorem M4 {op:Operator} {rd:V->V->Hp->VK->Prop} (hu:X.A.units+1 <cLine) (ho:PE X o td) (hi:PE X i ty) (hv:PE X value tv) (hop:Xw X op rd)
  (ha:∀ov iv new,augStore i ov iv new=(do holding [new,ov,iv] (setItem ov iv new);release [new,ov,iv] [];pure .next)):PS X (.AugAssign (.Subscript o i tpos) op value pos) (XQ td ty tv rd):=by
 intro pins s σ H D I h
 refine wpAny_AugAssign_SubscriptAny (dH (ho pins s σ H _ I h) fun u s1 ⟨x,H1,I1,rx,q1⟩=>dH (hi pins s1 σ H1 _ I1 q1) fun iv s2 hpt=>?_) ha
 obtain⟨y,H2,I2,ry,a,v,ex,g,q2⟩:=hpt
 subst ex
 obtain rfl:u=Value.ref a:=rx
 refine Gg hu I2 g ry fun w' s3 I3 rw'=>dH (hv pins s3 σ H2 _ I3 q2) fun w2 s4 ⟨y2,H3,I4,ry2,q3⟩=>dH (hop pins s4 σ H3 v y2 w' w2 _ I4 rw' ry2 q3) fun w3 s5 hpt=>?_
 obtain⟨z,H4,I5,rz,H5,g5,q4⟩:=hpt
 exact FN hu I5 g5 ry rz fun s6 I6=>⟨σ,H5,I6,q4⟩
end
theorem J9 {P:Program} {w:World} {H:Hp} (h:Heap) (hb:sysModules <h.objs.size):fW P w H (h.push { cls:=.type "dict",data:=.dict #[] }) h.objs.size (.dK []):=
 ⟨Nat.zero_le _,beq_eq_false_iff_ne.mpr (Ne.symm (Nat.ne_of_lt hb)),[],.nil,Heap.DictOf.new h⟩
noncomputable def Wv:TE:=fun _ H Q=>∀p,H p=none->Q (.ref p) (upd H p (.dK []))
section
variable {X:Cx} {pos:Pos}
theorem gf:PE X (.Dict [] [] pos) Wv:=fun pins s σ H Q I h=>
 wpAny_Dict_empty ⟨.ref s.heap.objs.size,_,I.laid (a:=s.heap.objs.size) (o:=.dK []) (t':=s.toks) (fun _ _ q=>Heap.get?_push_of_some _ q) (Nat.le_refl _) (J9 s.heap I.big),rfl,h _ (I.hok.fresh (Nat.le_refl _))⟩
end
noncomputable def K1:List (TE×TE)->St->Hp->(List (V×V)->Hp->Prop)->Prop
 | [],_,H,Q=>Q [] H
 | (tk,tv):: r,σ,H,Q=>tk σ H fun x H1=>tv σ H1 fun y H2=>K1 r σ H2 fun ps H3=>Q ((x,y):: ps) H3
noncomputable abbrev VV:List (V×V)->List (Value×Value)->Prop:=Paired fun p q=>RelV p.1 q.1/\RelV p.2 q.2
noncomputable def Y5 (X:Cx) (pos:Pos) (keys:List (Option Expr)) (values:List Expr) (trs:List (TE×TE)):Prop:=
 ∀(pins:List (Addr×Obj)) (s:Shared) (σ:St) (H:Hp) (Q:List (V×V)->Hp->Prop),Inv X pins σ H s->K1 trs σ H Q->
  wpAny (model X.prog X.w) X.A (evalPairs (pairTrees keys values X.env pos)) (fun vs s'=>∃ps H',Inv X pins σ H' s'/\VV ps vs/\Q ps H') X.xe s
theorem Tt {X:Cx} {pos:Pos}:Y5 X pos [] [] []:=fun pins s σ H Q I h=>pairTrees_nil_walk ⟨[],H,I,.nil,h⟩
theorem Ru {X:Cx} {pos:Pos} {k v:Expr} {ks:List (Option Expr)} {vs:List Expr} {tk tv:TE} {trs:List (TE×TE)} (hk:PE X k tk) (hv:PE X v tv) (hr:Y5 X pos ks vs trs):
  Y5 X pos (some k:: ks) (v:: vs) ((tk,tv):: trs):=fun pins s σ H Q I h=>
 pairTrees_cons_walk (dH (hk pins s σ H _ I h) fun u s1 ⟨x,H1,I1,rx,q1⟩=>dH (hv pins s1 σ H1 _ I1 q1) fun w2 s2 ⟨y,H2,I2,ry,q2⟩=>
  dH (hr pins s2 σ H2 _ I2 q2) fun ws s3 ⟨ps,H3,I3,rel,q3⟩=>⟨(x,y):: ps,H3,I3,.cons ⟨rx,ry⟩ rel,q3⟩)
noncomputable def tG (kvs more:List (Key×V)):List (Key×V):=more.foldl (fun acc kv=>putK acc kv.1 kv.2) kvs
theorem KV.merge:∀{more:List (Key×V)} {rs:List (Key×Value)} {kvs:List (Key×V)} {vs:List (Key×Value)},KV more rs->KV kvs vs->KV (tG kvs more) (merged vs rs):=by
 intro more rs kvs vs r
 unfold KV at r
 induction r generalizing kvs vs with
 | nil=>intro q;exact q
 | @cons p q ps qs h t ih=>
  intro r0
  have e:KV (putK kvs p.1 p.2) (stored vs q.1 q.2):=by
   have:=r0.put p.1 h.2
   rw [<-h.1];exact this
  exact ih e
theorem vV:∀(more kvs:List (Key×V)),(tG kvs more).length<=kvs.length+more.length
 | [],kvs=>by show kvs.length<=kvs.length+0;omega
 | p:: r,kvs=>by
  have h1:=vV r (putK kvs p.1 p.2)
  have h2:=lB kvs p.1 p.2
  show(tG (putK kvs p.1 p.2) r).length<=_
  rw [List.length_cons];omega
theorem BR {P:Program} {w:World}:∀{kvs:List (Key×V)} {ws:List (Value×Value)},VV (kvs.map fun kv=>(kV kv.1,kv.2)) ws->∃rs,Carries (bQ P w) ws rs/\KV kvs rs
 | [],_,r=>by rw [List.map_nil] at r;cases r;exact⟨[],True.intro,.nil⟩
 | p:: kvs,_,r=>by
  rw [List.map_cons] at r
  cases r with
  | @cons a b as bs h t=>
   obtain⟨rs,c,q⟩:=BR (P:=P) (w:=w) t
   obtain⟨b1,b2⟩:=b
   exact⟨(p.1,b2):: rs,⟨Av h.1,rfl,c⟩,.cons ⟨rfl,h.2⟩ q⟩
noncomputable def XN (trs:List (TE×TE)):TE:=fun σ H Q=>∀p,H p=none->K1 trs σ (upd H p (.dK [])) fun ps H2=>H2 p=some (.dK [])/\∃kvs:List (Key×V),ps=kvs.map (fun kv=>(kV kv.1,kv.2))/\kvs.length<=15/\Q (.ref p) (upd H2 p (.dK (tG [] kvs)))
theorem Uh {X:Cx} {pos:Pos} {keys:List (Option Expr)} {values:List Expr} {trs:List (TE×TE)} (h:Y5 X pos keys values trs) (hall:keys.all (·.isSome)=true) (hl:keys.length=values.length) (h0:keys≠[])
  (h15:keys.length<=15):PE X (.Dict keys values pos) (XN trs):=by
 intro pins s σ H Q I q
 have hn:=I.hok.fresh (Nat.le_refl s.heap.objs.size)
 have I1:=I.laid (a:=s.heap.objs.size) (o:=.dK []) (h':=s.heap.push { cls:=.type "dict",data:=.dict #[] }) (t':=s.toks) (fun _ _ q=>Heap.get?_push_of_some _ q) (Nat.le_refl _) (J9 s.heap I.big)
 refine wpAny_Dict_walk (knd:=bQ X.prog X.w) hall hl h0 h15 (dH (h pins _ σ _ _ I1 (q _ hn)) fun ws s2 hpt=>?_)
 obtain⟨ps,H2,I2,rel,e,kvs,ep,lk,q2⟩:=hpt
 subst ep
 obtain⟨rs,c,rk⟩:=BR (P:=X.prog) (w:=X.w) rel
 obtain⟨z,hd,vs0,r0,dd⟩:=Vv I2.hok e
 cases r0
 refine⟨rs,c,dd,fun h' dd' hs=>⟨.ref s.heap.objs.size,_,?_,rfl,q2⟩⟩
 have hz:(tG [] kvs).length<=sizeLine:=by
  have h1:=vV kvs []
  rw [List.length_nil] at h1
  rw [sizeLine_eq];omega
 have he:∃q,h'.get? s.heap.objs.size=some q:=let ⟨q,_,_,hq,_⟩:=dd';⟨q,hq⟩
 exact Hw I2 (by rw [e];exact True.intro) hs he (Mg hz hd (rk.merge .nil) dd')
structure M2 (X:Cx) (o:Expr) (m:Str) (apos:Pos) (e f:Expr) (cpos:Pos):Prop where
 base:attributeBase o m X.env (eval o X.env)=eval o X.env
 few:((backTo cpos (starEach [e,f] X.env)).all (fun x=>!x.1) && (backToKw cpos (keywordEach [] X.env)).all (fun x=>x.1.isSome)
  && decide (([e,f]:List Expr).length+([]:List Keyword).length+(if ([]:List Keyword).isEmpty then 0 else 1) <30))=true
 line:(apos.endLine == cpos.line)=true
 trees:backTo cpos (starEach [e,f] X.env)=[(false,eval e X.env),(false,eval f X.env)]
noncomputable def Z3 (H:Hp) (a:Addr):Prop:=(∃kvs,Rd H a (.dK kvs))∨∃kvs,Rd H a (.dT kvs)
theorem Xh {X:Cx} {pins:List (Addr×Obj)} {σ:St} {H:Hp} {s:Shared} {a:Addr} (I:Inv X pins σ H s) (d:Z3 H a):
  s.TypeIs (.ref a) "dict" /\(∀b,Value.ref a=.ref b->∃ob,s.heap.get? b=some ob/\ob.dict=none)/\(a == sysModules)=false:=by
 rcases d with ⟨kvs,e⟩ | ⟨kvs,e⟩
 ·obtain⟨_,hd,vs,_,dd⟩:=vL I.hok e
  refine⟨dd.typeIs,fun b q=>?_,hd⟩
  cases q
  obtain⟨ob,_,_,h1,h2,_⟩:=dd
  exact⟨ob,h1,h2.2.1⟩
 ·obtain⟨_,hd,xs,_,dd⟩:=DQ I.hok e
  refine⟨dd.typeIs,fun b q=>?_,hd⟩
  cases q
  obtain⟨ob,_,_,h1,h2,_⟩:=dd
  exact⟨ob,h1,h2.2.1⟩
section
variable {X:Cx} {pins:List (Addr×Obj)} {σ:St} {H:Hp} {s:Shared} {a:Addr} {y d:V} {u r:Value} {o:Option V} {A:Around} {E:Value->Shared->Prop}
theorem W8 {Q:Value->Shared->Prop} (hu:A.units+1 <cLine) (I:Inv X pins σ H s) (g:eE H a y o) (ry:RelV y u) (rd:RelV d r) (h:∀w' s',Inv X pins σ H s'->RelV (o.getD d) w'->Q w' s'):
  wpAny (model X.prog X.w) A (call (.builtin "dict.get") [.ref a,u,r]) Q E s:=by
 rcases g with ⟨kvs,k,e,ey,l⟩ | ⟨kvs,k,b,e,ey,eb,l⟩
 ·subst ey
  obtain⟨z,hd,vs,rel,dd⟩:=vL I.hok e
  refine call_meetsIn PySem.F.slot_dict_get dd.typeIs PySem.F.entry_dict_get (PySem.F.args_dict_get_3 _ _ _) (meets_dict_get_default (bQ X.prog X.w) a (Av ry) hd r) ⟨_,dd.mapOf,h _ _ (I.tok _) ?_⟩
  rw [l]
  exact(rel.val k).getD rd
 ·subst ey
  cases (show u=Value.ref b from ry)
  obtain⟨z,hd,xs,rel,dd⟩:=DQ I.hok e
  refine call_meetsIn PySem.F.slot_dict_get dd.typeIs PySem.F.entry_dict_get (PySem.F.args_dict_get_3 _ _ _) (meetsH_dict_get_default (tupleKind (bQ X.prog X.w)) a b hd r) ⟨tupleKind_room_in1 hu,k,xs,yW I.hok eb,dd,h _ _ (I.tok _) ?_⟩
  rw [l]
  exact(rel.val k).getD rd
end
inductive MN (ty:TE) (tx:TE) (σ:St) (Q:VK) (x:V) (H1:Hp):Prop where
 | mk:∀a,x=.ref a->Z3 H1 a->(ty σ H1 fun y H2=>tx σ H2 fun z H3=>∃o,eE H3 a y o/\Q (o.getD z) H3)->MN ty tx σ Q x H1
noncomputable def WP (td ty tx:TE):TE:=fun σ H Q=>td σ H fun x H1=>MN ty tx σ Q x H1
section
variable {X:Cx} {o e f:Expr} {apos cpos:Pos} {td ty tx:TE}
theorem QD (hu:X.A.units+1 <cLine) (ho:PE X o td) (he:PE X e ty) (hf:PE X f tx) (m:M2 X o "get" apos e f cpos):PE X (.Call (.Attribute o "get" apos) [e,f] [] cpos) (WP td ty tx):=by
 intro pins s σ H Q I h
 refine wpAny_Call_method m.base m.few m.line PySem.F.plainAttrs_dict PySem.F.slot_dict_get PySem.F.type_dict_get (dH (ho pins s σ H _ I h) fun u s1 hpt=>?_)
 obtain⟨x,H1,I1,rx,a,ex,d,q1⟩:=hpt
 subst ex
 obtain rfl:u=Value.ref a:=rx
 obtain⟨t1,t2,_⟩:=Xh I1 d
 refine⟨t1,t2,?_⟩
 rw [m.trees]
 refine Calls.callWith_builtin rfl (Calls.evalArgs_plain (Calls.spliced_cons (dH (he pins s1 σ H1 _ I1 q1) fun iv s2 ⟨y,H2,I2,ry,q2⟩=>
  Calls.spliced_cons (dH (hf pins s2 σ H2 _ I2 q2) fun fv s3 ⟨z,H3,I3,rz,ov,g,q3⟩=>Calls.spliced_nil ?_))))
 exact W8 hu I3 g ry rz fun w' s4 I4 rw'=>⟨_,H3,I4,rw',q3⟩
end
section
variable {X:Cx} {pins:List (Addr×Obj)} {σ:St} {H:Hp} {s:Shared} {a:Addr} {kvs:List (Key×V)} {A:Around} {E:Value->Shared->Prop}
end
section
variable {X:Cx} {pins:List (Addr×Obj)} {σ:St} {H:Hp} {s:Shared} {a:Addr} {y:V} {u:Value} {A:Around} {E:Value->Shared->Prop}
end
section
variable {X:Cx} {pins:List (Addr×Obj)} {σ:St} {H:Hp} {s:Shared} {d:Addr} {kvs:List (Key×V)}
theorem Inv.chill (I:Inv X pins σ H s) (e:H d=some (.dK kvs)):∃o,s.heap.get? d=some o/\Inv X pins σ (upd H d (.frz o (.dK kvs))) s:=by
 obtain⟨z,hd,vs,rel,o,es,ep,ho,r⟩:=(show fW X.prog X.w H s.heap d (.dK kvs) from I.hok d _ e)
 refine⟨o,ho,?_⟩
 have:=I.write (x:=d) (e:=d) (o:=.frz o (.dK kvs)) (h':=s.heap) (t':=s.toks) (by rw [e];exact True.intro) (.inl rfl) (fun b u _ q=>q) ⟨o,ho⟩ ⟨ho,z,hd,vs,rel,o,es,ep,ho,r⟩
 exact this
theorem Inv.melt {o:Obj} (I:Inv X pins σ H s) (e:H d=some (.frz o (.dK kvs))) (h0:∀o u,X.H₀ d≠some (.frz o u)):Inv X pins σ (upd H d (.dK kvs)) s:=by
 have ne:∀b u,H b=some u->(∀o v,u≠.frz o v)->b≠d:=fun b u q n z=>by
  rw [z,e] at q
  exact n _ _ (Option.some.inj q).symm
 have no:∀b,H b=none->b≠d:=fun b q z=>by rw [z,e] at q;cases q
 refine⟨I.ok,I.os,I.bare,⟨I.base.keep,I.base.slot,fun b u q n hx=>?_,I.base.there,fun b xs q=>?_,fun b u v q=>?_,fun b ps q=>?_⟩,I.loc,I.cell,?_,fun y c q=>?_,fun p h=>?_,fun b u q=>?_,I.len⟩
 ·have z:=I.base.free b u q n hx
  rw [aK (no b z)];exact z
 ·have z:=I.base.tups b xs q
  rw [aK (ne b _ z (by intro _ _ w;cases w))];exact z
 ·have z:=I.base.frzs b u v q
  rw [aK (fun w=>by rw [w] at q;exact h0 _ _ q)];exact z
 ·obtain⟨m,z⟩:=I.base.tbls b ps q
  exact⟨m,by rw [aK (ne b _ z (by intro _ _ w;cases w))];exact z⟩
 ·rw [aK (no _ I.free)];exact I.free
 ·rw [aK (no _ (I.freeC y c q))];exact I.freeC y c q
 ·obtain⟨z1,z2,r⟩:=I.pin p h
  exact⟨z1,by rw [aK (no _ z2)];exact z2,r⟩
 ·by_cases w:b=d
  ·subst w
   rw [au] at q
   cases q
   exact(I.hok b _ e).2
  ·rw [aK w] at q
   exact(I.hok b u q).stay (fun _ _ _ z=>z) (fun c z=>by rw [aK (ne c _ z (by intro _ _ w;cases w))];exact z) fun c xs z=>by rw [aK (ne c _ z (by intro _ _ w;cases w))];exact z
end
inductive Wz (H0 H H':Hp):Prop where
 | mk:∀d o kvs,H d=some (.frz o (.dK kvs))->((∀o u,H0 d≠some (.frz o u)))->H'=upd H d (.dK kvs)->Wz H0 H H'
section
variable {X:Cx} {H0:Hp} {st:Stmt} {sts:List Stmt} {e:Expr} {t:TS} {te:TE}
theorem yd (hH:X.H₀=H0) (h:PS X st t):PS X st (fun D σ H=>t { D with nx:=fun σ' H'=>∃H'',Wz H0 H' H''/\D.nx σ' H'' } σ H):=by
 subst hH
 intro pins s σ H D I hh
 refine dH (h pins s σ H _ I hh) fun f s1 q=>?_
 cases f with
 | next=>obtain⟨σ',H',I',H'',⟨d,o,kvs,e,n,rfl⟩,q⟩:=q;exact⟨σ',_,I'.melt e n,q⟩
 | ret v=>exact q
 | brk=>exact q
 | cont=>exact q
theorem Tu (hH:X.H₀=H0) (h:PE X e te):PE X e (fun σ H Q=>te σ H fun v H1=>∃H2,Wz H0 H1 H2/\Q v H2):=by
 subst hH
 intro pins s σ H Q I hh
 refine dH (h pins s σ H _ I hh) fun u s1 q=>?_
 obtain⟨v,H1,I1,r,H2,⟨d,o,kvs,e,n,rfl⟩,q⟩:=q
 exact⟨v,_,I1.melt e n,r,q⟩
end
noncomputable def Xj (d:Addr) (o:Obj) (kvs:List (Key×V)):It:=
 ⟨fun i H=>H d=some (.frz o (.dK kvs))/\i <kvs.length,fun i H x H'=>H'=H/\∃k v,kvs[i]?=some (k,v)/\x=kV k,fun i H=>H d=some (.frz o (.dK kvs))/\kvs.length<=i⟩
theorem SM {P:Program} {w:World} {k:Key} {u:Value} (h:(bQ P w).is k u=true):RelV (kV k) u:=by
 rcases dm (k:=k) (v:=u) h with ⟨i,t,rfl,rfl⟩ | ⟨x,t,rfl,rfl⟩
 ·exact⟨t,rfl⟩
 ·exact⟨t,rfl⟩
theorem Mj:∀{kvs:List (Key×V)} {vs:List (Key×Value)} {i:Nat} {k:Key} {v:V},KV kvs vs->kvs[i]?=some (k,v)->∃v',vs[i]?=some (k,v')
 | _,_,0,k,v,.cons h _,e=>by
  cases (Option.some.inj e)
  exact⟨_,by rw [List.getElem?_cons_zero,show k=_ from h.1]⟩
 | _,_,i+1,k,v,.cons _ t,e=>by
  obtain⟨v',z⟩:=Mj (i:=i) (k:=k) (v:=v) t (by simpa using e)
  exact⟨v',by simpa using z⟩
theorem Pn {P:Program} {w:World} {K:PySem.W.Frag} {tg:Expr} {d it:Addr} {o:Obj} {kvs:List (Key×V)} {vs:List (Key×Value)} {ep:Nat} (rel:KV kvs vs) (hD:∀h:Heap,h.get? d=some o->h.DictAt (bQ P w) d vs ep):
  Turn P w K tg (Xj d o kvs) [it] it (fun i h=>h.IsKeyIter it d i vs.length ep) where
 mem:=by simp
 obj:=fun i h st b hb=>by
  have e:b=it:=by simpa using hb
  subst e
  obtain⟨o,e,c,d⟩:=st
  exact⟨o,e,fun v z=>by rw [d] at z;cases z⟩
 keep:=fun i h h' st k=>st.at fun o e=>k it (by simp) o e
 item:=by
  intro X hP hw hK hc i pins s σ H E I hf st hg
  subst hP hw hK
  obtain⟨hq,hi⟩:=hg
  obtain⟨f0,f1,f2,f3,f4,f5⟩:=hf it (by simp)
  have ho:s.heap.get? d=some o:=(I.hok d _ hq).1
  have hl:kvs.length=vs.length:=Paired.length rel
  obtain⟨k,v,ek⟩:∃k v,kvs[i]?=some (k,v):=⟨_,_,List.getElem?_eq_getElem hi⟩
  obtain⟨v',ev⟩:=Mj rel ek
  refine wpAny_pyNext_dict_item st (hD _ ho) ev fun key h' hk st' sb=>?_
  have I1:Inv X pins σ H { s with heap:=h' }:=I.turned (t':=s.toks) (fun b o hb e=>(sb.2 b hb).trans e) f0 f1 f3 f4 f5
  obtain⟨o',e,c,dd⟩:=id st'
  exact⟨key,rfl,Ko (s:={ s with heap:=h' }) e c dd (by decide) ⟨kV k,H,I1,SM hk,⟨rfl,k,v,ek,rfl⟩,st',fun b hb=>(hf b hb).1⟩⟩
 done:=by
  intro X hP hw hK hc i pins s σ H E I hf st hg
  subst hP hw hK
  obtain⟨hq,hi⟩:=hg
  obtain⟨f0,f1,f2,f3,f4,f5⟩:=hf it (by simp)
  have ho:s.heap.get? d=some o:=(I.hok d _ hq).1
  have hl:kvs.length=vs.length:=Paired.length rel
  exact wpAny_pyNext_dict_end (I.ok.hd hc) st (hD _ ho) (List.getElem?_eq_none (by omega)) fun h' eb=>⟨rfl,I.turned (t':=s.toks) (fun b o hb e=>eb b o hb e) f0 f1 f3 f4 f5⟩
 self:=fun _ _ _ _ _ st h=>wpAny_pyIter_keyiter st h
inductive QZ (R:It->Hp->Prop) (x:V) (H1:Hp):Prop where
 | mk:∀d kvs,x=.ref d->H1 d=some (.dK kvs)->(∀o,R (Xj d o kvs) (upd H1 d (.frz o (.dK kvs))))->QZ R x H1
noncomputable def Yz (td:TE):TI:=fun σ H R=>td σ H fun x H1=>QZ R x H1
theorem yK {X:Cx} {tg l:Expr} {td:TE} (hl:PE X l td):PI X tg l (Yz td):=by
 intro pins s σ H R I h
 refine dH (hl pins s σ H _ I h) fun v s1 hpt=>?_
 obtain⟨x,H1,I1,r1,q1⟩:=hpt
 obtain⟨d,kvs,e,ed,q⟩:=q1
 subst e
 cases r1
 obtain⟨_,hd,vs,rel,o0,es,ep,ho0,r⟩:=(show fW X.prog X.w H1 s1.heap d (.dK kvs) from I1.hok d _ ed)
 obtain⟨o,ho,I2⟩:=I1.chill ed
 obtain rfl:o0=o:=Option.some.inj (ho0.symm.trans ho)
 have hD:∀h:Heap,h.get? d=some o0->h.DictAt (bQ X.prog X.w) d vs ep:=fun h z=>⟨o0,es,z,r⟩
 refine wpAny_pyIter_dict hd (hD _ ho) ?_
 refine⟨s1.heap.objs.size,[s1.heap.objs.size],_,_,_,rfl,I2.kept (t':=s1.toks) fun b o e=>Heap.get?_push_of_some _ e,Pn rel hD,⟨_,Heap.get?_push_size _ rfl,rfl,rfl⟩,fun b hb=>?_,q o0⟩
 have e:b=s1.heap.objs.size:=by simpa using hb
 subst e
 exact I2.fpOk (Nat.le_refl _) (I2.hok.fresh (Nat.le_refl _))
theorem yG {d:Addr} {o:Obj} {kvs:List (Key×V)} {g:TG} {tb:TS} {D:Ends} {σ:St} {H:Hp} (Pv:Nat->St->Hp->Prop) (h0:Pv 0 σ H) (hl:∀i σ H,i<=kvs.length->Pv i σ H->H d=some (.frz o (.dK kvs)))
  (hs:∀i k v σ H,kvs[i]?=some (k,v)->Pv i σ H->g (kV k) σ H fun σ2 H2=>tb { D with nx:=Pv (i+1),ct:=Pv (i+1),bk:=D.nx } σ2 H2) (hd:∀σ H,Pv kvs.length σ H->D.nx σ H):
  ∃W:Nat->Nat->St->Hp->Prop,(∃m,W 0 m σ H)/\∀i m σ H,W i m σ H->
   ((Xj d o kvs).stop i H/\D.nx σ H)∨((Xj d o kvs).go i H/\∃N:St->Hp->Prop,(∀σ' H',N σ' H'->∃m',m' <m/\W (i+1) m' σ' H')/\∀x H',(Xj d o kvs).yld i H x H'->g x σ H' fun σ2 H2=>tb { D with nx:=N,ct:=N,bk:=D.nx } σ2 H2):=by
 refine⟨fun i m σ H=>m=kvs.length - i/\i<=kvs.length/\Pv i σ H,⟨kvs.length,by simp,Nat.zero_le _,h0⟩,?_⟩
 rintro i m σ H ⟨rfl,hi,p⟩
 have q:=hl i σ H hi p
 by_cases hlt:i <kvs.length
 ·refine .inr ⟨⟨q,hlt⟩,Pv (i+1),fun σ' H' p'=>⟨kvs.length - (i+1),by omega,rfl,hlt,p'⟩,fun x H' y=>?_⟩
  obtain⟨rfl,k,v,ek,rfl⟩:=y
  exact hs i k v σ _ ek p
 ·obtain rfl:i=kvs.length:=by omega
  exact .inl ⟨⟨q,Nat.le_refl _⟩,hd σ H p⟩
theorem Oj {js:List Nat} {tt:TT} {te:TE} {σ:St} {Qd:List V->Hp->Prop} {d:Addr} {o:Obj} {kvs:List (Key×V)} {H:Hp} (Pv:Nat->List V->Hp->Prop) (hn:kvs.length<=sizeLine) (h0:Pv 0 [] H) (hl:∀i ys H,Pv i ys H->ys.length<=i) (hq:∀i ys H,i<=kvs.length->Pv i ys H->H d=some (.frz o (.dK kvs)))
  (hs:∀i k v ys H,kvs[i]?=some (k,v)->Pv i ys H->tt (some (kV k):: dN σ js) H fun b H4=>if b=true then te (some (kV k):: dN σ js) H4 fun y H5=>Pv (i+1) (ys ++ [y]) H5 else Pv (i+1) ys H4)
  (hd:∀ys H,Pv kvs.length ys H->Qd ys H):CompEnd js tt te σ Qd (Xj d o kvs) H:=by
 refine⟨fun i m ys H=>m=kvs.length - i/\i<=kvs.length/\Pv i ys H,⟨kvs.length,by simp,Nat.zero_le _,h0⟩,?_⟩
 rintro i m ys H ⟨rfl,hi,p⟩
 have hlen:=hl i ys H p
 have q:=hq i ys H hi p
 by_cases hlt:i <kvs.length
 ·refine .inr ⟨⟨q,hlt⟩,by omega,Pv (i+1),fun ys' H' p'=>⟨kvs.length - (i+1),by omega,rfl,hlt,p'⟩,fun x H' y=>?_⟩
  obtain⟨rfl,k,v,ek,rfl⟩:=y
  exact hs i k v ys _ ek p
 ·obtain rfl:i=kvs.length:=by omega
  exact .inl ⟨⟨q,Nat.le_refl _⟩,by omega,hd ys H p⟩
theorem Bc:∀{xs:List V} {us:List Value},us.length=xs.length->(∀(j:Nat) x u,xs[j]?=some x->us[j]?=some u->RelV x u)->Vals xs us
 | [],[],_,_=>.nil
 | [],_:: _,h,_=>by simp at h
 | _:: _,[],h,_=>by simp at h
 | x:: xs,u:: us,h,r=>.cons (r 0 x u rfl rfl) (Bc (by simpa using h) fun j y v h1 h2=>r (j+1) y v (by simpa using h1) (by simpa using h2))
theorem nY {X:Cx} (hc:X.calm=true):jY X (.type "list") (fun xs H Q=>∃d kvs,xs=[.ref d]/\Rd H d (.dK kvs)/\∀l,H l=none->Q (.ref l) (upd H l (.lst (kvs.map fun p=>kV p.1)))):=by
 intro pins s σ H xs us Q I rx h
 obtain⟨d,kvs,rfl,hr,q⟩:=h
 obtain⟨u,rfl,ru⟩:=vals1 rx
 cases ru
 obtain⟨z,hd,vs,rel,dd⟩:=vL I.hok hr
 obtain⟨ep,da⟩:=dd.dictAt
 have hl:kvs.length=vs.length:=Paired.length rel
 refine PySem.W.kdl_call (PySem.W.kdl_dict (knd:=bQ X.prog X.w) (kvs:=vs) (ep:=ep) hd) (I.ok.hd hc) da (by omega) fun h' tk acc' c' kp e' hi=>?_
 refine⟨.ref s.heap.objs.size,_,I.laid (t':=tk) kp (Nat.le_refl _) (show fW X.prog X.w _ h' _ (.lst (kvs.map fun p=>kV p.1)) from⟨by rw [List.length_map];exact z,acc'.toList,c',Bc (by rw [Array.length_toList,hi.1,List.length_map,hl]) fun j x u hx hu=>?_,by simpa using e'⟩),rfl,q _ (I.hok.fresh (Nat.le_refl _))⟩
 obtain⟨k,v,hkv,hk⟩:=hi.2 j u (by rw [<-Array.getElem?_toList];exact hu)
 rw [List.getElem?_map] at hx
 obtain⟨p,hp,rfl⟩:=Option.map_eq_some_iff.mp hx
 obtain⟨v',hv'⟩:=Mj rel (k:=p.1) (v:=p.2) hp
 rw [hkv] at hv'
 cases hv'
 exact SM hk
section
variable {X:Cx} {pins:List (Addr×Obj)} {σ:St} {H:Hp} {s:Shared}
end
section
variable {X:Cx} {tg:Expr}
end
theorem jg.u1 {k:Nat} {A:Around} (r:jg k A):A.units+1 <cLine:=by have:=r.units;omega
theorem U9:bootBuiltins "dict" =some (.type "dict"):=by decide +kernel
section
variable {prog:Program} {w:World} {A:Around} {E:Value->Shared->Prop} {s:Shared}
end
theorem Ia {X:Cx} {K:PySem.W.Frag} {e:Expr} {f:Str} {pos:Pos} {ta:TE} (hK:X.K=K) (he:PE X e ta) (hb:attributeBase e f X.env (eval e X.env)=eval e X.env):PE X (.Attribute e f pos) (Yj K ta f):=by subst hK;exact bh he hb
theorem Cj {X:Cx} {K:PySem.W.Frag} (hK:X.K=K):wH X (compareOp .In) (V4 K false):=by subst hK;exact vo
theorem Ew {X:Cx} {K:PySem.W.Frag} (hK:X.K=K):wH X (compareOp .NotIn) (V4 K true):=by subst hK;exact fP
section
variable {X:Cx} {P:Program} {w:World} {K:PySem.W.Frag} {mg:Str->Option Value} {base:Heap} {CX:Ft} {k:Nat} {E:XK} {m:Str} {pos apos:Pos} {e o:Expr} {es:List Expr} {ta:TE} {t:TA}
theorem K8 {pl:Sem Bool} (hP:X.prog=P) (hw:X.w=w) (hK:X.K=K) (hm:X.mg=mg) (hb:X.base=base) (he:PE X o ta) (hr:jg k X.A) (hx:qd CX X E)
  (ht:eval (.Call (.Attribute o m apos) [] [] pos) X.env=(do
   let ov <-eval o X.env
   standAt apos.atName
   let (f,first) <-holding [ov] (getMethod ov m pl)
   callWith pos f first (backTo pos (starEach [] X.env)) (backToKw pos (keywordEach [] X.env))):=by rfl):
  PE X (.Call (.Attribute o m apos) [] [] pos) (KR P w K mg base CX k m E ta QV):=by
 subst hP hw hK hm hb
 exact G3 he hr hx ht
end
section
variable {prog:Program} {w:World} {A:Around} {R:Result->Shared->Prop} {s:Shared}
theorem XS {elt tg iter:Expr} {ifs:List Expr} {scope:Scope} {pos:Pos} {it acc:Value} {env:Env} (J:Nat->Shared->Prop)
  (turn:∀k s1,J k s1->wpAny (model prog w) A (pyNext it) (fun r s2=>match r with
   | none=>R (.ok .next) s2
   | some v=>wpAny (model prog w) A (letOwnedTupleGo tg it v) (fun _ s3=>wpAny (model prog w) A (assign tg env v) (fun _ s4=>
     wpAny (model prog w) A (forIn ifs true fun c r=>if r=true then do let ok <-isTrue c env (eval c env);pure (ForInStep.yield ok) else pure (ForInStep.yield r)) (fun ok s5=>
      if ok=true then wpAny (model prog w) A (eval elt env) (fun y s6=>wpAny (model prog w) A (call (.builtin "list.append") [acc,y]) (fun _ s7=>∃m,m <k/\J m s7) (notedBy (model prog w) A env fun e s'=>R (.error e) s') s6)
       (notedBy (model prog w) A env fun e s'=>R (.error e) s') s5
      else ∃m,m <k/\J m s5) (notedBy (model prog w) A env fun e s'=>R (.error e) s') s4) (notedBy (model prog w) A env fun e s'=>R (.error e) s') s3) (notedBy (model prog w) A env fun e s'=>R (.error e) s') s2)
   (notedBy (model prog w) A env fun e s'=>R (.error e) s') s1)
  (k:Nat) (h:J k s):codeAny (model prog w) A (.compLoop (.ListComp elt [⟨tg,iter,ifs,0⟩] scope pos) 0 it acc env) R s:=by
 refine codeAny_loop rfl J (fun k s1 hJ=>?_) k h
 show wpAny _ A ((compTurn (.ListComp elt [⟨tg,iter,ifs,0⟩] scope pos) 0 it acc env).onRaise (fun e=>do noteFrame e env;theTreesLotGoes e)) _ _ s1
 refine wpAny_noted ?_
 rw [compTurn_list]
 refine wpAny_bind (wpAny_standAt (wpAny_bind (wpAny_mono (turn k s1 hJ) (fun r s2 h2=>?_) fun _ _ z=>z)))
 cases r with
 | none=>exact wpAny_pure h2
 | some v=>
  refine wpAny_bind (wpAny_mono h2 (fun _ s3 h3=>wpAny_bind (wpAny_mono h3 (fun _ s4 h4=>wpAny_bind (wpAny_mono h4 (fun ok s5 h5=>?_) fun _ _ z=>z)) fun _ _ z=>z)) fun _ _ z=>z)
  cases ok with
  | false=>exact wpAny_pure ⟨rfl,h5⟩
  | true=>exact wpAny_bind (wpAny_bind (wpAny_mono h5 (fun y s6 h6=>wpAny_bind (wpAny_mono h6 (fun _ s7 h7=>wpAny_pure (wpAny_pure ⟨rfl,h7⟩)) fun _ _ z=>z)) fun _ _ z=>z))
end
section
variable {X:Cx} {tg:Expr} {g:TG} {pos:Pos} {iter elt:Expr} {ifs:List Expr} {scope:Scope} {wi:TI} {tt:TT} {te:TE}
end
theorem O8 {X:Cx} (hc:X.calm=true):jY X (.builtin "min") (fun xs H Q=>∃(p:Addr) (a b:Int),xs=[.ref p]/\bF X.K H p [.int a,.int b]/\Q (.int (if b <a then b else a)) H):=by
 intro pins s σ H xs us Q I r h
 obtain⟨p,a,b,rfl,hq,q⟩:=h
 obtain⟨u,rfl,rx⟩:=vals1 r
 cases rx
 obtain⟨its,rv,pl,_⟩:=I.list hq
 obtain⟨v1,v2,rfl,⟨t1,rfl⟩,⟨t2,rfl⟩⟩:=vals2 rv
 have hl:s.heap.IsList p (intItems #[(a,t1),(b,t2)]):=by simpa [intItems] using pl.isList
 refine min_intList (I.ok.hd hc) hl (by simp) fun v h' tk hv hk=>?_
 obtain⟨t,rfl⟩:=intItems_at hv
 obtain⟨h1,h2⟩:=argBest_lt (numAt #[(a,t1),(b,t2)]) (#[(a,t1),(b,t2)].size - 1)
 have h1':argBest (fun i j=>decide (numAt #[(a,t1),(b,t2)] i <numAt #[(a,t1),(b,t2)] j)) (#[(a,t1),(b,t2)].size - 1)<=1:=h1
 have ha:_<=a:=h2 0 (Nat.zero_le _)
 have hb:_<=b:=h2 1 (by simp)
 generalize argBest (fun i j=>decide (numAt #[(a,t1),(b,t2)] i <numAt #[(a,t1),(b,t2)] j)) (#[(a,t1),(b,t2)].size - 1)=k at h1' ha hb ⊢
 refine⟨.int (numAt #[(a,t1),(b,t2)] k),H,I.kept hk,⟨_,rfl⟩,?_⟩
 have e:numAt #[(a,t1),(b,t2)] k=if b <a then b else a:=by
  match k,h1',ha,hb with
  | 0,_,_,hb=>
   have hb':a<=b:=hb
   rw [if_neg (by omega)];rfl
  | 1,_,ha,_=>
   have ha':b<=a:=ha
   show b=_
   by_cases z:b <a
   ·rw [if_pos z]
   ·rw [if_neg z];omega
 rw [e]
 exact q
theorem Pq {X:Cx} (hc:X.calm=true):jY X (.builtin "max") (fun xs H Q=>∃(p:Addr) (a b:Int),xs=[.ref p]/\bF X.K H p [.int a,.int b]/\Q (.int (if b <a then a else b)) H):=by
 intro pins s σ H xs us Q I r h
 obtain⟨p,a,b,rfl,hq,q⟩:=h
 obtain⟨u,rfl,rx⟩:=vals1 r
 cases rx
 obtain⟨its,rv,pl,_⟩:=I.list hq
 obtain⟨v1,v2,rfl,⟨t1,rfl⟩,⟨t2,rfl⟩⟩:=vals2 rv
 have hl:s.heap.IsList p (intItems #[(a,t1),(b,t2)]):=by simpa [intItems] using pl.isList
 refine max_intList (I.ok.hd hc) hl (by simp) fun v h' tk hv hk=>?_
 obtain⟨t,rfl⟩:=intItems_at hv
 obtain⟨h1,h2⟩:=argBest_gt (numAt #[(a,t1),(b,t2)]) (#[(a,t1),(b,t2)].size - 1)
 have h1':argBest (fun i j=>decide (numAt #[(a,t1),(b,t2)] i >numAt #[(a,t1),(b,t2)] j)) (#[(a,t1),(b,t2)].size - 1)<=1:=h1
 have ha:a<=_:=h2 0 (Nat.zero_le _)
 have hb:b<=_:=h2 1 (by simp)
 generalize argBest (fun i j=>decide (numAt #[(a,t1),(b,t2)] i >numAt #[(a,t1),(b,t2)] j)) (#[(a,t1),(b,t2)].size - 1)=k at h1' ha hb ⊢
 refine⟨.int (numAt #[(a,t1),(b,t2)] k),H,I.kept hk,⟨_,rfl⟩,?_⟩
 have e:numAt #[(a,t1),(b,t2)] k=if b <a then a else b:=by
  match k,h1',ha,hb with
  | 0,_,_,hb=>
   have hb':b<=a:=hb
   show a=_
   by_cases z:b <a
   ·rw [if_pos z]
   ·rw [if_neg z];omega
  | 1,_,ha,_=>
   have ha':a<=b:=ha
   rw [if_neg (by omega)];rfl
 rw [e]
 exact q
theorem Nb {X:Cx} {K:PySem.W.Frag} {es:List Expr} {k:Nat} {pos:Pos} {t:S7} {n:Nat} (hK:X.K=K) (hc:X.calm=true) (h:YH X es t)
  (hn:(assignEach es X.env).length=n:=by rfl) (hst:(assignEach es X.env).findIdx? (·.1)=none:=by rfl):PG X (.Tuple es k pos) (YM K n t):=by
 subst hK
 exact CT hc h hn hst
noncomputable def lz (X:Cx) (scope:Scope) (xs:List Str) (js:List Nat) (cl:List (Str×Addr)) (C:Addr) (s:Shared) (H:Hp) (ex:List Addr):Cx where
 prog:=X.prog
 w:=X.w
 K:=X.K
 mg:=X.mg
 base:=X.base
 A:=X.A
 N:=xs ++ dq X.N js
 s₀:=s
 H₀:=H
 env:=compEnvC scope cl C X.env
 outer:=X.stack
 stack:=X.stack
 ex:=ex
 fn:=fun _=>false
 calm:=X.calm
 pn:=[]
 xe:=fun _ _=>False
noncomputable def Eh (xs:List Str) (js:List Nat) (σ:St) (g:TG) (tt:TT) (te:TE) (Qd:List V->Hp->Prop) (J:It) (H1:Hp):Prop:=∃W:Nat->Nat->List V->Hp->Prop,(∃m,W 0 m [] H1)/\∀i m ys H2,W i m ys H2->
 (J.stop i H2/\ys.length<=sizeLine/\Qd ys H2)∨
 (J.go i H2/\ys.length <sizeLine/\∃N:List V->Hp->Prop,(∀ys' H',N ys' H'->∃m',m' <m/\W (i+1) m' ys' H')/\∀x H3,J.yld i H2 x H3->g x ((xs.map fun _=>none) ++ dN σ js) H3 fun σ2 H4=>σ2.drop xs.length=dN σ js/\tt σ2 H4 fun b H5=>
  if b=true then te σ2 H5 fun y H6=>N (ys ++ [y]) H6 else N ys H5)
noncomputable def RD (xs:List Str) (js:List Nat) (wi:TI) (g:TG) (tt:TT) (te:TE):TE:=fun σ H Q=>wi σ H (Eh xs js σ g tt te fun ys H2=>∀D,H2 D=none->Q (.ref D) (upd H2 D (.lst ys)))
section
variable {X:Cx} {tg:Expr} {g:TG} {pos:Pos} {iter elt:Expr} {ifs:List Expr} {scope:Scope} {wi:TI} {tt:TT} {te:TE}
theorem uG (xs:List Str) (js:List Nat) {pins:List (Addr×Obj)} {σ:St} {s:Shared} {itv:Value} {Q:List V->Hp->Prop} {RR:Value->Addr->Result->Shared->Prop} {E:Value->Shared->Prop}
  (hc:X.calm=true) (hk:scope.kind=.function) (hcell:∀y∈scope.names,y.2≠.cell)
  (hfree:∀y∈scope.names,y.2=.free->X.env.kindOf y.1=some .cell∨X.env.kindOf y.1=some .free)
  (hg:∀cl C s H ex,PG (lz X scope xs js cl C s H ex) tg g)
  (hif:∀cl C s H ex,PF (lz X scope xs js cl C s H ex) ifs tt) (he:∀cl C s H ex,PE (lz X scope xs js cl C s H ex) elt te)
  (hjs:∀y∈dq X.N js,scope.names.lookup y=some .free) (hit:PIE X pins σ tg (Eh xs js σ g tt te Q) itv s)
  (hR:∀D C s' H2 ys m,Inv X pins σ (upd H2 D (.lst ys)) s'->H2 D=none->s'.heap.Ns C m->(∀h',Heap.SameBut C s'.heap h'->Inv X pins σ (upd H2 D (.lst ys)) { s' with heap:=h' })->Hc X pins (upd H2 D (.lst ys)) C->C≠D->Q ys H2->RR (.ref D) C (.ok .next) s'):
  wpAny (model X.prog X.w) X.A (newList []) (fun acc s₃=>wpAny (model X.prog X.w) X.A (newFunctionEnv scope X.env.globals (clos X.env scope.names []) [] X.env.qual none .none (some X.env)) (fun cenv s₄=>
   codeAny (model X.prog X.w) X.A (.compStart (.ListComp elt [⟨tg,iter,ifs,0⟩] scope pos) 0 itv acc { cenv with scope:=relabel scope X.env }) (RR acc cenv.locals) s₄) E s₃) E s:=by
 obtain⟨it,fp,tn,J,H1,rfl,I1,T,st1,f1,W,⟨m0,w0⟩,turn⟩:=hit
 refine wpAny_newObj_type (wpAny_newFunctionEnv hcell (by intro y hy;simp at hy) (fun h₁ hns₁ hsb₁=>?_) hk)
 dsimp only at hns₁ hsb₁ ⊢
 generalize hH2:s.heap.push { cls:=.type "list",dict:=none,data:=.seq ([]:List Value).toArray }=Hl at hns₁ hsb₁ ⊢
 generalize hDe:s.heap.objs.size=D
 have hCe:Hl.objs.size=D+1:=by rw [<-hH2,Heap.size_push,hDe]
 generalize hC:Hl.objs.size=C at hns₁ hsb₁ hCe ⊢
 subst hCe
 have hDC:D≠D+1:=Nat.ne_of_lt (Nat.lt_succ_self _)
 have lt:∀b o,s.heap.get? b=some o->b <D:=fun b o e=>hDe ▸ Heap.lt_size e
 have old:∀b o,s.heap.get? b=some o->h₁.get? b=some o:=fun b o e=>by
  have hb:=lt b o e
  refine hsb₁.extBut b o (Nat.ne_of_lt (Nat.lt_succ_of_lt hb)) (Heap.get?_push_of_some _ ?_)
  rw [<-hH2];exact Heap.get?_push_of_some _ e
 have accD:h₁.get? D=some { cls:=.type "list",dict:=none,data:=.seq ([]:List Value).toArray }:=by
  refine hsb₁.extBut _ _ hDC (Heap.get?_push_of_some _ ?_)
  rw [<-hH2,<-hDe];exact Heap.get?_push_size _ rfl
 have fresh:∀a,D<=a->H1 a=none:=fun a ha=>I1.hok.fresh (by rw [hDe];exact ha)
 have fpD:∀b∈fp,b <D:=fun b hb=>by
  obtain⟨o,e,_⟩:=T.obj 0 s.heap st1 b hb
  exact lt b o e
 have cellD:∀y c,X.env.cells.lookup y=some c->c <D:=fun y c e=>by
  obtain⟨v,q⟩:=I1.cell y c e
  exact hDe ▸ q.lt
 generalize hcl:clos X.env scope.names []=cl
 have clsub:∀y c,cl.lookup y=some c->X.env.cells.lookup y=some c:=by
  rw [<-hcl];exact J6 scope.names [] fun y a e=>by simp at e
 have frD:∀b∈frs X.stack,b <D:=fun b hb=>by
  obtain⟨_,o,ho,_⟩:=I1.stack.mem hb
  exact lt b o ho
 let Y:Cx:=lz X scope xs js cl (D+1) s H1 fp
 have kinds:∀y,Y.env.kindOf y=some .cell∨Y.env.kindOf y=some .free->∃k∈scope.names,k.1=y/\k.2=.free:=fun y hy=>by
  have hy':(relabel scope X.env).names.lookup y=some .cell∨(relabel scope X.env).names.lookup y=some .free:=hy
  rw [tQ] at hy'
  cases q:scope.names.lookup y with
  | none=>rw [q] at hy';simp at hy'
  | some k=>
   have hm:=PySem.mem_of_lookup q
   refine⟨(y,k),hm,rfl,?_⟩
   have h1:k≠.cell:=hcell _ hm
   rw [q] at hy'
   simp only [Option.map_some,Option.some.injEq] at hy'
   by_cases hkf:k=.free
   ·exact hkf
   ·have:(k == NameKind.free)=false:=by simpa using hkf
    simp only [this,Bool.false_and,Bool.false_eq_true,if_false] at hy'
    rcases hy' with e | e
    ·exact absurd e h1
    ·exact absurd e hkf
 have okY:Y.Ok:=by
  refine⟨I1.ok.mod,hk,I1.ok.glob,I1.ok.blt,(by show s.heap.objs.size<=D+1;rw [hDe];exact Nat.le_succ _),fun y z c h1 h2=>I1.ok.inj y z c (clsub y c h1) (clsub z c h2),fun y hy=>?_,fun y c h _=>absurd h (by show ¬(false=true);decide),I1.ok.hd,I1.ok.frames,.inl rfl,fun b hb=>⟨Nat.ne_of_lt (Nat.lt_succ_of_lt (fpD b hb)),fun y c e z=>(f1 b hb).2.2.2.2.1 y c (clsub y c e) z⟩,
   fun b o e=>I1.bs b o e,Nat.le_trans I1.ok.bsz I1.sz,fun b o e hb=>?_,fun b hb hf=>?_,I1.stack,I1.stkFree⟩
  ·obtain⟨k,hm,e1,e2⟩:=kinds y hy
   show ∃c,cl.lookup y=some c
   rw [<-hcl]
   refine Dr scope.names [] y (.inr ⟨k,hm,e1,e2,?_⟩)
   have:=hfree k hm e2
   rw [e1] at this
   exact I1.ok.has y this
  ·obtain⟨_,_,_,h4,_,_⟩:=f1 b hb
   rcases h4 with z | z
   ·exact I1.ok.noex b o e z
   ·exact absurd (Nat.lt_of_lt_of_le (Heap.lt_size e) (Nat.le_trans I1.ok.bsz z)) (Nat.lt_irrefl _)
  ·rcases List.mem_cons.mp (I1.stkSub b hf) with z | z
   ·exact(f1 b hb).2.1 z
   ·exact(f1 b hb).2.2.1 z
 let σ0:St:=(xs.map fun _=>none) ++ dN σ js
 have IY:Inv Y [] σ0 H1 { s with heap:=h₁,toks:=s.toks+([]:List (Str×Value)).length }:=by
  refine⟨okY,rfl,I1.bare,Un.kept old,⟨_,hns₁,fun i y v e1 e2 e3=>?_⟩,fun y c e=>?_,fresh _ (Nat.le_succ _),fun y c e=>I1.freeC y c (clsub y c e),fun p hp=>absurd (show p∈([]:List (Addr×Obj)) from hp) (by simp),I1.hok.kept old,?_⟩
  ·by_cases hi:i <xs.length
   ·exfalso
    have e2':((xs.map fun _=>(none:Option V)) ++ dN σ js)[i]?=some (some v):=e2
    rw [List.getElem?_append_left (by rw [List.length_map];exact hi),List.getElem?_map,List.getElem?_eq_getElem hi] at e2'
    cases e2'
   ·have e1':(xs ++ dq X.N js)[i]?=some y:=e1
    have e2':((xs.map fun _=>(none:Option V)) ++ dN σ js)[i]?=some (some v):=e2
    rw [List.getElem?_append_right (by omega)] at e1'
    rw [List.getElem?_append_right (by rw [List.length_map];omega),List.length_map] at e2'
    generalize i - xs.length=i at e1' e2'
    unfold dq at e1'
    unfold dN at e2'
    rw [List.getElem?_map] at e1' e2'
    cases q:js[i]? with
    | none=>rw [q] at e1';cases e1'
    | some j=>
     rw [q] at e1' e2'
     simp only [Option.map_some,Option.some.injEq] at e1' e2'
     have hv:σ[j]?=some (some v):=by
      cases z:σ[j]? with
      | none=>rw [z] at e2';cases e2'
      | some w=>rw [z] at e2';simpa using e2'
     have hj:j <X.N.length:=by
      rw [<-I1.len];exact(List.getElem?_eq_some_iff.mp hv).1
     have hy:X.N[j]?=some y:=by
      rw [List.getElem?_eq_getElem hj] at e1' ⊢
      rw [<-e1'];rfl
     obtain⟨m,hn,hl⟩:=I1.loc
     have hmem:y∈dq X.N js:=List.mem_map.mpr ⟨j,List.mem_of_getElem? q,by rw [hy];rfl⟩
     have hfr:=hjs y hmem
     have hkx:=hfree _ (PySem.mem_of_lookup hfr) rfl
     have hvis:Y6 X.env.scope y:=hkx.elim (fun z=>.inr (.inl z)) fun z=>.inr (.inr z)
     obtain⟨u,r,l⟩:=hl j y v hy hv hvis
     refine⟨u,r,?_⟩
     rcases l with ⟨kl,_⟩ | ⟨_,c,hc1,z⟩
     ·exfalso
      have kl':X.env.kindOf y=some .local:=kl
      rcases hkx with w | w <;> · rw [show X.env.kindOf y=_ from w] at kl';cases kl'
     ·obtain⟨c',hc'⟩:=Dr (env:=X.env) scope.names [] y (.inr ⟨_,PySem.mem_of_lookup hfr,rfl,rfl,c,hc1⟩)
      rw [hcl] at hc'
      have e4:=clsub y c' hc'
      rw [hc1] at e4
      cases e4
      obtain⟨o,ho,hd⟩:=z
      refine .inr ⟨?_,c,hc',o,old c o ho,hd⟩
      rcases e3 with e3 | e3 | e3
      ·exfalso
       have e3':(relabel scope X.env).names.lookup y=some .local:=e3
       rw [tQ,hfr] at e3'
       simp only [Option.map_some,Option.some.injEq] at e3'
       split at e3' <;> cases e3'
      ·exact .inl e3
      ·exact .inr e3
  ·obtain⟨v,q⟩:=I1.cell y c (clsub y c e)
   obtain⟨o,ho,hd⟩:=q
   exact⟨v,o,old c o ho,hd⟩
  ·show((xs.map fun _=>(none:Option V)) ++ dN σ js).length=(xs ++ dq X.N js).length
   unfold dN dq
   rw [List.length_append,List.length_append,List.length_map,List.length_map,List.length_map]
 have mkR:∀(s':Shared) (H2:Hp) (ys:List V) (its:List Value) (σ':St),Inv Y [] σ' H2 s'->s'.heap.PlainList D its.toArray->Vals ys its->ys.length<=sizeLine->H2 D=none->Q ys H2->RR (.ref D) (D+1) (.ok .next) s':=by
  intro s' H2 ys its σ' I' pl rv hz hD hq
  obtain⟨m,hn,_⟩:=I'.loc
  have hn':s'.heap.Ns (D+1) m:=hn
  have hCn:H2 (D+1)=none:=I'.free
  have hch:∀b∈fp,(b∈X.ex∨X.s₀.heap.objs.size<=b)/\b≠X.env.locals/\(∀x c,X.env.cells.lookup x=some c->c≠b)/\∀p∈X.pn ++ pins,p.1≠b:=fun b hb=>by
   obtain⟨_,h2,_,h4,h5,h6⟩:=f1 b hb
   exact⟨h4,h2,h5,h6⟩
  have bs:Un (frs X.stack) fp H1 H2 s.heap s'.heap:=I'.base
  have all:∀h',Heap.SameBut (D+1) s'.heap h'->Inv X pins σ (upd H2 D (.lst ys)) { s' with heap:=h' }:=fun h' sb=>by
   have neD:∀b o,s.heap.get? b=some o->b≠D:=fun b o e=>Nat.ne_of_lt (lt b o e)
   have neC:∀b o,s.heap.get? b=some o->b≠D+1:=fun b o e=>Nat.ne_of_lt (Nat.lt_succ_of_lt (lt b o e))
   refine I1.call' (s':={ s' with heap:=h' }) (ch:=fp) I'.os ⟨fun b o e n hb hx=>?_,fun b o e n hb hx=>?_,fun b o e n hx=>?_,fun b o e hx=>?_,fun b xs e=>?_,fun b o u e=>?_,fun b ps e=>?_⟩ ?_ I'.bare hch
   ·exact(sb.2 b (neC b o e)).trans (bs.keep b o e n hb hx)
   ·obtain⟨sl,q⟩:=bs.slot b o e n hb hx
    exact⟨sl,(sb.2 b (neC b o e)).trans q⟩
   ·rw [aK (neD b o e)];exact bs.free b o e n hx
   ·obtain⟨o',q⟩:=bs.there b o e hx
    exact⟨o',(sb.2 b (neC b o e)).trans q⟩
   ·have:=bs.tups b xs e
    rw [aK (aD this hD)];exact this
   ·have:=bs.frzs b o u e
    rw [aK (aD this hD)];exact this
   ·obtain⟨more,q⟩:=bs.tbls b ps e
    exact⟨more,by rw [aK (aD q hD)];exact q⟩
   ·have h0:vD X.prog X.w H2 h':=fun b u e=>(I'.hok b u e).stay (fun c v hc q=>(sb.2 c (by
     rintro rfl
     rcases hc with z | z
     ·rw [z,e] at hCn;cases hCn
     ·rw [z] at hCn;cases hCn)).trans q) (fun _ q=>q) fun _ _ q=>q
    refine Oq h0 hD ?_
    obtain⟨n,e⟩:=pl
    exact⟨hz,its,n,rv,(sb.2 D hDC).trans e⟩
  have hall:=all s'.heap (.refl ..)
  refine hR D (D+1) s' H2 ys m hall hD hn' all ?_ hDC.symm hq
  refine⟨by rw [aK hDC.symm];exact hCn,?_,?_,.inr (Nat.le_trans I1.sz (by rw [hDe];exact Nat.le_succ _)),fun y c e z=>?_,fun p hp z=>?_⟩
  ·exact Nat.ne_of_gt (Nat.lt_trans (hDe ▸ I1.lt) (Nat.lt_succ_self _))
  ·exact I1.nofs (by rw [hDe];exact Nat.le_succ _)
  ·exact absurd z (Nat.ne_of_lt (Nat.lt_succ_of_lt (cellD y c e)))
  ·exact absurd z (Nat.ne_of_lt (Nat.lt_succ_of_lt (lt _ _ (I1.pin p hp).1)))
 have loop:∀s₃:Shared,s₃={ s with heap:=h₁,toks:=s.toks+([]:List (Str×Value)).length }->
   codeAny (model X.prog X.w) X.A (.compLoop (.ListComp elt [⟨tg,iter,ifs,0⟩] scope pos) 0 (.ref it) (.ref D) Y.env) (RR (.ref D) (D+1)) s₃:=by
  rintro s₃ rfl
  have stat:∀{H':Hp} {ob:Obj},(∀b∈fp,H' b=none)->∀b∈fp,Hc Y [(D,ob)] H' b:=fun {H'} {ob} hn b hb=>by
   refine⟨hn b hb,Nat.ne_of_lt (Nat.lt_succ_of_lt (fpD b hb)),fun hf=>okY.exfs b hb hf,.inl hb,fun y c e=>(okY.exf b hb).2 y c e,fun p hp z=>?_⟩
   have hp':p∈[(D,ob)]:=hp
   have e:p=(D,ob):=by simpa using hp'
   rw [e] at z
   exact absurd z (Ne.symm (Nat.ne_of_lt (fpD b hb)))
  refine XS (fun n s'=>∃i ys its H',∃ob:Obj,Inv Y [(D,ob)] σ0 H' s'/\(∃n,ob={ cls:=.type "list",data:=.seq its.toArray n })/\Vals ys its/\H' D=none/\tn i s'.heap/\(∀b∈fp,H' b=none)/\W i n ys H') ?_ m0
   ⟨0,[],[],H1,{ cls:=.type "list",dict:=none,data:=.seq ([]:List Value).toArray },?_,⟨_,rfl⟩,.nil,fresh _ (Nat.le_refl _),T.keep _ _ _ st1 fun b _ o e=>old b o e,fun b hb=>(f1 b hb).1,w0⟩
  ·rintro n s3 ⟨i,ys,its,H3,ob,I3,⟨cap,rfl⟩,rv,hD,st3,fr3,w3⟩
   rcases turn i n ys H3 w3 with ⟨stop,hz,hq⟩ | ⟨go,hz,N,hN7,step⟩
   ·refine wpAny_mono (T.done Y rfl rfl rfl hc i _ s3 σ0 H3 (fun _ _=>False) I3 (stat fr3) st3 stop) (fun r s4 ⟨hr,I4⟩=>?_) fun _ _ f=>f.elim
    subst hr
    exact mkR s4 H3 ys its σ0 (I4.pins_of fun p hp=>absurd hp (by simp)) ⟨cap,(I4.pin _ (List.mem_append_right _ List.mem_cons_self)).1⟩ rv hz hD hq
   ·refine wpAny_mono (T.item Y rfl rfl rfl hc i _ s3 σ0 H3 (fun _ _=>False) I3 (stat fr3) st3 go) (fun r s4 ⟨u,hr,h4⟩=>?_) fun _ _ f=>f.elim
    subst hr
    refine wpAny_mono h4 (fun _ s4 ⟨xv,H5,I5,r5,y5,st5,fr5⟩=>?_) fun _ _ f=>f.elim
    have I5':=I5.pinned (stat fr5) (T.obj _ _ st5)
    refine wpAny_mono (hg cl (D+1) s H1 fp _ _ σ0 H5 xv u _ I5' r5 (step xv H5 y5)) (fun _ s6 ⟨σ6,H6,I6,hσ6,q6⟩=>?_) fun _ _ f=>False.elim f
    have again:∀{s7:Shared} {H7:Hp} {ys7:List V} {its7:List Value} {cap7:Nat} {pl:List (Addr×Obj)},Inv Y ([(D,{ cls:=.type "list",data:=.seq its7.toArray cap7 })] ++ pl) σ6 H7 s7->(∀b∈fp,∀o,s4.heap.get? b=some o->s7.heap.get? b=some o/\H7 b=none)->Vals ys7 its7->(∃m',m' <n/\W (i+1) m' ys7 H7)->
      ∃m,m <n/\∃i ys its H',∃ob:Obj,Inv Y [(D,ob)] σ0 H' s7/\(∃n,ob={ cls:=.type "list",data:=.seq its.toArray n })/\Vals ys its/\H' D=none/\tn i s7.heap/\(∀b∈fp,H' b=none)/\W i m ys H':=by
     intro s7 H7 ys7 its7 cap7 pl I7 kf rv7 ⟨m',hm,w7⟩
     refine⟨m',hm,i+1,ys7,its7,H7,_,I7.unpinned.weak (by rw [I7.len];show((xs.map fun _=>(none:Option V)) ++ dN σ js).length=(xs ++ dq X.N js).length;unfold dN dq;rw [List.length_append,List.length_append,List.length_map,List.length_map,List.length_map]) fun j v e=>?_,⟨cap7,rfl⟩,rv7,(I7.pin _ (List.mem_append_right _ (List.mem_append_left _ List.mem_cons_self))).2.1,T.keep _ _ _ st5 fun b hb o e=>(kf b hb o e).1,fun b hb=>?_,w7⟩
     ·have e':((xs.map fun _=>(none:Option V)) ++ dN σ js)[j]?=some (some v):=e
      by_cases hj:j <xs.length
      ·exfalso
       rw [List.getElem?_append_left (by rw [List.length_map];exact hj),List.getElem?_map,List.getElem?_eq_getElem hj] at e'
       cases e'
      ·rw [List.getElem?_append_right (by rw [List.length_map];omega),List.length_map,<-hσ6,List.getElem?_drop] at e'
       rw [show xs.length+(j - xs.length)=j by omega] at e'
       exact e'
     ·obtain⟨o,e,_⟩:=T.obj _ _ st5 b hb
      exact(kf b hb o e).2
    refine wpAny_mono (hif cl (D+1) s H1 fp _ s6 _ H6 _ I6 q6) (fun ok s7 ⟨H7,I7,q7⟩=>?_) fun _ _ f=>False.elim f
    have kf7:∀b∈fp,∀o,s4.heap.get? b=some o->s7.heap.get? b=some o/\H7 b=none:=fun b hb o e=>
     have z:=I7.pin (b,o) (List.mem_append_right _ (List.mem_append_right _ (rM hb e)))
     ⟨z.1,z.2.1⟩
    cases ok with
    | false=>
     rw [if_neg Bool.false_ne_true] at q7 ⊢
     exact again I7 kf7 rv (hN7 _ _ q7)
    | true=>
     rw [if_pos rfl] at q7 ⊢
     refine wpAny_mono (he cl (D+1) s H1 fp _ s7 _ H7 _ I7 q7) (fun yv s8 ⟨y,H8,I8,r8,q8⟩=>?_) fun _ _ f=>False.elim f
     have pD:=I8.pin _ (List.mem_append_right _ (List.mem_append_left _ List.mem_cons_self))
     have hlen:=rv.length
     refine wpAny_list_append_plain (items:=its.toArray) ⟨cap,pD.1⟩ (fun h9 pl9 sb9=>?_) (by rw [List.size_toArray];omega)
     obtain⟨cap9,e9⟩:=pl9
     have I9:Inv Y [] σ6 H8 { s8 with heap:=h9 }:=(I8.pins_of (pins':=[]) fun p hp=>absurd hp (by simp)).turned (t':=s8.toks) (it:=D) (fun b o hb e=>(sb9.2 b hb).trans e) pD.2.1 hDC
      (.inr (Nat.le_of_eq hDe)) (fun y c e z=>absurd z (Nat.ne_of_lt (cellD y c (clsub y c e)))) fun p hp=>absurd (show p∈([]:List (Addr×Obj)) from hp) (by simp)
     have kf9:∀b∈fp,∀o,s4.heap.get? b=some o->h9.get? b=some o/\H8 b=none:=fun b hb o e=>by
      have z:=I8.pin (b,o) (List.mem_append_right _ (List.mem_append_right _ (rM hb e)))
      exact⟨(sb9.2 b (Nat.ne_of_lt (fpD b hb))).trans z.1,z.2.1⟩
     refine again (s7:={ s8 with heap:=h9 }) (its7:=its ++ [yv]) (cap7:=cap9) (pl:=[]) (I9.pins_of fun p hp=>?_) kf9 (rv.append (.cons r8 .nil)) (hN7 _ _ q8)
     have hp':p=(D,{ cls:=.type "list",data:=.seq (its ++ [yv]).toArray cap9 }):=by simpa using hp
     subst hp'
     refine⟨?_,pD.2.1,pD.2.2.1,pD.2.2.2.1,fun v z=>by cases z⟩
     rw [e9]
     simp
  ·refine IY.pins_of fun p hp=>?_
   have hp':p=(D,{ cls:=.type "list",dict:=none,data:=.seq ([]:List Value).toArray }):=by simpa using hp
   subst hp'
   exact⟨accD,fresh _ (Nat.le_refl _),hDC,fun hf=>Nat.lt_irrefl _ (frD _ hf),fun v z=>by cases z⟩
 exact codeAny_compStart_list (loop _ rfl) (wpAny_mono (T.self X.A 0 _ (fun v s'=>v=.ref it/\s'={ s with heap:=h₁,toks:=s.toks+([]:List (Str×Value)).length }) (fun _ _=>False) (T.keep _ _ _ st1 fun b _ o e=>old b o e) ⟨rfl,rfl⟩) (fun v s' ⟨e1,e2⟩=>by subst e1 e2;exact loop _ rfl) fun _ _ f=>f.elim)
theorem Qs (xs:List Str) (js:List Nat) (N0:List Str) (sc0:Scope) (hc:X.calm=true) (hi:PI X tg iter wi) (hg:∀cl C s H ex,PG (lz X scope xs js cl C s H ex) tg g)
  (hif:∀cl C s H ex,PF (lz X scope xs js cl C s H ex) ifs tt) (he:∀cl C s H ex,PE (lz X scope xs js cl C s H ex) elt te)
  (hk:scope.kind=.function:=by rfl) (hcell:∀y∈scope.names,y.2≠.cell:=by decide +kernel)
  (hnames:∀y∈scope.names,y.2=.local->scope.names.lookup y.1=some .local:=by decide +kernel)
  (hsc:X.env.scope=sc0:=by rfl) (hfree0:∀y∈scope.names,y.2=.free->sc0.names.lookup y.1=some .cell∨sc0.names.lookup y.1=some .free:=by decide +kernel)
  (hNN:X.N=N0:=by rfl) (hj0:∀y∈dq N0 js,scope.names.lookup y=some .free:=by decide +kernel)
  (hs:∀x,foldedSetIterable iter X.env x=pure x:=by intro _;rfl):
  PE X (.ListComp elt [⟨tg,iter,ifs,0⟩] scope pos) (RD xs js wi g tt te):=by
 intro pins s σ H Q I h
 have hfree:∀y∈scope.names,y.2=.free->X.env.kindOf y.1=some .cell∨X.env.kindOf y.1=some .free:=fun y hy e=>by
  show X.env.scope.names.lookup y.1=some .cell∨X.env.scope.names.lookup y.1=some .free
  rw [hsc];exact hfree0 y hy e
 rw [eval_ListComp]
 have hcl:closureFor scope X.env=pure (clos X.env scope.names []):=kY fun y hy e=>I.ok.has y.1 (hfree y hy e)
 refine wpAny_comprehension_free (use:=none) rfl hs hcl hk hnames (dH (hi pins s σ H _ I h) fun xv s1 h1=>dH h1 fun it s2 h2=>?_)
 have hjs:∀y∈dq X.N js,scope.names.lookup y=some .free:=by rw [hNN];exact hj0
 refine uG xs js (RR:=fun acc C=>compPost (model X.prog X.w) X.A X.xe none (EP X pins σ Q) acc C) (Q:=fun ys H2=>∀D,H2 D=none->Q (.ref D) (upd H2 D (.lst ys))) hc hk hcell hfree hg hif he hjs h2 ?_
 intro D C s' H2 ys m I' hD hn all fpC hCD hq
 exact⟨m,hn,fun h' sb=>⟨.ref D,_,all h' sb,rfl,hq D hD⟩⟩
theorem Qy {i:Nat} {y:Str} {py spos:Pos} (xs:List Str) (js:List Nat) (N0:List Str) (sc0:Scope) (hc:X.calm=true) (hNX:X.N.Nodup) (hiy:X.N[i]?=some y) (hi:PI X tg iter wi) (hg:∀cl C s H ex,PG (lz X scope xs js cl C s H ex) tg g)
  (hif:∀cl C s H ex,PF (lz X scope xs js cl C s H ex) ifs tt) (he:∀cl C s H ex,PE (lz X scope xs js cl C s H ex) elt te)
  (hsw:swapsWith (.ListComp elt [⟨tg,iter,ifs,0⟩] scope pos) (some (.Name y py)) spos.line X.env=pure true:=by rfl) (hy:X.env.scope.names.lookup y=some .local:=by rfl)
  (hk:scope.kind=.function:=by rfl) (hcell:∀y∈scope.names,y.2≠.cell:=by decide +kernel)
  (hnames:∀y∈scope.names,y.2=.local->scope.names.lookup y.1=some .local:=by decide +kernel)
  (hsc:X.env.scope=sc0:=by rfl) (hfree0:∀y∈scope.names,y.2=.free->sc0.names.lookup y.1=some .cell∨sc0.names.lookup y.1=some .free:=by decide +kernel)
  (hNN:X.N=N0:=by rfl) (hj0:∀y∈dq N0 js,scope.names.lookup y=some .free:=by decide +kernel)
  (hs:∀x,foldedSetIterable iter X.env x=pure x:=by intro _;rfl):
  PS X (.Assign [.Name y py] (.ListComp elt [⟨tg,iter,ifs,0⟩] scope pos) spos) (Qe (RD xs js wi g tt te) (yf i)):=by
 intro pins s σ H D I h
 have hfree:∀y∈scope.names,y.2=.free->X.env.kindOf y.1=some .cell∨X.env.kindOf y.1=some .free:=fun y hy e=>by
  show X.env.scope.names.lookup y.1=some .cell∨X.env.scope.names.lookup y.1=some .free
  rw [hsc];exact hfree0 y hy e
 have hjs:∀y∈dq X.N js,scope.names.lookup y=some .free:=by rw [hNN];exact hj0
 rw [exec_Assign_Name_used _ _ _ _ hsw]
 refine wpAny_bind (wpAny_standAt (wpAny_bind ?_))
 show wpAny _ X.A (do let _ <-comprehension (.ListComp elt [⟨tg,iter,ifs,0⟩] scope pos) scope X.env _ (newList []) false (eval iter X.env) (some (assign (.Name y py) X.env))) _ _ s
 have hcl:closureFor scope X.env=pure (clos X.env scope.names []):=kY fun y hy e=>I.ok.has y.1 (hfree y hy e)
 refine wpAny_bind (wpAny_mono (wpAny_comprehension_free (use:=some (assign (.Name y py) X.env)) (Q:=fun _ s'=>SP X pins D .next s') rfl hs hcl hk hnames
  (dH (hi pins s σ H _ I h) fun xv s1 h1=>dH h1 fun it s2 h2=>?_)) (fun _ s' hq=>wpAny_pure (wpAny_pure hq)) fun _ _ e=>e)
 refine uG xs js (RR:=fun acc C=>compPost (model X.prog X.w) X.A X.xe (some (assign (.Name y py) X.env)) (fun _ s'=>SP X pins D .next s') acc C) (Q:=fun ys H2=>∀D',H2 D'=none->D.nx (σ.set i (some (.ref D'))) (upd H2 D' (.lst ys))) hc hk hcell hfree hg hif he hjs h2 ?_
 intro D' C s' H2 ys m I' hD hn all fpC hCD hq
 show wpAny _ X.A (assign (.Name y py) X.env (.ref D')) _ _ _
 refine wpAny_assign_Name (zy I' hNX hiy (.inl hy) (v:=.ref D') rfl (fun s'' I'' ⟨a,sb,ha⟩=>?_) (.inr hy))
 obtain⟨f1,f2,f3,f4,f5,f6⟩:=fpC
 have hCa:C≠a:=by
  rcases ha with z | z
  ·rw [z];exact f2
  ·exact fun w=>f5 _ _ z w.symm
 exact⟨m,hn.sameBut sb hCa,fun h' sb'=>⟨_,_,I''.turned (t':=s''.toks) (it:=C) (fun b o hb e=>(sb'.2 b hb).trans e) f1 f2 f4 f5 f6,hq D' hD⟩⟩
end
theorem Cr {ts:List Str} {js:List Nat} {σ:St} {g:TG} {tt:TT} {te:TE} {Qd:List V->Hp->Prop} {K:PySem.W.Frag} {a:Addr} {xs:List V} {H:Hp} (Pv:Nat->List V->Hp->Prop) (hn:xs.length<=sizeLine) (h0:Pv 0 [] H) (hl:∀i ys H,Pv i ys H->ys.length<=i) (hq:∀i ys H,i<=xs.length->Pv i ys H->bF K H a xs)
  (hs:∀i x ys H,xs[i]?=some x->Pv i ys H->g x ((ts.map fun _=>none) ++ dN σ js) H fun σ2 H3=>σ2.drop ts.length=dN σ js/\tt σ2 H3 fun b H4=>if b=true then te σ2 H4 fun y H5=>Pv (i+1) (ys ++ [y]) H5 else Pv (i+1) ys H4)
  (hd:∀ys H,Pv xs.length ys H->Qd ys H):Eh ts js σ g tt te Qd (Xb K a) H:=by
 refine⟨fun i m ys H=>m=xs.length - i/\i<=xs.length/\Pv i ys H,⟨xs.length,by simp,Nat.zero_le _,h0⟩,?_⟩
 rintro i m ys H ⟨rfl,hi,p⟩
 have hlen:=hl i ys H p
 have q:=hq i ys H hi p
 by_cases hlt:i <xs.length
 ·refine .inr ⟨⟨xs,xs[i],q,by simp [hlt]⟩,by omega,Pv (i+1),fun ys' H' p'=>⟨xs.length - (i+1),by omega,rfl,hlt,p'⟩,fun x H' y=>?_⟩
  obtain⟨e,y⟩:=y
  subst e
  exact hs i x ys _ (y xs q) p
 ·have e:i=xs.length:=by omega
  subst e
  exact .inl ⟨⟨xs,q,Nat.le_refl _⟩,by omega,hd ys H p⟩
structure Mh (K:PySem.W.Frag) (x qual:Str) (st:Stmt) (f:Addr) (fd:FuncData) (its:Array Value):Prop where
 ex:∃(oc:Value) (od:Option Addr) (T:Addr) (kV doc pm:Value) (an:Option Addr) (cdv ct:Value) (osl:Array (Option Value)) (o:Obj) (n:Nat),
  fd=PySem.W.fnOf x qual (iU st) (gJ st) (aR st) (.ref T) kV doc pm an cdv ct/\K.lookup f=some ⟨oc,od,.func fd,osl⟩/\PySem.W.codeIn K cdv qual=true/\K.lookup T=some o/\o.data=.seq its n
 kp:PySem.W.keepIn K (.ref f)=true
section
variable {P:Program} {w:World} {K:PySem.W.Frag} {mg:Str->Option Value} {base:Heap} {its:Array Value}
theorem Mh.ok {x qual:Str} {st:Stmt} {f:Addr} {fd:FuncData} {N ps:List Str} {k:Nat} {sp:Sp} (F:Mh K x qual st f fd its) (S:fX N ps (aR st)) (len:∀vs H Q E,sp vs H Q E->vs.length=ps.length)
  (hbody:∀(cdv:Value) (A:Around) (outer:List Env) (s:Shared) (H:Hp) (vs:List V) (Q:VK) (E:XK),jg k (A.deeper (envOfC qual (aR st) s.heap.objs.size f cdv))->sp vs H Q E->
   ∃t,Ng (KD Ce P w K mg base N qual (aR st) f cdv A outer s H E).nox (gJ st) t/\t { nx:=fun _ H'=>Q .non H',rt:=Q } (start N vs) H):iy P w K mg base Ce (k+1) f fd ps sp:=by
 obtain⟨oc,od,T,kV,doc,pm,an,cdv,ct,osl,o,n,rfl,lk,hcd,_⟩:=F.ex
 refine Vt lk hcd S len fun A outer s H vs Q E hr hsp=>?_
 obtain⟨t,h,q⟩:=hbody cdv A outer s H vs Q E hr hsp
 exact⟨t,h.nox,q⟩
theorem Mh.binds {x qual:Str} {st:Stmt} {f:Addr} {fd:FuncData} {ps:List Str} (F:Mh K x qual st f fd its)
  (h:∀(T:Addr) (kV doc pm:Value) (an:Option Addr) (cdv ct:Value) (us:List Value),us.length=ps.length->∃k,bindArgs (PySem.W.fnOf x qual (iU st) (gJ st) (aR st) (.ref T) kV doc pm an cdv ct) ⟨us,[]⟩=seqItems? (.ref T) >>= k/\k (some its)=pure (ps.zip us)):Binds K fd ps []:=by
 obtain⟨oc,od,T,kV,doc,pm,an,cdv,ct,osl,o,n,rfl,lk,hcd,hT,ho⟩:=F.ex
 intro s us X hl
 rw [List.append_nil] at hl ⊢
 obtain⟨k,h1,h2⟩:=h T kV doc pm an cdv ct us hl
 exact .of_defaults rfl (X _ _ hT) ho h1 h2
theorem U7 {x qual:Str} {st:Stmt} {f T:Addr} {oc:Value} {od an:Option Addr} {osl:Array (Option Value)} {kV doc pm cdv ct:Value} {o:Obj} {n:Nat} (l:K.lookup f=some ⟨oc,od,.func (PySem.W.fnOf x qual (iU st) (gJ st) (aR st) (.ref T) kV doc pm an cdv ct),osl⟩)
  (c:PySem.W.codeIn K cdv qual=true) (k:PySem.W.keepIn K (.ref f)=true) (d:K.lookup T=some o) (e:o.data=.seq its n):Mh K x qual st f (PySem.W.fnOf x qual (iU st) (gJ st) (aR st) (.ref T) kV doc pm an cdv ct) its:=⟨⟨oc,od,T,kV,doc,pm,an,cdv,ct,osl,o,n,rfl,l,c,d,e⟩,k⟩
end
section
variable {X:Cx} {e:Expr} {es:List Expr} {te:TE} {t:TA} {pos:Pos} {st:Stmt} {rest:List Stmt} {ts us:TS}
end
section
variable {X:Cx}
noncomputable def S6 (z:Str):Value->Bool
 | .str y _=>y.cps.toList == z.cps.toList
 | _=>false
theorem Gw {z:Str} {t:Tok}:∀{ys:List Str} {us:List Value},Vals (ys.map V.str) us->(∀u∈us,PySem.MeetsSeq.EqGives u (.str z t) (S6 z u))/\us.countP (S6 z)=ys.countP (fun y=>decide (y=z))/\∀(m:Nat) (u:Value),us[m]?=some u->∃y,ys[m]?=some y/\S6 z u=decide (y=z)
 | [],us,r=>by
  rw [List.map_nil] at r
  cases r
  exact⟨(fun _ h=>by cases h),rfl,fun m u h=>by simp at h⟩
 | y:: ys,us,r=>by
  rw [List.map_cons] at r
  cases r with
  | cons r1 r2=>
   obtain⟨t',e⟩:=r1
   subst e
   obtain⟨h1,h2,h3⟩:=Gw (z:=z) (t:=t) r2
   have he:S6 z (.str y t')=decide (y=z):=by
    show(y.cps.toList == z.cps.toList)=decide (y=z)
    rw [Bool.eq_iff_iff,beq_iff_eq,decide_eq_true_eq]
    exact⟨fun h=>ext_toList h,fun h=>by rw [h]⟩
   refine⟨fun u hu=>?_,?_,fun m u hm=>?_⟩
   ·rcases List.mem_cons.mp hu with rfl | hu
    ·exact PySem.SeqRoads2.EqGives.str y z t' t
    ·exact h1 u hu
   ·rw [List.countP_cons,List.countP_cons,h2,he]
   ·cases m with
    | zero=>
     simp only [List.getElem?_cons_zero,Option.some.injEq] at hm
     subst hm
     exact⟨y,rfl,he⟩
    | succ m=>exact h3 m u (by simpa using hm)
inductive J5 (x:V) (vs:List V) (H:Hp) (Q:VK):Prop where
 | mk:∀(l:Addr) (xs:List Str) (z:Str) (j:Nat),x=.ref l->vs=[.str z]->H l=some (.lst (xs.map V.str))->xs[j]?=some z->((∀m y,m <j->xs[m]?=some y->y≠z))->Q (.int (j:Nat)) H->J5 x vs H Q
noncomputable def U4:V->List V->Hp->VK->Prop:=fun x vs H Q=>J5 x vs H Q
theorem Gi:Xn X "list.index" U4:=by
 intro pins s σ H x vs v us Q I rx rv h
 obtain⟨l,xs,z,j,rfl,rfl,hH,hj,hno,q⟩:=h
 cases rx
 obtain⟨u,rfl,ru⟩:=rv.one
 obtain⟨t,rfl⟩:=ru
 obtain⟨hz,its,n,r,hl,e⟩:=I.lstM hH
 have hsz:sizeLine=16777216:=sizeLine_eq
 obtain⟨h1,_,h3⟩:=Gw (z:=z) (t:=t) r
 have hjx:=(List.getElem?_eq_some_iff.mp hj).1
 rw [List.length_map] at hl hz
 have hji:j <its.length:=by omega
 refine call_meets F.slot_list_index ⟨_,e,rfl⟩ F.entry_list_index (F.args_list_index_2 _ _) (MeetsSeq.list_index l its.toArray n (.str z t) (S6 z) (fun y hy=>h1 y (by simpa using hy)) j (by simpa using hji) (by omega) ?_ ?_) ⟨e,?_⟩
 ·obtain⟨y,hy,e2⟩:=h3 j its[j] (List.getElem?_eq_getElem hji)
  rw [hj] at hy
  cases hy
  simpa using e2
 ·intro m hm hlt
  have hm':m <its.length:=by simpa using hm
  obtain⟨y,hy,e2⟩:=h3 m its[m] (List.getElem?_eq_getElem hm')
  have:=hno m y hlt hy
  simp only [List.getElem_toArray]
  rw [e2]
  exact decide_eq_false this
 ·exact⟨.int (j:Nat),H,I.tok _,⟨s.toks,rfl⟩,q⟩
end
section
variable {X:Cx}
end
section
variable {prog:Program} {w:World} {A:Around} {E:Value->Shared->Prop}
end
section
variable {X:Cx} {tg:Expr}
end
section
variable {X:Cx} {e:Expr}
end
section
variable {X:Cx}
end
section
variable {M:Model} {A:Around} {E:Value->Shared->Prop} {nm q:Str} {C N:Addr} {bs bm:List Value} {hdct:Bool} {sn:List Str} {sub:List Value} {ab:Bool} {col:Option Bool} {dd:Option Addr} {k0 k1 k2 k3 k5:Option Value} {newId:String}
end
end L2
namespace L2
open PySem PyProof
section
variable {X:Cx} {x:Str} {px pos:Pos} {iter elt:Expr} {ifs:List Expr} {scope:Scope} {wi:TI} {tt:TT} {te:TE}
theorem Ba (js:List Nat) {pins:List (Addr×Obj)} {σ:St} {s:Shared} {itv:Value} {Q:List V->Hp->Prop} {RR:Value->Addr->Result->Shared->Prop} {E:Value->Shared->Prop}
  (hc:X.calm=true) (hk:scope.kind=.function) (hx:scope.names.lookup x=some .local) (hcell:∀y∈scope.names,y.2≠.cell)
  (hfree:∀y∈scope.names,y.2=.free->X.env.kindOf y.1=some .cell∨X.env.kindOf y.1=some .free)
  (hN:(x:: dq X.N js).Nodup) (hjs:∀y∈dq X.N js,scope.names.lookup y=some .free)
  (hif:∀cl C s H ex,PF (zB X scope x js cl C s H ex) ifs tt) (he:∀cl C s H ex,PE (zB X scope x js cl C s H ex) elt te)
  (hit:PIE X pins σ (.Name x px) (CompEnd js tt te σ Q) itv s)
  (hR:∀D C s' H2 ys m,Inv X pins σ (upd H2 D (.lst ys)) s'->H2 D=none->s'.heap.Ns C m->(∀h',Heap.SameBut C s'.heap h'->Inv X pins σ (upd H2 D (.lst ys)) { s' with heap:=h' })->Hc X pins (upd H2 D (.lst ys)) C->C≠D->Q ys H2->RR (.ref D) C (.ok .next) s'):
  wpAny (model X.prog X.w) X.A (newList []) (fun acc s₃=>wpAny (model X.prog X.w) X.A (newFunctionEnv scope X.env.globals (clos X.env scope.names []) [] X.env.qual none .none (some X.env)) (fun cenv s₄=>
   codeAny (model X.prog X.w) X.A (.compStart (.ListComp elt [⟨.Name x px,iter,ifs,0⟩] scope pos) 0 itv acc { cenv with scope:=relabel scope X.env }) (RR acc cenv.locals) s₄) E s₃) E s:=
 uG (tg:=.Name x px) (g:=yf 0) [x] js hc hk hcell hfree (fun cl C s H ex=>uY (i:=0) hN rfl (.inl (lookup_relabel_local hx)) (.inr (lookup_relabel_local hx))) hif he hjs
  (by
   obtain⟨it,fp,tn,J,H',e,I,T,t0,hf,W,h0,hW⟩:=hit
   exact⟨it,fp,tn,J,H',e,I,T,t0,hf,W,h0,fun i m ys H2 w=>(hW i m ys H2 w).imp_right fun⟨a,b,N,c,d⟩=>⟨a,b,N,c,fun y H3 z=>⟨rfl,d y H3 z⟩⟩⟩) hR
theorem dZ (js:List Nat) (N0:List Str) (sc0:Scope) (hc:X.calm=true) (hi:PI X (.Name x px) iter wi)
  (hif:∀cl C s H ex,PF (zB X scope x js cl C s H ex) ifs tt) (he:∀cl C s H ex,PE (zB X scope x js cl C s H ex) elt te)
  (hk:scope.kind=.function:=by rfl) (hx:scope.names.lookup x=some .local:=by rfl) (hcell:∀y∈scope.names,y.2≠.cell:=by decide +kernel)
  (hnames:∀y∈scope.names,y.2=.local->scope.names.lookup y.1=some .local:=by decide +kernel)
  (hsc:X.env.scope=sc0:=by rfl) (hfree0:∀y∈scope.names,y.2=.free->sc0.names.lookup y.1=some .cell∨sc0.names.lookup y.1=some .free:=by decide +kernel)
  (hNN:X.N=N0:=by rfl) (hN0:(x:: dq N0 js).Nodup:=by decide +kernel) (hj0:∀y∈dq N0 js,scope.names.lookup y=some .free:=by decide +kernel)
  (hs:∀x,foldedSetIterable iter X.env x=pure x:=by intro _;rfl):
  PE X (.ListComp elt [⟨.Name x px,iter,ifs,0⟩] scope pos) (VB js wi tt te):=by
 intro pins s σ H Q I h
 have hN:(x:: dq X.N js).Nodup:=by rw [hNN];exact hN0
 have hfree:∀y∈scope.names,y.2=.free->X.env.kindOf y.1=some .cell∨X.env.kindOf y.1=some .free:=fun y hy e=>by
  show X.env.scope.names.lookup y.1=some .cell∨X.env.scope.names.lookup y.1=some .free
  rw [hsc];exact hfree0 y hy e
 have hjs:∀y∈dq X.N js,scope.names.lookup y=some .free:=by rw [hNN];exact hj0
 rw [eval_ListComp]
 have hcl:closureFor scope X.env=pure (clos X.env scope.names []):=kY fun y hy e=>I.ok.has y.1 (hfree y hy e)
 refine wpAny_comprehension_free (use:=none) rfl hs hcl hk hnames (dH (hi pins s σ H _ I h) fun xv s1 h1=>dH h1 fun it s2 h2=>?_)
 refine Ba js (RR:=fun acc C=>compPost (model X.prog X.w) X.A X.xe none (EP X pins σ Q) acc C) (Q:=fun ys H2=>∀D,H2 D=none->Q (.ref D) (upd H2 D (.lst ys))) hc hk hx hcell hfree hN hjs hif he h2 ?_
 intro D C s' H2 ys m I' hD hn all fpC hCD hq
 exact⟨m,hn,fun h' sb=>⟨.ref D,_,all h' sb,rfl,hq D hD⟩⟩
theorem jP {i:Nat} {y:Str} {py spos:Pos} (js:List Nat) (N0:List Str) (sc0:Scope) (hc:X.calm=true) (hNX:X.N.Nodup) (hiy:X.N[i]?=some y) (hi:PI X (.Name x px) iter wi)
  (hif:∀cl C s H ex,PF (zB X scope x js cl C s H ex) ifs tt) (he:∀cl C s H ex,PE (zB X scope x js cl C s H ex) elt te)
  (hsw:swapsWith (.ListComp elt [⟨.Name x px,iter,ifs,0⟩] scope pos) (some (.Name y py)) spos.line X.env=pure true:=by rfl) (hy:X.env.scope.names.lookup y=some .local:=by rfl)
  (hk:scope.kind=.function:=by rfl) (hx:scope.names.lookup x=some .local:=by rfl) (hcell:∀y∈scope.names,y.2≠.cell:=by decide +kernel)
  (hnames:∀y∈scope.names,y.2=.local->scope.names.lookup y.1=some .local:=by decide +kernel)
  (hsc:X.env.scope=sc0:=by rfl) (hfree0:∀y∈scope.names,y.2=.free->sc0.names.lookup y.1=some .cell∨sc0.names.lookup y.1=some .free:=by decide +kernel)
  (hNN:X.N=N0:=by rfl) (hN0:(x:: dq N0 js).Nodup:=by decide +kernel) (hj0:∀y∈dq N0 js,scope.names.lookup y=some .free:=by decide +kernel)
  (hs:∀x,foldedSetIterable iter X.env x=pure x:=by intro _;rfl):
  PS X (.Assign [.Name y py] (.ListComp elt [⟨.Name x px,iter,ifs,0⟩] scope pos) spos) (Qe (VB js wi tt te) (yf i)):=by
 intro pins s σ H D I h
 have hN:(x:: dq X.N js).Nodup:=by rw [hNN];exact hN0
 have hfree:∀y∈scope.names,y.2=.free->X.env.kindOf y.1=some .cell∨X.env.kindOf y.1=some .free:=fun y hy e=>by
  show X.env.scope.names.lookup y.1=some .cell∨X.env.scope.names.lookup y.1=some .free
  rw [hsc];exact hfree0 y hy e
 have hjs:∀y∈dq X.N js,scope.names.lookup y=some .free:=by rw [hNN];exact hj0
 rw [exec_Assign_Name_used _ _ _ _ hsw]
 refine wpAny_bind (wpAny_standAt (wpAny_bind ?_))
 show wpAny _ X.A (do let _ <-comprehension (.ListComp elt [⟨.Name x px,iter,ifs,0⟩] scope pos) scope X.env _ (newList []) false (eval iter X.env) (some (assign (.Name y py) X.env))) _ _ s
 have hcl:closureFor scope X.env=pure (clos X.env scope.names []):=kY fun y hy e=>I.ok.has y.1 (hfree y hy e)
 refine wpAny_bind (wpAny_mono (wpAny_comprehension_free (use:=some (assign (.Name y py) X.env)) (Q:=fun _ s'=>SP X pins D .next s') rfl hs hcl hk hnames
  (dH (hi pins s σ H _ I h) fun xv s1 h1=>dH h1 fun it s2 h2=>?_)) (fun _ s' hq=>wpAny_pure (wpAny_pure hq)) fun _ _ e=>e)
 refine Ba js (RR:=fun acc C=>compPost (model X.prog X.w) X.A X.xe (some (assign (.Name y py) X.env)) (fun _ s'=>SP X pins D .next s') acc C) (Q:=fun ys H2=>∀D',H2 D'=none->D.nx (σ.set i (some (.ref D'))) (upd H2 D' (.lst ys))) hc hk hx hcell hfree hN hjs hif he h2 ?_
 intro D' C s' H2 ys m I' hD hn all fpC hCD hq
 show wpAny _ X.A (assign (.Name y py) X.env (.ref D')) _ _ _
 refine wpAny_assign_Name (zy I' hNX hiy (.inl hy) (v:=.ref D') rfl (fun s'' I'' ⟨a,sb,ha⟩=>?_) (.inr hy))
 obtain⟨f1,f2,f3,f4,f5,f6⟩:=fpC
 have hCa:C≠a:=by
  rcases ha with z | z
  ·rw [z];exact f2
  ·exact fun w=>f5 _ _ z w.symm
 exact⟨m,hn.sameBut sb hCa,fun h' sb'=>⟨_,_,I''.turned (t':=s''.toks) (it:=C) (fun b o hb e=>(sb'.2 b hb).trans e) f1 f2 f4 f5 f6,hq D' hD⟩⟩
end
end L2
namespace L2
open PySem PySem.Spec PyProof.Rows
noncomputable def fdOf (K:PySem.W.Frag) (f:Addr):FuncData:=match K.lookup f with
 | some ⟨_,_,.func d,_⟩=>d
 | _=>default
theorem Uj {K:PySem.W.Frag} {f:Addr} {oc:Value} {od:Option Addr} {fd:FuncData} {osl:Array (Option Value)} (l:K.lookup f=some ⟨oc,od,.func fd,osl⟩):fdOf K f=fd:=by
 unfold fdOf
 rw [l]
structure dX (K:PySem.W.Frag) (nm qn:Str) (s:Stmt) (f:Addr) (ps:List Str):Prop where
 F:Vx K nm qn s f (fdOf K f)
 b:Binds K (fdOf K f) ps []
 i:PySem.W.isFn K (.ref f)=true
theorem dX.me {K:PySem.W.Frag} {nm qn m:Str} {s:Stmt} {f C:Addr} {ps:List Str} (x:dX K nm qn s f ps) (h:PySem.W.findIn K (.ref C) m=some (some (.ref f))):Meth K C m f:=⟨h,x.i,x.F.kp⟩
theorem dX.of {K:PySem.W.Frag} {nm qn:Str} {s:Stmt} {f:Addr} {ps:List Str} {oc:Value} {od an:Option Addr} {osl:Array (Option Value)} {kV doc pm cdv ct:Value}
  (l:K.lookup f=some ⟨oc,od,.func (PySem.W.fnOf nm qn (iU s) (gJ s) (aR s) .none kV doc pm an cdv ct),osl⟩) (c:PySem.W.codeIn K cdv qn=true) (k:PySem.W.keepIn K (.ref f)=true) (i:PySem.W.isFn K (.ref f)=true)
  (h:∀(kV doc pm:Value) (an:Option Addr) (cdv ct:Value) (us:List Value),us.length=ps.length->bindArgs (PySem.W.fnOf nm qn (iU s) (gJ s) (aR s) .none kV doc pm an cdv ct) ⟨us,[]⟩=pure (ps.zip us)):dX K nm qn s f ps:=by
 have e:fdOf K f=PySem.W.fnOf nm qn (iU s) (gJ s) (aR s) .none kV doc pm an cdv ct:=by
  unfold fdOf
  rw [l]
 have F:=Wm l c k
 have b:=F.binds h
 rw [<-e] at F b
 exact⟨F,b,i⟩
structure Xi (K:PySem.W.Frag) (nm qn:Str) (s:Stmt) (f:Addr) (ps:List Str):Prop where
 F:Mh K nm qn s f (fdOf K f) #[.none]
 b:Binds K (fdOf K f) ps []
 i:PySem.W.isFn K (.ref f)=true
theorem Xi.me {K:PySem.W.Frag} {nm qn m:Str} {s:Stmt} {f C:Addr} {ps:List Str} (x:Xi K nm qn s f ps) (h:PySem.W.findIn K (.ref C) m=some (some (.ref f))):Meth K C m f:=⟨h,x.i,x.F.kp⟩
theorem Xi.of {K:PySem.W.Frag} {nm qn:Str} {s:Stmt} {f T:Addr} {ps:List Str} {oc oe:Value} {od an oh:Option Addr} {osl osm:Array (Option Value)} {kV doc pm cdv ct:Value} {n:Nat}
  (l:K.lookup f=some ⟨oc,od,.func (PySem.W.fnOf nm qn (iU s) (gJ s) (aR s) (.ref T) kV doc pm an cdv ct),osl⟩) (d:K.lookup T=some ⟨oe,oh,.seq #[.none] n,osm⟩) (c:PySem.W.codeIn K cdv qn=true) (k:PySem.W.keepIn K (.ref f)=true) (i:PySem.W.isFn K (.ref f)=true)
  (h:∀fd:FuncData,Mh K nm qn s f fd #[.none]->Binds K fd ps []):Xi K nm qn s f ps:=by
 have F:=U7 (its:=#[.none]) l c k d rfl
 have b:=h _ F
 rw [<-Uj l] at F b
 exact⟨F,b,i⟩
structure lN (K:PySem.W.Frag) (mg:Str->Option Value) (nm:Str) (s:Stmt) (f:Addr) (ps:List Str):Prop where
 x:dX K nm nm s f ps
 m:mg nm=some (.ref f)
theorem lN.of {K:PySem.W.Frag} {mg:Str->Option Value} {nm:Str} {s:Stmt} {f:Addr} {ps:List Str} (m:mg nm=some (.ref f)) (x:dX K nm nm s f ps):lN K mg nm s f ps:=⟨x,m⟩
theorem gC {mg:Str->Option Value} {nm:Str} {u:Value} {v:V} (m:mg nm=some u) (r:RelV v u):∃u,mg nm=some u/\RelV v u:=⟨u,m,r⟩
theorem lN.F {K:PySem.W.Frag} {mg:Str->Option Value} {nm:Str} {s:Stmt} {f:Addr} {ps:List Str} (h:lN K mg nm s f ps):Vx K nm nm s f (fdOf K f):=h.x.F
theorem lN.b {K:PySem.W.Frag} {mg:Str->Option Value} {nm:Str} {s:Stmt} {f:Addr} {ps:List Str} (h:lN K mg nm s f ps):Binds K (fdOf K f) ps []:=h.x.b
noncomputable def MB (K:PySem.W.Frag) (C:Addr):List (Str×Addr)->Prop
 | []=>True
 | (m,f):: r=>PySem.W.findIn K (.ref C) m=some (some (.ref f))/\MB K C r
noncomputable def NB (K:PySem.W.Frag) (C:Addr):List Str->Prop
 | []=>True
 | f:: r=>PySem.W.findIn K (.ref C) f=some none/\NB K C r
structure Jm (K:PySem.W.Frag) (mg:Str->Option Value) (nm:Str) (C:Addr) (ms:List (Str×Addr)) (as:List Str):Prop where
 m:mg nm=some (.ref C)
 c:Py K C
 mks:PySem.W.makesIn K C=true
 kp:PySem.W.keepIn K (.ref C)=true
 me:MB K C ms
 na:NB K C as
theorem Jm.M {K:PySem.W.Frag} {mg:Str->Option Value} {nm:Str} {C f:Addr} {ms:List (Str×Addr)} {as ps:List Str} {n q:Str} {s:Stmt} (h:Jm K mg nm C (("__init__",f):: ms) as) (x:dX K n q s f ps):Mk K C f:=⟨h.mks,h.me.1,x.i,h.kp⟩
theorem Wl {K:PySem.W.Frag} {nm qn:Str} {st:Stmt} {f:Addr} {x:Str} (F:Vx K nm qn st f (fdOf K f))
  (h:∀(kV doc pm:Value) (an:Option Addr) (cdv ct v:Value),bindArgs (PySem.W.fnOf nm qn (iU st) (gJ st) (aR st) .none kV doc pm an cdv ct) ⟨[v],[]⟩=pure [(x,v)]) (s:Shared) (v:Value):BindsTo s (fdOf K f) ⟨[v],[]⟩ [(x,v)]:=by
 obtain⟨oc,od,kV,doc,pm,an,cdv,ct,osl,e,lk,hcd⟩:=F.ex
 rw [e]
 exact .of_eq (h kV doc pm an cdv ct v)
theorem ZX {K:PySem.W.Frag} {h:Heap} {C f:Addr} (X:K.In h) (_:PySem.W.findIn K (.ref C) "__init__" =some (some (.ref f))) (b:Qk K C f=true):ExcAt K C:=(Dn.ofIn b).at X
theorem us_0 {α:Type} {P:List α->Prop} (h:P []):∀us:List α,us.length=0->P us
 | [],_=>h
theorem Bk {α:Type} {P:List α->Prop} (h:∀a,P [a]):∀us:List α,us.length=1->P us
 | [a],_=>h a
theorem wU {α:Type} {P:List α->Prop} (h:∀a b,P [a,b]):∀us:List α,us.length=2->P us
 | [a,b],_=>h a b
theorem Dc {α:Type} {P:List α->Prop} (h:∀a b c,P [a,b,c]):∀us:List α,us.length=3->P us
 | [a,b,c],_=>h a b c
theorem Wo {α:Type} {P:List α->Prop} (h:∀a b c d,P [a,b,c,d]):∀us:List α,us.length=4->P us
 | [a,b,c,d],_=>h a b c d
theorem XD {α:Type} {P:List α->Prop} (h:∀a b c d e,P [a,b,c,d,e]):∀us:List α,us.length=5->P us
 | [a,b,c,d,e],_=>h a b c d e
theorem ZP {α:Type} {P:List α->Prop} (h:∀a b c d e f,P [a,b,c,d,e,f]):∀us:List α,us.length=6->P us
 | [a,b,c,d,e,f],_=>h a b c d e f
theorem us_7 {α:Type} {P:List α->Prop} (h:∀a b c d e f g,P [a,b,c,d,e,f,g]):∀us:List α,us.length=7->P us
 | [a,b,c,d,e,f,g],_=>h a b c d e f g
theorem dX.sc {K:PySem.W.Frag} {nm qn:Str} {s:Stmt} {f:Addr} {ps:List Str} (_:dX K nm qn s f ps) (N:List Str) (h:fX N ps (aR s):=by exact⟨rfl,rfl,rfl,by decide +kernel,rfl,by decide +kernel,by decide +kernel⟩):fX N ps (aR s):=h
theorem lN.sc {K:PySem.W.Frag} {mg:Str->Option Value} {nm:Str} {s:Stmt} {f:Addr} {ps:List Str} (_:lN K mg nm s f ps) (N:List Str) (h:fX N ps (aR s):=by exact⟨rfl,rfl,rfl,by decide +kernel,rfl,by decide +kernel,by decide +kernel⟩):fX N ps (aR s):=h
noncomputable abbrev FO (P:Program) (w:World) (K:PySem.W.Frag) (mg:Str->Option Value) (base:Heap) (k:Nat) (f:Addr) (ps:List Str) (sp:Sp):Prop:=iy P w K mg base Ce k f (fdOf K f) ps sp
theorem MJ {N ps:List Str} {sc:Scope} (h:fX N ps sc:=by exact⟨rfl,rfl,rfl,by decide +kernel,rfl,by decide +kernel,by decide +kernel⟩):fX N ps sc:=h
section
variable {X:Cx} {k k' i:Nat} {f C:Addr} {ps as:List Str} {ms:List (Str×Addr)} {sp:Sp} {x m nm qn n:Str} {p pos apos pos':Pos} {e o:Expr} {es:List Expr} {ta te:TE} {t:TA} {s:Stmt} {N:List Str}
theorem dw (F:iy X.prog X.w X.K X.mg X.base Ce k f (fdOf X.K f) ps sp) (g:lN X.K X.mg x s f ps) (hr:jg k' X.A) (ha:PA X (e:: es) t) (hk:k<=k':=by decide) (hg:Gl X x:=by rfl)
  (hdb:(x == ("__debug__" :Str))=false:=by decide) (he:starEach (e:: es) X.env=(false,eval e X.env):: starEach es X.env:=by rfl) (hpl:(backTo pos (starEach es X.env)).any (·.1)=false:=by rfl):
  PE X (.Call (.Name x p) (e:: es) [] pos) (VL sp [] E0 t):=Um F (hr.mono hk) hg g.m g.F.kp g.b .nil ig ha hdb he hpl
theorem wK {pl:Sem Bool} (he:PE X o ta) (c:Jm X.K X.mg n C ms as) (hm:PySem.W.findIn X.K (.ref C) m=some (some (.ref f))) (F:iy X.prog X.w X.K X.mg X.base Ce k f (fdOf X.K f) ps sp) (g:dX X.K nm qn s f ps) (hr:jg k' X.A) (ha:PA X (e:: es) t)
  (hk:k<=k':=by decide) (hst:starEach (e:: es) X.env=(false,eval e X.env):: starEach es X.env:=by rfl) (hpl:(backTo pos (starEach es X.env)).any (·.1)=false:=by rfl)
  (ht:eval (.Call (.Attribute o m apos) (e:: es) [] pos) X.env=(do
   let ov <-eval o X.env
   standAt apos.atName
   let (f,first) <-holding [ov] (getMethod ov m pl)
   callWith pos f first (backTo pos (starEach (e:: es) X.env)) (backToKw pos (keywordEach [] X.env))):=by rfl):
  PE X (.Call (.Attribute o m apos) (e:: es) [] pos) (NT C m sp [] E0 ta t):=NP he c.c (g.me hm) F (hr.mono hk) g.b .nil ig ha hst hpl ht
theorem Om {pl:Sem Bool} (he:PE X o ta) (c:Jm X.K X.mg n C ms as) (hm:PySem.W.findIn X.K (.ref C) m=some (some (.ref f))) (F:iy X.prog X.w X.K X.mg X.base Ce k f (fdOf X.K f) ps sp) (g:dX X.K nm qn s f ps) (hr:jg k' X.A)
  (hk:k<=k':=by decide) (ht:eval (.Call (.Attribute o m apos) [] [] pos) X.env=(do
   let ov <-eval o X.env
   standAt apos.atName
   let (f,first) <-holding [ov] (getMethod ov m pl)
   callWith pos f first (backTo pos (starEach [] X.env)) (backToKw pos (keywordEach [] X.env))):=by rfl):
  PE X (.Call (.Attribute o m apos) [] [] pos) (NT C m sp [] E0 ta QV):=Rh he c.c (g.me hm) F (hr.mono hk) g.b .nil ig ht
theorem gN {sc:Scope} (S:fX X.N ps sc) (i:Nat) (hi:X.N[i]?=some x:=by rfl) (hx:Loc X.env.scope x:=by first | exact Or.inl rfl | exact Or.inr rfl) (hf:X.fn x=true∨X.env.scope.names.lookup x=some .local:=by first | exact .inl rfl | exact .inr rfl | assumption):PG X (.Name x pos) (yf i):=uY S.nd hi hx hf
theorem sN {sc:Scope} (S:fX X.N ps sc) (i:Nat) (he:PE X e te) (hi:X.N[i]?=some x:=by rfl) (hx:Loc X.env.scope x:=by first | exact Or.inl rfl | exact Or.inr rfl) (hs:swapsWith e (some (.Name x pos')) pos.line X.env=pure false:=by rfl) (hf:X.fn x=true∨X.env.scope.names.lookup x=some .local:=by first | exact .inl rfl | exact .inr rfl | assumption):
  PS X (.Assign [.Name x pos'] e pos) (Qe te (yf i)):=Ww S.nd hi hx he hs hf
theorem DP (h1:PE X o ta) (h2:PA X (e:: es) t) (hbase:attributeBase o "append" X.env (eval o X.env)=eval o X.env:=by rfl)
  (hfew:((backTo pos (starEach (e:: es) X.env)).all (fun x=>!x.1) && (backToKw pos (keywordEach [] X.env)).all (fun x=>x.1.isSome) && decide ((e:: es).length+([]:List Keyword).length+(if ([]:List Keyword).isEmpty then 0 else 1) <30))=true:=by rfl)
  (hline:(apos.endLine == pos.line)=true:=by rfl) (hs:starEach (e:: es) X.env=(false,eval e X.env):: starEach es X.env:=by rfl) (hplain:(backTo pos (starEach es X.env)).any (·.1)=false:=by rfl):
  PE X (.Call (.Attribute o "append" apos) (e:: es) [] pos) (Z4 X.K "list" Ni ta t):=tW PySem.F.plainAttrs_list PySem.F.slot_list_append PySem.F.type_list_append Pk h1 h2 hbase hfew hline hs hplain
end
theorem ln {sp:Sp} {ps:List Str} (h:∀vs H Q E,sp vs H Q E->vs.length=ps.length:=by
 intro _ _ _ _ h
 first
 | (cases h;subst_vars;rfl)
 | (cases h;rename_i h;cases h;subst_vars;rfl)
 | (obtain⟨_,rfl,_⟩:=h;rfl)
 | (obtain⟨_,_,rfl,_⟩:=h;rfl)
 | (obtain⟨_,_,_,rfl,_⟩:=h;rfl)):∀vs H Q E,sp vs H Q E->vs.length=ps.length:=h
theorem Ol {X:Cx}:jY X (.builtin "len") (fun xs H Q=>∃d kvs,xs=[.ref d]/\Rd H d (.dK kvs)/\Q (.int (kvs.length:Nat)) H):=by
 intro pins s σ H xs us Q I rx h
 obtain⟨d,kvs,rfl,hr,q⟩:=h
 obtain⟨u,rfl,ru⟩:=vals1 rx
 cases ru
 obtain⟨z,hd,vs,rel,dd⟩:=vL I.hok hr
 have hl:kvs.length=vs.length:=Paired.length rel
 have hs:sizeLine=16777216:=sizeLine_eq
 refine call_len_dict (knd:=bQ X.prog X.w) hd dd (by omega) ?_
 rw [<-hl]
 exact⟨.int _,H,I.tok _,⟨_,rfl⟩,q⟩
noncomputable def U3:Option Key->Value->Bool
 | some k,v=>Ao k v
 | none,.none=>true
 | none,_=>false
theorem jD {v:Value} (h:U3 none v=true):v=.none:=by
 cases v <;> first | rfl | cases h
theorem CP {k:Key} (h:Ao k .none=true):False:=by
 rcases dm h with ⟨i,t,_,e⟩ | ⟨x,t,_,e⟩ <;> cases e
theorem Ym {A:Around} {s:Shared}:SeqAt.EqAt A s .none .none true:=fun prog w E Q h=>by
 unfold eqBool
 refine wpAny_holding ?_
 refine wpAny_ite_split (fun _=>wpAny_bind (wpAny_rule (wpAny_pure h))) (fun z=>absurd rfl z)
noncomputable def Oh (prog:Program) (w:World):PySem.KeyKind prog w (Option Key) where
 is:=U3
 hash:=fun k=>match k with
  | some k=>Ye w k
  | none=>reduceHash 0xFCA86420
 inj:=fun v a b ha hb=>by
  cases a with
  | none=>
   have:=jD ha
   subst this
   cases b with
   | none=>rfl
   | some b=>exact(CP hb).elim
  | some a=>
   cases b with
   | none=>
    have:=jD hb
    subst this
    exact(CP ha).elim
   | some b=>rw [(bQ prog w).inj v a b ha hb]
 byValue:=fun k v h=>by
  cases k with
  | none=>rw [jD h];rfl
  | some k=>exact(bQ prog w).byValue k v h
 pyHash:=fun {A E s k v Q} hv h=>by
  cases k with
  | none=>
   rw [jD hv]
   exact PySem.W.pyHash_slot (T:= "NoneType") rfl F.slot_NoneType_hash F.entry_NoneType_hash (F.args_NoneType_hash_1 _) (beq_builtin_none _) (.inl rfl) (wpAny_bind (wpAny_pure (wpAny_bind (wpAny_mkInt (wpAny_pure ⟨_,_,rfl,h⟩)))))
  | some k=>exact(bQ prog w).pyHash hv h
 eqBool:=fun {A E s a b u v Q} hu hv h=>by
  cases a with
  | none=>
   rw [jD hu]
   cases b with
   | none=>rw [jD hv];exact Ym _ _ _ _ h
   | some b=>
    rcases dm hv with ⟨j,x,rfl,rfl⟩ | ⟨y,x,rfl,rfl⟩
    ·exact SeqAt.EqAt.none_int j x _ _ _ _ h
    ·exact SeqAt.EqAt.none_str y x _ _ _ _ h
  | some a=>
   cases b with
   | none=>
    rw [jD hv]
    rcases dm hu with ⟨j,x,rfl,rfl⟩ | ⟨y,x,rfl,rfl⟩
    ·exact SeqAt.EqAt.int_none j x _ _ _ _ h
    ·exact SeqAt.EqAt.str_none y x _ _ _ _ h
   | some b=>exact(bQ prog w).eqBool (a:=a) (b:=b) hu hv (by simpa using h)
 «strs» :=fun k x t v h=>by
  cases k with
  | none=>cases h
  | some k=>exact(bQ prog w).strs k x t v h
theorem Va {P:Program} {w:World} {h:Heap} {a:Addr} {kvs:List (Key×Value)} (hd:h.DictOf (bQ P w) a kvs):∃f,h.MapOf (Oh P w) a f/\f none=none:=by
 obtain⟨o,es,ep,ho,hc,hdat,hk,hp,_⟩:=hd
 refine⟨findBy U3 es,⟨o,es,ep,ho,hc,hdat,fun e he=>?_,fun k=>rfl⟩,?_⟩
 ·obtain⟨k,h1,h2⟩:=hk e he
  exact⟨some k,h1,h2⟩
 ·unfold findBy
  cases hf:es.find? fun e=>U3 none e.key with
  | none=>rfl
  | some e=>
   have h1:=Array.find?_some hf
   have h2:=Array.mem_of_find?_eq_some hf
   obtain⟨k,h3,_⟩:=hk e h2
   rw [jD h1] at h3
   exact(CP h3).elim
inductive LQ (Q:VK) (x y:V) (H2:Hp):Prop where
 | key:∀a o,x=.ref a->eE H2 a y o->Q (.bl o.isSome) H2->LQ Q x y H2
 | non:∀a kvs,x=.ref a->y=.non->Rd H2 a (.dK kvs)->Q (.bl false) H2->LQ Q x y H2
noncomputable def QF (ty td:TE):TE:=fun σ H Q=>ty σ H fun y H1=>td σ H1 fun x H2=>LQ Q x y H2
theorem MF {X:Cx} {o i:Expr} {td ty:TE} (hu:X.A.units+1 <cLine) (hi:PE X i ty) (ho:PE X o td):PC X .In i o (QF ty td):=by
 intro pins s σ H Q I h
 refine dH (hi pins s σ H _ I h) fun iv s1 ⟨y,H1,I1,ry,q1⟩=>dH (ho pins s1 σ H1 _ I1 q1) fun u s2 hpt=>?_
 obtain⟨x,H2,I2,rx,q2⟩:=hpt
 rcases q2 with ⟨a,ov,ex,g,q2⟩ | ⟨a,kvs,ex,ey,hr,q2⟩
 ·subst ex
  obtain rfl:u=Value.ref a:=rx
  exact Yl hu I2 g ry fun s3 I3=>⟨.bl ov.isSome,H2,I3,rfl,q2⟩
 ·subst ex ey
  obtain rfl:u=Value.ref a:=rx
  obtain rfl:iv=Value.none:=ry
  obtain⟨z,hd,vs,rel,dd⟩:=vL I2.hok hr
  obtain⟨f,hm,hf⟩:=Va dd
  refine wpAny_in_of (knd:=Oh X.prog X.w) (k:=none) rfl hd hm ?_
  rw [hf]
  exact⟨.bl false,H2,I2.tok _,rfl,q2⟩
end L2
namespace PySem
open PyProof.Rows
theorem O3:typeLookup (.type "list") "keys" =pure none:=am_miss_of_fast (by kernel_rfl)
theorem PJ {prog:Program} {w:World} {A:Around} {E:Value->Shared->Prop} {s:Shared} {a:Addr} {o:Obj} {xs:Array Value} {k:Nat} {Q:Option Value->Shared->Prop}
  (hx:s.heap.get? a=some o) (hc:o.cls=.type "list") (hdat:o.data=.seq xs k) (hd:o.dict=none) (hA:A.handled=none)
  (h:∀h' tk,(∀b ob,s.heap.get? b=some ob->h'.get? b=some ob)->Q none { s with heap:=h',toks:=tk }):
  wpAny (model prog w) A (getAttr? (.ref a) "keys") Q E s:=by
 obtain⟨c,dct,dat,sl⟩:=o
 simp only at hc hdat hd
 subst hc hdat hd
 obtain⟨hp,g,d,tk,os⟩:=s
 have hT:∀tk',(⟨hp,g,d,tk',os⟩:Shared).TypeIs (.ref a) "list" :=fun _=>⟨_,hx,rfl⟩
 have f1:=sub_AttributeError
 have f3:=F.slot_list_getattribute.lookup
 have f4:=F.slot_list_getattribute.bind (.ref a)
 have f5:=am_list_getattr_none
 unfold getAttr? getAttrBy? getAttrBy
 repeat (any_goals (first | assumption | exact hT _ | ((with_reducible show wpAny _ _ (call (Value.builtin "list.__getattribute__") _ _) _ _ _);refine call_meets F.slot_list_getattribute (hT _) am_entry_list_getattribute (F.args_list_getattribute_2 _ _) (meets_getattribute_miss_list a xs k sl "keys" _ O3 (by decide +kernel) (by size_fits)) ⟨hx,hA,fun h' tk' e hx'=>?_⟩) | wp_step))
 obtain⟨t',u',he⟩:=hx'.there
 show wpAny _ _ (getattributeRaised _ _ _ _ _ _ _) _ _ _
 unfold getattributeRaised
 repeat (any_goals (first | assumption | wp_step))
 exact h _ _ hx'.keeps
theorem jU:entryFor table "dict.update.loop" =some Builtin.«dict.update.loop» :=entryFor_of_tree (by kernel_rfl)
theorem eQ:plainId "dict.update.loop" =true:=by decide +kernel
section
variable {prog:Program} {w:World} {A:Around} {R:Result->Shared->Prop} {I:Addr} {fp wr:List Addr} {G:Array GenState->Array GenState->Prop} {n:Nat} {P:Nat->Value->Prop} {St:Nat->Shared->Prop} {KK:Type} [DecidableEq KK] {knd:KeyKind prog w KK}
theorem Eg (W:WalksS prog w A.in1 I fp wr G n P St) (D:Addr) (hDf:D∉fp) (h0:Heap) (ks:List (KK×Value)) (hn:ks.length=n) (hz:n<=sizeLine) (nd:(ks.map (·.1)).Nodup)
  (hP:∀i v,P i v->∃u o m kv x k,v=.ref u/\ks[i]?=some (k,x)/\knd.is k kv=true/\h0.get? u=some o/\o.cls=.type "tuple" /\o.data=.seq #[kv,x] m) (hw:∀b o,h0.get? b=some o->b∉D:: wr):
  ∀(k i:Nat) (t:Tok) (s:Shared),n - i=k->i<=n->St i s->(∀b o,h0.get? b=some o->s.heap.get? b=some o)->s.heap.DictOf knd D (ks.take i)->
   (∀s',Moved (D:: wr) G s s'->s'.heap.DictOf knd D ks->R (.ok (.ret .none)) s')->
   codeAny (model prog w) A (.builtin "dict.update.loop" ⟨[.ref D,.ref I,.int i t,.none],[]⟩) R s:=by
 have hDw:D∉wr:=fun h=>hDf (W.sub _ h)
 have hsub:∀b∈wr,b∈D:: wr:=fun b hb=>List.mem_cons_of_mem _ hb
 intro k
 induction k with
 | zero=>
  intro i t s hk hi hst hkp hD hR
  have hin:i=n:=by omega
  subst hin
  refine codeAny_builtin jU ?_
  rw [Around.under_plainId eQ _]
  show wpAny _ A.in1 (pyNext (.ref I) >>= _) _ _ s
  refine wpAny_bind (W.done s _ _ hst fun s' hm=>?_)
  show wpAny _ A.in1 (Builtin.Dict.addKeywords D [] >>= _) _ _ s'
  refine wpAny_bind (wpAny_pure (wpAny_pure (hR s' (hm.mono hsub) ?_)))
  obtain⟨o,es,ep,ho,rest⟩:=hD
  rw [<-hn,List.take_length] at rest
  exact⟨o,es,ep,hm.heap D _ hDw ho,rest⟩
 | succ k ih=>
  intro i t s hk hi hst hkp hD hR
  have hlt:i <n:=by omega
  refine codeAny_builtin jU ?_
  rw [Around.under_plainId eQ _]
  show wpAny _ A.in1 (pyNext (.ref I) >>= _) _ _ s
  refine wpAny_bind (W.item i s _ _ hlt hst fun v s' hPi hst' hm=>?_)
  obtain⟨u,o,m,kv,x,ky,rfl,hks,hky,hu,hc,hd⟩:=hP i v hPi
  have hkp':∀b o,h0.get? b=some o->s'.heap.get? b=some o:=fun b o e=>hm.heap b o (fun z=>hw b o e (hsub _ z)) (hkp b o e)
  have hu':=hkp' u o hu
  have hD':s'.heap.DictOf knd D (ks.take i):=by
   obtain⟨o,es,ep,ho,rest⟩:=hD
   exact⟨o,es,ep,hm.heap D _ hDw ho,rest⟩
  obtain⟨oc,od,oda,osl⟩:=o
  simp only at hc hd
  subst hc hd
  have hT:s'.TypeIs (.ref u) "tuple" :=⟨_,hu',rfl⟩
  show wpAny _ A.in1 (holding [Value.ref u] _ >>= _) _ _ s'
  refine wpAny_bind (wpAny_holding ?_)
  have hpi:wpAny (model prog w) A.in1 (Builtin.Dict.pairItems (.ref u)) (fun l s2=>l=[kv,x]/\s2=s') (fun _ _=>False) s':=by
   obtain⟨hp,g,d,tk,os⟩:=s'
   unfold Builtin.Dict.pairItems
   repeat (any_goals (first | assumption | wp_step))
   exact⟨rfl,rfl⟩
  refine wpAny_bind (wpAny_tryCatch (wpAny_mono hpi ?_ ?_))
  ·rintro l s2 ⟨rfl,rfl⟩
   have hkl:ky∉(ks.take i).map (·.1):=fun hmem=>by
    have hi':=(List.getElem?_eq_some_iff.mp hks).1
    obtain⟨j,hj,ej⟩:=List.mem_iff_getElem.mp hmem
    rw [List.length_map,List.length_take] at hj
    rw [List.getElem_map,List.getElem_take] at ej
    have e2:(ks.map (·.1))[i]'(by rw [List.length_map];exact hi')=ky:=by rw [List.getElem_map,(List.getElem?_eq_some_iff.mp hks).2]
    have e1:(ks.map (·.1))[j]'(by rw [List.length_map];omega)=ky:=by rw [List.getElem_map];exact ej
    have:=(List.getElem_inj nd).mp (e1.trans e2.symm)
    omega
   have est:stored (ks.take i) ky x=ks.take (i+1):=by
    unfold stored
    rw [if_neg,List.take_add_one,hks]
    ·rfl
    ·rw [List.any_eq_true]
     rintro⟨kx,h1,h2⟩
     exact hkl (List.mem_map.mpr ⟨kx,h1,of_decide_eq_true h2⟩)
   refine wpAny_holding (wpAny_dictSet_pairs hky hD' (fun h' hd' hsb=>?_) (by rw [List.length_take];omega))
   rw [est] at hd'
   refine wpAny_pure ⟨plainId_quiet eQ _,?_⟩
   refine ih (i+1) _ _ (by omega) hlt (W.frame _ s2 _ _ hst' (Nat.le_succ _) fun b hb o e=>?_) (fun b o e=>?_) hd' fun s'' hm'' hD''=>hR s'' (Moved.trans W.gtrans ((hm.mono hsub).then_heap (Nat.le_succ _) fun b o hb e=>?_) hm'') hD''
   ·rw [hsb.2 b (fun h:b=D=>hDf (by rw [<-h];exact hb))];exact e
   ·rw [hsb.2 b (fun h:b=D=>hw b o e (by rw [h];exact .head _))];exact hkp' b o e
   ·rw [hsb.2 b (fun h:b=D=>hb (by rw [h];exact .head _))];exact e
  ·intro e s2 h;exact h.elim
end
section
variable {prog:Program} {w:World} {A:Around} {E:Value->Shared->Prop} {s:Shared} {KK:Type} [DecidableEq KK] {knd:KeyKind prog w KK}
theorem CZ {l:Addr} {its:Array Value} {ks:List (KK×Value)} {Q:Value->Shared->Prop} (hh:A.handled=none) (hl:PlainL s.heap l its) (hz:its.size<=sizeLine) (hn:ks.length=its.size) (nd:(ks.map (·.1)).Nodup)
  (hP:∀(i:Nat) (v:Value),its[i]?=some v->∃(u:Addr) (o:Obj) (m:Nat) (kv x:Value) (k:KK),v=.ref u/\ks[i]?=some (k,x)/\knd.is k kv=true/\s.heap.get? u=some o/\o.cls=.type "tuple" /\o.data=.seq #[kv,x] m)
  (h:∀h' tk,h'.DictOf knd s.heap.objs.size ks->(∀b o,s.heap.get? b=some o->h'.get? b=some o)->Q (.ref s.heap.objs.size) { s with heap:=h',toks:=tk }):
  wpAny (model prog w) A (call (.type "dict") [.ref l]) Q E s:=by
 refine callType_codes (Q₁:=fun obj s₁=>obj=.ref s.heap.objs.size/\s₁={ s with heap:=s.heap.push { cls:=.type "dict",data:=.dict #[] } }) F.kt_called_dict (F.kt_typeCall_dict_1 _) F.entry_dict_init (kt_code_dict_new _ ⟨rfl,rfl⟩) ?_
 rintro obj s₁ ⟨rfl,rfl⟩
 have hnew:(s.heap.push { cls:=.type "dict",data:=.dict #[] }).DictOf knd s.heap.objs.size []:=Heap.DictOf.new s.heap
 obtain⟨ol,n,hx,hc,hdn,hdt⟩:=hl
 have hlt:=Heap.lt_size hx
 have hx1:(s.heap.push { cls:=.type "dict",data:=.dict #[] }).get? l=some ol:=Heap.get?_push_of_some _ hx
 have hT1:Shared.TypeIs { s with heap:=s.heap.push { cls:=.type "dict",data:=.dict #[] } } (.ref l) "list" :=⟨_,hx1,hc⟩
 refine⟨hnew.typeIs,F.args_dict_init_2 _ _,?_⟩
 unfold Builtin.«dict.__init__»
 refine wpAny_bind ?_
 unfold Builtin.Dict.selfAndRest
 refine wpAny_bind (wpAny_notOrdered_dict hnew.typeIs ?_)
 show wpAny _ _ (pure (s.heap.objs.size,[Value.ref l])) _ _ _
 refine wpAny_pure ?_
 show wpAny _ _ (Builtin.Dict.updateFrom "dict.__init__" s.heap.objs.size (.ref l) [] .none) _ _ _
 unfold Builtin.Dict.updateFrom
 refine wpAny_bind (wpAny_typeOf hT1 ?_)
 rw [if_pos (by decide)]
 refine wpAny_bind (PJ hx1 hc hdt hdn (by simp [hh]) fun h1 tk1 kp1=>?_)
 show wpAny _ _ (rule _ >>= fun _=>pyIter (.ref l) >>= fun it=>again (.builtin "dict.update.loop" ⟨[.ref s.heap.objs.size,it,rawInt 0,.none],[]⟩)) _ _ _
 refine wpAny_bind (wpAny_rule (wpAny_bind ?_))
 have hx2:h1.get? l=some ol:=kp1 _ _ hx1
 have hL2:h1.IsList l its:=⟨_,hx2,hc,n,hdt⟩
 have hD2:h1.DictOf knd s.heap.objs.size []:=by
  obtain⟨o,es,ep,ho,rest⟩:=hnew
  exact⟨o,es,ep,kp1 _ _ ho,rest⟩
 have hDlt:s.heap.objs.size <h1.objs.size:=by obtain⟨_,_,_,ho,_⟩:=hD2;exact Heap.lt_size ho
 have hl2:=Heap.lt_size hx2
 have kp0:∀b o,s.heap.get? b=some o->h1.get? b=some o:=fun b o e=>kp1 _ _ (Heap.get?_push_of_some _ e)
 refine wpAny_pyIter_list hL2 (wpAny_pure ⟨plainId_quiet eQ _,?_⟩)
 have hh2:A.in1.in1.handled=none:=by simp [hh]
 refine Eg (A:=A.in1) ((Walks.list hh2 h1.objs.size l (Nat.ne_of_lt hl2) its).toS) s.heap.objs.size ?_ s.heap ks hn hz nd hP (fun b o e z=>?_) its.size 0 _ _ (by simp) (Nat.zero_le _) ⟨⟨_,Heap.get?_push_size _ rfl,rfl,rfl⟩,hL2.push _⟩ (fun b o e=>Heap.get?_push_of_some _ (kp0 b o e)) (hD2.push _) fun s' hm hD'=>?_
 ·simp only [List.mem_cons,List.not_mem_nil,or_false,not_or]
  exact⟨Nat.ne_of_lt hDlt,Nat.ne_of_gt hlt⟩
 ·have h1':=Heap.lt_size e
  simp only [List.mem_cons,List.not_mem_nil,or_false] at z
  rcases z with z | z
  ·exact Nat.ne_of_lt h1' z
  ·exact Nat.ne_of_lt (Heap.lt_size (kp0 b o e)) z
 ·obtain⟨h',g',d',tk',os'⟩:=s'
  have eg:g'=s.gens:=hm.gens
  have ed:d'=s.drawn:=hm.drawn
  have eo:os'=s.os:=hm.os
  subst eg;subst ed;subst eo
  refine⟨rfl,h h' tk' hD' fun b o e=>?_⟩
  have h1':=Heap.lt_size e
  exact hm.heap b o (by simp only [List.mem_cons,List.not_mem_nil,or_false,not_or];exact⟨Nat.ne_of_lt h1',Nat.ne_of_lt (Heap.lt_size (kp0 b o e))⟩) (Heap.get?_push_of_some _ (kp0 b o e))
end
end PySem
namespace L2
open PySem PySem.Spec PyProof.Rows
theorem pairs_at {X:Cx} {pins:List (Addr×Obj)} {σ:St} {H:Hp} {s:Shared} (I:Inv X pins σ H s):∀{rs:List Addr} {kvs:List (Key×V)},cM H rs (kvs.map fun kv:Key×V=>[kV kv.1,kv.2])->∃ks:List (Key×Value),KV kvs ks/\∀(i:Nat) (u:Addr),rs[i]?=some u->∃(o:Obj) (m:Nat) (kv x:Value) (k:Key),ks[i]?=some (k,x)/\(bQ X.prog X.w).is k kv=true/\s.heap.get? u=some o/\o.cls=.type "tuple" /\o.data=.seq #[kv,x] m
 | [],[],_=>⟨[],.nil,by simp⟩
 | r:: rs,kv:: kvs,.cons h t=>by
  obtain⟨ks,rel,hk⟩:=pairs_at I t
  obtain⟨its,rv,⟨o,e,c,n,d⟩,_⟩:=I.tuple (eN.of h)
  cases rv with
  | cons r1 rv=>
   cases rv with
   | cons r2 rv=>
    cases rv
    refine⟨(kv.1,_):: ks,.cons ⟨rfl,r2⟩ rel,fun i u hu=>?_⟩
    cases i with
    | zero=>
     simp only [List.getElem?_cons_zero,Option.some.injEq] at hu
     subst hu
     exact⟨o,n,_,_,_,rfl,Av r1,e,c,d⟩
    | succ i=>exact hk i u (by simpa using hu)
theorem Bh {X:Cx} (hc:X.calm=true):jY X (.type "dict") (fun xs H Q=>∃(p:Addr) (rs:List Addr) (kvs:List (Key×V)),xs=[.ref p]/\bF X.K H p (rs.map V.ref)/\cM H rs (kvs.map fun kv:Key×V=>[kV kv.1,kv.2])/\(kvs.map (·.1)).Nodup/\∀l,H l=none->Q (.ref l) (upd H l (.dK kvs))):=by
 intro pins s σ H xs us Q I r h
 obtain⟨p,rs,kvs,rfl,hq,hT,nd,q⟩:=h
 obtain⟨u,rfl,ru⟩:=vals1 r
 cases ru
 obtain⟨its,rv,pl,hz⟩:=I.list hq
 have ll:=rv.length
 rw [List.length_map] at ll hz
 obtain⟨ks,rel,hk⟩:=pairs_at I hT
 have lk:kvs.length=ks.length:=KV.length rel
 have lr:rs.length=kvs.length:=by have:=Paired.length hT;rw [List.length_map] at this;exact this
 refine CZ (knd:=bQ X.prog X.w) (ks:=ks) (I.ok.hd hc) pl (by simp;omega) (by simp;omega) (by rw [<-KV.keys rel];exact nd) (fun i v hv=>?_) fun h' tk hd kp=>?_
 ·have hi:i <its.length:=by have:=(Array.getElem?_eq_some_iff.mp hv).1;simpa using this
  obtain⟨u,e',r'⟩:=rv.get (i:=i) (x:=.ref (rs[i]'(by omega))) (by rw [List.getElem?_map,List.getElem?_eq_getElem (by omega)];rfl)
  have hv':its[i]?=some v:=by simpa using hv
  rw [hv'] at e'
  cases e'
  cases r'
  obtain⟨o,m,kv,x,k,h1,h2,h3,h4,h5⟩:=hk i (rs[i]'(by omega)) (List.getElem?_eq_getElem _)
  exact⟨_,o,m,kv,x,k,rfl,h1,h2,h3,h4,h5⟩
 ·refine⟨.ref s.heap.objs.size,_,I.laid (a:=s.heap.objs.size) (o:=.dK kvs) (t':=tk) kp (Nat.le_refl _) (Mg (by omega) (beq_eq_false_iff_ne.mpr (Ne.symm (Nat.ne_of_lt I.big))) rel hd),rfl,q _ (I.hok.fresh (Nat.le_refl _))⟩
theorem range_any (bs:List Bool):((List.range bs.length).any fun i=>(bs[i]?).getD true)=bs.any id:=by
 rw [Bool.eq_iff_iff,List.any_eq_true,List.any_eq_true]
 constructor
 ·rintro⟨i,hi,e⟩
  have hi:=List.mem_range.mp hi
  rw [List.getElem?_eq_getElem hi] at e
  exact⟨bs[i],List.getElem_mem hi,e⟩
 ·rintro⟨b,hb,e⟩
  obtain⟨i,hi,rfl⟩:=List.mem_iff_getElem.mp hb
  exact⟨i,List.mem_range.mpr hi,by rw [List.getElem?_eq_getElem hi];exact e⟩
theorem Rk {X:Cx} (hc:X.calm=true):jY X (.builtin "any") (fun xs H Q=>∃(p:Addr) (bs:List Bool),xs=[.ref p]/\bF X.K H p (bs.map V.bl)/\Q (.bl (bs.any id)) H):=by
 intro pins s σ H xs us Q I r h
 obtain⟨p,bs,rfl,hq,q⟩:=h
 obtain⟨u,rfl,rx⟩:=vals1 r
 cases rx
 obtain⟨its,rv,pl,_⟩:=I.list hq
 have hl:=pl.isList
 have hlt:p <s.heap.objs.size:=by obtain⟨_,e,_⟩:=hl;exact Heap.lt_size e
 have hb:∀i v,its[i]?=some v->∃b,bs[i]?=some b/\v=Value.bool b:=fun i v e=>by
  have hi:i <its.length:=(List.getElem?_eq_some_iff.mp e).1
  have hi':i <bs.length:=by have:=rv.length;rw [List.length_map] at this;omega
  obtain⟨u,e',r'⟩:=rv.get (i:=i) (x:=.bl bs[i]) (by rw [List.getElem?_map,List.getElem?_eq_getElem hi'];rfl)
  rw [e] at e'
  cases e'
  exact⟨bs[i],List.getElem?_eq_getElem hi',r'⟩
 refine call_any_walk (wpAny_pyIter_list hl ?_)
 refine⟨s.heap.objs.size,[s.heap.objs.size,p],[s.heap.objs.size],its.toArray.size,_,_,fun i=>(bs[i]?).getD true,rfl,Walks.list (A:=X.A.in1) (I.ok.hd hc) _ p (Nat.ne_of_lt hlt) its.toArray,
  ⟨⟨_,Heap.get?_push_size _ rfl,rfl,rfl⟩,hl.push _⟩,fun i v s' Q' E' hP hQ=>?_,fun h' tk hk=>?_⟩
 ·obtain⟨b,e,rfl⟩:=hb i v (by simpa using hP)
  simp only [e,Option.getD_some] at hQ
  exact wpAny_truthy_bool hQ
 ·have e:((List.range its.toArray.size).any fun i=>(bs[i]?).getD true)=bs.any id:=by
   have hlen:=rv.length
   rw [List.length_map] at hlen
   rw [List.size_toArray,<-hlen];exact range_any bs
  rw [e]
  exact⟨.bl _,H,I.kept (LSm.kept_iter hk),rfl,q⟩
theorem Wc:bootBuiltins "any" =some (.builtin "any"):=by decide +kernel
end L2
namespace One
open PySem PySem.W PySem.Calls PyProof.Rows
def FW:Nat->BT->List Obj->BT
 | _,t,[]=>t
 | n,t,o:: r=>FW (n+1) (t.ins n o) r
def HW:Nat->BT->List Obj->Bool
 | _,_,[]=>true
 | n,t,o:: r=>((t.ins n o).get n).isSome && HW (n+1) (t.ins n o) r
theorem Fw {life:Life}:∀(l:List Obj) (n:Nat) (t:BT) (as:List Obj),absHeap t n life=⟨as.toArray,life⟩->HW n t l=true->absHeap (FW n t l) (n+l.length) life=⟨(as ++ l).toArray,life⟩
 | [],n,t,as,h,_=>by simpa [FW] using h
 | o:: r,n,t,as,h,k=>by
  simp only [HW,Bool.and_eq_true] at k
  have e:=absHeap_ins (life:=life) k.1
  rw [h] at e
  have:=Fw r (n+1) (t.ins n o) (as ++ [o]) (by rw [e];simp [Heap.push]) k.2
  rw [List.append_assoc] at this
  rw [List.length_cons,show n+(r.length+1)=n+1+r.length by omega]
  exact this
def Yd (tb:String->Option Builtin) (p:Program) (w:World) (m:Nat) (an:Option Value):Nat->SharedT->Thread->Option (SharedT×Thread)
 | 0,s,t=>some (s,t)
 | n+1,s,t=>match through t with
  | true=>some (s,t)
  | false=>match stepOk m an t with
   | false=>none
   | true=>match stepT (denote tb) p w s t with
    | some (s',t')=>Yd tb p w m an n s' t'
    | none=>none
theorem Q7 {tb:String->Option Builtin} {p:Program} {w:World} {m:Nat} {an:Option Value}:∀{n:Nat} {s s':SharedT} {t t':Thread},Yd tb p w m an n s t=some (s',t')->through t'=true->topRun tb p w m an (n+1) s.abs t=some s'.abs
 | 0,s,s',t,t',h,z=>by
  obtain⟨rfl,rfl⟩:=Prod.mk.inj (Option.some.inj h)
  unfold topRun
  rw [z]
 | n+1,s,s',t,t',h,z=>by
  unfold Yd at h
  unfold topRun
  cases e1:through t with
  | true=>
   rw [e1] at h
   obtain⟨rfl,rfl⟩:=Prod.mk.inj (Option.some.inj h)
   rfl
  | false=>
   rw [e1] at h
   cases e2:stepOk m an t with
   | false=>rw [e2] at h;cases h
   | true=>
    rw [e2] at h
    cases e3:stepT (denote tb) p w s t with
    | none=>rw [e3] at h;cases h
    | some r=>
     obtain⟨s2,t2⟩:=r
     rw [e3] at h
     rw [stepT_spec e3]
     exact Q7 h z
def ends (r:SharedT×Thread):Option SharedT:=match through r.2 with
 | true=>some r.1
 | false=>none
theorem Uo {tb:String->Option Builtin} {p:Program} {w:World} {m:Nat} {an:Option Value} {n:Nat} {s s':SharedT} {t:Thread} (h:(Yd tb p w m an n s t).bind ends=some s'):topRun tb p w m an (n+1) s.abs t=some s'.abs:=by
 obtain⟨⟨s2,t2⟩,e1,e2⟩:=Option.bind_eq_some_iff.mp h
 unfold ends at e2
 cases z:through t2 with
 | false=>simp only [z] at e2;cases e2
 | true=>
  simp only [z] at e2
  cases e2
  exact Q7 e1 z
noncomputable def X7 (P:Params):Option Value:=(boot_heap P).nsMap mainGlobals "__annotations__"
noncomputable def S0 (w:World) (os:OsState):SharedT:=⟨FW 0 .nil (boot_heap w.params).objs.toList,11,{},Array.mk [],boot_drawn,boot_toks,os⟩
theorem WK (w:World) (os:OsState):(S0 w os).abs=⟨boot_heap w.params,Array.mk [],boot_drawn,boot_toks,os⟩:=by
 have e:=Fw (life:={}) (boot_heap w.params).objs.toList 0 .nil [] rfl (by rfl)
 have e2:absHeap (FW 0 .nil (boot_heap w.params).objs.toList) 11 {}=boot_heap w.params:=e
 show(⟨absHeap (FW 0 .nil (boot_heap w.params).objs.toList) 11 {},_,_,_,_⟩:Shared)=_
 rw [e2]
 rfl
noncomputable def WD (p:Program) (M:Nat) (w:World) (os:OsState):Option SharedT:=(Yd treeTable p w 11 (X7 w.params) M (S0 w os) (topStub p)).bind ends
noncomputable def Rx (p q:Program) (loose:List Str) (Xt:Shared->Bool) (M:Nat) (w:World) (os:OsState):=
 (WD p M w os).map fun s=>(staticsOk (importedModules p.main.body) (boot_heap w.params) s.abs.heap && namesBound p s.abs.heap && gensDone s.abs && laidKept (boot_heap w.params) s.abs.heap,openSeen q loose (importedModules p.main.body) Xt true s.abs)
theorem Te {p q:Program} {loose:List Str} {Xt:Shared->Bool} {α:Type} {Yf:Shared->α} {Ya:World->α} {N M:Nat} (e:opening p=plainProg p.main.scope.names) (hN:Nat.ble 600 N=true) (f:∀s,fenceModules? p s=some s) (le:Nat.ble (M+1) N=true)
  (A:∀w os,Rx p q loose Xt M w os=some (true,openGood q loose)) (B:∀w os,(WD p M w os).map (fun s=>Yf s.abs)=some (Ya w)):LeftO p q loose Xt Yf Ya N:=fun w=>by
 obtain⟨⟨h,gs,d,k,os⟩,e1,e2⟩:=Option.map_eq_some_iff.mp (boot_open e hN f w)
 obtain⟨rfl,rfl,rfl,rfl⟩:h=boot_heap w.params/\gs=Array.mk []/\d=boot_drawn/\k=boot_toks:=by simpa using e2
 obtain⟨s1,r1,l1⟩:=Option.map_eq_some_iff.mp (A w os)
 obtain⟨s2,r2,l2⟩:=Option.map_eq_some_iff.mp (B w os)
 rw [r1] at r2
 cases r2
 obtain⟨l3,l4⟩:=Prod.mk.inj l1
 have r3:=Uo r1
 rw [WK] at r3
 have r4:=topRun_mono (N - (M+1)) _ _ _ _ r3
 rw [show M+1+(N - (M+1))=N by have:=Nat.le_of_ble_eq_true le;omega] at r4
 have t:topFrom treeTable p w N ⟨boot_heap w.params,Array.mk [],boot_drawn,boot_toks,os⟩=some s1.abs:=by
  unfold topFrom
  have z1:((boot_heap w.params).isNs mainGlobals && (Array.mk []:Array GenState).size == 0)=true:=by kernel_rfl
  dsimp only
  rw [z1]
  show((topRun treeTable p w 11 (X7 w.params) N _ _).bind _)=_
  rw [r4]
  show(match staticsOk (importedModules p.main.body) (boot_heap w.params) s1.abs.heap && namesBound p s1.abs.heap && gensDone s1.abs && laidKept (boot_heap w.params) s1.abs.heap with | true=>_ | false=>_)=_
  rw [l3]
 unfold openEnds
 rw [e1]
 show(topFrom treeTable p w N _).map _=_
 rw [t]
 exact congrArg some (Prod.ext l4 l2)
def yH (s:SharedT) (a:Addr):Option Obj:=match Nat.blt a s.n with
 | true=>(match s.tree.get a with | some o=>alive o | none=>none)
 | false=>none
theorem SN {s:SharedT} {a:Addr} {o:Obj} (h:yH s a=some o):s.abs.heap.get? a=some o:=by
 unfold yH at h
 cases e:Nat.blt a s.n with
 | false=>rw [e] at h;cases h
 | true=>
  rw [e] at h
  cases g:s.tree.get a with
  | none=>rw [g] at h;cases h
  | some x=>
   rw [g] at h
   exact(abs_get (Nat.le_of_ble_eq_true e) g).trans h
theorem Og {s:SharedT}:∀{as:List Addr} {l:List (Addr×Obj)},as.map (yH s)=l.map (fun p=>some p.2)->as.map s.abs.heap.get?=l.map fun p=>some p.2
 | [],[],_=>rfl
 | [],_:: _,h=>by cases h
 | _:: _,[],h=>by cases h
 | a:: as,x:: l,h=>by
  have h1:=List.cons.inj h
  show s.abs.heap.get? a:: as.map _=_
  rw [SN h1.1,Og h1.2]
  rfl
theorem chunk {o:Option SharedT} {as:List Addr} {l:List (Addr×Obj)} (n:Nat) (h1:o.map (fun s=>(as.take n).map (yH s))=some ((l.take n).map fun p=>some p.2)) (h2:o.map (fun s=>(as.drop n).map (yH s))=some ((l.drop n).map fun p=>some p.2)):
  o.map (fun s=>as.map (yH s))=some (l.map fun p=>some p.2):=by
 obtain⟨s,e1,e2⟩:=Option.map_eq_some_iff.mp h1
 subst e1
 have e3:=Option.some.inj h2
 show some (as.map (yH s))=_
 rw [<-List.take_append_drop n as,<-List.take_append_drop n l,List.map_append,List.map_append]
 exact congrArg some (congr (congrArg _ e2) e3)
theorem Tn {o:Option SharedT} {w:World} {K:Params->Frag} {as:List Addr} {e:∀P,as=(K P).map (·.1)} (h:o.map (fun s=>as.map (yH s))=some ((K w.params).map fun p=>some p.2)):
  o.map (fun s=>Hook.obs (kHook K as e) s.abs)=some (Hook.val (kHook K as e) w):=by
 obtain⟨s,h1,h2⟩:=Option.map_eq_some_iff.mp h
 rw [h1]
 exact congrArg some (Og h2)
end One
namespace HD
open PySem PySem.W PySem.Calls PyProof.Rows
abbrev rr:OpenRow:=OpenLaw.row PySem.Challenge.rw_holdlane_k52_rings_of_waits
def q:Program:=view PySem.Challenge.pw_holdlane_k52_rings_of_waits [90]
def loose:List PySem.Str:=(["_wall", "gone_round", "wait_of", "waits_of", "leads_to", "ring_of_waits", "from_first", "stopped", "LaneError", "TooMany", "NoKind", "BadName", "Doubled", "NoSuch", "BadNumbers", "BadLanes"]:List PySem.Str) ++ (["BadRoom", "Open", "Loose", "BadRow", "VALUES", "FIGURES", "LETTERS", "LONGEST_NAME", "is_whole", "is_value", "is_name", "rest", "COUNTS", "Part", "Give", "Take"]:List PySem.Str) ++ (["Pass", "Copy", "Turn", "Heap", "Add", "Less", "Order", "Choose", "Split", "is_kind", "need_fit", "made_of", "part_made", "MOST_LANES", "MOST_PARTS", "MOST_ROOM"]:List PySem.Str) ++ (["need_counts", "need_fresh", "need_lane", "fresh_part", "tie_lanes", "need_ends", "joined_with", "need_joined", "Net", "Flow", "LONGEST_ROW", "is_row", "need_rows", "Run", "_law_cell", "_law_mix"]:List PySem.Str) ++ (["_law_value", "_law_word", "_law_lane", "_law_part", "_law_pick", "_law_two", "_law_loop", "_law_step", "_law_closed", "_law_net", "_law_rows", "_law_held", "_law_leads", "_law_met", "_law_due", "_law_right"]:List PySem.Str)
def Xt (s:Shared):Bool:=xlAt q [] s && recOk (RowW.records (OpenRow.toRowW (OpenLaw.row PySem.Challenge.rw_holdlane_k52_rings_of_waits))) s
structure KA where
 K:Params->Frag
 as:List Addr
def pickK {r:OpenRow} {K:Params->Frag} {as:List Addr} (_:(∀H:Hook,(∃e,H=kHook K as e)->r.Holds)->r.Holds):KA:=⟨K,as⟩
local macro_rules | `(tactic| o_head $H)=>`(tactic| (rename_i hh;exact hh $H ⟨_,rfl⟩))
noncomputable def ka:KA:=pickK (r:=rr) (fun _=>by k_head)
theorem Tg (P:Params):KA.as ka=(ka.heap_1 P).map (·.1):=by kernel_rfl
noncomputable def runC:World->OsState->Option SharedT:=fun w os=>One.WD PySem.Challenge.pw_holdlane_k52_rings_of_waits 14060 w os
noncomputable def Jj:=fun(w:World) (os:OsState)=>One.Rx PySem.Challenge.pw_holdlane_k52_rings_of_waits q loose Xt 14060 w os
noncomputable def Nu:=some (true,openGood q loose)
theorem Wy:runC=runC:=rfl
name_quick runQ for HD.runC by HD.Wy
theorem QJ:Jj=Jj:=rfl
name_quick looksQ for HD.Jj by HD.QJ
theorem UL:Nu=Nu:=rfl
name_quick goodQ for HD.Nu by HD.UL
theorem A0 (w:World) (os:OsState):PySem.W.Fast.looksQ (w.withFollow "special-get-raises" false) os=PySem.W.Fast.goodQ:=by kernel_rfl
theorem Zf (w:World) (os:OsState):(PySem.W.Fast.runQ (w.withFollow "special-get-raises" false) os).map (fun s=>(KA.as ka).map (One.yH s))=some ((ka.heap_1 (w.withFollow "special-get-raises" false).params).map fun p=>some p.2):=by kernel_rfl
theorem B0 (w:World) (os:OsState):(PySem.W.Fast.runQ (w.withFollow "special-get-raises" false) os).map (fun s=>(KA.as ka).map (One.yH s))=some ((ka.heap_1 (w.withFollow "special-get-raises" false).params).map fun p=>some p.2):=Zf w os
theorem A1 (w:World) (os:OsState):PySem.W.Fast.looksQ (w.withFollow "special-get-raises" true) os=PySem.W.Fast.goodQ:=by kernel_rfl
theorem Zy (w:World) (os:OsState):(PySem.W.Fast.runQ (w.withFollow "special-get-raises" true) os).map (fun s=>(KA.as ka).map (One.yH s))=some ((ka.heap_1 (w.withFollow "special-get-raises" true).params).map fun p=>some p.2):=by kernel_rfl
theorem B1 (w:World) (os:OsState):(PySem.W.Fast.runQ (w.withFollow "special-get-raises" true) os).map (fun s=>(KA.as ka).map (One.yH s))=some ((ka.heap_1 (w.withFollow "special-get-raises" true).params).map fun p=>some p.2):=Zy w os
theorem A (w:World):∀os,Jj w os=Nu:=by
 rw [PySem.W.Fast.looksQ_eq,PySem.W.Fast.goodQ_eq]
 exact byRow2 "special-get-raises" (P:=fun w=>∀os,PySem.W.Fast.looksQ w os=PySem.W.Fast.goodQ) A0 A1 w
theorem B (w:World):∀os,(runC w os).map (fun s=>(KA.as ka).map (One.yH s))=some ((ka.heap_1 w.params).map fun p=>some p.2):=by
 rw [PySem.W.Fast.runQ_eq]
 exact byRow2 "special-get-raises" (P:=fun w=>∀os,(PySem.W.Fast.runQ w os).map (fun s=>(KA.as ka).map (One.yH s))=some ((ka.heap_1 w.params).map fun p=>some p.2)) B0 B1 w
theorem head {d:DefRec} {kwd:List (PySem.Str×Expr)}
  (hdef:defOf q rr.name=some (d,kwd)) (hp:rr.prog.theDef rr.name=some (d.params,d.body,d.scope)) (hk:kwWritten? d.params.kwonlyargs d.params.kw_defaults=some kwd) (hwr:(!rr.writes || rr.records.isEmpty)=true)
  (k1:rr.wellSaid=true) (ok:(chainsOk q && opensWell rr.prog && (frees rr.toRowW && rr.within.isEmpty))=true) (hb:rr.prog.bare) (ho:opening PySem.Challenge.pw_holdlane_k52_rings_of_waits=plainProg (PySem.Challenge.pw_holdlane_k52_rings_of_waits).main.scope.names) (f:∀s,fenceModules? PySem.Challenge.pw_holdlane_k52_rings_of_waits s=some s)
  (hw:rr.toRowW.promised) (hc:WalkO q loose (XL q []) (Hook.says (kHook ka.heap_1 (KA.as ka) Tg)) rr.toRowW d kwd fun f vs=>PySem.call f vs):rr.Holds:=by
 have left:LeftO PySem.Challenge.pw_holdlane_k52_rings_of_waits q loose Xt (Hook.obs (kHook ka.heap_1 (KA.as ka) Tg)) (Hook.val (kHook ka.heap_1 (KA.as ka) Tg)) 28700:=One.Te (M:=14060) ho rfl f rfl A fun w os=>One.Tn (B w os)
 exact holds_open (XP:=XL q []) (YP:=Hook.says (kHook ka.heap_1 (KA.as ka) Tg)) left (Hook.of _) (Hook.keeps _) (fun s z=>xl_of s (Bool.and_eq_true_iff.mp z).1) XL.keeps hdef hp hk (fun s z=>recFacts_of (Bool.and_eq_true_iff.mp z).2) hwr k1 ok hb hw hc
end HD
namespace K52
open PySem L2
theorem lM {α β:Type} {f:α->β} {l:List α}:(l.map f).length=l.length:=List.length_map ..
theorem lP {α:Type} {l m:List α}:(l ++ m).length=l.length+m.length:=List.length_append ..
theorem iu {n:Nat} (h:Nat.ble n 16777216=true:=by rfl):n<=sizeLine:=by rw [sizeLine_eq];exact Nat.le_of_ble_eq_true h
noncomputable def top (i:Nat):Stmt:=PySem.Challenge.pw_holdlane_k52_rings_of_waits.main.body.getD i (.Pass ⟨0,0,0,0⟩)
set_option genInjectivity false in
structure jy where
 (Ek Ei bO ut uy tK tX tY uL wM uU rW qt rA Fq Eb GX Aq Qg cC lZ cG cY rE qi qu p7 qy rN qx oY lV oR qg qe Cg z7 yc Ay zM zR zX DY Ab zK wA BP Gb vZ yx Aw xV Bb z8 wB wg j5 j6 jh tV uK iM p8 o7 oZ oM qj oK rH uq jZ rB o8 uD zu lY mz lX nj j7 xg JD Aa n6 Fy Dl yh Dk xK sX GP Aj zU yo Cz BL yO VF K4 K3 Ky K9 KC Ln Qj K6 Hh Ec Jb dF bY oV yw:Addr)
noncomputable abbrev ROWS:List (Str×List Int):=[("give",[0,0,1]),("take",[0,1,0]),("pass",[0,1,1]),("copy",[0,1,2]),("turn",[2,1,1]),("heap",[1,1,1]),("add",[0,2,1]),("less",[0,2,1]),("order",[0,2,2]),("choose",[0,3,1]),("split",[0,2,2])]
structure Txt (w:World) (K:PySem.W.Frag) (mg:Str->Option Value) (t:jy):Prop where
 iR:Jm K mg "Give" t.K4 [("__init__",t.bO),("kind",t.ut),("taking",t.cC),("lacks",t.cG),("worked",t.qg),("start",t.cY)] ["name", "numbers", "ins", "outs"]
 iC:Jm K mg "Take" t.K3 [("__init__",t.bO),("kind",t.uy),("taking",t.cC),("lacks",t.cG),("worked",t.qe),("start",t.cY)] ["name", "numbers", "ins", "outs"]
 iH:Jm K mg "Pass" t.Ky [("__init__",t.bO),("kind",t.tK),("taking",t.cC),("lacks",t.cG),("worked",t.qi),("start",t.cY)] ["name", "numbers", "ins", "outs"]
 iD:Jm K mg "Copy" t.K9 [("__init__",t.bO),("kind",t.tX),("taking",t.cC),("lacks",t.cG),("worked",t.qu),("start",t.cY)] ["name", "numbers", "ins", "outs"]
 iK:Jm K mg "Turn" t.KC [("__init__",t.bO),("kind",t.tY),("taking",t.cC),("lacks",t.cG),("worked",t.p7),("start",t.cY)] ["name", "numbers", "ins", "outs"]
 iB:Jm K mg "Heap" t.Ln [("__init__",t.bO),("kind",t.uL),("taking",t.cC),("lacks",t.cG),("worked",t.qy),("start",t.rE)] ["name", "numbers", "ins", "outs"]
 lE:Jm K mg "Add" t.Qj [("__init__",t.bO),("kind",t.wM),("taking",t.cC),("lacks",t.cG),("worked",t.rN),("start",t.cY)] ["name", "numbers", "ins", "outs"]
 iJ:Jm K mg "Less" t.K6 [("__init__",t.bO),("kind",t.uU),("taking",t.cC),("lacks",t.cG),("worked",t.qx),("start",t.cY)] ["name", "numbers", "ins", "outs"]
 fK:Jm K mg "Order" t.Hh [("__init__",t.bO),("kind",t.rW),("taking",t.cC),("lacks",t.cG),("worked",t.oY),("start",t.cY)] ["name", "numbers", "ins", "outs"]
 dY:Jm K mg "Choose" t.Ec [("__init__",t.bO),("kind",t.qt),("taking",t.lZ),("lacks",t.cG),("worked",t.lV),("start",t.cY)] ["name", "numbers", "ins", "outs"]
 fO:Jm K mg "Split" t.Jb [("__init__",t.bO),("kind",t.rA),("taking",t.cC),("lacks",t.cG),("worked",t.oR),("start",t.cY)] ["name", "numbers", "ins", "outs"]
 aQ:Jm K mg "Net" t.dF [("__init__",t.oK),("lane_names",t.j5),("part_names",t.j6),("names_of_kind",t.jh),("gives",t.tV),("takes",t.uK),("need_lane_name",t.iM),("room_of",t.p8),("first_of",t.o7),("giver_of",t.oZ),("taker_of",t.oM),("part_of",t.qj)] ["rooms", "firsts", "parts", "givers", "takers"]
 aU:Jm K mg "Flow" t.bY [("__init__",t.lY),("holds",t.rH),("head",t.uq),("row_ended",t.jZ),("heads",t.rB),("lacking",t.o8),("deed",t.uD),("do",t.zu)] ["net", "ever", "gone", "kept", "done", "rows"]
 bW:Jm K mg "Run" t.oV [("__init__",t.n6),("full_lane",t.mz),("next_deed",t.lX),("need_doors",t.j7),("step",t.xg),("can_work",t.nj)] ["net", "flow", "turns"]
 rP:lN K mg "is_whole" (top 28) t.Ek ["thing"]
 nW:lN K mg "is_value" (top 29) t.Ei ["thing"]
 bc:dX K "__init__" "Part.__init__" (inClass (top 34) 0) t.bO ["self", "name", "numbers", "ins", "outs"]
 pW:dX K "kind" "Give.kind" (inClass (top 35) 0) t.ut ["self"]
 pQ:dX K "kind" "Take.kind" (inClass (top 36) 0) t.uy ["self"]
 pG:dX K "kind" "Pass.kind" (inClass (top 37) 0) t.tK ["self"]
 pB:dX K "kind" "Copy.kind" (inClass (top 38) 0) t.tX ["self"]
 pH:dX K "kind" "Turn.kind" (inClass (top 39) 0) t.tY ["self"]
 pM:dX K "kind" "Heap.kind" (inClass (top 40) 0) t.uL ["self"]
 rZ:dX K "kind" "Add.kind" (inClass (top 41) 0) t.wM ["self"]
 pK:dX K "kind" "Less.kind" (inClass (top 42) 0) t.uU ["self"]
 mH:dX K "kind" "Order.kind" (inClass (top 43) 0) t.rW ["self"]
 km:dX K "kind" "Choose.kind" (inClass (top 44) 0) t.qt ["self"]
 mJ:dX K "kind" "Split.kind" (inClass (top 45) 0) t.rA ["self"]
 uZ:lN K mg "is_kind" (top 46) t.Fq ["word"]
 wN:lN K mg "need_fit" (top 47) t.Eb ["kind", "name", "numbers", "ins", "outs"]
 GD:lN K mg "made_of" (top 48) t.GX ["kind", "name", "numbers", "ins", "outs"]
 zL:lN K mg "part_made" (top 49) t.Aq ["kind", "name", "numbers", "ins", "outs"]
 Do:lN K mg "rest" (top 31) t.Qg ["number"]
 bA:dX K "taking" "Part.taking" (inClass (top 34) 4) t.cC ["self", "heads"]
 jr:dX K "taking" "Choose.taking" (inClass (top 44) 1) t.lZ ["self", "heads"]
 bD:dX K "lacks" "Part.lacks" (inClass (top 34) 3) t.cG ["self", "heads"]
 bH:dX K "start" "Part.start" (inClass (top 34) 2) t.cY ["self"]
 mU:dX K "start" "Heap.start" (inClass (top 40) 1) t.rE ["self"]
 kO:dX K "worked" "Pass.worked" (inClass (top 37) 1) t.qi ["self", "values", "kept"]
 kJ:dX K "worked" "Copy.worked" (inClass (top 38) 1) t.qu ["self", "values", "kept"]
 kh:dX K "worked" "Turn.worked" (inClass (top 39) 1) t.p7 ["self", "values", "kept"]
 kI:dX K "worked" "Heap.worked" (inClass (top 40) 2) t.qy ["self", "values", "kept"]
 mF:dX K "worked" "Add.worked" (inClass (top 41) 1) t.rN ["self", "values", "kept"]
 kZ:dX K "worked" "Less.worked" (inClass (top 42) 1) t.qx ["self", "values", "kept"]
 jG:dX K "worked" "Order.worked" (inClass (top 43) 1) t.oY ["self", "values", "kept"]
 jq:dX K "worked" "Choose.worked" (inClass (top 44) 2) t.lV ["self", "values", "kept"]
 jO:dX K "worked" "Split.worked" (inClass (top 45) 1) t.oR ["self", "values", "kept"]
 lg:dX K "worked" "Give.worked" (inClass (top 35) 1) t.qg ["self", "values", "kept"]
 lu:dX K "worked" "Take.worked" (inClass (top 36) 1) t.qe ["self", "values", "kept"]
 bf:lN K mg "_law_mix" (top 73) t.Cg ["_law_cell_here", "_law_k"]
 gB:lN K mg "_law_cell" (top 72) t.z7 ["_law_script", "_law_k"]
 fJ:lN K mg "_law_value" (top 74) t.yc ["_law_cell_here", "_law_k"]
 jB:lN K mg "_law_word" (top 75) t.Ay ["_law_cell_here", "_law_k"]
 iG:lN K mg "_law_lane" (top 76) t.zM ["_law_state", "_law_cell_here", "_law_back"]
 lF:lN K mg "_law_pick" (top 78) t.zR ["_law_state", "_law_number"]
 cB:lN K mg "_law_part" (top 77) t.zX ["_law_state", "_law_cell_here", "_law_kind", "_law_numbers", "_law_ins", "_law_many"]
 xm:lN K mg "_law_two" (top 79) t.DY ["_law_state", "_law_cell_here", "_law_one", "_law_odd"]
 uH:lN K mg "_law_loop" (top 80) t.Ab ["_law_state", "_law_cell_here", "_law_one"]
 ur:lN K mg "_law_step" (top 81) t.zK ["_law_state", "_law_cell_here", "_law_odd"]
 qz:lN K mg "_law_closed" (top 82) t.wA ["_law_state", "_law_cell_here", "_law_back"]
 wZ:lN K mg "_law_net" (top 83) t.BP ["_law_script", "_law_start", "_law_steps", "_law_odd"]
 yV:lN K mg "is_name" (top 30) t.Gb ["thing"]
 qb:lN K mg "need_counts" (top 54) t.vZ ["lanes", "parts"]
 mL:lN K mg "need_fresh" (top 55) t.yx ["name", "known"]
 uN:lN K mg "need_lane" (top 56) t.Aw ["name", "room", "first"]
 su:lN K mg "fresh_part" (top 57) t.xV ["row", "known"]
 pF:lN K mg "tie_lanes" (top 58) t.Bb ["part", "lanes", "rooms", "ends"]
 uI:lN K mg "need_ends" (top 59) t.z8 ["rooms", "givers", "takers"]
 ql:lN K mg "joined_with" (top 60) t.wB ["part", "givers", "takers"]
 qw:lN K mg "need_joined" (top 61) t.wg ["names", "givers", "takers"]
 iW:dX K "lane_names" "Net.lane_names" (inClass (top 62) 1) t.j5 ["self"]
 cD:dX K "part_names" "Net.part_names" (inClass (top 62) 2) t.j6 ["self"]
 fZ:dX K "names_of_kind" "Net.names_of_kind" (inClass (top 62) 5) t.jh ["self", "kind"]
 lG:dX K "gives" "Net.gives" (inClass (top 62) 3) t.tV ["self"]
 ud:dX K "takes" "Net.takes" (inClass (top 62) 4) t.uK ["self"]
 dj:dX K "need_lane_name" "Net.need_lane_name" (inClass (top 62) 12) t.iM ["self", "name"]
 qp:dX K "room_of" "Net.room_of" (inClass (top 62) 7) t.p8 ["self", "name"]
 oX:dX K "first_of" "Net.first_of" (inClass (top 62) 8) t.o7 ["self", "name"]
 oJ:dX K "giver_of" "Net.giver_of" (inClass (top 62) 9) t.oZ ["self", "name"]
 oU:dX K "taker_of" "Net.taker_of" (inClass (top 62) 10) t.oM ["self", "name"]
 jj:dX K "part_of" "Net.part_of" (inClass (top 62) 11) t.qj ["self", "name"]
 jR:dX K "__init__" "Net.__init__" (inClass (top 62) 0) t.oK ["self", "lanes", "parts"]
 mG:dX K "holds" "Flow.holds" (inClass (top 64) 1) t.rH ["self", "lane"]
 uB:dX K "head" "Flow.head" (inClass (top 64) 5) t.uq ["self", "lane"]
 je:dX K "row_ended" "Flow.row_ended" (inClass (top 64) 8) t.jZ ["self", "name"]
 mK:dX K "heads" "Flow.heads" (inClass (top 64) 6) t.rB ["self", "part"]
 jN:dX K "lacking" "Flow.lacking" (inClass (top 64) 7) t.o8 ["self", "name"]
 pI:dX K "deed" "Flow.deed" (inClass (top 64) 9) t.uD ["self", "name"]
 zc:dX K "do" "Flow.do" (inClass (top 64) 10) t.zu ["self", "name", "deed"]
 jw:dX K "__init__" "Flow.__init__" (inClass (top 64) 0) t.lY ["self", "net", "rows"]
 ju:dX K "full_lane" "Run.full_lane" (inClass (top 70) 4) t.mz ["self", "deed"]
 jn:dX K "next_deed" "Run.next_deed" (inClass (top 70) 3) t.lX ["self", "name"]
 oE:dX K "can_work" "Run.can_work" (inClass (top 70) 5) t.nj ["self", "name"]
 j4:dX K "need_doors" "Run.need_doors" (inClass (top 70) 2) t.j7 ["self", "names"]
 xf:Xi K "step" "Run.step" (inClass (top 70) 1) t.xg ["self", "held"]
 Cy:lN K mg "is_row" (top 67) t.JD ["thing"]
 uF:lN K mg "need_rows" (top 68) t.Aa ["net", "rows"]
 jQ:dX K "__init__" "Run.__init__" (inClass (top 70) 0) t.n6 ["self", "net", "rows"]
 zA:lN K mg "wait_of" (top 4) t.Fy ["run", "name"]
 rG:lN K mg "waits_of" (top 5) t.Dl ["run"]
 rC:lN K mg "gone_round" (top 2) t.yh ["start", "leads"]
 rm:lN K mg "leads_to" (top 6) t.Dk ["net", "wait"]
 qY:lN K mg "from_first" (top 8) t.xK ["ring", "names"]
 jo:lN K mg "ring_of_waits" (top 7) t.sX ["run"]
 zq:lN K mg "stopped" (top 9) t.GP ["run"]
 uc:lN K mg "_law_rows" (top 84) t.Aj ["_law_script", "_law_parts", "_law_start"]
 uo:lN K mg "_law_held" (top 85) t.zU ["_law_parts", "_law_cell_here"]
 mV:lN K mg "_law_leads" (top 86) t.yo ["_law_parts", "_law_wait"]
 wO:lN K mg "_law_met" (top 87) t.Cz ["_law_parts", "_law_waits", "_law_name"]
 rT:lN K mg "_law_due" (top 88) t.BL ["_law_parts", "_law_some"]
 mX:lN K mg "_law_right" (top 89) t.yO ["_law_run", "_law_net_one", "_law_parts"]
 NK:lN K mg "law" (top 90) t.VF ["_law_script"]
 GF:mg "COUNTS" =some (.ref t.yw)
 JW:KTab w K t.yw ROWS
 Oc:mg "all" =none
 YJ:mg "any" =none
 QX:mg "bool" =none
 W0:mg "dict" =none
 YC:mg "int" =none
 iZ:mg "isinstance" =none
 fB:mg "len" =none
 um:mg "list" =none
 QT:mg "max" =none
 Xy:mg "min" =none
 j9:mg "range" =none
 Vp:mg "str" =none
 Bx:mg "tuple" =none
 Ks:∃u,mg "VALUES" =some u/\RelV (.int 1000000000) u
 Gh:∃u,mg "LETTERS" =some u/\RelV (.str "abcdefghijklmnopqrstuvwxyz") u
 Du:∃u,mg "LONGEST_NAME" =some u/\RelV (.int 8) u
 Oz:∃u,mg "FIGURES" =some u/\RelV (.str "0123456789") u
 Hm:∃u,mg "MOST_LANES" =some u/\RelV (.int 24) u
 Hd:∃u,mg "MOST_PARTS" =some u/\RelV (.int 16) u
 J7:∃u,mg "MOST_ROOM" =some u/\RelV (.int 199) u
 Ez:∃u,mg "LONGEST_ROW" =some u/\RelV (.int 300) u
section
variable {P:Program} {w:World} {K:PySem.W.Frag} {mg:Str->Option Value} {base:Heap} {t:jy}
noncomputable def eG (i:Nat):Str:=match i with
 | 0=> "give"
 | 1=> "take"
 | 2=> "pass"
 | 3=> "copy"
 | 4=> "turn"
 | 5=> "heap"
 | 6=> "add"
 | 7=> "less"
 | 8=> "order"
 | 9=> "choose"
 | _=> "split"
noncomputable def cN (i:Nat):Nat:=match i with
 | 0=>0
 | 1=>0
 | 2=>0
 | 3=>0
 | 4=>2
 | 5=>1
 | 6=>0
 | 7=>0
 | 8=>0
 | 9=>0
 | _=>0
noncomputable def cI (i:Nat):Nat:=match i with
 | 0=>0
 | 1=>1
 | 2=>1
 | 3=>1
 | 4=>1
 | 5=>1
 | 6=>2
 | 7=>2
 | 8=>2
 | 9=>3
 | _=>2
noncomputable def cO (i:Nat):Nat:=match i with
 | 0=>1
 | 1=>0
 | 2=>1
 | 3=>2
 | 4=>1
 | 5=>1
 | 6=>1
 | 7=>1
 | 8=>2
 | 9=>1
 | _=>2
noncomputable def cls (t:jy) (i:Nat):Addr:=match i with
 | 0=>t.K4
 | 1=>t.K3
 | 2=>t.Ky
 | 3=>t.K9
 | 4=>t.KC
 | 5=>t.Ln
 | 6=>t.Qj
 | 7=>t.K6
 | 8=>t.Hh
 | 9=>t.Ec
 | _=>t.Jb
theorem row_of (i:Nat):rowOf ROWS (eG i)=some [((cN i:Nat):Int),((cI i:Nat):Int),((cO i:Nat):Int)]:=match i with
 | 0=>by show rowOf ROWS "give" =some [0,0,1];decide +kernel
 | 1=>by show rowOf ROWS "take" =some [0,1,0];decide +kernel
 | 2=>by show rowOf ROWS "pass" =some [0,1,1];decide +kernel
 | 3=>by show rowOf ROWS "copy" =some [0,1,2];decide +kernel
 | 4=>by show rowOf ROWS "turn" =some [2,1,1];decide +kernel
 | 5=>by show rowOf ROWS "heap" =some [1,1,1];decide +kernel
 | 6=>by show rowOf ROWS "add" =some [0,2,1];decide +kernel
 | 7=>by show rowOf ROWS "less" =some [0,2,1];decide +kernel
 | 8=>by show rowOf ROWS "order" =some [0,2,2];decide +kernel
 | 9=>by show rowOf ROWS "choose" =some [0,3,1];decide +kernel
 | n+10=>by show rowOf ROWS "split" =some [0,2,2];decide +kernel
theorem iz (T:Txt w K mg t) (i:Nat):Py K (cls t i):=match i with
 | 0=>T.iR.c
 | 1=>T.iC.c
 | 2=>T.iH.c
 | 3=>T.iD.c
 | 4=>T.iK.c
 | 5=>T.iB.c
 | 6=>T.lE.c
 | 7=>T.iJ.c
 | 8=>T.fK.c
 | 9=>T.dY.c
 | n+10=>T.fO.c
theorem By (T:Txt w K mg t) (i:Nat):nH K (cls t i) "name" :=match i with
 | 0=>T.iR.na.1
 | 1=>T.iC.na.1
 | 2=>T.iH.na.1
 | 3=>T.iD.na.1
 | 4=>T.iK.na.1
 | 5=>T.iB.na.1
 | 6=>T.lE.na.1
 | 7=>T.iJ.na.1
 | 8=>T.fK.na.1
 | 9=>T.dY.na.1
 | n+10=>T.fO.na.1
theorem rn (T:Txt w K mg t) (i:Nat):nH K (cls t i) "numbers" :=match i with
 | 0=>T.iR.na.2.1
 | 1=>T.iC.na.2.1
 | 2=>T.iH.na.2.1
 | 3=>T.iD.na.2.1
 | 4=>T.iK.na.2.1
 | 5=>T.iB.na.2.1
 | 6=>T.lE.na.2.1
 | 7=>T.iJ.na.2.1
 | 8=>T.fK.na.2.1
 | 9=>T.dY.na.2.1
 | n+10=>T.fO.na.2.1
theorem zf (T:Txt w K mg t) (i:Nat):nH K (cls t i) "ins" :=match i with
 | 0=>T.iR.na.2.2.1
 | 1=>T.iC.na.2.2.1
 | 2=>T.iH.na.2.2.1
 | 3=>T.iD.na.2.2.1
 | 4=>T.iK.na.2.2.1
 | 5=>T.iB.na.2.2.1
 | 6=>T.lE.na.2.2.1
 | 7=>T.iJ.na.2.2.1
 | 8=>T.fK.na.2.2.1
 | 9=>T.dY.na.2.2.1
 | n+10=>T.fO.na.2.2.1
theorem Hs (T:Txt w K mg t) (i:Nat):nH K (cls t i) "outs" :=match i with
 | 0=>T.iR.na.2.2.2.1
 | 1=>T.iC.na.2.2.2.1
 | 2=>T.iH.na.2.2.2.1
 | 3=>T.iD.na.2.2.2.1
 | 4=>T.iK.na.2.2.2.1
 | 5=>T.iB.na.2.2.2.1
 | 6=>T.lE.na.2.2.2.1
 | 7=>T.iJ.na.2.2.2.1
 | 8=>T.fK.na.2.2.2.1
 | 9=>T.dY.na.2.2.2.1
 | n+10=>T.fO.na.2.2.2.1
theorem YD (i:Nat):cN i<=2:=match i with
 | 0=>by show 0<=2;decide
 | 1=>by show 0<=2;decide
 | 2=>by show 0<=2;decide
 | 3=>by show 0<=2;decide
 | 4=>by show 2<=2;decide
 | 5=>by show 1<=2;decide
 | 6=>by show 0<=2;decide
 | 7=>by show 0<=2;decide
 | 8=>by show 0<=2;decide
 | 9=>by show 0<=2;decide
 | n+10=>by show 0<=2;decide
theorem Gj (i:Nat):cI i<=3:=match i with
 | 0=>by show 0<=3;decide
 | 1=>by show 1<=3;decide
 | 2=>by show 1<=3;decide
 | 3=>by show 1<=3;decide
 | 4=>by show 1<=3;decide
 | 5=>by show 1<=3;decide
 | 6=>by show 2<=3;decide
 | 7=>by show 2<=3;decide
 | 8=>by show 2<=3;decide
 | 9=>by show 3<=3;decide
 | n+10=>by show 2<=3;decide
theorem Rf (i:Nat):cO i<=2:=match i with
 | 0=>by show 1<=2;decide
 | 1=>by show 0<=2;decide
 | 2=>by show 1<=2;decide
 | 3=>by show 2<=2;decide
 | 4=>by show 1<=2;decide
 | 5=>by show 1<=2;decide
 | 6=>by show 1<=2;decide
 | 7=>by show 1<=2;decide
 | 8=>by show 2<=2;decide
 | 9=>by show 1<=2;decide
 | n+10=>by show 2<=2;decide
theorem gO {f:Str} {y:V} {fs:List (Str×V)} {n:Nat} (h:fs.length<=n):(aH f y fs).length<=n+1:=Nat.le_trans (tH f y fs) (Nat.succ_le_succ h)
noncomputable def Ed (nm:V) (tn ti to:Addr):List (Str×V):=aH "outs" (.ref to) (aH "ins" (.ref ti) (aH "numbers" (.ref tn) (aH "name" nm [])))
theorem zx (nm:V) (tn ti to:Addr):(Ed nm tn ti to).lookup ("name" :Str)=some nm:=by
 unfold Ed
 rw [aC,if_neg (by decide +kernel),aC,if_neg (by decide +kernel),aC,if_neg (by decide +kernel),aC,if_pos rfl]
theorem rR (nm:V) (tn ti to:Addr):(Ed nm tn ti to).lookup ("numbers" :Str)=some (.ref tn):=by
 unfold Ed
 rw [aC,if_neg (by decide +kernel),aC,if_neg (by decide +kernel),aC,if_pos rfl]
theorem ug (nm:V) (tn ti to:Addr):(Ed nm tn ti to).lookup ("ins" :Str)=some (.ref ti):=by
 unfold Ed
 rw [aC,if_neg (by decide +kernel),aC,if_pos rfl]
theorem Gu (nm:V) (tn ti to:Addr):(Ed nm tn ti to).lookup ("outs" :Str)=some (.ref to):=by
 unfold Ed
 rw [aC,if_pos rfl]
theorem u0 (nm:V) (tn ti to:Addr) {m:Str} (h1:¬m= "outs") (h2:¬m= "ins") (h3:¬m= "numbers") (h4:¬m= "name"):(Ed nm tn ti to).lookup m=none:=by
 unfold Ed
 rw [aC,if_neg h1,aC,if_neg h2,aC,if_neg h3,aC,if_neg h4]
 all_goals rfl
structure fD (K:PySem.W.Frag) (t:jy) (H:Hp) (p:Addr) (i:Nat) (nm:V) (ns is os:List V):Prop where
 ex:∃dx tn ti to,H p=some (.ins (cls t i) dx (Ed nm tn ti to))/\eN K H tn ns/\eN K H ti is/\eN K H to os
theorem fD.same {H H':Hp} {p:Addr} {i:Nat} {nm:V} {ns is os:List V} (h:fD K t H p i nm ns is os) (s:aM H H'):fD K t H' p i nm ns is os:=by
 obtain⟨dx,tn,ti,to,h1,h2,h3,h4⟩:=h
 exact⟨dx,tn,ti,to,s _ _ h1,s.seqT h2,s.seqT h3,s.seqT h4⟩
noncomputable def iT (i:Nat):Sp:=fun vs H Q _=>∃x,vs=[x]/\Q (.str (eG i)) H
noncomputable def nV (j:Nat):V:=.int (j:Nat)
inductive Val (v:V):Prop where
 | mk:∀n:Int,v=.int n->0<=n->n <1000000000->Val v
inductive Flat:PyData->Prop
 | non:Flat .none
 | int (i:Int):Flat (.int i)
noncomputable def places (i:Nat) (hs:List V):List Nat:=if i=9 then(match hs with | .int n:: _=>[0,1+(n % 2).toNat] | _=>[0]) else List.range hs.length
noncomputable def yE (i:Nat) (hs:List V):Prop:=hs.length=cI i/\∀h∈hs,h=.non∨∃n:Int,h=.int n
noncomputable def vU (hs:List V) (q:Nat):Bool:=decide (hs[q]?=some V.non)
noncomputable def Ob (i:Nat) (hs:List V):V:=match (places i hs).find? (vU hs) with
 | some q=>nV q
 | none=>.non
theorem j0 {i:Nat} {hs:List V} (h:yE i hs):∀q∈places i hs,q <hs.length:=by
 intro q hq
 unfold places at hq
 by_cases hi:i=9
 ·rw [if_pos hi] at hq
  have hl:hs.length=3:=by rw [h.1,hi];rfl
  rw [hl]
  split at hq
  ·rename_i n r
   have h0:=Int.emod_nonneg n (show(2:Int)≠0 by decide)
   have h1:=Int.emod_lt_of_pos n (show(0:Int) <2 by decide)
   simp at hq
   omega
  ·simp at hq
   omega
 ·rw [if_neg hi] at hq
  simpa using hq
theorem Nj {f:Nat->Bool}:∀{l:List Nat} {j q:Nat},l[j]?=some q->(∀x∈l.take j,f x=false)->f q=true->l.find? f=some q
 | [],_,_,e,_,_=>by simp at e
 | x:: r,0,q,e,_,hq=>by
  simp at e
  subst e
  rw [List.find?_cons,hq]
 | x:: r,j+1,q,e,h,hq=>by
  have hx:f x=false:=h x (by simp)
  rw [List.find?_cons,hx]
  exact Nj (l:=r) (j:=j) (by simpa using e) (fun y hy=>h y (by simp [hy])) hq
theorem Ub {f:Nat->Bool} {l:List Nat} (h:∀x∈l,f x=false):l.find? f=none:=by
 rw [List.find?_eq_none]
 intro x hx
 rw [h x hx]
 decide
inductive m5 (K:PySem.W.Frag) (t:jy) (i:Nat) (vs:List V) (H:Hp) (Q:VK) (E:XK):Prop where
 | mk:∀(p a:Addr) (nm:V) (ns is os hs:List V),vs=[.ref p,.ref a]->fD K t H p i nm ns is os->is.length=cI i->bF K H a hs->yE i hs->(∀H' L,aM H H'->H L=none->H' L=some (.lst ((places i hs).map nV))->Q (.ref L) H')->m5 K t i vs H Q E
inductive xP (K:PySem.W.Frag) (t:jy) (i:Nat) (vs:List V) (H:Hp) (Q:VK) (E:XK):Prop where
 | mk:∀(p a:Addr) (nm:V) (ns is os hs:List V),vs=[.ref p,.ref a]->fD K t H p i nm ns is os->is.length=cI i->bF K H a hs->yE i hs->(∀H',aM H H'->Q (Ob i hs) H')->xP K t i vs H Q E
noncomputable def g0 (l:List Int):Int:=l.getD 0 0
noncomputable def g1 (l:List Int):Int:=l.getD 1 0
noncomputable def cV (i:Nat):Nat:=match i with
 | 0=>1
 | 1=>1
 | 2=>1
 | 3=>1
 | 4=>1
 | 5=>1
 | 6=>2
 | 7=>2
 | 8=>2
 | 9=>2
 | _=>2
noncomputable def cT (i:Nat) (ns ws:List Int) (kp:Int):List (Int×Int):=match i with
 | 0=>[(0,g0 ws)]
 | 1=>[]
 | 2=>[(0,g0 ws)]
 | 3=>[(0,g0 ws),(1,g0 ws)]
 | 4=>[(0,(g0 ns * g0 ws+g1 ns) % 1000000000)]
 | 5=>[(0,(kp+g0 ws) % 1000000000)]
 | 6=>[(0,(g0 ws+g1 ws) % 1000000000)]
 | 7=>[(0,if g0 ws <g1 ws then 1 else 0)]
 | 8=>[(0,if g1 ws <g0 ws then g1 ws else g0 ws),(1,if g1 ws <g0 ws then g0 ws else g1 ws)]
 | 9=>[(0,g1 ws)]
 | _=>[(g0 ws % 2,g1 ws)]
noncomputable def fV (i:Nat) (ws:List Int) (kp:Int):Int:=if i=5 then(kp+g0 ws) % 1000000000 else kp
noncomputable def Jo (ps:List (Int×Int)):List (List V):=ps.map fun p=>[.int p.1,.int p.2]
noncomputable def Xm (ws:List Int):Prop:=∀w∈ws,0<=w/\w <1000000000
inductive d7 (K:PySem.W.Frag) (t:jy) (i:Nat) (vs:List V) (H:Hp) (Q:VK) (E:XK):Prop where
 | mk:∀(p a:Addr) (nm:V) (ns:List Int) (is os:List V) (ws:List Int) (kp:Int),vs=[.ref p,.ref a,.int kp]->fD K t H p i nm (ns.map V.int) is os->ns.length=cN i->bF K H a (ws.map V.int)->ws.length=cV i->Xm ws->(∀H' U L rs,aM H H'->H L=none->H' U=some (.tup [.ref L,.int (fV i ws kp)])->H' L=some (.lst (rs.map V.ref))->cM H' rs (Jo (cT i ns ws kp))->Q (.ref U) H')->d7 K t i vs H Q E
theorem xN {H:Hp} {Q:VK} {a b x y:Int} (hx:x=a) (hy:y=b) (k:∀H' L rs,aM H H'->H L=none->H' L=some (.lst (rs.map V.ref))->cM H' rs (Jo [(a,b)])->Q (.ref L) H') {t0 L:Addr} (n0:H t0=none)
  (nL:(upd H t0 (.tup [.int x,.int y])) L=none):Q (.ref L) (upd (upd H t0 (.tup [.int x,.int y])) L (.lst [.ref t0])):=by
 subst hx hy
 have s0:=aB (o:=.tup [.int x,.int y]) n0
 have s1:=aB (o:=.lst [.ref t0]) nL
 exact k _ L [t0] (s0.trans s1) (s0.free nL) au (.cons (s1 _ _ au) .nil)
theorem VM {H:Hp} {Q:VK} {a b c d x y u v:Int} (hx:x=a) (hy:y=b) (hu:u=c) (hv:v=d) (k:∀H' L rs,aM H H'->H L=none->H' L=some (.lst (rs.map V.ref))->cM H' rs (Jo [(a,b),(c,d)])->Q (.ref L) H') {t0 t1 L:Addr} (n0:H t0=none)
  (n1:(upd H t0 (.tup [.int x,.int y])) t1=none) (nL:(upd (upd H t0 (.tup [.int x,.int y])) t1 (.tup [.int u,.int v])) L=none):Q (.ref L) (upd (upd (upd H t0 (.tup [.int x,.int y])) t1 (.tup [.int u,.int v])) L (.lst [.ref t0,.ref t1])):=by
 subst hx hy hu hv
 have s0:=aB (o:=.tup [.int x,.int y]) n0
 have s1:=aB (o:=.tup [.int u,.int v]) n1
 have s2:=aB (o:=.lst [.ref t0,.ref t1]) nL
 exact k _ L [t0,t1] (s0.trans (s1.trans s2)) (s0.free (s1.free nL)) au (.cons (s2 _ _ (s1 _ _ au)) (.cons (s2 _ _ au) .nil))
theorem BX {H:Hp} {Q:VK} {c:Int} {ps:List (Int×Int)} (k:∀H' U L rs,aM H H'->H L=none->H' U=some (.tup [.ref L,.int c])->H' L=some (.lst (rs.map V.ref))->cM H' rs (Jo ps)->Q (.ref U) H'):
  ∀H' L rs,aM H H'->H L=none->H' L=some (.lst (rs.map V.ref))->cM H' rs (Jo ps)->∀U,H' U=none->Q (.ref U) (upd H' U (.tup [.ref L,.int c])):=fun H' L rs s nL eL tL U nU=>
 have s2:=aB (o:=.tup [.ref L,.int c]) nU
 k _ U L rs (s.trans s2) nL au (s2 _ _ eL) (tL.same s2)
theorem dO:(2:Nat)<=sizeLine:=by decide
theorem one_le:(1:Nat)<=sizeLine:=by decide
theorem Zo {a b:Int} {ws:List Int} (h:Xm ws) (hb:b∈ws):IntMulOk a b:=.of_right (intBits_le_64 (by have:=(h b hb).1;omega) (by have:=(h b hb).2;omega))
noncomputable def Ht (i:Nat) (ns:List V):V:=if i=5 then ns.headD .non else .int 0
inductive uC (K:PySem.W.Frag) (t:jy) (i:Nat) (vs:List V) (H:Hp) (Q:VK) (E:XK):Prop where
 | mk:∀(p:Addr) (nm:V) (ns is os:List V),vs=[.ref p]->fD K t H p i nm ns is os->ns.length=cN i->Q (Ht i ns) H->uC K t i vs H Q E
noncomputable def Xa (i:Nat) (kv:V) (ns:List V):List V:=if i=5 then [kv] else ns
inductive DN (K:PySem.W.Frag) (t:jy) (i:Nat) (vs:List V) (H:Hp) (Q:VK) (E:XK):Prop where
 | mk:∀(p:Addr) (kv nm:V) (ns is os:List V),vs=[.ref p,kv]->i<=10->fD K t H p i nm ns is os->(∀H' q,aM H H'->H q=none->fD K t H' q i nm (Xa i kv ns) is os->Q (.ref q) H')->DN K t i vs H Q E
noncomputable def b7 (a b:Int):Int:=((((a % 2147483647 * 48271+7919 * b+11) % 2147483647) * ((a % 2147483647 * 48271+7919 * b+11) % 2147483647) % 2147483629+613 * b) * (((a % 2147483647 * 48271+7919 * b+11) % 2147483647) * ((a % 2147483647 * 48271+7919 * b+11) % 2147483647) % 2147483629)) % 2147483587
theorem zQ (a b:Int):0<=b7 a b:=Int.emod_nonneg _ (by decide)
noncomputable def jM (ns:List Int) (j:Nat):Int:=(ns[j]?).getD (41 * (j:Int)+3)
noncomputable def nQ (a b:Int):Int:=if b7 a b / 7 % 3=0 then b7 a b % 5 else if b7 a b / 7 % 3=1 then b7 a b % 10 ^ 9 else 10 ^ 9 - 1 - b7 a b % 3
theorem m9 (a b:Int):0<=nQ a b/\nQ a b <1000000000:=by
 unfold nQ
 have h0:=zQ a b
 generalize b7 a b=n at h0
 split
 ·omega
 ·split
  ·have h1:=Int.emod_lt_of_pos n (show(0:Int) <10 ^ 9 by decide)
   have h2:=Int.emod_nonneg n (show(10:Int) ^ 9≠0 by decide)
   exact⟨h2,h1⟩
  ·have h1:=Int.emod_lt_of_pos n (show(0:Int) <3 by decide)
   have h2:=Int.emod_nonneg n (show(3:Int)≠0 by decide)
   have e:(10:Int) ^ 9=1000000000:=by decide
   rw [e]
   omega
noncomputable def low (c:Nat):Bool:=decide (97<=c) && decide (c<=122)
noncomputable def Mm (c:Nat):Bool:=decide (48<=c) && decide (c<=57)
noncomputable def nameB (x:Str):Bool:=match x.cps.toList with
 | []=>false
 | c:: r=>decide (r.length<=7) && (low c && (c:: r).all fun d=>low d || Mm d)
theorem m8 (x:Str):x.cps.toList.length=x.length:=by simp [Str.length]
theorem Ck:∀(ws:List Str),(Str.join Str.empty ws).cps.toList=(ws.map fun w=>w.cps.toList).flatten
 | []=>rfl
 | [w]=>by simp [Str.join]
 | w:: v:: r=>by
  have ih:=Ck (v:: r)
  show(w.cps ++ #[] ++ (Str.join Str.empty (v:: r)).cps).toList=_
  rw [Array.toList_append,ih]
  simp
theorem RZ {n:Nat}:∀(ws:List Str),(∀w∈ws,w.length<=n)->(ws.map (·.length)).sum<=ws.length * n
 | [],_=>by simp
 | w:: r,h=>by
  have h1:=h w (by simp)
  have h2:=RZ r fun v hv=>h v (by simp [hv])
  simp only [List.map_cons,List.sum_cons,List.length_cons,Nat.add_mul]
  omega
noncomputable def JM (n:Int):Nat:=97+(n % 26).toNat
theorem Hf (n:Int):low (JM n)=true:=by
 unfold low JM
 have h0:=Int.emod_nonneg n (show(26:Int)≠0 by decide)
 have h1:=Int.emod_lt_of_pos n (show(0:Int) <26 by decide)
 simp
 omega
noncomputable abbrev LT:Str:= "abcdefghijklmnopqrstuvwxyz"
theorem Kz:LT.length=26:=by decide +kernel
theorem Rt:LT.cps.toList=List.range' 97 26:=by decide +kernel
theorem QH (n:Int):Fi LT.cps.toList (n % 26)=some (JM n):=by
 have h0:=Int.emod_nonneg n (show(26:Int)≠0 by decide)
 have h1:=Int.emod_lt_of_pos n (show(0:Int) <26 by decide)
 obtain⟨j,hj⟩:∃j:Nat,n % 26=(j:Int):=⟨(n % 26).toNat,by omega⟩
 unfold JM
 rw [hj,Rt]
 exact aJ (by rw [List.getElem?_range' (by omega)];simp)
noncomputable def gH (a:Int):List Nat:=(List.range (b7 a 50 % 7).toNat).map fun j=>JM (b7 a (60+(j:Nat)))
noncomputable def pN (a:Int):Nat:=(b7 a 51 % (b7 a 50 % 7+1)).toNat
noncomputable def KN (n:Nat):List Nat:=(toString (Int.ofNat n):Str).cps.toList
noncomputable def Ai (a:Int) (k:Nat):List Nat:=if b7 a 52 % 3=0 then JM (b7 a 53):: KN (b7 a 54 % 1000+37 * (k:Int)).toNat else(gH a).take (pN a) ++ JM (b7 a 55+k):: (gH a).drop (pN a)
noncomputable def cJ (a:Int) (k:Nat):Str:=⟨(Ai a k).toArray⟩
noncomputable def RJ (l:List Nat):Nat:=l.foldl (fun r c=>10 * r+(c - 48)) 0
theorem UW:(List.range 2000).all (fun i=>(KN i).all Mm && decide ((KN i).length<=4) && decide (RJ (KN i)=i))=true:=by decide +kernel
theorem uV {n:Nat} (h:n <2000):(KN n).all Mm=true/\(KN n).length<=4/\RJ (KN n)=n:=by
 have z:=List.all_eq_true.mp UW n (List.mem_range.mpr h)
 simp only [Bool.and_eq_true,decide_eq_true_eq] at z
 exact⟨z.1.1,z.1.2,z.2⟩
theorem BV (a:Int):(gH a).length<=6/\((gH a).length:Int)=b7 a 50 % 7:=by
 unfold gH
 have h0:=Int.emod_nonneg (b7 a 50) (show(7:Int)≠0 by decide)
 have h1:=Int.emod_lt_of_pos (b7 a 50) (show(0:Int) <7 by decide)
 rw [lM,List.length_range]
 omega
theorem M3 (a:Int):pN a<=(gH a).length:=by
 have h:=(BV a).2
 unfold pN
 have h0:=Int.emod_nonneg (b7 a 50) (show(7:Int)≠0 by decide)
 have h1:=Int.emod_lt_of_pos (b7 a 51) (show(0:Int) <b7 a 50 % 7+1 by omega)
 have h2:=Int.emod_nonneg (b7 a 51) (show b7 a 50 % 7+1≠0 by omega)
 omega
theorem BW {x:Str} {c:Nat} {r:List Nat} (e:x.cps.toList=c:: r) (h:r.length<=7) (hc:low c=true) (ha:∀d∈r,low d=true∨Mm d=true):nameB x=true:=by
 unfold nameB
 rw [e]
 simp only [Bool.and_eq_true,decide_eq_true_eq,List.all_eq_true,Bool.or_eq_true]
 refine⟨h,hc,fun d hd=>?_⟩
 rcases List.mem_cons.mp hd with rfl | hd
 ·exact .inl hc
 ·exact ha d hd
theorem Di (a:Int) (k:Nat):(cJ a k).cps.toList=Ai a k:=by simp [cJ]
theorem My (a:Int) {k:Nat} (hk:k <26):nameB (cJ a k)=true:=by
 have h0:=Int.emod_nonneg (b7 a 54) (show(1000:Int)≠0 by decide)
 have h1:=Int.emod_lt_of_pos (b7 a 54) (show(0:Int) <1000 by decide)
 have e:=Di a k
 unfold Ai at e
 split at e
 ·obtain⟨n1,n2,_⟩:=uV (n:=(b7 a 54 % 1000+37 * (k:Int)).toNat) (by omega)
  exact BW e (by omega) (Hf _) fun c hc=>.inr (List.all_eq_true.mp n1 c hc)
 ·have b1:=(BV a).1
  have b2:=M3 a
  have all:∀c∈(gH a).take (pN a) ++ JM (b7 a 55+k):: (gH a).drop (pN a),low c=true:=fun c hc=>by
   have hb:∀c∈gH a,low c=true:=fun c hc=>by
    unfold gH at hc
    obtain⟨j,_,rfl⟩:=List.mem_map.mp hc
    exact Hf _
   rcases List.mem_append.mp hc with h | h
   ·exact hb c (List.mem_of_mem_take h)
   ·rcases List.mem_cons.mp h with rfl | h
    ·exact Hf _
    ·exact hb c (List.mem_of_mem_drop h)
  have len:((gH a).take (pN a) ++ JM (b7 a 55+k):: (gH a).drop (pN a)).length<=7:=by
   rw [lP,List.length_take,List.length_cons,List.length_drop]
   omega
  have ne:(gH a).take (pN a) ++ JM (b7 a 55+k):: (gH a).drop (pN a)≠[]:=by simp
  generalize (gH a).take (pN a) ++ JM (b7 a 55+k):: (gH a).drop (pN a)=l at all len ne e
  obtain⟨c,r,rfl⟩:=List.exists_cons_of_ne_nil ne
  rw [List.length_cons] at len
  exact BW e (by omega) (all c List.mem_cons_self) fun d hd=>.inl (all d (List.mem_cons_of_mem _ hd))
theorem JT (a:Int) {j k:Nat} (hj:j <26) (hk:k <26) (h:cJ a j=cJ a k):j=k:=by
 have e:Ai a j=Ai a k:=by
  have:=congrArg (fun s:Str=>s.cps.toList) h
  simpa [cJ] using this
 unfold Ai at e
 split at e
 ·have h0:=Int.emod_nonneg (b7 a 54) (show(1000:Int)≠0 by decide)
  have h1:=Int.emod_lt_of_pos (b7 a 54) (show(0:Int) <1000 by decide)
  have e2:=congrArg RJ (List.cons.inj e).2
  rw [(uV (by omega)).2.2,(uV (by omega)).2.2] at e2
  omega
 ·have e2:=(List.cons.inj (List.append_cancel_left e)).1
  unfold JM at e2
  omega
namespace Drawn
variable {S:Type}
structure iw (S:Type) where
 kind:Nat
 name:S
 nums:List Int
 ins:List S
 outs:List S
structure NS (S:Type) where
 lanes:List S
 parts:List (iw S)
 opens:List S
 back:List S
inductive ji (ps:List (iw S)):S->S->Prop
 | refl (x:S):ji ps x x
 | step {x y z:S} {p:iw S}:p∈ps->x∈p.ins ++ p.outs->y∈p.ins ++ p.outs->ji ps y z->ji ps x z
theorem ji.trans {ps:List (iw S)} {x y z:S} (h:ji ps x y) (k:ji ps y z):ji ps x z:=by
 induction h with
 | refl _=>exact k
 | step hp hx hy _ ih=>exact .step hp hx hy (ih k)
theorem ji.symm {ps:List (iw S)} {x y:S} (h:ji ps x y):ji ps y x:=by
 induction h with
 | refl _=>exact .refl _
 | step hp hx hy _ ih=>exact ih.trans (.step hp hy hx (.refl _))
theorem ji.mono {ps qs:List (iw S)} (hs:∀p∈ps,p∈qs) {x y:S} (h:ji ps x y):ji qs x y:=by
 induction h with
 | refl _=>exact .refl _
 | step hp hx hy _ ih=>exact .step (hs _ hp) hx hy ih
theorem ji.part {ps:List (iw S)} {p:iw S} (hp:p∈ps) {x y:S} (hx:x∈p.ins ++ p.outs) (hy:y∈p.ins ++ p.outs):ji ps x y:=.step hp hx hy (.refl _)
structure WF (ns:NS S):Prop where
 nod:ns.lanes.Nodup
 outs:((ns.parts.flatMap (·.outs)) ++ ns.back).Perm ns.lanes
 ins:((ns.parts.flatMap (·.ins)) ++ ns.opens).Perm ns.lanes
 hang:∀p∈ns.parts,∃x∈p.ins ++ p.outs,∃o∈ns.opens,ji ns.parts x o
 touch:∀p∈ns.parts,p.ins ++ p.outs≠[]
theorem WF.add {ns:NS S} (w:WF ns) {p:iw S} {newl opens' back':List S} (hn:(ns.lanes ++ newl).Nodup) (ho:(p.outs ++ back').Perm (ns.back ++ newl)) (hi:(p.ins ++ opens').Perm (ns.opens ++ newl))
  (hg:∀o∈ns.opens,∃o'∈opens',ji (ns.parts ++ [p]) o o') (hp:∃x∈p.ins ++ p.outs,∃o∈opens',ji (ns.parts ++ [p]) x o):
  WF { lanes:=ns.lanes ++ newl,parts:=ns.parts ++ [p],opens:=opens',back:=back' }:=by
 have mono:∀q∈ns.parts,q∈ns.parts ++ [p]:=fun q hq=>List.mem_append.mpr (.inl hq)
 refine⟨hn,?_,?_,?_,?_⟩
 ·have e:(ns.parts ++ [p]).flatMap (·.outs)=ns.parts.flatMap (·.outs) ++ p.outs:=by simp
  show(((ns.parts ++ [p]).flatMap (·.outs)) ++ back').Perm _
  rw [e,List.append_assoc]
  exact(ho.append_left _).trans (by rw [<-List.append_assoc];exact w.outs.append_right _)
 ·have e:(ns.parts ++ [p]).flatMap (·.ins)=ns.parts.flatMap (·.ins) ++ p.ins:=by simp
  show(((ns.parts ++ [p]).flatMap (·.ins)) ++ opens').Perm _
  rw [e,List.append_assoc]
  exact(hi.append_left _).trans (by rw [<-List.append_assoc];exact w.ins.append_right _)
 ·intro q hq
  rcases List.mem_append.mp hq with h | h
  ·obtain⟨x,hx,o,hoq,c⟩:=w.hang q h
   obtain⟨o',ho',c'⟩:=hg o hoq
   exact⟨x,hx,o',ho',(c.mono mono).trans c'⟩
  ·rw [List.mem_singleton] at h
   subst h
   exact hp
 ·intro q hq
  rcases List.mem_append.mp hq with h | h
  ·exact w.touch q h
  ·rw [List.mem_singleton] at h
   subst h
   obtain⟨x,hx,_⟩:=hp
   intro z
   rw [z] at hx
   cases hx
theorem WF.start:WF (⟨[],[],[],[]⟩:NS S):=⟨List.nodup_nil,.refl _,.refl _,fun p hp=>(by cases hp),fun p hp=>(by cases hp)⟩
theorem WF.backLane {ns:NS S} (w:WF ns) {b:S} (hn:(ns.lanes ++ [b]).Nodup):WF { ns with lanes:=ns.lanes ++ [b],opens:=ns.opens ++ [b],back:=ns.back ++ [b] }:=by
 refine⟨hn,?_,?_,fun p hp=>?_,w.touch⟩
 ·show(_ ++ (ns.back ++ [b])).Perm _
  rw [<-List.append_assoc]
  exact w.outs.append_right _
 ·show(_ ++ (ns.opens ++ [b])).Perm _
  rw [<-List.append_assoc]
  exact w.ins.append_right _
 ·obtain⟨x,hx,o,ho,c⟩:=w.hang p hp
  exact⟨x,hx,o,List.mem_append.mpr (.inl ho),c⟩
theorem WF.part {ns:NS S} (w:WF ns) {p:iw S} {rest:List S} (hi:ns.opens.Perm (p.ins ++ rest)) (hf:(ns.lanes ++ p.outs).Nodup) (ho:p.outs≠[]):
  WF { ns with lanes:=ns.lanes ++ p.outs,parts:=ns.parts ++ [p],opens:=rest ++ p.outs }:=by
 have hp:p∈ns.parts ++ [p]:=by simp
 obtain⟨o1,hoo⟩:∃o1,o1∈p.outs:=List.exists_mem_of_ne_nil _ ho
 have h1:o1∈rest ++ p.outs:=List.mem_append.mpr (.inr hoo)
 refine w.add hf List.perm_append_comm ?_ (fun o h=>?_) ⟨o1,List.mem_append.mpr (.inr hoo),o1,h1,.refl _⟩
 ·rw [<-List.append_assoc]
  exact hi.symm.append_right _
 ·rcases List.mem_append.mp (hi.mem_iff.mp h) with h | h
  ·exact⟨o1,h1,ji.part hp (List.mem_append.mpr (.inl h)) (List.mem_append.mpr (.inr hoo))⟩
  ·exact⟨o,List.mem_append.mpr (.inl h),.refl _⟩
theorem WF.take {ns:NS S} (w:WF ns) {p:iw S} {rest:List S} {y x:S} (hi:p.ins=[y]) (ho:p.outs=[]) (hr:ns.opens.Perm (y:: rest)) (hx:x∈rest) (c:ji ns.parts y x):
  WF { ns with parts:=ns.parts ++ [p],opens:=rest }:=by
 have mono:∀q∈ns.parts,q∈ns.parts ++ [p]:=fun q hq=>List.mem_append.mpr (.inl hq)
 have:=w.add (p:=p) (newl:=[]) (opens':=rest) (back':=ns.back) (by rw [List.append_nil];exact w.nod) (by rw [ho,List.append_nil];exact .refl _) (by rw [hi,List.append_nil];exact hr.symm)
  (fun o h=>by
   rcases List.mem_cons.mp (hr.mem_iff.mp h) with rfl | h
   ·exact⟨x,hx,c.mono mono⟩
   ·exact⟨o,h,.refl _⟩) ⟨y,by simp [hi],x,hx,c.mono mono⟩
 rw [List.append_nil] at this
 exact this
theorem WF.loop {ns:NS S} (w:WF ns) {p:iw S} {rest:List S} {one own fresh:S} (hi:p.ins=[one,own]) (ho:p.outs=[own,fresh]) (hr:ns.opens.Perm (one:: rest)) (hn:(ns.lanes ++ [own,fresh]).Nodup):
  WF { ns with lanes:=ns.lanes ++ [own,fresh],parts:=ns.parts ++ [p],opens:=rest ++ [fresh] }:=by
 have hp:p∈ns.parts ++ [p]:=by simp
 have hf:fresh∈rest ++ [fresh]:=by simp
 refine w.add hn (by rw [ho];exact List.perm_append_comm) ?_ (fun o h=>?_) ⟨fresh,by simp [ho],fresh,hf,.refl _⟩
 ·rw [hi]
  show(one:: own:: (rest ++ [fresh])).Perm (ns.opens ++ [own,fresh])
  refine .trans ?_ (hr.symm.append_right _)
  refine .cons _ ?_
  show(own:: (rest ++ [fresh])).Perm (rest ++ ([own] ++ [fresh]))
  rw [<-List.append_assoc]
  exact(List.perm_append_comm (l₁:=[own]) (l₂:=rest)).append_right [fresh]
 ·rcases List.mem_cons.mp (hr.mem_iff.mp h) with rfl | h
  ·exact⟨fresh,hf,ji.part hp (by simp [hi]) (by simp [ho])⟩
  ·exact⟨o,List.mem_append.mpr (.inl h),.refl _⟩
theorem WF.closeBack {ns:NS S} (w:WF ns) {p:iw S} {rest:List S} {one b fresh:S} (hi:p.ins=[one]) (ho:p.outs=[b,fresh]) (hb:ns.back.Perm (b:: rest)) (h1:ns.opens=[one]) (hn:(ns.lanes ++ [fresh]).Nodup):
  WF { lanes:=ns.lanes ++ [fresh],parts:=ns.parts ++ [p],opens:=[fresh],back:=rest }:=by
 have hp:p∈ns.parts ++ [p]:=by simp
 refine w.add hn ?_ (by rw [hi,h1]) (fun o h=>?_) ⟨fresh,by simp [ho],fresh,by simp,.refl _⟩
 ·rw [ho]
  show(b:: fresh:: rest).Perm (ns.back ++ [fresh])
  refine .trans ?_ (hb.symm.append_right _)
  exact .cons _ (List.perm_append_comm (l₁:=[fresh]) (l₂:=rest))
 ·rw [h1,List.mem_singleton] at h
  subst h
  exact⟨fresh,by simp,ji.part hp (by simp [hi]) (by simp [ho])⟩
theorem WF.last {ns:NS S} (w:WF ns) {p:iw S} {y:S} (hb:ns.back=[]) (h1:ns.opens=[y]) (hi:p.ins=[y]) (ho:p.outs=[]):
  ((ns.parts ++ [p]).flatMap (·.outs)).Perm ns.lanes/\((ns.parts ++ [p]).flatMap (·.ins)).Perm ns.lanes/\∀q∈ns.parts ++ [p],∃x∈q.ins ++ q.outs,ji (ns.parts ++ [p]) x y:=by
 have mono:∀q∈ns.parts,q∈ns.parts ++ [p]:=fun q hq=>List.mem_append.mpr (.inl hq)
 refine⟨?_,?_,?_⟩
 ·have e:(ns.parts ++ [p]).flatMap (·.outs)=ns.parts.flatMap (·.outs):=by simp [ho]
  rw [e]
  have:=w.outs
  rw [hb,List.append_nil] at this
  exact this
 ·have e:(ns.parts ++ [p]).flatMap (·.ins)=ns.parts.flatMap (·.ins) ++ [y]:=by simp [hi]
  rw [e]
  have:=w.ins
  rw [h1] at this
  exact this
 ·intro q hq
  rcases List.mem_append.mp hq with h | h
  ·obtain⟨x,hx,o,hoq,c⟩:=w.hang q h
   rw [h1,List.mem_singleton] at hoq
   subst hoq
   exact⟨x,hx,c.mono mono⟩
  ·rw [List.mem_singleton] at h
   subst h
   exact⟨y,by simp [hi],.refl _⟩
theorem Lb {ps:List (iw S)} {J:iw S->Prop} (closed:∀(l:S) (p q:iw S),p∈ps->q∈ps->l∈p.ins ++ p.outs->l∈q.ins ++ q.outs->J p->J q) {y:S} (hang:∀q∈ps,∃x∈q.ins ++ q.outs,ji ps x y)
  {p0:iw S} (hp0:p0∈ps) (h0:J p0):∀q∈ps,J q:=by
 have go:∀{x z:S},ji ps x z->(∃p∈ps,x∈p.ins ++ p.outs/\J p)->∃p∈ps,z∈p.ins ++ p.outs/\J p:=by
  intro x z c
  induction c with
  | refl _=>exact id
  | step hp hx hy _ ih=>
   rintro⟨p',hp',hx',hJ⟩
   exact ih ⟨_,hp,hy,closed _ _ _ hp' hp hx' hx hJ⟩
 obtain⟨x0,hx0,c0⟩:=hang p0 hp0
 have hy:=go c0 ⟨p0,hp0,hx0,h0⟩
 intro q hq
 obtain⟨x,hx,c⟩:=hang q hq
 obtain⟨p',hp',hx',hJ⟩:=go c.symm hy
 exact closed _ _ _ hp' hq hx' hx hJ
theorem O5 {ps:List (iw S)} (f:iw S->List S) (h:(ps.flatMap f).Nodup) {i j:Nat} {p q:iw S} {l:S} (hi:ps[i]?=some p) (hj:ps[j]?=some q) (hp:l∈f p) (hq:l∈f q):i=j:=by
 induction ps generalizing i j with
 | nil=>cases hi
 | cons r rs ih=>
  rw [List.flatMap_cons,List.nodup_append] at h
  obtain⟨h1,h2,h3⟩:=h
  have far:∀{k:Nat} {s:iw S},rs[k]?=some s->l∈f s->l∈rs.flatMap f:=fun e hs=>List.mem_flatMap.mpr ⟨_,List.mem_of_getElem? e,hs⟩
  match i,j with
  | 0,0=>rfl
  | 0,j+1=>
   simp only [List.getElem?_cons_zero,Option.some.injEq] at hi
   subst hi
   exact absurd rfl (h3 l hp l (far (by simpa using hj) hq))
  | i+1,0=>
   simp only [List.getElem?_cons_zero,Option.some.injEq] at hj
   subst hj
   exact absurd rfl (h3 l hq l (far (by simpa using hi) hp))
  | i+1,j+1=>exact congrArg (· +1) (ih h2 (by simpa using hi) (by simpa using hj))
end Drawn
structure aG where
 name:Str
 room:Int
 first:List Int
noncomputable def aG.ok (l:aG):Prop:=1<=l.room/\l.room<=10/\(l.first.length:Int)<=l.room/\∀v∈l.first,0<=v/\v <1000000000
noncomputable abbrev PD:=Drawn.iw Str
noncomputable def tM (p:PD):Prop:=p.kind <11/\p.nums.length=cN p.kind/\p.ins.length=cI p.kind/\p.outs.length=cO p.kind/\∀v∈p.nums,0<=v/\v <1000000000
noncomputable def bG (E:List Addr) (H:Hp):Hp:=fun b=>if b∈E then none else H b
theorem cg {E:List Addr} {H:Hp}:aM (bG E H) H:=fun b o e=>by
 unfold bG at e
 split at e
 ·cases e
 ·exact e
theorem Uq {E:List Addr} {H:Hp} {p:Addr} {o:HO} (h:H p=none):aM (bG E H) (bG E (upd H p o)):=fun b u e=>by
 have e':=cg b u e
 unfold bG at e ⊢
 split at e
 ·cases e
 ·rename_i n
  rw [if_neg n,aK (aD e' h)]
  exact e
theorem fC {E:List Addr} {H:Hp} {p:Addr} {o:HO} (h:H p=some o) (n:p∉E):bG E H p=some o:=by
 unfold bG
 rw [if_neg n]
 exact h
theorem eO {E:List Addr} {H:Hp} {a:Addr} {o:HO} (h:a∈E):bG E (upd H a o)=bG E H:=by
 funext b
 unfold bG
 split
 ·rfl
 ·rename_i n
  rw [aK (fun z=>n (by rw [z];exact h))]
theorem xU {E:List Addr} {H H':Hp} (s:aM H H') (hE:∀a∈E,∃o,H a=some o):aM (bG E H) (bG E H'):=fun b o e=>by
 have e':=cg b o e
 unfold bG at e ⊢
 split at e
 ·cases e
 ·rename_i n
  rw [if_neg n]
  exact s _ _ e'
inductive iY {α β:Type} (R:α->β->Prop):List α->List β->Prop
 | nil:iY R [] []
 | cons {a:α} {b:β} {l:List α} {m:List β}:R a b->iY R l m->iY R (a:: l) (b:: m)
theorem iY.imp {α β:Type} {R R':α->β->Prop} (h:∀a b,R a b->R' a b):∀{l:List α} {m:List β},iY R l m->iY R' l m
 | _,_,.nil=>.nil
 | _,_,.cons r t=>.cons (h _ _ r) (t.imp h)
theorem iY.length {α β:Type} {R:α->β->Prop}:∀{l:List α} {m:List β},iY R l m->l.length=m.length
 | _,_,.nil=>rfl
 | _,_,.cons _ t=>by rw [List.length_cons,List.length_cons,t.length]
theorem iY.app {α β:Type} {R:α->β->Prop}:∀{l l':List α} {m m':List β},iY R l m->iY R l' m'->iY R (l ++ l') (m ++ m')
 | _,_,_,_,.nil,h=>h
 | _,_,_,_,.cons r t,h=>.cons r (t.app h)
theorem iY.get {α β:Type} {R:α->β->Prop}:∀{l:List α} {m:List β},iY R l m->∀{i:Nat} {a:α},l[i]?=some a->∃b,m[i]?=some b/\R a b
 | _,_,.nil,_,_,h=>by simp at h
 | _,_,.cons r t,0,_,h=>by
  simp only [List.getElem?_cons_zero,Option.some.injEq] at h
  subst h
  exact⟨_,rfl,r⟩
 | _,_,.cons r t,i+1,_,h=>t.get (i:=i) (by simpa using h)
theorem iY.take {α β:Type} {R:α->β->Prop}:∀{l:List α} {m:List β},iY R l m->∀n:Nat,iY R (l.take n) (m.take n)
 | _,_,.nil,_=>by simp;exact .nil
 | _,_,.cons r t,0=>by simp;exact .nil
 | _,_,.cons r t,n+1=>by simp;exact .cons r (t.take n)
theorem iY.drop {α β:Type} {R:α->β->Prop}:∀{l:List α} {m:List β},iY R l m->∀n:Nat,iY R (l.drop n) (m.drop n)
 | _,_,.nil,_=>by simp;exact .nil
 | _,_,.cons r t,0=>.cons r t
 | _,_,.cons r t,n+1=>by simp;exact t.drop n
inductive wW (G:Hp) (v:V) (l:aG):Prop where
 | mk:∀q f,v=.ref q->G q=some (.tup [.str l.name,.int l.room,.ref f])->G f=some (.lst (l.first.map V.int))->wW G v l
inductive qT (G:Hp) (v:V) (p:PD):Prop where
 | mk:∀q a1 a2 a3,v=.ref q->G q=some (.tup [.str (eG p.kind),.str p.name,.ref a1,.ref a2,.ref a3])->G a1=some (.lst (p.nums.map V.int))->G a2=some (.lst (p.ins.map V.str))->G a3=some (.lst (p.outs.map V.str))->qT G v p
theorem wW.same {G G':Hp} {v:V} {l:aG} (h:wW G v l) (s:aM G G'):wW G' v l:=by
 obtain⟨q,f,e,h1,h2⟩:=h
 exact⟨q,f,e,s _ _ h1,s _ _ h2⟩
theorem qT.same {G G':Hp} {v:V} {p:PD} (h:qT G v p) (s:aM G G'):qT G' v p:=by
 obtain⟨q,a1,a2,a3,e,h1,h2,h3,h4⟩:=h
 exact⟨q,a1,a2,a3,e,s _ _ h1,s _ _ h2,s _ _ h3,s _ _ h4⟩
structure Dw where
 S:Addr
 L:Addr
 P:Addr
 O:Addr
 c3:Int
 c4:Int
noncomputable abbrev Dw.E (d:Dw):List Addr:=[d.L,d.P,d.O]
structure mO (d:Dw) (H:Hp) (ls:List aG) (ps:List PD) (os:List Str):Prop where
 top:bG d.E H d.S=some (.lst [.ref d.L,.ref d.P,.ref d.O,.int d.c3,.int d.c4])
 lanes:∃xs,H d.L=some (.lst xs)/\iY (wW (bG d.E H)) xs ls
 parts:∃xs,H d.P=some (.lst xs)/\iY (qT (bG d.E H)) xs ps
 opens:H d.O=some (.lst (os.map V.str))
 ne:d.L≠d.P/\d.L≠d.O/\d.P≠d.O
 lok:∀l∈ls,l.ok
 pok:∀p∈ps,tM p
 ln:ls.map (·.name)=(List.range ls.length).map (cJ d.c3)
 pn:ps.map (·.name)=(List.range ps.length).map (cJ d.c4)
theorem mO.seqS {d:Dw} {H:Hp} {ls:List aG} {ps:List PD} {os:List Str} (D:mO d H ls ps os):bF K H d.S [.ref d.L,.ref d.P,.ref d.O,.int d.c3,.int d.c4]:=bF.of (cg _ _ D.top)
theorem mO.has {d:Dw} {H:Hp} {ls:List aG} {ps:List PD} {os:List Str} (D:mO d H ls ps os) {a:Addr} (h:a∈d.E):∃o,H a=some o:=by
 obtain⟨_,e1,_⟩:=D.lanes
 obtain⟨_,e2,_⟩:=D.parts
 rcases List.mem_cons.mp h with rfl | h
 ·exact⟨_,e1⟩
 ·rcases List.mem_cons.mp h with rfl | h
  ·exact⟨_,e2⟩
  ·rw [List.mem_singleton] at h
   subst h
   exact⟨_,D.opens⟩
theorem mO.out {d:Dw} {H:Hp} {ls:List aG} {ps:List PD} {os:List Str} (D:mO d H ls ps os) {p:Addr} (h:H p=none):p∉d.E:=fun z=>by
 obtain⟨o,e⟩:=D.has z
 rw [h] at e
 cases e
theorem mO.keep {d:Dw} {H H':Hp} {ls:List aG} {ps:List PD} {os:List Str} (D:mO d H ls ps os) (s:aM H H'):mO d H' ls ps os:=by
 obtain⟨xs,e1,a1⟩:=D.lanes
 obtain⟨ys,e2,a2⟩:=D.parts
 have c:=xU (E:=d.E) s (fun a h=>D.has h)
 exact⟨c _ _ D.top,⟨xs,s _ _ e1,a1.imp fun _ _ h=>h.same c⟩,⟨ys,s _ _ e2,a2.imp fun _ _ h=>h.same c⟩,s _ _ D.opens,D.ne,D.lok,D.pok,D.ln,D.pn⟩
theorem mO.cut {d:Dw} {H H':Hp} {ls:List aG} {ps:List PD} {os:List Str} (D:mO d H ls ps os) (s:aM H H'):aM (bG d.E H) (bG d.E H'):=xU s (fun _ h=>D.has h)
theorem GR {α:Type} {f:α->Str} {w:Nat->Str} {l:List α} {x:α} (h:l.map f=(List.range l.length).map w) (hx:f x=w l.length):(l ++ [x]).map f=(List.range (l ++ [x]).length).map w:=by
 rw [List.map_append,lP,List.length_singleton,List.range_succ,List.map_append,h,List.map_singleton,List.map_singleton,hx]
theorem mO.lane {d:Dw} {H:Hp} {ls:List aG} {ps:List PD} {os:List Str} (D:mO d H ls ps os) {v:V} {l:aG} (h:wW (bG d.E H) v l) (hl:l.ok) (hn:l.name=cJ d.c3 ls.length) {xs:List V} (e:H d.L=some (.lst xs)):
  mO d (upd H d.L (.lst (xs ++ [v]))) (ls ++ [l]) ps os:=by
 obtain⟨xs',e1,a1⟩:=D.lanes
 obtain⟨ys,e2,a2⟩:=D.parts
 rw [e] at e1
 cases e1
 have c:bG d.E (upd H d.L (.lst (xs ++ [v])))=bG d.E H:=eO (by simp)
 refine⟨by rw [c];exact D.top,⟨_,au,by rw [c];exact a1.app (.cons h .nil)⟩,⟨ys,by rw [aK (Ne.symm D.ne.1)];exact e2,by rw [c];exact a2⟩,by rw [aK (Ne.symm D.ne.2.1)];exact D.opens,D.ne,fun x hx=>?_,D.pok,GR D.ln hn,D.pn⟩
 rcases List.mem_append.mp hx with hx | hx
 ·exact D.lok x hx
 ·rw [List.mem_singleton] at hx
  subst hx
  exact hl
theorem mO.part {d:Dw} {H:Hp} {ls:List aG} {ps:List PD} {os:List Str} (D:mO d H ls ps os) {v:V} {p:PD} (h:qT (bG d.E H) v p) (hl:tM p) (hn:p.name=cJ d.c4 ps.length) {xs:List V} (e:H d.P=some (.lst xs)):
  mO d (upd H d.P (.lst (xs ++ [v]))) ls (ps ++ [p]) os:=by
 obtain⟨xs',e1,a1⟩:=D.lanes
 obtain⟨ys,e2,a2⟩:=D.parts
 rw [e] at e2
 cases e2
 have c:bG d.E (upd H d.P (.lst (xs ++ [v])))=bG d.E H:=eO (by simp)
 refine⟨by rw [c];exact D.top,⟨_,by rw [aK D.ne.1];exact e1,by rw [c];exact a1⟩,⟨_,au,by rw [c];exact a2.app (.cons h .nil)⟩,by rw [aK (Ne.symm D.ne.2.2)];exact D.opens,D.ne,D.lok,fun x hx=>?_,D.ln,GR D.pn hn⟩
 rcases List.mem_append.mp hx with hx | hx
 ·exact D.pok x hx
 ·rw [List.mem_singleton] at hx
  subst hx
  exact hl
theorem mO.open {d:Dw} {H:Hp} {ls:List aG} {ps:List PD} {os os':List Str} (D:mO d H ls ps os):mO d (upd H d.O (.lst (os'.map V.str))) ls ps os':=by
 obtain⟨xs,e1,a1⟩:=D.lanes
 obtain⟨ys,e2,a2⟩:=D.parts
 have c:bG d.E (upd H d.O (.lst (os'.map V.str)))=bG d.E H:=eO (by simp)
 exact⟨by rw [c];exact D.top,⟨xs,by rw [aK D.ne.2.1];exact e1,by rw [c];exact a1⟩,⟨ys,by rw [aK D.ne.2.2];exact e2,by rw [c];exact a2⟩,au,D.ne,D.lok,D.pok,D.ln,D.pn⟩
theorem zH (a:Int) {n:Nat} (h:n<=26):((List.range n).map (cJ a)).Nodup:=by
 induction n with
 | zero=>exact List.nodup_nil
 | succ n ih=>
  rw [List.range_succ,List.map_append,List.nodup_append]
  refine⟨ih (by omega),by simp,fun x hx y hy=>?_⟩
  obtain⟨j,hj,rfl⟩:=List.mem_map.mp hx
  rw [List.map_singleton,List.mem_singleton] at hy
  subst hy
  have hj':=List.mem_range.mp hj
  intro z
  have:=JT a (by omega) (by omega) z
  omega
noncomputable abbrev uO (ls:List aG) (ps:List PD) (os back:List Str):Drawn.NS Str:=⟨ls.map (·.name),ps,os,back⟩
theorem mO.nod {d:Dw} {H:Hp} {ls:List aG} {ps:List PD} {os:List Str} (D:mO d H ls ps os) (h:ls.length<=26):(ls.map (·.name)).Nodup:=by
 rw [D.ln]
 exact zH _ h
theorem Wa {ns:Drawn.NS Str} (w:Drawn.WF ns) {os:List Str} (h:ns.opens.Perm os):Drawn.WF { ns with opens:=os }:=
 ⟨w.nod,w.outs,(h.symm.append_left _).trans w.ins,fun p hp=>by
  obtain⟨x,hx,o,ho,c⟩:=w.hang p hp
  exact⟨x,hx,o,h.mem_iff.mp ho,c⟩,w.touch⟩
theorem qJ {d:Dw} {H:Hp} {ls newl:List aG} {ps:List PD} {p:PD} {os ops back:List Str} (w:Drawn.WF (uO ls ps ops back)) (ho:p.outs=newl.map (·.name)) (D:mO d H (ls ++ newl) (ps ++ [p]) (os ++ newl.map (·.name))) (hi:ops.Perm (p.ins ++ os)) (hne:newl.length≠0) (hl:(ls ++ newl).length<=26):
  Drawn.WF (uO (ls ++ newl) (ps ++ [p]) (os ++ newl.map (·.name)) back):=by
 have nd:=D.nod hl
 rw [List.map_append] at nd
 have:=w.part (p:=p) hi (by rw [ho];exact nd) (by rw [ho];intro z;exact hne (by rw [<-lM (f:=fun l:aG=>l.name),z];rfl))
 rw [ho] at this
 unfold uO
 rw [List.map_append]
 exact this
noncomputable def Ku (ps:List PD):Prop:=ps.any (fun p=>p.kind == 0)=true
theorem Ku.app {ps:List PD} {p:PD} (h:Ku ps):Ku (ps ++ [p]):=by unfold Ku at h ⊢;rw [List.any_append,h];rfl
structure ZG (d:Dw) (H H':Hp) (ls:List aG) (ps:List PD) (back:List Str) (ls':List aG) (ps':List PD) (os':List Str):Prop where
 cut:aM (bG d.E H) (bG d.E H')
 at':mO d H' ls' ps' os'
 wf:Drawn.WF (uO ls' ps' os' back)
 o1:1<=os'.length
 o4:os'.length<=4
 l2:ls'.length<=ls.length+2
 p2:ps'.length<=ps.length+2
 gv:Ku ps->Ku ps'
theorem Dd {c X Y B:Prop} [Decidable c] (k:B) (hx:c->B->X) (hy:B->Y):if c then X else Y:=by
 split
 ·rename_i h;exact hx h k
 ·exact hy k
theorem hide {t u:TS} {D:Ends} {σ:St} {H:Hp} (h:∀v,v=u->yP t v D σ H):yP t u D σ H:=h u rfl
theorem Rz {i:Nat} {x:V} {t u:TS} {D:Ends} {σ:St} {H:Hp} (h:∀E,E=D->∀v,v=u->yP t v E (σ.set i (some x)) H):yf i x σ H fun σ2 H2=>yP t u D σ2 H2:=h D rfl u rfl
theorem Vz {i:Nat} {x:V} {t:TS} {D:Ends} {σ:St} {H:Hp} (h:∀E,E=D->t E (σ.set i (some x)) H):yf i x σ H fun σ2 H2=>t D σ2 H2:=h D rfl
theorem X3 {t u:TS} {D:Ends} {σ:St} {H:Hp} (h:∀E,E=D->∀v,v=u->yP t v E σ H):yP t u D σ H:=h D rfl u rfl
theorem dh {t u v:TS} {D:Ends} {σ:St} {H:Hp} (hv:v=yP t u) (h:∀w,w=u->yP t w D σ H):v D σ H:=by
 subst hv
 exact h u rfl
theorem mO.two {d:Dw} {H:Hp} {ls:List aG} {ps:List PD} {os:List Str} (D:mO d H ls ps os) {a1 a2:Addr} {x y:HO} (n1:H a1=none) (n2:upd H a1 x a2=none):
  mO d (upd (upd H a1 x) a2 y) ls ps os/\bG d.E (upd (upd H a1 x) a2 y) a1=some x/\bG d.E (upd (upd H a1 x) a2 y) a2=some y/\aM (bG d.E H) (bG d.E (upd (upd H a1 x) a2 y)):=by
 have s1:=aB (o:=x) n1
 have s2:=aB (o:=y) n2
 have s:=s1.trans s2
 exact⟨D.keep s,fC (s2 _ _ au) (D.out n1),fC au (D.out (s1.free n2)),D.cut s⟩
structure FZ (lanes:List Str) (ps:List PD):Prop where
 nod:lanes.Nodup
 outs:(ps.flatMap (·.outs)).Perm lanes
 ins:(ps.flatMap (·.ins)).Perm lanes
 hang:∃y,∀q∈ps,∃x∈q.ins ++ q.outs,Drawn.ji ps x y
noncomputable def sW (H:Hp) (a:Addr):Nat:=match H a with
 | some (.lst xs)=>xs.length
 | _=>0
theorem lL {H:Hp} {a:Addr} {xs:List V} (h:H a=some (.lst xs)):sW H a=xs.length:=by
 unfold sW
 rw [h]
theorem Le (m:Int) {n:Int} {k:Nat} (h0:0 <n) (hk:n=k):∃j:Nat,m % n=(j:Int)/\j <k:=by
 have h1:=Int.emod_nonneg m (Int.ne_of_gt h0)
 have h2:=Int.emod_lt_of_pos m h0
 exact⟨(m % n).toNat,(Int.toNat_of_nonneg h1).symm,by omega⟩
theorem YS (m:Int):∃i:Nat,Fi [V.str "add",V.str "less",V.str "add"] (m % 3)=some (.str (eG i))/\(i=6∨i=7):=by
 have key:∀j,j <3->Fi [V.str "add",V.str "less",V.str "add"] ((j:Nat):Int)=some (.str (eG (([6,7,6]:List Nat).getD j 0)))/\(([6,7,6]:List Nat).getD j 0=6∨([6,7,6]:List Nat).getD j 0=7):=by decide +kernel
 obtain⟨j,e,hj⟩:=Le m (n:=3) (k:=3) (by decide) rfl
 rw [e]
 exact⟨_,key j hj⟩
structure QQ (c3 c4:Int) (ls:List aG) (ps:List PD):Prop where
 lok:∀l∈ls,l.ok
 pok:∀p∈ps,tM p
 ln:ls.map (·.name)=(List.range ls.length).map (cJ c3)
 pn:((List.range ps.length).map (cJ c4)).Perm (ps.map (·.name))
 whole:FZ (ls.map (·.name)) ps
 l1:1<=ls.length
 l17:ls.length<=17
 p1:1<=ps.length
 p16:ps.length<=16
 giv:Ku ps
structure JC (H:Hp) (L P:Addr) (ls:List aG) (ps:List PD):Prop where
 lanes:∃xs,H L=some (.lst xs)/\iY (wW H) xs ls
 parts:∃xs,H P=some (.lst xs)/\iY (qT H) xs ps
theorem JC.same {H H':Hp} {L P:Addr} {ls:List aG} {ps:List PD} (h:JC H L P ls ps) (s:aM H H'):JC H' L P ls ps:=by
 obtain⟨⟨xs,e1,a1⟩,⟨ys,e2,a2⟩⟩:=h
 exact⟨⟨xs,s _ _ e1,a1.imp fun _ _ h=>h.same s⟩,⟨ys,s _ _ e2,a2.imp fun _ _ h=>h.same s⟩⟩
theorem O9 {ps qs:List PD} (h:ps.Perm qs) {x y:Str} (c:Drawn.ji ps x y):Drawn.ji qs x y:=c.mono fun _ hp=>h.mem_iff.mp hp
theorem FZ.perm {ns:List Str} {ps qs:List PD} (w:FZ ns ps) (h:ps.Perm qs):FZ ns qs:=by
 obtain⟨y,hy⟩:=w.hang
 exact⟨w.nod,(h.symm.flatMap_right _).trans w.outs,(h.symm.flatMap_right _).trans w.ins,y,fun q hq=>by
  obtain⟨x,hx,c⟩:=hy q (h.mem_iff.mpr hq)
  exact⟨x,hx,O9 h c⟩⟩
theorem Rc {α:Type} (l:List α) (n:Nat):l.Perm (l.drop n ++ l.take n):=by
 have h:l.Perm (l.take n ++ l.drop n):=by rw [List.take_append_drop]
 exact h.trans List.perm_append_comm
theorem zz (xs:List V) (g:Nat):xX xs (some (g:Int)) none=xs.drop g:=by
 unfold xX
 rw [HT.Ef,HT.yl,<-List.length_drop,List.take_length]
 rcases Nat.le_total g xs.length with h | h
 ·rw [Nat.min_eq_left h]
 ·rw [Nat.min_eq_right h,List.drop_length,List.drop_eq_nil_of_le h]
theorem Tp (xs:List V) (g:Nat):xX xs none (some (g:Int))=xs.take g:=by
 unfold xX
 rw [HT.Ef,HT.yl,List.drop_zero,Nat.sub_zero]
 rcases Nat.le_total g xs.length with h | h
 ·rw [Nat.min_eq_left h]
 ·rw [Nat.min_eq_right h,List.take_length,List.take_of_length_le h]
theorem mO.init {H:Hp} {S L P O:Addr} (c3 c4:Int) (nL:H L=none) (nP:upd H L (.lst []) P=none) (nO:upd (upd H L (.lst [])) P (.lst []) O=none) (nS:upd (upd (upd H L (.lst [])) P (.lst [])) O (.lst []) S=none):
  mO ⟨S,L,P,O,c3,c4⟩ (upd (upd (upd (upd H L (.lst [])) P (.lst [])) O (.lst [])) S (.lst [.ref L,.ref P,.ref O,.int c3,.int c4])) [] [] []/\aM H (bG [L,P,O] (upd (upd (upd (upd H L (.lst [])) P (.lst [])) O (.lst [])) S (.lst [.ref L,.ref P,.ref O,.int c3,.int c4])))/\H P=none:=by
 have s1:=aB (o:=.lst []) nL
 have s2:=aB (o:=.lst []) nP
 have s3:=aB (o:=.lst []) nO
 have s4:=aB (o:=.lst [.ref L,.ref P,.ref O,.int c3,.int c4]) nS
 have e1:=s4 _ _ (s3 _ _ (s2 L (.lst []) au))
 have e2:=s4 _ _ (s3 P (.lst []) au)
 have e3:=s4 O (.lst []) au
 have n1:L≠P:=aD (au (H:=H) (o:=.lst [])) nP
 have n2:L≠O:=aD (s2 L (.lst []) au) nO
 have n3:P≠O:=aD (au (H:=upd H L (.lst [])) (o:=.lst [])) nO
 have m1:L≠S:=aD (s3 _ _ (s2 L (.lst []) au)) nS
 have m2:P≠S:=aD (s3 P (.lst []) au) nS
 have m3:O≠S:=aD (au (H:=upd (upd H L (.lst [])) P (.lst [])) (o:=.lst [])) nS
 refine⟨⟨fC au ?_,⟨[],e1,.nil⟩,⟨[],e2,.nil⟩,e3,⟨n1,n2,n3⟩,(fun _ h=>by cases h),(fun _ h=>by cases h),rfl,rfl⟩,fun b o e=>fC (s4 _ _ (s3 _ _ (s2 _ _ (s1 _ _ e)))) ?_,s1.free nP⟩
 ·show S∉[L,P,O]
  simp [m1.symm,m2.symm,m3.symm]
 ·have q1:=aD e nL
  have q2:=aD (s1 _ _ e) nP
  have q3:=aD (s2 _ _ (s1 _ _ e)) nO
  simp [q1,q2,q3]
noncomputable abbrev LET:Str:= "abcdefghijklmnopqrstuvwxyz"
noncomputable abbrev ZC:Str:= "0123456789"
theorem Pr:LET.cps.toList=List.range' 97 26:=by decide +kernel
theorem Pj:ZC.cps.toList=List.range' 48 10:=by decide +kernel
theorem RC (c:Nat):(!(Builtin.Str.occurrences LET ⟨#[c]⟩ 0 LET.length 1).isEmpty)=low c:=by
 rw [StrLaws.found_one,Pr]
 unfold low
 rw [Bool.eq_iff_iff]
 simp [List.mem_range'_1]
 omega
theorem Xe (c:Nat):(!(Builtin.Str.occurrences ZC ⟨#[c]⟩ 0 ZC.length 1).isEmpty)=Mm c:=by
 rw [StrLaws.found_one,Pj]
 unfold Mm
 rw [Bool.eq_iff_iff]
 simp [List.mem_range'_1]
 omega
structure Ti (ms:List Str) (want:List (Str×V)) (fs:List (Str×V)):Prop where
 has:∀p∈want,fs.lookup p.1=some p.2
 no:∀m∈ms,fs.lookup m=none
theorem jC {H:Hp} {d:Addr} {kvs:List (Key×V)} {v:HO} (e:H d=some (.dK kvs)) {b:Addr} {u:HO} (h:H b=some u) (hu:∀ks,u≠.dK ks):upd H d v b=some u:=by
 rw [aK]
 ·exact h
 ·rintro rfl
  rw [e] at h
  exact hu _ (Option.some.inj h).symm
theorem fQ {H:Hp} {d a:Addr} {kvs:List (Key×V)} {v:HO} {xs:List V} (e:H d=some (.dK kvs)) (h:eN K H a xs):eN K (upd H d v) a xs:=by
 rcases h with (h | ⟨o,h⟩) | h
 ·exact .inl (.inl (jC e h (by intro _ z;cases z)))
 ·exact .inl (.inr ⟨o,jC e h (by intro _ z;cases z)⟩)
 ·exact .inr h
theorem fD.chill {H:Hp} {d p:Addr} {kvs:List (Key×V)} {v:HO} {i:Nat} {nm:V} {ns is os:List V} (e:H d=some (.dK kvs)) (h:fD K t H p i nm ns is os):fD K t (upd H d v) p i nm ns is os:=by
 obtain⟨dx,tn,ti,to,h1,h2,h3,h4⟩:=h
 exact⟨dx,tn,ti,to,jC e h1 (by intro _ z;cases z),fQ e h2,fQ e h3,fQ e h4⟩
theorem Ot {H:Hp} {d D:Addr} {kvs:List (Key×V)} {o:Obj} {u:HO} (e:H d=some (.dK kvs)) (hD:(upd H d (.frz o (.dK kvs))) D=none):upd (upd (upd H d (.frz o (.dK kvs))) D u) d (.dK kvs)=upd H D u:=by
 have n:D≠d:=by rintro rfl;rw [au] at hD;cases hD
 funext b
 by_cases h:b=d
 ·subst h
  rw [au,aK (Ne.symm n)]
  exact e.symm
 ·rw [aK h]
  unfold upd
  rw [if_neg h]
theorem KZ {H:Hp} {d D:Addr} {v:HO} (hD:(upd H d v) D=none):H D=none:=by
 by_cases h:D=d
 ·subst h;rw [au] at hD;cases hD
 ·rw [aK h] at hD;exact hD
theorem Ie {H:Hp} {a:Addr} {o:HO} (e:H a=some o):upd H a o=H:=by
 funext b
 unfold upd
 split
 ·rename_i h;rw [h];exact e.symm
 ·rfl
theorem iI {κ:Type} [DecidableEq κ] {kvs:List (κ×V)} {k:κ} (h:k∉kvs.map (·.1)):b8 kvs k=none:=by
 induction kvs with
 | nil=>rfl
 | cons p r ih=>
  simp only [List.map_cons,List.mem_cons,not_or] at h
  rw [fM (Ne.symm h.1)]
  exact ih h.2
theorem iQ {κ:Type} [DecidableEq κ] {kvs:List (κ×V)} {k:κ} {v:V} (nd:(kvs.map (·.1)).Nodup) (h:(k,v)∈kvs):b8 kvs k=some v:=by
 induction kvs with
 | nil=>cases h
 | cons p r ih=>
  simp only [List.map_cons,List.nodup_cons] at nd
  rcases List.mem_cons.mp h with h | h
  ·subst h
   exact gq rfl
  ·have:¬p.1=k:=fun z=>nd.1 (List.mem_map.mpr ⟨_,h,z.symm⟩)
   rw [fM this]
   exact ih nd.2 h
noncomputable def cQ (f:PD->List Str) (ps:List PD):List (Key×V):=ps.flatMap fun p=>(f p).map fun l=>((Sum.inr l:Key),V.str p.name)
theorem wQ (f:PD->List Str) (ps:List PD):(cQ f ps).map (·.1)=(ps.flatMap f).map (fun l=>(Sum.inr l:Key)):=by
 induction ps with
 | nil=>rfl
 | cons p r ih=>
  unfold cQ at ih ⊢
  simp only [List.flatMap_cons,List.map_append,ih,List.map_map]
  rfl
theorem fH {l:List Str} (h:l.Nodup):(l.map (fun x=>(Sum.inr x:Key))).Nodup:=by
 induction l with
 | nil=>exact List.nodup_nil
 | cons a r ih=>
  simp only [List.map_cons,List.nodup_cons,List.mem_map] at h ⊢
  refine⟨?_,ih h.2⟩
  rintro⟨b,hb,e⟩
  cases e
  exact h.1 hb
theorem gw {f:PD->List Str} {ps:List PD} (nd:(ps.flatMap f).Nodup) {p:PD} (hp:p∈ps) {l:Str} (hl:l∈f p):b8 (cQ f ps) (Sum.inr l)=some (.str p.name):=
 iQ (by rw [wQ];exact fH nd) (List.mem_flatMap.mpr ⟨p,hp,List.mem_map.mpr ⟨l,hl,rfl⟩⟩)
theorem Df {f:PD->List Str} {ps:List PD} {l:Str} (h:l∉ps.flatMap f):b8 (cQ f ps) (Sum.inr l)=none:=iI (by
 rw [wQ]
 intro z
 obtain⟨b,hb,e⟩:=List.mem_map.mp z
 cases e
 exact h hb)
theorem Px (f:PD->List Str) (ps:List PD):(cQ f ps).length=(ps.flatMap f).length:=by
 have:=congrArg List.length (wQ f ps)
 simpa using this
theorem BZ (f:PD->List Str) (ps:List PD) (p:PD):cQ f (ps ++ [p])=cQ f ps ++ (f p).map fun l=>((Sum.inr l:Key),V.str p.name):=by
 unfold cQ
 rw [List.flatMap_append]
 simp
theorem Od {α:Type} {f g:α->Bool}:∀{l:List α},(∀a∈l,g a=true->f a=true)->(∃a∈l,f a=true/\g a=false)->(l.filter g).length <(l.filter f).length
 | [],_,h=>by obtain⟨a,ha,_⟩:=h;cases ha
 | x:: r,h,h2=>by
  have le:∀r:List α,(∀a∈r,g a=true->f a=true)->(r.filter g).length<=(r.filter f).length:=fun r=>by
   induction r with
   | nil=>intro _;exact Nat.le_refl _
   | cons y t ih=>
    intro q
    have:=ih fun a ha=>q a (List.mem_cons_of_mem _ ha)
    have q0:=q y List.mem_cons_self
    rw [List.filter_cons,List.filter_cons]
    cases hg:g y
    ·simp only [Bool.false_eq_true,if_false]
     split
     ·rw [List.length_cons];omega
     ·exact this
    ·rw [q0 hg]
     simp only [if_true,List.length_cons]
     omega
  obtain⟨a,ha,hf,hg⟩:=h2
  have hr:=fun a ha=>h a (List.mem_cons_of_mem x ha)
  rw [List.filter_cons,List.filter_cons]
  rcases List.mem_cons.mp ha with rfl | ha
  ·rw [hf,hg]
   have:=le r hr
   simp
   omega
  ·have ih:=Od hr ⟨a,ha,hf,hg⟩
   have q0:=h x List.mem_cons_self
   cases hx:g x
   ·simp only [Bool.false_eq_true,if_false]
    split
    ·rw [List.length_cons];omega
    ·exact ih
   ·rw [q0 hx]
    simp only [if_true,List.length_cons]
    omega
noncomputable def gK (jk:List (Key×V)) (x:Str):Bool:=(b8 jk (Sum.inr x)).isSome
noncomputable def oW (ps:List PD) (jk:List (Key×V)):Nat:=(ps.filter fun p=>!gK jk p.name).length
theorem JQ (jk:List (Key×V)) (x y:Str) (v:V):gK (putK jk (Sum.inr x) v) y=(decide (y=x) || gK jk y):=by
 unfold gK
 rw [Ra]
 by_cases h:y=x
 ·subst h;simp
 ·have:¬(Sum.inr y:Key)=Sum.inr x:=fun z=>h (Sum.inr.inj z)
  rw [if_neg this]
  simp [h]
theorem JP {ps:List PD} {jk jk':List (Key×V)} (h:∀x,gK jk x=true->gK jk' x=true) {p:PD} (hp:p∈ps) (h1:gK jk p.name=false) (h2:gK jk' p.name=true):oW ps jk' <oW ps jk:=by
 refine Od (fun a _ q=>?_) ⟨p,hp,by simp [h1],by simp [h2]⟩
 cases hj:gK jk a.name
 ·rfl
 ·rw [h _ hj] at q;cases q
theorem PN {ps:List PD} (pm:(ps.flatMap (·.outs)).Perm (ps.flatMap (·.ins))) {l:Str} (h:l∈ps.flatMap (·.outs)):∃a∈ps,∃b∈ps,l∈a.outs/\l∈b.ins:=by
 obtain⟨a,ha,hl⟩:=List.mem_flatMap.mp h
 obtain⟨b,hb,hl2⟩:=List.mem_flatMap.mp (pm.mem_iff.mp h)
 exact⟨a,ha,b,hb,hl,hl2⟩
theorem Wu {ps:List PD} (no:(ps.flatMap (·.outs)).Nodup) (ni:(ps.flatMap (·.ins)).Nodup) (pm:(ps.flatMap (·.outs)).Perm (ps.flatMap (·.ins))) {jk:List (Key×V)} (hang:∃y,∀q∈ps,∃x∈q.ins ++ q.outs,Drawn.ji ps x y)
  (cl:∀a∈ps,∀b∈ps,∀l,l∈a.outs->l∈b.ins->gK jk a.name=gK jk b.name) {p0:PD} (hp0:p0∈ps) (h0:gK jk p0.name=true):∀q∈ps,gK jk q.name=true:=by
 obtain⟨y,hy⟩:=hang
 refine Drawn.Lb (J:=fun p=>gK jk p.name=true) (fun l p q hp hq hlp hlq hJ=>?_) hy hp0 h0
 have same:∀{f:PD->List Str},(ps.flatMap f).Nodup->∀{a b:PD},a∈ps->b∈ps->l∈f a->l∈f b->a.name=b.name:=fun {f} nd {a b} ha hb h1 h2=>by
  obtain⟨i,hi,ei⟩:=List.mem_iff_getElem.mp ha
  obtain⟨j,hj,ej⟩:=List.mem_iff_getElem.mp hb
  have:=Drawn.O5 f nd (i:=i) (j:=j) (p:=a) (q:=b) (l:=l) (by rw [List.getElem?_eq_getElem hi,ei]) (by rw [List.getElem?_eq_getElem hj,ej]) h1 h2
  subst this
  rw [<-ei,<-ej]
 have hl:l∈ps.flatMap (·.outs):=by
  rcases List.mem_append.mp hlp with h | h
  ·exact pm.mem_iff.mpr (List.mem_flatMap.mpr ⟨p,hp,h⟩)
  ·exact List.mem_flatMap.mpr ⟨p,hp,h⟩
 obtain⟨a,ha,b,hb,la,lb⟩:=PN pm hl
 have e:=cl a ha b hb l la lb
 have np:p.name=a.name∨p.name=b.name:=(List.mem_append.mp hlp).elim (fun h=>.inr (same ni hp hb h lb)) fun h=>.inl (same no hp ha h la)
 have nq:q.name=a.name∨q.name=b.name:=(List.mem_append.mp hlq).elim (fun h=>.inr (same ni hq hb h lb)) fun h=>.inl (same no hq ha h la)
 show gK jk q.name=true
 change gK jk p.name=true at hJ
 rcases np with np | np <;> rcases nq with nq | nq <;> rw [np] at hJ <;> rw [nq]
 ·exact hJ
 ·rw [<-e];exact hJ
 ·rw [e];exact hJ
 ·exact hJ
theorem Gr {z:Str} (h:nameB z=true):z.length<=100:=by
 unfold nameB at h
 rw [<-m8]
 split at h
 ·simp_all
 ·rename_i e
  rw [e]
  simp only [Bool.and_eq_true,decide_eq_true_eq] at h
  rw [List.length_cons]
  omega
structure zY (ls:List aG) (ps:List PD):Prop where
 lok:∀l∈ls,1<=l.room/\l.room<=199/\(l.first.length:Int)<=l.room/\∀v∈l.first,0<=v/\v <1000000000
 pok:∀p∈ps,tM p
 lnm:∀l∈ls,nameB l.name=true
 pnm:∀p∈ps,nameB p.name=true
 pnd:(ps.map (·.name)).Nodup
 whole:FZ (ls.map (·.name)) ps
 l1:1<=ls.length
 l24:ls.length<=24
 p1:1<=ps.length
 p16:ps.length<=16
theorem Io {c:Int} {n:Nat} (hn:n<=26) {x:Str} (h:x∈(List.range n).map (cJ c)):∃k,k <n/\x=cJ c k:=by
 obtain⟨k,hk,rfl⟩:=List.mem_map.mp h
 exact⟨k,List.mem_range.mp hk,rfl⟩
theorem QQ.fit {c3 c4:Int} {ls:List aG} {ps:List PD} (h:QQ c3 c4 ls ps):zY ls ps:=by
 have a:=h.l17
 have b:=h.p16
 refine⟨fun l hl=>?_,h.pok,fun l hl=>?_,fun p hp=>?_,?_,h.whole,h.l1,by omega,h.p1,h.p16⟩
 ·obtain⟨x1,x2,x3,x4⟩:=h.lok l hl
  exact⟨x1,by omega,x3,x4⟩
 ·obtain⟨k,hk,e⟩:=Io (c:=c3) (n:=ls.length) (by omega) (by rw [<-h.ln];exact List.mem_map.mpr ⟨l,hl,rfl⟩)
  rw [e]
  exact My _ (by omega)
 ·obtain⟨k,hk,e⟩:=Io (c:=c4) (n:=ps.length) (by omega) (h.pn.mem_iff.mpr (List.mem_map.mpr ⟨p,hp,rfl⟩))
  rw [e]
  exact My _ (by omega)
 ·exact h.pn.nodup_iff.mp (zH _ (by omega))
theorem QQ.lane20 {c3 c4:Int} {ls:List aG} {ps:List PD} (h:QQ c3 c4 ls ps):cJ c3 20∉ls.map (·.name):=fun z=>by
 have a:=h.l17
 rw [h.ln] at z
 obtain⟨k,hk,e⟩:=Io (by omega) z
 have:=JT _ (by omega) (by omega) e
 omega
noncomputable def fc (ls:List aG):List (Key×V):=ls.map fun l=>((Sum.inr l.name:Key),V.int l.room)
noncomputable def bK (FL:List (aG×Addr)):List (Key×V):=FL.map fun q=>((Sum.inr q.1.name:Key),V.ref q.2)
noncomputable def d8 (PL:List (PD×Addr)):List (Key×V):=PL.map fun q=>((Sum.inr q.1.name:Key),V.ref q.2)
theorem tE (ls:List aG):(fc ls).map (·.1)=(ls.map (·.name)).map (fun x=>(Sum.inr x:Key)):=by unfold fc;rw [List.map_map,List.map_map];rfl
theorem rO (FL:List (aG×Addr)):(bK FL).map (·.1)=((FL.map (·.1)).map (·.name)).map (fun x=>(Sum.inr x:Key)):=by unfold bK;rw [List.map_map,List.map_map,List.map_map];rfl
theorem zO (PL:List (PD×Addr)):(d8 PL).map (·.1)=((PL.map (·.1)).map (·.name)).map (fun x=>(Sum.inr x:Key)):=by unfold d8;rw [List.map_map,List.map_map,List.map_map];rfl
structure vI (K:PySem.W.Frag) (t:jy) (H:Hp) (n:Addr) (ls:List aG) (ps:List PD) (dx:Addr) (fs:List (Str×V)) (R F Pd G Tk:Addr) (FL:List (aG×Addr)) (PL:List (PD×Addr)):Prop where
 obj:H n=some (.ins t.dF dx fs)
 fl:Ti ["lane_names", "part_names", "names_of_kind", "gives", "takes", "need_lane_name", "room_of", "first_of", "giver_of", "taker_of", "part_of", "__init__"] [("rooms",.ref R),("firsts",.ref F),("parts",.ref Pd),("givers",.ref G),("takers",.ref Tk)] fs
 rooms:H R=some (.dK (fc ls))
 firsts:H F=some (.dK (bK FL))
 parts:H Pd=some (.dK (d8 PL))
 givers:H G=some (.dK (cQ (·.outs) ps))
 takers:H Tk=some (.dK (cQ (·.ins) ps))
 fls:FL.map (·.1)=ls
 pls:PL.map (·.1)=ps
 tups:∀q∈FL,eN K H q.2 (q.1.first.map V.int)
 pats:∀q∈PL,fD K t H q.2 q.1.kind (.str q.1.name) (q.1.nums.map V.int) (q.1.ins.map V.str) (q.1.outs.map V.str)
 fit:zY ls ps
 neRF:R≠F
inductive gA (K:PySem.W.Frag) (t:jy) (H:Hp) (n:Addr) (ls:List aG) (ps:List PD):Prop where
 | mk:∀dx fs R F Pd G Tk FL PL,vI K t H n ls ps dx fs R F Pd G Tk FL PL->gA K t H n ls ps
section
variable {H H':Hp} {n dx R F Pd G Tk:Addr} {ls:List aG} {ps:List PD} {fs:List (Str×V)} {FL:List (aG×Addr)} {PL:List (PD×Addr)}
theorem vI.same (N:vI K t H n ls ps dx fs R F Pd G Tk FL PL) (s:aM H H'):vI K t H' n ls ps dx fs R F Pd G Tk FL PL:=
 ⟨s _ _ N.obj,N.fl,s _ _ N.rooms,s _ _ N.firsts,s _ _ N.parts,s _ _ N.givers,s _ _ N.takers,N.fls,N.pls,fun q hq=>s.seqT (N.tups q hq),fun q hq=>(N.pats q hq).same s,N.fit,N.neRF⟩
theorem gA.same (N:gA K t H n ls ps) (s:aM H H'):gA K t H' n ls ps:=by
 obtain⟨dx,fs,R,F,Pd,G,Tk,FL,PL,N⟩:=N
 exact⟨dx,fs,R,F,Pd,G,Tk,FL,PL,N.same s⟩
theorem vI.s (N:vI K t H n ls ps dx fs R F Pd G Tk FL PL):gA K t H n ls ps:=⟨dx,fs,R,F,Pd,G,Tk,FL,PL,N⟩
theorem vI.room (N:vI K t H n ls ps dx fs R F Pd G Tk FL PL) {l:aG} (hl:l∈ls):b8 (fc ls) (Sum.inr l.name)=some (.int l.room):=
 iQ (by rw [tE];exact fH N.fit.whole.nod) (List.mem_map.mpr ⟨l,hl,rfl⟩)
theorem vI.firstV (N:vI K t H n ls ps dx fs R F Pd G Tk FL PL) {q:aG×Addr} (hq:q∈FL):b8 (bK FL) (Sum.inr q.1.name)=some (.ref q.2):=
 iQ (by rw [rO,N.fls];exact fH N.fit.whole.nod) (List.mem_map.mpr ⟨q,hq,rfl⟩)
theorem vI.partV (N:vI K t H n ls ps dx fs R F Pd G Tk FL PL) {q:PD×Addr} (hq:q∈PL):b8 (d8 PL) (Sum.inr q.1.name)=some (.ref q.2):=
 iQ (by rw [zO,N.pls];exact fH N.fit.pnd) (List.mem_map.mpr ⟨q,hq,rfl⟩)
theorem vI.ono (N:vI K t H n ls ps dx fs R F Pd G Tk FL PL):(ps.flatMap (·.outs)).Nodup:=N.fit.whole.outs.nodup_iff.mpr N.fit.whole.nod
theorem vI.ini (N:vI K t H n ls ps dx fs R F Pd G Tk FL PL):(ps.flatMap (·.ins)).Nodup:=N.fit.whole.ins.nodup_iff.mpr N.fit.whole.nod
end
theorem Er {α:Type} {f:α->Str} {xs:List α} {x:Str}:inV (.str x) (xs.map fun p=>V.str (f p))=decide (x∈xs.map f):=by
 rw [Bool.eq_iff_iff]
 unfold inV
 rw [List.any_eq_true,decide_eq_true_eq]
 constructor
 ·rintro⟨v,hv,e⟩
  obtain⟨p,hp,rfl⟩:=List.mem_map.mp hv
  exact List.mem_map.mpr ⟨p,hp,by simpa [Kv] using e⟩
 ·intro h
  obtain⟨p,hp,rfl⟩:=List.mem_map.mp h
  exact⟨.str (f p),List.mem_map.mpr ⟨p,hp,rfl⟩,by simp [Kv]⟩
noncomputable def dW (ps:List PD) (x:Str):List V:=(ps.filter fun p=>decide (eG p.kind=x)).map fun p=>V.str p.name
theorem OD (ps:List PD) (x:Str) (p:PD):dW (ps ++ [p]) x=if eG p.kind=x then dW ps x ++ [V.str p.name] else dW ps x:=by
 unfold dW
 rw [List.filter_append,List.map_append]
 by_cases h:eG p.kind=x
 ·rw [if_pos h];simp [h]
 ·rw [if_neg h];simp [h]
theorem xn (ps:List PD) (x:Str):(dW ps x).length<=ps.length:=by
 unfold dW
 rw [lM]
 exact List.length_filter_le _ _
noncomputable def ZV (p:PD):Bool:=decide (eG p.kind= "choose") || decide (eG p.kind= "split")
noncomputable def oddN (ps:List PD):V:=match ps.find? ZV with
 | some p=>.str p.name
 | none=>.non
inductive J0 (K:PySem.W.Frag) (H:Hp) (v:V) (l:aG):Prop where
 | mk:∀q f,v=.ref q->H q=some (.tup [.str l.name,.int l.room,.ref f])->eN K H f (l.first.map V.int)->J0 K H v l
inductive Q9 (K:PySem.W.Frag) (H:Hp) (v:V) (p:PD):Prop where
 | mk:∀q a1 a2 a3,v=.ref q->H q=some (.tup [.str (eG p.kind),.str p.name,.ref a1,.ref a2,.ref a3])->eN K H a1 (p.nums.map V.int)->eN K H a2 (p.ins.map V.str)->eN K H a3 (p.outs.map V.str)->Q9 K H v p
theorem J0.same {H H':Hp} {v:V} {l:aG} (h:J0 K H v l) (s:aM H H'):J0 K H' v l:=by
 obtain⟨q,f,e,h1,h2⟩:=h
 exact⟨q,f,e,s _ _ h1,s.seqT h2⟩
theorem Q9.same {H H':Hp} {v:V} {p:PD} (h:Q9 K H v p) (s:aM H H'):Q9 K H' v p:=by
 obtain⟨q,a1,a2,a3,e,h1,h2,h3,h4⟩:=h
 exact⟨q,a1,a2,a3,e,s _ _ h1,s.seqT h2,s.seqT h3,s.seqT h4⟩
structure Ma (K:PySem.W.Frag) (H:Hp) (T a b:Addr) (ls:List aG) (ps:List PD):Prop where
 tup:H T=some (.tup [.ref a,.ref b])
 lanes:∃xs,H a=some (.lst xs)/\iY (J0 K H) xs ls
 parts:∃xs,H b=some (.lst xs)/\iY (Q9 K H) xs ps
theorem Ma.same {H H':Hp} {T a b:Addr} {ls:List aG} {ps:List PD} (h:Ma K H T a b ls ps) (s:aM H H'):Ma K H' T a b ls ps:=by
 obtain⟨h1,⟨xs,e1,a1⟩,⟨ys,e2,a2⟩⟩:=h
 exact⟨s _ _ h1,⟨xs,s _ _ e1,a1.imp fun _ _ h=>h.same s⟩,⟨ys,s _ _ e2,a2.imp fun _ _ h=>h.same s⟩⟩
structure Tr (H:Hp) (f:Addr) (L:List (Addr×HO)) (Hk:Hp):Prop where
 but:lD f H Hk
 all:∀p∈L,Hk p.1=some p.2
 fre:∀p∈L,p.1=f∨H p.1=none
 nod:(L.map Prod.fst).Nodup
 obj:∃o,(f,o)∈L
theorem Tr.free {H Hk:Hp} {f x:Addr} {L:List (Addr×HO)} (T:Tr H f L Hk) (nx:Hk x=none):H x=none:=by
 cases e:H x with
 | none=>rfl
 | some o=>
  by_cases h:x=f
  ·obtain⟨u,hu⟩:=T.obj
   have:=T.all _ hu
   rw [h] at nx
   rw [nx] at this
   cases this
  ·rw [T.but x o h e] at nx
   cases nx
theorem Tr.new {H Hk:Hp} {f x:Addr} {L:List (Addr×HO)} {o:HO} (T:Tr H f L Hk) (nx:Hk x=none):Tr H f (L ++ [(x,o)]) (upd Hk x o):=by
 have hne:∀p∈L,p.1≠x:=fun p hp z=>by have:=T.all p hp;rw [z,nx] at this;cases this
 have hx:=T.free nx
 refine⟨fun b u n e=>by rw [aK (aD e hx)];exact T.but b u n e,fun p hp=>?_,fun p hp=>?_,?_,?_⟩
 ·rcases List.mem_append.mp hp with h | h
  ·rw [aK (hne p h)];exact T.all p h
  ·rw [List.mem_singleton] at h;subst h;exact au
 ·rcases List.mem_append.mp hp with h | h
  ·exact T.fre p h
  ·rw [List.mem_singleton] at h;subst h;exact .inr hx
 ·rw [List.map_append,List.nodup_append]
  refine⟨T.nod,by simp,fun a ha b hb=>?_⟩
  obtain⟨p,hp,rfl⟩:=List.mem_map.mp ha
  simp at hb
  subst hb
  exact hne p hp
 ·obtain⟨u,hu⟩:=T.obj
  exact⟨u,List.mem_append.mpr (.inl hu)⟩
theorem Tr.same {H Hk Hk':Hp} {f:Addr} {L:List (Addr×HO)} (T:Tr H f L Hk) (s:aM Hk Hk'):Tr H f L Hk':=
 ⟨fun b u n e=>s _ _ (T.but b u n e),fun p hp=>s _ _ (T.all p hp),T.fre,T.nod,T.obj⟩
theorem Tr.put {H Hk:Hp} {f x:Addr} {o o':HO} {L1 L2:List (Addr×HO)} (T:Tr H f (L1 ++ (x,o):: L2) Hk):Tr H f (L1 ++ (x,o'):: L2) (upd Hk x o'):=by
 have hx:x=f∨H x=none:=T.fre (x,o) (by simp)
 have nd:=T.nod
 rw [List.map_append,List.map_cons,List.nodup_append] at nd
 obtain⟨n1,n2,n3⟩:=nd
 rw [List.nodup_cons] at n2
 refine⟨fun b u n e=>?_,fun p hp=>?_,fun p hp=>?_,?_,?_⟩
 ·have:b≠x:=by
   rcases hx with rfl | hx
   ·exact n
   ·exact aD e hx
  rw [aK this];exact T.but b u n e
 ·rcases List.mem_append.mp hp with h | h
  ·have:p.1≠x:=n3 p.1 (List.mem_map.mpr ⟨p,h,rfl⟩) x (by simp)
   rw [aK this];exact T.all p (by simp [h])
  ·rcases List.mem_cons.mp h with rfl | h
   ·exact au
   ·have:p.1≠x:=fun z=>n2.1 (by rw [<-z];exact List.mem_map.mpr ⟨p,h,rfl⟩)
    rw [aK this];exact T.all p (by simp [h])
 ·rcases List.mem_append.mp hp with h | h
  ·exact T.fre p (by simp [h])
  ·rcases List.mem_cons.mp h with rfl | h
   ·exact hx
   ·exact T.fre p (by simp [h])
 ·have:=T.nod
  rw [List.map_append,List.map_cons] at this ⊢
  exact this
 ·obtain⟨u,hu⟩:=T.obj
  rcases List.mem_append.mp hu with h | h
  ·exact⟨u,by simp [h]⟩
  ·rcases List.mem_cons.mp h with h | h
   ·cases h;exact⟨o',by simp⟩
   ·exact⟨u,by simp [h]⟩
theorem Tr.start {H:Hp} {f:Addr} {o:HO} (e:H f=some o):Tr H f [(f,o)] H:=⟨lD.refl _,fun p hp=>by rw [List.mem_singleton] at hp;subst hp;exact e,fun p hp=>by rw [List.mem_singleton] at hp;subst hp;exact .inl rfl,by simp,o,by simp⟩
inductive Vr (K:PySem.W.Frag) (H:Hp) (v:V) (l:aG):Prop where
 | mk:∀q f,v=.ref q->H q=some (.tup [.str l.name,.int l.room,.ref f])->ym K H f (l.first.map V.int)->Vr K H v l
inductive XH (K:PySem.W.Frag) (H:Hp) (v:V) (p:PD):Prop where
 | mk:∀q a1 a2 a3,v=.ref q->H q=some (.tup [.str (eG p.kind),.str p.name,.ref a1,.ref a2,.ref a3])->ym K H a1 (p.nums.map V.int)->ym K H a2 (p.ins.map V.str)->ym K H a3 (p.outs.map V.str)->XH K H v p
structure Hand (K:PySem.W.Frag) (H:Hp) (Ll Lp:Addr) (ls:List aG) (ps:List PD):Prop where
 ll:∃xs,bF K H Ll xs/\iY (Vr K H) xs ls
 lp:∃xs,bF K H Lp xs/\iY (XH K H) xs ps
theorem oO {α:Type} {f:α->Str} {xs:List α} (nd:(xs.map f).Nodup) {j:Nat} {x:α} (h:xs[j]?=some x):f x∉(xs.take j).map f:=fun hm=>by
 have hj:=(List.getElem?_eq_some_iff.mp h).1
 have e:xs[j]=x:=(List.getElem?_eq_some_iff.mp h).2
 rw [List.map_take] at hm
 obtain⟨i,hi,ei⟩:=List.mem_iff_getElem.mp hm
 rw [List.length_take,lM] at hi
 rw [List.getElem_take] at ei
 have e2:(xs.map f)[j]'(by rw [lM];exact hj)=f x:=by rw [List.getElem_map,e]
 have:=(List.getElem_inj nd).mp (ei.trans e2.symm)
 omega
theorem Mv {f:PD->List Str} {ps:List PD} (nd:(ps.flatMap f).Nodup) {j:Nat} {p:PD} (h:ps[j]?=some p):(f p).Nodup/\∀z∈f p,z∉(ps.take j).flatMap f:=by
 have hj:=(List.getElem?_eq_some_iff.mp h).1
 have e:ps[j]=p:=(List.getElem?_eq_some_iff.mp h).2
 have e2:ps=ps.take j ++ p:: ps.drop (j+1):=by rw [<-e,<-List.drop_eq_getElem_cons hj,List.take_append_drop]
 rw [e2,List.flatMap_append,List.flatMap_cons,List.nodup_append] at nd
 obtain⟨n1,n2,n3⟩:=nd
 rw [List.nodup_append] at n2
 exact⟨n2.1,fun z hz hm=>n3 z hm z (List.mem_append.mpr (.inl hz)) rfl⟩
structure rF (K:PySem.W.Frag) (t:jy) (H:Hp) (f n E G Kp D Rw:Addr):Prop where
 ex:∃dx fs,H f=some (.ins t.bY dx fs)/\Ti ["holds", "held_now", "gone_by", "row_left", "head", "heads", "lacking", "row_ended", "deed", "do"] [("net",.ref n),("ever",.ref E),("gone",.ref G),("kept",.ref Kp),("done",.ref D),("rows",.ref Rw)] fs
theorem rF.same {H H':Hp} {f n E G Kp D Rw:Addr} (h:rF K t H f n E G Kp D Rw) (s:aM H H'):rF K t H' f n E G Kp D Rw:=by
 obtain⟨dx,fs,h1,h2⟩:=h
 exact⟨dx,fs,s _ _ h1,h2⟩
noncomputable def dM (i:Nat) (xs:List Str) (hs:List V):V:=match (places i hs).find? (vU hs) with
 | some q=>((xs[q]?).map V.str).getD .non
 | none=>.non
theorem oN {H:Hp}:∀{rs:List Addr} {vss:List (List V)} {j:Nat} {r:Addr},cM H rs vss->rs[j]?=some r->∃vs,vss[j]?=some vs/\H r=some (.tup vs)
 | _,_,_,_,.nil,e=>by simp at e
 | _,_,0,_,.cons h _,e=>by simp at e;subst e;exact⟨_,rfl,h⟩
 | _,_,j+1,_,.cons _ t,e=>by
  obtain⟨vs,h1,h2⟩:=oN (j:=j) t (by simpa using e)
  exact⟨vs,by simpa using h1,h2⟩
theorem places_len {i:Nat} {hs:List V} (h:yE i hs):(places i hs).length<=3:=by
 have h3:=Gj i
 have h1:=h.1
 unfold places
 by_cases hi:i=9
 ·rw [if_pos hi]
  split <;> simp
 ·rw [if_neg hi,List.length_range]
  omega
theorem Tr.got {H Hk Hk':Hp} {f x:Addr} {L:List (Addr×HO)} {o:HO} (T:Tr H f L Hk) (s:aM Hk Hk') (nx:Hk x=none) (ex:Hk' x=some o):Tr H f (L ++ [(x,o)]) Hk':=by
 have T':=T.same s
 have hx:=T.free nx
 refine⟨T'.but,fun p hp=>?_,fun p hp=>?_,?_,?_⟩
 ·rcases List.mem_append.mp hp with h | h
  ·exact T'.all p h
  ·rw [List.mem_singleton] at h;subst h;exact ex
 ·rcases List.mem_append.mp hp with h | h
  ·exact T.fre p h
  ·rw [List.mem_singleton] at h;subst h;exact .inr hx
 ·rw [List.map_append,List.nodup_append]
  refine⟨T.nod,by simp,fun a ha b hb z=>?_⟩
  obtain⟨p,hp,rfl⟩:=List.mem_map.mp ha
  simp at hb
  have:=T.all p hp
  rw [z,hb,nx] at this
  cases this
 ·obtain⟨u,hu⟩:=T.obj
  exact⟨u,List.mem_append.mpr (.inl hu)⟩
theorem Ga {α:Type} {a b c d e f g x:α} {M:List α} (h:x∈M):x∈a:: b:: c:: d:: e:: f:: g:: M:=by simp [h]
theorem Tr.perm {H Hk:Hp} {f:Addr} {L L':List (Addr×HO)} (T:Tr H f L Hk) (h:L.Perm L'):Tr H f L' Hk:=
 ⟨T.but,fun p hp=>T.all p (h.mem_iff.mpr hp),fun p hp=>T.fre p (h.mem_iff.mpr hp),(h.map _).nodup_iff.mp T.nod,by obtain⟨o,ho⟩:=T.obj;exact⟨o,h.mem_iff.mp ho⟩⟩
theorem Tr.sub {H Hk:Hp} {f:Addr} {L L':List (Addr×HO)} (T:Tr H f L Hk) (h:L'.Sublist L) (hf:∃o,(f,o)∈L'):Tr H f L' Hk:=
 ⟨T.but,fun p hp=>T.all p (h.subset hp),fun p hp=>T.fre p (h.subset hp),T.nod.sublist (h.map _),hf⟩
noncomputable def jW (EL:List (aG×Addr)):List (Addr×HO):=EL.map fun q=>(q.2,HO.lst (q.1.first.map V.int))
noncomputable def dg (g:Str->Nat) (ls:List aG):List (Key×V):=ls.map fun l=>((Sum.inr l.name:Key),V.int (g l.name:Nat))
noncomputable def bZ (k:Str->Int) (ps:List PD):List (Key×V):=ps.map fun p=>((Sum.inr p.name:Key),V.int (k p.name))
theorem Dm (g:Str->Nat) (ls:List aG):(dg g ls).map (·.1)=(ls.map (·.name)).map (fun x=>(Sum.inr x:Key)):=by unfold dg;rw [List.map_map,List.map_map];rfl
theorem Em (k:Str->Int) (ps:List PD):(bZ k ps).map (·.1)=(ps.map (·.name)).map (fun x=>(Sum.inr x:Key)):=by unfold bZ;rw [List.map_map,List.map_map];rfl
noncomputable def fY (ps:List PD) (x:Str):Int:=((ps.find? fun p=>decide (p.name=x)).map fun p=>if p.kind=5 then p.nums.headD 0 else 0).getD 0
noncomputable def Iw (p:PD):Int:=if p.kind=5 then p.nums.headD 0 else 0
theorem find_name {α:Type} {f:α->Str}:∀{ls:List α} (_:(ls.map f).Nodup) {l:α} (_:l∈ls),ls.find? (fun x=>decide (f x=f l))=some l
 | a:: r,nd,l,hl=>by
  rw [List.map_cons,List.nodup_cons] at nd
  rcases List.mem_cons.mp hl with rfl | h
  ·rw [List.find?_cons_of_pos (by simp)]
  ·have:¬f a=f l:=fun z=>nd.1 (by rw [z];exact List.mem_map.mpr ⟨l,h,rfl⟩)
   rw [List.find?_cons_of_neg (by simp [this])]
   exact find_name nd.2 h
theorem zY.inL {ls:List aG} {ps:List PD} (F:zY ls ps) {p:PD} (hp:p∈ps) {x:Str} (hx:x∈p.ins ++ p.outs):∃l∈ls,l.name=x:=by
 rcases List.mem_append.mp hx with h | h
 ·exact List.mem_map.mp (F.whole.ins.mem_iff.mp (List.mem_flatMap.mpr ⟨p,hp,h⟩))
 ·exact List.mem_map.mp (F.whole.outs.mem_iff.mp (List.mem_flatMap.mpr ⟨p,hp,h⟩))
theorem KQ {α β:Type} {f:α->β}:∀{l:List α},(l.map f).Nodup->∀{a b:α},a∈l->b∈l->f a=f b->a=b
 | x:: r,nd,a,b,ha,hb,e=>by
  rw [List.map_cons,List.nodup_cons] at nd
  rcases List.mem_cons.mp ha with h1 | h1
  ·rcases List.mem_cons.mp hb with h2 | h2
   ·rw [h1,h2]
   ·exact absurd (List.mem_map.mpr ⟨b,h2,by rw [<-e,h1]⟩) nd.1
  ·rcases List.mem_cons.mp hb with h2 | h2
   ·exact absurd (List.mem_map.mpr ⟨a,h1,by rw [e,h2]⟩) nd.1
   ·exact KQ nd.2 h1 h2 e
noncomputable def We:V->Int
 | .int n=>n
 | _=>0
structure FS where
 ev:Str->List Int
 g:Str->Nat
 k:Str->Int
 d:Str->Nat
 r:Str->List Int
structure mZ where
 (f n E G Kp D Rw:Addr)
 (ea ra:Str->Addr)
noncomputable def pZ (ps:List PD):List PD:=ps.filter fun p=>decide (p.kind=0)
noncomputable def S9 (ea:Str->Addr) (ls:List aG):List (Key×V):=ls.map fun l=>((Sum.inr l.name:Key),V.ref (ea l.name))
noncomputable def K7 (ra:Str->Addr) (ps:List PD):List (Key×V):=(pZ ps).map fun p=>((Sum.inr p.name:Key),V.ref (ra p.name))
noncomputable def mZ.cells (A:mZ) (ls:List aG) (ps:List PD):List Addr:=A.E:: A.G:: A.Kp:: A.D:: A.Rw:: (ls.map (fun l=>A.ea l.name) ++ (pZ ps).map (fun p=>A.ra p.name))
structure dU (K:PySem.W.Frag) (t:jy) (H:Hp) (A:mZ) (ls:List aG) (ps:List PD) (S:FS):Prop where
 at':rF K t H A.f A.n A.E A.G A.Kp A.D A.Rw
 ever:H A.E=some (.dK (S9 A.ea ls))
 lists:∀l∈ls,H (A.ea l.name)=some (.lst ((S.ev l.name).map V.int))
 gone:H A.G=some (.dK (dg S.g ls))
 kept:H A.Kp=some (.dK (bZ S.k ps))
 done:H A.D=some (.dK (bZ (fun x=>(S.d x:Int)) ps))
 rows:H A.Rw=some (.dK (K7 A.ra ps))
 rlst:∀p∈ps,p.kind=0->H (A.ra p.name)=some (.lst ((S.r p.name).map V.int))
 nod:(A.cells ls ps).Nodup
theorem dU.same {H H':Hp} {A:mZ} {ls:List aG} {ps:List PD} {S:FS} (h:dU K t H A ls ps S) (s:aM H H'):dU K t H' A ls ps S:=
 ⟨h.at'.same s,s _ _ h.ever,fun l hl=>s _ _ (h.lists l hl),s _ _ h.gone,s _ _ h.kept,s _ _ h.done,s _ _ h.rows,fun p hp h0=>s _ _ (h.rlst p hp h0),h.nod⟩
structure Et (b:Nat) (ls:List aG) (ps:List PD) (S:FS):Prop where
 vb:∀l∈ls,∀v∈S.ev l.name,0<=v/\v <1000000000
 rb:∀p∈ps,p.kind=0->∀v∈S.r p.name,0<=v/\v <1000000000
 dl:∀p∈ps,p.kind=0->S.d p.name<=(S.r p.name).length
 len:∀l∈ls,(S.ev l.name).length<=b
 rl:∀p∈ps,p.kind=0->(S.r p.name).length<=300
theorem Qf (ea:Str->Addr) (ls:List aG):(S9 ea ls).map (·.1)=(ls.map (·.name)).map (fun x=>(Sum.inr x:Key)):=by unfold S9;rw [List.map_map,List.map_map];rfl
theorem Bv {ea:Str->Addr} {ls:List aG} (nd:(ls.map (·.name)).Nodup) {l:aG} (hl:l∈ls):b8 (S9 ea ls) (Sum.inr l.name)=some (.ref (ea l.name)):=
 iQ (by rw [Qf];exact fH nd) (List.mem_map.mpr ⟨l,hl,rfl⟩)
theorem vm {g:Str->Nat} {ls:List aG} (nd:(ls.map (·.name)).Nodup) {l:aG} (hl:l∈ls):b8 (dg g ls) (Sum.inr l.name)=some (.int (g l.name:Nat)):=
 iQ (by rw [Dm];exact fH nd) (List.mem_map.mpr ⟨l,hl,rfl⟩)
theorem u5 {k:Str->Int} {ps:List PD} (nd:(ps.map (·.name)).Nodup) {p:PD} (hp:p∈ps):b8 (bZ k ps) (Sum.inr p.name)=some (.int (k p.name)):=
 iQ (by rw [Em];exact fH nd) (List.mem_map.mpr ⟨p,hp,rfl⟩)
theorem GZ (ra:Str->Addr) (ps:List PD):(K7 ra ps).map (·.1)=((pZ ps).map (·.name)).map (fun x=>(Sum.inr x:Key)):=by unfold K7;rw [List.map_map,List.map_map];rfl
theorem Tc {ps:List PD} (nd:(ps.map (·.name)).Nodup):((pZ ps).map (·.name)).Nodup:=nd.sublist (List.filter_sublist.map _)
theorem uQ {ra:Str->Addr} {ps:List PD} (nd:(ps.map (·.name)).Nodup) {p:PD} (hp:p∈ps) (h0:p.kind=0):b8 (K7 ra ps) (Sum.inr p.name)=some (.ref (ra p.name)):=
 iQ (by rw [GZ];exact fH (Tc nd)) (List.mem_map.mpr ⟨p,List.mem_filter.mpr ⟨hp,by simp [h0]⟩,rfl⟩)
theorem Hu {ra:Str->Addr} {ps:List PD} (nd:(ps.map (·.name)).Nodup) {p:PD} (hp:p∈ps) (h0:p.kind≠0):b8 (K7 ra ps) (Sum.inr p.name)=none:=by
 refine iI ?_
 rw [GZ]
 intro z
 obtain⟨b,hb,e⟩:=List.mem_map.mp z
 cases e
 obtain⟨p',hp',en⟩:=List.mem_map.mp hb
 have hf:=List.mem_filter.mp hp'
 have a1:=find_name nd hf.1
 have a2:=find_name nd hp
 rw [en] at a1
 rw [a1] at a2
 cases a2
 exact h0 (by simpa using hf.2)
noncomputable def pJ (S:FS) (x:Str):V:=(((S.ev x)[S.g x]?).map V.int).getD .non
noncomputable def bw (S:FS) (p:PD):List V:=p.ins.map (pJ S)
structure my where
 tk:List Str
 gv:List (Str×Int)
 kv:Int
noncomputable def strAt (xs:List Str) (q:Nat):Str:=(xs[q]?).getD Str.empty
noncomputable def Bu (S:FS) (p:PD):List Int:=if p.kind=0 then((S.r p.name)[S.d p.name]?).toList else(places p.kind (bw S p)).map fun q=>We (((bw S p)[q]?).getD .non)
noncomputable def vB (S:FS) (p:PD):Bool:=decide (p.kind=0) && decide (S.d p.name=(S.r p.name).length)
noncomputable def jl (S:FS) (p:PD):Option my:=if dM p.kind p.ins (bw S p)≠.non then none else if vB S p=true then none else
 some ⟨(places p.kind (bw S p)).map (strAt p.ins),(cT p.kind p.nums (Bu S p) (S.k p.name)).map fun pv=>(strAt p.outs pv.1.toNat,pv.2),fV p.kind (Bu S p) (S.k p.name)⟩
inductive mC (M:List Addr) (H:Hp) (U:Addr) (dd:my):Prop where
 | mk:∀La Lg rs,H U=some (.tup [.ref La,.ref Lg,.int dd.kv])->H La=some (.lst (dd.tk.map V.str))->H Lg=some (.lst (rs.map V.ref))->(cM H rs (dd.gv.map fun q=>[.str q.1,.int q.2]))->La∉M->Lg∉M->mC M H U dd
theorem mC.same {M:List Addr} {H H':Hp} {U:Addr} {dd:my} (h:mC M H U dd) (s:aM H H'):mC M H' U dd:=by
 obtain⟨La,Lg,rs,a,b,c,d,e,f⟩:=h
 exact⟨La,Lg,rs,s _ _ a,s _ _ b,s _ _ c,cM.same s d,e,f⟩
theorem uM (S:FS) (p:PD) (h:tM p):yE p.kind (bw S p):=by
 refine⟨by unfold bw;rw [lM];exact h.2.2.1,fun v hv=>?_⟩
 obtain⟨x,_,rfl⟩:=List.mem_map.mp hv
 unfold pJ
 cases (S.ev x)[S.g x]? with
 | none=>exact .inl rfl
 | some n=>exact .inr ⟨n,rfl⟩
theorem dU.cell {H:Hp} {A:mZ} {ls:List aG} {ps:List PD} {S:FS} (h:dU K t H A ls ps S) {a:Addr} (ha:H a=none):a∉A.cells ls ps:=by
 intro z
 have no:∀{b:Addr} {u:HO},H b=some u->a=b->False:=fun e q=>by rw [<-q,ha] at e;cases e
 unfold mZ.cells at z
 simp only [List.mem_cons,List.mem_append,List.mem_map] at z
 rcases z with z | z | z | z | z | ⟨l,hl,z⟩ | ⟨p,hp,z⟩
 ·exact no h.ever z
 ·exact no h.gone z
 ·exact no h.kept z
 ·exact no h.done z
 ·exact no h.rows z
 ·exact no (h.lists l hl) z.symm
 ·have hf:=List.mem_filter.mp hp
  exact no (h.rlst p hf.1 (by simpa using hf.2)) z.symm
noncomputable def oH (t:jy) (H:Hp) (r n f:Addr) (k:Nat):Prop:=∃dx fs,(H r=some (.ins t.oV dx fs)/\fs.length<=k+3)/\Ti ["step", "need_doors", "next_deed", "full_lane", "can_work", "works", "lane_now", "turn"] [("net",.ref n),("flow",.ref f),("turns",.int (k:Nat))] fs
theorem oH.same {H H':Hp} {r n f:Addr} {k:Nat} (h:oH t H r n f k) (s:aM H H'):oH t H' r n f k:=by
 obtain⟨dx,fs,h1,h2⟩:=h
 exact⟨dx,fs,⟨s _ _ h1.1,h1.2⟩,h2⟩
theorem Cv {f:PD->List Str}:∀{ps:List PD},(ps.flatMap f).Nodup->∀{p q:PD},p∈ps->q∈ps->∀{x:Str},x∈f p->x∈f q->p=q
 | a:: r,nd,p,q,hp,hq,x,h1,h2=>by
  rw [List.flatMap_cons,List.nodup_append] at nd
  rcases List.mem_cons.mp hp with e1 | e1
  ·rcases List.mem_cons.mp hq with e2 | e2
   ·rw [e1,e2]
   ·rw [e1] at h1
    exact absurd rfl (nd.2.2 x h1 x (List.mem_flatMap.mpr ⟨q,e2,h2⟩))
  ·rcases List.mem_cons.mp hq with e2 | e2
   ·rw [e2] at h2
    exact absurd rfl (nd.2.2 x h2 x (List.mem_flatMap.mpr ⟨p,e1,h1⟩))
   ·exact Cv nd.2.1 e1 e2 h1 h2
noncomputable def qC:Option Str->V
 | some y=>.str y
 | none=>.non
inductive Wk (f:Str->Option (Option Str)) (x:Str):List Str->Option Str->Prop
 | start:Wk f x [] (some x)
 | step {seen:List Str} {a:Str} {b:Option Str}:Wk f x seen (some a)->f a=some b->a∉seen->Wk f x (seen ++ [a]) b
noncomputable def zW (f:Str->Option (Option Str)) (s:List Str×Option Str):List Str×Option Str:=match s.2 with
 | none=>s
 | some a=>match f a with
  | none=>s
  | some b=>if a∈s.1 then s else(s.1 ++ [a],b)
noncomputable def BK (f:Str->Option (Option Str)):Nat->List Str×Option Str->List Str×Option Str
 | 0,s=>s
 | n+1,s=>BK f n (zW f s)
theorem vp (f:Str->Option (Option Str)):∀(n m:Nat) (s:List Str×Option Str),BK f (n+m) s=BK f m (BK f n s)
 | 0,m,s=>by rw [Nat.zero_add];rfl
 | n+1,m,s=>by rw [show n+1+m=(n+m)+1 by omega];exact vp f n m (zW f s)
theorem zg {f:Str->Option (Option Str)} {s:List Str×Option Str} (h:zW f s=s):∀n,BK f n s=s
 | 0=>rfl
 | n+1=>by show BK f n (zW f s)=s;rw [h];exact zg h n
theorem Wk.iter {f:Str->Option (Option Str)} {x:Str} {seen:List Str} {a:Option Str} (h:Wk f x seen a):∃n,BK f n ([],some x)=(seen,a):=by
 induction h with
 | start=>exact⟨0,rfl⟩
 | @step seen a b _ e hn ih=>
  obtain⟨n,ih⟩:=ih
  refine⟨n+1,?_⟩
  rw [vp,ih]
  show zW f (seen,some a)=_
  unfold zW
  dsimp only
  rw [e]
  exact if_neg hn
noncomputable def StopW (f:Str->Option (Option Str)) (seen:List Str) (a:Option Str):Prop:=∀y,a=some y->f y=none∨y∈seen
theorem StopW.fix {f:Str->Option (Option Str)} {seen:List Str} {a:Option Str} (h:StopW f seen a):zW f (seen,a)=(seen,a):=by
 unfold zW
 cases a with
 | none=>rfl
 | some y=>
  dsimp only
  cases e:f y with
  | none=>rfl
  | some b=>exact if_pos ((h y rfl).resolve_left (by rw [e];intro z;cases z))
theorem Wk.one {f:Str->Option (Option Str)} {x:Str} {s1 s2:List Str} {a1 a2:Option Str} (h1:Wk f x s1 a1) (e1:StopW f s1 a1) (h2:Wk f x s2 a2) (e2:StopW f s2 a2):s1=s2/\a1=a2:=by
 obtain⟨n,i1⟩:=h1.iter
 obtain⟨m,i2⟩:=h2.iter
 have:(s1,a1)=(s2,a2):=by
  rcases Nat.le_total n m with h | h
  ·obtain⟨k,rfl⟩:=Nat.le.dest h
   rw [vp,i1,zg e1.fix] at i2
   exact i2
  ·obtain⟨k,rfl⟩:=Nat.le.dest h
   rw [vp,i2,zg e2.fix] at i1
   exact i1.symm
 exact⟨congrArg Prod.fst this,congrArg Prod.snd this⟩
theorem Wk.nd {f:Str->Option (Option Str)} {x:Str} {s:List Str} {a:Option Str} (h:Wk f x s a):s.Nodup/\∀y∈s,(f y).isSome=true:=by
 induction h with
 | start=>simp
 | @step seen a b _ e hn ih=>
  refine⟨?_,fun y hy=>?_⟩
  ·rw [List.nodup_append]
   exact⟨ih.1,by simp,fun y hy z hz q=>hn (by rw [List.mem_singleton] at hz;rw [<-hz,<-q];exact hy)⟩
  ·rcases List.mem_append.mp hy with h | h
   ·exact ih.2 y h
   ·rw [List.mem_singleton.mp h,e];rfl
noncomputable def M6 (s:List Str):Option Str->List Str
 | some a=>if a∈s then s.drop (s.idxOf a) else []
 | none=>[]
inductive qR (f:Str->Option (Option Str)) (x:Str) (r:List Str):Prop where
 | mk:∀s a,Wk f x s a->StopW f s a->r=M6 s a->qR f x r
theorem qR.one {f:Str->Option (Option Str)} {x:Str} {r r':List Str} (h:qR f x r) (h':qR f x r'):r=r':=by
 obtain⟨s,a,w,e,rfl⟩:=h
 obtain⟨s',a',w',e',rfl⟩:=h'
 obtain⟨rfl,rfl⟩:=w.one e w' e'
 rfl
theorem Ri {s:List Str} {a:Option Str} (h:s.Nodup):(M6 s a).Nodup/\∀y∈M6 s a,y∈s:=by
 unfold M6
 split
 ·split
  ·exact⟨h.sublist (List.drop_sublist _ _),fun y hy=>List.mem_of_mem_drop hy⟩
  ·simp
 ·simp
theorem qR.nd {f:Str->Option (Option Str)} {x:Str} {r:List Str} (h:qR f x r):r.Nodup/\∀y∈r,(f y).isSome=true:=by
 obtain⟨s,a,w,e,rfl⟩:=h
 obtain⟨n1,n2⟩:=w.nd
 obtain⟨m1,m2⟩:=Ri (a:=a) n1
 exact⟨m1,fun y hy=>n2 y (m2 y hy)⟩
noncomputable def sY (ps:List PD) (w:Str×Str×Str):Option Str:=if w.2.2= "value" then(ps.find? fun p=>decide (w.2.1∈p.outs)).map (·.name) else if w.2.2= "room" then(ps.find? fun p=>decide (w.2.1∈p.ins)).map (·.name) else none
noncomputable def Jl (ps:List PD) (wts:List (Str×Str×Str)) (x:Str):Option (Option Str):=(wts.find? fun w=>decide (w.1=x)).map (sY ps)
noncomputable def Ms (wts:List (Str×Str×Str)) (x:Str):Str×Str×Str:=(wts.find? fun w=>decide (w.1=x)).getD ("", "", "")
noncomputable def Bf (r names:List Str):List Str:=match names.find? fun y=>decide (y∈r) with
 | some y=>r.drop (r.idxOf y) ++ r.take (r.idxOf y)
 | none=>[]
noncomputable def Ah (f:Str->Option (Option Str)) (names:List Str) (wts ws:List (Str×Str×Str)):Prop:=
 (ws=[]/\∀x∈names,qR f x [])∨∃pre x post r,names=pre ++ x:: post/\(∀y∈pre,qR f y [])/\qR f x r/\r≠[]/\ws=(Bf r names).map (Ms wts)
theorem Ah.one {f:Str->Option (Option Str)} {names:List Str} {wts ws ws':List (Str×Str×Str)} (h:Ah f names wts ws) (h':Ah f names wts ws'):ws=ws':=by
 rcases h with ⟨rfl,h⟩ | ⟨pre,x,post,r,e,h1,h2,h3,rfl⟩
 ·rcases h' with ⟨rfl,_⟩ | ⟨pre,x,post,r,e,h1,h2,h3,rfl⟩
  ·rfl
  ·exact absurd ((h x (by rw [e];simp)).one h2).symm h3
 ·rcases h' with ⟨rfl,h'⟩ | ⟨pre',x',post',r',e',h1',h2',h3',rfl⟩
  ·exact absurd ((h' x (by rw [e];simp)).one h2).symm h3
  ·have key:pre.length=pre'.length:=by
    rcases Nat.lt_trichotomy pre.length pre'.length with hl | hl | hl
    ·refine absurd ((h1' x ?_).one h2).symm h3
     have:(pre' ++ x':: post')[pre.length]?=some x:=by rw [<-e',e,List.getElem?_append_right (Nat.le_refl _),Nat.sub_self];rfl
     rw [List.getElem?_append_left hl] at this
     exact List.mem_of_getElem? this
    ·exact hl
    ·refine absurd ((h1 x' ?_).one h2').symm h3'
     have:(pre ++ x:: post)[pre'.length]?=some x':=by rw [<-e,e',List.getElem?_append_right (Nat.le_refl _),Nat.sub_self];rfl
     rw [List.getElem?_append_left hl] at this
     exact List.mem_of_getElem? this
   have hx:x=x':=by
    have a1:names[pre.length]?=some x:=by rw [e,List.getElem?_append_right (Nat.le_refl _),Nat.sub_self];rfl
    have a2:names[pre.length]?=some x':=by rw [key,e',List.getElem?_append_right (Nat.le_refl _),Nat.sub_self];rfl
    rw [a1] at a2
    exact Option.some.inj a2
   subst hx
   rw [h2.one h2']
structure Gd (n:Nat) (d:PyData):Prop where
 eq:PyData.eqv d d=true
 lay:PyData.canLay0 d=true
 dep:PyData.depth d<=n
theorem Gd.all {n:Nat}:∀{ds:List PyData},(∀d∈ds,Gd n d)->PyData.eqvAll ds ds=true/\PyData.canLayAll0 ds=true/\PyData.depthAll ds<=n
 | [],_=>⟨by simp [PyData.eqvAll],by simp [PyData.canLayAll0],by simp [PyData.depthAll]⟩
 | d:: r,h=>by
  obtain⟨h1,h2,h3⟩:=Gd.all (ds:=r) fun x hx=>h x (List.mem_cons_of_mem _ hx)
  have g:=h d List.mem_cons_self
  have g3:=g.dep
  refine⟨by simp [PyData.eqvAll,g.eq,h1],by simp [PyData.canLayAll0,g.lay,h2],?_⟩
  simp only [PyData.depthAll]
  omega
theorem Gd.list {n:Nat} {ds:List PyData} (h:∀d∈ds,Gd n d):Gd (n+1) (.list ds):=by
 obtain⟨h1,h2,h3⟩:=Gd.all h
 exact⟨by simp [PyData.eqv,h1],by simp [PyData.canLay0,h2],by simp only [PyData.depth];omega⟩
theorem Gd.tuple {n:Nat} {ds:List PyData} (h:∀d∈ds,Gd n d):Gd (n+1) (.tuple ds):=by
 obtain⟨h1,h2,h3⟩:=Gd.all h
 exact⟨by simp [PyData.eqv,h1],by simp [PyData.canLay0,h2],by simp only [PyData.depth];omega⟩
theorem Gd.int (n:Nat) (i:Int):Gd n (.int i):=⟨by simp [PyData.eqv],by simp [PyData.canLay0],by simp [PyData.depth]⟩
theorem Gd.str (n:Nat) {x:Str} (h:PyData.strOk x=true):Gd n (.str x):=⟨by simp [PyData.eqv],by simp [PyData.canLay0,h],by simp [PyData.depth]⟩
theorem Gd.strs (n:Nat) {xs:List Str} (h:∀x∈xs,PyData.strOk x=true):∀d∈xs.map PyData.str,Gd n d:=fun d hd=>by
 obtain⟨x,hx,rfl⟩:=List.mem_map.mp hd
 exact .str n (h x hx)
theorem Gd.shaped {n:Nat} {d:PyData} (h:Gd n d) (hn:n<=64):SeqAt.shaped d=true:=by
 have:=h.dep
 unfold SeqAt.shaped
 rw [h.lay,decide_eq_true (show d.depth<=64 by omega)]
 rfl
theorem Hq {z:Str} (h:nameB z=true):PyData.strOk z=true:=by
 have e:∀c∈z.cps.toList,c <0x110000:=fun c hc=>by
  unfold nameB at h
  split at h
  ·cases h
  ·rename_i c0 r e
   rw [e] at hc
   simp only [Bool.and_eq_true,List.all_eq_true,Bool.or_eq_true] at h
   have:=h.2.2 c hc
   unfold low Mm at this
   simp only [Bool.and_eq_true,decide_eq_true_eq] at this
   omega
 unfold PyData.strOk
 rw [Array.all_eq_true']
 intro c hc
 exact decide_eq_true (e c (by simpa using hc))
theorem M8 {H:Hp}:∀xs:List Str,Qa K H (xs.map V.str) (xs.map PyData.str)
 | []=>.nil
 | x:: r=>.cons (.str x) (M8 r)
theorem Nv {H:Hp} {p:Addr} {xs:List Str} (h:bF K H p (xs.map V.str)):Dt K H (.ref p) (.list (xs.map PyData.str)):=.list h (M8 xs)
theorem Kc (xs:List V) (a b:Nat):xX xs (some (a:Int)) (some (b:Int))=(xs.drop (min a xs.length)).take (min b xs.length - min a xs.length):=by
 unfold xX
 rw [HT.yl,HT.yl]
theorem Ul:∀i,i <11->decide (V.str (eG i)=V.str "give")=decide (i=0):=by decide +kernel
inductive zG (K:PySem.W.Frag) (vs:List V) (H:Hp) (Q:VK) (E:XK):Prop where
 | mk:∀x Tx b,vs=[x]->Y4 K H x Tx->Tx∈ph->decide (Tx= "int")=b->Q (.bl b) H->zG K vs H Q E
theorem Ax (T:Txt w K mg t):FO P w K mg base 1 t.Ek ["thing"] (zG K):=by
 have sc:=T.rP.sc ["thing"]
 refine T.rP.F.ok sc ln (fun _ _ _ _ H vs Q E hr h=>?_)
 obtain⟨x,Tx,b,rfl,ty,hm,rfl,k⟩:=h
 refine⟨_,(aA (aN (zp (bu qU (by rfl) T.iZ gW (aa (pv 0) (aa (vf (by rfl) T.YC Xc) ak aj) aj)) (yZ (RB (bu qU (by rfl) T.iZ gW (aa (pv 0) (aa (vf (by rfl) T.QX Nf) ak aj) aj))))))),?_⟩
 have hm':Tx= "int" ∨Tx= "bool" ∨(Jr Tx "int" =false/\Tx≠ "int"):=by
  simp only [ph,List.mem_cons,List.not_mem_nil,or_false] at hm
  rcases hm with rfl | rfl | rfl | rfl | rfl | rfl | rfl
  ·exact .inr (.inr (by decide))
  ·exact .inr (.inl rfl)
  ·exact .inl rfl
  ·exact .inr (.inr (by decide))
  ·exact .inr (.inr (by decide))
  ·exact .inr (.inr (by decide))
  ·exact .inr (.inr (by decide))
 rcases hm' with rfl | rfl | ⟨h1,h2⟩
 ·exact⟨_,rfl,x, "int", "int",true,rfl,ty,by decide,by decide,true,rfl,d9 ⟨_,rfl,x, "int", "bool",false,rfl,ty,by decide,by decide,_,rfl,k⟩⟩
 ·exact⟨_,rfl,x, "bool", "int",true,rfl,ty,by decide,by decide,true,rfl,d9 ⟨_,rfl,x, "bool", "bool",true,rfl,ty,by decide,by decide,_,rfl,k⟩⟩
 ·rw [decide_eq_false h2] at k
  exact⟨_,rfl,x,Tx, "int",false,rfl,ty,by decide,h1,false,rfl,bU k⟩
inductive zT (K:PySem.W.Frag) (vs:List V) (H:Hp) (Q:VK) (E:XK):Prop where
 | mk:∀x,vs=[x]->(((∃i:Int,x=.int i/\Q (.bl (decide (0<=i) && decide (i <1000000000))) H)∨∃Tx,Y4 K H x Tx/\Tx∈ph/\Tx≠ "int" /\Q (.bl false) H))->zT K vs H Q E
theorem ue (T:Txt w K mg t):FO P w K mg base 2 t.Ei ["thing"] (zT K):=by
 have sc:=T.nW.sc ["thing"]
 refine T.nW.F.ok sc ln (fun _ _ _ _ H vs Q E hr h=>?_)
 obtain⟨x,rfl,h⟩:=h
 refine⟨_,(aA (aN (zp (dw (Ax T) T.rP hr (aa (pv 0) ak aj)) (yZ (Qv vY yr az (pv 0) (jm (by rfl) T.Ks)))))),?_⟩
 rcases h with ⟨i,rfl,k⟩ | ⟨Tx,ty,hm,hne,k⟩
 ·refine⟨_,rfl,.int i, "int",true,rfl,rfl,by decide,by decide,true,rfl,d9 ⟨_,rfl,_,_,rfl,rfl,_,rfl,jz (fun h=>?_) (fun h=>?_)⟩⟩
  ·have h':0<=i:=of_decide_eq_true h
   rw [decide_eq_true h',Bool.true_and] at k
   exact⟨_,_,rfl,rfl,k⟩
  ·have h':¬0<=i:=fun z=>h (decide_eq_true z)
   rw [decide_eq_false h',Bool.false_and] at k
   exact k
 ·exact⟨_,rfl,x,Tx,false,rfl,ty,hm,decide_eq_false hne,false,rfl,bU k⟩
inductive qN (K:PySem.W.Frag) (t:jy) (vs:List V) (H:Hp) (Q:VK) (E:XK):Prop where
 | mk:∀(i:Nat) (p dx a1 a2 a3:Addr) (nm:V) (ns is os:List V),vs=[.ref p,nm,.ref a1,.ref a2,.ref a3]->H p=some (.ins (cls t i) dx [])->ym K H a1 ns->ym K H a2 is->ym K H a3 os->(∀H',lD p H H'->fD K t H' p i nm ns is os->Q .non H')->qN K t vs H Q E
noncomputable abbrev lW:List Str:=["self", "name", "numbers", "ins", "outs"]
theorem bV (T:Txt w K mg t):FO P w K mg base 1 t.bO lW (qN K t):=by
 have sc:fX lW lW (aR (inClass (top 34) 0)):=MJ
 refine T.bc.F.ok sc ln (fun _ _ _ _ H vs Q E hr h=>?_)
 obtain⟨i,p,dx,a1,a2,a3,nm,ns,is,os,rfl,hp,q1,q2,q3,k⟩:=h
 refine⟨_,(aq (ie (pv 0) (pv 1) rfl)
  (aq (ie (pv 0) (eY uX (by rfl) T.Bx yq (aa (pv 2) ak aj)) rfl)
  (aq (ie (pv 0) (eY uX (by rfl) T.Bx yq (aa (pv 3) ak aj)) rfl)
  (aA (ie (pv 0) (eY uX (by rfl) T.Bx yq (aa (pv 4) ak aj)) rfl))))),?_⟩
 refine⟨_,rfl,_,rfl,p,cls t i,dx,[],rfl,hp,iz T i,By T i,by show 0 <1000;decide,?_⟩
 have b1:lD p H (upd H p (.ins (cls t i) dx (aH "name" nm []))):=lD.write
 have e1:(upd H p (.ins (cls t i) dx (aH "name" nm []))) p=some (.ins (cls t i) dx (aH "name" nm [])):=au
 generalize upd H p (.ins (cls t i) dx (aH "name" nm []))=H1 at b1 e1 ⊢
 have r2:=b1.seqA hp q2
 have r3:=b1.seqA hp q3
 refine⟨_,rfl,a1,ns,rfl,b1.seqA hp q1,fun H2 u2 s2 t2=>⟨_,rfl,p,cls t i,dx,_,rfl,s2 _ _ e1,iz T i,rn T i,Nat.lt_of_le_of_lt (gO (Nat.zero_le 0)) (by decide),?_⟩⟩
 have e2:=s2 _ _ e1
 have b2:lD p H2 (upd H2 p (.ins (cls t i) dx (aH "numbers" (.ref u2) (aH "name" nm [])))):=lD.write
 have e3:(upd H2 p (.ins (cls t i) dx (aH "numbers" (.ref u2) (aH "name" nm [])))) p=some (.ins (cls t i) dx (aH "numbers" (.ref u2) (aH "name" nm []))):=au
 generalize upd H2 p (.ins (cls t i) dx (aH "numbers" (.ref u2) (aH "name" nm [])))=H3 at b2 e3 ⊢
 have r2':=b2.seqA e2 (s2.seqA r2)
 have r3':=b2.seqA e2 (s2.seqA r3)
 have t2':=b2.seqT e2 t2
 refine⟨_,rfl,a2,is,rfl,r2',fun H4 u4 s4 t4=>⟨_,rfl,p,cls t i,dx,_,rfl,s4 _ _ e3,iz T i,zf T i,Nat.lt_of_le_of_lt (gO (gO (Nat.zero_le 0))) (by decide),?_⟩⟩
 have e4:=s4 _ _ e3
 have b4:lD p H4 (upd H4 p (.ins (cls t i) dx (aH "ins" (.ref u4) (aH "numbers" (.ref u2) (aH "name" nm []))))):=lD.write
 have e5:(upd H4 p (.ins (cls t i) dx (aH "ins" (.ref u4) (aH "numbers" (.ref u2) (aH "name" nm []))))) p=some (.ins (cls t i) dx (aH "ins" (.ref u4) (aH "numbers" (.ref u2) (aH "name" nm [])))):=au
 generalize upd H4 p (.ins (cls t i) dx (aH "ins" (.ref u4) (aH "numbers" (.ref u2) (aH "name" nm []))))=H5 at b4 e5 ⊢
 have r3'':=b4.seqA e4 (s4.seqA r3')
 have t2'':=b4.seqT e4 (s4.seqT t2')
 have t4':=b4.seqT e4 t4
 refine⟨_,rfl,a3,os,rfl,r3'',fun H6 u6 s6 t6=>⟨_,rfl,p,cls t i,dx,_,rfl,s6 _ _ e5,iz T i,Hs T i,Nat.lt_of_le_of_lt (gO (gO (gO (Nat.zero_le 0)))) (by decide),?_⟩⟩
 have e6:=s6 _ _ e5
 refine k _ (b1.trans ((lD.of_same s2).trans (b2.trans ((lD.of_same s4).trans (b4.trans ((lD.of_same s6).trans lD.write)))))) ⟨dx,u2,u4,u6,au,?_,?_,?_⟩
 ·exact lD.write.seqT e6 (s6.seqT t2'')
 ·exact lD.write.seqT e6 (s6.seqT t4')
 ·exact lD.write.seqT e6 t6
theorem HQ (T:Txt w K mg t):FO P w K mg base 1 t.ut ["self"] (iT 0):=by
 have sc:=T.pW.sc ["self"]
 refine T.pW.F.ok sc ln (fun _ _ _ _ H vs Q E hr h=>?_)
 obtain⟨x,rfl,k⟩:=h
 refine⟨_,(aA (aN bJ)),?_⟩
 exact k
theorem Ii (T:Txt w K mg t):FO P w K mg base 1 t.uy ["self"] (iT 1):=by
 have sc:=T.pQ.sc ["self"]
 refine T.pQ.F.ok sc ln (fun _ _ _ _ H vs Q E hr h=>?_)
 obtain⟨x,rfl,k⟩:=h
 refine⟨_,(aA (aN bJ)),?_⟩
 exact k
theorem Ji (T:Txt w K mg t):FO P w K mg base 1 t.tK ["self"] (iT 2):=by
 have sc:=T.pG.sc ["self"]
 refine T.pG.F.ok sc ln (fun _ _ _ _ H vs Q E hr h=>?_)
 obtain⟨x,rfl,k⟩:=h
 refine⟨_,(aA (aN bJ)),?_⟩
 exact k
theorem Ih (T:Txt w K mg t):FO P w K mg base 1 t.tX ["self"] (iT 3):=by
 have sc:=T.pB.sc ["self"]
 refine T.pB.F.ok sc ln (fun _ _ _ _ H vs Q E hr h=>?_)
 obtain⟨x,rfl,k⟩:=h
 refine⟨_,(aA (aN bJ)),?_⟩
 exact k
theorem Hz (T:Txt w K mg t):FO P w K mg base 1 t.tY ["self"] (iT 4):=by
 have sc:=T.pH.sc ["self"]
 refine T.pH.F.ok sc ln (fun _ _ _ _ H vs Q E hr h=>?_)
 obtain⟨x,rfl,k⟩:=h
 refine⟨_,(aA (aN bJ)),?_⟩
 exact k
theorem Jc (T:Txt w K mg t):FO P w K mg base 1 t.uL ["self"] (iT 5):=by
 have sc:=T.pM.sc ["self"]
 refine T.pM.F.ok sc ln (fun _ _ _ _ H vs Q E hr h=>?_)
 obtain⟨x,rfl,k⟩:=h
 refine⟨_,(aA (aN bJ)),?_⟩
 exact k
theorem Jp (T:Txt w K mg t):FO P w K mg base 1 t.wM ["self"] (iT 6):=by
 have sc:=T.rZ.sc ["self"]
 refine T.rZ.F.ok sc ln (fun _ _ _ _ H vs Q E hr h=>?_)
 obtain⟨x,rfl,k⟩:=h
 refine⟨_,(aA (aN bJ)),?_⟩
 exact k
theorem IK (T:Txt w K mg t):FO P w K mg base 1 t.uU ["self"] (iT 7):=by
 have sc:=T.pK.sc ["self"]
 refine T.pK.F.ok sc ln (fun _ _ _ _ H vs Q E hr h=>?_)
 obtain⟨x,rfl,k⟩:=h
 refine⟨_,(aA (aN bJ)),?_⟩
 exact k
theorem Fb (T:Txt w K mg t):FO P w K mg base 1 t.rW ["self"] (iT 8):=by
 have sc:=T.mH.sc ["self"]
 refine T.mH.F.ok sc ln (fun _ _ _ _ H vs Q E hr h=>?_)
 obtain⟨x,rfl,k⟩:=h
 refine⟨_,(aA (aN bJ)),?_⟩
 exact k
theorem Dg (T:Txt w K mg t):FO P w K mg base 1 t.qt ["self"] (iT 9):=by
 have sc:=T.km.sc ["self"]
 refine T.km.F.ok sc ln (fun _ _ _ _ H vs Q E hr h=>?_)
 obtain⟨x,rfl,k⟩:=h
 refine⟨_,(aA (aN bJ)),?_⟩
 exact k
theorem Fp (T:Txt w K mg t):FO P w K mg base 1 t.rA ["self"] (iT 10):=by
 have sc:=T.mJ.sc ["self"]
 refine T.mJ.F.ok sc ln (fun _ _ _ _ H vs Q E hr h=>?_)
 obtain⟨x,rfl,k⟩:=h
 refine⟨_,(aA (aN bJ)),?_⟩
 exact k
inductive Dj (vs:List V) (H:Hp) (Q:VK) (E:XK):Prop where
 | mk:∀z:Str,vs=[.str z]->Q (.bl (rowOf ROWS z).isSome) H->Dj vs H Q E
theorem En (T:Txt w K mg t):FO P w K mg base 1 t.Fq ["word"] (Dj):=by
 have sc:=T.uZ.sc ["word"]
 refine T.uZ.F.ok sc ln (fun _ _ _ _ H vs Q E hr h=>?_)
 obtain⟨z,rfl,k⟩:=h
 refine⟨_,(aA (aN (CG (Wt (pv 0) (HY (v:=.ref _) (by rfl) T.GF rfl)) (by with_unfolding_all rfl)))),?_⟩
 exact⟨_,rfl,t.yw,ROWS,z,rfl,T.JW,rfl,k⟩
inductive Al (K:PySem.W.Frag) (vs:List V) (H:Hp) (Q:VK) (E:XK):Prop where
 | mk:∀(i:Nat) (nm:V) (a1 a2 a3:Addr) (ns is os:List V),vs=[.str (eG i),nm,.ref a1,.ref a2,.ref a3]->ym K H a1 ns->ym K H a2 is->ym K H a3 os->ns.length=cN i->is.length=cI i->os.length=cO i->((∀v∈ns,Val v))->(∀H',aM H H'->Q .non H')->Al K vs H Q E
noncomputable abbrev Es:List Str:=["kind", "name", "numbers", "ins", "outs", "counts"]
theorem J1 (T:Txt w K mg t):FO P w K mg base 3 t.Eb ["kind", "name", "numbers", "ins", "outs"] (Al K):=by
 have sc:=T.wN.sc Es
 refine T.wN.F.ok sc ln (fun _ _ _ _ H vs Q E hr h=>?_)
 obtain⟨i,nm,a1,a2,a3,ns,is,os,rfl,h1,h2,h3,l1,l2,l3,hv,k⟩:=h
 refine⟨_,(aq (bN (jf (gZ (dw (En T) T.uZ hr (aa (pv 0) ak aj))))
   (aA dJ)
   bj)
  (aq (sN sc 5 (Ua (HY (v:=.ref _) (by rfl) T.GF rfl) (pv 0) (fun _ _=>rfl)))
  (aq (bN (PW.pt (sy (aV DG (bu bR (by rfl) T.fB du (aa (pv 2) ak aj)) (aO bT (pv 5) az (fun _ _=>rfl)) (bI _)) (lU (jf (gZ (bu (xQ rfl) (by rfl) T.Oc Im (aa (dZ [] Es (aR (top 47)) rfl (Vn (bM (pv 2)) (Je (pv 2))) (fun _ _ _ _ _=>gm) (fun _ _ _ _ _=>(dw (ue T) T.nW hr (aa (pv 0) ak aj)))) ak eU)))))))
   (aA dJ)
   bj)
  (aA (bN (PW.pt (sy (aV DG (bu bR (by rfl) T.fB du (aa (pv 3) ak aj)) (aO bT (pv 5) az (fun _ _=>rfl)) (bI _)) (lU (aV DG (bu bR (by rfl) T.fB du (aa (pv 4) ak aj)) (aO bT (pv 5) az (fun _ _=>rfl)) (bI _)))))
   (aA dJ)
   bj))))),?_⟩
 have hl:sizeLine=16777216:=sizeLine_eq
 have hN:=YD i
 have hI:=Gj i
 have hO:=Rf i
 refine⟨_,rfl,eG i,rfl,true,by rw [row_of];rfl,bU ?_⟩
 refine⟨_,rfl,t.yw,ROWS,eG i,_,rfl,T.JW,rfl,row_of i,fun ad had=>?_⟩
 refine⟨_,rfl,.ref a1,ns.length,rfl,h1.len,_,rfl,ad,_,0,_,rfl,rfl,had,aJ (j:=0) rfl,rfl,_,rfl,?_⟩
 rw [show(!decide (V.int ((ns.length:Nat):Int)=V.int ((cN i:Nat):Int)))=false by rw [l1];simp]
 refine bU ?_
 refine RN (a:=a1) (xs:=ns) ?_ h1 (fun j ys=>ys=(List.replicate j true).map V.bl) (by omega) rfl (fun j ys e=>by rw [e];simp) (fun j x ys hx e=>?_) (fun ys e D hD=>?_)
 ·exact fun R r=>⟨_,rfl,r⟩
 ·subst e
  obtain⟨n,rfl,n0,n1⟩:=hv x (List.mem_of_getElem? hx)
  refine yes ⟨_,rfl,.int n,rfl,.inl ⟨n,rfl,rfl,?_⟩⟩
  rw [decide_eq_true n0,decide_eq_true n1,List.replicate_succ']
  simp
 ·subst e
  refine⟨D,_,rfl,bF.of au,_,rfl,?_⟩
  rw [show((List.replicate ns.length true).all id)=true by simp]
  refine bU ?_
  have s1:aM H (upd H D (.lst ((List.replicate ns.length true).map V.bl))):=aB hD
  refine⟨_,rfl,.ref a2,is.length,rfl,(s1.seqA h2).len,_,rfl,ad,_,1,_,rfl,rfl,s1.seqT had,aJ (j:=1) rfl,rfl,_,rfl,?_⟩
  rw [show(!decide (V.int ((is.length:Nat):Int)=V.int ((cI i:Nat):Int)))=false by rw [l2];simp]
  refine bU ?_
  refine⟨_,rfl,.ref a3,os.length,rfl,(s1.seqA h3).len,_,rfl,ad,_,2,_,rfl,rfl,s1.seqT had,aJ (j:=2) rfl,rfl,_,rfl,?_⟩
  rw [show(!decide (V.int ((os.length:Nat):Int)=V.int ((cO i:Nat):Int)))=false by rw [l3];simp]
  exact bU (k _ s1)
inductive Ea (K:PySem.W.Frag) (t:jy) (vs:List V) (H:Hp) (Q:VK) (E:XK):Prop where
 | mk:∀(i:Nat) (nm:V) (a1 a2 a3:Addr) (ns is os:List V),vs=[.str (eG i),nm,.ref a1,.ref a2,.ref a3]->i<=10->ym K H a1 ns->ym K H a2 is->ym K H a3 os->(∀H' p,aM H H'->H p=none->fD K t H' p i nm ns is os->Q (.ref p) H')->Ea K t vs H Q E
noncomputable abbrev yU:List Str:=["kind", "name", "numbers", "ins", "outs"]
theorem Ml (T:Txt w K mg t):FO P w K mg base 3 t.GX yU (Ea K t):=by
 have sc:fX yU yU (aR (top 48)):=MJ
 refine T.GD.F.ok sc ln (fun _ _ _ _ H vs Q E hr h=>?_)
 obtain⟨i,nm,a1,a2,a3,ns,is,os,rfl,hi,h1,h2,h3,k⟩:=h
 refine⟨_,(aq (bN (aV fL (pv 0) bJ (bI _))
   (aA (aN (ik (T.iR.M T.bc) (bV T) (hr.mono (by decide)) (by rfl) T.iR.m T.bc.b .nil ig (aa (pv 1) (aa (pv 2) (aa (pv 3) (aa (pv 4) ak aj) aj) aj) aj))))
   bj)
  (aq (bN (aV fL (pv 0) bJ (bI _))
   (aA (aN (ik (T.iC.M T.bc) (bV T) (hr.mono (by decide)) (by rfl) T.iC.m T.bc.b .nil ig (aa (pv 1) (aa (pv 2) (aa (pv 3) (aa (pv 4) ak aj) aj) aj) aj))))
   bj)
  (aq (bN (aV fL (pv 0) bJ (bI _))
   (aA (aN (ik (T.iH.M T.bc) (bV T) (hr.mono (by decide)) (by rfl) T.iH.m T.bc.b .nil ig (aa (pv 1) (aa (pv 2) (aa (pv 3) (aa (pv 4) ak aj) aj) aj) aj))))
   bj)
  (aq (bN (aV fL (pv 0) bJ (bI _))
   (aA (aN (ik (T.iD.M T.bc) (bV T) (hr.mono (by decide)) (by rfl) T.iD.m T.bc.b .nil ig (aa (pv 1) (aa (pv 2) (aa (pv 3) (aa (pv 4) ak aj) aj) aj) aj))))
   bj)
  (aq (bN (aV fL (pv 0) bJ (bI _))
   (aA (aN (ik (T.iK.M T.bc) (bV T) (hr.mono (by decide)) (by rfl) T.iK.m T.bc.b .nil ig (aa (pv 1) (aa (pv 2) (aa (pv 3) (aa (pv 4) ak aj) aj) aj) aj))))
   bj)
  (aq (bN (aV fL (pv 0) bJ (bI _))
   (aA (aN (ik (T.iB.M T.bc) (bV T) (hr.mono (by decide)) (by rfl) T.iB.m T.bc.b .nil ig (aa (pv 1) (aa (pv 2) (aa (pv 3) (aa (pv 4) ak aj) aj) aj) aj))))
   bj)
  (aq (bN (aV fL (pv 0) bJ (bI _))
   (aA (aN (ik (T.lE.M T.bc) (bV T) (hr.mono (by decide)) (by rfl) T.lE.m T.bc.b .nil ig (aa (pv 1) (aa (pv 2) (aa (pv 3) (aa (pv 4) ak aj) aj) aj) aj))))
   bj)
  (aq (bN (aV fL (pv 0) bJ (bI _))
   (aA (aN (ik (T.iJ.M T.bc) (bV T) (hr.mono (by decide)) (by rfl) T.iJ.m T.bc.b .nil ig (aa (pv 1) (aa (pv 2) (aa (pv 3) (aa (pv 4) ak aj) aj) aj) aj))))
   bj)
  (aq (bN (aV fL (pv 0) bJ (bI _))
   (aA (aN (ik (T.fK.M T.bc) (bV T) (hr.mono (by decide)) (by rfl) T.fK.m T.bc.b .nil ig (aa (pv 1) (aa (pv 2) (aa (pv 3) (aa (pv 4) ak aj) aj) aj) aj))))
   bj)
  (aq (bN (aV fL (pv 0) bJ (bI _))
   (aA (aN (ik (T.dY.M T.bc) (bV T) (hr.mono (by decide)) (by rfl) T.dY.m T.bc.b .nil ig (aa (pv 1) (aa (pv 2) (aa (pv 3) (aa (pv 4) ak aj) aj) aj) aj))))
   bj)
  (aA (aN (ik (T.fO.M T.bc) (bV T) (hr.mono (by decide)) (by rfl) T.fO.m T.bc.b .nil ig (aa (pv 1) (aa (pv 2) (aa (pv 3) (aa (pv 4) ak aj) aj) aj) aj)))))))))))))),?_⟩
 match i,hi with
 | 0,_=>
  refine⟨_,rfl,rfl,_,rfl,wV rfl ?_⟩
  refine⟨_,rfl,_,rfl,_,rfl,_,rfl,fun x dx nx ndx nex=>?_⟩
  have s0:aM H (upd (upd H dx (.own x)) x (.ins t.K4 dx [])):=fun b o e=>by rw [aK (aD e nx),aK (aD e ndx)];exact e
  exact⟨0,x,dx,a1,a2,a3,nm,ns,is,os,rfl,au,s0.seqA h1,s0.seqA h2,s0.seqA h3,fun H' b P=>⟨rfl,k H' x (fun c o e=>b c o (aD e nx) (s0 c o e)) nx P⟩⟩
 | 1,_=>
  refine⟨_,rfl,rfl,_,rfl,dI (by decide +kernel) ?_⟩
  refine⟨_,rfl,rfl,_,rfl,wV rfl ?_⟩
  refine⟨_,rfl,_,rfl,_,rfl,_,rfl,fun x dx nx ndx nex=>?_⟩
  have s0:aM H (upd (upd H dx (.own x)) x (.ins t.K3 dx [])):=fun b o e=>by rw [aK (aD e nx),aK (aD e ndx)];exact e
  exact⟨1,x,dx,a1,a2,a3,nm,ns,is,os,rfl,au,s0.seqA h1,s0.seqA h2,s0.seqA h3,fun H' b P=>⟨rfl,k H' x (fun c o e=>b c o (aD e nx) (s0 c o e)) nx P⟩⟩
 | 2,_=>
  refine⟨_,rfl,rfl,_,rfl,dI (by decide +kernel) ?_⟩
  refine⟨_,rfl,rfl,_,rfl,dI (by decide +kernel) ?_⟩
  refine⟨_,rfl,rfl,_,rfl,wV rfl ?_⟩
  refine⟨_,rfl,_,rfl,_,rfl,_,rfl,fun x dx nx ndx nex=>?_⟩
  have s0:aM H (upd (upd H dx (.own x)) x (.ins t.Ky dx [])):=fun b o e=>by rw [aK (aD e nx),aK (aD e ndx)];exact e
  exact⟨2,x,dx,a1,a2,a3,nm,ns,is,os,rfl,au,s0.seqA h1,s0.seqA h2,s0.seqA h3,fun H' b P=>⟨rfl,k H' x (fun c o e=>b c o (aD e nx) (s0 c o e)) nx P⟩⟩
 | 3,_=>
  refine⟨_,rfl,rfl,_,rfl,dI (by decide +kernel) ?_⟩
  refine⟨_,rfl,rfl,_,rfl,dI (by decide +kernel) ?_⟩
  refine⟨_,rfl,rfl,_,rfl,dI (by decide +kernel) ?_⟩
  refine⟨_,rfl,rfl,_,rfl,wV rfl ?_⟩
  refine⟨_,rfl,_,rfl,_,rfl,_,rfl,fun x dx nx ndx nex=>?_⟩
  have s0:aM H (upd (upd H dx (.own x)) x (.ins t.K9 dx [])):=fun b o e=>by rw [aK (aD e nx),aK (aD e ndx)];exact e
  exact⟨3,x,dx,a1,a2,a3,nm,ns,is,os,rfl,au,s0.seqA h1,s0.seqA h2,s0.seqA h3,fun H' b P=>⟨rfl,k H' x (fun c o e=>b c o (aD e nx) (s0 c o e)) nx P⟩⟩
 | 4,_=>
  refine⟨_,rfl,rfl,_,rfl,dI (by decide +kernel) ?_⟩
  refine⟨_,rfl,rfl,_,rfl,dI (by decide +kernel) ?_⟩
  refine⟨_,rfl,rfl,_,rfl,dI (by decide +kernel) ?_⟩
  refine⟨_,rfl,rfl,_,rfl,dI (by decide +kernel) ?_⟩
  refine⟨_,rfl,rfl,_,rfl,wV rfl ?_⟩
  refine⟨_,rfl,_,rfl,_,rfl,_,rfl,fun x dx nx ndx nex=>?_⟩
  have s0:aM H (upd (upd H dx (.own x)) x (.ins t.KC dx [])):=fun b o e=>by rw [aK (aD e nx),aK (aD e ndx)];exact e
  exact⟨4,x,dx,a1,a2,a3,nm,ns,is,os,rfl,au,s0.seqA h1,s0.seqA h2,s0.seqA h3,fun H' b P=>⟨rfl,k H' x (fun c o e=>b c o (aD e nx) (s0 c o e)) nx P⟩⟩
 | 5,_=>
  refine⟨_,rfl,rfl,_,rfl,dI (by decide +kernel) ?_⟩
  refine⟨_,rfl,rfl,_,rfl,dI (by decide +kernel) ?_⟩
  refine⟨_,rfl,rfl,_,rfl,dI (by decide +kernel) ?_⟩
  refine⟨_,rfl,rfl,_,rfl,dI (by decide +kernel) ?_⟩
  refine⟨_,rfl,rfl,_,rfl,dI (by decide +kernel) ?_⟩
  refine⟨_,rfl,rfl,_,rfl,wV rfl ?_⟩
  refine⟨_,rfl,_,rfl,_,rfl,_,rfl,fun x dx nx ndx nex=>?_⟩
  have s0:aM H (upd (upd H dx (.own x)) x (.ins t.Ln dx [])):=fun b o e=>by rw [aK (aD e nx),aK (aD e ndx)];exact e
  exact⟨5,x,dx,a1,a2,a3,nm,ns,is,os,rfl,au,s0.seqA h1,s0.seqA h2,s0.seqA h3,fun H' b P=>⟨rfl,k H' x (fun c o e=>b c o (aD e nx) (s0 c o e)) nx P⟩⟩
 | 6,_=>
  refine⟨_,rfl,rfl,_,rfl,dI (by decide +kernel) ?_⟩
  refine⟨_,rfl,rfl,_,rfl,dI (by decide +kernel) ?_⟩
  refine⟨_,rfl,rfl,_,rfl,dI (by decide +kernel) ?_⟩
  refine⟨_,rfl,rfl,_,rfl,dI (by decide +kernel) ?_⟩
  refine⟨_,rfl,rfl,_,rfl,dI (by decide +kernel) ?_⟩
  refine⟨_,rfl,rfl,_,rfl,dI (by decide +kernel) ?_⟩
  refine⟨_,rfl,rfl,_,rfl,wV rfl ?_⟩
  refine⟨_,rfl,_,rfl,_,rfl,_,rfl,fun x dx nx ndx nex=>?_⟩
  have s0:aM H (upd (upd H dx (.own x)) x (.ins t.Qj dx [])):=fun b o e=>by rw [aK (aD e nx),aK (aD e ndx)];exact e
  exact⟨6,x,dx,a1,a2,a3,nm,ns,is,os,rfl,au,s0.seqA h1,s0.seqA h2,s0.seqA h3,fun H' b P=>⟨rfl,k H' x (fun c o e=>b c o (aD e nx) (s0 c o e)) nx P⟩⟩
 | 7,_=>
  refine⟨_,rfl,rfl,_,rfl,dI (by decide +kernel) ?_⟩
  refine⟨_,rfl,rfl,_,rfl,dI (by decide +kernel) ?_⟩
  refine⟨_,rfl,rfl,_,rfl,dI (by decide +kernel) ?_⟩
  refine⟨_,rfl,rfl,_,rfl,dI (by decide +kernel) ?_⟩
  refine⟨_,rfl,rfl,_,rfl,dI (by decide +kernel) ?_⟩
  refine⟨_,rfl,rfl,_,rfl,dI (by decide +kernel) ?_⟩
  refine⟨_,rfl,rfl,_,rfl,dI (by decide +kernel) ?_⟩
  refine⟨_,rfl,rfl,_,rfl,wV rfl ?_⟩
  refine⟨_,rfl,_,rfl,_,rfl,_,rfl,fun x dx nx ndx nex=>?_⟩
  have s0:aM H (upd (upd H dx (.own x)) x (.ins t.K6 dx [])):=fun b o e=>by rw [aK (aD e nx),aK (aD e ndx)];exact e
  exact⟨7,x,dx,a1,a2,a3,nm,ns,is,os,rfl,au,s0.seqA h1,s0.seqA h2,s0.seqA h3,fun H' b P=>⟨rfl,k H' x (fun c o e=>b c o (aD e nx) (s0 c o e)) nx P⟩⟩
 | 8,_=>
  refine⟨_,rfl,rfl,_,rfl,dI (by decide +kernel) ?_⟩
  refine⟨_,rfl,rfl,_,rfl,dI (by decide +kernel) ?_⟩
  refine⟨_,rfl,rfl,_,rfl,dI (by decide +kernel) ?_⟩
  refine⟨_,rfl,rfl,_,rfl,dI (by decide +kernel) ?_⟩
  refine⟨_,rfl,rfl,_,rfl,dI (by decide +kernel) ?_⟩
  refine⟨_,rfl,rfl,_,rfl,dI (by decide +kernel) ?_⟩
  refine⟨_,rfl,rfl,_,rfl,dI (by decide +kernel) ?_⟩
  refine⟨_,rfl,rfl,_,rfl,dI (by decide +kernel) ?_⟩
  refine⟨_,rfl,rfl,_,rfl,wV rfl ?_⟩
  refine⟨_,rfl,_,rfl,_,rfl,_,rfl,fun x dx nx ndx nex=>?_⟩
  have s0:aM H (upd (upd H dx (.own x)) x (.ins t.Hh dx [])):=fun b o e=>by rw [aK (aD e nx),aK (aD e ndx)];exact e
  exact⟨8,x,dx,a1,a2,a3,nm,ns,is,os,rfl,au,s0.seqA h1,s0.seqA h2,s0.seqA h3,fun H' b P=>⟨rfl,k H' x (fun c o e=>b c o (aD e nx) (s0 c o e)) nx P⟩⟩
 | 9,_=>
  refine⟨_,rfl,rfl,_,rfl,dI (by decide +kernel) ?_⟩
  refine⟨_,rfl,rfl,_,rfl,dI (by decide +kernel) ?_⟩
  refine⟨_,rfl,rfl,_,rfl,dI (by decide +kernel) ?_⟩
  refine⟨_,rfl,rfl,_,rfl,dI (by decide +kernel) ?_⟩
  refine⟨_,rfl,rfl,_,rfl,dI (by decide +kernel) ?_⟩
  refine⟨_,rfl,rfl,_,rfl,dI (by decide +kernel) ?_⟩
  refine⟨_,rfl,rfl,_,rfl,dI (by decide +kernel) ?_⟩
  refine⟨_,rfl,rfl,_,rfl,dI (by decide +kernel) ?_⟩
  refine⟨_,rfl,rfl,_,rfl,dI (by decide +kernel) ?_⟩
  refine⟨_,rfl,rfl,_,rfl,wV rfl ?_⟩
  refine⟨_,rfl,_,rfl,_,rfl,_,rfl,fun x dx nx ndx nex=>?_⟩
  have s0:aM H (upd (upd H dx (.own x)) x (.ins t.Ec dx [])):=fun b o e=>by rw [aK (aD e nx),aK (aD e ndx)];exact e
  exact⟨9,x,dx,a1,a2,a3,nm,ns,is,os,rfl,au,s0.seqA h1,s0.seqA h2,s0.seqA h3,fun H' b P=>⟨rfl,k H' x (fun c o e=>b c o (aD e nx) (s0 c o e)) nx P⟩⟩
 | 10,_=>
  refine⟨_,rfl,rfl,_,rfl,dI (by decide +kernel) ?_⟩
  refine⟨_,rfl,rfl,_,rfl,dI (by decide +kernel) ?_⟩
  refine⟨_,rfl,rfl,_,rfl,dI (by decide +kernel) ?_⟩
  refine⟨_,rfl,rfl,_,rfl,dI (by decide +kernel) ?_⟩
  refine⟨_,rfl,rfl,_,rfl,dI (by decide +kernel) ?_⟩
  refine⟨_,rfl,rfl,_,rfl,dI (by decide +kernel) ?_⟩
  refine⟨_,rfl,rfl,_,rfl,dI (by decide +kernel) ?_⟩
  refine⟨_,rfl,rfl,_,rfl,dI (by decide +kernel) ?_⟩
  refine⟨_,rfl,rfl,_,rfl,dI (by decide +kernel) ?_⟩
  refine⟨_,rfl,rfl,_,rfl,dI (by decide +kernel) ?_⟩
  refine⟨_,rfl,_,rfl,_,rfl,_,rfl,fun x dx nx ndx nex=>?_⟩
  have s0:aM H (upd (upd H dx (.own x)) x (.ins t.Jb dx [])):=fun b o e=>by rw [aK (aD e nx),aK (aD e ndx)];exact e
  exact⟨10,x,dx,a1,a2,a3,nm,ns,is,os,rfl,au,s0.seqA h1,s0.seqA h2,s0.seqA h3,fun H' b P=>⟨rfl,k H' x (fun c o e=>b c o (aD e nx) (s0 c o e)) nx P⟩⟩
 | (n+11),h=>exact absurd h (by omega)
inductive yJ (K:PySem.W.Frag) (t:jy) (vs:List V) (H:Hp) (Q:VK) (E:XK):Prop where
 | mk:∀(i:Nat) (nm:V) (a1 a2 a3:Addr) (ns is os:List V),vs=[.str (eG i),nm,.ref a1,.ref a2,.ref a3]->i<=10->ym K H a1 ns->ym K H a2 is->ym K H a3 os->ns.length=cN i->is.length=cI i->os.length=cO i->((∀v∈ns,Val v))->(∀H' p,aM H H'->H p=none->fD K t H' p i nm ns is os->Q (.ref p) H')->yJ K t vs H Q E
noncomputable abbrev uv:List Str:=["kind", "name", "numbers", "ins", "outs"]
theorem Ij (T:Txt w K mg t):FO P w K mg base 4 t.Aq uv (yJ K t):=by
 have sc:fX uv uv (aR (top 49)):=MJ
 refine T.zL.F.ok sc ln (fun _ _ _ _ H vs Q E hr h=>?_)
 obtain⟨i,nm,a1,a2,a3,ns,is,os,rfl,hi,h1,h2,h3,l1,l2,l3,hv,k⟩:=h
 refine⟨_,(aq (bC (dw (J1 T) T.wN hr (aa (pv 0) (aa (pv 1) (aa (pv 2) (aa (pv 3) (aa (pv 4) ak aj) aj) aj) aj) aj)))
  (aA (aN (dw (Ml T) T.GD hr (aa (pv 0) (aa (pv 1) (aa (pv 2) (aa (pv 3) (aa (pv 4) ak aj) aj) aj) aj) aj))))),?_⟩
 refine⟨_,rfl,_,rfl,_,rfl,_,rfl,_,rfl,i,nm,a1,a2,a3,ns,is,os,rfl,h1,h2,h3,l1,l2,l3,hv,fun H1 s1=>?_⟩
 exact⟨_,rfl,_,rfl,_,rfl,_,rfl,_,rfl,i,nm,a1,a2,a3,ns,is,os,rfl,hi,s1.seqA h1,s1.seqA h2,s1.seqA h3,fun H2 p s2 np P=>k H2 p (s1.trans s2) (s1.free np) P⟩
inductive Oa (vs:List V) (H:Hp) (Q:VK) (E:XK):Prop where
 | mk:∀a:Int,vs=[.int a]->Q (.int (a % 1000000000)) H->Oa vs H Q E
theorem Jh (T:Txt w K mg t):FO P w K mg base 1 t.Qg ["number"] (Oa):=by
 have sc:=T.Do.sc ["number"]
 refine T.Do.F.ok sc ln (fun _ _ _ _ H vs Q E hr h=>?_)
 obtain⟨a,rfl,k⟩:=h
 refine⟨_,(aA (aN (bx cj (pv 0) (jm (by rfl) T.Ks)))),?_⟩
 exact⟨_,rfl,_,_,rfl,rfl,by show(0:Int) <1000000000;decide,k⟩
inductive uw (K:PySem.W.Frag) (t:jy) (vs:List V) (H:Hp) (Q:VK) (E:XK):Prop where
 | mk:∀i,i≠9->m5 K t i vs H Q E->uw K t vs H Q E
theorem cU (T:Txt w K mg t):FO P w K mg base 1 t.cC ["self", "heads"] (uw K t):=by
 have sc:=T.bA.sc ["self", "heads"]
 refine T.bA.F.ok sc ln (fun _ _ _ _ H vs Q E hr h=>?_)
 obtain⟨i,hi,p,a,nm,ns,is,os,hs,rfl,hP,hI,hS,hH,k⟩:=h
 refine⟨_,(aA (aN (eY (Fl rfl) (by rfl) T.um pX (aa (eY J2 (by rfl) T.j9 SX (aa (bu bR (by rfl) T.fB du (aa (bh (pv 0) rfl) ak bB)) ak aZ)) ak aZ)))),?_⟩
 obtain⟨dx,tn,ti,to,hp,h2,h3,h4⟩:=id hP.ex
 have h3':=Gj i
 refine⟨_,rfl,p,cls t i,dx,_,.ref ti,rfl,hp,iz T i,zf T i,ug _ _ _ _,.ref ti,is.length,rfl,.inr ⟨is,h3,rfl⟩,_,rfl,fun r hr=>⟨r,is.length,rfl,au,by omega,fun l hl=>?_⟩⟩
 have e:(places i hs).map nV=S8 is.length:=by
  unfold places S8
  rw [if_neg hi,hH.1,hI]
  rfl
 refine k _ l ((aB hr).trans (aB hl)) ((aB hr).free hl) ?_
 rw [e]
 exact au
theorem yS (T:Txt w K mg t):FO P w K mg base 1 t.lZ ["self", "heads"] (m5 K t 9):=by
 have sc:=T.jr.sc ["self", "heads"]
 refine T.jr.F.ok sc ln (fun _ _ _ _ H vs Q E hr h=>?_)
 obtain⟨p,a,nm,ns,is,os,hs,rfl,hP,hI,hS,hH,k⟩:=h
 refine⟨_,(aq (bN (gh (zr (aO aX (pv 1) az (fun _ _=>rfl))))
   (aA (aN (bz (aa az ak ao))))
   bj)
  (aA (aN (bz (aa az (aa (bx dD az (bx cj (aO aX (pv 1) az (fun _ _=>rfl)) az)) ak bL) ao))))),?_⟩
 have hl:sizeLine=16777216:=sizeLine_eq
 have hlen:hs.length=3:=hH.1
 match hs,hlen,hH with
 | h0:: r,hlen,hH=>
  have ea:Fi (h0:: r) 0=some h0:=aJ (xs:=h0:: r) (j:=0) rfl
  rcases hH.2 h0 List.mem_cons_self with e | ⟨n,e⟩
  ·subst e
   refine⟨_,rfl,a,_,0,_,rfl,rfl,hS,ea,_,rfl,wV rfl ?_⟩
   exact⟨iu,fun L hL=>k _ L (aB hL) hL au⟩
  ·subst e
   refine⟨_,rfl,a,_,0,_,rfl,rfl,hS,ea,_,rfl,dI (by intro z;cases z) ?_⟩
   refine⟨_,rfl,a,_,0,_,rfl,rfl,hS,ea,_,_,rfl,rfl,by show(0:Int) <2;decide,_,_,rfl,rfl,iu,fun L hL=>k _ L (aB hL) hL ?_⟩
   have h0:=Int.emod_nonneg n (show(2:Int)≠0 by decide)
   have e1:(1:Int)+n % 2=((1+(n % 2).toNat:Nat):Int):=by omega
   rw [au]
   show some (HO.lst [.int 0,.int (1+n % 2)])=some (HO.lst [.int ((0:Nat):Int),.int ((1+(n % 2).toNat:Nat):Int)])
   rw [e1]
   rfl
theorem GJ (T:Txt w K mg t) (i:Nat):MethAt P w K mg base Ce 1 (cls t i) "taking" (m5 K t i):=match i with
 | 0=>⟨_,_,_,T.iR.c,(T.bA.me T.iR.me.2.2.1),T.bA.b,(cU T).imp fun _ _ _ _ h=>⟨_,by omega,h⟩⟩
 | 1=>⟨_,_,_,T.iC.c,(T.bA.me T.iC.me.2.2.1),T.bA.b,(cU T).imp fun _ _ _ _ h=>⟨_,by omega,h⟩⟩
 | 2=>⟨_,_,_,T.iH.c,(T.bA.me T.iH.me.2.2.1),T.bA.b,(cU T).imp fun _ _ _ _ h=>⟨_,by omega,h⟩⟩
 | 3=>⟨_,_,_,T.iD.c,(T.bA.me T.iD.me.2.2.1),T.bA.b,(cU T).imp fun _ _ _ _ h=>⟨_,by omega,h⟩⟩
 | 4=>⟨_,_,_,T.iK.c,(T.bA.me T.iK.me.2.2.1),T.bA.b,(cU T).imp fun _ _ _ _ h=>⟨_,by omega,h⟩⟩
 | 5=>⟨_,_,_,T.iB.c,(T.bA.me T.iB.me.2.2.1),T.bA.b,(cU T).imp fun _ _ _ _ h=>⟨_,by omega,h⟩⟩
 | 6=>⟨_,_,_,T.lE.c,(T.bA.me T.lE.me.2.2.1),T.bA.b,(cU T).imp fun _ _ _ _ h=>⟨_,by omega,h⟩⟩
 | 7=>⟨_,_,_,T.iJ.c,(T.bA.me T.iJ.me.2.2.1),T.bA.b,(cU T).imp fun _ _ _ _ h=>⟨_,by omega,h⟩⟩
 | 8=>⟨_,_,_,T.fK.c,(T.bA.me T.fK.me.2.2.1),T.bA.b,(cU T).imp fun _ _ _ _ h=>⟨_,by omega,h⟩⟩
 | 9=>⟨_,_,_,T.dY.c,(T.jr.me T.dY.me.2.2.1),T.jr.b,yS T⟩
 | n+10=>⟨_,_,_,T.fO.c,(T.bA.me T.fO.me.2.2.1),T.bA.b,(cU T).imp fun _ _ _ _ h=>⟨_,by omega,h⟩⟩
inductive v9 (K:PySem.W.Frag) (t:jy) (vs:List V) (H:Hp) (Q:VK) (E:XK):Prop where
 | mk:∀i,xP K t i vs H Q E->v9 K t vs H Q E
theorem cW (T:Txt w K mg t):FO P w K mg base 2 t.cG ["self", "heads"] (v9 K t):=by
 have sc:=T.bD.sc ["self", "heads", "place"]
 refine T.bD.F.ok sc ln (fun _ _ _ _ H vs Q E hr h=>?_)
 obtain⟨i,p,a,nm,ns,is,os,hs,rfl,hP,hI,hS,hH,k⟩:=h
 refine⟨_,(aq (dG PassesOwn.never rfl (bM (yz (CX:=Ce) (k:=1) (E:=E0) (pv 0) (hr.mono (by decide)) ig (aa (pv 1) ak aj))) (gN sc 2)
   (aA (bN (gh (zr (aO aX (pv 1) (pv 2) (fun _ _=>rfl))))
    (aA (aN (pv 2)))
    bj)))
  (aA (aN rQ))),?_⟩
 obtain⟨dx,tn,ti,to,hp,h2,h3,h4⟩:=id hP.ex
 refine⟨_,rfl,p,cls t i,dx,_,m5 K t i,rfl,hp,u0 _ _ _ _ (by decide +kernel) (by decide +kernel) (by decide +kernel) (by decide +kernel),GJ T i,_,rfl,p,a,nm,ns,is,os,hs,rfl,hP,hI,hS,hH,fun H1 L s1 nL eL=>⟨L,rfl,⟨_,bF.of eL⟩,?_⟩⟩
 refine cX (K:=K) (a:=L) (xs:=(places i hs).map nV) (fun j σ H2=>H2=H1/\∃v,σ=[some (.ref p),some (.ref a),v]/\∀q∈(places i hs).take j,vU hs q=false)
  ⟨rfl,none,rfl,by simp⟩ (fun j σ H2 _ ⟨e,_⟩=>by rw [e];exact bF.of eL) ?_ ?_
 ·rintro j x σ H2 hx ⟨rfl,v,rfl,hno⟩
  rw [List.getElem?_map] at hx
  obtain⟨q,hq,rfl⟩:=Option.map_eq_some_iff.mp hx
  have hlt:=j0 hH q (List.mem_of_getElem? hq)
  obtain⟨hv,ev⟩:∃hv,hs[q]?=some hv:=⟨hs[q],List.getElem?_eq_getElem hlt⟩
  refine⟨_,rfl,_,rfl,a,hs,_,hv,rfl,rfl,s1.seq hS,aJ ev,_,rfl,jz (fun hn=>?_) (fun hn=>?_)⟩
  ·have hn':hv=.non:=of_decide_eq_true hn
   refine⟨_,rfl,?_⟩
   have:=k H2 s1
   unfold Ob at this
   rw [Nj hq hno (by unfold vU;rw [ev,hn'];simp)] at this
   exact this
  ·have hn':¬hv=.non:=fun z=>hn (decide_eq_true z)
   refine⟨rfl,_,rfl,fun y hy=>?_⟩
   rw [List.take_add_one,hq] at hy
   rcases List.mem_append.mp hy with hy | hy
   ·exact hno y hy
   ·have e:y=q:=by simpa using hy
    subst e
    unfold vU
    rw [ev]
    simpa using hn'
 ·rintro σ H2 ⟨rfl,v,rfl,hno⟩
  have:=k H2 s1
  unfold Ob at this
  rw [lM,List.take_of_length_le (Nat.le_refl _)] at hno
  rw [Ub hno] at this
  exact this
inductive vQ (K:PySem.W.Frag) (t:jy) (vs:List V) (H:Hp) (Q:VK) (E:XK):Prop where
 | mk:∀i,i≠5->uC K t i vs H Q E->vQ K t vs H Q E
theorem dz (T:Txt w K mg t):FO P w K mg base 1 t.cY ["self"] (vQ K t):=by
 have sc:=T.bH.sc ["self"]
 refine T.bH.F.ok sc ln (fun _ _ _ _ H vs Q E hr h=>?_)
 obtain⟨i,hi,p,nm,ns,is,os,rfl,hP,hn,k⟩:=h
 refine⟨_,(aA (aN az)),?_⟩
 unfold Ht at k
 rw [if_neg hi] at k
 exact k
theorem EY (T:Txt w K mg t):FO P w K mg base 1 t.rE ["self"] (uC K t 5):=by
 have sc:=T.mU.sc ["self"]
 refine T.mU.F.ok sc ln (fun _ _ _ _ H vs Q E hr h=>?_)
 obtain⟨p,nm,ns,is,os,rfl,hP,hn,k⟩:=h
 refine⟨_,(aA (aN (aO Mi (bh (pv 0) rfl) az (fun _ _=>rfl)))),?_⟩
 obtain⟨dx,tn,ti,to,hp,h2,h3,h4⟩:=id hP.ex
 match ns,hn with
 | v:: r,hn=>
  exact⟨_,rfl,p,cls t 5,dx,_,.ref tn,rfl,hp,iz T 5,rn T 5,rR _ _ _ _,.inr (.inl ⟨tn,_,0,v,rfl,rfl,h2,aJ (xs:=v:: r) (j:=0) rfl,k⟩)⟩
theorem Dz (T:Txt w K mg t):FO P w K mg base 1 t.qi ["self", "values", "kept"] (d7 K t 2):=by
 have sc:=T.kO.sc ["self", "values", "kept"]
 refine T.kO.F.ok sc ln (fun _ _ _ _ H vs Q E hr h=>?_)
 obtain⟨p,a,nm,ns,is,os,ws,kp,rfl,hP,ln,hS,lw,hB,k⟩:=h
 refine⟨_,(aA (aN (cz (aa (bz (aa (cz (aa az (aa (aO aX (pv 1) az (fun _ _=>rfl)) ak aF) ao)) ak cL)) (aa (pv 2) ak aj) aW)))),?_⟩
 obtain⟨dx,tn,ti,to,hp,h2,h3,h4⟩:=id hP.ex
 match ws,lw with
 | [v],_=>
  have fin:∀H' L rs,aM H H'->H L=none->H' L=some (.lst (rs.map V.ref))->cM H' rs (Jo (cT 2 ns [v] kp))->∀U,H' U=none->Q (.ref U) (upd H' U (.tup [.ref L,.int (fV 2 [v] kp)])):=BX k
  exact⟨_,rfl,a,_,0,_,rfl,rfl,hS,rfl,dO,fun t0 n0=>⟨one_le,fun L nL=>⟨_,rfl,dO,fun U nU=>xN (Q:=fun x H'=>∀U,H' U=none->Q (.ref U) (upd H' U (.tup [x,.int (fV 2 [v] kp)]))) rfl rfl fin n0 nL U nU⟩⟩⟩
theorem CJ (T:Txt w K mg t):FO P w K mg base 1 t.qu ["self", "values", "kept"] (d7 K t 3):=by
 have sc:=T.kJ.sc ["self", "values", "kept"]
 refine T.kJ.F.ok sc ln (fun _ _ _ _ H vs Q E hr h=>?_)
 obtain⟨p,a,nm,ns,is,os,ws,kp,rfl,hP,ln,hS,lw,hB,k⟩:=h
 refine⟨_,(aA (aN (cz (aa (bz (aa (cz (aa az (aa (aO aX (pv 1) az (fun _ _=>rfl)) ak aF) ao)) (aa (cz (aa az (aa (aO aX (pv 1) az (fun _ _=>rfl)) ak aF) ao)) ak cL) cL)) (aa (pv 2) ak aj) aW)))),?_⟩
 obtain⟨dx,tn,ti,to,hp,h2,h3,h4⟩:=id hP.ex
 match ws,lw with
 | [v],_=>
  have fin:∀H' L rs,aM H H'->H L=none->H' L=some (.lst (rs.map V.ref))->cM H' rs (Jo (cT 3 ns [v] kp))->∀U,H' U=none->Q (.ref U) (upd H' U (.tup [.ref L,.int (fV 3 [v] kp)])):=BX k
  exact⟨_,rfl,a,_,0,_,rfl,rfl,hS,rfl,dO,fun t0 n0=>⟨_,rfl,a,_,0,_,rfl,rfl,((aB n0).seq hS),rfl,dO,fun t1 n1=>⟨dO,fun L nL=>⟨_,rfl,dO,fun U nU=>VM (Q:=fun x H'=>∀U,H' U=none->Q (.ref U) (upd H' U (.tup [x,.int (fV 3 [v] kp)]))) rfl rfl rfl rfl fin n0 n1 nL U nU⟩⟩⟩⟩
theorem El (T:Txt w K mg t):FO P w K mg base 2 t.p7 ["self", "values", "kept"] (d7 K t 4):=by
 have sc:=T.kh.sc ["self", "values", "kept"]
 refine T.kh.F.ok sc ln (fun _ _ _ _ H vs Q E hr h=>?_)
 obtain⟨p,a,nm,ns,is,os,ws,kp,rfl,hP,ln,hS,lw,hB,k⟩:=h
 refine⟨_,(aA (aN (cz (aa (bz (aa (cz (aa az (aa (dw (Jh T) T.Do hr (aa (bx dD (bx mQ (aO Mi (bh (pv 0) rfl) az (fun _ _=>rfl)) (aO aX (pv 1) az (fun _ _=>rfl))) (aO Mi (bh (pv 0) rfl) az (fun _ _=>rfl))) ak bL)) ak aZ) ao)) ak cL)) (aa (pv 2) ak aj) aW)))),?_⟩
 obtain⟨dx,tn,ti,to,hp,h2,h3,h4⟩:=id hP.ex
 match ws,lw,ns,ln with
 | [v],_,[m,m1],_=>
  have fin:∀H' L rs,aM H H'->H L=none->H' L=some (.lst (rs.map V.ref))->cM H' rs (Jo (cT 4 [m,m1] [v] kp))->∀U,H' U=none->Q (.ref U) (upd H' U (.tup [.ref L,.int (fV 4 [v] kp)])):=BX k
  exact⟨_,rfl,p,cls t 4,dx,_,.ref tn,rfl,hp,iz T 4,rn T 4,rR _ _ _ _,.inr (.inl ⟨tn,_,0,_,rfl,rfl,h2,rfl,_,rfl,a,_,0,_,rfl,rfl,hS,rfl,_,_,rfl,rfl,Zo hB (by simp),_,rfl,p,cls t 4,dx,_,.ref tn,rfl,hp,iz T 4,rn T 4,rR _ _ _ _,.inr (.inl ⟨tn,_,1,_,rfl,rfl,h2,rfl,_,_,rfl,rfl,_,rfl,dO,fun t0 n0=>⟨one_le,fun L nL=>⟨_,rfl,dO,fun U nU=>xN (Q:=fun x H'=>∀U,H' U=none->Q (.ref U) (upd H' U (.tup [x,.int (fV 4 [v] kp)]))) rfl rfl fin n0 nL U nU⟩⟩⟩)⟩)⟩
theorem CV (T:Txt w K mg t):FO P w K mg base 2 t.qy ["self", "values", "kept"] (d7 K t 5):=by
 have sc:=T.kI.sc ["self", "values", "kept", "together"]
 refine T.kI.F.ok sc ln (fun _ _ _ _ H vs Q E hr h=>?_)
 obtain⟨p,a,nm,ns,is,os,ws,kp,rfl,hP,ln,hS,lw,hB,k⟩:=h
 refine⟨_,(aq (sN sc 3 (dw (Jh T) T.Do hr (aa (bx dD (pv 2) (aO aX (pv 1) az (fun _ _=>rfl))) ak bL)))
  (aA (aN (cz (aa (bz (aa (cz (aa az (aa (pv 3) ak aj) ao)) ak cL)) (aa (pv 3) ak aj) aW))))),?_⟩
 obtain⟨dx,tn,ti,to,hp,h2,h3,h4⟩:=id hP.ex
 match ws,lw with
 | [v],_=>
  have fin:∀H' L rs,aM H H'->H L=none->H' L=some (.lst (rs.map V.ref))->cM H' rs (Jo (cT 5 ns [v] kp))->∀U,H' U=none->Q (.ref U) (upd H' U (.tup [.ref L,.int (fV 5 [v] kp)])):=BX k
  exact⟨_,rfl,_,rfl,a,_,0,_,rfl,rfl,hS,rfl,_,_,rfl,rfl,_,rfl,_,rfl,dO,fun t0 n0=>⟨one_le,fun L nL=>⟨_,rfl,dO,fun U nU=>xN (Q:=fun x H'=>∀U,H' U=none->Q (.ref U) (upd H' U (.tup [x,.int (fV 5 [v] kp)]))) rfl rfl fin n0 nL U nU⟩⟩⟩
theorem Ey (T:Txt w K mg t):FO P w K mg base 2 t.rN ["self", "values", "kept"] (d7 K t 6):=by
 have sc:=T.mF.sc ["self", "values", "kept"]
 refine T.mF.F.ok sc ln (fun _ _ _ _ H vs Q E hr h=>?_)
 obtain⟨p,a,nm,ns,is,os,ws,kp,rfl,hP,ln,hS,lw,hB,k⟩:=h
 refine⟨_,(aA (aN (cz (aa (bz (aa (cz (aa az (aa (dw (Jh T) T.Do hr (aa (bx dD (aO aX (pv 1) az (fun _ _=>rfl)) (aO aX (pv 1) az (fun _ _=>rfl))) ak bL)) ak aZ) ao)) ak cL)) (aa (pv 2) ak aj) aW)))),?_⟩
 obtain⟨dx,tn,ti,to,hp,h2,h3,h4⟩:=id hP.ex
 match ws,lw with
 | [v,v1],_=>
  have fin:∀H' L rs,aM H H'->H L=none->H' L=some (.lst (rs.map V.ref))->cM H' rs (Jo (cT 6 ns [v,v1] kp))->∀U,H' U=none->Q (.ref U) (upd H' U (.tup [.ref L,.int (fV 6 [v,v1] kp)])):=BX k
  exact⟨_,rfl,a,_,0,_,rfl,rfl,hS,rfl,_,rfl,a,_,1,_,rfl,rfl,hS,rfl,_,_,rfl,rfl,_,rfl,dO,fun t0 n0=>⟨one_le,fun L nL=>⟨_,rfl,dO,fun U nU=>xN (Q:=fun x H'=>∀U,H' U=none->Q (.ref U) (upd H' U (.tup [x,.int (fV 6 [v,v1] kp)]))) rfl rfl fin n0 nL U nU⟩⟩⟩
theorem CN (T:Txt w K mg t):FO P w K mg base 1 t.qx ["self", "values", "kept"] (d7 K t 7):=by
 have sc:=T.kZ.sc ["self", "values", "kept"]
 refine T.kZ.F.ok sc ln (fun _ _ _ _ H vs Q E hr h=>?_)
 obtain⟨p,a,nm,ns,is,os,ws,kp,rfl,hP,ln,hS,lw,hB,k⟩:=h
 refine⟨_,(aA (aN (cz (aa (bz (aa (cz (aa az (aa (oA (aV yr (aO aX (pv 1) az (fun _ _=>rfl)) (aO aX (pv 1) az (fun _ _=>rfl)) (bI _)) az az) ak Mf) ao)) ak cL)) (aa (pv 2) ak aj) aW)))),?_⟩
 obtain⟨dx,tn,ti,to,hp,h2,h3,h4⟩:=id hP.ex
 match ws,lw with
 | [v,v1],_=>
  have fin:∀H' L rs,aM H H'->H L=none->H' L=some (.lst (rs.map V.ref))->cM H' rs (Jo (cT 7 ns [v,v1] kp))->∀U,H' U=none->Q (.ref U) (upd H' U (.tup [.ref L,.int (fV 7 [v,v1] kp)])):=BX k
  refine⟨_,rfl,a,_,0,_,rfl,rfl,hS,rfl,_,rfl,a,_,1,_,rfl,rfl,hS,rfl,_,_,rfl,rfl,_,rfl,jz (fun h=>?_) (fun h=>?_)⟩
  ·have h':v <v1:=of_decide_eq_true h
   exact⟨dO,fun t0 n0=>⟨one_le,fun L nL=>⟨_,rfl,dO,fun U nU=>xN (Q:=fun x H'=>∀U,H' U=none->Q (.ref U) (upd H' U (.tup [x,.int (fV 7 [v,v1] kp)]))) rfl (by show(1:Int)=if v <v1 then 1 else 0;rw [if_pos h']) fin n0 nL U nU⟩⟩⟩
  ·have h':¬v <v1:=fun z=>h (decide_eq_true z)
   exact⟨dO,fun t0 n0=>⟨one_le,fun L nL=>⟨_,rfl,dO,fun U nU=>xN (Q:=fun x H'=>∀U,H' U=none->Q (.ref U) (upd H' U (.tup [x,.int (fV 7 [v,v1] kp)]))) rfl (by show(0:Int)=if v <v1 then 1 else 0;rw [if_neg h']) fin n0 nL U nU⟩⟩⟩
theorem Bq (T:Txt w K mg t):FO P w K mg base 1 t.oY ["self", "values", "kept"] (d7 K t 8):=by
 have sc:=T.jG.sc ["self", "values", "kept"]
 refine T.jG.F.ok sc ln (fun _ _ _ _ H vs Q E hr h=>?_)
 obtain⟨p,a,nm,ns,is,os,ws,kp,rfl,hP,ln,hS,lw,hB,k⟩:=h
 refine⟨_,(aA (aN (cz (aa (bz (aa (cz (aa az (aa (bu (O8 rfl) (by rfl) T.Xy Wb (aa (pv 1) ak aj)) ak aZ) ao)) (aa (cz (aa az (aa (bu (Pq rfl) (by rfl) T.QT Lj (aa (pv 1) ak aj)) ak aZ) ao)) ak cL) cL)) (aa (pv 2) ak aj) aW)))),?_⟩
 obtain⟨dx,tn,ti,to,hp,h2,h3,h4⟩:=id hP.ex
 match ws,lw with
 | [v,v1],_=>
  have fin:∀H' L rs,aM H H'->H L=none->H' L=some (.lst (rs.map V.ref))->cM H' rs (Jo (cT 8 ns [v,v1] kp))->∀U,H' U=none->Q (.ref U) (upd H' U (.tup [.ref L,.int (fV 8 [v,v1] kp)])):=BX k
  exact⟨_,rfl,a,v,v1,rfl,hS,dO,fun t0 n0=>⟨_,rfl,a,v,v1,rfl,(aB n0).seq hS,dO,fun t1 n1=>⟨dO,fun L nL=>⟨_,rfl,dO,fun U nU=>VM (Q:=fun x H'=>∀U,H' U=none->Q (.ref U) (upd H' U (.tup [x,.int (fV 8 [v,v1] kp)]))) rfl rfl rfl rfl fin n0 n1 nL U nU⟩⟩⟩⟩
theorem yR (T:Txt w K mg t):FO P w K mg base 1 t.lV ["self", "values", "kept"] (d7 K t 9):=by
 have sc:=T.jq.sc ["self", "values", "kept"]
 refine T.jq.F.ok sc ln (fun _ _ _ _ H vs Q E hr h=>?_)
 obtain⟨p,a,nm,ns,is,os,ws,kp,rfl,hP,ln,hS,lw,hB,k⟩:=h
 refine⟨_,(aA (aN (cz (aa (bz (aa (cz (aa az (aa (aO aX (pv 1) az (fun _ _=>rfl)) ak aF) ao)) ak cL)) (aa (pv 2) ak aj) aW)))),?_⟩
 obtain⟨dx,tn,ti,to,hp,h2,h3,h4⟩:=id hP.ex
 match ws,lw with
 | [v,v1],_=>
  have fin:∀H' L rs,aM H H'->H L=none->H' L=some (.lst (rs.map V.ref))->cM H' rs (Jo (cT 9 ns [v,v1] kp))->∀U,H' U=none->Q (.ref U) (upd H' U (.tup [.ref L,.int (fV 9 [v,v1] kp)])):=BX k
  exact⟨_,rfl,a,_,1,_,rfl,rfl,hS,rfl,dO,fun t0 n0=>⟨one_le,fun L nL=>⟨_,rfl,dO,fun U nU=>xN (Q:=fun x H'=>∀U,H' U=none->Q (.ref U) (upd H' U (.tup [x,.int (fV 9 [v,v1] kp)]))) rfl rfl fin n0 nL U nU⟩⟩⟩
theorem Bm (T:Txt w K mg t):FO P w K mg base 1 t.oR ["self", "values", "kept"] (d7 K t 10):=by
 have sc:=T.jO.sc ["self", "values", "kept"]
 refine T.jO.F.ok sc ln (fun _ _ _ _ H vs Q E hr h=>?_)
 obtain⟨p,a,nm,ns,is,os,ws,kp,rfl,hP,ln,hS,lw,hB,k⟩:=h
 refine⟨_,(aA (aN (cz (aa (bz (aa (cz (aa (bx cj (aO aX (pv 1) az (fun _ _=>rfl)) az) (aa (aO aX (pv 1) az (fun _ _=>rfl)) ak aF) bL)) ak cL)) (aa (pv 2) ak aj) aW)))),?_⟩
 obtain⟨dx,tn,ti,to,hp,h2,h3,h4⟩:=id hP.ex
 match ws,lw with
 | [v,v1],_=>
  have fin:∀H' L rs,aM H H'->H L=none->H' L=some (.lst (rs.map V.ref))->cM H' rs (Jo (cT 10 ns [v,v1] kp))->∀U,H' U=none->Q (.ref U) (upd H' U (.tup [.ref L,.int (fV 10 [v,v1] kp)])):=BX k
  exact⟨_,rfl,a,_,0,_,rfl,rfl,hS,rfl,_,_,rfl,rfl,by show(0:Int) <2;decide,_,rfl,a,_,1,_,rfl,rfl,hS,rfl,dO,fun t0 n0=>⟨one_le,fun L nL=>⟨_,rfl,dO,fun U nU=>xN (Q:=fun x H'=>∀U,H' U=none->Q (.ref U) (upd H' U (.tup [x,.int (fV 10 [v,v1] kp)]))) rfl rfl fin n0 nL U nU⟩⟩⟩
theorem Ci (T:Txt w K mg t):FO P w K mg base 1 t.qg ["self", "values", "kept"] (d7 K t 0):=by
 have sc:=T.lg.sc ["self", "values", "kept"]
 refine T.lg.F.ok sc ln (fun _ _ _ _ H vs Q E hr h=>?_)
 obtain⟨p,a,nm,ns,is,os,ws,kp,rfl,hP,ln,hS,lw,hB,k⟩:=h
 refine⟨_,(aA (aN (cz (aa (bz (aa (cz (aa az (aa (aO aX (pv 1) az (fun _ _=>rfl)) ak aF) ao)) ak cL)) (aa (pv 2) ak aj) aW)))),?_⟩
 obtain⟨dx,tn,ti,to,hp,h2,h3,h4⟩:=id hP.ex
 match ws,lw with
 | [v],_=>
  have fin:∀H' L rs,aM H H'->H L=none->H' L=some (.lst (rs.map V.ref))->cM H' rs (Jo (cT 0 ns [v] kp))->∀U,H' U=none->Q (.ref U) (upd H' U (.tup [.ref L,.int (fV 0 [v] kp)])):=BX k
  exact⟨_,rfl,a,_,0,_,rfl,rfl,hS,rfl,dO,fun t0 n0=>⟨one_le,fun L nL=>⟨_,rfl,dO,fun U nU=>xN (Q:=fun x H'=>∀U,H' U=none->Q (.ref U) (upd H' U (.tup [x,.int (fV 0 [v] kp)]))) rfl rfl fin n0 nL U nU⟩⟩⟩
theorem DX (T:Txt w K mg t):FO P w K mg base 1 t.qe ["self", "values", "kept"] (d7 K t 1):=by
 have sc:=T.lu.sc ["self", "values", "kept"]
 refine T.lu.F.ok sc ln (fun _ _ _ _ H vs Q E hr h=>?_)
 obtain⟨p,a,nm,ns,is,os,ws,kp,rfl,hP,ln,hS,lw,hB,k⟩:=h
 refine⟨_,(aA (aN (cz (aa (bz ak) (aa (pv 2) ak aj) aW)))),?_⟩
 obtain⟨dx,tn,ti,to,hp,h2,h3,h4⟩:=id hP.ex
 match ws,lw with
 | [v],_=>
  have fin:∀H' L rs,aM H H'->H L=none->H' L=some (.lst (rs.map V.ref))->cM H' rs (Jo (cT 1 ns [v] kp))->∀U,H' U=none->Q (.ref U) (upd H' U (.tup [.ref L,.int (fV 1 [v] kp)])):=BX k
  exact⟨by show 0<=sizeLine;decide,fun L nL=>⟨_,rfl,dO,fun U nU=>fin _ L [] (aB nL) nL au .nil U nU⟩⟩
inductive Ae (vs:List V) (H:Hp) (Q:VK) (E:XK):Prop where
 | mk:∀a b:Int,vs=[.int a,.int b]->Q (.int (b7 a b)) H->Ae vs H Q E
theorem aY (T:Txt w K mg t):FO P w K mg base 1 t.Cg ["_law_cell_here", "_law_k"] (Ae):=by
 have sc:=T.bf.sc ["_law_cell_here", "_law_k", "_law_number"]
 refine T.bf.F.ok sc ln (fun _ _ _ _ H vs Q E hr h=>?_)
 obtain⟨a,b,rfl,k⟩:=h
 refine⟨_,(aq (sN sc 2 (bx cj (bx dD (bx dD (bx mQ (bx cj (pv 0) az) az) (bx mQ az (pv 1))) az) az))
  (aq (sN sc 2 (bx cj (bx mQ (pv 2) (pv 2)) az))
  (aA (aN (bx cj (bx mQ (bx dD (pv 2) (bx mQ az (pv 1))) (pv 2)) az))))),?_⟩
 refine⟨_,rfl,_,_,rfl,rfl,by show(0:Int) <2147483647;decide,_,_,rfl,rfl,G6,_,rfl,_,_,rfl,rfl,lQ,_,_,rfl,rfl,_,_,rfl,rfl,_,_,rfl,rfl,by show(0:Int) <2147483647;decide,?_⟩
 unfold b7 at k
 have y0:0<=(a % 2147483647 * 48271+7919 * b+11) % 2147483647:=Int.emod_nonneg _ (by decide)
 have y1:(a % 2147483647 * 48271+7919 * b+11) % 2147483647 <2147483647:=Int.emod_lt_of_pos _ (by decide)
 refine⟨_,rfl,_,rfl,_,_,rfl,rfl,.of_right (intBits_le_64 (Int.lt_of_lt_of_le (show -(2 ^ 64) <(0:Int) by decide) y0) (Int.lt_trans y1 (by decide))),_,_,rfl,rfl,by show(0:Int) <2147483629;decide,?_⟩
 have z0:0<=((a % 2147483647 * 48271+7919 * b+11) % 2147483647) * ((a % 2147483647 * 48271+7919 * b+11) % 2147483647) % 2147483629:=Int.emod_nonneg _ (by decide)
 have z1:((a % 2147483647 * 48271+7919 * b+11) % 2147483647) * ((a % 2147483647 * 48271+7919 * b+11) % 2147483647) % 2147483629 <2147483629:=Int.emod_lt_of_pos _ (by decide)
 exact⟨_,rfl,_,rfl,_,_,rfl,rfl,lQ,_,_,rfl,rfl,_,rfl,_,_,rfl,rfl,.of_right (intBits_le_64 (Int.lt_of_lt_of_le (show -(2 ^ 64) <(0:Int) by decide) z0) (Int.lt_trans z1 (by decide))),_,_,rfl,rfl,by show(0:Int) <2147483587;decide,k⟩
inductive yu (K:PySem.W.Frag) (vs:List V) (H:Hp) (Q:VK) (E:XK):Prop where
 | mk:∀(a:Addr) (ns:List Int) (j:Nat),vs=[.ref a,.int (j:Nat)]->bF K H a (ns.map V.int)->Q (.int (jM ns j)) H->yu K vs H Q E
theorem iV (T:Txt w K mg t):FO P w K mg base 1 t.z7 ["_law_script", "_law_k"] (yu K):=by
 have sc:=T.gB.sc ["_law_script", "_law_k"]
 refine T.gB.F.ok sc ln (fun _ _ _ _ H vs Q E hr h=>?_)
 obtain⟨a,ns,j,rfl,hS,k⟩:=h
 refine⟨_,(aq (bN (aV yr (pv 1) (bu bR (by rfl) T.fB du (aa (pv 0) ak aj)) (bI _))
   (aA (aN (aO aX (pv 0) (pv 1) (fun _ _=>rfl))))
   bj)
  (aA (aN (bx dD (bx mQ az (pv 1)) az)))),?_⟩
 unfold jM at k
 refine⟨_,rfl,_,rfl,.ref a,ns.length,rfl,.inl ⟨_,hS,by simp⟩,_,_,rfl,rfl,_,rfl,jz (fun h=>?_) (fun h=>?_)⟩
 ·have h':j <ns.length:=by have:=of_decide_eq_true h;omega
  rw [List.getElem?_eq_getElem h'] at k
  exact⟨_,rfl,_,rfl,a,_,j,_,rfl,rfl,hS,aJ (by rw [List.getElem?_map,List.getElem?_eq_getElem h'];rfl),k⟩
 ·have h':¬j <ns.length:=fun z=>h (decide_eq_true (by omega))
  rw [List.getElem?_eq_none (by omega)] at k
  exact⟨_,rfl,_,_,rfl,rfl,lQ,_,_,rfl,rfl,k⟩
inductive wG (vs:List V) (H:Hp) (Q:VK) (E:XK):Prop where
 | mk:∀a b:Int,vs=[.int a,.int b]->Q (.int (nQ a b)) H->wG vs H Q E
theorem gY (T:Txt w K mg t):FO P w K mg base 2 t.yc ["_law_cell_here", "_law_k"] (wG):=by
 have sc:=T.fJ.sc ["_law_cell_here", "_law_k", "_law_number", "_law_way"]
 refine T.fJ.F.ok sc ln (fun _ _ _ _ H vs Q E hr h=>?_)
 obtain⟨a,b,rfl,k⟩:=h
 refine⟨_,(aq (sN sc 2 (dw (aY T) T.bf hr (aa (pv 0) (aa (pv 1) ak aj) aj)))
  (aq (sN sc 3 (bx cj (bx Sh (pv 2) az) az))
  (aq (bN (aV fL (pv 3) az (bI _))
   (aA (aN (bx cj (pv 2) az)))
   bj)
  (aq (bN (aV fL (pv 3) az (bI _))
   (aA (aN (bx cj (pv 2) (bx RM az az))))
   bj)
  (aA (aN (bx Ly (bx Ly (bx RM az az) az) (bx cj (pv 2) az)))))))),?_⟩
 refine⟨_,rfl,_,rfl,a,b,rfl,?_⟩
 unfold nQ at k
 have n0:=zQ a b
 generalize b7 a b=n at n0 k ⊢
 refine⟨_,rfl,_,_,rfl,rfl,Yg (by decide) (by decide),_,_,rfl,rfl,by show(0:Int) <3;decide,?_⟩
 refine⟨_,rfl,rfl,_,rfl,jz (fun h=>?_) (fun h=>?_)⟩
 ·have h':n / 7 % 3=0:=by simpa using of_decide_eq_true h
  rw [if_pos h'] at k
  exact⟨_,rfl,_,_,rfl,rfl,by show(0:Int) <5;decide,k⟩
 have h':¬n / 7 % 3=0:=fun z=>h (decide_eq_true (by show V.int (n / 7 % 3)=V.int 0;rw [z]))
 rw [if_neg h'] at k
 refine⟨_,rfl,rfl,_,rfl,jz (fun h2=>?_) (fun h2=>?_)⟩
 ·have h2':n / 7 % 3=1:=by simpa using of_decide_eq_true h2
  rw [if_pos h2'] at k
  exact⟨_,rfl,_,_,rfl,rfl,⟨by decide,by decide,by decide⟩,_,_,rfl,rfl,by show(0:Int) <10 ^ 9;decide,k⟩
 have h2':¬n / 7 % 3=1:=fun z=>h2 (decide_eq_true (by show V.int (n / 7 % 3)=V.int 1;rw [z]))
 rw [if_neg h2'] at k
 exact⟨_,_,rfl,rfl,⟨by decide,by decide,by decide⟩,_,_,rfl,rfl,_,rfl,_,_,rfl,rfl,by show(0:Int) <3;decide,_,_,rfl,rfl,k⟩
theorem N5 {x y:Str} (h:x.cps.toList=y.cps.toList):x=y:=PyProof.Rows.ext_toList h
theorem OJ {n:Int} (h0:0<=n) (h1:n <2000):n.natAbs.log2 <1920:=by
 by_cases z:n.natAbs=0
 ·rw [z]
  decide
 ·have:n.natAbs.log2 <11:=(Nat.log2_lt z).mpr (by omega)
  omega
theorem join_ones (cs:List Nat):(Txt.join Str.empty (cs.map fun c=>(⟨#[c]⟩:Str))).cps.toList=cs:=by
 unfold Txt.join
 rw [StrLaws.glued_eq_join,Ck]
 induction cs with
 | nil=>rfl
 | cons c r ih=>simpa using ih
theorem V8 {x:Str} {n:Nat} (h:n<=x.length):(Txt.slice x none (some (n:Int))).cps.toList=x.cps.toList.take n:=by
 have e:=beq_iff_eq.mp (PyProof.Rows.slice_closes_toL (x:=x) (j:=(n:Int)) (by omega) (by omega))
 rw [e]
 simp
theorem SJ {x:Str} {n:Nat} (h:n<=x.length):(Txt.slice x (some (n:Int)) none).cps.toList=x.cps.toList.drop n:=by
 have e:=PyProof.Rows.slice_from_eq (x:=x) (i:=(n:Int)) (b:=(x.length:Int)) (by omega) (by omega) rfl
 rw [e]
 show List.take ((x.length:Int) - n).toNat (List.drop ((n:Int)).toNat x.cps.toList)=_
 rw [Int.toNat_natCast,List.take_of_length_le (by rw [List.length_drop,m8];omega)]
inductive yt (vs:List V) (H:Hp) (Q:VK) (E:XK):Prop where
 | mk:∀(a:Int) (b:Nat),vs=[.int a,.int (b:Nat)]->b<=25->(∀H':Hp,aM H H'->Q (.str (cJ a b)) H')->yt vs H Q E
noncomputable abbrev Ad:List Str:=["_law_cell_here", "_law_k", "_law_letters", "_law_many", "_law_base", "_law_at"]
theorem mW (T:Txt w K mg t):FO P w K mg base 2 t.Ay ["_law_cell_here", "_law_k"] (yt):=by
 have sc:=T.jB.sc Ad
 refine T.jB.F.ok sc ln (fun _ _ _ _ H vs Q E hr h=>?_)
 obtain⟨a,b,rfl,b1,k⟩:=h
 refine⟨_,(aq (sN sc 2 bJ)
  (aq (bN (aV fL (bx cj (dw (aY T) T.bf hr (aa (pv 0) (aa az ak ao) aj)) az) az (bI _))
   (aA (aN (bx xj (aO CW (pv 2) (bx cj (dw (aY T) T.bf hr (aa (pv 0) (aa az ak ao) aj)) az) (fun _ _=>rfl)) (eY Ha (by rfl) T.Vp Rb (aa (bx dD (bx cj (dw (aY T) T.bf hr (aa (pv 0) (aa az ak ao) aj)) az) (bx mQ az (pv 1))) ak bL)))))
   bj)
  (aq (sN sc 3 (bx cj (dw (aY T) T.bf hr (aa (pv 0) (aa az ak ao) aj)) az))
  (aq (sN sc 4 (tW PySem.F.plainAttrs_str PySem.F.slot_str_join PySem.F.type_str_join Tj bJ (aa (dZ [0,2] Ad (aR (top 75)) rfl (jc rfl T.j9 (aa (pv 3) ak aj)) (fun _ _ _ _ _=>gm) (fun _ _ _ _ _=>(aO CW (pv 2) (bx cj (dw (aY T) T.bf hr (aa (pv 1) (aa (bx dD az (pv 0)) ak bL) aj)) az) (fun _ _=>rfl)))) ak eU)))
  (aq (sN sc 5 (bx cj (dw (aY T) T.bf hr (aa (pv 0) (aa az ak ao) aj)) (bx dD (pv 3) az)))
  (aA (aN (bx xj (bx xj (jK RV (pv 4) rD (jT (pv 5))) (aO CW (pv 2) (bx cj (bx dD (dw (aY T) T.bf hr (aa (pv 0) (aa az ak ao) aj)) (pv 1)) az) (fun _ _=>rfl))) (jK RV (pv 4) (jT (pv 5)) rD))))))))),?_⟩
 have hl:sizeLine=16777216:=sizeLine_eq
 have hF:(cJ a b).cps.toList=Ai a b:=Di a b
 unfold Ai at hF
 refine⟨_,rfl,_,_,rfl,⟨_,_,rfl,rfl,by show(0:Int) <3;decide,rfl,_,rfl,jz (fun hw=>?_) (fun hw=>?_)⟩⟩
 ·have hw':b7 a 52 % 3=0:=by simpa using of_decide_eq_true hw
  rw [if_pos hw'] at hF
  refine⟨_,rfl,_,rfl,_,_,rfl,?_⟩
  refine⟨_,_,rfl,rfl,by show(0:Int) <26;decide,LT,_,_,rfl,rfl,by rw [Kz];omega,QH _,?_⟩
  refine⟨_,rfl,_,_,rfl,⟨_,_,rfl,rfl,by show(0:Int) <1000;decide,_,rfl,_,_,rfl,rfl,lQ,_,_,rfl,rfl,?_⟩⟩
  have q0:=Int.emod_nonneg (b7 a 54) (show(1000:Int)≠0 by decide)
  have q1:=Int.emod_lt_of_pos (b7 a 54) (show(0:Int) <1000 by decide)
  obtain⟨m,hm⟩:∃m:Nat,b7 a 54 % 1000+37 * (b:Int)=(m:Int):=⟨(b7 a 54 % 1000+37 * (b:Int)).toNat,by omega⟩
  obtain⟨_,g2,_⟩:=uV (n:=m) (by omega)
  have g3:(toString (m:Int):Str).length<=4:=by rw [<-m8];exact g2
  have e:(⟨#[JM (b7 a 53)]⟩:Str) ++ (toString (m:Int):Str)=cJ a b:=N5 (by
   rw [hF,Str.cps_append,hm,Int.toNat_natCast]
   simp only [Array.toList_append]
   rfl)
  have k':=k H (aM.refl _)
  rw [<-e] at k'
  dsimp only
  rw [hm]
  exact⟨_,rfl,OJ (by omega) (by omega),_,_,rfl,rfl,by show 1+_<=sizeLine;omega,k'⟩
 have hw':¬b7 a 52 % 3=0:=fun z=>hw (decide_eq_true (by show V.int (b7 a 52 % 3)=V.int 0;rw [z]))
 rw [if_neg hw'] at hF
 refine⟨_,rfl,_,_,rfl,⟨_,_,rfl,rfl,by show(0:Int) <7;decide,?_⟩⟩
 have z0:=Int.emod_nonneg (b7 a 50) (show(7:Int)≠0 by decide)
 have z1:=Int.emod_lt_of_pos (b7 a 50) (show(0:Int) <7 by decide)
 refine⟨rfl,_,rfl,b7 a 50 % 7,rfl,by omega,by omega,?_⟩
 refine jx (fun i ys H'=>H'=H/\ys=((List.range i).map fun j=>JM (b7 a (60+(j:Nat)))).map fun c=>V.str ⟨#[c]⟩) (by omega) ⟨rfl,rfl⟩ (fun i ys H' ⟨_,e⟩=>by rw [e,lM,lM,List.length_range];omega) ?_ ?_
 ·rintro i ys H' hi ⟨rfl,rfl⟩
  refine yes ?_
  refine⟨_,rfl,_,rfl,_,rfl,_,_,rfl,rfl,_,_,rfl,?_⟩
  refine⟨_,_,rfl,rfl,by show(0:Int) <26;decide,LT,_,_,rfl,rfl,by rw [Kz];omega,QH _,rfl,?_⟩
  rw [List.range_succ,List.map_append,List.map_append]
  simp
 rintro ys H' ⟨rfl,rfl⟩ D hD
 have eb:((List.range (b7 a 50 % 7).toNat).map fun j=>JM (b7 a (60+(j:Nat))))=gH a:=rfl
 rw [eb]
 have s1:aM H' (upd H' D (.lst ((gH a).map fun c=>V.str ⟨#[c]⟩))):=aB hD
 have bl:=(BV a).1
 have es:((gH a).map fun c=>V.str ⟨#[c]⟩)=((gH a).map fun c=>(⟨#[c]⟩:Str)).map V.str:=by rw [List.map_map];rfl
 refine⟨Str.empty,D,(gH a).map fun c=>(⟨#[c]⟩:Str),rfl,rfl,bF.of (by rw [<-es];exact au),?_,?_⟩
 ·have:=RZ (n:=1) ((gH a).map fun c=>(⟨#[c]⟩:Str)) fun w h=>by
   obtain⟨c,_,rfl⟩:=List.mem_map.mp h
   exact Nat.le_refl 1
  have he:Str.empty.length=0:=rfl
  rw [he]
  rw [lM] at this
  omega
 have ej:=join_ones (gH a)
 generalize upd H' D (.lst ((gH a).map fun c=>V.str ⟨#[c]⟩))=H1 at s1 ⊢
 generalize Txt.join Str.empty ((gH a).map fun c=>(⟨#[c]⟩:Str))=x0 at ej ⊢
 have hx0:x0.length=(gH a).length:=by rw [<-m8,ej]
 refine⟨_,rfl,_,_,rfl,⟨_,rfl,_,_,rfl,rfl,_,_,rfl,rfl,by show(0:Int) <b7 a 50 % 7+1;omega,?_⟩⟩
 have hsp:=M3 a
 obtain⟨n,hn,hn2⟩:∃n:Nat,b7 a 51 % (b7 a 50 % 7+1)=(n:Int)/\n=pN a:=⟨pN a,(Int.toNat_of_nonneg (Int.emod_nonneg _ (by omega))).symm,rfl⟩
 rw [<-hn2] at hsp hF
 dsimp only
 rw [hn]
 have s0:=Txt.slice_le x0 none (some (n:Int))
 have s2:=Txt.slice_le x0 (some (n:Int)) none
 refine⟨_,rfl,_,rfl,_,rfl,x0,rfl,by omega,_,rfl,_,rfl,_,_,rfl,⟨_,rfl,_,_,rfl,rfl,?_⟩⟩
 have h1:(⟨#[JM (b7 a 55+(b:Int))]⟩:Str).length=1:=rfl
 refine⟨_,_,rfl,rfl,by show(0:Int) <26;decide,LT,_,_,rfl,rfl,by rw [Kz];omega,QH _,_,_,rfl,rfl,by rw [h1];omega,?_⟩
 refine⟨_,rfl,_,rfl,_,rfl,x0,rfl,by omega,_,_,rfl,rfl,by rw [Str.length_append,h1];omega,?_⟩
 have e:Txt.slice x0 none (some (n:Int)) ++ (⟨#[JM (b7 a 55+(b:Int))]⟩:Str) ++ Txt.slice x0 (some (n:Int)) none=cJ a b:=N5 (by
  rw [hF,Str.cps_append,Str.cps_append]
  simp only [Array.toList_append]
  rw [V8 (by omega),SJ (by omega),ej]
  simp)
 rw [e]
 exact k H1 s1
theorem Xr (m:Int):∃c:Nat,Fi [V.int 0,.int 0,.int 0,.int 1,.int 2] (m % 5)=some (.int (c:Nat))/\c<=2:=by
 have key:∀j,j <5->Fi [V.int 0,.int 0,.int 0,.int 1,.int 2] ((j:Nat):Int)=some (.int (([0,0,0,1,2]:List Nat).getD j 0:Nat))/\([0,0,0,1,2]:List Nat).getD j 0<=2:=by decide +kernel
 obtain⟨j,e,hj⟩:=Le m (n:=5) (k:=5) (by decide) rfl
 rw [e]
 exact⟨_,key j hj⟩
theorem XX (m:Int):∃c:Nat,Fi [V.int 0,.int 0,.int 1,.int 1,.int 2,.int 7] (m % 6)=some (.int (c:Nat))/\c<=7:=by
 have key:∀j,j <6->Fi [V.int 0,.int 0,.int 1,.int 1,.int 2,.int 7] ((j:Nat):Int)=some (.int (([0,0,1,1,2,7]:List Nat).getD j 0:Nat))/\([0,0,1,1,2,7]:List Nat).getD j 0<=7:=by decide +kernel
 obtain⟨j,e,hj⟩:=Le m (n:=6) (k:=6) (by decide) rfl
 rw [e]
 exact⟨_,key j hj⟩
inductive yL (vs:List V) (H:Hp) (Q:VK) (E:XK):Prop where
 | mk:∀(d:Dw) (ls:List aG) (ps:List PD) (os:List Str) (c:Int) (b:Bool),vs=[.ref d.S,.int c,.bl b]->mO d H ls ps os->ls.length<=24->(∀(l:aG) (H':Hp),l.name=cJ d.c3 ls.length->aM (bG d.E H) (bG d.E H')->mO d H' (ls ++ [l]) ps os->Q (.str l.name) H')->yL vs H Q E
noncomputable abbrev Ag:List Str:=["_law_state", "_law_cell_here", "_law_back", "_law_many", "_law_first", "_law_room", "_law_name"]
theorem jV (T:Txt w K mg t):FO P w K mg base 3 t.zM ["_law_state", "_law_cell_here", "_law_back"] (yL):=by
 have sc:=T.iG.sc Ag
 refine T.iG.F.ok sc ln (fun _ _ _ _ H vs Q E hr h=>?_)
 obtain⟨d,ls,ps,os,c,b,rfl,D,hn,k⟩:=h
 refine⟨_,(aq (sN sc 3 (aO aX (bz (aa az (aa az (aa az (aa az (aa az ak ao) ao) ao) ao) ao)) (bx cj (dw (aY T) T.bf hr (aa (pv 1) (aa az ak ao) aj)) az) (fun _ _=>rfl)))
  (aq (ir (bN (gZ (pv 2))
   (aA (sN sc 3 (bx cj (dw (aY T) T.bf hr (aa (pv 1) (aa az ak ao) aj)) az)))
   bj))
  (aq (jP (i:=4) [1] Ag (aR (top 76)) rfl sc.nd rfl (jc rfl T.j9 (aa (pv 3) ak aj)) (fun _ _ _ _ _=>gm) (fun _ _ _ _ _=>(dw (gY T) T.fJ hr (aa (pv 1) (aa (bx dD az (pv 0)) ak bL) aj))))
  (aq (sN sc 5 (bx dD (bu (Gq rfl) (by rfl) T.QT Lj (aa az (aa (pv 3) ak aj) ao)) (aO aX (bz (aa az (aa az (aa az (aa az (aa az (aa az ak ao) ao) ao) ao) ao) ao)) (bx cj (dw (aY T) T.bf hr (aa (pv 1) (aa az ak ao) aj)) az) (fun _ _=>rfl))))
  (aq (sN sc 6 (dw (mW T) T.jB hr (aa (aO aX (pv 0) az (fun _ _=>rfl)) (aa (bu bR (by rfl) T.fB du (aa (aO aX (pv 0) az (fun _ _=>rfl)) ak aF)) ak aZ) aF)))
  (aq (bC (DP (aO aX (pv 0) az (fun _ _=>rfl)) (aa (cz (aa (pv 6) (aa (pv 5) (aa (pv 4) ak aj) aj) aj)) ak cL)))
  (aA (aN (pv 6))))))))),?_⟩
 have hl:sizeLine=16777216:=sizeLine_eq
 refine⟨iu,fun l0 n0=>?_⟩
 have s0:=aB (o:=.lst [.int 0,.int 0,.int 0,.int 1,.int 2]) n0
 obtain⟨c0,e0,h0⟩:=Xr (b7 c 1)
 refine⟨_,rfl,_,_,rfl,_,_,rfl,rfl,by show(0:Int) <5;decide,l0,_,_,_,rfl,rfl,bF.of au,e0,?_⟩
 generalize upd H l0 (.lst [.int 0,.int 0,.int 0,.int 1,.int 2])=H0 at s0 ⊢
 refine⟨fun σ H1=>∃m:Nat,m<=3/\H1=H0/\σ=[some (.ref d.S),some (.int c),some (.bl b),some (.int (m:Nat)),none,none,none],?_,?_⟩
 ·cases b
  ·exact⟨_,rfl,false,rfl,bU ⟨c0,by omega,rfl,rfl⟩⟩
  ·refine⟨_,rfl,true,rfl,d9 ⟨_,rfl,_,_,rfl,_,_,rfl,rfl,by show(0:Int) <4;decide,?_⟩⟩
   have h1:=Int.emod_nonneg (b7 c 1) (show(4:Int)≠0 by decide)
   have h2:=Int.emod_lt_of_pos (b7 c 1) (show(0:Int) <4 by decide)
   refine⟨(b7 c 1 % 4).toNat,by omega,rfl,?_⟩
   rw [Int.toNat_of_nonneg h1]
   rfl
 rintro σ H1 ⟨m,hm,rfl,rfl⟩
 refine⟨_,rfl,(m:Int),rfl,by omega,by omega,?_⟩
 rw [Int.toNat_natCast]
 refine jx (fun i ys H'=>H'=H1/\∃ws:List Int,ys=ws.map V.int/\ws.length=i/\∀v∈ws,0<=v/\v <1000000000) (by omega) ⟨rfl,[],rfl,rfl,by simp⟩ (fun i ys H' ⟨_,ws,e,e2,_⟩=>by rw [e,lM];omega) ?_ ?_
 ·rintro i ys H' hi ⟨rfl,ws,rfl,hw,hB⟩
  refine yes ⟨_,rfl,_,rfl,_,_,rfl,rfl,c,10+(0+(i:Int)),rfl,rfl,ws ++ [nQ c (10+(0+(i:Int)))],by simp,by simp [hw],fun v hv=>?_⟩
  rcases List.mem_append.mp hv with hv | hv
  ·exact hB v hv
  ·rw [List.mem_singleton] at hv
   subst hv
   exact m9 _ _
 rintro ys H' ⟨rfl,ws,rfl,hw,hB⟩ F nF
 have t1:=aB (o:=.lst (ws.map V.int)) nF
 have sF:=s0.trans t1
 have eF:upd H' F (.lst (ws.map V.int)) F=some (.lst (ws.map V.int)):=au
 have oF:F∉d.E:=D.out (s0.free nF)
 generalize upd H' F (.lst (ws.map V.int))=H2 at t1 sF eF ⊢
 refine⟨_,rfl,_,_,rfl,iu,fun l1 n1=>?_⟩
 have t2:=aB (o:=.lst [.int 0,.int 0,.int 1,.int 1,.int 2,.int 7]) n1
 obtain⟨c1,e1,h1⟩:=XX (b7 c 2)
 refine⟨_,rfl,_,_,rfl,_,_,rfl,rfl,by show(0:Int) <6;decide,l1,_,_,_,rfl,rfl,bF.of au,e1,_,_,rfl,rfl,?_⟩
 have s2:=sF.trans t2
 have eF2:=t2 _ _ eF
 generalize upd H2 l1 (.lst [.int 0,.int 0,.int 1,.int 1,.int 2,.int 7])=H3 at t2 s2 eF2 ⊢
 have D3:=D.keep s2
 obtain⟨xs,eL,aL⟩:=D3.lanes
 have xl:=aL.length
 refine⟨_,rfl,d.S,_,3,_,rfl,rfl,D3.seqS,aJ (j:=3) rfl,?_⟩
 refine⟨_,rfl,d.S,_,0,_,rfl,rfl,D3.seqS,aJ (j:=0) rfl,.ref d.L,ls.length,rfl,.inl ⟨_,bF.of eL,xl.symm⟩,?_⟩
 refine⟨d.c3,ls.length,rfl,by omega,fun H4 s4=>?_⟩
 have D4:=D3.keep s4
 have eL4:=s4 _ _ eL
 have eF4:=s4 _ _ eF2
 have s04:=s2.trans s4
 refine⟨_,rfl,d.S,_,0,_,rfl,rfl,D4.seqS,aJ (j:=0) rfl,?_⟩
 refine⟨.inl ⟨rfl,_,bF.of eL4⟩,_,rfl,_,rfl,_,rfl,iu,fun q nq=>?_⟩
 have t5:=aB (o:=.tup [.str (cJ d.c3 ls.length),.int ((if (m:Int) >1 then(m:Int) else 1)+(c1:Int)),.ref F]) nq
 have s5:=s04.trans t5
 have D5:=D4.keep t5
 have oq:q∉d.E:=D4.out nq
 have eq:upd H4 q (.tup [.str (cJ d.c3 ls.length),.int ((if (m:Int) >1 then(m:Int) else 1)+(c1:Int)),.ref F]) q=some (.tup [.str (cJ d.c3 ls.length),.int ((if (m:Int) >1 then(m:Int) else 1)+(c1:Int)),.ref F]):=au
 have eL5:=t5 _ _ eL4
 have eF5:=t5 _ _ eF4
 refine⟨d.L,xs,_,rfl,rfl,eL5,by omega,_,rfl,?_⟩
 refine k ⟨cJ d.c3 ls.length,(if (m:Int) >1 then(m:Int) else 1)+(c1:Int),ws⟩ _ rfl ?_ (D5.lane ⟨q,F,rfl,fC eq oq,fC eF5 oF⟩ ⟨by dsimp only;split <;> omega,by dsimp only;split <;> omega,by dsimp only;split <;> omega,hB⟩ rfl eL5)
 rw [eO (by simp)]
 exact D.cut s5
theorem pop_at:∀{os:List Str} {j:Nat} (h:j <os.length),os.Perm (os[j]:: os.eraseIdx j)
 | [],_,h=>absurd h (by simp)
 | a:: l,0,_=>.refl _
 | a:: l,j+1,h=>by
  have h':j <l.length:=by simpa using h
  show(a:: l).Perm (l[j]:: a:: l.eraseIdx j)
  exact((pop_at (os:=l) (j:=j) (by simpa using h)).cons a).trans (.swap _ _ _)
theorem za {α β:Type} {f:α->β}:∀(l:List α) (j:Nat),(l.map f).eraseIdx j=(l.eraseIdx j).map f
 | [],_=>rfl
 | a:: l,0=>rfl
 | a:: l,j+1=>by
  show f a:: (l.map f).eraseIdx j=f a:: (l.eraseIdx j).map f
  rw [za l j]
theorem Eo {j n:Nat} (h:j <n):seqIndex? (j:Int) n=some j:=by
 unfold seqIndex?
 have z:¬(j:Int) <0:=by omega
 simp [h,z]
inductive xT (vs:List V) (H:Hp) (Q:VK) (E:XK):Prop where
 | mk:∀(d:Dw) (ls:List aG) (ps:List PD) (os:List Str) (n:Int),vs=[.ref d.S,.int n]->mO d H ls ps os->os≠[]->os.length<=100->(∀(x:Str) (os':List Str) (H':Hp),os.Perm (x:: os')->aM (bG d.E H) (bG d.E H')->mO d H' ls ps os'->Q (.str x) H')->xT vs H Q E
theorem rK (T:Txt w K mg t):FO P w K mg base 1 t.zR ["_law_state", "_law_number"] (xT):=by
 have sc:=T.lF.sc ["_law_state", "_law_number"]
 refine T.lF.F.ok sc ln (fun _ _ _ _ H vs Q E hr h=>?_)
 obtain⟨d,ls,ps,os,n,rfl,D,hne,hs,k⟩:=h
 refine⟨_,(aA (aN (tW PySem.F.plainAttrs_list PySem.F.slot_list_pop PySem.F.type_list_pop uA (aO aX (pv 0) az (fun _ _=>rfl)) (aa (bx cj (pv 1) (bu bR (by rfl) T.fB du (aa (aO aX (pv 0) az (fun _ _=>rfl)) ak aF))) ak bL)))),?_⟩
 have hpos:0 <os.length:=List.length_pos_iff.mpr hne
 refine⟨_,rfl,d.S,_,2,_,rfl,rfl,D.seqS,aJ (j:=2) rfl,.inl ⟨rfl,_,bF.of D.opens⟩,?_⟩
 refine⟨_,rfl,_,rfl,d.S,_,2,_,rfl,rfl,D.seqS,aJ (j:=2) rfl,.ref d.O,os.length,rfl,.inl ⟨_,bF.of D.opens,by simp⟩,n,(os.length:Int),rfl,rfl,by omega,?_⟩
 have h0:=Int.emod_nonneg n (show(os.length:Int)≠0 by omega)
 have h1:=Int.emod_lt_of_pos n (show(0:Int) <(os.length:Int) by omega)
 obtain⟨j,hj⟩:∃j:Nat,n % (os.length:Int)=(j:Int):=⟨(n % (os.length:Int)).toNat,by omega⟩
 have hj':j <os.length:=by omega
 refine⟨d.O,_,(j:Int),j,.str os[j],rfl,by show [V.int (n % (os.length:Int))]=_;rw [hj],D.opens,by omega,by omega,by rw [lM];exact Eo hj',by rw [List.getElem?_map,List.getElem?_eq_getElem hj'];rfl,?_⟩
 rw [za]
 exact k os[j] (os.eraseIdx j) _ (pop_at hj') (by rw [eO (by simp)];exact aM.refl _) D.open
inductive xJ (vs:List V) (H:Hp) (Q:VK) (E:XK):Prop where
 | mk:∀(d:Dw) (ls:List aG) (ps:List PD) (os:List Str) (c:Int) (i:Nat) (a1 a2:Addr) (nums:List Int) (ins:List Str) (many:Nat),vs=[.ref d.S,.int c,.str (eG i),.ref a1,.ref a2,.int (many:Nat)]->mO d H ls ps os->bG d.E H a1=some (.lst (nums.map V.int))->bG d.E H a2=some (.lst (ins.map V.str))->i <11->nums.length=cN i->((∀v∈nums,0<=v/\v <1000000000))->ins.length=cI i->many=cO i->ls.length<=22->ps.length<=25->os.length<=100->(∀(newl:List aG) (H':Hp),newl.length=many->aM (bG d.E H) (bG d.E H')->mO d H' (ls ++ newl) (ps ++ [⟨i,cJ d.c4 ps.length,nums,ins,newl.map (·.name)⟩]) (os ++ newl.map (·.name))->Q .non H')->xJ vs H Q E
noncomputable abbrev zN:List Str:=["_law_state", "_law_cell_here", "_law_kind", "_law_numbers", "_law_ins", "_law_many", "_law_outs"]
theorem cH (T:Txt w K mg t):FO P w K mg base 4 t.zX ["_law_state", "_law_cell_here", "_law_kind", "_law_numbers", "_law_ins", "_law_many"] (xJ):=by
 have sc:=T.cB.sc zN
 refine T.cB.F.ok sc ln (fun _ _ _ _ H vs Q E hr h=>?_)
 obtain⟨d,ls,ps,os,c,i,a1,a2,nums,ins,many,rfl,D,e1,e2,hi,hN,hB,hI,hO,hls,hps,hos,k⟩:=h
 refine⟨_,(aq (jP (i:=6) [0,1] zN (aR (top 77)) rfl sc.nd rfl (jc rfl T.j9 (aa (pv 5) ak aj)) (fun _ _ _ _ _=>gm) (fun _ _ _ _ _=>(dw (jV T) T.iG hr (aa (pv 1) (aa (dw (aY T) T.bf hr (aa (pv 2) (aa (bx dD az (pv 0)) ak bL) aj)) (aa jF ak ao) aZ) aj))))
  (aq (bC (DP (aO aX (pv 0) az (fun _ _=>rfl)) (aa (cz (aa (pv 2) (aa (dw (mW T) T.jB hr (aa (aO aX (pv 0) az (fun _ _=>rfl)) (aa (bu bR (by rfl) T.fB du (aa (aO aX (pv 0) az (fun _ _=>rfl)) ak aF)) ak aZ) aF)) (aa (pv 3) (aa (pv 4) (aa (pv 6) ak aj) aj) aj) aZ) aj)) ak cL)))
  (aA (bC (tW PySem.F.plainAttrs_list PySem.F.slot_list_extend PySem.F.type_list_extend Ge (aO aX (pv 0) az (fun _ _=>rfl)) (aa (pv 6) ak aj)))))),?_⟩
 have hl:sizeLine=16777216:=sizeLine_eq
 have hm2:many<=2:=by rw [hO];exact Rf i
 refine⟨_,rfl,(many:Int),rfl,by omega,by omega,?_⟩
 rw [Int.toNat_natCast]
 refine jx (fun i ys H'=>∃newl:List aG,newl.length=i/\ys=newl.map (fun l=>V.str l.name)/\aM (bG d.E H) (bG d.E H')/\mO d H' (ls ++ newl) ps os) (by omega) ⟨[],rfl,rfl,aM.refl _,by rw [List.append_nil];exact D⟩ (fun i ys H' ⟨newl,e,e2,_⟩=>by rw [e2,lM];omega) ?_ ?_
 ·rintro j ys H' hj ⟨newl,hn,rfl,s,D'⟩
  refine yes ⟨_,rfl,_,rfl,_,rfl,_,_,rfl,rfl,c,20+(0+(j:Int)),rfl,?_⟩
  refine⟨d,ls ++ newl,ps,os,_,false,rfl,D',by rw [lP];omega,fun l H1 _ s1 D1=>?_⟩
  exact⟨newl ++ [l],by simp [hn],by simp,s.trans s1,by rw [<-List.append_assoc];exact D1⟩
 rintro ys H1 ⟨newl,hn,rfl,s1,D1⟩ F nF
 have t1:=aB (o:=.lst (newl.map fun l=>V.str l.name)) nF
 have eF:upd H1 F (.lst (newl.map fun l=>V.str l.name)) F=some (.lst ((newl.map (·.name)).map V.str)):=by rw [List.map_map];exact au
 have oF:=D1.out nF
 have D2:=D1.keep t1
 have s2:=s1.trans (D1.cut t1)
 generalize upd H1 F (.lst (newl.map fun l=>V.str l.name))=H2 at t1 eF D2 s2 ⊢
 obtain⟨xs,eP,aP⟩:=D2.parts
 have xl:=aP.length
 refine⟨_,rfl,d.S,_,1,_,rfl,rfl,D2.seqS,aJ (j:=1) rfl,.inl ⟨rfl,_,bF.of eP⟩,?_⟩
 refine⟨_,rfl,_,rfl,d.S,_,4,_,rfl,rfl,D2.seqS,aJ (j:=4) rfl,?_⟩
 refine⟨_,rfl,d.S,_,1,_,rfl,rfl,D2.seqS,aJ (j:=1) rfl,.ref d.P,ps.length,rfl,.inl ⟨_,bF.of eP,xl.symm⟩,?_⟩
 refine⟨d.c4,ps.length,rfl,by omega,fun H3 s3=>?_⟩
 have D3:=D2.keep s3
 have t3:=s2.trans (D2.cut s3)
 have eP3:=s3 _ _ eP
 have eF3:=s3 _ _ eF
 refine⟨_,rfl,_,rfl,_,rfl,iu,fun q nq=>?_⟩
 have s4:=aB (o:=.tup [.str (eG i),.str (cJ d.c4 ps.length),.ref a1,.ref a2,.ref F]) nq
 have D4:=D3.keep s4
 have t4:=t3.trans (D3.cut s4)
 have eP4:=s4 _ _ eP3
 have eF4:=s4 _ _ eF3
 have oq:=D3.out nq
 have eq:upd H3 q (.tup [.str (eG i),.str (cJ d.c4 ps.length),.ref a1,.ref a2,.ref F]) q=some (.tup [.str (eG i),.str (cJ d.c4 ps.length),.ref a1,.ref a2,.ref F]):=au
 refine⟨d.P,xs,_,rfl,rfl,eP4,by omega,?_⟩
 generalize upd H3 q (.tup [.str (eG i),.str (cJ d.c4 ps.length),.ref a1,.ref a2,.ref F])=H4 at s4 D4 t4 eP4 eF4 eq ⊢
 have D5:=D4.part (p:=⟨i,cJ d.c4 ps.length,nums,ins,newl.map (·.name)⟩) ⟨q,a1,a2,F,rfl,fC eq oq,t4 _ _ e1,t4 _ _ e2,fC eF4 oF⟩ ⟨hi,hN,hI,by show(newl.map _).length=_;rw [lM,hn];exact hO,hB⟩ rfl eP4
 have hcu:bG d.E (upd H4 d.P (.lst (xs ++ [.ref q])))=bG d.E H4:=eO (by simp)
 have eF5:upd H4 d.P (.lst (xs ++ [.ref q])) F=some (.lst ((newl.map (·.name)).map V.str)):=by rw [aK (fun z=>oF (by rw [z];simp))];exact eF4
 generalize upd H4 d.P (.lst (xs ++ [.ref q]))=H5 at D5 hcu eF5 ⊢
 refine⟨_,rfl,d.S,_,2,_,rfl,rfl,D5.seqS,aJ (j:=2) rfl,.inl ⟨rfl,_,bF.of D5.opens⟩,?_⟩
 refine⟨_,rfl,d.O,F,_,_,rfl,rfl,D5.opens,eF5,by rw [lM,lM,lM];omega,?_⟩
 rw [<-List.map_append]
 exact k newl _ hn (by rw [eO (by simp),hcu];exact t4) D5.open
theorem Vw (m:Int):∃i:Nat,Fi [V.str "add",V.str "less"] (m % 2)=some (.str (eG i))/\(i=6∨i=7):=by
 have h0:=Int.emod_nonneg m (show(2:Int)≠0 by decide)
 have h1:=Int.emod_lt_of_pos m (show(0:Int) <2 by decide)
 have:m % 2=0∨m % 2=1:=by omega
 rcases this with e | e <;> rw [e]
 ·exact⟨6,rfl,.inl rfl⟩
 ·exact⟨7,rfl,.inr rfl⟩
theorem J3 {one other:Str} {os os1:List Str} (h:os.Perm (other:: os1)):(one:: os).Perm ([one,other] ++ os1):=h.cons one
theorem YB {one other third:Str} {os os1 os2:List Str} (h:os.Perm (other:: os1)) (h2:os1.Perm (third:: os2)):(one:: os).Perm ([one,other,third] ++ os2):=(h.trans (h2.cons other)).cons one
inductive zJ (vs:List V) (H:Hp) (Q:VK) (E:XK):Prop where
 | mk:∀(d:Dw) (ls:List aG) (ps:List PD) (os:List Str) (c:Int) (one:Str) (back:List Str) (odd:Bool),vs=[.ref d.S,.int c,.str one,.bl odd]->mO d H ls ps os->Drawn.WF (uO ls ps (one:: os) back)->os≠[]->os.length<=3->ls.length<=20->ps.length<=22->(∀ls' ps' os' H',ZG d H H' ls ps back ls' ps' os'->Q .non H')->zJ vs H Q E
theorem JS (T:Txt w K mg t):FO P w K mg base 5 t.DY ["_law_state", "_law_cell_here", "_law_one", "_law_odd"] (zJ):=by
 have sc:=T.xm.sc ["_law_state", "_law_cell_here", "_law_one", "_law_odd", "_law_other", "_law_way", "_law_third"]
 refine T.xm.F.ok sc ln (fun _ _ _ _ H vs Q E hr h=>?_)
 obtain⟨d,ls,ps,os,c,one,back,odd,rfl,D,w,hne,ho,hls,hps,k⟩:=h
 refine⟨_,(aq (sN sc 4 (dw (rK T) T.lF hr (aa (pv 0) (aa (dw (aY T) T.bf hr (aa (pv 1) (aa az ak ao) aj)) ak aZ) aj)))
  (aq (sN sc 5 (bx cj (dw (aY T) T.bf hr (aa (pv 1) (aa az ak ao) aj)) az))
  (aA (ir (bN (PW.pt (qX (gZ (pv 3)) (qX (aV yr (pv 5) az (bI _)) (pO (aV Gs (bu bR (by rfl) T.fB du (aa (aO aX (pv 0) az (fun _ _=>rfl)) ak aF)) az (bI _))))))
   (aq (sN sc 6 (dw (rK T) T.lF hr (aa (pv 0) (aa (dw (aY T) T.bf hr (aa (pv 1) (aa az ak ao) aj)) ak aZ) aj)))
   (aA (bC (dw (cH T) T.cB hr (aa (pv 0) (aa (pv 1) (aa bJ (aa (bz ak) (aa (bz (aa (pv 2) (aa (pv 4) (aa (pv 6) ak aj) aj) aj)) (aa az ak ao) aW) aW) ao) aj) aj)))))
   (aA (ir (bN (PW.pt (qX (gZ (pv 3)) (pO (aV yr (pv 5) az (bI _)))))
    (aA (bC (dw (cH T) T.cB hr (aa (pv 0) (aa (pv 1) (aa bJ (aa (bz ak) (aa (bz (aa (pv 2) (aa (pv 4) ak aj) aj)) (aa az ak ao) aW) aW) ao) aj) aj))))
    (aA (ir (bN (aV fL (bx cj (pv 5) az) az (bI _))
     (aA (bC (dw (cH T) T.cB hr (aa (pv 0) (aa (pv 1) (aa bJ (aa (bz ak) (aa (bz (aa (pv 2) (aa (pv 4) ak aj) aj)) (aa az ak ao) aW) aW) ao) aj) aj))))
     (aA (bC (dw (cH T) T.cB hr (aa (pv 0) (aa (pv 1) (aa (aO aX (bz (aa bJ (aa bJ ak ao) ao)) (bx cj (pv 5) az) (fun _ _=>rfl)) (aa (bz ak) (aa (bz (aa (pv 2) (aa (pv 4) ak aj) aj)) (aa az ak ao) aW) aW) aF) aj) aj))))))))))))))),?_⟩
 have hl:sizeLine=16777216:=sizeLine_eq
 refine⟨_,rfl,_,rfl,_,_,rfl,d,ls,ps,os,_,rfl,D,hne,by omega,fun other os1 H1 p1 s1 D1=>?_⟩
 have l1:=p1.length_eq
 rw [List.length_cons] at l1
 refine⟨_,rfl,_,_,rfl,_,_,rfl,rfl,by show(0:Int) <6;decide,?_⟩
 refine⟨fun _ H'=>Q .non H',?_,fun _ _ h=>h⟩
 have fin:∀{i:Nat} {nm:Str} {newl:List aG} {ins os2:List Str} {H':Hp},aM (bG d.E H) (bG d.E H')->mO d H' (ls ++ newl) (ps ++ [⟨i,nm,[],ins,newl.map (·.name)⟩]) (os2 ++ newl.map (·.name))->(one:: os).Perm (ins ++ os2)->newl.length≠0->newl.length<=2->os2.length+newl.length<=4->Q .non H':=fun s DD hp h1 h2 h4=>
  k _ _ _ _ ⟨s,DD,qJ w rfl DD hp h1 (by rw [lP];omega),by rw [lP,lM];omega,by rw [lP,lM];omega,by rw [lP];omega,by rw [lP,List.length_singleton];omega,fun c=>c.app⟩
 cases odd
 ·refine⟨_,rfl,false,rfl,bU (bU ?_)⟩
  refine⟨fun _ H'=>Q .non H',?_,fun _ _ h=>h⟩
  refine⟨_,rfl,false,rfl,bU (bU ?_)⟩
  refine⟨fun _ H'=>Q .non H',?_,fun _ _ h=>h⟩
  refine⟨_,rfl,_,_,rfl,rfl,by show(0:Int) <3;decide,rfl,_,rfl,jz (fun _=>?_) (fun _=>?_)⟩
  ·refine⟨_,rfl,_,rfl,iu,fun a1 n1=>⟨_,rfl,_,rfl,iu,fun a2 n2=>?_⟩⟩
   obtain⟨D9,z1,z2,z3⟩:=D1.two n1 n2 (y:=.lst [.str one,.str other])
   refine⟨d,_,_,os1,_,8,a1,a2,[],[one,other],2,rfl,D9,z1,z2,by omega,rfl,by simp,rfl,rfl,by omega,by omega,by omega,fun newl H8 hn s8 D8=>?_⟩
   exact fin (s1.trans (z3.trans s8)) D8 (J3 p1) (by omega) (by omega) (by omega)
  ·refine⟨_,rfl,_,rfl,iu,fun a0 n0=>?_⟩
   have s0:=aB (o:=.lst [.str "add",.str "less"]) n0
   have D0:=D1.keep s0
   have c0:=D1.cut s0
   refine⟨_,rfl,_,_,rfl,rfl,by show(0:Int) <2;decide,?_⟩
   obtain⟨i,ei,hi⟩:=Vw (b7 c 6 % 6)
   refine⟨a0,_,_,_,rfl,rfl,bF.of au,ei,?_⟩
   generalize upd H1 a0 (.lst [.str "add",.str "less"])=H0 at s0 D0 c0 ⊢
   have hN:([]:List Int).length=cN i:=by rcases hi with rfl | rfl <;> rfl
   have hI:[one,other].length=cI i:=by rcases hi with rfl | rfl <;> rfl
   have hO:1=cO i:=by rcases hi with rfl | rfl <;> rfl
   refine⟨iu,fun a1 n1=>⟨_,rfl,_,rfl,iu,fun a2 n2=>?_⟩⟩
   obtain⟨D9,z1,z2,z3⟩:=D0.two n1 n2 (y:=.lst [.str one,.str other])
   refine⟨d,_,_,os1,_,i,a1,a2,[],[one,other],1,rfl,D9,z1,z2,by omega,hN,by simp,hI,hO,by omega,by omega,by omega,fun newl H8 hn s8 D8=>?_⟩
   exact fin (s1.trans (c0.trans (z3.trans s8))) D8 (J3 p1) (by omega) (by omega) (by omega)
 ·refine⟨_,rfl,true,rfl,d9 ⟨_,rfl,_,_,rfl,rfl,_,rfl,Dd ?_ (fun h2 b=>?_) (fun b=>b)⟩⟩
  ·refine⟨fun _ H'=>Q .non H',?_,fun _ _ h=>h⟩
   refine⟨_,rfl,true,rfl,d9 ?_⟩
   refine⟨_,rfl,_,_,rfl,rfl,_,rfl,jz (fun h5=>?_) (fun h5=>?_)⟩
   ·refine⟨_,rfl,_,rfl,iu,fun a1 n1=>⟨_,rfl,_,rfl,iu,fun a2 n2=>?_⟩⟩
    obtain⟨D9,z1,z2,z3⟩:=D1.two n1 n2 (y:=.lst [.str one,.str other])
    refine⟨d,_,_,os1,_,10,a1,a2,[],[one,other],2,rfl,D9,z1,z2,by omega,rfl,by simp,rfl,rfl,by omega,by omega,by omega,fun newl H8 hn s8 D8=>?_⟩
    exact fin (s1.trans (z3.trans s8)) D8 (J3 p1) (by omega) (by omega) (by omega)
   ·refine⟨fun _ H'=>Q .non H',?_,fun _ _ h=>h⟩
    refine⟨_,rfl,_,_,rfl,rfl,by show(0:Int) <3;decide,rfl,_,rfl,jz (fun _=>?_) (fun _=>?_)⟩
    ·refine⟨_,rfl,_,rfl,iu,fun a1 n1=>⟨_,rfl,_,rfl,iu,fun a2 n2=>?_⟩⟩
     obtain⟨D9,z1,z2,z3⟩:=D1.two n1 n2 (y:=.lst [.str one,.str other])
     refine⟨d,_,_,os1,_,8,a1,a2,[],[one,other],2,rfl,D9,z1,z2,by omega,rfl,by simp,rfl,rfl,by omega,by omega,by omega,fun newl H8 hn s8 D8=>?_⟩
     exact fin (s1.trans (z3.trans s8)) D8 (J3 p1) (by omega) (by omega) (by omega)
    ·refine⟨_,rfl,_,rfl,iu,fun a0 n0=>?_⟩
     have s0:=aB (o:=.lst [.str "add",.str "less"]) n0
     have D0:=D1.keep s0
     have c0:=D1.cut s0
     refine⟨_,rfl,_,_,rfl,rfl,by show(0:Int) <2;decide,?_⟩
     obtain⟨i,ei,hi⟩:=Vw (b7 c 6 % 6)
     refine⟨a0,_,_,_,rfl,rfl,bF.of au,ei,?_⟩
     generalize upd H1 a0 (.lst [.str "add",.str "less"])=H0 at s0 D0 c0 ⊢
     have hN:([]:List Int).length=cN i:=by rcases hi with rfl | rfl <;> rfl
     have hI:[one,other].length=cI i:=by rcases hi with rfl | rfl <;> rfl
     have hO:1=cO i:=by rcases hi with rfl | rfl <;> rfl
     refine⟨iu,fun a1 n1=>⟨_,rfl,_,rfl,iu,fun a2 n2=>?_⟩⟩
     obtain⟨D9,z1,z2,z3⟩:=D0.two n1 n2 (y:=.lst [.str one,.str other])
     refine⟨d,_,_,os1,_,i,a1,a2,[],[one,other],1,rfl,D9,z1,z2,by omega,hN,by simp,hI,hO,by omega,by omega,by omega,fun newl H8 hn s8 D8=>?_⟩
     exact fin (s1.trans (c0.trans (z3.trans s8))) D8 (J3 p1) (by omega) (by omega) (by omega)
  ·refine⟨_,rfl,d.S,_,2,_,rfl,rfl,D1.seqS,aJ (j:=2) rfl,.ref d.O,os1.length,rfl,.inl ⟨_,bF.of D1.opens,by simp⟩,_,_,rfl,rfl,_,rfl,jz (fun h3=>?_) (fun _=>b)⟩
   have hne1:os1≠[]:=fun z=>by rw [z] at h3;exact absurd (of_decide_eq_true h3) (by decide)
   refine⟨_,rfl,_,rfl,_,_,rfl,d,ls,ps,os1,_,rfl,D1,hne1,by omega,fun third os2 H2 p2 s2 D2=>?_⟩
   have l2:=p2.length_eq
   rw [List.length_cons] at l2
   refine⟨_,rfl,_,rfl,iu,fun a1 n1=>⟨_,rfl,_,rfl,_,rfl,iu,fun a2 n2=>?_⟩⟩
   obtain⟨D9,z1,z2,z3⟩:=D2.two n1 n2 (y:=.lst [.str one,.str other,.str third])
   refine⟨d,_,_,os2,_,9,a1,a2,[],[one,other,third],1,rfl,D9,z1,z2,by omega,rfl,by simp,rfl,rfl,by omega,by omega,by omega,fun newl H8 hn s8 D8=>?_⟩
   exact fin (s1.trans (s2.trans (z3.trans s8))) D8 (YB p1 p2) (by omega) (by omega) (by omega)
inductive xR (vs:List V) (H:Hp) (Q:VK) (E:XK):Prop where
 | mk:∀(d:Dw) (ls:List aG) (ps:List PD) (os:List Str) (c:Int) (one:Str) (back:List Str),vs=[.ref d.S,.int c,.str one]->mO d H ls ps os->Drawn.WF (uO ls ps (one:: os) back)->os.length<=3->ls.length<=20->ps.length<=22->(∀ls' ps' os' H',ZG d H H' ls ps back ls' ps' os'->Q .non H')->xR vs H Q E
theorem Hv (T:Txt w K mg t):FO P w K mg base 4 t.Ab ["_law_state", "_law_cell_here", "_law_one"] (xR):=by
 have sc:=T.uH.sc ["_law_state", "_law_cell_here", "_law_one", "_law_own", "_law_fresh"]
 refine T.uH.F.ok sc ln (fun _ _ _ _ H vs Q E hr h=>?_)
 obtain⟨d,ls,ps,os,c,one,back,rfl,D,w,ho,hls,hps,k⟩:=h
 refine⟨_,(aq (sN sc 3 (dw (jV T) T.iG hr (aa (pv 0) (aa (dw (aY T) T.bf hr (aa (pv 1) (aa az ak ao) aj)) (aa jF ak ao) aZ) aj)))
  (aq (sN sc 4 (dw (jV T) T.iG hr (aa (pv 0) (aa (dw (aY T) T.bf hr (aa (pv 1) (aa az ak ao) aj)) (aa jF ak ao) aZ) aj)))
  (aq (bC (DP (aO aX (pv 0) az (fun _ _=>rfl)) (aa (cz (aa bJ (aa (dw (mW T) T.jB hr (aa (aO aX (pv 0) az (fun _ _=>rfl)) (aa (bu bR (by rfl) T.fB du (aa (aO aX (pv 0) az (fun _ _=>rfl)) ak aF)) ak aZ) aF)) (aa (bz ak) (aa (bz (aa (pv 2) (aa (pv 3) ak aj) aj)) (aa (bz (aa (pv 3) (aa (pv 4) ak aj) aj)) ak aW) aW) aW) aZ) ao)) ak cL)))
  (aA (bC (DP (aO aX (pv 0) az (fun _ _=>rfl)) (aa (pv 4) ak aj))))))),?_⟩
 have hl:sizeLine=16777216:=sizeLine_eq
 refine⟨_,rfl,_,rfl,_,_,rfl,d,ls,ps,os,_,true,rfl,D,by omega,fun l1 H1 e1 s1 D1=>?_⟩
 refine⟨_,rfl,_,rfl,_,_,rfl,d,ls ++ [l1],ps,os,_,false,rfl,D1,by rw [lP,List.length_singleton];omega,fun l2 H2 e2 s2 D2=>?_⟩
 have s12:=s1.trans s2
 obtain⟨xs,eP,aP⟩:=D2.parts
 have xl:=aP.length
 refine⟨_,rfl,d.S,_,1,_,rfl,rfl,D2.seqS,aJ (j:=1) rfl,.inl ⟨rfl,_,bF.of eP⟩,?_⟩
 refine⟨_,rfl,d.S,_,4,_,rfl,rfl,D2.seqS,aJ (j:=4) rfl,?_⟩
 refine⟨_,rfl,d.S,_,1,_,rfl,rfl,D2.seqS,aJ (j:=1) rfl,.ref d.P,ps.length,rfl,.inl ⟨_,bF.of eP,xl.symm⟩,?_⟩
 refine⟨d.c4,ps.length,rfl,by omega,fun H3 s3=>?_⟩
 have D3:=D2.keep s3
 have c3:=s12.trans (D2.cut s3)
 have eP3:=s3 _ _ eP
 refine⟨iu,fun a1 n1=>⟨_,rfl,_,rfl,iu,fun a2 n2=>⟨_,rfl,_,rfl,iu,fun a3 n3=>⟨iu,fun q nq=>?_⟩⟩⟩⟩
 obtain⟨D4,z1,z2,z3⟩:=D3.two n1 n2 (y:=.lst [.str one,.str l1.name])
 have t4:aM H3 (upd (upd H3 a1 (.lst [])) a2 (.lst [.str one,.str l1.name])):=(aB n1).trans (aB n2)
 have eP4:=t4 _ _ eP3
 generalize upd (upd H3 a1 (.lst [])) a2 (.lst [.str one,.str l1.name])=H4 at D4 z1 z2 z3 t4 eP4 n3 nq ⊢
 obtain⟨D5,y1,y2,y3⟩:=D4.two n3 nq (y:=.tup [.str "order",.str (cJ d.c4 ps.length),.ref a1,.ref a2,.ref a3])
 have t5:aM H4 (upd (upd H4 a3 (.lst [.str l1.name,.str l2.name])) q (.tup [.str "order",.str (cJ d.c4 ps.length),.ref a1,.ref a2,.ref a3])):=(aB n3).trans (aB nq)
 have eP5:=t5 _ _ eP4
 generalize upd (upd H4 a3 (.lst [.str l1.name,.str l2.name])) q (.tup [.str "order",.str (cJ d.c4 ps.length),.ref a1,.ref a2,.ref a3])=H5 at D5 y1 y2 y3 t5 eP5 ⊢
 have c5:=c3.trans (z3.trans y3)
 refine⟨d.P,xs,_,rfl,rfl,eP5,by omega,?_⟩
 have D6:=D5.part (p:=⟨8,cJ d.c4 ps.length,[],[one,l1.name],[l1.name,l2.name]⟩) ⟨q,a1,a2,a3,rfl,y2,y3 _ _ z1,y3 _ _ z2,y1⟩ ⟨by show 8 <11;omega,rfl,rfl,rfl,by simp⟩ rfl eP5
 have c6:bG d.E (upd H5 d.P (.lst (xs ++ [.ref q])))=bG d.E H5:=eO (by simp)
 generalize upd H5 d.P (.lst (xs ++ [.ref q]))=H6 at D6 c6 ⊢
 refine⟨_,rfl,d.S,_,2,_,rfl,rfl,D6.seqS,aJ (j:=2) rfl,.inl ⟨rfl,_,bF.of D6.opens⟩,_,rfl,d.O,_,_,rfl,rfl,D6.opens,by rw [lM];omega,?_⟩
 have D7:=D6.open (os':=os ++ [l2.name])
 rw [List.map_append] at D7
 have nd:=D7.nod (by rw [lP,lP,List.length_singleton,List.length_singleton];omega)
 have wl:=w.loop (p:=⟨8,cJ d.c4 ps.length,[],[one,l1.name],[l1.name,l2.name]⟩) (rest:=os) (one:=one) (own:=l1.name) (fresh:=l2.name) rfl rfl (.refl _) (by simpa using nd)
 refine k _ _ _ _ ⟨by rw [eO (by simp),c6];exact c5,D7,by simpa [uO] using wl,by rw [lP,List.length_singleton];omega,by rw [lP,List.length_singleton];omega,by simp,by simp,fun c=>c.app⟩
inductive xW (vs:List V) (H:Hp) (Q:VK) (E:XK):Prop where
 | mk:∀(d:Dw) (ls:List aG) (ps:List PD) (os:List Str) (c:Int) (back:List Str) (odd:Bool),vs=[.ref d.S,.int c,.bl odd]->mO d H ls ps os->Drawn.WF (uO ls ps os back)->os≠[]->os.length<=4->ls.length<=20->ps.length<=22->(∀ls' ps' os' H',ZG d H H' ls ps back ls' ps' os'->Q .non H')->xW vs H Q E
theorem Jd (T:Txt w K mg t):FO P w K mg base 6 t.zK ["_law_state", "_law_cell_here", "_law_odd"] (xW):=by
 have sc:=T.ur.sc ["_law_state", "_law_cell_here", "_law_odd", "_law_way", "_law_one"]
 refine T.ur.F.ok sc ln (fun _ _ _ _ H vs Q E hr h=>?_)
 obtain⟨d,ls,ps,os,c,back,odd,rfl,D,w,hne,ho,hls,hps,k⟩:=h
 refine⟨_,(aq (sN sc 3 (bx cj (dw (aY T) T.bf hr (aa (pv 1) (aa az ak ao) aj)) az))
  (aq (sN sc 4 (dw (rK T) T.lF hr (aa (pv 0) (aa (dw (aY T) T.bf hr (aa (pv 1) (aa az ak ao) aj)) ak aZ) aj)))
  (aA (ir (bN (PW.pt (qX (aV yr (pv 3) az (bI _)) (pO (aV yr (bu bR (by rfl) T.fB du (aa (aO aX (pv 0) az (fun _ _=>rfl)) ak aF)) az (bI _)))))
   (aA (bC (dw (cH T) T.cB hr (aa (pv 0) (aa (pv 1) (aa bJ (aa (bz ak) (aa (bz (aa (pv 4) ak aj)) (aa az ak ao) aW) aW) ao) aj) aj))))
   (aA (ir (bN (aV fL (pv 3) az (bI _))
    (aq (bC (dw (cH T) T.cB hr (aa (pv 0) (aa (pv 1) (aa bJ (aa (bz ak) (aa (bz (aa (pv 4) ak aj)) (aa az ak ao) aW) aW) ao) aj) aj)))
    (aA (bC (dw (cH T) T.cB hr (aa (pv 0) (aa (pv 1) (aa bJ (aa (bz ak) (aa (bz (aa (Hy PySem.F.plainAttrs_list PySem.F.slot_list_pop PySem.F.type_list_pop Mu (aO aX (pv 0) az (fun _ _=>rfl))) ak aZ)) (aa az ak ao) aW) aW) ao) aj) aj)))))
    (aA (ir (bN (PW.pt (qX (aV yr (pv 3) az (bI _)) (pO (aV Gs (bu bR (by rfl) T.fB du (aa (aO aX (pv 0) az (fun _ _=>rfl)) ak aF)) az (bI _)))))
     (aA (bC (dw (JS T) T.xm hr (aa (pv 0) (aa (pv 1) (aa (pv 4) (aa (pv 2) ak aj) aj) aj) aj))))
     (aA (ir (bN (aV yr (pv 3) az (bI _))
      (aA (bC (dw (cH T) T.cB hr (aa (pv 0) (aa (pv 1) (aa bJ (aa (bz (aa (dw (gY T) T.fJ hr (aa (pv 1) (aa az ak ao) aj)) (aa (dw (gY T) T.fJ hr (aa (pv 1) (aa az ak ao) aj)) ak aZ) aZ)) (aa (bz (aa (pv 4) ak aj)) (aa az ak ao) aW) aW) ao) aj) aj))))
      (aA (ir (bN (aV fL (pv 3) az (bI _))
       (aA (bC (dw (cH T) T.cB hr (aa (pv 0) (aa (pv 1) (aa bJ (aa (bz (aa (dw (gY T) T.fJ hr (aa (pv 1) (aa az ak ao) aj)) ak aZ)) (aa (bz (aa (pv 4) ak aj)) (aa az ak ao) aW) aW) ao) aj) aj))))
       (aA (ir (bN (aV fL (bx cj (dw (aY T) T.bf hr (aa (pv 1) (aa az ak ao) aj)) az) az (bI _))
        (aA (bC (dw (Hv T) T.uH hr (aa (pv 0) (aa (pv 1) (aa (pv 4) ak aj) aj) aj))))
        (aA (bC (dw (cH T) T.cB hr (aa (pv 0) (aa (pv 1) (aa bJ (aa (bz ak) (aa (bz (aa (pv 4) ak aj)) (aa az ak ao) aW) aW) ao) aj) aj)))))))))))))))))))))))),?_⟩
 have hl:sizeLine=16777216:=sizeLine_eq
 refine⟨_,rfl,_,_,rfl,_,_,rfl,rfl,by show(0:Int) <9;decide,?_⟩
 refine⟨_,rfl,_,rfl,_,_,rfl,d,ls,ps,os,_,rfl,D,hne,by omega,fun one os1 H1 p1 s1 D1=>?_⟩
 have w1:Drawn.WF (uO ls ps (one:: os1) back):=Wa w p1
 have lo:=p1.length_eq
 rw [List.length_cons] at lo
 have fin:∀{i:Nat} {nm:Str} {nums:List Int} {newl:List aG} {ins os2:List Str} {H':Hp},aM (bG d.E H) (bG d.E H')->mO d H' (ls ++ newl) (ps ++ [⟨i,nm,nums,ins,newl.map (·.name)⟩]) (os2 ++ newl.map (·.name))->(one:: os1).Perm (ins ++ os2)->newl.length≠0->newl.length<=2->os2.length+newl.length<=4->Q .non H':=fun s DD hp h1 h2 h4=>
  k _ _ _ _ ⟨s,DD,qJ w1 rfl DD hp h1 (by rw [lP];omega),by rw [lP,lM];omega,by rw [lP,lM];omega,by rw [lP];omega,by rw [lP,List.length_singleton];omega,fun c=>c.app⟩
 refine⟨fun _ H'=>Q .non H',?_,fun _ _ h=>h⟩
 refine⟨_,rfl,_,_,rfl,rfl,_,rfl,Dd ?_ (fun h2 b=>?_) (fun b=>b)⟩
 ·refine⟨fun _ H'=>Q .non H',?_,fun _ _ h=>h⟩
  refine⟨_,rfl,rfl,_,rfl,jz (fun _=>?_) (fun _=>?_)⟩
  ·refine⟨_,rfl,_,rfl,iu,fun a1 n1=>⟨_,rfl,iu,fun a2 n2=>?_⟩⟩
   obtain⟨D9,z1,z2,z3⟩:=D1.two n1 n2 (y:=.lst [.str one])
   refine⟨d,_,_,os1,_,3,a1,a2,[],[one],2,rfl,D9,z1,z2,by omega,rfl,by simp,rfl,rfl,by omega,by omega,by omega,fun newl H8 hn s8 D8=>?_⟩
   obtain⟨l1,l2,rfl⟩:∃l1 l2,newl=[l1,l2]:=by
    match newl,hn with
    | [x,y],_=>exact⟨x,y,rfl⟩
   have w8:=qJ w1 rfl D8 (.refl _) (by simp) (by simp;omega)
   have s18:=s1.trans (z3.trans s8)
   clear D9 z1 z2 z3 n1 n2 s8
   refine⟨_,rfl,_,rfl,iu,fun a3 n3=>?_⟩
   have s3:=aB (o:=.lst []) n3
   have D3:=D8.keep s3
   have c3:=s18.trans (D8.cut s3)
   have o3:=D8.out n3
   have e3:upd H8 a3 (.lst []) a3=some (.lst ([]:List V)):=au
   generalize upd H8 a3 (.lst [])=H3 at s3 D3 c3 e3 ⊢
   have eo:((os1 ++ [l1,l2].map (·.name)).map V.str)=((os1 ++ [l1.name]).map V.str) ++ [.str l2.name]:=by simp
   have hop:=D3.opens
   rw [eo] at hop
   refine⟨_,rfl,d.S,_,2,_,rfl,rfl,D3.seqS,aJ (j:=2) rfl,.inl ⟨rfl,_,bF.of D3.opens⟩,d.O,_,.str l2.name,rfl,rfl,hop,by rw [lP,List.length_singleton,Nat.add_sub_cancel];exact List.getElem?_concat_length,?_⟩
   rw [List.dropLast_concat]
   have D4:=D3.open (os':=os1 ++ [l1.name])
   have c4:bG d.E (upd H3 d.O (.lst ((os1 ++ [l1.name]).map V.str)))=bG d.E H3:=eO (by simp)
   have e4:=fC e3 o3
   generalize upd H3 d.O (.lst ((os1 ++ [l1.name]).map V.str))=H4 at D4 c4 ⊢
   refine⟨iu,fun a4 n4=>?_⟩
   have s5:=aB (o:=.lst [.str l2.name]) n4
   have D5:=D4.keep s5
   have c5:=D4.cut s5
   rw [c4] at c5
   have e5:=fC (E:=d.E) (H:=upd H4 a4 (.lst [.str l2.name])) au (D4.out n4)
   refine⟨d,ls ++ [l1,l2],_,os1 ++ [l1.name],_,1,a3,a4,[],[l2.name],0,rfl,D5,c5 _ _ e4,e5,by omega,rfl,by simp,rfl,rfl,by simp;omega,by simp;omega,by simp;omega,fun newl2 H9 hn2 s9 D9=>?_⟩
   have hz:newl2=[]:=List.length_eq_zero_iff.mp hn2
   subst hz
   have wt:=w8.take (p:=⟨1,cJ d.c4 (ps ++ [(⟨3,cJ d.c4 ps.length,[],[one],[l1,l2].map (·.name)⟩:PD)]).length,[],[l2.name],[]⟩) (rest:=os1 ++ [l1.name]) (y:=l2.name) (x:=l1.name) rfl rfl (by
     show(os1 ++ [l1.name,l2.name]).Perm (l2.name:: (os1 ++ [l1.name]))
     rw [show os1 ++ [l1.name,l2.name]=(os1 ++ [l1.name]) ++ [l2.name] by simp]
     exact List.perm_append_comm) (by simp) (Drawn.ji.part (p:=⟨3,cJ d.c4 ps.length,[],[one],[l1,l2].map (·.name)⟩) (by simp) (by simp) (by simp))
   rw [List.map_nil,List.append_nil,List.append_nil] at D9
   exact k _ _ _ _ ⟨c3.trans (c5.trans s9),D9,wt,by simp,by simp;omega,by simp,by simp,fun c=>c.app.app⟩
  ·refine⟨fun _ H'=>Q .non H',?_,fun _ _ h=>h⟩
   refine⟨_,rfl,_,_,rfl,rfl,_,rfl,Dd ?_ (fun h2 b=>?_) (fun b=>b)⟩
   ·refine⟨fun _ H'=>Q .non H',?_,fun _ _ h=>h⟩
    refine⟨_,rfl,_,_,rfl,rfl,_,rfl,jz (fun _=>?_) (fun _=>?_)⟩
    ·refine⟨_,rfl,_,rfl,_,rfl,c,8,rfl,_,rfl,c,9,rfl,iu,fun a1 n1=>⟨_,rfl,iu,fun a2 n2=>?_⟩⟩
     obtain⟨D9,z1,z2,z3⟩:=D1.two n1 n2 (y:=.lst [.str one])
     refine⟨d,_,_,os1,_,4,a1,a2,[nQ c 8,nQ c 9],[one],1,rfl,D9,z1,z2,by omega,rfl,?_,rfl,rfl,by omega,by omega,by omega,fun newl H8 hn s8 D8=>?_⟩
     ·intro v hv
      rcases List.mem_cons.mp hv with rfl | hv
      ·exact m9 _ _
      ·rw [List.mem_singleton] at hv
       subst hv
       exact m9 _ _
     exact fin (s1.trans (z3.trans s8)) D8 (.refl _) (by omega) (by omega) (by omega)
    ·refine⟨fun _ H'=>Q .non H',?_,fun _ _ h=>h⟩
     refine⟨_,rfl,rfl,_,rfl,jz (fun _=>?_) (fun _=>?_)⟩
     ·refine⟨_,rfl,_,rfl,_,rfl,c,8,rfl,iu,fun a1 n1=>⟨_,rfl,iu,fun a2 n2=>?_⟩⟩
      obtain⟨D9,z1,z2,z3⟩:=D1.two n1 n2 (y:=.lst [.str one])
      refine⟨d,_,_,os1,_,5,a1,a2,[nQ c 8],[one],1,rfl,D9,z1,z2,by omega,rfl,?_,rfl,rfl,by omega,by omega,by omega,fun newl H8 hn s8 D8=>?_⟩
      ·intro v hv
       rw [List.mem_singleton] at hv
       subst hv
       exact m9 _ _
      exact fin (s1.trans (z3.trans s8)) D8 (.refl _) (by omega) (by omega) (by omega)
     ·refine⟨fun _ H'=>Q .non H',?_,fun _ _ h=>h⟩
      refine⟨_,rfl,_,_,rfl,_,_,rfl,rfl,by show(0:Int) <2;decide,rfl,_,rfl,jz (fun _=>?_) (fun _=>?_)⟩
      ·exact⟨_,rfl,_,rfl,_,rfl,d,ls,ps,os1,c,one,back,rfl,D1,w1,by omega,hls,hps,fun ls' ps' os' H' X=>k ls' ps' os' H' ⟨s1.trans X.cut,X.at',X.wf,X.o1,X.o4,X.l2,X.p2,X.gv⟩⟩
      ·refine⟨_,rfl,_,rfl,iu,fun a1 n1=>⟨_,rfl,iu,fun a2 n2=>?_⟩⟩
       obtain⟨D9,z1,z2,z3⟩:=D1.two n1 n2 (y:=.lst [.str one])
       refine⟨d,_,_,os1,_,2,a1,a2,[],[one],1,rfl,D9,z1,z2,by omega,rfl,by simp,rfl,rfl,by omega,by omega,by omega,fun newl H8 hn s8 D8=>?_⟩
       exact fin (s1.trans (z3.trans s8)) D8 (.refl _) (by omega) (by omega) (by omega)
   ·refine⟨_,rfl,d.S,_,2,_,rfl,rfl,D1.seqS,aJ (j:=2) rfl,.ref d.O,os1.length,rfl,.inl ⟨_,bF.of D1.opens,by simp⟩,_,_,rfl,rfl,_,rfl,jz (fun h3=>?_) (fun _=>b)⟩
    have hne1:os1≠[]:=fun z=>by rw [z] at h3;exact absurd (of_decide_eq_true h3) (by decide)
    exact⟨_,rfl,_,rfl,_,rfl,_,rfl,d,ls,ps,os1,c,one,back,odd,rfl,D1,w1,hne1,by omega,hls,hps,fun ls' ps' os' H' X=>k ls' ps' os' H' ⟨s1.trans X.cut,X.at',X.wf,X.o1,X.o4,X.l2,X.p2,X.gv⟩⟩
 ·refine⟨_,rfl,d.S,_,2,_,rfl,rfl,D1.seqS,aJ (j:=2) rfl,.ref d.O,os1.length,rfl,.inl ⟨_,bF.of D1.opens,by simp⟩,_,_,rfl,rfl,_,rfl,jz (fun h3=>?_) (fun _=>b)⟩
  have h3:os1.length <3:=by have:=of_decide_eq_true h3;omega
  refine⟨_,rfl,_,rfl,iu,fun a1 n1=>⟨_,rfl,iu,fun a2 n2=>?_⟩⟩
  obtain⟨D9,z1,z2,z3⟩:=D1.two n1 n2 (y:=.lst [.str one])
  refine⟨d,_,_,os1,_,3,a1,a2,[],[one],2,rfl,D9,z1,z2,by omega,rfl,by simp,rfl,rfl,by omega,by omega,by omega,fun newl H8 hn s8 D8=>?_⟩
  exact fin (s1.trans (z3.trans s8)) D8 (.refl _) (by omega) (by omega) (by omega)
inductive tZ (vs:List V) (H:Hp) (Q:VK) (E:XK):Prop where
 | mk:∀(d:Dw) (ls:List aG) (ps:List PD) (os:List Str) (c:Int) (B:Addr) (back:List Str),vs=[.ref d.S,.int c,.ref B]->mO d H ls ps os->Drawn.WF (uO ls ps os back)->bG d.E H B=some (.lst (back.map V.str))->os≠[]->os.length<=4->back.length<=2->ls.length<=12->ps.length<=10->Ku ps->(∀ls' ps' H',aM (bG d.E H) (bG d.E H')->mO d H' ls' ps' []->FZ (ls'.map (·.name)) ps'->ls'.length<=17->ls.length<=ls'.length->ps'.length<=16->1<=ps'.length->Ku ps'->Q .non H')->tZ vs H Q E
theorem DR (T:Txt w K mg t):FO P w K mg base 5 t.wA ["_law_state", "_law_cell_here", "_law_back"] (tZ):=by
 have sc:=T.qz.sc ["_law_state", "_law_cell_here", "_law_back", "_law_one", "_law_other", "_law_kind", "_law_lane_here", "_law_fresh"]
 refine T.qz.F.ok sc ln (fun _ _ _ _ H vs Q E hr h=>?_)
 obtain⟨d,ls,ps,os,c,B,back,rfl,D,w,eB,hne,ho,hb,hls,hps,hC,k⟩:=h
 refine⟨_,(aq (qM PassesOwn.never (aV Gs (bu bR (by rfl) T.fB du (aa (aO aX (pv 0) az (fun _ _=>rfl)) ak aF)) az (bI _))
   (aq (sN sc 3 (tW PySem.F.plainAttrs_list PySem.F.slot_list_pop PySem.F.type_list_pop uA (aO aX (pv 0) az (fun _ _=>rfl)) (aa az ak ao)))
   (aq (sN sc 4 (tW PySem.F.plainAttrs_list PySem.F.slot_list_pop PySem.F.type_list_pop uA (aO aX (pv 0) az (fun _ _=>rfl)) (aa az ak ao)))
   (aq (sN sc 5 (aO aX (bz (aa bJ (aa bJ (aa bJ ak ao) ao) ao)) (bx cj (dw (aY T) T.bf hr (aa (pv 1) (aa (bu bR (by rfl) T.fB du (aa (aO aX (pv 0) az (fun _ _=>rfl)) ak aF)) ak aZ) aj)) az) (fun _ _=>rfl)))
   (aA (bC (dw (cH T) T.cB hr (aa (pv 0) (aa (dw (aY T) T.bf hr (aa (pv 1) (aa (bx dD az (bu bR (by rfl) T.fB du (aa (aO aX (pv 0) az (fun _ _=>rfl)) ak aF))) ak bL) aj)) (aa (pv 5) (aa (bz ak) (aa (bz (aa (pv 3) (aa (pv 4) ak aj) aj)) (aa az ak ao) aW) aW) aj) aZ) aj))))))))
  (aq (dG PassesOwn.never rfl (bM (pv 2)) (gN sc 6)
   (aq (sN sc 3 (Hy PySem.F.plainAttrs_list PySem.F.slot_list_pop PySem.F.type_list_pop Mu (aO aX (pv 0) az (fun _ _=>rfl))))
   (aq (sN sc 7 (dw (jV T) T.iG hr (aa (pv 0) (aa (dw (aY T) T.bf hr (aa (pv 1) (aa (bx dD az (bu bR (by rfl) T.fB du (aa (aO aX (pv 0) az (fun _ _=>rfl)) ak aF))) ak bL) aj)) (aa jF ak ao) aZ) aj)))
   (aq (bC (DP (aO aX (pv 0) az (fun _ _=>rfl)) (aa (cz (aa bJ (aa (dw (mW T) T.jB hr (aa (aO aX (pv 0) az (fun _ _=>rfl)) (aa (bu bR (by rfl) T.fB du (aa (aO aX (pv 0) az (fun _ _=>rfl)) ak aF)) ak aZ) aF)) (aa (bz ak) (aa (bz (aa (pv 3) ak aj)) (aa (bz (aa (pv 6) (aa (pv 7) ak aj) aj)) ak aW) aW) aW) aZ) ao)) ak cL)))
   (aA (bC (DP (aO aX (pv 0) az (fun _ _=>rfl)) (aa (pv 7) ak aj))))))))
  (aA (bC (dw (cH T) T.cB hr (aa (pv 0) (aa (pv 1) (aa bJ (aa (bz ak) (aa (bz (aa (Hy PySem.F.plainAttrs_list PySem.F.slot_list_pop PySem.F.type_list_pop Mu (aO aX (pv 0) az (fun _ _=>rfl))) ak aZ)) (aa az ak ao) aW) aW) ao) aj) aj)))))),?_⟩
 have hl:sizeLine=16777216:=sizeLine_eq
 have hpos:0 <os.length:=List.length_pos_iff.mpr hne
 refine hide fun u hu=>?_
 refine qI (fun σ H1=>∃(ls1:List aG) (ps1:List PD) (os1:List Str) (v3 v4 v5:Option V),σ=[some (.ref d.S),some (.int c),some (.ref B),v3,v4,v5,none,none]/\aM (bG d.E H) (bG d.E H1)/\mO d H1 ls1 ps1 os1/\Drawn.WF (uO ls1 ps1 os1 back)/\1<=os1.length/\os1.length<=4/\ls.length<=ls1.length/\ls1.length+os1.length<=16/\ps1.length+os1.length<=14/\Ku ps1)
  (fun _ H1=>sW H1 d.O) ⟨ls,ps,os,none,none,none,rfl,aM.refl _,D,w,by omega,ho,Nat.le_refl _,by omega,by omega,hC⟩ ?_ ?_
 ·rintro σ H1 ⟨ls1,ps1,os1,v3,v4,v5,rfl,s1,D1,w1,o1,o4,hl1,hl2,hp2,hC1⟩
  refine⟨_,rfl,d.S,_,2,_,rfl,rfl,D1.seqS,aJ (j:=2) rfl,.ref d.O,os1.length,rfl,.inl ⟨_,bF.of D1.opens,by simp⟩,_,_,rfl,rfl,_,rfl,jz (fun h3=>?_) (fun h3=>?_)⟩
  ·have h3:1 <os1.length:=by have:=of_decide_eq_true h3;omega
   obtain⟨one,other,os2,rfl⟩:∃one other os2,os1=one:: other:: os2:=by
    match os1,h3 with
    | x:: y:: r,_=>exact⟨x,y,r,rfl⟩
   rw [List.length_cons,List.length_cons] at h3 o1 o4 hl2 hp2
   have lm:=lL D1.opens
   refine X3 fun De hD u hu=>?_
   refine⟨_,rfl,d.S,_,2,_,rfl,rfl,D1.seqS,aJ (j:=2) rfl,.inl ⟨rfl,_,bF.of D1.opens⟩,d.O,_,0,0,.str one,rfl,rfl,D1.opens,by decide,by decide,Eo (by simp),rfl,?_⟩
   have D2:=D1.open (os':=other:: os2)
   have c2:bG d.E (upd H1 d.O (.lst ((other:: os2).map V.str)))=bG d.E H1:=eO (by simp)
   refine dh (v:=u) hu fun u hu=>?_
   change yP _ _ _ _ (upd H1 d.O (.lst ((other:: os2).map V.str)))
   generalize upd H1 d.O (.lst ((other:: os2).map V.str))=H2 at D2 c2 ⊢
   refine⟨_,rfl,d.S,_,2,_,rfl,rfl,D2.seqS,aJ (j:=2) rfl,.inl ⟨rfl,_,bF.of D2.opens⟩,d.O,_,0,0,.str other,rfl,rfl,D2.opens,by decide,by decide,Eo (by simp),rfl,?_⟩
   have D3:=D2.open (os':=os2)
   have c3:bG d.E (upd H2 d.O (.lst (os2.map V.str)))=bG d.E H2:=eO (by simp)
   refine dh (v:=u) hu fun u hu=>?_
   change yP _ _ _ _ (upd H2 d.O (.lst (os2.map V.str)))
   generalize upd H2 d.O (.lst (os2.map V.str))=H3 at D3 c3 ⊢
   have s3:aM (bG d.E H) (bG d.E H3):=by rw [c3,c2];exact s1
   refine⟨iu,fun a0 n0=>?_⟩
   have s0:=aB (o:=.lst [.str "add",.str "less",.str "add"]) n0
   have D0:=D3.keep s0
   have c0:=s3.trans (D3.cut s0)
   refine⟨_,rfl,_,rfl,d.S,_,2,_,rfl,rfl,D0.seqS,aJ (j:=2) rfl,.ref d.O,os2.length,rfl,.inl ⟨_,bF.of D0.opens,by simp⟩,c,(os2.length:Int),rfl,_,_,rfl,rfl,by show(0:Int) <3;decide,?_⟩
   obtain⟨i,ei,hi⟩:=YS (b7 c (os2.length:Int))
   refine⟨a0,_,_,_,rfl,rfl,bF.of au,ei,?_⟩
   generalize upd H3 a0 (.lst [.str "add",.str "less",.str "add"])=H0 at s0 D0 c0 ⊢
   obtain⟨xs,eP,aP⟩:=D0.parts
   have xl:=aP.length
   have hN:([]:List Int).length=cN i:=by rcases hi with rfl | rfl <;> rfl
   have hI:[one,other].length=cI i:=by rcases hi with rfl | rfl <;> rfl
   have hO:1=cO i:=by rcases hi with rfl | rfl <;> rfl
   subst hu
   refine⟨_,rfl,_,rfl,_,rfl,d.S,_,1,_,rfl,rfl,D0.seqS,aJ (j:=1) rfl,.ref d.P,ps1.length,rfl,.inl ⟨_,bF.of eP,xl.symm⟩,_,_,rfl,rfl,_,_,rfl,?_⟩
   refine⟨_,rfl,iu,fun a1 n1=>⟨_,rfl,_,rfl,iu,fun a2 n2=>?_⟩⟩
   obtain⟨D9,z1,z2,z3⟩:=D0.two n1 n2 (y:=.lst [.str one,.str other])
   refine⟨d,_,_,os2,_,i,a1,a2,[],[one,other],1,rfl,D9,z1,z2,by omega,hN,by simp,hI,hO,by omega,by omega,by omega,fun newl H8 hn s8 D8=>?_⟩
   have w8:=qJ w1 rfl D8 (.refl _) (by omega) (by rw [lP];omega)
   subst hD
   refine⟨⟨_,_,_,_,_,_,rfl,c0.trans (z3.trans s8),D8,w8,?_,?_,?_,?_,?_,hC1.app⟩,?_⟩
   ·rw [lP,lM];omega
   ·rw [lP,lM];omega
   ·rw [lP];omega
   ·rw [lP,lP,lM];omega
   ·rw [lP,lP,lM,List.length_singleton];omega
   ·rw [lL D8.opens,lm,lM,lM,lP,lM,List.length_cons,List.length_cons]
    omega
  ·have h3:os1.length=1:=by
    have:¬(1:Int) <(os1.length:Int):=fun z=>h3 (decide_eq_true z)
    omega
   obtain⟨y,rfl⟩:=List.length_eq_one_iff.mp h3
   refine dh (v:=u) hu fun u hu=>?_
   refine⟨_,rfl,B,rfl,⟨_,bF.of (cg _ _ (s1 _ _ eB))⟩,?_⟩
   refine cX (K:=K) (a:=B) (xs:=back.map V.str) (fun j σ H2=>∃(ls2:List aG) (ps2:List PD) (y:Str) (u3 u6 u7:Option V),σ=[some (.ref d.S),some (.int c),some (.ref B),u3,v4,v5,u6,u7]/\aM (bG d.E H) (bG d.E H2)/\mO d H2 ls2 ps2 [y]/\Drawn.WF (uO ls2 ps2 [y] (back.drop j))/\ls.length<=ls2.length/\ls2.length<=15+j/\ps2.length<=13+j/\Ku ps2) ⟨ls1,ps1,y,v3,none,none,rfl,s1,D1,w1,hl1,by have z:=hl2;rw [List.length_singleton] at z;omega,by have z:=hp2;rw [List.length_singleton] at z;omega,hC1⟩ (fun j σ H2 _ ⟨ls2,ps2,y,u3,u6,u7,e,s2,h⟩=>bF.of (cg _ _ (s2 _ _ eB))) ?_ ?_
   ·rintro j x σ H2 hx ⟨ls2,ps2,y2,u3,u6,u7,rfl,s2,D2,w2,hl2',hl3,hp3,hC2⟩
    rw [List.getElem?_map] at hx
    obtain⟨bn,hbn,rfl⟩:=Option.map_eq_some_iff.mp hx
    have hj:j <back.length:=by
     rcases Nat.lt_or_ge j back.length with h | h
     ·exact h
     ·rw [List.getElem?_eq_none h] at hbn;cases hbn
    have hdr:back.drop j=bn:: back.drop (j+1):=by
     rw [List.drop_eq_getElem_cons hj]
     rw [List.getElem?_eq_getElem hj,Option.some.injEq] at hbn
     rw [hbn]
    refine Rz fun De hD u hu=>?_
    refine⟨_,rfl,d.S,_,2,_,rfl,rfl,D2.seqS,aJ (j:=2) rfl,.inl ⟨rfl,_,bF.of D2.opens⟩,d.O,_,.str y2,rfl,rfl,D2.opens,rfl,?_⟩
    have D3:=D2.open (os':=[])
    have c3:bG d.E (upd H2 d.O (.lst (([]:List Str).map V.str)))=bG d.E H2:=eO (by simp)
    refine dh (v:=u) hu fun u hu=>?_
    change yP _ _ _ _ (upd H2 d.O (.lst (([]:List Str).map V.str)))
    generalize upd H2 d.O (.lst (([]:List Str).map V.str))=H3 at D3 c3 ⊢
    obtain⟨xs,eP,aP⟩:=D3.parts
    have xl:=aP.length
    refine⟨_,rfl,_,rfl,_,rfl,d.S,_,1,_,rfl,rfl,D3.seqS,aJ (j:=1) rfl,.ref d.P,ps2.length,rfl,.inl ⟨_,bF.of eP,xl.symm⟩,_,_,rfl,rfl,_,_,rfl,d,ls2,ps2,[],_,false,rfl,D3,by omega,fun l H4 _ s4 D4=>?_⟩
    rw [c3] at s4
    have s24:=s2.trans s4
    obtain⟨xs4,eP4,aP4⟩:=D4.parts
    have xl4:=aP4.length
    refine dh (v:=u) hu fun u hu=>?_
    refine⟨_,rfl,d.S,_,1,_,rfl,rfl,D4.seqS,aJ (j:=1) rfl,.inl ⟨rfl,_,bF.of eP4⟩,?_⟩
    refine⟨_,rfl,d.S,_,4,_,rfl,rfl,D4.seqS,aJ (j:=4) rfl,?_⟩
    refine⟨_,rfl,d.S,_,1,_,rfl,rfl,D4.seqS,aJ (j:=1) rfl,.ref d.P,ps2.length,rfl,.inl ⟨_,bF.of eP4,xl4.symm⟩,?_⟩
    refine⟨d.c4,ps2.length,rfl,by omega,fun H5 s5=>?_⟩
    have D5:=D4.keep s5
    have c5:=s24.trans (D4.cut s5)
    have eP5:=s5 _ _ eP4
    refine⟨iu,fun a1 n1=>⟨_,rfl,iu,fun a2 n2=>⟨_,rfl,_,rfl,iu,fun a3 n3=>⟨iu,fun q nq=>?_⟩⟩⟩⟩
    obtain⟨D6,z1,z2,z3⟩:=D5.two n1 n2 (y:=.lst [.str y2])
    have t6:aM H5 (upd (upd H5 a1 (.lst [])) a2 (.lst [.str y2])):=(aB n1).trans (aB n2)
    have eP6:=t6 _ _ eP5
    generalize upd (upd H5 a1 (.lst [])) a2 (.lst [.str y2])=H6 at D6 z1 z2 z3 t6 eP6 n3 nq ⊢
    obtain⟨D7,y1,y2',y3⟩:=D6.two n3 nq (y:=.tup [.str "copy",.str (cJ d.c4 ps2.length),.ref a1,.ref a2,.ref a3])
    have t7:aM H6 (upd (upd H6 a3 (.lst [.str bn,.str l.name])) q (.tup [.str "copy",.str (cJ d.c4 ps2.length),.ref a1,.ref a2,.ref a3])):=(aB n3).trans (aB nq)
    have eP7:=t7 _ _ eP6
    generalize upd (upd H6 a3 (.lst [.str bn,.str l.name])) q (.tup [.str "copy",.str (cJ d.c4 ps2.length),.ref a1,.ref a2,.ref a3])=H7 at D7 y1 y2' y3 t7 eP7 ⊢
    have c7:=c5.trans (z3.trans y3)
    refine⟨d.P,xs4,_,rfl,rfl,eP7,by omega,?_⟩
    have D8:=D7.part (p:=⟨3,cJ d.c4 ps2.length,[],[y2],[bn,l.name]⟩) ⟨q,a1,a2,a3,rfl,y2',y3 _ _ z1,y3 _ _ z2,y1⟩ ⟨by show 3 <11;omega,rfl,rfl,rfl,by simp⟩ rfl eP7
    have c8:bG d.E (upd H7 d.P (.lst (xs4 ++ [.ref q])))=bG d.E H7:=eO (by simp)
    generalize upd H7 d.P (.lst (xs4 ++ [.ref q]))=H8 at D8 c8 ⊢
    subst hu
    refine⟨_,rfl,d.S,_,2,_,rfl,rfl,D8.seqS,aJ (j:=2) rfl,.inl ⟨rfl,_,bF.of D8.opens⟩,_,rfl,d.O,_,_,rfl,rfl,D8.opens,by simp;omega,?_⟩
    have D9:=D8.open (os':=[l.name])
    have nd:=D9.nod (by rw [lP,List.length_singleton];omega)
    rw [hdr] at w2
    have wc:=w2.closeBack (p:=⟨3,cJ d.c4 ps2.length,[],[y2],[bn,l.name]⟩) (rest:=back.drop (j+1)) (one:=y2) (b:=bn) (fresh:=l.name) rfl rfl (.refl _) rfl (by simpa using nd)
    subst hD
    exact⟨ls2 ++ [l],_,l.name,_,_,_,rfl,by rw [eO (by simp),c8];exact c7,D9,by simpa [uO] using wc,by rw [lP];omega,by rw [lP,List.length_singleton];omega,by rw [lP,List.length_singleton];omega,hC2.app⟩
   rintro σ H2 ⟨ls2,ps2,y2,u3,u6,u7,rfl,s2,D2,w2,hl2',hl3,hp3,hC2⟩
   rw [lM] at w2 hl3 hp3
   rw [List.drop_length] at w2
   subst hu
   refine⟨_,rfl,_,rfl,iu,fun a3 n3=>?_⟩
   have t3:=aB (o:=.lst []) n3
   have D3:=D2.keep t3
   have c3:=s2.trans (D2.cut t3)
   have o3:=D2.out n3
   have e3:=fC (au (H:=H2) (a:=a3) (o:=.lst ([]:List V))) o3
   generalize upd H2 a3 (.lst [])=H3 at t3 D3 c3 e3 ⊢
   refine⟨_,rfl,d.S,_,2,_,rfl,rfl,D3.seqS,aJ (j:=2) rfl,.inl ⟨rfl,_,bF.of D3.opens⟩,d.O,_,.str y2,rfl,rfl,D3.opens,rfl,?_⟩
   have D4:=D3.open (os':=[])
   have c4:bG d.E (upd H3 d.O (.lst (([]:List Str).map V.str)))=bG d.E H3:=eO (by simp)
   rw [show([y2].map V.str).dropLast=([]:List Str).map V.str from rfl]
   refine⟨iu,fun a4 n4=>?_⟩
   generalize upd H3 d.O (.lst (([]:List Str).map V.str))=H4 at D4 c4 n4 ⊢
   have s5:=aB (o:=.lst [.str y2]) n4
   have D5:=D4.keep s5
   have c5:=D4.cut s5
   rw [c4] at c5
   have e5:=fC (E:=d.E) (H:=upd H4 a4 (.lst [.str y2])) au (D4.out n4)
   refine⟨d,ls2,ps2,[],_,1,a3,a4,[],[y2],0,rfl,D5,c5 _ _ e3,e5,by omega,rfl,by simp,rfl,rfl,by omega,by omega,by simp,fun newl2 H9 hn2 s9 D9=>?_⟩
   have hz:newl2=[]:=List.length_eq_zero_iff.mp hn2
   subst hz
   rw [List.map_nil,List.append_nil,List.append_nil] at D9
   obtain⟨x1,x2,x3⟩:=w2.last (p:=⟨1,cJ d.c4 ps2.length,[],[y2],[]⟩) (y:=y2) rfl rfl rfl rfl
   exact k ls2 _ H9 (c3.trans (c5.trans s9)) D9 ⟨w2.nod,x1,x2,y2,x3⟩ (by omega) hl2' (by rw [lP,List.length_singleton];omega) (by rw [lP,List.length_singleton];omega) hC2.app
 ·intro σ H' Q' Q'' hm hq
  obtain⟨x1,x2,x3,x4,x5,x6,x7,x8,x9,x10,x11,x12,x13,x14,x15,x16,x17,x18,x19,x20,q⟩:=hq
  exact⟨x1,x2,x3,x4,x5,x6,x7,x8,x9,x10,x11,x12,x13,x14,x15,x16,x17,x18,x19,x20,hm _ _ q⟩
inductive zP (K:PySem.W.Frag) (vs:List V) (H:Hp) (Q:VK) (E:XK):Prop where
 | mk:∀(a:Addr) (ns:List Int) (start steps:Nat) (odd:Bool),vs=[.ref a,.int (start:Nat),.int (steps:Nat),.bl odd]->bF K H a (ns.map V.int)->steps<=4->(∀(T L P:Addr) (ls:List aG) (ps:List PD) (H':Hp),aM H H'->H L=none->H P=none->L≠P->H' T=some (.tup [.ref L,.ref P])->JC H' L P ls ps->QQ (jM ns start) (jM ns (start+1)) ls ps->Q (.ref T) H')->zP K vs H Q E
noncomputable abbrev Dy:List Str:=["_law_script", "_law_start", "_law_steps", "_law_odd", "_law_one", "_law_other", "_law_state", "_law_k", "_law_back", "_law_at"]
theorem Kf (T:Txt w K mg t):FO P w K mg base 7 t.BP ["_law_script", "_law_start", "_law_steps", "_law_odd"] (zP K):=by
 have sc:=T.wZ.sc Dy
 refine T.wZ.F.ok sc ln (fun _ _ _ _ H vs Q E hr h=>?_)
 obtain⟨a,ns,start,steps,odd,rfl,hS,hst,k⟩:=h
 refine⟨_,(aq (sN sc 4 (dw (iV T) T.gB hr (aa (pv 0) (aa (pv 1) ak aj) aj)))
  (aq (sN sc 5 (dw (iV T) T.gB hr (aa (pv 0) (aa (bx dD (pv 1) az) ak bL) aj)))
  (aq (sN sc 6 (bz (aa (bz ak) (aa (bz ak) (aa (bz ak) (aa (pv 4) (aa (pv 5) ak aj) aj) aW) aW) aW)))
  (aq (dG PassesOwn.never rfl (jc rfl T.j9 (aa (bx dD az (bx cj (dw (aY T) T.bf hr (aa (pv 4) (aa az ak ao) aj)) az)) ak bL)) (gN sc 7)
   (aA (bC (dw (cH T) T.cB hr (aa (pv 6) (aa (dw (aY T) T.bf hr (aa (pv 5) (aa (pv 7) ak aj) aj)) (aa bJ (aa (bz ak) (aa (bz ak) (aa az ak ao) aW) aW) ao) aZ) aj)))))
  (aq (jP (i:=8) [5,6] Dy (aR (top 83)) rfl sc.nd rfl (jc rfl T.j9 (aa (bx cj (dw (aY T) T.bf hr (aa (pv 4) (aa az ak ao) aj)) az) ak bL)) (fun _ _ _ _ _=>gm) (fun _ _ _ _ _=>(dw (jV T) T.iG hr (aa (pv 2) (aa (dw (aY T) T.bf hr (aa (pv 1) (aa (bx dD az (pv 0)) ak bL) aj)) (aa jF ak ao) aZ) aj))))
  (aq (bC (tW PySem.F.plainAttrs_list PySem.F.slot_list_extend PySem.F.type_list_extend Ge (aO aX (pv 6) az (fun _ _=>rfl)) (aa (pv 8) ak aj)))
  (aq (dG PassesOwn.never rfl (jc rfl T.j9 (aa (pv 2) ak aj)) (gN sc 7)
   (aA (bC (dw (Jd T) T.ur hr (aa (pv 6) (aa (dw (iV T) T.gB hr (aa (pv 0) (aa (bx dD (bx dD (pv 1) az) (pv 7)) ak bL) aj)) (aa (pv 3) ak aj) aZ) aj)))))
  (aq (bC (dw (DR T) T.qz hr (aa (pv 6) (aa (pv 5) (aa (pv 8) ak aj) aj) aj)))
  (aq (sN sc 9 (bx cj (dw (aY T) T.bf hr (aa (pv 4) (aa az ak ao) aj)) (bu bR (by rfl) T.fB du (aa (aO aX (pv 6) az (fun _ _=>rfl)) ak aF))))
  (aA (aN (cz (aa (aO aX (pv 6) az (fun _ _=>rfl)) (aa (bx Ik (jK rU (aO aX (pv 6) az (fun _ _=>rfl)) (jT (pv 9)) rD) (jK rU (aO aX (pv 6) az (fun _ _=>rfl)) rD (jT (pv 9)))) ak bL) aF))))))))))))),?_⟩
 have hl:sizeLine=16777216:=sizeLine_eq
 refine hide fun u hu=>?_
 refine⟨_,rfl,_,rfl,a,ns,start,rfl,hS,?_⟩
 refine dh (v:=u) hu fun u hu=>?_
 refine⟨_,rfl,_,rfl,_,_,rfl,rfl,a,ns,start+1,rfl,hS,?_⟩
 refine dh (v:=u) hu fun u hu=>?_
 refine⟨iu,fun L nL=>⟨iu,fun P' nP=>⟨iu,fun O nO=>⟨_,rfl,_,rfl,iu,fun S nS=>?_⟩⟩⟩⟩
 obtain⟨D1,s1,nP0⟩:=mO.init (jM ns start) (jM ns (start+1)) nL nP nO nS
 have nLP:L≠P':=D1.ne.1
 refine dh (v:=u) hu fun u hu=>?_
 change yP _ _ _ [some (.ref a),some (.int (start:Nat)),some (.int (steps:Nat)),some (.bl odd),some (.int (jM ns start)),some (.int (jM ns (start+1))),some (.ref S),none,none,none] (upd (upd (upd (upd H L (.lst [])) P' (.lst [])) O (.lst [])) S (.lst [.ref L,.ref P',.ref O,.int (jM ns start),.int (jM ns (start+1))]))
 generalize upd (upd (upd (upd H L (.lst [])) P' (.lst [])) O (.lst [])) S (.lst [.ref L,.ref P',.ref O,.int (jM ns start),.int (jM ns (start+1))])=H1 at D1 s1 ⊢
 obtain⟨d,hd⟩:∃d:Dw,d=⟨S,L,P',O,jM ns start,jM ns (start+1)⟩:=⟨_,rfl⟩
 rw [<-hd] at D1
 have hE:[L,P',O]=d.E:=by rw [hd]
 have hSd:S=d.S:=by rw [hd]
 have hLd:L=d.L:=by rw [hd]
 have hc3:jM ns start=d.c3:=by rw [hd]
 have hc4:jM ns (start+1)=d.c4:=by rw [hd]
 rw [hE] at s1
 rw [hLd] at nL nLP
 rw [hc3,hc4] at k
 rw [hSd,hc3,hc4]
 clear hd hE nP nO nS
 have g0:=Int.emod_nonneg (b7 d.c3 5) (show(2:Int)≠0 by decide)
 have g1:=Int.emod_lt_of_pos (b7 d.c3 5) (show(0:Int) <2 by decide)
 refine⟨_,rfl,_,_,rfl,_,_,rfl,rfl,by show(0:Int) <2;decide,_,_,rfl,rfl,1+b7 d.c3 5 % 2,rfl,by omega,by omega,?_⟩
 obtain⟨g,hg,hg1,hg2⟩:∃g:Nat,(1+b7 d.c3 5 % 2).toNat=g/\1<=g/\g<=2:=⟨_,rfl,by omega,by omega⟩
 rw [hg]
 refine GK (fun j σ H2=>∃(ls:List aG) (ps:List PD) (os:List Str) (v7:Option V),σ=[some (.ref a),some (.int (start:Nat)),some (.int (steps:Nat)),some (.bl odd),some (.int d.c3),some (.int d.c4),some (.ref d.S),v7,none,none]/\aM (bG d.E H1) (bG d.E H2)/\mO d H2 ls ps os/\Drawn.WF (uO ls ps os [])/\ls.length=j/\ps.length=j/\os.length=j/\(1<=j->Ku ps)) ⟨[],[],[],none,rfl,aM.refl _,D1,Drawn.WF.start,rfl,rfl,rfl,fun h=>absurd h (by decide)⟩ ?_ ?_
 ·rintro j σ H2 hj ⟨ls,ps,os,v7,rfl,s2,D2,w2,h1,h2,h3,hC⟩
  refine Vz fun De hD=>?_
  refine⟨_,rfl,_,rfl,_,rfl,_,_,rfl,iu,fun a1 n1=>⟨iu,fun a2 n2=>?_⟩⟩
  obtain⟨D9,z1,z2,z3⟩:=D2.two n1 n2 (y:=.lst [])
  refine⟨d,ls,ps,os,_,0,a1,a2,[],[],1,rfl,D9,z1,z2,by omega,rfl,by simp,rfl,rfl,by omega,by omega,by omega,fun newl H8 hn s8 D8=>?_⟩
  have w8:=qJ w2 rfl D8 (.refl _) (by omega) (by rw [lP];omega)
  subst hD
  exact⟨_,_,_,_,rfl,s2.trans (z3.trans s8),D8,w8,by rw [lP];omega,by rw [lP,List.length_singleton];omega,by rw [lP,lM];omega,fun _=>by unfold Ku;rw [List.any_append];simp⟩
 rintro σ H2 ⟨ls,ps,os,v7,rfl,s2,D2,w2,h1,h2,h3,hC⟩
 have b0:=Int.emod_nonneg (b7 d.c3 6) (show(3:Int)≠0 by decide)
 have b1:=Int.emod_lt_of_pos (b7 d.c3 6) (show(0:Int) <3 by decide)
 refine dh (v:=u) hu fun u hu=>?_
 refine⟨_,rfl,_,_,rfl,_,_,rfl,rfl,by show(0:Int) <3;decide,b7 d.c3 6 % 3,rfl,by omega,by omega,?_⟩
 obtain⟨nb,hnb,hnb2⟩:∃nb:Nat,(b7 d.c3 6 % 3).toNat=nb/\nb<=2:=⟨_,rfl,by omega⟩
 rw [hnb]
 refine jx (fun j ys H3=>∃(ls3:List aG) (bl:List Str),ys=bl.map V.str/\bl.length=j/\aM (bG d.E H1) (bG d.E H3)/\mO d H3 ls3 ps os/\Drawn.WF (uO ls3 ps (os ++ bl) bl)/\ls3.length=g+j) (by omega) ⟨ls,[],rfl,rfl,s2,D2,by rw [List.append_nil];exact w2,by omega⟩ (fun j ys H3 ⟨_,bl,e,e2,_⟩=>by rw [e,lM];omega) ?_ ?_
 ·rintro j ys H3 hj ⟨ls3,bl,rfl,hb,s3,D3,w3,h4⟩
  refine yes ⟨_,rfl,_,rfl,_,rfl,_,_,rfl,rfl,_,_,rfl,d,ls3,ps,os,_,true,rfl,D3,by omega,fun l H4 _ s4 D4=>?_⟩
  have nd:=D4.nod (by rw [lP,List.length_singleton];omega)
  have wb:=w3.backLane (b:=l.name) (by simpa using nd)
  exact⟨ls3 ++ [l],bl ++ [l.name],by simp,by simp [hb],s3.trans s4,D4,by simpa [uO] using wb,by rw [lP,List.length_singleton];omega⟩
 rintro ys H3 ⟨ls3,bl,rfl,hbl,s3,D3,w3,h4⟩ B nB
 have t4:=aB (o:=.lst (bl.map V.str)) nB
 have D4:=D3.keep t4
 have s4:=s3.trans (D3.cut t4)
 have eB:=fC (au (H:=H3) (a:=B) (o:=.lst (bl.map V.str))) (D3.out nB)
 generalize upd H3 B (.lst (bl.map V.str))=H4 at t4 D4 s4 eB ⊢
 refine dh (v:=u) hu fun u hu=>?_
 refine⟨_,rfl,d.S,_,2,_,rfl,rfl,D4.seqS,aJ (j:=2) rfl,.inl ⟨rfl,_,bF.of D4.opens⟩,_,rfl,d.O,B,_,_,rfl,rfl,D4.opens,cg _ _ eB,by rw [lM,lM];omega,?_⟩
 rw [<-List.map_append]
 have D5:=D4.open (os':=os ++ bl)
 have c5:bG d.E (upd H4 d.O (.lst ((os ++ bl).map V.str)))=bG d.E H4:=eO (by simp)
 generalize upd H4 d.O (.lst ((os ++ bl).map V.str))=H5 at D5 c5 ⊢
 rw [<-c5] at s4 eB
 refine dh (v:=u) hu fun u hu=>?_
 refine⟨_,rfl,(steps:Int),rfl,by omega,by omega,?_⟩
 rw [Int.toNat_natCast]
 refine GK (fun j σ H6=>∃(ls6:List aG) (ps6:List PD) (os6:List Str) (v7:Option V),σ=[some (.ref a),some (.int (start:Nat)),some (.int (steps:Nat)),some (.bl odd),some (.int d.c3),some (.int d.c4),some (.ref d.S),v7,some (.ref B),none]/\aM (bG d.E H5) (bG d.E H6)/\mO d H6 ls6 ps6 os6/\Drawn.WF (uO ls6 ps6 os6 bl)/\1<=ls6.length/\ls6.length<=4+2 * j/\ps6.length<=2+2 * j/\os6≠[]/\os6.length<=4/\Ku ps6) ⟨ls3,ps,os ++ bl,v7,rfl,aM.refl _,D5,w3,by omega,by omega,by omega,by intro z;have:=congrArg List.length z;rw [lP,List.length_nil] at this;omega,by rw [lP];omega,hC (by omega)⟩ ?_ ?_
 ·rintro j σ H6 hj ⟨ls6,ps6,os6,u7,rfl,s6,D6,w6,l0,l6,p6,o0,o6,hC6⟩
  have hS6:bF K H6 a (ns.map V.int):=cg.seq ((s1.trans (s4.trans s6)).seq hS)
  refine Vz fun De hD=>?_
  refine⟨_,rfl,_,rfl,_,rfl,_,_,rfl,rfl,_,rfl,_,_,rfl,rfl,a,ns,start+2+(0+j),rfl,hS6,_,rfl,d,ls6,ps6,os6,_,bl,odd,rfl,D6,w6,o0,o6,by omega,by omega,fun ls' ps' os' H' X=>?_⟩
  subst hD
  exact⟨ls',ps',os',_,rfl,s6.trans X.cut,X.at',X.wf,by have h1:=X.wf.ins.length_eq;have h2:=X.o1;rw [lP,lM] at h1;change _+os'.length=_ at h1;omega,by have:=X.l2;omega,by have:=X.p2;omega,by intro z;have:=X.o1;rw [z] at this;simp at this,X.o4,X.gv hC6⟩
 rintro σ H6 ⟨ls6,ps6,os6,u7,rfl,s6,D6,w6,l0,l6,p6,o0,o6,hC6⟩
 refine dh (v:=u) hu fun u hu=>?_
 refine⟨_,rfl,_,rfl,_,rfl,d,ls6,ps6,os6,_,B,bl,rfl,D6,w6,s6 _ _ eB,o0,o6,by omega,by omega,by omega,hC6,fun ls7 ps7 H7 s7 D7 W7 l17 l7 p16 p1 hC7=>?_⟩
 obtain⟨xsL,eL,aL⟩:=D7.lanes
 obtain⟨xsP,eP,aP⟩:=D7.parts
 have xl:=aP.length
 refine dh (v:=u) hu fun u hu=>?_
 refine⟨_,rfl,_,_,rfl,_,rfl,d.S,_,1,_,rfl,rfl,D7.seqS,aJ (j:=1) rfl,.ref d.P,ps7.length,rfl,.inl ⟨_,bF.of eP,xl.symm⟩,b7 d.c3 7,(ps7.length:Int),rfl,rfl,by omega,?_⟩
 have r0:=Int.emod_nonneg (b7 d.c3 7) (show(ps7.length:Int)≠0 by omega)
 obtain⟨r,hr'⟩:∃r:Nat,b7 d.c3 7 % (ps7.length:Int)=(r:Int):=⟨_,(Int.toNat_of_nonneg r0).symm⟩
 dsimp only
 rw [hr']
 subst hu
 refine⟨_,rfl,d.S,_,0,_,rfl,rfl,D7.seqS,aJ (j:=0) rfl,?_⟩
 refine⟨_,rfl,d.S,_,1,_,rfl,rfl,D7.seqS,aJ (j:=1) rfl,?_⟩
 refine⟨_,rfl,_,rfl,d.P,_,rfl,bF.of eP,fun q1 m1=>?_⟩
 rw [zz]
 have t1:=aB (o:=.lst (xsP.drop r)) m1
 have f1:upd H7 q1 (.lst (xsP.drop r)) q1=some (.lst (xsP.drop r)):=au
 have D8:=D7.keep t1
 have eP8:=t1 _ _ eP
 have eL8:=t1 _ _ eL
 generalize upd H7 q1 (.lst (xsP.drop r))=H8 at t1 f1 D8 eP8 eL8 ⊢
 refine⟨_,rfl,d.S,_,1,_,rfl,rfl,D8.seqS,aJ (j:=1) rfl,_,rfl,_,rfl,d.P,_,rfl,bF.of eP8,fun q2 m2=>?_⟩
 rw [Tp]
 have t2:=aB (o:=.lst (xsP.take r)) m2
 have f2:upd H8 q2 (.lst (xsP.take r)) q2=some (.lst (xsP.take r)):=au
 have f12:=t2 _ _ f1
 have eL9:=t2 _ _ eL8
 generalize upd H8 q2 (.lst (xsP.take r))=H9 at t2 f2 f12 eL9 ⊢
 refine⟨q1,q2,_,_,rfl,rfl,f12,f2,by rw [List.length_drop,List.length_take];omega,fun q3 m3=>?_⟩
 have t3:=aB (o:=.lst (xsP.drop r ++ xsP.take r)) m3
 have f3:upd H9 q3 (.lst (xsP.drop r ++ xsP.take r)) q3=some (.lst (xsP.drop r ++ xsP.take r)):=au
 have eLA:=t3 _ _ eL9
 generalize upd H9 q3 (.lst (xsP.drop r ++ xsP.take r))=HA at t3 f3 eLA ⊢
 refine⟨iu,fun T' nT=>?_⟩
 have t4:=aB (o:=.tup [.ref d.L,.ref q3]) nT
 have sA:aM H7 (upd HA T' (.tup [.ref d.L,.ref q3])):=t1.trans (t2.trans (t3.trans t4))
 have s17:aM H (bG d.E H7):=s1.trans (s4.trans (s6.trans s7))
 have s07:aM H H7:=s17.trans cg
 have free3:H q3=none:=s07.free (t1.free (t2.free m3))
 have cA:aM (bG d.E H7) (upd HA T' (.tup [.ref d.L,.ref q3])):=cg.trans sA
 have nq:d.L≠q3:=aD eL9 m3
 have rp:=Rc ps7 r
 refine k T' d.L q3 ls7 (ps7.drop r ++ ps7.take r) _ (s07.trans sA) nL free3 nq au ⟨⟨xsL,t4 _ _ eLA,aL.imp fun _ _ h=>h.same cA⟩,⟨_,t4 _ _ f3,((aP.drop r).app (aP.take r)).imp fun _ _ h=>h.same cA⟩⟩ ⟨D7.lok,fun p hp=>D7.pok p (rp.mem_iff.mpr hp),D7.ln,?_,W7.perm rp,by omega,l17,by rw [<-rp.length_eq];exact p1,by rw [<-rp.length_eq];exact p16,by unfold Ku at hC7 ⊢;rw [<-rp.any_eq];exact hC7⟩
 rw [<-rp.length_eq,<-D7.pn]
 exact rp.map _
inductive Cw (K:PySem.W.Frag) (vs:List V) (H:Hp) (Q:VK) (E:XK):Prop where
 | mk:∀x,vs=[x]->(((∃z:Str,x=.str z/\z.length<=100/\∀H',aM H H'->Q (.bl (nameB z)) H')∨∃Tx,Y4 K H x Tx/\Tx∈ph/\Tx≠ "str" /\Q (.bl false) H))->Cw K vs H Q E
theorem Mt (T:Txt w K mg t):FO P w K mg base 1 t.Gb ["thing"] (Cw K):=by
 have sc:=T.yV.sc ["thing"]
 refine T.yV.F.ok sc ln (fun _ _ _ _ H vs Q E hr h=>?_)
 obtain⟨x,rfl,h⟩:=h
 refine⟨_,(aq (bN (PW.pt (sy (jf (gZ (bu qU (by rfl) T.iZ gW (aa (pv 0) (aa (vf (by rfl) T.Vp Rb) ak aj) aj)))) (lU (jf (xG vY vY az (bu bR (by rfl) T.fB du (aa (pv 0) ak aj)) (jm (by rfl) T.Du))))))
   (aA (aN jF))
   bj)
  (aA (aN (zp (rY zF (aO CW (pv 0) az (fun _ _=>rfl)) (jm (by rfl) T.Gh) (by with_unfolding_all rfl)) (yZ (bu (xQ rfl) (by rfl) T.Oc Im (aa (dZ [] ["thing"] (aR (top 30)) rfl (W9 (pv 0)) (fun _ _ _ _ _=>gm) (fun _ _ _ _ _=>(YF (rY zF (pv 0) (jm (by rfl) T.Gh) (by with_unfolding_all rfl)) (yZ (rY zF (pv 0) (jm (by rfl) T.Oz) (by with_unfolding_all rfl)))))) ak eU))))))),?_⟩
 have hl:sizeLine=16777216:=sizeLine_eq
 rcases h with ⟨z,rfl,hz,k⟩ | ⟨Tx,ty,hm,hne,k⟩
 ·refine⟨_,rfl,.str z, "str", "str",true,rfl,rfl,by decide,by decide,_,rfl,bU ?_⟩
  refine⟨_,rfl,.str z,z.length,rfl,⟨by omega,rfl⟩,_,_,rfl,rfl,_,rfl,?_⟩
  cases e:z.cps.toList with
  | nil=>
   have h0:z.length=0:=by rw [<-m8,e];rfl
   rw [h0]
   refine bU ⟨_,rfl,d9 ?_⟩
   have:=k H (aM.refl _)
   unfold nameB at this
   rw [e] at this
   exact this
  | cons c r=>
   have hlen:z.length=r.length+1:=by rw [<-m8,e];rfl
   refine wV (by omega) ⟨_,_,rfl,rfl,_,rfl,jz (fun h=>?_) (fun h=>?_)⟩
   ·have h8:¬(z.length:Int)<=8:=by simpa using h
    have:=k H (aM.refl _)
    unfold nameB at this
    rw [e] at this
    simp only [show ¬r.length<=7 by omega,decide_false,Bool.false_and] at this
    exact this
   ·have h8:(z.length:Int)<=8:=by simpa using h
    have hc0:Fi z.cps.toList 0=some c:=by rw [e];exact aJ (xs:=c:: r) (j:=0) rfl
    refine⟨_,rfl,z,_,c,rfl,rfl,by omega,hc0,_,_,rfl,rfl,_,rfl,?_⟩
    have kk:∀H',aM H H'->Q (.bl (low c && z.cps.toList.all fun d=>low d || Mm d)) H':=fun H' s'=>by
     have:=k H' s'
     unfold nameB at this
     rw [e] at this ⊢
     simp only [show r.length<=7 by omega,decide_true,Bool.true_and] at this
     exact this
    rw [RC]
    refine jz (fun hc=>?_) (fun hc=>?_)
    ·rw [hc,Bool.true_and] at kk
     refine⟨_,rfl,z,rfl,Rm (fun i ys H'=>H'=H/\ys=((z.cps.toList.take i).map fun d=>low d || Mm d).map V.bl) (by simp only [Str.length] at hz;omega) ⟨rfl,by simp⟩ (fun i ys H' ⟨_,e⟩=>by rw [e];simp only [lM,List.length_take];omega) ?_ ?_⟩
     ·rintro i d ys H' hd ⟨rfl,rfl⟩
      refine yes ⟨_,rfl,_,_,rfl,rfl,_,rfl,?_⟩
      have hd':z.cps.toList[i]?=some d:=by simpa using hd
      have next:∀b,b=(low d || Mm d)->(((z.cps.toList.take i).map fun d=>low d || Mm d).map V.bl) ++ [V.bl b]=((z.cps.toList.take (i+1)).map fun d=>low d || Mm d).map V.bl:=fun b hb=>by
       rw [List.take_add_one,hd',hb]
       simp
      rw [RC]
      refine jz (fun hl'=>?_) (fun hl'=>?_)
      ·exact⟨rfl,next true (by rw [hl'];rfl)⟩
      ·have hl2:low d=false:=by simpa using hl'
       refine⟨_,rfl,_,_,rfl,rfl,rfl,next _ ?_⟩
       rw [Xe,hl2,Bool.false_or]
     ·rintro ys H' ⟨rfl,rfl⟩ D hD
      refine⟨D,(z.cps.toList.take z.cps.size).map fun d=>low d || Mm d,rfl,bF.of au,?_⟩
      have hall:((z.cps.toList.take z.cps.size).map fun d=>low d || Mm d).all id=z.cps.toList.all fun d=>low d || Mm d:=by
       rw [List.take_of_length_le (by simp),List.all_map]
       rfl
      rw [hall]
      exact kk _ (aB hD)
    ·have hc':low c=false:=by simpa using hc
     rw [hc',Bool.false_and] at kk
     exact kk H (aM.refl _)
 ·have hb:Jr Tx "str" =false:=by
   simp only [ph,List.mem_cons,List.not_mem_nil,or_false] at hm
   rcases hm with rfl | rfl | rfl | rfl | rfl | rfl | rfl <;> first | decide | exact absurd rfl hne
  exact⟨_,rfl,x,Tx, "str",false,rfl,ty,by decide,hb,_,rfl,d9 (d9 k)⟩
inductive uz (K:PySem.W.Frag) (vs:List V) (H:Hp) (Q:VK) (E:XK):Prop where
 | mk:∀(a b:Addr) (xs ys:List V),vs=[.ref a,.ref b]->bF K H a xs->bF K H b ys->1<=xs.length->xs.length<=24->1<=ys.length->ys.length<=16->Q .non H->uz K vs H Q E
theorem DW (T:Txt w K mg t):FO P w K mg base 1 t.vZ ["lanes", "parts"] (uz K):=by
 have sc:=T.qb.sc ["lanes", "parts"]
 refine T.qb.F.ok sc ln (fun _ _ _ _ H vs Q E hr h=>?_)
 obtain⟨a,b,xs,ys,rfl,h1,h2,c1,c2,c3,c4,k⟩:=h
 refine⟨_,(aq (bN (jf (xG vY vY az (bu bR (by rfl) T.fB du (aa (pv 0) ak aj)) (jm (by rfl) T.Hm)))
   (aA dJ)
   bj)
  (aA (bN (jf (xG vY vY az (bu bR (by rfl) T.fB du (aa (pv 1) ak aj)) (jm (by rfl) T.Hd)))
   (aA dJ)
   bj))),?_⟩
 have hl:sizeLine=16777216:=sizeLine_eq
 refine⟨_,rfl,.ref a,xs.length,rfl,.inl ⟨_,h1,rfl⟩,_,_,rfl,rfl,_,rfl,wV (by omega) ⟨_,_,rfl,rfl,_,rfl,?_⟩⟩
 rw [show decide ((xs.length:Int)<=24)=true from decide_eq_true (by omega)]
 refine bU ?_
 refine⟨_,rfl,.ref b,ys.length,rfl,.inl ⟨_,h2,rfl⟩,_,_,rfl,rfl,_,rfl,wV (by omega) ⟨_,_,rfl,rfl,_,rfl,?_⟩⟩
 rw [show decide ((ys.length:Int)<=16)=true from decide_eq_true (by omega)]
 exact bU k
inductive vN (K:PySem.W.Frag) (vs:List V) (H:Hp) (Q:VK) (E:XK):Prop where
 | mk:∀(z:Str) (d:Addr) (kvs:List (Key×V)),vs=[.str z,.ref d]->H d=some (.dK kvs)->nameB z=true->z.length<=100->b8 kvs (Sum.inr z)=none->(∀H',aM H H'->Q .non H')->vN K vs H Q E
theorem wJ (T:Txt w K mg t):FO P w K mg base 2 t.yx ["name", "known"] (vN K):=by
 have sc:=T.mL.sc ["name", "known"]
 refine T.mL.F.ok sc ln (fun _ _ _ _ H vs Q E hr h=>?_)
 obtain⟨z,d,kvs,rfl,hd,hz,hl,hv,k⟩:=h
 refine⟨_,(aq (bN (jf (gZ (dw (Mt T) T.yV hr (aa (pv 0) ak aj))))
   (aA dJ)
   bj)
  (aA (bN (gh (zb hr.u1 (pv 0) (pv 1)))
   (aA dJ)
   bj))),?_⟩
 refine⟨_,rfl,.str z,rfl,.inl ⟨z,rfl,hl,fun H1 s1=>?_⟩⟩
 rw [hz]
 refine⟨_,rfl,bU ?_⟩
 refine⟨_,rfl,_,rfl,d,_,rfl,eE.k (k:=Sum.inr z) (s1 _ _ hd),?_⟩
 rw [hv]
 exact⟨_,rfl,bU (k _ s1)⟩
inductive yC (K:PySem.W.Frag) (vs:List V) (H:Hp) (Q:VK) (E:XK):Prop where
 | mk:∀(nm:V) (room:Int) (L:Addr) (ws:List Int),vs=[nm,.int room,.ref L]->ym K H L (ws.map V.int)->ws.length<=1000->((∀v∈ws,0<=v/\v <1000000000))->1<=room->(ws.length:Int)<=room->room<=199->(∀H',aM H H'->Q .non H')->yC K vs H Q E
theorem G5 (T:Txt w K mg t):FO P w K mg base 3 t.Aw ["name", "room", "first"] (yC K):=by
 have sc:=T.uN.sc ["name", "room", "first"]
 refine T.uN.F.ok sc ln (fun _ _ _ _ H vs Q E hr h=>?_)
 obtain⟨nm,room,L,ws,rfl,hL,hw,hB,c1,c2,c3,k⟩:=h
 refine⟨_,(aq (bN (PW.pt (sy (jf (gZ (dw (Ax T) T.rP hr (aa (pv 1) ak aj)))) (lU (jf (xG vY vY (bu (Gq rfl) (by rfl) T.QT Lj (aa az (aa (bu bR (by rfl) T.fB du (aa (pv 2) ak aj)) ak aZ) ao)) (pv 1) (jm (by rfl) T.J7))))))
   (aA dJ)
   bj)
  (aA (bN (jf (gZ (bu (xQ rfl) (by rfl) T.Oc Im (aa (dZ [] ["name", "room", "first"] (aR (top 56)) rfl (Vn (bM (pv 2)) (Je (pv 2))) (fun _ _ _ _ _=>gm) (fun _ _ _ _ _=>(dw (ue T) T.nW hr (aa (pv 0) ak aj)))) ak eU))))
   (aA dJ)
   bj))),?_⟩
 have hl:sizeLine=16777216:=sizeLine_eq
 have hlw:(ws.map V.int).length=ws.length:=lM ..
 refine⟨_,rfl,.int room, "int",true,rfl,rfl,by decide,by decide,true,rfl,bU ?_⟩
 refine⟨_,rfl,.ref L,(ws.map V.int).length,rfl,hL.len,_,_,rfl,_,rfl,_,_,rfl,rfl,_,rfl,wV ?_ ⟨_,_,rfl,rfl,_,rfl,?_⟩⟩
 ·split <;> omega
 rw [show decide (room<=199)=true from decide_eq_true c3]
 refine bU ?_
 refine RN (a:=L) (xs:=ws.map V.int) ?_ hL (fun j ys=>ys=(List.replicate j true).map V.bl) (by rw [lM];omega) rfl (fun j ys e=>by rw [e];simp) (fun j x ys hx e=>?_) (fun ys e D hD=>?_)
 ·exact fun R r=>⟨_,rfl,r⟩
 ·subst e
  rw [List.getElem?_map] at hx
  obtain⟨n,hn,rfl⟩:=Option.map_eq_some_iff.mp hx
  obtain⟨n0,n1⟩:=hB n (List.mem_of_getElem? hn)
  refine yes ⟨_,rfl,.int n,rfl,.inl ⟨n,rfl,rfl,?_⟩⟩
  rw [decide_eq_true n0,decide_eq_true n1,List.replicate_succ']
  simp
 ·subst e
  refine⟨D,_,rfl,bF.of au,_,rfl,?_⟩
  rw [show((List.replicate (ws.map V.int).length true).all id)=true by simp]
  exact bU (k _ (aB hD))
inductive vM (K:PySem.W.Frag) (t:jy) (vs:List V) (H:Hp) (Q:VK) (E:XK):Prop where
 | mk:∀(i:Nat) (nm:Str) (r d a1 a2 a3:Addr) (ns is os:List V) (kvs:List (Key×V)),vs=[.ref r,.ref d]->H r=some (.tup [.str (eG i),.str nm,.ref a1,.ref a2,.ref a3])->i<=10->H d=some (.dK kvs)->nameB nm=true->nm.length<=100->b8 kvs (Sum.inr nm)=none->ym K H a1 ns->ym K H a2 is->ym K H a3 os->ns.length=cN i->is.length=cI i->os.length=cO i->((∀v∈ns,Val v))->(∀H' p,aM H H'->H p=none->fD K t H' p i (.str nm) ns is os->Q (.ref p) H')->vM K t vs H Q E
theorem Fd (T:Txt w K mg t):FO P w K mg base 5 t.xV ["row", "known"] (vM K t):=by
 have sc:=T.su.sc ["row", "known"]
 refine T.su.F.ok sc ln (fun _ _ _ _ H vs Q E hr h=>?_)
 obtain⟨i,nm,r,d,a1,a2,a3,ns,is,os,kvs,rfl,hr1,hi,hd,hz,hl,hv,q1,q2,q3,l1,l2,l3,hV,k⟩:=h
 refine⟨_,(aq (bN (jf (gZ (dw (En T) T.uZ hr (aa (aO bT (pv 0) az (fun _ _=>rfl)) ak aF))))
   (aA dJ)
   bj)
  (aq (bC (dw (wJ T) T.mL hr (aa (aO bT (pv 0) az (fun _ _=>rfl)) (aa (pv 1) ak aj) aF)))
  (aA (aN (dw (Ij T) T.zL hr (aa (aO bT (pv 0) az (fun _ _=>rfl)) (aa (aO bT (pv 0) az (fun _ _=>rfl)) (aa (aO bT (pv 0) az (fun _ _=>rfl)) (aa (aO bT (pv 0) az (fun _ _=>rfl)) (aa (aO bT (pv 0) az (fun _ _=>rfl)) ak aF) aF) aF) aF) aF)))))),?_⟩
 refine⟨_,rfl,r,_,0,_,rfl,rfl,eN.of hr1,aJ (j:=0) rfl,eG i,rfl,?_⟩
 rw [row_of]
 refine⟨_,rfl,bU ?_⟩
 refine⟨_,rfl,r,_,1,_,rfl,rfl,eN.of hr1,aJ (j:=1) rfl,_,rfl,nm,d,kvs,rfl,hd,hz,hl,hv,fun H1 s1=>?_⟩
 have e1:=eN.of (K:=K) (s1 _ _ hr1)
 exact⟨_,rfl,r,_,0,_,rfl,rfl,e1,aJ (j:=0) rfl,_,rfl,r,_,1,_,rfl,rfl,e1,aJ (j:=1) rfl,_,rfl,r,_,2,_,rfl,rfl,e1,aJ (j:=2) rfl,_,rfl,r,_,3,_,rfl,rfl,e1,aJ (j:=3) rfl,_,rfl,r,_,4,_,rfl,rfl,e1,aJ (j:=4) rfl,i,.str nm,a1,a2,a3,ns,is,os,rfl,hi,s1.seqA q1,s1.seqA q2,s1.seqA q3,l1,l2,l3,hV,fun H2 p s2 np P=>k _ p (s1.trans s2) (s1.free np) P⟩
inductive yj (K:PySem.W.Frag) (vs:List V) (H:Hp) (Q:VK) (E:XK):Prop where
 | mk:∀(y:Str) (a rd d:Addr) (zs:List Str) (rk kvs:List (Key×V)),vs=[.str y,.ref a,.ref rd,.ref d]->eN K H a (zs.map V.str)->H rd=some (.dK rk)->rd≠d->H d=some (.dK kvs)->zs.Nodup->((∀z∈zs,(b8 rk (Sum.inr z)).isSome=true/\b8 kvs (Sum.inr z)=none))->kvs.length+zs.length<=1000->(Q .non (upd H d (.dK (kvs ++ zs.map fun l=>((Sum.inr l:Key),V.str y)))))->yj K vs H Q E
theorem xF (T:Txt w K mg t):FO P w K mg base 1 t.Bb ["part", "lanes", "rooms", "ends"] (yj K):=by
 have sc:=T.pF.sc ["part", "lanes", "rooms", "ends", "lane"]
 refine T.pF.F.ok sc ln (fun _ _ _ _ H vs Q E hr h=>?_)
 obtain⟨y,a,rd,d,zs,rk,kvs,rfl,hT,hrd,hne,hd,nd,hz,hlen,k⟩:=h
 refine⟨_,(aA (dG PassesOwn.never rfl (Je (pv 1)) (gN sc 4)
   (aq (bN (PW.pt (sy (gh (uW hr.u1 (pv 4) (pv 2))) (lU (gh (zb hr.u1 (pv 4) (pv 3))))))
    (aA dJ)
    bj)
   (aA (gM hr.u1 (pv 3) (pv 4) (pv 0) rfl))))),?_⟩
 have hl:sizeLine=16777216:=sizeLine_eq
 refine⟨_,rfl,a,rfl,⟨_,hT⟩,Up (K:=K) (a:=a) (xs:=zs.map V.str) (fun j σ H'=>H'=upd H d (.dK (kvs ++ (zs.take j).map fun l=>((Sum.inr l:Key),V.str y)))/\∃v4,σ=[some (.str y),some (.ref a),some (.ref rd),some (.ref d),v4]) ⟨by rw [List.take_zero,List.map_nil,List.append_nil,Ie hd],none,rfl⟩ (fun j σ H' _ ⟨e,_⟩=>by rw [e];exact fQ hd hT) ?_ ?_⟩
 ·rintro j x σ H' hx ⟨rfl,v4,rfl⟩
  rw [List.getElem?_map] at hx
  obtain⟨z,hzj,rfl⟩:=Option.map_eq_some_iff.mp hx
  have hj:j <zs.length:=(List.getElem?_eq_some_iff.mp hzj).1
  obtain⟨r1,r2⟩:=hz z (List.mem_of_getElem? hzj)
  obtain⟨rv,hrv⟩:=Option.isSome_iff_exists.mp r1
  have erd:upd H d (.dK (kvs ++ (zs.take j).map fun l=>((Sum.inr l:Key),V.str y))) rd=some (.dK rk):=by rw [aK hne];exact hrd
  have nin:z∉zs.take j:=fun hm=>by
   obtain⟨i,hi,ei⟩:=List.mem_iff_getElem.mp hm
   rw [List.length_take] at hi
   rw [List.getElem_take] at ei
   have e2:zs[j]=z:=by rw [List.getElem?_eq_getElem hj] at hzj;exact Option.some.inj hzj
   have:=(List.getElem_inj nd).mp (ei.trans e2.symm)
   omega
  have none':b8 (kvs ++ (zs.take j).map fun l=>((Sum.inr l:Key),V.str y)) (Sum.inr z)=none:=iI (by
   rw [List.map_append,List.mem_append,not_or]
   refine⟨fun hm=>?_,fun hm=>?_⟩
   ·have:(b8 kvs (Sum.inr z)).isSome=true:=by rw [<-qF];obtain⟨p,hp,e⟩:=List.mem_map.mp hm;exact List.any_eq_true.mpr ⟨p,hp,decide_eq_true e⟩
    rw [r2] at this
    cases this
   ·rw [List.map_map] at hm
    obtain⟨b,hb,e⟩:=List.mem_map.mp hm
    cases e
    exact nin hb)
  refine⟨_,rfl,_,rfl,rd,some rv,rfl,(by rw [<-hrv];exact eE.k (k:=Sum.inr z) erd),_,rfl,bU ?_⟩
  refine⟨_,rfl,_,rfl,d,none,rfl,(by rw [<-none'];exact eE.k (k:=Sum.inr z) au),_,rfl,bU ?_⟩
  refine⟨_,rfl,_,rfl,_,rfl,d,_,rfl,o9.k (k:=Sum.inr z) au (by rw [lP,lM,List.length_take];omega),?_,_,rfl⟩
  rw [jt,jL _ none',List.append_assoc,List.take_succ,hzj,Option.toList_some,List.map_append]
  rfl
 ·rintro σ H' ⟨rfl,v4,rfl⟩
  rw [lM,List.take_length]
  exact k
inductive xx (K:PySem.W.Frag) (vs:List V) (H:Hp) (Q:VK) (E:XK):Prop where
 | mk:∀(r g d:Addr) (rk gk tk:List (Key×V)),vs=[.ref r,.ref g,.ref d]->H r=some (.dK rk)->H g=some (.dK gk)->H d=some (.dK tk)->r≠g->r≠d->((∀q∈rk,(b8 gk q.1).isSome=true/\(b8 tk q.1).isSome=true))->Q .non H->xx K vs H Q E
theorem Ip (T:Txt w K mg t):FO P w K mg base 1 t.z8 ["rooms", "givers", "takers"] (xx K):=by
 have sc:=T.uI.sc ["rooms", "givers", "takers", "lane"]
 refine T.uI.F.ok sc ln (fun _ _ _ _ H vs Q E hr h=>?_)
 obtain⟨r,g,d,rk,gk,tk,rfl,h1,h2,h3,n1,n2,hA,k⟩:=h
 refine⟨_,(aA (yd (H0:=H) rfl (dG PassesOwn.never rfl (yK (pv 0)) (gN sc 3)
   (aA (bN (PW.pt (sy (gh (uW hr.u1 (pv 3) (pv 1))) (lU (gh (uW hr.u1 (pv 3) (pv 2))))))
    (aA dJ)
    bj))))),?_⟩
 refine⟨_,rfl,r,_,rfl,h1,fun o=>yG (fun j σ H'=>H'=upd H r (.frz o (.dK rk))/\∃v3,σ=[some (.ref r),some (.ref g),some (.ref d),v3]) ⟨rfl,none,rfl⟩ (fun j σ H' _ ⟨e,_⟩=>by rw [e];exact au) ?_ ?_⟩
 ·rintro j kk w σ H' hj ⟨rfl,v3,rfl⟩
  obtain⟨a1,a2⟩:=hA _ (List.mem_of_getElem? hj)
  obtain⟨u1,b1⟩:=Option.isSome_iff_exists.mp a1
  obtain⟨u2,b2⟩:=Option.isSome_iff_exists.mp a2
  have e2:upd H r (.frz o (.dK rk)) g=some (.dK gk):=by rw [aK (Ne.symm n1)];exact h2
  have e3:upd H r (.frz o (.dK rk)) d=some (.dK tk):=by rw [aK (Ne.symm n2)];exact h3
  exact⟨_,rfl,_,rfl,g,some u1,rfl,(by rw [<-b1];exact eE.k e2),_,rfl,bU ⟨_,rfl,_,rfl,d,some u2,rfl,(by rw [<-b2];exact eE.k e3),_,rfl,bU ⟨rfl,_,rfl⟩⟩⟩
 ·rintro σ H' ⟨rfl,v3,rfl⟩
  refine⟨_,⟨r,o,_,au,?_,rfl⟩,?_⟩
  ·intro o' u' z
   rw [show H r=_ from h1] at z
   cases z
  ·rw [jt,Ie h1]
   exact k
noncomputable def Rn (H:Hp) (J:Addr):List (Key×V):=match H J with
 | some (.dK jk)=>jk
 | _=>[]
theorem MP {H:Hp} {J:Addr} {jk:List (Key×V)} (h:H J=some (.dK jk)):Rn H J=jk:=by
 unfold Rn
 rw [h]
theorem RP {f:PD->List Str} {ps:List PD} {j:Nat} {k:Key} {v:V} (h:(cQ f ps)[j]?=some (k,v)):∃p∈ps,∃l∈f p,k=Sum.inr l/\v=.str p.name:=by
 have:=List.mem_of_getElem? h
 unfold cQ at this
 obtain⟨p,hp,hm⟩:=List.mem_flatMap.mp this
 obtain⟨l,hl,e⟩:=List.mem_map.mp hm
 cases e
 exact⟨p,hp,l,hl,rfl,rfl⟩
noncomputable def Qt (ps:List PD) (jk:List (Key×V)) (j:Nat):Prop:=∀i k v,i <j->(cQ (·.outs) ps)[i]?=some (k,v)->∀a∈ps,∀b∈ps,∀l,k=Sum.inr l->l∈a.outs->l∈b.ins->gK jk a.name=gK jk b.name
theorem Qt.all {ps:List PD} {jk:List (Key×V)} (h:Qt ps jk (cQ (·.outs) ps).length):∀a∈ps,∀b∈ps,∀l,l∈a.outs->l∈b.ins->gK jk a.name=gK jk b.name:=fun a ha b hb l la lb=>by
 have hm:((Sum.inr l:Key),V.str a.name)∈cQ (·.outs) ps:=List.mem_flatMap.mpr ⟨a,ha,List.mem_map.mpr ⟨l,la,rfl⟩⟩
 obtain⟨i,hi,ei⟩:=List.mem_iff_getElem.mp hm
 exact h i _ _ hi (by rw [List.getElem?_eq_getElem hi,ei]) a ha b hb l rfl la lb
inductive tO (K:PySem.W.Frag) (vs:List V) (H:Hp) (Q:VK) (E:XK):Prop where
 | mk:∀(p0:PD) (g d:Addr) (ps:List PD),vs=[.str p0.name,.ref g,.ref d]->p0∈ps->ps.length<=16->H g=some (.dK (cQ (·.outs) ps))->H d=some (.dK (cQ (·.ins) ps))->g≠d->(ps.flatMap (·.outs)).Nodup->(ps.flatMap (·.ins)).Nodup->(ps.flatMap (·.outs)).Perm (ps.flatMap (·.ins))->((∃y,∀q∈ps,∃x∈q.ins ++ q.outs,Drawn.ji ps x y))->(∀H' J jk,aM H H'->H' J=some (.dK jk)->(∀p∈ps,gK jk p.name=true)->Q (.ref J) H')->tO K vs H Q E
theorem Ds (T:Txt w K mg t):FO P w K mg base 1 t.wB ["part", "givers", "takers"] (tO K):=by
 have sc:=T.ql.sc ["part", "givers", "takers", "joined", "grown", "lane"]
 refine T.ql.F.ok sc ln (fun _ _ _ _ H vs Q E hr h=>?_)
 obtain⟨p0,g,d,ps,rfl,hp0,hps,h1,h2,n1,no,ni,pm,hang,k⟩:=h
 refine⟨_,(aq (sN sc 3 (Uh (Ru (pv 0) jF Tt) rfl rfl (by simp) (by decide)))
  (aq (sN sc 4 jF)
  (aq (qM PassesOwn.never (gZ (pv 4))
   (aq (sN sc 4 jF)
   (aA (yd (H0:=H) rfl (dG PassesOwn.never rfl (yK (pv 1)) (gN sc 5)
    (aA (ir (bN (aV DG (CG (zb hr.u1 (cZ hr.u1 (pv 1) (pv 5) (fun _ _=>rfl)) (pv 3))) (CG (zb hr.u1 (cZ hr.u1 (pv 2) (pv 5) (fun _ _=>rfl)) (pv 3))) (bI _))
     (aq (gM hr.u1 (pv 3) (cZ hr.u1 (pv 1) (pv 5) (fun _ _=>rfl)) jF rfl)
     (aq (gM hr.u1 (pv 3) (cZ hr.u1 (pv 2) (pv 5) (fun _ _=>rfl)) jF rfl)
     (aA (sN sc 4 jF))))
     bj))))))))
  (aA (aN (pv 3)))))),?_⟩
 have hl:sizeLine=16777216:=sizeLine_eq
 refine fun J nJ=>⟨_,rfl,au,[((Sum.inr p0.name:Key),V.bl true)],rfl,by show 1<=15;decide,?_⟩
 rw [jt]
 have s0:aM H (upd H J (.dK (tG [] [((Sum.inr p0.name:Key),V.bl true)]))):=aB nJ
 have e0:(upd H J (.dK (tG [] [((Sum.inr p0.name:Key),V.bl true)]))) J=some (.dK [((Sum.inr p0.name:Key),V.bl true)]):=au
 generalize upd H J (.dK (tG [] [((Sum.inr p0.name:Key),V.bl true)]))=H0 at s0 e0 ⊢
 have ngJ:J≠g:=Ne.symm (aD h1 nJ)
 have ndJ:J≠d:=Ne.symm (aD h2 nJ)
 have melt:∀{H':Hp} {o:Obj},lD g H H'->H' g=some (.frz o (.dK (cQ (·.outs) ps)))->aM H (upd H' g (.dK (cQ (·.outs) ps))):=fun hb hg b u e=>by
  by_cases h:b=g
  ·subst h;rw [au];rw [h1] at e;exact e
  ·rw [aK h];exact hb b u h e
 have m0:oW ps [((Sum.inr p0.name:Key),V.bl true)]<=16:=Nat.le_trans (List.length_filter_le _ _) hps
 refine qI (fun σ H'=>aM H H'/\∃b v5 jk,σ=[some (.str p0.name),some (.ref g),some (.ref d),some (.ref J),some (.bl b),v5]/\H' J=some (.dK jk)/\gK jk p0.name=true/\jk.length+2 * oW ps jk<=40/\(b=false->Qt ps jk (cQ (·.outs) ps).length))
  (fun σ H'=>match σ with | [_,_,_,_,some (.bl b),_]=>(if b then 1 else 0)+2 * oW ps (Rn H' J) | _=>0) ⟨s0,true,none,_,rfl,e0,by simp [gK,b8],by rw [List.length_singleton];omega,by intro z;cases z⟩ ?_ ?_
 ·rintro σ H1 ⟨s1,b,v5,jk,rfl,hJ,hp,hlen,hev⟩
  cases b with
  | false=>exact⟨_,rfl,_,rfl,bU ⟨_,rfl,k _ J jk s1 hJ (Wu no ni pm hang (hev rfl).all hp0 hp)⟩⟩
  | true=>
   refine⟨_,rfl,_,rfl,d9 ?_⟩
   refine⟨_,rfl,g,_,rfl,s1 _ _ h1,fun o=>?_⟩
   have gD:∀{H':Hp},lD g H H'->H' d=some (.dK (cQ (·.ins) ps)):=fun hb=>hb d _ (Ne.symm n1) h2
   refine yG (fun j σ H'=>lD g H H'/\H' g=some (.frz o (.dK (cQ (·.outs) ps)))/\∃b v5 jk',σ=[some (.str p0.name),some (.ref g),some (.ref d),some (.ref J),some (.bl b),v5]/\H' J=some (.dK jk')/\gK jk' p0.name=true/\jk'.length+2 * oW ps jk'<=40/\((b=false/\jk'=jk/\Qt ps jk j)∨(b=true/\oW ps jk' <oW ps jk)))
    ⟨fun b u hn e=>by rw [aK hn];exact s1 b u e,au,false,v5,jk,rfl,by rw [aK ngJ];exact hJ,hp,hlen,.inl ⟨rfl,rfl,fun i _ _ hi=>absurd hi (by omega)⟩⟩ (fun j σ H' _ h=>h.2.1) ?_ ?_
   ·rintro j kk w σ H' hj ⟨hb,hg,b,v5,jk',rfl,hJ',hp',hlen',hv⟩
    obtain⟨a,ha,l,la,rfl,rfl⟩:=RP hj
    obtain⟨b',hb',lb⟩:=List.mem_flatMap.mp (pm.mem_iff.mp (List.mem_flatMap.mpr ⟨a,ha,la⟩))
    have ga:eE H' g (.str l) (some (.str a.name)):=.inl ⟨_,Sum.inr l,.inr ⟨o,hg⟩,rfl,(gw no ha la).symm⟩
    have gb:eE H' d (.str l) (some (.str b'.name)):=by rw [<-gw ni hb' lb];exact eE.k (k:=Sum.inr l) (gD hb)
    have ja:eE H' J (.str a.name) (b8 jk' (Sum.inr a.name)):=eE.k (k:=Sum.inr a.name) hJ'
    have jb:eE H' J (.str b'.name) (b8 jk' (Sum.inr b'.name)):=eE.k (k:=Sum.inr b'.name) hJ'
    have nm:∀a2∈ps,∀b2∈ps,l∈a2.outs->l∈b2.ins->a2.name=a.name/\b2.name=b'.name:=fun a2 ha2 b2 hb2 q1 q2=>by
     have e1:=gw no ha2 q1
     rw [gw no ha la] at e1
     have e2:=gw ni hb2 q2
     rw [gw ni hb' lb] at e2
     simp only [Option.some.injEq,V.str.injEq] at e1 e2
     exact⟨e1.symm,e2.symm⟩
    refine⟨fun σ H''=>lD g H H''/\H'' g=some (.frz o (.dK (cQ (·.outs) ps)))/\∃b jk'',σ=[some (.str p0.name),some (.ref g),some (.ref d),some (.ref J),some (.bl b),some (.str l)]/\H'' J=some (.dK jk'')/\gK jk'' p0.name=true/\jk''.length+2 * oW ps jk''<=40/\((b=false/\jk''=jk/\Qt ps jk (j+1))∨(b=true/\oW ps jk'' <oW ps jk)),?_,?_⟩
    ·refine⟨_,rfl,_,rfl,g,_,rfl,ga,_,rfl,J,_,rfl,ja,?_⟩
     refine⟨_,rfl,_,rfl,d,_,rfl,gb,_,rfl,J,_,rfl,jb,rfl,_,rfl,?_⟩
     change if (!decide (V.bl (gK jk' a.name)=V.bl (gK jk' b'.name)))=true then _ else _
     refine jz (fun hne=>?_) (fun heq=>?_)
     ·have hne':gK jk' a.name≠gK jk' b'.name:=fun z=>by rw [z] at hne;simp at hne
      refine⟨_,rfl,_,rfl,_,rfl,g,_,rfl,ga,J,_,rfl,o9.k (k:=Sum.inr a.name) hJ' (by omega),?_⟩
      have b2:lD g H (upd H' J (.dK (putK jk' (Sum.inr a.name) (.bl true)))):=fun x u hn e=>by rw [aK (aD e nJ)];exact hb x u hn e
      have g2:(upd H' J (.dK (putK jk' (Sum.inr a.name) (.bl true)))) g=some (.frz o (.dK (cQ (·.outs) ps))):=by rw [aK (Ne.symm ngJ)];exact hg
      have gb2:eE (upd H' J (.dK (putK jk' (Sum.inr a.name) (.bl true)))) d (.str l) (some (.str b'.name)):=by rw [<-gw ni hb' lb];exact eE.k (k:=Sum.inr l) (gD b2)
      have len1:=lB jk' (Sum.inr a.name:Key) (.bl true)
      have len2:=lB (putK jk' (Sum.inr a.name) (.bl true)) (Sum.inr b'.name:Key) (.bl true)
      refine⟨_,rfl,_,rfl,_,rfl,d,_,rfl,gb2,J,_,rfl,o9.k (k:=Sum.inr b'.name) au (by omega),?_⟩
      rw [jt]
      have has2:∀x,gK (putK (putK jk' (Sum.inr a.name) (.bl true)) (Sum.inr b'.name) (.bl true)) x=(decide (x=b'.name) || (decide (x=a.name) || gK jk' x)):=fun x=>by rw [JQ,JQ]
      have mono:∀x,gK jk' x=true->gK (putK (putK jk' (Sum.inr a.name) (.bl true)) (Sum.inr b'.name) (.bl true)) x=true:=fun x hx=>by rw [has2,hx];simp
      have lt:oW ps (putK (putK jk' (Sum.inr a.name) (.bl true)) (Sum.inr b'.name) (.bl true)) <oW ps jk':=by
       cases hA:gK jk' a.name
       ·exact JP mono ha hA (by rw [has2];simp)
       ·cases hB:gK jk' b'.name
        ·exact JP mono hb' hB (by rw [has2];simp)
        ·rw [hA,hB] at hne';exact absurd rfl hne'
      refine⟨fun x u hn e=>by rw [aK (aD e nJ)];exact hb x u hn e,by rw [aK (Ne.symm ngJ)];exact hg,true,_,rfl,au,mono _ hp',by omega,.inr ⟨rfl,?_⟩⟩
      rcases hv with ⟨_,rfl,_⟩ | ⟨_,hv⟩
      ·exact lt
      ·omega
     ·have heq':gK jk' a.name=gK jk' b'.name:=by
       cases hA:gK jk' a.name <;> cases hB:gK jk' b'.name <;> rw [hA,hB] at heq <;> simp_all
      refine⟨hb,hg,b,jk',rfl,hJ',hp',hlen',?_⟩
      rcases hv with ⟨rfl,rfl,hE⟩ | hv
      ·refine .inl ⟨rfl,rfl,fun i k2 v2 hi e2 a2 ha2 b2 hb2 l2 ek q1 q2=>?_⟩
       rcases Nat.lt_or_ge i j with h | h
       ·exact hE i k2 v2 h e2 a2 ha2 b2 hb2 l2 ek q1 q2
       ·have:i=j:=by omega
        subst this
        rw [hj] at e2
        cases e2
        cases ek
        obtain⟨x1,x2⟩:=nm a2 ha2 b2 hb2 q1 q2
        rw [x1,x2]
        exact heq'
      ·exact .inr hv
    ·rintro σ H'' ⟨hb,hg,b,jk'',rfl,r⟩
     exact⟨hb,hg,b,_,jk'',rfl,r⟩
   ·rintro σ H' ⟨hb,hg,b,v5',jk',rfl,hJ',hp',hlen',hv⟩
    refine⟨_,⟨g,o,_,hg,(fun o' u' z=>by rw [show H g=_ from h1] at z;cases z),rfl⟩,?_⟩
    have eJ:(upd H' g (.dK (cQ (·.outs) ps))) J=some (.dK jk'):=by rw [aK ngJ];exact hJ'
    refine⟨⟨melt hb hg,b,v5',jk',rfl,eJ,hp',hlen',fun z=>?_⟩,?_⟩
    ·rcases hv with ⟨_,rfl,hE⟩ | ⟨h,_⟩
     ·exact hE
     ·rw [h] at z;cases z
    ·show(if b=true then 1 else 0)+2 * oW ps (Rn _ J) <(if true=true then 1 else 0)+2 * oW ps (Rn _ J)
     rw [MP eJ,MP hJ]
     rcases hv with ⟨rfl,rfl,_⟩ | ⟨rfl,h⟩
     ·simp
     ·simp;omega
 ·intro σ H' Q' Q'' hm hq
  obtain⟨v,e,b,e2,q⟩:=hq
  exact⟨v,e,b,e2,hm _ _ q⟩
inductive uT (K:PySem.W.Frag) (vs:List V) (H:Hp) (Q:VK) (E:XK):Prop where
 | mk:∀(L g d:Addr) (ps:List PD),vs=[.ref L,.ref g,.ref d]->(bF K H L (ps.map fun p=>V.str p.name))->1<=ps.length->ps.length<=16->H g=some (.dK (cQ (·.outs) ps))->H d=some (.dK (cQ (·.ins) ps))->g≠d->(ps.flatMap (·.outs)).Nodup->(ps.flatMap (·.ins)).Nodup->(ps.flatMap (·.outs)).Perm (ps.flatMap (·.ins))->((∃y,∀q∈ps,∃x∈q.ins ++ q.outs,Drawn.ji ps x y))->(∀H',aM H H'->Q .non H')->uT K vs H Q E
theorem Cp (T:Txt w K mg t):FO P w K mg base 2 t.wg ["names", "givers", "takers"] (uT K):=by
 have sc:=T.qw.sc ["names", "givers", "takers", "joined", "name"]
 refine T.qw.F.ok sc ln (fun _ _ _ _ H vs Q E hr h=>?_)
 obtain⟨L,g,d,ps,rfl,hL,hp1,hps,h1,h2,n1,no,ni,pm,hang,k⟩:=h
 refine⟨_,(aq (sN sc 3 (dw (Ds T) T.ql hr (aa (aO aX (pv 0) az (fun _ _=>rfl)) (aa (pv 1) (aa (pv 2) ak aj) aj) aF)))
  (aA (dG PassesOwn.never rfl (bM (pv 0)) (gN sc 4)
   (aA (bN (gh (uW hr.u1 (pv 4) (pv 3)))
    (aA dJ)
    bj))))),?_⟩
 obtain⟨p0,pr,rfl⟩:∃p0 pr,ps=p0:: pr:=by
  cases ps with
  | nil=>simp at hp1
  | cons a r=>exact⟨a,r,rfl⟩
 refine⟨_,rfl,L,_,0,_,rfl,rfl,hL,aJ (j:=0) rfl,_,rfl,_,rfl,p0,g,d,_,rfl,List.mem_cons_self,hps,h1,h2,n1,no,ni,pm,hang,fun H1 J jk s1 eJ hA=>?_⟩
 refine⟨_,rfl,L,rfl,⟨_,s1.seq hL⟩,cX (K:=K) (a:=L) (xs:=(p0:: pr).map fun p=>V.str p.name) (fun j σ H'=>H'=H1/\∃v4,σ=[some (.ref L),some (.ref g),some (.ref d),some (.ref J),v4]) ⟨rfl,none,rfl⟩ (fun j σ H' _ ⟨e,_⟩=>by rw [e];exact s1.seq hL) ?_ ?_⟩
 ·rintro j x σ H' hx ⟨rfl,v4,rfl⟩
  rw [List.getElem?_map] at hx
  obtain⟨p,hp,rfl⟩:=Option.map_eq_some_iff.mp hx
  obtain⟨u,hu⟩:=Option.isSome_iff_exists.mp (hA p (List.mem_of_getElem? hp))
  exact⟨_,rfl,_,rfl,J,some u,rfl,(by rw [<-hu];exact eE.k (k:=Sum.inr p.name) eJ),_,rfl,bU ⟨rfl,_,rfl⟩⟩
 ·rintro σ H' ⟨rfl,v4,rfl⟩
  exact k _ s1
inductive pR (K:PySem.W.Frag) (t:jy) (vs:List V) (H:Hp) (Q:VK) (E:XK):Prop where
 | mk:∀(n:Addr) (ls:List aG) (ps:List PD),vs=[.ref n]->gA K t H n ls ps->(∀l,H l=none->Q (.ref l) (upd H l (.lst (ls.map fun x=>V.str x.name))))->pR K t vs H Q E
theorem pL (T:Txt w K mg t):FO P w K mg base 1 t.j5 ["self"] (pR K t):=by
 have sc:=T.iW.sc ["self"]
 refine T.iW.F.ok sc ln (fun _ _ _ _ H vs Q E hr h=>?_)
 obtain⟨n,ls,ps,rfl,N,k⟩:=h
 refine⟨_,(aA (aN (eY (nY rfl) (by rfl) T.um pX (aa (bh (pv 0) rfl) ak bB)))),?_⟩
 obtain⟨dx,fs,R,F,Pd,G,Tk,FL,PL,W⟩:=id N
 refine⟨_,rfl,n,_,dx,fs,_,rfl,W.obj,T.aQ.c,T.aQ.na.1,W.fl.has ("rooms",.ref R) (by simp),R,_,rfl,.inl W.rooms,fun l hl=>?_⟩
 unfold fc
 rw [List.map_map]
 exact k l hl
inductive pq (K:PySem.W.Frag) (t:jy) (vs:List V) (H:Hp) (Q:VK) (E:XK):Prop where
 | mk:∀(n:Addr) (ls:List aG) (ps:List PD),vs=[.ref n]->gA K t H n ls ps->(∀l,H l=none->Q (.ref l) (upd H l (.lst (ps.map fun x=>V.str x.name))))->pq K t vs H Q E
theorem dC (T:Txt w K mg t):FO P w K mg base 1 t.j6 ["self"] (pq K t):=by
 have sc:=T.cD.sc ["self"]
 refine T.cD.F.ok sc ln (fun _ _ _ _ H vs Q E hr h=>?_)
 obtain⟨n,ls,ps,rfl,N,k⟩:=h
 refine⟨_,(aA (aN (eY (nY rfl) (by rfl) T.um pX (aa (bh (pv 0) rfl) ak bB)))),?_⟩
 obtain⟨dx,fs,R,F,Pd,G,Tk,FL,PL,W⟩:=id N
 refine⟨_,rfl,n,_,dx,fs,_,rfl,W.obj,T.aQ.c,T.aQ.na.2.2.1,W.fl.has ("parts",.ref Pd) (by simp),Pd,_,rfl,.inl W.parts,fun l hl=>?_⟩
 unfold d8
 rw [List.map_map]
 have e:ps.map (fun x=>V.str x.name)=PL.map (fun q=>V.str q.1.name):=by rw [<-W.pls,List.map_map];rfl
 rw [e] at k
 exact k l hl
theorem Tz (T:Txt w K mg t) (i:Nat):MethAt P w K mg base Ce 1 (cls t i) "kind" (iT i):=match i with
 | 0=>⟨_,_,_,T.iR.c,(T.pW.me T.iR.me.2.1),T.pW.b,HQ T⟩
 | 1=>⟨_,_,_,T.iC.c,(T.pQ.me T.iC.me.2.1),T.pQ.b,Ii T⟩
 | 2=>⟨_,_,_,T.iH.c,(T.pG.me T.iH.me.2.1),T.pG.b,Ji T⟩
 | 3=>⟨_,_,_,T.iD.c,(T.pB.me T.iD.me.2.1),T.pB.b,Ih T⟩
 | 4=>⟨_,_,_,T.iK.c,(T.pH.me T.iK.me.2.1),T.pH.b,Hz T⟩
 | 5=>⟨_,_,_,T.iB.c,(T.pM.me T.iB.me.2.1),T.pM.b,Jc T⟩
 | 6=>⟨_,_,_,T.lE.c,(T.rZ.me T.lE.me.2.1),T.rZ.b,Jp T⟩
 | 7=>⟨_,_,_,T.iJ.c,(T.pK.me T.iJ.me.2.1),T.pK.b,IK T⟩
 | 8=>⟨_,_,_,T.fK.c,(T.mH.me T.fK.me.2.1),T.mH.b,Fb T⟩
 | 9=>⟨_,_,_,T.dY.c,(T.km.me T.dY.me.2.1),T.km.b,Dg T⟩
 | n+10=>⟨_,_,_,T.fO.c,(T.mJ.me T.fO.me.2.1),T.mJ.b,Fp T⟩
inductive lO (K:PySem.W.Frag) (t:jy) (vs:List V) (H:Hp) (Q:VK) (E:XK):Prop where
 | mk:∀(n:Addr) (ls:List aG) (ps:List PD) (x:Str),vs=[.ref n,.str x]->gA K t H n ls ps->(∀p,H p=none->Q (.ref p) (upd H p (.lst (dW ps x))))->lO K t vs H Q E
theorem lJ (T:Txt w K mg t):FO P w K mg base 2 t.jh ["self", "kind"] (lO K t):=by
 have sc:=T.fZ.sc ["self", "kind"]
 refine T.fZ.F.ok sc ln (fun _ _ _ _ H vs Q E hr h=>?_)
 obtain⟨n,ls,ps,x,rfl,N,k⟩:=h
 refine⟨_,(aA (aN (Tu (H0:=H) rfl (dZ [0,1] ["self", "kind"] (aR (inClass (top 62) 5)) rfl (yK (bh (pv 0) rfl)) (fun _ _ _ _ _=>(uR (aV fL (K8 (P:=P) (w:=w) (K:=K) (mg:=mg) (base:=base) (CX:=Ce) (k:=1) (E:=E0) rfl rfl rfl rfl rfl (cZ hr.u1 (Ia (K:=K) rfl (pv 1) rfl) (pv 0) (fun _ _=>rfl)) (hr.mono (by decide)) ig) (pv 2) (bI _)))) (fun _ _ _ _ _=>(pv 0)))))),?_⟩
 obtain⟨dx,fs,R,F,Pd,G,Tk,FL,PL,W⟩:=id N
 have hz:sizeLine=16777216:=sizeLine_eq
 have hp:=W.fit.p16
 have h5:=W.parts
 have lpl:PL.length=ps.length:=by rw [<-W.pls,lM]
 refine⟨_,rfl,n,_,dx,fs,_,rfl,W.obj,T.aQ.c,T.aQ.na.2.2.1,W.fl.has ("parts",.ref Pd) (by simp),Pd,_,rfl,h5,fun o=>?_⟩
 refine Oj (fun j ys H'=>H'=upd H Pd (.frz o (.dK (d8 PL)))/\ys=dW ((PL.take j).map (·.1)) x) (by unfold d8;rw [lM];omega) ⟨rfl,by simp [dW]⟩ ?_ ?_ ?_ ?_
 ·rintro j ys H' ⟨_,rfl⟩
  have:=xn ((PL.take j).map (·.1)) x
  rw [lM,List.length_take] at this
  omega
 ·rintro j ys H' _ ⟨rfl,_⟩
  exact au
 ·rintro j kk v ys H' hj ⟨rfl,rfl⟩
  unfold d8 at hj
  rw [List.getElem?_map] at hj
  obtain⟨q,hq,e⟩:=Option.map_eq_some_iff.mp hj
  cases e
  have hm:=List.mem_of_getElem? hq
  obtain⟨dxp,tn,ti,to,p1,p2,p3,p4⟩:=((W.pats q hm).chill (v:=.frz o (.dK (d8 PL))) h5).ex
  refine⟨_,rfl,n,_,dx,fs,_,rfl,jC h5 W.obj (by intro _ z;cases z),T.aQ.c,T.aQ.na.2.2.1,W.fl.has ("parts",.ref Pd) (by simp),_,rfl,Pd,_,rfl,(by rw [<-W.partV hm];exact .inl ⟨_,Sum.inr q.1.name,.inr ⟨o,au⟩,rfl,rfl⟩),?_⟩
  refine⟨q.2,cls t q.1.kind,dxp,_,iT q.1.kind,rfl,p1,u0 _ _ _ _ (by decide +kernel) (by decide +kernel) (by decide +kernel) (by decide +kernel),Tz T q.1.kind,_,rfl,_,rfl,rfl,_,rfl,?_⟩
  rw [List.take_succ,hq,Option.toList_some,List.map_append,List.map_singleton,OD]
  refine jz (fun e=>?_) (fun e=>?_)
  ·have e':eG q.1.kind=x:=by simpa using e
   rw [if_pos e']
   exact⟨_,rfl,rfl,rfl⟩
  ·have e':¬eG q.1.kind=x:=by simpa using e
   rw [if_neg e']
   exact⟨rfl,rfl⟩
 ·rintro ys H' ⟨rfl,rfl⟩ D hD
  refine⟨_,⟨Pd,o,d8 PL,?_,?_,rfl⟩,?_⟩
  ·rw [aK (by rintro rfl;rw [au] at hD;cases hD)]
   exact au
  ·intro o' u z
   rw [show H Pd=_ from h5] at z
   cases z
  ·rw [Ot h5 hD]
   have:=k D (KZ hD)
   rw [show(d8 PL).length=PL.length by unfold d8;rw [lM],List.take_length,W.pls]
   exact this
inductive xZ (K:PySem.W.Frag) (t:jy) (vs:List V) (H:Hp) (Q:VK) (E:XK):Prop where
 | mk:∀(n:Addr) (ls:List aG) (ps:List PD),vs=[.ref n]->gA K t H n ls ps->(∀p,H p=none->Q (.ref p) (upd H p (.lst (dW ps "give"))))->xZ K t vs H Q E
theorem qW (T:Txt w K mg t):FO P w K mg base 3 t.tV ["self"] (xZ K t):=by
 have sc:=T.lG.sc ["self"]
 refine T.lG.F.ok sc ln (fun _ _ _ _ H vs Q E hr h=>?_)
 obtain⟨n,ls,ps,rfl,N,k⟩:=h
 refine⟨_,(aA (aN (wK (pv 0) T.aQ T.aQ.me.2.2.2.1 (lJ T) T.fZ hr (aa bJ ak ao)))),?_⟩
 obtain⟨dx,fs,R,F,Pd,G,Tk,FL,PL,W⟩:=id N
 exact⟨_,rfl,n,dx,fs,rfl,W.obj,W.fl.no _ (by decide +kernel),n,ls,ps,_,rfl,N,k⟩
inductive yQ (K:PySem.W.Frag) (t:jy) (vs:List V) (H:Hp) (Q:VK) (E:XK):Prop where
 | mk:∀(n:Addr) (ls:List aG) (ps:List PD),vs=[.ref n]->gA K t H n ls ps->(∀p,H p=none->Q (.ref p) (upd H p (.lst (dW ps "take"))))->yQ K t vs H Q E
theorem Hb (T:Txt w K mg t):FO P w K mg base 3 t.uK ["self"] (yQ K t):=by
 have sc:=T.ud.sc ["self"]
 refine T.ud.F.ok sc ln (fun _ _ _ _ H vs Q E hr h=>?_)
 obtain⟨n,ls,ps,rfl,N,k⟩:=h
 refine⟨_,(aA (aN (wK (pv 0) T.aQ T.aQ.me.2.2.2.1 (lJ T) T.fZ hr (aa bJ ak ao)))),?_⟩
 obtain⟨dx,fs,R,F,Pd,G,Tk,FL,PL,W⟩:=id N
 exact⟨_,rfl,n,dx,fs,rfl,W.obj,W.fl.no _ (by decide +kernel),n,ls,ps,_,rfl,N,k⟩
inductive jX (K:PySem.W.Frag) (t:jy) (vs:List V) (H:Hp) (Q:VK) (E:XK):Prop where
 | mk:∀(n:Addr) (ls:List aG) (ps:List PD) (x:Str),vs=[.ref n,.str x]->gA K t H n ls ps->(((x∈ls.map (·.name)/\∀H',aM H H'->Q .non H')∨False))->jX K t vs H Q E
theorem fj (T:Txt w K mg t):FO P w K mg base 2 t.iM ["self", "name"] (jX K t):=by
 have sc:=T.dj.sc ["self", "name"]
 refine T.dj.F.ok sc ln (fun _ _ _ _ H vs Q E hr h=>?_)
 obtain⟨n,ls,ps,x,rfl,N,h⟩:=h
 refine⟨_,(aA (bN (aV fP (pv 1) (Om (pv 0) T.aQ T.aQ.me.2.1 (pL T) T.iW hr) (by with_unfolding_all rfl))
   (aA dJ)
   bj)),?_⟩
 obtain⟨dx,fs,R,F,Pd,G,Tk,FL,PL,W⟩:=id N
 refine⟨_,rfl,_,rfl,n,dx,fs,rfl,W.obj,W.fl.no _ (by decide +kernel),n,ls,ps,rfl,N,fun l hl=>?_⟩
 have s1:=aB (o:=.lst (ls.map fun x=>V.str x.name)) hl
 refine⟨l,_,rfl,.inl (bF.of au),rfl,by simp [mD],_,rfl,?_⟩
 rw [Er (f:=fun x:aG=>x.name)]
 rcases h with ⟨hx,k⟩ | h
 ·rw [decide_eq_true hx]
  exact bU (k _ s1)
 ·exact h.elim
inductive uf (K:PySem.W.Frag) (t:jy) (vs:List V) (H:Hp) (Q:VK) (E:XK):Prop where
 | mk:∀(n:Addr) (ls:List aG) (ps:List PD) (x:Str),vs=[.ref n,.str x]->gA K t H n ls ps->(((∃l∈ls,l.name=x/\∀H',aM H H'->Q (.int l.room) H')∨False))->uf K t vs H Q E
theorem Cq (T:Txt w K mg t):FO P w K mg base 3 t.p8 ["self", "name"] (uf K t):=by
 have sc:=T.qp.sc ["self", "name"]
 refine T.qp.F.ok sc ln (fun _ _ _ _ H vs Q E hr h=>?_)
 obtain⟨n,ls,ps,x,rfl,N,h⟩:=h
 refine⟨_,(aq (bC (wK (pv 0) T.aQ T.aQ.me.2.2.2.2.2.2.1 (fj T) T.dj hr (aa (pv 1) ak aj)))
  (aA (aN (cZ hr.u1 (bh (pv 0) rfl) (pv 1) (fun _ _=>rfl))))),?_⟩
 obtain⟨dx,fs,R,F,Pd,G,Tk,FL,PL,W⟩:=id N
 refine⟨_,rfl,n,dx,fs,rfl,W.obj,W.fl.no _ (by decide +kernel),_,rfl,n,ls,ps,x,rfl,N,?_⟩
 rcases h with ⟨l,hl,rfl,k⟩ | h
 ·refine .inl ⟨List.mem_map.mpr ⟨l,hl,rfl⟩,fun H1 s1=>?_⟩
  have W1:=W.same s1
  have hv:=W1.room hl
  refine⟨_,rfl,n,_,dx,fs,_,rfl,W1.obj,T.aQ.c,T.aQ.na.1,W1.fl.has ("rooms",.ref R) (by simp),_,rfl,R,_,rfl,(by rw [<-hv];exact eE.k (k:=Sum.inr l.name) W1.rooms),?_⟩
  exact k _ s1
 ·exact .inr h
inductive sG (K:PySem.W.Frag) (t:jy) (vs:List V) (H:Hp) (Q:VK) (E:XK):Prop where
 | mk:∀(n:Addr) (ls:List aG) (ps:List PD) (x:Str),vs=[.ref n,.str x]->gA K t H n ls ps->(((∃l∈ls,l.name=x/\∀H' p,aM H H'->H p=none->H' p=some (.lst (l.first.map V.int))->Q (.ref p) H')∨False))->sG K t vs H Q E
theorem Bp (T:Txt w K mg t):FO P w K mg base 3 t.o7 ["self", "name"] (sG K t):=by
 have sc:=T.oX.sc ["self", "name"]
 refine T.oX.F.ok sc ln (fun _ _ _ _ H vs Q E hr h=>?_)
 obtain⟨n,ls,ps,x,rfl,N,h⟩:=h
 refine⟨_,(aq (bC (wK (pv 0) T.aQ T.aQ.me.2.2.2.2.2.2.1 (fj T) T.dj hr (aa (pv 1) ak aj)))
  (aA (aN (eY yM (by rfl) T.um pX (aa (cZ hr.u1 (bh (pv 0) rfl) (pv 1) (fun _ _=>rfl)) ak aF))))),?_⟩
 obtain⟨dx,fs,R,F,Pd,G,Tk,FL,PL,W⟩:=id N
 refine⟨_,rfl,n,dx,fs,rfl,W.obj,W.fl.no _ (by decide +kernel),_,rfl,n,ls,ps,x,rfl,N,?_⟩
 rcases h with ⟨l,hl,rfl,k⟩ | h
 ·refine .inl ⟨List.mem_map.mpr ⟨l,hl,rfl⟩,fun H1 s1=>?_⟩
  have W1:=W.same s1
  obtain⟨q,hq,eq⟩:∃q∈FL,q.1=l:=by
   rw [<-W.fls] at hl
   obtain⟨q,hq,e⟩:=List.mem_map.mp hl
   exact⟨q,hq,e⟩
  subst eq
  have hv:=W1.firstV hq
  refine⟨_,rfl,n,_,dx,fs,_,rfl,W1.obj,T.aQ.c,T.aQ.na.2.1,W1.fl.has ("firsts",.ref F) (by simp),_,rfl,F,_,rfl,(by rw [<-hv];exact eE.k (k:=Sum.inr q.1.name) W1.firsts),?_⟩
  exact⟨q.2,_,rfl,.inr (W1.tups q hq),fun p hp=>k _ p (s1.trans (aB hp)) (s1.free hp) au⟩
 ·exact .inr h
inductive sO (K:PySem.W.Frag) (t:jy) (vs:List V) (H:Hp) (Q:VK) (E:XK):Prop where
 | mk:∀(n:Addr) (ls:List aG) (ps:List PD) (x:Str),vs=[.ref n,.str x]->gA K t H n ls ps->(((∃l∈ls,l.name=x/\∀p∈ps,l.name∈p.outs->∀H',aM H H'->Q (.str p.name) H')∨False))->sO K t vs H Q E
theorem Br (T:Txt w K mg t):FO P w K mg base 3 t.oZ ["self", "name"] (sO K t):=by
 have sc:=T.oJ.sc ["self", "name"]
 refine T.oJ.F.ok sc ln (fun _ _ _ _ H vs Q E hr h=>?_)
 obtain⟨n,ls,ps,x,rfl,N,h⟩:=h
 refine⟨_,(aq (bC (wK (pv 0) T.aQ T.aQ.me.2.2.2.2.2.2.1 (fj T) T.dj hr (aa (pv 1) ak aj)))
  (aA (aN (cZ hr.u1 (bh (pv 0) rfl) (pv 1) (fun _ _=>rfl))))),?_⟩
 obtain⟨dx,fs,R,F,Pd,G,Tk,FL,PL,W⟩:=id N
 refine⟨_,rfl,n,dx,fs,rfl,W.obj,W.fl.no _ (by decide +kernel),_,rfl,n,ls,ps,x,rfl,N,?_⟩
 rcases h with ⟨l,hl,rfl,k⟩ | h
 ·refine .inl ⟨List.mem_map.mpr ⟨l,hl,rfl⟩,fun H1 s1=>?_⟩
  have W1:=W.same s1
  obtain⟨p,hp,hlp⟩:∃p∈ps,l.name∈p.outs:=List.mem_flatMap.mp (W.fit.whole.outs.mem_iff.mpr (List.mem_map.mpr ⟨l,hl,rfl⟩))
  have hv:=gw (f:=(·.outs)) W.ono hp hlp
  refine⟨_,rfl,n,_,dx,fs,_,rfl,W1.obj,T.aQ.c,T.aQ.na.2.2.2.1,W1.fl.has ("givers",.ref G) (by simp),_,rfl,G,_,rfl,(by rw [<-hv];exact eE.k (k:=Sum.inr l.name) W1.givers),?_⟩
  exact k p hp hlp _ s1
 ·exact .inr h
inductive sH (K:PySem.W.Frag) (t:jy) (vs:List V) (H:Hp) (Q:VK) (E:XK):Prop where
 | mk:∀(n:Addr) (ls:List aG) (ps:List PD) (x:Str),vs=[.ref n,.str x]->gA K t H n ls ps->(((∃l∈ls,l.name=x/\∀p∈ps,l.name∈p.ins->∀H',aM H H'->Q (.str p.name) H')∨False))->sH K t vs H Q E
theorem Bd (T:Txt w K mg t):FO P w K mg base 3 t.oM ["self", "name"] (sH K t):=by
 have sc:=T.oU.sc ["self", "name"]
 refine T.oU.F.ok sc ln (fun _ _ _ _ H vs Q E hr h=>?_)
 obtain⟨n,ls,ps,x,rfl,N,h⟩:=h
 refine⟨_,(aq (bC (wK (pv 0) T.aQ T.aQ.me.2.2.2.2.2.2.1 (fj T) T.dj hr (aa (pv 1) ak aj)))
  (aA (aN (cZ hr.u1 (bh (pv 0) rfl) (pv 1) (fun _ _=>rfl))))),?_⟩
 obtain⟨dx,fs,R,F,Pd,G,Tk,FL,PL,W⟩:=id N
 refine⟨_,rfl,n,dx,fs,rfl,W.obj,W.fl.no _ (by decide +kernel),_,rfl,n,ls,ps,x,rfl,N,?_⟩
 rcases h with ⟨l,hl,rfl,k⟩ | h
 ·refine .inl ⟨List.mem_map.mpr ⟨l,hl,rfl⟩,fun H1 s1=>?_⟩
  have W1:=W.same s1
  obtain⟨p,hp,hlp⟩:∃p∈ps,l.name∈p.ins:=List.mem_flatMap.mp (W.fit.whole.ins.mem_iff.mpr (List.mem_map.mpr ⟨l,hl,rfl⟩))
  have hv:=gw (f:=(·.ins)) W.ini hp hlp
  refine⟨_,rfl,n,_,dx,fs,_,rfl,W1.obj,T.aQ.c,T.aQ.na.2.2.2.2.1,W1.fl.has ("takers",.ref Tk) (by simp),_,rfl,Tk,_,rfl,(by rw [<-hv];exact eE.k (k:=Sum.inr l.name) W1.takers),?_⟩
  exact k p hp hlp _ s1
 ·exact .inr h
inductive tR (K:PySem.W.Frag) (t:jy) (vs:List V) (H:Hp) (Q:VK) (E:XK):Prop where
 | mk:∀(n:Addr) (ls:List aG) (ps:List PD) (x:Str),vs=[.ref n,.str x]->gA K t H n ls ps->(((∃p∈ps,p.name=x/\∀H' q,aM H H'->fD K t H' q p.kind (.str p.name) (p.nums.map V.int) (p.ins.map V.str) (p.outs.map V.str)->Q (.ref q) H')∨False))->tR K t vs H Q E
theorem nC (T:Txt w K mg t):FO P w K mg base 2 t.qj ["self", "name"] (tR K t):=by
 have sc:=T.jj.sc ["self", "name"]
 refine T.jj.F.ok sc ln (fun _ _ _ _ H vs Q E hr h=>?_)
 obtain⟨n,ls,ps,x,rfl,N,h⟩:=h
 refine⟨_,(aq (bN (aV fP (pv 1) (Om (pv 0) T.aQ T.aQ.me.2.2.1 (dC T) T.cD hr) (by with_unfolding_all rfl))
   (aA dJ)
   bj)
  (aA (aN (cZ hr.u1 (bh (pv 0) rfl) (pv 1) (fun _ _=>rfl))))),?_⟩
 obtain⟨dx,fs,R,F,Pd,G,Tk,FL,PL,W⟩:=id N
 refine⟨_,rfl,_,rfl,n,dx,fs,rfl,W.obj,W.fl.no _ (by decide +kernel),n,ls,ps,rfl,N,fun l hl=>?_⟩
 have s1:=aB (o:=.lst (ps.map fun x=>V.str x.name)) hl
 refine⟨l,_,rfl,.inl (bF.of au),rfl,by simp [mD],_,rfl,?_⟩
 rw [Er (f:=fun x:PD=>x.name)]
 rcases h with ⟨p,hp,rfl,k⟩ | h
 ·rw [decide_eq_true (List.mem_map.mpr ⟨p,hp,rfl⟩)]
  refine bU ?_
  obtain⟨q,hq,eq⟩:∃q∈PL,q.1=p:=by
   rw [<-W.pls] at hp
   obtain⟨q,hq,e⟩:=List.mem_map.mp hp
   exact⟨q,hq,e⟩
  subst eq
  have W1:=W.same s1
  have hv:=W1.partV hq
  exact⟨_,rfl,n,_,dx,fs,_,rfl,W1.obj,T.aQ.c,T.aQ.na.2.2.1,W1.fl.has ("parts",.ref Pd) (by simp),_,rfl,Pd,_,rfl,(by rw [<-hv];exact eE.k (k:=Sum.inr q.1.name) W1.parts),k _ q.2 s1 (W1.pats q hq)⟩
 ·exact h.elim
inductive sJ (K:PySem.W.Frag) (t:jy) (vs:List V) (H:Hp) (Q:VK) (E:XK):Prop where
 | mk:∀(n dx Ll Lp:Addr) (ls:List aG) (ps:List PD),vs=[.ref n,.ref Ll,.ref Lp]->H n=some (.ins t.dF dx [])->Hand K H Ll Lp ls ps->zY ls ps->(∀H',lD n H H'->gA K t H' n ls ps->Q .non H')->sJ K t vs H Q E
theorem Bl (T:Txt w K mg t):FO P w K mg base 6 t.oK ["self", "lanes", "parts"] (sJ K t):=by
 have sc:=T.jR.sc ["self", "lanes", "parts", "lane", "row", "part"]
 refine T.jR.F.ok sc ln (fun _ _ _ _ H vs Q E hr h=>?_)
 obtain⟨n,dx,Ll,Lp,ls,ps,rfl,hn,hH,hF,k⟩:=h
 refine⟨_,(aq (bC (dw (DW T) T.qb hr (aa (pv 1) (aa (pv 2) ak aj) aj)))
  (aq (ie (pv 0) gf rfl)
  (aq (ie (pv 0) gf rfl)
  (aq (dG PassesOwn.never rfl (bM (pv 1)) (gN sc 3)
   (aq (bC (dw (wJ T) T.mL hr (aa (aO bT (pv 3) az (fun _ _=>rfl)) (aa (bh (pv 0) rfl) ak bB) aF)))
   (aq (bC (dw (G5 T) T.uN hr (aa (aO bT (pv 3) az (fun _ _=>rfl)) (aa (aO bT (pv 3) az (fun _ _=>rfl)) (aa (aO bT (pv 3) az (fun _ _=>rfl)) ak aF) aF) aF)))
   (aq (gM hr.u1 (bh (pv 0) rfl) (aO bT (pv 3) az (fun _ _=>rfl)) (aO bT (pv 3) az (fun _ _=>rfl)) rfl)
   (aA (gM hr.u1 (bh (pv 0) rfl) (aO bT (pv 3) az (fun _ _=>rfl)) (eY uX (by rfl) T.Bx yq (aa (aO bT (pv 3) az (fun _ _=>rfl)) ak aF)) rfl))))))
  (aq (ie (pv 0) gf rfl)
  (aq (ie (pv 0) gf rfl)
  (aq (ie (pv 0) gf rfl)
  (aq (dG PassesOwn.never rfl (bM (pv 2)) (gN sc 4)
   (aq (sN sc 5 (dw (Fd T) T.su hr (aa (pv 4) (aa (bh (pv 0) rfl) ak bB) aj)))
   (aq (bC (dw (xF T) T.pF hr (aa (bh (pv 5) rfl) (aa (bh (pv 5) rfl) (aa (bh (pv 0) rfl) (aa (bh (pv 0) rfl) ak bB) bB) bB) bB)))
   (aq (bC (dw (xF T) T.pF hr (aa (bh (pv 5) rfl) (aa (bh (pv 5) rfl) (aa (bh (pv 0) rfl) (aa (bh (pv 0) rfl) ak bB) bB) bB) bB)))
   (aA (gM hr.u1 (bh (pv 0) rfl) (bh (pv 5) rfl) (pv 5) rfl))))))
  (aq (bC (dw (Ip T) T.uI hr (aa (bh (pv 0) rfl) (aa (bh (pv 0) rfl) (aa (bh (pv 0) rfl) ak bB) bB) bB)))
  (aA (bC (dw (Cp T) T.qw hr (aa (eY (nY rfl) (by rfl) T.um pX (aa (bh (pv 0) rfl) ak bB)) (aa (bh (pv 0) rfl) (aa (bh (pv 0) rfl) ak bB) bB) aZ))))))))))))),?_⟩
 have hl:sizeLine=16777216:=sizeLine_eq
 obtain⟨xs,hLl,aL⟩:=hH.ll
 obtain⟨ys,hLp,aP⟩:=hH.lp
 have lx:=aL.length
 have ly:=aP.length
 have l1:=hF.l1
 have l24:=hF.l24
 have p1:=hF.p1
 have p16:=hF.p16
 refine⟨_,rfl,_,rfl,Ll,Lp,_,_,rfl,hLl,hLp,by omega,by omega,by omega,by omega,?_⟩
 have T0:=Tr.start hn
 refine fun R nR=>?_
 have T1:=T0.new (o:=.dK []) nR
 have gR:=aB (o:=.dK []) nR
 generalize upd H R (.dK [])=H1 at T1 gR ⊢
 have cR:=T1.all (n,.ins t.dF dx []) (.head _)
 refine⟨_,rfl,n,_,dx,_,rfl,cR,T.aQ.c,T.aQ.na.1,Nat.lt_of_le_of_lt (show 0<=0 from Nat.le_refl 0) (by decide),?_⟩
 have T2:=T1.put (L1:=[]) (o':=.ins t.dF dx (aH "rooms" (.ref R) []))
 have wR:lD n H1 (upd H1 n (.ins t.dF dx (aH "rooms" (.ref R) []))):=lD.write
 generalize upd H1 n (.ins t.dF dx (aH "rooms" (.ref R) []))=H2 at T2 wR ⊢
 refine fun F nF=>?_
 have T3:=T2.new (o:=.dK []) nF
 have gF:=aB (o:=.dK []) nF
 generalize upd H2 F (.dK [])=H3 at T3 gF ⊢
 have cF:=T3.all (n,.ins t.dF dx (aH "rooms" (.ref R) [])) (.head _)
 refine⟨_,rfl,n,_,dx,_,rfl,cF,T.aQ.c,T.aQ.na.2.1,Nat.lt_of_le_of_lt (gO (Nat.zero_le 0)) (by decide),?_⟩
 have T4:=T3.put (L1:=[]) (o':=.ins t.dF dx (aH "firsts" (.ref F) (aH "rooms" (.ref R) [])))
 have wF:lD n H3 (upd H3 n (.ins t.dF dx (aH "firsts" (.ref F) (aH "rooms" (.ref R) [])))):=lD.write
 generalize upd H3 n (.ins t.dF dx (aH "firsts" (.ref F) (aH "rooms" (.ref R) [])))=H4 at T4 wF ⊢
 have kb:∀{Hk:Hp} {q:Addr} {u:HO},lD n H Hk->H q=some u->(∀C d f,u≠.ins C d f)->Hk q=some u:=fun b h hu=>b _ _ (ww h hn (by intro z;exact hu _ _ _ z)) h
 refine⟨_,rfl,Ll,rfl,⟨_,T4.but.seqL hn hLl⟩,cX (K:=K) (a:=Ll) (xs:=xs) (fun j σ H'=>(∃x3,σ=[some (.ref n),some (.ref Ll),some (.ref Lp),x3,none,none])/\∃FL:List (aG×Addr),FL.map (·.1)=ls.take j/\Tr H n [(n,.ins t.dF dx (aH "firsts" (.ref F) (aH "rooms" (.ref R) []))),(R,.dK (fc (ls.take j))),(F,.dK (bK FL))] H'/\∀q∈FL,eN K H' q.2 (q.1.first.map V.int)) ⟨⟨none,rfl⟩,[],rfl,T4,by simp⟩ (fun j σ H' _ ⟨_,_,_,T',_⟩=>T'.but.seqL hn hLl) ?_ ?_⟩
 ·rintro j x σ H' hx ⟨⟨x3,rfl⟩,FL,eFL,T4,hS⟩
  obtain⟨l,hlj,q,f,rfl,hq,hf⟩:=aL.get hx
  have hm:=List.mem_of_getElem? hlj
  obtain⟨v1,v2,v3,v4⟩:=hF.lok l hm
  have hnm:=hF.lnm l hm
  have hj:=(List.getElem?_eq_some_iff.mp hlj).1
  have kq:∀{Hk:Hp},lD n H Hk->Hk q=some (.tup [.str l.name,.int l.room,.ref f]):=fun b=>kb b hq (by intro _ _ _ z;cases z)
  have nin:=oO hF.whole.nod hlj
  have vR:b8 (fc (ls.take j)) (Sum.inr l.name)=none:=iI (by rw [tE];intro z;obtain⟨b,hb,e⟩:=List.mem_map.mp z;cases e;exact nin hb)
  have vF:b8 (bK FL) (Sum.inr l.name)=none:=iI (by rw [rO,eFL];intro z;obtain⟨b,hb,e⟩:=List.mem_map.mp z;cases e;exact nin hb)
  have tk:ls.take (j+1)=ls.take j ++ [l]:=by rw [List.take_succ,hlj];rfl
  have e4:=T4.all (n,.ins t.dF dx (aH "firsts" (.ref F) (aH "rooms" (.ref R) []))) (.head _)
  refine Rz fun De hD u hu=>?_
  refine⟨_,rfl,q,_,0,_,rfl,rfl,eN.of (kq T4.but),aJ (j:=0) rfl,_,rfl,n,_,dx,_,_,rfl,e4,T.aQ.c,T.aQ.na.1,(by (repeat first | (rw [aC,if_pos rfl];done) | rw [aC,if_neg (by decide +kernel)])),l.name,R,_,rfl,T4.all (R,.dK (fc (ls.take j))) (by simp),hnm,Gr hnm,vR,fun H5 s5=>?_⟩
  have T5:=T4.same s5
  refine dh (v:=u) hu fun u hu=>?_
  refine⟨_,rfl,q,_,0,_,rfl,rfl,eN.of (kq T5.but),aJ (j:=0) rfl,_,rfl,q,_,1,_,rfl,rfl,eN.of (kq T5.but),aJ (j:=1) rfl,_,rfl,q,_,2,_,rfl,rfl,eN.of (kq T5.but),aJ (j:=2) rfl,.str l.name,l.room,f,l.first,rfl,T5.but.seqA hn hf,by omega,v4,v1,v3,v2,fun H6 s6=>?_⟩
  have T6:=T5.same s6
  have e6:=T6.all (n,.ins t.dF dx (aH "firsts" (.ref F) (aH "rooms" (.ref R) []))) (.head _)
  have eR6:=T6.all (R,.dK (fc (ls.take j))) (by simp)
  refine dh (v:=u) hu fun u hu=>?_
  refine⟨_,rfl,q,_,1,_,rfl,rfl,eN.of (kq T6.but),aJ (j:=1) rfl,_,rfl,n,_,dx,_,_,rfl,e6,T.aQ.c,T.aQ.na.1,(by (repeat first | (rw [aC,if_pos rfl];done) | rw [aC,if_neg (by decide +kernel)])),_,rfl,q,_,0,_,rfl,rfl,eN.of (kq T6.but),aJ (j:=0) rfl,R,_,rfl,o9.k (k:=Sum.inr l.name) eR6 (by unfold fc;rw [lM,List.length_take];omega),?_⟩
  have e7:putK (fc (ls.take j)) (Sum.inr l.name) (.int l.room)=fc (ls.take (j+1)):=by rw [jL _ vR,tk];unfold fc;rw [List.map_append];rfl
  have T7:=T6.put (L1:=[_]) (o':=.dK (fc (ls.take (j+1))))
  rw [e7]
  have hS7:∀q∈FL,eN K (upd H6 R (.dK (fc (ls.take (j+1))))) q.2 (q.1.first.map V.int):=fun q hq=>fQ eR6 (s6.seqT (s5.seqT (hS q hq)))
  generalize upd H6 R (.dK (fc (ls.take (j+1))))=H7 at T7 hS7 ⊢
  subst hu
  refine⟨_,rfl,q,_,2,_,rfl,rfl,eN.of (kq T7.but),aJ (j:=2) rfl,f,_,rfl,T7.but.seqA hn hf,fun H8 F0 s8 t8=>?_⟩
  have T8:=T7.same s8
  have e8:=T8.all (n,.ins t.dF dx (aH "firsts" (.ref F) (aH "rooms" (.ref R) []))) (.head _)
  have eF8:=T8.all (F,.dK (bK FL)) (by simp)
  have lFL:FL.length<=24:=by have:=congrArg List.length eFL;rw [lM,List.length_take] at this;omega
  refine⟨_,rfl,n,_,dx,_,_,rfl,e8,T.aQ.c,T.aQ.na.2.1,(by (repeat first | (rw [aC,if_pos rfl];done) | rw [aC,if_neg (by decide +kernel)])),_,rfl,q,_,0,_,rfl,rfl,eN.of (kq T8.but),aJ (j:=0) rfl,F,_,rfl,o9.k (k:=Sum.inr l.name) eF8 (by unfold bK;rw [lM];omega),?_⟩
  have e9:putK (bK FL) (Sum.inr l.name) (.ref F0)=bK (FL ++ [(l,F0)]):=by rw [jL _ vF];unfold bK;rw [List.map_append];rfl
  have T9:=T8.put (L1:=[_,_]) (o':=.dK (bK (FL ++ [(l,F0)])))
  rw [e9]
  subst hD
  refine⟨⟨_,rfl⟩,FL ++ [(l,F0)],by rw [List.map_append,eFL,tk];rfl,T9,fun q hq=>?_⟩
  rcases List.mem_append.mp hq with h | h
  ·exact fQ eF8 (s8.seqT (hS7 q h))
  ·rw [List.mem_singleton] at h
   subst h
   exact fQ eF8 t8
 rintro σ H9 ⟨⟨x3,rfl⟩,FL,eFL,T9,t9⟩
 rw [lx,List.take_length] at eFL T9
 clear T0 T1 T2 T3 T4
 refine fun Pd nPd=>?_
 have T10:=T9.new (o:=.dK []) nPd
 have gPd:=aB (o:=.dK []) nPd
 generalize upd H9 Pd (.dK [])=H10 at T10 gPd ⊢
 have cPd:=T10.all (n,.ins t.dF dx (aH "firsts" (.ref F) (aH "rooms" (.ref R) []))) (.head _)
 refine⟨_,rfl,n,_,dx,_,rfl,cPd,T.aQ.c,T.aQ.na.2.2.1,Nat.lt_of_le_of_lt (gO (gO (Nat.zero_le 0))) (by decide),?_⟩
 have T11:=T10.put (L1:=[]) (o':=.ins t.dF dx (aH "parts" (.ref Pd) (aH "firsts" (.ref F) (aH "rooms" (.ref R) []))))
 have wPd:lD n H10 (upd H10 n (.ins t.dF dx (aH "parts" (.ref Pd) (aH "firsts" (.ref F) (aH "rooms" (.ref R) []))))):=lD.write
 generalize upd H10 n (.ins t.dF dx (aH "parts" (.ref Pd) (aH "firsts" (.ref F) (aH "rooms" (.ref R) []))))=H11 at T11 wPd ⊢
 refine fun Gv nGv=>?_
 have T12:=T11.new (o:=.dK []) nGv
 have gGv:=aB (o:=.dK []) nGv
 generalize upd H11 Gv (.dK [])=H12 at T12 gGv ⊢
 have cGv:=T12.all (n,.ins t.dF dx (aH "parts" (.ref Pd) (aH "firsts" (.ref F) (aH "rooms" (.ref R) [])))) (.head _)
 refine⟨_,rfl,n,_,dx,_,rfl,cGv,T.aQ.c,T.aQ.na.2.2.2.1,Nat.lt_of_le_of_lt (gO (gO (gO (Nat.zero_le 0)))) (by decide),?_⟩
 have T13:=T12.put (L1:=[]) (o':=.ins t.dF dx (aH "givers" (.ref Gv) (aH "parts" (.ref Pd) (aH "firsts" (.ref F) (aH "rooms" (.ref R) [])))))
 have wGv:lD n H12 (upd H12 n (.ins t.dF dx (aH "givers" (.ref Gv) (aH "parts" (.ref Pd) (aH "firsts" (.ref F) (aH "rooms" (.ref R) [])))))):=lD.write
 generalize upd H12 n (.ins t.dF dx (aH "givers" (.ref Gv) (aH "parts" (.ref Pd) (aH "firsts" (.ref F) (aH "rooms" (.ref R) [])))))=H13 at T13 wGv ⊢
 refine fun Tk nTk=>?_
 have T14:=T13.new (o:=.dK []) nTk
 have gTk:=aB (o:=.dK []) nTk
 generalize upd H13 Tk (.dK [])=H14 at T14 gTk ⊢
 have cTk:=T14.all (n,.ins t.dF dx (aH "givers" (.ref Gv) (aH "parts" (.ref Pd) (aH "firsts" (.ref F) (aH "rooms" (.ref R) []))))) (.head _)
 refine⟨_,rfl,n,_,dx,_,rfl,cTk,T.aQ.c,T.aQ.na.2.2.2.2.1,Nat.lt_of_le_of_lt (gO (gO (gO (gO (Nat.zero_le 0))))) (by decide),?_⟩
 have T15:=T14.put (L1:=[]) (o':=.ins t.dF dx (aH "takers" (.ref Tk) (aH "givers" (.ref Gv) (aH "parts" (.ref Pd) (aH "firsts" (.ref F) (aH "rooms" (.ref R) []))))))
 have wTk:lD n H14 (upd H14 n (.ins t.dF dx (aH "takers" (.ref Tk) (aH "givers" (.ref Gv) (aH "parts" (.ref Pd) (aH "firsts" (.ref F) (aH "rooms" (.ref R) []))))))):=lD.write
 generalize upd H14 n (.ins t.dF dx (aH "takers" (.ref Tk) (aH "givers" (.ref Gv) (aH "parts" (.ref Pd) (aH "firsts" (.ref F) (aH "rooms" (.ref R) []))))))=H15 at T15 wTk ⊢
 have T15:Tr H n [(n,.ins t.dF dx (aH "takers" (.ref Tk) (aH "givers" (.ref Gv) (aH "parts" (.ref Pd) (aH "firsts" (.ref F) (aH "rooms" (.ref R) [])))))),(R,.dK (fc ls)),(F,.dK (bK FL)),(Pd,.dK []),(Gv,.dK []),(Tk,.dK [])] H15:=T15
 have t15:∀q∈FL,eN K H15 q.2 (q.1.first.map V.int):=fun q hq=>wTk.seqT cTk (gTk.seqT (wGv.seqT cGv (gGv.seqT (wPd.seqT cPd (gPd.seqT (t9 q hq))))))
 have nod:=T15.nod
 simp only [List.map_append,List.map_cons,List.map_nil,List.nil_append,List.cons_append,List.nodup_cons,List.mem_cons,List.not_mem_nil,or_false,not_or] at nod
 have nRF:R≠F:=nod.2.1.1
 have nRT:R≠Tk:=nod.2.1.2.2.2
 have nRG:R≠Gv:=nod.2.1.2.2.1
 have nGT:Gv≠Tk:=nod.2.2.2.2.1
 clear nod
 have ono:(ps.flatMap (·.outs)).Nodup:=hF.whole.outs.nodup_iff.mpr hF.whole.nod
 have ini:(ps.flatMap (·.ins)).Nodup:=hF.whole.ins.nodup_iff.mpr hF.whole.nod
 have inR:∀z∈ls.map (·.name),(b8 (fc ls) (Sum.inr z)).isSome=true:=fun z hz=>by
  obtain⟨l,hl,rfl⟩:=List.mem_map.mp hz
  have e:b8 (fc ls) (Sum.inr l.name)=some (.int l.room):=iQ (by rw [tE];exact fH hF.whole.nod) (List.mem_map.mpr ⟨l,hl,rfl⟩)
  rw [e]
  rfl
 have lenE:∀(f:PD->List Str) (j:Nat),(ps.flatMap f).Perm (ls.map (·.name))->(cQ f (ps.take j)).length<=24:=fun f j pm=>by
  rw [Px]
  have e1:((ps.take j).flatMap f).length+((ps.drop j).flatMap f).length=(ps.flatMap f).length:=by rw [<-lP,<-List.flatMap_append,List.take_append_drop]
  have e2:=pm.length_eq
  rw [lM] at e2
  omega
 refine⟨_,rfl,Lp,rfl,⟨_,T15.but.seqL hn hLp⟩,cX (K:=K) (a:=Lp) (xs:=ys) (fun j σ H'=>(∃x3 x4 x5,σ=[some (.ref n),some (.ref Ll),some (.ref Lp),x3,x4,x5])/\∃PL:List (PD×Addr),PL.map (·.1)=ps.take j/\Tr H n [(n,.ins t.dF dx (aH "takers" (.ref Tk) (aH "givers" (.ref Gv) (aH "parts" (.ref Pd) (aH "firsts" (.ref F) (aH "rooms" (.ref R) [])))))),(R,.dK (fc ls)),(F,.dK (bK FL)),(Pd,.dK (d8 PL)),(Gv,.dK (cQ (·.outs) (ps.take j))),(Tk,.dK (cQ (·.ins) (ps.take j)))] H'/\(∀q∈FL,eN K H' q.2 (q.1.first.map V.int))/\∀q∈PL,fD K t H' q.2 q.1.kind (.str q.1.name) (q.1.nums.map V.int) (q.1.ins.map V.str) (q.1.outs.map V.str)) ⟨⟨x3,none,none,rfl⟩,[],rfl,T15,t15,by simp⟩ (fun j σ H' _ ⟨_,_,_,T',_⟩=>T'.but.seqL hn hLp) ?_ ?_⟩
 ·rintro j x σ H' hx ⟨⟨x3,x4,x5,rfl⟩,PL,ePL,T15,hS,hP⟩
  obtain⟨p,hpj,r,a1,a2,a3,rfl,hr,q1,q2,q3⟩:=aP.get hx
  have hm:=List.mem_of_getElem? hpj
  have hj:=(List.getElem?_eq_some_iff.mp hpj).1
  obtain⟨o1,o2,o3,o4,o5⟩:=hF.pok p hm
  have hnm:=hF.pnm p hm
  have nin:=oO hF.pnd hpj
  have tk:ps.take (j+1)=ps.take j ++ [p]:=by rw [List.take_succ,hpj];rfl
  have vP:b8 (d8 PL) (Sum.inr p.name)=none:=iI (by rw [zO,ePL];intro z;obtain⟨b,hb,e⟩:=List.mem_map.mp z;cases e;exact nin hb)
  obtain⟨di,fi⟩:=Mv ini hpj
  obtain⟨do',fo⟩:=Mv ono hpj
  have e15:=T15.all (n,.ins t.dF dx (aH "takers" (.ref Tk) (aH "givers" (.ref Gv) (aH "parts" (.ref Pd) (aH "firsts" (.ref F) (aH "rooms" (.ref R) [])))))) (.head _)
  refine Rz fun De hD u hu=>?_
  refine⟨_,rfl,_,rfl,n,_,dx,_,_,rfl,e15,T.aQ.c,T.aQ.na.2.2.1,(by (repeat first | (rw [aC,if_pos rfl];done) | rw [aC,if_neg (by decide +kernel)])),p.kind,p.name,r,Pd,a1,a2,a3,_,_,_,_,rfl,kb T15.but hr (by intro _ _ _ z;cases z),by omega,T15.all (Pd,.dK (d8 PL)) (by simp),hnm,Gr hnm,vP,T15.but.seqA hn q1,T15.but.seqA hn q2,T15.but.seqA hn q3,by rw [lM];exact o2,by rw [lM];exact o3,by rw [lM];exact o4,?_,fun H16 pp s16 npp Pp=>?_⟩
  ·intro v hv
   obtain⟨i,hi,rfl⟩:=List.mem_map.mp hv
   exact⟨i,rfl,(o5 i hi).1,(o5 i hi).2⟩
  have T16:=T15.same s16
  obtain⟨dxp,tn,ti,to,z1,z2,z3,z4⟩:=id Pp.ex
  have e16:=T16.all (n,.ins t.dF dx (aH "takers" (.ref Tk) (aH "givers" (.ref Gv) (aH "parts" (.ref Pd) (aH "firsts" (.ref F) (aH "rooms" (.ref R) [])))))) (.head _)
  have eTk:=T16.all (Tk,.dK (cQ (·.ins) (ps.take j))) (by simp)
  have li:=lenE (·.ins) j hF.whole.ins
  have lo:=lenE (·.outs) j hF.whole.outs
  have h3I:p.ins.length<=3:=by rw [o3];exact Gj _
  have h3O:p.outs.length<=2:=by rw [o4];exact Rf _
  refine dh (v:=u) hu fun u hu=>?_
  refine⟨_,rfl,pp,_,dxp,_,_,rfl,z1,iz T p.kind,By T p.kind,zx _ _ _ _,_,rfl,pp,_,dxp,_,_,rfl,z1,iz T p.kind,zf T p.kind,ug _ _ _ _,_,rfl,n,_,dx,_,_,rfl,e16,T.aQ.c,T.aQ.na.1,(by (repeat first | (rw [aC,if_pos rfl];done) | rw [aC,if_neg (by decide +kernel)])),_,rfl,n,_,dx,_,_,rfl,e16,T.aQ.c,T.aQ.na.2.2.2.2.1,(by (repeat first | (rw [aC,if_pos rfl];done) | rw [aC,if_neg (by decide +kernel)])),p.name,ti,R,Tk,p.ins,_,_,rfl,z3,T16.all (R,.dK (fc ls)) (by simp),nRT,eTk,di,fun z hz=>⟨inR z (hF.whole.ins.mem_iff.mp (List.mem_flatMap.mpr ⟨p,hm,hz⟩)),Df (fi z hz)⟩,by omega,?_⟩
  rw [<-BZ (·.ins) (ps.take j) p,<-tk]
  have T17:=T16.put (L1:=[_,_,_,_,_]) (o':=.dK (cQ (·.ins) (ps.take (j+1))))
  have Pp17:=Pp.chill (v:=.dK (cQ (·.ins) (ps.take (j+1)))) eTk
  have hS17:∀q∈FL,eN K (upd H16 Tk (.dK (cQ (·.ins) (ps.take (j+1))))) q.2 (q.1.first.map V.int):=fun q hq=>fQ eTk (s16.seqT (hS q hq))
  have hP17:∀q∈PL,fD K t (upd H16 Tk (.dK (cQ (·.ins) (ps.take (j+1))))) q.2 q.1.kind (.str q.1.name) (q.1.nums.map V.int) (q.1.ins.map V.str) (q.1.outs.map V.str):=fun q hq=>((hP q hq).same s16).chill eTk
  generalize upd H16 Tk (.dK (cQ (·.ins) (ps.take (j+1))))=H17 at T17 Pp17 hS17 hP17 ⊢
  clear z1 z2 z3 z4 e16
  obtain⟨dxp,tn,ti,to,z1,z2,z3,z4⟩:=id Pp17.ex
  have e17:=T17.all (n,.ins t.dF dx (aH "takers" (.ref Tk) (aH "givers" (.ref Gv) (aH "parts" (.ref Pd) (aH "firsts" (.ref F) (aH "rooms" (.ref R) [])))))) (.head _)
  have eGv:=T17.all (Gv,.dK (cQ (·.outs) (ps.take j))) (by simp)
  refine dh (v:=u) hu fun u hu=>?_
  refine⟨_,rfl,pp,_,dxp,_,_,rfl,z1,iz T p.kind,By T p.kind,zx _ _ _ _,_,rfl,pp,_,dxp,_,_,rfl,z1,iz T p.kind,Hs T p.kind,Gu _ _ _ _,_,rfl,n,_,dx,_,_,rfl,e17,T.aQ.c,T.aQ.na.1,(by (repeat first | (rw [aC,if_pos rfl];done) | rw [aC,if_neg (by decide +kernel)])),_,rfl,n,_,dx,_,_,rfl,e17,T.aQ.c,T.aQ.na.2.2.2.1,(by (repeat first | (rw [aC,if_pos rfl];done) | rw [aC,if_neg (by decide +kernel)])),p.name,to,R,Gv,p.outs,_,_,rfl,z4,T17.all (R,.dK (fc ls)) (by simp),nRG,eGv,do',fun z hz=>⟨inR z (hF.whole.outs.mem_iff.mp (List.mem_flatMap.mpr ⟨p,hm,hz⟩)),Df (fo z hz)⟩,by omega,?_⟩
  rw [<-BZ (·.outs) (ps.take j) p,<-tk]
  have T18:=T17.put (L1:=[_,_,_,_]) (o':=.dK (cQ (·.outs) (ps.take (j+1))))
  have Pp18:=Pp17.chill (v:=.dK (cQ (·.outs) (ps.take (j+1)))) eGv
  have hS18:∀q∈FL,eN K (upd H17 Gv (.dK (cQ (·.outs) (ps.take (j+1))))) q.2 (q.1.first.map V.int):=fun q hq=>fQ eGv (hS17 q hq)
  have hP18:∀q∈PL,fD K t (upd H17 Gv (.dK (cQ (·.outs) (ps.take (j+1))))) q.2 q.1.kind (.str q.1.name) (q.1.nums.map V.int) (q.1.ins.map V.str) (q.1.outs.map V.str):=fun q hq=>(hP17 q hq).chill eGv
  generalize upd H17 Gv (.dK (cQ (·.outs) (ps.take (j+1))))=H18 at T18 Pp18 hS18 hP18 ⊢
  clear z1 z2 z3 z4 e17
  obtain⟨dxp,tn,ti,to,z1,z2,z3,z4⟩:=id Pp18.ex
  have e18:=T18.all (n,.ins t.dF dx (aH "takers" (.ref Tk) (aH "givers" (.ref Gv) (aH "parts" (.ref Pd) (aH "firsts" (.ref F) (aH "rooms" (.ref R) [])))))) (.head _)
  have ePd:=T18.all (Pd,.dK (d8 PL)) (by simp)
  have lPL:PL.length<=16:=by have:=congrArg List.length ePL;rw [lM,List.length_take] at this;omega
  subst hu
  refine⟨_,rfl,_,rfl,n,_,dx,_,_,rfl,e18,T.aQ.c,T.aQ.na.2.2.1,(by (repeat first | (rw [aC,if_pos rfl];done) | rw [aC,if_neg (by decide +kernel)])),_,rfl,pp,_,dxp,_,_,rfl,z1,iz T p.kind,By T p.kind,zx _ _ _ _,Pd,_,rfl,o9.k (k:=Sum.inr p.name) ePd (by unfold d8;rw [lM];omega),?_⟩
  have e19:putK (d8 PL) (Sum.inr p.name) (.ref pp)=d8 (PL ++ [(p,pp)]):=by rw [jL _ vP];unfold d8;rw [List.map_append];rfl
  have T19:=T18.put (L1:=[_,_,_]) (o':=.dK (d8 (PL ++ [(p,pp)])))
  rw [e19]
  subst hD
  refine⟨⟨_,_,_,rfl⟩,PL ++ [(p,pp)],by rw [List.map_append,ePL,tk];rfl,T19,fun q hq=>fQ ePd (hS18 q hq),fun q hq=>?_⟩
  rcases List.mem_append.mp hq with h | h
  ·exact(hP18 q h).chill ePd
  ·rw [List.mem_singleton] at h
   subst h
   exact Pp18.chill ePd
 rintro σ H18 ⟨⟨x3,x4,x5,rfl⟩,PL,ePL,T18,hS,hP⟩
 rw [ly,List.take_length] at ePL T18
 have e18:=T18.all (n,.ins t.dF dx (aH "takers" (.ref Tk) (aH "givers" (.ref Gv) (aH "parts" (.ref Pd) (aH "firsts" (.ref F) (aH "rooms" (.ref R) [])))))) (.head _)
 have eR:=T18.all (R,.dK (fc ls)) (by simp)
 have eF:=T18.all (F,.dK (bK FL)) (by simp)
 have ePd:=T18.all (Pd,.dK (d8 PL)) (by simp)
 have eGv:=T18.all (Gv,.dK (cQ (·.outs) ps)) (by simp)
 have eTk:=T18.all (Tk,.dK (cQ (·.ins) ps)) (by simp)
 refine⟨_,rfl,n,_,dx,_,_,rfl,e18,T.aQ.c,T.aQ.na.1,(by (repeat first | (rw [aC,if_pos rfl];done) | rw [aC,if_neg (by decide +kernel)])),_,rfl,n,_,dx,_,_,rfl,e18,T.aQ.c,T.aQ.na.2.2.2.1,(by (repeat first | (rw [aC,if_pos rfl];done) | rw [aC,if_neg (by decide +kernel)])),_,rfl,n,_,dx,_,_,rfl,e18,T.aQ.c,T.aQ.na.2.2.2.2.1,(by (repeat first | (rw [aC,if_pos rfl];done) | rw [aC,if_neg (by decide +kernel)])),R,Gv,Tk,_,_,_,rfl,eR,eGv,eTk,nRG,nRT,?_,?_⟩
 ·intro q hq
  obtain⟨l,hl,rfl⟩:=List.mem_map.mp hq
  have hln:l.name∈ls.map (·.name):=List.mem_map.mpr ⟨l,hl,rfl⟩
  obtain⟨pa,ha,la⟩:=List.mem_flatMap.mp (hF.whole.outs.mem_iff.mpr hln)
  obtain⟨pb,hb,lb⟩:=List.mem_flatMap.mp (hF.whole.ins.mem_iff.mpr hln)
  exact⟨by rw [gw ono ha la];rfl,by rw [gw ini hb lb];rfl⟩
 refine⟨_,rfl,n,_,dx,_,_,rfl,e18,T.aQ.c,T.aQ.na.2.2.1,(by (repeat first | (rw [aC,if_pos rfl];done) | rw [aC,if_neg (by decide +kernel)])),Pd,_,rfl,.inl ePd,fun l nl=>?_⟩
 have s19:=aB (o:=.lst ((d8 PL).map fun p=>kV p.1)) nl
 have eL:(d8 PL).map (fun p=>kV p.1)=ps.map fun p=>V.str p.name:=by unfold d8;rw [List.map_map,<-ePL,List.map_map];rfl
 refine⟨_,rfl,n,_,dx,_,_,rfl,(s19 _ _ e18),T.aQ.c,T.aQ.na.2.2.2.1,(by (repeat first | (rw [aC,if_pos rfl];done) | rw [aC,if_neg (by decide +kernel)])),_,rfl,n,_,dx,_,_,rfl,(s19 _ _ e18),T.aQ.c,T.aQ.na.2.2.2.2.1,(by (repeat first | (rw [aC,if_pos rfl];done) | rw [aC,if_neg (by decide +kernel)])),l,Gv,Tk,ps,rfl,bF.of (by rw [<-eL];exact au),by omega,by omega,s19 _ _ eGv,s19 _ _ eTk,nGT,ono,ini,hF.whole.outs.trans hF.whole.ins.symm,hF.whole.hang,fun H20 s20=>?_⟩
 have s:=s19.trans s20
 refine k _ (fun b u hb e=>s _ _ (T18.but b u hb e)) ⟨dx,_,R,F,Pd,Gv,Tk,FL,PL,s _ _ e18,⟨?_,?_⟩,s _ _ eR,s _ _ eF,s _ _ ePd,s _ _ eGv,s _ _ eTk,eFL,ePL,fun q hq=>s.seqT (hS q hq),fun q hq=>(hP q hq).same s,hF,nRF⟩
 ·intro q hq
  simp only [List.mem_cons,List.not_mem_nil,or_false] at hq
  rcases hq with rfl | rfl | rfl | rfl | rfl <;> (dsimp only;(repeat first | (rw [aC,if_pos rfl];done) | rw [aC,if_neg (by decide +kernel)]))
 ·intro m hm
  have hne:∀m∈(["lane_names", "part_names", "names_of_kind", "gives", "takes", "need_lane_name", "room_of", "first_of", "giver_of", "taker_of", "part_of", "__init__"]:List Str),∀g∈(["takers", "givers", "parts", "firsts", "rooms"]:List Str),¬m=g:=by decide +kernel
  have h:=hne m hm
  rw [aC,if_neg (h _ (by simp)),aC,if_neg (h _ (by simp)),aC,if_neg (h _ (by simp)),aC,if_neg (h _ (by simp)),aC,if_neg (h _ (by simp))]
  rfl
inductive wz (K:PySem.W.Frag) (t:jy) (vs:List V) (H:Hp) (Q:VK) (E_:XK):Prop where
 | mk:∀(f n E G Kp D Rw l:Addr) (ed gd:List (Key×V)) (x:Str) (vs':List V) (g:Nat),vs=[.ref f,.str x]->rF K t H f n E G Kp D Rw->H E=some (.dK ed)->H G=some (.dK gd)->b8 ed (Sum.inr x)=some (.ref l)->b8 gd (Sum.inr x)=some (.int g)->bF K H l vs'->Q (.int (vs'.length - g)) H->wz K t vs H Q E_
theorem vJ (T:Txt w K mg t):FO P w K mg base 1 t.rH ["self", "lane"] (wz K t):=by
 have sc:=T.mG.sc ["self", "lane"]
 refine T.mG.F.ok sc ln (fun _ _ _ _ H vs Q E hr h=>?_)
 obtain⟨f,n,E,G,Kp,D,Rw,l,ed,gd,x,vs',g,rfl,N,hE,hG,h3,h4,h5,k⟩:=h
 refine⟨_,(aA (aN (bx Ly (bu bR (by rfl) T.fB du (aa (cZ hr.u1 (bh (pv 0) rfl) (pv 1) (fun _ _=>rfl)) ak aF)) (cZ hr.u1 (bh (pv 0) rfl) (pv 1) (fun _ _=>rfl))))),?_⟩
 obtain⟨dx,fs,h1,h2⟩:=id N.ex
 refine⟨_,rfl,f,_,dx,fs,_,rfl,h1,T.aU.c,T.aU.na.2.1,h2.has ("ever",.ref E) (by simp),_,rfl,E,_,rfl,(by rw [<-h3];exact eE.k (k:=Sum.inr x) hE),?_⟩
 refine⟨.ref l,vs'.length,rfl,.inl ⟨vs',h5,rfl⟩,_,rfl,f,_,dx,fs,_,rfl,h1,T.aU.c,T.aU.na.2.2.1,h2.has ("gone",.ref G) (by simp),_,rfl,G,_,rfl,(by rw [<-h4];exact eE.k (k:=Sum.inr x) hG),?_⟩
 refine⟨_,_,rfl,rfl,?_⟩
 exact k
inductive yF (K:PySem.W.Frag) (t:jy) (vs:List V) (H:Hp) (Q:VK) (E_:XK):Prop where
 | mk:∀(f n E G Kp D Rw l:Addr) (ed gd:List (Key×V)) (x:Str) (vs':List V) (g:Nat),vs=[.ref f,.str x]->rF K t H f n E G Kp D Rw->H E=some (.dK ed)->H G=some (.dK gd)->b8 ed (Sum.inr x)=some (.ref l)->b8 gd (Sum.inr x)=some (.int g)->bF K H l vs'->Q ((vs'[g]?).getD .non) H->yF K t vs H Q E_
theorem Iv (T:Txt w K mg t):FO P w K mg base 2 t.uq ["self", "lane"] (yF K t):=by
 have sc:=T.uB.sc ["self", "lane"]
 refine T.uB.F.ok sc ln (fun _ _ _ _ H vs Q E hr h=>?_)
 obtain⟨f,n,E,G,Kp,D,Rw,l,ed,gd,x,vs',g,rfl,N,hE,hG,h3,h4,h5,k⟩:=h
 refine⟨_,(aA (aN (oA (aV Gs (wK (pv 0) T.aU T.aU.me.2.1 (vJ T) T.mG hr (aa (pv 1) ak aj)) az (bI _)) (aO aX (cZ hr.u1 (bh (pv 0) rfl) (pv 1) (fun _ _=>rfl)) (cZ hr.u1 (bh (pv 0) rfl) (pv 1) (fun _ _=>rfl)) (fun _ _=>rfl)) rQ))),?_⟩
 obtain⟨dx,fs,h1,h2⟩:=id N.ex
 refine⟨_,rfl,f,dx,fs,rfl,h1,h2.no _ (by decide +kernel),_,rfl,f,n,E,G,Kp,D,Rw,l,ed,gd,x,vs',g,rfl,N,hE,hG,h3,h4,h5,?_⟩
 refine⟨_,_,rfl,rfl,_,rfl,jz (fun e=>?_) (fun e=>?_)⟩
 ·have e':g <vs'.length:=by have:=of_decide_eq_true e;omega
  refine⟨_,rfl,f,_,dx,fs,_,rfl,h1,T.aU.c,T.aU.na.2.1,h2.has ("ever",.ref E) (by simp),_,rfl,E,_,rfl,(by rw [<-h3];exact eE.k (k:=Sum.inr x) hE),?_⟩
  refine⟨_,rfl,f,_,dx,fs,_,rfl,h1,T.aU.c,T.aU.na.2.2.1,h2.has ("gone",.ref G) (by simp),_,rfl,G,_,rfl,(by rw [<-h4];exact eE.k (k:=Sum.inr x) hG),?_⟩
  rw [List.getElem?_eq_getElem e'] at k
  exact⟨l,vs',g,_,rfl,rfl,h5,aJ (List.getElem?_eq_getElem e'),k⟩
 ·have e':¬g <vs'.length:=fun z=>e (decide_eq_true (by omega))
  rw [List.getElem?_eq_none (by omega)] at k
  exact k
inductive oG (K:PySem.W.Frag) (t:jy) (vs:List V) (H:Hp) (Q:VK):Prop where
 | mk:∀(f n E G Kp D Rw:Addr) (rd dd:List (Key×V)) (x:Str),vs=[.ref f,.str x]->rF K t H f n E G Kp D Rw->H Rw=some (.dK rd)->H D=some (.dK dd)->(((b8 rd (Sum.inr x)=none/\Q (.bl false) H)∨∃(l:Addr) (vs':List V) (g:Nat),b8 rd (Sum.inr x)=some (.ref l)/\b8 dd (Sum.inr x)=some (.int g)/\bF K H l vs'/\Q (.bl (decide (g=vs'.length))) H))->oG K t vs H Q
@[irreducible] noncomputable def dB (K:PySem.W.Frag) (t:jy):Sp:=fun vs H Q _=>oG K t vs H Q
theorem pA (T:Txt w K mg t):FO P w K mg base 1 t.jZ ["self", "name"] (dB K t):=by
 have sc:=T.je.sc ["self", "name"]
 refine T.je.F.ok sc (fun vs H Q E h=>?_) (fun cdv A outer s H vs Q E hr h=>?_)
 ·unfold dB at h
  obtain⟨f,n,E,G,Kp,D,Rw,rd,dd,x,rfl,_⟩:=h
  rfl
 ·unfold dB at h
  obtain⟨f,n,E,G,Kp,D,Rw,rd,dd,x,rfl,N,hR,hD,k⟩:=h
  refine⟨_,(aA (aN (zp (CG (zb hr.u1 (pv 1) (bh (pv 0) rfl))) (yZ (rY fL (cZ hr.u1 (bh (pv 0) rfl) (pv 1) (fun _ _=>rfl)) (bu bR (by rfl) T.fB du (aa (cZ hr.u1 (bh (pv 0) rfl) (pv 1) (fun _ _=>rfl)) ak aF)) (bI _)))))),?_⟩
  obtain⟨dx,fs,h1,h2⟩:=id N.ex
  refine⟨_,rfl,_,rfl,f,_,dx,fs,_,rfl,h1,T.aU.c,T.aU.na.2.2.2.2.2.1,h2.has ("rows",.ref Rw) (by simp),Rw,_,rfl,eE.k (k:=Sum.inr x) hR,?_⟩
  rcases k with ⟨k1,k⟩ | ⟨l,vs',g,k1,k2,k3,k⟩
  ·rw [k1]
   exact⟨_,rfl,bU k⟩
  ·rw [k1]
   refine⟨_,rfl,d9 ?_⟩
   refine⟨_,rfl,f,_,dx,fs,_,rfl,h1,T.aU.c,T.aU.na.2.2.2.2.1,h2.has ("done",.ref D) (by simp),_,rfl,D,_,rfl,(by rw [<-k2];exact eE.k (k:=Sum.inr x) hD),?_⟩
   refine⟨_,rfl,f,_,dx,fs,_,rfl,h1,T.aU.c,T.aU.na.2.2.2.2.2.1,h2.has ("rows",.ref Rw) (by simp),_,rfl,Rw,_,rfl,(by rw [<-k1];exact eE.k (k:=Sum.inr x) hR),?_⟩
   refine⟨.ref l,vs'.length,rfl,.inl ⟨vs',k3,rfl⟩,rfl,?_⟩
   rw [show decide (V.int (g:Int)=V.int (vs'.length:Int))=decide (g=vs'.length) by rw [decide_eq_decide,V.int.injEq];omega]
   exact k
inductive wI (K:PySem.W.Frag) (t:jy) (vs:List V) (H:Hp) (Q:VK) (E_:XK):Prop where
 | mk:∀(f n E G Kp D Rw p:Addr) (ed gd:List (Key×V)) (i:Nat) (nm:V) (ns os:List V) (xs:List Str) (hv:Str->V),vs=[.ref f,.ref p]->rF K t H f n E G Kp D Rw->H E=some (.dK ed)->H G=some (.dK gd)->fD K t H p i nm ns (xs.map V.str) os->xs.length<=3->((∀x∈xs,∃(l:Addr) (vs':List V) (g:Nat),b8 ed (Sum.inr x)=some (.ref l)/\b8 gd (Sum.inr x)=some (.int g)/\bF K H l vs'/\hv x=(vs'[g]?).getD .non))->(∀d,H d=none->Q (.ref d) (upd H d (.lst (xs.map hv))))->wI K t vs H Q E_
theorem vX (T:Txt w K mg t):FO P w K mg base 3 t.rB ["self", "part"] (wI K t):=by
 have sc:=T.mK.sc ["self", "part"]
 refine T.mK.F.ok sc ln (fun _ _ _ _ H vs Q E hr h=>?_)
 obtain⟨f,n,E,G,Kp,D,Rw,p,ed,gd,i,nm,ns,os,xs,hv,rfl,N,hE,hG,hP,hx,hh,k⟩:=h
 refine⟨_,(aA (aN (dZ [0] ["self", "part"] (aR (inClass (top 64) 6)) rfl (Je (bh (pv 1) rfl)) (fun _ _ _ _ _=>gm) (fun _ _ _ _ _=>(wK (pv 1) T.aU T.aU.me.2.2.1 (Iv T) T.uB hr (aa (pv 0) ak aj)))))),?_⟩
 obtain⟨dx,fs,h1,h2⟩:=id N.ex
 obtain⟨dxp,tn,ti,to,p1,p2,p3,p4⟩:=id hP.ex
 have hz:sizeLine=16777216:=sizeLine_eq
 refine⟨_,rfl,p,_,dxp,_,_,rfl,p1,iz T i,zf T i,ug _ _ _ _,ti,rfl,⟨_,p3⟩,?_⟩
 refine Kl (K:=K) (a:=ti) (xs:=xs.map V.str) (fun j ys H'=>H'=H/\ys=(xs.take j).map hv) (by simp;omega) ⟨rfl,rfl⟩ (fun j ys H' ⟨_,e⟩=>by rw [e];simp;omega) (fun j ys H' _ ⟨e,_⟩=>by rw [e];exact p3) ?_ ?_
 ·rintro j y ys H' hy ⟨rfl,rfl⟩
  rw [List.getElem?_map] at hy
  obtain⟨x,hq,rfl⟩:=Option.map_eq_some_iff.mp hy
  obtain⟨l,vs',g,g1,g2,g3,g4⟩:=hh x (List.mem_of_getElem? hq)
  refine yes ⟨_,rfl,f,dx,fs,rfl,h1,h2.no _ (by decide +kernel),_,rfl,f,n,E,G,Kp,D,Rw,l,ed,gd,x,vs',g,rfl,N,hE,hG,g1,g2,g3,rfl,?_⟩
  rw [List.take_succ,hq,Option.toList_some,List.map_append,<-g4]
  rfl
 ·rintro ys H' ⟨rfl,rfl⟩ d hd
  rw [lM,List.take_length]
  exact k d hd
theorem Qz (T:Txt w K mg t) (i:Nat):MethAt P w K mg base Ce 2 (cls t i) "lacks" (xP K t i):=match i with
 | 0=>⟨_,_,_,T.iR.c,(T.bD.me T.iR.me.2.2.2.1),T.bD.b,(cW T).imp fun _ _ _ _ h=>⟨_,h⟩⟩
 | 1=>⟨_,_,_,T.iC.c,(T.bD.me T.iC.me.2.2.2.1),T.bD.b,(cW T).imp fun _ _ _ _ h=>⟨_,h⟩⟩
 | 2=>⟨_,_,_,T.iH.c,(T.bD.me T.iH.me.2.2.2.1),T.bD.b,(cW T).imp fun _ _ _ _ h=>⟨_,h⟩⟩
 | 3=>⟨_,_,_,T.iD.c,(T.bD.me T.iD.me.2.2.2.1),T.bD.b,(cW T).imp fun _ _ _ _ h=>⟨_,h⟩⟩
 | 4=>⟨_,_,_,T.iK.c,(T.bD.me T.iK.me.2.2.2.1),T.bD.b,(cW T).imp fun _ _ _ _ h=>⟨_,h⟩⟩
 | 5=>⟨_,_,_,T.iB.c,(T.bD.me T.iB.me.2.2.2.1),T.bD.b,(cW T).imp fun _ _ _ _ h=>⟨_,h⟩⟩
 | 6=>⟨_,_,_,T.lE.c,(T.bD.me T.lE.me.2.2.2.1),T.bD.b,(cW T).imp fun _ _ _ _ h=>⟨_,h⟩⟩
 | 7=>⟨_,_,_,T.iJ.c,(T.bD.me T.iJ.me.2.2.2.1),T.bD.b,(cW T).imp fun _ _ _ _ h=>⟨_,h⟩⟩
 | 8=>⟨_,_,_,T.fK.c,(T.bD.me T.fK.me.2.2.2.1),T.bD.b,(cW T).imp fun _ _ _ _ h=>⟨_,h⟩⟩
 | 9=>⟨_,_,_,T.dY.c,(T.bD.me T.dY.me.2.2.2.1),T.bD.b,(cW T).imp fun _ _ _ _ h=>⟨_,h⟩⟩
 | n+10=>⟨_,_,_,T.fO.c,(T.bD.me T.fO.me.2.2.2.1),T.bD.b,(cW T).imp fun _ _ _ _ h=>⟨_,h⟩⟩
inductive sU (K:PySem.W.Frag) (t:jy) (vs:List V) (H:Hp) (Q:VK) (E:XK):Prop where
 | mk:∀(A:mZ) (ls:List aG) (ps:List PD) (S:FS) (p:PD),vs=[.ref A.f,.str p.name]->gA K t H A.n ls ps->dU K t H A ls ps S->p∈ps->(∀H',aM H H'->Q (dM p.kind p.ins (bw S p)) H')->sU K t vs H Q E
theorem sV (T:Txt w K mg t):FO P w K mg base 4 t.o8 ["self", "name"] (sU K t):=by
 have sc:=T.jN.sc ["self", "name", "part", "place"]
 refine T.jN.F.ok sc ln (fun _ _ _ _ H vs Q E hr h=>?_)
 obtain⟨A,ls,ps,S,p,rfl,N,W,hp,k⟩:=h
 refine⟨_,(aq (sN sc 2 (wK (bh (pv 0) rfl) T.aQ T.aQ.me.2.2.2.2.2.2.2.2.2.2.2.1 (nC T) T.jj hr (aa (pv 1) ak aj)))
  (aq (sN sc 3 (yz (CX:=Ce) (k:=2) (E:=E0) (pv 2) (hr.mono (by decide)) ig (aa (wK (pv 0) T.aU T.aU.me.2.2.2.2.1 (vX T) T.mK hr (aa (pv 2) ak aj)) ak aZ)))
  (aA (aN (oA (gh (zr (pv 3))) rQ (aO bT (bh (pv 2) rfl) (pv 3) (fun _ _=>rfl))))))),?_⟩
 obtain⟨dxn,fsn,R,F,Pd,Gn,Tk,FL,PL,Wn⟩:=id N
 have F:=Wn.fit
 obtain⟨dx,fs,h1,h2⟩:=id W.at'.ex
 have hh1:∀{H':Hp},aM H H'->(∀x∈p.ins,∃(l:Addr) (vs':List V) (g:Nat),b8 (S9 A.ea ls) (Sum.inr x)=some (.ref l)/\b8 (dg S.g ls) (Sum.inr x)=some (.int g)/\bF K H' l vs'/\pJ S x=(vs'[g]?).getD .non):=fun s x hx=>by
  obtain⟨l,hl,rfl⟩:=F.inL hp (List.mem_append.mpr (.inl hx))
  exact⟨A.ea l.name,_,S.g l.name,Bv F.whole.nod hl,vm F.whole.nod hl,bF.of (s _ _ (W.lists l hl)),by unfold pJ;rw [List.getElem?_map]⟩
 refine⟨_,rfl,A.f,_,dx,fs,_,rfl,h1,T.aU.c,T.aU.na.1,h2.has ("net",.ref A.n) (by simp),A.n,dxn,fsn,rfl,Wn.obj,Wn.fl.no _ (by decide +kernel),_,rfl,A.n,ls,ps,p.name,rfl,N,.inl ⟨p,hp,rfl,fun H1 q s1 P1=>?_⟩⟩
 obtain⟨dxp,tn,ti,to,p1,p2,p3,p4⟩:=id P1.ex
 have W1:=W.same s1
 have hI:=(F.pok p hp).2.2.1
 have hO:=uM S p (F.pok p hp)
 refine⟨_,rfl,q,cls t p.kind,dxp,_,xP K t p.kind,rfl,p1,u0 _ _ _ _ (by decide +kernel) (by decide +kernel) (by decide +kernel) (by decide +kernel),Qz T p.kind,?_⟩
 refine⟨_,rfl,A.f,dx,fs,rfl,s1 _ _ h1,h2.no _ (by decide +kernel),_,rfl,A.f,A.n,A.E,A.G,A.Kp,A.D,A.Rw,q,_,_,p.kind,_,_,_,p.ins,pJ S,rfl,W1.at',W1.ever,W1.gone,P1,(by have:=Gj p.kind;omega),hh1 s1,fun d hd=>?_⟩
 have s2:aM H1 (upd H1 d (.lst (p.ins.map (pJ S)))):=aB hd
 refine⟨q,d,_,_,_,_,bw S p,rfl,P1.same s2,by rw [lM];exact hI,bF.of au,hO,fun H3 s3=>?_⟩
 have s23:=s2.trans s3
 have k':=k H3 (s1.trans s23)
 have hlt:=j0 hO
 unfold dM at k'
 unfold Ob
 cases hf:(places p.kind (bw S p)).find? (vU (bw S p)) with
 | none=>
  rw [hf] at k'
  exact⟨_,rfl,_,rfl,d9 k'⟩
 | some j=>
  rw [hf] at k'
  have hq:j <p.ins.length:=by have:=hlt j (List.mem_of_find?_eq_some hf);unfold bw at this;rwa [lM] at this
  have k':Q (V.str p.ins[j]) H3:=by simpa only [List.getElem?_eq_getElem hq,Option.map_some,Option.getD_some] using k'
  exact⟨_,rfl,_,rfl,bU ⟨_,rfl,q,_,dxp,_,_,rfl,s23 _ _ p1,iz T p.kind,zf T p.kind,ug _ _ _ _,_,rfl,ti,p.ins.map V.str,j,_,rfl,rfl,s23.seqT p3,aJ (j:=j) (by rw [List.getElem?_map,List.getElem?_eq_getElem hq];rfl),k'⟩⟩
theorem Pg (T:Txt w K mg t) {i:Nat} (hi:i <11):MethAt P w K mg base Ce 2 (cls t i) "worked" (d7 K t i):=match i,hi with
 | 0,_=>⟨_,_,_,T.iR.c,(T.lg.me T.iR.me.2.2.2.2.1),T.lg.b,iy.mono (k:=2) (Ci T) (by decide)⟩
 | 1,_=>⟨_,_,_,T.iC.c,(T.lu.me T.iC.me.2.2.2.2.1),T.lu.b,iy.mono (k:=2) (DX T) (by decide)⟩
 | 2,_=>⟨_,_,_,T.iH.c,(T.kO.me T.iH.me.2.2.2.2.1),T.kO.b,iy.mono (k:=2) (Dz T) (by decide)⟩
 | 3,_=>⟨_,_,_,T.iD.c,(T.kJ.me T.iD.me.2.2.2.2.1),T.kJ.b,iy.mono (k:=2) (CJ T) (by decide)⟩
 | 4,_=>⟨_,_,_,T.iK.c,(T.kh.me T.iK.me.2.2.2.2.1),T.kh.b,iy.mono (k:=2) (El T) (by decide)⟩
 | 5,_=>⟨_,_,_,T.iB.c,(T.kI.me T.iB.me.2.2.2.2.1),T.kI.b,iy.mono (k:=2) (CV T) (by decide)⟩
 | 6,_=>⟨_,_,_,T.lE.c,(T.mF.me T.lE.me.2.2.2.2.1),T.mF.b,iy.mono (k:=2) (Ey T) (by decide)⟩
 | 7,_=>⟨_,_,_,T.iJ.c,(T.kZ.me T.iJ.me.2.2.2.2.1),T.kZ.b,iy.mono (k:=2) (CN T) (by decide)⟩
 | 8,_=>⟨_,_,_,T.fK.c,(T.jG.me T.fK.me.2.2.2.2.1),T.jG.b,iy.mono (k:=2) (Bq T) (by decide)⟩
 | 9,_=>⟨_,_,_,T.dY.c,(T.jq.me T.dY.me.2.2.2.2.1),T.jq.b,iy.mono (k:=2) (yR T) (by decide)⟩
 | 10,_=>⟨_,_,_,T.fO.c,(T.jO.me T.fO.me.2.2.2.2.1),T.jO.b,iy.mono (k:=2) (Bm T) (by decide)⟩
theorem YX (ns ws:List Int) (kp:Int):∀pv∈cT 0 ns ws kp,∃q:Nat,pv.1=(q:Int)/\q <cO 0:=by
 intro pv h
 simp [cT] at h
 subst h
 exact⟨0,rfl,by decide⟩
theorem YG (ns ws:List Int) (kp:Int):∀pv∈cT 1 ns ws kp,∃q:Nat,pv.1=(q:Int)/\q <cO 1:=by
 intro pv h
 simp [cT] at h
theorem Yq (ns ws:List Int) (kp:Int):∀pv∈cT 2 ns ws kp,∃q:Nat,pv.1=(q:Int)/\q <cO 2:=by
 intro pv h
 simp [cT] at h
 subst h
 exact⟨0,rfl,by decide⟩
theorem XM (ns ws:List Int) (kp:Int):∀pv∈cT 3 ns ws kp,∃q:Nat,pv.1=(q:Int)/\q <cO 3:=by
 intro pv h
 simp [cT] at h
 rcases h with rfl | rfl
 ·exact⟨0,rfl,by decide⟩
 ·exact⟨1,rfl,by decide⟩
theorem X6 (ns ws:List Int) (kp:Int):∀pv∈cT 4 ns ws kp,∃q:Nat,pv.1=(q:Int)/\q <cO 4:=by
 intro pv h
 simp [cT] at h
 subst h
 exact⟨0,rfl,by decide⟩
theorem Y0 (ns ws:List Int) (kp:Int):∀pv∈cT 5 ns ws kp,∃q:Nat,pv.1=(q:Int)/\q <cO 5:=by
 intro pv h
 simp [cT] at h
 subst h
 exact⟨0,rfl,by decide⟩
theorem Yt (ns ws:List Int) (kp:Int):∀pv∈cT 6 ns ws kp,∃q:Nat,pv.1=(q:Int)/\q <cO 6:=by
 intro pv h
 simp [cT] at h
 subst h
 exact⟨0,rfl,by decide⟩
theorem Yh (ns ws:List Int) (kp:Int):∀pv∈cT 7 ns ws kp,∃q:Nat,pv.1=(q:Int)/\q <cO 7:=by
 intro pv h
 simp [cT] at h
 subst h
 exact⟨0,rfl,by decide⟩
theorem Yx (ns ws:List Int) (kp:Int):∀pv∈cT 8 ns ws kp,∃q:Nat,pv.1=(q:Int)/\q <cO 8:=by
 intro pv h
 simp [cT] at h
 rcases h with rfl | rfl
 ·exact⟨0,rfl,by decide⟩
 ·exact⟨1,rfl,by decide⟩
theorem YW (ns ws:List Int) (kp:Int):∀pv∈cT 9 ns ws kp,∃q:Nat,pv.1=(q:Int)/\q <cO 9:=by
 intro pv h
 simp [cT] at h
 subst h
 exact⟨0,rfl,by decide⟩
theorem V7 (ns ws:List Int) (kp:Int):∀pv∈cT 10 ns ws kp,∃q:Nat,pv.1=(q:Int)/\q <cO 10:=by
 intro pv h
 simp [cT] at h
 subst h
 have h0:=Int.emod_nonneg (g0 ws) (show(2:Int)≠0 by decide)
 have h1:=Int.emod_lt_of_pos (g0 ws) (show(0:Int) <2 by decide)
 exact⟨(g0 ws % 2).toNat,by show g0 ws % 2=_;omega,by show(g0 ws % 2).toNat <2;omega⟩
theorem Nh {i:Nat} (hi:i<=10) (ns ws:List Int) (kp:Int):∀pv∈cT i ns ws kp,∃q:Nat,pv.1=(q:Int)/\q <cO i:=by
 match i,hi with
 | 0,_=>exact YX ns ws kp
 | 1,_=>exact YG ns ws kp
 | 2,_=>exact Yq ns ws kp
 | 3,_=>exact XM ns ws kp
 | 4,_=>exact X6 ns ws kp
 | 5,_=>exact Y0 ns ws kp
 | 6,_=>exact Yt ns ws kp
 | 7,_=>exact Yh ns ws kp
 | 8,_=>exact Yx ns ws kp
 | 9,_=>exact YW ns ws kp
 | 10,_=>exact V7 ns ws kp
 | (n+11),z=>exact absurd z (by omega)
theorem JN (i:Nat) (ns ws:List Int) (kp:Int):(cT i ns ws kp).length<=2:=match i with
 | 0=>by simp [cT]
 | 1=>by simp [cT]
 | 2=>by simp [cT]
 | 3=>by simp [cT]
 | 4=>by simp [cT]
 | 5=>by simp [cT]
 | 6=>by simp [cT]
 | 7=>by simp [cT]
 | 8=>by simp [cT]
 | 9=>by simp [cT]
 | n+10=>by simp [cT]
noncomputable def nameAt (xs:List Str) (q:Nat):V:=V.str ((xs[q]?).getD Str.empty)
theorem Nq {H:Hp} {Q:VK} {Ex:XK} {f n E G Kp D Rw:Addr} {rd dd:List (Key×V)} {y:Str} (N:rF K t H f n E G Kp D Rw) (hR:H Rw=some (.dK rd)) (hD:H D=some (.dK dd))
  (k:(b8 rd (Sum.inr y)=none/\Q (.bl false) H)∨∃(l:Addr) (vs':List V) (g:Nat),b8 rd (Sum.inr y)=some (.ref l)/\b8 dd (Sum.inr y)=some (.int g)/\bF K H l vs'/\Q (.bl (decide (g=vs'.length))) H):dB K t [.ref f,.str y] H Q Ex:=by
 unfold dB
 exact⟨f,n,E,G,Kp,D,Rw,rd,dd,y,rfl,N,hR,hD,k⟩
theorem XR {i:Nat} (h0:i≠0) (hi:i <11) (h9:i≠9):cV i=cI i:=by
 match i,h0,hi with
 | 1,_,_=>rfl
 | 2,_,_=>rfl
 | 3,_,_=>rfl
 | 4,_,_=>rfl
 | 5,_,_=>rfl
 | 6,_,_=>rfl
 | 7,_,_=>rfl
 | 8,_,_=>rfl
 | 9,_,_=>exact absurd rfl h9
 | 10,_,_=>rfl
theorem UT {S:FS} {p:PD} (ok:tM p) (hl:dM p.kind p.ins (bw S p)=.non):∀q∈places p.kind (bw S p),∃x n,p.ins[q]?=some x/\(bw S p)[q]?=some (.int n)/\(S.ev x)[S.g x]?=some n:=by
 have hO:=uM S p ok
 have hf:(places p.kind (bw S p)).find? (vU (bw S p))=none:=by
  cases hf:(places p.kind (bw S p)).find? (vU (bw S p)) with
  | none=>rfl
  | some j=>
   unfold dM at hl
   rw [hf] at hl
   have hq:j <p.ins.length:=by have:=j0 hO j (List.mem_of_find?_eq_some hf);unfold bw at this;rwa [lM] at this
   simp only [List.getElem?_eq_getElem hq,Option.map_some,Option.getD_some] at hl
   cases hl
 intro q hq
 have h1:=List.find?_eq_none.mp hf q hq
 have hlt:=j0 hO q hq
 have hlt':q <p.ins.length:=by unfold bw at hlt;rwa [lM] at hlt
 have e:(bw S p)[q]?=some (pJ S p.ins[q]):=by unfold bw;rw [List.getElem?_map,List.getElem?_eq_getElem hlt'];rfl
 refine⟨p.ins[q],?_⟩
 unfold vU at h1
 rw [e] at h1 ⊢
 unfold pJ at h1 ⊢
 cases h0:(S.ev p.ins[q])[S.g p.ins[q]]? with
 | none=>rw [h0] at h1;exact absurd (by simp) h1
 | some n=>exact⟨n,List.getElem?_eq_getElem hlt',by simp,rfl⟩
theorem Vi {b:Nat} {ls:List aG} {ps:List PD} {S:FS} (F:zY ls ps) (O:Et b ls ps S) {p:PD} (hp:p∈ps) (hl:dM p.kind p.ins (bw S p)=.non) (he:vB S p=false):(Bu S p).length=cV p.kind/\Xm (Bu S p)/\
  (p.kind≠0->(places p.kind (bw S p)).map (fun q=>((bw S p)[q]?).getD .non)=(Bu S p).map V.int)/\(p.kind=0->∃w,(S.r p.name)[S.d p.name]?=some w/\Bu S p=[w]):=by
 have ok:=F.pok p hp
 have hn:=UT ok hl
 by_cases h0:p.kind=0
 ·have hd:=O.dl p hp h0
  have hlt:S.d p.name <(S.r p.name).length:=by
   unfold vB at he
   simp [h0] at he
   omega
  have e:=List.getElem?_eq_getElem hlt
  have ew:Bu S p=[(S.r p.name)[S.d p.name]]:=by unfold Bu;rw [if_pos h0,e];rfl
  refine⟨by rw [ew,h0];rfl,fun w hw=>?_,fun z=>absurd h0 z,fun _=>⟨_,e,ew⟩⟩
  rw [ew,List.mem_singleton] at hw
  subst hw
  exact O.rb p hp h0 _ (List.getElem_mem hlt)
 ·have ew:Bu S p=(places p.kind (bw S p)).map fun q=>We (((bw S p)[q]?).getD .non):=by unfold Bu;rw [if_neg h0]
  refine⟨?_,fun w hw=>?_,fun _=>?_,fun z=>absurd z h0⟩
  ·rw [ew,lM]
   by_cases h9:p.kind=9
   ·have h3:=hn
    unfold places at h3 ⊢
    rw [if_pos h9] at h3 ⊢
    split
    ·rw [h9];rfl
    ·rename_i hno
     obtain⟨x,n,_,h3,_⟩:=h3 0 (by split <;> simp)
     cases hs:bw S p with
     | nil=>rw [hs] at h3;cases h3
     | cons a r=>
      rw [hs] at h3
      have:a=.int n:=by simpa using h3
      exact absurd (by rw [hs,this]) (hno n r)
   ·unfold places
    rw [if_neg h9,List.length_range,(uM S p ok).1,XR h0 ok.1 h9]
  ·rw [ew] at hw
   obtain⟨q,hq,rfl⟩:=List.mem_map.mp hw
   obtain⟨x,n,hx,h3,h4⟩:=hn q hq
   rw [h3]
   show 0<=n/\n <1000000000
   obtain⟨l,hll,rfl⟩:=F.inL hp (List.mem_append.mpr (.inl (List.mem_of_getElem? hx)))
   exact O.vb l hll n (List.mem_of_getElem? h4)
  ·rw [ew,List.map_map]
   refine List.map_congr_left fun q hq=>?_
   obtain⟨x,n,_,h3,_⟩:=hn q hq
   show _=V.int (We _)
   rw [h3]
   rfl
theorem BJ {S:FS} {p:PD} (h:dM p.kind p.ins (bw S p)≠.non):jl S p=none:=by unfold jl;rw [if_pos h]
theorem Gp {S:FS} {p:PD} (h:vB S p=true):jl S p=none:=by unfold jl;split <;> simp [h]
inductive wu (K:PySem.W.Frag) (t:jy) (vs:List V) (H:Hp) (Q:VK):Prop where
 | mk:∀(b:Nat) (A:mZ) (ls:List aG) (ps:List PD) (S:FS) (p:PD),vs=[.ref A.f,.str p.name]->gA K t H A.n ls ps->dU K t H A ls ps S->p∈ps->Et b ls ps S->((jl S p=none->∀H',aM H H'->Q .non H'))->(∀dd,jl S p=some dd->∀H' U,aM H H'->H U=none->mC (A.cells ls ps) H' U dd->Q (.ref U) H')->wu K t vs H Q
@[irreducible] noncomputable def jH (K:PySem.W.Frag) (t:jy):Sp:=fun vs H Q _=>wu K t vs H Q
noncomputable abbrev pY:List Str:=["self", "name", "part", "heads", "places", "values", "answer", "given"]
theorem xq (T:Txt w K mg t):FO P w K mg base 5 t.uD ["self", "name"] (jH K t):=by
 have sc:=T.pI.sc pY
 refine T.pI.F.ok sc (fun vs H Q E h=>?_) (fun cdv A outer s H vs Q E hr h=>?_)
 ·unfold jH at h
  obtain⟨b,A,ls,ps,S,p,rfl,_⟩:=h
  rfl
 ·unfold jH at h
  obtain⟨b,A,ls,ps,S,p,rfl,N,W,hp,O,kn,k⟩:=h
  refine⟨_,(aq (bN (PW.pt (sy (gh (vA (wK (pv 0) T.aU T.aU.me.2.2.2.2.2.1 (sV T) T.jN hr (aa (pv 1) ak aj)))) (lU (gZ (wK (pv 0) T.aU T.aU.me.2.2.2.1 (pA T) T.je hr (aa (pv 1) ak aj))))))
    (aA (aN rQ))
    bj)
   (aq (sN sc 2 (wK (bh (pv 0) rfl) T.aQ T.aQ.me.2.2.2.2.2.2.2.2.2.2.2.1 (nC T) T.jj hr (aa (pv 1) ak aj)))
   (aq (sN sc 3 (wK (pv 0) T.aU T.aU.me.2.2.2.2.1 (vX T) T.mK hr (aa (pv 2) ak aj)))
   (aq (sN sc 4 (yz (CX:=Ce) (k:=1) (E:=E0) (pv 2) (hr.mono (by decide)) ig (aa (pv 3) ak aj)))
   (aq (jP (i:=5) [3] pY (aR (inClass (top 64) 9)) rfl sc.nd rfl (bM (pv 4)) (fun _ _ _ _ _=>gm) (fun _ _ _ _ _=>(aO (JH (K:=K) rfl) (pv 1) (pv 0) (fun _ _=>rfl))))
   (aq (ir (bN (gh (zb hr.u1 (pv 1) (bh (pv 0) rfl)))
    (aA (sN sc 5 (bz (aa (aO aX (cZ hr.u1 (bh (pv 0) rfl) (pv 1) (fun _ _=>rfl)) (cZ hr.u1 (bh (pv 0) rfl) (pv 1) (fun _ _=>rfl)) (fun _ _=>rfl)) ak aF))))
    bj))
   (aq (sN sc 6 (yz (CX:=Ce) (k:=2) (E:=E0) (pv 2) (hr.mono (by decide)) ig (aa (pv 5) (aa (cZ hr.u1 (bh (pv 0) rfl) (pv 1) (fun _ _=>rfl)) ak aF) aj)))
   (aq (Qy (i:=7) ["place", "value"] [2] pY (aR (inClass (top 64) 9)) rfl sc.nd rfl (bM (aO bT (pv 6) az (fun _ _=>rfl))) (fun _ _ _ _ _=>Nb (K:=K) (n:=2) rfl rfl (gQ (uY (i:=0) (show(["place", "value", "part"]:List Str).Nodup by decide +kernel) rfl (Or.inl rfl) (.inr rfl)) (gQ (uY (i:=1) (show(["place", "value", "part"]:List Str).Nodup by decide +kernel) rfl (Or.inl rfl) (.inr rfl)) vh))) (fun _ _ _ _ _=>gm) (fun _ _ _ _ _=>(cz (aa (aO (mY (K:=K) rfl) (Ia (K:=K) rfl (pv 2) rfl) (pv 0) (fun _ _=>rfl)) (aa (pv 1) ak aj) aF))))
   (aA (aN (cz (aa (dZ [2] pY (aR (inClass (top 64) 9)) rfl (bM (pv 4)) (fun _ _ _ _ _=>gm) (fun _ _ _ _ _=>(aO (mY (K:=K) rfl) (Ia (K:=K) rfl (pv 1) rfl) (pv 0) (fun _ _=>rfl)))) (aa (pv 7) (aa (aO bT (pv 6) az (fun _ _=>rfl)) ak aF) aj) eU)))))))))))),?_⟩
  obtain⟨dxn,fsn,R,F,Pd,Gn,Tk,FL,PL,Wn⟩:=id N
  have F:=Wn.fit
  obtain⟨dx,fs,h1,h2⟩:=id W.at'.ex
  have ok:=F.pok p hp
  have hO:=uM S p ok
  have hI:=ok.2.2.1
  have hh1:∀{H':Hp},aM H H'->(∀x∈p.ins,∃(l:Addr) (vs':List V) (g:Nat),b8 (S9 A.ea ls) (Sum.inr x)=some (.ref l)/\b8 (dg S.g ls) (Sum.inr x)=some (.int g)/\bF K H' l vs'/\pJ S x=(vs'[g]?).getD .non):=fun s x hx=>by
   obtain⟨l,hl,rfl⟩:=F.inL hp (List.mem_append.mpr (.inl hx))
   exact⟨A.ea l.name,_,S.g l.name,Bv F.whole.nod hl,vm F.whole.nod hl,bF.of (s _ _ (W.lists l hl)),by unfold pJ;rw [List.getElem?_map]⟩
  have hz:sizeLine=16777216:=sizeLine_eq
  have hpl:(places p.kind (bw S p)).length<=3:=places_len hO
  refine⟨_,rfl,A.f,dx,fs,rfl,h1,h2.no _ (by decide +kernel),_,rfl,A,ls,ps,S,p,rfl,N,W,hp,fun H1 s1=>?_⟩
  by_cases hlk:dM p.kind p.ins (bw S p)≠.non
  ·have e:(!decide (dM p.kind p.ins (bw S p)=V.non))=true:=by simp [hlk]
   refine⟨_,rfl,?_⟩
   rw [e]
   exact d9 (d9 (kn (BJ hlk) H1 s1))
  have hlk:=Classical.not_not.mp hlk
  rw [hlk]
  have W1:=W.same s1
  refine⟨_,rfl,bU ⟨_,rfl,A.f,dx,fs,rfl,s1 _ _ h1,h2.no _ (by decide +kernel),_,rfl,?_⟩⟩
  have vd:=u5 (k:=fun x=>(S.d x:Int)) F.pnd hp
  cases he:vB S p with
  | true=>
   have h0:p.kind=0/\S.d p.name=(S.r p.name).length:=by unfold vB at he;simpa using he
   refine Nq W1.at' W1.rows W1.done (.inr ⟨_,_,S.d p.name,uQ F.pnd hp h0.1,vd,bF.of (W1.rlst p hp h0.1),?_⟩)
   rw [decide_eq_true (by rw [lM];exact h0.2)]
   exact⟨_,rfl,d9 (kn (Gp he) H1 s1)⟩
  | false=>
  obtain⟨lw,hB,hv,hw0⟩:=Vi F O hp hlk he
  have k':=k _ (show jl S p=some _ by unfold jl;rw [if_neg (by simp [hlk]),if_neg (by simp [he])])
  have hwl:=Nh (show p.kind<=10 by have:=ok.1;omega) p.nums (Bu S p) (S.k p.name)
  have hw2:=JN p.kind p.nums (Bu S p) (S.k p.name)
  have pick:∀(Q':VK) (E':XK),Q' (.bl false) H1->dB K t [.ref A.f,.str p.name] H1 Q' E':=by
   intro Q' E' z
   refine Nq W1.at' W1.rows W1.done ?_
   by_cases h0:p.kind=0
   ·refine .inr ⟨_,_,S.d p.name,uQ F.pnd hp h0,vd,bF.of (W1.rlst p hp h0),?_⟩
    obtain⟨w,ew,_⟩:=hw0 h0
    have:=(List.getElem?_eq_some_iff.mp ew).1
    rw [decide_eq_false (by rw [lM];omega)]
    exact z
   ·exact .inl ⟨Hu F.pnd hp h0,z⟩
  refine pick _ _ ?_
  clear pick
  refine⟨_,rfl,bU ?_⟩
  have Wn1:=Wn.same s1
  refine⟨_,rfl,A.f,_,dx,fs,_,rfl,s1 _ _ h1,T.aU.c,T.aU.na.1,h2.has ("net",.ref A.n) (by simp),A.n,dxn,fsn,rfl,Wn1.obj,Wn1.fl.no _ (by decide +kernel),_,rfl,A.n,ls,ps,p.name,rfl,Wn1.s,.inl ⟨p,hp,rfl,fun H2 q s2' hP=>?_⟩⟩
  have s2:=s1.trans s2'
  have W2:=W.same s2
  obtain⟨dxp,tn,ti,to,p1,p2,p3,p4⟩:=id hP.ex
  clear s2' W1 Wn1
  refine⟨_,rfl,A.f,dx,fs,rfl,s2 _ _ h1,h2.no _ (by decide +kernel),_,rfl,A.f,A.n,A.E,A.G,A.Kp,A.D,A.Rw,q,_,_,p.kind,_,_,_,p.ins,pJ S,rfl,W2.at',W2.ever,W2.gone,hP,(by have:=Gj p.kind;omega),hh1 s2,fun d hd=>?_⟩
  have s3':=aB (o:=.lst (bw S p)) hd
  have ed3:(upd H2 d (.lst (p.ins.map (pJ S)))) d=some (.lst (bw S p)):=au
  change aM H2 (upd H2 d (.lst (p.ins.map (pJ S)))) at s3'
  generalize upd H2 d (.lst (p.ins.map (pJ S)))=H3 at s3' ed3 ⊢
  have s3:=s2.trans s3'
  refine⟨_,rfl,q,cls t p.kind,dxp,_,m5 K t p.kind,rfl,s3' _ _ p1,u0 _ _ _ _ (by decide +kernel) (by decide +kernel) (by decide +kernel) (by decide +kernel),GJ T p.kind,_,rfl,q,d,_,_,_,_,bw S p,rfl,hP.same s3',by rw [lM];exact hI,bF.of ed3,hO,fun H4 L s4' nL eL=>?_⟩
  have s24:=s3'.trans s4'
  have s4:=s3.trans s4'
  have ed4:=s4' _ _ ed3
  refine⟨_,rfl,L,rfl,⟨_,bF.of eL⟩,dR (K:=K) (a:=L) (xs:=(places p.kind (bw S p)).map nV) (fun j ys H'=>H'=H4/\ys=((places p.kind (bw S p)).take j).map (fun q=>((bw S p)[q]?).getD .non)) (by rw [lM];omega) ⟨rfl,rfl⟩ (fun j ys H' ⟨_,e⟩=>by rw [e,lM,List.length_take];omega) (fun j ys H' _ ⟨e,_⟩=>by rw [e];exact bF.of eL) ?_ ?_⟩
  ·rintro j v ys H' hv' ⟨e',rfl⟩
   subst e'
   rw [List.getElem?_map] at hv'
   obtain⟨r,hr',rfl⟩:=Option.map_eq_some_iff.mp hv'
   have hql:r <(bw S p).length:=j0 hO r (List.mem_of_getElem? hr')
   refine yes ⟨_,rfl,_,rfl,d,bw S p,r,_,rfl,rfl,bF.of ed4,aJ (j:=r) (List.getElem?_eq_getElem hql),rfl,?_⟩
   rw [List.take_succ,hr',Option.toList_some,List.map_append,List.map_cons,List.map_nil,List.getElem?_eq_getElem hql]
   rfl
  rintro ys H' ⟨e',rfl⟩ V1 hV1
  subst e'
  rw [lM,List.take_length]
  have s5':=aB (o:=.lst ((places p.kind (bw S p)).map fun q=>((bw S p)[q]?).getD .non)) hV1
  have eV:(upd H' V1 (.lst ((places p.kind (bw S p)).map fun q=>((bw S p)[q]?).getD .non))) V1=some (.lst ((places p.kind (bw S p)).map fun q=>((bw S p)[q]?).getD .non)):=au
  generalize upd H' V1 (.lst ((places p.kind (bw S p)).map fun q=>((bw S p)[q]?).getD .non))=H5 at s5' eV ⊢
  have s25:=s24.trans s5'
  have s5:=s4.trans s5'
  have W5:=W.same s5
  refine⟨fun σ' H6=>∃V2,aM H H6/\aM H2 H6/\aM H' H6/\σ'=[some (.ref A.f),some (.str p.name),some (.ref q),some (.ref d),some (.ref L),some (.ref V2),none,none]/\H6 V2=some (.lst ((Bu S p).map V.int)),?_,?_⟩
  ·refine⟨_,rfl,_,rfl,A.f,_,dx,fs,_,rfl,s5 _ _ h1,T.aU.c,T.aU.na.2.2.2.2.2.1,h2.has ("rows",.ref A.Rw) (by simp),A.Rw,_,rfl,eE.k (k:=Sum.inr p.name) W5.rows,?_⟩
   by_cases h0:p.kind=0
   ·obtain⟨w,ew,eW⟩:=hw0 h0
    have v1:=uQ (ra:=A.ra) F.pnd hp h0
    rw [v1,eW]
    refine⟨_,rfl,d9 ?_⟩
    refine⟨_,rfl,A.f,_,dx,fs,_,rfl,s5 _ _ h1,T.aU.c,T.aU.na.2.2.2.2.2.1,h2.has ("rows",.ref A.Rw) (by simp),_,rfl,A.Rw,_,rfl,(by rw [<-v1];exact eE.k (k:=Sum.inr p.name) W5.rows),?_⟩
    refine⟨_,rfl,A.f,_,dx,fs,_,rfl,s5 _ _ h1,T.aU.c,T.aU.na.2.2.2.2.1,h2.has ("done",.ref A.D) (by simp),_,rfl,A.D,_,rfl,(by rw [<-vd];exact eE.k (k:=Sum.inr p.name) W5.done),?_⟩
    refine⟨A.ra p.name,_,S.d p.name,_,rfl,rfl,bF.of (W5.rlst p hp h0),aJ (j:=S.d p.name) (by rw [List.getElem?_map,ew];rfl),iu,fun V2 hV2=>?_⟩
    exact⟨V2,s5.trans (aB hV2),s25.trans (aB hV2),s5'.trans (aB hV2),rfl,au⟩
   ·rw [Hu F.pnd hp h0]
    exact⟨_,rfl,bU ⟨V1,s5,s25,s5',rfl,by rw [<-hv h0];exact eV⟩⟩
  rintro σ' H6 ⟨V2,s6,s26,s46,rfl,eV2⟩
  clear W5 W2 s25 s24 s5 s5' s4 s3 s3' eV ed4 ed3
  have W6:=W.same s6
  have hkp:=u5 (k:=S.k) F.pnd hp
  refine⟨_,rfl,q,cls t p.kind,dxp,_,d7 K t p.kind,rfl,s26 _ _ p1,u0 _ _ _ _ (by decide +kernel) (by decide +kernel) (by decide +kernel) (by decide +kernel),Pg T ok.1,_,rfl,_,rfl,A.f,_,dx,fs,_,rfl,s6 _ _ h1,T.aU.c,T.aU.na.2.2.2.1,h2.has ("kept",.ref A.Kp) (by simp),_,rfl,A.Kp,_,rfl,(by rw [<-hkp];exact eE.k (k:=Sum.inr p.name) W6.kept),?_⟩
  refine⟨q,V2,_,p.nums,_,_,Bu S p,S.k p.name,rfl,hP.same s26,ok.2.1,bF.of eV2,lw,hB,fun H7 U0 L0 rs s7 nL0 eU0 eL0 tU=>?_⟩
  have s57:=s6.trans s7
  have s27:=s26.trans s7
  have eL7:=s7 _ _ (s46 _ _ eL)
  have hlr:rs.length=(cT p.kind p.nums (Bu S p) (S.k p.name)).length:=by have:=Paired.length tU;unfold Jo at this;rw [lM] at this;exact this
  clear W6
  refine⟨_,rfl,U0,_,0,_,rfl,rfl,eN.of eU0,aJ (j:=0) rfl,L0,rfl,⟨_,bF.of eL0⟩,?_⟩
  refine Cr (K:=K) (a:=L0) (xs:=rs.map V.ref) (fun j ys H8=>aM H7 H8/\∃qs:List Addr,ys=qs.map V.ref/\cM H8 qs (((cT p.kind p.nums (Bu S p) (S.k p.name)).take j).map fun pv=>[.str (strAt p.outs pv.1.toNat),.int pv.2])) (by rw [lM];omega) ⟨aM.refl _,[],rfl,.nil⟩ ?_ (fun j ys H8 _ ⟨e,_⟩=>e.seq (bF.of eL0)) ?_ ?_
  ·rintro j ys H8 ⟨_,qs,rfl,tq⟩
   have:=Paired.length tq
   rw [lM,List.length_take] at this
   rw [lM]
   omega
  ·rintro j v ys H8 hj ⟨s8,qs,rfl,tq⟩
   rw [List.getElem?_map] at hj
   obtain⟨r,hr',rfl⟩:=Option.map_eq_some_iff.mp hj
   have hjl:j <(cT p.kind p.nums (Bu S p) (S.k p.name)).length:=by have:=(List.getElem?_eq_some_iff.mp hr').1;omega
   obtain⟨pv,hpv⟩:∃pv,(cT p.kind p.nums (Bu S p) (S.k p.name))[j]?=some pv:=⟨_,List.getElem?_eq_getElem hjl⟩
   have hr2:H7 r=some (.tup [.int pv.1,.int pv.2]):=by
    obtain⟨vs2,z1,z2⟩:=oN tU hr'
    unfold Jo at z1
    rw [List.getElem?_map,hpv] at z1
    cases z1
    exact z2
   obtain⟨o,ho1,ho2⟩:=hwl _ (List.mem_of_getElem? hpv)
   have ho3:o <p.outs.length:=by rw [ok.2.2.2.1];exact ho2
   have hn:strAt p.outs o=p.outs[o]:=by unfold strAt;rw [List.getElem?_eq_getElem ho3];rfl
   refine⟨r,_,rfl,eN.of (s8 _ _ hr2),rfl,_,_,rfl,_,_,rfl,rfl,rfl,?_⟩
   refine yes ⟨_,rfl,q,_,dxp,_,_,rfl,s8 _ _ (s27 _ _ p1),iz T p.kind,Hs T p.kind,Gu _ _ _ _,_,rfl,to,p.outs.map V.str,_,.str (strAt p.outs o),rfl,rfl,s8.seqT (s27.seqT p4),?_,_,rfl,iu,fun u hu=>⟨s8.trans (aB hu),qs ++ [u],by simp,?_⟩⟩
   ·rw [ho1,hn]
    exact aJ (j:=o) (by rw [List.getElem?_map,List.getElem?_eq_getElem ho3];rfl)
   ·rw [List.take_succ,hpv,Option.toList_some,List.map_append]
    refine(cM.same (aB hu) tq).append (.cons ?_ .nil)
    show upd H8 u _ u=some (HO.tup [V.str (strAt p.outs pv.1.toNat),V.int pv.2])
    rw [ho1,Int.toNat_natCast]
    exact au
  rintro ys H8 ⟨s8,qs,rfl,tq⟩ Lg hLg
  rw [lM,hlr,List.take_length] at tq
  have t9:=aB (o:=.lst (qs.map V.ref)) hLg
  have s9':=s8.trans t9
  have tq9:=cM.same t9 tq
  have eLg:(upd H8 Lg (.lst (qs.map V.ref))) Lg=some (.lst (qs.map V.ref)):=au
  generalize upd H8 Lg (.lst (qs.map V.ref))=H9 at t9 s9' tq9 eLg ⊢
  have s9:=s57.trans s9'
  have s29:=s27.trans s9'
  have eL9:=s9' _ _ eL7
  have eU9:=s9' _ _ eU0
  refine⟨_,rfl,L,rfl,⟨_,bF.of eL9⟩,dR (K:=K) (a:=L) (xs:=(places p.kind (bw S p)).map nV) (fun j ys H'=>H'=H9/\ys=((places p.kind (bw S p)).take j).map (fun q=>V.str (strAt p.ins q))) (by rw [lM];omega) ⟨rfl,rfl⟩ (fun j ys H' ⟨_,e⟩=>by rw [e,lM,List.length_take];omega) (fun j ys H' _ ⟨e,_⟩=>by rw [e];exact bF.of eL9) ?_ ?_⟩
  ·rintro j v ys HX hv' ⟨e',rfl⟩
   subst e'
   rw [List.getElem?_map] at hv'
   obtain⟨r,hr',rfl⟩:=Option.map_eq_some_iff.mp hv'
   have hql:r <p.ins.length:=by have:=j0 hO r (List.mem_of_getElem? hr');unfold bw at this;rwa [lM] at this
   have hn:strAt p.ins r=p.ins[r]:=by unfold strAt;rw [List.getElem?_eq_getElem hql];rfl
   refine yes ⟨_,rfl,q,_,dxp,_,_,rfl,s29 _ _ p1,iz T p.kind,zf T p.kind,ug _ _ _ _,_,rfl,ti,p.ins.map V.str,r,.str (strAt p.ins r),rfl,rfl,s29.seqT p3,by rw [hn];exact aJ (j:=r) (by rw [List.getElem?_map,List.getElem?_eq_getElem hql];rfl),rfl,?_⟩
   rw [List.take_succ,hr',Option.toList_some,List.map_append]
   rfl
  rintro ys H10 ⟨e',rfl⟩ La hLa
  subst e'
  rw [lM,List.take_length]
  have s10':=aB (o:=.lst ((places p.kind (bw S p)).map fun q=>V.str (strAt p.ins q))) hLa
  refine⟨_,rfl,_,rfl,U0,_,1,_,rfl,rfl,eN.of (s10' _ _ eU9),aJ (j:=1) rfl,iu,fun U hU=>?_⟩
  refine k' _ U ((s9.trans s10').trans (aB hU)) ((s9.trans s10').free hU) ⟨La,Lg,qs,au,?_,aB hU _ _ (s10' _ _ eLg),?_,W.cell (s9.free hLa),W.cell ((s57.trans s8).free hLg)⟩
  ·rw [List.map_map]
   exact aB hU _ _ au
  ·rw [List.map_map]
   exact cM.same (s10'.trans (aB hU)) tq9
theorem PB (g:Str->Nat) {ls:List aG} {x:Str} (hx:x∈ls.map (·.name)) (v:Nat):putK (dg g ls) (Sum.inr x) (.int (v:Nat))=dg (fun y=>if y=x then v else g y) ls:=by
 unfold putK
 rw [if_pos (by
  obtain⟨l,hl,rfl⟩:=List.mem_map.mp hx
  exact List.any_eq_true.mpr ⟨_,List.mem_map.mpr ⟨l,hl,rfl⟩,by simp⟩)]
 unfold dg
 rw [List.map_map]
 refine List.map_congr_left fun l _=>?_
 by_cases h:l.name=x
 ·simp [h]
 ·simp [h]
theorem Gf (g:Str->Int) {ps:List PD} {x:Str} (hx:x∈ps.map (·.name)) (v:Int):putK (bZ g ps) (Sum.inr x) (.int v)=bZ (fun y=>if y=x then v else g y) ps:=by
 unfold putK
 rw [if_pos (by
  obtain⟨l,hl,rfl⟩:=List.mem_map.mp hx
  exact List.any_eq_true.mpr ⟨_,List.mem_map.mpr ⟨l,hl,rfl⟩,by simp⟩)]
 unfold bZ
 rw [List.map_map]
 refine List.map_congr_left fun l _=>?_
 by_cases h:l.name=x
 ·simp [h]
 ·simp [h]
noncomputable def Eu (S:FS) (x:Str) (dd:my):FS:=⟨fun y=>S.ev y ++ (dd.gv.filter fun q=>decide (q.1=y)).map (·.2),fun y=>if y∈dd.tk then S.g y+1 else S.g y,fun y=>if y=x then dd.kv else S.k y,fun y=>if y=x then S.d y+1 else S.d y,S.r⟩
noncomputable def Fj (M:List Addr) (H H':Hp):Prop:=∀b,b∉M->H' b=H b
structure Iu (ls:List aG) (dd:my):Prop where
 ntk:dd.tk.Nodup
 tin:∀x∈dd.tk,x∈ls.map (·.name)
 gin:∀q∈dd.gv,q.1∈ls.map (·.name)
 g2:dd.gv.length<=2
inductive Az (K:PySem.W.Frag) (t:jy) (vs:List V) (H:Hp) (Q:VK):Prop where
 | mk:∀(b:Nat) (A:mZ) (ls:List aG) (ps:List PD) (S:FS) (p:PD) (U:Addr) (dd:my),vs=[.ref A.f,.str p.name,.ref U]->zY ls ps->dU K t H A ls ps S->p∈ps->((∀l∈ls,(S.ev l.name).length<=b))->b<=100000->mC (A.cells ls ps) H U dd->Iu ls dd->(∀H',Fj (A.cells ls ps) H H'->dU K t H' A ls ps (Eu S p.name dd)->Q .non H')->Az K t vs H Q
@[irreducible] noncomputable def ou (K:PySem.W.Frag) (t:jy):Sp:=fun vs H Q _=>Az K t vs H Q
theorem K5 (T:Txt w K mg t):FO P w K mg base 1 t.zu ["self", "name", "deed"] (ou K t):=by
 have sc:=T.zc.sc ["self", "name", "deed", "lane", "value"]
 refine T.zc.F.ok sc (fun vs H Q E h=>?_) (fun cdv A outer s H vs Q E hr h=>?_)
 ·unfold ou at h
  obtain⟨b,A,ls,ps,S,p,U,dd,rfl,_⟩:=h
  rfl
 ·unfold ou at h
  obtain⟨b,A,ls,ps,S,p,U,dd,rfl,F,W,hp,O,hb,⟨La,Lg,rs,hU,hLa,hLg,hT,na,ng⟩,⟨ntk,hin,hout,hg2⟩,k⟩:=h
  refine⟨_,(aq (dG PassesOwn.never rfl (bM (aO bT (pv 2) az (fun _ _=>rfl))) (gN sc 3)
    (aA (M4 hr.u1 (bh (pv 0) rfl) (pv 3) az HS (fun _ _ _=>rfl))))
   (aq (dG PassesOwn.never rfl (bM (aO bT (pv 2) az (fun _ _=>rfl))) (CT rfl (gQ (gN sc 3) (gQ (gN sc 4) vh)))
    (aA (bC (DP (cZ hr.u1 (bh (pv 0) rfl) (pv 3) (fun _ _=>rfl)) (aa (pv 4) ak aj)))))
   (aq (gM hr.u1 (bh (pv 0) rfl) (pv 1) (aO bT (pv 2) az (fun _ _=>rfl)) rfl)
   (aA (M4 hr.u1 (bh (pv 0) rfl) (pv 1) az HS (fun _ _ _=>rfl)))))),?_⟩
  have hl:sizeLine=16777216:=sizeLine_eq
  have l24:=F.l24
  have p16:=F.p16
  obtain⟨dx,fs,h1,h2⟩:=id W.at'.ex
  have hG:=W.gone
  have hn:=W.nod
  unfold mZ.cells at hn na ng
  simp only [List.nodup_cons,List.mem_cons,List.mem_append,not_or] at hn na ng
  obtain⟨⟨nEG,nEK,nED,nER,nEE,nE2⟩,⟨nGK,nGD,nGR,nGE,nG2⟩,⟨nKD,nKR,nKE,nK2⟩,⟨nDR,nDE,nD2⟩,⟨nRE,nR2⟩,nA⟩:=hn
  obtain⟨nE1,nR1,nER1⟩:=List.nodup_append.mp nA
  refine⟨_,rfl,U,_,0,_,rfl,rfl,eN.of hU,aJ (j:=0) rfl,La,rfl,⟨_,bF.of hLa⟩,cX (K:=K) (a:=La) (xs:=dd.tk.map V.str) (fun j σ H'=>H'=upd H A.G (.dK (dg (fun x=>if x∈dd.tk.take j then S.g x+1 else S.g x) ls))/\∃v3,σ=[some (.ref A.f),some (.str p.name),some (.ref U),v3,none]) ⟨?_,none,rfl⟩ ?_ ?_ ?_⟩
  ·have:dg (fun x=>if x∈dd.tk.take 0 then S.g x+1 else S.g x) ls=dg S.g ls:=by simp
   rw [this,Ie hG]
  ·rintro j σ H' _ ⟨rfl,_⟩
   exact bF.of (jC hG hLa (by intro _ z;cases z))
  ·rintro j x σ H' hx ⟨rfl,v3,rfl⟩
   rw [List.getElem?_map] at hx
   obtain⟨y,hy,rfl⟩:=Option.map_eq_some_iff.mp hx
   have hym:=hin y (List.mem_of_getElem? hy)
   have nin:y∉dd.tk.take j:=by
    have:=oO (f:=id) (xs:=dd.tk) (by rw [List.map_id];exact ntk) hy
    rwa [List.map_id] at this
   have vg:b8 (dg (fun x=>if x∈dd.tk.take j then S.g x+1 else S.g x) ls) (Sum.inr y)=some (.int ((S.g y:Nat):Int)):=by
    obtain⟨l,hl',rfl⟩:=List.mem_map.mp hym
    rw [vm F.whole.nod hl',if_neg nin]
   refine⟨_,rfl,A.f,_,dx,fs,_,rfl,jC hG h1 (by intro _ z;cases z),T.aU.c,T.aU.na.2.2.1,h2.has ("gone",.ref A.G) (by simp),_,rfl,A.G,.int ((S.g y:Nat):Int),rfl,(by rw [<-vg];exact eE.k (k:=Sum.inr y) au),_,_,rfl,rfl,_,o9.k (k:=Sum.inr y) au (by unfold dg;rw [lM];omega),?_,_,rfl⟩
   rw [jt]
   show upd H A.G (.dK (putK _ (Sum.inr y) (.int ((S.g y+1:Nat):Int))))=_
   rw [PB _ hym (S.g y+1)]
   have:(fun z=>if z=y then S.g y+1 else if z∈dd.tk.take j then S.g z+1 else S.g z)=fun z=>if z∈dd.tk.take (j+1) then S.g z+1 else S.g z:=by
    funext z
    simp only [List.take_succ,hy,Option.toList_some,List.mem_append,List.mem_singleton]
    by_cases h3:z=y <;> by_cases h4:z∈dd.tk.take j <;> simp [h3,h4]
   rw [this]
  rintro σ H' ⟨rfl,v3,rfl⟩
  rw [lM,List.take_length]
  have m1:Fj [A.G] H (upd H A.G (.dK (dg (Eu S p.name dd).g ls))):=fun b hb=>aK (by simpa using hb)
  have gG:upd H A.G (.dK (dg (Eu S p.name dd).g ls)) A.G=some (.dK (dg (Eu S p.name dd).g ls)):=au
  change yP _ _ _ _ (upd H A.G (.dK (dg (Eu S p.name dd).g ls)))
  generalize upd H A.G (.dK (dg (Eu S p.name dd).g ls))=H1 at m1 gG ⊢
  have g1:∀{b:Addr} {u:HO},H b=some u->(∀ks,u≠.dK ks)->H1 b=some u:=fun {b u} h hu=>by
   rw [m1 b (by rw [List.mem_singleton];rintro rfl;rw [hG] at h;exact hu _ (Option.some.inj h).symm)]
   exact h
  have hlr:rs.length=dd.gv.length:=by have:=Paired.length hT;rw [lM] at this;exact this
  have eE1:H1 A.E=some (.dK (S9 A.ea ls)):=by rw [m1 A.E (by simpa using nEG)];exact W.ever
  have lists1:∀l∈ls,H1 (A.ea l.name)=some (.lst ((S.ev l.name).map V.int)):=fun l hl=>g1 (W.lists l hl) (by intro _ z;cases z)
  have nM:∀{b:Addr} {u:HO},H1 b=some u->(∀ks,u≠.lst ks)->b∉ls.map (fun l=>A.ea l.name):=fun {b u} h hu hm=>by
   obtain⟨l,hl,rfl⟩:=List.mem_map.mp hm
   rw [lists1 l hl] at h
   exact hu _ (Option.some.inj h).symm
  refine⟨_,rfl,U,_,1,_,rfl,rfl,eN.of (g1 hU (by intro _ z;cases z)),aJ (j:=1) rfl,Lg,rfl,⟨_,bF.of (g1 hLg (by intro _ z;cases z))⟩,cX (K:=K) (a:=Lg) (xs:=rs.map V.ref) (fun j σ H'=>(Fj (ls.map (fun l=>A.ea l.name)) H1 H'/\∀l∈ls,H' (A.ea l.name)=some (.lst ((S.ev l.name ++ ((dd.gv.take j).filter fun q=>decide (q.1=l.name)).map (·.2)).map V.int)))/\∃v3 v4,σ=[some (.ref A.f),some (.str p.name),some (.ref U),v3,v4]) ⟨⟨fun _ _=>rfl,fun l hl=>?_⟩,v3,none,rfl⟩ ?_ ?_ ?_⟩
  ·rw [lists1 l hl]
   simp
  ·rintro j σ H' _ ⟨⟨m2,_⟩,_⟩
   exact bF.of (by rw [m2 Lg ng.2.2.2.2.2.1];exact g1 hLg (by intro _ z;cases z))
  ·rintro j x σ H' hx ⟨⟨m2,l2⟩,v3,v4,rfl⟩
   rw [List.getElem?_map] at hx
   obtain⟨r,hr',rfl⟩:=Option.map_eq_some_iff.mp hx
   obtain⟨vs2,z1,z2⟩:=oN hT hr'
   rw [List.getElem?_map] at z1
   obtain⟨w,ew,rfl⟩:=Option.map_eq_some_iff.mp z1
   have hj:=(List.getElem?_eq_some_iff.mp ew).1
   have er:=g1 z2 (by intro _ z;cases z)
   have er':H' r=some (.tup [.str w.1,.int w.2]):=by rw [m2 r (nM er (by intro _ z;cases z))];exact er
   have fe:H' A.f=some (.ins t.bY dx fs):=by
    have e1:=g1 h1 (by intro _ z;cases z)
    rw [m2 A.f (nM e1 (by intro _ z;cases z))]
    exact e1
   have ee:H' A.E=some (.dK (S9 A.ea ls)):=by rw [m2 A.E nEE];exact eE1
   obtain⟨l,hl',hln⟩:=List.mem_map.mp (hout w (List.mem_of_getElem? ew))
   have va:=Bv (ea:=A.ea) F.whole.nod hl'
   have ea:=l2 _ hl'
   rw [hln] at va
   refine⟨r,_,rfl,eN.of er',rfl,_,_,rfl,_,_,rfl,rfl,?_⟩
   refine⟨_,rfl,A.f,_,dx,fs,_,rfl,fe,T.aU.c,T.aU.na.2.1,h2.has ("ever",.ref A.E) (by simp),_,rfl,A.E,.ref (A.ea w.1),rfl,(by rw [<-va];exact eE.k (k:=Sum.inr w.1) ee),.inl ⟨rfl,_,bF.of (by rw [<-hln];exact ea)⟩,?_⟩
   refine⟨_,rfl,A.ea w.1,_,.int w.2,rfl,rfl,by rw [<-hln];exact ea,?_,⟨fun b hb=>?_,fun l1 hl1=>?_⟩,some (.str w.1),some (.int w.2),rfl⟩
   ·have h3:=O l hl'
    have h4:=List.length_filter_le (fun q:Str×Int=>decide (q.1=l.name)) (dd.gv.take j)
    rw [List.length_take] at h4
    rw [lM,lP,lM]
    omega
   ·rw [aK (fun z=>hb (by rw [z,<-hln];exact List.mem_map.mpr ⟨l,hl',rfl⟩))]
    exact m2 b hb
   ·rw [List.take_succ,ew,Option.toList_some,List.filter_append,List.map_append]
    by_cases h:w.1=l1.name
    ·have e:l1=l:=by
      have a1:=find_name F.whole.nod hl1
      have a2:=find_name F.whole.nod hl'
      rw [<-h,<-hln,a2] at a1
      exact(Option.some.inj a1).symm
     subst e
     rw [<-hln,au]
     simp [h]
    ·have hne:A.ea l1.name≠A.ea w.1:=fun z=>by
      rw [<-hln] at z
      have:=KQ nE1 hl1 hl' z
      exact h (by rw [this,hln])
     rw [aK hne,l2 l1 hl1]
     simp [h]
  rintro σ H2 ⟨⟨m2,l2⟩,v5,v6,rfl⟩
  rw [lM,hlr,List.take_length] at l2
  have fe:H2 A.f=some (.ins t.bY dx fs):=by
   have e1:=g1 h1 (by intro _ z;cases z)
   rw [m2 A.f (nM e1 (by intro _ z;cases z))]
   exact e1
  have uE:H2 U=some (.tup [.ref La,.ref Lg,.int dd.kv]):=by
   have e1:=g1 hU (by intro _ z;cases z)
   rw [m2 U (nM e1 (by intro _ z;cases z))]
   exact e1
  have kE:H2 A.Kp=some (.dK (bZ S.k ps)):=by rw [m2 A.Kp nKE,m1 A.Kp (by simpa using Ne.symm nGK)];exact W.kept
  have dE:H2 A.D=some (.dK (bZ (fun x=>(S.d x:Int)) ps)):=by rw [m2 A.D nDE,m1 A.D (by simpa using Ne.symm nGD)];exact W.done
  have lk:∀k1:Str->Int,(bZ k1 ps).length <sizeLine:=fun k1=>by unfold bZ;rw [lM];omega
  have hpn:p.name∈ps.map (·.name):=List.mem_map.mpr ⟨p,hp,rfl⟩
  refine⟨_,rfl,U,_,2,_,rfl,rfl,eN.of uE,aJ (j:=2) rfl,_,rfl,A.f,_,dx,fs,_,rfl,fe,T.aU.c,T.aU.na.2.2.2.1,h2.has ("kept",.ref A.Kp) (by simp),_,rfl,A.Kp,_,rfl,o9.k (k:=Sum.inr p.name) kE (lk _),?_⟩
  rw [Gf S.k hpn]
  have m3:Fj [A.Kp] H2 (upd H2 A.Kp (.dK (bZ (fun y=>if y=p.name then dd.kv else S.k y) ps))):=fun b hb=>aK (by simpa using hb)
  have kE3:upd H2 A.Kp (.dK (bZ (fun y=>if y=p.name then dd.kv else S.k y) ps)) A.Kp=some (.dK (bZ (fun y=>if y=p.name then dd.kv else S.k y) ps)):=au
  generalize upd H2 A.Kp (.dK (bZ (fun y=>if y=p.name then dd.kv else S.k y) ps))=H3 at m3 kE3 ⊢
  have fe3:H3 A.f=some (.ins t.bY dx fs):=by rw [m3 A.f (by simpa using ww fe kE (by intro z;cases z))];exact fe
  have dE3:H3 A.D=some (.dK (bZ (fun x=>(S.d x:Int)) ps)):=by rw [m3 A.D (by simpa using Ne.symm nKD)];exact dE
  have vd:=u5 (k:=fun x=>(S.d x:Int)) F.pnd hp
  refine⟨_,rfl,A.f,_,dx,fs,_,rfl,fe3,T.aU.c,T.aU.na.2.2.2.2.1,h2.has ("done",.ref A.D) (by simp),_,rfl,A.D,.int (S.d p.name:Int),rfl,(by rw [<-vd];exact eE.k (k:=Sum.inr p.name) dE3),_,_,rfl,rfl,_,o9.k (k:=Sum.inr p.name) dE3 (lk _),?_⟩
  rw [Gf (fun x=>(S.d x:Int)) hpn]
  have eD:(fun y=>if y=p.name then(S.d p.name:Int)+1 else(S.d y:Int))=fun x=>(((Eu S p.name dd).d x:Nat):Int):=by
   funext y
   unfold Eu
   by_cases h:y=p.name
   ·subst h;simp
   ·simp [h]
  change Q .non (upd H3 A.D (.dK (bZ (fun y=>if y=p.name then(S.d p.name:Int)+1 else(S.d y:Int)) ps)))
  rw [eD]
  have m4:Fj [A.D] H3 (upd H3 A.D (.dK (bZ (fun x=>(((Eu S p.name dd).d x:Nat):Int)) ps))):=fun b hb=>aK (by simpa using hb)
  have dE4:upd H3 A.D (.dK (bZ (fun x=>(((Eu S p.name dd).d x:Nat):Int)) ps)) A.D=some (.dK (bZ (fun x=>(((Eu S p.name dd).d x:Nat):Int)) ps)):=au
  generalize upd H3 A.D (.dK (bZ (fun x=>(((Eu S p.name dd).d x:Nat):Int)) ps))=H4 at m4 dE4 ⊢
  have mv:∀b,b≠A.D->b≠A.Kp->H4 b=H2 b:=fun b a1 a2=>by rw [m4 b (by simpa using a1),m3 b (by simpa using a2)]
  have fe4:H4 A.f=some (.ins t.bY dx fs):=by rw [m4 A.f (by simpa using ww fe3 dE3 (by intro z;cases z))];exact fe3
  refine k H4 (fun b hb=>?_) ⟨⟨dx,fs,fe4,h2⟩,?_,?_,?_,?_,dE4,?_,?_,W.nod⟩
  ·unfold mZ.cells at hb
   simp only [List.mem_cons,List.mem_append,not_or] at hb
   rw [mv b hb.2.2.2.1 hb.2.2.1,m2 b hb.2.2.2.2.2.1,m1 b (by simpa using hb.2.1)]
  ·rw [mv A.E nED nEK,m2 A.E nEE,eE1]
  ·intro l hl
   have a2:=l2 l hl
   rw [mv _ (ww a2 dE (by intro z;cases z)) (ww a2 kE (by intro z;cases z))]
   exact a2
  ·rw [mv A.G nGD nGK,m2 A.G nGE,gG]
  ·rw [m4 A.Kp (by simpa using nKD)]
   exact kE3
  ·rw [mv A.Rw (Ne.symm nDR) (Ne.symm nKR),m2 A.Rw nRE,m1 A.Rw (by simpa using Ne.symm nGR)]
   exact W.rows
  ·intro p' hp' h0
   have hm:A.ra p'.name∈(pZ ps).map (fun p=>A.ra p.name):=List.mem_map.mpr ⟨p',List.mem_filter.mpr ⟨hp',by simp [h0]⟩,rfl⟩
   rw [mv _ (fun z=>nD2 (by rw [<-z];exact hm)) (fun z=>nK2 (by rw [<-z];exact hm)),m2 _ (fun z=>nER1 _ z _ hm rfl),m1 _ (by simpa using fun z=>nG2 (by rw [<-z];exact hm))]
   exact W.rlst p' hp' h0
theorem R4 (T:Txt w K mg t) (i:Nat):MethAt P w K mg base Ce 1 (cls t i) "start" (uC K t i):=match i with
 | 0=>⟨_,_,_,T.iR.c,(T.bH.me T.iR.me.2.2.2.2.2.1),T.bH.b,(dz T).imp fun _ _ _ _ h=>⟨_,by omega,h⟩⟩
 | 1=>⟨_,_,_,T.iC.c,(T.bH.me T.iC.me.2.2.2.2.2.1),T.bH.b,(dz T).imp fun _ _ _ _ h=>⟨_,by omega,h⟩⟩
 | 2=>⟨_,_,_,T.iH.c,(T.bH.me T.iH.me.2.2.2.2.2.1),T.bH.b,(dz T).imp fun _ _ _ _ h=>⟨_,by omega,h⟩⟩
 | 3=>⟨_,_,_,T.iD.c,(T.bH.me T.iD.me.2.2.2.2.2.1),T.bH.b,(dz T).imp fun _ _ _ _ h=>⟨_,by omega,h⟩⟩
 | 4=>⟨_,_,_,T.iK.c,(T.bH.me T.iK.me.2.2.2.2.2.1),T.bH.b,(dz T).imp fun _ _ _ _ h=>⟨_,by omega,h⟩⟩
 | 5=>⟨_,_,_,T.iB.c,(T.mU.me T.iB.me.2.2.2.2.2.1),T.mU.b,EY T⟩
 | 6=>⟨_,_,_,T.lE.c,(T.bH.me T.lE.me.2.2.2.2.2.1),T.bH.b,(dz T).imp fun _ _ _ _ h=>⟨_,by omega,h⟩⟩
 | 7=>⟨_,_,_,T.iJ.c,(T.bH.me T.iJ.me.2.2.2.2.2.1),T.bH.b,(dz T).imp fun _ _ _ _ h=>⟨_,by omega,h⟩⟩
 | 8=>⟨_,_,_,T.fK.c,(T.bH.me T.fK.me.2.2.2.2.2.1),T.bH.b,(dz T).imp fun _ _ _ _ h=>⟨_,by omega,h⟩⟩
 | 9=>⟨_,_,_,T.dY.c,(T.bH.me T.dY.me.2.2.2.2.2.1),T.bH.b,(dz T).imp fun _ _ _ _ h=>⟨_,by omega,h⟩⟩
 | n+10=>⟨_,_,_,T.fO.c,(T.bH.me T.fO.me.2.2.2.2.2.1),T.bH.b,(dz T).imp fun _ _ _ _ h=>⟨_,by omega,h⟩⟩
theorem Ui:∀i,i <11->eG i= "give" ->i=0:=by decide +kernel
theorem PP (p:PD) (h:tM p):Ht p.kind (p.nums.map V.int)=.int (Iw p):=by
 unfold Ht Iw
 by_cases h5:p.kind=5
 ·rw [if_pos h5,if_pos h5]
  have hl:p.nums.length=1:=by rw [h.2.1,h5];rfl
  match p.nums,hl with
  | [m],_=>rfl
 ·rw [if_neg h5,if_neg h5]
noncomputable def Ny (ls:List aG) (x:Str):List Int:=((ls.find? fun l=>decide (l.name=x)).map (·.first)).getD []
theorem Cu {ls:List aG} (nd:(ls.map (·.name)).Nodup) {l:aG} (hl:l∈ls):Ny ls l.name=l.first:=by
 unfold Ny
 rw [find_name nd hl]
 rfl
noncomputable def gU (RW:List (Str×Addr×List Int)):List (Key×V):=RW.map fun q=>((Sum.inr q.1:Key),V.ref q.2.1)
noncomputable def vC (RW:List (Str×Addr×List Int)) (x:Str):List Int:=((RW.find? fun q=>decide (q.1=x)).map (·.2.2)).getD []
structure nZ (H:Hp) (rw:Addr) (RW:List (Str×Addr×List Int)):Prop where
 dict:H rw=some (.dK (gU RW))
 lists:∀q∈RW,H q.2.1=some (.lst (q.2.2.map V.int))
 nd:(RW.map (·.1)).Nodup
 len:∀q∈RW,q.2.2.length<=300
theorem nZ.same {H H':Hp} {rw:Addr} {RW:List (Str×Addr×List Int)} (h:nZ H rw RW) (s:aM H H'):nZ H' rw RW:=⟨s _ _ h.dict,fun q hq=>s _ _ (h.lists q hq),h.nd,h.len⟩
theorem wL (RW:List (Str×Addr×List Int)):(gU RW).map (·.1)=(RW.map (·.1)).map (fun x=>(Sum.inr x:Key)):=by unfold gU;rw [List.map_map,List.map_map];rfl
theorem nZ.get {H:Hp} {rw:Addr} {RW:List (Str×Addr×List Int)} (h:nZ H rw RW) (x:Str):(b8 (gU RW) (Sum.inr x)=none/\vC RW x=[])∨∃a,b8 (gU RW) (Sum.inr x)=some (.ref a)/\H a=some (.lst ((vC RW x).map V.int))/\(vC RW x).length<=300:=by
 by_cases hx:x∈RW.map (·.1)
 ·obtain⟨q,hq,rfl⟩:=List.mem_map.mp hx
  have e:vC RW q.1=q.2.2:=by unfold vC;rw [find_name (f:=fun q:Str×Addr×List Int=>q.1) h.nd hq];rfl
  refine .inr ⟨q.2.1,iQ (by rw [wL];exact fH h.nd) (List.mem_map.mpr ⟨q,hq,rfl⟩),?_,?_⟩
  ·rw [e];exact h.lists q hq
  ·rw [e];exact h.len q hq
 ·refine .inl ⟨iI (by rw [wL];intro z;obtain⟨b,hb,e⟩:=List.mem_map.mp z;cases e;exact hx hb),?_⟩
  unfold vC
  rw [List.find?_eq_none.mpr fun q hq=>by simpa using fun e=>hx (List.mem_map.mpr ⟨q,hq,e⟩)]
  rfl
noncomputable def mq (ls:List aG) (ps:List PD) (RW:List (Str×Addr×List Int)):FS:=⟨Ny ls,fun _=>0,fY ps,fun _=>0,vC RW⟩
noncomputable def Jx (RW:List (Str×Addr×List Int)) (RL:List (PD×Addr)):List (Addr×HO):=RL.map fun q=>(q.2,HO.lst ((vC RW q.1.name).map V.int))
theorem Ql {ps:List PD} (h:∀p∈ps,tM p):(ps.filter fun p=>decide (eG p.kind= "give"))=pZ ps:=by
 unfold pZ
 refine List.filter_congr fun p hp=>?_
 by_cases h0:p.kind=0
 ·rw [h0];rfl
 ·have:¬eG p.kind= "give" :=fun z=>h0 (Ui _ (h p hp).1 z)
  simp [h0,this]
noncomputable def JB {α:Type} (f:α->Str) (L:List (α×Addr)) (x:Str):Addr:=((L.find? fun q=>decide (f q.1=x)).map (·.2)).getD 0
theorem uh {α:Type} {f:α->Str} {L:List (α×Addr)} (nd:(L.map fun q=>f q.1).Nodup) {q:α×Addr} (hq:q∈L):JB f L (f q.1)=q.2:=by
 unfold JB
 rw [find_name (f:=fun q:α×Addr=>f q.1) nd hq]
 rfl
theorem Gx {α:Type} {f:α->Str} {L:List (α×Addr)} (nd:(L.map fun q=>f q.1).Nodup):(L.map (·.1)).map (fun a=>JB f L (f a))=L.map (·.2):=by
 rw [List.map_map]
 exact List.map_congr_left fun q hq=>uh nd hq
inductive pC (K:PySem.W.Frag) (t:jy) (vs:List V) (H:Hp) (Q:VK):Prop where
 | mk:∀(H0:Hp) (f dx n rw:Addr) (ls:List aG) (ps:List PD) (RW:List (Str×Addr×List Int)),vs=[.ref f,.ref n,.ref rw]->H f=some (.ins t.bY dx [])->aM H0 H->H0 f=none->gA K t H0 n ls ps->nZ H0 rw RW->(∀H' A,A.f=f->A.n=n->lD f H H'->dU K t H' A ls ps (mq ls ps RW)->(∀a∈A.cells ls ps,H a=none)->Q .non H')->pC K t vs H Q
@[irreducible] noncomputable def f9 (K:PySem.W.Frag) (t:jy):Sp:=fun vs H Q _=>pC K t vs H Q
theorem zE (T:Txt w K mg t):FO P w K mg base 4 t.lY ["self", "net", "rows"] (f9 K t):=by
 have sc:=T.jw.sc ["self", "net", "rows", "lane", "name", "door"]
 refine T.jw.F.ok sc (fun vs H Q E h=>?_) (fun cdv A outer s H vs Q E hr h=>?_)
 ·unfold f9 at h
  obtain⟨H0,f,dx,n,rw,ls,ps,RW,rfl,_⟩:=h
  rfl
 ·unfold f9 at h
  obtain⟨H0,f,dx,n,rw,ls,ps,RW,rfl,hf,s0,nf0,N,hrw,k⟩:=h
  refine⟨_,(aq (ie (pv 0) (pv 1) rfl)
   (aq (ie (pv 0) gf rfl)
   (aq (ie (pv 0) gf rfl)
   (aq (dG PassesOwn.never rfl (bM (Om (pv 1) T.aQ T.aQ.me.2.1 (pL T) T.iW hr)) (gN sc 3)
    (aq (gM hr.u1 (bh (pv 0) rfl) (pv 3) (wK (pv 1) T.aQ T.aQ.me.2.2.2.2.2.2.2.2.1 (Bp T) T.oX hr (aa (pv 3) ak aj)) rfl)
    (aA (gM hr.u1 (bh (pv 0) rfl) (pv 3) az rfl))))
   (aq (ie (pv 0) gf rfl)
   (aq (ie (pv 0) gf rfl)
   (aq (dG PassesOwn.never rfl (bM (Om (pv 1) T.aQ T.aQ.me.2.2.1 (dC T) T.cD hr)) (gN sc 4)
    (aq (gM hr.u1 (bh (pv 0) rfl) (pv 4) (G3 (CX:=Ce) (k:=1) (E:=E0) (wK (pv 1) T.aQ T.aQ.me.2.2.2.2.2.2.2.2.2.2.2.1 (nC T) T.jj hr (aa (pv 4) ak aj)) (hr.mono (by decide)) ig) rfl)
    (aA (gM hr.u1 (bh (pv 0) rfl) (pv 4) az rfl))))
   (aq (ie (pv 0) gf rfl)
   (aA (dG PassesOwn.never rfl (bM (Om (pv 1) T.aQ T.aQ.me.2.2.2.2.1 (qW T) T.lG hr)) (gN sc 5)
    (aA (gM hr.u1 (bh (pv 0) rfl) (pv 5) (eY yM (by rfl) T.um pX (aa (QD hr.u1 (pv 2) (pv 5) (bz ak) ⟨rfl,rfl,rfl,rfl⟩) ak aZ)) rfl)))))))))))),?_⟩
  obtain⟨dxn,fsn,R,F,Pd,Gn,Tk,FL,PL,W⟩:=id N
  have hl:sizeLine=16777216:=sizeLine_eq
  have l24:=W.fit.l24
  have p16:=W.fit.p16
  have sk:∀{Hk:Hp},lD f H Hk->aM H0 Hk:=fun b x o e=>b x o (aD e nf0) (s0 x o e)
  have T0:=Tr.start hf
  refine⟨_,rfl,_,rfl,f,_,dx,[],rfl,hf,T.aU.c,T.aU.na.1,by show 0 <1000;decide,?_⟩
  have T1:=T0.put (L1:=[]) (L2:=[]) (o':=.ins t.bY dx (aH "net" (.ref n) []))
  generalize upd H f (.ins t.bY dx (aH "net" (.ref n) []))=H1 at T1 ⊢
  refine fun E nE=>?_
  have T2:=T1.new (o:=.dK []) nE
  generalize upd H1 E (.dK [])=H2 at T2 ⊢
  refine⟨_,rfl,f,_,dx,_,rfl,T2.all (f,_) (.head _),T.aU.c,T.aU.na.2.1,Nat.lt_of_le_of_lt (gO (Nat.zero_le 0)) (by decide),?_⟩
  have T3:=T2.put (L1:=[]) (o':=.ins t.bY dx (aH "ever" (.ref E) (aH "net" (.ref n) [])))
  generalize upd H2 f (.ins t.bY dx (aH "ever" (.ref E) (aH "net" (.ref n) [])))=H3 at T3 ⊢
  refine fun G nG=>?_
  have T4:=T3.new (o:=.dK []) nG
  generalize upd H3 G (.dK [])=H4 at T4 ⊢
  refine⟨_,rfl,f,_,dx,_,rfl,T4.all (f,_) (.head _),T.aU.c,T.aU.na.2.2.1,Nat.lt_of_le_of_lt (gO (gO (Nat.zero_le 0))) (by decide),?_⟩
  have T5:=T4.put (L1:=[]) (o':=.ins t.bY dx (aH "gone" (.ref G) (aH "ever" (.ref E) (aH "net" (.ref n) []))))
  generalize upd H4 f (.ins t.bY dx (aH "gone" (.ref G) (aH "ever" (.ref E) (aH "net" (.ref n) []))))=H5 at T5 ⊢
  have W5:=W.same (sk T5.but)
  refine⟨_,rfl,n,dxn,fsn,rfl,W5.obj,W5.fl.no _ (by decide +kernel),n,ls,ps,rfl,W5.s,fun l nl=>?_⟩
  have T6:Tr H f ((f,.ins t.bY dx (aH "gone" (.ref G) (aH "ever" (.ref E) (aH "net" (.ref n) [])))):: (E,.dK (bK [])):: (G,.dK (dg (fun _=>0) [])):: (l,.lst (ls.map fun x:aG=>V.str x.name)):: jW []) (upd H5 l (.lst (ls.map fun x:aG=>V.str x.name))):=T5.new nl
  generalize upd H5 l (.lst (ls.map fun x:aG=>V.str x.name))=H6 at T6 ⊢
  clear T0 T1 T2 T3 T4 T5 W5
  refine⟨l,rfl,⟨_,bF.of (T6.all (l,.lst (ls.map fun x:aG=>V.str x.name)) (by simp))⟩,cX (K:=K) (a:=l) (xs:=ls.map fun x:aG=>V.str x.name) (fun j σ H'=>(∃v3,σ=[some (.ref f),some (.ref n),some (.ref rw),v3,none,none])/\∃EL:List (aG×Addr),EL.map (·.1)=ls.take j/\Tr H f ((f,.ins t.bY dx (aH "gone" (.ref G) (aH "ever" (.ref E) (aH "net" (.ref n) [])))):: (E,.dK (bK EL)):: (G,.dK (dg (fun _=>0) (ls.take j))):: (l,.lst (ls.map fun x:aG=>V.str x.name)):: jW EL) H') ⟨⟨none,rfl⟩,[],rfl,T6⟩ (fun j σ H' _ ⟨_,_,_,T'⟩=>bF.of (T'.all (l,.lst (ls.map fun x:aG=>V.str x.name)) (by simp))) ?_ ?_⟩
  ·rintro j x σ H' hx ⟨⟨v3,rfl⟩,EL,eEL,T7⟩
   rw [List.getElem?_map] at hx
   obtain⟨ln,hlj,rfl⟩:=Option.map_eq_some_iff.mp hx
   have hm:=List.mem_of_getElem? hlj
   have hj:=(List.getElem?_eq_some_iff.mp hlj).1
   have nin:=oO W.fit.whole.nod hlj
   have vE:b8 (bK EL) (Sum.inr ln.name)=none:=iI (by rw [rO,eEL];intro z;obtain⟨b,hb,e⟩:=List.mem_map.mp z;cases e;exact nin hb)
   have vG:b8 (dg (fun _=>0) (ls.take j)) (Sum.inr ln.name)=none:=iI (by rw [Dm];intro z;obtain⟨b,hb,e⟩:=List.mem_map.mp z;cases e;exact nin hb)
   have tk:ls.take (j+1)=ls.take j ++ [ln]:=by rw [List.take_succ,hlj];rfl
   have lEL:EL.length<=24:=by have:=congrArg List.length eEL;rw [lM,List.length_take] at this;omega
   have W7:=W.same (sk T7.but)
   refine⟨_,rfl,n,dxn,fsn,rfl,W7.obj,W7.fl.no _ (by decide +kernel),_,rfl,n,ls,ps,ln.name,rfl,W7.s,.inl ⟨ln,hm,rfl,fun H8 le s8 nle ele=>?_⟩⟩
   have T8:Tr H f ((f,.ins t.bY dx (aH "gone" (.ref G) (aH "ever" (.ref E) (aH "net" (.ref n) [])))):: (E,.dK (bK EL)):: (G,.dK (dg (fun _=>0) (ls.take j))):: (l,.lst (ls.map fun x:aG=>V.str x.name)):: jW (EL ++ [(ln,le)])) H8:=by
    unfold jW
    rw [List.map_append]
    exact T7.got s8 nle ele
   refine⟨_,rfl,f,_,dx,_,_,rfl,T8.all (f,_) (.head _),T.aU.c,T.aU.na.2.1,(by (repeat first | (rw [aC,if_pos rfl];done) | rw [aC,if_neg (by decide +kernel)])),_,rfl,E,_,rfl,o9.k (k:=Sum.inr ln.name) (T8.all (E,.dK (bK EL)) (by simp)) (by unfold bK;rw [lM];omega),?_⟩
   have e8:putK (bK EL) (Sum.inr ln.name) (.ref le)=bK (EL ++ [(ln,le)]):=by rw [jL _ vE];unfold bK;rw [List.map_append];rfl
   rw [e8]
   have T9:=T8.put (L1:=[_]) (o':=.dK (bK (EL ++ [(ln,le)])))
   generalize upd H8 E (.dK (bK (EL ++ [(ln,le)])))=H9 at T9 ⊢
   refine⟨_,rfl,f,_,dx,_,_,rfl,T9.all (f,_) (.head _),T.aU.c,T.aU.na.2.2.1,(by (repeat first | (rw [aC,if_pos rfl];done) | rw [aC,if_neg (by decide +kernel)])),_,rfl,G,_,rfl,o9.k (k:=Sum.inr ln.name) (T9.all (G,.dK (dg (fun _=>0) (ls.take j))) (by simp)) (by unfold dg;rw [lM,List.length_take];omega),?_⟩
   have e9:putK (dg (fun _=>0) (ls.take j)) (Sum.inr ln.name) (.int 0)=dg (fun _=>0) (ls.take (j+1)):=by rw [jL _ vG,tk];unfold dg;rw [List.map_append];rfl
   rw [e9]
   have TA:=T9.put (L1:=[_,_]) (o':=.dK (dg (fun _=>0) (ls.take (j+1))))
   exact⟨⟨_,rfl⟩,EL ++ [(ln,le)],by rw [List.map_append,eEL,tk];rfl,TA⟩
  rintro σ H7 ⟨⟨v3,rfl⟩,EL,eEL,T7⟩
  rw [lM,List.take_length] at eEL T7
  have T7:Tr H f ((f,.ins t.bY dx (aH "gone" (.ref G) (aH "ever" (.ref E) (aH "net" (.ref n) [])))):: (E,.dK (bK EL)):: (G,.dK (dg (fun _=>0) ls)):: jW EL) H7:=T7.sub (.cons₂ _ (.cons₂ _ (.cons₂ _ (.cons _ (List.Sublist.refl _))))) ⟨_,.head _⟩
  clear T6
  refine fun Kp nKp=>?_
  have T8:Tr H f ((f,.ins t.bY dx (aH "gone" (.ref G) (aH "ever" (.ref E) (aH "net" (.ref n) [])))):: (E,.dK (bK EL)):: (G,.dK (dg (fun _=>0) ls)):: (Kp,.dK []):: jW EL) (upd H7 Kp (.dK [])):=(T7.new nKp).perm (.cons _ (.cons _ (.cons _ (List.perm_append_singleton _ _))))
  generalize upd H7 Kp (.dK [])=H8 at T8 ⊢
  refine⟨_,rfl,f,_,dx,_,rfl,T8.all (f,_) (.head _),T.aU.c,T.aU.na.2.2.2.1,Nat.lt_of_le_of_lt (gO (gO (gO (Nat.zero_le 0)))) (by decide),?_⟩
  have T9:=T8.put (L1:=[]) (o':=.ins t.bY dx (aH "kept" (.ref Kp) (aH "gone" (.ref G) (aH "ever" (.ref E) (aH "net" (.ref n) [])))))
  generalize upd H8 f (.ins t.bY dx (aH "kept" (.ref Kp) (aH "gone" (.ref G) (aH "ever" (.ref E) (aH "net" (.ref n) [])))))=H9 at T9 ⊢
  refine fun D nD=>?_
  have TA:Tr H f ((f,.ins t.bY dx (aH "kept" (.ref Kp) (aH "gone" (.ref G) (aH "ever" (.ref E) (aH "net" (.ref n) []))))):: (E,.dK (bK EL)):: (G,.dK (dg (fun _=>0) ls)):: (Kp,.dK []):: (D,.dK []):: jW EL) (upd H9 D (.dK [])):=(T9.new nD).perm (.cons _ (.cons _ (.cons _ (.cons _ (List.perm_append_singleton _ _)))))
  generalize upd H9 D (.dK [])=HA at TA ⊢
  refine⟨_,rfl,f,_,dx,_,rfl,TA.all (f,_) (.head _),T.aU.c,T.aU.na.2.2.2.2.1,Nat.lt_of_le_of_lt (gO (gO (gO (gO (Nat.zero_le 0))))) (by decide),?_⟩
  have TB:=TA.put (L1:=[]) (o':=.ins t.bY dx (aH "done" (.ref D) (aH "kept" (.ref Kp) (aH "gone" (.ref G) (aH "ever" (.ref E) (aH "net" (.ref n) []))))))
  generalize upd HA f (.ins t.bY dx (aH "done" (.ref D) (aH "kept" (.ref Kp) (aH "gone" (.ref G) (aH "ever" (.ref E) (aH "net" (.ref n) []))))))=HB at TB ⊢
  have WB:=W.same (sk TB.but)
  refine⟨_,rfl,n,dxn,fsn,rfl,WB.obj,WB.fl.no _ (by decide +kernel),n,ls,ps,rfl,WB.s,fun m nm=>?_⟩
  have TC:Tr H f ((f,.ins t.bY dx (aH "done" (.ref D) (aH "kept" (.ref Kp) (aH "gone" (.ref G) (aH "ever" (.ref E) (aH "net" (.ref n) [])))))):: (E,.dK (bK EL)):: (G,.dK (dg (fun _=>0) ls)):: (Kp,.dK (bZ (fY ps) [])):: (D,.dK (bZ (fun _=>0) [])):: (m,.lst (ps.map fun x:PD=>V.str x.name)):: jW EL) (upd HB m (.lst (ps.map fun x:PD=>V.str x.name))):=(TB.new nm).perm (.cons _ (.cons _ (.cons _ (.cons _ (.cons _ (List.perm_append_singleton _ _))))))
  generalize upd HB m (.lst (ps.map fun x:PD=>V.str x.name))=HC at TC ⊢
  clear T7 T8 T9 TA TB WB
  refine⟨m,rfl,⟨_,bF.of (TC.all (m,.lst (ps.map fun x:PD=>V.str x.name)) (by simp))⟩,cX (K:=K) (a:=m) (xs:=ps.map fun x:PD=>V.str x.name) (fun j σ H'=>(∃v4,σ=[some (.ref f),some (.ref n),some (.ref rw),v3,v4,none])/\Tr H f ((f,.ins t.bY dx (aH "done" (.ref D) (aH "kept" (.ref Kp) (aH "gone" (.ref G) (aH "ever" (.ref E) (aH "net" (.ref n) [])))))):: (E,.dK (bK EL)):: (G,.dK (dg (fun _=>0) ls)):: (Kp,.dK (bZ (fY ps) (ps.take j))):: (D,.dK (bZ (fun _=>0) (ps.take j))):: (m,.lst (ps.map fun x:PD=>V.str x.name)):: jW EL) H') ⟨⟨none,rfl⟩,TC⟩ (fun j σ H' _ ⟨_,T'⟩=>bF.of (T'.all (m,.lst (ps.map fun x:PD=>V.str x.name)) (by simp))) ?_ ?_⟩
  ·rintro j x σ H' hx ⟨⟨v4,rfl⟩,T7⟩
   rw [List.getElem?_map] at hx
   obtain⟨p,hpj,rfl⟩:=Option.map_eq_some_iff.mp hx
   have hm:=List.mem_of_getElem? hpj
   have hj:=(List.getElem?_eq_some_iff.mp hpj).1
   have nin:=oO W.fit.pnd hpj
   have vK:∀k0:Str->Int,b8 (bZ k0 (ps.take j)) (Sum.inr p.name)=none:=fun k0=>iI (by rw [Em];intro z;obtain⟨b,hb,e⟩:=List.mem_map.mp z;cases e;exact nin hb)
   have tk:ps.take (j+1)=ps.take j ++ [p]:=by rw [List.take_succ,hpj];rfl
   have so:fY ps p.name=Iw p:=by unfold fY Iw;rw [find_name W.fit.pnd hm];rfl
   have W7:=W.same (sk T7.but)
   refine⟨_,rfl,n,dxn,fsn,rfl,W7.obj,W7.fl.no _ (by decide +kernel),_,rfl,n,ls,ps,p.name,rfl,W7.s,.inl ⟨p,hm,rfl,fun H8 q s8 P8=>?_⟩⟩
   have T8:=T7.same s8
   obtain⟨dxp,tn,ti,to,p1,p2,p3,p4⟩:=id P8.ex
   refine⟨q,cls t p.kind,dxp,_,uC K t p.kind,rfl,p1,u0 _ _ _ _ (by decide +kernel) (by decide +kernel) (by decide +kernel) (by decide +kernel),R4 T p.kind,q,_,_,_,_,rfl,P8,by rw [lM];exact(W.fit.pok p hm).2.1,?_⟩
   rw [PP p (W.fit.pok p hm),<-so]
   refine⟨_,rfl,f,_,dx,_,_,rfl,T8.all (f,_) (.head _),T.aU.c,T.aU.na.2.2.2.1,(by (repeat first | (rw [aC,if_pos rfl];done) | rw [aC,if_neg (by decide +kernel)])),_,rfl,Kp,_,rfl,o9.k (k:=Sum.inr p.name) (T8.all (Kp,.dK (bZ (fY ps) (ps.take j))) (by simp)) (by unfold bZ;rw [lM,List.length_take];omega),?_⟩
   have e8:∀k0:Str->Int,putK (bZ k0 (ps.take j)) (Sum.inr p.name) (.int (k0 p.name))=bZ k0 (ps.take (j+1)):=fun k0=>by rw [jL _ (vK k0),tk];unfold bZ;rw [List.map_append];rfl
   rw [e8]
   have T9:=T8.put (L1:=[_,_,_]) (o':=.dK (bZ (fY ps) (ps.take (j+1))))
   generalize upd H8 Kp (.dK (bZ (fY ps) (ps.take (j+1))))=H9 at T9 ⊢
   refine⟨_,rfl,f,_,dx,_,_,rfl,T9.all (f,_) (.head _),T.aU.c,T.aU.na.2.2.2.2.1,(by (repeat first | (rw [aC,if_pos rfl];done) | rw [aC,if_neg (by decide +kernel)])),_,rfl,D,_,rfl,o9.k (k:=Sum.inr p.name) (T9.all (D,.dK (bZ (fun _=>0) (ps.take j))) (by simp)) (by unfold bZ;rw [lM,List.length_take];omega),?_⟩
   rw [e8 fun _=>0]
   exact⟨⟨_,rfl⟩,T9.put (L1:=[_,_,_,_])⟩
  rintro σ HD ⟨⟨v4,rfl⟩,TD⟩
  rw [lM,List.take_length] at TD
  have TD:Tr H f ((f,.ins t.bY dx (aH "done" (.ref D) (aH "kept" (.ref Kp) (aH "gone" (.ref G) (aH "ever" (.ref E) (aH "net" (.ref n) [])))))):: (E,.dK (bK EL)):: (G,.dK (dg (fun _=>0) ls)):: (Kp,.dK (bZ (fY ps) ps)):: (D,.dK (bZ (fun _=>0) ps)):: jW EL) HD:=TD.sub (.cons₂ _ (.cons₂ _ (.cons₂ _ (.cons₂ _ (.cons₂ _ (.cons _ (List.Sublist.refl _))))))) ⟨_,.head _⟩
  clear TC
  refine fun Rw nRw=>?_
  have TE:Tr H f ((f,.ins t.bY dx (aH "done" (.ref D) (aH "kept" (.ref Kp) (aH "gone" (.ref G) (aH "ever" (.ref E) (aH "net" (.ref n) [])))))):: (E,.dK (bK EL)):: (G,.dK (dg (fun _=>0) ls)):: (Kp,.dK (bZ (fY ps) ps)):: (D,.dK (bZ (fun _=>0) ps)):: (Rw,.dK []):: jW EL) (upd HD Rw (.dK [])):=(TD.new nRw).perm (.cons _ (.cons _ (.cons _ (.cons _ (.cons _ (List.perm_append_singleton _ _))))))
  generalize upd HD Rw (.dK [])=HE at TE ⊢
  refine⟨_,rfl,f,_,dx,_,rfl,TE.all (f,_) (.head _),T.aU.c,T.aU.na.2.2.2.2.2.1,Nat.lt_of_le_of_lt (gO (gO (gO (gO (gO (Nat.zero_le 0)))))) (by decide),?_⟩
  have TF:=TE.put (L1:=[]) (o':=.ins t.bY dx (aH "rows" (.ref Rw) (aH "done" (.ref D) (aH "kept" (.ref Kp) (aH "gone" (.ref G) (aH "ever" (.ref E) (aH "net" (.ref n) [])))))))
  generalize upd HE f (.ins t.bY dx (aH "rows" (.ref Rw) (aH "done" (.ref D) (aH "kept" (.ref Kp) (aH "gone" (.ref G) (aH "ever" (.ref E) (aH "net" (.ref n) [])))))))=HF at TF ⊢
  have WF:=W.same (sk TF.but)
  refine⟨_,rfl,n,dxn,fsn,rfl,WF.obj,WF.fl.no _ (by decide +kernel),n,ls,ps,rfl,WF.s,fun d nd=>?_⟩
  have TG:Tr H f ((f,.ins t.bY dx (aH "rows" (.ref Rw) (aH "done" (.ref D) (aH "kept" (.ref Kp) (aH "gone" (.ref G) (aH "ever" (.ref E) (aH "net" (.ref n) []))))))):: (E,.dK (bK EL)):: (G,.dK (dg (fun _=>0) ls)):: (Kp,.dK (bZ (fY ps) ps)):: (D,.dK (bZ (fun _=>0) ps)):: (Rw,.dK []):: (d,.lst (dW ps "give")):: jW EL) (upd HF d (.lst (dW ps "give"))):=(TF.new nd).perm (.cons _ (.cons _ (.cons _ (.cons _ (.cons _ (.cons _ (List.perm_append_singleton _ _)))))))
  generalize upd HF d (.lst (dW ps "give"))=HG at TG ⊢
  clear TD TE TF WF
  have lgv:=xn ps "give"
  have ndg:((ps.filter fun p=>decide (eG p.kind= "give")).map (·.name)).Nodup:=W.fit.pnd.sublist ((List.filter_sublist).map _)
  rw [Ql W.fit.pok] at ndg
  have ePg:dW ps "give" =(pZ ps).map fun p=>V.str p.name:=by unfold dW;rw [Ql W.fit.pok]
  rw [ePg] at TG
  have lgP:(pZ ps).length<=16:=by have:=List.length_filter_le (fun p:PD=>decide (p.kind=0)) ps;unfold pZ;omega
  have TG:Tr H f ((f,.ins t.bY dx (aH "rows" (.ref Rw) (aH "done" (.ref D) (aH "kept" (.ref Kp) (aH "gone" (.ref G) (aH "ever" (.ref E) (aH "net" (.ref n) []))))))):: (E,.dK (bK EL)):: (G,.dK (dg (fun _=>0) ls)):: (Kp,.dK (bZ (fY ps) ps)):: (D,.dK (bZ (fun _=>0) ps)):: (Rw,.dK []):: (d,.lst ((pZ ps).map fun p=>V.str p.name)):: (jW EL ++ Jx RW [])) HG:=by
   unfold Jx
   rw [List.map_nil,List.append_nil]
   exact TG
  refine⟨d,rfl,⟨_,bF.of (TG.all (d,.lst ((pZ ps).map fun p=>V.str p.name)) (by simp))⟩,cX (K:=K) (a:=d) (xs:=(pZ ps).map fun p=>V.str p.name) (fun j σ H'=>(∃v5,σ=[some (.ref f),some (.ref n),some (.ref rw),v3,v4,v5])/\∃RL:List (PD×Addr),RL.map (·.1)=(pZ ps).take j/\Tr H f ((f,.ins t.bY dx (aH "rows" (.ref Rw) (aH "done" (.ref D) (aH "kept" (.ref Kp) (aH "gone" (.ref G) (aH "ever" (.ref E) (aH "net" (.ref n) []))))))):: (E,.dK (bK EL)):: (G,.dK (dg (fun _=>0) ls)):: (Kp,.dK (bZ (fY ps) ps)):: (D,.dK (bZ (fun _=>0) ps)):: (Rw,.dK (RL.map fun q=>((Sum.inr q.1.name:Key),V.ref q.2))):: (d,.lst ((pZ ps).map fun p=>V.str p.name)):: (jW EL ++ Jx RW RL)) H') ⟨⟨none,rfl⟩,[],rfl,TG⟩ (fun j σ H' _ ⟨_,_,_,T7⟩=>bF.of (T7.all (d,.lst ((pZ ps).map fun p=>V.str p.name)) (by simp))) ?_ ?_⟩
  ·rintro j x σ H' hx ⟨⟨v5,rfl⟩,RL,eRL,T7⟩
   rw [List.getElem?_map] at hx
   obtain⟨p,hpj,rfl⟩:=Option.map_eq_some_iff.mp hx
   have nin:=oO ndg hpj
   have tk:(pZ ps).take (j+1)=(pZ ps).take j ++ [p]:=by rw [List.take_succ,hpj];rfl
   have vR:b8 (RL.map fun q=>((Sum.inr q.1.name:Key),V.ref q.2)) (Sum.inr p.name)=none:=iI (by
    rw [List.map_map]
    intro z
    obtain⟨q,hq,e⟩:=List.mem_map.mp z
    have hm:q.1∈RL.map (·.1):=List.mem_map.mpr ⟨q,hq,rfl⟩
    rw [eRL] at hm
    exact nin (List.mem_map.mpr ⟨q.1,hm,by injection e⟩))
   have lRL:RL.length<=16:=by
    have:=congrArg List.length eRL
    rw [lM,List.length_take] at this
    omega
   have rw7:=hrw.same (sk T7.but)
   refine⟨_,rfl,rw,rfl,.inl ⟨_,.inl rw7.dict⟩,_,rfl,iu,fun u nu=>?_⟩
   have tu:=aB (o:=.lst []) nu
   have xu:upd H' u (.lst []) u=some (.lst []):=au
   generalize upd H' u (.lst [])=H8 at tu xu ⊢
   have rw8:=rw7.same tu
   refine⟨_,eE.k (k:=Sum.inr p.name) rw8.dict,?_⟩
   obtain⟨y,ey,hy⟩:∃y:Addr,(b8 (gU RW) (Sum.inr p.name)).getD (V.ref u)=.ref y/\H8 y=some (.lst ((vC RW p.name).map V.int)):=by
    rcases rw8.get p.name with ⟨e1,e2⟩ | ⟨a,e1,e2,_⟩
    ·rw [e1,e2]
     exact⟨u,rfl,xu⟩
    ·rw [e1]
     exact⟨a,rfl,e2⟩
   refine⟨y,(vC RW p.name).map V.int,by rw [ey],.inl (bF.of hy),fun r nr=>?_⟩
   have T9:Tr H f ((f,.ins t.bY dx (aH "rows" (.ref Rw) (aH "done" (.ref D) (aH "kept" (.ref Kp) (aH "gone" (.ref G) (aH "ever" (.ref E) (aH "net" (.ref n) []))))))):: (E,.dK (bK EL)):: (G,.dK (dg (fun _=>0) ls)):: (Kp,.dK (bZ (fY ps) ps)):: (D,.dK (bZ (fun _=>0) ps)):: (Rw,.dK (RL.map fun q=>((Sum.inr q.1.name:Key),V.ref q.2))):: (d,.lst ((pZ ps).map fun p=>V.str p.name)):: (jW EL ++ Jx RW (RL ++ [(p,r)]))) (upd H8 r (.lst ((vC RW p.name).map V.int))):=by
    unfold Jx
    rw [List.map_append,<-List.append_assoc]
    exact(T7.same tu).new nr
   generalize upd H8 r (.lst ((vC RW p.name).map V.int))=H9 at T9 ⊢
   refine⟨_,rfl,f,_,dx,_,_,rfl,T9.all (f,_) (.head _),T.aU.c,T.aU.na.2.2.2.2.2.1,(by (repeat first | (rw [aC,if_pos rfl];done) | rw [aC,if_neg (by decide +kernel)])),_,rfl,Rw,_,rfl,o9.k (k:=Sum.inr p.name) (T9.all (Rw,.dK (RL.map fun q=>((Sum.inr q.1.name:Key),V.ref q.2))) (by simp)) (by rw [lM];omega),?_⟩
   rw [jL _ vR]
   refine⟨⟨_,rfl⟩,RL ++ [(p,r)],by rw [List.map_append,eRL,tk];rfl,?_⟩
   rw [List.map_append]
   exact T9.put (L1:=[_,_,_,_,_])
  rintro σ HH ⟨⟨v5,rfl⟩,RL,eRL,TH⟩
  rw [lM,List.take_length] at eRL
  have eo:=TH.all (f,.ins t.bY dx (aH "rows" (.ref Rw) (aH "done" (.ref D) (aH "kept" (.ref Kp) (aH "gone" (.ref G) (aH "ever" (.ref E) (aH "net" (.ref n) []))))))) (.head _)
  have nod:=TH.nod
  have fre:=TH.fre
  have nE:(EL.map fun q=>q.1.name).Nodup:=by
   have:(EL.map (·.1)).map (·.name)=EL.map fun q=>q.1.name:=by rw [List.map_map];rfl
   rw [<-this,eEL]
   exact W.fit.whole.nod
  have nR:(RL.map fun q=>q.1.name).Nodup:=by
   have:(RL.map (·.1)).map (·.name)=RL.map fun q=>q.1.name:=by rw [List.map_map];rfl
   rw [<-this,eRL]
   exact ndg
  let A:mZ:=⟨f,n,E,G,Kp,D,Rw,JB (·.name) EL,JB (·.name) RL⟩
  have mE:ls.map (fun l=>A.ea l.name)=EL.map (·.2):=by rw [<-eEL];exact Gx nE
  have mR:(pZ ps).map (fun p=>A.ra p.name)=RL.map (·.2):=by rw [<-eRL];exact Gx nR
  have eC:A.cells ls ps=E:: G:: Kp:: D:: Rw:: (EL.map (·.2) ++ RL.map (·.2)):=by unfold mZ.cells;rw [mE,mR]
  have e2:(jW EL ++ Jx RW RL).map Prod.fst=EL.map (·.2) ++ RL.map (·.2):=by unfold jW Jx;rw [List.map_append,List.map_map,List.map_map];rfl
  refine k HH A rfl rfl TH.but ⟨⟨dx,_,eo,⟨?_,?_⟩⟩,?_,fun l hl=>?_,TH.all (G,.dK (dg (fun _=>0) ls)) (by simp),TH.all (Kp,.dK (bZ (fY ps) ps)) (by simp),TH.all (D,.dK (bZ (fun _=>0) ps)) (by simp),?_,fun p hp h0=>?_,?_⟩ ?_
  ·intro q hq
   simp only [List.mem_cons,List.not_mem_nil,or_false] at hq
   rcases hq with rfl | rfl | rfl | rfl | rfl | rfl <;> (dsimp only;(repeat first | (rw [aC,if_pos rfl];done) | rw [aC,if_neg (by decide +kernel)]))
  ·intro m hm
   have hne:∀m∈(["holds", "held_now", "gone_by", "row_left", "head", "heads", "lacking", "row_ended", "deed", "do"]:List Str),∀g∈(["rows", "done", "kept", "gone", "ever", "net"]:List Str),¬m=g:=by decide +kernel
   have h:=hne m hm
   rw [aC,if_neg (h _ (by simp)),aC,if_neg (h _ (by simp)),aC,if_neg (h _ (by simp)),aC,if_neg (h _ (by simp)),aC,if_neg (h _ (by simp)),aC,if_neg (h _ (by simp))]
   rfl
  ·have:S9 A.ea ls=bK EL:=by
    unfold S9 bK
    rw [<-eEL,List.map_map]
    refine List.map_congr_left fun q hq=>?_
    show((Sum.inr q.1.name:Key),V.ref (A.ea q.1.name))=_
    rw [show A.ea q.1.name=q.2 from uh nE hq]
   rw [this]
   exact TH.all (E,.dK (bK EL)) (by simp)
  ·rw [<-eEL] at hl
   obtain⟨q,hq,rfl⟩:=List.mem_map.mp hl
   rw [show A.ea q.1.name=q.2 from uh nE hq]
   have hm:q.1∈ls:=by rw [<-eEL];exact List.mem_map.mpr ⟨q,hq,rfl⟩
   show HH q.2=some (.lst ((Ny ls q.1.name).map V.int))
   rw [Cu W.fit.whole.nod hm]
   exact TH.all (q.2,.lst (q.1.first.map V.int)) (Ga (List.mem_append.mpr (.inl (List.mem_map.mpr ⟨q,hq,rfl⟩))))
  ·have:K7 A.ra ps=RL.map fun q=>((Sum.inr q.1.name:Key),V.ref q.2):=by
    unfold K7
    rw [<-eRL,List.map_map]
    refine List.map_congr_left fun q hq=>?_
    show((Sum.inr q.1.name:Key),V.ref (A.ra q.1.name))=_
    rw [show A.ra q.1.name=q.2 from uh nR hq]
   rw [this]
   exact TH.all (Rw,.dK (RL.map fun q=>((Sum.inr q.1.name:Key),V.ref q.2))) (by simp)
  ·have hm:p∈RL.map (·.1):=by rw [eRL];exact List.mem_filter.mpr ⟨hp,by simp [h0]⟩
   obtain⟨q,hq,rfl⟩:=List.mem_map.mp hm
   rw [show A.ra q.1.name=q.2 from uh nR hq]
   exact TH.all (q.2,.lst ((vC RW q.1.name).map V.int)) (Ga (List.mem_append.mpr (.inr (List.mem_map.mpr ⟨q,hq,rfl⟩))))
  ·rw [eC,<-e2]
   exact nod.sublist (List.Sublist.cons _ (.cons₂ _ (.cons₂ _ (.cons₂ _ (.cons₂ _ (.cons₂ _ (.cons _ (List.Sublist.refl _))))))))
  ·intro a ha
   rw [eC,<-e2] at ha
   have h2:a∈(((E,.dK (bK EL)):: (G,.dK (dg (fun _=>0) ls)):: (Kp,.dK (bZ (fY ps) ps)):: (D,.dK (bZ (fun _=>0) ps)):: (Rw,.dK (RL.map fun q=>((Sum.inr q.1.name:Key),V.ref q.2))):: (d,.lst ((pZ ps).map fun p=>V.str p.name)):: (jW EL ++ Jx RW RL):List (Addr×HO))).map Prod.fst:=
    (List.Sublist.cons₂ E (.cons₂ G (.cons₂ Kp (.cons₂ D (.cons₂ Rw (.cons d (List.Sublist.refl _))))))).subset ha
   have hne:a≠f:=fun z=>by
    rw [List.map_cons,List.nodup_cons] at nod
    exact nod.1 (by rw [<-z];exact h2)
   obtain⟨q,hq,hqa⟩:=List.mem_map.mp h2
   have:=fre q (List.mem_cons_of_mem _ hq)
   rw [hqa] at this
   exact this.resolve_left hne
theorem Ox {α:Type} {p:α->Bool} {xs:List α} {j:Nat} {x:α} (h:(xs.take j).find? p=none) (hx:xs[j]?=some x):if p x=true then xs.find? p=some x else(xs.take (j+1)).find? p=none:=by
 split
 ·rename_i e
  have hj:=(List.getElem?_eq_some_iff.mp hx)
  have e2:xs=xs.take j ++ x:: xs.drop (j+1):=by
   rw [<-hj.2,<-List.drop_eq_getElem_cons hj.1,List.take_append_drop]
  rw [e2,List.find?_append,h,List.find?_cons_of_pos e]
  rfl
 ·rename_i e
  rw [List.take_succ,hx,Option.toList_some,List.find?_append,h,List.find?_cons_of_neg e]
  rfl
noncomputable def roomF (ls:List aG) (x:Str):Int:=((ls.find? fun l=>decide (l.name=x)).map (·.room)).getD 0
theorem Qw {ls:List aG} (nd:(ls.map (·.name)).Nodup) {l:aG} (hl:l∈ls):roomF ls l.name=l.room:=by
 unfold roomF
 rw [find_name nd hl]
 rfl
noncomputable def uJ (ls:List aG) (S:FS) (q:Str×Int):Bool:=decide (roomF ls q.1<=((S.ev q.1).length:Int) - (S.g q.1:Int))
noncomputable def yI (ls:List aG) (S:FS) (dd:my):V:=match dd.gv.find? (uJ ls S) with
 | some q=>.str q.1
 | none=>.non
inductive qK (K:PySem.W.Frag) (t:jy) (vs:List V) (H:Hp) (Q:VK) (E:XK):Prop where
 | mk:∀(r:Addr) (n:Nat) (A:mZ) (ls:List aG) (ps:List PD) (S:FS) (M:List Addr) (U:Addr) (dd:my),vs=[.ref r,.ref U]->oH t H r A.n A.f n->gA K t H A.n ls ps->dU K t H A ls ps S->mC M H U dd->((∀q∈dd.gv,q.1∈ls.map (·.name)))->(∀H',aM H H'->Q (yI ls S dd) H')->qK K t vs H Q E
theorem qH (T:Txt w K mg t):FO P w K mg base 4 t.mz ["self", "deed"] (qK K t):=by
 have sc:=T.ju.sc ["self", "deed", "lane", "value"]
 refine T.ju.F.ok sc ln (fun _ _ _ _ H vs Q E hr h=>?_)
 obtain⟨r,n,A,ls,ps,S,M,U,dd,rfl,hR,N,W,⟨La,Lg,rs,hU,_,hLg,hT,_,_⟩,hout,k⟩:=h
 refine⟨_,(aq (dG PassesOwn.never rfl (bM (aO bT (pv 1) az (fun _ _=>rfl))) (CT rfl (gQ (gN sc 2) (gQ (gN sc 3) vh)))
   (aA (bN (aV YL (wK (bh (pv 0) rfl) T.aU T.aU.me.2.1 (vJ T) T.mG hr (aa (pv 2) ak aj)) (wK (bh (pv 0) rfl) T.aQ T.aQ.me.2.2.2.2.2.2.2.1 (Cq T) T.qp hr (aa (pv 2) ak aj)) (bI _))
    (aA (aN (pv 2)))
    bj)))
  (aA (aN rQ))),?_⟩
 have hl:sizeLine=16777216:=sizeLine_eq
 have hlr:rs.length=dd.gv.length:=by have:=Paired.length hT;rw [lM] at this;exact this
 refine⟨_,rfl,U,_,1,_,rfl,rfl,eN.of hU,aJ (j:=1) rfl,Lg,rfl,⟨_,bF.of hLg⟩,cX (K:=K) (a:=Lg) (xs:=rs.map V.ref) (fun j σ H'=>aM H H'/\(∃v2 v3,σ=[some (.ref r),some (.ref U),v2,v3])/\(dd.gv.take j).find? (uJ ls S)=none) ⟨aM.refl _,⟨_,_,rfl⟩,rfl⟩ (fun j σ H' _ h=>bF.of (h.1 _ _ hLg)) ?_ ?_⟩
 ·rintro j x σ H1 hx ⟨s1,⟨v2,v3,rfl⟩,hf⟩
  rw [List.getElem?_map] at hx
  obtain⟨u,hu,rfl⟩:=Option.map_eq_some_iff.mp hx
  obtain⟨vs2,z1,z2⟩:=oN hT hu
  rw [List.getElem?_map] at z1
  obtain⟨w,ew,rfl⟩:=Option.map_eq_some_iff.mp z1
  have ft:=Ox hf ew
  obtain⟨dxn,fsn,R,F0,Pd,Gn,Tk,FL,PL,Wn⟩:=N.same s1
  have F:=Wn.fit
  obtain⟨dxr,fsr,R1⟩:=hR.same s1
  have W1:=W.same s1
  obtain⟨dx,fs,h1,h2⟩:=id W1.at'.ex
  obtain⟨l,hl',hln⟩:=List.mem_map.mp (hout w (List.mem_of_getElem? ew))
  have va:=Bv (ea:=A.ea) F.whole.nod hl'
  have vg:=vm (g:=S.g) F.whole.nod hl'
  have fb:uJ ls S w=decide (l.room<=((S.ev l.name).length:Int) - (S.g l.name:Int)):=by unfold uJ;rw [<-hln,Qw F.whole.nod hl']
  rw [hln] at va vg
  refine⟨u,_,rfl,eN.of (s1 _ _ z2),rfl,_,_,rfl,_,_,rfl,rfl,?_⟩
  refine⟨_,rfl,r,_,dxr,fsr,_,rfl,R1.1.1,T.bW.c,T.bW.na.2.1,R1.2.has ("flow",.ref A.f) (by simp),A.f,dx,fs,rfl,h1,h2.no _ (by decide +kernel),_,rfl,A.f,A.n,A.E,A.G,A.Kp,A.D,A.Rw,A.ea w.1,_,_,w.1,_,S.g w.1,rfl,W1.at',W1.ever,W1.gone,va,vg,bF.of (by rw [<-hln];exact W1.lists l hl'),?_⟩
  refine⟨_,rfl,r,_,dxr,fsr,_,rfl,R1.1.1,T.bW.c,T.bW.na.1,R1.2.has ("net",.ref A.n) (by simp),A.n,dxn,fsn,rfl,Wn.obj,Wn.fl.no _ (by decide +kernel),_,rfl,A.n,ls,ps,w.1,rfl,Wn.s,.inl ⟨l,hl',hln,fun H2 s2=>?_⟩⟩
  refine⟨_,_,rfl,rfl,_,rfl,?_⟩
  have e2:decide (l.room<=((((S.ev l.name).map V.int).length:Nat):Int) - ((S.g w.1:Nat):Int))=uJ ls S w:=by rw [fb,lM,hln]
  rw [e2]
  cases hb:uJ ls S w with
  | true=>
   rw [if_pos hb] at ft
   refine d9 ⟨_,rfl,?_⟩
   have k':=k H2 (s1.trans s2)
   unfold yI at k'
   rw [ft] at k'
   exact k'
  | false=>
   rw [if_neg (by simp [hb])] at ft
   exact bU ⟨s1.trans s2,⟨_,_,rfl⟩,ft⟩
 rintro σ H1 ⟨s1,⟨v2,v3,rfl⟩,hf⟩
 rw [lM,hlr,List.take_length] at hf
 have k':=k H1 s1
 unfold yI at k'
 rw [hf] at k'
 exact k'
theorem Nx {H:Hp} {Q:VK} {Ex:XK} {b:Nat} {A:mZ} {ls:List aG} {ps:List PD} {S:FS} {p:PD} (N:gA K t H A.n ls ps) (W:dU K t H A ls ps S) (hp:p∈ps) (O:Et b ls ps S) (kn:jl S p=none->∀H',aM H H'->Q .non H')
  (k:∀dd,jl S p=some dd->∀H' U,aM H H'->H U=none->mC (A.cells ls ps) H' U dd->Q (.ref U) H'):jH K t [.ref A.f,.str p.name] H Q Ex:=by
 unfold jH
 exact⟨b,A,ls,ps,S,p,rfl,N,W,hp,O,kn,k⟩
noncomputable def eX (ls:List aG) (S:FS) (p:PD):Option my:=match jl S p with
 | none=>none
 | some dd=>if yI ls S dd=.non then some dd else none
theorem wX {S:FS} {p:PD} {dd:my} (h:jl S p=some dd):dM p.kind p.ins (bw S p)=.non/\vB S p=false/\dd=⟨(places p.kind (bw S p)).map (strAt p.ins),(cT p.kind p.nums (Bu S p) (S.k p.name)).map fun pv=>(strAt p.outs pv.1.toNat,pv.2),fV p.kind (Bu S p) (S.k p.name)⟩:=by
 unfold jl at h
 split at h
 ·cases h
 ·rename_i h1
  split at h
  ·cases h
  ·rename_i h2
   exact⟨Classical.not_not.mp h1,by simpa using h2,(Option.some.inj h).symm⟩
theorem GQ {xs:List Str} {q:Nat} (h:q <xs.length):strAt xs q∈xs:=by unfold strAt;rw [List.getElem?_eq_getElem h];exact List.getElem_mem h
theorem Km {xs:List Str} {q:Nat} (h:q <xs.length):strAt xs q=xs[q]:=by unfold strAt;rw [List.getElem?_eq_getElem h];rfl
theorem PQ {i:Nat} {hs:List V}:(places i hs).Nodup:=by
 unfold places
 split
 ·split
  ·rename_i n _
   have h0:=Int.emod_nonneg n (show(2:Int)≠0 by decide)
   simp
   omega
  ·simp
 ·exact List.nodup_range
theorem Tq {xs:List Str} (nd:xs.Nodup) {l:List Nat} (hl:l.Nodup) (h:∀q∈l,q <xs.length):(l.map (strAt xs)).Nodup:=by
 unfold List.Nodup at hl ⊢
 rw [List.pairwise_map]
 refine hl.imp_of_mem fun {a b} ha hb hne e=>hne ?_
 rw [Km (h a ha),Km (h b hb)] at e
 exact(List.getElem_inj nd).mp e
theorem Np {f:PD->List Str}:∀{ps:List PD},(ps.flatMap f).Nodup->∀{p:PD},p∈ps->(f p).Nodup
 | q:: r,nd,p,hp=>by
  rw [List.flatMap_cons,List.nodup_append] at nd
  rcases List.mem_cons.mp hp with h | h
  ·rw [h];exact nd.1
  ·exact Np nd.2.1 h
theorem u9 {ls:List aG} {ps:List PD} {S:FS} (F:zY ls ps) {p:PD} (hp:p∈ps) {dd:my} (h:jl S p=some dd):Iu ls dd:=by
 obtain⟨hl,he,rfl⟩:=wX h
 have ok:=F.pok p hp
 have hO:=uM S p ok
 have hlt:∀q∈places p.kind (bw S p),q <p.ins.length:=fun q hq=>by
  have:=j0 hO q hq
  unfold bw at this
  rwa [lM] at this
 have inL:∀x∈p.ins ++ p.outs,x∈ls.map (·.name):=fun x hx=>by
  obtain⟨l,hl,rfl⟩:=F.inL hp hx
  exact List.mem_map.mpr ⟨l,hl,rfl⟩
 refine⟨?_,fun x hx=>?_,fun q hq=>?_,?_⟩
 ·exact Tq (Np (F.whole.ins.nodup_iff.mpr F.whole.nod) hp) PQ hlt
 ·obtain⟨q,hq,rfl⟩:=List.mem_map.mp hx
  exact inL _ (List.mem_append.mpr (.inl (GQ (hlt q hq))))
 ·obtain⟨pv,hpv,rfl⟩:=List.mem_map.mp hq
  obtain⟨o,ho1,ho2⟩:=Nh (show p.kind<=10 by have:=ok.1;omega) _ _ _ _ hpv
  refine inL _ (List.mem_append.mpr (.inr (GQ ?_)))
  rw [ho1,Int.toNat_natCast,ok.2.2.2.1]
  exact ho2
 ·show(List.map _ _).length<=2
  rw [lM]
  exact JN ..
inductive pP (K:PySem.W.Frag) (t:jy) (vs:List V) (H:Hp) (Q:VK):Prop where
 | mk:∀(b:Nat) (r:Addr) (n:Nat) (A:mZ) (ls:List aG) (ps:List PD) (S:FS) (p:PD),vs=[.ref r,.str p.name]->oH t H r A.n A.f n->gA K t H A.n ls ps->dU K t H A ls ps S->Et b ls ps S->p∈ps->((eX ls S p=none->∀H',aM H H'->Q .non H'))->(∀dd,eX ls S p=some dd->∀H' U,aM H H'->H U=none->mC (A.cells ls ps) H' U dd->Q (.ref U) H')->pP K t vs H Q
@[irreducible] noncomputable def gj (K:PySem.W.Frag) (t:jy):Sp:=fun vs H Q _=>pP K t vs H Q
theorem qO (T:Txt w K mg t):FO P w K mg base 6 t.lX ["self", "name"] (gj K t):=by
 have sc:=T.jn.sc ["self", "name", "deed"]
 refine T.jn.F.ok sc (fun vs H Q E h=>?_) (fun cdv A outer s H vs Q E hr h=>?_)
 ·unfold gj at h
  obtain⟨b,r,n,A,ls,ps,S,p,rfl,_⟩:=h
  rfl
 ·unfold gj at h
  obtain⟨b,r,n,A,ls,ps,S,p,rfl,hR,N,W,O,hp,kn,k⟩:=h
  refine⟨_,(aq (sN sc 2 (wK (bh (pv 0) rfl) T.aU T.aU.me.2.2.2.2.2.2.1 (xq T) T.pI hr (aa (pv 1) ak aj)))
   (aA (aN (oA (PW.pt (sy (gh (zr (pv 2))) (lU (gh (vA (wK (pv 0) T.bW T.bW.me.2.1 (qH T) T.ju hr (aa (pv 2) ak aj))))))) rQ (pv 2))))),?_⟩
  obtain⟨dxr,fsr,R0⟩:=id hR
  obtain⟨dx,fs,h1,h2⟩:=id W.at'.ex
  have F:zY ls ps:=by obtain⟨_,_,_,_,_,_,_,_,_,Wn⟩:=N;exact Wn.fit
  refine⟨_,rfl,r,_,dxr,fsr,_,rfl,R0.1.1,T.bW.c,T.bW.na.2.1,R0.2.has ("flow",.ref A.f) (by simp),A.f,dx,fs,rfl,h1,h2.no _ (by decide +kernel),_,rfl,?_⟩
  refine Nx N W hp O (fun hd H1 s1=>?_) (fun dd hd H1 U s1 nU DA=>?_)
  ·exact⟨_,rfl,_,rfl,d9 (d9 (kn (by unfold eX;rw [hd]) _ s1))⟩
  ·obtain⟨dxr,fsr,R1⟩:=hR.same s1
   have nx:eX ls S p=if yI ls S dd=.non then some dd else none:=by unfold eX;rw [hd]
   refine⟨_,rfl,_,rfl,bU ?_⟩
   refine⟨_,rfl,r,dxr,fsr,rfl,R1.1.1,R1.2.no _ (by decide +kernel),_,rfl,r,n,A,ls,ps,S,_,U,dd,rfl,⟨dxr,fsr,R1⟩,N.same s1,W.same s1,DA,(u9 F hp hd).gin,fun H2 s2=>?_⟩
   by_cases hf:yI ls S dd=.non
   ·rw [hf]
    exact⟨_,rfl,bU ⟨_,rfl,k dd (by rw [nx,if_pos hf]) H2 U (s1.trans s2) nU (DA.same s2)⟩⟩
   ·rw [decide_eq_false hf]
    exact⟨_,rfl,d9 (kn (by rw [nx,if_neg hf]) H2 (s1.trans s2))⟩
theorem N6 {H:Hp} {Q:VK} {Ex:XK} {b:Nat} {r:Addr} {n:Nat} {A:mZ} {ls:List aG} {ps:List PD} {S:FS} {p:PD} (hR:oH t H r A.n A.f n) (N:gA K t H A.n ls ps) (W:dU K t H A ls ps S) (O:Et b ls ps S) (hp:p∈ps) (kn:eX ls S p=none->∀H',aM H H'->Q .non H')
  (k:∀dd,eX ls S p=some dd->∀H' U,aM H H'->H U=none->mC (A.cells ls ps) H' U dd->Q (.ref U) H'):gj K t [.ref r,.str p.name] H Q Ex:=by
 unfold gj
 exact⟨b,r,n,A,ls,ps,S,p,rfl,hR,N,W,O,hp,kn,k⟩
inductive sI (K:PySem.W.Frag) (t:jy) (vs:List V) (H:Hp) (Q:VK) (E:XK):Prop where
 | mk:∀(b:Nat) (r:Addr) (n:Nat) (A:mZ) (ls:List aG) (ps:List PD) (S:FS) (p:PD),vs=[.ref r,.str p.name]->oH t H r A.n A.f n->gA K t H A.n ls ps->dU K t H A ls ps S->Et b ls ps S->p∈ps->(∀H',aM H H'->Q (.bl (eX ls S p).isSome) H')->sI K t vs H Q E
theorem Be (T:Txt w K mg t):FO P w K mg base 7 t.nj ["self", "name"] (sI K t):=by
 have sc:=T.oE.sc ["self", "name"]
 refine T.oE.F.ok sc ln (fun _ _ _ _ H vs Q E hr h=>?_)
 obtain⟨b,r,n,A,ls,ps,S,p,rfl,hR,N,W,O,hp,k⟩:=h
 refine⟨_,(aA (aN (CG (vA (wK (pv 0) T.bW T.bW.me.2.2.1 (qO T) T.jn hr (aa (pv 1) ak aj)))))),?_⟩
 obtain⟨dxr,fsr,R0⟩:=id hR
 refine⟨_,rfl,r,dxr,fsr,rfl,R0.1.1,R0.2.no _ (by decide +kernel),_,rfl,?_⟩
 refine N6 hR N W O hp (fun hd H1 s1=>?_) (fun dd hd H1 U s1 nU DA=>?_)
 ·have:=k H1 s1
  rw [hd] at this
  exact this
 ·have:=k H1 s1
  rw [hd] at this
  exact this
theorem RQ {x:V} {xs:List V} (h:x∈xs) (f:Kv x x=true):inV x xs=true:=List.any_eq_true.mpr ⟨x,h,f⟩
inductive pU (K:PySem.W.Frag) (t:jy) (vs:List V) (H:Hp) (Q:VK) (E:XK):Prop where
 | mk:∀(r:Addr) (n:Nat) (A:mZ) (ls:List aG) (ps:List PD) (S:FS) (L:Addr) (xs:List Str),vs=[.ref r,.ref L]->oH t H r A.n A.f n->gA K t H A.n ls ps->dU K t H A ls ps S->bF K H L (xs.map V.str)->((∀x∈xs,V.str x∈dW ps "give" ++ dW ps "take"))->(∀H',aM H H'->Q .non H')->pU K t vs H Q E
theorem xH (T:Txt w K mg t):FO P w K mg base 4 t.j7 ["self", "names"] (pU K t):=by
 have sc:=T.j4.sc ["self", "names", "doors", "name"]
 refine T.j4.F.ok sc ln (fun _ _ _ _ H vs Q E hr h=>?_)
 obtain⟨r,n,A,ls,ps,S,L,xs,rfl,hR,N,W,hL,hx,k⟩:=h
 refine⟨_,(aq (sN sc 2 (bx Ik (Om (bh (pv 0) rfl) T.aQ T.aQ.me.2.2.2.2.1 (qW T) T.lG hr) (Om (bh (pv 0) rfl) T.aQ T.aQ.me.2.2.2.2.2.1 (Hb T) T.ud hr)))
  (aA (dG PassesOwn.never rfl (bM (pv 1)) (gN sc 3)
   (aA (bN (aV fP (pv 3) (pv 2) (by with_unfolding_all rfl))
    (aA dJ)
    bj))))),?_⟩
 have hz:sizeLine=16777216:=sizeLine_eq
 obtain⟨dxn,fsn,R,F0,Pd,Gn,Tk,FL,PL,Wn⟩:=id N
 have p16:=Wn.fit.p16
 obtain⟨dxr,fsr,R0⟩:=id hR
 have g1:=xn ps "give"
 have g2:=xn ps "take"
 refine⟨_,rfl,r,_,dxr,fsr,_,rfl,R0.1.1,T.bW.c,T.bW.na.1,R0.2.has ("net",.ref A.n) (by simp),A.n,dxn,fsn,rfl,Wn.obj,Wn.fl.no _ (by decide +kernel),A.n,ls,ps,rfl,N,fun l nl=>?_⟩
 have s1:=aB (o:=.lst (dW ps "give")) nl
 obtain⟨dxr,fsr,R1⟩:=hR.same s1
 have Wn1:=Wn.same s1
 refine⟨_,rfl,r,_,dxr,fsr,_,rfl,R1.1.1,T.bW.c,T.bW.na.1,R1.2.has ("net",.ref A.n) (by simp),A.n,dxn,fsn,rfl,Wn1.obj,Wn1.fl.no _ (by decide +kernel),A.n,ls,ps,rfl,Wn1.s,fun l2 nl2=>?_⟩
 have s2:=aB (o:=.lst (dW ps "take")) nl2
 have e1:=s2 _ _ (au (H:=H) (a:=l) (o:=.lst (dW ps "give")))
 refine⟨l,l2,_,_,rfl,rfl,e1,au,by omega,fun l3 nl3=>?_⟩
 have s13:=s1.trans (s2.trans (aB (o:=.lst (dW ps "give" ++ dW ps "take")) nl3))
 have e3:upd (upd (upd H l (.lst (dW ps "give"))) l2 (.lst (dW ps "take"))) l3 (.lst (dW ps "give" ++ dW ps "take")) l3=some (.lst (dW ps "give" ++ dW ps "take")):=au
 generalize upd (upd (upd H l (.lst (dW ps "give"))) l2 (.lst (dW ps "take"))) l3 (.lst (dW ps "give" ++ dW ps "take"))=H3 at s13 e3 ⊢
 have fl:(dW ps "give" ++ dW ps "take").all mD=true:=by
  rw [List.all_eq_true]
  intro v hv
  rcases List.mem_append.mp hv with h | h <;> (obtain⟨p,_,rfl⟩:=List.mem_map.mp h;rfl)
 refine⟨_,rfl,L,rfl,⟨_,s13.seq hL⟩,cX (K:=K) (a:=L) (xs:=xs.map V.str) (fun j σ H'=>H'=H3/\∃v3,σ=[some (.ref r),some (.ref L),some (.ref l3),v3]) ⟨rfl,none,rfl⟩ (fun j σ H' _ ⟨e,_⟩=>by rw [e];exact s13.seq hL) ?_ ?_⟩
 ·rintro j x σ H' hx' ⟨rfl,v3,rfl⟩
  rw [List.getElem?_map] at hx'
  obtain⟨y,hy,rfl⟩:=Option.map_eq_some_iff.mp hx'
  refine⟨_,rfl,_,rfl,l3,_,rfl,.inl (bF.of e3),rfl,fl,_,rfl,?_⟩
  rw [RQ (hx y (List.mem_of_getElem? hy)) (by simp [Kv])]
  exact bU ⟨rfl,_,rfl⟩
 ·rintro σ H' ⟨rfl,v3,rfl⟩
  exact k _ s13
theorem Uz (y:Str) (xs:List Str):inV (.str y) (xs.map V.str)=decide (y∈xs):=by
 rw [Bool.eq_iff_iff,decide_eq_true_iff]
 unfold inV
 rw [List.any_eq_true]
 constructor
 ·rintro⟨v,hv,e⟩
  obtain⟨z,hz,rfl⟩:=List.mem_map.mp hv
  have:z=y:=by simpa [Kv] using e
  rw [<-this];exact hz
 ·intro h
  exact⟨.str y,List.mem_map.mpr ⟨y,h,rfl⟩,by simp [Kv]⟩
noncomputable def sE (xs:List Str) (p:PD):Bool:=!decide (p.name∈xs)
noncomputable def xO (ls:List aG) (ps:List PD) (S:FS) (xs:List Str):List (PD×my):=(ps.filter (sE xs)).filterMap fun p=>(eX ls S p).map fun dd=>(p,dd)
noncomputable def lH (S:FS) (ws:List (PD×my)):FS:=ws.foldl (fun S w=>Eu S w.1.name w.2) S
noncomputable def wD (ls:List aG) (ps:List PD) (S:FS) (xs:List Str):FS:=lH S (xO ls ps S xs)
theorem KJ (S:FS) (ws:List (PD×my)) (w:PD×my):lH S (ws ++ [w])=Eu (lH S ws) w.1.name w.2:=by unfold lH;rw [List.foldl_append];rfl
theorem zm {S:FS} {b:Nat} {x:Str}:∀{ws:List (PD×my)},(S.ev x).length<=b->(∀w∈ws,w.2.gv.length<=2)->((lH S ws).ev x).length<=b+2 * ws.length
 | [],h,_=>by simpa [lH] using h
 | w:: r,h,g=>by
  have h1:=g w List.mem_cons_self
  have h2:((Eu S w.1.name w.2).ev x).length<=b+2:=by
   unfold Eu
   rw [lP,lM]
   have:=List.length_filter_le (fun q:Str×Int=>decide (q.1=x)) w.2.gv
   omega
  have h3:=zm (S:=Eu S w.1.name w.2) (ws:=r) h2 (fun w' hw=>g w' (List.mem_cons_of_mem _ hw))
  show((lH (Eu S w.1.name w.2) r).ev x).length<=_
  rw [List.length_cons]
  omega
theorem Cd {α β:Type} {F:α->β->Prop}:∀{xs:List α} {ys:List β} {j:Nat} {x:α},Paired F xs ys->xs[j]?=some x->∃y,ys[j]?=some y/\F x y
 | _,_,_,_,.nil,e=>by simp at e
 | _,_,0,_,.cons h _,e=>by simp at e;subst e;exact⟨_,rfl,h⟩
 | _,_,j+1,_,.cons _ r,e=>by
  obtain⟨y,h1,h2⟩:=Cd (j:=j) r (by simpa using e)
  exact⟨y,by simpa using h1,h2⟩
theorem Gk {α β:Type} {F:α->β->Prop}:∀{xs:List α} {ys:List β} {y:β},Paired F xs ys->y∈ys->∃x,F x y
 | _,_,_,.nil,e=>by simp at e
 | _,_,_,.cons h r,e=>by
  rcases List.mem_cons.mp e with rfl | e
  ·exact⟨_,h⟩
  ·exact Gk r e
theorem dU.ncell {H:Hp} {A:mZ} {ls:List aG} {ps:List PD} {S:FS} (W:dU K t H A ls ps S) {a:Addr} {u:HO} (h:H a=some u) (h1:∀ks,u≠.dK ks) (h2:∀ks,u≠.lst ks):a∉A.cells ls ps:=by
 intro z
 have no:∀{b:Addr} {v:HO},H b=some v->a=b->u=v:=fun e q=>by rw [<-q,h] at e;exact Option.some.inj e
 unfold mZ.cells at z
 simp only [List.mem_cons,List.mem_append,List.mem_map] at z
 rcases z with z | z | z | z | z | ⟨l,hl,z⟩ | ⟨p,hp,z⟩
 ·exact h1 _ (no W.ever z)
 ·exact h1 _ (no W.gone z)
 ·exact h1 _ (no W.kept z)
 ·exact h1 _ (no W.done z)
 ·exact h1 _ (no W.rows z)
 ·exact h2 _ (no (W.lists l hl) z.symm)
 ·have hf:=List.mem_filter.mp hp
  exact h2 _ (no (W.rlst p hf.1 (by simpa using hf.2)) z.symm)
theorem dU.tupMov {H H':Hp} {A:mZ} {ls:List aG} {ps:List PD} {S:FS} (W:dU K t H A ls ps S) (m:Fj (A.cells ls ps) H H') {a:Addr} {xs:List V} (h:H a=some (.tup xs)):H' a=some (.tup xs):=by
 rw [m a (W.ncell h (by intro _ z;cases z) (by intro _ z;cases z))]
 exact h
theorem mC.mov {H H':Hp} {A:mZ} {ls:List aG} {ps:List PD} {S:FS} {U:Addr} {dd:my} (h:mC (A.cells ls ps) H U dd) (W:dU K t H A ls ps S) (m:Fj (A.cells ls ps) H H'):mC (A.cells ls ps) H' U dd:=by
 obtain⟨La,Lg,rs,a,b,c,d,e,f⟩:=h
 exact⟨La,Lg,rs,W.tupMov m a,by rw [m La e];exact b,by rw [m Lg f];exact c,Paired.mapP d fun _ _ z=>W.tupMov m z,e,f⟩
theorem oH.mov {H H':Hp} {r a f:Addr} {n:Nat} {M:List Addr} (h:oH t H r a f n) (nr:r∉M) (m:Fj M H H'):oH t H' r a f n:=by
 obtain⟨dx,fs,h1,h2⟩:=h
 exact⟨dx,fs,⟨by rw [m r nr];exact h1.1,h1.2⟩,h2⟩
theorem X4 {H:Hp} {Q:VK} {Ex:XK} {b:Nat} {A:mZ} {ls:List aG} {ps:List PD} {S:FS} {p:PD} {U:Addr} {dd:my} (F:zY ls ps) (W:dU K t H A ls ps S) (hp:p∈ps) (hl:∀l∈ls,(S.ev l.name).length<=b) (hb:b<=100000) (d:mC (A.cells ls ps) H U dd) (o:Iu ls dd)
  (k:∀H',Fj (A.cells ls ps) H H'->dU K t H' A ls ps (Eu S p.name dd)->Q .non H'):ou K t [.ref A.f,.str p.name,.ref U] H Q Ex:=by
 unfold ou
 exact⟨b,A,ls,ps,S,p,U,dd,rfl,F,W,hp,hl,hb,d,o,k⟩
theorem oH.turned {H:Hp} {r a f:Addr} {n:Nat} {dx:Addr} {fs:List (Str×V)} (h:(H r=some (.ins t.oV dx fs)/\fs.length<=n+3)/\Ti ["step", "need_doors", "next_deed", "full_lane", "can_work", "works", "lane_now", "turn"] [("net",.ref a),("flow",.ref f),("turns",.int (n:Nat))] fs):
  oH t (upd H r (.ins t.oV dx (aH "turns" (.int ((n:Int)+1)) fs))) r a f (n+1):=by
 refine⟨dx,_,⟨au,?_⟩,⟨?_,?_⟩⟩
 ·exact Nat.le_trans (gO h.1.2) (by omega)
 ·intro q hq
  simp only [List.mem_cons,List.not_mem_nil,or_false] at hq
  rcases hq with rfl | rfl | rfl
  ·dsimp only
   rw [aC,if_neg (by decide +kernel)]
   exact h.2.has ("net",.ref a) (by simp)
  ·dsimp only
   rw [aC,if_neg (by decide +kernel)]
   exact h.2.has ("flow",.ref f) (by simp)
  ·dsimp only
   rw [aC,if_pos rfl]
   rfl
 ·intro m hm
  have hne:∀m∈(["step", "need_doors", "next_deed", "full_lane", "can_work", "works", "lane_now", "turn"]:List Str),¬m= "turns" :=by decide +kernel
  rw [aC,if_neg (hne m hm)]
  exact h.2.no m hm
theorem dU.ins {H:Hp} {A:mZ} {ls:List aG} {ps:List PD} {S:FS} (W:dU K t H A ls ps S) {x:Addr} (nx:x∉A.cells ls ps) {o:HO} (nf:x≠A.f):dU K t (upd H x o) A ls ps S:=by
 have st:∀a,a∈A.cells ls ps->upd H x o a=H a:=fun a ha=>aK fun z=>nx (by rw [<-z];exact ha)
 obtain⟨dx,fs,h1,h2⟩:=W.at'.ex
 refine⟨⟨dx,fs,by rw [aK (Ne.symm nf)];exact h1,h2⟩,?_,fun l hl=>?_,?_,?_,?_,?_,fun p hp h0=>?_,W.nod⟩
 ·rw [st _ (by simp [mZ.cells])];exact W.ever
 ·rw [st _ (by unfold mZ.cells;simp only [List.mem_cons,List.mem_append,List.mem_map];exact .inr (.inr (.inr (.inr (.inr (.inl ⟨l,hl,rfl⟩))))))];exact W.lists l hl
 ·rw [st _ (by simp [mZ.cells])];exact W.gone
 ·rw [st _ (by simp [mZ.cells])];exact W.kept
 ·rw [st _ (by simp [mZ.cells])];exact W.done
 ·rw [st _ (by simp [mZ.cells])];exact W.rows
 ·rw [st _ (by unfold mZ.cells;simp only [List.mem_cons,List.mem_append,List.mem_map];exact .inr (.inr (.inr (.inr (.inr (.inr ⟨p,List.mem_filter.mpr ⟨hp,by simp [h0]⟩,rfl⟩))))))];exact W.rlst p hp h0
inductive Gy (M:List Addr) (ls:List aG) (S:FS) (H:Hp) (q:PD×Addr):Prop where
 | mk:∀u,H q.2=some (.tup [.str q.1.name,u])->(((eX ls S q.1=none/\u=.non)∨∃dd U,eX ls S q.1=some dd/\u=.ref U/\mC M H U dd))->Gy M ls S H q
theorem Gy.same {M:List Addr} {ls:List aG} {S:FS} {H H':Hp} {q:PD×Addr} (h:Gy M ls S H q) (s:aM H H'):Gy M ls S H' q:=by
 obtain⟨u,h1,h2⟩:=h
 refine⟨u,s _ _ h1,?_⟩
 rcases h2 with h2 | ⟨dd,U,a,b,c⟩
 ·exact .inl h2
 ·exact .inr ⟨dd,U,a,b,c.same s⟩
theorem Q5 {ls:List aG} {S:FS}:∀{qs:List (PD×Addr)},(qs.map (·.1)).filterMap (fun p=>(eX ls S p).map fun dd=>(p,dd))=(qs.filter fun q=>(eX ls S q.1).isSome).filterMap (fun q=>(eX ls S q.1).map fun dd=>(q.1,dd))
 | []=>rfl
 | q:: r=>by
  rw [List.map_cons,List.filterMap_cons,List.filter_cons,Q5 (qs:=r)]
  cases h:eX ls S q.1 with
  | none=>simp
  | some dd=>simp [List.filterMap_cons,h]
theorem qQ {ls:List aG} {S:FS} {p:PD} {dd:my} (h:eX ls S p=some dd):jl S p=some dd/\yI ls S dd=.non:=by
 unfold eX at h
 split at h
 ·cases h
 ·rename_i d hd
  split at h
  ·rename_i hf
   cases h
   exact⟨hd,hf⟩
  ·cases h
structure wY (K:PySem.W.Frag) (t:jy) (H:Hp) (r:Addr) (n:Nat) (A:mZ) (ls:List aG) (ps:List PD) (S:FS):Prop where
 run:oH t H r A.n A.f n
 net:gA K t (bG (r:: A.cells ls ps) H) A.n ls ps
 flow:dU K t H A ls ps S
 ne:r≠A.f
theorem wY.netH {H:Hp} {r:Addr} {n:Nat} {A:mZ} {ls:List aG} {ps:List PD} {S:FS} (h:wY K t H r n A ls ps S):gA K t H A.n ls ps:=h.net.same cg
theorem oH.cell {H:Hp} {r:Addr} {n:Nat} {A:mZ} {ls:List aG} {ps:List PD} {S:FS} {a f:Addr} (hR:oH t H r a f n) (W:dU K t H A ls ps S):r∉A.cells ls ps:=by
 obtain⟨dx,fs,⟨h1,_⟩,_⟩:=hR
 intro z
 have no:∀{b:Addr} {u:HO},H b=some u->(∀C dx fs,u≠.ins C dx fs)->r=b->False:=fun e h q=>by rw [<-q,h1] at e;exact h _ _ _ (Option.some.inj e).symm
 unfold mZ.cells at z
 simp only [List.mem_cons,List.mem_append,List.mem_map] at z
 rcases z with z | z | z | z | z | ⟨l,hl,z⟩ | ⟨p,hp,z⟩
 ·exact no W.ever (by intro _ _ _ z;cases z) z
 ·exact no W.gone (by intro _ _ _ z;cases z) z
 ·exact no W.kept (by intro _ _ _ z;cases z) z
 ·exact no W.done (by intro _ _ _ z;cases z) z
 ·exact no W.rows (by intro _ _ _ z;cases z) z
 ·exact no (W.lists l hl) (by intro _ _ _ z;cases z) z.symm
 ·have hf:=List.mem_filter.mp hp
  exact no (W.rlst p hf.1 (by simpa using hf.2)) (by intro _ _ _ z;cases z) z.symm
theorem Wd {ws:List Int} (h:Xm ws):0<=g0 ws/\g0 ws <1000000000:=by
 unfold g0
 match ws,h with
 | [],_=>exact⟨by decide,by decide⟩
 | w:: r,h=>exact h w List.mem_cons_self
theorem Ws {ws:List Int} (h:Xm ws):0<=g1 ws/\g1 ws <1000000000:=by
 unfold g1
 match ws,h with
 | [],_=>exact⟨by decide,by decide⟩
 | [w],_=>exact⟨Int.le_refl 0,by show(0:Int) <1000000000;decide⟩
 | w:: v:: r,h=>exact h v (by simp)
theorem G8 (n:Int):0<=n % 1000000000/\n % 1000000000 <1000000000:=⟨Int.emod_nonneg _ (by decide),Int.emod_lt_of_pos _ (by decide)⟩
theorem Qp {i:Nat} (hi:i <11) (ns:List Int) {ws:List Int} (kp:Int) (h:Xm ws):∀pv∈cT i ns ws kp,0<=pv.2/\pv.2 <1000000000:=by
 have a0:=Wd h
 have a1:=Ws h
 match i,hi with
 | 0,_=>simp [cT];exact a0
 | 1,_=>simp [cT]
 | 2,_=>simp [cT];exact a0
 | 3,_=>simp [cT];exact a0
 | 4,_=>simp [cT];exact G8 _
 | 5,_=>simp [cT];exact G8 _
 | 6,_=>simp [cT];exact G8 _
 | 7,_=>simp [cT];split <;> decide
 | 8,_=>simp [cT];constructor <;> split <;> omega
 | 9,_=>simp [cT];exact a1
 | 10,_=>simp [cT];exact a1
theorem JZ (x:Str):∀(ws:List (PD×my)) (S:FS),(lH S ws).ev x=S.ev x ++ ws.flatMap fun w=>(w.2.gv.filter fun q=>decide (q.1=x)).map (·.2)
 | [],S=>by simp [lH]
 | w:: r,S=>by
  show(lH (Eu S w.1.name w.2) r).ev x=_
  rw [JZ x r,List.flatMap_cons,<-List.append_assoc]
  rfl
theorem Bt:∀(ws:List (PD×my)) (S:FS),(lH S ws).r=S.r
 | [],_=>rfl
 | w:: r,S=>by show(lH (Eu S w.1.name w.2) r).r=_;rw [Bt r];rfl
theorem Oe (x:Str):∀(ws:List (PD×my)) (S:FS),(lH S ws).d x=S.d x+(ws.filter fun w=>decide (w.1.name=x)).length
 | [],S=>by simp [lH]
 | w:: r,S=>by
  show(lH (Eu S w.1.name w.2) r).d x=_
  rw [Oe x r,List.filter_cons]
  show(if x=w.1.name then S.d x+1 else S.d x)+_=_
  by_cases h:x=w.1.name
  ·rw [if_pos h,if_pos (by simp [h])]
   simp
   omega
  ·rw [if_neg h,if_neg (by simpa using fun e=>h e.symm)]
theorem Bw {ls:List aG} {ps:List PD} {S:FS} {xs:List Str} {w:PD×my} (h:w∈xO ls ps S xs):w.1∈ps/\sE xs w.1=true/\eX ls S w.1=some w.2:=by
 obtain⟨p,hp,e⟩:=List.mem_filterMap.mp h
 obtain⟨dd,hd,rfl⟩:=Option.map_eq_some_iff.mp e
 obtain⟨h1,h2⟩:=List.mem_filter.mp hp
 exact⟨h1,h2,hd⟩
theorem vz {ls:List aG} {S:FS}:∀{qs:List PD},((qs.filterMap fun p=>(eX ls S p).map fun dd=>(p,dd)).map (·.1)).Sublist qs
 | []=>by simp
 | q:: r=>by
  rw [List.filterMap_cons]
  cases eX ls S q with
  | none=>exact vz.cons _
  | some dd=>exact vz.cons₂ _
theorem WN {ls:List aG} {ps:List PD} {S:FS} {xs:List Str} (nd:(ps.map (·.name)).Nodup):((xO ls ps S xs).map fun w=>w.1.name).Nodup:=by
 have h:((xO ls ps S xs).map (·.1)).Sublist ps:=(vz (qs:=ps.filter (sE xs))).trans List.filter_sublist
 have e:(xO ls ps S xs).map (fun w=>w.1.name)=((xO ls ps S xs).map (·.1)).map (·.name):=by rw [List.map_map];rfl
 rw [e]
 exact nd.sublist (h.map _)
theorem Ug {ls:List aG} {ps:List PD} {S:FS} {xs:List Str}:(xO ls ps S xs).length<=ps.length:=by
 have h:((xO ls ps S xs).map (·.1)).Sublist ps:=(vz (qs:=ps.filter (sE xs))).trans List.filter_sublist
 have:=h.length_le
 rwa [lM] at this
theorem Qu {α:Type} {f:α->Str} {x:Str}:∀{l:List α},(l.map f).Nodup->(l.filter fun a=>decide (f a=x)).length<=1
 | [],_=>by simp
 | a:: r,nd=>by
  rw [List.map_cons,List.nodup_cons] at nd
  rw [List.filter_cons]
  by_cases h:f a=x
  ·rw [if_pos (by simp [h]),List.filter_eq_nil_iff.mpr fun b hb=>by simpa using fun e=>nd.1 (List.mem_map.mpr ⟨b,hb,by rw [e,h]⟩)]
   simp
  ·rw [if_neg (by simp [h])]
   exact Qu nd.2
theorem Uk {b:Nat} {ls:List aG} {ps:List PD} {S:FS} (F:zY ls ps) (O:Et b ls ps S) (xs:List Str):Et (b+32) ls ps (wD ls ps S xs):=by
 have dk:∀w∈xO ls ps S xs,Iu ls w.2:=fun w hw=>u9 F (Bw hw).1 (qQ (Bw hw).2.2).1
 refine⟨fun l hl v hv=>?_,fun p hp h0=>?_,fun p hp h0=>?_,fun l hl=>?_,fun p hp h0=>?_⟩
 ·unfold wD at hv
  rw [JZ] at hv
  rcases List.mem_append.mp hv with h | h
  ·exact O.vb l hl v h
  ·obtain⟨w,hw,hv⟩:=List.mem_flatMap.mp h
   obtain⟨q,hq,rfl⟩:=List.mem_map.mp hv
   obtain⟨h1,_,h3⟩:=Bw hw
   obtain⟨e1,e2,e3⟩:=wX (qQ h3).1
   have hq':=(List.mem_filter.mp hq).1
   rw [e3] at hq'
   obtain⟨pv,hpv,rfl⟩:=List.mem_map.mp hq'
   exact Qp (F.pok _ h1).1 _ _ (Vi F O h1 e1 e2).2.1 pv hpv
 ·unfold wD
  rw [Bt]
  exact O.rb p hp h0
 ·unfold wD
  rw [Bt,Oe]
  have h1:=Qu (x:=p.name) (WN (ls:=ls) (S:=S) (xs:=xs) F.pnd)
  have h2:=O.dl p hp h0
  by_cases hm:∃w∈xO ls ps S xs,w.1.name=p.name
  ·obtain⟨w,hw,e⟩:=hm
   obtain⟨a1,_,a3⟩:=Bw hw
   have ew:w.1=p:=KQ F.pnd a1 hp e
   obtain⟨_,e2,_⟩:=wX (qQ a3).1
   rw [ew] at e2
   unfold vB at e2
   simp [h0] at e2
   omega
  ·rw [List.filter_eq_nil_iff.mpr fun w hw=>by simpa using fun e=>hm ⟨w,hw,e⟩]
   simpa using h2
 ·have h1:=zm (O.len l hl) fun w hw=>(dk w hw).g2
  have h2:=Ug (ls:=ls) (ps:=ps) (S:=S) (xs:=xs)
  have:=F.p16
  unfold wD
  omega
 ·unfold wD
  rw [Bt]
  exact O.rl p hp h0
inductive yg (K:PySem.W.Frag) (t:jy) (vs:List V) (H:Hp) (Q:VK):Prop where
 | mk:∀(b:Nat) (r:Addr) (n:Nat) (A:mZ) (ls:List aG) (ps:List PD) (S:FS) (L:Addr) (xs:List Str),vs=[.ref r,.ref L]->wY K t H r n A ls ps S->Et b ls ps S->b<=90000->n<=900->bF K H L (xs.map V.str)->L∉A.cells ls ps->((∀x∈xs,V.str x∈dW ps "give" ++ dW ps "take"))->(∀H' p,aM (bG (r:: A.cells ls ps) H) (bG (r:: A.cells ls ps) H')->wY K t H' r (n+1) A ls ps (wD ls ps S xs)->H p=none->H' p=some (.lst ((xO ls ps S xs).map fun w=>V.str w.1.name))->Q (.ref p) H')->yg K t vs H Q
@[irreducible] noncomputable def lA (K:PySem.W.Frag) (t:jy):Sp:=fun vs H Q _=>yg K t vs H Q
noncomputable abbrev qZ:List Str:=["self", "held", "back", "deeds", "due", "name", "deed"]
theorem JF (T:Txt w K mg t):FO P w K mg base 7 t.xg ["self", "held"] (lA K t):=by
 have sc:fX qZ ["self", "held"] (aR (inClass (top 70) 1)):=MJ
 refine T.xf.F.ok sc (fun vs H Q E h=>?_) (fun cdv A outer s H vs Q E hr h=>?_)
 ·unfold lA at h
  obtain⟨b,r,n,A,ls,ps,S,L,xs,rfl,_⟩:=h
  rfl
 ·unfold lA at h
  obtain⟨b,r,n,A,ls,ps,S,L,xs,rfl,⟨hR,Nc,W,nrf⟩,O,hb,hn,hL,nL,hx,k⟩:=h
  refine⟨_,(aq (sN sc 2 (oA (gh (zr (pv 1))) (bz ak) (pv 1)))
   (aq (bC (wK (pv 0) T.bW T.bW.me.2.2.2.1 (xH T) T.j4 hr (aa (pv 2) ak aj)))
   (aq (jP (i:=3) [0,2] qZ (aR (inClass (top 70) 1)) rfl sc.nd rfl (bM (Om (bh (pv 0) rfl) T.aQ T.aQ.me.2.2.1 (dC T) T.cD hr)) (fun _ _ _ _ _=>(uR (aV (Ew (K:=K) rfl) (pv 0) (pv 2) (by with_unfolding_all rfl)))) (fun _ _ _ _ _=>(cz (aa (pv 0) (aa (wK (pv 1) T.bW T.bW.me.2.2.1 (qO T) T.jn hr (aa (pv 0) ak aj)) ak aZ) aj))))
   (aq (jP (i:=4) [] qZ (aR (inClass (top 70) 1)) rfl sc.nd rfl (bM (pv 3)) (fun _ _ _ _ _=>(uR (gh (vA (aO (mY (K:=K) rfl) (pv 0) az (fun _ _=>rfl)))))) (fun _ _ _ _ _=>(pv 0)))
   (aq (dG PassesOwn.never rfl (bM (pv 4)) (CT rfl (gQ (gN sc 5) (gQ (gN sc 6) vh)))
    (aA (bC (wK (bh (pv 0) rfl) T.aU T.aU.me.2.2.2.2.2.2.2.1 (K5 T) T.zc hr (aa (pv 5) (aa (pv 6) ak aj) aj)))))
   (aq (Pu (pv 0) az HS)
   (aA (aN (Qs ["name", "deed"] [] qZ (aR (inClass (top 70) 1)) rfl (bM (pv 4)) (fun _ _ _ _ _=>Nb (K:=K) (n:=2) rfl rfl (gQ (uY (i:=0) (show(["name", "deed"]:List Str).Nodup by decide +kernel) rfl (Or.inl rfl) (.inr rfl)) (gQ (uY (i:=1) (show(["name", "deed"]:List Str).Nodup by decide +kernel) rfl (Or.inl rfl) (.inr rfl)) vh))) (fun _ _ _ _ _=>gm) (fun _ _ _ _ _=>(pv 0))))))))))),?_⟩
  have hz:sizeLine=16777216:=sizeLine_eq
  have N:gA K t H A.n ls ps:=Nc.same cg
  obtain⟨dxn,fsn,R,F0,Pd,Gn,Tk,FL,PL,Wn⟩:=id N
  have F:=Wn.fit
  have p16:=F.p16
  obtain⟨dxr,fsr,R0⟩:=id hR
  refine⟨_,rfl,_,rfl,bU ⟨_,rfl,?_⟩⟩
  refine⟨_,rfl,r,dxr,fsr,rfl,R0.1.1,R0.2.no _ (by decide +kernel),_,rfl,r,n,A,ls,ps,S,L,xs,rfl,hR,N,W,hL,hx,fun H1 s1=>?_⟩
  obtain⟨dxr,fsr,R1⟩:=hR.same s1
  have Wn1:=Wn.same s1
  refine⟨_,rfl,r,_,dxr,fsr,_,rfl,R1.1.1,T.bW.c,T.bW.na.1,R1.2.has ("net",.ref A.n) (by simp),A.n,dxn,fsn,rfl,Wn1.obj,Wn1.fl.no _ (by decide +kernel),A.n,ls,ps,rfl,Wn1.s,fun l nl=>?_⟩
  have s2:=s1.trans (aB (o:=.lst (ps.map fun x=>V.str x.name)) nl)
  have el:(upd H1 l (.lst (ps.map fun x=>V.str x.name))) l=some (.lst (ps.map fun x=>V.str x.name)):=au
  generalize upd H1 l (.lst (ps.map fun x=>V.str x.name))=H2 at s2 el ⊢
  have hflat:(xs.map V.str).all mD=true:=by simp [mD]
  refine⟨l,rfl,⟨_,bF.of el⟩,dR (K:=K) (a:=l) (xs:=ps.map fun x=>V.str x.name) (fun j ys H'=>aM H2 H'/\∃qs:List (PD×Addr),ys=qs.map (fun q=>V.ref q.2)/\qs.map (·.1)=(ps.take j).filter (sE xs)/\∀q∈qs,Gy (A.cells ls ps) ls S H' q) (by rw [lM];omega) ⟨aM.refl _,[],rfl,rfl,by simp⟩ ?_ (fun j ys H' _ h=>h.1.seq (bF.of el)) ?_ ?_⟩
  ·rintro j ys H' ⟨_,qs,rfl,e,_⟩
   have h1:=congrArg List.length e
   have h2:=List.length_filter_le (sE xs) (ps.take j)
   rw [lM] at h1
   rw [List.length_take] at h2
   rw [lM]
   omega
  ·rintro j x ys H' hj ⟨s3',qs,rfl,eq,hq⟩
   rw [List.getElem?_map] at hj
   obtain⟨p,hp,rfl⟩:=Option.map_eq_some_iff.mp hj
   have hpm:=List.mem_of_getElem? hp
   have s3:=s2.trans s3'
   obtain⟨dxr,fsr,R2⟩:=hR.same s3
   refine⟨_,rfl,_,rfl,L,_,rfl,.inl (s3.seq hL),rfl,hflat,_,rfl,?_⟩
   rw [Uz]
   have tk:(ps.take (j+1)).filter (sE xs)=(ps.take j).filter (sE xs) ++ if sE xs p=true then [p] else []:=by
    rw [List.take_succ,hp,Option.toList_some,List.filter_append,List.filter_cons]
    rfl
   refine jz (fun e=>?_) (fun e=>?_)
   ·have e':sE xs p=true:=e
    rw [e',if_pos rfl] at tk
    refine⟨_,rfl,_,rfl,r,dxr,fsr,rfl,R2.1.1,R2.2.no _ (by decide +kernel),_,rfl,?_⟩
    refine N6 (hR.same s3) (N.same s3) (W.same s3) O hpm (fun hd H4 s4=>?_) (fun dd hd H4 U s4 nU DA=>?_)
    ·refine⟨iu,fun q nq=>⟨s3'.trans (s4.trans (aB nq)),qs ++ [(p,q)],by simp,by rw [List.map_append,eq,tk];rfl,fun q' hq'=>?_⟩⟩
     rcases List.mem_append.mp hq' with h | h
     ·exact(hq q' h).same (s4.trans (aB nq))
     ·rw [List.mem_singleton] at h
      subst h
      exact⟨.non,au,.inl ⟨hd,rfl⟩⟩
    ·refine⟨iu,fun q nq=>⟨s3'.trans (s4.trans (aB nq)),qs ++ [(p,q)],by simp,by rw [List.map_append,eq,tk];rfl,fun q' hq'=>?_⟩⟩
     rcases List.mem_append.mp hq' with h | h
     ·exact(hq q' h).same (s4.trans (aB nq))
     ·rw [List.mem_singleton] at h
      subst h
      exact⟨.ref U,au,.inr ⟨dd,U,hd,rfl,DA.same (aB nq)⟩⟩
   ·have e':¬sE xs p=true:=e
    rw [if_neg e',List.append_nil] at tk
    exact⟨s3',qs,rfl,by rw [eq,tk],hq⟩
  rintro ys H3 ⟨s3',qs,rfl,eq,hq⟩ D1 nD1
  rw [lM,List.take_length] at eq
  have s4':=aB (o:=.lst (qs.map fun q=>V.ref q.2)) nD1
  have s4:=(s2.trans s3').trans s4'
  have eD1:(upd H3 D1 (.lst (qs.map fun q=>V.ref q.2))) D1=some (.lst (qs.map fun q=>V.ref q.2)):=au
  replace hq:=fun q h=>(hq q h).same s4'
  generalize upd H3 D1 (.lst (qs.map fun q=>V.ref q.2))=H4 at s4 s4' eD1 hq ⊢
  clear s4' nD1 s3' nl el
  have lq:qs.length<=16:=by
   have h1:=congrArg List.length eq
   have h2:=List.length_filter_le (sE xs) ps
   rw [lM] at h1
   omega
  let fS:PD×Addr->Bool:=fun q=>(eX ls S q.1).isSome
  refine⟨_,rfl,D1,rfl,⟨_,bF.of eD1⟩,dR (K:=K) (a:=D1) (xs:=qs.map fun q=>V.ref q.2) (fun j ys H'=>H'=H4/\ys=((qs.take j).filter fS).map fun q=>V.ref q.2) (by rw [lM];omega) ⟨rfl,rfl⟩ (fun j ys H' ⟨_,e⟩=>by rw [e,lM];exact Nat.le_trans (List.length_filter_le _ _) (by rw [List.length_take];omega)) (fun j ys H' _ ⟨e,_⟩=>by rw [e];exact bF.of eD1) ?_ ?_⟩
  ·rintro j x ys H' hj ⟨rfl,rfl⟩
   rw [List.getElem?_map] at hj
   obtain⟨q,hqj,rfl⟩:=Option.map_eq_some_iff.mp hj
   obtain⟨u,h1,h2⟩:=hq q (List.mem_of_getElem? hqj)
   refine⟨_,rfl,q.2,_,1,_,rfl,rfl,eN.of h1,aJ (j:=1) rfl,?_⟩
   rw [List.take_succ,hqj,Option.toList_some,List.filter_append,List.filter_cons,List.map_append]
   rcases h2 with ⟨h2,rfl⟩ | ⟨dd,U,h2,rfl,_⟩
   ·exact⟨_,rfl,bU ⟨rfl,by simp [fS,h2]⟩⟩
   ·exact⟨_,rfl,d9 ⟨_,rfl,rfl,by simp [fS,h2]⟩⟩
  rintro ys H' ⟨rfl,rfl⟩ D2 nD2
  rw [lM,List.take_length]
  obtain⟨ws,hws⟩:∃ws:List (PD×my),ws=xO ls ps S xs:=⟨_,rfl⟩
  have ewq:ws=(qs.filter fS).filterMap (fun q=>(eX ls S q.1).map fun dd=>(q.1,dd)):=by rw [hws];unfold xO;rw [<-eq,Q5]
  have hW:Paired (fun(q:PD×Addr) (w:PD×my)=>q.1=w.1/\eX ls S w.1=some w.2/\w.1∈ps/\∃U,H' q.2=some (.tup [.str w.1.name,.ref U])/\mC (A.cells ls ps) H' U w.2) (qs.filter fS) ws:=by
   rw [ewq]
   have hall:∀q∈qs.filter fS,Gy (A.cells ls ps) ls S H' q/\q.1∈ps/\fS q=true:=fun q h=>by
    have h':=List.mem_filter.mp h
    refine⟨hq q h'.1,?_,h'.2⟩
    have:q.1∈qs.map (·.1):=List.mem_map.mpr ⟨q,h'.1,rfl⟩
    rw [eq] at this
    exact(List.mem_filter.mp this).1
   generalize qs.filter fS=rs at hall
   clear ewq
   induction rs with
   | nil=>exact .nil
   | cons q r ih=>
    obtain⟨⟨u,h1,h2⟩,hp,hf⟩:=hall q List.mem_cons_self
    rcases h2 with ⟨h2,_⟩ | ⟨dd,U,h2,rfl,h3⟩
    ·simp only [fS,h2] at hf
     cases hf
    ·rw [List.filterMap_cons,h2]
     exact .cons ⟨rfl,h2,hp,U,h1,h3⟩ (ih fun q' hq'=>hall q' (List.mem_cons_of_mem _ hq'))
  have lw:(qs.filter fS).length=ws.length:=Paired.length hW
  have lw16:ws.length<=16:=by have:=List.length_filter_le fS qs;omega
  have s5':=aB (o:=.lst ((qs.filter fS).map fun q=>V.ref q.2)) nD2
  have s5:=s4.trans s5'
  have nD2':=(W.same s4).cell nD2
  have eD2:(upd H' D2 (.lst ((qs.filter fS).map fun q=>V.ref q.2))) D2=some (.lst ((qs.filter fS).map fun q=>V.ref q.2)):=au
  generalize upd H' D2 (.lst ((qs.filter fS).map fun q=>V.ref q.2))=H5 at s5 s5' eD2 ⊢
  generalize qs.filter fS=rs at hW lw eD2 ⊢
  have g2:∀w∈ws,w.2.gv.length<=2:=fun w hw=>by
   obtain⟨q,_,h2,h3,_⟩:=Gk hW hw
   exact(u9 F h3 (qQ h2).1).g2
  have W5:=W.same s5
  have R5:=hR.same s5
  have nr:=R5.cell W5
  refine⟨_,rfl,D2,rfl,⟨_,bF.of eD2⟩,cX (K:=K) (a:=D2) (xs:=rs.map fun q=>V.ref q.2) (fun j σ H6=>Fj (A.cells ls ps) H5 H6/\dU K t H6 A ls ps (lH S (ws.take j))/\∃v5 v6,σ=[some (.ref r),some (.ref L),some (.ref L),some (.ref D1),some (.ref D2),v5,v6]) ⟨fun _ _=>rfl,by simpa [lH] using W5,none,none,rfl⟩ (fun j σ H6 _ h=>bF.of (by rw [h.1 D2 nD2'];exact eD2)) ?_ ?_⟩
  ·rintro j x σ H6 hj ⟨m6,W6,v5,v6,rfl⟩
   rw [List.getElem?_map] at hj
   obtain⟨q,hqj,rfl⟩:=Option.map_eq_some_iff.mp hj
   obtain⟨w,hwj,_,h2,hp,U,t1,d1⟩:=Cd hW hqj
   have t6:=W5.tupMov m6 (s5' _ _ t1)
   have d6:=(d1.same s5').mov W5 m6
   obtain⟨dxr,fsr,R3⟩:=R5.mov nr m6
   obtain⟨dxg,fsg,y1,y2⟩:=id W6.at'.ex
   refine⟨q.2,_,rfl,eN.of t6,rfl,_,_,rfl,_,_,rfl,rfl,?_⟩
   refine⟨_,rfl,r,_,dxr,fsr,_,rfl,R3.1.1,T.bW.c,T.bW.na.2.1,R3.2.has ("flow",.ref A.f) (by simp),A.f,dxg,fsg,rfl,y1,y2.no _ (by decide +kernel),_,rfl,_,rfl,?_⟩
   refine X4 F W6 hp (b:=b+2 * (ws.take j).length) (fun l hl=>zm (O.len l hl) fun w' hw'=>g2 w' (List.mem_of_mem_take hw')) (by rw [List.length_take];omega) d6 (u9 F hp (qQ h2).1) fun H7 m7 W7=>⟨fun a ha=>by rw [m7 a ha,m6 a ha],?_,_,_,rfl⟩
   rw [List.take_succ,hwj,Option.toList_some,KJ]
   exact W7
  rintro σ H6 ⟨m6,W6,v5,v6,rfl⟩
  rw [lM,lw,List.take_length] at W6
  obtain⟨dxr,fsr,R3⟩:=R5.mov nr m6
  refine⟨_,rfl,r,_,dxr,fsr,.int (n:Nat),rfl,R3.1.1,T.bW.c,T.bW.na.2.2.1,R3.2.has ("turns",.int (n:Nat)) (by simp),_,_,rfl,rfl,dxr,fsr,R3.1.1,by have:=R3.1.2;omega,?_⟩
  have R7:=oH.turned R3
  have W7:=W6.ins (x:=r) nr (o:=.ins t.oV dxr (aH "turns" (.int ((n:Int)+1)) fsr)) nrf
  have m7:∀a,a≠r->a∉A.cells ls ps->upd H6 r (.ins t.oV dxr (aH "turns" (.int ((n:Int)+1)) fsr)) a=H5 a:=fun a h1 h2=>by rw [aK h1,m6 a h2]
  generalize upd H6 r (.ins t.oV dxr (aH "turns" (.int ((n:Int)+1)) fsr))=H7 at R7 W7 m7 ⊢
  have nD2r:D2≠r:=fun z=>by
   obtain⟨_,_,y1,_⟩:=R5
   rw [<-z,eD2] at y1
   cases y1.1
  have eD7:H7 D2=some (.lst (rs.map fun q=>V.ref q.2)):=by rw [m7 D2 nD2r nD2'];exact eD2
  have t7:∀{a:Addr} {vs:List V},H5 a=some (.tup vs)->H7 a=some (.tup vs):=fun {a vs} h=>by
   rw [m7 a (fun z=>by obtain⟨_,_,y1,_⟩:=R5;rw [<-z,h] at y1;cases y1.1) (W5.ncell h (by intro _ z;cases z) (by intro _ z;cases z))]
   exact h
  have c7:aM (bG (r:: A.cells ls ps) H) (bG (r:: A.cells ls ps) H7):=fun a o e=>by
   have hn:a∉r:: A.cells ls ps:=fun z=>by unfold bG at e;rw [if_pos z] at e;cases e
   have e':=s5 _ _ (cg a o e)
   unfold bG
   rw [if_neg hn,m7 a (fun z=>hn (by rw [z];exact List.mem_cons_self)) (fun z=>hn (List.mem_cons_of_mem _ z))]
   exact e'
  refine⟨_,rfl,D2,rfl,⟨_,bF.of eD7⟩,?_⟩
  refine Cr (K:=K) (a:=D2) (xs:=rs.map fun q=>V.ref q.2) (fun j ys H8=>H8=H7/\ys=(ws.take j).map fun w=>V.str w.1.name) (by rw [lM];omega) ⟨rfl,rfl⟩ ?_ (fun j ys H8 _ ⟨e,_⟩=>by rw [e];exact bF.of eD7) ?_ ?_
  ·rintro j ys H8 ⟨_,rfl⟩
   rw [lM,List.length_take]
   omega
  ·rintro j v ys H8 hj ⟨rfl,rfl⟩
   rw [List.getElem?_map] at hj
   obtain⟨q,hqj,rfl⟩:=Option.map_eq_some_iff.mp hj
   obtain⟨w,hwj,_,_,_,U,t1,_⟩:=Cd hW hqj
   refine⟨q.2,_,rfl,eN.of (t7 (s5' _ _ t1)),rfl,_,_,rfl,_,_,rfl,rfl,rfl,?_⟩
   refine yes ⟨_,rfl,rfl,?_⟩
   rw [List.take_succ,hwj,Option.toList_some,List.map_append]
   rfl
  rintro ys H8 ⟨rfl,rfl⟩ p np
  rw [lM,lw,List.take_length]
  have s8:=aB (o:=.lst (ws.map fun w=>V.str w.1.name)) np
  have np5:H5 p=none:=by
   cases e:H5 p with
   | none=>rfl
   | some o=>
    have h1:p≠r:=fun z=>by
     obtain⟨_,_,y1,_⟩:=R7
     rw [<-z,np] at y1
     cases y1.1
    rw [<-m7 p h1 (W7.cell np),np] at e
    cases e
  have c8:aM (bG (r:: A.cells ls ps) H) (bG (r:: A.cells ls ps) (upd H8 p (.lst (ws.map fun w=>V.str w.1.name)))):=c7.trans (Uq np)
  refine k _ p c8 ⟨R7.same s8,Nc.same c8,?_,nrf⟩ (s5.free np5) (by rw [au,hws])
  unfold wD
  rw [<-hws]
  exact W7.same s8
inductive GC (K:PySem.W.Frag) (vs:List V) (H:Hp) (Q:VK) (E:XK):Prop where
 | mk:∀(a:Addr) (ws:List Int),vs=[.ref a]->bF K H a (ws.map V.int)->ws.length<=300->((∀v∈ws,0<=v/\v <1000000000))->(∀H',aM H H'->Q (.bl true) H')->GC K vs H Q E
theorem Oi (T:Txt w K mg t):FO P w K mg base 3 t.JD ["thing"] (GC K):=by
 have sc:=T.Cy.sc ["thing"]
 refine T.Cy.F.ok sc ln (fun _ _ _ _ H vs Q E hr h=>?_)
 obtain⟨a,ws,rfl,hS,hl,hB,k⟩:=h
 refine⟨_,(aA (aN (zp (bu qU (by rfl) T.iZ gW (aa (pv 0) (aa (vf (by rfl) T.um pX) ak aj) aj)) (zp (rY vY (bu bR (by rfl) T.fB du (aa (pv 0) ak aj)) (jm (by rfl) T.Ez) (bI _)) (yZ (bu (xQ rfl) (by rfl) T.Oc Im (aa (dZ [] ["thing"] (aR (top 67)) rfl (bM (pv 0)) (fun _ _ _ _ _=>gm) (fun _ _ _ _ _=>(dw (ue T) T.nW hr (aa (pv 0) ak aj)))) ak eU))))))),?_⟩
 have hz:sizeLine=16777216:=sizeLine_eq
 refine⟨_,rfl,_,_,_,_,rfl,.inl ⟨rfl,_,hS⟩,by decide,rfl,_,rfl,d9 ?_⟩
 refine⟨_,rfl,_,(ws.map V.int).length,rfl,.inl ⟨_,hS,by simp⟩,_,_,rfl,rfl,_,rfl,?_⟩
 rw [lM,decide_eq_true (show(ws.length:Int)<=300 by omega)]
 refine d9 ?_
 refine⟨_,rfl,a,rfl,⟨_,hS⟩,dR (K:=K) (a:=a) (xs:=ws.map V.int) (fun j ys H'=>H'=H/\ys=(List.replicate j true).map V.bl) (by rw [lM];omega) ⟨rfl,rfl⟩ (fun j ys H' ⟨_,e⟩=>by rw [e];simp) (fun j ys H' _ ⟨e,_⟩=>by rw [e];exact hS) ?_ ?_⟩
 ·rintro j x ys H' hx ⟨rfl,rfl⟩
  rw [List.getElem?_map] at hx
  obtain⟨n,hn,rfl⟩:=Option.map_eq_some_iff.mp hx
  obtain⟨n0,n1⟩:=hB n (List.mem_of_getElem? hn)
  refine yes ⟨_,rfl,.int n,rfl,.inl ⟨n,rfl,rfl,?_⟩⟩
  rw [decide_eq_true n0,decide_eq_true n1,List.replicate_succ']
  simp
 rintro ys H' ⟨rfl,rfl⟩ D hD
 refine⟨D,List.replicate (ws.map V.int).length true,rfl,bF.of au,?_⟩
 rw [show(List.replicate (ws.map V.int).length true).all id=true by simp]
 exact k _ (aB hD)
structure Kw (ps:List PD) (RW:List (Str×Addr×List Int)):Prop where
 door:∀q∈RW,V.str q.1∈dW ps "give"
 bnd:∀q∈RW,∀v∈q.2.2,0<=v/\v <1000000000
theorem Ph {ls:List aG} {ps:List PD} {RW:List (Str×Addr×List Int)} (F:zY ls ps) (hl:∀q∈RW,q.2.2.length<=300) (hb:∀q∈RW,∀v∈q.2.2,0<=v/\v <1000000000):Et 199 ls ps (mq ls ps RW):=by
 have rq:∀x,vC RW x=[]∨∃q∈RW,vC RW x=q.2.2:=fun x=>by
  unfold vC
  cases e:RW.find? fun q=>decide (q.1=x) with
  | none=>exact .inl rfl
  | some q=>exact .inr ⟨q,List.mem_of_find?_eq_some e,rfl⟩
 refine⟨fun l h v hv=>?_,fun p hp h0 v hv=>?_,fun p hp h0=>Nat.zero_le _,fun l h=>?_,fun p hp h0=>?_⟩
 ·have e:(mq ls ps RW).ev l.name=l.first:=Cu F.whole.nod h
  rw [e] at hv
  exact(F.lok l h).2.2.2 v hv
 ·rcases rq p.name with e | ⟨q,hq,e⟩
  ·rw [show(mq ls ps RW).r p.name=[] from e] at hv
   cases hv
  ·rw [show(mq ls ps RW).r p.name=q.2.2 from e] at hv
   exact hb q hq v hv
 ·have e:(mq ls ps RW).ev l.name=l.first:=Cu F.whole.nod h
  rw [e]
  have:=F.lok l h
  omega
 ·rcases rq p.name with e | ⟨q,hq,e⟩
  ·rw [show(mq ls ps RW).r p.name=[] from e]
   exact Nat.zero_le _
  ·rw [show(mq ls ps RW).r p.name=q.2.2 from e]
   exact hl q hq
inductive yp (K:PySem.W.Frag) (t:jy) (vs:List V) (H:Hp) (Q:VK) (E:XK):Prop where
 | mk:∀(n rw:Addr) (ls:List aG) (ps:List PD) (RW:List (Str×Addr×List Int)),vs=[.ref n,.ref rw]->gA K t H n ls ps->nZ H rw RW->Kw ps RW->(∀H',aM H H'->Q .non H')->yp K t vs H Q E
theorem Ho (T:Txt w K mg t):FO P w K mg base 4 t.Aa ["net", "rows"] (yp K t):=by
 have sc:=T.uF.sc ["net", "rows", "doors", "door"]
 refine T.uF.F.ok sc ln (fun _ _ _ _ H vs Q E hr h=>?_)
 obtain⟨n,rw,ls,ps,RW,rfl,N,hrw,hO,k⟩:=h
 refine⟨_,(aq (sN sc 2 (Om (pv 0) T.aQ T.aQ.me.2.2.2.2.1 (qW T) T.lG hr))
  (aq (yd (H0:=H) rfl (dG PassesOwn.never rfl (yK (pv 1)) (gN sc 3)
   (aA (bN (aV fP (pv 3) (pv 2) (by with_unfolding_all rfl))
    (aA dJ)
    bj))))
  (aA (yd (H0:=H) rfl (dG PassesOwn.never rfl (yK (pv 1)) (gN sc 3)
   (aA (bN (jf (gZ (dw (Oi T) T.Cy hr (aa (cZ hr.u1 (pv 1) (pv 3) (fun _ _=>rfl)) ak aF))))
    (aA dJ)
    bj))))))),?_⟩
 have hz:sizeLine=16777216:=sizeLine_eq
 obtain⟨dxn,fsn,R,F,Pd,Gn,Tk,FL,PL,Wn⟩:=id N
 refine⟨_,rfl,n,dxn,fsn,rfl,Wn.obj,Wn.fl.no _ (by decide +kernel),n,ls,ps,rfl,N,fun l nl=>?_⟩
 have s1:=aB (o:=.lst (dW ps "give")) nl
 have el:upd H l (.lst (dW ps "give")) l=some (.lst (dW ps "give")):=au
 generalize upd H l (.lst (dW ps "give"))=H1 at s1 el ⊢
 have fl:(dW ps "give").all mD=true:=by
  rw [List.all_eq_true]
  intro v hv
  obtain⟨p,_,rfl⟩:=List.mem_map.mp hv
  rfl
 have w1:=hrw.same s1
 have nf:∀(o':Obj) (u':HO),H rw≠some (.frz o' u'):=fun o' u' z=>by rw [hrw.dict] at z;cases z
 refine⟨_,rfl,rw,_,rfl,w1.dict,fun o=>yG (fun j σ H'=>H'=upd H1 rw (.frz o (.dK (gU RW)))/\∃v3,σ=[some (.ref n),some (.ref rw),some (.ref l),v3]) ⟨rfl,none,rfl⟩ (fun j σ H' _ ⟨e,_⟩=>by rw [e];exact au) ?_ ?_⟩
 ·rintro j kk v σ H' hj ⟨rfl,v3,rfl⟩
  unfold gU at hj
  rw [List.getElem?_map] at hj
  obtain⟨q,hq,e⟩:=Option.map_eq_some_iff.mp hj
  cases e
  refine⟨_,rfl,_,rfl,l,_,rfl,.inl (bF.of (jC w1.dict el (by intro _ z;cases z))),rfl,fl,_,rfl,?_⟩
  have hin:inV (kV (Sum.inr q.1)) (dW ps "give")=true:=RQ (hO.door q (List.mem_of_getElem? hq)) (by simp [Kv,kV])
  rw [hin]
  exact bU ⟨rfl,_,rfl⟩
 rintro σ H' ⟨rfl,v3,rfl⟩
 refine⟨_,⟨rw,o,_,au,nf,rfl⟩,?_⟩
 rw [jt,Ie w1.dict]
 refine⟨_,rfl,rw,_,rfl,w1.dict,fun o=>yG (fun j σ H'=>aM (upd H1 rw (.frz o (.dK (gU RW)))) H'/\∃v3,σ=[some (.ref n),some (.ref rw),some (.ref l),v3]) ⟨aM.refl _,v3,rfl⟩ (fun j σ H' _ ⟨e,_⟩=>e _ _ au) ?_ ?_⟩
 ·rintro j kk v σ H' hj ⟨s2,v3,rfl⟩
  unfold gU at hj
  rw [List.getElem?_map] at hj
  obtain⟨q,hq,e⟩:=Option.map_eq_some_iff.mp hj
  cases e
  have hm:=List.mem_of_getElem? hq
  have vq:b8 (gU RW) (Sum.inr q.1)=some (.ref q.2.1):=iQ (by rw [wL];exact fH hrw.nd) (List.mem_map.mpr ⟨q,hm,rfl⟩)
  have eq2:=s2 _ _ (jC w1.dict (w1.lists q hm) (by intro _ z;cases z))
  refine⟨_,rfl,_,rfl,rw,_,rfl,(by rw [<-vq];exact .inl ⟨_,Sum.inr q.1,.inr ⟨o,s2 _ _ au⟩,rfl,rfl⟩),q.2.1,q.2.2,rfl,bF.of eq2,hrw.len q hm,hO.bnd q hm,fun H3 s3=>⟨_,rfl,bU ⟨s2.trans s3,_,rfl⟩⟩⟩
 rintro σ H' ⟨s2,v3,rfl⟩
 refine⟨_,⟨rw,o,_,s2 _ _ au,nf,rfl⟩,?_⟩
 refine k _ fun b u e=>?_
 by_cases hb:b=rw
 ·subst hb
  rw [au]
  rw [hrw.dict] at e
  exact e
 ·rw [aK hb]
  exact s2 _ _ (by rw [aK hb];exact s1 _ _ e)
theorem Q8 {H:Hp} {Q:VK} {Ex:XK} {H0:Hp} {f dx n rw:Addr} {ls:List aG} {ps:List PD} {RW:List (Str×Addr×List Int)} (hf:H f=some (.ins t.bY dx [])) (s0:aM H0 H) (nf:H0 f=none) (N:gA K t H0 n ls ps) (hrw:nZ H0 rw RW)
  (k:∀(H':Hp) (A:mZ),A.f=f->A.n=n->lD f H H'->dU K t H' A ls ps (mq ls ps RW)->(∀a∈A.cells ls ps,H a=none)->Q .non H'):f9 K t [.ref f,.ref n,.ref rw] H Q Ex:=by
 unfold f9
 exact⟨H0,f,dx,n,rw,ls,ps,RW,rfl,hf,s0,nf,N,hrw,k⟩
inductive qD (K:PySem.W.Frag) (t:jy) (vs:List V) (H:Hp) (Q:VK):Prop where
 | mk:∀(H0:Hp) (r dx n rw:Addr) (ls:List aG) (ps:List PD) (RW:List (Str×Addr×List Int)),vs=[.ref r,.ref n,.ref rw]->H r=some (.ins t.oV dx [])->aM H0 H->H0 r=none->gA K t H0 n ls ps->nZ H0 rw RW->Kw ps RW->(∀H' A,A.n=n->aM H0 H'->wY K t H' r 0 A ls ps (mq ls ps RW)->(∀a∈A.cells ls ps,H0 a=none)->Q .non H')->qD K t vs H Q
@[irreducible] noncomputable def gP (K:PySem.W.Frag) (t:jy):Sp:=fun vs H Q _=>qD K t vs H Q
theorem Bg (T:Txt w K mg t):FO P w K mg base 6 t.n6 ["self", "net", "rows"] (gP K t):=by
 have sc:=T.jQ.sc ["self", "net", "rows"]
 refine T.jQ.F.ok sc (fun vs H Q E h=>?_) (fun cdv A outer s H vs Q E hr h=>?_)
 ·unfold gP at h
  obtain⟨H0,r,dx,n,rw,ls,ps,RW,rfl,_⟩:=h
  rfl
 ·unfold gP at h
  obtain⟨H0,r,dx,n,rw,ls,ps,RW,rfl,hr1,s0,nr0,N,hrw,hO,k⟩:=h
  refine⟨_,(aq (bC (dw (Ho T) T.uF hr (aa (pv 1) (aa (pv 2) ak aj) aj)))
   (aq (ie (pv 0) (pv 1) rfl)
   (aq (ie (pv 0) (ik (T.aU.M T.jw) (zE T) (hr.mono (by decide)) (by rfl) T.aU.m T.jw.b .nil ig (aa (pv 1) (aa (pv 2) ak aj) aj)) rfl)
   (aA (ie (pv 0) az rfl))))),?_⟩
  refine⟨_,rfl,_,rfl,n,rw,ls,ps,RW,rfl,N.same s0,hrw.same s0,hO,fun H1 s1=>?_⟩
  have T0:=(Tr.start hr1).same s1
  refine⟨_,rfl,_,rfl,r,_,dx,[],rfl,s1 _ _ hr1,T.bW.c,T.bW.na.1,by show 0 <1000;decide,?_⟩
  have T1:=T0.put (L1:=[]) (L2:=[]) (o':=.ins t.oV dx (aH "net" (.ref n) []))
  generalize upd H1 r (.ins t.oV dx (aH "net" (.ref n) []))=H2 at T1 ⊢
  have s02:aM H0 H2:=fun x o e=>T1.but x o (aD e nr0) (s0 x o e)
  have er2:=T1.all (r,.ins t.oV dx (aH "net" (.ref n) [])) (.head _)
  refine⟨_,rfl,_,rfl,fun f dxf nf ndf nef=>?_⟩
  have s3:aM H2 (upd (upd H2 dxf (.own f)) f (.ins t.bY dxf [])):=fun b o e=>by rw [aK (aD e nf),aK (aD e ndf)];exact e
  have ef:(upd (upd H2 dxf (.own f)) f (.ins t.bY dxf [])) f=some (.ins t.bY dxf []):=au
  generalize upd (upd H2 dxf (.own f)) f (.ins t.bY dxf [])=H3 at s3 ef ⊢
  have s03:=s02.trans s3
  have nfr:r≠f:=aD er2 nf
  refine Q8 ef s03 (s02.free nf) N hrw fun H4 A eAf eAn b4 W4 fr4=>⟨rfl,?_⟩
  subst eAf
  subst eAn
  have er4:=b4 r _ nfr (s3 _ _ er2)
  have nrc:r∉A.cells ls ps:=W4.ncell er4 (by intro _ z;cases z) (by intro _ z;cases z)
  refine⟨_,rfl,r,_,dx,_,rfl,er4,T.bW.c,T.bW.na.2.1,Nat.lt_of_le_of_lt (gO (Nat.zero_le 0)) (by decide),?_⟩
  have er5:upd H4 r (.ins t.oV dx (aH "flow" (.ref A.f) (aH "net" (.ref A.n) []))) r=some (.ins t.oV dx (aH "flow" (.ref A.f) (aH "net" (.ref A.n) []))):=au
  refine⟨_,rfl,r,_,dx,_,rfl,er5,T.bW.c,T.bW.na.2.2.1,Nat.lt_of_le_of_lt (gO (gO (Nat.zero_le 0))) (by decide),?_⟩
  rw [jt]
  have s05:∀o:HO,aM H0 (upd H4 r o):=fun o b u e=>by
   rw [aK (aD e nr0)]
   exact b4 b u (aD e (s02.free nf)) (s03 b u e)
  have fr0:∀a∈A.cells ls ps,H0 a=none:=fun a ha=>s03.free (fr4 a ha)
  refine k _ A rfl (s05 _) ⟨⟨dx,_,⟨au,gO (gO (gO (Nat.zero_le 0)))⟩,⟨?_,?_⟩⟩,N.same fun b u e=>?_,W4.ins nrc nfr,nfr⟩ fr0
  ·intro q hq
   simp only [List.mem_cons,List.not_mem_nil,or_false] at hq
   rcases hq with rfl | rfl | rfl
   ·dsimp only;(repeat first | (rw [aC,if_pos rfl];done) | rw [aC,if_neg (by decide +kernel)])
   ·dsimp only;(repeat first | (rw [aC,if_pos rfl];done) | rw [aC,if_neg (by decide +kernel)])
   ·dsimp only
    rw [aC,if_pos rfl]
    rfl
  ·intro m hm
   have hne:∀m∈(["step", "need_doors", "next_deed", "full_lane", "can_work", "works", "lane_now", "turn"]:List Str),∀g∈(["turns", "flow", "net"]:List Str),¬m=g:=by decide +kernel
   have h:=hne m hm
   rw [aC,if_neg (h _ (by simp)),aC,if_neg (h _ (by simp)),aC,if_neg (h _ (by simp))]
   rfl
  ·have hn:b∉r:: A.cells ls ps:=fun z=>by
    rcases List.mem_cons.mp z with z | z
    ·rw [z,nr0] at e;cases e
    ·rw [fr0 b z] at e;cases e
   unfold bG
   rw [if_neg hn]
   exact s05 _ b u e
theorem Hj (i:Nat) (xs:List Str) (hs:List V):dM i xs hs=.non∨∃x,dM i xs hs=.str x:=by
 unfold dM
 split
 ·rename_i q _
  cases xs[q]? with
  | none=>exact .inl rfl
  | some x=>exact .inr ⟨x,rfl⟩
 ·exact .inl rfl
noncomputable def Vh (S:FS) (p:PD):List (Str×Int):=(cT p.kind p.nums (Bu S p) (S.k p.name)).map fun pv=>(strAt p.outs pv.1.toNat,pv.2)
noncomputable def jA (ls:List aG) (S:FS) (p:PD):Option (Str×Str):=match dM p.kind p.ins (bw S p) with
 | .str x=>some (x,("value" :Str))
 | _=>if vB S p=true then some (("" :Str),("end" :Str)) else match (Vh S p).find? (uJ ls S) with
  | some q=>some (q.1,("room" :Str))
  | none=>none
theorem G7 {ls:List aG} {S:FS} {p:PD} {x:Str} (h:dM p.kind p.ins (bw S p)=.str x):jA ls S p=some (x,("value" :Str)):=by unfold jA;rw [h]
theorem Ig {ls:List aG} {S:FS} {p:PD} (h:dM p.kind p.ins (bw S p)=.non) (he:vB S p=true):jA ls S p=some (("" :Str),("end" :Str)):=by unfold jA;rw [h];exact if_pos he
theorem Hg {ls:List aG} {S:FS} {p:PD} (h:dM p.kind p.ins (bw S p)=.non) (he:vB S p=false):jA ls S p=match (Vh S p).find? (uJ ls S) with
  | some q=>some (q.1,("room" :Str))
  | none=>none:=by unfold jA;rw [h];exact if_neg (by simp [he])
inductive Ak (K:PySem.W.Frag) (t:jy) (vs:List V) (H:Hp) (Q:VK):Prop where
 | mk:∀(b:Nat) (r:Addr) (n:Nat) (A:mZ) (ls:List aG) (ps:List PD) (S:FS) (p:PD),vs=[.ref r,.str p.name]->oH t H r A.n A.f n->gA K t H A.n ls ps->dU K t H A ls ps S->Et b ls ps S->p∈ps->((jA ls S p=none->∀H',aM H H'->Q .non H'))->(∀x y,jA ls S p=some (x,y)->∀H' u,aM H H'->H u=none->H' u=some (.tup [.str p.name,.str x,.str y])->Q (.ref u) H')->Ak K t vs H Q
@[irreducible] noncomputable def n8 (K:PySem.W.Frag) (t:jy):Sp:=fun vs H Q _=>Ak K t vs H Q
theorem Mp (T:Txt w K mg t):FO P w K mg base 6 t.Fy ["run", "name"] (n8 K t):=by
 have sc:=T.zA.sc ["run", "name", "lane"]
 refine T.zA.F.ok sc (fun vs H Q E h=>?_) (fun cdv A outer s H vs Q E hr h=>?_)
 ·unfold n8 at h
  obtain⟨b,r,n,A,ls,ps,S,p,rfl,_⟩:=h
  rfl
 ·unfold n8 at h
  obtain⟨b,r,n,A,ls,ps,S,p,rfl,hR,N,W,O,hp,kN,kS⟩:=h
  refine⟨_,(aq (sN sc 2 (wK (bh (pv 0) rfl) T.aU T.aU.me.2.2.2.2.2.1 (sV T) T.jN hr (aa (pv 1) ak aj)))
   (aq (bN (gh (vA (pv 2)))
    (aA (aN (cz (aa (pv 1) (aa (pv 2) (aa bJ ak ao) aj) aj))))
    bj)
   (aq (bN (gZ (wK (bh (pv 0) rfl) T.aU T.aU.me.2.2.2.1 (pA T) T.je hr (aa (pv 1) ak aj)))
    (aA (aN (cz (aa (pv 1) (aa bJ (aa bJ ak ao) ao) aj))))
    bj)
   (aq (sN sc 2 (wK (pv 0) T.bW T.bW.me.2.1 (qH T) T.ju hr (aa (wK (bh (pv 0) rfl) T.aU T.aU.me.2.2.2.2.2.2.1 (xq T) T.pI hr (aa (pv 1) ak aj)) ak aZ)))
   (aA (aN (oA (gh (zr (pv 2))) rQ (cz (aa (pv 1) (aa (pv 2) (aa bJ ak ao) aj) aj))))))))),?_⟩
  have hz:sizeLine=16777216:=sizeLine_eq
  have F:zY ls ps:=by obtain⟨_,_,_,_,_,_,_,_,_,Wn⟩:=N;exact Wn.fit
  obtain⟨dxr,fsr,R0⟩:=id hR
  obtain⟨dx,fs,h1,h2⟩:=id W.at'.ex
  have vd:=u5 (k:=fun x=>(S.d x:Int)) F.pnd hp
  refine⟨_,rfl,r,_,dxr,fsr,_,rfl,R0.1.1,T.bW.c,T.bW.na.2.1,R0.2.has ("flow",.ref A.f) (by simp),A.f,dx,fs,rfl,h1,h2.no _ (by decide +kernel),_,rfl,A,ls,ps,S,p,rfl,N,W,hp,fun H1 s1=>?_⟩
  rcases Hj p.kind p.ins (bw S p) with hlk | ⟨x,hlk⟩
  rotate_left
  ·rw [hlk]
   exact⟨_,rfl,_,rfl,d9 ⟨_,rfl,_,rfl,iu,fun u nu=>kS _ _ (G7 hlk) _ u (s1.trans (aB nu)) (s1.free nu) au⟩⟩
  rw [hlk]
  refine⟨_,rfl,_,rfl,bU ?_⟩
  obtain⟨dxr,fsr,R1⟩:=hR.same s1
  have W1:=W.same s1
  refine⟨_,rfl,r,_,dxr,fsr,_,rfl,R1.1.1,T.bW.c,T.bW.na.2.1,R1.2.has ("flow",.ref A.f) (by simp),A.f,dx,fs,rfl,s1 _ _ h1,h2.no _ (by decide +kernel),_,rfl,?_⟩
  cases he:vB S p with
  | true=>
   have h0:p.kind=0/\S.d p.name=(S.r p.name).length:=by unfold vB at he;simpa using he
   refine Nq W1.at' W1.rows W1.done (.inr ⟨_,_,S.d p.name,uQ F.pnd hp h0.1,vd,bF.of (W1.rlst p hp h0.1),?_⟩)
   rw [decide_eq_true (by rw [lM];exact h0.2)]
   exact⟨_,rfl,d9 ⟨_,rfl,iu,fun u nu=>kS _ _ (Ig hlk he) _ u (s1.trans (aB nu)) (s1.free nu) au⟩⟩
  | false=>
  have pick:∀(Q':VK) (E':XK),Q' (.bl false) H1->dB K t [.ref A.f,.str p.name] H1 Q' E':=by
   intro Q' E' z
   refine Nq W1.at' W1.rows W1.done ?_
   by_cases h0:p.kind=0
   ·refine .inr ⟨_,_,S.d p.name,uQ F.pnd hp h0,vd,bF.of (W1.rlst p hp h0),?_⟩
    unfold vB at he
    simp [h0] at he
    rw [decide_eq_false (by rw [lM];exact he)]
    exact z
   ·exact .inl ⟨Hu F.pnd hp h0,z⟩
  refine pick _ _ ⟨_,rfl,bU ?_⟩
  clear pick
  refine⟨_,rfl,r,dxr,fsr,rfl,R1.1.1,R1.2.no _ (by decide +kernel),_,rfl,r,_,dxr,fsr,_,rfl,R1.1.1,T.bW.c,T.bW.na.2.1,R1.2.has ("flow",.ref A.f) (by simp),A.f,dx,fs,rfl,s1 _ _ h1,h2.no _ (by decide +kernel),_,rfl,?_⟩
  have hdd:jl S p=some ⟨(places p.kind (bw S p)).map (strAt p.ins),Vh S p,fV p.kind (Bu S p) (S.k p.name)⟩:=by unfold jl;rw [if_neg (by simp [hlk]),if_neg (by simp [he])];rfl
  refine Nx (N.same s1) W1 hp O (fun hn=>by rw [hdd] at hn;cases hn) (fun dd hd H2 U s2 nU DA=>?_)
  rw [hdd] at hd
  cases hd
  have s12:=s1.trans s2
  refine⟨r,n,A,ls,ps,S,_,U,_,rfl,hR.same s12,N.same s12,W.same s12,DA,(u9 F hp hdd).gin,fun H3 s3=>?_⟩
  have s13:=s12.trans s3
  have ew:=Hg (ls:=ls) hlk he
  unfold yI
  dsimp only
  cases hf:(Vh S p).find? (uJ ls S) with
  | none=>
   rw [hf] at ew
   exact⟨_,rfl,_,rfl,d9 (kN ew _ s13)⟩
  | some q=>
   rw [hf] at ew
   exact⟨_,rfl,_,rfl,bU ⟨_,rfl,_,rfl,iu,fun u nu=>kS _ _ ew _ u (s13.trans (aB nu)) (s13.free nu) au⟩⟩
theorem RG {H:Hp} {Q:VK} {Ex:XK} {b:Nat} {r:Addr} {n:Nat} {A:mZ} {ls:List aG} {ps:List PD} {S:FS} {p:PD} (hR:oH t H r A.n A.f n) (N:gA K t H A.n ls ps) (W:dU K t H A ls ps S) (O:Et b ls ps S) (hp:p∈ps) (kN:jA ls S p=none->∀H',aM H H'->Q .non H')
  (kS:∀x y,jA ls S p=some (x,y)->∀H' u,aM H H'->H u=none->H' u=some (.tup [.str p.name,.str x,.str y])->Q (.ref u) H'):n8 K t [.ref r,.str p.name] H Q Ex:=by
 unfold n8
 exact⟨b,r,n,A,ls,ps,S,p,rfl,hR,N,W,O,hp,kN,kS⟩
noncomputable def jJ (ls:List aG) (S:FS) (ps:List PD):List (Str×Str×Str):=ps.filterMap fun p=>(jA ls S p).map fun w=>(p.name,w.1,w.2)
noncomputable def Bo (w:Str×Str×Str):List V:=[.str w.1,.str w.2.1,.str w.2.2]
theorem Ry (ls:List aG) (S:FS) (ps:List PD) (p:PD):jJ ls S (ps ++ [p])=jJ ls S ps ++ ((jA ls S p).map fun w=>(p.name,w.1,w.2)).toList:=by
 unfold jJ
 rw [List.filterMap_append,List.filterMap_cons,List.filterMap_nil]
 cases jA ls S p <;> rfl
theorem HN (ls:List aG) (S:FS) (ps:List PD):(jJ ls S ps).length<=ps.length:=List.length_filterMap_le _ _
inductive Am (K:PySem.W.Frag) (t:jy) (vs:List V) (H:Hp) (Q:VK) (E:XK):Prop where
 | mk:∀(b:Nat) (r:Addr) (n:Nat) (A:mZ) (ls:List aG) (ps:List PD) (S:FS),vs=[.ref r]->oH t H r A.n A.f n->gA K t H A.n ls ps->dU K t H A ls ps S->Et b ls ps S->(∀(H':Hp) (L:Addr) (us:List Addr),aM H H'->H L=none->H' L=some (.lst (us.map V.ref))->cM H' us ((jJ ls S ps).map Bo)->(∀u∈us,H u=none)->Q (.ref L) H')->Am K t vs H Q E
theorem z9 (T:Txt w K mg t):FO P w K mg base 7 t.Dl ["run"] (Am K t):=by
 have sc:=T.rG.sc ["run", "waits"]
 refine T.rG.F.ok sc ln (fun _ _ _ _ H vs Q E hr h=>?_)
 obtain⟨b,r,n,A,ls,ps,S,rfl,hR,N,W,O,k⟩:=h
 refine⟨_,(aq (jP (i:=1) [0] ["run", "waits"] (aR (top 5)) rfl sc.nd rfl (bM (Om (bh (pv 0) rfl) T.aQ T.aQ.me.2.2.1 (dC T) T.cD hr)) (fun _ _ _ _ _=>gm) (fun _ _ _ _ _=>(dw (Mp T) T.zA hr (aa (pv 1) (aa (pv 0) ak aj) aj))))
  (aA (aN (dZ [] ["run", "waits"] (aR (top 5)) rfl (bM (pv 1)) (fun _ _ _ _ _=>(uR (gh (vA (pv 0))))) (fun _ _ _ _ _=>(pv 0)))))),?_⟩
 have hz:sizeLine=16777216:=sizeLine_eq
 obtain⟨dxn,fsn,R,F0,Pd,Gn,Tk,FL,PL,Wn⟩:=id N
 have p16:=Wn.fit.p16
 obtain⟨dxr,fsr,R0⟩:=id hR
 refine⟨_,rfl,r,_,dxr,fsr,_,rfl,R0.1.1,T.bW.c,T.bW.na.1,R0.2.has ("net",.ref A.n) (by simp),A.n,dxn,fsn,rfl,Wn.obj,Wn.fl.no _ (by decide +kernel),A.n,ls,ps,rfl,N,fun l nl=>?_⟩
 have s1:=aB (o:=.lst (ps.map fun x=>V.str x.name)) nl
 have el:upd H l (.lst (ps.map fun x=>V.str x.name)) l=some (.lst (ps.map fun x=>V.str x.name)):=au
 generalize upd H l (.lst (ps.map fun x=>V.str x.name))=H1 at s1 el ⊢
 refine⟨l,rfl,⟨_,bF.of el⟩,dR (K:=K) (a:=l) (xs:=ps.map fun x=>V.str x.name) (fun j ys H'=>aM H1 H'/\ys.length=j/\∃us:List Addr,ys.filter (fun v=>!decide (v=.non))=us.map V.ref/\cM H' us ((jJ ls S (ps.take j)).map Bo)/\(∀u∈us,H u=none)/\∀v∈ys,v=.non∨∃u,v=.ref u) (by rw [lM];omega) ⟨aM.refl _,rfl,[],rfl,.nil,by simp,by simp⟩ (fun j ys H' h=>by omega) (fun j ys H' _ h=>h.1.seq (bF.of el)) ?_ ?_⟩
 ·rintro j x ys H2 hx ⟨s2,ly,us,eu,tu,fu,hv⟩
  rw [List.getElem?_map] at hx
  obtain⟨p,hpj,rfl⟩:=Option.map_eq_some_iff.mp hx
  have s12:=s1.trans s2
  rw [List.take_succ,hpj,Option.toList_some,Ry,List.map_append]
  refine yes ⟨_,rfl,_,rfl,RG (hR.same s12) (N.same s12) (W.same s12) O (List.mem_of_getElem? hpj) (fun hn H3 s3=>?_) (fun x y hw H3 u s3 nu eu3=>?_)⟩
  ·rw [hn]
   refine⟨s2.trans s3,by rw [lP,ly];rfl,us,by rw [List.filter_append,eu];simp,by simpa using cM.same s3 tu,fu,fun v h=>?_⟩
   rcases List.mem_append.mp h with h | h
   ·exact hv v h
   ·exact .inl (List.mem_singleton.mp h)
  ·rw [hw]
   refine⟨s2.trans s3,by rw [lP,ly];rfl,us ++ [u],by rw [List.filter_append,eu];simp,(cM.same s3 tu).append (.cons eu3 .nil),fun z hz=>?_,fun v h=>?_⟩
   ·rcases List.mem_append.mp hz with h | h
    ·exact fu z h
    ·rw [List.mem_singleton.mp h];exact s12.free nu
   ·rcases List.mem_append.mp h with h | h
    ·exact hv v h
    ·exact .inr ⟨u,List.mem_singleton.mp h⟩
 rintro ys H2 ⟨s2,ly,us,eu,tu,fu,hv⟩ L1 nL1
 rw [lM] at ly
 rw [lM,List.take_length] at tu
 have t3:=aB (o:=.lst ys) nL1
 have eL1:upd H2 L1 (.lst ys) L1=some (.lst ys):=au
 have tu3:=cM.same t3 tu
 have s13:=(s1.trans s2).trans t3
 generalize upd H2 L1 (.lst ys)=H3 at t3 eL1 tu3 s13 ⊢
 refine⟨_,rfl,L1,rfl,⟨_,bF.of eL1⟩,dR (K:=K) (a:=L1) (xs:=ys) (fun j zs H'=>H'=H3/\zs=(ys.take j).filter (fun v=>!decide (v=.non))) (by omega) ⟨rfl,rfl⟩ (fun j zs H' ⟨_,e⟩=>by rw [e];exact Nat.le_trans (List.length_filter_le _ _) (by rw [List.length_take];omega)) (fun j zs H' _ ⟨e,_⟩=>by rw [e];exact bF.of eL1) ?_ ?_⟩
 ·rintro j v zs H' hj ⟨rfl,rfl⟩
  refine⟨_,rfl,_,rfl,?_⟩
  rw [List.take_succ,hj,Option.toList_some,List.filter_append]
  rcases hv v (List.mem_of_getElem? hj) with rfl | ⟨u,rfl⟩
  ·exact bU ⟨rfl,by simp⟩
  ·exact d9 ⟨_,rfl,rfl,by simp⟩
 rintro zs H' ⟨rfl,rfl⟩ L2 nL2
 rw [List.take_length,eu]
 have t4:=aB (o:=.lst (us.map V.ref)) nL2
 exact k _ L2 us (s13.trans t4) (s13.free nL2) au (cM.same t4 tu3) fu
noncomputable def yD {β:Type} (g:β->V) (m:List (Str×β)):List (Key×V):=m.map fun q=>((Sum.inr q.1:Key),g q.2)
noncomputable def CQ {β:Type} (m:List (Str×β)) (x:Str):Option β:=(m.find? fun q=>decide (q.1=x)).map (·.2)
noncomputable def putG {β:Type} (m:List (Str×β)) (x:Str) (b:β):List (Str×β):=if (m.any fun q=>decide (q.1=x))=true then m.map (fun q=>if q.1=x then(q.1,b) else q) else m ++ [(x,b)]
section
variable {β:Type} {g:β->V}
theorem Ir (g:β->V) (m:List (Str×β)):(yD g m).length=m.length:=by unfold yD;rw [lM]
theorem Hx (g:β->V) (x:Str):∀m:List (Str×β),b8 (yD g m) (Sum.inr x)=(CQ m x).map g
 | []=>rfl
 | q:: r=>by
  unfold yD CQ
  rw [List.map_cons]
  by_cases h:q.1=x
  ·rw [gq (by rw [h]),List.find?_cons_of_pos (by simp [h])]
   rfl
  ·rw [fM (fun z=>h (Sum.inr.inj z)),List.find?_cons_of_neg (by simp [h])]
   exact Hx g x r
theorem vy {H:Hp} {d:Addr} {m:List (Str×β)} (h:H d=some (.dK (yD g m))) (x:Str):eE H d (.str x) ((CQ m x).map g):=by
 rw [<-Hx]
 exact eE.k (k:=Sum.inr x) h
theorem Uu (m:List (Str×β)) (x:Str):(m.any fun q=>decide (q.1=x))=(CQ m x).isSome:=by
 unfold CQ
 induction m with
 | nil=>rfl
 | cons q r ih=>
  rw [List.any_cons,ih]
  by_cases h:q.1=x
  ·rw [List.find?_cons_of_pos (by simp [h])];simp [h]
  ·rw [List.find?_cons_of_neg (by simp [h])];simp [h]
theorem Rj (q:Str×β) (r:List (Str×β)) (y:Str):CQ (q:: r) y=if q.1=y then some q.2 else CQ r y:=by
 unfold CQ
 by_cases h:q.1=y
 ·rw [List.find?_cons_of_pos (by simp [h]),if_pos h];rfl
 ·rw [List.find?_cons_of_neg (by simp [h]),if_neg h]
theorem Nk {m:List (Str×β)} {x:Str} {b:β} (h:CQ m x=some b):(x,b)∈m:=by
 unfold CQ at h
 obtain⟨q,hq,rfl⟩:=Option.map_eq_some_iff.mp h
 have h1:=List.mem_of_find?_eq_some hq
 have h2:=List.find?_some hq
 simp only [decide_eq_true_eq] at h2
 rw [<-h2]
 exact h1
theorem Qc {m:List (Str×β)} {x:Str} (h:x∉m.map (·.1)):CQ m x=none:=by
 cases e:CQ m x with
 | none=>rfl
 | some b=>exact absurd (List.mem_map.mpr ⟨_,Nk e,rfl⟩) h
theorem Uw {m:List (Str×β)} {x:Str}:(CQ m x).isSome=true↔x∈m.map (·.1):=by
 constructor
 ·intro h
  obtain⟨b,e⟩:=Option.isSome_iff_exists.mp h
  exact List.mem_map.mpr ⟨_,Nk e,rfl⟩
 ·intro h
  rw [<-Uu]
  obtain⟨q,hq,rfl⟩:=List.mem_map.mp h
  exact List.any_eq_true.mpr ⟨q,hq,by simp⟩
end
theorem kW (x:Str) (xs:List Str):inV (.str x) (xs.map V.str)=decide (x∈xs):=by
 have:=Er (f:=fun y:Str=>y) (xs:=xs) (x:=x)
 simpa using this
theorem fG (xs:List Str):(xs.map V.str).all mD=true:=by simp [mD]
theorem JL {a b c:Nat} {σ:St} {H':Hp} {Q' Q'':Bool->Hp->Prop} (hm:∀b H,Q' b H->Q'' b H) (hq:WM (tB (QF (vH a) (vH b))) (z6 (Rv (V4 K true) (vH a) (vH c))) σ H' Q'):WM (tB (QF (vH a) (vH b))) (z6 (Rv (V4 K true) (vH a) (vH c))) σ H' Q'':=by
 obtain⟨v,e,u,e2,hq⟩:=hq
 refine⟨v,e,u,e2,?_⟩
 have go:∀{z:Bool},(if z=true then(z6 (Rv (V4 K true) (vH a) (vH c))) σ H' Q' else Q' false H')->(if z=true then(z6 (Rv (V4 K true) (vH a) (vH c))) σ H' Q'' else Q'' false H'):=fun {z} hq=>by
  split at hq
  ·rename_i hb
   rw [if_pos hb]
   obtain⟨v,e,u,e2,p',xs,e3,h1,h2,h3,b',e5,hq⟩:=hq
   exact⟨v,e,u,e2,p',xs,e3,h1,h2,h3,b',e5,hm _ _ hq⟩
  ·rename_i hb
   rw [if_neg hb]
   exact hm _ _ hq
 rcases hq with ⟨a,o,e3,g,b,e4,hq⟩ | ⟨a,kvs,e3,e4,rd,b,e5,hq⟩
 ·exact .key a o e3 g ⟨b,e4,go hq⟩
 ·exact .non a kvs e3 e4 rd ⟨b,e5,go hq⟩
theorem Mw (xs:List Str):inV .non (xs.map V.str)=false:=by
 unfold inV
 rw [List.any_map]
 refine List.any_eq_false.mpr fun x _=>?_
 simp [Kv]
theorem qL:∀{s:List Str} {a:Str},a∈s->s[s.idxOf a]?=some a/\∀m y,m <s.idxOf a->s[m]?=some y->y≠a
 | [],_,h=>by cases h
 | z:: s,a,h=>by
  rw [List.idxOf_cons]
  by_cases e:z=a
  ·rw [e]
   simp
  ·have hb:(z == a)=false:=by simpa using e
   rw [hb]
   rcases List.mem_cons.mp h with h | h
   ·exact absurd h.symm e
   obtain⟨i1,i2⟩:=qL h
   refine⟨by simpa using i1,fun m y hm hy=>?_⟩
   cases m with
   | zero=>rw [List.getElem?_cons_zero] at hy;rw [<-Option.some.inj hy];exact e
   | succ m=>rw [List.getElem?_cons_succ] at hy;exact i2 m y (by simp at hm;omega) hy
theorem xY:∀{l m:List Str},l.Nodup->(∀x∈l,x∈m)->l.length<=m.length
 | [],_,_,_=>Nat.zero_le _
 | a:: r,m,nd,h=>by
  rw [List.nodup_cons] at nd
  have ha:=h a List.mem_cons_self
  have:=xY (l:=r) (m:=m.erase a) nd.2 fun x hx=>(List.mem_erase_of_ne (fun z=>nd.1 (by rw [<-z];exact hx))).mpr (h x (List.mem_cons_of_mem _ hx))
  rw [List.length_erase_of_mem ha] at this
  have h1:=List.length_pos_of_mem ha
  rw [List.length_cons]
  omega
inductive wj (K:PySem.W.Frag) (vs:List V) (H:Hp) (Q:VK) (E:XK):Prop where
 | mk:∀(x:Str) (d:Addr) (m:List (Str×Option Str)),vs=[.str x,.ref d]->H d=some (.dK (yD qC m))->m.length<=1000->(∀H' L r,aM H H'->H L=none->H' L=some (.lst (r.map V.str))->qR (CQ m) x r->Q (.ref L) H')->wj K vs H Q E
theorem Fg (T:Txt w K mg t):FO P w K mg base 1 t.yh ["start", "leads"] (wj K):=by
 have sc:=T.rC.sc ["start", "leads", "seen", "at"]
 refine T.rC.F.ok sc ln (fun _ _ _ _ H vs Q E hr h=>?_)
 obtain⟨x,d,m,rfl,hd,hlen,k⟩:=h
 refine⟨_,(aq (sN sc 2 (bz ak))
  (aq (sN sc 3 (pv 0))
  (aq (qM PassesOwn.never (PW.pt (qX (gh (MF hr.u1 (pv 3) (pv 1))) (pO (aV fP (pv 3) (pv 2) (by with_unfolding_all rfl)))))
   (aq (bC (DP (pv 2) (aa (pv 3) ak aj)))
   (aA (sN sc 3 (cZ hr.u1 (pv 1) (pv 3) (fun _ _=>rfl))))))
  (aA (aN (oA (aV vo (pv 3) (pv 2) (by with_unfolding_all rfl)) (jK rU (pv 2) (jT (tW PySem.F.plainAttrs_list PySem.F.slot_list_index PySem.F.type_list_index Gi (pv 2) (aa (pv 3) ak aj))) rD) (bz ak))))))),?_⟩
 have hz:sizeLine=16777216:=sizeLine_eq
 refine⟨iu,fun S nS=>⟨_,rfl,?_⟩⟩
 refine qI (fun σ H'=>∃seen at0,σ=[some (.str x),some (.ref d),some (.ref S),some (qC at0)]/\H'=upd H S (.lst (seen.map V.str))/\Wk (CQ m) x seen at0) (fun σ H'=>m.length+1 - sW H' S) ⟨[],some x,rfl,rfl,.start⟩ ?_ ?_
 ·rintro σ H' ⟨seen,at0,rfl,rfl,g⟩
  have ed:upd H S (.lst (seen.map V.str)) d=some (.dK (yD qC m)):=by rw [aK (aD hd nS)];exact hd
  have eS:upd H S (.lst (seen.map V.str)) S=some (.lst (seen.map V.str)):=au
  have sS:aM H (upd H S (.lst (seen.map V.str))):=aB nS
  obtain⟨gnd,gin⟩:=g.nd
  have sl:seen.length<=m.length:=by
   have:=xY gnd (m:=m.map (·.1)) fun y hy=>Uw.mp (gin y hy)
   rwa [lM] at this
  cases at0 with
  | none=>
   refine⟨_,rfl,_,rfl,.non d _ rfl rfl (.inl ed) ⟨_,rfl,bU (bU ?_)⟩⟩
   refine⟨_,rfl,_,rfl,S,_,rfl,.inl (bF.of eS),rfl,fG _,_,rfl,?_⟩
   rw [show inV (qC none) (seen.map V.str)=false from Mw seen]
   refine bU ⟨iu,fun L nL=>?_⟩
   exact k _ L [] (sS.trans (aB nL)) (sS.free nL) au ⟨seen,none,g,fun y z=>(by cases z),rfl⟩
  | some a=>
   refine⟨_,rfl,_,rfl,.key d _ rfl (vy ed a) ?_⟩
   cases e:CQ m a with
   | none=>
    have hm:a∉seen:=fun z=>by have:=gin a z;rw [e] at this;cases this
    refine⟨_,rfl,bU (bU ?_)⟩
    refine⟨_,rfl,_,rfl,S,_,rfl,.inl (bF.of eS),rfl,fG _,_,rfl,?_⟩
    rw [show inV (qC (some a)) (seen.map V.str)=decide (a∈seen) from kW a seen,decide_eq_false hm]
    refine bU ⟨iu,fun L nL=>?_⟩
    refine k _ L [] (sS.trans (aB nL)) (sS.free nL) au ⟨seen,some a,g,fun y z=>(by cases z;exact .inl e),?_⟩
    show []=if a∈seen then _ else []
    rw [if_neg hm]
   | some b=>
    refine⟨_,rfl,d9 ?_⟩
    refine⟨_,rfl,_,rfl,S,_,rfl,.inl (bF.of eS),rfl,fG _,_,rfl,?_⟩
    rw [show inV (qC (some a)) (seen.map V.str)=decide (a∈seen) from kW a seen]
    by_cases hm:a∈seen
    ·rw [decide_eq_true hm]
     refine bU ?_
     refine⟨_,rfl,_,rfl,S,_,rfl,.inl (bF.of eS),rfl,fG _,_,rfl,?_⟩
     rw [show inV (qC (some a)) (seen.map V.str)=decide (a∈seen) from kW a seen,decide_eq_true hm]
     refine d9 ?_
     obtain⟨i1,i2⟩:=qL hm
     refine⟨_,rfl,_,rfl,.inl ⟨rfl,_,bF.of eS⟩,_,rfl,S,seen,a,seen.idxOf a,rfl,rfl,eS,i1,i2,_,rfl,S,_,rfl,bF.of eS,fun L nL=>?_⟩
     rw [zz,<-List.map_drop]
     refine k _ L _ (sS.trans (aB nL)) (sS.free nL) au ⟨seen,some a,g,fun y z=>(by cases z;exact .inr hm),?_⟩
     show _=if a∈seen then _ else []
     rw [if_pos hm]
    ·rw [decide_eq_false hm]
     refine d9 ?_
     refine⟨_,rfl,.inl ⟨rfl,_,bF.of eS⟩,_,rfl,S,_,_,rfl,rfl,eS,by rw [lM];omega,?_⟩
     rw [jt]
     have ed2:upd H S (.lst (seen.map V.str ++ [.str a])) d=some (.dK (yD qC m)):=by rw [aK (aD hd nS)];exact hd
     have g2:=vy ed2 a
     rw [e] at g2
     refine⟨_,rfl,_,rfl,d,_,rfl,g2,?_⟩
     have G:=g.step e hm
     have es:seen.map V.str ++ [V.str a]=(seen ++ [a]).map V.str:=by rw [List.map_append];rfl
     show(∃seen at0,_)/\_
     rw [show(qC (some a))=V.str a from rfl,es]
     refine⟨⟨seen ++ [a],b,rfl,rfl,G⟩,?_⟩
     show m.length+1 - sW _ S <m.length+1 - sW _ S
     rw [lL (au (H:=H) (a:=S) (o:=.lst ((seen ++ [a]).map V.str))),lL eS,lM,lM,lP,List.length_singleton]
     omega
 ·exact fun σ H' Q' Q'' hm hq=>JL hm hq
theorem QL {ls:List aG} {ps:List PD} (F:zY ls ps) {p:PD} (hp:p∈ps) {x:Str} (hx:x∈p.outs):(ps.find? fun p=>decide (x∈p.outs))=some p:=by
 have nd:=F.whole.outs.nodup_iff.mpr F.whole.nod
 cases e:ps.find? fun p=>decide (x∈p.outs) with
 | none=>exact absurd (decide_eq_true hx) (List.find?_eq_none.mp e p hp)
 | some q=>rw [Cv nd (List.mem_of_find?_eq_some e) hp (by simpa using List.find?_some e) hx]
theorem Uy {ls:List aG} {ps:List PD} (F:zY ls ps) {p:PD} (hp:p∈ps) {x:Str} (hx:x∈p.ins):(ps.find? fun p=>decide (x∈p.ins))=some p:=by
 have nd:=F.whole.ins.nodup_iff.mpr F.whole.nod
 cases e:ps.find? fun p=>decide (x∈p.ins) with
 | none=>exact absurd (decide_eq_true hx) (List.find?_eq_none.mp e p hp)
 | some q=>rw [Cv nd (List.mem_of_find?_eq_some e) hp (by simpa using List.find?_some e) hx]
noncomputable def Z6 (ls:List aG) (w:Str×Str×Str):Prop:=w.2.2= "value" ∨w.2.2= "room" ->w.2.1∈ls.map (·.name)
inductive Ac (K:PySem.W.Frag) (t:jy) (vs:List V) (H:Hp) (Q:VK) (E:XK):Prop where
 | mk:∀(n u:Addr) (ls:List aG) (ps:List PD) (w:Str×Str×Str),vs=[.ref n,.ref u]->gA K t H n ls ps->H u=some (.tup (Bo w))->Z6 ls w->(∀H',aM H H'->Q (qC (sY ps w)) H')->Ac K t vs H Q E
theorem An (T:Txt w K mg t):FO P w K mg base 4 t.Dk ["net", "wait"] (Ac K t):=by
 have sc:=T.rm.sc ["net", "wait"]
 refine T.rm.F.ok sc ln (fun _ _ _ _ H vs Q E hr h=>?_)
 obtain⟨n,u,ls,ps,w,rfl,N,hu,hw,k⟩:=h
 refine⟨_,(aq (bN (aV fL (aO bT (pv 1) az (fun _ _=>rfl)) bJ (bI _))
   (aA (aN (wK (pv 0) T.aQ T.aQ.me.2.2.2.2.2.2.2.2.2.1 (Br T) T.oJ hr (aa (aO bT (pv 1) az (fun _ _=>rfl)) ak aF))))
   bj)
  (aq (bN (aV fL (aO bT (pv 1) az (fun _ _=>rfl)) bJ (bI _))
   (aA (aN (wK (pv 0) T.aQ T.aQ.me.2.2.2.2.2.2.2.2.2.2.1 (Bd T) T.oU hr (aa (aO bT (pv 1) az (fun _ _=>rfl)) ak aF))))
   bj)
  (aA (aN rQ)))),?_⟩
 have hz:sizeLine=16777216:=sizeLine_eq
 obtain⟨dxn,fsn,R,F0,Pd,Gn,Tk,FL,PL,Wn⟩:=id N
 have F:=Wn.fit
 have q2:Fi (Bo w) 2=some (.str w.2.2):=aJ (j:=2) rfl
 have q1:Fi (Bo w) 1=some (.str w.2.1):=aJ (j:=1) rfl
 unfold sY at k
 refine⟨_,rfl,u,_,2,_,rfl,rfl,eN.of hu,q2,rfl,_,rfl,jz (fun h=>?_) (fun h=>?_)⟩
 ·have h:w.2.2= "value" :=by simpa using of_decide_eq_true h
  obtain⟨l,hl,el⟩:=List.mem_map.mp (hw (.inl h))
  refine⟨_,rfl,n,dxn,fsn,rfl,Wn.obj,Wn.fl.no _ (by decide +kernel),_,rfl,u,_,1,_,rfl,rfl,eN.of hu,q1,n,ls,ps,w.2.1,rfl,N,.inl ⟨l,hl,el,fun p hp ho H' s=>?_⟩⟩
  have k':=k H' s
  rw [if_pos h,QL F hp (by rw [<-el];exact ho)] at k'
  exact k'
 have h1:¬w.2.2= "value" :=fun z=>h (decide_eq_true (by rw [z]))
 refine⟨_,rfl,u,_,2,_,rfl,rfl,eN.of hu,q2,rfl,_,rfl,jz (fun h=>?_) (fun h=>?_)⟩
 ·have h:w.2.2= "room" :=by simpa using of_decide_eq_true h
  obtain⟨l,hl,el⟩:=List.mem_map.mp (hw (.inr h))
  refine⟨_,rfl,n,dxn,fsn,rfl,Wn.obj,Wn.fl.no _ (by decide +kernel),_,rfl,u,_,1,_,rfl,rfl,eN.of hu,q1,n,ls,ps,w.2.1,rfl,N,.inl ⟨l,hl,el,fun p hp ho H' s=>?_⟩⟩
  have k':=k H' s
  rw [if_neg h1,if_pos h,Uy F hp (by rw [<-el];exact ho)] at k'
  exact k'
 have h2:¬w.2.2= "room" :=fun z=>h (decide_eq_true (by rw [z]))
 have k':=k H (aM.refl _)
 rw [if_neg h1,if_neg h2] at k'
 exact k'
theorem QM (xs:List V) (g:Nat):xX xs none (some (g:Int))=xs.take g:=by
 unfold xX
 rw [HT.Ef,HT.yl,List.drop_zero,Nat.sub_zero]
 rcases Nat.le_total g xs.length with h | h
 ·rw [Nat.min_eq_left h]
 ·rw [Nat.min_eq_right h,List.take_of_length_le h,List.take_of_length_le (Nat.le_refl _)]
inductive vW (K:PySem.W.Frag) (vs:List V) (H:Hp) (Q:VK) (E:XK):Prop where
 | mk:∀(R N:Addr) (r names:List Str),vs=[.ref R,.ref N]->H R=some (.lst (r.map V.str))->H N=some (.lst (names.map V.str))->((∃y∈names,y∈r))->r.Nodup->names.length<=16->r.length<=1000->(∀H' L,aM H H'->H' L=some (.lst ((Bf r names).map V.str))->Q (.ref L) H')->vW K vs H Q E
theorem Fo (T:Txt w K mg t):FO P w K mg base 1 t.xK ["ring", "names"] (vW K):=by
 have sc:=T.qY.sc ["ring", "names", "place"]
 refine T.qY.F.ok sc ln (fun _ _ _ _ H vs Q E hr h=>?_)
 obtain⟨R,N,r,names,rfl,hR,hN,hy,nd,l16,lr,k⟩:=h
 refine⟨_,(aq (sN sc 2 (tW PySem.F.plainAttrs_list PySem.F.slot_list_index PySem.F.type_list_index Gi (pv 0) (aa (aO aX (dZ [0] ["ring", "names", "place"] (aR (top 8)) rfl (bM (pv 1)) (fun _ _ _ _ _=>(uR (aV (Cj (K:=K) rfl) (pv 0) (pv 1) (by with_unfolding_all rfl)))) (fun _ _ _ _ _=>(pv 0))) az (fun _ _=>rfl)) ak aF)))
  (aA (aN (bx Ik (jK rU (pv 0) (jT (pv 2)) rD) (jK rU (pv 0) rD (jT (pv 2))))))),?_⟩
 have hz:sizeLine=16777216:=sizeLine_eq
 obtain⟨y0,hy1,hy2⟩:=hy
 obtain⟨y,ey⟩:∃y,names.find? (fun y=>decide (y∈r))=some y:=by
  cases e:names.find? (fun y=>decide (y∈r)) with
  | none=>exact absurd (decide_eq_true hy2) (List.find?_eq_none.mp e y0 hy1)
  | some y=>exact⟨y,rfl⟩
 have hyr:y∈r:=by simpa using List.find?_some ey
 unfold Bf at k
 rw [ey] at k
 refine⟨_,rfl,.inl ⟨rfl,_,bF.of hR⟩,_,rfl,N,rfl,⟨_,bF.of hN⟩,dR (K:=K) (a:=N) (xs:=names.map V.str) (fun j ys H'=>H'=H/\ys=((names.take j).filter fun y=>decide (y∈r)).map V.str) (by rw [lM];omega) ⟨rfl,rfl⟩ (fun j ys H' h=>by rw [h.2,lM];exact Nat.le_trans (List.length_filter_le _ _) (by rw [List.length_take];omega)) (fun j ys H' _ h=>by rw [h.1];exact bF.of hN) ?_ ?_⟩
 ·rintro j x ys H' hx ⟨rfl,rfl⟩
  rw [List.getElem?_map] at hx
  obtain⟨z,hzj,rfl⟩:=Option.map_eq_some_iff.mp hx
  refine⟨_,rfl,_,rfl,R,_,rfl,.inl (bF.of hR),rfl,fG _,_,rfl,?_⟩
  rw [kW,List.take_succ,hzj,Option.toList_some,List.filter_append,List.filter_cons,List.filter_nil]
  by_cases hm:z∈r
  ·rw [decide_eq_true hm]
   exact d9 ⟨_,rfl,rfl,by simp⟩
  ·rw [decide_eq_false hm]
   exact bU ⟨rfl,by simp⟩
 rintro ys H' ⟨rfl,rfl⟩ Lf nLf
 rw [lM,List.take_length]
 have t1:=aB (o:=.lst ((names.filter fun y=>decide (y∈r)).map V.str)) nLf
 have e0:(names.filter fun y=>decide (y∈r))[0]?=some y:=by rw [<-List.head?_eq_getElem?,List.head?_filter,ey]
 obtain⟨i1,i2⟩:=qL hyr
 refine⟨Lf,_,0,_,rfl,rfl,bF.of au,aJ (j:=0) (by rw [List.getElem?_map,e0];rfl),R,r,y,r.idxOf y,rfl,rfl,t1 _ _ hR,i1,i2,?_⟩
 have hR1:=t1 _ _ hR
 generalize upd H' Lf (.lst ((names.filter fun y=>decide (y∈r)).map V.str))=H1 at t1 hR1 ⊢
 refine⟨_,rfl,_,rfl,_,rfl,R,_,rfl,bF.of hR1,fun a na=>?_⟩
 rw [zz,<-List.map_drop]
 have t2:=aB (o:=.lst ((r.drop (r.idxOf y)).map V.str)) na
 refine⟨_,rfl,_,rfl,_,rfl,R,_,rfl,bF.of (t2 _ _ hR1),fun b nb=>?_⟩
 rw [QM,<-List.map_take]
 have t3:=aB (o:=.lst ((r.take (r.idxOf y)).map V.str)) nb
 refine⟨a,b,_,_,rfl,rfl,t3 _ _ au,au,by rw [lM,lM,List.length_drop,List.length_take];omega,fun L nL=>?_⟩
 refine k _ L (t1.trans (t2.trans (t3.trans (aB nL)))) ?_
 rw [au,List.map_append]
theorem G4 {ls:List aG} {ps:List PD} {S:FS} (F:zY ls ps) {p:PD} (hp:p∈ps) {x y:Str} (h:jA ls S p=some (x,y)):(y= "value" /\x∈ls.map (·.name))∨(x= "" /\y= "end")∨(y= "room" /\x∈ls.map (·.name)):=by
 rcases Hj p.kind p.ins (bw S p) with hlk | ⟨z,hlk⟩
 ·cases he:vB S p with
  | true=>rw [Ig hlk he] at h;cases h;exact .inr (.inl ⟨rfl,rfl⟩)
  | false=>
   have hdd:jl S p=some ⟨(places p.kind (bw S p)).map (strAt p.ins),Vh S p,fV p.kind (Bu S p) (S.k p.name)⟩:=by unfold jl;rw [if_neg (by simp [hlk]),if_neg (by simp [he])];rfl
   rw [Hg hlk he] at h
   cases e:(Vh S p).find? (uJ ls S) with
   | none=>rw [e] at h;cases h
   | some q=>
    rw [e] at h
    cases h
    exact .inr (.inr ⟨rfl,(u9 F hp hdd).gin q (List.mem_of_find?_eq_some e)⟩)
 ·rw [G7 hlk] at h
  cases h
  refine .inl ⟨rfl,?_⟩
  unfold dM at hlk
  cases e:(places p.kind (bw S p)).find? (vU (bw S p)) with
  | none=>rw [e] at hlk;cases hlk
  | some q=>
   rw [e] at hlk
   dsimp only at hlk
   cases e2:p.ins[q]? with
   | none=>rw [e2] at hlk;cases hlk
   | some z=>
    rw [e2] at hlk
    cases hlk
    obtain⟨l,hl,e3⟩:=F.inL hp (List.mem_append.mpr (.inl (List.mem_of_getElem? e2)))
    exact List.mem_map.mpr ⟨l,hl,by rw [e3]⟩
theorem NQ {ls:List aG} {ps:List PD} {S:FS} {w:Str×Str×Str} (h:w∈jJ ls S ps):∃p∈ps,jA ls S p=some w.2/\w.1=p.name:=by
 obtain⟨p,hp,e⟩:=List.mem_filterMap.mp h
 obtain⟨w',hw,rfl⟩:=Option.map_eq_some_iff.mp e
 exact⟨p,hp,hw,rfl⟩
theorem Nz {ls:List aG} {ps:List PD} {S:FS} (F:zY ls ps) {w:Str×Str×Str} (h:w∈jJ ls S ps):Z6 ls w:=by
 obtain⟨p,hp,h1,h2⟩:=NQ h
 intro hv
 rcases G4 F hp (x:=w.2.1) (y:=w.2.2) h1 with h | h | h
 ·exact h.2
 ·rw [h.2] at hv
  rcases hv with z | z <;> exact absurd z (by decide)
 ·exact h.2
theorem Jf (ls:List aG) (S:FS):∀ps:List PD,((jJ ls S ps).map (·.1)).Sublist (ps.map (·.name))
 | []=>.slnil
 | p:: r=>by
  have ih:=Jf ls S r
  unfold jJ at ih ⊢
  rw [List.filterMap_cons]
  cases jA ls S p with
  | none=>exact .cons _ ih
  | some w=>exact .cons₂ _ ih
noncomputable def j8 (wts:List (Str×Str×Str)) (us:List Addr):List (Str×Addr):=(wts.zip us).map fun q=>(q.1.1,q.2)
noncomputable def SQ (ps:List PD) (wts:List (Str×Str×Str)):List (Str×Option Str):=wts.map fun w=>(w.1,sY ps w)
theorem Ys (ps:List PD) (wts:List (Str×Str×Str)):CQ (SQ ps wts)=Jl ps wts:=by
 funext x
 unfold CQ SQ Jl
 rw [List.find?_map,Option.map_map]
 rfl
theorem Dp {ps:List PD} {wts:List (Str×Str×Str)} {x:Str} (h:(Jl ps wts x).isSome=true):∃w∈wts,w.1=x:=by
 unfold Jl at h
 cases e:wts.find? fun w=>decide (w.1=x) with
 | none=>rw [e] at h;cases h
 | some w=>exact⟨w,List.mem_of_find?_eq_some e,by simpa using List.find?_some e⟩
theorem CK {H:Hp} {ps:List PD} {x:Str}:∀{wts:List (Str×Str×Str)} {us:List Addr},cM H us (wts.map Bo)->(Jl ps wts x=none/\CQ (j8 wts us) x=none)∨∃u,CQ (j8 wts us) x=some u/\H u=some (.tup (Bo (Ms wts x)))/\Jl ps wts x=some (sY ps (Ms wts x))/\Ms wts x∈wts
 | [],us,_=>.inl ⟨rfl,by unfold j8 CQ;simp⟩
 | w:: r,[],t=>nomatch t
 | w:: r,u:: us,t=>by
  have t:Paired (fun r vs=>H r=some (.tup vs)) (u:: us) (Bo w:: r.map Bo):=t
  cases t with
  | cons h t=>
  have e1:CQ (j8 (w:: r) (u:: us)) x=if w.1=x then some u else CQ (j8 r us) x:=Rj (w.1,u) (j8 r us) x
  by_cases hx:w.1=x
  ·have e2:Ms (w:: r) x=w:=by unfold Ms;rw [List.find?_cons_of_pos (by simp [hx])];rfl
   refine .inr ⟨u,by rw [e1,if_pos hx],by rw [e2];exact h,?_,by rw [e2];exact List.mem_cons_self⟩
   rw [e2]
   unfold Jl
   rw [List.find?_cons_of_pos (by simp [hx])]
   rfl
  ·have e2:Ms (w:: r) x=Ms r x:=by unfold Ms;rw [List.find?_cons_of_neg (by simp [hx])]
   have e3:Jl ps (w:: r) x=Jl ps r x:=by unfold Jl;rw [List.find?_cons_of_neg (by simp [hx])]
   rw [e1,if_neg hx,e2,e3]
   rcases CK (ps:=ps) (x:=x) t with h | ⟨u',h1,h2,h3,h4⟩
   ·exact .inl h
   ·exact .inr ⟨u',h1,h2,h3,List.mem_cons_of_mem _ h4⟩
theorem Ju {E:List Addr} {H:Hp}:∀{us:List Addr} {vss:List (List V)},(∀u∈us,u∉E)->cM H us vss->cM (bG E H) us vss
 | _,_,_,.nil=>.nil
 | _,_,hn,.cons h t=>.cons (fC h (hn _ List.mem_cons_self)) (Ju (fun u hu=>hn u (List.mem_cons_of_mem _ hu)) t)
theorem JX {H:Hp} {wts:List (Str×Str×Str)} {us:List Addr} (t:cM H us (wts.map Bo)):(j8 wts us).length=wts.length/\us.length=wts.length/\(j8 wts us).map (·.1)=wts.map (·.1):=by
 have e:us.length=(wts.map Bo).length:=Paired.length t
 rw [lM] at e
 unfold j8
 refine⟨by rw [lM,List.length_zip];omega,e,?_⟩
 rw [List.map_map]
 have:((fun q:Str×Addr=>q.1)∘fun q:(Str×Str×Str)×Addr=>(q.1.1,q.2))=(fun w:Str×Str×Str=>w.1)∘(fun q:(Str×Str×Str)×Addr=>q.1):=rfl
 rw [this,<-List.map_map,List.map_fst_zip (by omega)]
theorem Jt {wts:List (Str×Str×Str)} {us:List Addr} {j:Nat} {w:Str×Str×Str} {u:Addr} (h1:wts[j]?=some w) (h2:us[j]?=some u):(j8 wts us)[j]?=some (w.1,u):=by
 unfold j8
 rw [List.getElem?_map,(List.getElem?_zip_eq_some (z:=(w,u))).mpr ⟨h1,h2⟩]
 rfl
theorem M9 {β:Type} {g:β->V} {m:List (Str×β)} {j:Nat} {x:Str} {b:β} (nd:(m.map (·.1)).Nodup) (hj:m[j]?=some (x,b)):putK (yD g (m.take j)) (Sum.inr x) (g b)=yD g (m.take (j+1)):=by
 have hn:x∉(m.take j).map (·.1):=by
  have:=oO (f:=fun q:Str×β=>q.1) nd hj
  exact this
 rw [jL _ (by rw [Hx,Qc hn];rfl),List.take_succ,hj]
 unfold yD
 rw [List.map_append]
 rfl
theorem Uv {r names:List Str} {y:Str} (h:y∈Bf r names):y∈r:=by
 unfold Bf at h
 split at h
 ·rcases List.mem_append.mp h with h | h
  ·exact List.mem_of_mem_drop h
  ·exact List.mem_of_mem_take h
 ·cases h
theorem TV (r names:List Str):(Bf r names).length<=r.length:=by
 unfold Bf
 split
 ·rw [lP,List.length_drop,List.length_take];omega
 ·exact Nat.zero_le _
inductive qP (K:PySem.W.Frag) (t:jy) (vs:List V) (H:Hp) (Q:VK) (E:XK):Prop where
 | mk:∀(b:Nat) (r:Addr) (n:Nat) (A:mZ) (ls:List aG) (ps:List PD) (S:FS),vs=[.ref r]->oH t H r A.n A.f n->gA K t H A.n ls ps->dU K t H A ls ps S->Et b ls ps S->(∀(H':Hp) (L:Addr) (us:List Addr) (ws:List (Str×Str×Str)),aM H H'->H L=none->H' L=some (.lst (us.map V.ref))->cM H' us (ws.map Bo)->Ah (Jl ps (jJ ls S ps)) (ps.map (·.name)) (jJ ls S ps) ws->Q (.ref L) H')->qP K t vs H Q E
noncomputable abbrev sZ:List Str:=["run", "waits", "leads", "wait", "name", "ring"]
theorem qG (T:Txt w K mg t):FO P w K mg base 8 t.sX ["run"] (qP K t):=by
 have sc:=T.jo.sc sZ
 refine T.jo.F.ok sc ln (fun _ _ _ _ H vs Q E hr h=>?_)
 obtain⟨b,r,n,A,ls,ps,S,rfl,hR,N,W,O,k⟩:=h
 refine⟨_,(aq (sN sc 1 gf)
  (aq (sN sc 2 gf)
  (aq (dG PassesOwn.never rfl (bM (dw (z9 T) T.rG hr (aa (pv 0) ak aj))) (gN sc 3)
   (aq (gM hr.u1 (pv 1) (aO bT (pv 3) az (fun _ _=>rfl)) (pv 3) rfl)
   (aA (gM hr.u1 (pv 2) (aO bT (pv 3) az (fun _ _=>rfl)) (dw (An T) T.rm hr (aa (bh (pv 0) rfl) (aa (pv 3) ak aj) bB)) rfl))))
  (aq (dG PassesOwn.never rfl (bM (Om (bh (pv 0) rfl) T.aQ T.aQ.me.2.2.1 (dC T) T.cD hr)) (gN sc 4)
   (aq (sN sc 5 (dw (Fg T) T.rC hr (aa (pv 4) (aa (pv 2) ak aj) aj)))
   (aA (bN (aV Gs (bu bR (by rfl) T.fB du (aa (pv 5) ak aj)) az (bI _))
    (aA (aN (dZ [1] sZ (aR (top 7)) rfl (bM (dw (Fo T) T.qY hr (aa (pv 5) (aa (Om (bh (pv 0) rfl) T.aQ T.aQ.me.2.2.1 (dC T) T.cD hr) ak aZ) aj))) (fun _ _ _ _ _=>gm) (fun _ _ _ _ _=>(cZ hr.u1 (pv 1) (pv 0) (fun _ _=>rfl))))))
    bj))))
  (aA (aN (bz ak))))))),?_⟩
 have hz:sizeLine=16777216:=sizeLine_eq
 have F:zY ls ps:=by obtain⟨_,_,_,_,_,_,_,_,_,Wn⟩:=N;exact Wn.fit
 have p16:=F.p16
 refine fun D1 n1=>?_
 have q1:=aB (o:=.dK []) n1
 have d1:upd H D1 (.dK []) D1=some (.dK []):=au
 generalize upd H D1 (.dK [])=H1 at q1 d1 ⊢
 refine fun D2 n2=>?_
 have q2:=aB (o:=.dK []) n2
 have d2:upd H1 D2 (.dK []) D2=some (.dK []):=au
 have d1':=q2 _ _ d1
 have hne:D1≠D2:=fun z=>by rw [z,n2] at d1;cases d1
 have sC:aM H (bG [D1,D2] (upd H1 D2 (.dK []))):=fun b o e=>fC (q2 _ _ (q1 _ _ e)) (by simp;exact⟨aD e n1,aD e (q1.free n2)⟩)
 generalize upd H1 D2 (.dK [])=H2 at q2 d2 d1' sC ⊢
 have s2:=sC.trans cg
 refine⟨_,rfl,b,r,n,A,ls,ps,S,rfl,hR.same s2,N.same s2,W.same s2,O,fun H3 Lw us s3 nLw eLw tU fU=>?_⟩
 have wok:=fun w (h:w∈jJ ls S ps)=>Nz F h
 have wsub:=Jf ls S ps
 have wlen:=HN ls S ps
 generalize jJ ls S ps=wts at k tU wok wsub wlen
 have wnd:=F.pnd.sublist wsub
 obtain⟨zl,ul,zn⟩:=JX tU
 have znd:((j8 wts us).map (·.1)).Nodup:=by rw [zn];exact wnd
 have mnd:((SQ ps wts).map (·.1)).Nodup:=by
  have:(SQ ps wts).map (·.1)=wts.map (·.1):=by unfold SQ;rw [List.map_map];rfl
  rw [this];exact wnd
 have ml:(SQ ps wts).length=wts.length:=by unfold SQ;rw [lM]
 have cE:∀a∈[D1,D2],∃o,H2 a=some o:=fun a ha=>by
  simp at ha
  rcases ha with rfl | rfl
  ·exact⟨_,d1'⟩
  ·exact⟨_,d2⟩
 have sC3:=sC.trans (xU s3 cE)
 have nw:Lw∉[D1,D2]:=fun z=>by obtain⟨o,e⟩:=cE _ z;rw [nLw] at e;cases e
 have eLw3:bG [D1,D2] H3 Lw=some (.lst (us.map V.ref)):=fC eLw nw
 have tU3:cM (bG [D1,D2] H3) us (wts.map Bo):=Ju (fun u hu z=>by obtain⟨o,e⟩:=cE _ z;rw [fU u hu] at e;cases e) tU
 obtain⟨C,hC⟩:∃C,C=bG [D1,D2] H3:=⟨_,rfl⟩
 rw [<-hC] at sC3 eLw3 tU3
 refine⟨Lw,rfl,⟨_,bF.of eLw⟩,cX (K:=K) (a:=Lw) (xs:=us.map V.ref) (fun j σ H'=>(∃v3,σ=[some (.ref r),some (.ref D1),some (.ref D2),v3,none,none])/\aM C (bG [D1,D2] H')/\H' D1=some (.dK (yD V.ref ((j8 wts us).take j)))/\H' D2=some (.dK (yD qC ((SQ ps wts).take j)))) ⟨⟨none,rfl⟩,by rw [hC];exact aM.refl _,s3 _ _ d1',s3 _ _ d2⟩ (fun j σ H' _ h=>bF.of (cg _ _ (h.2.1 _ _ eLw3))) ?_ ?_⟩
 ·rintro j x σ H4 hx ⟨⟨v3,rfl⟩,c4,e1,e2⟩
  rw [List.getElem?_map] at hx
  obtain⟨u,hu,rfl⟩:=Option.map_eq_some_iff.mp hx
  obtain⟨vs2,z1,z2⟩:=oN tU3 hu
  rw [List.getElem?_map] at z1
  obtain⟨w,ew,rfl⟩:=Option.map_eq_some_iff.mp z1
  have hj:=(List.getElem?_eq_some_iff.mp ew).1
  have zj:=Jt ew hu
  have mj:(SQ ps wts)[j]?=some (w.1,sY ps w):=by unfold SQ;rw [List.getElem?_map,ew];rfl
  refine⟨_,rfl,_,rfl,_,rfl,u,_,0,_,rfl,rfl,eN.of (cg _ _ (c4 _ _ z2)),aJ (j:=0) rfl,D1,_,rfl,o9.k (k:=Sum.inr w.1) e1 (by rw [Ir,List.length_take];omega),?_⟩
  rw [M9 (g:=V.ref) znd zj]
  have c5:aM C (bG [D1,D2] (upd H4 D1 (.dK (yD V.ref ((j8 wts us).take (j+1)))))):=by rw [eO (by simp)];exact c4
  have e15:upd H4 D1 (.dK (yD V.ref ((j8 wts us).take (j+1)))) D1=some (.dK (yD V.ref ((j8 wts us).take (j+1)))):=au
  have e25:upd H4 D1 (.dK (yD V.ref ((j8 wts us).take (j+1)))) D2=some (.dK (yD qC ((SQ ps wts).take j))):=by rw [aK (Ne.symm hne)];exact e2
  generalize upd H4 D1 (.dK (yD V.ref ((j8 wts us).take (j+1))))=H5 at c5 e15 e25 ⊢
  have s5:=(sC3.trans c5).trans cg
  obtain⟨dxr,fsr,R1⟩:=hR.same s5
  refine⟨_,rfl,r,_,dxr,fsr,_,rfl,R1.1.1,T.bW.c,T.bW.na.1,R1.2.has ("net",.ref A.n) (by simp),_,rfl,A.n,u,ls,ps,w,rfl,N.same s5,cg _ _ (c5 _ _ z2),wok w (List.mem_of_getElem? ew),fun H6 s6=>?_⟩
  have c6:=c5.trans (xU s6 (E:=[D1,D2]) fun a ha=>by
   simp at ha
   rcases ha with rfl | rfl
   ·exact⟨_,e15⟩
   ·exact⟨_,e25⟩)
  refine⟨_,rfl,_,rfl,u,_,0,_,rfl,rfl,eN.of (cg _ _ (c6 _ _ z2)),aJ (j:=0) rfl,D2,_,rfl,o9.k (k:=Sum.inr w.1) (s6 _ _ e25) (by rw [Ir,List.length_take];omega),?_⟩
  rw [M9 (g:=qC) mnd mj]
  exact⟨⟨_,rfl⟩,by rw [eO (by simp)];exact c6,by rw [aK hne];exact s6 _ _ e15,au⟩
 rintro σ H4 ⟨⟨v3,rfl⟩,c4,e1,e2⟩
 rw [lM,ul,<-zl,List.take_length] at e1
 rw [lM,ul,<-ml,List.take_length] at e2
 have tU4:=cM.same (c4.trans cg) tU3
 have s4:=(sC3.trans c4).trans cg
 clear c4 tU3 eLw3 sC3 sC hC cE nw
 obtain⟨dxr,fsr,R1⟩:=hR.same s4
 obtain⟨dxn,fsn,R,F0,Pd,Gn,Tk,FL,PL,Wn⟩:=N.same s4
 refine⟨_,rfl,r,_,dxr,fsr,_,rfl,R1.1.1,T.bW.c,T.bW.na.1,R1.2.has ("net",.ref A.n) (by simp),A.n,dxn,fsn,rfl,Wn.obj,Wn.fl.no _ (by decide +kernel),A.n,ls,ps,rfl,Wn.s,fun l nl=>?_⟩
 have t5:=aB (o:=.lst (ps.map fun x=>V.str x.name)) nl
 have el:upd H4 l (.lst (ps.map fun x=>V.str x.name)) l=some (.lst (ps.map fun x=>V.str x.name)):=au
 have s5:=s4.trans t5
 have e15:=t5 _ _ e1
 have e25:=t5 _ _ e2
 have tU5:=cM.same t5 tU4
 generalize upd H4 l (.lst (ps.map fun x=>V.str x.name))=H5 at el s5 e15 e25 tU5 ⊢
 refine⟨l,rfl,⟨_,bF.of el⟩,cX (K:=K) (a:=l) (xs:=ps.map fun x=>V.str x.name) (fun j σ H'=>(∃v4 v5,σ=[some (.ref r),some (.ref D1),some (.ref D2),v3,v4,v5])/\aM H5 H'/\∀p∈ps.take j,qR (Jl ps wts) p.name []) ⟨⟨none,none,rfl⟩,aM.refl _,by simp⟩ (fun j σ H' _ h=>h.2.1.seq (bF.of el)) ?_ ?_⟩
 ·rintro j x σ H6 hx ⟨⟨v4,v5,rfl⟩,s6,hno⟩
  rw [List.getElem?_map] at hx
  obtain⟨p,hpj,rfl⟩:=Option.map_eq_some_iff.mp hx
  refine⟨_,rfl,_,rfl,p.name,D2,_,rfl,s6 _ _ e25,by omega,fun H7 Lr rg s7 nLr eLr hr=>?_⟩
  rw [Ys] at hr
  refine⟨_,rfl,_,(rg.map V.str).length,rfl,.inl ⟨_,bF.of eLr,rfl⟩,_,_,rfl,rfl,_,rfl,?_⟩
  rw [lM]
  cases rg with
  | nil=>
   refine bU ⟨⟨_,_,rfl⟩,s6.trans s7,fun q hq=>?_⟩
   rw [List.take_succ,hpj,Option.toList_some] at hq
   rcases List.mem_append.mp hq with h | h
   ·exact hno q h
   ·rw [List.mem_singleton.mp h];exact hr
  | cons y0 rg'=>
   rw [decide_eq_true (by rw [List.length_cons];omega)]
   refine d9 ?_
   have hrr:=hr.nd
   have s57:=s6.trans s7
   have s07:=s5.trans s57
   have hin:∀y∈y0:: rg',y∈ps.map (·.name):=fun y hy=>by
    obtain⟨w,hw,e⟩:=Dp (hrr.2 y hy)
    exact wsub.subset (List.mem_map.mpr ⟨w,hw,e⟩)
   have rl:(y0:: rg').length<=16:=Nat.le_trans (xY hrr.1 hin) (by rw [lM];exact p16)
   obtain⟨dxr,fsr,R2⟩:=hR.same s07
   obtain⟨dxn,fsn,R,F0,Pd,Gn,Tk,FL,PL,Wn⟩:=N.same s07
   refine⟨_,rfl,_,rfl,r,_,dxr,fsr,_,rfl,R2.1.1,T.bW.c,T.bW.na.1,R2.2.has ("net",.ref A.n) (by simp),A.n,dxn,fsn,rfl,Wn.obj,Wn.fl.no _ (by decide +kernel),A.n,ls,ps,rfl,Wn.s,fun l2 nl2=>?_⟩
   have t8:=aB (o:=.lst (ps.map fun x=>V.str x.name)) nl2
   have el2:upd H7 l2 (.lst (ps.map fun x=>V.str x.name)) l2=some (.lst ((ps.map (·.name)).map V.str)):=by rw [au,List.map_map];rfl
   generalize upd H7 l2 (.lst (ps.map fun x=>V.str x.name))=H8 at t8 el2 ⊢
   refine⟨Lr,l2,y0:: rg',ps.map (·.name),rfl,t8 _ _ eLr,el2,⟨y0,hin y0 List.mem_cons_self,List.mem_cons_self⟩,hrr.1,by rw [lM];exact p16,by omega,fun H9 La s9 eLa=>?_⟩
   have s59:=s57.trans (t8.trans s9)
   have rtl:=Nat.le_trans (TV (y0:: rg') (ps.map (·.name))) rl
   have rtm:∀y∈Bf (y0:: rg') (ps.map (·.name)),y∈y0:: rg':=fun y hy=>Uv hy
   have fin:∀ws,ws=(Bf (y0:: rg') (ps.map (·.name))).map (Ms wts)->Ah (Jl ps wts) (ps.map (·.name)) wts ws:=fun ws e=>by
    refine .inr ⟨(ps.take j).map (·.name),p.name,(ps.drop (j+1)).map (·.name),_,?_,fun y hy=>?_,hr,by simp,e⟩
    ·rw [<-List.map_cons,<-List.map_append]
     congr 1
     obtain⟨hjl,e⟩:=List.getElem?_eq_some_iff.mp hpj
     rw [<-e,<-List.drop_eq_getElem_cons hjl,List.take_append_drop]
    ·obtain⟨q,hq,rfl⟩:=List.mem_map.mp hy
     exact hno q hq
   generalize Bf (y0:: rg') (ps.map (·.name))=ro at eLa rtl rtm fin
   refine⟨La,rfl,⟨_,bF.of eLa⟩,dR (K:=K) (a:=La) (xs:=ro.map V.str) (fun i ys H'=>H'=H9/\∃vs:List Addr,ys=vs.map V.ref/\cM H9 vs (((ro.take i).map (Ms wts)).map Bo)) (by rw [lM];omega) ⟨rfl,[],rfl,.nil⟩ (fun i ys H' h=>by obtain⟨_,vs,rfl,tv⟩:=h;have:vs.length=_:=Paired.length tv;rw [lM,lM,List.length_take] at this;rw [lM];omega) (fun i ys H' _ h=>by rw [h.1];exact bF.of eLa) ?_ ?_⟩
   ·rintro i x ys H' hx ⟨rfl,vs,rfl,tv⟩
    rw [List.getElem?_map] at hx
    obtain⟨y,hyi,rfl⟩:=Option.map_eq_some_iff.mp hx
    have hg:=hrr.2 y (rtm y (List.mem_of_getElem? hyi))
    rcases CK (ps:=ps) (x:=y) (cM.same s59 tU5) with ⟨h,_⟩ | ⟨u,h1,h2,_,_⟩
    ·rw [h] at hg;cases hg
    have g2:=vy (s59 _ _ e15) y
    rw [h1] at g2
    refine yes ⟨_,rfl,_,rfl,D1,_,rfl,g2,rfl,vs ++ [u],by rw [List.map_append];rfl,?_⟩
    rw [List.take_succ,hyi,Option.toList_some,List.map_append,List.map_append]
    exact tv.append (.cons h2 .nil)
   rintro ys H' ⟨rfl,vs,rfl,tv⟩ Lz nLz
   rw [lM,List.take_length] at tv
   exact k _ Lz vs _ ((s5.trans s59).trans (aB nLz)) ((s5.trans s59).free nLz) au (cM.same (aB nLz) tv) (fin _ rfl)
 rintro σ H6 ⟨⟨v4,v5,rfl⟩,s6,hno⟩
 rw [lM,List.take_length] at hno
 refine⟨iu,fun Lz nLz=>?_⟩
 exact k _ Lz [] [] ((s5.trans s6).trans (aB nLz)) ((s5.trans s6).free nLz) au .nil (.inl ⟨rfl,fun x hx=>by obtain⟨q,hq,rfl⟩:=List.mem_map.mp hx;exact hno q hq⟩)
inductive DK (K:PySem.W.Frag) (t:jy) (vs:List V) (H:Hp) (Q:VK) (E:XK):Prop where
 | mk:∀(b:Nat) (r:Addr) (n:Nat) (A:mZ) (ls:List aG) (ps:List PD) (S:FS),vs=[.ref r]->oH t H r A.n A.f n->gA K t H A.n ls ps->dU K t H A ls ps S->Et b ls ps S->(∀(H':Hp),aM H H'->Q (.bl (!(ps.any fun p=>(eX ls S p).isSome))) H')->DK K t vs H Q E
theorem KH (T:Txt w K mg t):FO P w K mg base 8 t.GP ["run"] (DK K t):=by
 have sc:=T.zq.sc ["run"]
 refine T.zq.F.ok sc ln (fun _ _ _ _ H vs Q E hr h=>?_)
 obtain⟨b,r,n,A,ls,ps,S,rfl,hR,N,W,O,k⟩:=h
 refine⟨_,(aA (aN (RB (bu (Rk rfl) (by rfl) T.YJ Wc (aa (dZ [0] ["run"] (aR (top 9)) rfl (bM (Om (bh (pv 0) rfl) T.aQ T.aQ.me.2.2.1 (dC T) T.cD hr)) (fun _ _ _ _ _=>gm) (fun _ _ _ _ _=>(wK (pv 1) T.bW T.bW.me.2.2.2.2.2.1 (Be T) T.oE hr (aa (pv 0) ak aj)))) ak eU))))),?_⟩
 have hz:sizeLine=16777216:=sizeLine_eq
 obtain⟨dxn,fsn,R,F0,Pd,Gn,Tk,FL,PL,Wn⟩:=id N
 have p16:=Wn.fit.p16
 obtain⟨dxr,fsr,R0⟩:=id hR
 refine⟨_,rfl,r,_,dxr,fsr,_,rfl,R0.1.1,T.bW.c,T.bW.na.1,R0.2.has ("net",.ref A.n) (by simp),A.n,dxn,fsn,rfl,Wn.obj,Wn.fl.no _ (by decide +kernel),A.n,ls,ps,rfl,N,fun l nl=>?_⟩
 have s1:=aB (o:=.lst (ps.map fun x=>V.str x.name)) nl
 have el:upd H l (.lst (ps.map fun x=>V.str x.name)) l=some (.lst (ps.map fun x=>V.str x.name)):=au
 generalize upd H l (.lst (ps.map fun x=>V.str x.name))=H1 at s1 el ⊢
 refine⟨l,rfl,⟨_,bF.of el⟩,dR (K:=K) (a:=l) (xs:=ps.map fun x=>V.str x.name) (fun j ys H'=>aM H1 H'/\ys=((ps.take j).map fun p=>(eX ls S p).isSome).map V.bl) (by rw [lM];omega) ⟨aM.refl _,rfl⟩ (fun j ys H' h=>by rw [h.2,lM,lM,List.length_take];omega) (fun j ys H' _ h=>h.1.seq (bF.of el)) ?_ ?_⟩
 ·rintro j x ys H2 hx ⟨s2,rfl⟩
  rw [List.getElem?_map] at hx
  obtain⟨p,hpj,rfl⟩:=Option.map_eq_some_iff.mp hx
  have s12:=s1.trans s2
  obtain⟨dxr,fsr,R2⟩:=id (hR.same s12)
  refine yes ⟨_,rfl,r,dxr,fsr,rfl,R2.1.1,R2.2.no _ (by decide +kernel),_,rfl,b,r,n,A,ls,ps,S,p,rfl,hR.same s12,N.same s12,W.same s12,O,List.mem_of_getElem? hpj,fun H3 s3=>⟨s2.trans s3,?_⟩⟩
  rw [List.take_succ,hpj,Option.toList_some,List.map_append,List.map_append]
  rfl
 rintro ys H2 ⟨s2,rfl⟩ L nL
 rw [lM,List.take_length]
 refine⟨L,ps.map fun p=>(eX ls S p).isSome,rfl,bF.of au,_,rfl,?_⟩
 rw [List.any_map]
 exact k _ ((s1.trans s2).trans (aB nL))
noncomputable def Bs (RW:List (Str×Addr×List Int)) (x:Str) (a:Addr) (ws:List Int):List (Str×Addr×List Int):=if x∈RW.map (·.1) then RW.map (fun q=>if q.1=x then(x,a,ws) else q) else RW ++ [(x,a,ws)]
theorem WW (RW:List (Str×Addr×List Int)) (x:Str) (a:Addr) (ws:List Int):gU (Bs RW x a ws)=putK (gU RW) (Sum.inr x) (.ref a):=by
 unfold Bs putK
 by_cases h:x∈RW.map (·.1)
 ·rw [if_pos h,if_pos (by
   obtain⟨q,hq,rfl⟩:=List.mem_map.mp h
   exact List.any_eq_true.mpr ⟨_,List.mem_map.mpr ⟨q,hq,rfl⟩,by simp⟩)]
  unfold gU
  rw [List.map_map,List.map_map]
  refine List.map_congr_left fun q _=>?_
  by_cases e:q.1=x
  ·simp [e]
  ·simp [e]
 ·rw [if_neg h,if_neg (by
   intro z
   obtain⟨kv,hk,e⟩:=List.any_eq_true.mp z
   obtain⟨q,hq,rfl⟩:=List.mem_map.mp hk
   exact h (List.mem_map.mpr ⟨q,hq,by simpa using e⟩))]
  unfold gU
  rw [List.map_append]
  rfl
theorem Qi {RW:List (Str×Addr×List Int)} {x:Str} {a:Addr} {ws:List Int} {q:Str×Addr×List Int} (h:q∈Bs RW x a ws):q∈RW∨q=(x,a,ws):=by
 unfold Bs at h
 split at h
 ·obtain⟨q',hq,e⟩:=List.mem_map.mp h
  split at e
  ·exact .inr e.symm
  ·exact .inl (by rw [<-e];exact hq)
 ·rcases List.mem_append.mp h with h | h
  ·exact .inl h
  ·exact .inr (List.mem_singleton.mp h)
theorem Ue {RW:List (Str×Addr×List Int)} {x:Str} {a:Addr} {ws:List Int} (nd:(RW.map (·.1)).Nodup):((Bs RW x a ws).map (·.1)).Nodup:=by
 unfold Bs
 split
 ·have e:(RW.map (fun q=>if q.1=x then(x,a,ws) else q)).map (·.1)=RW.map (·.1):=by
   rw [List.map_map]
   refine List.map_congr_left fun q _=>?_
   by_cases h:q.1=x
   ·simp [h]
   ·simp [h]
  rw [e]
  exact nd
 ·rename_i h
  rw [List.map_append,List.nodup_append]
  exact⟨nd,by simp,fun b hb c hc z=>h (by simp at hc;rw [<-hc,<-z];exact hb)⟩
theorem QW (RW:List (Str×Addr×List Int)) (x:Str) (a:Addr) (ws:List Int):(Bs RW x a ws).length<=RW.length+1:=by
 unfold Bs
 split
 ·rw [lM];omega
 ·simp
structure yN (B H:Hp) (d:Addr) (m:Nat) (G:List V) (RW:List (Str×Addr×List Int)):Prop where
 at':nZ H d RW
 bnd:∀q∈RW,∀v∈q.2.2,0<=v/\v <1000000000
 door:∀q∈RW,V.str q.1∈G
 new:∀q∈RW,B q.2.1=none/\q.2.1≠d
 len:∀q∈RW,q.2.2.length<=m
theorem yN.same {B H H':Hp} {d:Addr} {m:Nat} {G:List V} {RW:List (Str×Addr×List Int)} (h:yN B H d m G RW) (s:aM H H'):yN B H' d m G RW:=⟨h.at'.same s,h.bnd,h.door,h.new,h.len⟩
theorem yN.put {B H:Hp} {d:Addr} {m:Nat} {G:List V} {RW:List (Str×Addr×List Int)} (h:yN B H d m G RW) {x:Str} {a:Addr} {ws:List Int} (ea:H a=some (.lst (ws.map V.int))) (na:B a=none) (nd:a≠d) (hx:V.str x∈G) (hb:∀v∈ws,0<=v/\v <1000000000) (hl:ws.length<=m) (hm:m<=299):
  yN B (upd H d (.dK (putK (gU RW) (Sum.inr x) (.ref a)))) d m G (Bs RW x a ws):=by
 refine⟨⟨by rw [WW];exact au,fun q hq=>?_,Ue h.at'.nd,fun q hq=>?_⟩,fun q hq=>?_,fun q hq=>?_,fun q hq=>?_,fun q hq=>?_⟩ <;> rcases Qi hq with hq | rfl
 ·rw [aK (h.new q hq).2];exact h.at'.lists q hq
 ·rw [aK nd];exact ea
 ·exact h.at'.len q hq
 ·show ws.length<=300;omega
 ·exact h.bnd q hq
 ·exact hb
 ·exact h.door q hq
 ·exact hx
 ·exact h.new q hq
 ·exact⟨na,nd⟩
 ·exact h.len q hq
 ·exact hl
theorem Tv (RW:List (Str×Addr×List Int)) (x:Str) (a:Addr) (ws:List Int):Bs RW x a ws≠[]:=by
 unfold Bs
 split
 ·rename_i h
  intro z
  rw [List.map_eq_nil_iff.mp z] at h
  cases h
 ·simp
inductive xr (K:PySem.W.Frag) (vs:List V) (H:Hp) (Q:VK) (E:XK):Prop where
 | mk:∀(a P:Addr) (ns:List Int) (xs:List V) (ps:List PD) (st:Nat),vs=[.ref a,.ref P,.int (st:Nat)]->bF K H a (ns.map V.int)->H P=some (.lst xs)->iY (qT H) xs ps->ps.length<=16->(∀H' d RW,aM H H'->H d=none->yN H H' d 39 (dW ps "give") RW->RW.length<=16->(Ku ps->RW≠[])->Q (.ref d) H')->xr K vs H Q E
noncomputable abbrev Af:List Str:=["_law_script", "_law_parts", "_law_start", "_law_rows_here", "_law_part_here", "_law_j", "_law_one", "_law_row", "_law_cell_here"]
theorem IV (T:Txt w K mg t):FO P w K mg base 3 t.Aj ["_law_script", "_law_parts", "_law_start"] (xr K):=by
 have sc:=T.uc.sc Af
 refine T.uc.F.ok sc ln (fun _ _ _ _ H vs Q E hr h=>?_)
 obtain⟨a,P,ns,xs,ps,st,rfl,hS,eP,aP,p16,k⟩:=h
 refine⟨_,(aq (sN sc 3 gf)
  (aq (dG PassesOwn.never rfl (bM (pv 1)) (gN sc 4)
   (aA (ir (bN (aV fL (aO bT (pv 4) az (fun _ _=>rfl)) bJ (bI _))
    (aq (sN sc 5 (bu Ol (by rfl) T.fB du (aa (pv 3) ak aj)))
    (aq (sN sc 6 (dw (iV T) T.gB hr (aa (pv 0) (aa (pv 2) ak aj) aj)))
    (aq (jP (i:=7) [5,6] Af (aR (top 84)) rfl sc.nd rfl (jc rfl T.j9 (aa (bx cj (dw (aY T) T.bf hr (aa (pv 6) (aa (bx dD az (pv 5)) ak bL) aj)) az) ak bL)) (fun _ _ _ _ _=>gm) (fun _ _ _ _ _=>(dw (gY T) T.fJ hr (aa (pv 2) (aa (bx dD (bx dD az (pv 0)) (bx mQ az (pv 1))) ak bL) aj))))
    (aq (dG PassesOwn.never rfl (bM (jK rU (pv 0) (jT (pv 2)) (jT (bx dD (pv 2) az)))) (gN sc 8)
     (aA (ir (bN (aV Gs (bx cj (dw (aY T) T.bf hr (aa (pv 8) (aa (bx dD az (pv 5)) ak bL) aj)) az) az (bI _))
      (aA (bC (DP (pv 7) (aa (dw (gY T) T.fJ hr (aa (pv 8) (aa (pv 5) ak aj) aj)) ak aZ))))
      bj))))
    (aA (gM hr.u1 (pv 3) (aO bT (pv 4) az (fun _ _=>rfl)) (pv 7) rfl))))))
    bj))))
  (aA (aN (pv 3))))),?_⟩
 have hz:sizeLine=16777216:=sizeLine_eq
 have xl:=aP.length
 refine fun d nd=>?_
 have s1:=aB (o:=.dK []) nd
 have ed:upd H d (.dK []) d=some (.dK []):=au
 have sB:aM H (bG [d] (upd H d (.dK []))):=fun b o e=>fC (s1 _ _ e) (by simpa using aD e nd)
 generalize upd H d (.dK [])=H1 at s1 ed sB ⊢
 have upB:∀{H':Hp} {o:HO},aM H H'->aM H (upd H' d o):=fun s b o e=>by rw [aK (aD e nd)];exact s b o e
 refine⟨_,rfl,P,rfl,⟨_,bF.of (s1 _ _ eP)⟩,cX (K:=K) (a:=P) (xs:=xs) (fun j σ H'=>(∃v4 v5 v6 v7 v8,σ=[some (.ref a),some (.ref P),some (.int st),some (.ref d),v4,v5,v6,v7,v8])/\aM H H'/\∃RW,yN H H' d 39 (dW ps "give") RW/\RW.length<=j/\((ps.take j).any (fun p=>p.kind == 0)=true->RW≠[])) ⟨⟨none,none,none,none,none,rfl⟩,s1,[],⟨⟨ed,by simp,by simp,by simp⟩,by simp,by simp,by simp,by simp⟩,Nat.le_refl _,fun h=>by simp at h⟩ (fun j σ H' _ h=>bF.of (h.2.1 _ _ eP)) ?_ ?_⟩
 ·rintro j x σ H2 hx ⟨⟨w4,w5,w6,w7,w8,rfl⟩,s2,RW,hR,lR,hne⟩
  obtain⟨p,hpj,q,a1,a2,a3,rfl,hq,_⟩:=aP.get hx
  have hj:=(List.getElem?_eq_some_iff.mp hx).1
  have hq2:=s2 _ _ hq
  refine⟨fun σ' H'=>(∃v4 v5 v6 v7 v8,σ'=[some (.ref a),some (.ref P),some (.int st),some (.ref d),v4,v5,v6,v7,v8])/\aM H H'/\∃RW,yN H H' d 39 (dW ps "give") RW/\RW.length<=j+1/\((ps.take (j+1)).any (fun p=>p.kind == 0)=true->RW≠[]),?_,fun _ _ h=>h⟩
  refine⟨_,rfl,q,_,0,_,rfl,rfl,eN.of hq2,aJ (j:=0) rfl,rfl,_,rfl,jz (fun hg=>?_) (fun hng=>⟨⟨_,_,_,_,_,rfl⟩,s2,RW,hR,by omega,fun h=>hne ?_⟩)⟩
  rotate_left
  ·rw [List.take_succ,hpj,Option.toList_some,List.any_append] at h
   have h0:¬p.kind=0:=fun z=>hng (decide_eq_true (by rw [z];rfl))
   simpa [h0] using h
  have hG:V.str p.name∈dW ps "give" :=List.mem_map.mpr ⟨p,List.mem_filter.mpr ⟨List.mem_of_getElem? hpj,by simpa using of_decide_eq_true hg⟩,rfl⟩
  refine⟨_,rfl,d,_,rfl,.inl hR.at'.dict,?_⟩
  have lK:((gU RW).length:Int)=(RW.length:Int):=by unfold gU;rw [lM]
  refine⟨_,rfl,_,rfl,a,ns,st,rfl,s2.seq hS,?_⟩
  generalize jM ns st=c
  have h0:=Int.emod_nonneg (b7 c (7+((gU RW).length:Int))) (show(6:Int)≠0 by decide)
  have h1:=Int.emod_lt_of_pos (b7 c (7+((gU RW).length:Int))) (show(0:Int) <6 by decide)
  refine⟨_,rfl,_,rfl,_,_,rfl,rfl,_,_,rfl,_,_,rfl,rfl,by show(0:Int) <6;decide,_,rfl,by omega,by omega,?_⟩
  refine jx (fun i ys H'=>H'=H2/\∃ws:List Int,ys=ws.map V.int/\ws.length=i/\∀v∈ws,0<=v/\v <1000000000) (by omega) ⟨rfl,[],rfl,rfl,by simp⟩ (fun i ys H' ⟨_,ws,e,e2,_⟩=>by rw [e,lM];omega) ?_ ?_
  ·rintro i ys H' hi ⟨rfl,ws,rfl,hw,hB⟩
   refine yes ⟨_,rfl,_,rfl,_,_,rfl,rfl,_,rfl,_,_,rfl,rfl,lQ,_,_,rfl,rfl,_,_,rfl,rfl,ws ++ [nQ c (30+(0+(i:Int))+9 * ((gU RW).length:Int))],by simp,by simp [hw],fun v hv=>?_⟩
   rcases List.mem_append.mp hv with hv | hv
   ·exact hB v hv
   ·rw [List.mem_singleton] at hv
    subst hv
    exact m9 _ _
  rintro ys H' ⟨rfl,ws,rfl,hw,hB⟩ u nu
  have t3:=aB (o:=.lst (ws.map V.int)) nu
  have eu:upd H' u (.lst (ws.map V.int)) u=some (.lst (ws.map V.int)):=au
  have nud:u≠d:=fun z=>by rw [z,hR.at'.dict] at nu;cases nu
  have nuH:=s2.free nu
  have s3:=s2.trans t3
  generalize upd H' u (.lst (ws.map V.int))=H3 at t3 eu s3 ⊢
  refine⟨_,rfl,_,rfl,_,rfl,_,rfl,_,_,rfl,rfl,_,rfl,a,_,rfl,s3.seq hS,fun Lc nLc=>⟨Lc,rfl,⟨_,bF.of au⟩,?_⟩⟩
  obtain⟨cs,ecs,lcs⟩:∃cs:List Int,xX (ns.map V.int) (some (st:Int)) (some ((st:Int)+34))=cs.map V.int/\cs.length<=34:=by
   refine⟨(ns.drop (min st ns.length)).take (min (st+34) ns.length - min st ns.length),(Kc (ns.map V.int) st (st+34)).trans ?_,?_⟩
   ·rw [List.map_take,List.map_drop,lM]
   ·rw [List.length_take];omega
  rw [ecs]
  have t4:=aB (o:=.lst (cs.map V.int)) nLc
  have eLc:upd H3 Lc (.lst (cs.map V.int)) Lc=some (.lst (cs.map V.int)):=au
  have nLu:Lc≠u:=fun z=>by rw [z,eu] at nLc;cases nLc
  generalize upd H3 Lc (.lst (cs.map V.int))=H4 at t4 eLc ⊢
  have sC:aM H' (bG [u] H4):=fun b o e=>fC (t4 _ _ (t3 _ _ e)) (by simpa using aD e nu)
  have eLcC:bG [u] H4 Lc=some (.lst (cs.map V.int)):=fC eLc (by simpa using nLu)
  have C4:aM (bG [u] H4) H4:=cg
  have cu:bG [u] H4 u=none:=by simp [bG]
  generalize bG [u] H4=C at sC eLcC C4 cu
  have hRC:=hR.same sC
  have hqC:=sC _ _ hq2
  refine cX (K:=K) (a:=Lc) (xs:=cs.map V.int) (fun i σ H5=>(∃v8,σ=[some (.ref a),some (.ref P),some (.int st),some (.ref d),some (.ref q),some (.int ((gU RW).length:Nat)),some (.int c),some (.ref u),v8])/\aM C H5/\∃ws:List Int,H5 u=some (.lst (ws.map V.int))/\ws.length<=5+i/\∀v∈ws,0<=v/\v <1000000000) ⟨⟨_,rfl⟩,C4,ws,t4 _ _ eu,by omega,hB⟩ (fun i σ H5 _ h=>bF.of (h.2.1 _ _ eLcC)) ?_ ?_
  ·rintro i x σ H5 hx ⟨⟨x8,rfl⟩,s5,ws,eu5,lw,hB⟩
   rw [List.getElem?_map] at hx
   obtain⟨cc,hcc,rfl⟩:=Option.map_eq_some_iff.mp hx
   have hi:=(List.getElem?_eq_some_iff.mp hcc).1
   refine⟨fun σ H5=>(∃v8,σ=[some (.ref a),some (.ref P),some (.int st),some (.ref d),some (.ref q),some (.int ((gU RW).length:Nat)),some (.int c),some (.ref u),v8])/\aM C H5/\∃ws:List Int,H5 u=some (.lst (ws.map V.int))/\ws.length<=5+(i+1)/\∀v∈ws,0<=v/\v <1000000000,?_,fun _ _ h=>h⟩
   refine⟨_,rfl,_,rfl,_,_,rfl,rfl,_,_,rfl,_,_,rfl,rfl,by show(0:Int) <4;decide,_,_,rfl,rfl,_,rfl,jz (fun _=>?_) (fun _=>⟨⟨_,rfl⟩,s5,ws,eu5,by omega,hB⟩)⟩
   refine⟨_,rfl,.inl ⟨rfl,_,bF.of eu5⟩,_,rfl,_,rfl,_,_,rfl,u,_,.int _,rfl,rfl,eu5,by rw [lM];omega,⟨_,rfl⟩,fun b o e=>?_,ws ++ [nQ cc ((gU RW).length:Int)],by rw [au,List.map_append];rfl,by rw [lP,List.length_singleton];omega,fun v hv=>?_⟩
   ·rw [aK (fun z=>by rw [z,cu] at e;cases e)]
    exact s5 b o e
   ·rcases List.mem_append.mp hv with hv | hv
    ·exact hB v hv
    ·rw [List.mem_singleton] at hv
     subst hv
     exact m9 _ _
  rintro σ H5 ⟨⟨x8,rfl⟩,s5,ws,eu5,lw,hB⟩
  rw [lM] at lw
  have hR5:=hRC.same s5
  refine⟨_,rfl,_,rfl,_,rfl,q,_,1,_,rfl,rfl,eN.of (s5 _ _ hqC),aJ (j:=1) rfl,d,_,rfl,o9.k (k:=Sum.inr p.name) hR5.at'.dict (by unfold gU;rw [lM];omega),⟨_,_,_,_,_,rfl⟩,upB ((s2.trans sC).trans s5),Bs RW p.name u ws,hR5.put eu5 nuH nud hG hB (by omega) (by decide),?_,fun _=>Tv _ _ _ _⟩
  have:=QW RW p.name u ws
  omega
 rintro σ H2 ⟨⟨w4,w5,w6,w7,w8,rfl⟩,s2,RW,hR,lR,hne⟩
 rw [xl,List.take_length] at hne
 exact⟨_,rfl,k H2 d RW s2 nd hR (by omega) hne⟩
theorem TJ:∀i,i <11->decide (V.str (eG i)=V.str "take")=decide (i=1):=by decide +kernel
inductive ye (K:PySem.W.Frag) (vs:List V) (H:Hp) (Q:VK) (E:XK):Prop where
 | mk:∀(P:Addr) (xs:List V) (ps:List PD) (c:Int),vs=[.ref P,.int c]->H P=some (.lst xs)->iY (qT H) xs ps->((∀p∈ps,p.kind <11))->ps.length<=16->(∀(H':Hp) (p:Addr) (zs:List Str),aM H H'->H p=none->H' p=some (.lst (zs.map V.str))->(∀x∈zs,V.str x∈dW ps "give" ++ dW ps "take")->Q (.ref p) H')->ye K vs H Q E
noncomputable abbrev ux:List Str:=["_law_parts", "_law_cell_here", "_law_doors"]
theorem Jg (T:Txt w K mg t):FO P w K mg base 2 t.zU ["_law_parts", "_law_cell_here"] (ye K):=by
 have sc:=T.uo.sc ux
 refine T.uo.F.ok sc ln (fun _ _ _ _ H vs Q E hr h=>?_)
 obtain⟨P,xs,ps,c,rfl,eP,aP,hk,p16,k⟩:=h
 refine⟨_,(aq (sN sc 2 (dZ [] ux (aR (top 85)) rfl (bM (pv 0)) (fun _ _ _ _ _=>(uR (PW.pt (sy (aV fL (aO (mY (K:=K) rfl) (pv 0) az (fun _ _=>rfl)) bJ (bI _)) (lU (aV fL (aO (mY (K:=K) rfl) (pv 0) az (fun _ _=>rfl)) bJ (bI _))))))) (fun _ _ _ _ _=>(aO (mY (K:=K) rfl) (pv 0) az (fun _ _=>rfl)))))
  (aq (bN (aV fL (bx cj (dw (aY T) T.bf hr (aa (pv 1) (aa az ak ao) aj)) az) az (bI _))
   (aA (aN (bz ak)))
   bj)
  (aA (aN (dZ [1,2] ux (aR (top 85)) rfl (jc rfl T.j9 (aa (bu bR (by rfl) T.fB du (aa (pv 2) ak aj)) ak aZ)) (fun _ _ _ _ _=>(uR (aV fL (bx cj (dw (aY T) T.bf hr (aa (pv 1) (aa (bx dD az (pv 0)) ak bL) aj)) az) az (bI _)))) (fun _ _ _ _ _=>(aO (JH (K:=K) rfl) (pv 2) (pv 0) (fun _ _=>rfl)))))))),?_⟩
 have hz:sizeLine=16777216:=sizeLine_eq
 have xl:=aP.length
 refine⟨_,rfl,P,rfl,⟨_,bF.of eP⟩,dR (K:=K) (a:=P) (xs:=xs) (fun j ys H'=>H'=H/\ys=((ps.take j).filter fun p=>decide (p.kind <2)).map fun p=>V.str p.name) (by omega) ⟨rfl,rfl⟩ (fun j ys H' h=>by rw [h.2,lM];exact Nat.le_trans (List.length_filter_le _ _) (by rw [List.length_take];omega)) (fun j ys H' _ h=>by rw [h.1];exact bF.of eP) ?_ ?_⟩
 ·rintro j x ys H1 hx ⟨rfl,rfl⟩
  obtain⟨p,hpj,q,a1,a2,a3,rfl,hq,_⟩:=aP.get hx
  have hk':=hk p (List.mem_of_getElem? hpj)
  refine⟨_,rfl,q,_,0,_,rfl,rfl,eN.of hq,aJ (j:=0) rfl,rfl,_,rfl,?_⟩
  rw [Ul _ hk',List.take_succ,hpj,Option.toList_some,List.filter_append,List.map_append,List.filter_cons]
  by_cases h0:p.kind=0
  ·rw [decide_eq_true h0]
   exact d9 (d9 ⟨_,rfl,q,_,1,_,rfl,rfl,eN.of hq,aJ (j:=1) rfl,rfl,by rw [if_pos (by simp [h0])];rfl⟩)
  ·rw [decide_eq_false h0]
   refine bU ⟨_,rfl,q,_,0,_,rfl,rfl,eN.of hq,aJ (j:=0) rfl,rfl,_,rfl,?_⟩
   rw [TJ _ hk']
   by_cases h1:p.kind=1
   ·rw [decide_eq_true h1]
    exact d9 ⟨_,rfl,q,_,1,_,rfl,rfl,eN.of hq,aJ (j:=1) rfl,rfl,by rw [if_pos (by simp [h1])];rfl⟩
   ·rw [decide_eq_false h1]
    exact bU ⟨rfl,by rw [if_neg (by simp;omega)];simp⟩
 rintro zs H1 ⟨rfl,rfl⟩ Ld nLd
 rw [xl,List.take_length]
 obtain⟨ds,hds⟩:∃ds:List Str,ds=(ps.filter fun p=>decide (p.kind <2)).map fun p=>p.name:=⟨_,rfl⟩
 have lds:ds.length<=16:=by rw [hds,lM];exact Nat.le_trans (List.length_filter_le _ _) p16
 have dds:∀x∈ds,V.str x∈dW ps "give" ++ dW ps "take" :=fun x hx=>by
  rw [hds] at hx
  obtain⟨p,hp,rfl⟩:=List.mem_map.mp hx
  obtain⟨hp,h2⟩:=List.mem_filter.mp hp
  have h2:=of_decide_eq_true h2
  refine List.mem_append.mpr ?_
  have:p.kind=0∨p.kind=1:=by omega
  rcases this with h | h
  ·exact .inl (List.mem_map.mpr ⟨p,List.mem_filter.mpr ⟨hp,by rw [h];rfl⟩,rfl⟩)
  ·exact .inr (List.mem_map.mpr ⟨p,List.mem_filter.mpr ⟨hp,by rw [h];rfl⟩,rfl⟩)
 have mds:((ps.filter fun p=>decide (p.kind <2)).map fun p=>V.str p.name)=ds.map V.str:=by rw [hds,List.map_map];rfl
 rw [mds]
 have t1:=aB (o:=.lst (ds.map V.str)) nLd
 have eLd:upd H1 Ld (.lst (ds.map V.str)) Ld=some (.lst (ds.map V.str)):=au
 generalize upd H1 Ld (.lst (ds.map V.str))=H2 at t1 eLd ⊢
 refine⟨_,rfl,_,_,rfl,_,_,rfl,rfl,by show(0:Int) <3;decide,rfl,_,rfl,jz (fun _=>?_) (fun _=>?_)⟩
 ·exact⟨iu,fun p np=>k _ p [] (t1.trans (aB np)) (t1.free np) au (by simp)⟩
 refine⟨_,rfl,_,(ds.map V.str).length,rfl,.inl ⟨_,bF.of eLd,rfl⟩,_,rfl,by omega,by rw [lM];omega,?_⟩
 refine jx (fun i ys H'=>H'=H2/\ys.length<=i/\∃zs:List Str,ys=zs.map V.str/\∀x∈zs,x∈ds) (by rw [Int.toNat_natCast,lM];omega) ⟨rfl,Nat.le_refl _,[],rfl,by simp⟩ (fun i ys H' h=>h.2.1) ?_ ?_
 ·rintro i ys H' hi ⟨rfl,ly,zs,rfl,hzs⟩
  rw [Int.toNat_natCast,lM] at hi
  refine⟨_,rfl,_,rfl,_,_,rfl,rfl,_,_,rfl,_,_,rfl,rfl,by show(0:Int) <3;decide,rfl,_,rfl,jz (fun _=>?_) (fun _=>⟨rfl,Nat.le_succ_of_le ly,zs,rfl,hzs⟩)⟩
  refine⟨_,rfl,_,rfl,Ld,_,_,.str ds[i],rfl,rfl,bF.of eLd,?_,rfl,by rw [lP];simp;simpa using ly,zs ++ [ds[i]],by simp,fun x hx=>?_⟩
  ·rw [show(0:Int)+(i:Int)=(i:Int) by omega]
   exact aJ (by rw [List.getElem?_map,List.getElem?_eq_getElem hi];rfl)
  ·rcases List.mem_append.mp hx with h | h
   ·exact hzs x h
   ·rw [List.mem_singleton] at h
    rw [h]
    exact List.getElem_mem hi
 rintro ys H' ⟨rfl,_,zs,rfl,hzs⟩ p np
 exact k _ p zs (t1.trans (aB np)) (t1.free np) au fun x hx=>dds x (hzs x hx)
noncomputable def V9 (w:Str×Str×Str) (p:PD):Prop:=(w.2.2= "value" /\w.2.1∈p.outs)∨(w.2.2= "room" /\w.2.1∈p.ins)
theorem Ep {α:Type} {c:α->Bool}:∀{l:List α} {j:Nat} {p:α},l[j]?=some p->(∀q∈l.take j,c q=false)->c p=true->l.find? c=some p
 | [],_,_,h,_,_=>by simp at h
 | a:: r,0,p,h,_,hc=>by simp at h;subst h;exact List.find?_cons_of_pos hc
 | a:: r,j+1,p,h,hn,hc=>by
  rw [List.find?_cons_of_neg (by rw [hn a (by simp)];simp)]
  exact Ep (j:=j) (by simpa using h) (fun q hq=>hn q (by simp [hq])) hc
theorem Z5:¬(("room" :Str)= "value"):=by decide
theorem Qq {ps:List PD} {w:Str×Str×Str} {j:Nat} {p:PD} (hj:ps[j]?=some p) (hn:∀q∈ps.take j,¬V9 w q) (h:V9 w p):sY ps w=some p.name:=by
 unfold sY
 rcases h with ⟨h1,h2⟩ | ⟨h1,h2⟩
 ·rw [if_pos h1,Ep hj (fun q hq=>decide_eq_false fun z=>hn q hq (.inl ⟨h1,z⟩)) (decide_eq_true h2)]
  rfl
 ·rw [if_neg (by rw [h1];exact Z5),if_pos h1,Ep hj (fun q hq=>decide_eq_false fun z=>hn q hq (.inr ⟨h1,z⟩)) (decide_eq_true h2)]
  rfl
theorem O4 {ps:List PD} {w:Str×Str×Str} (hn:∀q∈ps,¬V9 w q):sY ps w=none:=by
 unfold sY
 split
 ·rename_i h1
  rw [List.find?_eq_none.mpr fun q hq=>by simpa using fun z=>hn q hq (.inl ⟨h1,z⟩)]
  rfl
 ·split
  ·rename_i h1
   rw [List.find?_eq_none.mpr fun q hq=>by simpa using fun z=>hn q hq (.inr ⟨h1,z⟩)]
   rfl
  ·rfl
inductive wk (K:PySem.W.Frag) (vs:List V) (H:Hp) (Q:VK) (E:XK):Prop where
 | mk:∀(P u:Addr) (xs:List V) (ls:List aG) (ps:List PD) (w:Str×Str×Str),vs=[.ref P,.ref u]->H P=some (.lst xs)->iY (qT H) xs ps->zY ls ps->H u=some (.tup (Bo w))->Q (qC (sY ps w)) H->wk K vs H Q E
theorem wC (T:Txt w K mg t):FO P w K mg base 1 t.yo ["_law_parts", "_law_wait"] (wk K):=by
 have sc:=T.mV.sc ["_law_parts", "_law_wait", "_law_part_here"]
 refine T.mV.F.ok sc ln (fun _ _ _ _ H vs Q E hr h=>?_)
 obtain⟨P,u,xs,ls,ps,w,rfl,eP,aP,F,hu,k⟩:=h
 refine⟨_,(aq (dG PassesOwn.never rfl (bM (pv 0)) (gN sc 2)
   (aA (bN (PW.pt (sy (PW.pt (qX (aV fL (aO bT (pv 1) az (fun _ _=>rfl)) bJ (bI _)) (pO (aV vo (aO bT (pv 1) az (fun _ _=>rfl)) (aO bT (pv 2) az (fun _ _=>rfl)) (by with_unfolding_all rfl))))) (lU (PW.pt (qX (aV fL (aO bT (pv 1) az (fun _ _=>rfl)) bJ (bI _)) (pO (aV vo (aO bT (pv 1) az (fun _ _=>rfl)) (aO bT (pv 2) az (fun _ _=>rfl)) (by with_unfolding_all rfl))))))))
    (aA (aN (aO bT (pv 2) az (fun _ _=>rfl))))
    bj)))
  (aA (aN rQ))),?_⟩
 have hz:sizeLine=16777216:=sizeLine_eq
 have q2:Fi (Bo w) 2=some (.str w.2.2):=aJ (j:=2) rfl
 have q1:Fi (Bo w) 1=some (.str w.2.1):=aJ (j:=1) rfl
 have xl:=aP.length
 refine⟨_,rfl,P,rfl,⟨_,bF.of eP⟩,cX (K:=K) (a:=P) (xs:=xs) (fun j σ H'=>(∃v2,σ=[some (.ref P),some (.ref u),v2])/\H'=H/\∀q∈ps.take j,¬V9 w q) ⟨⟨none,rfl⟩,rfl,by simp⟩ (fun j σ H' _ h=>by rw [h.2.1];exact bF.of eP) ?_ ?_⟩
 ·rintro j x σ H' hx ⟨⟨v2,rfl⟩,rfl,hno⟩
  obtain⟨p,hpj,q,a1,a2,a3,rfl,hq,h2,h3,h4⟩:=aP.get hx
  have hit:V9 w p->Q (.str p.name) H':=fun h=>by rw [Qq hpj hno h] at k;exact k
  have nxt:¬V9 w p->∀q∈ps.take (j+1),¬V9 w q:=fun h q hq=>by
   rw [List.take_succ,hpj,Option.toList_some] at hq
   rcases List.mem_append.mp hq with h' | h'
   ·exact hno q h'
   ·rw [List.mem_singleton.mp h'];exact h
  refine⟨_,rfl,u,_,2,_,rfl,rfl,eN.of hu,q2,rfl,_,rfl,?_⟩
  by_cases hv:w.2.2= "value"
  ·have hr:¬w.2.2= "room" :=by rw [hv];exact fun z=>Z5 z.symm
   rw [decide_eq_true (by rw [hv])]
   refine d9 ⟨_,rfl,u,_,1,_,rfl,rfl,eN.of hu,q1,_,rfl,q,_,4,_,rfl,rfl,eN.of hq,aJ (j:=4) rfl,a3,_,rfl,.inl (bF.of h4),rfl,fG _,_,rfl,?_⟩
   rw [kW]
   by_cases hm:w.2.1∈p.outs
   ·rw [decide_eq_true hm]
    exact d9 (d9 ⟨_,rfl,q,_,1,_,rfl,rfl,eN.of hq,aJ (j:=1) rfl,hit (.inl ⟨hv,hm⟩)⟩)
   ·rw [decide_eq_false hm]
    refine bU ⟨_,rfl,u,_,2,_,rfl,rfl,eN.of hu,q2,rfl,_,rfl,?_⟩
    rw [decide_eq_false (fun z=>hr (by injection z))]
    exact bU (bU ⟨⟨_,rfl⟩,rfl,nxt fun z=>z.elim (fun z=>hm z.2) (fun z=>hr z.1)⟩)
  ·rw [decide_eq_false (fun z=>hv (by injection z))]
   refine bU (bU ⟨_,rfl,u,_,2,_,rfl,rfl,eN.of hu,q2,rfl,_,rfl,?_⟩)
   by_cases hr:w.2.2= "room"
   ·rw [decide_eq_true (by rw [hr])]
    refine d9 ⟨_,rfl,u,_,1,_,rfl,rfl,eN.of hu,q1,_,rfl,q,_,3,_,rfl,rfl,eN.of hq,aJ (j:=3) rfl,a2,_,rfl,.inl (bF.of h3),rfl,fG _,_,rfl,?_⟩
    rw [kW]
    by_cases hm:w.2.1∈p.ins
    ·rw [decide_eq_true hm]
     exact d9 ⟨_,rfl,q,_,1,_,rfl,rfl,eN.of hq,aJ (j:=1) rfl,hit (.inr ⟨hr,hm⟩)⟩
    ·rw [decide_eq_false hm]
     exact bU ⟨⟨_,rfl⟩,rfl,nxt fun z=>z.elim (fun z=>hv z.1) (fun z=>hm z.2)⟩
   ·rw [decide_eq_false (fun z=>hr (by injection z))]
    exact bU (bU ⟨⟨_,rfl⟩,rfl,nxt fun z=>z.elim (fun z=>hv z.1) (fun z=>hr z.1)⟩)
 rintro σ H' ⟨⟨v2,rfl⟩,rfl,hno⟩
 rw [xl,List.take_length] at hno
 rw [O4 hno] at k
 exact k
structure Xz (H:Hp) (D:Addr) (us:List Addr) (wts:List (Str×Str×Str)):Prop where
 dict:H D=some (.dK (yD V.ref (j8 wts us)))
 tups:cM H us (wts.map Bo)
 nd:(wts.map (·.1)).Nodup
theorem Xz.same {H H':Hp} {D:Addr} {us:List Addr} {wts:List (Str×Str×Str)} (h:Xz H D us wts) (s:aM H H'):Xz H' D us wts:=⟨s _ _ h.dict,cM.same s h.tups,h.nd⟩
theorem Nr {a:Nat} {tb:TE} {σ:St} {H':Hp} {Q' Q'':Bool->Hp->Prop} (hb:∀{R R':VK},(∀v H,R v H->R' v H)->tb σ H' R->tb σ H' R') (hm:∀b H,Q' b H->Q'' b H) (hq:z6 (Rv Zh tb (vH a)) σ H' Q'):z6 (Rv Zh tb (vH a)) σ H' Q'':=by
 refine hb (fun v H h=>?_) hq
 obtain⟨v,e,h1,b',e5,hq⟩:=h
 exact⟨v,e,h1,b',e5,hm _ _ hq⟩
inductive zV (K:PySem.W.Frag) (vs:List V) (H:Hp) (Q:VK) (E:XK):Prop where
 | mk:∀(P D:Addr) (xs:List V) (ls:List aG) (ps:List PD) (us:List Addr) (wts:List (Str×Str×Str)) (x:Str),vs=[.ref P,.ref D,.str x]->H P=some (.lst xs)->iY (qT H) xs ps->zY ls ps->Xz H D us wts->wts.length<=16->(∀H' L r,aM H H'->H L=none->H' L=some (.lst (r.map V.str))->qR (Jl ps wts) x r->Q (.ref L) H')->zV K vs H Q E
theorem Jz (T:Txt w K mg t):FO P w K mg base 2 t.Cz ["_law_parts", "_law_waits", "_law_name"] (zV K):=by
 have sc:=T.wO.sc ["_law_parts", "_law_waits", "_law_name", "_law_seen"]
 refine T.wO.F.ok sc ln (fun _ _ _ _ H vs Q E hr h=>?_)
 obtain⟨P,D,xs,ls,ps,us,wts,x,rfl,eP,aP,F,hD,l16,k⟩:=h
 refine⟨_,(aq (sN sc 3 (bz ak))
  (aq (qM PassesOwn.never (PW.pt (qX (gh (MF hr.u1 (pv 2) (pv 1))) (pO (aV fP (pv 2) (pv 3) (by with_unfolding_all rfl)))))
   (aq (bC (DP (pv 3) (aa (pv 2) ak aj)))
   (aA (sN sc 2 (dw (wC T) T.mV hr (aa (pv 0) (aa (cZ hr.u1 (pv 1) (pv 2) (fun _ _=>rfl)) ak aF) aj))))))
  (aq (bN (aV fP (pv 2) (pv 3) (by with_unfolding_all rfl))
   (aA (aN (bz ak)))
   bj)
  (aq (qM PassesOwn.never (aV DG (aO aX (pv 3) az (fun _ _=>rfl)) (pv 2) (bI _))
   (aA (bC (tW PySem.F.plainAttrs_list PySem.F.slot_list_pop PySem.F.type_list_pop uA (pv 3) (aa az ak ao)))))
  (aA (aN (pv 3))))))),?_⟩
 have hz:sizeLine=16777216:=sizeLine_eq
 refine⟨iu,fun S nS=>?_⟩
 refine qI (fun σ H'=>∃seen at0,σ=[some (.ref P),some (.ref D),some (qC at0),some (.ref S)]/\H'=upd H S (.lst (seen.map V.str))/\Wk (Jl ps wts) x seen at0) (fun σ H'=>wts.length+1 - sW H' S) ⟨[],some x,rfl,rfl,.start⟩ ?_ ?_
 ·rintro σ H' ⟨seen,at0,rfl,rfl,g⟩
  have eS:upd H S (.lst (seen.map V.str)) S=some (.lst (seen.map V.str)):=au
  have sS:aM H (upd H S (.lst (seen.map V.str))):=aB nS
  have hD1:=hD.same sS
  obtain⟨gnd,gin⟩:=g.nd
  have sl:seen.length<=wts.length:=by
   have:=xY gnd (m:=wts.map (·.1)) fun y hy=>(by obtain⟨w,hw,e⟩:=Dp (gin y hy);exact List.mem_map.mpr ⟨w,hw,e⟩)
   rwa [lM] at this
  cases at0 with
  | none=>
   refine⟨_,rfl,_,rfl,.non D _ rfl rfl (.inl hD1.dict) ⟨_,rfl,bU (bU ?_)⟩⟩
   refine⟨_,rfl,_,rfl,S,_,rfl,.inl (bF.of eS),rfl,fG _,_,rfl,?_⟩
   rw [show inV (qC none) (seen.map V.str)=false from Mw seen]
   refine d9 ⟨iu,fun L nL=>?_⟩
   exact k _ L [] (sS.trans (aB nL)) (sS.free nL) au ⟨seen,none,g,fun y z=>(by cases z),rfl⟩
  | some a=>
   refine⟨_,rfl,_,rfl,.key D _ rfl (vy hD1.dict a) ?_⟩
   rcases CK (ps:=ps) (x:=a) hD1.tups with ⟨e,e2⟩ | ⟨u,e2,eu,e,_⟩
   ·rw [e2]
    have hm:a∉seen:=fun z=>by have:=gin a z;rw [e] at this;cases this
    refine⟨_,rfl,bU (bU ?_)⟩
    refine⟨_,rfl,_,rfl,S,_,rfl,.inl (bF.of eS),rfl,fG _,_,rfl,?_⟩
    rw [show inV (qC (some a)) (seen.map V.str)=decide (a∈seen) from kW a seen,decide_eq_false hm]
    refine d9 ⟨iu,fun L nL=>?_⟩
    refine k _ L [] (sS.trans (aB nL)) (sS.free nL) au ⟨seen,some a,g,fun y z=>(by cases z;exact .inl e),?_⟩
    show []=if a∈seen then _ else []
    rw [if_neg hm]
   ·rw [e2]
    refine⟨_,rfl,d9 ?_⟩
    refine⟨_,rfl,_,rfl,S,_,rfl,.inl (bF.of eS),rfl,fG _,_,rfl,?_⟩
    rw [show inV (qC (some a)) (seen.map V.str)=decide (a∈seen) from kW a seen]
    by_cases hm:a∈seen
    ·rw [decide_eq_true hm]
     refine bU ?_
     refine⟨_,rfl,_,rfl,S,_,rfl,.inl (bF.of eS),rfl,fG _,_,rfl,?_⟩
     rw [show inV (qC (some a)) (seen.map V.str)=decide (a∈seen) from kW a seen,decide_eq_true hm]
     refine bU ?_
     obtain⟨i1,i2⟩:=qL hm
     refine qI (fun σ H'=>∃i,i<=seen.idxOf a/\σ=[some (.ref P),some (.ref D),some (.str a),some (.ref S)]/\H'=upd H S (.lst ((seen.drop i).map V.str))) (fun σ H'=>sW H' S) ⟨0,Nat.zero_le _,rfl,rfl⟩ ?_ ?_
     ·rintro σ H' ⟨i,hi,rfl,rfl⟩
      have il:=(List.getElem?_eq_some_iff.mp i1).1
      have eS2:upd H S (.lst ((seen.drop i).map V.str)) S=some (.lst ((seen.drop i).map V.str)):=au
      have e0:(seen.drop i)[0]?=some (seen[i]'(by omega)):=by rw [List.getElem?_drop,Nat.add_zero,List.getElem?_eq_getElem (by omega)]
      refine⟨_,rfl,S,_,0,_,rfl,rfl,bF.of eS2,aJ (j:=0) (by rw [List.getElem?_map,e0];rfl),_,rfl,rfl,_,rfl,?_⟩
      by_cases hia:i=seen.idxOf a
      ·have:seen[i]'(by omega)=a:=by
        have:=i1
        rw [<-hia,List.getElem?_eq_getElem (by omega)] at this
        exact Option.some.inj this
       rw [this,decide_eq_true rfl]
       refine bU ⟨_,rfl,k _ S _ (aB nS) nS eS2 ⟨seen,some a,g,fun y z=>(by cases z;exact .inr hm),?_⟩⟩
       show _=if a∈seen then _ else []
       rw [if_pos hm,hia]
      ·have hne:seen[i]'(by omega)≠a:=i2 i _ (by omega) (List.getElem?_eq_getElem (by omega))
       rw [decide_eq_false (fun z=>hne (by injection z))]
       refine d9 ⟨_,rfl,.inl ⟨rfl,_,bF.of eS2⟩,S,_,0,0,_,rfl,rfl,eS2,by decide,by decide,Eo (j:=0) (by rw [lM,List.length_drop];omega),(by rw [List.getElem?_map,e0];rfl),?_⟩
       rw [jt]
       have er:((seen.drop i).map V.str).eraseIdx 0=(seen.drop (i+1)).map V.str:=by
        rw [za,List.eraseIdx_zero,List.tail_drop]
       rw [er]
       refine⟨⟨i+1,by omega,rfl,rfl⟩,?_⟩
       show sW _ S <sW _ S
       rw [lL (au (H:=H) (a:=S) (o:=.lst ((seen.drop (i+1)).map V.str))),lL eS2,lM,lM,List.length_drop,List.length_drop]
       omega
     ·exact fun σ H' Q' Q'' hm hq=>Nr (fun hR h=>by
       obtain⟨v,e,p,xs,i,y,e1,e2,h3,h4,q⟩:=h
       exact⟨v,e,p,xs,i,y,e1,e2,h3,h4,hR _ _ q⟩) hm hq
    ·rw [decide_eq_false hm]
     refine d9 ?_
     refine⟨_,rfl,.inl ⟨rfl,_,bF.of eS⟩,_,rfl,S,_,_,rfl,rfl,eS,by rw [lM];omega,?_⟩
     rw [jt]
     have s2:aM H (upd H S (.lst (seen.map V.str ++ [.str a]))):=aB nS
     have hD2:=hD.same s2
     have g2:=vy hD2.dict a
     rw [e2] at g2
     refine⟨_,rfl,_,rfl,_,rfl,D,_,rfl,g2,P,u,xs,ls,ps,Ms wts a,rfl,s2 _ _ eP,aP.imp (fun _ _ h=>h.same s2),F,?_,?_⟩
     ·rcases CK (ps:=ps) (x:=a) hD2.tups with ⟨_,e3⟩ | ⟨u',e3,eu',_,_⟩
      ·rw [e3] at e2;cases e2
      ·rw [e3] at e2;cases e2;exact eu'
     have G:=g.step e hm
     have es:seen.map V.str ++ [V.str a]=(seen ++ [a]).map V.str:=by rw [List.map_append];rfl
     show(∃seen at0,_)/\_
     rw [show(qC (some a))=V.str a from rfl,es]
     refine⟨⟨seen ++ [a],_,rfl,rfl,G⟩,?_⟩
     show wts.length+1 - sW _ S <wts.length+1 - sW _ S
     rw [lL (au (H:=H) (a:=S) (o:=.lst ((seen ++ [a]).map V.str))),lL eS,lM,lM,lP,List.length_singleton]
     omega
 ·exact fun σ H' Q' Q'' hm hq=>JL hm hq
noncomputable def Kq (H:Hp) (a:Addr) (v:V):Nat:=match H a with
 | some (.lst xs)=>xs.findIdx fun z=>decide (z=v)
 | _=>0
theorem J4 {H:Hp} {a:Addr} {v:V} {xs:List V} (h:H a=some (.lst xs)):Kq H a v=xs.findIdx fun z=>decide (z=v):=by unfold Kq;rw [h]
theorem Ut {z v:V} {rest:List V} (hn:z≠v) (hv:v∈rest):(rest ++ [z]).findIdx (fun u=>decide (u=v)) <(z:: rest).findIdx fun u=>decide (u=v):=by
 have h1:rest.findIdx (fun u=>decide (u=v)) <rest.length:=List.findIdx_lt_length_of_exists ⟨v,hv,by simp⟩
 rw [List.findIdx_append,if_pos h1,List.findIdx_cons,decide_eq_false hn]
 exact Nat.lt_succ_self _
theorem G9 {rg:List Str} {i:Nat} (h:i <rg.length):rg.drop i ++ rg.take i=rg[i]:: (rg.drop (i+1) ++ rg.take i):=by rw [List.drop_eq_getElem_cons h];rfl
theorem U8 {rg:List Str} {i:Nat} (h:i <rg.length):rg.drop (i+1) ++ rg.take i ++ [rg[i]]=rg.drop (i+1) ++ rg.take (i+1):=by rw [List.take_succ,List.getElem?_eq_getElem h,List.append_assoc];rfl
inductive Ar (K:PySem.W.Frag) (vs:List V) (H:Hp) (Q:VK) (E:XK):Prop where
 | mk:∀(P Sm:Addr) (xs:List V) (ls:List aG) (ps:List PD) (us:List Addr) (wts:List (Str×Str×Str)),vs=[.ref P,.ref Sm]->H P=some (.lst xs)->iY (qT H) xs ps->zY ls ps->H Sm=some (.lst (us.map V.ref))->cM H us (wts.map Bo)->(wts.map (·.1)).Nodup->wts.length<=16->((∀w∈wts,w.1∈ps.map (·.name)))->(∀H' L us' ws,aM H H'->H' L=some (.lst (us'.map V.ref))->cM H' us' (ws.map Bo)->Ah (Jl ps wts) (ps.map (·.name)) wts ws->Q (.ref L) H')->Ar K vs H Q E
noncomputable abbrev rJ:List Str:=["_law_parts", "_law_some", "_law_waits", "_law_part_here", "_law_ring", "_law_first"]
theorem zZ (T:Txt w K mg t):FO P w K mg base 3 t.BL ["_law_parts", "_law_some"] (Ar K):=by
 have sc:=T.rT.sc rJ
 refine T.rT.F.ok sc ln (fun _ _ _ _ H vs Q E hr h=>?_)
 obtain⟨P,Sm,xs,ls,ps,us,wts,rfl,eP,aP,F,eS,tS,ndW,l16,hin,k⟩:=h
 refine⟨_,(aq (sN sc 2 (eY (Bh rfl) (by rfl) T.W0 U9 (aa (dZ [] rJ (aR (top 88)) rfl (bM (pv 1)) (fun _ _ _ _ _=>gm) (fun _ _ _ _ _=>(cz (aa (aO (mY (K:=K) rfl) (pv 0) az (fun _ _=>rfl)) (aa (pv 0) ak aj) aF)))) ak eU)))
  (aq (dG PassesOwn.never rfl (bM (pv 0)) (gN sc 3)
   (aq (sN sc 4 (dw (Jz T) T.wO hr (aa (pv 0) (aa (pv 2) (aa (aO bT (pv 3) az (fun _ _=>rfl)) ak aF) aj) aj)))
   (aA (bN (aV (Mq hr.units) (pv 4) (bz ak) (bI _))
    (aq (sN sc 5 (aO aX (dZ [4] rJ (aR (top 88)) rfl (bM (pv 0)) (fun _ _ _ _ _=>(uR (aV (Cj (K:=K) rfl) (aO (mY (K:=K) rfl) (pv 0) az (fun _ _=>rfl)) (pv 1) (by with_unfolding_all rfl)))) (fun _ _ _ _ _=>(aO (mY (K:=K) rfl) (pv 0) az (fun _ _=>rfl)))) az (fun _ _=>rfl)))
    (aq (qM PassesOwn.never (aV DG (aO aX (pv 4) az (fun _ _=>rfl)) (pv 5) (bI _))
     (aA (bC (DP (pv 4) (aa (tW PySem.F.plainAttrs_list PySem.F.slot_list_pop PySem.F.type_list_pop uA (pv 4) (aa az ak ao)) ak aZ)))))
    (aA (aN (dZ [2] rJ (aR (top 88)) rfl (bM (pv 4)) (fun _ _ _ _ _=>gm) (fun _ _ _ _ _=>(cZ hr.u1 (pv 1) (pv 0) (fun _ _=>rfl))))))))
    bj))))
  (aA (aN (bz ak))))),?_⟩
 have hz:sizeLine=16777216:=sizeLine_eq
 have xl:=aP.length
 have p16:=F.p16
 obtain⟨zl,ul,zn⟩:=JX tS
 have nok:∀y∈ps.map (·.name),PyData.strOk y=true:=fun y hy=>by
  obtain⟨p,hp,rfl⟩:=List.mem_map.mp hy
  exact Hq (F.pnm p hp)
 refine⟨_,rfl,Sm,rfl,⟨_,bF.of eS⟩,dR (K:=K) (a:=Sm) (xs:=us.map V.ref) (fun j ys H'=>aM H H'/\∃rs:List Addr,rs.length=j/\ys=rs.map V.ref/\cM H' rs (((yD V.ref (j8 wts us)).take j).map fun kv=>[kV kv.1,kv.2])) (by rw [lM];omega) ⟨aM.refl _,[],rfl,rfl,.nil⟩ (fun j ys H' h=>by obtain⟨_,rs,rl,rfl,_⟩:=h;rw [lM];omega) (fun j ys H' _ h=>h.1.seq (bF.of eS)) ?_ ?_⟩
 ·rintro j x ys H1 hx ⟨s1,rs,rl,rfl,tr⟩
  rw [List.getElem?_map] at hx
  obtain⟨u,hu,rfl⟩:=Option.map_eq_some_iff.mp hx
  obtain⟨vs2,z1,z2⟩:=oN tS hu
  rw [List.getElem?_map] at z1
  obtain⟨w,ew,rfl⟩:=Option.map_eq_some_iff.mp z1
  have kj:(yD V.ref (j8 wts us))[j]?=some (Sum.inr w.1,V.ref u):=by unfold yD;rw [List.getElem?_map,Jt ew hu];rfl
  refine yes ⟨_,rfl,u,_,0,_,rfl,rfl,eN.of (s1 _ _ z2),aJ (j:=0) rfl,_,rfl,iu,fun q nq=>?_⟩
  have t2:=aB (o:=.tup [.str w.1,.ref u]) nq
  refine⟨s1.trans t2,rs ++ [q],by rw [lP,rl];rfl,by rw [List.map_append];rfl,?_⟩
  rw [List.take_succ,kj,Option.toList_some,List.map_append]
  exact(cM.same t2 tr).append (.cons au .nil)
 rintro ys H1 ⟨s1,rs,rl,rfl,tr⟩ Lp nLp
 rw [lM,ul,<-zl,<-Ir V.ref (j8 wts us),List.take_length] at tr
 have t2:=aB (o:=.lst (rs.map V.ref)) nLp
 refine⟨Lp,rs,yD V.ref (j8 wts us),rfl,bF.of au,cM.same t2 tr,?_,fun D nD=>?_⟩
 ·have:(yD V.ref (j8 wts us)).map (·.1)=(wts.map (·.1)).map (fun x=>(Sum.inr x:Key)):=by rw [<-zn];unfold yD;rw [List.map_map,List.map_map];rfl
  rw [this]
  exact fH ndW
 have s2:=s1.trans t2
 generalize upd H1 Lp (.lst (rs.map V.ref))=H2 at s2 nD ⊢
 have t3:=aB (o:=.dK (yD V.ref (j8 wts us))) nD
 have s3:=s2.trans t3
 have hD:Xz (upd H2 D (.dK (yD V.ref (j8 wts us)))) D us wts:=⟨au,cM.same s3 tS,ndW⟩
 clear t2 nLp tr rl t3 nD
 generalize upd H2 D (.dK (yD V.ref (j8 wts us)))=H3 at s3 hD ⊢
 clear s1 s2
 have eP3:=s3 _ _ eP
 have aP3:=aP.imp (fun _ _ h=>h.same s3)
 refine⟨_,rfl,P,rfl,⟨_,bF.of eP3⟩,cX (K:=K) (a:=P) (xs:=xs) (fun j σ H'=>(∃v3 v4,σ=[some (.ref P),some (.ref Sm),some (.ref D),v3,v4,none])/\aM H3 H'/\∀p∈ps.take j,qR (Jl ps wts) p.name []) ⟨⟨none,none,rfl⟩,aM.refl _,by simp⟩ (fun j σ H' _ h=>h.2.1.seq (bF.of eP3)) ?_ ?_⟩
 ·rintro j x σ H4 hx ⟨⟨v3,v4,rfl⟩,s4,hno⟩
  have aP4:=aP3.imp (fun _ _ h=>h.same s4)
  have eP4:=s4 _ _ eP3
  have hD4:=hD.same s4
  obtain⟨p,hpj,q,a1,a2,a3,rfl,hq,_⟩:=aP4.get hx
  refine⟨_,rfl,_,rfl,_,rfl,q,_,1,_,rfl,rfl,eN.of hq,aJ (j:=1) rfl,P,D,xs,ls,ps,us,wts,p.name,rfl,eP4,aP4,F,hD4,l16,fun H5 Lr rg s5 nLr eLr hr=>?_⟩
  have hrr:=hr.nd
  have rin:∀y∈rg,y∈ps.map (·.name):=fun y hy=>by
   obtain⟨w,hw,e⟩:=Dp (hrr.2 y hy)
   rw [<-e];exact hin w hw
  have rl:rg.length<=16:=Nat.le_trans (xY hrr.1 rin) (by rw [lM];exact p16)
  have g:Gd 1 (.list (rg.map PyData.str)):=.list (.strs 0 fun y hy=>nok y (rin y hy))
  have g0:Gd 1 (.list (([]:List Str).map PyData.str)):=.list (.strs 0 (by simp))
  refine⟨_,rfl,iu,fun e ne=>⟨_,_,Nv (bF.of (aB ne _ _ eLr)),Nv (xs:=[]) (bF.of au),g.shaped (by decide),g0.shaped (by decide),_,rfl,?_⟩⟩
  have t6:=aB (o:=.lst []) ne
  have eLr6:=t6 _ _ eLr
  have s46:=s5.trans t6
  generalize upd H5 e (.lst [])=H6 at t6 eLr6 s46 ⊢
  cases hrg:rg with
  | nil=>
   rw [hrg] at hr
   refine bU ⟨⟨_,_,rfl⟩,s4.trans s46,fun q hq=>?_⟩
   rw [List.take_succ,hpj,Option.toList_some] at hq
   rcases List.mem_append.mp hq with h | h
   ·exact hno q h
   ·rw [List.mem_singleton.mp h];exact hr
  | cons y0 rg'=>
   rw [<-hrg]
   have ev:PyData.eqv (.list (rg.map PyData.str)) (.list (([]:List Str).map PyData.str))=false:=by rw [hrg];simp [PyData.eqv,PyData.eqvAll]
   rw [ev]
   refine d9 ?_
   have hne:rg≠[]:=by rw [hrg];simp
   have hy0:y0∈rg:=by rw [hrg];exact List.mem_cons_self
   clear ev hrg
   obtain⟨y,ey⟩:∃y,(ps.map (·.name)).find? (fun y=>decide (y∈rg))=some y:=by
    cases e:(ps.map (·.name)).find? (fun y=>decide (y∈rg)) with
    | none=>exact absurd (decide_eq_true hy0) (List.find?_eq_none.mp e y0 (rin y0 hy0))
    | some y=>exact⟨y,rfl⟩
   have hyr:y∈rg:=by simpa using List.find?_some ey
   have fin:∀ws,ws=(rg.drop (rg.idxOf y) ++ rg.take (rg.idxOf y)).map (Ms wts)->Ah (Jl ps wts) (ps.map (·.name)) wts ws:=fun ws e=>by
    have er:Bf rg (ps.map (·.name))=rg.drop (rg.idxOf y) ++ rg.take (rg.idxOf y):=by unfold Bf;rw [ey]
    refine .inr ⟨(ps.take j).map (·.name),p.name,(ps.drop (j+1)).map (·.name),rg,?_,fun y hy=>?_,hr,hne,by rw [er];exact e⟩
    ·rw [<-List.map_cons,<-List.map_append]
     congr 1
     obtain⟨hjl,e⟩:=List.getElem?_eq_some_iff.mp hpj
     rw [<-e,<-List.drop_eq_getElem_cons hjl,List.take_append_drop]
    ·obtain⟨q,hq,rfl⟩:=List.mem_map.mp hy
     exact hno q hq
   have eP6:=s46 _ _ eP4
   have aP6:=aP4.imp (fun _ _ h=>h.same s46)
   refine⟨_,rfl,P,rfl,⟨_,bF.of eP6⟩,dR (K:=K) (a:=P) (xs:=xs) (fun i ys H'=>H'=H6/\ys=(((ps.map (·.name)).take i).filter fun y=>decide (y∈rg)).map V.str) (by omega) ⟨rfl,rfl⟩ (fun i ys H' h=>by rw [h.2,lM];exact Nat.le_trans (List.length_filter_le _ _) (by rw [List.length_take];omega)) (fun i ys H' _ h=>by rw [h.1];exact bF.of eP6) ?_ ?_⟩
   ·rintro i x ys H' hx ⟨rfl,rfl⟩
    obtain⟨p',hpi,q',b1,b2,b3,rfl,hq',_⟩:=aP6.get hx
    have hni:(ps.map (·.name))[i]?=some p'.name:=by rw [List.getElem?_map,hpi];rfl
    refine⟨_,rfl,q',_,1,_,rfl,rfl,eN.of hq',aJ (j:=1) rfl,_,rfl,Lr,_,rfl,.inl (bF.of eLr6),rfl,fG _,_,rfl,?_⟩
    rw [kW,List.take_succ,hni,Option.toList_some,List.filter_append,List.filter_cons,List.filter_nil]
    by_cases hm:p'.name∈rg
    ·rw [decide_eq_true hm]
     exact d9 ⟨_,rfl,q',_,1,_,rfl,rfl,eN.of hq',aJ (j:=1) rfl,rfl,by simp⟩
    ·rw [decide_eq_false hm]
     exact bU ⟨rfl,by simp⟩
   rintro ys H' ⟨rfl,rfl⟩ Lf nLf
   rw [xl,<-lM (f:=fun p:PD=>p.name),List.take_length]
   have e0:((ps.map (·.name)).filter fun y=>decide (y∈rg))[0]?=some y:=by rw [<-List.head?_eq_getElem?,List.head?_filter,ey]
   have t7:=aB (o:=.lst (((ps.map (·.name)).filter fun y=>decide (y∈rg)).map V.str)) nLf
   have eLr7:=t7 _ _ eLr6
   have s47:=s46.trans t7
   refine⟨Lf,_,0,_,rfl,rfl,bF.of au,aJ (j:=0) (by rw [List.getElem?_map,e0];rfl),?_⟩
   generalize upd H' Lf (.lst (((ps.map (·.name)).filter fun y=>decide (y∈rg)).map V.str))=H7 at eLr7 s47 ⊢
   obtain⟨i1,i2⟩:=qL hyr
   have il:=(List.getElem?_eq_some_iff.mp i1).1
   refine qI (fun σ H'=>∃i,i<=rg.idxOf y/\σ=[some (.ref P),some (.ref Sm),some (.ref D),some (.ref q),some (.ref Lr),some (.str y)]/\H'=upd H7 Lr (.lst ((rg.drop i ++ rg.take i).map V.str))) (fun σ H'=>Kq H' Lr (.str y)) ⟨0,Nat.zero_le _,rfl,?_⟩ ?_ ?_
   ·funext b
    by_cases hb:b=Lr
    ·rw [hb,au,eLr7];simp
    ·rw [aK hb]
   ·rintro σ H8 ⟨i,hi,rfl,rfl⟩
    have eS2:upd H7 Lr (.lst ((rg.drop i ++ rg.take i).map V.str)) Lr=some (.lst ((rg.drop i ++ rg.take i).map V.str)):=au
    have hil:i <rg.length:=by omega
    have e0:(rg.drop i ++ rg.take i)[0]?=some rg[i]:=by rw [G9 hil];rfl
    refine⟨_,rfl,Lr,_,0,_,rfl,rfl,bF.of eS2,aJ (j:=0) (by rw [List.getElem?_map,e0];rfl),_,rfl,rfl,_,rfl,?_⟩
    by_cases hia:i=rg.idxOf y
    ·have:rg[i]=y:=by
      have:=i1
      rw [<-hia,List.getElem?_eq_getElem hil] at this
      exact Option.some.inj this
     rw [this,decide_eq_true rfl]
     refine bU ?_
     rw [<-hia] at fin
     have s48:aM H4 (upd H7 Lr (.lst ((rg.drop i ++ rg.take i).map V.str))):=fun b o e=>by rw [aK (aD e nLr)];exact s47 _ _ e
     have rom:∀y∈rg.drop i ++ rg.take i,y∈rg:=fun y hy=>by
      rcases List.mem_append.mp hy with h | h
      ·exact List.mem_of_mem_drop h
      ·exact List.mem_of_mem_take h
     have rol:(rg.drop i ++ rg.take i).length<=16:=by rw [lP,List.length_drop,List.length_take];omega
     generalize rg.drop i ++ rg.take i=ro at fin eS2 s48 rom rol
     generalize upd H7 Lr (.lst (ro.map V.str))=H8 at eS2 s48 ⊢
     have hD8:=hD4.same s48
     refine⟨_,rfl,Lr,rfl,⟨_,bF.of eS2⟩,dR (K:=K) (a:=Lr) (xs:=ro.map V.str) (fun i ys H'=>H'=H8/\∃vs:List Addr,ys=vs.map V.ref/\cM H8 vs (((ro.take i).map (Ms wts)).map Bo)) (by rw [lM];omega) ⟨rfl,[],rfl,.nil⟩ (fun i ys H' h=>by obtain⟨_,vs,rfl,tv⟩:=h;have:vs.length=_:=Paired.length tv;rw [lM,lM,List.length_take] at this;rw [lM];omega) (fun i ys H' _ h=>by rw [h.1];exact bF.of eS2) ?_ ?_⟩
     ·rintro i x ys H' hx ⟨rfl,vs,rfl,tv⟩
      rw [List.getElem?_map] at hx
      obtain⟨y,hyi,rfl⟩:=Option.map_eq_some_iff.mp hx
      have hg:=hrr.2 y (rom y (List.mem_of_getElem? hyi))
      rcases CK (ps:=ps) (x:=y) hD8.tups with ⟨h,_⟩ | ⟨u,h1,h2,_,_⟩
      ·rw [h] at hg;cases hg
      have g2:=vy hD8.dict y
      rw [h1] at g2
      refine yes ⟨_,rfl,_,rfl,D,_,rfl,g2,rfl,vs ++ [u],by rw [List.map_append];rfl,?_⟩
      rw [List.take_succ,hyi,Option.toList_some,List.map_append,List.map_append]
      exact tv.append (.cons h2 .nil)
     rintro ys H' ⟨rfl,vs,rfl,tv⟩ Lz nLz
     rw [lM,List.take_length] at tv
     exact k _ Lz vs _ ((s3.trans (s4.trans s48)).trans (aB nLz)) au (cM.same (aB nLz) tv) (fin _ rfl)
    ·have hny:rg[i]≠y:=i2 i _ (by omega) (List.getElem?_eq_getElem hil)
     rw [decide_eq_false (fun z=>hny (by injection z))]
     refine d9 ⟨_,rfl,.inl ⟨rfl,_,bF.of eS2⟩,_,rfl,.inl ⟨rfl,_,bF.of eS2⟩,Lr,_,0,0,_,rfl,rfl,eS2,by decide,by decide,Eo (j:=0) (by rw [lM,lP,List.length_drop];omega),(by rw [List.getElem?_map,e0];rfl),Lr,_,_,rfl,rfl,au,by rw [List.length_eraseIdx,lM,lP,List.length_drop,List.length_take];split <;> omega,?_⟩
     rw [jt,jt]
     have er:((rg.drop i ++ rg.take i).map V.str).eraseIdx 0 ++ [V.str rg[i]]=(rg.drop (i+1) ++ rg.take (i+1)).map V.str:=by
      rw [G9 hil,List.map_cons,List.eraseIdx_cons_zero,<-U8 hil,List.map_append (l₁:=rg.drop (i+1) ++ rg.take i) (l₂:=[rg[i]])]
      rfl
     rw [er]
     refine⟨⟨i+1,by omega,rfl,rfl⟩,?_⟩
     show Kq _ Lr _ <Kq _ Lr _
     rw [J4 (au (H:=H7) (a:=Lr) (o:=.lst ((rg.drop (i+1) ++ rg.take (i+1)).map V.str))),J4 eS2,<-er,G9 hil,List.map_cons,List.eraseIdx_cons_zero]
     refine Ut (fun z=>hny (by injection z)) (List.mem_map.mpr ⟨y,List.mem_append.mpr (.inl ?_),rfl⟩)
     refine List.mem_of_getElem? (i:=rg.idxOf y - (i+1)) ?_
     rw [List.getElem?_drop,show i+1+(rg.idxOf y - (i+1))=rg.idxOf y by omega]
     exact i1
   ·exact fun σ H' Q' Q'' hm hq=>Nr (fun hR h=>by
     obtain⟨v,e,p,xs,i,y,e1,e2,h3,h4,q⟩:=h
     exact⟨v,e,p,xs,i,y,e1,e2,h3,h4,hR _ _ q⟩) hm hq
 rintro σ H4 ⟨⟨v3,v4,rfl⟩,s4,hno⟩
 rw [xl,List.take_length] at hno
 refine⟨iu,fun Lz nLz=>?_⟩
 exact k _ Lz [] [] ((s3.trans s4).trans (aB nLz)) au .nil (.inl ⟨rfl,fun x hx=>by obtain⟨q,hq,rfl⟩:=List.mem_map.mp hx;exact hno q hq⟩)
noncomputable def XF (w:Str×Str×Str):PyData:=.tuple [.str w.1,.str w.2.1,.str w.2.2]
theorem Nt {H:Hp}:∀{us:List Addr} {ws:List (Str×Str×Str)},cM H us (ws.map Bo)->Qa K H (us.map V.ref) (ws.map XF)
 | [],[],_=>.nil
 | [],_:: _,h=>nomatch h
 | _:: _,[],h=>nomatch h
 | u:: us,w:: ws,h=>by
  have h:Paired (fun r vs=>H r=some (.tup vs)) (u:: us) (Bo w:: ws.map Bo):=h
  cases h with
  | cons a b=>exact .cons (.tuple (eN.of a) (.cons (.str _) (.cons (.str _) (.cons (.str _) .nil)))) (Nt b)
theorem HR {H:Hp} {L:Addr} {us:List Addr} {ws:List (Str×Str×Str)} (h:bF K H L (us.map V.ref)) (t:cM H us (ws.map Bo)):Dt K H (.ref L) (.list (ws.map XF)):=.list h (Nt t)
theorem Ov {b:Nat} {ls:List aG} {ps:List PD} {S:FS} (F:zY ls ps) (O:Et b ls ps S) {p:PD} (hp:p∈ps):(eX ls S p).isSome=(jA ls S p).isNone:=by
 unfold eX
 rcases Hj p.kind p.ins (bw S p) with hlk | ⟨x,hlk⟩
 rotate_left
 ·rw [BJ (by rw [hlk];intro z;cases z),G7 hlk]
  rfl
 cases he:vB S p with
 | true=>rw [Gp he,Ig hlk he];rfl
 | false=>
  have hdd:jl S p=some ⟨(places p.kind (bw S p)).map (strAt p.ins),Vh S p,fV p.kind (Bu S p) (S.k p.name)⟩:=by unfold jl;rw [if_neg (by simp [hlk]),if_neg (by simp [he])];rfl
  rw [hdd,Hg hlk he]
  unfold yI
  dsimp only
  cases (Vh S p).find? (uJ ls S) <;> simp
theorem Yv {ls:List aG} {ps:List PD} {S:FS} (F:zY ls ps) {w:Str×Str×Str} (h:w∈jJ ls S ps∨w=(("" :Str),("" :Str),("" :Str))):Gd 1 (XF w):=by
 have t1:PyData.strOk ("value" :Str)=true:=by decide +kernel
 have t2:PyData.strOk ("end" :Str)=true:=by decide +kernel
 have t3:PyData.strOk ("room" :Str)=true:=by decide +kernel
 have t4:PyData.strOk ("" :Str)=true:=by decide +kernel
 have key:PyData.strOk w.1=true/\PyData.strOk w.2.1=true/\PyData.strOk w.2.2=true:=by
  rcases h with h | rfl
  ·obtain⟨p,hp,h1,h2⟩:=NQ h
   have ln:∀x∈ls.map (·.name),PyData.strOk x=true:=fun x hx=>by
    obtain⟨l,hl,rfl⟩:=List.mem_map.mp hx
    exact Hq (F.lnm l hl)
   refine⟨by rw [h2];exact Hq (F.pnm p hp),?_⟩
   rcases G4 F hp (x:=w.2.1) (y:=w.2.2) h1 with h | h | h
   ·exact⟨ln _ h.2,by rw [h.1];exact t1⟩
   ·exact⟨by rw [h.1];exact t4,by rw [h.2];exact t2⟩
   ·exact⟨ln _ h.2,by rw [h.1];exact t3⟩
  ·exact⟨t4,t4,t4⟩
 unfold XF
 refine .tuple fun d hd=>?_
 simp only [List.mem_cons,List.not_mem_nil,or_false] at hd
 rcases hd with rfl | rfl | rfl
 ·exact .str 0 key.1
 ·exact .str 0 key.2.1
 ·exact .str 0 key.2.2
theorem TX {ls:List aG} {ps:List PD} {S:FS} (F:zY ls ps) {f:Str->Option (Option Str)} {names:List Str} {ws:List (Str×Str×Str)} (h:Ah f names (jJ ls S ps) ws):Gd 2 (.list (ws.map XF)):=.list fun d hd=>by
 obtain⟨w,hw,rfl⟩:=List.mem_map.mp hd
 refine Yv (S:=S) F ?_
 rcases h with ⟨rfl,_⟩ | ⟨_,_,_,r,_,_,_,_,rfl⟩
 ·cases hw
 ·obtain⟨x,_,rfl⟩:=List.mem_map.mp hw
  unfold Ms
  cases e:(jJ ls S ps).find? fun w=>decide (w.1=x) with
  | none=>exact .inr rfl
  | some w=>exact .inl (List.mem_of_find?_eq_some e)
theorem JR {b:Nat} {ls:List aG} {ps:List PD} {S:FS} (F:zY ls ps) (O:Et b ls ps S):∀qs:List PD,(∀q∈qs,q∈ps)->(!(qs.any fun p=>(eX ls S p).isSome))=decide ((jJ ls S qs).length=qs.length)
 | [],_=>rfl
 | q:: r,h=>by
  have ih:=JR F O r fun p hp=>h p (List.mem_cons_of_mem _ hp)
  have hn:=Ov F O (h q List.mem_cons_self)
  have hl:=HN ls S r
  rw [List.any_cons,hn]
  have e:jJ ls S (q:: r)=((jA ls S q).map fun w=>(q.name,w.1,w.2)).toList ++ jJ ls S r:=by
   unfold jJ
   rw [List.filterMap_cons]
   cases jA ls S q <;> rfl
  rw [e]
  cases jA ls S q with
  | none=>
   show _=decide ((jJ ls S r).length=r.length+1)
   rw [decide_eq_false (by omega)]
   rfl
  | some w=>
   show(!(false || _))=decide ((jJ ls S r).length+1=r.length+1)
   rw [Bool.false_or,ih]
   simp
inductive qm (K:PySem.W.Frag) (t:jy) (vs:List V) (H:Hp) (Q:VK) (E:XK):Prop where
 | mk:∀(b:Nat) (r:Addr) (n:Nat) (A:mZ) (ls:List aG) (ps:List PD) (S:FS) (P:Addr) (xs:List V),vs=[.ref r,.ref A.n,.ref P]->oH t H r A.n A.f n->gA K t H A.n ls ps->dU K t H A ls ps S->Et b ls ps S->H P=some (.lst xs)->iY (qT H) xs ps->(∀H',aM H H'->Q (.bl true) H')->qm K t vs H Q E
theorem wy (T:Txt w K mg t):FO P w K mg base 9 t.yO ["_law_run", "_law_net_one", "_law_parts"] (qm K t):=by
 have sc:=T.mX.sc ["_law_run", "_law_net_one", "_law_parts", "_law_some", "_law_wait", "_law_found"]
 refine T.mX.F.ok sc ln (fun _ _ _ _ H vs Q E hr h=>?_)
 obtain⟨b,r,n,A,ls,ps,S,P,xs,rfl,hR,N,W,O,eP,aP,k⟩:=h
 refine⟨_,(aq (sN sc 3 (dw (z9 T) T.rG hr (aa (pv 0) ak aj)))
  (aq (dG PassesOwn.never rfl (bM (pv 3)) (gN sc 4)
   (aA (bN (aV DG (dw (An T) T.rm hr (aa (pv 1) (aa (pv 4) ak aj) aj)) (dw (wC T) T.mV hr (aa (pv 2) (aa (pv 4) ak aj) aj)) (bI _))
    (aA (aN jF))
    bj)))
  (aq (sN sc 5 (dw (qG T) T.jo hr (aa (pv 0) ak aj)))
  (aq (bN (PW.pt (sy (jf (gZ (bu qU (by rfl) T.iZ gW (aa (pv 5) (aa (vf (by rfl) T.um pX) ak aj) aj)))) (lU (aV (Mq hr.units) (pv 5) (dw (zZ T) T.rT hr (aa (pv 2) (aa (pv 3) ak aj) aj)) (bI _)))))
   (aA (aN jF))
   bj)
  (aq (bC (Hy PySem.F.plainAttrs_list PySem.F.slot_list_clear PySem.F.type_list_clear Sg (pv 5)))
  (aq (sN sc 5 (dw (KH T) T.zq hr (aa (pv 0) ak aj)))
  (aq (bN (PW.pt (sy (jf (gZ (bu qU (by rfl) T.iZ gW (aa (pv 5) (aa (vf (by rfl) T.QX Nf) ak aj) aj)))) (lU (aV (Mq hr.units) (pv 5) (rY fL (bu bR (by rfl) T.fB du (aa (pv 3) ak aj)) (bu bR (by rfl) T.fB du (aa (pv 2) ak aj)) (bI _)) (bI _)))))
   (aA (aN jF))
   bj)
  (aA (aN (rY (Wg hr.units) (dw (qG T) T.jo hr (aa (pv 0) ak aj)) (dw (zZ T) T.rT hr (aa (pv 2) (aa (pv 3) ak aj) aj)) (bI _))))))))))),?_⟩
 have hz:sizeLine=16777216:=sizeLine_eq
 have F:zY ls ps:=by obtain⟨_,_,_,_,_,_,_,_,_,Wn⟩:=N;exact Wn.fit
 have p16:=F.p16
 have xl:=aP.length
 have wok:=fun w (h:w∈jJ ls S ps)=>Nz F h
 have wsub:=Jf ls S ps
 have wnd:=F.pnd.sublist wsub
 have wlen:=HN ls S ps
 have win:∀w∈jJ ls S ps,w.1∈ps.map (·.name):=fun w hw=>wsub.subset (List.mem_map.mpr ⟨w,hw,rfl⟩)
 refine⟨_,rfl,b,r,n,A,ls,ps,S,rfl,hR,N,W,O,fun H1 Lw us s1 nLw eLw tU fU=>?_⟩
 have ul:us.length=(jJ ls S ps).length:=by have:us.length=_:=Paired.length tU;rwa [lM] at this
 refine⟨_,rfl,Lw,rfl,⟨_,bF.of eLw⟩,cX (K:=K) (a:=Lw) (xs:=us.map V.ref) (fun j σ H'=>aM H1 H'/\∃v4,σ=[some (.ref r),some (.ref A.n),some (.ref P),some (.ref Lw),v4,none]) ⟨aM.refl _,none,rfl⟩ (fun j σ H' _ h=>h.1.seq (bF.of eLw)) ?_ ?_⟩
 ·rintro j x σ H2 hx ⟨s2,v4,rfl⟩
  rw [List.getElem?_map] at hx
  obtain⟨u,hu,rfl⟩:=Option.map_eq_some_iff.mp hx
  obtain⟨vs2,z1,z2⟩:=oN tU hu
  rw [List.getElem?_map] at z1
  obtain⟨w,ew,rfl⟩:=Option.map_eq_some_iff.mp z1
  have eu:=s2 _ _ z2
  have s12:=s1.trans s2
  refine⟨_,rfl,_,rfl,A.n,u,ls,ps,w,rfl,N.same s12,eu,wok w (List.mem_of_getElem? ew),fun H3 s3=>?_⟩
  have s13:=s12.trans s3
  refine⟨_,rfl,_,rfl,P,u,xs,ls,ps,w,rfl,s13 _ _ eP,aP.imp (fun _ _ h=>h.same s13),F,s3 _ _ eu,?_⟩
  refine⟨by cases sY ps w <;> rfl,_,rfl,?_⟩
  rw [decide_eq_true rfl]
  exact bU ⟨s2.trans s3,_,rfl⟩
 rintro σ H2 ⟨s2,v4,rfl⟩
 have s12:=s1.trans s2
 refine⟨_,rfl,b,r,n,A,ls,ps,S,rfl,hR.same s12,N.same s12,W.same s12,O,fun H3 L3 us3 ws3 s3 nL3 eL3 tU3 hO3=>?_⟩
 have s13:=s12.trans s3
 have g3:=TX F hO3
 refine⟨_,rfl,_,_,_,_,rfl,.inl ⟨rfl,_,bF.of eL3⟩,by decide,rfl,_,rfl,bU ?_⟩
 refine⟨_,rfl,_,rfl,_,rfl,P,Lw,xs,ls,ps,us,jJ ls S ps,rfl,s13 _ _ eP,aP.imp (fun _ _ h=>h.same s13),F,s3 _ _ (s2 _ _ eLw),cM.same (s2.trans s3) tU,wnd,by omega,win,fun H4 L4 us4 ws4 s4 eL4 tU4 hO4=>?_⟩
 obtain rfl:=hO3.one hO4
 refine⟨_,_,HR (bF.of (s4 _ _ eL3)) (cM.same s4 tU3),HR (bF.of eL4) tU4,g3.shaped (by decide),g3.shaped (by decide),_,rfl,?_⟩
 rw [g3.eq]
 refine bU ?_
 have eL34:=s4 _ _ eL3
 refine⟨_,rfl,.inl ⟨rfl,_,bF.of eL34⟩,L3,_,rfl,rfl,eL34,?_⟩
 have s5:aM H2 (upd H4 L3 (.lst [])):=fun b o e=>by rw [aK (aD e nL3)];exact s4 _ _ (s3 _ _ e)
 generalize upd H4 L3 (.lst [])=H5 at s5 ⊢
 have s15:=s12.trans s5
 refine⟨_,rfl,b,r,n,A,ls,ps,S,rfl,hR.same s15,N.same s15,W.same s15,O,fun H6 s6=>?_⟩
 have s16:=s15.trans s6
 have s26:=s5.trans s6
 have eLw6:=s26 _ _ (s2 _ _ eLw)
 refine⟨_,rfl,_,_,_,_,rfl,rfl,by decide,rfl,_,rfl,bU ?_⟩
 refine⟨_,rfl,_,rfl,_,(us.map V.ref).length,rfl,.inl ⟨_,bF.of eLw6,rfl⟩,_,rfl,_,xs.length,rfl,.inl ⟨_,bF.of (s16 _ _ eP),rfl⟩,rfl,_,_,.bl _,.bl _,by simp [SeqAt.shaped,PyData.canLay0,PyData.depth],by simp [SeqAt.shaped,PyData.canLay0,PyData.depth],_,rfl,?_⟩
 have eb:decide (V.int (((us.map V.ref).length:Nat):Int)=V.int ((xs.length:Nat):Int))=!(ps.any fun p=>(eX ls S p).isSome):=by
  rw [JR F O ps (fun q h=>h),lM,ul,xl]
  by_cases h:(jJ ls S ps).length=ps.length
  ·rw [decide_eq_true h,decide_eq_true (by rw [h])]
  ·rw [decide_eq_false h,decide_eq_false (fun z=>h (by injection z with z;omega))]
 rw [eb,show PyData.eqv (.bool (!(ps.any fun p=>(eX ls S p).isSome))) (.bool (!(ps.any fun p=>(eX ls S p).isSome)))=true by simp [PyData.eqv]]
 refine bU ?_
 refine⟨_,rfl,b,r,n,A,ls,ps,S,rfl,hR.same s16,N.same s16,W.same s16,O,fun H7 L7 us7 ws7 s7 nL7 eL7 tU7 hO7=>?_⟩
 have s17:=s16.trans s7
 obtain rfl:=hO3.one hO7
 refine⟨_,rfl,_,rfl,P,Lw,xs,ls,ps,us,jJ ls S ps,rfl,s17 _ _ eP,aP.imp (fun _ _ h=>h.same s17),F,s7 _ _ eLw6,cM.same (s2.trans (s26.trans s7)) tU,wnd,by omega,win,fun H8 L8 us8 ws8 s8 eL8 tU8 hO8=>?_⟩
 obtain rfl:=hO3.one hO8
 refine⟨_,_,HR (bF.of (s8 _ _ eL7)) (cM.same s8 tU7),HR (bF.of eL8) tU8,g3.shaped (by decide),g3.shaped (by decide),?_⟩
 rw [g3.eq]
 exact k _ (s17.trans s8)
theorem jd {E:List Addr} {H H':Hp} (s:aM H H'):aM (bG E H) (bG E H'):=fun b o e=>by
 have hb:b∉E:=fun z=>by unfold bG at e;rw [if_pos z] at e;cases e
 exact fC (s _ _ (cg _ _ e)) hb
theorem wY.same {H H':Hp} {r:Addr} {n:Nat} {A:mZ} {ls:List aG} {ps:List PD} {S:FS} (h:wY K t H r n A ls ps S) (s:aM H H'):wY K t H' r n A ls ps S:=⟨h.run.same s,h.net.same (jd s),h.flow.same s,h.ne⟩
theorem wY.out {H:Hp} {r:Addr} {n:Nat} {A:mZ} {ls:List aG} {ps:List PD} {S:FS} (h:wY K t H r n A ls ps S) {a:Addr} (ha:H a=none):a∉r:: A.cells ls ps:=fun z=>by
 rcases List.mem_cons.mp z with rfl | z
 ·obtain⟨_,_,h1,_⟩:=h.run
  rw [ha] at h1
  cases h1.1
 ·exact h.flow.cell ha z
theorem Qh {H:Hp} {Q:VK} {Ex:XK} {H0:Hp} {r dx n rw:Addr} {ls:List aG} {ps:List PD} {RW:List (Str×Addr×List Int)} (hr:H r=some (.ins t.oV dx [])) (s0:aM H0 H) (nr:H0 r=none) (N:gA K t H0 n ls ps) (hrw:nZ H0 rw RW) (hO:Kw ps RW)
  (k:∀(H':Hp) (A:mZ),A.n=n->aM H0 H'->wY K t H' r 0 A ls ps (mq ls ps RW)->(∀a∈A.cells ls ps,H0 a=none)->Q .non H'):gP K t [.ref r,.ref n,.ref rw] H Q Ex:=by
 unfold gP
 exact⟨H0,r,dx,n,rw,ls,ps,RW,rfl,hr,s0,nr,N,hrw,hO,k⟩
theorem TQ {H:Hp} {Q:VK} {Ex:XK} {b n:Nat} {r L:Addr} {A:mZ} {ls:List aG} {ps:List PD} {S:FS} {xs:List Str} (R:wY K t H r n A ls ps S) (O:Et b ls ps S) (hb:b<=90000) (hn:n<=900) (hL:bF K H L (xs.map V.str)) (nL:L∉A.cells ls ps) (hx:∀x∈xs,V.str x∈dW ps "give" ++ dW ps "take")
  (k:∀H' p,aM (bG (r:: A.cells ls ps) H) (bG (r:: A.cells ls ps) H')->wY K t H' r (n+1) A ls ps (wD ls ps S xs)->H p=none->H' p=some (.lst ((xO ls ps S xs).map fun w=>V.str w.1.name))->Q (.ref p) H'):lA K t [.ref r,.ref L] H Q Ex:=by
 unfold lA
 exact⟨b,r,n,A,ls,ps,S,L,xs,rfl,R,O,hb,hn,hL,nL,hx,k⟩
inductive Dv (K:PySem.W.Frag) (vs:List V) (H:Hp) (Q:VK) (E:XK):Prop where
 | mk:∀(a:Addr) (ns:List Int),vs=[.ref a]->bF K H a (ns.map V.int)->ns.length<=63->(∀H',Q (.bl true) H')->Dv K vs H Q E
noncomputable abbrev Vl:List Str:=["_law_script", "_law_lanes", "_law_parts", "_law_net_one", "_law_run", "_law_more", "_law_cell_here"]
theorem Xg (T:Txt w K mg t):FO P w K mg base 10 t.VF ["_law_script"] (Dv K):=by
 have sc:=T.NK.sc Vl
 refine T.NK.F.ok sc ln (fun _ _ _ _ H vs Q E hr h=>?_)
 obtain⟨a,ns,rfl,hS,hl,k⟩:=h
 refine⟨_,(aq (W3 (dw (Kf T) T.wZ hr (aa (pv 0) (aa az (aa az (aa jF ak ao) ao) ao) aj)) (CT rfl (gQ (gN sc 1) (gQ (gN sc 2) vh))))
  (aq (sN sc 3 (ik (T.aQ.M T.jR) (Bl T) (hr.mono (by decide)) (by rfl) T.aQ.m T.jR.b .nil ig (aa (pv 1) (aa (pv 2) ak aj) aj)))
  (aq (sN sc 4 (ik (T.bW.M T.jQ) (Bg T) (hr.mono (by decide)) (by rfl) T.bW.m T.jQ.b .nil ig (aa (pv 3) (aa (dw (IV T) T.uc hr (aa (pv 0) (aa (pv 2) (aa az ak ao) aj) aj)) ak aZ) aj)))
  (aq (bN (jf (gZ (dw (wy T) T.mX hr (aa (pv 4) (aa (pv 3) (aa (pv 2) ak aj) aj) aj))))
   (aA (aN jF))
   bj)
  (aq (jP (i:=5) [0] Vl (aR (top 90)) rfl sc.nd rfl (jc rfl T.j9 (aa (bx cj (dw (aY T) T.bf hr (aa (dw (iV T) T.gB hr (aa (pv 0) (aa az ak ao) aj)) (aa az ak ao) aZ)) az) ak bL)) (fun _ _ _ _ _=>gm) (fun _ _ _ _ _=>(dw (aY T) T.bf hr (aa (dw (iV T) T.gB hr (aa (pv 1) (aa az ak ao) aj)) (aa (bx dD az (pv 0)) ak bL) aZ))))
  (aq (dG PassesOwn.never rfl (bM (bx Ik (jK rU (pv 0) (jT az) (jT az)) (pv 5))) (gN sc 6)
   (aq (bC (NP (pv 4) T.bW.c (T.xf.me T.bW.me.2.2.2.2.1) (JF T) (hr.mono (by decide)) T.xf.b .nil ig (aa (dw (Jg T) T.uo hr (aa (pv 2) (aa (pv 6) ak aj) aj)) ak aZ)))
   (aA (bN (jf (gZ (dw (wy T) T.mX hr (aa (pv 4) (aa (pv 3) (aa (pv 2) ak aj) aj) aj))))
    (aA (aN jF))
    bj))))
  (aA (aN jF)))))))),?_⟩
 have hz:sizeLine=16777216:=sizeLine_eq
 refine⟨_,rfl,a,ns,1,4,true,rfl,hS,by decide,fun T' L P ls ps H2 s2 nL nP nLP eT A D=>?_⟩
 refine⟨T',_,rfl,eN.of eT,rfl,_,_,rfl,_,_,rfl,rfl,?_⟩
 have F:=D.fit
 clear eT nL nP nLP D
 have p16:=F.p16
 refine⟨_,rfl,_,rfl,fun n dxn nn ndn nen=>?_⟩
 have gn:aM H2 (upd (upd H2 dxn (.own n)) n (.ins t.dF dxn [])):=fun b o e=>by rw [aK (aD e nn),aK (aD e ndn)];exact e
 have en:upd (upd H2 dxn (.own n)) n (.ins t.dF dxn []) n=some (.ins t.dF dxn []):=au
 generalize upd (upd H2 dxn (.own n)) n (.ins t.dF dxn [])=Hn at gn en ⊢
 have hH:Hand K Hn L P ls ps:=by
  obtain⟨⟨x1,x2,x3⟩,⟨y1,y2,y3⟩⟩:=A.same gn
  refine⟨⟨x1,bF.of x2,x3.imp fun _ _ h=>?_⟩,⟨y1,bF.of y2,y3.imp fun _ _ h=>?_⟩⟩
  ·obtain⟨q,f,e,h1,h2⟩:=h
   exact⟨q,f,e,h1,.inl (bF.of h2)⟩
  ·obtain⟨q,a1,a2,a3,e,h1,h2,h3,h4⟩:=h
   exact⟨q,a1,a2,a3,e,h1,.inl (bF.of h2),.inl (bF.of h3),.inl (bF.of h4)⟩
 refine⟨n,dxn,L,P,ls,ps,rfl,en,hH,F,fun H4 b4 N4=>⟨rfl,?_⟩⟩
 have s24:aM H2 H4:=fun b o e=>b4 b o (aD e nn) (gn b o e)
 have A4:=A.same s24
 have hS4:=(s2.trans s24).seq hS
 clear hH gn en b4 s24 s2 hS A nn ndn nen
 have hk:∀p∈ps,p.kind <11:=fun p hp=>(F.pok p hp).1
 obtain⟨_,⟨ys,eP,aP⟩⟩:=id A4
 refine⟨_,rfl,_,rfl,_,rfl,a,P,ns,ys,ps,7,rfl,hS4,eP,aP,p16,fun H5 d RW s5 nd hR lR hne=>?_⟩
 refine fun r dxr nr ndr ner=>?_
 have gr:aM H5 (upd (upd H5 dxr (.own r)) r (.ins t.oV dxr [])):=fun b o e=>by rw [aK (aD e nr),aK (aD e ndr)];exact e
 refine Qh au gr nr (N4.same s5) hR.at' ⟨hR.door,hR.bnd⟩ fun H6 Z eZ s6 R6 fr6=>⟨rfl,?_⟩
 subst eZ
 have eA:∀a∈r:: Z.cells ls ps,H5 a=none:=fun a ha=>by
  rcases List.mem_cons.mp ha with rfl | h
  ·exact nr
  ·exact fr6 a h
 have s46:aM H4 (bG (r:: Z.cells ls ps) H6):=fun b o e=>fC (s6 _ _ (s5 _ _ e)) fun z=>by
  have e':=s5 _ _ e;rw [eA b z] at e';cases e'
 have O6:=Ph F hR.at'.len hR.bnd
 generalize mq ls ps RW=S0 at R6 O6
 clear hR lR hne gr nd s6 s5 eA fr6 N4
 have hS6:=s46.seq hS4
 have A6:=A4.same s46
 have rt:∀{j:Nat} {H':Hp} {S:FS} {b:Nat},wY K t H' r j Z ls ps S->Et b ls ps S->JC H' L P ls ps->∀{Q':VK} {Ex:XK},(∀H'',aM H' H''->Q' (.bl true) H'')->qm K t [.ref r,.ref Z.n,.ref P] H' Q' Ex:=fun {j H' S b} R O A Q' Ex q=>by
  obtain⟨_,⟨ys,eP,aP⟩⟩:=A
  exact⟨b,r,j,Z,ls,ps,S,P,ys,rfl,R.run,R.netH,R.flow,O,eP,aP,q⟩
 refine⟨_,rfl,_,rfl,_,rfl,rt R6 O6 (A6.same cg) fun H7 t7=>⟨_,rfl,bU ?_⟩⟩
 have R7:=R6.same t7
 have hS7:=(jd (E:=r:: Z.cells ls ps) t7).seq hS6
 have A7:=A6.same (jd (E:=r:: Z.cells ls ps) t7)
 clear hS4 eP aP A4 s46 R6 hS6 A6 t7
 have m0:=Int.emod_nonneg (b7 (jM ns 0) 3) (show(10:Int)≠0 by decide)
 have m1:=Int.emod_lt_of_pos (b7 (jM ns 0) 3) (show(0:Int) <10 by decide)
 refine⟨_,rfl,a,ns,0,rfl,cg.seq hS7,_,_,rfl,_,_,rfl,rfl,by show(0:Int) <10;decide,_,rfl,by omega,by omega,?_⟩
 refine jx (fun i ys H'=>H'=H7/\∃ms:List Int,ys=ms.map V.int/\ms.length=i) (by omega) ⟨rfl,[],rfl,rfl⟩ (fun i ys H' h=>by obtain⟨_,ms,rfl,l⟩:=h;rw [lM];omega) ?_ ?_
 ·rintro i ys H' hi ⟨rfl,ms,rfl,lm⟩
  refine yes ⟨_,rfl,a,ns,0,rfl,cg.seq hS7,_,rfl,_,_,rfl,rfl,_,_,rfl,rfl,ms ++ [_],by rw [List.map_append];rfl,by rw [lP,lm];rfl⟩
 rintro ys H' ⟨rfl,ms,rfl,lm⟩ Lm nLm
 have lm9:ms.length<=9:=by omega
 have t8:=aB (o:=.lst (ms.map V.int)) nLm
 have R8:=R7.same t8
 have eLm:upd H' Lm (.lst (ms.map V.int)) Lm=some (.lst (ms.map V.int)):=au
 have hS8:=(jd (E:=r:: Z.cells ls ps) t8).seq hS7
 have A8:=A7.same (jd (E:=r:: Z.cells ls ps) t8)
 generalize upd H' Lm (.lst (ms.map V.int))=H8 at R8 eLm hS8 A8 ⊢
 clear t8 hS7 A7 R7 lm nLm m0 m1
 refine⟨_,rfl,_,rfl,_,rfl,a,_,rfl,cg.seq hS8,fun Lc nLc=>?_⟩
 obtain⟨cs,ecs,lcs⟩:∃cs:List Int,xX (ns.map V.int) (some 7) (some 41)=cs.map V.int/\cs.length<=34:=by
  refine⟨(ns.drop (min 7 ns.length)).take (min 41 ns.length - min 7 ns.length),(Kc (ns.map V.int) 7 41).trans ?_,?_⟩
  ·rw [List.map_take,List.map_drop,lM]
  ·rw [List.length_take];omega
 rw [ecs]
 have t9:=aB (o:=.lst (cs.map V.int)) nLc
 refine⟨_,rfl,Lc,Lm,_,_,rfl,rfl,au,t9 _ _ eLm,by rw [lM,lM];omega,fun Ls nLs=>⟨Ls,rfl,⟨_,bF.of au⟩,?_⟩⟩
 rw [<-List.map_append]
 have ll:(cs ++ ms).length<=43:=by rw [lP];omega
 generalize cs ++ ms=cm at ll ⊢
 have R9:=R8.same t9
 have A9:=A8.same (jd (E:=r:: Z.cells ls ps) t9)
 generalize upd H8 Lc (.lst (cs.map V.int))=H9 at R9 A9 nLs ⊢
 have t10:=aB (o:=.lst (cm.map V.int)) nLs
 have R10:=R9.same t10
 have eLs:bG (r:: Z.cells ls ps) (upd H9 Ls (.lst (cm.map V.int))) Ls=some (.lst (cm.map V.int)):=fC au (R9.out nLs)
 have A10:=A9.same (jd (E:=r:: Z.cells ls ps) t10)
 generalize upd H9 Ls (.lst (cm.map V.int))=H10 at R10 eLs A10 ⊢
 clear hS8 A8 R8 t9 ecs lcs nLc R9 A9 t10 eLm nLs
 obtain⟨C,hC⟩:∃C,C=bG (r:: Z.cells ls ps) H10:=⟨_,rfl⟩
 rw [<-hC] at eLs A10
 refine cX (K:=K) (a:=Ls) (xs:=cm.map V.int) (fun j σ H'=>∃S,(∃v6,σ=[some (.ref a),some (.ref L),some (.ref P),some (.ref Z.n),some (.ref r),some (.ref Lm),v6])/\wY K t H' r j Z ls ps S/\aM C (bG (r:: Z.cells ls ps) H')/\Et (199+32 * j) ls ps S) ⟨S0,⟨none,rfl⟩,R10,by rw [hC];exact aM.refl _,O6⟩ (fun j σ H' _ ⟨_,_,_,sC,_⟩=>bF.of (cg _ _ (sC _ _ eLs))) ?_ ?_
 ·rintro j x σ H11 hx ⟨S,⟨v6,rfl⟩,R11,sC,O⟩
  rw [List.getElem?_map] at hx
  obtain⟨c,hc,rfl⟩:=Option.map_eq_some_iff.mp hx
  have hj:=(List.getElem?_eq_some_iff.mp hc).1
  obtain⟨_,⟨ys,eP,aP⟩⟩:=id ((A10.same sC).same cg)
  obtain⟨dxr,fsr,R1⟩:=id R11.run
  refine⟨_,rfl,r,dxr,fsr,rfl,R1.1.1,R1.2.no _ (by decide +kernel),_,rfl,_,rfl,P,ys,ps,c,rfl,eP,aP,hk,p16,fun H12 Lh zs s12 nLh eLh hzs=>?_⟩
  refine TQ (R11.same s12) O (by omega) (by omega) (bF.of eLh) (fun z=>R11.out nLh (.tail _ z)) hzs fun H13 p13 c13 R13 np13 ep13=>?_
  have sC13:=(sC.trans (jd s12)).trans c13
  have O13:Et (199+32 * (j+1)) ls ps (wD ls ps S zs):=by rw [show 199+32 * (j+1)=199+32 * j+32 by omega];exact Uk F O zs
  refine⟨_,rfl,_,rfl,_,rfl,rt R13 O13 ((A10.same sC13).same cg) fun H14 t14=>⟨_,rfl,bU ?_⟩⟩
  exact⟨_,⟨_,rfl⟩,R13.same t14,sC13.trans (jd t14),O13⟩
 rintro σ H11 ⟨S,⟨v6,rfl⟩,R11,sC,O⟩
 exact k _
end
theorem fin {l:PySem.W.OpenLaw} {w:World} {K:PySem.W.Frag} {mg:Str->Option Value} {fa r0 r1 r2 r3 r4 r5 r6 r7 r8 r9 r10 r11 r12 r13 r14 r15 r16 r17 r18 r19 r20 r21 r22 r23 r24 r25 r26 r27 r28 r29 r30 r31 r32 r33 r34 r35 r36 r37 r38 r39 r40 r41 r42 r43 r44 r45 r46 r47 r48 r49 r50 r51 r52 r53 r54 r55 r56 r57 r58 r59 r60 r61 r62 r63 r64 r65 r66 r67 r68 r69 r70 r71 r72 r73 r74 r75 r76 r77 r78 r79 r80 r81 r82 r83 r84 r85 r86 r87 r88 r89 r90 r91 r92 r93 r94 r95 r96 r97 r98 r99 r100 r101 r102 r103 r104 r105 r106 r107 r108 r109 r110 r111 r112:Addr} (hfa:mg "law" =some (.ref fa)) (T:Txt w K mg ⟨r0,r1,r2,r3,r4,r5,r6,r7,r8,r9,r10,r11,r12,r13,r14,r15,r16,r17,r18,r19,r20,r21,r22,r23,r24,r25,r26,r27,r28,r29,r30,r31,r32,r33,r34,r35,r36,r37,r38,r39,r40,r41,r42,r43,r44,r45,r46,r47,r48,r49,r50,r51,r52,r53,r54,r55,r56,r57,r58,r59,r60,r61,r62,r63,r64,r65,r66,r67,r68,r69,r70,r71,r72,r73,r74,r75,r76,r77,r78,r79,r80,r81,r82,r83,r84,r85,r86,r87,r88,r89,r90,r91,r92,r93,r94,r95,r96,r97,r98,r99,r100,r101,r102,r103,r104,r105,r106,r107,r108,r109,r110,r111,r112⟩):∃fd:FuncData,(∀(s:Shared) (v:Value),BindsTo s fd ⟨[v],[]⟩ [("_law_script",v)])/\∀base:Heap,K.In base->base.Ns mainGlobals mg->iy l.prog w K mg base Ce 10 fa fd ["_law_script"] (Dv K):=by
 have e:=hfa.symm.trans T.NK.m
 cases e
 exact⟨_,Wl T.NK.F fun _ _ _ _ _ _ _=>rfl,fun base _ _=>Xg T⟩
theorem walk {l:PySem.W.OpenLaw} {q:Program} {loose:List Str} {XP:(Str->Option Value)->Heap->Prop} {YP:World->Heap->Prop} {d:DefRec} {K:Params->PySem.W.Frag} (hn:l.most=some 63) (hdf:d.params.defaults=[])
  (hY:∀(w:World) (h:Heap),YP w h->(K w.params).In h)
  (F:∀(w:World) (mg:Str->Option Value) (fa:Addr) (h:Heap),(K w.params).In h->h.Ns mainGlobals mg->mg d.name=some (.ref fa)->
   ∃fd:FuncData,(∀(s:Shared) (u:Value),BindsTo s fd ⟨[u],[]⟩ [("_law_script",u)])/\∀base:Heap,(K w.params).In base->base.Ns mainGlobals mg->iy l.prog w (K w.params) mg base Ce 10 fa fd ["_law_script"] (Dv (K w.params))):
  PySem.W.WalkO q loose XP YP l.row.toRowW d [] (fun f vs=>PySem.call f vs):=
 L2.Tf (n:=63) (k:=10) (x:= "_law_script") (CX:=fun _=>Ce) (sp:=fun w=>Dv (K w.params)) hn (by decide) hdf ⟨rfl,by decide,by decide⟩ hY F (fun _ _ a ns hl _ hS=>⟨a,ns,rfl,hS,hl,fun _=>rfl⟩) fun _ _ _ _ _ z=>z
end K52
open PySem PySem.W PyProof.Rows L2
set_option maxRecDepth 100000 in
set_option maxHeartbeats 0 in
theorem PySem.Challenge.cw_holdlane_k52_rings_of_waits_holds : PySem.Challenge.rw_holdlane_k52_rings_of_waits.Holds := by
 w_on;o_law
 refine HD.head (by rfl) (by rfl) (by rfl) (by rfl) (by first | assumption | decide +kernel) (by decide +kernel) ⟨rfl,rfl,rfl,rfl,rfl,by decide +kernel⟩ rfl (fun _=>rfl) ?_ ?_
 ·w_witness2
 k_fill
 refine K52.walk (l:=PySem.Challenge.rw_holdlane_k52_rings_of_waits) rfl rfl (fun w h Y=>PySem.W.kIn_of Y) ?F
 case F=>
  intro w mg fa h KX G hmg
  refine' K52.fin hmg ⟨?q0,?q1,?q2,?q3,?q4,?q5,?q6,?q7,?q8,?q9,?q10,?q11,?q12,?q13,?q14,?q15,?q16,?q17,?q18,?q19,?q20,?q21,?q22,?q23,?q24,?q25,?q26,?q27,?q28,?q29,?q30,?q31,?q32,?q33,?q34,?q35,?q36,?q37,?q38,?q39,?q40,?q41,?q42,?q43,?q44,?q45,?q46,?q47,?q48,?q49,?q50,?q51,?q52,?q53,?q54,?q55,?q56,?q57,?q58,?q59,?q60,?q61,?q62,?q63,?q64,?q65,?q66,?q67,?q68,?q69,?q70,?q71,?q72,?q73,?q74,?q75,?q76,?q77,?q78,?q79,?q80,?q81,?q82,?q83,?q84,?q85,?q86,?q87,?q88,?q89,?q90,?q91,?q92,?q93,?q94,?q95,?q96,?q97,?q98,?q99,?q100,?q101,?q102,?q103,?q104,?q105,?q106,?q107,?q108,?q109,?q110,?q111,?q112,?q113,?q114,?q115,?q116,?q117,?q118,?q119,?q120,?q121,?q122,?q123,?q124,?q125,?q126,?q127,?q128,?q129,?q130,?q131,?q132,?q133,?q134⟩
  all_goals try dsimp only
  (case q0 | q1 | q2 | q3 | q4 | q5 | q6 | q7 | q8 | q9 | q10=>refine' ⟨mg_of KX G ?_,⟨?_,?_,?_,?_⟩,?_,?_,⟨?_,?_,?_,?_,?_,?_,trivial⟩,⟨?_,?_,?_,?_,trivial⟩⟩ <;> (try dsimp only) <;> k_is)
  (case q11=>refine' ⟨mg_of KX G ?_,⟨?_,?_,?_,?_⟩,?_,?_,⟨?_,?_,?_,?_,?_,?_,?_,?_,?_,?_,?_,?_,trivial⟩,⟨?_,?_,?_,?_,?_,trivial⟩⟩ <;> (try dsimp only) <;> k_is)
  (case q12=>refine' ⟨mg_of KX G ?_,⟨?_,?_,?_,?_⟩,?_,?_,⟨?_,?_,?_,?_,?_,?_,?_,?_,trivial⟩,⟨?_,?_,?_,?_,?_,?_,trivial⟩⟩ <;> (try dsimp only) <;> k_is)
  (case q13=>refine' ⟨mg_of KX G ?_,⟨?_,?_,?_,?_⟩,?_,?_,⟨?_,?_,?_,?_,?_,?_,trivial⟩,⟨?_,?_,?_,trivial⟩⟩ <;> (try dsimp only) <;> k_is)
  (case q14 | q15=>refine' .of (mg_of KX G ?_) (dX.of ?_ ?_ ?_ ?_ (fun _ _ _ _ _ _=>Bk fun _=>rfl)) <;> (try k_is);all_goals try k_is)
  (case q16=>refine' dX.of ?_ ?_ ?_ ?_ (fun _ _ _ _ _ _=>XD fun _ _ _ _ _=>rfl) <;> try k_is)
  (case q17 | q18 | q19 | q20 | q21 | q22 | q23 | q24 | q25 | q26 | q27=>refine' dX.of ?_ ?_ ?_ ?_ (fun _ _ _ _ _ _=>Bk fun _=>rfl) <;> try k_is)
  (case q28=>refine' .of (mg_of KX G ?_) (dX.of ?_ ?_ ?_ ?_ (fun _ _ _ _ _ _=>Bk fun _=>rfl)) <;> (try k_is);all_goals try k_is)
  (case q29 | q30 | q31=>refine' .of (mg_of KX G ?_) (dX.of ?_ ?_ ?_ ?_ (fun _ _ _ _ _ _=>XD fun _ _ _ _ _=>rfl)) <;> (try k_is);all_goals try k_is)
  (case q32=>refine' .of (mg_of KX G ?_) (dX.of ?_ ?_ ?_ ?_ (fun _ _ _ _ _ _=>Bk fun _=>rfl)) <;> (try k_is);all_goals try k_is)
  (case q33 | q34 | q35=>refine' dX.of ?_ ?_ ?_ ?_ (fun _ _ _ _ _ _=>wU fun _ _=>rfl) <;> try k_is)
  (case q36 | q37=>refine' dX.of ?_ ?_ ?_ ?_ (fun _ _ _ _ _ _=>Bk fun _=>rfl) <;> try k_is)
  (case q38 | q39 | q40 | q41 | q42 | q43 | q44 | q45 | q46 | q47 | q48=>refine' dX.of ?_ ?_ ?_ ?_ (fun _ _ _ _ _ _=>Dc fun _ _ _=>rfl) <;> try k_is)
  (case q49 | q50 | q51 | q52=>refine' .of (mg_of KX G ?_) (dX.of ?_ ?_ ?_ ?_ (fun _ _ _ _ _ _=>wU fun _ _=>rfl)) <;> (try k_is);all_goals try k_is)
  (case q53=>refine' .of (mg_of KX G ?_) (dX.of ?_ ?_ ?_ ?_ (fun _ _ _ _ _ _=>Dc fun _ _ _=>rfl)) <;> (try k_is);all_goals try k_is)
  (case q54=>refine' .of (mg_of KX G ?_) (dX.of ?_ ?_ ?_ ?_ (fun _ _ _ _ _ _=>wU fun _ _=>rfl)) <;> (try k_is);all_goals try k_is)
  (case q55=>refine' .of (mg_of KX G ?_) (dX.of ?_ ?_ ?_ ?_ (fun _ _ _ _ _ _=>ZP fun _ _ _ _ _ _=>rfl)) <;> (try k_is);all_goals try k_is)
  (case q56=>refine' .of (mg_of KX G ?_) (dX.of ?_ ?_ ?_ ?_ (fun _ _ _ _ _ _=>Wo fun _ _ _ _=>rfl)) <;> (try k_is);all_goals try k_is)
  (case q57 | q58 | q59=>refine' .of (mg_of KX G ?_) (dX.of ?_ ?_ ?_ ?_ (fun _ _ _ _ _ _=>Dc fun _ _ _=>rfl)) <;> (try k_is);all_goals try k_is)
  (case q60=>refine' .of (mg_of KX G ?_) (dX.of ?_ ?_ ?_ ?_ (fun _ _ _ _ _ _=>Wo fun _ _ _ _=>rfl)) <;> (try k_is);all_goals try k_is)
  (case q61=>refine' .of (mg_of KX G ?_) (dX.of ?_ ?_ ?_ ?_ (fun _ _ _ _ _ _=>Bk fun _=>rfl)) <;> (try k_is);all_goals try k_is)
  (case q62 | q63=>refine' .of (mg_of KX G ?_) (dX.of ?_ ?_ ?_ ?_ (fun _ _ _ _ _ _=>wU fun _ _=>rfl)) <;> (try k_is);all_goals try k_is)
  (case q64=>refine' .of (mg_of KX G ?_) (dX.of ?_ ?_ ?_ ?_ (fun _ _ _ _ _ _=>Dc fun _ _ _=>rfl)) <;> (try k_is);all_goals try k_is)
  (case q65=>refine' .of (mg_of KX G ?_) (dX.of ?_ ?_ ?_ ?_ (fun _ _ _ _ _ _=>wU fun _ _=>rfl)) <;> (try k_is);all_goals try k_is)
  (case q66=>refine' .of (mg_of KX G ?_) (dX.of ?_ ?_ ?_ ?_ (fun _ _ _ _ _ _=>Wo fun _ _ _ _=>rfl)) <;> (try k_is);all_goals try k_is)
  (case q67 | q68 | q69=>refine' .of (mg_of KX G ?_) (dX.of ?_ ?_ ?_ ?_ (fun _ _ _ _ _ _=>Dc fun _ _ _=>rfl)) <;> (try k_is);all_goals try k_is)
  (case q70 | q71=>refine' dX.of ?_ ?_ ?_ ?_ (fun _ _ _ _ _ _=>Bk fun _=>rfl) <;> try k_is)
  (case q72=>refine' dX.of ?_ ?_ ?_ ?_ (fun _ _ _ _ _ _=>wU fun _ _=>rfl) <;> try k_is)
  (case q73 | q74=>refine' dX.of ?_ ?_ ?_ ?_ (fun _ _ _ _ _ _=>Bk fun _=>rfl) <;> try k_is)
  (case q75 | q76 | q77 | q78 | q79 | q80=>refine' dX.of ?_ ?_ ?_ ?_ (fun _ _ _ _ _ _=>wU fun _ _=>rfl) <;> try k_is)
  (case q81=>refine' dX.of ?_ ?_ ?_ ?_ (fun _ _ _ _ _ _=>Dc fun _ _ _=>rfl) <;> try k_is)
  (case q82 | q83 | q84 | q85 | q86 | q87=>refine' dX.of ?_ ?_ ?_ ?_ (fun _ _ _ _ _ _=>wU fun _ _=>rfl) <;> try k_is)
  (case q88 | q89=>refine' dX.of ?_ ?_ ?_ ?_ (fun _ _ _ _ _ _=>Dc fun _ _ _=>rfl) <;> try k_is)
  (case q90 | q91 | q92 | q93=>refine' dX.of ?_ ?_ ?_ ?_ (fun _ _ _ _ _ _=>wU fun _ _=>rfl) <;> try k_is)
  (case q94=>refine' Xi.of ?_ ?_ ?_ ?_ ?_ (fun _ F=>F.binds fun _ _ _ _ _ _ _=>wU fun _ _=>⟨_,rfl,rfl⟩) <;> (try k_is);all_goals try k_is)
  (case q95=>refine' .of (mg_of KX G ?_) (dX.of ?_ ?_ ?_ ?_ (fun _ _ _ _ _ _=>Bk fun _=>rfl)) <;> (try k_is);all_goals try k_is)
  (case q96=>refine' .of (mg_of KX G ?_) (dX.of ?_ ?_ ?_ ?_ (fun _ _ _ _ _ _=>wU fun _ _=>rfl)) <;> (try k_is);all_goals try k_is)
  (case q97=>refine' dX.of ?_ ?_ ?_ ?_ (fun _ _ _ _ _ _=>Dc fun _ _ _=>rfl) <;> try k_is)
  (case q98=>refine' .of (mg_of KX G ?_) (dX.of ?_ ?_ ?_ ?_ (fun _ _ _ _ _ _=>wU fun _ _=>rfl)) <;> (try k_is);all_goals try k_is)
  (case q99=>refine' .of (mg_of KX G ?_) (dX.of ?_ ?_ ?_ ?_ (fun _ _ _ _ _ _=>Bk fun _=>rfl)) <;> (try k_is);all_goals try k_is)
  (case q100 | q101 | q102=>refine' .of (mg_of KX G ?_) (dX.of ?_ ?_ ?_ ?_ (fun _ _ _ _ _ _=>wU fun _ _=>rfl)) <;> (try k_is);all_goals try k_is)
  (case q103 | q104=>refine' .of (mg_of KX G ?_) (dX.of ?_ ?_ ?_ ?_ (fun _ _ _ _ _ _=>Bk fun _=>rfl)) <;> (try k_is);all_goals try k_is)
  (case q105=>refine' .of (mg_of KX G ?_) (dX.of ?_ ?_ ?_ ?_ (fun _ _ _ _ _ _=>Dc fun _ _ _=>rfl)) <;> (try k_is);all_goals try k_is)
  (case q106 | q107=>refine' .of (mg_of KX G ?_) (dX.of ?_ ?_ ?_ ?_ (fun _ _ _ _ _ _=>wU fun _ _=>rfl)) <;> (try k_is);all_goals try k_is)
  (case q108=>refine' .of (mg_of KX G ?_) (dX.of ?_ ?_ ?_ ?_ (fun _ _ _ _ _ _=>Dc fun _ _ _=>rfl)) <;> (try k_is);all_goals try k_is)
  (case q109=>refine' .of (mg_of KX G ?_) (dX.of ?_ ?_ ?_ ?_ (fun _ _ _ _ _ _=>wU fun _ _=>rfl)) <;> (try k_is);all_goals try k_is)
  (case q110=>refine' .of (mg_of KX G ?_) (dX.of ?_ ?_ ?_ ?_ (fun _ _ _ _ _ _=>Dc fun _ _ _=>rfl)) <;> (try k_is);all_goals try k_is)
  (case q111=>refine' .of (mg_of KX G ?_) (dX.of ?_ ?_ ?_ ?_ (fun _ _ _ _ _ _=>Bk fun _=>rfl)) <;> (try k_is);all_goals try k_is)
  (case q112=>refine' mg_of KX G ?_;k_is)
  (case q113=>
   refine' L2.KTab.mk' ?lk ?c1 ?c2 ?c3 ?c4 ?sm ?rows ?nd
   (case lk=>k_is)
   (case c1=>exact rfl)
   (case c2=>exact rfl)
   (case c3=>exact rfl)
   (case c4=>exact rfl)
   (case sm=>exact rfl)
   (case nd=>decide +kernel)
   (case rows=>
    refine' L2.jE.cons ?hh0 ?lk0 ?cc0 ?dd0 ?vv0 ?zz0 ?rest0
    (case hh0=>exact rfl)
    (case lk0=>k_is)
    (case cc0=>exact rfl)
    (case dd0=>exact rfl)
    (case vv0=>exact .cons ⟨_,rfl⟩ (.cons ⟨_,rfl⟩ (.cons ⟨_,rfl⟩ .nil)))
    (case zz0=>decide)
    refine' L2.jE.cons ?hh1 ?lk1 ?cc1 ?dd1 ?vv1 ?zz1 ?rest1
    (case hh1=>exact rfl)
    (case lk1=>k_is)
    (case cc1=>exact rfl)
    (case dd1=>exact rfl)
    (case vv1=>exact .cons ⟨_,rfl⟩ (.cons ⟨_,rfl⟩ (.cons ⟨_,rfl⟩ .nil)))
    (case zz1=>decide)
    refine' L2.jE.cons ?hh2 ?lk2 ?cc2 ?dd2 ?vv2 ?zz2 ?rest2
    (case hh2=>exact rfl)
    (case lk2=>k_is)
    (case cc2=>exact rfl)
    (case dd2=>exact rfl)
    (case vv2=>exact .cons ⟨_,rfl⟩ (.cons ⟨_,rfl⟩ (.cons ⟨_,rfl⟩ .nil)))
    (case zz2=>decide)
    refine' L2.jE.cons ?hh3 ?lk3 ?cc3 ?dd3 ?vv3 ?zz3 ?rest3
    (case hh3=>exact rfl)
    (case lk3=>k_is)
    (case cc3=>exact rfl)
    (case dd3=>exact rfl)
    (case vv3=>exact .cons ⟨_,rfl⟩ (.cons ⟨_,rfl⟩ (.cons ⟨_,rfl⟩ .nil)))
    (case zz3=>decide)
    refine' L2.jE.cons ?hh4 ?lk4 ?cc4 ?dd4 ?vv4 ?zz4 ?rest4
    (case hh4=>exact rfl)
    (case lk4=>k_is)
    (case cc4=>exact rfl)
    (case dd4=>exact rfl)
    (case vv4=>exact .cons ⟨_,rfl⟩ (.cons ⟨_,rfl⟩ (.cons ⟨_,rfl⟩ .nil)))
    (case zz4=>decide)
    refine' L2.jE.cons ?hh5 ?lk5 ?cc5 ?dd5 ?vv5 ?zz5 ?rest5
    (case hh5=>exact rfl)
    (case lk5=>k_is)
    (case cc5=>exact rfl)
    (case dd5=>exact rfl)
    (case vv5=>exact .cons ⟨_,rfl⟩ (.cons ⟨_,rfl⟩ (.cons ⟨_,rfl⟩ .nil)))
    (case zz5=>decide)
    refine' L2.jE.cons ?hh6 ?lk6 ?cc6 ?dd6 ?vv6 ?zz6 ?rest6
    (case hh6=>exact rfl)
    (case lk6=>k_is)
    (case cc6=>exact rfl)
    (case dd6=>exact rfl)
    (case vv6=>exact .cons ⟨_,rfl⟩ (.cons ⟨_,rfl⟩ (.cons ⟨_,rfl⟩ .nil)))
    (case zz6=>decide)
    refine' L2.jE.cons ?hh7 ?lk7 ?cc7 ?dd7 ?vv7 ?zz7 ?rest7
    (case hh7=>exact rfl)
    (case lk7=>k_is)
    (case cc7=>exact rfl)
    (case dd7=>exact rfl)
    (case vv7=>exact .cons ⟨_,rfl⟩ (.cons ⟨_,rfl⟩ (.cons ⟨_,rfl⟩ .nil)))
    (case zz7=>decide)
    refine' L2.jE.cons ?hh8 ?lk8 ?cc8 ?dd8 ?vv8 ?zz8 ?rest8
    (case hh8=>exact rfl)
    (case lk8=>k_is)
    (case cc8=>exact rfl)
    (case dd8=>exact rfl)
    (case vv8=>exact .cons ⟨_,rfl⟩ (.cons ⟨_,rfl⟩ (.cons ⟨_,rfl⟩ .nil)))
    (case zz8=>decide)
    refine' L2.jE.cons ?hh9 ?lk9 ?cc9 ?dd9 ?vv9 ?zz9 ?rest9
    (case hh9=>exact rfl)
    (case lk9=>k_is)
    (case cc9=>exact rfl)
    (case dd9=>exact rfl)
    (case vv9=>exact .cons ⟨_,rfl⟩ (.cons ⟨_,rfl⟩ (.cons ⟨_,rfl⟩ .nil)))
    (case zz9=>decide)
    refine' L2.jE.cons ?hh10 ?lk10 ?cc10 ?dd10 ?vv10 ?zz10 ?rest10
    (case hh10=>exact rfl)
    (case lk10=>k_is)
    (case cc10=>exact rfl)
    (case dd10=>exact rfl)
    (case vv10=>exact .cons ⟨_,rfl⟩ (.cons ⟨_,rfl⟩ (.cons ⟨_,rfl⟩ .nil)))
    (case zz10=>decide)
    exact .nil))
  (case q114 | q115 | q116 | q117 | q118 | q119 | q120 | q121 | q122 | q123 | q124 | q125 | q126=>refine' mg_none_of KX G ?_;k_is)
  (case q127 | q128 | q129 | q130 | q131 | q132 | q133 | q134=>refine' gC (mg_of KX G ?_) ?_ <;> (try k_is);all_goals exact⟨_,rfl⟩)
