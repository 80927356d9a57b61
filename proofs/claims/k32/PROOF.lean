import PyProof.Rows.All
import Wide.All
import OpenK.AllK
import Wide.FinOn
import Lean
import PyProof.EqAt
import PyProof.EqKinds
import PyProof.TupleCall
import PyProof.StrLawsChain
import PyProof.StrLawsOccR
import PyProof.StrLawsReplace
import PyProof.NeKinds
import PyProof.EnumStmt
import PyProof.EnumMake
import PyProof.ListRange
import PyProof.StationsW
import PyProof.ExcClass2
import PyProof.ExcInit
import PyProof.InstStoreFacts
import OpenK.KRaise
import PyProof.NsDelKeeps
import PyProof.RulesAs
import PyProof.Rows.Catch
import OpenK.KOwn
import PyProof.ExcArgsOwn
import PyProof.ExcAttrAll.ValueError
import PyProof.IsiBase
import PyProof.MaxThree
import PyProof.SeqI3
import KE.KIsAll
import KE.IntTextLaws
import PyProof.StrLawsIdx
import PyProof.FitsInt
import PySem.Challenge.RW_holdlane_k32_more_workings_go_on
set_option Elab.async false
set_option linter.all false
set_option maxRecDepth 100000
namespace L2
open PySem PySem.Spec PyProof.Rows
noncomputable abbrev Key:=Sum Int Str
noncomputable def Bw:Key->Value->Bool
 | .inl k,v=>Value.isInt k v
 | .inr x,v=>Value.isStrOf x v
noncomputable def Vs (w:World):Key->Int
 | .inl k=>hashInt k
 | .inr x=>hashStr w x
theorem d7:∀{k:Key} {v:Value},Bw k v=true->(∃i t,k=Sum.inl i/\v=Value.int i t)∨(∃x t,k=Sum.inr x/\v=Value.str x t)
 | .inl i,v,h=>by
  obtain⟨t,e⟩:=Value.isInt_shape (k:=i) (v:=v) h
  exact .inl ⟨i,t,rfl,e⟩
 | .inr x,v,h=>by
  obtain⟨t,e⟩:=Value.isStrOf_shape (x:=x) (v:=v) h
  exact .inr ⟨x,t,rfl,e⟩
theorem JP (i:Int) (t:Tok):Bw (.inl i) (.int i t)=true:=by simp [Bw,Value.isInt]
theorem JZ (x:Str) (t:Tok):Bw (.inr x) (.str x t)=true:=by simp [Bw,Value.isStrOf]
theorem R7 (a b:Int):decide ((Sum.inl a:Key)=Sum.inl b)=(a == b):=by
 by_cases e:a=b
 ·subst e;simp
 ·have h:¬(Sum.inl a:Key)=Sum.inl b:=fun q=>e (Sum.inl.inj q)
  rw [decide_eq_false h]
  exact(beq_eq_false_iff_ne.mpr e).symm
theorem Ri (a b:Str):decide ((Sum.inr a:Key)=Sum.inr b)=decide (a=b):=by
 by_cases e:a=b
 ·subst e;simp
 ·have h:¬(Sum.inr a:Key)=Sum.inr b:=fun q=>e (Sum.inr.inj q)
  rw [decide_eq_false h,decide_eq_false e]
theorem RX (a:Int) (b:Str):decide ((Sum.inl a:Key)=Sum.inr b)=false:=decide_eq_false (fun q=>nomatch q)
theorem Rv (a:Str) (b:Int):decide ((Sum.inr a:Key)=Sum.inl b)=false:=decide_eq_false (fun q=>nomatch q)
noncomputable def cG (prog:Program) (w:World):PySem.KeyKind prog w Key where
 is:=Bw
 hash:=Vs w
 inj:=fun v a b ha hb=>by
  rcases d7 ha with ⟨i,t,rfl,rfl⟩ | ⟨x,t,rfl,rfl⟩
  ·rcases d7 hb with ⟨j,u,rfl,e⟩ | ⟨y,u,rfl,e⟩
   ·injection e with e1 _;rw [e1]
   ·exact nomatch e
  ·rcases d7 hb with ⟨j,u,rfl,e⟩ | ⟨y,u,rfl,e⟩
   ·exact nomatch e
   ·injection e with e1 _;rw [e1]
 byValue:=fun k v h=>by
  rcases d7 h with ⟨i,t,rfl,rfl⟩ | ⟨x,t,rfl,rfl⟩ <;> rfl
 pyHash:=fun hv h=>by
  rcases d7 hv with ⟨i,t,rfl,rfl⟩ | ⟨x,t,rfl,rfl⟩
  ·exact wpAny_pyHash_int h
  ·exact wpAny_pyHash_str h
 eqBool:=fun hu hv h=>by
  rcases d7 hu with ⟨i,t,rfl,rfl⟩ | ⟨x,t,rfl,rfl⟩
  ·rcases d7 hv with ⟨j,u,rfl,rfl⟩ | ⟨y,u,rfl,rfl⟩
   ·rw [R7] at h;exact wpAny_eqBool_int h
   ·rw [RX] at h;exact SeqAt.EqAt.int_str i t y u _ _ _ _ h
  ·rcases d7 hv with ⟨j,u,rfl,rfl⟩ | ⟨y,u,rfl,rfl⟩
   ·rw [Rv] at h;exact SeqAt.EqAt.str_int x t j u _ _ _ _ h
   ·rw [Ri] at h;exact wpAny_eqBool_str h
 «strs» :=fun k x t v h=>by
  rcases d7 h with ⟨i,u,rfl,e⟩ | ⟨y,u,rfl,e⟩
  ·exact nomatch e
  ·injection e with e1 _
   subst e1
   cases v <;> rfl
theorem Ff (prog:Program) (w:World) (i:Int) (t:Tok):(cG prog w).is (.inl i) (.int i t)=true:=JP i t
theorem km (prog:Program) (w:World) (x:Str) (t:Tok):(cG prog w).is (.inr x) (.str x t)=true:=JZ x t
inductive V where
 | non | bl (b:Bool) | int (i:Int) | str (x:Str) | byt (b:Array UInt8) | flt (b:UInt64) | ref (a:Addr) | ty (n:String)
 deriving DecidableEq
noncomputable def RelV:V->Value->Prop
 | .non,u=>u=Value.none
 | .bl b,u=>u=Value.bool b
 | .int i,u=>∃t,u=Value.int i t
 | .str x,u=>∃t,u=Value.str x t
 | .byt b,u=>∃t,u=Value.bytes b t
 | .flt b,u=>∃t,u=Value.float b t
 | .ref a,u=>u=Value.ref a
 | .ty n,u=>u=Value.type n
noncomputable abbrev Vals:List V->List Value->Prop:=Paired RelV
theorem Vals.length {xs:List V} {us:List Value} (r:Vals xs us):xs.length=us.length:=Paired.length r
theorem Vals.get:∀{xs:List V} {us:List Value} {i:Nat} {x:V},Vals xs us->xs[i]?=some x->∃u,us[i]?=some u/\RelV x u
 | _,_,_,_,.nil,e=>by simp at e
 | _,_,0,_,.cons r _,e=>by simp at e;subst e;exact⟨_,rfl,r⟩
 | _,_,i+1,x,.cons _ t,e=>by
  obtain⟨u,h1,h2⟩:=Vals.get (i:=i) (x:=x) t (by simpa using e)
  exact⟨u,by simpa using h1,h2⟩
theorem Vals.append:∀{xs ys:List V} {us ws:List Value},Vals xs us->Vals ys ws->Vals (xs ++ ys) (us ++ ws)
 | _,_,_,_,.nil,s=>s
 | _,_,_,_,.cons r t,s=>.cons r (Vals.append t s)
theorem Vals.take:∀{xs:List V} {us:List Value} (n:Nat),Vals xs us->Vals (xs.take n) (us.take n)
 | _,_,0,_=>.nil
 | _,_,_+1,.nil=>.nil
 | _,_,n+1,.cons r t=>.cons r (Vals.take n t)
theorem Vals.drop:∀{xs:List V} {us:List Value} (n:Nat),Vals xs us->Vals (xs.drop n) (us.drop n)
 | _,_,0,r=>r
 | _,_,_+1,.nil=>.nil
 | _,_,n+1,.cons _ t=>Vals.drop n t
noncomputable def qH:Option V->Option Value->Prop
 | some v,some u=>RelV v u
 | none,none=>True
 | _,_=>False
noncomputable def KV {κ:Type}:List (κ×V)->List (κ×Value)->Prop:=Paired fun(p:κ×V) (q:κ×Value)=>p.1=q.1/\RelV p.2 q.2
noncomputable def kV:Key->V
 | .inl i=>.int i
 | .inr x=>.str x
inductive HO where
  | lst (xs:List V)
  | tup (xs:List V)
  | dK (kvs:List (Key×V)) | dT (kvs:List (List Key×V))
  | set (S:Int->Bool) (n:Nat)
  | ins (C dx:Addr) (fs:List (Str×V))
  | own (x:Addr)
  | xd (fs:List (Str×V))
  | met (f x:Addr)
  | rng (lo hi:Int)
  | frz (o:Obj) (u:HO)
  | tbl (ps:Array Value)
  | ext (φ:Heap->Prop)
noncomputable abbrev Hp:=Addr->Option HO
noncomputable def upd (H:Hp) (a:Addr) (o:HO):Hp:=fun b=>if b=a then some o else H b
theorem aA {H:Hp} {a:Addr} {o:HO}:upd H a o a=some o:=by unfold upd;rw [if_pos rfl]
theorem aJ {H:Hp} {a b:Addr} {o:HO} (h:b≠a):upd H a o b=H b:=by unfold upd;rw [if_neg h]
theorem tD {H:Hp} {a:Addr} {o u:HO}:upd (upd H a o) a u=upd H a u:=by
 funext b;unfold upd;split <;> rfl
theorem ul {H:Hp} {a b:Addr} {o u:HO} (h:H a=some o) (h':H b=some u) (d:o≠u):a≠b:=by
 intro e;subst e;rw [h] at h';exact d (Option.some.inj h')
theorem aC {H:Hp} {a b:Addr} {o:HO} (h:H a=some o) (h':H b=none):a≠b:=by
 intro e;subst e;rw [h] at h';cases h'
section
variable (P:Program) (w:World)
noncomputable def fK (H:Hp) (h:Heap) (a:Addr):HO->Prop
 | .lst xs=>xs.length<=sizeLine/\∃(its:List Value) (n:Nat),Vals xs its/\h.get? a=some { cls:=.type "list",data:=.seq its.toArray n }
 | .tup xs=>xs.length<=sizeLine/\∃its:List Value,Vals xs its/\IsTup h a its.toArray
 | .dK kvs=>kvs.length<=sizeLine/\(a == sysModules)=false/\∃vs,KV kvs vs/\h.DictOf (cG P w) a vs
 | .dT kvs=>kvs.length<=sizeLine/\(a == sysModules)=false/\∃xs:List (List Key×Addr×Value),
   Paired (fun(p:List Key×V) (q:List Key×Addr×Value)=>p.1=q.1/\H q.2.1=some (.tup (p.1.map kV))/\RelV p.2 q.2.2) kvs xs/\
   ∃o es ep,h.get? a=some o/\o.ExactDict/\o.data=.dict es ep/\es.toList=xs.map (entryOfKey (tupleKind (cG P w)))/\(xs.map (·.1)).Nodup
 | .set S n=>h.SetOf (intKind P w) a S n
 | .ins C dx fs=>H dx=some (.own a)/\fs.length<=1000/\dx≠a/\h.get? a=some (PySem.W.instObj C dx)/\
   ∃mA,h.Ns1 dx mA/\(∀f,qH (fs.lookup f) (mA f))/\PySem.Within mA (fs.map (·.1))
 | .own _=>∃o,h.get? a=some o
 | .xd fs=>∃mA,h.Ns1 a mA/\∀f,qH (fs.lookup f) (mA f)
 | .rng lo hi=>∃t u v,h.get? a=some { cls:=.type "range",data:=.fields #[.int lo t,.int hi u,.int 1 v] }
 | .frz o u=>h.get? a=some o/\fK H h a u
 | .tbl ps=>h.get? a=some { cls:=.none,data:=.fields ps }
 | .met f x=>h.get? a=some (PySem.W.methodObj (.ref f) (.ref x))
 | .ext φ=>φ h/\(∃o,h.get? a=some o)/\∀h1 h2:Heap,φ h1->(∀o,h1.get? a=some o->h2.get? a=some o)->φ h2
noncomputable def tG (H:Hp) (h:Heap):Prop:=∀a o,H a=some o->fK P w H h a o
end
section
variable {P:Program} {w:World} {H H':Hp} {h h':Heap} {a:Addr} {o:HO}
theorem fK.lt (x:fK P w H h a o):a <h.objs.size:=by
 cases o with
 | lst xs=>obtain⟨_,_,_,_,e⟩:=x;exact Heap.lt_size e
 | tup xs=>obtain⟨_,_,_,p⟩:=x;exact p.lt
 | dK kvs=>obtain⟨_,_,_,_,o,_,_,e,_⟩:=x;exact Heap.lt_size e
 | dT kvs=>obtain⟨_,_,_,_,o,_,_,e,_⟩:=x;exact Heap.lt_size e
 | set S n=>obtain⟨o,_,_,_,e,_⟩:=x;exact Heap.lt_size e
 | ins C dx fs=>obtain⟨_,_,_,e,_⟩:=x;exact Heap.lt_size e
 | own y=>obtain⟨_,e⟩:=x;exact Heap.lt_size e
 | xd fs=>obtain⟨_,⟨_,_,_,e,_⟩,_⟩:=x;exact Heap.lt_size e
 | rng lo hi=>obtain⟨_,_,_,e⟩:=x;exact Heap.lt_size e
 | frz ob u=>obtain⟨e,_⟩:=x;exact Heap.lt_size e
 | tbl ps=>exact Heap.lt_size (show h.get? a=some _ from x)
 | met f y=>exact Heap.lt_size (show h.get? a=some _ from x)
 | ext φ=>obtain⟨_,⟨_,e⟩,_⟩:=x;exact Heap.lt_size e
theorem Paired.mapP {α β:Type} {F G:α->β->Prop}:∀{l₁:List α} {l₂:List β},Paired F l₁ l₂->(∀a b,F a b->G a b)->Paired G l₁ l₂
 | _,_,.nil,_=>.nil
 | _,_,.cons r t,f=>.cons (f _ _ r) (Paired.mapP t f)
theorem fK.stay (x:fK P w H h a o) (k:∀b u,(b=a∨H b=some (.own a))->h.get? b=some u->h'.get? b=some u)
  (ho:∀b,H b=some (.own a)->H' b=some (.own a)) (ht:∀b xs,H b=some (.tup xs)->H' b=some (.tup xs)):fK P w H' h' a o:=by
 induction o with
 | lst xs=>obtain⟨z,its,n,r,e⟩:=x;exact⟨z,its,n,r,k _ _ (.inl rfl) e⟩
 | tup xs=>obtain⟨z,its,r,ob,e,c⟩:=x;exact⟨z,its,r,ob,k _ _ (.inl rfl) e,c⟩
 | dK kvs=>obtain⟨z,y,vs,r,ob,es,ep,e,c⟩:=x;exact⟨z,y,vs,r,ob,es,ep,k _ _ (.inl rfl) e,c⟩
 | dT kvs=>
  obtain⟨z,y,xs,r,ob,es,ep,e,c⟩:=x
  exact⟨z,y,xs,Paired.mapP r fun p q z=>⟨z.1,ht _ _ z.2.1,z.2.2⟩,ob,es,ep,k _ _ (.inl rfl) e,c⟩
 | set S n=>obtain⟨ob,es,ep,t,e,c⟩:=x;exact⟨ob,es,ep,t,k _ _ (.inl rfl) e,c⟩
 | ins C dx fs=>
  obtain⟨d,z,ne,e,mA,⟨od,es,ep,e2,c⟩,r⟩:=x
  exact⟨ho _ d,z,ne,k _ _ (.inl rfl) e,mA,⟨od,es,ep,k _ _ (.inr d) e2,c⟩,r⟩
 | own y=>obtain⟨ob,e⟩:=x;exact⟨ob,k _ _ (.inl rfl) e⟩
 | xd fs=>obtain⟨mA,⟨od,es,ep,e,c⟩,r⟩:=x;exact⟨mA,⟨od,es,ep,k _ _ (.inl rfl) e,c⟩,r⟩
 | rng lo hi=>obtain⟨t,u,v,e⟩:=x;exact⟨t,u,v,k _ _ (.inl rfl) e⟩
 | frz ob u ih=>obtain⟨e,q⟩:=x;exact⟨k _ _ (.inl rfl) e,ih q⟩
 | tbl ps=>
  have e:h.get? a=some { cls:=.none,data:=.fields ps }:=x
  show h'.get? a=some { cls:=.none,data:=.fields ps }
  exact k a _ (.inl rfl) e
 | met f y=>
  have e:h.get? a=some (PySem.W.methodObj (.ref f) (.ref y)):=x
  show h'.get? a=some (PySem.W.methodObj (.ref f) (.ref y))
  exact k a _ (.inl rfl) e
 | ext φ=>obtain⟨p,⟨o,e⟩,st⟩:=x;exact⟨st _ _ p fun o q=>k _ _ (.inl rfl) q,⟨o,k _ _ (.inl rfl) e⟩,st⟩
theorem tG.lt (x:tG P w H h) (e:H a=some o):a <h.objs.size:=(x a o e).lt
theorem tG.fresh (x:tG P w H h) (e:h.objs.size<=a):H a=none:=by
 cases q:H a with
 | none=>rfl
 | some u=>exact absurd (Nat.lt_of_lt_of_le (x.lt q) e) (Nat.lt_irrefl _)
theorem tG.kept (x:tG P w H h) (k:∀b u,h.get? b=some u->h'.get? b=some u):tG P w H h':=fun a o e=>
 (x a o e).stay (fun b u _ q=>k b u q) (fun _ q=>q) fun _ _ q=>q
theorem tG.laid (x:tG P w H h) (k:∀b u,h.get? b=some u->h'.get? b=some u) (hp:h.objs.size<=a) (new:fK P w (upd H a o) h' a o):tG P w (upd H a o) h':=fun b u e=>by
 have hn:=x.fresh hp
 by_cases hb:b=a
 ·subst hb;rw [aA] at e;cases e;exact new
 ·rw [aJ hb] at e
  exact(x b u e).stay (fun c v _ q=>k c v q) (fun c q=>by rw [aJ (aC q hn)];exact q) fun c xs q=>by rw [aJ (aC q hn)];exact q
end
noncomputable def Rd (H:Hp) (a:Addr) (u:HO):Prop:=H a=some u∨∃o,H a=some (.frz o u)
theorem Rd.ok {P:Program} {w:World} {H:Hp} {h:Heap} {a:Addr} {u:HO} (r:Rd H a u) (x:tG P w H h):fK P w H h a u:=by
 rcases r with r | ⟨o,r⟩
 ·exact x a u r
 ·obtain⟨_,q⟩:=x a _ r
  exact q
noncomputable def Tz:Option HO->Prop
 | some (.lst _)=>True
 | some (.dK _)=>True
 | some (.dT _)=>True
 | some (.set _ _)=>True
 | some (.ins _ _ _)=>True
 | some (.ext _)=>True
 | _=>False
section
variable {P:Program} {w:World} {H:Hp} {h h':Heap} {x e:Addr} {o':HO}
theorem tG.write (ok:tG P w H h) (mu:Tz (H x)) (he:e=x∨H e=some (.own x)) (k:∀b u,b≠e->h.get? b=some u->h'.get? b=some u) (heo:∃u,h'.get? e=some u)
  (new:fK P w (upd H x o') h' x o'):tG P w (upd H x o') h':=fun b u q=>by
 have nown:∀c y,H c=some (.own y)->c≠x:=fun c y r z=>by subst z;rw [r] at mu;exact mu
 have ntup:∀c xs,H c=some (.tup xs)->c≠x:=fun c xs r z=>by subst z;rw [r] at mu;exact mu
 by_cases hb:b=x
 ·subst hb;rw [aA] at q;cases q;exact new
 ·rw [aJ hb] at q
  by_cases hbe:b=e
  ·have q':H b=some (.own x):=by
    rcases he with z | z
    ·exact absurd (hbe.trans z) hb
    ·rw [hbe];exact z
   rw [q] at q';cases q'
   obtain⟨v,hv⟩:=heo
   exact⟨v,by rw [hbe];exact hv⟩
  ·refine(ok b u q).stay (fun c v hc r=>k c v ?_ r) (fun c r=>by rw [aJ (nown c b r)];exact r) fun c xs r=>by rw [aJ (ntup c xs r)];exact r
   rcases hc with rfl | hc
   ·exact hbe
   ·rintro rfl
    rcases he with z | z
    ·exact nown c b hc z
    ·rw [hc] at z;cases z;exact hb rfl
end
structure Un (fs ex:List Addr) (H H':Hp) (h h':Heap):Prop where
 keep:∀b o,h.get? b=some o->H b=none->b∉fs->b∉ex->h'.get? b=some o
 slot:∀b o,h.get? b=some o->H b=none->b∈fs->b∉ex->∃sl,h'.get? b=some { o with slots:=sl }
 free:∀b o,h.get? b=some o->H b=none->b∉ex->H' b=none
 there:∀b o,h.get? b=some o->b∉ex->∃o',h'.get? b=some o'
 tups:∀b xs,H b=some (.tup xs)->H' b=some (.tup xs)
 frzs:∀b o u,H b=some (.frz o u)->H' b=some (.frz o u)
 tbls:∀b ps,H b=some (.tbl ps)->∃more,H' b=some (.tbl (ps ++ more))
section
variable {fs fs' ex ex':List Addr} {H H1 H2:Hp} {h h1 h2 h':Heap} {a x e:Addr} {o:HO}
theorem Un.any (u:Un fs ex H H1 h h1) {b:Addr} {ob:Obj} (q:h.get? b=some ob) (n:H b=none) (hx:b∉ex):∃sl,h1.get? b=some { ob with slots:=sl }:=by
 by_cases hb:b∈fs
 ·exact u.slot b ob q n hb hx
 ·exact⟨ob.slots,u.keep b ob q n hb hx⟩
theorem Un.kept (k:∀b u,h.get? b=some u->h'.get? b=some u):Un fs ex H H h h':=
 ⟨fun b ob q _ _ _=>k b ob q,fun b ob q _ _ _=>⟨ob.slots,k b ob q⟩,fun _ _ _ n _=>n,fun b ob q _=>⟨ob,k b ob q⟩,fun _ _ q=>q,fun _ _ _ q=>q,fun _ ps q=>⟨#[],by rw [q];simp⟩⟩
theorem Un.refl:Un fs ex H H h h:=Un.kept fun _ _ q=>q
theorem Un.laid (k:∀b u,h.get? b=some u->h'.get? b=some u) (hp:h.objs.size<=a) (hn:H a=none):Un fs ex H (upd H a o) h h' where
 keep:=fun b u q _ _ _=>k b u q
 slot:=fun b u q _ _ _=>⟨u.slots,k b u q⟩
 free:=fun b u q n _=>by rw [aJ (Nat.ne_of_lt (Nat.lt_of_lt_of_le (Heap.lt_size q) hp))];exact n
 there:=fun b u q _=>⟨u,k b u q⟩
 tups:=fun b xs q=>by rw [aJ (aC q hn)];exact q
 frzs:=fun b u xs q=>by rw [aJ (aC q hn)];exact q
 tbls:=fun b ps q=>⟨#[],by rw [aJ (aC q hn),q];simp⟩
theorem Un.write (mu:Tz (H x)) (he:e=x∨H e=some (.own x)) (k:∀b u,b≠e->h.get? b=some u->h'.get? b=some u) (heo:∃u,h'.get? e=some u):Un fs ex H (upd H x o) h h':=by
 have hx:∀b,H b=none->b≠x:=fun b n z=>by subst z;rw [n] at mu;exact mu
 have hb:∀b,H b=none->b≠e:=fun b n z=>by
  subst z
  rcases he with r | r
  ·exact hx b n r
  ·rw [n] at r;cases r
 have hm:∀b u,H b=some u->¬Tz (some u)->b≠x:=fun b u q nm z=>by subst z;rw [q] at mu;exact nm mu
 refine⟨fun b u q n _ _=>k b u (hb b n) q,fun b u q n _ _=>⟨u.slots,k b u (hb b n) q⟩,fun b u q n _=>by rw [aJ (hx b n)];exact n,fun b u q _=>?_,
  fun b xs q=>by rw [aJ (hm b _ q fun z=>z)];exact q,fun b u xs q=>by rw [aJ (hm b _ q fun z=>z)];exact q,fun b ps q=>⟨#[],by rw [aJ (hm b _ q fun z=>z),q];simp⟩⟩
 by_cases hbe:b=e
 ·subst hbe;exact heo
 ·exact⟨u,k b u hbe q⟩
end
noncomputable def Vo (h:Heap) (H:Hp):List Addr:=(List.range h.objs.size).filter fun a=>(H a).isSome
noncomputable def DQ (h:Heap) (H:Hp):Heap:=PySem.W.hideAll h (Vo h H)
theorem J4 (h:Heap) (H:Hp):(DQ h H).objs.size=h.objs.size:=PySem.W.hideAll_size _ _
theorem Lh {h:Heap} {H:Hp} {b:Addr} {o:Obj} (e:h.get? b=some o) (n:H b=none):(DQ h H).get? b=some o:=
 PySem.W.hideAll_get _ e fun hm=>by
  have q:(H b).isSome=true:=(List.mem_filter.mp hm).2
  rw [n] at q;simp at q
theorem Om {h:Heap} {H:Hp} {b:Addr} {o:Obj} (e:(DQ h H).get? b=some o):h.get? b=some o/\H b=none:=by
 have e':h.get? b=some o:=PySem.W.of_hideAll (Vo h H) e
 refine⟨e',?_⟩
 cases q:H b with
 | none=>rfl
 | some x=>
  have hm:b∈Vo h H:=List.mem_filter.mpr ⟨List.mem_range.mpr (Heap.lt_size e'),by simp [q]⟩
  have z:(DQ h H).get? b=none:=PySem.W.hideAll_none (Vo h H) hm
  rw [z] at e;cases e
structure Mod (K:PySem.W.Frag) (mg:Str->Option Value) (base:Heap):Prop where
 kin:K.In base
 glob:base.Ns mainGlobals mg
 blt:∃mb,base.Ns builtinsNs mb/\∀x:Str,x≠ "__name__" ->mb x=bootBuiltins x
 nolimit:base.NoLimit
structure Cx where
 prog:Program
 w:World
 K:PySem.W.Frag
 mg:Str->Option Value
 base:Heap
 A:Around
 N:List Str
 s₀:Shared
 H₀:Hp
 env:Env
 outer:List Env
 stack:List Env
 ex:List Addr
 fn:Str->Bool
 calm:Bool
 pn:List (Addr×Obj)
 xe:Value->Shared->Prop
noncomputable def frs (l:List Env):List Addr:=l.filterMap (·.frame)
noncomputable abbrev Cx.fs (X:Cx):List Addr:=frs X.outer
noncomputable def UW (sc:Scope) (x:Str):Prop:=sc.names.lookup x=some .local∨sc.names.lookup x=some .cell∨sc.names.lookup x=some .free
noncomputable def Loc (sc:Scope) (x:Str):Prop:=sc.names.lookup x=some .local∨sc.names.lookup x=some .cell
noncomputable def Look (env:Env) (h:Heap) (m:Str->Option Value) (x:Str) (u:Value):Prop:=
 (env.kindOf x=some .local/\m x=some u)∨((env.kindOf x=some .cell∨env.kindOf x=some .free)/\∃c,env.cells.lookup x=some c/\h.IsCell c (some u))
structure Cx.Ok (X:Cx):Prop where
 mod:Mod X.K X.mg X.base
 kind:X.env.scope.kind=.function
 glob:X.env.globals=mainGlobals
 blt:X.env.builtins=builtinsNs
 above:X.s₀.heap.objs.size<=X.env.locals
 inj:∀x y c,X.env.cells.lookup x=some c->X.env.cells.lookup y=some c->x=y
 has:∀x,(X.env.kindOf x=some .cell∨X.env.kindOf x=some .free)->∃c,X.env.cells.lookup x=some c
 cab:∀x c,X.fn x=true->X.env.cells.lookup x=some c->X.s₀.heap.objs.size<=c
 hd:X.calm=true->X.A.handled=none
 frames:X.A.frames=some X.stack
 stk:X.stack=X.outer∨(X.stack=X.env:: X.outer/\X.env.frame=some X.env.locals)
 exf:∀b∈X.ex,b≠X.env.locals/\∀x c,X.env.cells.lookup x=some c->c≠b
 bs:∀b o,X.base.get? b=some o->X.s₀.heap.get? b=some o/\X.H₀ b=none
 bsz:X.base.objs.size<=X.s₀.heap.objs.size
 noex:∀b o,X.base.get? b=some o->b∉X.ex
 exfs:∀b∈X.ex,b∉X.fs
 funs:X.s₀.heap.FunFrames X.base X.outer
 frf:∀b∈X.fs,X.H₀ b=none
structure Inv (X:Cx) (pins:List (Addr×Obj)) (σ:List (Option V)) (H:Hp) (s:Shared):Prop where
 ok:X.Ok
 os:s.os=X.s₀.os
 bare:AllBare s.gens
 base:Un X.fs X.ex X.H₀ H X.s₀.heap s.heap
 loc:∃m,s.heap.Ns X.env.locals m/\∀(i:Nat) (x:Str) (v:V),X.N[i]?=some x->σ[i]?=some (some v)->UW X.env.scope x->∃u,RelV v u/\Look X.env s.heap m x u
 cell:∀x c,X.env.cells.lookup x=some c->∃v,s.heap.IsCell c v
 free:H X.env.locals=none
 freeC:∀x c,X.env.cells.lookup x=some c->H c=none
 pin:∀p∈X.pn ++ pins,s.heap.get? p.1=some p.2/\H p.1=none/\p.1≠X.env.locals/\p.1∉X.fs/\∀v,p.2.data≠.cell v
 hok:tG X.prog X.w H s.heap
 len:σ.length=X.N.length
section
variable {X:Cx} {pins:List (Addr×Obj)} {σ:List (Option V)} {H H':Hp} {s:Shared} {h':Heap}
theorem Cx.Ok.nofr (ok:X.Ok) {b:Addr} {o:Obj} (e:X.base.get? b=some o):b∉X.fs:=fun hb=>by
 have:=(ok.funs.mem hb).1
 rw [e] at this;cases this
theorem Inv.bs (I:Inv X pins σ H s):∀b o,X.base.get? b=some o->s.heap.get? b=some o/\H b=none:=fun b o e=>
 ⟨I.base.keep b o (I.ok.bs b o e).1 (I.ok.bs b o e).2 (I.ok.nofr e) (I.ok.noex b o e),I.base.free b o (I.ok.bs b o e).1 (I.ok.bs b o e).2 (I.ok.noex b o e)⟩
theorem Inv.bk (I:Inv X pins σ H s):∀b o,X.base.get? b=some o->s.heap.get? b=some o:=fun b o e=>(I.bs b o e).1
theorem Inv.mod (I:Inv X pins σ H s):Mod X.K X.mg X.base:=I.ok.mod
theorem Inv.kIn (I:Inv X pins σ H s):X.K.In s.heap:=I.ok.mod.kin.keeps I.bk
theorem Inv.lt (I:Inv X pins σ H s):X.env.locals <s.heap.objs.size:=let ⟨_,hn,_⟩:=I.loc;hn.lt
theorem Inv.sz (I:Inv X pins σ H s):X.s₀.heap.objs.size<=s.heap.objs.size:=Nat.le_trans I.ok.above (Nat.le_of_lt I.lt)
theorem Inv.nofs (I:Inv X pins σ H s) {a:Addr} (h:s.heap.objs.size<=a):a∉X.fs:=fun hb=>by
 obtain⟨_,o,ho,_⟩:=I.ok.funs.mem hb
 exact absurd (Nat.lt_of_lt_of_le (Heap.lt_size ho) (Nat.le_trans I.sz h)) (Nat.lt_irrefl _)
theorem Inv.cne (I:Inv X pins σ H s):∀x c,X.env.cells.lookup x=some c->c≠X.env.locals:=fun x c e z=>by
 obtain⟨v,o,ho,hd⟩:=I.cell x c e
 obtain⟨m,⟨o',es,ep,ho',hd',_⟩,_⟩:=I.loc
 rw [z,ho'] at ho;cases ho;rw [hd'] at hd;cases hd
theorem Inv.funs (I:Inv X pins σ H s):s.heap.FunFrames X.base X.outer:=by
 have all:∀(l:List Env),(∀b∈frs l,b∈X.fs)->X.s₀.heap.FunFrames X.base l->s.heap.FunFrames X.base l:=by
  intro l
  induction l with
  | nil=>intro _ _;trivial
  | cons env r ih=>
   intro hs hl
   obtain⟨hk,⟨L,o,hf,hn,ho,hd⟩,hr⟩:=hl
   have hL:L∈X.fs:=hs L (by unfold frs;rw [List.filterMap_cons,hf];exact List.mem_cons_self)
   obtain⟨sl,e⟩:=I.base.slot L o ho (I.ok.frf L hL) hL fun z=>I.ok.exfs L z hL
   exact⟨hk,⟨L,_,hf,hn,e,hd⟩,ih (fun b hb=>hs b (by unfold frs;rw [List.filterMap_cons,hf];exact List.mem_cons_of_mem _ hb)) hr⟩
 exact all X.outer (fun _ hb=>hb) I.ok.funs
theorem Inv.stack (I:Inv X pins σ H s):s.heap.FunFrames X.base X.stack:=by
 rcases I.ok.stk with e | ⟨e,hf⟩
 ·rw [e];exact I.funs
 ·rw [e]
  obtain⟨m,hn,_⟩:=I.loc
  refine .cons (by rw [I.ok.kind];decide) hf hn ?_ I.funs
  exact Heap.get?_none_of_le (Nat.le_trans I.ok.bsz I.ok.above)
theorem Inv.stkSub (I:Inv X pins σ H s):∀b∈frs X.stack,b∈X.env.locals:: X.fs:=fun b hb=>by
 rcases I.ok.stk with e | ⟨e,hf⟩
 ·rw [e] at hb;exact List.mem_cons_of_mem _ hb
 ·rw [e] at hb
  unfold frs at hb
  rw [List.filterMap_cons,hf] at hb
  exact hb
theorem Inv.stkFree (I:Inv X pins σ H s):∀b∈frs X.stack,H b=none:=fun b hb=>by
 rcases List.mem_cons.mp (I.stkSub b hb) with e | hb
 ·rw [e];exact I.free
 ·obtain⟨_,o,ho,_⟩:=I.ok.funs.mem hb
  exact I.base.free b o ho (I.ok.frf b hb) fun z=>I.ok.exfs b z hb
theorem Inv.step {g':Array GenState} {t':Nat} {d':Drawn} {ch:List Addr} (I:Inv X pins σ H s)
  (hch:∀b∈ch,(b∈X.ex∨X.s₀.heap.objs.size<=b)/\b≠X.env.locals/\(∀x c,X.env.cells.lookup x=some c->c≠b)/\∀p∈X.pn ++ pins,p.1≠b)
  (keep:∀b o,b≠X.env.locals->b∉X.fs->b∉ch->s.heap.get? b=some o->H b=none->h'.get? b=some o)
  (slot:∀b o,b≠X.env.locals->b∈X.fs->b∉ch->s.heap.get? b=some o->H b=none->∃sl,h'.get? b=some { o with slots:=sl }) (free:∀b o,b∉ch->s.heap.get? b=some o->H b=none->H' b=none)
  (there:∀b o,b∉ch->s.heap.get? b=some o->∃o',h'.get? b=some o')
  (tups:∀b xs,H b=some (.tup xs)->H' b=some (.tup xs)) (frzs:∀b o u,H b=some (.frz o u)->H' b=some (.frz o u)) (tbls:∀b ps,H b=some (.tbl ps)->∃more,H' b=some (.tbl (ps ++ more)))
  (ns:∀m,s.heap.Ns X.env.locals m->h'.Ns X.env.locals m) (hok:tG X.prog X.w H' h') (hg:AllBare g'):
  Inv X pins σ H' { s with heap:=h',gens:=g',drawn:=d',toks:=t' }:=by
 have neL:∀b o,X.s₀.heap.get? b=some o->b≠X.env.locals:=fun b o e=>Nat.ne_of_lt (Nat.lt_of_lt_of_le (Heap.lt_size e) I.ok.above)
 have neC:∀b o,X.s₀.heap.get? b=some o->b∉X.ex->b∉ch:=fun b o e hx hb=>by
  rcases(hch b hb).1 with z | z
  ·exact hx z
  ·exact absurd (Nat.lt_of_lt_of_le (Heap.lt_size e) z) (Nat.lt_irrefl _)
 have cellK:∀x c,X.env.cells.lookup x=some c->∀v,s.heap.IsCell c v->h'.IsCell c v:=fun x c e v ⟨o,ho,hd⟩=>by
  have nch:c∉ch:=fun z=>(hch c z).2.2.1 x c e rfl
  by_cases hc:c∈X.fs
  ·obtain⟨sl,q⟩:=slot c o (I.cne x c e) hc nch ho (I.freeC x c e)
   exact⟨_,q,hd⟩
  ·exact⟨o,keep c o (I.cne x c e) hc nch ho (I.freeC x c e),hd⟩
 refine⟨I.ok,I.os,hg,⟨fun b o e n hb hx=>?_,fun b o e n hb hx=>?_,fun b o e n hx=>?_,fun b o e hx=>?_,fun b xs e=>tups b xs (I.base.tups b xs e),fun b o xs e=>frzs b o xs (I.base.frzs b o xs e),fun b ps e=>?_⟩,?_,fun x c e=>?_,?_,fun x c e=>?_,fun p hp=>?_,hok,I.len⟩
 ·exact keep b o (neL b o e) hb (neC b o e hx) (I.base.keep b o e n hb hx) (I.base.free b o e n hx)
 ·obtain⟨sl,e1⟩:=I.base.slot b o e n hb hx
  obtain⟨sl',e2⟩:=slot b _ (neL b o e) hb (neC b o e hx) e1 (I.base.free b o e n hx)
  exact⟨sl',e2⟩
 ·obtain⟨o',e1⟩:=I.base.there b o e hx
  exact free b o' (neC b o e hx) e1 (I.base.free b o e n hx)
 ·obtain⟨o',e1⟩:=I.base.there b o e hx
  exact there b o' (neC b o e hx) e1
 ·obtain⟨m1,e1⟩:=I.base.tbls b ps e
  obtain⟨m2,e2⟩:=tbls b _ e1
  exact⟨m1 ++ m2,by rw [e2,Array.append_assoc]⟩
 ·obtain⟨m,hn,hl⟩:=I.loc
  refine⟨m,ns m hn,fun i x v e1 e2 e3=>?_⟩
  obtain⟨u,r,l⟩:=hl i x v e1 e2 e3
  refine⟨u,r,?_⟩
  rcases l with l | ⟨k,c,e,z⟩
  ·exact .inl l
  ·exact .inr ⟨k,c,e,cellK x c e _ z⟩
 ·obtain⟨v,z⟩:=I.cell x c e
  exact⟨v,cellK x c e v z⟩
 ·obtain⟨m,⟨o,_,_,ho,_⟩,_⟩:=I.loc
  exact free _ o (fun z=>(hch _ z).2.1 rfl) ho I.free
 ·obtain⟨v,o,ho,hd⟩:=I.cell x c e
  exact free c o (fun z=>(hch c z).2.2.1 x c e rfl) ho (I.freeC x c e)
 ·obtain⟨e,n,ne,nf,d⟩:=I.pin p hp
  have nch:p.1∉ch:=fun z=>(hch p.1 z).2.2.2 p hp rfl
  exact⟨keep p.1 p.2 ne nf nch e n,free p.1 p.2 nch e n,ne,nf,d⟩
theorem Inv.un {t':Nat} (I:Inv X pins σ H s) (u:Un X.fs [] H H' s.heap h') (hok:tG X.prog X.w H' h'):Inv X pins σ H' { s with heap:=h',toks:=t' }:=by
 obtain⟨m,⟨o,es,ep,ho,r⟩,_⟩:=id I.loc
 obtain⟨sl,hL⟩:=u.any ho I.free (by simp)
 exact I.step (g':=s.gens) (d':=s.drawn) (ch:=[]) (fun _ z=>nomatch z) (fun b o _ hb _ e n=>u.keep b o e n hb (by simp)) (fun b o _ hb _ e n=>u.slot b o e n hb (by simp)) (fun b o _ e n=>u.free b o e n (by simp)) (fun b o _ e=>u.there b o e (by simp)) u.tups u.frzs u.tbls (fun m' hm=>by
  obtain⟨o',es',ep',ho',r'⟩:=hm
  rw [ho] at ho';cases ho'
  exact⟨_,es',ep',hL,r'⟩) hok I.bare
theorem Inv.call {g':Array GenState} {t':Nat} {d':Drawn} {ch:List Addr} (I:Inv X pins σ H s) (u:Un (frs X.stack) ch H H' s.heap h') (hok:tG X.prog X.w H' h') (hg:AllBare g')
  (hch:∀b∈ch,(b∈X.ex∨X.s₀.heap.objs.size<=b)/\b≠X.env.locals/\(∀x c,X.env.cells.lookup x=some c->c≠b)/\∀p∈X.pn ++ pins,p.1≠b):
  Inv X pins σ H' { s with heap:=h',gens:=g',drawn:=d',toks:=t' }:=by
 obtain⟨m,⟨o,es,ep,ho,r⟩,_⟩:=id I.loc
 obtain⟨sl,hL⟩:=u.any ho I.free fun z=>(hch _ z).2.1 rfl
 exact I.step (ch:=ch) hch (fun b o hL hb hc e n=>u.keep b o e n (fun z=>(List.mem_cons.mp (I.stkSub b z)).elim hL hb) hc) (fun b o _ _ hc e n=>u.any e n hc) (fun b o hc e n=>u.free b o e n hc) (fun b o hc e=>u.there b o e hc) u.tups u.frzs u.tbls (fun m' hm=>by
  obtain⟨o',es',ep',ho',r'⟩:=hm
  rw [ho] at ho';cases ho'
  exact⟨_,es',ep',hL,r'⟩) hok hg
theorem Inv.turned {t':Nat} {it:Addr} (I:Inv X pins σ H s) (k:∀b o,b≠it->s.heap.get? b=some o->h'.get? b=some o) (hn:H it=none) (hL:it≠X.env.locals)
  (h1:it∈X.ex∨X.s₀.heap.objs.size<=it) (h2:∀x c,X.env.cells.lookup x=some c->c≠it) (h3:∀p∈X.pn ++ pins,p.1≠it):Inv X pins σ H { s with heap:=h',toks:=t' }:=by
 have nit:∀b u,H b=some u->b≠it:=fun b u e z=>by rw [z,hn] at e;cases e
 refine I.step (g':=s.gens) (d':=s.drawn) (ch:=[it]) (fun b hb=>?_) (fun b o _ _ hc e _=>k b o (fun z=>hc (by simp [z])) e) (fun b o _ _ hc e _=>⟨o.slots,k b o (fun z=>hc (by simp [z])) e⟩) (fun _ _ _ _ n=>n)
  (fun b o hc e=>⟨o,k b o (fun z=>hc (by simp [z])) e⟩) (fun _ _ e=>e) (fun _ _ _ e=>e) (fun b ps e=>⟨#[],by rw [e];simp⟩) (fun m hm=>?_) (fun b u e=>?_) I.bare
 ·have e:b=it:=by simpa using hb
  subst e
  exact⟨h1,hL,h2,h3⟩
 ·obtain⟨o,es,ep,ho,r⟩:=hm
  exact⟨o,es,ep,k _ o (Ne.symm hL) ho,r⟩
 ·refine(I.hok b u e).stay (fun c v hc q=>k c v ?_ q) (fun _ q=>q) fun _ _ q=>q
  rcases hc with z | z
  ·rw [z];exact nit b u e
  ·exact nit c _ z
theorem Inv.tok (I:Inv X pins σ H s) (t:Nat):Inv X pins σ H { s with toks:=t }:=I.un (h':=s.heap) (t':=t) Un.refl I.hok
theorem Inv.kept {t':Nat} (I:Inv X pins σ H s) (k:∀b u,s.heap.get? b=some u->h'.get? b=some u):Inv X pins σ H { s with heap:=h',toks:=t' }:=I.un (Un.kept k) (I.hok.kept k)
theorem Inv.laid {a:Addr} {o:HO} {t':Nat} (I:Inv X pins σ H s) (k:∀b u,s.heap.get? b=some u->h'.get? b=some u) (hp:s.heap.objs.size<=a) (new:fK X.prog X.w (upd H a o) h' a o):
  Inv X pins σ (upd H a o) { s with heap:=h',toks:=t' }:=I.un (Un.laid k hp (I.hok.fresh hp)) (I.hok.laid k hp new)
theorem Inv.write {x e:Addr} {o:HO} {t':Nat} (I:Inv X pins σ H s) (mu:Tz (H x)) (he:e=x∨H e=some (.own x)) (k:∀b u,b≠e->s.heap.get? b=some u->h'.get? b=some u) (heo:∃u,h'.get? e=some u)
  (new:fK X.prog X.w (upd H x o) h' x o):Inv X pins σ (upd H x o) { s with heap:=h',toks:=t' }:=I.un (Un.write mu he k heo) (I.hok.write mu he k heo new)
theorem Inv.weak {σ':List (Option V)} (I:Inv X pins σ H s) (hl:σ'.length=σ.length) (w:∀(i:Nat) v,σ'[i]?=some (some v)->σ[i]?=some (some v)):Inv X pins σ' H s:=
 ⟨I.ok,I.os,I.bare,I.base,let ⟨m,hn,hl'⟩:=I.loc;⟨m,hn,fun i x v e1 e2 e3=>hl' i x v e1 (w i v e2) e3⟩,I.cell,I.free,I.freeC,I.pin,I.hok,hl.trans I.len⟩
theorem Inv.pins_of {pins':List (Addr×Obj)} (I:Inv X pins σ H s) (h:∀p∈pins',s.heap.get? p.1=some p.2/\H p.1=none/\p.1≠X.env.locals/\p.1∉X.fs/\∀v,p.2.data≠.cell v):Inv X pins' σ H s:=
 ⟨I.ok,I.os,I.bare,I.base,I.loc,I.cell,I.free,I.freeC,fun p hp=>(List.mem_append.mp hp).elim (fun z=>I.pin p (List.mem_append_left _ z)) (h p),I.hok,I.len⟩
theorem Gy {N:List Str} (hN:N.Nodup) {i j:Nat} {x:Str} (a:N[i]?=some x) (b:N[j]?=some x):i=j:=by
 obtain⟨h1,e1⟩:=List.getElem?_eq_some_iff.mp a
 obtain⟨h2,e2⟩:=List.getElem?_eq_some_iff.mp b
 exact(List.getElem_inj hN).mp (e1.trans e2.symm)
theorem wU {M:Model} {A:Around} {E:Value->Shared->Prop} {i:Nat} {x:Str} {v:V} {u:Value} {Q:Unit->Shared->Prop} (I:Inv X pins σ H s) (hN:X.N.Nodup) (hi:X.N[i]?=some x) (hx:Loc X.env.scope x) (r:RelV v u)
  (h:∀s',Inv X pins (σ.set i (some v)) H s'->(∃a,Heap.SameBut a s.heap s'.heap/\(a=X.env.locals∨X.env.cells.lookup x=some a))->Q () s') (hf:X.fn x=true∨X.env.scope.names.lookup x=some .local:=by first | exact .inl rfl | exact .inr rfl | assumption):wpAny M A (storeName X.env x u) Q E s:=by
 obtain⟨m,hn,hl⟩:=id I.loc
 have hcls:(X.env.scope.kind == .class || (X.env.scope.kind == .module && X.env.locals != X.env.globals))=false:=by rw [I.ok.kind];rfl
 have hiσ:i <σ.length:=by rw [I.len];exact(List.getElem?_eq_some_iff.mp hi).1
 have cne:=I.cne
 have tracked:∀{a:Addr} {h':Heap},(∃o,s.heap.get? a=some o/\H a=none)->Heap.SameBut a s.heap h'->tG X.prog X.w H h':=fun {a h'} ha hs b ob e=>by
  obtain⟨_,_,hfree⟩:=ha
  refine(I.hok b ob e).stay (fun c w' hc q=>(hs.2 c ?_).trans q) (fun _ q=>q) fun _ _ q=>q
  rintro rfl
  rcases hc with rfl | hc
  ·rw [hfree] at e;cases e
  ·rw [hfree] at hc;cases hc
 rcases hx with hk | hk
 ·refine wpAny_storeName_local hk hn (fun h' hn' hs=>?_) hcls
  obtain⟨oL,_,_,hoL,_⟩:=id hn
  refine h _ ⟨I.ok,I.os,I.bare,⟨fun b o e n hb hx=>?_,fun b o e n hb hx=>?_,I.base.free,fun b o e hx=>?_,I.base.tups,I.base.frzs,I.base.tbls⟩,⟨_,hn',fun j y v' e1 e2 e3=>?_⟩,fun y c e=>?_,I.free,I.freeC,fun p hp=>?_,tracked ⟨oL,hoL,I.free⟩ hs,by simpa using I.len⟩ ⟨_,hs,.inl rfl⟩
  ·exact(hs.2 b (Nat.ne_of_lt (Nat.lt_of_lt_of_le (Heap.lt_size e) I.ok.above))).trans (I.base.keep b o e n hb hx)
  ·obtain⟨sl,e1⟩:=I.base.slot b o e n hb hx
   exact⟨sl,(hs.2 b (Nat.ne_of_lt (Nat.lt_of_lt_of_le (Heap.lt_size e) I.ok.above))).trans e1⟩
  ·obtain⟨o',e1⟩:=I.base.there b o e hx
   exact⟨o',(hs.2 b (Nat.ne_of_lt (Nat.lt_of_lt_of_le (Heap.lt_size e) I.ok.above))).trans e1⟩
  ·by_cases hj:j=i
   ·subst hj
    rw [hi] at e1;cases e1
    rw [List.getElem?_set_self hiσ] at e2
    cases e2
    exact⟨u,r,.inl ⟨hk,by simp⟩⟩
   ·rw [List.getElem?_set_ne (Ne.symm hj)] at e2
    obtain⟨u',r',q⟩:=hl j y v' e1 e2 e3
    refine⟨u',r',?_⟩
    rcases q with ⟨k,e⟩ | ⟨k,c,e,z⟩
    ·refine .inl ⟨k,?_⟩
     have:y≠x:=fun e=>hj (Gy hN e1 (e ▸ hi))
     simp [this,e]
    ·exact .inr ⟨k,c,e,z.sameBut hs (cne y c e)⟩
  ·obtain⟨w',z⟩:=I.cell y c e
   exact⟨w',z.sameBut hs (cne y c e)⟩
  ·obtain⟨e,n,ne,nf,d⟩:=I.pin p hp
   exact⟨(hs.2 p.1 ne).trans e,n,ne,nf,d⟩
 ·have hfn:X.fn x=true:=by
   rcases hf with z | z
   ·exact z
   ·rw [z] at hk;cases hk
  obtain⟨c,hc⟩:=I.ok.has x (.inl hk)
  obtain⟨w',z⟩:=I.cell x c hc
  refine wpAny_storeName_cell I.ok.kind hk hc z (fun h' hc' hs=>?_)
  obtain⟨oc,hoc,hocd⟩:=id z
  refine h { s with heap:=h' } ⟨I.ok,I.os,I.bare,⟨fun b o e n hb hx=>?_,fun b o e n hb hx=>?_,I.base.free,fun b o e hx=>?_,I.base.tups,I.base.frzs,I.base.tbls⟩,⟨m,hn.sameBut hs (Ne.symm (cne x c hc)),fun j y v' e1 e2 e3=>?_⟩,fun y c' e=>?_,I.free,I.freeC,fun p hp=>?_,tracked ⟨oc,hoc,I.freeC x c hc⟩ hs,by simpa using I.len⟩ ⟨c,hs,.inr hc⟩
  ·exact(hs.2 b (Nat.ne_of_lt (Nat.lt_of_lt_of_le (Heap.lt_size e) (I.ok.cab x c hfn hc)))).trans (I.base.keep b o e n hb hx)
  ·obtain⟨sl,e1⟩:=I.base.slot b o e n hb hx
   exact⟨sl,(hs.2 b (Nat.ne_of_lt (Nat.lt_of_lt_of_le (Heap.lt_size e) (I.ok.cab x c hfn hc)))).trans e1⟩
  ·obtain⟨o',e1⟩:=I.base.there b o e hx
   exact⟨o',(hs.2 b (Nat.ne_of_lt (Nat.lt_of_lt_of_le (Heap.lt_size e) (I.ok.cab x c hfn hc)))).trans e1⟩
  ·by_cases hj:j=i
   ·subst hj
    rw [hi] at e1;cases e1
    rw [List.getElem?_set_self hiσ] at e2
    cases e2
    exact⟨u,r,.inr ⟨.inl hk,c,hc,hc'⟩⟩
   ·rw [List.getElem?_set_ne (Ne.symm hj)] at e2
    obtain⟨u',r',q⟩:=hl j y v' e1 e2 e3
    refine⟨u',r',?_⟩
    rcases q with q | ⟨k,c',e,z'⟩
    ·exact .inl q
    ·refine .inr ⟨k,c',e,z'.sameBut hs ?_⟩
     rintro rfl
     exact hj (Gy hN e1 (I.ok.inj _ _ _ e hc ▸ hi))
  ·by_cases hcc:c'=c
   ·subst hcc;exact⟨_,hc'⟩
   ·obtain⟨w2,z2⟩:=I.cell y c' e
    exact⟨w2,z2.sameBut hs hcc⟩
  ·obtain⟨e,n,ne,nf,d⟩:=I.pin p hp
   refine⟨(hs.2 p.1 ?_).trans e,n,ne,nf,d⟩
   intro q
   rw [q,hoc] at e
   have q':oc=p.2:=Option.some.inj e
   exact d w' (by rw [<-q'];exact hocd)
theorem yL {M:Model} {A:Around} {E:Value->Shared->Prop} {i:Nat} {x:Str} {v:V} {u:Value} {Q:Unit->Shared->Prop} (I:Inv X pins σ H s) (hN:X.N.Nodup) (hi:X.N[i]?=some x) (hx:Loc X.env.scope x) (r:RelV v u)
  (h:∀s',Inv X pins (σ.set i (some v)) H s'->Q () s') (hf:X.fn x=true∨X.env.scope.names.lookup x=some .local:=by first | exact .inl rfl | exact .inr rfl | assumption):wpAny M A (storeName X.env x u) Q E s:=
 wU I hN hi hx r (fun s' I' _=>h s' I') hf
theorem Inv.call' {s':Shared} {ch:List Addr} (I:Inv X pins σ H s) (ho:s'.os=s.os) (u:Un (frs X.stack) ch H H' s.heap s'.heap) (hok:tG X.prog X.w H' s'.heap) (hg:AllBare s'.gens)
  (hch:∀b∈ch,(b∈X.ex∨X.s₀.heap.objs.size<=b)/\b≠X.env.locals/\(∀x c,X.env.cells.lookup x=some c->c≠b)/\∀p∈X.pn ++ pins,p.1≠b):Inv X pins σ H' s':=by
 obtain⟨h',g',d',t',o'⟩:=s'
 have e:o'=s.os:=ho
 subst e
 exact I.call (g':=g') (t':=t') (d':=d') u hok hg hch
end
noncomputable abbrev XK:=Value->Option Addr->Hp->Prop
noncomputable abbrev St:=List (Option V)
noncomputable abbrev VK:=V->Hp->Prop
noncomputable abbrev TE:=St->Hp->VK->Prop
noncomputable abbrev TT:=St->Hp->(Bool->Hp->Prop)->Prop
noncomputable abbrev TA:=St->Hp->(List V->Hp->Prop)->Prop
structure Ends where
 nx:St->Hp->Prop
 rt:VK
 bk:St->Hp->Prop:=fun _ _=>False
 ct:St->Hp->Prop:=fun _ _=>False
noncomputable abbrev TS:=Ends->St->Hp->Prop
noncomputable def EP (X:Cx) (pins:List (Addr×Obj)) (σ:St) (Q:VK) (u:Value) (s':Shared):Prop:=∃v H',Inv X pins σ H' s'/\RelV v u/\Q v H'
noncomputable def TP (X:Cx) (pins:List (Addr×Obj)) (σ:St) (Q:Bool->Hp->Prop) (b:Bool) (s':Shared):Prop:=∃H',Inv X pins σ H' s'/\Q b H'
noncomputable def AP (X:Cx) (pins:List (Addr×Obj)) (σ:St) (Q:List V->Hp->Prop) (us:List Value) (s':Shared):Prop:=∃vs H',Inv X pins σ H' s'/\Vals vs us/\Q vs H'
noncomputable def SP (X:Cx) (pins:List (Addr×Obj)) (D:Ends) (f:Flow) (s':Shared):Prop:=
 match f with
 | .next=>∃σ' H',Inv X pins σ' H' s'/\D.nx σ' H'
 | .brk=>∃σ' H',Inv X pins σ' H' s'/\D.bk σ' H'
 | .cont=>∃σ' H',Inv X pins σ' H' s'/\D.ct σ' H'
 | .ret u=>∃v σ' H',Inv X pins σ' H' s'/\RelV v u/\D.rt v H'
noncomputable def PE (X:Cx) (e:Expr) (t:TE):Prop:=
 ∀(pins:List (Addr×Obj)) (s:Shared) (σ:St) (H:Hp) (Q:VK),Inv X pins σ H s->t σ H Q->wpAny (model X.prog X.w) X.A (eval e X.env) (EP X pins σ Q) X.xe s
noncomputable def PT (X:Cx) (e:Expr) (t:TT):Prop:=
 ∀(pins:List (Addr×Obj)) (s:Shared) (σ:St) (H:Hp) (Q:Bool->Hp->Prop),Inv X pins σ H s->t σ H Q->wpAny (model X.prog X.w) X.A (isTrue e X.env (eval e X.env)) (TP X pins σ Q) X.xe s
noncomputable def PW (X:Cx) (e:Expr) (t:TT):Prop:=
 ∀(whole:Sem Value) (pins:List (Addr×Obj)) (s:Shared) (σ:St) (H:Hp) (Q:Bool->Hp->Prop),Inv X pins σ H s->t σ H Q->wpAny (model X.prog X.w) X.A (isTrue e X.env whole) (TP X pins σ Q) X.xe s
theorem PW.pt {X:Cx} {e:Expr} {t:TT} (h:PW X e t):PT X e t:=h _
noncomputable def PA (X:Cx) (es:List Expr) (t:TA):Prop:=
 ∀(pos:Pos) (pins:List (Addr×Obj)) (s:Shared) (σ:St) (H:Hp) (Q:List V->Hp->Prop),Inv X pins σ H s->t σ H Q->wpAny (model X.prog X.w) X.A (spliced (backTo pos (starEach es X.env))) (AP X pins σ Q) X.xe s
noncomputable def PS (X:Cx) (st:Stmt) (t:TS):Prop:=
 ∀(pins:List (Addr×Obj)) (s:Shared) (σ:St) (H:Hp) (D:Ends),Inv X pins σ H s->t D σ H->wpAny (model X.prog X.w) X.A (exec st X.env) (SP X pins D) X.xe s
noncomputable def Kv (X:Cx) (st:List Stmt) (t:TS):Prop:=
 ∀(pins:List (Addr×Obj)) (s:Shared) (σ:St) (H:Hp) (D:Ends),Inv X pins σ H s->t D σ H->wpAny (model X.prog X.w) X.A (execs st X.env) (SP X pins D) X.xe s
theorem dJ {α:Type} {t:Sem α} {Q Q':α->Shared->Prop} {M:Model} {A:Around} {E:Value->Shared->Prop} {s:Shared} (h:wpAny M A t Q E s) (hQ:∀a s,Q a s->Q' a s):wpAny M A t Q' E s:=wpAny_mono h hQ fun _ _ x=>x
section
variable {X:Cx}
inductive QC (i:Nat) (σ:St) (H:Hp) (Q:VK):Prop where
 | mk:∀v,σ[i]?=some (some v)->Q v H->QC i σ H Q
noncomputable def yu (i:Nat):TE:=fun σ H Q=>QC i σ H Q
noncomputable def tC (v:V):TE:=fun _ H Q=>Q v H
theorem Rp {i:Nat} {x:Str} {pos:Pos} (hN:X.N[i]?=some x) (hv:UW X.env.scope x) (hd:(x == ("__debug__" :Str))=false:=by decide) (hcd:(x == ("__classdict__" :Str))=false:=by decide):PE X (.Name x pos) (yu i):=by
 intro pins s σ H Q I h
 obtain⟨v,e,h⟩:=h
 obtain⟨m,hn,hl⟩:=I.loc
 obtain⟨u,r,l⟩:=hl i x v hN e hv
 have fin:EP X pins σ Q u s:=⟨v,H,I,r,h⟩
 rcases l with ⟨hk,hm⟩ | ⟨hk,c,hc,hcell⟩
 ·exact wpAny_Name (wpAny_loadName_local I.ok.kind hk hn hm fin) hd
 ·rcases hk with hk | hk
  ·exact wpAny_Name (wpAny_loadName_cell I.ok.kind hk hc hcell fin) hd
  ·exact wpAny_Name (wpAny_loadName_free I.ok.kind hk hc hcell fin hcd) hd
theorem aq {i j pos}:PE X (.Constant (.int i) j pos) (tC (.int i)):=fun _ _ _ H _ I h=>wpAny_Constant_int ⟨.int i,H,I.tok _,⟨_,rfl⟩,h⟩
theorem iT {b j pos}:PE X (.Constant (.bool b) j pos) (tC (.bl b)):=fun _ _ _ H _ I h=>Constant_bool ⟨.bl b,H,I,rfl,h⟩
theorem Cw {j pos}:PE X (.Constant .none j pos) (tC .non):=fun _ _ _ H _ I h=>Constant_none ⟨.non,H,I,rfl,h⟩
theorem bN {x j pos}:PE X (.Constant (.str x) j pos) (tC (.str x)):=fun _ _ _ H _ I h=>Calls.Constant_str ⟨.str x,H,I.tok _,⟨_,rfl⟩,h⟩
noncomputable def Gl (X:Cx) (x:Str):Prop:=X.env.kindOf x=some .globalImplicit
theorem Ei {E:Value->Shared->Prop} {pins:List (Addr×Obj)} {s:Shared} {σ:St} {H:Hp} {x:Str} {u:Value} {pos:Pos} {Q:Value->Shared->Prop} (I:Inv X pins σ H s) (hg:Gl X x) (hm:X.mg x=some u) (h:Q u s)
  (hd:(x == ("__debug__" :Str))=false:=by decide):wpAny (model X.prog X.w) X.A (eval (.Name x pos) X.env) Q E s:=
 Calls.Name_function_global I.ok.kind hg (Calls.loadGlobal_global (by rw [I.ok.glob];exact I.mod.glob.keeps I.bk) hm h) hd
theorem CV {E:Value->Shared->Prop} {pins:List (Addr×Obj)} {s:Shared} {σ:St} {H:Hp} {x:Str} {u:Value} {pos:Pos} {Q:Value->Shared->Prop} (I:Inv X pins σ H s) (hg:Gl X x) (hm:X.mg x=none) (hv:bootBuiltins x=some u) (h:Q u s)
  (hn:x≠ "__name__" :=by decide) (hd:(x == ("__debug__" :Str))=false:=by decide):wpAny (model X.prog X.w) X.A (eval (.Name x pos) X.env) Q E s:=by
 obtain⟨mb,h1,h2⟩:=I.mod.blt
 exact Calls.Name_function_global I.ok.kind hg (Calls.loadGlobal_builtin (by rw [I.ok.glob];exact I.mod.glob.keeps I.bk) hm (by rw [I.ok.blt];exact h1.keeps I.bk) ((h2 x hn).trans hv) h) hd
theorem Do {x:Str} {v:V} {u:Value} {pos:Pos} (hg:Gl X x) (hm:X.mg x=some u) (r:RelV v u) (hd:(x == ("__debug__" :Str))=false:=by decide):PE X (.Name x pos) (tC v):=
 fun _ _ _ H _ I h=>Ei I hg hm ⟨v,H,I,r,h⟩ hd
theorem O6 {x:Str} {v:V} {u:Value} {pos:Pos} (hg:Gl X x) (hm:X.mg x=none) (hv:bootBuiltins x=some u) (r:RelV v u) (hn:x≠ "__name__" :=by decide) (hd:(x == ("__debug__" :Str))=false:=by decide):PE X (.Name x pos) (tC v):=
 fun _ _ _ H _ I h=>CV I hg hm hv ⟨v,H,I,r,h⟩ hn hd
variable {a b:Expr} {ta tb:TE} {pos:Pos}
noncomputable def PC (X:Cx) (op:CmpOp) (a b:Expr) (t:TE):Prop:=
 ∀(pins:List (Addr×Obj)) (s:Shared) (σ:St) (H:Hp) (Q:VK),Inv X pins σ H s->t σ H Q->
  wpAny (model X.prog X.w) X.A (eval a X.env) (fun v s₁=>wpAny (model X.prog X.w) X.A (eval b X.env) (fun u s₂=>wpAny (model X.prog X.w) X.A (compareOp op v u) (EP X pins σ Q) X.xe s₂) X.xe s₁) X.xe s
theorem Fp (b:Expr) {op:CmpOp} (h:op≠.In) (h2:op≠.NotIn):behindInMarks op b=false:=by
 have e1:(op == CmpOp.In)=false:=by cases op <;> first | rfl | exact absurd rfl h
 have e2:(op == CmpOp.NotIn)=false:=by cases op <;> first | rfl | exact absurd rfl h2
 cases b <;> simp [behindInMarks,e1,e2]
noncomputable def Vr (ta:TE):TE:=fun σ H Q=>ta σ H fun x H1=>Q (.bl (decide (x=.non))) H1
noncomputable def QG (ta:TE):TE:=fun σ H Q=>ta σ H fun x H1=>Q (.bl (!decide (x=.non))) H1
theorem RelV.none_iff {x:V} {v:Value} (r:RelV x v):(v == Value.none)=decide (x=.non):=by
 cases x with
 | non=>cases r;rfl
 | bl _=>cases r;rfl
 | int _=>obtain⟨t,rfl⟩:=r;rfl
 | str _=>obtain⟨t,rfl⟩:=r;rfl
 | byt _=>obtain⟨t,rfl⟩:=r;rfl
 | flt _=>obtain⟨t,rfl⟩:=r;rfl
 | ref _=>cases r;rfl
 | ty _=>cases r;rfl
theorem Hr {j pos'} (ha:PE X a ta):PC X .Is a (.Constant .none j pos') (Vr ta):=by
 intro pins s σ H Q I h
 refine dJ (ha pins s σ H _ I h) fun v s1 hpt=>?_
 obtain⟨x,H1,I1,r1,q1⟩:=hpt
 exact Constant_none (is_none_gen ⟨.bl _,H1,I1,by rw [r1.none_iff];rfl,q1⟩)
theorem Jw {j pos'} (ha:PE X a ta):PC X .IsNot a (.Constant .none j pos') (QG ta):=by
 intro pins s σ H Q I h
 refine dJ (ha pins s σ H _ I h) fun v s1 hpt=>?_
 obtain⟨x,H1,I1,r1,q1⟩:=hpt
 exact Constant_none (isnot_none_gen ⟨.bl _,H1,I1,by rw [r1.none_iff];rfl,q1⟩)
inductive Wk (Q:Bool->Hp->Prop) (x:V) (H1:Hp):Prop where
 | mk:∀c,x=.bl c->Q c H1->Wk Q x H1
noncomputable def tB (t:TE):TT:=fun σ H Q=>t σ H fun x H1=>Wk Q x H1
theorem Dp {op:CmpOp} {t:TE} (h:PC X op a b t) (h1:behindInMarks op b=false:=by first | exact Fp _ (by decide) (by decide) | rfl):PE X (.Compare a [op] [b] pos) t:=fun pins s σ H Q I hw=>wpAny_Compare1 (h pins s σ H Q I hw) h1
theorem kO {op:CmpOp} {t:TE} (h:PC X op a b t) (h1:behindInMarks op b=false:=by first | exact Fp _ (by decide) (by decide) | rfl):PT X (.Compare a [op] [b] pos) (tB t):=by
 intro pins s σ H Q I hw
 refine wpAny_isTrue_Compare1 (dJ (h pins s σ H _ I hw) fun v s1 h1=>dJ h1 fun u s2 h2=>dJ h2 fun c s3 hpt=>?_) h1
 obtain⟨x,H1,I1,r1,q1⟩:=hpt
 obtain⟨d,rfl,q⟩:=q1
 cases r1
 exact wpAny_truthy_bool ⟨H1,I1,q⟩
theorem fJ {e:Expr} {t:TE} (h:PE X e t) (he:∀whole,isTrue e X.env whole=(do let v <-whole;standAt e.pos;holding [v] (truthy v)):=by intro _;rfl):PT X e (tB t):=by
 intro pins s σ H Q I hw
 refine isTrue_plain (dJ (h pins s σ H _ I hw) fun v s1 ⟨x,H1,I1,r1,q1⟩=>?_) (he _)
 obtain⟨d,rfl,q⟩:=q1
 cases r1
 exact wpAny_truthy_bool ⟨H1,I1,q⟩
variable {tA tB':TT} {rest:List Expr}
noncomputable def Ve (t u:TT):TT:=fun σ H Q=>t σ H fun c H1=>if c=true then u σ H1 Q else Q false H1
noncomputable def tOr (t u:TT):TT:=fun σ H Q=>t σ H fun c H1=>if c=true then Q true H1 else u σ H1 Q
noncomputable def Wg (t:TT):TT:=fun σ H Q=>t σ H fun c H1=>Q (!c) H1
theorem uP (ha:PT X a tA):PW X (.BoolOp .And [a] pos) tA:=by
 intro wh pins s σ H Q I h
 refine isTrue_and (dJ (ha pins s σ H Q I h) fun c s1 e=>?_)
 cases c with
 | true=>exact isTrue_and_nil e
 | false=>exact e
theorem lg (ha:PT X a tA):PW X (.BoolOp .Or [a] pos) tA:=by
 intro wh pins s σ H Q I h
 refine isTrue_or (dJ (ha pins s σ H Q I h) fun c s1 e=>?_)
 cases c with
 | false=>exact isTrue_or_nil e
 | true=>exact e
theorem wI (ha:PT X a tA) (hb:PW X (.BoolOp .And (b:: rest) pos) tB'):PW X (.BoolOp .And (a:: b:: rest) pos) (Ve tA tB'):=by
 intro wh pins s σ H Q I h
 refine isTrue_and (dJ (ha pins s σ H _ I h) fun c s1 hpt=>?_)
 obtain⟨H1,I1,q1⟩:=hpt
 cases c with
 | true=>exact hb wh pins s1 σ H1 Q I1 q1
 | false=>exact⟨H1,I1,q1⟩
theorem pJ (ha:PT X a tA) (hb:PW X (.BoolOp .Or (b:: rest) pos) tB'):PW X (.BoolOp .Or (a:: b:: rest) pos) (tOr tA tB'):=by
 intro wh pins s σ H Q I h
 refine isTrue_or (dJ (ha pins s σ H _ I h) fun c s1 hpt=>?_)
 obtain⟨H1,I1,q1⟩:=hpt
 cases c with
 | true=>exact⟨H1,I1,q1⟩
 | false=>exact hb wh pins s1 σ H1 Q I1 q1
theorem fU (ha:PT X a tA):PT X (.UnaryOp .Not a pos) (Wg tA):=by
 intro pins s σ H Q I h
 exact isTrue_not (ha pins s σ H (fun c H1=>Q (!c) H1) I h)
inductive Mm (tb:TE) (σ:St) (Q:VK) (x:V) (H1:Hp):Prop where
 | mk:∀c,x=.bl c->(if c=true then tb σ H1 Q else Q (.bl false) H1)->Mm tb σ Q x H1
noncomputable def Tt (ta tb:TE):TE:=fun σ H Q=>ta σ H fun x H1=>Mm tb σ Q x H1
inductive Q8 (tb:TE) (σ:St) (Q:VK) (x:V) (H1:Hp):Prop where
 | mk:∀c,x=.bl c->(if c=true then Q (.bl true) H1 else tb σ H1 Q)->Q8 tb σ Q x H1
noncomputable def VP (ta tb:TE):TE:=fun σ H Q=>ta σ H fun x H1=>Q8 tb σ Q x H1
inductive Ng (Q:VK) (x:V) (H1:Hp):Prop where
 | mk:∀c,x=.bl c->Q (.bl (!c)) H1->Ng Q x H1
noncomputable def Tw (ta:TE):TE:=fun σ H Q=>ta σ H fun x H1=>Ng Q x H1
theorem uy {op} {t:TE} (h:PE X a t):PE X (.BoolOp op [a] pos) t:=fun pins s σ H Q I hw=>BoolOp_one (h pins s σ H Q I hw)
theorem uJ (ha:PE X a ta) (hb:PE X (.BoolOp .And (b:: rest) pos) tb):PE X (.BoolOp .And (a:: b:: rest) pos) (Tt ta tb):=by
 intro pins s σ H Q I h
 refine BoolOp_and (dJ (ha pins s σ H _ I h) fun v s1 hpt=>?_)
 obtain⟨x,H1,I1,r1,q1⟩:=hpt
 obtain⟨c,rfl,q1⟩:=q1
 cases r1
 refine wpAny_truthy_bool ?_
 cases c with
 | true=>exact hb pins s1 σ H1 Q I1 q1
 | false=>exact⟨.bl false,H1,I1,rfl,q1⟩
theorem Tp (ha:PE X a ta) (hb:PE X (.BoolOp .Or (b:: rest) pos) tb):PE X (.BoolOp .Or (a:: b:: rest) pos) (VP ta tb):=by
 intro pins s σ H Q I h
 refine BoolOp_or (dJ (ha pins s σ H _ I h) fun v s1 hpt=>?_)
 obtain⟨x,H1,I1,r1,q1⟩:=hpt
 obtain⟨c,rfl,q1⟩:=q1
 cases r1
 refine wpAny_truthy_bool ?_
 cases c with
 | false=>exact hb pins s1 σ H1 Q I1 q1
 | true=>exact⟨.bl true,H1,I1,rfl,q1⟩
theorem Sq (ha:PE X a ta):PE X (.UnaryOp .Not a pos) (Tw ta):=by
 intro pins s σ H Q I h
 refine UnaryOp_ (dJ (ha pins s σ H _ I h) fun v s1 hpt=>?_)
 obtain⟨x,H1,I1,r1,q1⟩:=hpt
 obtain⟨c,rfl,q1⟩:=q1
 cases r1
 exact not_of (wpAny_truthy_bool ⟨.bl (!c),H1,I1,rfl,q1⟩)
noncomputable def tIf (t:TT) (ta tb:TE):TE:=fun σ H Q=>t σ H fun c H1=>if c=true then ta σ H1 Q else tb σ H1 Q
theorem zg {c:Expr} (hc:PT X c tA) (ha:PE X a ta) (hb:PE X b tb):PE X (.IfExp c a b pos) (tIf tA ta tb):=by
 intro pins s σ H Q I h
 refine wpAny_IfExp (dJ (hc pins s σ H _ I h) fun d s1 hpt=>?_)
 obtain⟨H1,I1,q1⟩:=hpt
 cases d with
 | true=>exact ha pins s1 σ H1 Q I1 q1
 | false=>exact hb pins s1 σ H1 Q I1 q1
end
noncomputable def bT (K:PySem.W.Frag) (H:Hp) (a:Addr) (xs:List V):Prop:=
 Rd H a (.lst xs)∨
  ∃(o:Obj) (its:Array Value) (n:Nat),K.lookup a=some o/\o.cls=.type "list" /\o.dict=none/\o.data=.seq its n/\its.size<=sizeLine/\Vals xs its.toList
noncomputable def gK (K:PySem.W.Frag) (H:Hp) (a:Addr) (xs:List V):Prop:=
 Rd H a (.tup xs)∨
  ∃(o:Obj) (its:Array Value) (n:Nat),K.lookup a=some o/\o.cls=.type "tuple" /\o.data=.seq its n/\its.size<=sizeLine/\Vals xs its.toList
noncomputable def VN:Value->Option V
 | .none=>some .non
 | .bool b=>some (.bl b)
 | .int i _=>some (.int i)
 | .str x _=>some (.str x)
 | .bytes b _=>some (.byt b)
 | .float b _=>some (.flt b)
 | .ref a=>some (.ref a)
 | .type n=>some (.ty n)
 | _=>none
theorem RelV.abs {x:V} {u:Value} (r:RelV x u):VN u=some x:=by
 cases x with
 | non=>cases r;rfl
 | bl _=>cases r;rfl
 | int _=>obtain⟨t,rfl⟩:=r;rfl
 | str _=>obtain⟨t,rfl⟩:=r;rfl
 | byt _=>obtain⟨t,rfl⟩:=r;rfl
 | flt _=>obtain⟨t,rfl⟩:=r;rfl
 | ref _=>cases r;rfl
 | ty _=>cases r;rfl
theorem RelV.inj {x y:V} {u:Value} (r:RelV x u) (q:RelV y u):x=y:=Option.some.inj (r.abs.symm.trans q.abs)
theorem Vals.inj:∀{xs ys:List V} {us:List Value},Vals xs us->Vals ys us->xs=ys
 | _,_,_,.nil,.nil=>rfl
 | _,_,_,.cons r t,.cons r' t'=>by rw [r.inj r',Vals.inj t t']
section
variable {X:Cx} {pins:List (Addr×Obj)} {σ:St} {H:Hp} {s:Shared} {a:Addr} {xs ys:List V}
theorem bT.of {K:PySem.W.Frag} (h:H a=some (.lst xs)):bT K H a xs:=.inl (.inl h)
theorem gK.of {K:PySem.W.Frag} (h:H a=some (.tup xs)):gK K H a xs:=.inl (.inl h)
theorem Inv.list (I:Inv X pins σ H s) (h:bT X.K H a xs):∃its:List Value,Vals xs its/\PlainL s.heap a its.toArray/\xs.length<=sizeLine:=by
 rcases h with h | ⟨o,its,n,hk,hc,hd,hs,hz,r⟩
 ·obtain⟨z,its,n,r,e⟩:=h.ok I.hok
  exact⟨its,r,⟨_,n,e,rfl,rfl,rfl⟩,z⟩
 ·refine⟨its.toList,r,⟨o,n,I.kIn a o hk,hc,hd,by simpa using hs⟩,?_⟩
  have e:=r.length
  simp only [Array.length_toList] at e
  omega
theorem Inv.tuple (I:Inv X pins σ H s) (h:gK X.K H a xs):∃its:List Value,Vals xs its/\IsTup s.heap a its.toArray/\xs.length<=sizeLine:=by
 rcases h with h | ⟨o,its,n,hk,hc,hs,hz,r⟩
 ·obtain⟨z,its,r,p⟩:=h.ok I.hok
  exact⟨its,r,p,z⟩
 ·refine⟨its.toList,r,⟨o,I.kIn a o hk,hc,n,by simpa using hs⟩,?_⟩
  have e:=r.length
  simp only [Array.length_toList] at e
  omega
theorem Inv.list_inj (I:Inv X pins σ H s) (h:bT X.K H a xs) (h':bT X.K H a ys):xs=ys:=by
 obtain⟨its,r,⟨o,n,e,_,_,d⟩,_⟩:=I.list h
 obtain⟨its',r',⟨o',n',e',_,_,d'⟩,_⟩:=I.list h'
 rw [e] at e';cases e'
 rw [d] at d'
 injection d' with d1 _
 have:its=its':=by simpa using congrArg Array.toList d1
 subst this
 exact r.inj r'
theorem Inv.tuple_inj (I:Inv X pins σ H s) (h:gK X.K H a xs) (h':gK X.K H a ys):xs=ys:=by
 obtain⟨its,r,⟨o,e,_,n,d⟩,_⟩:=I.tuple h
 obtain⟨its',r',⟨o',e',_,n',d'⟩,_⟩:=I.tuple h'
 rw [e] at e';cases e'
 rw [d] at d'
 injection d' with d1 _
 have:its=its':=by simpa using congrArg Array.toList d1
 subst this
 exact r.inj r'
end
noncomputable abbrev Cx.wish (X:Cx) (E:Value->Shared->Prop):Cx:={ X with xe:=E }
noncomputable abbrev Cx.nox (X:Cx):Cx:=X.wish fun _ _=>False
theorem Cx.Ok.wish {X:Cx} (ok:X.Ok) (E:Value->Shared->Prop):(X.wish E).Ok:=
 ⟨ok.mod,ok.kind,ok.glob,ok.blt,ok.above,ok.inj,ok.has,ok.cab,ok.hd,ok.frames,ok.stk,ok.exf,ok.bs,ok.bsz,ok.noex,ok.exfs,ok.funs,ok.frf⟩
theorem Cx.Ok.unwish {X:Cx} {E:Value->Shared->Prop} (ok:(X.wish E).Ok):X.Ok:=
 ⟨ok.mod,ok.kind,ok.glob,ok.blt,ok.above,ok.inj,ok.has,ok.cab,ok.hd,ok.frames,ok.stk,ok.exf,ok.bs,ok.bsz,ok.noex,ok.exfs,ok.funs,ok.frf⟩
section
variable {X:Cx} {pins:List (Addr×Obj)} {σ:St} {H:Hp} {s:Shared} {E:Value->Shared->Prop}
theorem Inv.wish (I:Inv X pins σ H s) (E:Value->Shared->Prop):Inv (X.wish E) pins σ H s:=⟨I.ok.wish E,I.os,I.bare,I.base,I.loc,I.cell,I.free,I.freeC,I.pin,I.hok,I.len⟩
theorem Inv.unwish (I:Inv (X.wish E) pins σ H s):Inv X pins σ H s:=⟨I.ok.unwish,I.os,I.bare,I.base,I.loc,I.cell,I.free,I.freeC,I.pin,I.hok,I.len⟩
theorem SP.unwish {D:Ends} {f:Flow} {s':Shared} (h:SP (X.wish E) pins D f s'):SP X pins D f s':=by
 cases f with
 | next=>obtain⟨σ',H',I,q⟩:=h;exact⟨σ',H',I.unwish,q⟩
 | brk=>obtain⟨σ',H',I,q⟩:=h;exact⟨σ',H',I.unwish,q⟩
 | cont=>obtain⟨σ',H',I,q⟩:=h;exact⟨σ',H',I.unwish,q⟩
 | ret u=>obtain⟨v,σ',H',I,r,q⟩:=h;exact⟨v,σ',H',I.unwish,r,q⟩
theorem Kv.nox {st:List Stmt} {t:TS} (h:Kv X.nox st t):Kv X st t:=fun pins s σ H D I hw=>
 wpAny_mono (h pins s σ H D (I.wish _) hw) (fun _ _ q=>q.unwish) fun _ _ z=>False.elim z
end
section
variable {X:Cx} {st:Stmt} {rest:List Stmt} {t u:TS} {e:Expr} {te:TE} {pos:Pos}
noncomputable def Us:TS:=fun D σ H=>D.nx σ H
noncomputable def tH (t u:TS):TS:=fun D σ H=>t { D with nx:=u D } σ H
theorem bz:Kv X [] Us:=fun _ _ σ H _ I h=>wpAny_execs_nil ⟨σ,H,I,h⟩
theorem au (h1:PS X st t) (h2:Kv X rest u):Kv X (st:: rest) (tH t u):=by
 intro pins s σ H D I h
 refine wpAny_execs_cons (dJ (h1 pins s σ H { D with nx:=u D } I h) fun f s1 q=>?_)
 cases f with
 | next=>
  obtain⟨σ',H',I',q⟩:=q
  exact h2 pins s1 σ' H' D I' q
 | ret v=>exact q
 | brk=>exact q
 | cont=>exact q
theorem az (h1:PS X st t):Kv X [st] t:=by
 intro pins s σ H D I h
 refine wpAny_execs_cons (dJ (h1 pins s σ H D I h) fun f s1 q=>?_)
 cases f with
 | next=>exact wpAny_execs_nil q
 | ret v=>exact q
 | brk=>exact q
 | cont=>exact q
theorem Inv.quiet {pins:List (Addr×Obj)} {σ:St} {H:Hp} {s:Shared} (I:Inv X pins σ H s):interactive X.env=false:=by simp [interactive,I.ok.kind]
noncomputable def QR (te:TE):TS:=fun D σ H=>te σ H fun _ H1=>D.nx σ H1
theorem bJ (he:PE X e te) (hs:swapsWith e none pos.line X.env=pure false:=by rfl):PS X (.Expr e pos) (QR te):=by
 intro pins s σ H D I h
 exact wpAny_Expr_any (dJ (he pins s σ H _ I h) fun v s1 ⟨x,H1,I1,r1,q1⟩=>⟨σ,H1,I1,q1⟩) I.quiet hs
noncomputable def U7 (te:TE):TS:=fun D σ H=>te σ H D.rt
theorem aN (he:PE X e te):PS X (.Return (some e) pos) (U7 te):=by
 intro pins s σ H D I h
 exact wpAny_Return_some (dJ (he pins s σ H _ I h) fun v s1 ⟨x,H1,I1,r1,q1⟩=>⟨x,σ,H1,I1,r1,q1⟩)
noncomputable def Wh (c:TT) (t u:TS):TS:=fun D σ H=>c σ H fun b H1=>if b=true then t D σ H1 else u D σ H1
theorem bQ {c:Expr} {a b:List Stmt} {tc:TT} (hc:PT X c tc) (ha:Kv X a t) (hb:Kv X b u):PS X (.If c a b pos) (Wh tc t u):=by
 intro pins s σ H D I h
 refine wpAny_If (dJ (hc pins s σ H _ I h) fun d s1 hpt=>?_)
 obtain⟨H1,I1,q1⟩:=hpt
 cases d with
 | true=>exact ha pins s1 σ H1 D I1 q1
 | false=>exact hb pins s1 σ H1 D I1 q1
noncomputable def R6:TS:=fun _ _ _=>False
theorem dH:PS X st R6:=fun _ _ _ _ _ _ h=>h.elim
end
noncomputable abbrev TG:=V->St->Hp->(St->Hp->Prop)->Prop
noncomputable abbrev Od:=List V->St->Hp->(St->Hp->Prop)->Prop
noncomputable def PG (X:Cx) (target:Expr) (t:TG):Prop:=
 ∀(pins:List (Addr×Obj)) (s:Shared) (σ:St) (H:Hp) (v:V) (u:Value) (Q:St->Hp->Prop),Inv X pins σ H s->RelV v u->t v σ H Q->
  wpAny (model X.prog X.w) X.A (assign target X.env u) (fun _ s'=>∃σ' H',Inv X pins σ' H' s'/\Q σ' H') X.xe s
noncomputable def Va (X:Cx) (ts:List Expr) (t:Od):Prop:=
 ∀(pins:List (Addr×Obj)) (s:Shared) (σ:St) (H:Hp) (vs:List V) (us:List Value) (Q:St->Hp->Prop),Inv X pins σ H s->Vals vs us->t vs σ H Q->
  wpAny (model X.prog X.w) X.A (assignInOrder ((assignEach ts X.env).map (·.2)) us) (fun _ s'=>∃σ' H',Inv X pins σ' H' s'/\Q σ' H') X.xe s
noncomputable abbrev Uz:=V->V->Hp->VK->Prop
noncomputable def Wt (X:Cx) (op:Operator) (t:Uz):Prop:=
 ∀(pins:List (Addr×Obj)) (s:Shared) (σ:St) (H:Hp) (x y:V) (v u:Value) (Q:VK),Inv X pins σ H s->RelV x v->RelV y u->t x y H Q->
  wpAny (model X.prog X.w) X.A (inplaceOp op v u) (EP X pins σ Q) X.xe s
section
variable {X:Cx} {pos:Pos}
noncomputable def tR (i:Nat):TG:=fun v σ H Q=>Q (σ.set i (some v)) H
theorem qb {i:Nat} {x:Str} (hN:X.N.Nodup) (hi:X.N[i]?=some x) (hx:Loc X.env.scope x) (hf:X.fn x=true∨X.env.scope.names.lookup x=some .local:=by first | exact .inl rfl | exact .inr rfl | assumption):PG X (.Name x pos) (tR i):=by
 intro pins s σ H v u Q I r h
 exact wpAny_assign_Name (yL I hN hi hx r (fun s' I'=>⟨_,H,I',h⟩) hf)
noncomputable def Vz:Od:=fun vs σ H Q=>vs=[]/\Q σ H
inductive KR (t:TG) (u:Od) (vs:List V) (σ:St) (H:Hp) (Q:St->Hp->Prop):Prop where
 | mk:∀v r,vs=v:: r->(t v σ H fun σ' H'=>u r σ' H' Q)->KR t u vs σ H Q
noncomputable def Uk (t:TG) (u:Od):Od:=fun vs σ H Q=>KR t u vs σ H Q
theorem u9:Va X [] Vz:=by
 intro pins s σ H vs us Q I r h
 obtain⟨e,h⟩:=h
 subst e
 cases r
 exact assignInOrder_nil ⟨σ,H,I,h⟩
theorem gj {e:Expr} {es:List Expr} {t:TG} {u:Od} (h1:PG X e t) (h2:Va X es u)
  (hs:(assignEach (e:: es) X.env).map (·.2)=assign e X.env:: (assignEach es X.env).map (·.2):=by rfl):Va X (e:: es) (Uk t u):=by
 intro pins s σ H vs us Q I r h
 obtain⟨v,vr,e1,h⟩:=h
 subst e1
 cases r with
 | cons r rr=>
  rw [hs]
  refine assignInOrder_cons (dJ (h1 pins s σ H _ _ _ I r h) fun _ s1 hpt=>?_)
  obtain⟨σ1,H1,I1,q1⟩:=hpt
  exact h2 pins s1 σ1 H1 _ _ Q I1 rr q1
inductive Qt (K:PySem.W.Frag) (n:Nat) (t:Od) (v:V) (σ:St) (H:Hp) (Q:St->Hp->Prop):Prop where
 | mk:∀a xs,v=.ref a->gK K H a xs->xs.length=n->t xs σ H Q->Qt K n t v σ H Q
noncomputable def Uw (K:PySem.W.Frag) (n:Nat) (t:Od):TG:=fun v σ H Q=>Qt K n t v σ H Q
theorem Em {es:List Expr} {k:Nat} {t:Od} {n:Nat} (hc:X.calm=true) (h:Va X es t)
  (hn:(assignEach es X.env).length=n:=by rfl) (hst:(assignEach es X.env).findIdx? (·.1)=none:=by rfl):PG X (.Tuple es k pos) (Uw X.K n t):=by
 intro pins s σ H v u Q I r hw
 obtain⟨a,xs,e1,hq,hl,hw⟩:=hw
 subst e1
 cases r
 obtain⟨its,rv,ht,hz⟩:=I.tuple hq
 refine assign_Tuple_tuple (I.ok.hd hc) ht (by simp [hn,<-hl,rv.length]) hst fun h' hx=>?_
 have I1:Inv X pins σ H { s with heap:=h' }:=I.kept (t':=s.toks) fun b o e=>hx b o (Nat.ne_of_lt (Heap.lt_size e)) e
 exact h pins _ σ H xs _ Q I1 (by simpa using rv) hw
noncomputable def Kd (te:TE) (g:TG):TS:=fun D σ H=>te σ H fun x H1=>g x σ H1 D.nx
theorem Sd {tg e:Expr} {te:TE} {g:TG} (he:PE X e te) (hg:PG X tg g) (hs:swapsWithSole [tg] e pos.line X.env=pure false:=by rfl) (hw:swappedStores [tg] e X.env=pure none:=by rfl)
  (h1:(assignEach [tg] X.env).map (·.2)=[assign tg X.env]:=by rfl):PS X (.Assign [tg] e pos) (Kd te g):=by
 intro pins s σ H D I h
 refine wpAny_Assign_stores (dJ (he pins s σ H _ I h) fun v s1 hpt=>?_) hs hw
 obtain⟨x,H1,I1,r1,q1⟩:=hpt
 rw [h1]
 exact dJ (hg pins s1 σ H1 x v _ I1 r1 q1) fun _ s2 q=>q
theorem Sx {i:Nat} {x:Str} {e:Expr} {te:TE} {pos':Pos} (hN:X.N.Nodup) (hi:X.N[i]?=some x) (hx:Loc X.env.scope x) (he:PE X e te) (hs:swapsWith e (some (.Name x pos')) pos.line X.env=pure false:=by rfl) (hf:X.fn x=true∨X.env.scope.names.lookup x=some .local:=by first | exact .inl rfl | exact .inr rfl | assumption):
  PS X (.Assign [.Name x pos'] e pos) (Kd te (tR i)):=by
 intro pins s σ H D I h
 refine wpAny_Assign_Name (dJ (he pins s σ H _ I h) fun v s1 hpt=>?_) hs
 obtain⟨y,H1,I1,r1,q1⟩:=hpt
 exact yL I1 hN hi hx r1 (fun s2 I2=>⟨_,H1,I2,q1⟩) hf
inductive Q5 (i:Nat) (te:TE) (ti:Uz) (D:Ends) (σ:St) (H:Hp):Prop where
 | mk:∀x,σ[i]?=some (some x)->(te σ H fun y H1=>ti x y H1 fun z H2=>D.nx (σ.set i (some z)) H2)->Q5 i te ti D σ H
noncomputable def Ut (i:Nat) (te:TE) (ti:Uz):TS:=fun D σ H=>Q5 i te ti D σ H
theorem R3 {i:Nat} {x:Str} {e:Expr} {te:TE} {op:Operator} {ti:Uz} {pos':Pos} (hN:X.N.Nodup) (hi:X.N[i]?=some x) (hx:Loc X.env.scope x) (he:PE X e te) (ho:Wt X op ti) (hf:X.fn x=true∨X.env.scope.names.lookup x=some .local:=by first | exact .inl rfl | exact .inr rfl | assumption):
  PS X (.AugAssign (.Name x pos') op e pos) (Ut i te ti):=by
 intro pins s σ H D I h
 obtain⟨v,e1,h⟩:=h
 obtain⟨m,hn,hl⟩:=I.loc
 have vis:UW X.env.scope x:=by rcases hx with k | k;exact .inl k;exact .inr (.inl k)
 obtain⟨u,r,l⟩:=hl i x v hi e1 vis
 refine wpAny_AugAssign_Name ?_
 have go:wpAny (model X.prog X.w) X.A (eval e X.env) (fun w s₂=>wpAny (model X.prog X.w) X.A (inplaceOp op u w) (fun r s₃=>wpAny (model X.prog X.w) X.A (storeName X.env x r) (fun _=>SP X pins D .next) X.xe s₃) X.xe s₂) X.xe s:=by
  refine dJ (he pins s σ H _ I h) fun w s1 hpt=>?_
  obtain⟨y,H1,I1,r1,q1⟩:=hpt
  refine dJ (ho pins s1 σ H1 v y u w _ I1 r r1 q1) fun z s2 hpt=>?_
  obtain⟨zv,H2,I2,r2,q2⟩:=hpt
  exact yL I2 hN hi hx r2 (fun s3 I3=>⟨_,H2,I3,q2⟩) hf
 rcases l with ⟨hk,hm⟩ | ⟨hk,c,hc,hcell⟩
 ·exact wpAny_loadName_local I.ok.kind hk hn hm go
 ·rcases hk with hk | hk
  ·exact wpAny_loadName_cell I.ok.kind hk hc hcell go
  ·rcases hx with k | k
   ·have:X.env.scope.names.lookup x=some .free:=hk
    rw [k] at this;cases this
   ·have:X.env.scope.names.lookup x=some .free:=hk
    rw [k] at this;cases this
noncomputable def Wm (f:Int->Int->Int):Uz:=fun x y H Q=>∃i j,x=.int i/\y=.int j/\Q (.int (f i j)) H
theorem Rj:Wt X .Add (Wm fun i j=>i+j):=by
 intro pins s σ H x y v u Q I r1 r2 h
 obtain⟨i,j,e1,e2,q⟩:=h
 subst e1;subst e2
 obtain⟨t,rfl⟩:=r1
 obtain⟨t',rfl⟩:=r2
 exact iadd_int ⟨.int _,H,I.tok _,⟨_,rfl⟩,q⟩
end
section
variable {X:Cx} {pos:Pos}
inductive Ju (c:TT) (tb:TS) (D:Ends) (σ:St) (H:Hp):Prop where
 | mk:∀W:Nat->St->Hp->Prop,((∃m,W m σ H))->(∀m σ H,W m σ H->
 c σ H fun b H1=>if b=true then ∃N:St->Hp->Prop,(∀σ' H',N σ' H'->∃m',m' <m/\W m' σ' H')/\tb { D with nx:=N,ct:=N,bk:=D.nx } σ H1 else D.nx σ H1)->Ju c tb D σ H
noncomputable def Hh (c:TT) (tb:TS):TS:=fun D σ H=>Ju c tb D σ H
theorem vm {c:Expr} {body:List Stmt} {tc:TT} {tb:TS} (hp:PassesOwn (model X.prog X.w) X.A X.env X.xe) (hc:PT X c tc) (hb:Kv X body tb):PS X (.While c body [] pos) (Hh tc tb):=by
 intro pins s σ H D I h
 obtain⟨W,⟨m0,w0⟩,turn⟩:=h
 refine wpAny_While (codeAny_whileLoop (fun n s'=>∃σ' H',Inv X pins σ' H' s'/\W n σ' H') ?_ m0 ⟨σ,H,I,w0⟩)
 rintro n s1 ⟨σ1,H1,I1,w1⟩
 refine wpAny_passesOwn hp (dJ (hc pins s1 σ1 H1 _ I1 (turn n σ1 H1 w1)) fun b s2 hpt=>?_)
 obtain⟨H2,I2,q2⟩:=hpt
 cases b with
 | true=>
  obtain⟨N,hN,q2⟩:=q2
  rw [if_pos rfl]
  refine wpAny_passesOwn hp (dJ (hb pins s2 σ1 H2 _ I2 q2) fun f s3 q3=>?_)
  cases f with
  | next=>
   obtain⟨σ3,H3,I3,n3⟩:=q3
   obtain⟨m',hm,w3⟩:=hN σ3 H3 n3
   exact⟨m',hm,σ3,H3,I3,w3⟩
  | cont=>
   obtain⟨σ3,H3,I3,n3⟩:=q3
   obtain⟨m',hm,w3⟩:=hN σ3 H3 n3
   exact⟨m',hm,σ3,H3,I3,w3⟩
  | brk=>exact q3
  | ret v=>exact q3
 | false=>
  rw [if_neg Bool.false_ne_true]
  exact wpAny_execs_nil ⟨σ1,H2,I2,q2⟩
end
structure It where
 go:Nat->Hp->Prop
 yld:Nat->Hp->V->Hp->Prop
 stop:Nat->Hp->Prop
noncomputable def DN (X:Cx) (pins:List (Addr×Obj)) (H:Hp) (b:Addr):Prop:=
 H b=none/\b≠X.env.locals/\b∉X.fs/\(b∈X.ex∨X.s₀.heap.objs.size<=b)/\(∀x c,X.env.cells.lookup x=some c->c≠b)/\∀p∈X.pn ++ pins,p.1≠b
theorem Inv.fpOk {X:Cx} {pins:List (Addr×Obj)} {σ:St} {H H':Hp} {s:Shared} {b:Addr} (I:Inv X pins σ H s) (hb:s.heap.objs.size<=b) (hn:H' b=none):DN X pins H' b:=by
 refine⟨hn,Nat.ne_of_gt (Nat.lt_of_lt_of_le I.lt hb),I.nofs hb,.inr (Nat.le_trans I.sz hb),fun x c e z=>?_,fun p hp z=>?_⟩
 ·obtain⟨v,q⟩:=I.cell x c e
  exact absurd (Nat.lt_of_lt_of_le q.lt (by rw [z];exact hb)) (Nat.lt_irrefl _)
 ·exact absurd (Nat.lt_of_lt_of_le (Heap.lt_size (I.pin p hp).1) (by rw [z];exact hb)) (Nat.lt_irrefl _)
structure Turn (P:Program) (w:World) (K:PySem.W.Frag) (tg:Expr) (J:It) (fp:List Addr) (it:Addr) (tn:Nat->Heap->Prop):Prop where
 mem:it∈fp
 obj:∀i h,tn i h->∀b∈fp,∃o,h.get? b=some o/\∀v,o.data≠.cell v
 keep:∀i h h',tn i h->(∀b∈fp,∀o,h.get? b=some o->h'.get? b=some o)->tn i h'
 item:∀(X:Cx),X.prog=P->X.w=w->X.K=K->X.calm=true->∀(i:Nat) (pins:List (Addr×Obj)) (s:Shared) (σ:St) (H:Hp) (E:Value->Shared->Prop),Inv X pins σ H s->(∀b∈fp,DN X pins H b)->tn i s.heap->J.go i H->
  wpAny (model P w) X.A (pyNext (.ref it)) (fun r s1=>∃u,r=some u/\
   wpAny (model P w) X.A (letOwnedTupleGo tg (.ref it) u) (fun _ s2=>∃x H',Inv X pins σ H' s2/\RelV x u/\J.yld i H x H'/\tn (i+1) s2.heap/\∀b∈fp,H' b=none) E s1) E s
 done:∀(X:Cx),X.prog=P->X.w=w->X.K=K->X.calm=true->∀(i:Nat) (pins:List (Addr×Obj)) (s:Shared) (σ:St) (H:Hp) (E:Value->Shared->Prop),Inv X pins σ H s->(∀b∈fp,DN X pins H b)->tn i s.heap->J.stop i H->
  wpAny (model P w) X.A (pyNext (.ref it)) (fun r s1=>r=none/\Inv X pins σ H s1) E s
 self:∀(A:Around) (i:Nat) (s:Shared) (Q:Value->Shared->Prop) (E:Value->Shared->Prop),tn i s.heap->Q (.ref it) s->wpAny (model P w) A (pyIter (.ref it)) Q E s
noncomputable abbrev TI:=St->Hp->(It->Hp->Prop)->Prop
noncomputable def PIE (X:Cx) (pins:List (Addr×Obj)) (σ:St) (tg:Expr) (R:It->Hp->Prop) (itv:Value) (s2:Shared):Prop:=
 ∃(it:Addr) (fp:List Addr) (tn:Nat->Heap->Prop) (J:It) (H':Hp),itv=.ref it/\Inv X pins σ H' s2/\Turn X.prog X.w X.K tg J fp it tn/\tn 0 s2.heap/\(∀b∈fp,DN X pins H' b)/\R J H'
noncomputable def PI (X:Cx) (tg iter:Expr) (wi:TI):Prop:=
 ∀(pins:List (Addr×Obj)) (s:Shared) (σ:St) (H:Hp) (R:It->Hp->Prop),Inv X pins σ H s->wi σ H R->
  wpAny (model X.prog X.w) X.A (eval iter X.env) (fun v s1=>wpAny (model X.prog X.w) X.A (pyIter v) (PIE X pins σ tg R) X.xe s1) X.xe s
theorem FW {M:Model} {A:Around} {E:Value->Shared->Prop} {s:Shared} {tg:Expr} {it:Addr} {u:Value} {o:Obj} {n:String} {vs:Array Value} {Q:Unit->Shared->Prop} (ho:s.heap.get? it=some o) (hc:o.cls=.type n) (hd:o.data=.fields vs)
  (hn:["enumerate", "zip", "dict_itemiterator", "dict_reverseitemiterator", "odict_iterator", "itertools.zip_longest", "itertools.pairwise"].contains n=false) (hQ:Q () s):wpAny M A (letOwnedTupleGo tg (.ref it) u) Q E s:=by
 unfold letOwnedTupleGo
 cases tg <;> first
  | exact wpAny_pure hQ
  | (cases u <;> first
    | exact wpAny_pure hQ
    | (refine wpAny_bind (wpAny_load ho ?_)
       rw [hc,hd]
       show wpAny M A (if (["enumerate", "zip", "dict_itemiterator", "dict_reverseitemiterator", "odict_iterator", "itertools.zip_longest", "itertools.pairwise"].contains n && vs[0]? == some (rawInt _))=true then _ else _) Q E s
       rw [if_neg (by intro h;rw [hn,Bool.false_and] at h;cases h)]
       exact wpAny_pure hQ))
noncomputable def SM (K:PySem.W.Frag) (a:Addr):It:=
 ⟨fun i H=>∃xs x,bT K H a xs/\xs[i]?=some x,fun i H x H'=>H'=H/\∀xs,bT K H a xs->xs[i]?=some x,fun i H=>∃xs,bT K H a xs/\xs.length<=i⟩
noncomputable def Th (K:PySem.W.Frag) (a:Addr):It:=
 ⟨fun i H=>∃xs x,gK K H a xs/\xs[i]?=some x,fun i H x H'=>H'=H/\∀xs,gK K H a xs->xs[i]?=some x,fun i H=>∃xs,gK K H a xs/\xs.length<=i⟩
noncomputable def RT (lo:Int) (n:Nat):It:=⟨fun i _=>i <n,fun i H x H'=>H'=H/\x=.int (lo+i),fun i _=>n<=i⟩
theorem JL {P:Program} {w:World} {K:PySem.W.Frag} {tg:Expr} (a it:Addr):Turn P w K tg (SM K a) [it] it (fun i h=>h.IsListIter it a i) where
 mem:=by simp
 obj:=fun i h st b hb=>by
  have e:b=it:=by simpa using hb
  subst e
  obtain⟨o,e,c,d⟩:=st
  exact⟨o,e,fun v z=>by rw [d] at z;cases z⟩
 keep:=fun i h h' st k=>st.at fun o e=>k it (by simp) o e
 item:=by
  intro X hP hw hK hc i pins s σ H E I hf st hg
  subst hP hw hK
  obtain⟨xs,x,hq,hx⟩:=hg
  obtain⟨its,rv,p,hz⟩:=I.list hq
  obtain⟨u,hu,ru⟩:=rv.get hx
  obtain⟨f0,f1,f2,f3,f4,f5⟩:=hf it (by simp)
  refine wpAny_pyNext_list_item st p.isList (x:=u) (by simpa using hu) fun h' st' sb=>?_
  have I1:Inv X pins σ H { s with heap:=h' }:=I.turned (t':=s.toks) (fun b o hb e=>(sb.2 b hb).trans e) f0 f1 f3 f4 f5
  obtain⟨o,e,c,d⟩:=id st'
  exact⟨u,rfl,FW (s:={ s with heap:=h' }) e c d (by decide) ⟨x,H,I1,ru,⟨rfl,fun ys hy=>by rw [I.list_inj hy hq];exact hx⟩,st',fun b hb=>(hf b hb).1⟩⟩
 done:=by
  intro X hP hw hK hc i pins s σ H E I hf st hg
  subst hP hw hK
  obtain⟨xs,hq,hx⟩:=hg
  obtain⟨its,rv,p,hz⟩:=I.list hq
  obtain⟨f0,f1,f2,f3,f4,f5⟩:=hf it (by simp)
  have hl:=rv.length
  exact wpAny_pyNext_list_end (I.ok.hd hc) st p.isList (by simp;omega) fun h' eb=>⟨rfl,I.turned (t':=s.toks) (fun b o hb e=>eb b o hb e) f0 f1 f3 f4 f5⟩
 self:=fun _ _ _ _ _ st h=>wpAny_pyIter_listiter st h
theorem Ig {P:Program} {w:World} {K:PySem.W.Frag} {tg:Expr} (a it:Addr):Turn P w K tg (Th K a) [it] it (fun i h=>h.IsTupleIter it a i) where
 mem:=by simp
 obj:=fun i h st b hb=>by
  have e:b=it:=by simpa using hb
  subst e
  obtain⟨o,e,c,d⟩:=st
  exact⟨o,e,fun v z=>by rw [d] at z;cases z⟩
 keep:=fun i h h' st k=>st.at fun o e=>k it (by simp) o e
 item:=by
  intro X hP hw hK hc i pins s σ H E I hf st hg
  subst hP hw hK
  obtain⟨xs,x,hq,hx⟩:=hg
  obtain⟨its,rv,p,hz⟩:=I.tuple hq
  obtain⟨u,hu,ru⟩:=rv.get hx
  obtain⟨f0,f1,f2,f3,f4,f5⟩:=hf it (by simp)
  refine wpAny_pyNext_tuple_item st (show s.heap.IsTuple a its.toArray from p) (x:=u) (by simpa using hu) fun h' st' sb=>?_
  have I1:Inv X pins σ H { s with heap:=h' }:=I.turned (t':=s.toks) (fun b o hb e=>(sb.2 b hb).trans e) f0 f1 f3 f4 f5
  obtain⟨o,e,c,d⟩:=id st'
  exact⟨u,rfl,FW (s:={ s with heap:=h' }) e c d (by decide) ⟨x,H,I1,ru,⟨rfl,fun ys hy=>by rw [I.tuple_inj hy hq];exact hx⟩,st',fun b hb=>(hf b hb).1⟩⟩
 done:=by
  intro X hP hw hK hc i pins s σ H E I hf st hg
  subst hP hw hK
  obtain⟨xs,hq,hx⟩:=hg
  obtain⟨its,rv,p,hz⟩:=I.tuple hq
  obtain⟨f0,f1,f2,f3,f4,f5⟩:=hf it (by simp)
  have hl:=rv.length
  exact wpAny_pyNext_tuple_end (I.ok.hd hc) st (show s.heap.IsTuple a its.toArray from p) (by simp;omega) fun h' eb=>⟨rfl,I.turned (t':=s.toks) (fun b o hb e=>eb b o hb e) f0 f1 f3 f4 f5⟩
 self:=fun _ _ _ _ _ st h=>wpAny_pyIter_tupleiter st h
theorem Hu {P:Program} {w:World} {K:PySem.W.Frag} {tg:Expr} (it:Addr) (lo:Int) (n:Nat):Turn P w K tg (RT lo n) [it] it (fun i h=>IsRangeIter h it (lo+(i:Nat) * 1) ((n:Int) - (i:Nat)) 1) where
 mem:=by simp
 obj:=fun i h st b hb=>by
  have e:b=it:=by simpa using hb
  subst e
  exact⟨_,st,fun v z=>by
   have z':Data.fields _=Data.cell v:=z
   cases z'⟩
 keep:=fun i h h' st k=>k it (by simp) _ st
 item:=by
  intro X hP hw hK hc i pins s σ H E I hf st hg
  subst hP hw hK
  obtain⟨f0,f1,f2,f3,f4,f5⟩:=hf it (by simp)
  have W:=Walks.range (prog:=X.prog) (w:=X.w) (I.ok.hd hc) it lo 1 n
  refine W.item i s _ _ hg st fun v h' tk hv st' kk=>?_
  obtain⟨t,rfl⟩:=hv
  have I1:Inv X pins σ H { s with heap:=h',toks:=tk }:=I.turned (fun b o hb e=>kk b o (by simpa using hb) e) f0 f1 f3 f4 f5
  refine⟨_,rfl,FW (s:={ s with heap:=h',toks:=tk }) (n:= "range_iterator") st' rfl rfl (by decide) ⟨.int (lo+i),H,I1,⟨t,?_⟩,⟨rfl,rfl⟩,st',fun b hb=>(hf b hb).1⟩⟩
  rw [Int.mul_one]
 done:=by
  intro X hP hw hK hc i pins s σ H E I hf st hg
  subst hP hw hK
  obtain⟨f0,f1,f2,f3,f4,f5⟩:=hf it (by simp)
  exact wpAny_pyNext_range_end (I.ok.hd hc) st (by have:n<=i:=hg;omega) fun h' eb=>⟨rfl,I.turned (t':=s.toks) (fun b o hb e=>eb b o hb e) f0 f1 f3 f4 f5⟩
 self:=fun _ _ _ _ _ st h=>wpAny_pyIter_rangeiter st h
section
variable {X:Cx} {tg:Expr}
inductive Ms (K:PySem.W.Frag) (R:It->Hp->Prop) (x:V) (H1:Hp):Prop where
 | mk:∀a,x=.ref a->((∃xs,bT K H1 a xs))->R (SM K a) H1->Ms K R x H1
noncomputable def QZ (K:PySem.W.Frag) (tl:TE):TI:=fun σ H R=>tl σ H fun x H1=>Ms K R x H1
inductive Qq (K:PySem.W.Frag) (R:It->Hp->Prop) (x:V) (H1:Hp):Prop where
 | mk:∀a,x=.ref a->((∃xs,gK K H1 a xs))->R (Th K a) H1->Qq K R x H1
noncomputable def U6 (K:PySem.W.Frag) (tl:TE):TI:=fun σ H R=>tl σ H fun x H1=>Qq K R x H1
theorem dN {l:Expr} {tl:TE} (hl:PE X l tl):PI X tg l (QZ X.K tl):=by
 intro pins s σ H R I h
 refine dJ (hl pins s σ H _ I h) fun v s1 hpt=>?_
 obtain⟨x,H1,I1,r1,q1⟩:=hpt
 obtain⟨a,e,⟨xs,hq⟩,q⟩:=q1
 subst e
 cases r1
 obtain⟨its,rv,p,hz⟩:=I1.list hq
 refine wpAny_pyIter_list p.isList ?_
 refine⟨s1.heap.objs.size,[s1.heap.objs.size],_,_,H1,rfl,I1.kept (t':=s1.toks) fun b o e=>Heap.get?_push_of_some _ e,JL a _,⟨_,Heap.get?_push_size _ rfl,rfl,rfl⟩,fun b hb=>?_,q⟩
 have e:b=s1.heap.objs.size:=by simpa using hb
 subst e
 exact I1.fpOk (Nat.le_refl _) (I1.hok.fresh (Nat.le_refl _))
theorem DY {l:Expr} {tl:TE} (hl:PE X l tl):PI X tg l (U6 X.K tl):=by
 intro pins s σ H R I h
 refine dJ (hl pins s σ H _ I h) fun v s1 hpt=>?_
 obtain⟨x,H1,I1,r1,q1⟩:=hpt
 obtain⟨a,e,⟨xs,hq⟩,q⟩:=q1
 subst e
 cases r1
 obtain⟨its,rv,p,hz⟩:=I1.tuple hq
 refine wpAny_pyIter_tuple (show s1.heap.IsTuple a its.toArray from p) ?_
 refine⟨s1.heap.objs.size,[s1.heap.objs.size],_,_,H1,rfl,I1.kept (t':=s1.toks) fun b o e=>Heap.get?_push_of_some _ e,Ig a _,⟨_,Heap.get?_push_size _ rfl,rfl,rfl⟩,fun b hb=>?_,q⟩
 have e:b=s1.heap.objs.size:=by simpa using hb
 subst e
 exact I1.fpOk (Nat.le_refl _) (I1.hok.fresh (Nat.le_refl _))
theorem Ln {pins:List (Addr×Obj)} {σ:St} {H:Hp} {s:Shared} {R:It->Hp->Prop} {E:Value->Shared->Prop} {lo hi:Int} {t u v:Tok} {tk:Nat} (I:Inv X pins σ H s) (h1: -(2 ^ 62)<=lo) (h2:lo <2 ^ 62) (h3: -(2 ^ 62)<=hi) (h4:hi <2 ^ 62)
  (q:R (RT lo (hi - lo).toNat) H):wpAny (model X.prog X.w) X.A (pyIter (.ref s.heap.objs.size)) (PIE X pins σ tg R) E { s with heap:=s.heap.push { cls:=.type "range",data:=.fields #[.int lo t,.int hi u,.int 1 v] },toks:=tk }:=by
 refine wpAny_pyIter_range (IsRange.new ..) (small_one h1 h2 h3 h4) ?_
 have I1:Inv X pins σ H { s with heap:=s.heap.push { cls:=.type "range",data:=.fields #[.int lo t,.int hi u,.int 1 v] },toks:=tk }:=I.kept fun b o e=>Heap.get?_push_of_some _ e
 refine⟨(s.heap.push { cls:=.type "range",data:=.fields #[.int lo t,.int hi u,.int 1 v] }).objs.size,[(s.heap.push { cls:=.type "range",data:=.fields #[.int lo t,.int hi u,.int 1 v] }).objs.size],_,_,H,rfl,
  I1.kept (t':=tk) fun b o e=>Heap.get?_push_of_some _ e,Hu _ lo (hi - lo).toNat,?_,fun b hb=>?_,q⟩
 ·have e1:lo+((0:Nat):Int) * 1=lo:=by simp
  have e2:(((hi - lo).toNat:Nat):Int) - ((0:Nat):Int)=Builtin.Range.rangeSize lo hi 1:=by rw [rangeSize_one];split <;> omega
  show IsRangeIter _ _ (lo+((0:Nat):Int) * 1) ((((hi - lo).toNat:Nat):Int) - ((0:Nat):Int)) 1
  rw [e1,e2]
  exact Heap.get?_push_size _ rfl
 ·have e:b=(s.heap.push { cls:=.type "range",data:=.fields #[.int lo t,.int hi u,.int 1 v] }).objs.size:=by simpa using hb
  subst e
  exact I1.fpOk (Nat.le_refl _) (I1.hok.fresh (Nat.le_refl _))
inductive NK (R:It->Hp->Prop) (vs:List V) (H1:Hp):Prop where
 | mk:∀j:Int,vs=[.int j]-> -(2 ^ 62)<=j->j <2 ^ 62->R (RT 0 j.toNat) H1->NK R vs H1
noncomputable def Vd (ta:TA):TI:=fun σ H R=>ta σ H fun vs H1=>NK R vs H1
theorem jG {a:Expr} {ta:TA} {p pos:Pos} (hg:Gl X "range") (hm:X.mg "range" =none) (ha:PA X [a] ta) (hs:starEach [a] X.env=[(false,eval a X.env)]:=by rfl):PI X tg (.Call (.Name "range" p) [a] [] pos) (Vd ta):=by
 intro pins s σ H R I h
 refine Call_ (CV I hg hm boot_range (PyProof.Rows.callWith_type1 (dJ (ha pos pins s σ H _ I h) fun us s1 ⟨vs,H1,I1,r1,q1⟩=>?_) hs rfl))
 obtain⟨j,e,q1,q2,q⟩:=q1
 subst e
 cases r1 with
 | cons r rr=>
  cases rr
  obtain⟨t,rfl⟩:=r
  exact call_range_1 (Ln I1 (by omega) (by omega) q1 q2 (by simpa using q))
noncomputable def V6 (wi:TI) (g:TG) (tb:TS):TS:=fun D σ H=>wi σ H fun J H1=>∃W:Nat->Nat->St->Hp->Prop,(∃m,W 0 m σ H1)/\∀i m σ H,W i m σ H->
 (J.stop i H/\D.nx σ H)∨(J.go i H/\∃N:St->Hp->Prop,(∀σ' H',N σ' H'->∃m',m' <m/\W (i+1) m' σ' H')/\∀x H',J.yld i H x H'->g x σ H' fun σ2 H2=>tb { D with nx:=N,ct:=N,bk:=D.nx } σ2 H2)
noncomputable def Ec (fp:List Addr) (h:Heap):List (Addr×Obj):=fp.filterMap fun b=>(h.get? b).map fun o=>(b,o)
theorem qp {fp:List Addr} {h:Heap} {b:Addr} {o:Obj} (hb:b∈fp) (e:h.get? b=some o):(b,o)∈Ec fp h:=List.mem_filterMap.mpr ⟨b,hb,by rw [e];rfl⟩
theorem Kr {fp:List Addr} {h:Heap} {p:Addr×Obj} (hp:p∈Ec fp h):p.1∈fp/\h.get? p.1=some p.2:=by
 obtain⟨b,hb,e⟩:=List.mem_filterMap.mp hp
 cases q:h.get? b with
 | none=>rw [q] at e;cases e
 | some o=>
  rw [q] at e
  have e':(b,o)=p:=Option.some.inj e
  subst e'
  exact⟨hb,q⟩
theorem Inv.pinned {pins:List (Addr×Obj)} {σ:St} {H:Hp} {s:Shared} {fp:List Addr} (I:Inv X pins σ H s) (hf:∀b∈fp,DN X pins H b) (ho:∀b∈fp,∃o,s.heap.get? b=some o/\∀v,o.data≠.cell v):Inv X (pins ++ Ec fp s.heap) σ H s:=
 I.pins_of fun p hp=>(List.mem_append.mp hp).elim (fun z=>I.pin p (List.mem_append_right _ z)) fun z=>by
  obtain⟨hb,e⟩:=Kr z
  obtain⟨f0,f1,f2,_⟩:=hf p.1 hb
  obtain⟨o,e',d⟩:=ho p.1 hb
  rw [e] at e';cases e'
  exact⟨e,f0,f1,f2,d⟩
theorem Inv.unpinned {pins pl:List (Addr×Obj)} {σ:St} {H:Hp} {s:Shared} (I:Inv X (pins ++ pl) σ H s):Inv X pins σ H s:=I.pins_of fun p hp=>I.pin p (List.mem_append_right _ (List.mem_append_left _ hp))
theorem eO {iter:Expr} {body:List Stmt} {wi:TI} {g:TG} {tb:TS} {pos:Pos} (hp:PassesOwn (model X.prog X.w) X.A X.env X.xe) (hc:X.calm=true) (hi:PI X tg iter wi) (hg:PG X tg g) (hb:Kv X body tb)
  (hs:∀x,foldedSetIterable iter X.env x=pure x:=by intro _;rfl):PS X (.For tg iter body [] pos) (V6 wi g tb):=by
 intro pins s σ H D I h
 refine wpAny_For (dJ (hi pins s σ H _ I h) fun v s1 h1=>dJ h1 fun itv s2 h2=>?_) hs
 obtain⟨it,fp,tn,J,H2,e,I2,T,st2,f2,W,⟨m0,w0⟩,turn⟩:=h2
 subst e
 have stat:∀{H':Hp},(∀b∈fp,H' b=none)->∀b∈fp,DN X pins H' b:=fun hn b hb=>⟨hn b hb,(f2 b hb).2⟩
 refine codeAny_forLoop_any (fun n s'=>∃i σ' H',Inv X pins σ' H' s'/\tn i s'.heap/\(∀b∈fp,H' b=none)/\W i n σ' H') ?_ m0 ⟨0,σ,H2,I2,st2,fun b hb=>(f2 b hb).1,w0⟩
 rintro n s3 ⟨i,σ3,H3,I3,st3,fr3,w3⟩
 rcases turn i n σ3 H3 w3 with ⟨stop,qn⟩ | ⟨go,N,hN,step⟩
 ·refine wpAny_passesOwn hp (dJ (T.done X rfl rfl rfl hc i pins s3 σ3 H3 X.xe I3 (stat fr3) st3 stop) fun r s4 hpt=>?_)
  obtain⟨hr,I4⟩:=hpt
  subst hr
  exact wpAny_execs_nil ⟨σ3,H3,I4,qn⟩
 ·refine wpAny_passesOwn hp (dJ (T.item X rfl rfl rfl hc i pins s3 σ3 H3 X.xe I3 (stat fr3) st3 go) fun r s4 hpt=>?_)
  obtain⟨u,hr,h4⟩:=hpt
  subst hr
  refine wpAny_passesOwn hp (dJ h4 fun _ s5 hpt=>?_)
  obtain⟨x,H5,I5,r5,y5,st5,fr5⟩:=hpt
  have I5':=I5.pinned (stat fr5) (T.obj _ _ st5)
  refine wpAny_passesOwn hp (dJ (hg _ s5 σ3 H5 x u _ I5' r5 (step x H5 y5)) fun _ s6 hpt=>?_)
  obtain⟨σ6,H6,I6,q6⟩:=hpt
  refine wpAny_passesOwn hp (dJ (hb _ s6 σ6 H6 _ I6 q6) fun f s7 q7=>?_)
  have again:∀{σ7:St} {H7:Hp},Inv X (pins ++ Ec fp s5.heap) σ7 H7 s7->N σ7 H7->∃m,m <n/\∃i σ' H',Inv X pins σ' H' s7/\tn i s7.heap/\(∀b∈fp,H' b=none)/\W i m σ' H':=fun {σ7 H7} I7 n7=>by
   obtain⟨m',hm,w7⟩:=hN σ7 H7 n7
   refine⟨m',hm,i+1,σ7,H7,I7.unpinned,T.keep _ _ _ st5 fun b hb o e=>(I7.pin (b,o) (List.mem_append_right _ (List.mem_append_right _ (qp hb e)))).1,fun b hb=>?_,w7⟩
   obtain⟨o,e,d⟩:=T.obj _ _ st5 b hb
   exact(I7.pin (b,o) (List.mem_append_right _ (List.mem_append_right _ (qp hb e)))).2.1
  cases f with
  | next=>obtain⟨σ7,H7,I7,n7⟩:=q7;exact again I7 n7
  | cont=>obtain⟨σ7,H7,I7,n7⟩:=q7;exact again I7 n7
  | brk=>obtain⟨σ7,H7,I7,q7⟩:=q7;exact⟨σ7,H7,I7.unpinned,q7⟩
  | ret v=>obtain⟨x7,σ7,H7,I7,r7,q7⟩:=q7;exact⟨x7,σ7,H7,I7.unpinned,r7,q7⟩
end
theorem fu {K:PySem.W.Frag} {a:Addr} {xs:List V} {g:TG} {tb:TS} {D:Ends} {σ:St} {H:Hp} (Pv:Nat->St->Hp->Prop) (h0:Pv 0 σ H) (hl:∀i σ H,i<=xs.length->Pv i σ H->bT K H a xs)
  (hs:∀i x σ H,xs[i]?=some x->Pv i σ H->g x σ H fun σ2 H2=>tb { D with nx:=Pv (i+1),ct:=Pv (i+1),bk:=D.nx } σ2 H2) (hd:∀σ H,Pv xs.length σ H->D.nx σ H):
  ∃W:Nat->Nat->St->Hp->Prop,(∃m,W 0 m σ H)/\∀i m σ H,W i m σ H->
   ((SM K a).stop i H/\D.nx σ H)∨((SM K a).go i H/\∃N:St->Hp->Prop,(∀σ' H',N σ' H'->∃m',m' <m/\W (i+1) m' σ' H')/\∀x H',(SM K a).yld i H x H'->g x σ H' fun σ2 H2=>tb { D with nx:=N,ct:=N,bk:=D.nx } σ2 H2):=by
 refine⟨fun i m σ H=>m=xs.length - i/\i<=xs.length/\Pv i σ H,⟨xs.length,by simp,Nat.zero_le _,h0⟩,?_⟩
 rintro i m σ H ⟨rfl,hi,p⟩
 have q:=hl i σ H hi p
 by_cases hlt:i <xs.length
 ·refine .inr ⟨⟨xs,xs[i],q,by simp [hlt]⟩,Pv (i+1),fun σ' H' p'=>⟨xs.length - (i+1),by omega,rfl,hlt,p'⟩,fun x H' y=>?_⟩
  obtain⟨e,y⟩:=y
  subst e
  exact hs i x σ _ (y xs q) p
 ·have e:i=xs.length:=by omega
  subst e
  exact .inl ⟨⟨xs,q,Nat.le_refl _⟩,hd σ H p⟩
theorem Pj {K:PySem.W.Frag} {a:Addr} {xs:List V} {g:TG} {tb:TS} {D:Ends} {σ:St} {H:Hp} (Pv:Nat->St->Hp->Prop) (h0:Pv 0 σ H) (hl:∀i σ H,i<=xs.length->Pv i σ H->gK K H a xs)
  (hs:∀i x σ H,xs[i]?=some x->Pv i σ H->g x σ H fun σ2 H2=>tb { D with nx:=Pv (i+1),ct:=Pv (i+1),bk:=D.nx } σ2 H2) (hd:∀σ H,Pv xs.length σ H->D.nx σ H):
  ∃W:Nat->Nat->St->Hp->Prop,(∃m,W 0 m σ H)/\∀i m σ H,W i m σ H->
   ((Th K a).stop i H/\D.nx σ H)∨((Th K a).go i H/\∃N:St->Hp->Prop,(∀σ' H',N σ' H'->∃m',m' <m/\W (i+1) m' σ' H')/\∀x H',(Th K a).yld i H x H'->g x σ H' fun σ2 H2=>tb { D with nx:=N,ct:=N,bk:=D.nx } σ2 H2):=by
 refine⟨fun i m σ H=>m=xs.length - i/\i<=xs.length/\Pv i σ H,⟨xs.length,by simp,Nat.zero_le _,h0⟩,?_⟩
 rintro i m σ H ⟨rfl,hi,p⟩
 have q:=hl i σ H hi p
 by_cases hlt:i <xs.length
 ·refine .inr ⟨⟨xs,xs[i],q,by simp [hlt]⟩,Pv (i+1),fun σ' H' p'=>⟨xs.length - (i+1),by omega,rfl,hlt,p'⟩,fun x H' y=>?_⟩
  obtain⟨e,y⟩:=y
  subst e
  exact hs i x σ _ (y xs q) p
 ·have e:i=xs.length:=by omega
  subst e
  exact .inl ⟨⟨xs,q,Nat.le_refl _⟩,hd σ H p⟩
theorem BV {lo:Int} {n:Nat} {g:TG} {tb:TS} {D:Ends} {σ:St} {H:Hp} (Pv:Nat->St->Hp->Prop) (h0:Pv 0 σ H)
  (hs:∀i σ H,i <n->Pv i σ H->g (.int (lo+i)) σ H fun σ2 H2=>tb { D with nx:=Pv (i+1),ct:=Pv (i+1),bk:=D.nx } σ2 H2) (hd:∀σ H,Pv n σ H->D.nx σ H):
  ∃W:Nat->Nat->St->Hp->Prop,(∃m,W 0 m σ H)/\∀i m σ H,W i m σ H->
   ((RT lo n).stop i H/\D.nx σ H)∨((RT lo n).go i H/\∃N:St->Hp->Prop,(∀σ' H',N σ' H'->∃m',m' <m/\W (i+1) m' σ' H')/\∀x H',(RT lo n).yld i H x H'->g x σ H' fun σ2 H2=>tb { D with nx:=N,ct:=N,bk:=D.nx } σ2 H2):=by
 refine⟨fun i m σ H=>m=n - i/\i<=n/\Pv i σ H,⟨n,by simp,Nat.zero_le _,h0⟩,?_⟩
 rintro i m σ H ⟨rfl,hi,p⟩
 by_cases hlt:i <n
 ·refine .inr ⟨hlt,Pv (i+1),fun σ' H' p'=>⟨n - (i+1),by omega,rfl,hlt,p'⟩,fun x H' y=>?_⟩
  obtain⟨e,y⟩:=y
  subst e y
  exact hs i σ _ hlt p
 ·have e:i=n:=by omega
  subst e
  exact .inl ⟨Nat.le_refl _,hd σ H p⟩
theorem vI {c:TT} {tb:TS} {D:Ends} {σ:St} {H:Hp} (Pv:St->Hp->Prop) (μ:St->Hp->Nat) (h0:Pv σ H)
  (hs:∀σ H,Pv σ H->c σ H fun b H1=>if b=true then tb { D with nx:=fun σ' H'=>Pv σ' H'/\μ σ' H' <μ σ H,ct:=fun σ' H'=>Pv σ' H'/\μ σ' H' <μ σ H,bk:=D.nx } σ H1 else D.nx σ H1)
  (mono:∀σ H Q Q',(∀b H1,Q b H1->Q' b H1)->c σ H Q->c σ H Q'):Hh c tb D σ H:=by
 refine⟨fun m σ H=>m=μ σ H/\Pv σ H,⟨_,rfl,h0⟩,?_⟩
 rintro m σ H ⟨rfl,p⟩
 refine mono σ H _ _ (fun b H1 q=>?_) (hs σ H p)
 cases b with
 | true=>exact⟨_,fun σ' H' ⟨p',l⟩=>⟨_,l,rfl,p'⟩,q⟩
 | false=>exact q
noncomputable abbrev R2:=V->V->Hp->VK->Prop
noncomputable def v9 (X:Cx) (f:Value->Value->Sem Value) (r:R2):Prop:=
 ∀(pins:List (Addr×Obj)) (s:Shared) (σ:St) (H:Hp) (x y:V) (v u:Value) (Q:VK),Inv X pins σ H s->RelV x v->RelV y u->r x y H Q->
  wpAny (model X.prog X.w) X.A (f v u) (EP X pins σ Q) X.xe s
noncomputable def j8 (X:Cx) (f:Value) (r:List V->Hp->VK->Prop):Prop:=
 ∀(pins:List (Addr×Obj)) (s:Shared) (σ:St) (H:Hp) (xs:List V) (us:List Value) (Q:VK),Inv X pins σ H s->Vals xs us->r xs H Q->
  wpAny (model X.prog X.w) X.A (call f us) (EP X pins σ Q) X.xe s
noncomputable def S9 (r:R2) (ta tb:TE):TE:=fun σ H Q=>ta σ H fun x H1=>tb σ H1 fun y H2=>r x y H2 Q
inductive Wl (C:Int->Int->Prop) (g:Int->Int->V) (x:V) (y:V) (H:Hp) (Q:VK):Prop where
 | mk:∀i j,x=.int i->y=.int j->C i j->Q (g i j) H->Wl C g x y H Q
noncomputable def rI (C:Int->Int->Prop) (g:Int->Int->V):R2:=fun x y H Q=>Wl C g x y H Q
inductive TX (g:Int->Int->V) (x:V) (y:V) (H:Hp) (Q:VK):Prop where
 | mk:∀i j,x=.int i->y=.int j->Q (g i j) H->TX g x y H Q
noncomputable def Pz (g:Int->Int->V):R2:=fun x y H Q=>TX g x y H Q
section
variable {X:Cx} {a b c:Expr} {ta tb tc:TE} {pos:Pos}
theorem Rk (ha:PE X a ta) (hb:PE X b tb) {pins:List (Addr×Obj)} {s:Shared} {σ:St} {H:Hp} {R:V->V->Hp->Prop} (I:Inv X pins σ H s)
  (h:ta σ H fun x H1=>tb σ H1 fun y H2=>R x y H2) {Q:Value->Shared->Prop} {f:Value->Value->Sem Value}
  (hf:∀v u s2 x y H2,Inv X pins σ H2 s2->RelV x v->RelV y u->R x y H2->wpAny (model X.prog X.w) X.A (f v u) Q X.xe s2):
  wpAny (model X.prog X.w) X.A (eval a X.env) (fun v s₁=>wpAny (model X.prog X.w) X.A (eval b X.env) (fun u s₂=>wpAny (model X.prog X.w) X.A (f v u) Q X.xe s₂) X.xe s₁) X.xe s:=by
 refine dJ (ha pins s σ H _ I h) fun v s1 hpt=>?_
 obtain⟨x,H1,I1,r1,q1⟩:=hpt
 refine dJ (hb pins s1 σ H1 _ I1 q1) fun u s2 hpt=>?_
 obtain⟨y,H2,I2,r2,q2⟩:=hpt
 exact hf v u s2 x y H2 I2 r1 r2 q2
theorem bh {op:Operator} {r:R2} (ho:v9 X (binaryOp op) r) (ha:PE X a ta) (hb:PE X b tb):PE X (.BinOp a op b pos) (S9 r ta tb):=by
 intro pins s σ H Q I h
 exact wpAny_BinOp (Rk ha hb I h fun v u s2 x y H2 I2 rx ry q=>ho pins s2 σ H2 x y v u Q I2 rx ry q)
theorem Vj {f:Value->Value->Sem Value} {C:Int->Int->Prop} {g:Int->Int->Int}
  (rule:∀(i j:Int) (t u:Tok) (s:Shared) (Q:Value->Shared->Prop) (E:Value->Shared->Prop),C i j->Q (.int (g i j) s.toks) { s with toks:=s.toks+1 }->wpAny (model X.prog X.w) X.A (f (.int i t) (.int j u)) Q E s):
  v9 X f (rI C fun i j=>.int (g i j)):=by
 intro pins s σ H x y v u Q I rx ry h
 obtain⟨i,j,rfl,rfl,hc,q⟩:=h
 obtain⟨t,rfl⟩:=rx
 obtain⟨t',rfl⟩:=ry
 exact rule i j t t' s _ _ hc ⟨.int (g i j),H,I.tok _,⟨_,rfl⟩,q⟩
theorem Ro {f:Value->Value->Sem Value} {g:Int->Int->Int}
  (rule:∀(i j:Int) (t u:Tok) (s:Shared) (Q:Value->Shared->Prop) (E:Value->Shared->Prop),Q (.int (g i j) s.toks) { s with toks:=s.toks+1 }->wpAny (model X.prog X.w) X.A (f (.int i t) (.int j u)) Q E s):
  v9 X f (Pz fun i j=>.int (g i j)):=by
 intro pins s σ H x y v u Q I rx ry h
 obtain⟨i,j,rfl,rfl,q⟩:=h
 obtain⟨t,rfl⟩:=rx
 obtain⟨t',rfl⟩:=ry
 exact rule i j t t' s _ _ ⟨.int (g i j),H,I.tok _,⟨_,rfl⟩,q⟩
theorem Rf {f:Value->Value->Sem Value} {g:Int->Int->Bool}
  (rule:∀(i j:Int) (t u:Tok) (s:Shared) (Q:Value->Shared->Prop) (E:Value->Shared->Prop),Q (.bool (g i j)) s->wpAny (model X.prog X.w) X.A (f (.int i t) (.int j u)) Q E s):
  v9 X f (Pz fun i j=>.bl (g i j)):=by
 intro pins s σ H x y v u Q I rx ry h
 obtain⟨i,j,rfl,rfl,q⟩:=h
 obtain⟨t,rfl⟩:=rx
 obtain⟨t',rfl⟩:=ry
 exact rule i j t t' s _ _ ⟨.bl (g i j),H,I,rfl,q⟩
noncomputable def Vv (i j:Int):Prop:=0<=j/\j<=1000000/\i.natAbs <2 ^ 64
theorem cT:v9 X (binaryOp .Add) (Pz fun i j=>.int (i+j)):=Ro fun _ _ _ _ _ _ _ q=>add_int q
theorem CZ:v9 X (binaryOp .Sub) (Pz fun i j=>.int (i - j)):=Ro fun _ _ _ _ _ _ _ q=>sub_int q
theorem bZ:v9 X (binaryOp .Mod) (rI (fun _ j=>0 <j) fun i j=>.int (i % j)):=Vj fun i j _ _ _ _ _ hc q=>by
 have h1:(0:Int) <j:=hc
 exact mod_int' (by omega) (by rw [Int.fmod_eq_emod_of_nonneg i (by omega)];exact q)
theorem MJ:v9 X (binaryOp .Pow) (rI Vv fun i j=>.int (i ^ j.toNat)):=Vj fun _ _ _ _ _ _ _ hc q=>pow_int_small hc.1 hc.2.1 hc.2.2 q
theorem Jz:v9 X (inplaceOp .Add) (Pz fun i j=>.int (i+j)):=Ro fun _ _ _ _ _ _ _ q=>iadd_int q
end
noncomputable def UL:V->V->Bool
 | .non,.non=>true | .non,.int _=>true | .int _,.non=>true | .non,.bl _=>true | .bl _,.non=>true | .non,.str _=>true | .str _,.non=>true
 | .int _,.int _=>true | .bl _,.bl _=>true | .str _,.str _=>true | .byt _,.byt _=>true
 | .int _,.str _=>true | .str _,.int _=>true | .bl _,.str _=>true | .str _,.bl _=>true
 | _,_=>false
noncomputable def rEq:R2:=fun x y H Q=>UL x y=true/\Q (.bl (decide (x=y))) H
noncomputable def rNe:R2:=fun x y H Q=>UL x y=true/\Q (.bl (!decide (x=y))) H
theorem Jd {i j:Int}:decide (V.int i=V.int j)=(i == j):=by
 rw [Bool.eq_iff_iff]
 simp
theorem Mr {i j:Bool}:decide (V.bl i=V.bl j)=(i == j):=by
 rw [Bool.eq_iff_iff]
 simp
theorem Jf {i j:Str}:decide (V.str i=V.str j)=(i == j):=by
 rw [Bool.eq_iff_iff]
 simp
theorem Iz {i j:Array UInt8}:decide (V.byt i=V.byt j)=(i.toList == j.toList):=by
 rw [Bool.eq_iff_iff]
 cases i
 cases j
 simp
section
variable {X:Cx} {a b c:Expr} {ta tb tc:TE} {pos:Pos}
theorem cD {pins:List (Addr×Obj)} {σ:St} {H:Hp} {s:Shared} {Q:VK} {k k':Bool} (I:Inv X pins σ H s) (q:Q (.bl k) H) (e:k=k'):EP X pins σ Q (.bool k') s:=by
 subst e
 exact⟨.bl k,H,I,rfl,q⟩
theorem iM:v9 X (compareOp .Eq) rEq:=by
 intro pins s σ H x y v u Q I rx ry h
 obtain⟨hs,q⟩:=h
 cases x with
 | non=>
  cases rx
  cases y with
  | non=>cases ry;exact PySem.EqNone.eq_none_none (cD I q (by simp))
  | bl j=>cases ry;exact PySem.EqNone.eq_none_bool (cD I q (by simp))
  | int j=>obtain⟨t',rfl⟩:=ry;exact PySem.EqNone.eq_none_int (cD I q (by simp))
  | str j=>obtain⟨t',rfl⟩:=ry;exact PySem.EqNone.eq_none_str (cD I q (by simp))
  | _=>exact absurd (show false=true from hs) Bool.false_ne_true
 | bl i=>
  cases rx
  cases y with
  | non=>cases ry;exact PySem.EqNone.eq_bool_none (cD I q (by simp))
  | bl j=>cases ry;exact eq_bool (cD I q Mr)
  | str j=>obtain⟨t',rfl⟩:=ry;exact PySem.EqMixed.eq_bool_str (cD I q (by simp))
  | _=>exact absurd (show false=true from hs) Bool.false_ne_true
 | int i=>
  obtain⟨t,rfl⟩:=rx
  cases y with
  | non=>cases ry;exact PySem.EqNone.eq_int_none (cD I q (by simp))
  | int j=>obtain⟨t',rfl⟩:=ry;exact eq_int (cD I q Jd)
  | str j=>obtain⟨t',rfl⟩:=ry;exact PySem.EqMixed.eq_int_str (cD I q (by simp))
  | _=>exact absurd (show false=true from hs) Bool.false_ne_true
 | str i=>
  obtain⟨t,rfl⟩:=rx
  cases y with
  | non=>cases ry;exact PySem.EqNone.eq_str_none (cD I q (by simp))
  | bl j=>cases ry;exact PySem.EqMixed.eq_str_bool (cD I q (by simp))
  | int j=>obtain⟨t',rfl⟩:=ry;exact PySem.EqMixed.eq_str_int (cD I q (by simp))
  | str j=>obtain⟨t',rfl⟩:=ry;exact eq_str (cD I q Jf)
  | _=>exact absurd (show false=true from hs) Bool.false_ne_true
 | byt i=>
  obtain⟨t,rfl⟩:=rx
  cases y with
  | byt j=>obtain⟨t',rfl⟩:=ry;exact PySem.W.eq_bytes (cD I q Iz)
  | _=>exact absurd (show false=true from hs) Bool.false_ne_true
 | _=>cases y <;> exact absurd (show false=true from hs) Bool.false_ne_true
theorem Jy:v9 X (compareOp .NotEq) rNe:=by
 intro pins s σ H x y v u Q I rx ry h
 obtain⟨hs,q⟩:=h
 cases x with
 | non=>
  cases rx
  cases y with
  | non=>cases ry;exact PySem.EqNone.ne_none_none (cD I q (by simp))
  | bl j=>cases ry;exact PySem.EqNone.ne_none_bool (cD I q (by simp))
  | int j=>obtain⟨t',rfl⟩:=ry;exact PySem.EqNone.ne_none_int (cD I q (by simp))
  | str j=>obtain⟨t',rfl⟩:=ry;exact PySem.EqNone.ne_none_str (cD I q (by simp))
  | _=>exact absurd (show false=true from hs) Bool.false_ne_true
 | bl i=>
  cases rx
  cases y with
  | non=>cases ry;exact PySem.EqNone.ne_bool_none (cD I q (by simp))
  | bl j=>cases ry;exact ne_bool (cD I q (congrArg not Mr))
  | str j=>obtain⟨t',rfl⟩:=ry;exact PySem.EqMixed.ne_bool_str (cD I q (by simp))
  | _=>exact absurd (show false=true from hs) Bool.false_ne_true
 | int i=>
  obtain⟨t,rfl⟩:=rx
  cases y with
  | non=>cases ry;exact PySem.EqNone.ne_int_none (cD I q (by simp))
  | int j=>obtain⟨t',rfl⟩:=ry;exact ne_int (cD I q (congrArg not Jd))
  | str j=>obtain⟨t',rfl⟩:=ry;exact PySem.EqMixed.ne_int_str (cD I q (by simp))
  | _=>exact absurd (show false=true from hs) Bool.false_ne_true
 | str i=>
  obtain⟨t,rfl⟩:=rx
  cases y with
  | non=>cases ry;exact PySem.EqNone.ne_str_none (cD I q (by simp))
  | bl j=>cases ry;exact PySem.EqMixed.ne_str_bool (cD I q (by simp))
  | int j=>obtain⟨t',rfl⟩:=ry;exact PySem.EqMixed.ne_str_int (cD I q (by simp))
  | str j=>obtain⟨t',rfl⟩:=ry;exact ne_str (cD I q (congrArg not Jf))
  | _=>exact absurd (show false=true from hs) Bool.false_ne_true
 | byt i=>
  obtain⟨t,rfl⟩:=rx
  cases y with
  | byt j=>obtain⟨t',rfl⟩:=ry;exact PySem.W.ne_bytes (cD I q (congrArg not Iz))
  | _=>exact absurd (show false=true from hs) Bool.false_ne_true
 | _=>cases y <;> exact absurd (show false=true from hs) Bool.false_ne_true
theorem uv:v9 X (compareOp .Lt) (Pz fun i j=>.bl (decide (i <j))):=Rf fun _ _ _ _ _ _ _ q=>lt_int q
theorem qF:v9 X (compareOp .LtE) (Pz fun i j=>.bl (decide (i<=j))):=Rf fun _ _ _ _ _ _ _ q=>le_int q
theorem zb:v9 X (compareOp .Gt) (Pz fun i j=>.bl (decide (j <i))):=Rf fun _ _ _ _ _ _ _ q=>gt_int q
theorem wV:v9 X (compareOp .In) (fun x y H Q=>∃i j,x=.str i/\y=.str j/\Q (.bl (!(Builtin.Str.occurrences j i 0 j.length 1).isEmpty)) H):=by
 intro pins s σ H x y v u Q I rx ry h
 obtain⟨i,j,rfl,rfl,q⟩:=h
 obtain⟨t,rfl⟩:=rx
 obtain⟨t',rfl⟩:=ry
 exact in_str (cD I q rfl)
theorem bL (b:Expr) {op:CmpOp} (h:op≠.In:=by decide) (h2:op≠.NotIn:=by decide):behindInMarks op b=false:=by
 have e1:(op == CmpOp.In)=false:=by cases op <;> first | rfl | exact absurd rfl h
 have e2:(op == CmpOp.NotIn)=false:=by cases op <;> first | rfl | exact absurd rfl h2
 cases b <;> simp [behindInMarks,e1,e2]
theorem nH {op:CmpOp} {r:R2} (ho:v9 X (compareOp op) r) (ha:PE X a ta) (hb:PE X b tb) (hm:behindInMarks op b=false):PE X (.Compare a [op] [b] pos) (S9 r ta tb):=by
 intro pins s σ H Q I h
 exact wpAny_Compare1 (Rk ha hb I h fun v u s2 x y H2 I2 rx ry q=>ho pins s2 σ H2 x y v u Q I2 rx ry q) hm
inductive Ld (Q:Bool->Hp->Prop) (x:V) (H':Hp):Prop where
 | mk:∀k,x=.bl k->Q k H'->Ld Q x H'
noncomputable def Mf (t:TE):TT:=fun σ H Q=>t σ H fun x H'=>Ld Q x H'
theorem bC {op:CmpOp} {r:R2} (ho:v9 X (compareOp op) r) (ha:PE X a ta) (hb:PE X b tb) (hm:behindInMarks op b=false):PT X (.Compare a [op] [b] pos) (Mf (S9 r ta tb)):=by
 intro pins s σ H Q I h
 refine wpAny_isTrue_Compare1 (dJ (ha pins s σ H _ I h) fun v s1 ⟨x,H1,I1,r1,q1⟩=>dJ (hb pins s1 σ H1 _ I1 q1) fun u s2 ⟨y,H2,I2,r2,q2⟩=>
  dJ (ho pins s2 σ H2 x y v u _ I2 r1 r2 q2) fun c s3 ⟨z,H3,I3,r3,k,e,q3⟩=>?_) hm
 subst e
 cases r3
 exact wpAny_truthy_bool ⟨H3,I3,q3⟩
inductive Jq (r':R2) (tc:TE) (σ:St) (Q:VK) (y:V) (z:V) (H3:Hp):Prop where
 | mk:∀k,z=.bl k->((if k=true then tc σ H3 fun w' H4=>r' y w' H4 Q else Q (.bl false) H3))->Jq r' tc σ Q y z H3
noncomputable def Mg (r r':R2) (ta tb tc:TE):TE:=fun σ H Q=>ta σ H fun x H1=>tb σ H1 fun y H2=>r x y H2 fun z H3=>Jq r' tc σ Q y z H3
theorem MT {op op':CmpOp} {r r':R2} (ho:v9 X (compareOp op) r) (ho':v9 X (compareOp op') r') (ha:PE X a ta) (hb:PE X b tb) (hc:PE X c tc)
  (hm:lastMarks [op,op'] [b,c]=false:=by with_unfolding_all rfl):PE X (.Compare a [op,op'] [b,c] pos) (Mg r r' ta tb tc):=by
 intro pins s σ H Q I h
 refine Compare_chain (dJ (ha pins s σ H _ I h) fun v s1 ⟨x,H1,I1,r1,q1⟩=>chain_link (dJ (hb pins s1 σ H1 _ I1 q1) fun u s2 ⟨y,H2,I2,r2,q2⟩=>
  dJ (ho pins s2 σ H2 x y v u _ I2 r1 r2 q2) fun d s3 ⟨z,H3,I3,r3,k,e,q3⟩=>?_)) hm
 subst e
 cases r3
 refine wpAny_truthy_bool ?_
 cases k with
 | false=>exact ite_ff ⟨.bl false,H3,I3,rfl,q3⟩
 | true=>exact ite_tt (chain_last (dJ (hc pins s3 σ H3 _ I3 q3) fun w' s4 ⟨z',H4,I4,r4,q4⟩=>ho' pins s4 σ H4 y z' u w' Q I4 r2 r4 q4))
theorem rH {op op':CmpOp} {r r':R2} (ho:v9 X (compareOp op) r) (ho':v9 X (compareOp op') r') (ha:PE X a ta) (hb:PE X b tb) (hc:PE X c tc)
  (hm:lastMarks [op,op'] [b,c]=false:=by with_unfolding_all rfl):PT X (.Compare a [op,op'] [b,c] pos) (Mf (Mg r r' ta tb tc)):=by
 intro pins s σ H Q I h
 refine isTrue_chain (dJ (ha pins s σ H _ I h) fun v s1 ⟨x,H1,I1,r1,q1⟩=>test_link (dJ (hb pins s1 σ H1 _ I1 q1) fun u s2 ⟨y,H2,I2,r2,q2⟩=>
  dJ (ho pins s2 σ H2 x y v u _ I2 r1 r2 q2) fun d s3 ⟨z,H3,I3,r3,k,e,q3⟩=>?_)) hm
 subst e
 cases r3
 refine wpAny_truthy_bool ?_
 cases k with
 | false=>
  obtain⟨k',e',q'⟩:=q3
  cases e'
  exact ite_ff ⟨H3,I3,q'⟩
 | true=>
  refine ite_tt (test_last (dJ (hc pins s3 σ H3 _ I3 q3) fun w' s4 ⟨z',H4,I4,r4,q4⟩=>dJ (ho' pins s4 σ H4 y z' u w' _ I4 r2 r4 q4) fun d' s5 hpt=>?_))
  obtain⟨z2,H5,I5,r5,k2,e2,q5⟩:=hpt
  subst e2
  cases r5
  exact wpAny_truthy_bool ⟨H5,I5,q5⟩
theorem CJ:(sizeLine:Nat) <2 ^ 63:=by rw [sizeLine_eq];decide
theorem uC:v9 X (binaryOp .Add) (fun x y H Q=>∃i j,x=.str i/\y=.str j/\i.length+j.length<=sizeLine/\Q (.str (i ++ j)) H):=by
 intro pins s σ H x y v u Q I rx ry h
 obtain⟨i,j,rfl,rfl,hz,q⟩:=h
 obtain⟨t,rfl⟩:=rx
 obtain⟨t',rfl⟩:=ry
 exact add_str (fun t' tk=>⟨.str (i ++ j),H,I.tok _,⟨_,rfl⟩,q⟩) hz
theorem vals1 {x:V} {us:List Value} (r:Vals [x] us):∃u,us=[u]/\RelV x u:=by
 cases r with
 | cons r1 r2=>cases r2;exact⟨_,rfl,r1⟩
theorem vals2 {x y:V} {us:List Value} (r:Vals [x,y] us):∃u w',us=[u,w']/\RelV x u/\RelV y w':=by
 cases r with
 | cons r1 r2=>
  cases r2 with
  | cons r3 r4=>cases r4;exact⟨_,_,rfl,r1,r3⟩
theorem wD (hc:X.calm=true):j8 X (.builtin "max") (fun xs H Q=>∃i j,xs=[.int i,.int j]/\Q (.int (if j >i then j else i)) H):=by
 intro pins s σ H xs us Q I r h
 obtain⟨i,j,rfl,q⟩:=h
 obtain⟨u,w',rfl,⟨t,rfl⟩,⟨t',rfl⟩⟩:=vals2 r
 refine max_two_ints (I.ok.hd hc) fun h' tk k=>⟨_,H,I.kept k,?_,q⟩
 by_cases hj:j >i
 ·rw [if_pos hj,if_pos hj];exact⟨_,rfl⟩
 ·rw [if_neg hj,if_neg hj];exact⟨_,rfl⟩
theorem DX:j8 X (.type "str") (fun xs H Q=>∃i,xs=[.int i]/\i.natAbs.log2 <1920/\Q (.str (toString i)) H):=by
 intro pins s σ H xs us Q I r h
 obtain⟨i,rfl,hz,q⟩:=h
 obtain⟨u,rfl,t,rfl⟩:=vals1 r
 exact PySem.P.str_of_int hz ⟨.str _,H,I.tok _,⟨_,rfl⟩,q⟩
noncomputable def Sy (K:PySem.W.Frag) (x:V) (H:Hp) (n:Nat):Prop:=
 match x with
 | .str y=>y.length<=sizeLine/\n=y.length
 | .byt y=>y.size<=sizeLine/\n=y.size
 | .ref p=>(∃xs,bT K H p xs/\n=xs.length)∨∃xs,gK K H p xs/\n=xs.length
 | _=>False
theorem bK:j8 X (.builtin "len") (fun xs H Q=>∃x n,xs=[x]/\Sy X.K x H n/\Q (.int n) H):=by
 intro pins s σ H xs us Q I r h
 obtain⟨x,n,rfl,e,q⟩:=h
 obtain⟨u,rfl,rx⟩:=vals1 r
 have hl:=CJ
 have hs:sizeLine=16777216:=sizeLine_eq
 cases x with
 | str y=>
  obtain⟨t,rfl⟩:=rx
  obtain⟨hy,e'⟩:y.length<=sizeLine/\n=y.length:=e
  subst e'
  exact len_str (by omega) ⟨.int _,H,I.tok _,⟨_,rfl⟩,q⟩
 | byt y=>
  obtain⟨t,rfl⟩:=rx
  obtain⟨hy,e'⟩:y.size<=sizeLine/\n=y.size:=e
  subst e'
  exact PySem.W.len_bytes (by omega) ⟨.int _,H,I.tok _,⟨_,rfl⟩,q⟩
 | ref p=>
  cases rx
  have e':(∃xs,bT X.K H p xs/\n=xs.length)∨∃xs,gK X.K H p xs/\n=xs.length:=e
  rcases e' with ⟨xs,hx,e'⟩ | ⟨xs,hx,e'⟩
  ·subst e'
   obtain⟨its,r',pl,hz⟩:=I.list hx
   have hlen:=r'.length
   exact Calls.call_len_list pl.isList (by simp only [List.size_toArray];omega) ⟨.int xs.length,H,I.tok _,⟨_,by simp only [List.size_toArray];rw [hlen]⟩,q⟩
  ·subst e'
   obtain⟨its,r',pl,hz⟩:=I.tuple hx
   have hlen:=r'.length
   exact len_tuple pl (by simp only [List.size_toArray];omega) ⟨.int xs.length,H,I.tok _,⟨_,by simp only [List.size_toArray];rw [hlen]⟩,q⟩
 | _=>exact(show False from e).elim
end
structure G9 (h:Heap) (x dx C:Addr) (mA:Str->Option Value):Prop where
 obj:h.get? x=some (PySem.W.instObj C dx)
 ns:h.Ns1 dx mA
 ne:dx≠x
theorem Ks {h:Heap} {dx:Addr} {mA:Str->Option Value} (n:h.Ns1 dx mA):∃od,h.get? dx=some od/\∀name,PySem.W.lookIn name od=some (mA name):=by
 obtain⟨o,es,ep,ho,hd,hk,_,hm⟩:=n
 refine⟨o,ho,fun name=>?_⟩
 have e:=hm name
 unfold nsFind findBy at e
 rw [<-Array.find?_toList] at e
 unfold PySem.W.lookIn
 rw [hd]
 dsimp only
 split
 ·rename_i y q
  rw [q] at e
  exact congrArg some e
 ·rename_i q
  rw [q] at e
  have a:es.toList.any (·.refKey)=false:=by
   rw [List.any_eq_false]
   intro y hy
   obtain⟨z,t,hkey⟩:=hk y (Array.mem_toList_iff.mp hy)
   simp [DictEntry.refKey,hkey]
  have a':¬es.toList.any (·.refKey)=true:=by rw [a];exact Bool.false_ne_true
  rw [if_neg a']
  exact congrArg some e
theorem G9.look {h:Heap} {x dx C:Addr} {mA:Str->Option Value} (I:G9 h x dx C mA):∃od,PySem.W.InstAt h x (PySem.W.instObj C dx) C (some od)/\∀name,PySem.W.lookIn name od=some (mA name):=
 let ⟨od,ho,hl⟩:=Ks I.ns
 ⟨od,⟨I.obj,rfl,rfl,ho⟩,hl⟩
section
variable {prog:Program} {w:World} {A:Around} {E:Value->Shared->Prop} {s:Shared} {K:PySem.W.Frag} {x dx C f:Addr} {mA:Str->Option Value} {name:Str} {v:Value}
theorem O2 {expr:Bool} {Q:Value->Shared->Prop} (X:K.In s.heap) (I:G9 s.heap x dx C mA) (hg:PySem.W.plainGet K C name=true) (hh:PySem.W.hasDictIn K C=true)
  (ha:PySem.W.findIn K (.ref C) name=some none) (hv:mA name=some v) (hv':PySem.W.handedIn v=true) (h:Q v { s with toks:=s.toks+1 }):
  wpAny (model prog w) A (getAttr (.ref x) name expr) Q E s:=by
 obtain⟨od,J,hl⟩:=I.look
 exact PySem.W.get_value X J (PySem.W.plainGet_of hg).1 (PySem.W.findObj_own hh ha rfl (by rw [hl,hv])) hv' h
theorem Mv {pl:Sem Bool} {Q:Value×List Value->Shared->Prop} (X:K.In s.heap) (I:G9 s.heap x dx C mA) (hg:PySem.W.plainGet K C name=true)
  (hf:PySem.W.findIn K (.ref C) name=some (some (.ref f))) (ht:PySem.W.isFn K (.ref f)=true) (hv:mA name=none) (h:Q (.ref f,[.ref x]) s):
  wpAny (model prog w) A (getMethod (.ref x) name pl) Q E s:=by
 obtain⟨od,J,hl⟩:=I.look
 exact PySem.W.method_fn X J (PySem.W.plainGet_of hg).1 (PySem.W.plainGet_of hg).2 hf (beq_iff_eq.mp ht) (by show(PySem.W.lookIn name od).map (·.isSome)=some false;rw [hl,hv];rfl) h
theorem Qj {ns:List Str} {Q:Unit->Shared->Prop} (X:K.In s.heap) (I:G9 s.heap x dx C mA)
  (hs:PySem.W.findIn K (.ref C) "__setattr__" =some (some (.builtin "object.__setattr__"))) (hp:PySem.W.plainOver K C=true) (ht:PySem.W.takerIn K C name=some none) (hh:PySem.W.hasDictIn K C=true)
  (hw:PySem.Within mA ns) (hsz:ns.length<=sizeLine)
  (h:∀h',G9 h' x dx C (fun y=>if y=name then some v else mA y)->Heap.SameBut dx s.heap h'->Q () { s with heap:=h',toks:=s.toks+2 }):
  wpAny (model prog w) A (setAttr (.ref x) name v) Q E s:=by
 obtain⟨od,J,hl⟩:=I.look
 refine PySem.W.set_plain X J hs (PySem.W.osa_open (s:={ s with toks:=s.toks+1 }) (r:=none) X J hp ht fun b=>?_)
 obtain⟨cd,hc,hd'⟩:=PySem.W.any_some hh
 have hx:s.heap.get? x=some ⟨.ref C,some dx,.plain,#[]⟩:=I.obj
 refine wpAny_bind (wpAny_pure (wpAny_bind (wpAny_bind (wpAny_loadPart hx (wpAny_bind (PySem.W.Looks.here (s:={ s with toks:=s.toks+1 }) (PySem.W.looks_clsIn X hc) ?_))))))
 rw [hd']
 refine wpAny_pure (a:=some dx) (wpAny_bind (wpAny_pure (wpAny_bind ?_)))
 refine wpAny_nsSet1 (s:={ s with toks:=s.toks+1 }) I.ns fun h' hn2 hs2=>?_
 obtain⟨oD,esD,epD,hoD,hdD,hcD⟩:=hn2.count (PySem.Within.cons name v hw)
 refine wpAny_bind (wpAny_lookBehind hoD (by rw [hdD];exact pastItsLine_dict (Nat.le_trans hcD (by rw [List.length_cons];omega))) ?_)
 exact wpAny_pure (h _ ⟨(hs2.2 _ (Ne.symm I.ne)).trans I.obj,hn2,I.ne⟩ hs2)
theorem Lz {R:Result->Shared->Prop} {vs:List Value} {kw:List (Str×Value)} (X:K.In s.heap) (hm:PySem.W.makesIn K C=true)
  (hi:PySem.W.findIn K (.ref C) "__init__" =some (some (.ref f))) (hf:PySem.W.typeIn K (.ref f)=some (.type "function"))
  (h:codeAny (model prog w) (A.under (.builtin "type.__call__" ⟨.ref C:: vs,kw⟩)) (.call (.ref f) ⟨.ref (s.heap.objs.size+1):: vs,kw⟩) (PySem.W.InitBack (s.heap.objs.size+1) R)
   { s with heap:=(s.heap.push PySem.W.emptyDict).push (PySem.W.instObj C s.heap.objs.size) }):
  codeAny (model prog w) A (.call (.ref C) ⟨vs,kw⟩) R s:=by
 obtain⟨hh,g,d,t,os⟩:=s
 exact PySem.W.make_core (PySem.W.makes_of X hm) (PySem.W.looks_findIn X hi) (fun self=>PySem.W.bind_fn X self hf) (.inl rfl) h
end
noncomputable def aG (f:Str) (v:V):List (Str×V)->List (Str×V)
 | []=>[(f,v)]
 | (g,x):: r=>if g=f then(g,v):: r else(g,x):: aG f v r
theorem aB (f g:Str) (v:V):∀fs:List (Str×V),(aG f v fs).lookup g=if g=f then some v else fs.lookup g
 | []=>by
  show List.lookup g [(f,v)]=_
  by_cases h:g=f
  ·have hb:(g == f)=true:=beq_iff_eq.mpr h
   simp only [List.lookup,hb,if_pos h]
  ·have hb:(g == f)=false:=beq_eq_false_iff_ne.mpr h
   simp only [List.lookup,hb,if_neg h]
 | (k,x):: r=>by
  have ih:=aB f g v r
  rw [show aG f v ((k,x):: r)=(if k=f then(k,v):: r else(k,x):: aG f v r) from rfl]
  by_cases hk:k=f
  ·rw [if_pos hk]
   by_cases h:g=k
   ·have hb:(g == k)=true:=beq_iff_eq.mpr h
    simp only [List.lookup,hb,if_pos (h.trans hk)]
   ·have hb:(g == k)=false:=beq_eq_false_iff_ne.mpr h
    simp only [List.lookup,hb,if_neg (fun e:g=f=>h (e.trans hk.symm))]
  ·rw [if_neg hk]
   by_cases h:g=k
   ·have hb:(g == k)=true:=beq_iff_eq.mpr h
    simp only [List.lookup,hb,if_neg (fun e:g=f=>hk (h.symm.trans e))]
   ·have hb:(g == k)=false:=beq_eq_false_iff_ne.mpr h
    simp only [List.lookup,hb]
    exact ih
theorem wH (f:Str) (v:V):∀fs:List (Str×V),f∈(aG f v fs).map (·.1)/\∀g,g∈fs.map (·.1)->g∈(aG f v fs).map (·.1)
 | []=>⟨by simp [aG],fun g h=>by simp at h⟩
 | (k,x):: r=>by
  obtain⟨i1,i2⟩:=wH f v r
  rw [show aG f v ((k,x):: r)=(if k=f then(k,v):: r else(k,x):: aG f v r) from rfl]
  by_cases hk:k=f
  ·rw [if_pos hk]
   subst hk
   exact⟨by simp,fun g h=>by simpa using h⟩
  ·rw [if_neg hk]
   refine⟨?_,fun g h=>?_⟩
   ·rw [List.map_cons]
    exact List.mem_cons_of_mem _ i1
   ·rw [List.map_cons] at h ⊢
    rcases List.mem_cons.mp h with e | e
    ·exact List.mem_cons.mpr (.inl e)
    ·exact List.mem_cons_of_mem _ (i2 g e)
theorem sr (f:Str) (v:V):∀fs:List (Str×V),(aG f v fs).length<=fs.length+1
 | []=>by simp [aG]
 | (k,x):: r=>by
  have ih:=sr f v r
  rw [show aG f v ((k,x):: r)=(if k=f then(k,v):: r else(k,x):: aG f v r) from rfl]
  by_cases hk:k=f
  ·rw [if_pos hk,List.length_cons,List.length_cons];omega
  ·rw [if_neg hk,List.length_cons,List.length_cons];omega
theorem qH.some_of {v:V} {o:Option Value} (r:qH (some v) o):∃u,o=some u/\RelV v u:=by
 cases o with
 | none=>exact(show False from r).elim
 | some u=>exact⟨u,rfl,r⟩
theorem qH.none_of {o:Option Value} (r:qH none o):o=none:=by
 cases o with
 | none=>rfl
 | some u=>exact(show False from r).elim
theorem J9 {v:V} {u:Value} (r:RelV v u):PySem.W.handedIn u=true:=by
 cases v with
 | non=>cases (show u=Value.none from r);rfl
 | bl b=>cases (show u=Value.bool b from r);rfl
 | int i=>obtain⟨t,e⟩:=(show ∃t,u=Value.int i t from r);cases e;rfl
 | str x=>obtain⟨t,e⟩:=(show ∃t,u=Value.str x t from r);cases e;rfl
 | byt b=>obtain⟨t,e⟩:=(show ∃t,u=Value.bytes b t from r);cases e;rfl
 | flt b=>obtain⟨t,e⟩:=(show ∃t,u=Value.float b t from r);cases e;rfl
 | ref a=>cases (show u=Value.ref a from r);rfl
 | ty n=>cases (show u=Value.type n from r);rfl
section
variable {P:Program} {w:World} {H H':Hp} {h h':Heap} {a C dx:Addr} {fs fs':List (Str×V)}
theorem Eu (hok:tG P w H h) (e:H a=some (.ins C dx fs)):∃mA,G9 h a dx C mA/\(∀f,qH (fs.lookup f) (mA f))/\PySem.Within mA (fs.map (·.1))/\fs.length<=1000/\H dx=some (.own a):=by
 obtain⟨d,z,ne,ob,mA,n,r,q⟩:=(show fK P w H h a (.ins C dx fs) from hok a _ e)
 exact⟨mA,⟨ob,n,ne⟩,r,q,z,d⟩
end
structure Kz (K:PySem.W.Frag) (C:Addr):Prop where
 pg:PySem.W.plainGet K C Str.empty=true
 hd:PySem.W.hasDictIn K C=true
 po:PySem.W.plainOver K C=true
 sa:PySem.W.findIn K (.ref C) "__setattr__" =some (some (.builtin "object.__setattr__"))
theorem Kz.get {K:PySem.W.Frag} {C:Addr} (c:Kz K C) (f:Str):PySem.W.plainGet K C f=true:=c.pg
noncomputable def oN (K:PySem.W.Frag) (C:Addr) (f:Str):Prop:=PySem.W.findIn K (.ref C) f=some none
theorem oN.taker {K:PySem.W.Frag} {C:Addr} {f:Str} (n:oN K C f):PySem.W.takerIn K C f=some none:=by
 unfold PySem.W.takerIn
 rw [show PySem.W.findIn K (.ref C) f=some none from n]
 rfl
structure Meth (K:PySem.W.Frag) (C:Addr) (m:Str) (f:Addr):Prop where
 at_:PySem.W.findIn K (.ref C) m=some (some (.ref f))
 fn:PySem.W.isFn K (.ref f)=true
 kp:PySem.W.keepIn K (.ref f)=true
section
variable {X:Cx} {pins:List (Addr×Obj)} {σ:St} {H:Hp} {s:Shared} {a C dx:Addr} {fs:List (Str×V)} {f:Str} {v:V} {A:Around} {E:Value->Shared->Prop}
theorem GR {b:Bool} {Q:Value->Shared->Prop} (I:Inv X pins σ H s) (e:H a=some (.ins C dx fs)) (c:Kz X.K C) (n:oN X.K C f) (l:fs.lookup f=some v)
  (h:∀u s',Inv X pins σ H s'->RelV v u->Q u s'):wpAny (model X.prog X.w) A (getAttr (.ref a) f b) Q E s:=by
 obtain⟨mA,O,r,_,_,_⟩:=Eu I.hok e
 obtain⟨u,hu,ru⟩:=qH.some_of (v:=v) (o:=mA f) (by rw [<-l];exact r f)
 exact O2 I.kIn O (c.get f) c.hd n hu (J9 ru) (h u _ (I.tok _) ru)
theorem qe {m:Str} {g:Addr} {pl:Sem Bool} {Q:Value×List Value->Shared->Prop} (I:Inv X pins σ H s) (e:H a=some (.ins C dx fs)) (c:Kz X.K C) (k:Meth X.K C m g) (l:fs.lookup m=none)
  (h:Q (.ref g,[.ref a]) s):wpAny (model X.prog X.w) A (getMethod (.ref a) m pl) Q E s:=by
 obtain⟨mA,O,r,_,_,_⟩:=Eu I.hok e
 have hn:mA m=none:=qH.none_of (by rw [<-l];exact r m)
 exact Mv I.kIn O (c.get m) k.at_ k.fn hn h
theorem G3 {y:V} {u:Value} {Q:Unit->Shared->Prop} (I:Inv X pins σ H s) (e:H a=some (.ins C dx fs)) (c:Kz X.K C) (n:oN X.K C f) (hl:fs.length <1000) (ry:RelV y u)
  (h:∀s',Inv X pins σ (upd H a (.ins C dx (aG f y fs))) s'->Q () s'):wpAny (model X.prog X.w) A (setAttr (.ref a) f u) Q E s:=by
 obtain⟨mA,O,r,wi,_,ho⟩:=Eu I.hok e
 have hz:(fs.map (·.1)).length<=sizeLine:=by rw [List.length_map,sizeLine_eq];omega
 refine Qj I.kIn O c.sa c.po n.taker c.hd wi hz fun h' O' sb=>h _ ?_
 have hd:∃o,h'.get? dx=some o:=let ⟨o,_,_,e',_⟩:=O'.ns;⟨o,e'⟩
 refine I.write (x:=a) (e:=dx) (by rw [e];exact True.intro) (.inr ho) (fun b q hb z=>(sb.2 b hb).trans z) hd ?_
 refine⟨by rw [aJ O.ne];exact ho,?_,O.ne,O'.obj,_,O'.ns,fun g=>?_,fun g hg=>?_⟩
 ·have:=sr f y fs;omega
 ·show qH ((aG f y fs).lookup g) (if g=f then some u else mA g)
  rw [aB]
  by_cases q:g=f
  ·rw [if_pos q,if_pos q];exact ry
  ·rw [if_neg q,if_neg q];exact r g
 ·by_cases q:g=f
  ·rw [q];exact(wH f y fs).1
  ·refine(wH f y fs).2 g (wi g fun z=>hg ?_)
   show(if g=f then some u else mA g)=none
   rw [if_neg q];exact z
theorem Inv.made (I:Inv X pins σ H s):Inv X pins σ (upd (upd H s.heap.objs.size (.own (s.heap.objs.size+1))) (s.heap.objs.size+1) (.ins C s.heap.objs.size []))
  { s with heap:=(s.heap.push PySem.W.emptyDict).push (PySem.W.instObj C s.heap.objs.size) }:=by
 have e1:(s.heap.push PySem.W.emptyDict).get? s.heap.objs.size=some PySem.W.emptyDict:=Heap.get?_push_size s.heap rfl
 have e2:((s.heap.push PySem.W.emptyDict).push (PySem.W.instObj C s.heap.objs.size)).get? (s.heap.objs.size+1)=some (PySem.W.instObj C s.heap.objs.size):=by
  have:=Heap.get?_push_size (s.heap.push PySem.W.emptyDict) (o:=PySem.W.instObj C s.heap.objs.size) rfl
  rwa [Heap.size_push] at this
 have e3:(s.heap.push PySem.W.emptyDict).Ns s.heap.objs.size (fun _=>none):=⟨PySem.W.emptyDict,#[],_,e1,rfl,(fun e he=>absurd he (by simp)),fun _=>rfl⟩
 have I1:=I.laid (a:=s.heap.objs.size) (o:=.own (s.heap.objs.size+1)) (h':=s.heap.push PySem.W.emptyDict) (t':=s.toks) (fun b u q=>Heap.get?_push_of_some _ q) (Nat.le_refl _) ⟨_,e1⟩
 refine I1.laid (a:=s.heap.objs.size+1) (o:=.ins C s.heap.objs.size []) (t':=s.toks) (fun b u q=>Heap.get?_push_of_some _ q) (Nat.le_of_eq (Heap.size_push _ _)) ?_
 have ne:s.heap.objs.size≠s.heap.objs.size+1:=Nat.ne_of_lt (Nat.lt_succ_self _)
 refine⟨by rw [aJ ne,aA],Nat.zero_le _,ne,e2,fun _=>none,(Heap.Ns1.of_empty e3).at fun o q=>Heap.get?_push_of_some _ q,fun _=>True.intro,fun y hy=>absurd rfl hy⟩
theorem Oz {prog:Program} {w:World} {env:Env} {e:Expr} {f:Str} {pos:Pos} {s:Shared} {Q:Value->Shared->Prop} (hb:attributeBase e f env (eval e env)=eval e env)
  (h:wpAny (model prog w) A (eval e env) (fun o s₁=>wpAny (model prog w) A (getAttr o f true) Q E s₁) E s):wpAny (model prog w) A (eval (.Attribute e f pos) env) Q E s:=
 Attribute_any_ h (by rw [arm_eval_Attribute,hb])
end
inductive QW (K:PySem.W.Frag) (f:Str) (Q:VK) (x:V) (H1:Hp):Prop where
 | mk:∀a C dx fs v,x=.ref a->H1 a=some (.ins C dx fs)->Kz K C->oN K C f->fs.lookup f=some v->Q v H1->QW K f Q x H1
noncomputable def Rt (K:PySem.W.Frag) (ta:TE) (f:Str):TE:=fun σ H Q=>ta σ H fun x H1=>QW K f Q x H1
inductive Qv (K:PySem.W.Frag) (f:Str) (D:Ends) (σ:St) (y:V) (x:V) (H2:Hp):Prop where
 | mk:∀a C dx fs,x=.ref a->H2 a=some (.ins C dx fs)->Kz K C->oN K C f->fs.length <1000->D.nx σ (upd H2 a (.ins C dx (aG f y fs)))->Qv K f D σ y x H2
noncomputable def Vq (K:PySem.W.Frag) (ta tv:TE) (f:Str):TS:=fun D σ H=>tv σ H fun y H1=>ta σ H1 fun x H2=>Qv K f D σ y x H2
noncomputable def Wf (X:Cx) (op:Operator) (rd:V->V->Hp->VK->Prop):Prop:=
 ∀(pins:List (Addr×Obj)) (s:Shared) (σ:St) (H:Hp) (x y:V) (u v:Value) (Q:VK),Inv X pins σ H s->RelV x u->RelV y v->rd x y H Q->wpAny (model X.prog X.w) X.A (inplaceOp op u v) (EP X pins σ Q) X.xe s
section
variable {X:Cx} {o e value:Expr} {f:Str} {pos pos' tpos:Pos} {ta tv:TE}
theorem bD (he:PE X e ta) (hb:attributeBase e f X.env (eval e X.env)=eval e X.env):PE X (.Attribute e f pos) (Rt X.K ta f):=by
 intro pins s σ H Q I h
 refine Oz hb (dJ (he pins s σ H _ I h) fun u s1 hpt=>?_)
 obtain⟨x,H1,I1,rx,a,C,dx,fs,v,ex,ea,c,n,l,q⟩:=hpt
 subst ex
 obtain rfl:u=Value.ref a:=rx
 exact GR I1 ea c n l fun u' s2 I2 ru=>⟨v,H1,I2,ru,q⟩
theorem je (ha:PE X o ta) (hv:PE X value tv) (hs:swapsWith value (some (.Attribute o f pos')) pos.line X.env=pure false):PS X (.Assign [.Attribute o f pos'] value pos) (Vq X.K ta tv f):=by
 intro pins s σ H D I h
 refine plainObj_wpAny_Assign_Attribute (dJ (hv pins s σ H _ I h) fun u s1 ⟨y,H1,I1,ry,q⟩=>dJ (ha pins s1 σ H1 _ I1 q) fun ov s2 hpt=>?_) hs
 obtain⟨x,H2,I2,rx,a,C,dx,fs,ex,ea,c,n,l,q2⟩:=hpt
 subst ex
 obtain rfl:ov=Value.ref a:=rx
 exact G3 I2 ea c n l ry fun s3 I3=>⟨σ,_,I3,q2⟩
end
section
variable {X:Cx} {pins:List (Addr×Obj)} {σ:St} {H:Hp} {s:Shared} {A:Around} {E:Value->Shared->Prop} {Q:Value->Shared->Prop} {c:Value} {b:Bool}
end
structure iD (k:Nat) (A:Around):Prop where
 hd:A.handled=none
 dp:A.depth+3 * k+5 <recursionLimit
 un:A.units+16 * k+200 <cLine
theorem iD.mono {j k:Nat} {A:Around} (r:iD k A) (h:j<=k):iD j A:=⟨r.hd,by have:=r.dp;omega,by have:=r.un;omega⟩
theorem iD.deeper {k:Nat} {A:Around} (r:iD (k+1) A) (env:Env):iD k (A.deeper env):=
 ⟨r.hd,by have:=r.dp;show A.depth+1+3 * k+5 <_;omega,by have:=r.un;show A.units+3+16 * k+200 <_;omega⟩
theorem Hi {A:Around} {C:Addr} {us:List Value} {kw:List (Str×Value)}:(A.under (.builtin "type.__call__" ⟨.ref C:: us,kw⟩)).depth=A.depth+1:=by
 first | rfl | simp [Around.under,Code.weight,Code.isCreation,Code.isGuard,Code.isCaller,Code.frames,Code.isFrame,guardIds]
theorem Hz {A:Around} {C:Addr} {us:List Value} {kw:List (Str×Value)}:(A.under (.builtin "type.__call__" ⟨.ref C:: us,kw⟩)).units=A.units+1:=by
 first | rfl | simp [Around.under,Code.cUnits,Code.frames,Code.isFrame]
theorem iD.make {k:Nat} {A:Around} (r:iD (k+1) A) (C:Addr) (us:List Value) (kw:List (Str×Value)):iD k (A.under (.builtin "type.__call__" ⟨.ref C:: us,kw⟩)):=
 ⟨r.hd,by have:=r.dp;rw [Hi];omega,by have:=r.un;rw [Hz];omega⟩
theorem iD.depth {k:Nat} {A:Around} (r:iD k A):A.depth <recursionLimit:=by have:=r.dp;omega
theorem iD.units {k:Nat} {A:Around} (r:iD k A):A.units+64 <cLine:=by have:=r.un;omega
noncomputable def G7:TA:=fun _ H Q=>Q [] H
noncomputable def IK (ta:TE) (tr:TA):TA:=fun σ H Q=>ta σ H fun x H1=>tr σ H1 fun xs H2=>Q (x:: xs) H2
section
variable {X:Cx} {e:Expr} {es:List Expr} {te:TE} {t:TA} {pos:Pos}
theorem ak:PA X [] G7:=fun _ _ _ _ H Q I h=>Calls.spliced_nil ⟨[],H,I,.nil,h⟩
theorem aa (ha:PE X e te) (hr:PA X es t) (hs:starEach (e:: es) X.env=(false,eval e X.env):: starEach es X.env:=by rfl):PA X (e:: es) (IK te t):=by
 intro pos pins s σ H Q I h
 rw [hs]
 show wpAny _ _ (spliced ((false,eval e X.env):: backTo pos (starEach es X.env))) _ _ s
 refine Calls.spliced_cons (dJ (ha pins s σ H _ I h) fun u s1 hpt=>?_)
 obtain⟨x,H1,I1,r1,q1⟩:=hpt
 exact dJ (hr pos pins s1 σ H1 _ I1 q1) fun us s2 ⟨xs,H2,I2,r2,q2⟩=>⟨x:: xs,H2,I2,.cons r1 r2,q2⟩
noncomputable def V3 (t:TA):TE:=fun σ H Q=>t σ H fun xs H1=>xs.length<=sizeLine/\∀p,H1 p=none->Q (.ref p) (upd H1 p (.tup xs))
noncomputable def VJ (t:TA):TE:=fun σ H Q=>t σ H fun xs H1=>xs.length<=sizeLine/\∀p,H1 p=none->Q (.ref p) (upd H1 p (.lst xs))
theorem cZ {x1} (h:PA X es t):PE X (.Tuple es x1 pos) (V3 t):=by
 intro pins s σ H Q I hq
 refine wpAny_Tuple_spliced (dJ (h pos pins s σ H _ I hq) fun us s1 ⟨xs,H1,I1,r,z,q⟩=>⟨by rw [<-r.length];exact z,?_⟩)
 have hf:H1 s1.heap.objs.size=none:=I1.hok.fresh (Nat.le_refl _)
 refine⟨.ref s1.heap.objs.size,upd H1 s1.heap.objs.size (.tup xs),I1.laid (t':=s1.toks) (fun b u e=>Heap.get?_push_of_some _ e) (Nat.le_refl _) ?_,rfl,q _ hf⟩
 exact⟨z,us,r,⟨_,Heap.get?_push_size _ rfl,rfl,_,rfl⟩⟩
theorem bF (h:PA X es t):PE X (.List es pos) (VJ t):=by
 intro pins s σ H Q I hq
 refine wpAny_List_spliced (dJ (h pos pins s σ H _ I hq) fun us s1 ⟨xs,H1,I1,r,z,q⟩=>⟨by rw [<-r.length];exact z,?_⟩)
 have hf:H1 s1.heap.objs.size=none:=I1.hok.fresh (Nat.le_refl _)
 refine⟨.ref s1.heap.objs.size,upd H1 s1.heap.objs.size (.lst xs),I1.laid (t':=s1.toks) (fun b u e=>Heap.get?_push_of_some _ e) (Nat.le_refl _) ?_,rfl,q _ hf⟩
 exact⟨z,us,0,r,Heap.get?_push_size _ rfl⟩
end
noncomputable abbrev Sp:=List V->Hp->VK->XK->Prop
noncomputable abbrev Cp:=List Env->Hp->Shared->XK->Value->Shared->Prop
structure Ie (P:Program) (w:World) (K:PySem.W.Frag) (mg:Str->Option Value) (base:Heap) (A:Around) (outer:List Env) (s:Shared) (H:Hp):Prop where
 frames:A.frames=some outer
 mod:Mod K mg base
 bs:∀b o,base.get? b=some o->s.heap.get? b=some o/\H b=none
 bsz:base.objs.size<=s.heap.objs.size
 funs:s.heap.FunFrames base outer
 frf:∀b∈frs outer,H b=none
 hok:tG P w H s.heap
 bare:AllBare s.gens
noncomputable def CE (outer:List Env) (P:Program) (w:World) (H:Hp) (s:Shared) (Q:VK) (u:Value) (s':Shared):Prop:=
 ∃v H',s'.os=s.os/\AllBare s'.gens/\Un (frs outer) [] H H' s.heap s'.heap/\tG P w H' s'.heap/\RelV v u/\Q v H'
noncomputable def CR (CX:Cp) (outer:List Env) (P:Program) (w:World) (H:Hp) (s:Shared) (Q:VK) (E:XK) (r:Result) (s':Shared):Prop:=
 match r with
 | .ok (.ret u)=>CE outer P w H s Q u s'
 | .ok _=>False
 | .error e=>CX outer H s E e s'
structure iG (P:Program) (w:World) (K:PySem.W.Frag) (mg:Str->Option Value) (base:Heap) (CX:Cp) (k:Nat) (f:Addr) (fd:FuncData) (ps:List Str) (sp:Sp):Prop where
 len:∀vs H Q E,sp vs H Q E->vs.length=ps.length
 run:∀(A:Around) (outer:List Env) (s:Shared) (H:Hp) (args:Args) (us:List Value) (vs:List V) (Q:VK) (E:XK),iD k A->Ie P w K mg base A outer s H->BindsTo s fd args (ps.zip us)->Vals vs us->sp vs H Q E->
  codeAny (model P w) A (.call (.ref f) args) (CR CX outer P w H s Q E) s
theorem iG.mono {P:Program} {w:World} {K:PySem.W.Frag} {mg:Str->Option Value} {base:Heap} {CX:Cp} {j k:Nat} {f:Addr} {fd:FuncData} {ps:List Str} {sp:Sp} (F:iG P w K mg base CX j f fd ps sp) (h:j<=k):
  iG P w K mg base CX k f fd ps sp:=⟨F.len,fun A outer s H args us vs Q E hr=>F.run A outer s H args us vs Q E (hr.mono h)⟩
theorem iG.imp {P:Program} {w:World} {K:PySem.W.Frag} {mg:Str->Option Value} {base:Heap} {CX:Cp} {k:Nat} {f:Addr} {fd:FuncData} {ps:List Str} {sp sp':Sp} (F:iG P w K mg base CX k f fd ps sp)
  (h:∀vs H Q E,sp' vs H Q E->sp vs H Q E):iG P w K mg base CX k f fd ps sp':=
 ⟨fun vs H Q E q=>F.len vs H Q E (h _ _ _ _ q),fun A outer s H args us vs Q E hr he hb hv hs=>F.run A outer s H args us vs Q E hr he hb hv (h _ _ _ _ hs)⟩
theorem Ie.make {P:Program} {w:World} {K:PySem.W.Frag} {mg:Str->Option Value} {base:Heap} {A:Around} {outer:List Env} {s:Shared} {H:Hp} (e:Ie P w K mg base A outer s H) (C:Addr) (us:List Value) (kw:List (Str×Value)):
  Ie P w K mg base (A.under (.builtin "type.__call__" ⟨.ref C:: us,kw⟩)) outer s H:=⟨by first | exact e.frames | (simpa [Around.under,Code.envs,Code.isFrame,pushEnvs] using e.frames),e.mod,e.bs,e.bsz,e.funs,e.frf,e.hok,e.bare⟩
section
variable {X:Cx} {pins:List (Addr×Obj)} {σ:St} {H:Hp} {s s':Shared}
theorem Inv.env0 (I:Inv X pins σ H s):Ie X.prog X.w X.K X.mg X.base X.A X.stack s H:=
 ⟨I.ok.frames,I.ok.mod,I.bs,Nat.le_trans I.ok.bsz I.sz,I.stack,I.stkFree,I.hok,I.bare⟩
theorem Inv.after {Q:VK} {u:Value} (I:Inv X pins σ H s) (h:CE X.stack X.prog X.w H s Q u s'):EP X pins σ Q u s':=by
 obtain⟨v,H',os,bare,un,hok,r,q⟩:=h
 obtain⟨hh,g,d,t,os'⟩:=s'
 obtain rfl:os'=s.os:=os
 exact⟨v,H',I.call (h':=hh) (g':=g) (d':=d) (t':=t) (ch:=[]) un hok bare (fun b z=>absurd z (by simp)),r,q⟩
end
noncomputable def Q7 (sp:Sp) (dvs:List V) (E:XK) (t:TA):TE:=fun σ H Q=>t σ H fun vs H1=>sp (vs ++ dvs) H1 Q E
inductive NP (C:Addr) (m:Str) (sp:Sp) (dvs:List V) (E:XK) (t:TA) (σ:St) (Q:VK) (x:V) (H1:Hp):Prop where
 | mk:∀a dx fs,x=.ref a->H1 a=some (.ins C dx fs)->fs.lookup m=none->(t σ H1 fun vs H2=>sp (x:: (vs ++ dvs)) H2 Q E)->NP C m sp dvs E t σ Q x H1
noncomputable def Bh (C:Addr) (m:Str) (sp:Sp) (dvs:List V) (E:XK) (ta:TE) (t:TA):TE:=fun σ H Q=>ta σ H fun x H1=>NP C m sp dvs E t σ Q x H1
noncomputable def Ui (C:Addr) (sp:Sp) (dvs:List V) (E:XK) (t:TA):TE:=fun σ H Q=>t σ H fun vs H1=>∀x dx,H1 x=none->H1 dx=none->dx≠x->
 sp (.ref x:: (vs ++ dvs)) (upd (upd H1 dx (.own x)) x (.ins C dx [])) (fun v H2=>v=.non/\Q (.ref x) H2) E
noncomputable def Binds (K:PySem.W.Frag) (fd:FuncData) (ps:List Str) (ds:List Value):Prop:=
 ∀(s:Shared) (us:List Value),K.In s.heap->(us ++ ds).length=ps.length->BindsTo s fd ⟨us,[]⟩ (ps.zip (us ++ ds))
theorem Binds.all {K:PySem.W.Frag} {fd:FuncData} {ps:List Str} (h:∀us:List Value,us.length=ps.length->bindArgs fd ⟨us,[]⟩=pure (ps.zip us)):Binds K fd ps []:=fun s us _ hl=>by
 rw [List.append_nil] at hl ⊢
 exact .of_eq (h us hl)
noncomputable def oW (CX:Cp) (X:Cx) (E:XK):Prop:=∀(pins:List (Addr×Obj)) (σ:St) (H:Hp) (s:Shared) (e:Value) (s':Shared),Inv X pins σ H s->CX X.stack H s E e s'->X.xe e s'
section
variable {X:Cx} {CX:Cp} {k:Nat} {f C:Addr} {fd:FuncData} {ps:List Str} {sp:Sp} {dvs:List V} {ds:List Value} {E:XK} {x m:Str} {p pos apos:Pos} {e o:Expr} {es:List Expr} {ta:TE} {t:TA}
theorem zc {pins:List (Addr×Obj)} {σ:St} {H:Hp} {s:Shared} {Q:VK} {us:List Value} {vs:List V} (F:iG X.prog X.w X.K X.mg X.base CX k f fd ps sp) (hr:iD k X.A) (hb:Binds X.K fd ps ds) (hd:Vals dvs ds) (hx:oW CX X E)
  (I:Inv X pins σ H s) (r:Vals vs us) (h:sp (vs ++ dvs) H Q E):wpAny (model X.prog X.w) X.A (call (.ref f) us) (EP X pins σ Q) X.xe s:=by
 have r2:Vals (vs ++ dvs) (us ++ ds):=r.append hd
 have hl:(us ++ ds).length=ps.length:=by rw [<-r2.length];exact F.len _ _ _ _ h
 refine wpAny_call (codeAny_mono (F.run X.A X.stack s H ⟨us,[]⟩ (us ++ ds) (vs ++ dvs) Q E hr I.env0 (hb s us I.kIn hl) r2 h) fun r s' hq=>?_)
 cases r with
 | error e=>exact hx pins σ H s e s' I hq
 | ok fl=>
  cases fl with
  | ret u=>exact I.after hq
  | next=>exact False.elim hq
  | brk=>exact False.elim hq
  | cont=>exact False.elim hq
theorem Pa (F:iG X.prog X.w X.K X.mg X.base CX k f fd ps sp) (hr:iD k X.A) (hg:Gl X x) (hm:X.mg x=some (.ref f)) (hk:PySem.W.keepIn X.K (.ref f)=true) (hb:Binds X.K fd ps ds) (hd:Vals dvs ds) (hx:oW CX X E)
  (ha:PA X (e:: es) t) (hdb:(x == ("__debug__" :Str))=false:=by decide) (he:starEach (e:: es) X.env=(false,eval e X.env):: starEach es X.env:=by rfl) (hpl:(backTo pos (starEach es X.env)).any (·.1)=false:=by rfl):
  PE X (.Call (.Name x p) (e:: es) [] pos) (Q7 sp dvs E t):=by
 intro pins s σ H Q I h
 refine wpAny_Call_Name_kw (Ei I hg hm ?_ hdb)
 refine PySem.W.callWith_K (h₀:=X.base) I.ok.mod.kin hk (dJ (ha pos pins s σ H _ I h) fun us s1 ⟨vs,H1,I1,r,q⟩=>⟨I1.kIn,?_⟩) he hpl
 exact zc F hr hb hd hx I1 r q
theorem O1 {pl:Sem Bool} (he:PE X o ta) (c:Kz X.K C) (hm:Meth X.K C m f) (F:iG X.prog X.w X.K X.mg X.base CX k f fd ps sp) (hr:iD k X.A) (hb:Binds X.K fd ps ds) (hd:Vals dvs ds) (hx:oW CX X E) (ha:PA X (e:: es) t)
  (hst:starEach (e:: es) X.env=(false,eval e X.env):: starEach es X.env:=by rfl) (hpl:(backTo pos (starEach es X.env)).any (·.1)=false:=by rfl)
  (ht:eval (.Call (.Attribute o m apos) (e:: es) [] pos) X.env=(do
   let ov <-eval o X.env
   standAt apos.atName
   let (f,first) <-holding [ov] (getMethod ov m pl)
   callWith pos f first (backTo pos (starEach (e:: es) X.env)) (backToKw pos (keywordEach [] X.env))):=by rfl):
  PE X (.Call (.Attribute o m apos) (e:: es) [] pos) (Bh C m sp dvs E ta t):=by
 intro pins s σ H Q I h
 refine PySem.W.methodCall_KW (pl:=pl) (dJ (he pins s σ H _ I h) fun u s1 hpt=>?_) ht
 obtain⟨x,H1,I1,rx,a,dx,fs,ex,ea,l,q⟩:=hpt
 subst ex
 obtain rfl:u=Value.ref a:=rx
 refine qe I1 ea c hm l ?_
 refine PySem.W.callWith_K (first:=[.ref a]) (h₀:=X.base) I.ok.mod.kin hm.kp (dJ (ha pos pins s1 σ H1 _ I1 q) fun us s2 ⟨vs,H2,I2,r,q2⟩=>⟨I2.kIn,?_⟩) hst hpl
 exact zc (us:=.ref a:: us) (vs:=.ref a:: vs) F hr hb hd hx I2 (.cons rfl r) q2
theorem K3 {pl:Sem Bool} (he:PE X o ta) (c:Kz X.K C) (hm:Meth X.K C m f) (F:iG X.prog X.w X.K X.mg X.base CX k f fd ps sp) (hr:iD k X.A) (hb:Binds X.K fd ps ds) (hd:Vals dvs ds) (hx:oW CX X E)
  (ht:eval (.Call (.Attribute o m apos) [] [] pos) X.env=(do
   let ov <-eval o X.env
   standAt apos.atName
   let (f,first) <-holding [ov] (getMethod ov m pl)
   callWith pos f first (backTo pos (starEach [] X.env)) (backToKw pos (keywordEach [] X.env))):=by rfl):
  PE X (.Call (.Attribute o m apos) [] [] pos) (Bh C m sp dvs E ta G7):=by
 intro pins s σ H Q I h
 refine PySem.W.methodCall_KW (pl:=pl) (dJ (he pins s σ H _ I h) fun u s1 hpt=>?_) ht
 obtain⟨x,H1,I1,rx,a,dx,fs,ex,ea,l,q⟩:=hpt
 subst ex
 obtain rfl:u=Value.ref a:=rx
 refine qe I1 ea c hm l ?_
 exact PySem.W.callWith_K0 (first:=[.ref a]) I1.kIn hm.kp (zc (us:=[.ref a]) (vs:=[.ref a]) F hr hb hd hx I1 (.cons rfl .nil) q)
structure Mk (K:PySem.W.Frag) (C f:Addr):Prop where
 makes:PySem.W.makesIn K C=true
 init:PySem.W.findIn K (.ref C) "__init__" =some (some (.ref f))
 fn:PySem.W.isFn K (.ref f)=true
 kp:PySem.W.keepIn K (.ref C)=true
theorem Mt {pins:List (Addr×Obj)} {σ:St} {H:Hp} {s:Shared} {Q:VK} {us:List Value} {vs:List V} (M:Mk X.K C f) (F:iG X.prog X.w X.K X.mg X.base CX k f fd ps sp) (hr:iD (k+1) X.A) (hb:Binds X.K fd ps ds) (hd:Vals dvs ds)
  (hx:oW CX X E) (I:Inv X pins σ H s) (r:Vals vs us)
  (h:∀x dx,H x=none->H dx=none->dx≠x->sp (.ref x:: (vs ++ dvs)) (upd (upd H dx (.own x)) x (.ins C dx [])) (fun v H2=>v=.non/\Q (.ref x) H2) E):
  wpAny (model X.prog X.w) X.A (call (.ref C) us) (EP X pins σ Q) X.xe s:=by
 have hq:=h (s.heap.objs.size+1) s.heap.objs.size (I.hok.fresh (Nat.le_succ _)) (I.hok.fresh (Nat.le_refl _)) (Nat.ne_of_lt (Nat.lt_succ_self _))
 have I2:=Inv.made (C:=C) I
 have r2:Vals (V.ref (s.heap.objs.size+1):: (vs ++ dvs)) (Value.ref (s.heap.objs.size+1):: (us ++ ds)):=.cons rfl (r.append hd)
 have hl:(Value.ref (s.heap.objs.size+1):: us ++ ds).length=ps.length:=by
  have e:=r2.length
  rw [F.len _ _ _ _ hq] at e
  exact e.symm
 refine wpAny_call (Lz (f:=f) I.kIn M.makes M.init (beq_iff_eq.mp M.fn) (codeAny_mono (F.run _ X.stack _ _ ⟨Value.ref (s.heap.objs.size+1):: us,[]⟩ (Value.ref (s.heap.objs.size+1):: (us ++ ds)) _ _ E (hr.make C us [])
  (I2.env0.make C us []) (hb _ (Value.ref (s.heap.objs.size+1):: us) I2.kIn hl) r2 hq) fun r s' hq'=>?_))
 cases r with
 | error e=>exact hx pins σ _ _ e s' I2 hq'
 | ok fl=>
  cases fl with
  | ret u=>
   obtain⟨v,H',I3,rv,ev,q3⟩:=I2.after hq'
   subst ev
   exact⟨rv,⟨V.ref (s.heap.objs.size+1),H',I3,rfl,q3⟩⟩
  | next=>exact False.elim hq'
  | brk=>exact False.elim hq'
  | cont=>exact False.elim hq'
theorem gB (M:Mk X.K C f) (F:iG X.prog X.w X.K X.mg X.base CX k f fd ps sp) (hr:iD (k+1) X.A) (hg:Gl X x) (hm:X.mg x=some (.ref C)) (hb:Binds X.K fd ps ds) (hd:Vals dvs ds) (hx:oW CX X E)
  (ha:PA X (e:: es) t) (hdb:(x == ("__debug__" :Str))=false:=by decide) (he:starEach (e:: es) X.env=(false,eval e X.env):: starEach es X.env:=by rfl) (hpl:(backTo pos (starEach es X.env)).any (·.1)=false:=by rfl):
  PE X (.Call (.Name x p) (e:: es) [] pos) (Ui C sp dvs E t):=by
 intro pins s σ H Q I h
 refine wpAny_Call_Name_kw (Ei I hg hm ?_ hdb)
 refine PySem.W.callWith_K (h₀:=X.base) I.ok.mod.kin M.kp (dJ (ha pos pins s σ H _ I h) fun us s1 ⟨vs,H1,I1,r,q⟩=>⟨I1.kIn,?_⟩) he hpl
 exact Mt M F hr hb hd hx I1 r q
end
section
variable {X:Cx} {CX:Cp} {k:Nat} {f C:Addr} {fd:FuncData} {ps ks:List Str} {sp:Sp} {E:XK} {x m:Str} {p pos apos kpos:Pos} {e o:Expr} {es:List Expr} {kws:List Keyword} {te ta:TE} {t tk:TA} {nm:Option Str}
variable {g:List Value->List Value->List Value} {gV:List V->List V->List V}
end
structure gH (N P:List Str) (sc:Scope):Prop where
 kind:sc.kind=.function
 co:sc.isCoroutine=false
 gen:sc.isGenerator=false
 nd:N.Nodup
 pre:N.take P.length=P
 par:∀x∈P,sc.names.lookup x=some .local∨sc.names.lookup x=some .cell
 nofree:∀y∈sc.names,y.2≠.free
theorem BR {kindOf:Str->Option NameKind} {x:Str}:∀{binds:List (Str×Value)} {m:Str->Option Value},(∀v,(x,v)∉binds)->bindL kindOf binds m x=m x
 | [],_,_=>rfl
 | (n,v):: r,m,h=>by
  unfold bindL
  rw [BR fun w hw=>h w (List.mem_cons_of_mem _ hw)]
  split
  ·have:x≠n:=by rintro rfl;exact h v List.mem_cons_self
   simp [this]
  ·rfl
theorem Bv {kindOf:Str->Option NameKind} {x:Str}:∀{binds:List (Str×Value)} {m:Str->Option Value},(∀v,(x,v)∉binds)->bindC kindOf binds m x=m x
 | [],_,_=>rfl
 | (n,v):: r,m,h=>by
  unfold bindC
  rw [Bv fun w hw=>h w (List.mem_cons_of_mem _ hw)]
  split
  ·rfl
  ·have:x≠n:=by rintro rfl;exact h v List.mem_cons_self
   simp [this]
theorem Bd {kindOf:Str->Option NameKind} {x:Str} {v:Value}:∀{P:List Str} {vs:List Value} {i:Nat} {m:Str->Option Value},P.Nodup->P[i]?=some x->vs[i]?=some v->kindOf x=some .local->
  bindL kindOf (P.zip vs) m x=some v
 | [],_,_,_,_,h,_,_=>by simp at h
 | _:: _,[],_,_,_,_,h,_=>by simp at h
 | p:: P,w:: vs,0,m,nd,h1,h2,hk=>by
  simp at h1 h2;subst h1;subst h2
  show bindL kindOf ((p,w):: P.zip vs) m p=_
  unfold bindL
  rw [BR fun v hv=>(List.nodup_cons.mp nd).1 (List.of_mem_zip hv).1,if_pos hk]
  simp
 | p:: P,w:: vs,i+1,m,nd,h1,h2,hk=>by
  show bindL kindOf ((p,w):: P.zip vs) m x=_
  unfold bindL
  exact Bd (i:=i) (List.nodup_cons.mp nd).2 (by simpa using h1) (by simpa using h2) hk
theorem Ci {kindOf:Str->Option NameKind} {x:Str} {v:Value}:∀{P:List Str} {vs:List Value} {i:Nat} {m:Str->Option Value},P.Nodup->P[i]?=some x->vs[i]?=some v->kindOf x≠some .local->
  bindC kindOf (P.zip vs) m x=some v
 | [],_,_,_,_,h,_,_=>by simp at h
 | _:: _,[],_,_,_,_,h,_=>by simp at h
 | p:: P,w:: vs,0,m,nd,h1,h2,hk=>by
  simp at h1 h2;subst h1;subst h2
  show bindC kindOf ((p,w):: P.zip vs) m p=_
  unfold bindC
  rw [Bv fun v hv=>(List.nodup_cons.mp nd).1 (List.of_mem_zip hv).1,if_neg hk]
  simp
 | p:: P,w:: vs,i+1,m,nd,h1,h2,hk=>by
  show bindC kindOf ((p,w):: P.zip vs) m x=_
  unfold bindC
  exact Ci (i:=i) (List.nodup_cons.mp nd).2 (by simpa using h1) (by simpa using h2) hk
noncomputable def start (N:List Str) (vs:List V):St:=vs.map some ++ List.replicate (N.length - vs.length) none
noncomputable def JW (CX:Cp) (P:Program) (w:World) (K:PySem.W.Frag) (mg:Str->Option Value) (base:Heap) (N:List Str) (qual:Str) (scope:Scope) (f:Addr) (cd:Value) (A:Around) (outer:List Env) (s:Shared) (H:Hp) (E:XK):Cx where
 prog:=P
 w:=w
 K:=K
 mg:=mg
 base:=base
 A:=A.deeper (envOfC qual scope s.heap.objs.size f cd)
 N:=N
 s₀:=s
 H₀:=H
 env:=envOfC qual scope s.heap.objs.size f cd
 outer:=outer
 stack:=envOfC qual scope s.heap.objs.size f cd:: outer
 ex:=[]
 calm:=true
 fn:=fun _=>true
 pn:=[]
 xe:=fun e s'=>wpAny (model P w) (A.deeper (envOfC qual scope s.heap.objs.size f cd)) (leaving (envOfC qual scope s.heap.objs.size f cd) e) (fun _ s''=>CX outer H s E e s'') (fun e' s''=>CX outer H s E e' s'') s'
theorem Fv {sc:Scope} {n:Nat} {x:Str} (h:sc.names.lookup x=some .cell):∃c,(cellsFrom n sc.names []).lookup x=some c:=by
 have q:=PySem.W.cellsFrom_some sc.names n [] (.inl h)
 exact Option.isSome_iff_exists.mp q
theorem J3 {CX:Cp} {P:Program} {w:World} {K:PySem.W.Frag} {mg:Str->Option Value} {base:Heap} {N ps:List Str} {qual:Str} {scope:Scope} {f:Addr} {cd:Value} {A:Around} {outer:List Env} {s s1:Shared} {H:Hp} {E:XK} {us:List Value} {vs:List V}
  (S:gH N ps scope) (hd:A.handled=none) (e0:Ie P w K mg base A outer s H) (hl:vs.length=ps.length) (r:Vals vs us)
  (x:InCallC s s.heap.objs.size (bindL (envOfC qual scope s.heap.objs.size f cd).kindOf (ps.zip us) fun _=>none) (cellsFrom (s.heap.objs.size+1) scope.names []) (bindC (envOfC qual scope s.heap.objs.size f cd).kindOf (ps.zip us) fun _=>none) s1):
  Inv (JW CX P w K mg base N qual scope f cd A outer s H E) [] (start N vs) H s1:=by
 have hpl:ps.length<=N.length:=by have:=congrArg List.length S.pre;rw [List.length_take] at this;omega
 obtain⟨h1,tk,rfl,hk⟩:=x.done
 have noA:∀b:Addr,b∉(JW CX P w K mg base N qual scope f cd A outer s H E).ex:=fun b z=>absurd (show b∈([]:List Addr) from z) (by simp)
 refine⟨⟨e0.mod,S.kind,rfl,rfl,Nat.le_refl _,fun y z c h1 h2=>?_,fun y hy=>?_,fun y c _ h=>?_,fun _=>hd,Around.frames_deeper e0.frames,.inr ⟨rfl,rfl⟩,fun b z=>absurd z (noA b),e0.bs,e0.bsz,fun b _ _=>noA b,fun b z=>absurd z (noA b),e0.funs,e0.frf⟩,
  rfl,e0.bare,Un.kept hk,⟨_,x.toInCall.ns,fun i y v h1 h2 h3=>?_⟩,fun y c h=>⟨_,x.cell y c h⟩,e0.hok.fresh (Nat.le_refl _),fun y c h=>?_,fun p hp=>absurd (show p∈([]:List (Addr×Obj)) from hp) (by simp),e0.hok.kept hk,?_⟩
 ·exact name_of_addr x.apart (PySem.mem_of_lookup h1) (PySem.mem_of_lookup h2)
 ·have hy:scope.names.lookup y=some .cell∨scope.names.lookup y=some .free:=hy
  rcases hy with hy | hy
  ·exact Fv hy
  ·exact absurd rfl (S.nofree _ (PySem.mem_of_lookup hy))
 ·exact Nat.le_of_lt (x.above y c (PySem.mem_of_lookup h))
 ·have hi:i <vs.length:=by
   unfold start at h2
   by_cases hi:i <vs.length
   ·exact hi
   ·rw [List.getElem?_append_right (by simpa using hi)] at h2
    rw [List.getElem?_replicate] at h2
    split at h2 <;> cases h2
  have ha:vs[i]?=some v:=by
   unfold start at h2
   rw [List.getElem?_append_left (by simpa using hi),List.getElem?_map] at h2
   cases e:vs[i]? with
   | none=>rw [e] at h2;cases h2
   | some a=>rw [e] at h2;cases h2;rfl
  obtain⟨u,hu,rv⟩:=r.get ha
  have hp:ps[i]?=some y:=by
   rw [<-S.pre,List.getElem?_take_of_lt (by omega)];exact h1
  have ndP:ps.Nodup:=by rw [<-S.pre];exact S.nd.sublist (List.take_sublist _ _)
  refine⟨u,rv,?_⟩
  rcases S.par y (List.mem_of_getElem? hp) with k | k
  ·exact .inl ⟨k,Bd ndP hp hu k⟩
  ·obtain⟨c,e⟩:=Fv (n:=s.heap.objs.size+1) k
   refine .inr ⟨.inl k,c,e,?_⟩
   have q:=x.cell y c e
   rw [Ci ndP hp hu (by show scope.names.lookup y≠_;rw [k];decide)] at q
   exact q
 ·exact e0.hok.fresh (Nat.le_of_lt (x.above y c (PySem.mem_of_lookup h)))
 ·unfold start
  show _=N.length
  rw [List.length_append,List.length_map,List.length_replicate]
  omega
theorem UG {CX:Cp} {P:Program} {w:World} {K:PySem.W.Frag} {mg:Str->Option Value} {base:Heap} {k:Nat} {f:Addr} {name qual:Str} {params:Arguments} {body:List Stmt} {scope:Scope} {dV kV doc pm cdv ct oc:Value} {an od:Option Addr}
  {osl:Array (Option Value)} {N ps:List Str} {sp:Sp} (lk:K.lookup f=some ⟨oc,od,.func (PySem.W.fnOf name qual params body scope dV kV doc pm an cdv ct),osl⟩) (hcd:PySem.W.codeIn K cdv qual=true) (S:gH N ps scope)
  (len:∀vs H Q E,sp vs H Q E->vs.length=ps.length)
  (hbody:∀(A:Around) (outer:List Env) (s:Shared) (H:Hp) (vs:List V) (Q:VK) (E:XK),iD k (A.deeper (envOfC qual scope s.heap.objs.size f cdv))->sp vs H Q E->
   ∃t,Kv (JW CX P w K mg base N qual scope f cdv A outer s H E) body t/\t { nx:=fun _ H'=>Q .non H',rt:=Q } (start N vs) H):
  iG P w K mg base CX (k+1) f (PySem.W.fnOf name qual params body scope dV kV doc pm an cdv ct) ps sp:=by
 refine⟨len,fun A outer s H args us vs Q E hr e0 hb r hsp=>?_⟩
 have hl:=len _ _ _ _ hsp
 have KX:K.In s.heap:=e0.mod.kin.keeps fun b o e=>(e0.bs b o e).1
 have lim:s.heap.NoLimit:=e0.mod.nolimit.keeps fun b o e=>(e0.bs b o e).1
 have hkind:∀y∈ps.zip us,scope.names.lookup y.1=some .local∨(scope.names.lookup y.1=some .cell/\((cellsFrom (s.heap.objs.size+1) scope.names []).lookup y.1).isSome=true):=fun⟨n,v⟩ hy=>by
  rcases S.par n (List.of_mem_zip hy).1 with q | q
  ·exact .inl q
  ·exact .inr ⟨q,PySem.W.cellsFrom_some _ _ _ (.inl q)⟩
 refine codeAny_call_function hr.depth (KX _ _ lk) rfl S.co S.gen rfl (PySem.W.codeRec_of KX hcd) (hb _ _ _ _ ?_)
 refine wpAny_newFunctionEnv_cells S.kind hkind fun env he s1 x=>?_
 subst he
 refine⟨lim.keeps x.toInCall.keep,codeAny_func ?_⟩
 obtain⟨t,ht,hq⟩:=hbody A outer s H vs Q E (hr.deeper _) hsp
 have I:Inv (JW CX P w K mg base N qual scope f cdv A outer s H E) [] (start N vs) H s1:=J3 S hr.hd e0 hl r x
 refine wpAny_mono (ht [] s1 (start N vs) H _ I hq) (fun fl s' hs=>?_) fun e s' hs=>hs
 have fin:∀{σ':St} {H':Hp} {v:V} {u:Value},Inv (JW CX P w K mg base N qual scope f cdv A outer s H E) [] σ' H' s'->RelV v u->Q v H'->CE outer P w H s Q u s':=
  fun {σ' H' v u} J rv q=>⟨v,H',J.os,J.bare,J.base,J.hok,rv,q⟩
 cases fl with
 | ret u=>
  obtain⟨v,σ',H',J,rv,q⟩:=hs
  exact fin J rv q
 | next=>
  obtain⟨σ',H',J,q⟩:=hs
  exact fin (v:=V.non) (u:=Value.none) J rfl q
 | brk=>
  obtain⟨_,_,_,q⟩:=hs
  exact False.elim q
 | cont=>
  obtain⟨_,_,_,q⟩:=hs
  exact False.elim q
section
variable {X:Cx} {x:Str} {p pos:Pos} {e:Expr} {es:List Expr} {t:TA} {id T:String} {r:List V->Hp->VK->Prop}
noncomputable def Ww (r:List V->Hp->VK->Prop) (t:TA):TE:=fun σ H Q=>t σ H fun vs H1=>r vs H1 Q
theorem aV (hc:j8 X (.builtin id) r) (hg:Gl X x) (hm:X.mg x=none) (hv:bootBuiltins x=some (.builtin id)) (ha:PA X (e:: es) t) (hn:x≠ "__name__" :=by decide) (hdb:(x == ("__debug__" :Str))=false:=by decide)
  (he:starEach (e:: es) X.env=(false,eval e X.env):: starEach es X.env:=by rfl) (hpl:(backTo pos (starEach es X.env)).any (·.1)=false:=by rfl):PE X (.Call (.Name x p) (e:: es) [] pos) (Ww r t):=by
 intro pins s σ H Q I h
 refine wpAny_Call_Name_kw (CV I hg hm hv ?_ hn hdb)
 exact PyProof.Rows.callWith_builtin1 (dJ (ha pos pins s σ H _ I h) fun us s1 ⟨vs,H1,I1,r1,q1⟩=>hc pins s1 σ H1 vs us Q I1 r1 q1) he hpl
theorem eY (hc:j8 X (.type T) r) (hg:Gl X x) (hm:X.mg x=none) (hv:bootBuiltins x=some (.type T)) (ha:PA X (e:: es) t) (hn:x≠ "__name__" :=by decide) (hdb:(x == ("__debug__" :Str))=false:=by decide)
  (he:starEach (e:: es) X.env=(false,eval e X.env):: starEach es X.env:=by rfl) (hpl:(backTo pos (starEach es X.env)).any (·.1)=false:=by rfl):PE X (.Call (.Name x p) (e:: es) [] pos) (Ww r t):=by
 intro pins s σ H Q I h
 refine wpAny_Call_Name_kw (CV I hg hm hv ?_ hn hdb)
 exact PyProof.Rows.callWith_type1 (dJ (ha pos pins s σ H _ I h) fun us s1 ⟨vs,H1,I1,r1,q1⟩=>hc pins s1 σ H1 vs us Q I1 r1 q1) he hpl
end
end L2
namespace HT
open PySem PyProof.Rows
section
open PySem.SeqAt
open PySem.AutoSeq1 (wpAny_loadPart')
open PySem.MeetsSeq PySem.MeetsSeq2 PySem.MeetsSeq3
end
section
variable {prog:Program} {w:World} {A:Around} {E:Value->Shared->Prop} {s:Shared}
noncomputable def FT (n d:Nat):Option Int->Nat
 | none=>d
 | some v=>if v <0 then(v+(n:Int)).toNat else min v.toNat n
theorem z6 (n d:Nat):FT n d none=d:=rfl
theorem vW (n d k:Nat):FT n d (some (k:Int))=min k n:=by
 show(if (k:Int) <0 then((k:Int)+(n:Int)).toNat else min (k:Int).toNat n)=min k n
 rw [if_neg (by omega),Int.toNat_natCast]
end
end HT
namespace L2
open PySem PySem.Spec PyProof.Rows
noncomputable abbrev TO:=St->Hp->(Option Int->Hp->Prop)->Prop
noncomputable def PO (X:Cx) (e:Option Expr) (t:TO):Prop:=
 ∀(pins:List (Addr×Obj)) (s:Shared) (σ:St) (H:Hp) (Q:Option Int->Hp->Prop),Inv X pins σ H s->t σ H Q->
  wpAny (model X.prog X.w) X.A (evalPart e X.env) (fun u s'=>∃o H',Inv X pins σ H' s'/\IsPart u o/\Q o H') X.xe s
noncomputable def Oh:TO:=fun _ H Q=>Q none H
inductive K8 (Q:Option Int->Hp->Prop) (x:V) (H1:Hp):Prop where
 | mk:∀i,x=.int i->Q (some i) H1->K8 Q x H1
noncomputable def TV (t:TE):TO:=fun σ H Q=>t σ H fun x H1=>K8 Q x H1
section
variable {X:Cx} {e:Expr} {te:TE} {lo hi:Option Expr} {tl th:TO} {pos p2:Pos}
theorem pX:PO X none Oh:=by
 intro pins s σ H Q I h
 rw [evalPart_none]
 exact wpAny_pure ⟨none,H,I,.none,h⟩
theorem lF (h:PE X e te):PO X (some e) (TV te):=by
 intro pins s σ H Q I hw
 rw [evalPart_some]
 refine dJ (h pins s σ H _ I hw) fun u s1 hpt=>?_
 obtain⟨x,H1,I1,r1,q1⟩:=hpt
 obtain⟨i,rfl,q⟩:=q1
 obtain⟨t,rfl⟩:=r1
 exact⟨some i,H1,I1,.int i t,q⟩
noncomputable def V7 (X:Cx) (r:V->Option Int->Option Int->Hp->VK->Prop):Prop:=
 ∀(pins:List (Addr×Obj)) (s:Shared) (σ:St) (H:Hp) (x:V) (v vl vu:Value) (lo hi:Option Int) (sl:Addr) (Q:VK),Inv X pins σ H s->RelV x v->s.heap.IsSliceOf sl vl vu .none->IsPart vl lo->IsPart vu hi->r x lo hi H Q->
  ∃T id,typeLookup (.type T) "__getitem__" =pure (some (.builtin id))/\s.TypeIs v T/\wpAny (model X.prog X.w) X.A (getItem v (.ref sl)) (EP X pins σ Q) X.xe s
noncomputable def tSl (r:V->Option Int->Option Int->Hp->VK->Prop) (te:TE) (tl th:TO):TE:=fun σ H Q=>te σ H fun x H1=>tl σ H1 fun l H2=>th σ H2 fun u H3=>r x l u H3 Q
theorem jZ {r:V->Option Int->Option Int->Hp->VK->Prop} (hr:V7 X r) (he:PE X e te) (hl:PO X lo tl) (hu:PO X hi th):PE X (.Subscript e (.Slice lo hi none p2) pos) (tSl r te tl th):=by
 intro pins s σ H Q I h
 refine Subscript_ (dJ (he pins s σ H _ I h) fun v s1 hpt=>?_)
 obtain⟨x,H1,I1,r1,q1⟩:=hpt
 refine wpAny_Slice (dJ (hl pins s1 σ H1 _ I1 q1) fun vl s2 ⟨l,H2,I2,pl,q2⟩=>dJ (hu pins s2 σ H2 _ I2 q2) fun vu s3 hpt=>?_)
 obtain⟨u,H3,I3,pu,q3⟩:=hpt
 rw [evalPart_none]
 refine wpAny_pure ?_
 have I4:Inv X pins σ H3 { s3 with heap:=s3.heap.push { cls:=.type "slice",data:=.fields #[vl,vu,.none] } }:=I3.kept (t':=s3.toks) fun b ob q=>Heap.get?_push_of_some _ q
 obtain⟨T,id,hT,ht,hg⟩:=hr pins { s3 with heap:=s3.heap.push { cls:=.type "slice",data:=.fields #[vl,vu,.none] } } σ H3 x v vl vu l u s3.heap.objs.size Q I4 r1 (Heap.IsSliceOf.new ..) pl pu q3
 show wpAny (model X.prog X.w) X.A (subscriptTail e (.Slice lo hi none p2) v (.ref s3.heap.objs.size)) (EP X pins σ Q) X.xe { s3 with heap:=s3.heap.push { cls:=.type "slice",data:=.fields #[vl,vu,.none] } }
 exact tail_any (ops:=[.ref s3.heap.objs.size,v]) ht hT hg (by with_unfolding_all rfl)
noncomputable def wC (xs:List V) (lo hi:Option Int):List V:=(xs.drop (HT.FT xs.length 0 lo)).take (HT.FT xs.length xs.length hi - HT.FT xs.length 0 lo)
theorem Fw (xs:List V) (lo hi:Option Int):(wC xs lo hi).length<=xs.length:=by
 unfold wC
 rw [List.length_take,List.length_drop]
 omega
end
noncomputable def S6 (n:Nat) (i:Int):Option Nat:=if 0<=i then(if i <n then some i.toNat else none) else if -(n:Int)<=i then some (i+n).toNat else none
noncomputable def Gq {α:Type} (xs:List α) (i:Int):Option α:=(S6 xs.length i).bind fun j=>xs[j]?
theorem Oi {n:Nat} {i:Int} {j:Nat} (h:S6 n i=some j):seqIndex? i n=some j/\j <n/\ -(n:Int)<=i/\i <n:=by
 unfold S6 at h
 by_cases h0:0<=i
 ·rw [if_pos h0] at h
  by_cases h1:i <n
  ·rw [if_pos h1] at h
   have e:i.toNat=j:=Option.some.inj h
   exact⟨by rw [seqIndex_of h0 h1,e],by omega,by omega,h1⟩
  ·rw [if_neg h1] at h;cases h
 ·rw [if_neg h0] at h
  by_cases h1: -(n:Int)<=i
  ·rw [if_pos h1] at h
   have e:(i+n).toNat=j:=Option.some.inj h
   exact⟨by rw [seqIndex_neg (by omega) h1,e],by omega,h1,by omega⟩
  ·rw [if_neg h1] at h;cases h
theorem Dh {α:Type} {xs:List α} {i:Int} {v:α} (h:Gq xs i=some v):∃j,seqIndex? i xs.length=some j/\xs[j]?=some v/\j <xs.length/\ -(xs.length:Int)<=i/\i <xs.length:=by
 unfold Gq at h
 cases e:S6 xs.length i with
 | none=>rw [e] at h;cases h
 | some j=>
  rw [e] at h
  obtain⟨h1,h2,h3,h4⟩:=Oi e
  exact⟨j,h1,h,h2,h3,h4⟩
theorem aM {α:Type} {xs:List α} {j:Nat} {v:α} (h:xs[j]?=some v):Gq xs (j:Int)=some v:=by
 have hj:j <xs.length:=(List.getElem?_eq_some_iff.mp h).1
 have e:S6 xs.length (j:Int)=some j:=by
  unfold S6
  rw [if_pos (by omega),if_pos (by omega)];simp
 unfold Gq;rw [e];exact h
noncomputable def Ja (b:Expr):Prop:=∀o i,subscripted b false o i=operate [o,i] (getItem o i)
noncomputable def KC (X:Cx) (r:R2):Prop:=
 ∀(value slice:Expr) (pins:List (Addr×Obj)) (s:Shared) (σ:St) (H:Hp) (x y:V) (v u:Value) (Q:VK),Inv X pins σ H s->RelV x v->RelV y u->r x y H Q->
  subscripted slice false v u=operate [v,u] (getItem v u)->wpAny (model X.prog X.w) X.A (subscriptTail value slice v u) (EP X pins σ Q) X.xe s
noncomputable def Wd (X:Cx) (id:String) (r:V->List V->Hp->VK->Prop):Prop:=
 ∀(pins:List (Addr×Obj)) (s:Shared) (σ:St) (H:Hp) (x:V) (xs:List V) (v:Value) (us:List Value) (Q:VK),Inv X pins σ H s->RelV x v->Vals xs us->r x xs H Q->
  wpAny (model X.prog X.w) X.A (call (.builtin id) (v:: us)) (EP X pins σ Q) X.xe s
section
variable {X:Cx} {a b:Expr} {ta tb:TE} {pos:Pos}
theorem KC.or {r r':R2} (h:KC X r) (h':KC X r'):KC X (fun x y H Q=>r x y H Q∨r' x y H Q):=by
 intro value slice pins s σ H x y v u Q I rx ry q hs
 rcases q with q | q
 ·exact h value slice pins s σ H x y v u Q I rx ry q hs
 ·exact h' value slice pins s σ H x y v u Q I rx ry q hs
theorem aY {r:R2} (hr:KC X r) (ha:PE X a ta) (hb:PE X b tb) (hs:Ja b):PE X (.Subscript a b pos) (S9 r ta tb):=by
 intro pins s σ H Q I h
 exact Subscript_ (Rk ha hb I h fun v u s2 x y H2 I2 rx ry q=>hr a b pins s2 σ H2 x y v u Q I2 rx ry q (hs _ _))
inductive Qz (K:PySem.W.Frag) (x:V) (y:V) (H:Hp) (Q:VK):Prop where
 | mk:∀p xs i v,x=.ref p->y=.int i->bT K H p xs->Gq xs i=some v->Q v H->Qz K x y H Q
noncomputable def RZ (K:PySem.W.Frag):R2:=fun x y H Q=>Qz K x y H Q
inductive Qy (K:PySem.W.Frag) (x:V) (y:V) (H:Hp) (Q:VK):Prop where
 | mk:∀p xs i v,x=.ref p->y=.int i->gK K H p xs->Gq xs i=some v->Q v H->Qy K x y H Q
noncomputable def RB (K:PySem.W.Frag):R2:=fun x y H Q=>Qy K x y H Q
inductive Q9 (x:V) (y:V) (H:Hp) (Q:VK):Prop where
 | mk:∀z i c,x=.str z->y=.int i->z.length<=sizeLine->Gq z.cps.toList i=some c->Q (.str ⟨#[c]⟩) H->Q9 x y H Q
noncomputable def Uc:R2:=fun x y H Q=>Q9 x y H Q
theorem aW:KC X (RZ X.K):=by
 intro value slice pins s σ H x y v u Q I rx ry h hs
 obtain⟨p,xs,i,z,rfl,rfl,hq,he,q⟩:=h
 cases rx
 obtain⟨t,rfl⟩:=ry
 obtain⟨its,r,pl,hz⟩:=I.list hq
 obtain⟨j,h1,h2,h3,h4,h5⟩:=Dh he
 obtain⟨w,ew,rw'⟩:=r.get h2
 have hl:=r.length
 have hn:=CJ
 have fin:EP X pins σ Q w s:=⟨z,H,I,rw',q⟩
 by_cases h0:0<=i
 ·have hj:i.toNat=j:=by
   rw [seqIndex_of h0 h5] at h1
   exact Option.some.inj h1
  exact item_listR pl.isList h0 (by omega) (by rw [hj];simpa using ew) fin hs
 ·have hj:(i+(its.toArray.size:Int)).toNat=j:=by
   rw [seqIndex_neg (by omega) h4] at h1
   rw [List.size_toArray,<-hl]
   exact Option.some.inj h1
  exact subscriptTail_builtinR (x:=w) pl.isList.typeIs slot_list_getitem.lookup
   (wpAny_getItem_list_neg (Q:=fun r s'=>r=w/\EP X pins σ Q r s') pl.isList (by omega) (by rw [List.size_toArray] <;> omega) (by omega) (by rw [hj];simpa using ew) ⟨rfl,fin⟩) hs
theorem dD:KC X (RB X.K):=by
 intro value slice pins s σ H x y v u Q I rx ry h hs
 obtain⟨p,xs,i,z,rfl,rfl,hq,he,q⟩:=h
 cases rx
 obtain⟨t,rfl⟩:=ry
 obtain⟨its,r,pl,hz⟩:=I.tuple hq
 obtain⟨j,h1,h2,h3,h4,h5⟩:=Dh he
 obtain⟨w,ew,rw'⟩:=r.get h2
 have hl:=r.length
 have hn:=CJ
 have fin:EP X pins σ Q w s:=⟨z,H,I,rw',q⟩
 exact subscriptTail_builtinR (x:=w) pl.typeIs slot_tuple_getitem.lookup
  (getItem_tuple (j:=j) (Q:=fun r s'=>r=w/\EP X pins σ Q r s') pl (by omega) (by omega) (by rw [List.size_toArray,<-hl];exact h1) (by simpa using ew) ⟨rfl,fin⟩) hs
theorem zr:KC X Uc:=by
 intro value slice pins s σ H x y v u Q I rx ry h hs
 obtain⟨z,i,c,rfl,rfl,hz,he,q⟩:=h
 obtain⟨t,rfl⟩:=rx
 obtain⟨t',rfl⟩:=ry
 obtain⟨j,h1,h2,h3,h4,h5⟩:=Dh he
 have hl:z.cps.toList.length=z.length:=by simp [Str.length]
 rw [hl] at h1 h4 h5
 have hn:=CJ
 exact tail_any (typeIs_str s z t) slot_str_getitem.lookup (getItem_str (c:=c) (by
  have e1:decide (i < -(2 ^ 63:Int))=false:=decide_eq_false (by omega)
  have e2:decide (i≥2 ^ 63)=false:=decide_eq_false (by omega)
  rw [e1,e2,Bool.or_false]) (by rw [h1];simpa using h2) ⟨.str ⟨#[c]⟩,H,I.tok _,⟨_,rfl⟩,q⟩) hs
noncomputable def rIx (K:PySem.W.Frag):R2:=fun x y H Q=>RZ K x y H Q∨RB K x y H Q∨Uc x y H Q
theorem Hy:KC X (rIx X.K):=aW.or (dD.or zr)
theorem CN (lo hi:Option Int) (n:Nat):(sliceBounds lo hi none n).1=((HT.FT n 0 lo:Nat):Int)/\(sliceBounds lo hi none n).2.1=((HT.FT n n hi:Nat):Int)/\(sliceBounds lo hi none n).2.2=1:=by
 refine⟨?_,?_,rfl⟩
 ·cases lo with
  | none=>simp [sliceBounds,HT.FT]
  | some i=>
   simp only [sliceBounds,HT.FT,Option.getD_none,show(1:Int) >0 by decide,if_true]
   by_cases h:i <0
   ·simp only [h,if_true] <;> omega
   ·simp only [h,if_false] <;> omega
 ·cases hi with
  | none=>simp [sliceBounds,HT.FT]
  | some i=>
   simp only [sliceBounds,HT.FT,Option.getD_none,show(1:Int) >0 by decide,if_true]
   by_cases h:i <0
   ·simp only [h,if_true] <;> omega
   ·simp only [h,if_false] <;> omega
theorem Ay (its:List Value) (lo hi:Option Int):slicePick its.toArray lo hi none=((its.drop (HT.FT its.length 0 lo)).take (HT.FT its.length its.length hi - HT.FT its.length 0 lo)).toArray:=by
 obtain⟨h1,h2,h3⟩:=CN lo hi its.toArray.size
 unfold slicePick
 rw [h1,h2,h3]
 simp only [sliceRange_one,pick_run,List.size_toArray] <;> rfl
inductive QK (K:PySem.W.Frag) (x:V) (lo:Option Int) (hi:Option Int) (H:Hp) (Q:VK):Prop where
 | mk:∀a xs,x=.ref a->bT K H a xs->(∀p,H p=none->Q (.ref p) (upd H p (.lst (wC xs lo hi))))->QK K x lo hi H Q
noncomputable def We (K:PySem.W.Frag):V->Option Int->Option Int->Hp->VK->Prop:=fun x lo hi H Q=>QK K x lo hi H Q
theorem sU:V7 X (We X.K):=by
 intro pins s σ H x v vl vu lo hi sl Q I rx hs pl pu h
 obtain⟨a,xs,rfl,hx,q⟩:=h
 cases rx
 obtain⟨its,r,ht,hz⟩:=I.list hx
 have hlen:=r.length
 refine⟨"list",_,slot_list_getitem.lookup,ht.isList.typeIs,?_⟩
 refine wpAny_getItem_list_slice ht.isList hs pl pu .none (by simp) ?_ (by rw [List.size_toArray] <;> omega)
 rw [Ay,<-hlen]
 refine⟨.ref s.heap.objs.size,_,I.laid (t':=s.toks) (o:=.lst (wC xs lo hi)) (fun b ob q=>Heap.get?_push_of_some _ q) (Nat.le_refl _) ?_,rfl,q _ (I.hok.fresh (Nat.le_refl _))⟩
 exact⟨Nat.le_trans (Fw xs lo hi) hz,_,0,(r.drop (HT.FT xs.length 0 lo)).take (HT.FT xs.length xs.length hi - HT.FT xs.length 0 lo),Heap.get?_push_size _ rfl⟩
noncomputable def rW:V->Bool
 | .non=>true
 | .bl _=>true
 | .int _=>true
 | .str _=>true
 | _=>false
noncomputable def KD:V->V->Bool
 | .non,.non=>true
 | .bl a,.bl b=>a == b
 | .bl a,.int b=>(if a then 1 else 0) == b
 | .int a,.bl b=>a == (if b then 1 else 0)
 | .int a,.int b=>a == b
 | .str a,.str b=>a == b
 | _,_=>false
theorem Rr {A:Around} {s:Shared} {y x:V} {u v:Value} (ry:RelV y u) (rx:RelV x v) (fy:rW y=true) (fx:rW x=true):SeqAt.EqAt A s u v (KD y x):=by
 cases y with
 | non=>
  cases ry
  cases x with
  | non=>cases rx;exact SeqAt.EqAt.same _
  | bl b=>cases rx;exact SeqAt.EqAt.none_bool b
  | int b=>obtain⟨t,rfl⟩:=rx;exact SeqAt.EqAt.none_int b t
  | str b=>obtain⟨t,rfl⟩:=rx;exact SeqAt.EqAt.none_str b t
  | _=>exact absurd (show false=true from fx) Bool.false_ne_true
 | bl a=>
  cases ry
  cases x with
  | non=>cases rx;exact SeqAt.EqAt.bool_none a
  | bl b=>cases rx;exact SeqAt.EqAt.bool_bool a b
  | int b=>obtain⟨t,rfl⟩:=rx;exact SeqAt.EqAt.bool_int a b t
  | str b=>obtain⟨t,rfl⟩:=rx;exact SeqAt.EqAt.bool_str a b t
  | _=>exact absurd (show false=true from fx) Bool.false_ne_true
 | int a=>
  obtain⟨t',rfl⟩:=ry
  cases x with
  | non=>cases rx;exact SeqAt.EqAt.int_none a t'
  | bl b=>cases rx;exact SeqAt.EqAt.int_bool a t' b
  | int b=>obtain⟨t,rfl⟩:=rx;exact SeqAt.EqAt.int_int a t' b t
  | str b=>obtain⟨t,rfl⟩:=rx;exact SeqAt.EqAt.int_str a t' b t
  | _=>exact absurd (show false=true from fx) Bool.false_ne_true
 | str a=>
  obtain⟨t',rfl⟩:=ry
  cases x with
  | non=>cases rx;exact SeqAt.EqAt.str_none a t'
  | bl b=>cases rx;exact SeqAt.EqAt.str_bool a t' b
  | int b=>obtain⟨t,rfl⟩:=rx;exact SeqAt.EqAt.str_int a t' b t
  | str b=>obtain⟨t,rfl⟩:=rx;exact SeqAt.EqAt.str_str a t' b t
  | _=>exact absurd (show false=true from fx) Bool.false_ne_true
 | _=>exact absurd (show false=true from fy) Bool.false_ne_true
noncomputable def Ov (x:V) (u:Value):Bool:=match u with
 | .none=>KD .non x
 | .bool b=>KD (.bl b) x
 | .int i _=>KD (.int i) x
 | .str z _=>KD (.str z) x
 | _=>false
theorem Ni {x y:V} {u:Value} (r:RelV y u) (f:rW y=true):Ov x u=KD y x:=by
 cases y with
 | non=>cases r;rfl
 | bl b=>cases r;rfl
 | int i=>obtain⟨t,rfl⟩:=r;rfl
 | str z=>obtain⟨t,rfl⟩:=r;rfl
 | _=>exact absurd (show false=true from f) Bool.false_ne_true
theorem Eo {x:V}:∀{xs:List V} {us:List Value},Vals xs us->xs.all rW=true->us.any (Ov x)=xs.any fun y=>KD y x
 | _,_,.nil,_=>rfl
 | y:: xs,u:: us,.cons r t,f=>by
  rw [List.all_cons,Bool.and_eq_true] at f
  rw [List.any_cons,List.any_cons,Ni r f.1,Eo t f.2]
theorem Aj {A:Around} {s:Shared} {x:V} {v:Value} (rx:RelV x v) (fx:rW x=true):∀{xs:List V} {us:List Value},Vals xs us->xs.all rW=true->∀u∈us,SeqAt.EqAt A s u v (Ov x u)
 | _,_,.nil,_=>fun u hu=>by cases hu
 | y:: xs,u:: us,.cons r t,f=>fun u' hu=>by
  rw [List.all_cons,Bool.and_eq_true] at f
  rcases List.mem_cons.mp hu with rfl | hu
  ·rw [Ni r f.1];exact Rr r rx f.1 fx
  ·exact Aj rx fx t f.2 u' hu
noncomputable def inV (x:V) (xs:List V):Bool:=xs.any fun y=>KD y x
inductive Vb (K:PySem.W.Frag) (neg:Bool) (x:V) (y:V) (H:Hp) (Q:VK):Prop where
 | mk:∀p xs,y=.ref p->((bT K H p xs∨gK K H p xs))->rW x=true->xs.all rW=true->(Q (.bl (if neg then !inV x xs else inV x xs)) H)->Vb K neg x y H Q
noncomputable def rIn (K:PySem.W.Frag) (neg:Bool):R2:=fun x y H Q=>Vb K neg x y H Q
theorem qt:v9 X (compareOp .NotIn) (rIn X.K true):=by
 intro pins s σ H x y v u Q I rx ry h
 obtain⟨p,xs,rfl,hq,fx,fs,q⟩:=h
 cases ry
 rcases hq with hq | hq
 ·obtain⟨its,r,pl,hz⟩:=I.list hq
  refine SeqAt.notIn_listAt (Ov x) pl.isList (fun w hw=>Aj rx fx r fs w (by simpa using hw)) ⟨.bl _,H,I,rfl,?_⟩
  rw [show its.toArray.any (Ov x)=its.any (Ov x) by simp,Eo r fs]
  exact q
 ·obtain⟨its,r,pl,hz⟩:=I.tuple hq
  refine SeqAt.notIn_tupleAt (Ov x) pl (fun w hw=>Aj rx fx r fs w (by simpa using hw)) ⟨.bl _,H,I,rfl,?_⟩
  rw [show its.toArray.any (Ov x)=its.any (Ov x) by simp,Eo r fs]
  exact q
theorem u0:j8 X (.type "list") (fun xs H Q=>∃p ys,xs=[.ref p]/\(bT X.K H p ys∨gK X.K H p ys)/\∀l,H l=none->Q (.ref l) (upd H l (.lst ys))):=by
 intro pins s σ H xs us Q I r h
 obtain⟨p,ys,rfl,hq,q⟩:=h
 obtain⟨u,rfl,rx⟩:=vals1 r
 cases rx
 have fin:∀(its:List Value),Vals ys its->ys.length<=sizeLine->∀(h':Heap) (c':Nat),(∀b o',s.heap.get? b=some o'->h'.get? b=some o')->
   h'.get? s.heap.objs.size=some { cls:=.type "list",dict:=none,data:=.seq its.toArray c',slots:=#[] }->EP X pins σ Q (.ref s.heap.objs.size) { s with heap:=h' }:=fun its r' hz h' c' kp e=>
  ⟨.ref s.heap.objs.size,_,I.laid (t':=s.toks) kp (Nat.le_refl _) (show fK X.prog X.w _ h' _ (.lst ys) from⟨hz,its,c',r',e⟩),rfl,q _ (I.hok.fresh (Nat.le_refl _))⟩
 rcases hq with hq | hq
 ·obtain⟨its,r',pl,hz⟩:=I.list hq
  have hlen:=r'.length
  obtain⟨o,ho,hc,n,hd⟩:=pl.isList
  exact call_list_seq p (.inl rfl) ho hc hd (fun h' c' kp e=>fin its r' hz h' c' kp e) (by simp only [List.size_toArray] <;> omega)
 ·obtain⟨its,r',pl,hz⟩:=I.tuple hq
  have hlen:=r'.length
  obtain⟨o,ho,hc,n,hd⟩:=pl
  exact call_list_seq p (.inr rfl) ho hc hd (fun h' c' kp e=>fin its r' hz h' c' kp e) (by simp only [List.size_toArray] <;> omega)
theorem Ba:j8 X (.type "tuple") (fun xs H Q=>∃p ys,xs=[.ref p]/\((bT X.K H p ys/\∀l,H l=none->Q (.ref l) (upd H l (.tup ys)))∨(gK X.K H p ys/\Q (.ref p) H))):=by
 intro pins s σ H xs us Q I r h
 obtain⟨p,ys,rfl,h⟩:=h
 obtain⟨u,rfl,rx⟩:=vals1 r
 cases rx
 rcases h with ⟨hq,q⟩ | ⟨hq,q⟩
 ·obtain⟨its,r',pl,hz⟩:=I.list hq
  have hlen:=r'.length
  refine call_tuple_list pl.isList (fun h' kp=>?_) (by simp only [List.size_toArray] <;> omega)
  have I1:Inv X pins σ H { s with heap:=h' }:=I.kept (t':=s.toks) kp
  have I2:Inv X pins σ (upd H h'.objs.size (.tup ys)) { s with heap:=h'.push { cls:=.type "tuple",data:=.seq its.toArray } }:=
   I1.laid (t':=s.toks) (fun b o e=>Heap.get?_push_of_some _ e) (Nat.le_refl _) (show fK X.prog X.w _ _ _ (.tup ys) from⟨hz,its,r',IsTup.new _ _⟩)
  exact⟨.ref h'.objs.size,_,I2,rfl,q _ (I1.hok.fresh (Nat.le_refl _))⟩
 ·obtain⟨its,r',pl,hz⟩:=I.tuple hq
  exact call_tuple_same pl ⟨.ref p,H,I,rfl,q⟩
noncomputable def V5 (K:PySem.W.Frag) (T:String) (x:V) (H:Hp):Prop:=match x with
 | .str _=>T= "str"
 | .int _=>T= "int"
 | .ref p=>(T= "list" /\∃xs,bT K H p xs)∨(T= "tuple" /\∃o,K.lookup p=some o/\o.cls=.type "tuple" /\o.dict=none)∨
   (T= "dict" /\((∃kvs,H p=some (.dK kvs))∨∃kvs,H p=some (.dT kvs)))∨(T= "set" /\∃S n,H p=some (.set S n))
 | _=>False
theorem M9 {pins:List (Addr×Obj)} {σ:St} {H:Hp} {s:Shared} {T:String} {x:V} {v:Value} (I:Inv X pins σ H s) (r:RelV x v) (ty:V5 X.K T x H):
  s.TypeIs v T/\∀a,v=.ref a->∃ob,s.heap.get? a=some ob/\ob.dict=none:=by
 cases x with
 | str z=>
  obtain⟨t,rfl⟩:=r
  cases (show T= "str" from ty)
  exact⟨typeIs_str s z t,fun _ e=>nomatch e⟩
 | int i=>
  obtain⟨t,rfl⟩:=r
  cases (show T= "int" from ty)
  exact⟨typeIs_int s i t,fun _ e=>nomatch e⟩
 | ref p=>
  cases r
  rcases ty with ⟨rfl,xs,hq⟩ | ⟨rfl,o,hk,hc,hd⟩ | ⟨rfl,hk⟩ | ⟨rfl,S,n,hk⟩
  ·obtain⟨its,_,pl,_⟩:=I.list hq
   refine⟨pl.isList.typeIs,fun a e=>?_⟩
   cases e
   obtain⟨o,n,e,c,hd,_⟩:=pl
   exact⟨o,e,hd⟩
  ·refine⟨⟨o,I.kIn p o hk,hc⟩,fun a e=>?_⟩
   cases e
   exact⟨o,I.kIn _ o hk,hd⟩
  ·have z:∃o,s.heap.get? p=some o/\o.ExactDict:=by
    rcases hk with ⟨kvs,hk⟩ | ⟨kvs,hk⟩
    ·obtain⟨_,_,_,_,o,_,_,e,ex,_⟩:=I.hok p _ hk
     exact⟨o,e,ex⟩
    ·obtain⟨_,_,_,_,o,_,_,e,ex,_⟩:=I.hok p _ hk
     exact⟨o,e,ex⟩
   obtain⟨o,e,ex⟩:=z
   refine⟨⟨o,e,ex.1⟩,fun a e2=>?_⟩
   cases e2
   exact⟨o,e,ex.2.1⟩
  ·obtain⟨o,_,_,_,e,ex,_⟩:=I.hok p _ hk
   refine⟨⟨o,e,ex.1⟩,fun a e2=>?_⟩
   cases e2
   exact⟨o,e,ex.2.1⟩
 | _=>exact False.elim ty
noncomputable def V0 (K:PySem.W.Frag) (T:String) (r:V->List V->Hp->VK->Prop) (to:TE):TE:=fun σ H Q=>to σ H fun x H1=>V5 K T x H1/\r x [] H1 Q
noncomputable def Wu (K:PySem.W.Frag) (T:String) (r:V->List V->Hp->VK->Prop) (to:TE) (t:TA):TE:=fun σ H Q=>to σ H fun x H1=>V5 K T x H1/\t σ H1 fun xs H2=>r x xs H2 Q
variable {o e:Expr} {es:List Expr} {to:TE} {t:TA} {name:Str} {apos cpos:Pos} {T id:String} {r:V->List V->Hp->VK->Prop}
theorem G6 (pa:PlainAttrs T) (slot:Slot T name id) (hty:typeOf (.builtin id)=pure (.type "method_descriptor")) (hm:Wd X id r) (ho:PE X o to)
  (hbase:attributeBase o name X.env (eval o X.env)=eval o X.env:=by rfl) (hline:(apos.endLine == cpos.line)=true:=by rfl):PE X (.Call (.Attribute o name apos) [] [] cpos) (V0 X.K T r to):=by
 intro pins s σ H Q I h
 refine wpAny_Call_method0_late hbase hline (dJ (ho pins s σ H _ I h) fun v s1 hpt=>?_)
 obtain⟨x,H1,I1,r1,ty,q1⟩:=hpt
 obtain⟨h1,h2⟩:=M9 I1 r1 ty
 exact⟨T,id,pa,slot,hty,h1,h2,Calls.callWith_builtin rfl (PySem.evalArgs_none (hm pins s1 σ H1 x [] v [] Q I1 r1 .nil q1))⟩
theorem yI (pa:PlainAttrs T) (slot:Slot T name id) (hty:typeOf (.builtin id)=pure (.type "method_descriptor")) (hm:Wd X id r) (ho:PE X o to) (ha:PA X (e:: es) t)
  (hbase:attributeBase o name X.env (eval o X.env)=eval o X.env:=by rfl)
  (hfew:((backTo cpos (starEach (e:: es) X.env)).all (fun x=>!x.1) && (backToKw cpos (keywordEach [] X.env)).all (fun x=>x.1.isSome)
   && decide ((e:: es).length+([]:List Keyword).length+(if ([]:List Keyword).isEmpty then 0 else 1) <30))=true:=by rfl)
  (hline:(apos.endLine == cpos.line)=true:=by rfl) (hs:starEach (e:: es) X.env=(false,eval e X.env):: starEach es X.env:=by rfl) (hplain:(backTo cpos (starEach es X.env)).any (·.1)=false:=by rfl):
  PE X (.Call (.Attribute o name apos) (e:: es) [] cpos) (Wu X.K T r to t):=by
 intro pins s σ H Q I h
 refine wpAny_Call_method_late hbase hfew hline rfl (dJ (ho pins s σ H _ I h) fun v s1 hpt=>?_)
 obtain⟨x,H1,I1,r1,ty,q1⟩:=hpt
 obtain⟨h1,h2⟩:=M9 I1 r1 ty
 refine⟨T,id,pa,slot,hty,h1,h2,?_⟩
 have hA:=ha cpos pins s1 σ H1 _ I1 q1
 rw [hs] at hA ⊢
 refine Calls.callWith_builtin (by show(false || (backTo cpos (starEach es X.env)).any (·.1))=false;rw [hplain] <;> rfl) (Calls.evalArgs_plain ?_)
 exact dJ hA fun us s2 ⟨vs,H2,I2,r2,q2⟩=>hm pins s2 σ H2 x vs v us Q I2 r1 r2 q2
end
noncomputable def Vk (X:Cx) (id:String) (r:V->List V->Hp->VK->Prop):Prop:=
 ∀(pins:List (Addr×Obj)) (s:Shared) (σ:St) (H:Hp) (x:V) (xs:List V) (v:Value) (us:List Value) (Q:VK),Inv X pins σ H s->RelV x v->Vals xs us->r x xs H Q->
  wpAny (model X.prog X.w) X.A (call (.builtin id) (v:: us)) (EP X pins σ Q) X.xe s
theorem Vals.one:∀{x:V} {us:List Value},Vals [x] us->∃u,us=[u]/\RelV x u
 | _,_,.cons r .nil=>⟨_,rfl,r⟩
theorem Vals.zero:∀{us:List Value},Vals [] us->us=[]
 | _,.nil=>rfl
theorem Vals.dropLast {xs:List V} {us:List Value} (h:Vals xs us):Vals xs.dropLast us.dropLast:=by
 induction h with
 | nil=>exact .nil
 | cons r t ih=>
  cases t with
  | nil=>exact .nil
  | cons q t'=>exact .cons r ih
theorem Vals.eraseIdx:∀{xs:List V} {us:List Value} (i:Nat),Vals xs us->Vals (xs.eraseIdx i) (us.eraseIdx i)
 | _,_,_,.nil=>.nil
 | _,_,0,.cons _ t=>t
 | _,_,i+1,.cons r t=>.cons r (Vals.eraseIdx i t)
theorem HJ {α:Type} (l:List α):l.eraseIdx (l.length - 1)=l.dropLast:=by
 induction l with
 | nil=>rfl
 | cons a r ih=>
  cases r with
  | nil=>rfl
  | cons b r=>
   have e:(a:: b:: r).length - 1=((b:: r).length - 1)+1:=by
    have h1:(a:: b:: r).length=r.length+2:=rfl
    have h2:(b:: r).length=r.length+1:=rfl
    omega
   rw [e,List.eraseIdx_cons_succ,ih]
   all_goals rfl
theorem Ce {α:Type}:∀(l:List α) (i:Nat),(l.eraseIdx i).length<=l.length
 | [],_=>Nat.le_refl _
 | _:: _,0=>Nat.le_succ _
 | _:: r,i+1=>Nat.succ_le_succ (Ce r i)
section
variable {X:Cx} {pins:List (Addr×Obj)} {σ:St} {H:Hp} {s:Shared} {l b:Addr} {xs ys zs:List V}
theorem Inv.lset {its its':List Value} {n:Nat} {f:Array Value->Array Value} {t':Nat} (I:Inv X pins σ H s) (hH:H l=some (.lst xs))
  (e:s.heap.get? l=some { cls:=.type "list",data:=.seq its.toArray n }) (hf:f its.toArray=its'.toArray) (hv:Vals ys its') (hz:ys.length<=sizeLine):
  Inv X pins σ (upd H l (.lst ys)) { s with heap:=s.heap.update l (Obj.mapSeq f),toks:=t' }:=by
 have q:=PySem.IsL.update e f
 rw [hf] at q
 refine I.write (x:=l) (e:=l) (by rw [hH];exact trivial) (.inl rfl) (fun b' u hb hu=>(Heap.get?_update_other s.heap (Obj.mapSeq f) (Ne.symm hb)).trans hu) ⟨_,q⟩ ?_
 exact⟨hz,its',_,hv,q⟩
theorem Inv.lnew {its:List Value} {t':Nat} (I:Inv X pins σ H s) (hv:Vals ys its) (hz:ys.length<=sizeLine):
  Inv X pins σ (upd H s.heap.objs.size (.lst ys)) { s with heap:=s.heap.push { cls:=.type "list",data:=.seq its.toArray },toks:=t' }:=
 I.laid (fun _ _ q=>Heap.get?_push_of_some _ q) (Nat.le_refl _) ⟨hz,its,0,hv,Heap.get?_push_size _ rfl⟩
theorem Inv.fresh (I:Inv X pins σ H s):H s.heap.objs.size=none:=I.hok.fresh (Nat.le_refl _)
theorem Inv.lstM (I:Inv X pins σ H s) (hH:H l=some (.lst xs)):xs.length<=sizeLine/\∃(its:List Value) (n:Nat),Vals xs its/\xs.length=its.length/\s.heap.get? l=some { cls:=.type "list",data:=.seq its.toArray n }:=by
 obtain⟨z,its,n,r,e⟩:=I.hok l _ hH
 exact⟨z,its,n,r,r.length,e⟩
theorem Nk {n:Nat} (h:n<=sizeLine):Builtin.List.listTooLong n=false:=by
 unfold Builtin.List.listTooLong
 exact decide_eq_false (by omega)
end
section
variable {X:Cx}
inductive FZ (x:V) (vs:List V) (H:Hp) (Q:VK):Prop where
 | mk:∀l xs y,x=.ref l->vs=[y]->H l=some (.lst xs)->xs.length <sizeLine->Q .non (upd H l (.lst (xs ++ [y])))->FZ x vs H Q
noncomputable def IV:V->List V->Hp->VK->Prop:=fun x vs H Q=>FZ x vs H Q
theorem JH:Vk X "list.append" IV:=by
 intro pins s σ H x vs v us Q I rx rv h
 obtain⟨l,xs,y,rfl,rfl,hH,hz,q⟩:=h
 cases rx
 obtain⟨u,rfl,ru⟩:=rv.one
 obtain⟨z,its,n,r,hl,e⟩:=I.lstM hH
 refine call_meets F.slot_list_append ⟨_,e,rfl⟩ F.entry_list_append (F.args_list_append_2 _ _) (PySem.list_append l its.toArray n u (by rw [List.size_toArray];omega)) ⟨e,?_⟩
 refine⟨.non,_,I.lset (its':=its ++ [u]) hH e (by simp) (r.append (.cons ru .nil)) ?_,rfl,q⟩
 rw [List.length_append,List.length_singleton]
 omega
inductive Gp (x:V) (vs:List V) (H:Hp) (Q:VK):Prop where
 | mk:∀l b xs zs,x=.ref l->vs=[.ref b]->H l=some (.lst xs)->H b=some (.lst zs)->xs.length+zs.length<=sizeLine->Q .non (upd H l (.lst (xs ++ zs)))->Gp x vs H Q
noncomputable def PP:V->List V->Hp->VK->Prop:=fun x vs H Q=>Gp x vs H Q
theorem Bf:Vk X "list.extend" PP:=by
 intro pins s σ H x vs v us Q I rx rv h
 obtain⟨l,b,xs,zs,rfl,rfl,hH,hB,hz,q⟩:=h
 cases rx
 obtain⟨u,rfl,ru⟩:=rv.one
 cases ru
 obtain⟨z,its,n,r,hl,e⟩:=I.lstM hH
 obtain⟨z2,its2,n2,r2,hl2,e2⟩:=I.lstM hB
 have hsz:its.toArray.size+its2.toArray.size<=sizeLine:=by rw [List.size_toArray,List.size_toArray];omega
 have hlong:¬(!its.toArray.isEmpty && Builtin.List.listTooLong (its.toArray.size+its2.toArray.size))=true:=by
  rw [Nk hsz,Bool.and_false]
  exact Bool.false_ne_true
 refine call_meets F.slot_list_extend ⟨_,e,rfl⟩ F.entry_list_extend (F.args_list_extend_2 _ _)
  (AutoSeq1.list_extend_list_list_0 l its.toArray n b its2.toArray n2 hlong (by rw [List.size_toArray];omega) (by omega)) ⟨e,e2,?_⟩
 refine⟨.non,_,I.lset (its':=its ++ its2) hH e (by simp) (r.append r2) ?_,rfl,q⟩
 rw [List.length_append]
 omega
inductive QX (x:V) (vs:List V) (H:Hp) (Q:VK):Prop where
 | mk:∀l xs y,x=.ref l->vs=[]->H l=some (.lst xs)->xs[xs.length - 1]?=some y->Q y (upd H l (.lst xs.dropLast))->QX x vs H Q
noncomputable def VG:V->List V->Hp->VK->Prop:=fun x vs H Q=>QX x vs H Q
theorem Ih:Vk X "list.pop" VG:=by
 intro pins s σ H x vs v us Q I rx rv h
 obtain⟨l,xs,y,rfl,rfl,hH,hy,q⟩:=h
 cases rx
 have hus:=rv.zero
 subst hus
 obtain⟨z,its,n,r,hl,e⟩:=I.lstM hH
 obtain⟨u,hu,ru⟩:=r.get hy
 have hy':its.toArray[its.toArray.size - 1]?=some u:=by
  show its.toArray[its.length - 1]?=some u
  rw [<-Array.getElem?_toList,<-hl]
  exact hu
 refine call_meets F.slot_list_pop ⟨_,e,rfl⟩ F.entry_list_pop (F.args_list_pop_1 _) (MeetsSeq.list_pop_last l its.toArray n u hy' (by rw [List.size_toArray];omega)) ⟨e,?_⟩
 refine⟨y,_,I.lset (its':=its.dropLast) hH e ?_ r.dropLast ?_,ru,q⟩
 ·show its.toArray.eraseIdxIfInBounds (its.toArray.size - 1)=its.dropLast.toArray
  rw [List.size_toArray,List.eraseIdxIfInBounds_toArray,HJ]
 ·rw [List.length_dropLast]
  omega
inductive Je (x:V) (vs:List V) (H:Hp) (Q:VK):Prop where
 | mk:∀l xs i k y,x=.ref l->vs=[.int i]->H l=some (.lst xs)-> -(2 ^ 63)<=i->i <2 ^ 63->seqIndex? i xs.length=some k->xs[k]?=some y->Q y (upd H l (.lst (xs.eraseIdx k)))->Je x vs H Q
noncomputable def Ry:V->List V->Hp->VK->Prop:=fun x vs H Q=>Je x vs H Q
theorem zu:Vk X "list.pop" Ry:=by
 intro pins s σ H x vs v us Q I rx rv h
 obtain⟨l,xs,i,k,y,rfl,rfl,hH,h1,h2,hk,hy,q⟩:=h
 cases rx
 obtain⟨u,rfl,ru⟩:=rv.one
 obtain⟨t,rfl⟩:=ru
 obtain⟨z,its,n,r,hl,e⟩:=I.lstM hH
 obtain⟨w,hw,rw'⟩:=r.get hy
 refine call_meets F.slot_list_pop ⟨_,e,rfl⟩ F.entry_list_pop (F.args_list_pop_2 _ _)
  (MeetsSeq.list_pop_at l its.toArray n i t k w (fitsIndex_both h1 h2) (by rw [List.size_toArray,<-hl];exact hk) (by rw [<-Array.getElem?_toList];exact hw) (by rw [List.size_toArray];omega)) ⟨e,?_⟩
 refine⟨y,_,I.lset (its':=its.eraseIdx k) hH e ?_ (r.eraseIdx k) ?_,rw',q⟩
 ·show its.toArray.eraseIdxIfInBounds k=(its.eraseIdx k).toArray
  rw [List.eraseIdxIfInBounds_toArray]
 ·have:=Ce xs k
  omega
inductive Q6 (x:V) (y:V) (H:Hp) (Q:VK):Prop where
 | mk:∀l b xs zs,x=.ref l->y=.ref b->H l=some (.lst xs)->H b=some (.lst zs)->xs.length+zs.length<=sizeLine->(∀p,H p=none->Q (.ref p) (upd H p (.lst (xs ++ zs))))->Q6 x y H Q
noncomputable def VM:R2:=fun x y H Q=>Q6 x y H Q
theorem SJ:v9 X (binaryOp .Add) VM:=by
 intro pins s σ H x y v u Q I rx ry h
 obtain⟨l,b,xs,zs,rfl,rfl,hH,hB,hz,q⟩:=h
 cases rx
 cases ry
 obtain⟨z,its,n,r,hl,e⟩:=I.lstM hH
 obtain⟨z2,its2,n2,r2,hl2,e2⟩:=I.lstM hB
 refine PySem.P.add_list e e2 ?_ (by rw [List.size_toArray,List.size_toArray];omega)
 have ea:its.toArray ++ its2.toArray=(its ++ its2).toArray:=by simp
 rw [ea]
 exact⟨.ref _,_,I.lnew (t':=s.toks) (r.append r2) (by rw [List.length_append];omega),rfl,q _ I.fresh⟩
end
section
variable {prog:Program} {w:World} {A:Around} {E:Value->Shared->Prop} {s:Shared}
end
section
variable {X:Cx}
end
end L2
namespace Att
open PySem PySem.W PySem.Calls PyProof.Rows
theorem yq {P:Params} {h:Heap}:∀(ns:List Int) (vs:List Value),WellAll P h vs (ns.map WData.int)->IntsAre vs ns:=by
 intro ns
 induction ns with
 | nil=>
  intro vs w
  rw [List.map_nil] at w
  cases w
  exact .nil
 | cons n ns ih=>
  intro vs w
  rw [List.map_cons] at w
  cases w with
  | cons a b=>
   cases a
   exact .cons _ _ (ih _ b)
theorem JR {l:OpenLaw} {n:Nat} (hn:l.most=some n) {P:Params} {h:Heap} {args:List WData} {vals:List Value}
  (hpre:l.row.toRowW.claim.pre args=true) (hwl:WellAll P h vals args):
  ∃a vs ns,vals=[Value.ref a]/\args=[WData.list (ns.map WData.int)]/\h.get? a=some { cls:=.type "list",data:=.seq vs.toArray }/\IntsAre vs ns/\ns.length<=n:=by
 have hsh:WShape.hasAll [] args [.list .int]=true:=(pre_splitW hpre).1
 have hc:l.pre.holds [] { args:=args }=true:=(pre_splitW hpre).2
 obtain⟨d,r,rfl,h1,h2⟩:=hasAllW_cons hsh
 obtain rfl:=hasAllW_nil h2
 obtain⟨xs,rfl,h3⟩:=hasW_list h1
 obtain⟨ns,rfl⟩:=items_int h3
 have hlen:ns.length<=n:=by
  unfold OpenLaw.pre at hc
  have h4:(WTm.not (.lt (.lit (.int (n:Int))) (.len (.arg 0)))).holds [] { args:=[.list (ns.map .int)] }=true:=by
   have h4:=(holds_andW hc).1
   rw [hn] at h4
   exact h4
  have h5:=condW_of h4 (w_not (w_lt w_lit (w_len_list (w_arg rfl))))
  rw [List.length_map] at h5
  refine Nat.le_of_not_lt fun q=>?_
  have q':(n:Int) <((ns.length:Nat):Int):=by omega
  first
   | (rw [decide_eq_true q'] at h5;exact absurd h5 (by decide))
   | (simp at h5;omega)
 cases hwl with
 | cons w1 w2=>
  cases w2
  cases w1 with
  | list ho hall=>exact⟨_,_,ns,rfl,rfl,ho,yq ns _ hall,hlen⟩
theorem Kh (l:OpenLaw) (args:List WData):l.row.toRowW.claim.post args (.bool true) args=true:=
 postW_of (r:=l.row.toRowW) (X:=(true == true))
  (show WShape.has [] (.bool true) .bool=true by first | rfl | decide | simp [WShape.has,WShape.arms,WShape.armsAll])
  (show(WTm.eq .res (.lit (.bool true))).value [] { args:=args,res:=some (.bool true),after:=args }=some (.bool (true == true)) from w_eq_bool (w_res rfl) w_lit) rfl
theorem FP {l:OpenLaw} {n:Nat} {q:Program} {loose:List Str} {XP:(Str->Option Value)->Heap->Prop} {YP:World->Heap->Prop} {d:DefRec}
  (hn:l.most=some n) (hdf:d.params.defaults=[])
  (call:∀(w:World) (s₀ s₁:Shared) (mg mb:Str->Option Value) (fa:Addr) (o:Obj) (pm cd doc:Value) (a:Addr) (vs:List Value) (ns:List Int),
   Ground q loose [] XP w s₀ mg mb s₁.heap->YP w s₁.heap->
   s₁.heap.get? fa=some o->o.data=.func (docDef d.name d.params d.body d.scope pm cd doc)->s₁.heap.CodeRec cd d.name->mg d.name=some (.ref fa)->
   s₁.heap.get? a=some { cls:=.type "list",data:=.seq vs.toArray }->IntsAre vs ns->ns.length<=n->s₁.gens= #[]->
   codeAny (model l.prog w) callerA (.call (.ref fa) ⟨[.ref a],[]⟩) (fun r s'=>r=.ok (.ret (.bool true))/\OldK s₁.heap s'.heap/\s'.os=s₁.os/\AllBare s'.gens) s₁):
  WalkO q loose XP YP l.row.toRowW d [] (fun f vs=>PySem.call f vs):=by
 intro w s₀ s₁ mg mb G Y fa o pm cd doc dV kV ho hd hcd hD hmg hg args vals as hpre hlay hrd hwl hlo
 obtain rfl:dV=.none:=Dflts.none hD hdf
 obtain rfl:kV=.none:=Dflts.noKw hD
 obtain⟨a,vs,ns,rfl,rfl,hobj,hints,hlen⟩:=JR hn hpre hwl
 refine enter_call (codeAny_mono (call w s₀ s₁ mg mb fa o pm cd doc a vs ns G Y ho (fd_plain hd) hcd hmg hobj hints hlen hg) fun r s' hq=>?_)
 obtain⟨rfl,h2,h3,h4⟩:=hq
 exact⟨.inl ⟨.bool true,.bool true,[],rfl,fun _=>rfl,.bool true,Kh l _,fun _=>⟨List.Pairwise.nil,fun _ hm=>(nomatch hm)⟩⟩,h2,h3,h4⟩
section
variable {prog:Program} {w:World} {A:Around} {E:Value->Shared->Prop} {s:Shared} {K:Frag}
end
end Att
namespace L2
open PySem PySem.Spec PyProof.Rows
theorem Bk:∀{vs:List Value} {ns:List Int},IntsAre vs ns->Vals (ns.map V.int) vs
 | _,_,.nil=>.nil
 | _,_,.cons n t h=>.cons ⟨t,rfl⟩ (Bk h)
noncomputable def Only (H:Hp):Prop:=∀b,H b=none∨∃o xs,H b=some (.frz o (.lst xs))
theorem Np {P:Program} {w:World} {K:PySem.W.Frag} {mg mb:Str->Option Value} {CX:Cp} {k:Nat} {fa a:Addr} {fd:FuncData} {x:Str} {sp:Sp} {s₁:Shared} {vs:List Value} {ns:List Int}
  (KX:K.In s₁.heap) (hns:s₁.heap.Ns mainGlobals mg) (hb:s₁.heap.Ns builtinsNs mb) (hbb:∀x:Str,x≠ "__name__" ->mb x=bootBuiltins x) (hlim:s₁.heap.NoLimit) (hg:s₁.gens= #[])
  (ha:s₁.heap.get? a=some { cls:=.type "list",data:=.seq vs.toArray }) (hi:IntsAre vs ns) (hl:ns.length<=sizeLine) (hr:iD k callerA)
  (F:∀base:Heap,K.In base->base.Ns mainGlobals mg->iG P w K mg base CX k fa fd [x] sp) (hbind:∀(s:Shared) (u:Value),BindsTo s fd ⟨[u],[]⟩ [(x,u)])
  (hsp:∀H:Hp,Only H->bT K H a (ns.map V.int)->sp [.ref a] H (fun v _=>v=.bl true) fun _ _ _=>False)
  (hCX:∀H e s',CX [] H s₁ (fun _ _ _=>False) e s'->False):
  codeAny (model P w) callerA (.call (.ref fa) ⟨[.ref a],[]⟩) (fun r s'=>r=.ok (.ret (.bool true))/\OldK s₁.heap s'.heap/\s'.os=s₁.os/\AllBare s'.gens) s₁:=by
 have rv:=Bk hi
 have lenV:=hi.length
 have core:∀H:Hp,Only H->bT K H a (ns.map V.int)->tG P w H s₁.heap->(∀b,H b≠none->b=a)->(H a≠none->K.lookup a=none)->
   codeAny (model P w) callerA (.call (.ref fa) ⟨[.ref a],[]⟩) (fun r s'=>r=.ok (.ret (.bool true))/\OldK s₁.heap s'.heap/\s'.os=s₁.os/\AllBare s'.gens) s₁:=by
  intro H hO hS hok hA hK
  have base_of:∀{b:Addr} {o:Obj},s₁.heap.get? b=some o->H b=none->(DQ s₁.heap H).get? b=some o:=fun e n=>Lh e n
  have noA:∀{b:Addr} {o:Obj} {es:Array DictEntry} {ep:Nat},s₁.heap.get? b=some o->o.data=.dict es ep->H b=none:=fun {b o es ep} e d=>by
   cases q:H b with
   | none=>rfl
   | some u=>
    have e':b=a:=hA b (by rw [q];simp)
    subst e'
    rw [ha] at e;cases e
    have d':Data.seq vs.toArray _=Data.dict es ep:=d
    cases d'
  have KH:∀{b:Addr} {m:Str->Option Value},s₁.heap.Ns b m->(DQ s₁.heap H).Ns b m:=fun {b m} ⟨o,es,ep,e,d,r⟩=>⟨o,es,ep,base_of e (noA e d),d,r⟩
  have hKb:K.In (DQ s₁.heap H):=fun b o e=>base_of (KX b o e) (by
   cases q:H b with
   | none=>rfl
   | some u=>
    have e':b=a:=hA b (by rw [q];simp)
    subst e'
    rw [hK (by rw [q];simp)] at e;cases e)
  have hM:Mod K mg (DQ s₁.heap H):=⟨hKb,KH hns,⟨mb,KH hb,hbb⟩,let ⟨mc,h1,h2⟩:=hlim;⟨mc,KH h1,h2⟩⟩
  have e0:Ie P w K mg (DQ s₁.heap H) callerA [] s₁ H:=⟨rfl,hM,fun b o e=>Om e,Nat.le_of_eq (J4 _ _),trivial,fun b hb=>absurd (show b∈([]:List Addr) from hb) (by simp),hok,.of_eq hg⟩
  refine codeAny_mono ((F _ hKb (KH hns)).run callerA [] s₁ H ⟨[.ref a],[]⟩ [.ref a] [.ref a] _ _ hr e0 (hbind s₁ (.ref a)) (.cons rfl .nil) (hsp H hO hS)) fun r s' h=>?_
  cases r with
  | error e=>exact(hCX H e s' h).elim
  | ok fl=>
   cases fl with
   | next=>exact False.elim h
   | brk=>exact False.elim h
   | cont=>exact False.elim h
   | ret u=>
    obtain⟨v,H',os,bare,un,hok',r',q⟩:=h
    have q':v=.bl true:=q
    subst q'
    obtain rfl:u=Value.bool true:=r'
    refine⟨rfl,OldK.of_keep fun b o e=>?_,os,bare⟩
    cases q:H b with
    | none=>exact un.keep b o e q (by intro z;exact absurd (show b∈([]:List Addr) from z) (by simp)) (by simp)
    | some u=>
     rcases hO b with z | ⟨ob,xs,z⟩
     ·rw [q] at z;cases z
     ·have z2:=un.frzs b ob _ z
      obtain⟨e1,_⟩:=hok b _ z
      obtain⟨e2,_⟩:=hok' b _ z2
      rw [e] at e1;cases e1
      exact e2
 cases hk:K.lookup a with
 | some o=>
  have e:=KX a o hk
  rw [ha] at e
  cases e
  refine core (fun _=>none) (fun _=>.inl rfl) (.inr ⟨_,vs.toArray,_,hk,rfl,rfl,rfl,by rw [List.size_toArray,lenV];exact hl,by simpa using rv⟩) (fun b u z=>by have z':(none:Option HO)=some u:=z;cases z') (fun b z=>absurd rfl z) fun z=>absurd rfl z
 | none=>
  refine core (fun b=>if b=a then some (.frz { cls:=.type "list",data:=.seq vs.toArray } (.lst (ns.map V.int))) else none) (fun b=>?_) (.inl (.inr ⟨{ cls:=.type "list",data:=.seq vs.toArray },if_pos rfl⟩)) (fun b u z=>?_) (fun b z=>?_) fun _=>hk
  ·by_cases hb:b=a
   ·exact .inr ⟨_,_,if_pos hb⟩
   ·exact .inl (if_neg hb)
  ·by_cases hb:b=a
   ·have z':=(if_pos hb).symm.trans z
    cases z'
    subst hb
    exact⟨ha,by rw [List.length_map];exact hl,vs,_,rv,ha⟩
   ·have z':=(if_neg hb).symm.trans z
    cases z'
  ·by_cases hb:b=a
   ·exact hb
   ·exact absurd (if_neg hb) z
theorem Ql {l:PySem.W.OpenLaw} {n k:Nat} {q:Program} {loose:List Str} {XP:(Str->Option Value)->Heap->Prop} {YP:World->Heap->Prop} {d:DefRec} {K:Params->PySem.W.Frag} {CX:World->Cp} {sp:World->Sp} {x:Str}
  (hn:l.most=some n) (hn2:n<=sizeLine) (hdf:d.params.defaults=[]) (hr:iD k callerA)
  (hY:∀(w:World) (h:Heap),YP w h->(K w.params).In h)
  (F:∀(w:World) (mg:Str->Option Value) (fa:Addr) (h:Heap),(K w.params).In h->h.Ns mainGlobals mg->mg d.name=some (.ref fa)->
   ∃fd:FuncData,(∀(s:Shared) (u:Value),BindsTo s fd ⟨[u],[]⟩ [(x,u)])/\
    ∀base:Heap,(K w.params).In base->base.Ns mainGlobals mg->iG l.prog w (K w.params) mg base (CX w) k fa fd [x] (sp w))
  (hsp:∀(w:World) (H:Hp) (a:Addr) (ns:List Int),ns.length<=n->Only H->bT (K w.params) H a (ns.map V.int)->sp w [.ref a] H (fun v _=>v=.bl true) fun _ _ _=>False)
  (hCX:∀(w:World) (H:Hp) (s:Shared) (e:Value) (s':Shared),CX w [] H s (fun _ _ _=>False) e s'->False):
  PySem.W.WalkO q loose XP YP l.row.toRowW d [] (fun f vs=>PySem.call f vs):=by
 refine Att.FP hn hdf fun w s₀ s₁ mg mb fa o pm cd doc a vs ns G Y ho hd hcd hmg hobj hints hlen hg=>?_
 have KX:=hY w _ Y
 obtain⟨fd,hb,hF⟩:=F w mg fa _ KX G.T.g hmg
 exact Np KX G.T.g G.T.b G.T.builtins G.T.nolimit hg hobj hints (Nat.le_trans hlen hn2) hr hF hb (fun H hO hS=>hsp w H a ns hlen hO hS) fun H e s'=>hCX w H s₁ e s'
noncomputable def inClass (s:Stmt) (j:Nat):Stmt:=match s with
 | .ClassDef _ _ _ body _ _ _ _ _ _ _=>body.getD j (.Pass ⟨0,0,0,0⟩)
 | _=>.Pass ⟨0,0,0,0⟩
noncomputable def iC (s:Stmt):Arguments:=match s with
 | .FunctionDef _ a _ _ _ _ _ _ _ _=>a
 | _=>{ posonlyargs:=[],args:=[],vararg:=none,kwonlyargs:=[],kw_defaults:=[],kwarg:=none,defaults:=[] }
noncomputable def gA (s:Stmt):List Stmt:=match s with
 | .FunctionDef _ _ b _ _ _ _ _ _ _=>b
 | _=>[]
noncomputable def bA (s:Stmt):Scope:=match s with
 | .FunctionDef _ _ _ _ _ _ sc _ _ _=>sc
 | _=>{ kind:=.function,names:=[],isGenerator:=false,isCoroutine:=false }
noncomputable abbrev Aw:Cp:=fun _ _ _ _ _ _=>False
noncomputable abbrev E0:XK:=fun _ _ _=>False
theorem gQ {X:Cx}:oW Aw X E0:=fun _ _ _ _ _ _ _ h=>h.elim
structure QQ (K:PySem.W.Frag) (x qual:Str) (st:Stmt) (f:Addr) (fd:FuncData):Prop where
 ex:∃(oc:Value) (od:Option Addr) (kV doc pm:Value) (an:Option Addr) (cdv ct:Value) (osl:Array (Option Value)),
  fd=PySem.W.fnOf x qual (iC st) (gA st) (bA st) .none kV doc pm an cdv ct/\K.lookup f=some ⟨oc,od,.func fd,osl⟩/\PySem.W.codeIn K cdv qual=true
 kp:PySem.W.keepIn K (.ref f)=true
section
variable {P:Program} {w:World} {K:PySem.W.Frag} {mg:Str->Option Value} {base:Heap}
theorem QQ.ok {x qual:Str} {st:Stmt} {f:Addr} {fd:FuncData} {N ps:List Str} {k:Nat} {sp:Sp} (F:QQ K x qual st f fd) (S:gH N ps (bA st)) (len:∀vs H Q E,sp vs H Q E->vs.length=ps.length)
  (hbody:∀(cdv:Value) (A:Around) (outer:List Env) (s:Shared) (H:Hp) (vs:List V) (Q:VK) (E:XK),iD k (A.deeper (envOfC qual (bA st) s.heap.objs.size f cdv))->sp vs H Q E->
   ∃t,Kv (JW Aw P w K mg base N qual (bA st) f cdv A outer s H E).nox (gA st) t/\t { nx:=fun _ H'=>Q .non H',rt:=Q } (start N vs) H):iG P w K mg base Aw (k+1) f fd ps sp:=by
 obtain⟨oc,od,kV,doc,pm,an,cdv,ct,osl,rfl,lk,hcd⟩:=F.ex
 refine UG lk hcd S len fun A outer s H vs Q E hr hsp=>?_
 obtain⟨t,h,q⟩:=hbody cdv A outer s H vs Q E hr hsp
 exact⟨t,h.nox,q⟩
theorem QQ.binds {x qual:Str} {st:Stmt} {f:Addr} {fd:FuncData} {ps:List Str} (F:QQ K x qual st f fd)
  (h:∀(kV doc pm:Value) (an:Option Addr) (cdv ct:Value) (us:List Value),us.length=ps.length->bindArgs (PySem.W.fnOf x qual (iC st) (gA st) (bA st) .none kV doc pm an cdv ct) ⟨us,[]⟩=pure (ps.zip us)):Binds K fd ps []:=by
 obtain⟨oc,od,kV,doc,pm,an,cdv,ct,osl,rfl,lk,hcd⟩:=F.ex
 exact .all (h kV doc pm an cdv ct)
theorem RV {x qual:Str} {st:Stmt} {f:Addr} {oc:Value} {od an:Option Addr} {osl:Array (Option Value)} {kV doc pm cdv ct:Value} (l:K.lookup f=some ⟨oc,od,.func (PySem.W.fnOf x qual (iC st) (gA st) (bA st) .none kV doc pm an cdv ct),osl⟩)
  (c:PySem.W.codeIn K cdv qual=true) (k:PySem.W.keepIn K (.ref f)=true):QQ K x qual st f (PySem.W.fnOf x qual (iC st) (gA st) (bA st) .none kV doc pm an cdv ct):=⟨⟨oc,od,kV,doc,pm,an,cdv,ct,osl,rfl,l,c⟩,k⟩
end
section
variable {X:Cx}
theorem pv (i:Nat) {x:Str} {pos:Pos} (hN:X.N[i]?=some x:=by rfl) (hv:UW X.env.scope x:=by first | exact Or.inl rfl | exact Or.inr (Or.inl rfl) | exact Or.inr (Or.inr rfl)) (hd:(x == ("__debug__" :Str))=false:=by decide)
  (hcd:(x == ("__classdict__" :Str))=false:=by decide):PE X (.Name x pos) (yu i):=Rp hN hv hd hcd
end
theorem dR {A B:Prop} (h:B):if false=true then A else B:=by
 rw [if_neg Bool.false_ne_true]
 exact h
theorem lG {A B:Prop} (h:A):if true=true then A else B:=by
 rw [if_pos rfl]
 exact h
theorem jx {c A B:Prop} [Decidable c] (h1:c->A) (h2:¬c->B):if c then A else B:=by
 by_cases h:c
 ·rw [if_pos h]
  exact h1 h
 ·rw [if_neg h]
  exact h2 h
noncomputable def aK (H H':Hp):Prop:=∀b o,H b=some o->H' b=some o
theorem aK.refl (H:Hp):aK H H:=fun _ _ h=>h
theorem aK.trans {H H1 H2:Hp} (a:aK H H1) (b:aK H1 H2):aK H H2:=fun c o h=>b c o (a c o h)
theorem aK.free {H H':Hp} (e:aK H H') {l:Addr} (h:H' l=Option.none):H l=Option.none:=by
 cases q:H l with
 | none=>rfl
 | some o=>
  rw [e l o q] at h
  cases h
theorem aK.seq {K:PySem.W.Frag} {H H':Hp} {a:Addr} {xs:List V} (e:aK H H') (h:bT K H a xs):bT K H' a xs:=by
 rcases h with (h | ⟨o,h⟩) | h
 ·exact .inl (.inl (e _ _ h))
 ·exact .inl (.inr ⟨o,e _ _ h⟩)
 ·exact .inr h
end L2
set_option maxHeartbeats 4000000
namespace L2
open PySem PySem.Spec PyProof.Rows
theorem Kl {P:Program} {w:World} {H:Hp} {h:Heap} {a:Addr} {o:HO} (x:tG P w H h) (hn:H a=none) (new:fK P w (upd H a o) h a o):tG P w (upd H a o) h:=fun b u e=>by
 by_cases hb:b=a
 ·subst hb;rw [aA] at e;cases e;exact new
 ·rw [aJ hb] at e
  exact(x b u e).stay (fun c v _ q=>q) (fun c q=>by rw [aJ (aC q hn)];exact q) fun c xs q=>by rw [aJ (aC q hn)];exact q
theorem yO {α β:Type} {f:α->β->Sem (ForInStep β)} (g:α->β->β):∀(l:List α) (c:β),(∀x∈l,∀c,f x c=pure (.yield (g x c)))->forIn l c f=pure (l.foldl (fun c x=>g x c) c)
 | [],_,_=>rfl
 | x:: l,c,h=>by
  rw [List.forIn_cons,h x List.mem_cons_self,pure_bind]
  exact yO g l (g x c) fun y hy=>h y (List.mem_cons_of_mem _ hy)
noncomputable def ux (env:Env) (x:Str×NameKind) (cs:List (Str×Addr)):List (Str×Addr):=
 if x.2=.free then(match env.cells.lookup x.1 with | some c=>(x.1,c):: cs | none=>cs) else cs
noncomputable def clos (env:Env) (l:List (Str×NameKind)) (c:List (Str×Addr)):List (Str×Addr):=l.foldl (fun c x=>ux env x c) c
theorem jX {env:Env} {scope:Scope} (h:∀y∈scope.names,y.2=.free->∃c,env.cells.lookup y.1=some c):closureFor scope env=pure (clos env scope.names []):=by
 simp only [closureFor]
 rw [yO (ux env) scope.names [] fun x hx c=>?_]
 ·rfl
 ·obtain⟨n,k⟩:=x
  by_cases hk:k=.free
  ·subst hk
   obtain⟨a,ha⟩:=h _ hx rfl
   have ha':env.cells.lookup n=some a:=ha
   simp [cellOf,ha',ux]
  ·have:(k == NameKind.free)=false:=by simpa using hk
   simp [this,ux,hk]
theorem Fy {env:Env}:∀(l:List (Str×NameKind)) (c:List (Str×Addr)),(∀y a,c.lookup y=some a->env.cells.lookup y=some a)->∀y a,(clos env l c).lookup y=some a->env.cells.lookup y=some a
 | [],_,h=>h
 | x:: l,c,h=>by
  refine Fy l (ux env x c) fun y a e=>?_
  unfold ux at e
  by_cases hk:x.2=.free
  ·rw [if_pos hk] at e
   cases q:env.cells.lookup x.1 with
   | none=>rw [q] at e;exact h y a e
   | some b=>
    rw [q] at e
    by_cases hy:(y == x.1)=true
    ·have:y=x.1:=by simpa using hy
     subst this
     have e':((x.1,b):: c).lookup x.1=some a:=e
     simp [List.lookup_cons] at e'
     rw [q,e']
    ·have hy':(y == x.1)=false:=by simpa using hy
     have e':((x.1,b):: c).lookup y=some a:=e
     rw [List.lookup_cons,hy'] at e'
     exact h y a e'
  ·rw [if_neg hk] at e;exact h y a e
theorem yP {env:Env}:∀(l:List (Str×NameKind)) (c:List (Str×Addr)) (y:Str),((∃a,c.lookup y=some a)∨∃k∈l,k.1=y/\k.2=.free/\∃a,env.cells.lookup y=some a)->∃a,(clos env l c).lookup y=some a
 | [],_,_,h=>by
  rcases h with h | ⟨k,hk,_⟩
  ·exact h
  ·cases hk
 | x:: l,c,y,h=>by
  refine yP l (ux env x c) y ?_
  have up:(∃a,c.lookup y=some a)->∃a,(ux env x c).lookup y=some a:=fun⟨a,e⟩=>by
   unfold ux
   split
   ·split
    ·rename_i b q
     by_cases hy:(y == x.1)=true
     ·exact⟨b,by rw [List.lookup_cons,hy]⟩
     ·have hy':(y == x.1)=false:=by simpa using hy
      exact⟨a,by rw [List.lookup_cons,hy'];exact e⟩
    ·exact⟨a,e⟩
   ·exact⟨a,e⟩
  rcases h with h | ⟨k,hk,h1,h2,a,h3⟩
  ·exact .inl (up h)
  ·rcases List.mem_cons.mp hk with e | hk
   ·subst e
    left
    unfold ux
    rw [if_pos h2,h1,h3]
    exact⟨a,by simp [List.lookup_cons]⟩
   ·exact .inr ⟨k,hk,h1,h2,a,h3⟩
theorem rN (scope:Scope) (env:Env) (y:Str):(relabel scope env).names.lookup y=(scope.names.lookup y).map fun k=>if (k == NameKind.free && env.scope.kind == .function && env.kindOf y == some .cell)=true then .cell else k:=by
 show(scope.names.map _).lookup y=_
 induction scope.names with
 | nil=>rfl
 | cons p l ih=>
  obtain⟨n,k⟩:=p
  rw [List.map_cons]
  show List.lookup y ((if (k == NameKind.free && env.scope.kind == .function && env.kindOf n == some .cell)=true then(n,NameKind.cell) else(n,k)):: _)=_
  by_cases hy:(y == n)=true
  ·have:y=n:=by simpa using hy
   subst this
   by_cases hc:(k == NameKind.free && env.scope.kind == .function && env.kindOf y == some .cell)=true
   ·rw [if_pos hc]
    simp only [List.lookup_cons,beq_self_eq_true,Option.map_some]
    rw [if_pos hc]
   ·rw [if_neg hc]
    simp only [List.lookup_cons,beq_self_eq_true,Option.map_some]
    rw [if_neg hc]
  ·have hy':(y == n)=false:=by simpa using hy
   by_cases hc:(k == NameKind.free && env.scope.kind == .function && env.kindOf n == some .cell)=true
   ·rw [if_pos hc]
    simp only [List.lookup_cons,hy']
    exact ih
   ·rw [if_neg hc]
    simp only [List.lookup_cons,hy']
    exact ih
noncomputable def du (N:List Str) (js:List Nat):List Str:=js.map fun j=>(N[j]?).getD Str.empty
noncomputable def dI (σ:St) (js:List Nat):St:=js.map fun j=>(σ[j]?).join
noncomputable def wX (X:Cx) (scope:Scope) (x:Str) (js:List Nat) (cl:List (Str×Addr)) (C:Addr) (s:Shared) (H:Hp) (ex:List Addr):Cx where
 prog:=X.prog
 w:=X.w
 K:=X.K
 mg:=X.mg
 base:=X.base
 A:=X.A
 N:=x:: du X.N js
 s₀:=s
 H₀:=H
 env:=compEnvC scope cl C X.env
 outer:=X.stack
 stack:=X.stack
 ex:=ex
 fn:=fun _=>false
 calm:=X.calm
 pn:=[]
 xe:=fun _ _=>False
noncomputable def PF (X:Cx) (ifs:List Expr) (t:TT):Prop:=
 ∀(pins:List (Addr×Obj)) (s:Shared) (σ:St) (H:Hp) (Q:Bool->Hp->Prop),Inv X pins σ H s->t σ H Q->
  wpAny (model X.prog X.w) X.A (forIn ifs true fun c r=>if r=true then do let ok <-isTrue c X.env (eval c X.env);pure (ForInStep.yield ok) else pure (ForInStep.yield r)) (TP X pins σ Q) X.xe s
noncomputable def U8:TT:=fun _ H Q=>Q true H
theorem jo {X:Cx}:PF X [] U8:=fun _ _ _ H _ I h=>wpAny_pure ⟨H,I,h⟩
theorem RC {X:Cx} {c:Expr} {t:TT} (hc:PT X c t):PF X [c] t:=by
 intro pins s σ H Q I h
 rw [List.forIn_cons,if_pos rfl]
 refine wpAny_bind (wpAny_bind (dJ (hc pins s σ H Q I h) fun b s1 q=>wpAny_pure ?_))
 show wpAny (model X.prog X.w) X.A (pure b) (TP X pins σ Q) X.xe s1
 exact wpAny_pure q
inductive CompEnd (js:List Nat) (tt:TT) (te:TE) (σ:St) (Qd:List V->Hp->Prop) (J:It) (H1:Hp):Prop where
 | mk:∀W:Nat->Nat->List V->Hp->Prop,((∃m,W 0 m [] H1))->(∀i m ys H2,W i m ys H2->
 (J.stop i H2/\ys.length<=sizeLine/\Qd ys H2)∨
 (J.go i H2/\ys.length <sizeLine/\∃N:List V->Hp->Prop,(∀ys' H',N ys' H'->∃m',m' <m/\W (i+1) m' ys' H')/\∀x H3,J.yld i H2 x H3->tt (some x:: dI σ js) H3 fun b H4=>
  if b=true then te (some x:: dI σ js) H4 fun y H5=>N (ys ++ [y]) H5 else N ys H4))->CompEnd js tt te σ Qd J H1
noncomputable def Qn (js:List Nat) (wi:TI) (tt:TT) (te:TE):TE:=fun σ H Q=>wi σ H (CompEnd js tt te σ fun ys H2=>∀D,H2 D=none->Q (.ref D) (upd H2 D (.lst ys)))
section
variable {X:Cx} {x:Str} {px pos:Pos} {iter elt:Expr} {ifs:List Expr} {scope:Scope} {wi:TI} {tt:TT} {te:TE}
end
section
variable {X:Cx}
theorem lL:v9 X (binaryOp .Mult) (rI IntMulOk fun i j=>.int (i * j)):=Vj fun _ _ _ _ _ _ _ hc q=>mul_int q hc
noncomputable def Q0 (_ j:Int):Prop:=0 <j/\j.natAbs.log2 <9000
theorem MF:v9 X (binaryOp .FloorDiv) (rI Q0 fun i j=>.int (i / j)):=Vj fun i j _ _ _ _ _ hc q=>by
 have h1:(0:Int) <j:=hc.1
 exact floordiv_int (by omega) (by rw [Int.fdiv_eq_ediv_of_nonneg i (by omega)];exact q) (.inl (PyProof.noPylong_of_log2 hc.2))
theorem Uj {i j:Int} (h0:0 <j) (h:j.natAbs <2 ^ 9000):Q0 i j:=⟨h0,(Nat.log2_lt (by omega)).mpr h⟩
noncomputable def Vl (K:PySem.W.Frag) (H:Hp) (x:V) (T:String):Prop:=match x with
 | .non=>T= "NoneType"
 | .bl _=>T= "bool"
 | .int _=>T= "int"
 | .str _=>T= "str"
 | .ref p=>(T= "list" /\∃xs,bT K H p xs)∨(T= "tuple" /\∃xs,gK K H p xs)∨(T= "dict" /\∃kvs,H p=some (.dK kvs))
 | _=>False
noncomputable def Gr (a b:String):Bool:=a == b || (a == "bool" && b == "int")
noncomputable def Jj:List String:=["int", "bool", "str", "list", "tuple", "dict"]
noncomputable def nY:List String:=["NoneType", "bool", "int", "str", "list", "tuple", "dict"]
theorem Nq:∀T∈Jj,PySem.W.kitMeta T=true:=by decide +kernel
theorem Pg:∀a∈nY,∀b∈Jj,(PySem.fastBuiltinMro a).map (·.contains (.type b))=some (Gr a b):=by decide +kernel
theorem PX (K:PySem.W.Frag) {a b:String} (ha:a∈nY) (hb:b∈Jj):PySem.W.kitOne K (.type a) (.type b)=some (Gr a b):=by
 unfold PySem.W.kitOne
 by_cases h:(Value.type a == Value.type b)=true
 ·rw [if_pos h]
  have e:a=b:=by
   have:=beq_iff_eq.mp h
   injection this
  subst e
  simp [Gr]
 ·rw [if_neg h]
  show(if PySem.W.kitMeta b=true then PySem.W.subIn K (.type a) (.type b) else none)=_
  rw [if_pos (Nq b hb)]
  exact Pg a ha b hb
theorem vL:j8 X (.builtin "isinstance") (fun xs H Q=>∃x Tx T b,xs=[x,.ty T]/\Vl X.K H x Tx/\T∈Jj/\Gr Tx T=b/\Q (.bl b) H):=by
 intro pins s σ H xs us Q I r h
 obtain⟨x,Tx,T,b,rfl,ty,hT,rfl,q⟩:=h
 obtain⟨u,w',rfl,rx,ry⟩:=vals2 r
 cases ry
 have fin:∀{b:Bool},b=Gr Tx T->∀tk,EP X pins σ Q (.bool b) { s with toks:=tk }:=fun e tk=>⟨.bl (Gr Tx T),H,I.tok tk,by rw [e];rfl,q⟩
 have go:∀{P:Heap->Prop},PySem.W.KitX X.K u (.type Tx) P->P s.heap->Tx∈nY->u≠.builtin "__main__.__loader__#opaque" ->wpAny (model X.prog X.w) X.A (call (.builtin "isinstance") [u,.type T]) (EP X pins σ Q) X.xe s:=fun Z p hm hx=>
  PySem.W.kia_one Z I.kIn p (PX X.K hm hT) hx fun tk=>fin rfl tk
 cases x with
 | non=>cases rx;cases (show Tx= "NoneType" from ty);exact go PySem.W.kitx_none trivial (by decide) (by intro e;cases e)
 | bl b=>cases rx;cases (show Tx= "bool" from ty);exact go PySem.W.kitx_bool trivial (by decide) (by intro e;cases e)
 | int i=>obtain⟨t,rfl⟩:=rx;cases (show Tx= "int" from ty);exact go PySem.W.kitx_int trivial (by decide) (by intro e;cases e)
 | str z=>obtain⟨t,rfl⟩:=rx;cases (show Tx= "str" from ty);exact go PySem.W.kitx_str trivial (by decide) (by intro e;cases e)
 | ref p=>
  cases rx
  rcases ty with ⟨rfl,ys,hq⟩ | ⟨rfl,ys,hq⟩ | ⟨rfl,kvs,hq⟩
  ·obtain⟨its,_,pl,_⟩:=I.list hq
   obtain⟨o,n,e,c,_,_⟩:=pl
   exact go PySem.W.kitx_list ⟨o,e,c⟩ (by decide) (by intro e;cases e)
  ·obtain⟨its,_,⟨o,e,c,_⟩,_⟩:=I.tuple hq
   exact go PySem.W.kitx_tuple ⟨o,e,c⟩ (by decide) (by intro e;cases e)
  ·obtain⟨_,_,_,_,o,_,_,e,ex,_⟩:=I.hok p _ hq
   exact go PySem.W.kitx_dict ⟨o,e,ex.1⟩ (by decide) (by intro e;cases e)
 | _=>exact(show False from ty).elim
inductive Le (K:PySem.W.Frag) (x:V) (xs:List V) (H:Hp) (Q:VK):Prop where
 | mk:∀z p ys,x=.str z->xs=[.ref p]->bT K H p (ys.map V.str)->(ys.map (·.length)).sum+ys.length * z.length<=16777216->Q (.str (Txt.join z ys)) H->Le K x xs H Q
noncomputable def rJoin (K:PySem.W.Frag):V->List V->Hp->VK->Prop:=fun x xs H Q=>Le K x xs H Q
theorem Af:∀{ys:List Str} {us:List Value},Vals (ys.map V.str) us->StrsAre us ys
 | [],us,r=>by rw [List.map_nil] at r;cases r;exact .nil
 | y:: ys,us,r=>by
  rw [List.map_cons] at r
  cases r with
  | cons r1 r2=>
   obtain⟨t,e⟩:=r1
   subst e
   exact .cons y t (Af r2)
theorem Qm:Wd X "str.join" (rJoin X.K):=by
 intro pins s σ H x xs v us Q I rx rs h
 obtain⟨z,p,ys,rfl,rfl,hq,hz,q⟩:=h
 obtain⟨t,rfl⟩:=rx
 obtain⟨u,rfl,ru⟩:=vals1 rs
 cases ru
 obtain⟨its,rv,pl,_⟩:=I.list hq
 exact join_list (items:=its.toArray) pl.isList (by simpa using Af rv) hz fun t' k=>⟨.str (Txt.join z ys),H,I.tok k,⟨_,rfl⟩,q⟩
end
theorem Rh:bootBuiltins "int" =some (.type "int"):=by decide +kernel
theorem Qa:bootBuiltins "bool" =some (.type "bool"):=by decide +kernel
theorem Nm:bootBuiltins "str" =some (.type "str"):=by decide +kernel
theorem qx:bootBuiltins "list" =some (.type "list"):=by decide +kernel
theorem wk:bootBuiltins "tuple" =some (.type "tuple"):=by decide +kernel
theorem bY:bootBuiltins "len" =some (.builtin "len"):=by decide +kernel
theorem jM:bootBuiltins "isinstance" =some (.builtin "isinstance"):=by decide +kernel
theorem RN:bootBuiltins "min" =some (.builtin "min"):=by decide +kernel
theorem Dr:bootBuiltins "max" =some (.builtin "max"):=by decide +kernel
theorem Du:bootBuiltins "all" =some (.builtin "all"):=by decide +kernel
section
variable {X:Cx} {pos:Pos}
theorem iy {x:Str} {v:V} (hg:Gl X x) (hm:∃u,X.mg x=some u/\RelV v u) (hd:(x == ("__debug__" :Str))=false:=by decide):PE X (.Name x pos) (tC v):=by
 obtain⟨u,h1,h2⟩:=hm
 exact Do hg h1 h2 hd
theorem yC {x:Str} {T:String} (hg:Gl X x) (hm:X.mg x=none) (hv:bootBuiltins x=some (.type T)) (hn:x≠ "__name__" :=by decide) (hd:(x == ("__debug__" :Str))=false:=by decide):PE X (.Name x pos) (tC (.ty T)):=
 O6 hg hm hv rfl hn hd
end
theorem kI {a b:Int} (h: -(2 ^ 64) <a/\a <2 ^ 64:=by decide):IntMulOk a b:=.of_left (intBits_le_64 h.1 h.2)
theorem Dz {a b:Int} (h: -(2 ^ 64) <b/\b <2 ^ 64:=by decide):IntMulOk a b:=.of_right (intBits_le_64 h.1 h.2)
inductive M4 (t:TS) (D:Ends) (σ:St) (H:Hp):Prop where
 | mk:∀J:St->Hp->Prop,t { D with nx:=J } σ H->(∀σ' H',J σ' H'->D.nx σ' H')->M4 t D σ H
noncomputable def Tj (t:TS):TS:=fun D σ H=>M4 t D σ H
theorem fX {X:Cx} {st:Stmt} {t:TS} (h:PS X st t):PS X st (Tj t):=by
 intro pins s σ H D I hw
 obtain⟨J,h1,h2⟩:=hw
 refine dJ (h pins s σ H { D with nx:=J } I h1) fun f s1 q=>?_
 cases f with
 | next=>obtain⟨σ',H',I',q⟩:=q;exact⟨σ',H',I',h2 _ _ q⟩
 | ret v=>exact q
 | brk=>exact q
 | cont=>exact q
theorem dF {c A B:Prop} [Decidable c] (hc:¬c) (h:B):if decide c=true then A else B:=by rw [decide_eq_false hc];exact dR h
theorem uF {c A B:Prop} [Decidable c] (hc:c) (h:A):if decide c=true then A else B:=by rw [decide_eq_true hc];exact lG h
mutual
inductive Dt (K:PySem.W.Frag) (H:Hp):V->PyData->Prop
 | non:Dt K H .non .none
 | bl (b:Bool):Dt K H (.bl b) (.bool b)
 | int (i:Int):Dt K H (.int i) (.int i)
 | str (x:Str):Dt K H (.str x) (.str x)
 | list {p:Addr} {xs:List V} {ds:List PyData}:bT K H p xs->Mx K H xs ds->Dt K H (.ref p) (.list ds)
 | tuple {p:Addr} {xs:List V} {ds:List PyData}:gK K H p xs->Mx K H xs ds->Dt K H (.ref p) (.tuple ds)
inductive Mx (K:PySem.W.Frag) (H:Hp):List V->List PyData->Prop
 | nil:Mx K H [] []
 | cons {x:V} {xs:List V} {d:PyData} {ds:List PyData}:Dt K H x d->Mx K H xs ds->Mx K H (x:: xs) (d:: ds)
end
section
variable {X:Cx} {pins:List (Addr×Obj)} {σ:St} {H:Hp} {s:Shared}
mutual
theorem Dt.reads (I:Inv X pins σ H s):∀{x:V} {d:PyData},Dt X.K H x d->∀{u:Value},RelV x u->∃as,Reads s.heap u d as
 | _,_,.non,_,r=>by cases r;exact⟨_,.none⟩
 | _,_,.bl b,_,r=>by cases r;exact⟨_,.bool b⟩
 | _,_,.int i,_,r=>by obtain⟨t,rfl⟩:=r;exact⟨_,.int i t⟩
 | _,_,.str x,_,r=>by obtain⟨t,rfl⟩:=r;exact⟨_,.str x t⟩
 | _,_,.list hq hd,_,r=>by
  cases r
  obtain⟨its,rv,⟨o,n,e,c,_,d⟩,_⟩:=I.list hq
  obtain⟨as,q⟩:=Mx.reads I hd rv
  exact⟨_,.list e c d (by simpa using q)⟩
 | _,_,.tuple hq hd,_,r=>by
  cases r
  obtain⟨its,rv,⟨o,e,c,n,d⟩,_⟩:=I.tuple hq
  obtain⟨as,q⟩:=Mx.reads I hd rv
  exact⟨_,.tuple e c d (by simpa using q)⟩
theorem Mx.reads (I:Inv X pins σ H s):∀{xs:List V} {ds:List PyData},Mx X.K H xs ds->∀{us:List Value},Vals xs us->∃as,ReadsAll s.heap us ds as
 | _,_,.nil,_,r=>by cases r;exact⟨_,.nil⟩
 | _,_,.cons h t,_,r=>by
  cases r with
  | cons r1 r2=>
   obtain⟨as,q⟩:=Dt.reads I h r1
   obtain⟨bs,q'⟩:=Mx.reads I t r2
   exact⟨_,.cons q q'⟩
end
inductive Qo (K:PySem.W.Frag) (x:V) (y:V) (H:Hp) (Q:VK):Prop where
 | mk:∀da db,Dt K H x da->Dt K H y db->SeqAt.shaped da=true->SeqAt.shaped db=true->Q (.bl (!PyData.eqv da db)) H->Qo K x y H Q
noncomputable def VF (K:PySem.W.Frag):R2:=fun x y H Q=>Qo K x y H Q
theorem M8 (hu:X.A.units+64 <cLine):v9 X (compareOp .NotEq) (VF X.K):=by
 intro pins s σ H x y v u Q I rx ry h
 obtain⟨da,db,h1,h2,s1,s2,q⟩:=h
 obtain⟨as,r1⟩:=h1.reads I rx
 obtain⟨bs,r2⟩:=h2.reads I ry
 exact ne_dataH r1 r2 s1 s2 hu (cD I q rfl)
end
noncomputable def Vm (x:Str):It:=⟨fun i _=>i <x.cps.size,fun i H v H'=>H'=H/\∃c,x.cps[i]?=some c/\v=.str ⟨#[c]⟩,fun i _=>x.cps.size<=i⟩
theorem Fe {P:Program} {w:World} {K:PySem.W.Frag} {tg:Expr} (it:Addr) (x:Str) (t:Tok) {ty:String} (hty:ty= "str_ascii_iterator" ∨ty= "str_iterator"):Turn P w K tg (Vm x) [it] it (fun i h=>h.IsStrIter it ty x t i) where
 mem:=by simp
 obj:=fun i h st b hb=>by
  have e:b=it:=by simpa using hb
  subst e
  obtain⟨o,e,c,d⟩:=st
  exact⟨o,e,fun v z=>by rw [d] at z;cases z⟩
 keep:=fun i h h' st k=>by
  obtain⟨o,e,r⟩:=st
  exact⟨o,k it (by simp) o e,r⟩
 item:=by
  intro X hP hw hK hc i pins s σ H E I hf st hg
  subst hP hw hK
  obtain⟨f0,f1,f2,f3,f4,f5⟩:=hf it (by simp)
  have fin:∀(v:Value) (h':Heap) (tk:Nat),SignAt x i v->h'.IsStrIter it ty x t (i+1)->(∀b o,b∉[it]->s.heap.get? b=some o->h'.get? b=some o)->
    ∃u,some v=some u/\wpAny (model X.prog X.w) X.A (letOwnedTupleGo tg (.ref it) u) (fun _ s2=>∃x' H',Inv X pins σ H' s2/\RelV x' u/\(Vm x).yld i H x' H'/\s2.heap.IsStrIter it ty x t (i+1)/\∀b∈[it],H' b=none) E { s with heap:=h',toks:=tk }:=by
   intro v h' tk hv st' kk
   obtain⟨c,u,hcc,rfl⟩:=hv
   have I1:Inv X pins σ H { s with heap:=h',toks:=tk }:=I.turned (fun b o hb e=>kk b o (by simpa using hb) e) f0 f1 f3 f4 f5
   obtain⟨o,e,c',d⟩:=id st'
   refine⟨_,rfl,FW (s:={ s with heap:=h',toks:=tk }) (n:=ty) e c' d (by rcases hty with rfl | rfl <;> decide) ⟨.str ⟨#[c]⟩,H,I1,⟨u,rfl⟩,⟨rfl,c,hcc,rfl⟩,st',fun b hb=>(hf b hb).1⟩⟩
  rcases hty with rfl | rfl
  ·exact(Walks.strAscii (prog:=X.prog) (w:=X.w) (I.ok.hd hc) it x t).item i s _ _ hg st fun v h' tk hv st' kk=>fin v h' tk hv st' kk
  ·exact(Walks.strWide (prog:=X.prog) (w:=X.w) (I.ok.hd hc) it x t).item i s _ _ hg st fun v h' tk hv st' kk=>fin v h' tk hv st' kk
 done:=by
  intro X hP hw hK hc i pins s σ H E I hf st hg
  subst hP hw hK
  obtain⟨f0,f1,f2,f3,f4,f5⟩:=hf it (by simp)
  have hx:x.cps[i]?=none:=by
   have hg':x.cps.size<=i:=hg
   simp;omega
  rcases hty with rfl | rfl
  ·exact wpAny_pyNext_ascii_end (I.ok.hd hc) st hx fun h' eb=>⟨rfl,I.turned (t':=s.toks) (fun b o hb e=>eb b o hb e) f0 f1 f3 f4 f5⟩
  ·exact wpAny_pyNext_wide_end (I.ok.hd hc) st hx fun h' eb=>⟨rfl,I.turned (t':=s.toks) (fun b o hb e=>eb b o hb e) f0 f1 f3 f4 f5⟩
 self:=fun _ _ _ _ _ st h=>by
  rcases hty with rfl | rfl
  ·exact wpAny_pyIter_striter_ascii st h
  ·exact wpAny_pyIter_striter_wide st h
section
variable {X:Cx} {tg:Expr}
inductive QS (R:It->Hp->Prop) (x:V) (H1:Hp):Prop where
 | mk:∀z,x=.str z->R (Vm z) H1->QS R x H1
noncomputable def Wc (tl:TE):TI:=fun σ H R=>tl σ H fun x H1=>QS R x H1
theorem R5 {l:Expr} {tl:TE} (hl:PE X l tl):PI X tg l (Wc tl):=by
 intro pins s σ H R I h
 refine dJ (hl pins s σ H _ I h) fun v s1 hpt=>?_
 obtain⟨x,H1,I1,r1,q1⟩:=hpt
 obtain⟨z,e,q⟩:=q1
 subst e
 obtain⟨t,rfl⟩:=r1
 cases ha:z.cps.all (· <128)
 ·refine wpAny_pyIter_wide ha ?_
  refine⟨s1.heap.objs.size,[s1.heap.objs.size],_,_,H1,rfl,I1.kept (t':=s1.toks) fun b o e=>Heap.get?_push_of_some _ e,Fe _ z t (ty:= "str_iterator") (.inr rfl),⟨_,Heap.get?_push_size _ rfl,rfl,rfl⟩,fun b hb=>?_,q⟩
  have e:b=s1.heap.objs.size:=by simpa using hb
  subst e
  exact I1.fpOk (Nat.le_refl _) (I1.hok.fresh (Nat.le_refl _))
 ·refine wpAny_pyIter_ascii ha ?_
  refine⟨s1.heap.objs.size,[s1.heap.objs.size],_,_,H1,rfl,I1.kept (t':=s1.toks) fun b o e=>Heap.get?_push_of_some _ e,Fe _ z t (ty:= "str_ascii_iterator") (.inl rfl),⟨_,Heap.get?_push_size _ rfl,rfl,rfl⟩,fun b hb=>?_,q⟩
  have e:b=s1.heap.objs.size:=by simpa using hb
  subst e
  exact I1.fpOk (Nat.le_refl _) (I1.hok.fresh (Nat.le_refl _))
end
theorem yes {A B:Hp->Prop} {σ:St} {H:Hp} (h:A H):U8 σ H (fun b H4=>if b=true then A H4 else B H4):=by
 show if true=true then A H else B H
 exact lG h
section
variable {js:List Nat} {tt:TT} {te:TE} {σ:St} {Qd:List V->Hp->Prop}
theorem mQ {lo:Int} {n:Nat} {H:Hp} (Pv:Nat->List V->Hp->Prop) (hn:n<=sizeLine) (h0:Pv 0 [] H) (hl:∀i ys H,Pv i ys H->ys.length<=i)
  (hs:∀i ys H,i <n->Pv i ys H->tt (some (.int (lo+i)):: dI σ js) H fun b H4=>if b=true then te (some (.int (lo+i)):: dI σ js) H4 fun y H5=>Pv (i+1) (ys ++ [y]) H5 else Pv (i+1) ys H4)
  (hd:∀ys H,Pv n ys H->Qd ys H):CompEnd js tt te σ Qd (RT lo n) H:=by
 refine⟨fun i m ys H=>m=n - i/\i<=n/\Pv i ys H,⟨n,by simp,Nat.zero_le _,h0⟩,?_⟩
 rintro i m ys H ⟨rfl,hi,p⟩
 have hlen:=hl i ys H p
 by_cases hlt:i <n
 ·refine .inr ⟨hlt,by omega,Pv (i+1),fun ys' H' p'=>⟨n - (i+1),by omega,rfl,hlt,p'⟩,fun x H' y=>?_⟩
  obtain⟨e,y⟩:=y
  subst e y
  exact hs i ys _ hlt p
 ·have e:i=n:=by omega
  subst e
  exact .inl ⟨Nat.le_refl _,by omega,hd ys H p⟩
theorem sG {K:PySem.W.Frag} {a:Addr} {xs:List V} {H:Hp} (Pv:Nat->List V->Hp->Prop) (hn:xs.length<=sizeLine) (h0:Pv 0 [] H) (hl:∀i ys H,Pv i ys H->ys.length<=i) (hq:∀i ys H,i<=xs.length->Pv i ys H->bT K H a xs)
  (hs:∀i x ys H,xs[i]?=some x->Pv i ys H->tt (some x:: dI σ js) H fun b H4=>if b=true then te (some x:: dI σ js) H4 fun y H5=>Pv (i+1) (ys ++ [y]) H5 else Pv (i+1) ys H4)
  (hd:∀ys H,Pv xs.length ys H->Qd ys H):CompEnd js tt te σ Qd (SM K a) H:=by
 refine⟨fun i m ys H=>m=xs.length - i/\i<=xs.length/\Pv i ys H,⟨xs.length,by simp,Nat.zero_le _,h0⟩,?_⟩
 rintro i m ys H ⟨rfl,hi,p⟩
 have hlen:=hl i ys H p
 have q:=hq i ys H hi p
 by_cases hlt:i <xs.length
 ·refine .inr ⟨⟨xs,xs[i],q,by simp [hlt]⟩,by omega,Pv (i+1),fun ys' H' p'=>⟨xs.length - (i+1),by omega,rfl,hlt,p'⟩,fun x H' y=>?_⟩
  obtain⟨e,y⟩:=y
  subst e
  exact hs i x ys _ (y xs q) p
 ·have e:i=xs.length:=by omega
  subst e
  exact .inl ⟨⟨xs,q,Nat.le_refl _⟩,by omega,hd ys H p⟩
theorem Ma {z:Str} {H:Hp} (Pv:Nat->List V->Hp->Prop) (hn:z.cps.size<=sizeLine) (h0:Pv 0 [] H) (hl:∀i ys H,Pv i ys H->ys.length<=i)
  (hs:∀i c ys H,z.cps[i]?=some c->Pv i ys H->tt (some (.str ⟨#[c]⟩):: dI σ js) H fun b H4=>if b=true then te (some (.str ⟨#[c]⟩):: dI σ js) H4 fun y H5=>Pv (i+1) (ys ++ [y]) H5 else Pv (i+1) ys H4)
  (hd:∀ys H,Pv z.cps.size ys H->Qd ys H):CompEnd js tt te σ Qd (Vm z) H:=by
 refine⟨fun i m ys H=>m=z.cps.size - i/\i<=z.cps.size/\Pv i ys H,⟨z.cps.size,by simp,Nat.zero_le _,h0⟩,?_⟩
 rintro i m ys H ⟨rfl,hi,p⟩
 have hlen:=hl i ys H p
 by_cases hlt:i <z.cps.size
 ·refine .inr ⟨hlt,by omega,Pv (i+1),fun ys' H' p'=>⟨z.cps.size - (i+1),by omega,rfl,hlt,p'⟩,fun x H' y=>?_⟩
  obtain⟨e,c,hc,y⟩:=y
  subst e y
  exact hs i c ys _ hc p
 ·have e:i=z.cps.size:=by omega
  subst e
  exact .inl ⟨Nat.le_refl _,by omega,hd ys H p⟩
end
section
variable {X:Cx}
inductive Qx (x:V) (lo:Option Int) (hi:Option Int) (H:Hp) (Q:VK):Prop where
 | mk:∀z,x=.str z->z.length<=sizeLine->Q (.str (Txt.slice z lo hi)) H->Qx x lo hi H Q
noncomputable def Vy:V->Option Int->Option Int->Hp->VK->Prop:=fun x lo hi H Q=>Qx x lo hi H Q
theorem N6:V7 X Vy:=by
 intro pins s σ H x v vl vu lo hi sl Q I rx hs pl pu h
 obtain⟨z,rfl,hz,q⟩:=h
 obtain⟨t,rfl⟩:=rx
 refine⟨"str",_,PySem.F.slot_str_getitem.lookup,typeIs_str _ _ _,?_⟩
 have fin:∀t' k,EP X pins σ Q (.str (Txt.slice z lo hi) t') { s with toks:=k }:=fun t' k=>⟨.str _,H,I.tok k,⟨_,rfl⟩,q⟩
 cases pl with
 | none=>
  cases pu with
  | none=>exact wpAny_getItem_str_slice (l:=none) (u:=none) (st:=none) hs rfl (post_val_or_str ⟨Nat.le_trans (Txt.slice_le z _ _) hz,fin⟩)
  | int j tj=>exact wpAny_getItem_str_slice (l:=none) (u:=some (j,tj)) (st:=none) hs rfl (post_val_or_str ⟨Nat.le_trans (Txt.slice_le z _ _) hz,fin⟩)
 | int i ti=>
  cases pu with
  | none=>exact wpAny_getItem_str_slice (l:=some (i,ti)) (u:=none) (st:=none) hs rfl (post_val_or_str ⟨Nat.le_trans (Txt.slice_le z _ _) hz,fin⟩)
  | int j tj=>exact wpAny_getItem_str_slice (l:=some (i,ti)) (u:=some (j,tj)) (st:=none) hs rfl (post_val_or_str ⟨Nat.le_trans (Txt.slice_le z _ _) hz,fin⟩)
theorem vC (hc:X.calm=true):j8 X (.builtin "all") (fun xs H Q=>∃(p:Addr) (bs:List Bool),xs=[.ref p]/\bT X.K H p (bs.map V.bl)/\Q (.bl (bs.all id)) H):=by
 intro pins s σ H xs us Q I r h
 obtain⟨p,bs,rfl,hq,q⟩:=h
 obtain⟨u,rfl,rx⟩:=vals1 r
 cases rx
 obtain⟨its,rv,pl,_⟩:=I.list hq
 have hl:=pl.isList
 have hlt:p <s.heap.objs.size:=by obtain⟨_,e,_⟩:=hl;exact Heap.lt_size e
 have hb:∀i v,its[i]?=some v->∃b,bs[i]?=some b/\v=Value.bool b:=fun i v e=>by
  have hi:i <its.length:=(List.getElem?_eq_some_iff.mp e).1
  have hi':i <bs.length:=by have:=rv.length;rw [List.length_map] at this;omega
  obtain⟨u,e',r'⟩:=rv.get (i:=i) (x:=.bl bs[i]) (by rw [List.getElem?_map,List.getElem?_eq_getElem hi'];rfl)
  rw [e] at e'
  cases e'
  exact⟨bs[i],List.getElem?_eq_getElem hi',r'⟩
 refine call_all_walk (wpAny_pyIter_list hl ?_)
 refine⟨s.heap.objs.size,[s.heap.objs.size,p],[s.heap.objs.size],its.toArray.size,_,_,fun i=>(bs[i]?).getD true,rfl,Walks.list (A:=X.A.in1) (I.ok.hd hc) _ p (Nat.ne_of_lt hlt) its.toArray,
  ⟨⟨_,Heap.get?_push_size _ rfl,rfl,rfl⟩,hl.push _⟩,fun i v s' Q' E' hP hQ=>?_,fun h' tk hk=>?_⟩
 ·obtain⟨b,e,rfl⟩:=hb i v (by simpa using hP)
  simp only [e,Option.getD_some] at hQ
  exact wpAny_truthy_bool hQ
 ·have e:((List.range its.toArray.size).all fun i=>(bs[i]?).getD true)=bs.all id:=by
   have hlen:=rv.length
   rw [List.length_map] at hlen
   rw [List.size_toArray,<-hlen];exact LSm.range_all bs
  rw [e]
  exact⟨.bl _,H,I.kept (LSm.kept_iter hk),rfl,q⟩
end
end L2
namespace L2
open PySem PySem.StrLaws PySem.Builtin PySem.Builtin.Str
end L2
namespace L2
open PySem
theorem aF {H:L2.Hp} {p:Addr} {o:L2.HO} (hp:H p=none):L2.aK H (L2.upd H p o):=fun b o' e=>by rw [L2.aJ (L2.aC e hp)];exact e
end L2
namespace L2
open PySem PySem.SeqAt
open AutoSeq1 (wpAny_loadPart')
open MeetsSeq MeetsSeq2 MeetsSeq3 SeqRoads2
section
variable {A:Around} {s:Shared}
end
open PySem.Spec PyProof.Rows
end L2
namespace L2
open PySem PySem.Spec PyProof.Rows
structure MethAt (P:Program) (w:World) (K:PySem.W.Frag) (mg:Str->Option Value) (base:Heap) (CX:Cp) (k:Nat) (C:Addr) (m:Str) (sp:Sp):Prop where
 ex:∃(f:Addr) (fd:FuncData) (ps:List Str),Kz K C/\Meth K C m f/\Binds K fd ps []/\iG P w K mg base CX k f fd ps sp
inductive Jt (P:Program) (w:World) (K:PySem.W.Frag) (mg:Str->Option Value) (base:Heap) (CX:Cp) (k:Nat) (m:Str) (E:XK) (t:TA) (σ:St) (Q:VK) (x:V) (H1:Hp):Prop where
 | mk:∀a C dx fs sp,x=.ref a->H1 a=some (.ins C dx fs)->fs.lookup m=none->MethAt P w K mg base CX k C m sp->(t σ H1 fun vs H2=>sp (x:: vs) H2 Q E)->Jt P w K mg base CX k m E t σ Q x H1
noncomputable def Hq (P:Program) (w:World) (K:PySem.W.Frag) (mg:Str->Option Value) (base:Heap) (CX:Cp) (k:Nat) (m:Str) (E:XK) (ta:TE) (t:TA):TE:=fun σ H Q=>ta σ H fun x H1=>Jt P w K mg base CX k m E t σ Q x H1
section
variable {X:Cx} {CX:Cp} {k:Nat} {E:XK} {m:Str} {pos apos:Pos} {e o:Expr} {es:List Expr} {ta:TE} {t:TA}
theorem vO {pl:Sem Bool} (he:PE X o ta) (hr:iD k X.A) (hx:oW CX X E) (ha:PA X (e:: es) t)
  (hst:starEach (e:: es) X.env=(false,eval e X.env):: starEach es X.env:=by rfl) (hpl:(backTo pos (starEach es X.env)).any (·.1)=false:=by rfl)
  (ht:eval (.Call (.Attribute o m apos) (e:: es) [] pos) X.env=(do
   let ov <-eval o X.env
   standAt apos.atName
   let (f,first) <-holding [ov] (getMethod ov m pl)
   callWith pos f first (backTo pos (starEach (e:: es) X.env)) (backToKw pos (keywordEach [] X.env))):=by rfl):
  PE X (.Call (.Attribute o m apos) (e:: es) [] pos) (Hq X.prog X.w X.K X.mg X.base CX k m E ta t):=by
 intro pins s σ H Q I h
 refine PySem.W.methodCall_KW (pl:=pl) (dJ (he pins s σ H _ I h) fun u s1 hpt=>?_) ht
 obtain⟨x,H1,I1,rx,a,C,dx,fs,sp,ex,ea,l,⟨f,fd,ps,c,hm,hb,F⟩,q⟩:=hpt
 subst ex
 obtain rfl:u=Value.ref a:=rx
 refine qe I1 ea c hm l ?_
 refine PySem.W.callWith_K (first:=[.ref a]) (h₀:=X.base) I.ok.mod.kin hm.kp (dJ (ha pos pins s1 σ H1 _ I1 q) fun us s2 ⟨vs,H2,I2,r,q2⟩=>⟨I2.kIn,?_⟩) hst hpl
 exact zc (us:=.ref a:: us) (vs:=.ref a:: vs) (ds:=[]) (dvs:=[]) F hr hb .nil hx I2 (.cons rfl r) (by rw [List.append_nil];exact q2)
theorem BJ {pl:Sem Bool} (he:PE X o ta) (hr:iD k X.A) (hx:oW CX X E)
  (ht:eval (.Call (.Attribute o m apos) [] [] pos) X.env=(do
   let ov <-eval o X.env
   standAt apos.atName
   let (f,first) <-holding [ov] (getMethod ov m pl)
   callWith pos f first (backTo pos (starEach [] X.env)) (backToKw pos (keywordEach [] X.env))):=by rfl):
  PE X (.Call (.Attribute o m apos) [] [] pos) (Hq X.prog X.w X.K X.mg X.base CX k m E ta G7):=by
 intro pins s σ H Q I h
 refine PySem.W.methodCall_KW (pl:=pl) (dJ (he pins s σ H _ I h) fun u s1 hpt=>?_) ht
 obtain⟨x,H1,I1,rx,a,C,dx,fs,sp,ex,ea,l,⟨f,fd,ps,c,hm,hb,F⟩,q⟩:=hpt
 subst ex
 obtain rfl:u=Value.ref a:=rx
 refine qe I1 ea c hm l ?_
 exact PySem.W.callWith_K0 (first:=[.ref a]) I1.kIn hm.kp (zc (us:=[.ref a]) (vs:=[.ref a]) (ds:=[]) (dvs:=[]) F hr hb .nil hx I1 (.cons rfl .nil) (by rw [List.append_nil];exact q))
end
section
variable {X:Cx}
theorem Oa:bootBuiltins "range" =some (.type "range"):=by decide +kernel
theorem GC:j8 X (.type "range") (fun xs H Q=>∃j:Int,xs=[.int j]/\∀r,H r=none->Q (.ref r) (upd H r (.rng 0 j))):=by
 intro pins s σ H xs us Q I r h
 obtain⟨j,rfl,q⟩:=h
 obtain⟨u,rfl,t,rfl⟩:=vals1 r
 refine call_range_1 ⟨.ref s.heap.objs.size,upd H s.heap.objs.size (.rng 0 j),I.laid (fun b o e=>Heap.get?_push_of_some _ e) (Nat.le_refl _) ?_,rfl,q _ (I.hok.fresh (Nat.le_refl _))⟩
 exact⟨_,_,_,Heap.get?_push_size _ rfl⟩
noncomputable def Og (n:Nat):List V:=(List.range n).map fun i=>V.int (i:Nat)
theorem Pu (n:Nat):(Og n).length=n:=by simp [Og]
theorem Nu:∀(n:Nat) (us:List Value),us.length=n->(∀(j:Nat) (v:Value),us[j]?=some v->∃t,v=.int (j:Nat) t)->Vals (Og n) us:=by
 intro n
 induction n with
 | zero=>intro us hl _;cases us with | nil=>exact .nil | cons _ _=>cases hl
 | succ n ih=>
  intro us hl h
  have e1:Og (n+1)=Og n ++ [V.int (n:Nat)]:=by simp [Og,List.range_succ]
  have hn:n <us.length:=by omega
  have e2:us=us.take n ++ [us[n]]:=by
   have:=List.take_append_drop n us
   rw [List.drop_eq_getElem_cons hn] at this
   rw [List.drop_eq_nil_of_le (by omega)] at this
   exact this.symm
  rw [e1,e2]
  refine Vals.append (ih _ (by simp;omega) fun j v e=>?_) (.cons ?_ .nil)
  ·rw [List.getElem?_take] at e
   split at e
   ·exact h j v e
   ·cases e
  ·obtain⟨t,e⟩:=h n us[n] (by simp [hn])
   exact⟨t,e⟩
theorem An (hc:X.calm=true):j8 X (.type "list") (fun xs H Q=>∃(r:Addr) (n:Nat),xs=[.ref r]/\H r=some (.rng 0 n)/\n<=1000000/\∀l,H l=none->Q (.ref l) (upd H l (.lst (Og n)))):=by
 intro pins s σ H xs us Q I rx h
 obtain⟨r,n,rfl,hr,hn,q⟩:=h
 obtain⟨u,rfl,ru⟩:=vals1 rx
 cases ru
 have hl:sizeLine=16777216:=sizeLine_eq
 obtain⟨t,u,v,e⟩:=(show fK X.prog X.w H s.heap r (.rng 0 n) from I.hok r _ hr)
 refine call_list_range (n:=n) (I.ok.hd hc) e (small_one (by omega) (by omega) (by omega) (by omega)) (by rw [rangeSize_one];split <;> omega) (by omega) fun h' tk acc' c' kp e' hi=>?_
 refine⟨.ref s.heap.objs.size,_,I.laid (t':=tk) kp (Nat.le_refl _) (show fK X.prog X.w _ h' _ (.lst (Og n)) from⟨by rw [Pu];omega,acc'.toList,c',Nu n _ (by simpa using hi.1) fun j v ej=>?_,by simpa using e'⟩),rfl,q _ (I.hok.fresh (Nat.le_refl _))⟩
 obtain⟨t,ev⟩:=hi.2 j v (by simpa using ej)
 exact⟨t,by rw [ev];congr 1;omega⟩
end
inductive jg (w:World) (K:PySem.W.Frag):List DictEntry->List (Str×List Int)->Prop
 | nil:jg w K [] []
 | cons {x:Str} {t:Tok} {ad:Addr} {ns:List Int} {es:List DictEntry} {rows:List (Str×List Int)} {h:Int} {its:Array Value} {n:Nat} {o:Obj}:
   h=hashStr w x->K.lookup ad=some o->o.cls=.type "tuple" ->o.data=.seq its n->Vals (ns.map V.int) its.toList->ns.length<=1000->jg w K es rows->jg w K (⟨h,.str x t,.ref ad⟩:: es) ((x,ns):: rows)
inductive KTab (w:World) (K:PySem.W.Frag) (a:Addr) (rows:List (Str×List Int)):Prop where
 | mk:∀(o:Obj) (es:Array DictEntry) (ep:Nat),K.lookup a=some o->o.cls=.type "dict" ->o.dict=none->o.slots= #[]->o.data=.dict es ep->(a == sysModules)=false->jg w K es.toList rows->(rows.map (·.1)).Nodup->KTab w K a rows
theorem KTab.mk' {w:World} {K:PySem.W.Frag} {a:Addr} {rows:List (Str×List Int)} {o:Obj} {es:Array DictEntry} {ep:Nat} (lk:K.lookup a=some o) (c1:o.cls=.type "dict") (c2:o.dict=none) (c3:o.slots= #[]) (c4:o.data=.dict es ep) (sm:(a == sysModules)=false)
  (rw':jg w K es.toList rows) (nd:(rows.map (·.1)).Nodup):KTab w K a rows:=⟨o,es,ep,lk,c1,c2,c3,c4,sm,rw',nd⟩
noncomputable def rowOf (rows:List (Str×List Int)) (z:Str):Option (List Int):=(rows.find? fun r=>decide (r.1=z)).map (·.2)
section
variable {P:Program} {w:World} {K:PySem.W.Frag}
theorem jg.kvs:∀{es:List DictEntry} {rows:List (Str×List Int)},jg w K es rows->∃kvs:List (Key×Value),Pairs (cG P w) es kvs/\kvs.map (·.1)=rows.map (fun r=>(Sum.inr r.1:Key))/\
  (∀e∈es,∃k,(cG P w).is k e.key=true/\e.hash=(cG P w).hash k)/\
  ∀z,(rowOf rows z=none->valueAt kvs (Sum.inr z)=none)/\∀ns,rowOf rows z=some ns->∃ad,valueAt kvs (Sum.inr z)=some (.ref ad)/\∀H,gK K H ad (ns.map V.int)
 | _,_,.nil=>⟨[],.nil,rfl,fun e he=>(by cases he),fun z=>⟨fun _=>rfl,fun ns e=>by cases e⟩⟩
 | _,_,@jg.cons _ _ x t ad ns es rows h its n o hh hl hc hdt hv hz hr=>by
  obtain⟨kvs,p,hk,ho,hf⟩:=jg.kvs hr
  refine⟨(Sum.inr x,.ref ad):: kvs,.cons (km P w x t) rfl p,by rw [List.map_cons,List.map_cons,hk],fun e he=>?_,fun z=>?_⟩
  ·rcases List.mem_cons.mp he with e1 | he
   ·subst e1
    exact⟨Sum.inr x,km P w x t,hh⟩
   ·exact ho e he
  ·by_cases hx:x=z
   ·subst hx
    have e1:rowOf ((x,ns):: rows) x=some ns:=by simp [rowOf]
    have e2:valueAt ((Sum.inr x,Value.ref ad):: kvs) (Sum.inr x:Key)=some (.ref ad):=by simp [valueAt]
    rw [e1,e2]
    refine⟨fun e=>by (cases e),fun ms e=>⟨ad,rfl,fun H=>.inr ⟨_,its,n,hl,hc,hdt,?_,?_⟩⟩⟩
    ·have:=hv.length
     have hs:sizeLine=16777216:=sizeLine_eq
     simp at this
     omega
    ·cases e;exact hv
   ·have e1:rowOf ((x,ns):: rows) z=rowOf rows z:=by simp [rowOf,hx]
    have hx':¬(Sum.inr x:Key)=Sum.inr z:=fun q=>hx (Sum.inr.inj q)
    have e2:valueAt ((Sum.inr x,Value.ref ad):: kvs) (Sum.inr z:Key)=valueAt kvs (Sum.inr z):=by simp [valueAt,hx']
    rw [e1,e2]
    exact hf z
theorem KTab.map {a:Addr} {rows:List (Str×List Int)} {h:Heap} (T:KTab w K a rows) (hk:K.In h):∃f:Key->Option Value,h.MapOf (cG P w) a f/\(a == sysModules)=false/\
  ∀z,(rowOf rows z=none->f (Sum.inr z)=none)/\∀ns,rowOf rows z=some ns->∃ad,f (Sum.inr z)=some (.ref ad)/\∀H,gK K H ad (ns.map V.int):=by
 obtain⟨o,es,ep,hl,c1,c2,c3,c4,hs,hr,nd⟩:=T
 obtain⟨kvs,p,hkk,ho,hf⟩:=hr.kvs (P:=P)
 have D:h.DictOf (cG P w) a kvs:=⟨o,es,ep,hk a _ hl,⟨c1,c2,c3⟩,c4,fun e he=>ho e (by simpa using he),p,?_⟩
 ·exact⟨_,D.mapOf,hs,hf⟩
 ·rw [hkk]
  have:rows.map (fun r=>(Sum.inr r.1:Key))=(rows.map (·.1)).map Sum.inr:=by rw [List.map_map];rfl
  rw [this]
  exact List.Pairwise.map _ (fun a b hab e=>hab (Sum.inr.inj e)) nd
end
section
variable {X:Cx} {i o:Expr} {ty td:TE} {pos:Pos}
inductive Qp (w:World) (K:PySem.W.Frag) (Q:VK) (y:V) (x:V) (H2:Hp):Prop where
 | mk:∀a rows z,x=.ref a->KTab w K a rows->y=.str z->Q (.bl (rowOf rows z).isSome) H2->Qp w K Q y x H2
noncomputable def VH (w:World) (K:PySem.W.Frag) (ty td:TE):TE:=fun σ H Q=>ty σ H fun y H1=>td σ H1 fun x H2=>Qp w K Q y x H2
theorem Ss (hi:PE X i ty) (ho:PE X o td):PC X .In i o (VH X.w X.K ty td):=by
 intro pins s σ H Q I h
 refine dJ (hi pins s σ H _ I h) fun iv s1 ⟨y,H1,I1,ry,q1⟩=>dJ (ho pins s1 σ H1 _ I1 q1) fun u s2 hpt=>?_
 obtain⟨x,H2,I2,rx,a,rows,z,ex,T,ey,q2⟩:=hpt
 subst ex
 subst ey
 obtain rfl:u=Value.ref a:=rx
 obtain⟨t,rfl⟩:=ry
 obtain⟨f,M,hs,hf⟩:=T.map (P:=X.prog) I2.kIn
 refine wpAny_in_of (k:=(Sum.inr z:Key)) (km X.prog X.w z t) hs M ?_
 refine⟨.bl (rowOf rows z).isSome,H2,I2.tok _,?_,q2⟩
 cases e:rowOf rows z with
 | none=>rw [(hf z).1 e];rfl
 | some ns=>obtain⟨ad,e1,_⟩:=(hf z).2 ns e;rw [e1];rfl
inductive Qs (w:World) (K:PySem.W.Frag) (x:V) (y:V) (H:Hp) (Q:VK):Prop where
 | mk:∀a rows z ns,x=.ref a->KTab w K a rows->y=.str z->rowOf rows z=some ns->(∀ad,gK K H ad (ns.map V.int)->Q (.ref ad) H)->Qs w K x y H Q
noncomputable def Vh (w:World) (K:PySem.W.Frag):R2:=fun x y H Q=>Qs w K x y H Q
theorem Vx:KC X (Vh X.w X.K):=by
 intro value slice pins s σ H x y v u Q I rx ry h hs
 obtain⟨a,rows,z,ns,rfl,T,rfl,e,q⟩:=h
 cases rx
 obtain⟨t,rfl⟩:=ry
 obtain⟨f,M,hsm,hf⟩:=T.map (P:=X.prog) I.kIn
 obtain⟨ad,e1,e2⟩:=(hf z).2 ns e
 exact tail_any M.typeIs PySem.F.slot_dict_getitem.lookup (wpAny_getItem_of (k:=(Sum.inr z:Key)) (km X.prog X.w z t) M e1 ⟨.ref ad,H,I.tok _,rfl,q ad (e2 H)⟩) hs
theorem Pn (ho:PE X o td) (hi:PE X i ty) (hs:Ja i):PE X (.Subscript o i pos) (S9 (Vh X.w X.K) td ty):=aY Vx ho hi hs
end
noncomputable def vf (K:PySem.W.Frag) (H:Hp) (a:Addr) (xs:List V):Prop:=bT K H a xs∨gK K H a xs
theorem aK.seqT {K:PySem.W.Frag} {H H':Hp} {a:Addr} {xs:List V} (e:aK H H') (h:gK K H a xs):gK K H' a xs:=by
 rcases h with (h | ⟨o,h⟩) | h
 ·exact .inl (.inl (e _ _ h))
 ·exact .inl (.inr ⟨o,e _ _ h⟩)
 ·exact .inr h
theorem aK.seqA {K:PySem.W.Frag} {H H':Hp} {a:Addr} {xs:List V} (e:aK H H') (h:vf K H a xs):vf K H' a xs:=h.elim (fun h=>.inl (e.seq h)) fun h=>.inr (e.seqT h)
noncomputable def j4 (p:Addr) (H H':Hp):Prop:=∀b o,b≠p->H b=some o->H' b=some o
theorem j4.refl {p:Addr} (H:Hp):j4 p H H:=fun _ _ _ e=>e
theorem j4.trans {p:Addr} {H H1 H2:Hp} (a:j4 p H H1) (b:j4 p H1 H2):j4 p H H2:=fun c o n e=>b c o n (a c o n e)
theorem j4.of_same {p:Addr} {H H1:Hp} (a:aK H H1):j4 p H H1:=fun c o _ e=>a c o e
theorem j4.write {p:Addr} {H:Hp} {o:HO}:j4 p H (upd H p o):=fun b u n e=>by rw [aJ n];exact e
theorem j4.seqT {K:PySem.W.Frag} {H H':Hp} {p a C dx:Addr} {fs:List (Str×V)} {xs:List V} (e:j4 p H H') (hp:H p=some (.ins C dx fs)) (h:gK K H a xs):gK K H' a xs:=by
 rcases h with (h | ⟨o,h⟩) | h
 ·exact .inl (.inl (e _ _ (ul h hp (by intro z;cases z)) h))
 ·exact .inl (.inr ⟨o,e _ _ (ul h hp (by intro z;cases z)) h⟩)
 ·exact .inr h
theorem j4.seqL {K:PySem.W.Frag} {H H':Hp} {p a C dx:Addr} {fs:List (Str×V)} {xs:List V} (e:j4 p H H') (hp:H p=some (.ins C dx fs)) (h:bT K H a xs):bT K H' a xs:=by
 rcases h with (h | ⟨o,h⟩) | h
 ·exact .inl (.inl (e _ _ (ul h hp (by intro z;cases z)) h))
 ·exact .inl (.inr ⟨o,e _ _ (ul h hp (by intro z;cases z)) h⟩)
 ·exact .inr h
theorem j4.seqA {K:PySem.W.Frag} {H H':Hp} {p a C dx:Addr} {fs:List (Str×V)} {xs:List V} (e:j4 p H H') (hp:H p=some (.ins C dx fs)) (h:vf K H a xs):vf K H' a xs:=h.elim (fun h=>.inl (e.seqL hp h)) fun h=>.inr (e.seqT hp h)
theorem M6 {K:PySem.W.Frag} {H:Hp} {a:Addr} {xs:List V} {Q:VK} (h:vf K H a xs) (k:∀H' u,aK H H'->gK K H' u xs->Q (.ref u) H'):
  ∃p ys,[V.ref a]=[.ref p]/\((bT K H p ys/\∀l,H l=none->Q (.ref l) (upd H l (.tup ys)))∨(gK K H p ys/\Q (.ref p) H)):=by
 rcases h with h | h
 ·exact⟨a,xs,rfl,.inl ⟨h,fun l hl=>k _ _ (aF hl) (gK.of aA)⟩⟩
 ·exact⟨a,xs,rfl,.inr ⟨h,k _ _ (aK.refl _) h⟩⟩
theorem tE {X:Cx}:j8 X (.type "tuple") (fun xs H Q=>∃a ys,xs=[.ref a]/\vf X.K H a ys/\∀H' u,aK H H'->gK X.K H' u ys->Q (.ref u) H'):=by
 intro pins s σ H xs us Q I r h
 obtain⟨a,ys,rfl,hq,q⟩:=h
 exact Ba pins s σ H _ us Q I r (M6 hq q)
section
variable {es:List Expr} {env:Env}
theorem cL {a b c}:starEach (.Tuple a b c:: es) env=(false,eval (.Tuple a b c) env):: starEach es env:=rfl
theorem aO {a b}:starEach (.List a b:: es) env=(false,eval (.List a b) env):: starEach es env:=rfl
theorem ao {a b c}:starEach (.Constant a b c:: es) env=(false,eval (.Constant a b c) env):: starEach es env:=rfl
theorem aj {a b}:starEach (.Name a b:: es) env=(false,eval (.Name a b) env):: starEach es env:=rfl
theorem bf {a b c d}:starEach (.Call a b c d:: es) env=(false,eval (.Call a b c d) env):: starEach es env:=rfl
theorem bI {a b c d}:starEach (.BinOp a b c d:: es) env=(false,eval (.BinOp a b c d) env):: starEach es env:=rfl
theorem bx {a b c}:starEach (.Attribute a b c:: es) env=(false,eval (.Attribute a b c) env):: starEach es env:=rfl
theorem aD {a b c}:starEach (.Subscript a b c:: es) env=(false,eval (.Subscript a b c) env):: starEach es env:=rfl
theorem fG {a b c d}:starEach (.ListComp a b c d:: es) env=(false,eval (.ListComp a b c d) env):: starEach es env:=rfl
theorem Ha {a b c d}:starEach (.IfExp a b c d:: es) env=(false,eval (.IfExp a b c d) env):: starEach es env:=rfl
end
section
variable {X:Cx} {scope:Scope} {x:Str} {js:List Nat} {cl:List (Str×Addr)} {C:Addr} {s:Shared} {H:Hp} {ex:List Addr}
end
noncomputable def iW (H:Hp):List Addr->List (List V)->Prop:=Paired fun r vs=>H r=some (.tup vs)
theorem iW.same {H H':Hp} (s:aK H H'):∀{rs:List Addr} {vss:List (List V)},iW H rs vss->iW H' rs vss
 | _,_,.nil=>.nil
 | _,_,.cons h t=>.cons (s _ _ h) (iW.same s t)
theorem iW.append {H:Hp}:∀{rs rs':List Addr} {vss vss':List (List V)},iW H rs vss->iW H rs' vss'->iW H (rs ++ rs') (vss ++ vss')
 | _,_,_,_,.nil,q=>q
 | _,_,_,_,.cons h t,q=>.cons h (iW.append t q)
section
variable {X:Cx}
end
section
variable {X:Cx}
end
section
variable {P:Program} {w:World} {K:PySem.W.Frag} {mg:Str->Option Value} {base:Heap} {N:List Str} {qual:Str} {scope:Scope} {f:Addr} {cd:Value} {A:Around} {outer:List Env} {s:Shared} {H:Hp} {E:XK}
end
structure Ob (K:PySem.W.Frag) (C:Addr):Prop where
 ex:∃(nm q:Str) (Nn:Addr) (bs bm bmB:List Value) (hdct:Bool) (sn:List Str) (sub:List Value) (ab:Bool) (col:Option Bool) (dd:Option Addr) (k0 k1 k2 k3 k5:Option Value) (B newId initId:String) (mN:Str->Option Value),
  ExcBaseFacts B newId initId bmB/\bm.contains (.type "BaseException")=true/\mN "__init__" =none/\
  ∀h:Heap,K.In h->h.get? C=some (excClassObj nm q C Nn bs bm hdct sn sub ab col dd k0 k1 k2 k3 k5 newId)/\h.Ns Nn mN/\OwnTail h bmB bm
section
variable {P:Program} {w:World} {K:PySem.W.Frag} {mg:Str->Option Value} {base:Heap} {N:List Str} {qual:Str} {scope:Scope} {f:Addr} {cd:Value} {A:Around} {outer:List Env} {s:Shared} {H:Hp} {E:XK}
end
section
variable {X:Cx} {pins:List (Addr×Obj)} {σ:St} {H:Hp} {s:Shared} {E:Value->Shared->Prop}
end
section
variable {X:Cx} {pins:List (Addr×Obj)} {σ:St} {H:Hp} {s:Shared}
end
structure ExcAt (K:PySem.W.Frag) (C:Addr):Prop where
 ex:∃(nm q:Str) (Nn:Addr) (bs bm:List Value) (hdct:Bool) (sn:List Str) (sub:List Value) (ab:Bool) (col:Option Bool) (dd:Option Addr) (k0 k1 k2 k3 k5:Option Value) (newId:String),bm.contains (.type "BaseException")=true/\
  ∀h:Heap,K.In h->h.get? C=some (excClassObj nm q C Nn bs bm hdct sn sub ab col dd k0 k1 k2 k3 k5 newId)
section
variable {prog:Program} {w:World} {A:Around} {E:Value->Shared->Prop} {h:Heap} {g:Array GenState} {d:Drawn} {t:Nat} {os:OsState} {a:Addr} {o:Obj} {C:Addr}
end
noncomputable abbrev GZ:List Value:=[.type "ValueError",.type "Exception",.type "BaseException",.type "object"]
noncomputable def KH (K:PySem.W.Frag) (N:Addr) (x:Str):Option Value:=match K.lookup N with
 | some o=>(match o.data with | .dict es _=>nsFind es x | _=>none)
 | none=>none
theorem LQ {K:PySem.W.Frag} {h:Heap} {N:Addr} (X:K.In h) (ok:PySem.W.nsOkIn K N=true):h.nsMap N=KH K N:=by
 funext x
 unfold PySem.W.nsOkIn at ok
 split at ok
 ·rename_i look
  unfold Heap.nsMap KH
  rw [X _ _ look,look]
 ·cases ok
theorem K1 {K:PySem.W.Frag} {N:Addr} {x:Str} (e:PySem.W.nsIn K N x=some none):KH K N x=none:=by
 unfold PySem.W.nsIn at e
 split at e
 ·rename_i look
  split at e
  ·cases e
  ·rename_i f
   unfold KH
   rw [look]
   show nsFind _ _=none
   unfold nsFind findBy
   rw [<-Array.find?_toList,f]
   rfl
 ·cases e
theorem Br {K:PySem.W.Frag}:∀{l:List Value},PySem.W.tailIn K GZ l=true->l.contains (.type "BaseException")=true
 | [],e=>by simp [PySem.W.tailIn,GZ] at e
 | v:: r,e=>by
  unfold PySem.W.tailIn at e
  rcases Bool.or_eq_true_iff.mp e with z | z
  ·rw [beq_iff_eq.mp z];decide +kernel
  ·split at z
   ·split at z
    ·simp only [Bool.and_eq_true] at z
     rw [List.contains_cons,Br z.2,Bool.or_true]
    ·cases z
   ·cases z
theorem Ob.ofIn {K:PySem.W.Frag} {C:Addr} (z:PySem.W.excIn K C GZ "ValueError.__new__" =true):Ob K C:=by
 unfold PySem.W.excIn at z
 split at z
 ·rename_i od kd slo look
  split at z
  ·rename_i C1 up a0 a1 a2 a3 nid a5 em es
   simp only [Bool.and_eq_true,beq_iff_eq,Bool.not_eq_true'] at z
   obtain⟨⟨⟨⟨⟨x1,x2⟩,x3⟩,x4⟩,x5⟩,x6⟩:=z
   subst x1 x2
   obtain⟨g1,g2,g3,g4,g5,g6,g7,g8,g9,g10,g11⟩:=kd
   dsimp only at em x3 x5 x6
   subst em x3
   have hs:slo= #[a0,a1,a2,a3,some (.builtin "ValueError.__new__"),a5]:=by
    obtain⟨l⟩:=slo
    simp only at es
    rw [es]
   subst hs
   refine⟨⟨g1,g5,g4,g2,up,GZ,g6,g7,g8,g9,g10,od,a0,a1,a2,a3,a5, "ValueError", "ValueError.__new__", "ValueError.__init__",KH K g4,PySem.F.excBase_ValueError,Br x4,K1 x6,fun h X=>⟨X _ _ look,?_,PySem.W.tail_of_in X x4⟩⟩⟩
   rw [<-LQ X x5]
   exact .of_isNs (PySem.W.isNs_of_in X x5)
  ·cases z
 ·cases z
structure V4 (K:PySem.W.Frag) (C:Addr):Prop where
 cls:(PySem.W.clsIn K C).isSome=true
 ga:PySem.W.findIn K (.ref C) "__getattribute__" =some (some (.builtin "BaseException.__getattribute__"))
 gn:PySem.W.findIn K (.ref C) "__getattr__" =some none
 cl:PySem.W.findIn K (.ref C) "__class__" =some (some (.builtin "object.__class__"))
 ob:PySem.W.subIn K (.ref C) (.type "object")=some true
 be:PySem.W.subIn K (.ref C) (.type "BaseException")=some true
section
variable {P:Program} {w:World} {K:PySem.W.Frag} {mg:Str->Option Value} {base:Heap}
end
end L2
namespace L2
open PySem
section
variable {prog:Program} {w:World} {A:Around} {E:Value->Shared->Prop} {h:Heap} {g:Array GenState} {d:Drawn} {t:Nat} {os:OsState}
variable {nm q:Str} {C N:Addr} {bs bm bmB:List Value} {hdct:Bool} {sn:List Str} {sub:List Value} {ab:Bool} {col:Option Bool} {dd:Option Addr} {k0 k1 k2 k3 k5:Option Value} {B newId initId:String}
end
section
variable {prog:Program} {w:World} {A:Around} {E:Value->Shared->Prop} {h:Heap} {g:Array GenState} {d:Drawn} {t:Nat} {os:OsState}
variable {nm q:Str} {C N:Addr} {bs bm bmB:List Value} {hdct:Bool} {sn:List Str} {sub:List Value} {ab:Bool} {col:Option Bool} {dd:Option Addr} {k0 k1 k2 k3 k5:Option Value} {B newId initId:String}
end
end L2
namespace L2
open PySem Builtin Builtin.ObjectAttr
noncomputable def Es:List Value->Bool
 | .ref _:: r=>Es r
 | l=>l == GZ
structure Wq (K:PySem.W.Frag) (C:Addr):Prop where
 xc:V4 K C
 sa:PySem.W.findIn K (.ref C) "__setattr__" =some (some (.builtin "object.__setattr__"))
 ov:(PySem.W.clsIn K C).any (fun cd=>Es cd.mro && cd.hasDict)=true
section
variable {prog:Program} {w:World} {A:Around} {E:Value->Shared->Prop} {h:Heap} {g:Array GenState} {d:Drawn} {t:Nat} {os:OsState} {x C:Addr} {K:PySem.W.Frag} {mA:Str->Option Value} {name:Str} {v:Value}
end
end L2
namespace L2
open PySem PySem.Spec PyProof.Rows
section
variable {X:Cx} {pins:List (Addr×Obj)} {σ:St} {H:Hp} {s:Shared} {a C dx:Addr} {fs:List (Str×V)} {f:Str} {v:V} {A:Around} {E:Value->Shared->Prop}
end
section
variable {X:Cx} {e o value:Expr} {f:Str} {pos pos':Pos} {ta tv:TE}
end
noncomputable def K9 (K:PySem.W.Frag) (C f:Addr):Bool:=match K.lookup C with
 | some o=>(match o.data with
  | .cls kd=>o.cls == .type "type" && kd.mro.head? == some (.ref C) && PySem.W.tailIn K GZ kd.mro.tail && !kd.hasDel && PySem.W.nsOkIn K kd.ns && KH K kd.ns "__init__" == some (.ref f) && o.slots.size == 6 && o.slots[4]? == some (some (.builtin "ValueError.__new__"))
  | _=>false)
 | none=>false
structure zP (K:PySem.W.Frag) (C f:Addr):Prop where
 ex:∃(nm q:Str) (Nn:Addr) (bs bm:List Value) (hdct:Bool) (sn:List Str) (sub:List Value) (ab:Bool) (col:Option Bool) (dd:Option Addr) (k0 k1 k2 k3 k5:Option Value) (mN:Str->Option Value),
  mN "__init__" =some (.ref f)/\∀h:Heap,K.In h->h.get? C=some (excClassObj nm q C Nn bs bm hdct sn sub ab col dd k0 k1 k2 k3 k5 "ValueError.__new__")/\h.Ns Nn mN/\OwnTail h GZ bm
theorem VL {α:Type}:∀{l:List α},l.length=6->∃a b c d e f,l=[a,b,c,d,e,f]
 | [a,b,c,d,e,f],_=>⟨a,b,c,d,e,f,rfl⟩
theorem zP.ofIn {K:PySem.W.Frag} {C f:Addr} (z:K9 K C f=true):zP K C f:=by
 unfold K9 at z
 split at z
 ·rename_i o look
  obtain⟨oc,od,dt,slo⟩:=o
  dsimp only at z
  split at z
  ·rename_i kd
   simp only [Bool.and_eq_true,beq_iff_eq,Bool.not_eq_true'] at z
   obtain⟨⟨⟨⟨⟨⟨⟨x1,x2⟩,x3⟩,x4⟩,x5⟩,x6⟩,x7⟩,x8⟩:=z
   subst x1
   obtain⟨g1,g2,g3,g4,g5,g6,g7,g8,g9,g10,g11⟩:=kd
   dsimp only at x2 x3 x4 x5 x6
   obtain⟨sl⟩:=slo
   obtain⟨a0,a1,a2,a3,a5,rfl⟩:∃a0 a1 a2 a3 a5,sl=[a0,a1,a2,a3,some (.builtin "ValueError.__new__"),a5]:=by
    obtain⟨a0,a1,a2,a3,a4,a5,rfl⟩:=VL (show sl.length=6 from x7)
    have e:a4=some (.builtin "ValueError.__new__"):=Option.some.inj (show some a4=_ from x8)
    subst e
    exact⟨a0,a1,a2,a3,a5,rfl⟩
   obtain⟨up,rfl⟩:∃up,g3=.ref C:: up:=by
    cases g3 with
    | nil=>cases x2
    | cons v r=>cases (show some v=some (Value.ref C) from x2);exact⟨r,rfl⟩
   subst x4
   refine⟨⟨g1,g5,g4,g2,up,g6,g7,g8,g9,g10,od,a0,a1,a2,a3,a5,KH K g4,x6,fun h X=>⟨X _ _ look,?_,PySem.W.tail_of_in X x3⟩⟩⟩
   rw [<-LQ X x5]
   exact .of_isNs (PySem.W.isNs_of_in X x5)
  ·cases z
 ·cases z
section
variable {X:Cx} {CX:Cp} {k:Nat} {C B f:Addr} {fd:FuncData} {ps:List Str} {sp:Sp} {E:XK} {x:Str} {p pos apos:Pos} {e:Expr} {es:List Expr} {t:TA}
end
section
variable {X:Cx} {CX:Cp} {k:Nat} {C f:Addr} {fd:FuncData} {ps:List Str} {sp:Sp} {E:XK} {x:Str} {p pos:Pos} {e:Expr} {es:List Expr} {t:TA}
end
section
variable {X:Cx} {C:Addr} {x:Str} {p pos:Pos} {e:Expr} {es:List Expr} {t:TA}
end
end L2
namespace L2
open PySem
noncomputable def Rn (K:PySem.W.Frag) (C:Addr):Bool:=(PySem.W.clsIn K C).isSome && PySem.W.findIn K (.ref C) "__getattribute__" == some (some (.builtin "BaseException.__getattribute__")) && PySem.W.findIn K (.ref C) "__getattr__" == some none &&
 PySem.W.findIn K (.ref C) "__class__" == some (some (.builtin "object.__class__")) && PySem.W.subIn K (.ref C) (.type "object") == some true && PySem.W.subIn K (.ref C) (.type "BaseException") == some true
theorem V4.ofIn {K:PySem.W.Frag} {C:Addr} (h:Rn K C=true):V4 K C:=by
 simp only [Rn,Bool.and_eq_true,beq_iff_eq] at h
 obtain⟨⟨⟨⟨⟨a,b⟩,c⟩,d⟩,e⟩,f⟩:=h
 exact⟨a,b,c,d,e,f⟩
noncomputable def Tn (K:PySem.W.Frag) (C:Addr):Bool:=Rn K C && PySem.W.findIn K (.ref C) "__setattr__" == some (some (.builtin "object.__setattr__")) && (PySem.W.clsIn K C).any (fun cd=>Es cd.mro && cd.hasDict)
theorem Wq.ofIn {K:PySem.W.Frag} {C:Addr} (h:Tn K C=true):Wq K C:=by
 simp only [Tn,Bool.and_eq_true,beq_iff_eq] at h
 obtain⟨⟨a,b⟩,c⟩:=h
 exact⟨.ofIn a,b,c⟩
end L2
namespace L2
open PySem PySem.Spec PyProof.Rows
section
variable {P:Program} {w:World} {K:PySem.W.Frag} {mg:Str->Option Value} {base:Heap} {N:List Str} {qual:Str} {scope:Scope} {f:Addr} {cd:Value} {A:Around} {outer:List Env} {s:Shared} {H:Hp} {E:XK}
end
section
variable {M:Model} {A:Around} {E:Value->Shared->Prop} {s:Shared} {env:Env} {nm q:Str} {C N:Addr} {bs bm:List Value} {hdct:Bool} {sn:List Str} {sub:List Value} {ab:Bool} {col:Option Bool} {dd:Option Addr} {k0 k1 k2 k3 k5:Option Value} {newId:String}
end
section
variable {P:Program} {w:World} {K:PySem.W.Frag} {mg:Str->Option Value} {base:Heap} {N:List Str} {qual:Str} {scope:Scope} {f:Addr} {cd:Value} {A:Around} {outer:List Env} {s:Shared} {H:Hp} {E:XK}
end
section
variable {M:Model} {A:Around} {E:Value->Shared->Prop} {nm q:Str} {C N:Addr} {bs bm:List Value} {hdct:Bool} {sn:List Str} {sub:List Value} {ab:Bool} {col:Option Bool} {dd:Option Addr} {k0 k1 k2 k3 k5:Option Value} {newId:String}
end
section
variable {P:Program} {w:World} {K:PySem.W.Frag} {mg:Str->Option Value} {base:Heap}
end
theorem zP.at {K:PySem.W.Frag} {C f:Addr} (c:zP K C f) {h:Heap} (X:K.In h):ExcAt K C:=by
 obtain⟨nm,q,Nn,bs,bm,hdct,sn,sub,ab,col,dd,k0,k1,k2,k3,k5,mN,_,hf⟩:=c.ex
 exact⟨⟨nm,q,Nn,bs,bm,hdct,sn,sub,ab,col,dd,k0,k1,k2,k3,k5,_,(hf h X).2.2.hasType (X:= "BaseException") (b:=true) (by decide +kernel),fun h X=>(hf h X).1⟩⟩
noncomputable def Wr (a b:TI):TI:=fun σ H R=>a σ H R∨b σ H R
theorem QL {X:Cx} {tg it:Expr} {a b:TI} (h1:PI X tg it a) (h2:PI X tg it b):PI X tg it (Wr a b):=fun pins s σ H R I h=>h.elim (h1 pins s σ H R I) (h2 pins s σ H R I)
theorem GD {js:List Nat} {tt:TT} {te:TE} {σ:St} {Qd:List V->Hp->Prop} {K:PySem.W.Frag} {a:Addr} {xs:List V} {H:Hp} (Pv:Nat->List V->Hp->Prop) (hn:xs.length<=sizeLine) (h0:Pv 0 [] H) (hl:∀i ys H,Pv i ys H->ys.length<=i) (hq:∀i ys H,i<=xs.length->Pv i ys H->gK K H a xs)
  (hs:∀i x ys H,xs[i]?=some x->Pv i ys H->tt (some x:: dI σ js) H fun b H4=>if b=true then te (some x:: dI σ js) H4 fun y H5=>Pv (i+1) (ys ++ [y]) H5 else Pv (i+1) ys H4)
  (hd:∀ys H,Pv xs.length ys H->Qd ys H):CompEnd js tt te σ Qd (Th K a) H:=by
 refine⟨fun i m ys H=>m=xs.length - i/\i<=xs.length/\Pv i ys H,⟨xs.length,by simp,Nat.zero_le _,h0⟩,?_⟩
 rintro i m ys H ⟨rfl,hi,p⟩
 have hlen:=hl i ys H p
 have q:=hq i ys H hi p
 by_cases hlt:i <xs.length
 ·refine .inr ⟨⟨xs,xs[i],q,by simp [hlt]⟩,by omega,Pv (i+1),fun ys' H' p'=>⟨xs.length - (i+1),by omega,rfl,hlt,p'⟩,fun x H' y=>?_⟩
  obtain⟨e,y⟩:=y
  subst e
  exact hs i x ys _ (y xs q) p
 ·have e:i=xs.length:=by omega
  subst e
  exact .inl ⟨⟨xs,q,Nat.le_refl _⟩,by omega,hd ys H p⟩
theorem Mu {js:List Nat} {tt:TT} {te:TE} {σ σ0:St} {Qd:List V->Hp->Prop} {K:PySem.W.Frag} {a:Addr} {xs:List V} {H:Hp} {tl:TE} (ht:∀R:V->Hp->Prop,R (.ref a) H->tl σ0 H R) (ha:vf K H a xs) (Pv:Nat->List V->Prop) (hn:xs.length<=sizeLine) (h0:Pv 0 []) (hl:∀i ys,Pv i ys->ys.length<=i)
  (hs:∀i x ys,xs[i]?=some x->Pv i ys->tt (some x:: dI σ js) H fun b H4=>if b=true then te (some x:: dI σ js) H4 fun y H5=>H5=H/\Pv (i+1) (ys ++ [y]) else H4=H/\Pv (i+1) ys)
  (hd:∀ys,Pv xs.length ys->Qd ys H):Wr (QZ K tl) (U6 K tl) σ0 H (CompEnd js tt te σ Qd):=by
 rcases ha with ha | ha
 ·refine .inl (ht _ ⟨a,rfl,⟨xs,ha⟩,sG (K:=K) (a:=a) (xs:=xs) (fun i ys H'=>H'=H/\Pv i ys) hn ⟨rfl,h0⟩ (fun i ys _ z=>hl i ys z.2) (fun i ys H' _ z=>by rw [z.1];exact ha) (fun i x ys H' hx z=>?_) fun ys H' z=>?_⟩)
  ·obtain⟨rfl,z⟩:=z;exact hs i x ys hx z
  ·obtain⟨rfl,z⟩:=z;exact hd ys z
 ·refine .inr (ht _ ⟨a,rfl,⟨xs,ha⟩,GD (K:=K) (a:=a) (xs:=xs) (fun i ys H'=>H'=H/\Pv i ys) hn ⟨rfl,h0⟩ (fun i ys _ z=>hl i ys z.2) (fun i ys H' _ z=>by rw [z.1];exact ha) (fun i x ys H' hx z=>?_) fun ys H' z=>?_⟩)
  ·obtain⟨rfl,z⟩:=z;exact hs i x ys hx z
  ·obtain⟨rfl,z⟩:=z;exact hd ys z
theorem vf.len {K:PySem.W.Frag} {H:Hp} {a:Addr} {xs:List V} (h:vf K H a xs):Sy K (.ref a) H xs.length:=h.elim (fun h=>.inl ⟨xs,h,rfl⟩) fun h=>.inr ⟨xs,h,rfl⟩
theorem Mz {X:Cx} {K:PySem.W.Frag} (hK:X.K=K):KC X (RZ K):=by subst hK;exact aW
theorem JD {X:Cx} {K:PySem.W.Frag} (hK:X.K=K):KC X (RB K):=by subst hK;exact dD
section
variable {P:Program} {w:World} {K:PySem.W.Frag} {mg:Str->Option Value} {base:Heap} {N:List Str} {qual:Str} {scope:Scope} {f:Addr} {cd:Value} {A:Around} {outer:List Env} {s:Shared} {H:Hp} {E:XK}
end
section
variable {κ:Type} [DecidableEq κ]
noncomputable def bW (kvs:List (κ×V)) (k:κ):Option V:=(kvs.find? fun kv=>decide (kv.1=k)).map (·.2)
noncomputable def putK (kvs:List (κ×V)) (k:κ) (v:V):List (κ×V):=
 if (kvs.any fun kv=>decide (kv.1=k))=true then kvs.map (fun kv=>if kv.1=k then(kv.1,v) else kv) else kvs ++ [(k,v)]
theorem gf {p:κ×V} {r:List (κ×V)} {k:κ} (e:p.1=k):bW (p:: r) k=some p.2:=by simp [bW,List.find?_cons,e]
theorem fO {p:κ×V} {r:List (κ×V)} {k:κ} (e:¬p.1=k):bW (p:: r) k=bW r k:=by simp [bW,List.find?_cons,e]
theorem pO (k:κ):∀kvs:List (κ×V),(kvs.any fun kv=>decide (kv.1=k))=(bW kvs k).isSome
 | []=>rfl
 | p:: r=>by
  rw [List.any_cons]
  by_cases e:p.1=k
  ·simp only [gf e,decide_eq_true e,Bool.true_or,Option.isSome_some]
  ·rw [fO e,decide_eq_false e,Bool.false_or];exact pO k r
theorem GF (k j:κ) (y:V):∀kvs:List (κ×V),bW (kvs.map fun kv=>if kv.1=k then(kv.1,y) else kv) j=(bW kvs j).map fun x=>if j=k then y else x
 | []=>rfl
 | p:: r=>by
  have ih:=GF k j y r
  rw [List.map_cons]
  by_cases h:p.1=k
  ·rw [if_pos h]
   by_cases e:p.1=j
   ·rw [gf (p:=(p.1,y)) e,gf e,Option.map_some,if_pos (e.symm.trans h)]
   ·rw [fO (p:=(p.1,y)) e,fO e,ih]
  ·rw [if_neg h]
   by_cases e:p.1=j
   ·rw [gf (p:=p) e,gf e,Option.map_some,if_neg (fun z=>h (e.trans z))]
   ·rw [fO (p:=p) e,fO e,ih]
theorem BL (k j:κ) (y:V):∀kvs:List (κ×V),bW kvs k=none->bW (kvs ++ [(k,y)]) j=if j=k then some y else bW kvs j
 | [],_=>by
  by_cases e:k=j
  ·rw [if_pos e.symm];exact gf (p:=(k,y)) e
  ·rw [if_neg (fun z=>e z.symm)];exact fO (p:=(k,y)) e
 | p:: r,hn=>by
  rw [List.cons_append]
  have hk:¬p.1=k:=fun z=>by rw [gf z] at hn;cases hn
  rw [fO hk] at hn
  have ih:=BL k j y r hn
  by_cases e:p.1=j
  ·rw [gf e,gf e,if_neg (fun z=>hk (e.trans z))]
  ·rw [fO e,fO e,ih]
theorem MP (kvs:List (κ×V)) (k j:κ) (y:V):bW (putK kvs k y) j=if j=k then some y else bW kvs j:=by
 unfold putK
 by_cases a:(kvs.any fun kv=>decide (kv.1=k))=true
 ·rw [if_pos a,GF]
  rw [pO] at a
  by_cases e:j=k
  ·obtain⟨x,hx⟩:=Option.isSome_iff_exists.mp a
   rw [if_pos e,e,hx,Option.map_some,if_pos rfl]
  ·rw [if_neg e]
   cases bW kvs j with
   | none=>rfl
   | some x=>rw [Option.map_some,if_neg e]
 ·rw [if_neg a]
  refine BL k j y kvs ?_
  rw [pO] at a
  cases q:bW kvs k with
  | none=>rfl
  | some x=>rw [q] at a;exact(a rfl).elim
theorem j7 (kvs:List (κ×V)) (k:κ) (v:V):(putK kvs k v).length<=kvs.length+1:=by
 unfold putK
 split
 ·rw [List.length_map];omega
 ·rw [List.length_append,List.length_cons,List.length_nil];omega
theorem jt {kvs:List (κ×V)} {k:κ} (v:V) (h:bW kvs k=none):putK kvs k v=kvs ++ [(k,v)]:=by
 unfold putK
 rw [pO,h]
 exact if_neg (by decide)
theorem qH.isSome_eq {o:Option V} {u:Option Value} (r:qH o u):o.isSome=u.isSome:=by
 cases o with
 | none=>cases u with
  | none=>rfl
  | some _=>exact(show False from r).elim
 | some _=>cases u with
  | none=>exact(show False from r).elim
  | some _=>rfl
theorem qH.getD {o:Option V} {u:Option Value} {d:V} {d':Value} (r:qH o u) (rd:RelV d d'):RelV (o.getD d) (u.getD d'):=by
 cases o with
 | none=>cases u with
  | none=>exact rd
  | some _=>exact(show False from r).elim
 | some _=>cases u with
  | none=>exact(show False from r).elim
  | some _=>exact r
theorem KV.val {kvs:List (κ×V)} {vs:List (κ×Value)} (r:KV kvs vs) (k:κ):qH (bW kvs k) (valueAt vs k):=by
 unfold KV at r
 induction r with
 | nil=>exact True.intro
 | @cons p q ps qs h t ih=>
  obtain⟨h1,h2⟩:=h
  by_cases e:p.1=k
  ·have e':q.1=k:=h1.symm.trans e
   have b:valueAt (q:: qs) k=some q.2:=by simp [valueAt,List.find?_cons,e']
   rw [gf e,b];exact h2
  ·have e':¬q.1=k:=fun z=>e (h1.trans z)
   have b:valueAt (q:: qs) k=valueAt qs k:=by simp [valueAt,List.find?_cons,e']
   rw [fO e,b];exact ih
theorem KV.any {kvs:List (κ×V)} {vs:List (κ×Value)} (r:KV kvs vs) (k:κ):(kvs.any fun kv=>decide (kv.1=k))=vs.any fun kv=>decide (kv.1=k):=by
 unfold KV at r
 induction r with
 | nil=>rfl
 | cons h t ih=>rw [List.any_cons,List.any_cons,ih,h.1]
theorem KV.repl {kvs:List (κ×V)} {vs:List (κ×Value)} (r:KV kvs vs) (k:κ) {y:V} {u:Value} (ry:RelV y u):
  KV (kvs.map fun kv=>if kv.1=k then(kv.1,y) else kv) (vs.map fun kv=>if kv.1=k then(kv.1,u) else kv):=by
 unfold KV at r ⊢
 induction r with
 | nil=>exact .nil
 | @cons p q ps qs h t ih=>
  rw [List.map_cons,List.map_cons]
  refine .cons ?_ ih
  obtain⟨h1,h2⟩:=h
  by_cases e:p.1=k
  ·rw [if_pos e,if_pos (h1.symm.trans e)];exact⟨h1,ry⟩
  ·rw [if_neg e,if_neg (fun z=>e (h1.trans z))];exact⟨h1,h2⟩
theorem KV.put {kvs:List (κ×V)} {vs:List (κ×Value)} (r:KV kvs vs) (k:κ) {y:V} {u:Value} (ry:RelV y u):KV (putK kvs k y) (stored vs k u):=by
 unfold putK stored
 rw [r.any k]
 by_cases e:(vs.any fun kv=>decide (kv.1=k))=true
 ·rw [if_pos e,if_pos e];exact r.repl k ry
 ·rw [if_neg e,if_neg e];exact Paired.snoc r ⟨rfl,ry⟩
theorem KV.length {kvs:List (κ×V)} {vs:List (κ×Value)} (r:KV kvs vs):kvs.length=vs.length:=Paired.length r
end
theorem Ak {P:Program} {w:World} {k:Key} {u:Value} (r:RelV (kV k) u):(cG P w).is k u=true:=by
 cases k with
 | inl i=>obtain⟨t,e⟩:=(show ∃t,u=Value.int i t from r);subst e;exact Ff P w i t
 | inr x=>obtain⟨t,e⟩:=(show ∃t,u=Value.str x t from r);subst e;exact km P w x t
theorem Cg {P:Program} {w:World}:∀{ks:List Key} {us:List Value},Vals (ks.map kV) us->ItemsAre (cG P w) ks us
 | [],_,r=>by rw [List.map_nil] at r;cases r;exact .nil
 | k:: ks,_,r=>by
  rw [List.map_cons] at r
  cases r with
  | cons h t=>exact .cons (Ak h) (Cg t)
noncomputable abbrev KT (H:Hp):List (List Key×V)->List (List Key×Addr×Value)->Prop:=Paired fun p q=>p.1=q.1/\H q.2.1=some (.tup (p.1.map kV))/\RelV p.2 q.2.2
theorem KT.val {H:Hp} {kvs:List (List Key×V)} {xs:List (List Key×Addr×Value)} (r:KT H kvs xs) (k:List Key):qH (bW kvs k) ((atKey xs k).map (·.2)):=by
 induction r with
 | nil=>exact True.intro
 | @cons p q ps qs h t ih=>
  obtain⟨h1,_,h2⟩:=h
  by_cases e:p.1=k
  ·have e':q.1=k:=h1.symm.trans e
   have b:atKey (q:: qs) k=some q.2:=by simp [atKey,List.find?_cons,e']
   rw [gf e,b];exact h2
  ·have e':¬q.1=k:=fun z=>e (h1.trans z)
   have b:atKey (q:: qs) k=atKey qs k:=by simp [atKey,List.find?_cons,e']
   rw [fO e,b];exact ih
theorem KT.repl {H:Hp} {kvs:List (List Key×V)} {xs:List (List Key×Addr×Value)} (r:KT H kvs xs) (k:List Key) {y:V} {u:Value} (ry:RelV y u):
  KT H (kvs.map fun kv=>if kv.1=k then(kv.1,y) else kv) (xs.map (putAt k u)):=by
 induction r with
 | nil=>exact .nil
 | @cons p q ps qs h t ih=>
  rw [List.map_cons,List.map_cons]
  refine .cons ?_ ih
  obtain⟨h1,h2,h3⟩:=h
  unfold putAt
  by_cases e:p.1=k
  ·rw [if_pos e,if_pos (h1.symm.trans e)];exact⟨h1,h2,ry⟩
  ·rw [if_neg e,if_neg (fun z=>e (h1.trans z))];exact⟨h1,h2,h3⟩
theorem KT.put {H:Hp} {kvs:List (List Key×V)} {xs:List (List Key×Addr×Value)} (r:KT H kvs xs) (k:List Key) {b:Addr} {y:V} {u:Value} (hb:H b=some (.tup (k.map kV))) (ry:RelV y u):
  KT H (putK kvs k y) (storedH xs k b u):=by
 have e:(kvs.any fun kv=>decide (kv.1=k))=(atKey xs k).isSome:=by
  rw [pO,(r.val k).isSome_eq,Option.isSome_map]
 unfold putK storedH
 rw [e]
 by_cases q:(atKey xs k).isSome=true
 ·rw [if_pos q,if_pos q];exact r.repl k ry
 ·rw [if_neg q,if_neg q];exact Paired.snoc r ⟨rfl,hb,ry⟩
theorem KT.keeps {H H':Hp} {kvs:List (List Key×V)} {xs:List (List Key×Addr×Value)} (r:KT H kvs xs) (ht:∀b ys,H b=some (.tup ys)->H' b=some (.tup ys)):KT H' kvs xs:=
 Paired.mapP r fun _ _ z=>⟨z.1,ht _ _ z.2.1,z.2.2⟩
section
variable {P:Program} {w:World} {H:Hp} {h:Heap} {a:Addr}
theorem QT {u:HO} (ok:tG P w H h) (e:Rd H a u):fK P w H h a u:=e.ok ok
theorem pG {kvs:List (Key×V)} (ok:tG P w H h) (e:Rd H a (.dK kvs)):kvs.length<=sizeLine/\(a == sysModules)=false/\∃vs,KV kvs vs/\h.DictOf (cG P w) a vs:=
 show fK P w H h a (.dK kvs) from QT ok e
theorem QV {kvs:List (Key×V)} (ok:tG P w H h) (e:H a=some (.dK kvs)):kvs.length<=sizeLine/\(a == sysModules)=false/\∃vs,KV kvs vs/\h.DictOf (cG P w) a vs:=pG ok (.inl e)
theorem xj {ks:List Key} (ok:tG P w H h) (e:H a=some (.tup (ks.map kV))):(tupleKind (cG P w)).is h ks a:=by
 obtain⟨_,its,r,o,h1,h2,n,h3⟩:=(show fK P w H h a (.tup (ks.map kV)) from ok a _ e)
 exact⟨o,its.toArray,n,h1,h2,h3,by simpa using Cg r⟩
theorem z9 {kvs:List (List Key×V)} (ok:tG P w H h) (e:Rd H a (.dT kvs)):kvs.length<=sizeLine/\(a == sysModules)=false/\
  ∃xs,KT H kvs xs/\h.DictOfH (tupleKind (cG P w)) a xs:=by
 obtain⟨z,y,xs,r,o,es,ep,h1,h2,h3,h4,h5⟩:=(show fK P w H h a (.dT kvs) from QT ok e)
 refine⟨z,y,xs,r,o,es,ep,h1,h2,h3,h4,fun x hx=>?_,h5⟩
 have all:∀{l:List (List Key×V)} {m:List (List Key×Addr×Value)},KT H l m->∀x∈m,(tupleKind (cG P w)).is h x.1 x.2.1:=by
  intro l m q
  induction q with
  | nil=>intro x hx;exact nomatch hx
  | @cons p q ps qs hq t ih=>
   intro x hx
   rcases List.mem_cons.mp hx with e | hx
   ·subst e
    exact xj ok (by rw [<-hq.1];exact hq.2.1)
   ·exact ih x hx
 exact all r x hx
theorem TY {kvs:List (List Key×V)} (ok:tG P w H h) (e:H a=some (.dT kvs)):kvs.length<=sizeLine/\(a == sysModules)=false/\
  ∃xs,KT H kvs xs/\h.DictOfH (tupleKind (cG P w)) a xs:=z9 ok (.inl e)
end
noncomputable def dZ (H:Hp) (a:Addr) (y:V) (r:Option V):Prop:=
 (∃kvs k,Rd H a (.dK kvs)/\y=kV k/\r=bW kvs k)∨∃kvs k b,Rd H a (.dT kvs)/\y=.ref b/\H b=some (.tup (k.map kV))/\r=bW kvs k
noncomputable def pA (H:Hp) (a:Addr) (y v:V) (H':Hp):Prop:=
 (∃kvs k,H a=some (.dK kvs)/\y=kV k/\kvs.length <sizeLine/\H'=upd H a (.dK (putK kvs k v)))∨
 ∃kvs k b,H a=some (.dT kvs)/\y=.ref b/\H b=some (.tup (k.map kV))/\kvs.length <sizeLine/\H'=upd H a (.dT (putK kvs k v))
theorem dZ.k {H:Hp} {a:Addr} {kvs:List (Key×V)} {k:Key} (e:H a=some (.dK kvs)):dZ H a (kV k) (bW kvs k):=.inl ⟨kvs,k,.inl e,rfl,rfl⟩
theorem pA.k {H:Hp} {a:Addr} {kvs:List (Key×V)} {k:Key} {v:V} (e:H a=some (.dK kvs)) (hl:kvs.length <sizeLine):pA H a (kV k) v (upd H a (.dK (putK kvs k v))):=.inl ⟨kvs,k,e,rfl,hl,rfl⟩
section
variable {X:Cx} {pins:List (Addr×Obj)} {σ:St} {H:Hp} {s:Shared} {a:Addr} {y v:V} {u r:Value} {o:Option V} {A:Around} {E:Value->Shared->Prop}
theorem Inv.big (I:Inv X pins σ H s):sysModules <s.heap.objs.size:=by
 have h:mainGlobals <s.heap.objs.size:=(I.mod.glob.keeps I.bk).lt
 exact Nat.lt_trans (by decide) h
theorem Be {Q:Value->Shared->Prop} (hu:A.units+1 <cLine) (I:Inv X pins σ H s) (g:dZ H a y (some v)) (ry:RelV y u) (h:∀w' s',Inv X pins σ H s'->RelV v w'->Q w' s'):
  wpAny (model X.prog X.w) A (getItem (.ref a) u) Q E s:=by
 rcases g with ⟨kvs,k,e,ey,l⟩ | ⟨kvs,k,b,e,ey,eb,l⟩
 ·subst ey
  obtain⟨z,hd,vs,rel,dd⟩:=pG I.hok e
  obtain⟨w',hw,rw'⟩:=qH.some_of (v:=v) (o:=valueAt vs k) (by rw [l];exact rel.val k)
  exact wpAny_getItem_of (Ak ry) dd.mapOf hw (h w' _ (I.tok _) rw')
 ·subst ey
  cases (show u=Value.ref b from ry)
  obtain⟨z,hd,xs,rel,dd⟩:=z9 I.hok e
  obtain⟨w',hw,rw'⟩:=qH.some_of (v:=v) (o:=(atKey xs k).map (·.2)) (by rw [l];exact rel.val k)
  obtain⟨p,hp,hp2⟩:=Option.map_eq_some_iff.mp hw
  refine wpAny_getItem_heap (tupleKind_room_in1 hu) (xj I.hok eb) dd hp ?_
  rw [hp2]
  exact h w' _ (I.tok _) rw'
theorem VD {Q:Value->Shared->Prop} (hu:A.units+1 <cLine) (I:Inv X pins σ H s) (g:dZ H a y o) (ry:RelV y u) (h:∀s',Inv X pins σ H s'->Q (.bool o.isSome) s'):
  wpAny (model X.prog X.w) A (compareOp .In u (.ref a)) Q E s:=by
 rcases g with ⟨kvs,k,e,ey,l⟩ | ⟨kvs,k,b,e,ey,eb,l⟩
 ·subst ey
  obtain⟨z,hd,vs,rel,dd⟩:=pG I.hok e
  refine wpAny_in_of (Ak ry) hd dd.mapOf ?_
  rw [<-(rel.val k).isSome_eq,<-l]
  exact h _ (I.tok _)
 ·subst ey
  cases (show u=Value.ref b from ry)
  obtain⟨z,hd,xs,rel,dd⟩:=z9 I.hok e
  refine wpAny_in_heap (tupleKind_room_in1 hu) (xj I.hok eb) hd dd ?_
  have q:=(rel.val k).isSome_eq
  rw [Option.isSome_map] at q
  rw [<-q,<-l]
  exact h _ (I.tok _)
theorem Pq {Q:Value->Shared->Prop} (hu:A.units+1 <cLine) (I:Inv X pins σ H s) (g:dZ H a y o) (ry:RelV y u) (h:∀s',Inv X pins σ H s'->Q (.bool (!o.isSome)) s'):
  wpAny (model X.prog X.w) A (compareOp .NotIn u (.ref a)) Q E s:=by
 rcases g with ⟨kvs,k,e,ey,l⟩ | ⟨kvs,k,b,e,ey,eb,l⟩
 ·subst ey
  obtain⟨z,hd,vs,rel,dd⟩:=pG I.hok e
  refine wpAny_notIn_of (Ak ry) hd dd.mapOf ?_
  rw [<-(rel.val k).isSome_eq,<-l]
  exact h _ (I.tok _)
 ·subst ey
  cases (show u=Value.ref b from ry)
  obtain⟨z,hd,xs,rel,dd⟩:=z9 I.hok e
  refine wpAny_notIn_heap (tupleKind_room_in1 hu) (xj I.hok eb) hd dd ?_
  have q:=(rel.val k).isSome_eq
  rw [Option.isSome_map] at q
  rw [<-q,<-l]
  exact h _ (I.tok _)
theorem Ek {h':Heap} {t':Nat} {ob:HO} (I:Inv X pins σ H s) (mu:Tz (H a)) (hs:Heap.SameBut a s.heap h') (he:∃q,h'.get? a=some q) (new:fK X.prog X.w (upd H a ob) h' a ob):
  Inv X pins σ (upd H a ob) { s with heap:=h',toks:=t' }:=
 I.write (x:=a) (e:=a) mu (.inl rfl) (fun b q hb z=>(hs.2 b hb).trans z) he new
theorem Ls {P:Program} {w:World} {H':Hp} {h':Heap} {kvs:List (Key×V)} {vs:List (Key×Value)} (z:kvs.length<=sizeLine) (hd:(a == sysModules)=false) (rel:KV kvs vs) (dd:h'.DictOf (cG P w) a vs):
  fK P w H' h' a (.dK kvs):=⟨z,hd,vs,rel,dd⟩
theorem Bj {H':Hp} {Q:Unit->Shared->Prop} (hu:A.units+1 <cLine) (I:Inv X pins σ H s) (g:pA H a y v H') (ry:RelV y u) (rv:RelV v r) (h:∀s',Inv X pins σ H' s'->Q () s'):
  wpAny (model X.prog X.w) A (setItem (.ref a) u r) Q E s:=by
 rcases g with ⟨kvs,k,e,ey,l,eH⟩ | ⟨kvs,k,b,e,ey,eb,l,eH⟩
 ·subst ey eH
  obtain⟨z,hd,vs,rel,dd⟩:=QV I.hok e
  have hz:vs.length<=sizeLine:=by rw [<-rel.length];exact z
  have hl:(putK kvs k v).length<=sizeLine:=by have:=j7 kvs k v;omega
  refine wpAny_setItem_pairs (hsz:=hz) (Ak ry) dd fun h' dd' hs=>h _ ?_
  have he:∃q,h'.get? a=some q:=let ⟨q,_,_,hq,_⟩:=dd';⟨q,hq⟩
  exact Ek I (by rw [e];exact True.intro) hs he (Ls hl hd (rel.put k rv) dd')
 ·subst ey eH
  cases (show u=Value.ref b from ry)
  obtain⟨z,hd,xs,rel,dd⟩:=TY I.hok e
  have hz:xs.length<=sizeLine:=by rw [<-Paired.length rel];exact z
  have hl:(putK kvs k v).length<=sizeLine:=by have:=j7 kvs k v;omega
  refine wpAny_setItem_heap (hsz:=hz) (tupleKind_room_in1 hu) (xj I.hok eb) dd fun h' dd' hs=>h _ ?_
  obtain⟨q,es,ep,hq,h2,h3,h4,_,h5⟩:=dd'
  refine Ek I (by rw [e];exact True.intro) hs ⟨q,hq⟩ ⟨hl,hd,_,(rel.put k eb rv).keeps fun c ys ec=>?_,q,es,ep,hq,h2,h3,h4,h5⟩
  rw [aJ (ul ec e (fun z=>nomatch z))]
  exact ec
end
section
variable {X:Cx} {pins:List (Addr×Obj)} {σ:St} {H:Hp} {s:Shared} {a:Addr} {kvs:List (Key×V)} {k:Key} {u:Value} {A:Around} {E:Value->Shared->Prop}
end
noncomputable def TQ (i:Expr):Prop:=∀ov iv,subscripted i false ov iv=operate [ov,iv] (getItem ov iv)
theorem Qk {prog:Program} {w:World} {A:Around} {E:Value->Shared->Prop} {s:Shared} {env:Env} {value slice:Expr} {pos:Pos} {T id:String} {Q:Value->Shared->Prop}
  (hl:typeLookup (.type T) "__getitem__" =pure (some (.builtin id))) (hs:TQ slice)
  (h:wpAny (model prog w) A (eval value env) (fun o s₁=>wpAny (model prog w) A (eval slice env) (fun i s₂=>s₂.TypeIs o T/\wpAny (model prog w) A (getItem o i) Q E s₂) E s₁) E s):
  wpAny (model prog w) A (eval (.Subscript value slice pos) env) Q E s:=by
 refine Subscript_ (wpAny_mono h (fun o s₁ h₁=>wpAny_mono h₁ (fun i s₂ h₂=>?_) fun _ _ x=>x) fun _ _ x=>x)
 obtain⟨hT,h₂⟩:=h₂
 unfold subscriptTail
 refine wpAny_bind ?_
 rw [getitemInPython_of_ne hT.not_modules]
 refine wpAny_bind (wpAny_specialOf hT hl ?_)
 have fin:wpAny (model prog w) A (subscripted slice false o i) (fun r s₃=>wpAny (model prog w) A (letTemporaryGo value o r >>= fun _=>pure r) Q E s₃) E s₂:=by
  rw [hs o i]
  exact wpAny_operating (wpAny_mono h₂ (fun r s₃ h₃=>wpAny_bind (wpAny_letTemporaryGo (wpAny_pure h₃))) fun _ _ x=>x)
 first
  | exact wpAny_pure (wpAny_bind fin)
  | exact wpAny_bind (wpAny_pure (wpAny_bind fin))
  | exact wpAny_bind fin
theorem Gk {X:Cx} {pins:List (Addr×Obj)} {σ:St} {H:Hp} {s:Shared} {a:Addr} {y:V} {o:Option V} (I:Inv X pins σ H s) (g:dZ H a y o):s.TypeIs (.ref a) "dict" :=by
 rcases g with ⟨kvs,k,e,_,_⟩ | ⟨kvs,k,b,e,_,_,_⟩
 ·obtain⟨_,_,vs,_,dd⟩:=pG I.hok e
  exact dd.typeIs
 ·obtain⟨_,_,xs,_,dd⟩:=z9 I.hok e
  exact dd.typeIs
inductive K5 (Q:VK) (x:V) (y:V) (H2:Hp):Prop where
 | mk:∀a v,x=.ref a->dZ H2 a y (some v)->Q v H2->K5 Q x y H2
noncomputable def Q3 (td ty:TE):TE:=fun σ H Q=>td σ H fun x H1=>ty σ H1 fun y H2=>K5 Q x y H2
inductive QJ (Q:VK) (y:V) (x:V) (H2:Hp):Prop where
 | mk:∀a o,x=.ref a->dZ H2 a y o->Q (.bl o.isSome) H2->QJ Q y x H2
noncomputable def VB (ty td:TE):TE:=fun σ H Q=>ty σ H fun y H1=>td σ H1 fun x H2=>QJ Q y x H2
inductive Fl (Q:VK) (y:V) (x:V) (H2:Hp):Prop where
 | mk:∀a o,x=.ref a->dZ H2 a y o->Q (.bl (!o.isSome)) H2->Fl Q y x H2
noncomputable def OJ (ty td:TE):TE:=fun σ H Q=>ty σ H fun y H1=>td σ H1 fun x H2=>Fl Q y x H2
inductive Nf (D:Ends) (σ:St) (v:V) (x:V) (y:V) (H3:Hp):Prop where
 | mk:∀a H4,x=.ref a->pA H3 a y v H4->D.nx σ H4->Nf D σ v x y H3
noncomputable def Uh (td ty tv:TE):TS:=fun D σ H=>tv σ H fun v H1=>td σ H1 fun x H2=>ty σ H2 fun y H3=>Nf D σ v x y H3
inductive Mj (tv:TE) (rd:V->V->Hp->VK->Prop) (D:Ends) (σ:St) (x:V) (y:V) (H2:Hp):Prop where
 | mk:∀a v,x=.ref a->dZ H2 a y (some v)->(tv σ H2 fun y2 H3=>rd v y2 H3 fun z H4=>∃H5,pA H4 a y z H5/\D.nx σ H5)->Mj tv rd D σ x y H2
noncomputable def UV (td ty tv:TE) (rd:V->V->Hp->VK->Prop):TS:=fun D σ H=>td σ H fun x H1=>ty σ H1 fun y H2=>Mj tv rd D σ x y H2
section
variable {X:Cx} {o i e value:Expr} {pos pos' tpos:Pos} {td ty tv:TE}
theorem cW (hu:X.A.units+1 <cLine) (ho:PE X o td) (hi:PE X i ty) (hs:TQ i):PE X (.Subscript o i pos) (Q3 td ty):=by
 intro pins s σ H Q I h
 refine Qk PySem.F.slot_dict_getitem.lookup hs (dJ (ho pins s σ H _ I h) fun u s1 ⟨x,H1,I1,rx,q1⟩=>dJ (hi pins s1 σ H1 _ I1 q1) fun iv s2 hpt=>?_)
 obtain⟨y,H2,I2,ry,a,v,ex,g,q2⟩:=hpt
 subst ex
 obtain rfl:u=Value.ref a:=rx
 exact⟨Gk I2 g,Be hu I2 g ry fun w' s3 I3 rw'=>⟨v,H2,I3,rw',q2⟩⟩
theorem wA (hu:X.A.units+1 <cLine) (hi:PE X i ty) (ho:PE X o td):PC X .In i o (VB ty td):=by
 intro pins s σ H Q I h
 refine dJ (hi pins s σ H _ I h) fun iv s1 ⟨y,H1,I1,ry,q1⟩=>dJ (ho pins s1 σ H1 _ I1 q1) fun u s2 hpt=>?_
 obtain⟨x,H2,I2,rx,a,ov,ex,g,q2⟩:=hpt
 subst ex
 obtain rfl:u=Value.ref a:=rx
 exact VD hu I2 g ry fun s3 I3=>⟨.bl ov.isSome,H2,I3,rfl,q2⟩
theorem sV (hu:X.A.units+1 <cLine) (hi:PE X i ty) (ho:PE X o td):PC X .NotIn i o (OJ ty td):=by
 intro pins s σ H Q I h
 refine dJ (hi pins s σ H _ I h) fun iv s1 ⟨y,H1,I1,ry,q1⟩=>dJ (ho pins s1 σ H1 _ I1 q1) fun u s2 hpt=>?_
 obtain⟨x,H2,I2,rx,a,ov,ex,g,q2⟩:=hpt
 subst ex
 obtain rfl:u=Value.ref a:=rx
 exact Pq hu I2 g ry fun s3 I3=>⟨.bl (!ov.isSome),H2,I3,rfl,q2⟩
theorem gw (hu:X.A.units+1 <cLine) (ho:PE X o td) (hi:PE X i ty) (hv:PE X value tv) (hs:swapsWith value (some (.Subscript o i pos')) pos.line X.env=pure false):
  PS X (.Assign [.Subscript o i pos'] value pos) (Uh td ty tv):=by
 intro pins s σ H D I h
 refine wpAny_Assign_Subscript (dJ (hv pins s σ H _ I h) fun r s1 ⟨v,H1,I1,rv,q1⟩=>dJ (ho pins s1 σ H1 _ I1 q1) fun u s2 ⟨x,H2,I2,rx,q2⟩=>dJ (hi pins s2 σ H2 _ I2 q2) fun iv s3 hpt=>?_) hs
 obtain⟨y,H3,I3,ry,a,H4,ex,g,q3⟩:=hpt
 subst ex
 obtain rfl:u=Value.ref a:=rx
 exact Bj hu I3 g ry rv fun s4 I4=>⟨σ,H4,I4,q3⟩
theorem Jg {op:Operator} {rd:V->V->Hp->VK->Prop} (hu:X.A.units+1 <cLine) (ho:PE X o td) (hi:PE X i ty) (hv:PE X value tv) (hop:Wf X op rd)
  (ha:∀ov iv new,augStore i ov iv new=(do holding [new,ov,iv] (setItem ov iv new);release [new,ov,iv] [];pure .next)):PS X (.AugAssign (.Subscript o i tpos) op value pos) (UV td ty tv rd):=by
 intro pins s σ H D I h
 refine wpAny_AugAssign_SubscriptAny (dJ (ho pins s σ H _ I h) fun u s1 ⟨x,H1,I1,rx,q1⟩=>dJ (hi pins s1 σ H1 _ I1 q1) fun iv s2 hpt=>?_) ha
 obtain⟨y,H2,I2,ry,a,v,ex,g,q2⟩:=hpt
 subst ex
 obtain rfl:u=Value.ref a:=rx
 refine Be hu I2 g ry fun w' s3 I3 rw'=>dJ (hv pins s3 σ H2 _ I3 q2) fun w2 s4 ⟨y2,H3,I4,ry2,q3⟩=>dJ (hop pins s4 σ H3 v y2 w' w2 _ I4 rw' ry2 q3) fun w3 s5 hpt=>?_
 obtain⟨z,H4,I5,rz,H5,g5,q4⟩:=hpt
 exact Bj hu I5 g5 ry rz fun s6 I6=>⟨σ,H5,I6,q4⟩
end
theorem Ez {P:Program} {w:World} {H:Hp} (h:Heap) (hb:sysModules <h.objs.size):fK P w H (h.push { cls:=.type "dict",data:=.dict #[] }) h.objs.size (.dK []):=
 ⟨Nat.zero_le _,beq_eq_false_iff_ne.mpr (Ne.symm (Nat.ne_of_lt hb)),[],.nil,Heap.DictOf.new h⟩
noncomputable def Rx:TE:=fun _ H Q=>∀p,H p=none->Q (.ref p) (upd H p (.dK []))
section
variable {X:Cx} {pos:Pos}
theorem eE:PE X (.Dict [] [] pos) Rx:=fun pins s σ H Q I h=>
 wpAny_Dict_empty ⟨.ref s.heap.objs.size,_,I.laid (a:=s.heap.objs.size) (o:=.dK []) (t':=s.toks) (fun _ _ q=>Heap.get?_push_of_some _ q) (Nat.le_refl _) (Ez s.heap I.big),rfl,h _ (I.hok.fresh (Nat.le_refl _))⟩
end
noncomputable def Hc:List (TE×TE)->St->Hp->(List (V×V)->Hp->Prop)->Prop
 | [],_,H,Q=>Q [] H
 | (tk,tv):: r,σ,H,Q=>tk σ H fun x H1=>tv σ H1 fun y H2=>Hc r σ H2 fun ps H3=>Q ((x,y):: ps) H3
noncomputable abbrev VV:List (V×V)->List (Value×Value)->Prop:=Paired fun p q=>RelV p.1 q.1/\RelV p.2 q.2
noncomputable def Vp (X:Cx) (pos:Pos) (keys:List (Option Expr)) (values:List Expr) (trs:List (TE×TE)):Prop:=
 ∀(pins:List (Addr×Obj)) (s:Shared) (σ:St) (H:Hp) (Q:List (V×V)->Hp->Prop),Inv X pins σ H s->Hc trs σ H Q->
  wpAny (model X.prog X.w) X.A (evalPairs (pairTrees keys values X.env pos)) (fun vs s'=>∃ps H',Inv X pins σ H' s'/\VV ps vs/\Q ps H') X.xe s
theorem Qe {X:Cx} {pos:Pos}:Vp X pos [] [] []:=fun pins s σ H Q I h=>pairTrees_nil_walk ⟨[],H,I,.nil,h⟩
theorem KN {X:Cx} {pos:Pos} {k v:Expr} {ks:List (Option Expr)} {vs:List Expr} {tk tv:TE} {trs:List (TE×TE)} (hk:PE X k tk) (hv:PE X v tv) (hr:Vp X pos ks vs trs):
  Vp X pos (some k:: ks) (v:: vs) ((tk,tv):: trs):=fun pins s σ H Q I h=>
 pairTrees_cons_walk (dJ (hk pins s σ H _ I h) fun u s1 ⟨x,H1,I1,rx,q1⟩=>dJ (hv pins s1 σ H1 _ I1 q1) fun w2 s2 ⟨y,H2,I2,ry,q2⟩=>
  dJ (hr pins s2 σ H2 _ I2 q2) fun ws s3 ⟨ps,H3,I3,rel,q3⟩=>⟨(x,y):: ps,H3,I3,.cons ⟨rx,ry⟩ rel,q3⟩)
noncomputable def qN (kvs more:List (Key×V)):List (Key×V):=more.foldl (fun acc kv=>putK acc kv.1 kv.2) kvs
theorem KV.merge:∀{more:List (Key×V)} {rs:List (Key×Value)} {kvs:List (Key×V)} {vs:List (Key×Value)},KV more rs->KV kvs vs->KV (qN kvs more) (merged vs rs):=by
 intro more rs kvs vs r
 unfold KV at r
 induction r generalizing kvs vs with
 | nil=>intro q;exact q
 | @cons p q ps qs h t ih=>
  intro r0
  have e:KV (putK kvs p.1 p.2) (stored vs q.1 q.2):=by
   have:=r0.put p.1 h.2
   rw [<-h.1];exact this
  exact ih e
theorem uo:∀(more kvs:List (Key×V)),(qN kvs more).length<=kvs.length+more.length
 | [],kvs=>by show kvs.length<=kvs.length+0;omega
 | p:: r,kvs=>by
  have h1:=uo r (putK kvs p.1 p.2)
  have h2:=j7 kvs p.1 p.2
  show(qN (putK kvs p.1 p.2) r).length<=_
  rw [List.length_cons];omega
theorem zR {P:Program} {w:World}:∀{kvs:List (Key×V)} {ws:List (Value×Value)},VV (kvs.map fun kv=>(kV kv.1,kv.2)) ws->∃rs,Carries (cG P w) ws rs/\KV kvs rs
 | [],_,r=>by rw [List.map_nil] at r;cases r;exact⟨[],True.intro,.nil⟩
 | p:: kvs,_,r=>by
  rw [List.map_cons] at r
  cases r with
  | @cons a b as bs h t=>
   obtain⟨rs,c,q⟩:=zR (P:=P) (w:=w) t
   obtain⟨b1,b2⟩:=b
   exact⟨(p.1,b2):: rs,⟨Ak h.1,rfl,c⟩,.cons ⟨rfl,h.2⟩ q⟩
noncomputable def Vc (trs:List (TE×TE)):TE:=fun σ H Q=>∀p,H p=none->Hc trs σ (upd H p (.dK [])) fun ps H2=>H2 p=some (.dK [])/\∃kvs:List (Key×V),ps=kvs.map (fun kv=>(kV kv.1,kv.2))/\kvs.length<=15/\Q (.ref p) (upd H2 p (.dK (qN [] kvs)))
theorem PK {X:Cx} {pos:Pos} {keys:List (Option Expr)} {values:List Expr} {trs:List (TE×TE)} (h:Vp X pos keys values trs) (hall:keys.all (·.isSome)=true) (hl:keys.length=values.length) (h0:keys≠[])
  (h15:keys.length<=15):PE X (.Dict keys values pos) (Vc trs):=by
 intro pins s σ H Q I q
 have hn:=I.hok.fresh (Nat.le_refl s.heap.objs.size)
 have I1:=I.laid (a:=s.heap.objs.size) (o:=.dK []) (h':=s.heap.push { cls:=.type "dict",data:=.dict #[] }) (t':=s.toks) (fun _ _ q=>Heap.get?_push_of_some _ q) (Nat.le_refl _) (Ez s.heap I.big)
 refine wpAny_Dict_walk (knd:=cG X.prog X.w) hall hl h0 h15 (dJ (h pins _ σ _ _ I1 (q _ hn)) fun ws s2 hpt=>?_)
 obtain⟨ps,H2,I2,rel,e,kvs,ep,lk,q2⟩:=hpt
 subst ep
 obtain⟨rs,c,rk⟩:=zR (P:=X.prog) (w:=X.w) rel
 obtain⟨z,hd,vs0,r0,dd⟩:=QV I2.hok e
 cases r0
 refine⟨rs,c,dd,fun h' dd' hs=>⟨.ref s.heap.objs.size,_,?_,rfl,q2⟩⟩
 have hz:(qN [] kvs).length<=sizeLine:=by
  have h1:=uo kvs []
  rw [List.length_nil] at h1
  rw [sizeLine_eq];omega
 have he:∃q,h'.get? s.heap.objs.size=some q:=let ⟨q,_,_,hq,_⟩:=dd';⟨q,hq⟩
 exact Ek I2 (by rw [e];exact True.intro) hs he (Ls hz hd (rk.merge .nil) dd')
structure M2 (X:Cx) (o:Expr) (m:Str) (apos:Pos) (e f:Expr) (cpos:Pos):Prop where
 base:attributeBase o m X.env (eval o X.env)=eval o X.env
 few:((backTo cpos (starEach [e,f] X.env)).all (fun x=>!x.1) && (backToKw cpos (keywordEach [] X.env)).all (fun x=>x.1.isSome)
  && decide (([e,f]:List Expr).length+([]:List Keyword).length+(if ([]:List Keyword).isEmpty then 0 else 1) <30))=true
 line:(apos.endLine == cpos.line)=true
 trees:backTo cpos (starEach [e,f] X.env)=[(false,eval e X.env),(false,eval f X.env)]
noncomputable def Wx (H:Hp) (a:Addr):Prop:=(∃kvs,Rd H a (.dK kvs))∨∃kvs,Rd H a (.dT kvs)
theorem R4 {X:Cx} {pins:List (Addr×Obj)} {σ:St} {H:Hp} {s:Shared} {a:Addr} (I:Inv X pins σ H s) (d:Wx H a):
  s.TypeIs (.ref a) "dict" /\(∀b,Value.ref a=.ref b->∃ob,s.heap.get? b=some ob/\ob.dict=none)/\(a == sysModules)=false:=by
 rcases d with ⟨kvs,e⟩ | ⟨kvs,e⟩
 ·obtain⟨_,hd,vs,_,dd⟩:=pG I.hok e
  refine⟨dd.typeIs,fun b q=>?_,hd⟩
  cases q
  obtain⟨ob,_,_,h1,h2,_⟩:=dd
  exact⟨ob,h1,h2.2.1⟩
 ·obtain⟨_,hd,xs,_,dd⟩:=z9 I.hok e
  refine⟨dd.typeIs,fun b q=>?_,hd⟩
  cases q
  obtain⟨ob,_,_,h1,h2,_⟩:=dd
  exact⟨ob,h1,h2.2.1⟩
section
variable {X:Cx} {pins:List (Addr×Obj)} {σ:St} {H:Hp} {s:Shared} {a:Addr} {y d:V} {u r:Value} {o:Option V} {A:Around} {E:Value->Shared->Prop}
theorem Ru {Q:Value->Shared->Prop} (hu:A.units+1 <cLine) (I:Inv X pins σ H s) (g:dZ H a y o) (ry:RelV y u) (rd:RelV d r) (h:∀w' s',Inv X pins σ H s'->RelV (o.getD d) w'->Q w' s'):
  wpAny (model X.prog X.w) A (call (.builtin "dict.get") [.ref a,u,r]) Q E s:=by
 rcases g with ⟨kvs,k,e,ey,l⟩ | ⟨kvs,k,b,e,ey,eb,l⟩
 ·subst ey
  obtain⟨z,hd,vs,rel,dd⟩:=pG I.hok e
  refine call_meetsIn PySem.F.slot_dict_get dd.typeIs PySem.F.entry_dict_get (PySem.F.args_dict_get_3 _ _ _) (meets_dict_get_default (cG X.prog X.w) a (Ak ry) hd r) ⟨_,dd.mapOf,h _ _ (I.tok _) ?_⟩
  rw [l]
  exact(rel.val k).getD rd
 ·subst ey
  cases (show u=Value.ref b from ry)
  obtain⟨z,hd,xs,rel,dd⟩:=z9 I.hok e
  refine call_meetsIn PySem.F.slot_dict_get dd.typeIs PySem.F.entry_dict_get (PySem.F.args_dict_get_3 _ _ _) (meetsH_dict_get_default (tupleKind (cG X.prog X.w)) a b hd r) ⟨tupleKind_room_in1 hu,k,xs,xj I.hok eb,dd,h _ _ (I.tok _) ?_⟩
  rw [l]
  exact(rel.val k).getD rd
end
inductive JC (ty:TE) (tx:TE) (σ:St) (Q:VK) (x:V) (H1:Hp):Prop where
 | mk:∀a,x=.ref a->Wx H1 a->(ty σ H1 fun y H2=>tx σ H2 fun z H3=>∃o,dZ H3 a y o/\Q (o.getD z) H3)->JC ty tx σ Q x H1
noncomputable def Sw (td ty tx:TE):TE:=fun σ H Q=>td σ H fun x H1=>JC ty tx σ Q x H1
section
variable {X:Cx} {o e f:Expr} {apos cpos:Pos} {td ty tx:TE}
theorem LR (hu:X.A.units+1 <cLine) (ho:PE X o td) (he:PE X e ty) (hf:PE X f tx) (m:M2 X o "get" apos e f cpos):PE X (.Call (.Attribute o "get" apos) [e,f] [] cpos) (Sw td ty tx):=by
 intro pins s σ H Q I h
 refine wpAny_Call_method m.base m.few m.line PySem.F.plainAttrs_dict PySem.F.slot_dict_get PySem.F.type_dict_get (dJ (ho pins s σ H _ I h) fun u s1 hpt=>?_)
 obtain⟨x,H1,I1,rx,a,ex,d,q1⟩:=hpt
 subst ex
 obtain rfl:u=Value.ref a:=rx
 obtain⟨t1,t2,_⟩:=R4 I1 d
 refine⟨t1,t2,?_⟩
 rw [m.trees]
 refine Calls.callWith_builtin rfl (Calls.evalArgs_plain (Calls.spliced_cons (dJ (he pins s1 σ H1 _ I1 q1) fun iv s2 ⟨y,H2,I2,ry,q2⟩=>
  Calls.spliced_cons (dJ (hf pins s2 σ H2 _ I2 q2) fun fv s3 ⟨z,H3,I3,rz,ov,g,q3⟩=>Calls.spliced_nil ?_))))
 exact Ru hu I3 g ry rz fun w' s4 I4 rw'=>⟨_,H3,I4,rw',q3⟩
end
section
variable {X:Cx} {pins:List (Addr×Obj)} {σ:St} {H:Hp} {s:Shared} {a:Addr} {kvs:List (Key×V)} {A:Around} {E:Value->Shared->Prop}
end
section
variable {X:Cx} {pins:List (Addr×Obj)} {σ:St} {H:Hp} {s:Shared} {a:Addr} {y:V} {u:Value} {A:Around} {E:Value->Shared->Prop}
end
section
variable {X:Cx} {pins:List (Addr×Obj)} {σ:St} {H:Hp} {s:Shared} {d:Addr} {kvs:List (Key×V)}
theorem Inv.chill (I:Inv X pins σ H s) (e:H d=some (.dK kvs)):∃o,s.heap.get? d=some o/\Inv X pins σ (upd H d (.frz o (.dK kvs))) s:=by
 obtain⟨z,hd,vs,rel,o,es,ep,ho,r⟩:=(show fK X.prog X.w H s.heap d (.dK kvs) from I.hok d _ e)
 refine⟨o,ho,?_⟩
 have:=I.write (x:=d) (e:=d) (o:=.frz o (.dK kvs)) (h':=s.heap) (t':=s.toks) (by rw [e];exact True.intro) (.inl rfl) (fun b u _ q=>q) ⟨o,ho⟩ ⟨ho,z,hd,vs,rel,o,es,ep,ho,r⟩
 exact this
theorem Inv.melt {o:Obj} (I:Inv X pins σ H s) (e:H d=some (.frz o (.dK kvs))) (h0:∀o u,X.H₀ d≠some (.frz o u)):Inv X pins σ (upd H d (.dK kvs)) s:=by
 have ne:∀b u,H b=some u->(∀o v,u≠.frz o v)->b≠d:=fun b u q n z=>by
  rw [z,e] at q
  exact n _ _ (Option.some.inj q).symm
 have no:∀b,H b=none->b≠d:=fun b q z=>by rw [z,e] at q;cases q
 refine⟨I.ok,I.os,I.bare,⟨I.base.keep,I.base.slot,fun b u q n hx=>?_,I.base.there,fun b xs q=>?_,fun b u v q=>?_,fun b ps q=>?_⟩,I.loc,I.cell,?_,fun y c q=>?_,fun p h=>?_,fun b u q=>?_,I.len⟩
 ·have z:=I.base.free b u q n hx
  rw [aJ (no b z)];exact z
 ·have z:=I.base.tups b xs q
  rw [aJ (ne b _ z (by intro _ _ w;cases w))];exact z
 ·have z:=I.base.frzs b u v q
  rw [aJ (fun w=>by rw [w] at q;exact h0 _ _ q)];exact z
 ·obtain⟨m,z⟩:=I.base.tbls b ps q
  exact⟨m,by rw [aJ (ne b _ z (by intro _ _ w;cases w))];exact z⟩
 ·rw [aJ (no _ I.free)];exact I.free
 ·rw [aJ (no _ (I.freeC y c q))];exact I.freeC y c q
 ·obtain⟨z1,z2,r⟩:=I.pin p h
  exact⟨z1,by rw [aJ (no _ z2)];exact z2,r⟩
 ·by_cases w:b=d
  ·subst w
   rw [aA] at q
   cases q
   exact(I.hok b _ e).2
  ·rw [aJ w] at q
   exact(I.hok b u q).stay (fun _ _ _ z=>z) (fun c z=>by rw [aJ (ne c _ z (by intro _ _ w;cases w))];exact z) fun c xs z=>by rw [aJ (ne c _ z (by intro _ _ w;cases w))];exact z
end
inductive Pr (H0 H H':Hp):Prop where
 | mk:∀d o kvs,H d=some (.frz o (.dK kvs))->((∀o u,H0 d≠some (.frz o u)))->H'=upd H d (.dK kvs)->Pr H0 H H'
section
variable {X:Cx} {H0:Hp} {st:Stmt} {sts:List Stmt} {e:Expr} {t:TS} {te:TE}
theorem Qf (hH:X.H₀=H0) (h:PS X st t):PS X st (fun D σ H=>∃H',Pr H0 H H'/\t D σ H'):=by
 subst hH
 intro pins s σ H D I hh
 obtain⟨H',⟨d,o,kvs,e,n,rfl⟩,q⟩:=hh
 exact h pins s σ _ D (I.melt e n) q
theorem pH (hH:X.H₀=H0) (h:PS X st t):PS X st (fun D σ H=>t { D with nx:=fun σ' H'=>∃H'',Pr H0 H' H''/\D.nx σ' H'' } σ H):=by
 subst hH
 intro pins s σ H D I hh
 refine dJ (h pins s σ H _ I hh) fun f s1 q=>?_
 cases f with
 | next=>obtain⟨σ',H',I',H'',⟨d,o,kvs,e,n,rfl⟩,q⟩:=q;exact⟨σ',_,I'.melt e n,q⟩
 | ret v=>exact q
 | brk=>exact q
 | cont=>exact q
theorem Py (hH:X.H₀=H0) (h:PE X e te):PE X e (fun σ H Q=>te σ H fun v H1=>∃H2,Pr H0 H1 H2/\Q v H2):=by
 subst hH
 intro pins s σ H Q I hh
 refine dJ (h pins s σ H _ I hh) fun u s1 q=>?_
 obtain⟨v,H1,I1,r,H2,⟨d,o,kvs,e,n,rfl⟩,q⟩:=q
 exact⟨v,_,I1.melt e n,r,q⟩
end
noncomputable def S5 (d:Addr) (o:Obj) (kvs:List (Key×V)):It:=
 ⟨fun i H=>H d=some (.frz o (.dK kvs))/\i <kvs.length,fun i H x H'=>H'=H/\∃k v,kvs[i]?=some (k,v)/\x=kV k,fun i H=>H d=some (.frz o (.dK kvs))/\kvs.length<=i⟩
theorem Lj {P:Program} {w:World} {k:Key} {u:Value} (h:(cG P w).is k u=true):RelV (kV k) u:=by
 rcases d7 (k:=k) (v:=u) h with ⟨i,t,rfl,rfl⟩ | ⟨x,t,rfl,rfl⟩
 ·exact⟨t,rfl⟩
 ·exact⟨t,rfl⟩
theorem Ib:∀{kvs:List (Key×V)} {vs:List (Key×Value)} {i:Nat} {k:Key} {v:V},KV kvs vs->kvs[i]?=some (k,v)->∃v',vs[i]?=some (k,v')
 | _,_,0,k,v,.cons h _,e=>by
  cases (Option.some.inj e)
  exact⟨_,by rw [List.getElem?_cons_zero,show k=_ from h.1]⟩
 | _,_,i+1,k,v,.cons _ t,e=>by
  obtain⟨v',z⟩:=Ib (i:=i) (k:=k) (v:=v) t (by simpa using e)
  exact⟨v',by simpa using z⟩
theorem Kg {P:Program} {w:World} {K:PySem.W.Frag} {tg:Expr} {d it:Addr} {o:Obj} {kvs:List (Key×V)} {vs:List (Key×Value)} {ep:Nat} (rel:KV kvs vs) (hD:∀h:Heap,h.get? d=some o->h.DictAt (cG P w) d vs ep):
  Turn P w K tg (S5 d o kvs) [it] it (fun i h=>h.IsKeyIter it d i vs.length ep) where
 mem:=by simp
 obj:=fun i h st b hb=>by
  have e:b=it:=by simpa using hb
  subst e
  obtain⟨o,e,c,d⟩:=st
  exact⟨o,e,fun v z=>by rw [d] at z;cases z⟩
 keep:=fun i h h' st k=>st.at fun o e=>k it (by simp) o e
 item:=by
  intro X hP hw hK hc i pins s σ H E I hf st hg
  subst hP hw hK
  obtain⟨hq,hi⟩:=hg
  obtain⟨f0,f1,f2,f3,f4,f5⟩:=hf it (by simp)
  have ho:s.heap.get? d=some o:=(I.hok d _ hq).1
  have hl:kvs.length=vs.length:=Paired.length rel
  obtain⟨k,v,ek⟩:∃k v,kvs[i]?=some (k,v):=⟨_,_,List.getElem?_eq_getElem hi⟩
  obtain⟨v',ev⟩:=Ib rel ek
  refine wpAny_pyNext_dict_item st (hD _ ho) ev fun key h' hk st' sb=>?_
  have I1:Inv X pins σ H { s with heap:=h' }:=I.turned (t':=s.toks) (fun b o hb e=>(sb.2 b hb).trans e) f0 f1 f3 f4 f5
  obtain⟨o',e,c,dd⟩:=id st'
  exact⟨key,rfl,FW (s:={ s with heap:=h' }) e c dd (by decide) ⟨kV k,H,I1,Lj hk,⟨rfl,k,v,ek,rfl⟩,st',fun b hb=>(hf b hb).1⟩⟩
 done:=by
  intro X hP hw hK hc i pins s σ H E I hf st hg
  subst hP hw hK
  obtain⟨hq,hi⟩:=hg
  obtain⟨f0,f1,f2,f3,f4,f5⟩:=hf it (by simp)
  have ho:s.heap.get? d=some o:=(I.hok d _ hq).1
  have hl:kvs.length=vs.length:=Paired.length rel
  exact wpAny_pyNext_dict_end (I.ok.hd hc) st (hD _ ho) (List.getElem?_eq_none (by omega)) fun h' eb=>⟨rfl,I.turned (t':=s.toks) (fun b o hb e=>eb b o hb e) f0 f1 f3 f4 f5⟩
 self:=fun _ _ _ _ _ st h=>wpAny_pyIter_keyiter st h
inductive M3 (R:It->Hp->Prop) (x:V) (H1:Hp):Prop where
 | mk:∀d kvs,x=.ref d->H1 d=some (.dK kvs)->(∀o,R (S5 d o kvs) (upd H1 d (.frz o (.dK kvs))))->M3 R x H1
noncomputable def Ur (td:TE):TI:=fun σ H R=>td σ H fun x H1=>M3 R x H1
theorem pZ {X:Cx} {tg l:Expr} {td:TE} (hl:PE X l td):PI X tg l (Ur td):=by
 intro pins s σ H R I h
 refine dJ (hl pins s σ H _ I h) fun v s1 hpt=>?_
 obtain⟨x,H1,I1,r1,q1⟩:=hpt
 obtain⟨d,kvs,e,ed,q⟩:=q1
 subst e
 cases r1
 obtain⟨_,hd,vs,rel,o0,es,ep,ho0,r⟩:=(show fK X.prog X.w H1 s1.heap d (.dK kvs) from I1.hok d _ ed)
 obtain⟨o,ho,I2⟩:=I1.chill ed
 obtain rfl:o0=o:=Option.some.inj (ho0.symm.trans ho)
 have hD:∀h:Heap,h.get? d=some o0->h.DictAt (cG X.prog X.w) d vs ep:=fun h z=>⟨o0,es,z,r⟩
 refine wpAny_pyIter_dict hd (hD _ ho) ?_
 refine⟨s1.heap.objs.size,[s1.heap.objs.size],_,_,_,rfl,I2.kept (t':=s1.toks) fun b o e=>Heap.get?_push_of_some _ e,Kg rel hD,⟨_,Heap.get?_push_size _ rfl,rfl,rfl⟩,fun b hb=>?_,q o0⟩
 have e:b=s1.heap.objs.size:=by simpa using hb
 subst e
 exact I2.fpOk (Nat.le_refl _) (I2.hok.fresh (Nat.le_refl _))
theorem pF {d:Addr} {o:Obj} {kvs:List (Key×V)} {g:TG} {tb:TS} {D:Ends} {σ:St} {H:Hp} (Pv:Nat->St->Hp->Prop) (h0:Pv 0 σ H) (hl:∀i σ H,i<=kvs.length->Pv i σ H->H d=some (.frz o (.dK kvs)))
  (hs:∀i k v σ H,kvs[i]?=some (k,v)->Pv i σ H->g (kV k) σ H fun σ2 H2=>tb { D with nx:=Pv (i+1),ct:=Pv (i+1),bk:=D.nx } σ2 H2) (hd:∀σ H,Pv kvs.length σ H->D.nx σ H):
  ∃W:Nat->Nat->St->Hp->Prop,(∃m,W 0 m σ H)/\∀i m σ H,W i m σ H->
   ((S5 d o kvs).stop i H/\D.nx σ H)∨((S5 d o kvs).go i H/\∃N:St->Hp->Prop,(∀σ' H',N σ' H'->∃m',m' <m/\W (i+1) m' σ' H')/\∀x H',(S5 d o kvs).yld i H x H'->g x σ H' fun σ2 H2=>tb { D with nx:=N,ct:=N,bk:=D.nx } σ2 H2):=by
 refine⟨fun i m σ H=>m=kvs.length - i/\i<=kvs.length/\Pv i σ H,⟨kvs.length,by simp,Nat.zero_le _,h0⟩,?_⟩
 rintro i m σ H ⟨rfl,hi,p⟩
 have q:=hl i σ H hi p
 by_cases hlt:i <kvs.length
 ·refine .inr ⟨⟨q,hlt⟩,Pv (i+1),fun σ' H' p'=>⟨kvs.length - (i+1),by omega,rfl,hlt,p'⟩,fun x H' y=>?_⟩
  obtain⟨rfl,k,v,ek,rfl⟩:=y
  exact hs i k v σ _ ek p
 ·obtain rfl:i=kvs.length:=by omega
  exact .inl ⟨⟨q,Nat.le_refl _⟩,hd σ H p⟩
theorem JS {js:List Nat} {tt:TT} {te:TE} {σ:St} {Qd:List V->Hp->Prop} {d:Addr} {o:Obj} {kvs:List (Key×V)} {H:Hp} (Pv:Nat->List V->Hp->Prop) (hn:kvs.length<=sizeLine) (h0:Pv 0 [] H) (hl:∀i ys H,Pv i ys H->ys.length<=i) (hq:∀i ys H,i<=kvs.length->Pv i ys H->H d=some (.frz o (.dK kvs)))
  (hs:∀i k v ys H,kvs[i]?=some (k,v)->Pv i ys H->tt (some (kV k):: dI σ js) H fun b H4=>if b=true then te (some (kV k):: dI σ js) H4 fun y H5=>Pv (i+1) (ys ++ [y]) H5 else Pv (i+1) ys H4)
  (hd:∀ys H,Pv kvs.length ys H->Qd ys H):CompEnd js tt te σ Qd (S5 d o kvs) H:=by
 refine⟨fun i m ys H=>m=kvs.length - i/\i<=kvs.length/\Pv i ys H,⟨kvs.length,by simp,Nat.zero_le _,h0⟩,?_⟩
 rintro i m ys H ⟨rfl,hi,p⟩
 have hlen:=hl i ys H p
 have q:=hq i ys H hi p
 by_cases hlt:i <kvs.length
 ·refine .inr ⟨⟨q,hlt⟩,by omega,Pv (i+1),fun ys' H' p'=>⟨kvs.length - (i+1),by omega,rfl,hlt,p'⟩,fun x H' y=>?_⟩
  obtain⟨rfl,k,v,ek,rfl⟩:=y
  exact hs i k v ys _ ek p
 ·obtain rfl:i=kvs.length:=by omega
  exact .inl ⟨⟨q,Nat.le_refl _⟩,by omega,hd ys H p⟩
theorem xW:∀{xs:List V} {us:List Value},us.length=xs.length->(∀(j:Nat) x u,xs[j]?=some x->us[j]?=some u->RelV x u)->Vals xs us
 | [],[],_,_=>.nil
 | [],_:: _,h,_=>by simp at h
 | _:: _,[],h,_=>by simp at h
 | x:: xs,u:: us,h,r=>.cons (r 0 x u rfl rfl) (xW (by simpa using h) fun j y v h1 h2=>r (j+1) y v (by simpa using h1) (by simpa using h2))
theorem mL {X:Cx} (hc:X.calm=true):j8 X (.type "list") (fun xs H Q=>∃d kvs,xs=[.ref d]/\Rd H d (.dK kvs)/\∀l,H l=none->Q (.ref l) (upd H l (.lst (kvs.map fun p=>kV p.1)))):=by
 intro pins s σ H xs us Q I rx h
 obtain⟨d,kvs,rfl,hr,q⟩:=h
 obtain⟨u,rfl,ru⟩:=vals1 rx
 cases ru
 obtain⟨z,hd,vs,rel,dd⟩:=pG I.hok hr
 obtain⟨ep,da⟩:=dd.dictAt
 have hl:kvs.length=vs.length:=Paired.length rel
 refine PySem.W.kdl_call (PySem.W.kdl_dict (knd:=cG X.prog X.w) (kvs:=vs) (ep:=ep) hd) (I.ok.hd hc) da (by omega) fun h' tk acc' c' kp e' hi=>?_
 refine⟨.ref s.heap.objs.size,_,I.laid (t':=tk) kp (Nat.le_refl _) (show fK X.prog X.w _ h' _ (.lst (kvs.map fun p=>kV p.1)) from⟨by rw [List.length_map];exact z,acc'.toList,c',xW (by rw [Array.length_toList,hi.1,List.length_map,hl]) fun j x u hx hu=>?_,by simpa using e'⟩),rfl,q _ (I.hok.fresh (Nat.le_refl _))⟩
 obtain⟨k,v,hkv,hk⟩:=hi.2 j u (by rw [<-Array.getElem?_toList];exact hu)
 rw [List.getElem?_map] at hx
 obtain⟨p,hp,rfl⟩:=Option.map_eq_some_iff.mp hx
 obtain⟨v',hv'⟩:=Ib rel (k:=p.1) (v:=p.2) hp
 rw [hkv] at hv'
 cases hv'
 exact Lj hk
section
variable {X:Cx} {pins:List (Addr×Obj)} {σ:St} {H:Hp} {s:Shared}
end
section
variable {X:Cx} {tg:Expr}
end
theorem iD.u1 {k:Nat} {A:Around} (r:iD k A):A.units+1 <cLine:=by have:=r.units;omega
section
variable {prog:Program} {w:World} {A:Around} {E:Value->Shared->Prop} {s:Shared}
end
theorem uc:∀{vs:List (Key×Value)} {n:Nat} {k:Key} {v:Value},(vs.map (·.1)).Nodup->vs[n]?=some (k,v)->valueAt vs k=some v
 | p:: r,0,k,v,_,e=>by
  cases (Option.some.inj e)
  simp [valueAt]
 | p:: r,n+1,k,v,nd,e=>by
  rw [List.map_cons,List.nodup_cons] at nd
  have e':r[n]?=some (k,v):=by simpa using e
  have ne:p.1≠k:=fun z=>nd.1 (by rw [z];exact List.mem_map.mpr ⟨(k,v),List.mem_of_getElem? e',rfl⟩)
  have ih:=uc nd.2 e'
  unfold valueAt at ih ⊢
  rw [List.find?_cons,decide_eq_false ne]
  exact ih
theorem Js:∀{kvs:List (Key×V)} {vs:List (Key×Value)} {i:Nat} {k:Key} {v:Value},KV kvs vs->vs[i]?=some (k,v)->∃v0,kvs[i]?=some (k,v0)/\RelV v0 v
 | _,_,0,k,v,@Paired.cons _ _ _ p _ kvs _ h _,e=>by
  cases (Option.some.inj e)
  exact⟨p.2,by rw [List.getElem?_cons_zero,show p=(k,p.2) from by rw [show k=p.1 from h.1.symm]],h.2⟩
 | _,_,i+1,k,v,.cons _ t,e=>by
  obtain⟨v0,z,r⟩:=Js (i:=i) (k:=k) (v:=v) t (by simpa using e)
  exact⟨v0,by simpa using z,r⟩
theorem Jp:∀{kvs:List (Key×V)} {vs:List (Key×Value)} {i:Nat} {k:Key} {v:V},KV kvs vs->kvs[i]?=some (k,v)->∃v',vs[i]?=some (k,v')/\RelV v v'
 | _,_,0,k,v,.cons h _,e=>by
  cases (Option.some.inj e)
  exact⟨_,by rw [List.getElem?_cons_zero,show k=_ from h.1],h.2⟩
 | _,_,i+1,k,v,.cons _ t,e=>by
  obtain⟨v',z,r⟩:=Jp (i:=i) (k:=k) (v:=v) t (by simpa using e)
  exact⟨v',by simpa using z,r⟩
theorem iD.u100 {k:Nat} {A:Around} (r:iD k A):A.units+100 <cLine:=by have:=r.un;omega
theorem CT {X:Cx} {K:PySem.W.Frag} {e:Expr} {f:Str} {pos:Pos} {ta:TE} (hK:X.K=K) (he:PE X e ta) (hb:attributeBase e f X.env (eval e X.env)=eval e X.env):PE X (.Attribute e f pos) (Rt K ta f):=by subst hK;exact bD he hb
section
variable {X:Cx} {P:Program} {w:World} {K:PySem.W.Frag} {mg:Str->Option Value} {base:Heap} {CX:Cp} {k:Nat} {E:XK} {m:Str} {pos apos:Pos} {e o:Expr} {es:List Expr} {ta:TE} {t:TA}
theorem HN {pl:Sem Bool} (hP:X.prog=P) (hw:X.w=w) (hK:X.K=K) (hm:X.mg=mg) (hb:X.base=base) (he:PE X o ta) (hr:iD k X.A) (hx:oW CX X E)
  (ht:eval (.Call (.Attribute o m apos) [] [] pos) X.env=(do
   let ov <-eval o X.env
   standAt apos.atName
   let (f,first) <-holding [ov] (getMethod ov m pl)
   callWith pos f first (backTo pos (starEach [] X.env)) (backToKw pos (keywordEach [] X.env))):=by rfl):
  PE X (.Call (.Attribute o m apos) [] [] pos) (Hq P w K mg base CX k m E ta G7):=by
 subst hP hw hK hm hb
 exact BJ he hr hx ht
end
section
variable {prog:Program} {w:World} {A:Around} {R:Result->Shared->Prop} {s:Shared}
theorem UJ {elt tg iter:Expr} {ifs:List Expr} {scope:Scope} {pos:Pos} {it acc:Value} {env:Env} (J:Nat->Shared->Prop)
  (turn:∀k s1,J k s1->wpAny (model prog w) A (pyNext it) (fun r s2=>match r with
   | none=>R (.ok .next) s2
   | some v=>wpAny (model prog w) A (letOwnedTupleGo tg it v) (fun _ s3=>wpAny (model prog w) A (assign tg env v) (fun _ s4=>
     wpAny (model prog w) A (forIn ifs true fun c r=>if r=true then do let ok <-isTrue c env (eval c env);pure (ForInStep.yield ok) else pure (ForInStep.yield r)) (fun ok s5=>
      if ok=true then wpAny (model prog w) A (eval elt env) (fun y s6=>wpAny (model prog w) A (call (.builtin "list.append") [acc,y]) (fun _ s7=>∃m,m <k/\J m s7) (notedBy (model prog w) A env fun e s'=>R (.error e) s') s6)
       (notedBy (model prog w) A env fun e s'=>R (.error e) s') s5
      else ∃m,m <k/\J m s5) (notedBy (model prog w) A env fun e s'=>R (.error e) s') s4) (notedBy (model prog w) A env fun e s'=>R (.error e) s') s3) (notedBy (model prog w) A env fun e s'=>R (.error e) s') s2)
   (notedBy (model prog w) A env fun e s'=>R (.error e) s') s1)
  (k:Nat) (h:J k s):codeAny (model prog w) A (.compLoop (.ListComp elt [⟨tg,iter,ifs,0⟩] scope pos) 0 it acc env) R s:=by
 refine codeAny_loop rfl J (fun k s1 hJ=>?_) k h
 show wpAny _ A ((compTurn (.ListComp elt [⟨tg,iter,ifs,0⟩] scope pos) 0 it acc env).onRaise (fun e=>do noteFrame e env;theTreesLotGoes e)) _ _ s1
 refine wpAny_noted ?_
 rw [compTurn_list]
 refine wpAny_bind (wpAny_standAt (wpAny_bind (wpAny_mono (turn k s1 hJ) (fun r s2 h2=>?_) fun _ _ z=>z)))
 cases r with
 | none=>exact wpAny_pure h2
 | some v=>
  refine wpAny_bind (wpAny_mono h2 (fun _ s3 h3=>wpAny_bind (wpAny_mono h3 (fun _ s4 h4=>wpAny_bind (wpAny_mono h4 (fun ok s5 h5=>?_) fun _ _ z=>z)) fun _ _ z=>z)) fun _ _ z=>z)
  cases ok with
  | false=>exact wpAny_pure ⟨rfl,h5⟩
  | true=>exact wpAny_bind (wpAny_bind (wpAny_mono h5 (fun y s6 h6=>wpAny_bind (wpAny_mono h6 (fun _ s7 h7=>wpAny_pure (wpAny_pure ⟨rfl,h7⟩)) fun _ _ z=>z)) fun _ _ z=>z))
end
section
variable {X:Cx} {tg:Expr} {g:TG} {pos:Pos} {iter elt:Expr} {ifs:List Expr} {scope:Scope} {wi:TI} {tt:TT} {te:TE}
end
theorem JM {X:Cx} (hc:X.calm=true):j8 X (.builtin "min") (fun xs H Q=>∃(p:Addr) (a b:Int),xs=[.ref p]/\bT X.K H p [.int a,.int b]/\Q (.int (if b <a then b else a)) H):=by
 intro pins s σ H xs us Q I r h
 obtain⟨p,a,b,rfl,hq,q⟩:=h
 obtain⟨u,rfl,rx⟩:=vals1 r
 cases rx
 obtain⟨its,rv,pl,_⟩:=I.list hq
 obtain⟨v1,v2,rfl,⟨t1,rfl⟩,⟨t2,rfl⟩⟩:=vals2 rv
 have hl:s.heap.IsList p (intItems #[(a,t1),(b,t2)]):=by simpa [intItems] using pl.isList
 refine min_intList (I.ok.hd hc) hl (by simp) fun v h' tk hv hk=>?_
 obtain⟨t,rfl⟩:=intItems_at hv
 obtain⟨h1,h2⟩:=argBest_lt (numAt #[(a,t1),(b,t2)]) (#[(a,t1),(b,t2)].size - 1)
 have h1':argBest (fun i j=>decide (numAt #[(a,t1),(b,t2)] i <numAt #[(a,t1),(b,t2)] j)) (#[(a,t1),(b,t2)].size - 1)<=1:=h1
 have ha:_<=a:=h2 0 (Nat.zero_le _)
 have hb:_<=b:=h2 1 (by simp)
 generalize argBest (fun i j=>decide (numAt #[(a,t1),(b,t2)] i <numAt #[(a,t1),(b,t2)] j)) (#[(a,t1),(b,t2)].size - 1)=k at h1' ha hb ⊢
 refine⟨.int (numAt #[(a,t1),(b,t2)] k),H,I.kept hk,⟨_,rfl⟩,?_⟩
 have e:numAt #[(a,t1),(b,t2)] k=if b <a then b else a:=by
  match k,h1',ha,hb with
  | 0,_,_,hb=>
   have hb':a<=b:=hb
   rw [if_neg (by omega)];rfl
  | 1,_,ha,_=>
   have ha':b<=a:=ha
   show b=_
   by_cases z:b <a
   ·rw [if_pos z]
   ·rw [if_neg z];omega
 rw [e]
 exact q
theorem JN {X:Cx} (hc:X.calm=true):j8 X (.builtin "max") (fun xs H Q=>∃(p:Addr) (a b:Int),xs=[.ref p]/\bT X.K H p [.int a,.int b]/\Q (.int (if b <a then a else b)) H):=by
 intro pins s σ H xs us Q I r h
 obtain⟨p,a,b,rfl,hq,q⟩:=h
 obtain⟨u,rfl,rx⟩:=vals1 r
 cases rx
 obtain⟨its,rv,pl,_⟩:=I.list hq
 obtain⟨v1,v2,rfl,⟨t1,rfl⟩,⟨t2,rfl⟩⟩:=vals2 rv
 have hl:s.heap.IsList p (intItems #[(a,t1),(b,t2)]):=by simpa [intItems] using pl.isList
 refine max_intList (I.ok.hd hc) hl (by simp) fun v h' tk hv hk=>?_
 obtain⟨t,rfl⟩:=intItems_at hv
 obtain⟨h1,h2⟩:=argBest_gt (numAt #[(a,t1),(b,t2)]) (#[(a,t1),(b,t2)].size - 1)
 have h1':argBest (fun i j=>decide (numAt #[(a,t1),(b,t2)] i >numAt #[(a,t1),(b,t2)] j)) (#[(a,t1),(b,t2)].size - 1)<=1:=h1
 have ha:a<=_:=h2 0 (Nat.zero_le _)
 have hb:b<=_:=h2 1 (by simp)
 generalize argBest (fun i j=>decide (numAt #[(a,t1),(b,t2)] i >numAt #[(a,t1),(b,t2)] j)) (#[(a,t1),(b,t2)].size - 1)=k at h1' ha hb ⊢
 refine⟨.int (numAt #[(a,t1),(b,t2)] k),H,I.kept hk,⟨_,rfl⟩,?_⟩
 have e:numAt #[(a,t1),(b,t2)] k=if b <a then a else b:=by
  match k,h1',ha,hb with
  | 0,_,_,hb=>
   have hb':b<=a:=hb
   show a=_
   by_cases z:b <a
   ·rw [if_pos z]
   ·rw [if_neg z];omega
  | 1,_,ha,_=>
   have ha':a<=b:=ha
   rw [if_neg (by omega)];rfl
 rw [e]
 exact q
theorem Jc {X:Cx} {K:PySem.W.Frag} {es:List Expr} {k:Nat} {pos:Pos} {t:Od} {n:Nat} (hK:X.K=K) (hc:X.calm=true) (h:Va X es t)
  (hn:(assignEach es X.env).length=n:=by rfl) (hst:(assignEach es X.env).findIdx? (·.1)=none:=by rfl):PG X (.Tuple es k pos) (Uw K n t):=by
 subst hK
 exact Em hc h hn hst
noncomputable def jL (X:Cx) (scope:Scope) (xs:List Str) (js:List Nat) (cl:List (Str×Addr)) (C:Addr) (s:Shared) (H:Hp) (ex:List Addr):Cx where
 prog:=X.prog
 w:=X.w
 K:=X.K
 mg:=X.mg
 base:=X.base
 A:=X.A
 N:=xs ++ du X.N js
 s₀:=s
 H₀:=H
 env:=compEnvC scope cl C X.env
 outer:=X.stack
 stack:=X.stack
 ex:=ex
 fn:=fun _=>false
 calm:=X.calm
 pn:=[]
 xe:=fun _ _=>False
noncomputable def zm (xs:List Str) (js:List Nat) (σ:St) (g:TG) (tt:TT) (te:TE) (Qd:List V->Hp->Prop) (J:It) (H1:Hp):Prop:=∃W:Nat->Nat->List V->Hp->Prop,(∃m,W 0 m [] H1)/\∀i m ys H2,W i m ys H2->
 (J.stop i H2/\ys.length<=sizeLine/\Qd ys H2)∨
 (J.go i H2/\ys.length <sizeLine/\∃N:List V->Hp->Prop,(∀ys' H',N ys' H'->∃m',m' <m/\W (i+1) m' ys' H')/\∀x H3,J.yld i H2 x H3->g x ((xs.map fun _=>none) ++ dI σ js) H3 fun σ2 H4=>σ2.drop xs.length=dI σ js/\tt σ2 H4 fun b H5=>
  if b=true then te σ2 H5 fun y H6=>N (ys ++ [y]) H6 else N ys H5)
noncomputable def MK (xs:List Str) (js:List Nat) (wi:TI) (g:TG) (tt:TT) (te:TE):TE:=fun σ H Q=>wi σ H (zm xs js σ g tt te fun ys H2=>∀D,H2 D=none->Q (.ref D) (upd H2 D (.lst ys)))
section
variable {X:Cx} {tg:Expr} {g:TG} {pos:Pos} {iter elt:Expr} {ifs:List Expr} {scope:Scope} {wi:TI} {tt:TT} {te:TE}
theorem rD (xs:List Str) (js:List Nat) {pins:List (Addr×Obj)} {σ:St} {s:Shared} {itv:Value} {Q:List V->Hp->Prop} {RR:Value->Addr->Result->Shared->Prop} {E:Value->Shared->Prop}
  (hc:X.calm=true) (hk:scope.kind=.function) (hcell:∀y∈scope.names,y.2≠.cell)
  (hfree:∀y∈scope.names,y.2=.free->X.env.kindOf y.1=some .cell∨X.env.kindOf y.1=some .free)
  (hg:∀cl C s H ex,PG (jL X scope xs js cl C s H ex) tg g)
  (hif:∀cl C s H ex,PF (jL X scope xs js cl C s H ex) ifs tt) (he:∀cl C s H ex,PE (jL X scope xs js cl C s H ex) elt te)
  (hjs:∀y∈du X.N js,scope.names.lookup y=some .free) (hit:PIE X pins σ tg (zm xs js σ g tt te Q) itv s)
  (hR:∀D C s' H2 ys m,Inv X pins σ (upd H2 D (.lst ys)) s'->H2 D=none->s'.heap.Ns C m->(∀h',Heap.SameBut C s'.heap h'->Inv X pins σ (upd H2 D (.lst ys)) { s' with heap:=h' })->DN X pins (upd H2 D (.lst ys)) C->C≠D->Q ys H2->RR (.ref D) C (.ok .next) s'):
  wpAny (model X.prog X.w) X.A (newList []) (fun acc s₃=>wpAny (model X.prog X.w) X.A (newFunctionEnv scope X.env.globals (clos X.env scope.names []) [] X.env.qual none .none (some X.env)) (fun cenv s₄=>
   codeAny (model X.prog X.w) X.A (.compStart (.ListComp elt [⟨tg,iter,ifs,0⟩] scope pos) 0 itv acc { cenv with scope:=relabel scope X.env }) (RR acc cenv.locals) s₄) E s₃) E s:=by
 obtain⟨it,fp,tn,J,H1,rfl,I1,T,st1,f1,W,⟨m0,w0⟩,turn⟩:=hit
 refine wpAny_newObj_type (wpAny_newFunctionEnv hcell (by intro y hy;simp at hy) (fun h₁ hns₁ hsb₁=>?_) hk)
 dsimp only at hns₁ hsb₁ ⊢
 generalize hH2:s.heap.push { cls:=.type "list",dict:=none,data:=.seq ([]:List Value).toArray }=Hl at hns₁ hsb₁ ⊢
 generalize hDe:s.heap.objs.size=D
 have hCe:Hl.objs.size=D+1:=by rw [<-hH2,Heap.size_push,hDe]
 generalize hC:Hl.objs.size=C at hns₁ hsb₁ hCe ⊢
 subst hCe
 have hDC:D≠D+1:=Nat.ne_of_lt (Nat.lt_succ_self _)
 have lt:∀b o,s.heap.get? b=some o->b <D:=fun b o e=>hDe ▸ Heap.lt_size e
 have old:∀b o,s.heap.get? b=some o->h₁.get? b=some o:=fun b o e=>by
  have hb:=lt b o e
  refine hsb₁.extBut b o (Nat.ne_of_lt (Nat.lt_succ_of_lt hb)) (Heap.get?_push_of_some _ ?_)
  rw [<-hH2];exact Heap.get?_push_of_some _ e
 have accD:h₁.get? D=some { cls:=.type "list",dict:=none,data:=.seq ([]:List Value).toArray }:=by
  refine hsb₁.extBut _ _ hDC (Heap.get?_push_of_some _ ?_)
  rw [<-hH2,<-hDe];exact Heap.get?_push_size _ rfl
 have fresh:∀a,D<=a->H1 a=none:=fun a ha=>I1.hok.fresh (by rw [hDe];exact ha)
 have fpD:∀b∈fp,b <D:=fun b hb=>by
  obtain⟨o,e,_⟩:=T.obj 0 s.heap st1 b hb
  exact lt b o e
 have cellD:∀y c,X.env.cells.lookup y=some c->c <D:=fun y c e=>by
  obtain⟨v,q⟩:=I1.cell y c e
  exact hDe ▸ q.lt
 generalize hcl:clos X.env scope.names []=cl
 have clsub:∀y c,cl.lookup y=some c->X.env.cells.lookup y=some c:=by
  rw [<-hcl];exact Fy scope.names [] fun y a e=>by simp at e
 have frD:∀b∈frs X.stack,b <D:=fun b hb=>by
  obtain⟨_,o,ho,_⟩:=I1.stack.mem hb
  exact lt b o ho
 let Y:Cx:=jL X scope xs js cl (D+1) s H1 fp
 have kinds:∀y,Y.env.kindOf y=some .cell∨Y.env.kindOf y=some .free->∃k∈scope.names,k.1=y/\k.2=.free:=fun y hy=>by
  have hy':(relabel scope X.env).names.lookup y=some .cell∨(relabel scope X.env).names.lookup y=some .free:=hy
  rw [rN] at hy'
  cases q:scope.names.lookup y with
  | none=>rw [q] at hy';simp at hy'
  | some k=>
   have hm:=PySem.mem_of_lookup q
   refine⟨(y,k),hm,rfl,?_⟩
   have h1:k≠.cell:=hcell _ hm
   rw [q] at hy'
   simp only [Option.map_some,Option.some.injEq] at hy'
   by_cases hkf:k=.free
   ·exact hkf
   ·have:(k == NameKind.free)=false:=by simpa using hkf
    simp only [this,Bool.false_and,Bool.false_eq_true,if_false] at hy'
    rcases hy' with e | e
    ·exact absurd e h1
    ·exact absurd e hkf
 have okY:Y.Ok:=by
  refine⟨I1.ok.mod,hk,I1.ok.glob,I1.ok.blt,(by show s.heap.objs.size<=D+1;rw [hDe];exact Nat.le_succ _),fun y z c h1 h2=>I1.ok.inj y z c (clsub y c h1) (clsub z c h2),fun y hy=>?_,fun y c h _=>absurd h (by show ¬(false=true);decide),I1.ok.hd,I1.ok.frames,.inl rfl,fun b hb=>⟨Nat.ne_of_lt (Nat.lt_succ_of_lt (fpD b hb)),fun y c e z=>(f1 b hb).2.2.2.2.1 y c (clsub y c e) z⟩,
   fun b o e=>I1.bs b o e,Nat.le_trans I1.ok.bsz I1.sz,fun b o e hb=>?_,fun b hb hf=>?_,I1.stack,I1.stkFree⟩
  ·obtain⟨k,hm,e1,e2⟩:=kinds y hy
   show ∃c,cl.lookup y=some c
   rw [<-hcl]
   refine yP scope.names [] y (.inr ⟨k,hm,e1,e2,?_⟩)
   have:=hfree k hm e2
   rw [e1] at this
   exact I1.ok.has y this
  ·obtain⟨_,_,_,h4,_,_⟩:=f1 b hb
   rcases h4 with z | z
   ·exact I1.ok.noex b o e z
   ·exact absurd (Nat.lt_of_lt_of_le (Heap.lt_size e) (Nat.le_trans I1.ok.bsz z)) (Nat.lt_irrefl _)
  ·rcases List.mem_cons.mp (I1.stkSub b hf) with z | z
   ·exact(f1 b hb).2.1 z
   ·exact(f1 b hb).2.2.1 z
 let σ0:St:=(xs.map fun _=>none) ++ dI σ js
 have IY:Inv Y [] σ0 H1 { s with heap:=h₁,toks:=s.toks+([]:List (Str×Value)).length }:=by
  refine⟨okY,rfl,I1.bare,Un.kept old,⟨_,hns₁,fun i y v e1 e2 e3=>?_⟩,fun y c e=>?_,fresh _ (Nat.le_succ _),fun y c e=>I1.freeC y c (clsub y c e),fun p hp=>absurd (show p∈([]:List (Addr×Obj)) from hp) (by simp),I1.hok.kept old,?_⟩
  ·by_cases hi:i <xs.length
   ·exfalso
    have e2':((xs.map fun _=>(none:Option V)) ++ dI σ js)[i]?=some (some v):=e2
    rw [List.getElem?_append_left (by rw [List.length_map];exact hi),List.getElem?_map,List.getElem?_eq_getElem hi] at e2'
    cases e2'
   ·have e1':(xs ++ du X.N js)[i]?=some y:=e1
    have e2':((xs.map fun _=>(none:Option V)) ++ dI σ js)[i]?=some (some v):=e2
    rw [List.getElem?_append_right (by omega)] at e1'
    rw [List.getElem?_append_right (by rw [List.length_map];omega),List.length_map] at e2'
    generalize i - xs.length=i at e1' e2'
    unfold du at e1'
    unfold dI at e2'
    rw [List.getElem?_map] at e1' e2'
    cases q:js[i]? with
    | none=>rw [q] at e1';cases e1'
    | some j=>
     rw [q] at e1' e2'
     simp only [Option.map_some,Option.some.injEq] at e1' e2'
     have hv:σ[j]?=some (some v):=by
      cases z:σ[j]? with
      | none=>rw [z] at e2';cases e2'
      | some w=>rw [z] at e2';simpa using e2'
     have hj:j <X.N.length:=by
      rw [<-I1.len];exact(List.getElem?_eq_some_iff.mp hv).1
     have hy:X.N[j]?=some y:=by
      rw [List.getElem?_eq_getElem hj] at e1' ⊢
      rw [<-e1'];rfl
     obtain⟨m,hn,hl⟩:=I1.loc
     have hmem:y∈du X.N js:=List.mem_map.mpr ⟨j,List.mem_of_getElem? q,by rw [hy];rfl⟩
     have hfr:=hjs y hmem
     have hkx:=hfree _ (PySem.mem_of_lookup hfr) rfl
     have hvis:UW X.env.scope y:=hkx.elim (fun z=>.inr (.inl z)) fun z=>.inr (.inr z)
     obtain⟨u,r,l⟩:=hl j y v hy hv hvis
     refine⟨u,r,?_⟩
     rcases l with ⟨kl,_⟩ | ⟨_,c,hc1,z⟩
     ·exfalso
      have kl':X.env.kindOf y=some .local:=kl
      rcases hkx with w | w <;> · rw [show X.env.kindOf y=_ from w] at kl';cases kl'
     ·obtain⟨c',hc'⟩:=yP (env:=X.env) scope.names [] y (.inr ⟨_,PySem.mem_of_lookup hfr,rfl,rfl,c,hc1⟩)
      rw [hcl] at hc'
      have e4:=clsub y c' hc'
      rw [hc1] at e4
      cases e4
      obtain⟨o,ho,hd⟩:=z
      refine .inr ⟨?_,c,hc',o,old c o ho,hd⟩
      rcases e3 with e3 | e3 | e3
      ·exfalso
       have e3':(relabel scope X.env).names.lookup y=some .local:=e3
       rw [rN,hfr] at e3'
       simp only [Option.map_some,Option.some.injEq] at e3'
       split at e3' <;> cases e3'
      ·exact .inl e3
      ·exact .inr e3
  ·obtain⟨v,q⟩:=I1.cell y c (clsub y c e)
   obtain⟨o,ho,hd⟩:=q
   exact⟨v,o,old c o ho,hd⟩
  ·show((xs.map fun _=>(none:Option V)) ++ dI σ js).length=(xs ++ du X.N js).length
   unfold dI du
   rw [List.length_append,List.length_append,List.length_map,List.length_map,List.length_map]
 have mkR:∀(s':Shared) (H2:Hp) (ys:List V) (its:List Value) (σ':St),Inv Y [] σ' H2 s'->s'.heap.PlainList D its.toArray->Vals ys its->ys.length<=sizeLine->H2 D=none->Q ys H2->RR (.ref D) (D+1) (.ok .next) s':=by
  intro s' H2 ys its σ' I' pl rv hz hD hq
  obtain⟨m,hn,_⟩:=I'.loc
  have hn':s'.heap.Ns (D+1) m:=hn
  have hCn:H2 (D+1)=none:=I'.free
  have hch:∀b∈fp,(b∈X.ex∨X.s₀.heap.objs.size<=b)/\b≠X.env.locals/\(∀x c,X.env.cells.lookup x=some c->c≠b)/\∀p∈X.pn ++ pins,p.1≠b:=fun b hb=>by
   obtain⟨_,h2,_,h4,h5,h6⟩:=f1 b hb
   exact⟨h4,h2,h5,h6⟩
  have bs:Un (frs X.stack) fp H1 H2 s.heap s'.heap:=I'.base
  have all:∀h',Heap.SameBut (D+1) s'.heap h'->Inv X pins σ (upd H2 D (.lst ys)) { s' with heap:=h' }:=fun h' sb=>by
   have neD:∀b o,s.heap.get? b=some o->b≠D:=fun b o e=>Nat.ne_of_lt (lt b o e)
   have neC:∀b o,s.heap.get? b=some o->b≠D+1:=fun b o e=>Nat.ne_of_lt (Nat.lt_succ_of_lt (lt b o e))
   refine I1.call' (s':={ s' with heap:=h' }) (ch:=fp) I'.os ⟨fun b o e n hb hx=>?_,fun b o e n hb hx=>?_,fun b o e n hx=>?_,fun b o e hx=>?_,fun b xs e=>?_,fun b o u e=>?_,fun b ps e=>?_⟩ ?_ I'.bare hch
   ·exact(sb.2 b (neC b o e)).trans (bs.keep b o e n hb hx)
   ·obtain⟨sl,q⟩:=bs.slot b o e n hb hx
    exact⟨sl,(sb.2 b (neC b o e)).trans q⟩
   ·rw [aJ (neD b o e)];exact bs.free b o e n hx
   ·obtain⟨o',q⟩:=bs.there b o e hx
    exact⟨o',(sb.2 b (neC b o e)).trans q⟩
   ·have:=bs.tups b xs e
    rw [aJ (aC this hD)];exact this
   ·have:=bs.frzs b o u e
    rw [aJ (aC this hD)];exact this
   ·obtain⟨more,q⟩:=bs.tbls b ps e
    exact⟨more,by rw [aJ (aC q hD)];exact q⟩
   ·have h0:tG X.prog X.w H2 h':=fun b u e=>(I'.hok b u e).stay (fun c v hc q=>(sb.2 c (by
     rintro rfl
     rcases hc with z | z
     ·rw [z,e] at hCn;cases hCn
     ·rw [z] at hCn;cases hCn)).trans q) (fun _ q=>q) fun _ _ q=>q
    refine Kl h0 hD ?_
    obtain⟨n,e⟩:=pl
    exact⟨hz,its,n,rv,(sb.2 D hDC).trans e⟩
  have hall:=all s'.heap (.refl ..)
  refine hR D (D+1) s' H2 ys m hall hD hn' all ?_ hDC.symm hq
  refine⟨by rw [aJ hDC.symm];exact hCn,?_,?_,.inr (Nat.le_trans I1.sz (by rw [hDe];exact Nat.le_succ _)),fun y c e z=>?_,fun p hp z=>?_⟩
  ·exact Nat.ne_of_gt (Nat.lt_trans (hDe ▸ I1.lt) (Nat.lt_succ_self _))
  ·exact I1.nofs (by rw [hDe];exact Nat.le_succ _)
  ·exact absurd z (Nat.ne_of_lt (Nat.lt_succ_of_lt (cellD y c e)))
  ·exact absurd z (Nat.ne_of_lt (Nat.lt_succ_of_lt (lt _ _ (I1.pin p hp).1)))
 have loop:∀s₃:Shared,s₃={ s with heap:=h₁,toks:=s.toks+([]:List (Str×Value)).length }->
   codeAny (model X.prog X.w) X.A (.compLoop (.ListComp elt [⟨tg,iter,ifs,0⟩] scope pos) 0 (.ref it) (.ref D) Y.env) (RR (.ref D) (D+1)) s₃:=by
  rintro s₃ rfl
  have stat:∀{H':Hp} {ob:Obj},(∀b∈fp,H' b=none)->∀b∈fp,DN Y [(D,ob)] H' b:=fun {H'} {ob} hn b hb=>by
   refine⟨hn b hb,Nat.ne_of_lt (Nat.lt_succ_of_lt (fpD b hb)),fun hf=>okY.exfs b hb hf,.inl hb,fun y c e=>(okY.exf b hb).2 y c e,fun p hp z=>?_⟩
   have hp':p∈[(D,ob)]:=hp
   have e:p=(D,ob):=by simpa using hp'
   rw [e] at z
   exact absurd z (Ne.symm (Nat.ne_of_lt (fpD b hb)))
  refine UJ (fun n s'=>∃i ys its H',∃ob:Obj,Inv Y [(D,ob)] σ0 H' s'/\(∃n,ob={ cls:=.type "list",data:=.seq its.toArray n })/\Vals ys its/\H' D=none/\tn i s'.heap/\(∀b∈fp,H' b=none)/\W i n ys H') ?_ m0
   ⟨0,[],[],H1,{ cls:=.type "list",dict:=none,data:=.seq ([]:List Value).toArray },?_,⟨_,rfl⟩,.nil,fresh _ (Nat.le_refl _),T.keep _ _ _ st1 fun b _ o e=>old b o e,fun b hb=>(f1 b hb).1,w0⟩
  ·rintro n s3 ⟨i,ys,its,H3,ob,I3,⟨cap,rfl⟩,rv,hD,st3,fr3,w3⟩
   rcases turn i n ys H3 w3 with ⟨stop,hz,hq⟩ | ⟨go,hz,N,hN7,step⟩
   ·refine wpAny_mono (T.done Y rfl rfl rfl hc i _ s3 σ0 H3 (fun _ _=>False) I3 (stat fr3) st3 stop) (fun r s4 ⟨hr,I4⟩=>?_) fun _ _ f=>f.elim
    subst hr
    exact mkR s4 H3 ys its σ0 (I4.pins_of fun p hp=>absurd hp (by simp)) ⟨cap,(I4.pin _ (List.mem_append_right _ List.mem_cons_self)).1⟩ rv hz hD hq
   ·refine wpAny_mono (T.item Y rfl rfl rfl hc i _ s3 σ0 H3 (fun _ _=>False) I3 (stat fr3) st3 go) (fun r s4 ⟨u,hr,h4⟩=>?_) fun _ _ f=>f.elim
    subst hr
    refine wpAny_mono h4 (fun _ s4 ⟨xv,H5,I5,r5,y5,st5,fr5⟩=>?_) fun _ _ f=>f.elim
    have I5':=I5.pinned (stat fr5) (T.obj _ _ st5)
    refine wpAny_mono (hg cl (D+1) s H1 fp _ _ σ0 H5 xv u _ I5' r5 (step xv H5 y5)) (fun _ s6 ⟨σ6,H6,I6,hσ6,q6⟩=>?_) fun _ _ f=>False.elim f
    have again:∀{s7:Shared} {H7:Hp} {ys7:List V} {its7:List Value} {cap7:Nat} {pl:List (Addr×Obj)},Inv Y ([(D,{ cls:=.type "list",data:=.seq its7.toArray cap7 })] ++ pl) σ6 H7 s7->(∀b∈fp,∀o,s4.heap.get? b=some o->s7.heap.get? b=some o/\H7 b=none)->Vals ys7 its7->(∃m',m' <n/\W (i+1) m' ys7 H7)->
      ∃m,m <n/\∃i ys its H',∃ob:Obj,Inv Y [(D,ob)] σ0 H' s7/\(∃n,ob={ cls:=.type "list",data:=.seq its.toArray n })/\Vals ys its/\H' D=none/\tn i s7.heap/\(∀b∈fp,H' b=none)/\W i m ys H':=by
     intro s7 H7 ys7 its7 cap7 pl I7 kf rv7 ⟨m',hm,w7⟩
     refine⟨m',hm,i+1,ys7,its7,H7,_,I7.unpinned.weak (by rw [I7.len];show((xs.map fun _=>(none:Option V)) ++ dI σ js).length=(xs ++ du X.N js).length;unfold dI du;rw [List.length_append,List.length_append,List.length_map,List.length_map,List.length_map]) fun j v e=>?_,⟨cap7,rfl⟩,rv7,(I7.pin _ (List.mem_append_right _ (List.mem_append_left _ List.mem_cons_self))).2.1,T.keep _ _ _ st5 fun b hb o e=>(kf b hb o e).1,fun b hb=>?_,w7⟩
     ·have e':((xs.map fun _=>(none:Option V)) ++ dI σ js)[j]?=some (some v):=e
      by_cases hj:j <xs.length
      ·exfalso
       rw [List.getElem?_append_left (by rw [List.length_map];exact hj),List.getElem?_map,List.getElem?_eq_getElem hj] at e'
       cases e'
      ·rw [List.getElem?_append_right (by rw [List.length_map];omega),List.length_map,<-hσ6,List.getElem?_drop] at e'
       rw [show xs.length+(j - xs.length)=j by omega] at e'
       exact e'
     ·obtain⟨o,e,_⟩:=T.obj _ _ st5 b hb
      exact(kf b hb o e).2
    refine wpAny_mono (hif cl (D+1) s H1 fp _ s6 _ H6 _ I6 q6) (fun ok s7 ⟨H7,I7,q7⟩=>?_) fun _ _ f=>False.elim f
    have kf7:∀b∈fp,∀o,s4.heap.get? b=some o->s7.heap.get? b=some o/\H7 b=none:=fun b hb o e=>
     have z:=I7.pin (b,o) (List.mem_append_right _ (List.mem_append_right _ (qp hb e)))
     ⟨z.1,z.2.1⟩
    cases ok with
    | false=>
     rw [if_neg Bool.false_ne_true] at q7 ⊢
     exact again I7 kf7 rv (hN7 _ _ q7)
    | true=>
     rw [if_pos rfl] at q7 ⊢
     refine wpAny_mono (he cl (D+1) s H1 fp _ s7 _ H7 _ I7 q7) (fun yv s8 ⟨y,H8,I8,r8,q8⟩=>?_) fun _ _ f=>False.elim f
     have pD:=I8.pin _ (List.mem_append_right _ (List.mem_append_left _ List.mem_cons_self))
     have hlen:=rv.length
     refine wpAny_list_append_plain (items:=its.toArray) ⟨cap,pD.1⟩ (fun h9 pl9 sb9=>?_) (by rw [List.size_toArray];omega)
     obtain⟨cap9,e9⟩:=pl9
     have I9:Inv Y [] σ6 H8 { s8 with heap:=h9 }:=(I8.pins_of (pins':=[]) fun p hp=>absurd hp (by simp)).turned (t':=s8.toks) (it:=D) (fun b o hb e=>(sb9.2 b hb).trans e) pD.2.1 hDC
      (.inr (Nat.le_of_eq hDe)) (fun y c e z=>absurd z (Nat.ne_of_lt (cellD y c (clsub y c e)))) fun p hp=>absurd (show p∈([]:List (Addr×Obj)) from hp) (by simp)
     have kf9:∀b∈fp,∀o,s4.heap.get? b=some o->h9.get? b=some o/\H8 b=none:=fun b hb o e=>by
      have z:=I8.pin (b,o) (List.mem_append_right _ (List.mem_append_right _ (qp hb e)))
      exact⟨(sb9.2 b (Nat.ne_of_lt (fpD b hb))).trans z.1,z.2.1⟩
     refine again (s7:={ s8 with heap:=h9 }) (its7:=its ++ [yv]) (cap7:=cap9) (pl:=[]) (I9.pins_of fun p hp=>?_) kf9 (rv.append (.cons r8 .nil)) (hN7 _ _ q8)
     have hp':p=(D,{ cls:=.type "list",data:=.seq (its ++ [yv]).toArray cap9 }):=by simpa using hp
     subst hp'
     refine⟨?_,pD.2.1,pD.2.2.1,pD.2.2.2.1,fun v z=>by cases z⟩
     rw [e9]
     simp
  ·refine IY.pins_of fun p hp=>?_
   have hp':p=(D,{ cls:=.type "list",dict:=none,data:=.seq ([]:List Value).toArray }):=by simpa using hp
   subst hp'
   exact⟨accD,fresh _ (Nat.le_refl _),hDC,fun hf=>Nat.lt_irrefl _ (frD _ hf),fun v z=>by cases z⟩
 exact codeAny_compStart_list (loop _ rfl) (wpAny_mono (T.self X.A 0 _ (fun v s'=>v=.ref it/\s'={ s with heap:=h₁,toks:=s.toks+([]:List (Str×Value)).length }) (fun _ _=>False) (T.keep _ _ _ st1 fun b _ o e=>old b o e) ⟨rfl,rfl⟩) (fun v s' ⟨e1,e2⟩=>by subst e1 e2;exact loop _ rfl) fun _ _ f=>f.elim)
theorem Lf (xs:List Str) (js:List Nat) (N0:List Str) (sc0:Scope) (hc:X.calm=true) (hi:PI X tg iter wi) (hg:∀cl C s H ex,PG (jL X scope xs js cl C s H ex) tg g)
  (hif:∀cl C s H ex,PF (jL X scope xs js cl C s H ex) ifs tt) (he:∀cl C s H ex,PE (jL X scope xs js cl C s H ex) elt te)
  (hk:scope.kind=.function:=by rfl) (hcell:∀y∈scope.names,y.2≠.cell:=by decide +kernel)
  (hnames:∀y∈scope.names,y.2=.local->scope.names.lookup y.1=some .local:=by decide +kernel)
  (hsc:X.env.scope=sc0:=by rfl) (hfree0:∀y∈scope.names,y.2=.free->sc0.names.lookup y.1=some .cell∨sc0.names.lookup y.1=some .free:=by decide +kernel)
  (hNN:X.N=N0:=by rfl) (hj0:∀y∈du N0 js,scope.names.lookup y=some .free:=by decide +kernel)
  (hs:∀x,foldedSetIterable iter X.env x=pure x:=by intro _;rfl):
  PE X (.ListComp elt [⟨tg,iter,ifs,0⟩] scope pos) (MK xs js wi g tt te):=by
 intro pins s σ H Q I h
 have hfree:∀y∈scope.names,y.2=.free->X.env.kindOf y.1=some .cell∨X.env.kindOf y.1=some .free:=fun y hy e=>by
  show X.env.scope.names.lookup y.1=some .cell∨X.env.scope.names.lookup y.1=some .free
  rw [hsc];exact hfree0 y hy e
 rw [eval_ListComp]
 have hcl:closureFor scope X.env=pure (clos X.env scope.names []):=jX fun y hy e=>I.ok.has y.1 (hfree y hy e)
 refine wpAny_comprehension_free (use:=none) rfl hs hcl hk hnames (dJ (hi pins s σ H _ I h) fun xv s1 h1=>dJ h1 fun it s2 h2=>?_)
 have hjs:∀y∈du X.N js,scope.names.lookup y=some .free:=by rw [hNN];exact hj0
 refine rD xs js (RR:=fun acc C=>compPost (model X.prog X.w) X.A X.xe none (EP X pins σ Q) acc C) (Q:=fun ys H2=>∀D,H2 D=none->Q (.ref D) (upd H2 D (.lst ys))) hc hk hcell hfree hg hif he hjs h2 ?_
 intro D C s' H2 ys m I' hD hn all fpC hCD hq
 exact⟨m,hn,fun h' sb=>⟨.ref D,_,all h' sb,rfl,hq D hD⟩⟩
theorem Ly {i:Nat} {y:Str} {py spos:Pos} (xs:List Str) (js:List Nat) (N0:List Str) (sc0:Scope) (hc:X.calm=true) (hNX:X.N.Nodup) (hiy:X.N[i]?=some y) (hi:PI X tg iter wi) (hg:∀cl C s H ex,PG (jL X scope xs js cl C s H ex) tg g)
  (hif:∀cl C s H ex,PF (jL X scope xs js cl C s H ex) ifs tt) (he:∀cl C s H ex,PE (jL X scope xs js cl C s H ex) elt te)
  (hsw:swapsWith (.ListComp elt [⟨tg,iter,ifs,0⟩] scope pos) (some (.Name y py)) spos.line X.env=pure true:=by rfl) (hy:X.env.scope.names.lookup y=some .local:=by rfl)
  (hk:scope.kind=.function:=by rfl) (hcell:∀y∈scope.names,y.2≠.cell:=by decide +kernel)
  (hnames:∀y∈scope.names,y.2=.local->scope.names.lookup y.1=some .local:=by decide +kernel)
  (hsc:X.env.scope=sc0:=by rfl) (hfree0:∀y∈scope.names,y.2=.free->sc0.names.lookup y.1=some .cell∨sc0.names.lookup y.1=some .free:=by decide +kernel)
  (hNN:X.N=N0:=by rfl) (hj0:∀y∈du N0 js,scope.names.lookup y=some .free:=by decide +kernel)
  (hs:∀x,foldedSetIterable iter X.env x=pure x:=by intro _;rfl):
  PS X (.Assign [.Name y py] (.ListComp elt [⟨tg,iter,ifs,0⟩] scope pos) spos) (Kd (MK xs js wi g tt te) (tR i)):=by
 intro pins s σ H D I h
 have hfree:∀y∈scope.names,y.2=.free->X.env.kindOf y.1=some .cell∨X.env.kindOf y.1=some .free:=fun y hy e=>by
  show X.env.scope.names.lookup y.1=some .cell∨X.env.scope.names.lookup y.1=some .free
  rw [hsc];exact hfree0 y hy e
 have hjs:∀y∈du X.N js,scope.names.lookup y=some .free:=by rw [hNN];exact hj0
 rw [exec_Assign_Name_used _ _ _ _ hsw]
 refine wpAny_bind (wpAny_standAt (wpAny_bind ?_))
 show wpAny _ X.A (do let _ <-comprehension (.ListComp elt [⟨tg,iter,ifs,0⟩] scope pos) scope X.env _ (newList []) false (eval iter X.env) (some (assign (.Name y py) X.env))) _ _ s
 have hcl:closureFor scope X.env=pure (clos X.env scope.names []):=jX fun y hy e=>I.ok.has y.1 (hfree y hy e)
 refine wpAny_bind (wpAny_mono (wpAny_comprehension_free (use:=some (assign (.Name y py) X.env)) (Q:=fun _ s'=>SP X pins D .next s') rfl hs hcl hk hnames
  (dJ (hi pins s σ H _ I h) fun xv s1 h1=>dJ h1 fun it s2 h2=>?_)) (fun _ s' hq=>wpAny_pure (wpAny_pure hq)) fun _ _ e=>e)
 refine rD xs js (RR:=fun acc C=>compPost (model X.prog X.w) X.A X.xe (some (assign (.Name y py) X.env)) (fun _ s'=>SP X pins D .next s') acc C) (Q:=fun ys H2=>∀D',H2 D'=none->D.nx (σ.set i (some (.ref D'))) (upd H2 D' (.lst ys))) hc hk hcell hfree hg hif he hjs h2 ?_
 intro D' C s' H2 ys m I' hD hn all fpC hCD hq
 show wpAny _ X.A (assign (.Name y py) X.env (.ref D')) _ _ _
 refine wpAny_assign_Name (wU I' hNX hiy (.inl hy) (v:=.ref D') rfl (fun s'' I'' ⟨a,sb,ha⟩=>?_) (.inr hy))
 obtain⟨f1,f2,f3,f4,f5,f6⟩:=fpC
 have hCa:C≠a:=by
  rcases ha with z | z
  ·rw [z];exact f2
  ·exact fun w=>f5 _ _ z w.symm
 exact⟨m,hn.sameBut sb hCa,fun h' sb'=>⟨_,_,I''.turned (t':=s''.toks) (it:=C) (fun b o hb e=>(sb'.2 b hb).trans e) f1 f2 f4 f5 f6,hq D' hD⟩⟩
end
theorem zM {ts:List Str} {js:List Nat} {σ:St} {g:TG} {tt:TT} {te:TE} {Qd:List V->Hp->Prop} {K:PySem.W.Frag} {a:Addr} {xs:List V} {H:Hp} (Pv:Nat->List V->Hp->Prop) (hn:xs.length<=sizeLine) (h0:Pv 0 [] H) (hl:∀i ys H,Pv i ys H->ys.length<=i) (hq:∀i ys H,i<=xs.length->Pv i ys H->bT K H a xs)
  (hs:∀i x ys H,xs[i]?=some x->Pv i ys H->g x ((ts.map fun _=>none) ++ dI σ js) H fun σ2 H3=>σ2.drop ts.length=dI σ js/\tt σ2 H3 fun b H4=>if b=true then te σ2 H4 fun y H5=>Pv (i+1) (ys ++ [y]) H5 else Pv (i+1) ys H4)
  (hd:∀ys H,Pv xs.length ys H->Qd ys H):zm ts js σ g tt te Qd (SM K a) H:=by
 refine⟨fun i m ys H=>m=xs.length - i/\i<=xs.length/\Pv i ys H,⟨xs.length,by simp,Nat.zero_le _,h0⟩,?_⟩
 rintro i m ys H ⟨rfl,hi,p⟩
 have hlen:=hl i ys H p
 have q:=hq i ys H hi p
 by_cases hlt:i <xs.length
 ·refine .inr ⟨⟨xs,xs[i],q,by simp [hlt]⟩,by omega,Pv (i+1),fun ys' H' p'=>⟨xs.length - (i+1),by omega,rfl,hlt,p'⟩,fun x H' y=>?_⟩
  obtain⟨e,y⟩:=y
  subst e
  exact hs i x ys _ (y xs q) p
 ·have e:i=xs.length:=by omega
  subst e
  exact .inl ⟨⟨xs,q,Nat.le_refl _⟩,by omega,hd ys H p⟩
structure Nz (K:PySem.W.Frag) (x qual:Str) (st:Stmt) (f:Addr) (fd:FuncData) (its:Array Value):Prop where
 ex:∃(oc:Value) (od:Option Addr) (T:Addr) (kV doc pm:Value) (an:Option Addr) (cdv ct:Value) (osl:Array (Option Value)) (o:Obj) (n:Nat),
  fd=PySem.W.fnOf x qual (iC st) (gA st) (bA st) (.ref T) kV doc pm an cdv ct/\K.lookup f=some ⟨oc,od,.func fd,osl⟩/\PySem.W.codeIn K cdv qual=true/\K.lookup T=some o/\o.data=.seq its n
 kp:PySem.W.keepIn K (.ref f)=true
section
variable {P:Program} {w:World} {K:PySem.W.Frag} {mg:Str->Option Value} {base:Heap} {its:Array Value}
theorem Nz.binds {x qual:Str} {st:Stmt} {f:Addr} {fd:FuncData} {ps:List Str} (F:Nz K x qual st f fd its)
  (h:∀(T:Addr) (kV doc pm:Value) (an:Option Addr) (cdv ct:Value) (us:List Value),us.length=ps.length->∃k,bindArgs (PySem.W.fnOf x qual (iC st) (gA st) (bA st) (.ref T) kV doc pm an cdv ct) ⟨us,[]⟩=seqItems? (.ref T) >>= k/\k (some its)=pure (ps.zip us)):Binds K fd ps []:=by
 obtain⟨oc,od,T,kV,doc,pm,an,cdv,ct,osl,o,n,rfl,lk,hcd,hT,ho⟩:=F.ex
 intro s us X hl
 rw [List.append_nil] at hl ⊢
 obtain⟨k,h1,h2⟩:=h T kV doc pm an cdv ct us hl
 exact .of_defaults rfl (X _ _ hT) ho h1 h2
theorem Ph {x qual:Str} {st:Stmt} {f T:Addr} {oc:Value} {od an:Option Addr} {osl:Array (Option Value)} {kV doc pm cdv ct:Value} {o:Obj} {n:Nat} (l:K.lookup f=some ⟨oc,od,.func (PySem.W.fnOf x qual (iC st) (gA st) (bA st) (.ref T) kV doc pm an cdv ct),osl⟩)
  (c:PySem.W.codeIn K cdv qual=true) (k:PySem.W.keepIn K (.ref f)=true) (d:K.lookup T=some o) (e:o.data=.seq its n):Nz K x qual st f (PySem.W.fnOf x qual (iC st) (gA st) (bA st) (.ref T) kV doc pm an cdv ct) its:=⟨⟨oc,od,T,kV,doc,pm,an,cdv,ct,osl,o,n,rfl,l,c,d,e⟩,k⟩
end
section
variable {X:Cx} {e:Expr} {es:List Expr} {te:TE} {t:TA} {pos:Pos} {st:Stmt} {rest:List Stmt} {ts us:TS}
end
section
variable {X:Cx}
end
section
variable {X:Cx}
end
section
variable {prog:Program} {w:World} {A:Around} {E:Value->Shared->Prop}
end
section
variable {X:Cx} {tg:Expr}
end
section
variable {X:Cx} {e:Expr}
end
section
variable {X:Cx}
end
section
variable {M:Model} {A:Around} {E:Value->Shared->Prop} {nm q:Str} {C N:Addr} {bs bm:List Value} {hdct:Bool} {sn:List Str} {sub:List Value} {ab:Bool} {col:Option Bool} {dd:Option Addr} {k0 k1 k2 k3 k5:Option Value} {newId:String}
end
end L2
namespace L2
open PySem PyProof
theorem wW {es:List Expr} {env:Env} {a b c}:starEach (.Dict a b c:: es) env=(false,eval (.Dict a b c) env):: starEach es env:=rfl
section
variable {X:Cx} {x:Str} {px pos:Pos} {iter elt:Expr} {ifs:List Expr} {scope:Scope} {wi:TI} {tt:TT} {te:TE}
theorem xr (js:List Nat) {pins:List (Addr×Obj)} {σ:St} {s:Shared} {itv:Value} {Q:List V->Hp->Prop} {RR:Value->Addr->Result->Shared->Prop} {E:Value->Shared->Prop}
  (hc:X.calm=true) (hk:scope.kind=.function) (hx:scope.names.lookup x=some .local) (hcell:∀y∈scope.names,y.2≠.cell)
  (hfree:∀y∈scope.names,y.2=.free->X.env.kindOf y.1=some .cell∨X.env.kindOf y.1=some .free)
  (hN:(x:: du X.N js).Nodup) (hjs:∀y∈du X.N js,scope.names.lookup y=some .free)
  (hif:∀cl C s H ex,PF (wX X scope x js cl C s H ex) ifs tt) (he:∀cl C s H ex,PE (wX X scope x js cl C s H ex) elt te)
  (hit:PIE X pins σ (.Name x px) (CompEnd js tt te σ Q) itv s)
  (hR:∀D C s' H2 ys m,Inv X pins σ (upd H2 D (.lst ys)) s'->H2 D=none->s'.heap.Ns C m->(∀h',Heap.SameBut C s'.heap h'->Inv X pins σ (upd H2 D (.lst ys)) { s' with heap:=h' })->DN X pins (upd H2 D (.lst ys)) C->C≠D->Q ys H2->RR (.ref D) C (.ok .next) s'):
  wpAny (model X.prog X.w) X.A (newList []) (fun acc s₃=>wpAny (model X.prog X.w) X.A (newFunctionEnv scope X.env.globals (clos X.env scope.names []) [] X.env.qual none .none (some X.env)) (fun cenv s₄=>
   codeAny (model X.prog X.w) X.A (.compStart (.ListComp elt [⟨.Name x px,iter,ifs,0⟩] scope pos) 0 itv acc { cenv with scope:=relabel scope X.env }) (RR acc cenv.locals) s₄) E s₃) E s:=
 rD (tg:=.Name x px) (g:=tR 0) [x] js hc hk hcell hfree (fun cl C s H ex=>qb (i:=0) hN rfl (.inl (lookup_relabel_local hx)) (.inr (lookup_relabel_local hx))) hif he hjs
  (by
   obtain⟨it,fp,tn,J,H',e,I,T,t0,hf,W,h0,hW⟩:=hit
   exact⟨it,fp,tn,J,H',e,I,T,t0,hf,W,h0,fun i m ys H2 w=>(hW i m ys H2 w).imp_right fun⟨a,b,N,c,d⟩=>⟨a,b,N,c,fun y H3 z=>⟨rfl,d y H3 z⟩⟩⟩) hR
theorem j5 (js:List Nat) (N0:List Str) (sc0:Scope) (hc:X.calm=true) (hi:PI X (.Name x px) iter wi)
  (hif:∀cl C s H ex,PF (wX X scope x js cl C s H ex) ifs tt) (he:∀cl C s H ex,PE (wX X scope x js cl C s H ex) elt te)
  (hk:scope.kind=.function:=by rfl) (hx:scope.names.lookup x=some .local:=by rfl) (hcell:∀y∈scope.names,y.2≠.cell:=by decide +kernel)
  (hnames:∀y∈scope.names,y.2=.local->scope.names.lookup y.1=some .local:=by decide +kernel)
  (hsc:X.env.scope=sc0:=by rfl) (hfree0:∀y∈scope.names,y.2=.free->sc0.names.lookup y.1=some .cell∨sc0.names.lookup y.1=some .free:=by decide +kernel)
  (hNN:X.N=N0:=by rfl) (hN0:(x:: du N0 js).Nodup:=by decide +kernel) (hj0:∀y∈du N0 js,scope.names.lookup y=some .free:=by decide +kernel)
  (hs:∀x,foldedSetIterable iter X.env x=pure x:=by intro _;rfl):
  PE X (.ListComp elt [⟨.Name x px,iter,ifs,0⟩] scope pos) (Qn js wi tt te):=by
 intro pins s σ H Q I h
 have hN:(x:: du X.N js).Nodup:=by rw [hNN];exact hN0
 have hfree:∀y∈scope.names,y.2=.free->X.env.kindOf y.1=some .cell∨X.env.kindOf y.1=some .free:=fun y hy e=>by
  show X.env.scope.names.lookup y.1=some .cell∨X.env.scope.names.lookup y.1=some .free
  rw [hsc];exact hfree0 y hy e
 have hjs:∀y∈du X.N js,scope.names.lookup y=some .free:=by rw [hNN];exact hj0
 rw [eval_ListComp]
 have hcl:closureFor scope X.env=pure (clos X.env scope.names []):=jX fun y hy e=>I.ok.has y.1 (hfree y hy e)
 refine wpAny_comprehension_free (use:=none) rfl hs hcl hk hnames (dJ (hi pins s σ H _ I h) fun xv s1 h1=>dJ h1 fun it s2 h2=>?_)
 refine xr js (RR:=fun acc C=>compPost (model X.prog X.w) X.A X.xe none (EP X pins σ Q) acc C) (Q:=fun ys H2=>∀D,H2 D=none->Q (.ref D) (upd H2 D (.lst ys))) hc hk hx hcell hfree hN hjs hif he h2 ?_
 intro D C s' H2 ys m I' hD hn all fpC hCD hq
 exact⟨m,hn,fun h' sb=>⟨.ref D,_,all h' sb,rfl,hq D hD⟩⟩
theorem qP {i:Nat} {y:Str} {py spos:Pos} (js:List Nat) (N0:List Str) (sc0:Scope) (hc:X.calm=true) (hNX:X.N.Nodup) (hiy:X.N[i]?=some y) (hi:PI X (.Name x px) iter wi)
  (hif:∀cl C s H ex,PF (wX X scope x js cl C s H ex) ifs tt) (he:∀cl C s H ex,PE (wX X scope x js cl C s H ex) elt te)
  (hsw:swapsWith (.ListComp elt [⟨.Name x px,iter,ifs,0⟩] scope pos) (some (.Name y py)) spos.line X.env=pure true:=by rfl) (hy:X.env.scope.names.lookup y=some .local:=by rfl)
  (hk:scope.kind=.function:=by rfl) (hx:scope.names.lookup x=some .local:=by rfl) (hcell:∀y∈scope.names,y.2≠.cell:=by decide +kernel)
  (hnames:∀y∈scope.names,y.2=.local->scope.names.lookup y.1=some .local:=by decide +kernel)
  (hsc:X.env.scope=sc0:=by rfl) (hfree0:∀y∈scope.names,y.2=.free->sc0.names.lookup y.1=some .cell∨sc0.names.lookup y.1=some .free:=by decide +kernel)
  (hNN:X.N=N0:=by rfl) (hN0:(x:: du N0 js).Nodup:=by decide +kernel) (hj0:∀y∈du N0 js,scope.names.lookup y=some .free:=by decide +kernel)
  (hs:∀x,foldedSetIterable iter X.env x=pure x:=by intro _;rfl):
  PS X (.Assign [.Name y py] (.ListComp elt [⟨.Name x px,iter,ifs,0⟩] scope pos) spos) (Kd (Qn js wi tt te) (tR i)):=by
 intro pins s σ H D I h
 have hN:(x:: du X.N js).Nodup:=by rw [hNN];exact hN0
 have hfree:∀y∈scope.names,y.2=.free->X.env.kindOf y.1=some .cell∨X.env.kindOf y.1=some .free:=fun y hy e=>by
  show X.env.scope.names.lookup y.1=some .cell∨X.env.scope.names.lookup y.1=some .free
  rw [hsc];exact hfree0 y hy e
 have hjs:∀y∈du X.N js,scope.names.lookup y=some .free:=by rw [hNN];exact hj0
 rw [exec_Assign_Name_used _ _ _ _ hsw]
 refine wpAny_bind (wpAny_standAt (wpAny_bind ?_))
 show wpAny _ X.A (do let _ <-comprehension (.ListComp elt [⟨.Name x px,iter,ifs,0⟩] scope pos) scope X.env _ (newList []) false (eval iter X.env) (some (assign (.Name y py) X.env))) _ _ s
 have hcl:closureFor scope X.env=pure (clos X.env scope.names []):=jX fun y hy e=>I.ok.has y.1 (hfree y hy e)
 refine wpAny_bind (wpAny_mono (wpAny_comprehension_free (use:=some (assign (.Name y py) X.env)) (Q:=fun _ s'=>SP X pins D .next s') rfl hs hcl hk hnames
  (dJ (hi pins s σ H _ I h) fun xv s1 h1=>dJ h1 fun it s2 h2=>?_)) (fun _ s' hq=>wpAny_pure (wpAny_pure hq)) fun _ _ e=>e)
 refine xr js (RR:=fun acc C=>compPost (model X.prog X.w) X.A X.xe (some (assign (.Name y py) X.env)) (fun _ s'=>SP X pins D .next s') acc C) (Q:=fun ys H2=>∀D',H2 D'=none->D.nx (σ.set i (some (.ref D'))) (upd H2 D' (.lst ys))) hc hk hx hcell hfree hN hjs hif he h2 ?_
 intro D' C s' H2 ys m I' hD hn all fpC hCD hq
 show wpAny _ X.A (assign (.Name y py) X.env (.ref D')) _ _ _
 refine wpAny_assign_Name (wU I' hNX hiy (.inl hy) (v:=.ref D') rfl (fun s'' I'' ⟨a,sb,ha⟩=>?_) (.inr hy))
 obtain⟨f1,f2,f3,f4,f5,f6⟩:=fpC
 have hCa:C≠a:=by
  rcases ha with z | z
  ·rw [z];exact f2
  ·exact fun w=>f5 _ _ z w.symm
 exact⟨m,hn.sameBut sb hCa,fun h' sb'=>⟨_,_,I''.turned (t':=s''.toks) (it:=C) (fun b o hb e=>(sb'.2 b hb).trans e) f1 f2 f4 f5 f6,hq D' hD⟩⟩
end
end L2
namespace L2
open PySem PySem.Spec PyProof.Rows
noncomputable def fdOf (K:PySem.W.Frag) (f:Addr):FuncData:=match K.lookup f with
 | some ⟨_,_,.func d,_⟩=>d
 | _=>default
theorem PQ {K:PySem.W.Frag} {f:Addr} {oc:Value} {od:Option Addr} {fd:FuncData} {osl:Array (Option Value)} (l:K.lookup f=some ⟨oc,od,.func fd,osl⟩):fdOf K f=fd:=by
 unfold fdOf
 rw [l]
structure eX (K:PySem.W.Frag) (nm qn:Str) (s:Stmt) (f:Addr) (ps:List Str):Prop where
 F:QQ K nm qn s f (fdOf K f)
 b:Binds K (fdOf K f) ps []
 i:PySem.W.isFn K (.ref f)=true
theorem eX.me {K:PySem.W.Frag} {nm qn m:Str} {s:Stmt} {f C:Addr} {ps:List Str} (x:eX K nm qn s f ps) (h:PySem.W.findIn K (.ref C) m=some (some (.ref f))):Meth K C m f:=⟨h,x.i,x.F.kp⟩
theorem eX.of {K:PySem.W.Frag} {nm qn:Str} {s:Stmt} {f:Addr} {ps:List Str} {oc:Value} {od an:Option Addr} {osl:Array (Option Value)} {kV doc pm cdv ct:Value}
  (l:K.lookup f=some ⟨oc,od,.func (PySem.W.fnOf nm qn (iC s) (gA s) (bA s) .none kV doc pm an cdv ct),osl⟩) (c:PySem.W.codeIn K cdv qn=true) (k:PySem.W.keepIn K (.ref f)=true) (i:PySem.W.isFn K (.ref f)=true)
  (h:∀(kV doc pm:Value) (an:Option Addr) (cdv ct:Value) (us:List Value),us.length=ps.length->bindArgs (PySem.W.fnOf nm qn (iC s) (gA s) (bA s) .none kV doc pm an cdv ct) ⟨us,[]⟩=pure (ps.zip us)):eX K nm qn s f ps:=by
 have e:fdOf K f=PySem.W.fnOf nm qn (iC s) (gA s) (bA s) .none kV doc pm an cdv ct:=by
  unfold fdOf
  rw [l]
 have F:=RV l c k
 have b:=F.binds h
 rw [<-e] at F b
 exact⟨F,b,i⟩
structure Ws (K:PySem.W.Frag) (nm qn:Str) (s:Stmt) (f:Addr) (ps:List Str):Prop where
 F:Nz K nm qn s f (fdOf K f) #[.none]
 b:Binds K (fdOf K f) ps []
 i:PySem.W.isFn K (.ref f)=true
theorem Ws.of {K:PySem.W.Frag} {nm qn:Str} {s:Stmt} {f T:Addr} {ps:List Str} {oc oe:Value} {od an oh:Option Addr} {osl osm:Array (Option Value)} {kV doc pm cdv ct:Value} {n:Nat}
  (l:K.lookup f=some ⟨oc,od,.func (PySem.W.fnOf nm qn (iC s) (gA s) (bA s) (.ref T) kV doc pm an cdv ct),osl⟩) (d:K.lookup T=some ⟨oe,oh,.seq #[.none] n,osm⟩) (c:PySem.W.codeIn K cdv qn=true) (k:PySem.W.keepIn K (.ref f)=true) (i:PySem.W.isFn K (.ref f)=true)
  (h:∀fd:FuncData,Nz K nm qn s f fd #[.none]->Binds K fd ps []):Ws K nm qn s f ps:=by
 have F:=Ph (its:=#[.none]) l c k d rfl
 have b:=h _ F
 rw [<-PQ l] at F b
 exact⟨F,b,i⟩
structure mX (K:PySem.W.Frag) (mg:Str->Option Value) (nm:Str) (s:Stmt) (f:Addr) (ps:List Str):Prop where
 x:eX K nm nm s f ps
 m:mg nm=some (.ref f)
theorem mX.of {K:PySem.W.Frag} {mg:Str->Option Value} {nm:Str} {s:Stmt} {f:Addr} {ps:List Str} (m:mg nm=some (.ref f)) (x:eX K nm nm s f ps):mX K mg nm s f ps:=⟨x,m⟩
theorem gC {mg:Str->Option Value} {nm:Str} {u:Value} {v:V} (m:mg nm=some u) (r:RelV v u):∃u,mg nm=some u/\RelV v u:=⟨u,m,r⟩
theorem mX.F {K:PySem.W.Frag} {mg:Str->Option Value} {nm:Str} {s:Stmt} {f:Addr} {ps:List Str} (h:mX K mg nm s f ps):QQ K nm nm s f (fdOf K f):=h.x.F
theorem mX.b {K:PySem.W.Frag} {mg:Str->Option Value} {nm:Str} {s:Stmt} {f:Addr} {ps:List Str} (h:mX K mg nm s f ps):Binds K (fdOf K f) ps []:=h.x.b
noncomputable def MB (K:PySem.W.Frag) (C:Addr):List (Str×Addr)->Prop
 | []=>True
 | (m,f):: r=>PySem.W.findIn K (.ref C) m=some (some (.ref f))/\MB K C r
noncomputable def NB (K:PySem.W.Frag) (C:Addr):List Str->Prop
 | []=>True
 | f:: r=>PySem.W.findIn K (.ref C) f=some none/\NB K C r
structure GJ (K:PySem.W.Frag) (mg:Str->Option Value) (nm:Str) (C:Addr) (ms:List (Str×Addr)) (as:List Str):Prop where
 m:mg nm=some (.ref C)
 c:Kz K C
 mks:PySem.W.makesIn K C=true
 kp:PySem.W.keepIn K (.ref C)=true
 me:MB K C ms
 na:NB K C as
theorem GJ.M {K:PySem.W.Frag} {mg:Str->Option Value} {nm:Str} {C f:Addr} {ms:List (Str×Addr)} {as ps:List Str} {n q:Str} {s:Stmt} (h:GJ K mg nm C (("__init__",f):: ms) as) (x:eX K n q s f ps):Mk K C f:=⟨h.mks,h.me.1,x.i,h.kp⟩
theorem SQ {K:PySem.W.Frag} {nm qn:Str} {st:Stmt} {f:Addr} {x:Str} (F:QQ K nm qn st f (fdOf K f))
  (h:∀(kV doc pm:Value) (an:Option Addr) (cdv ct v:Value),bindArgs (PySem.W.fnOf nm qn (iC st) (gA st) (bA st) .none kV doc pm an cdv ct) ⟨[v],[]⟩=pure [(x,v)]) (s:Shared) (v:Value):BindsTo s (fdOf K f) ⟨[v],[]⟩ [(x,v)]:=by
 obtain⟨oc,od,kV,doc,pm,an,cdv,ct,osl,e,lk,hcd⟩:=F.ex
 rw [e]
 exact .of_eq (h kV doc pm an cdv ct v)
theorem Wo {K:PySem.W.Frag} {h:Heap} {C f:Addr} (X:K.In h) (_:PySem.W.findIn K (.ref C) "__init__" =some (some (.ref f))) (b:K9 K C f=true):ExcAt K C:=(zP.ofIn b).at X
theorem us_0 {α:Type} {P:List α->Prop} (h:P []):∀us:List α,us.length=0->P us
 | [],_=>h
theorem Av {α:Type} {P:List α->Prop} (h:∀a,P [a]):∀us:List α,us.length=1->P us
 | [a],_=>h a
theorem Ar {α:Type} {P:List α->Prop} (h:∀a b,P [a,b]):∀us:List α,us.length=2->P us
 | [a,b],_=>h a b
theorem Et {α:Type} {P:List α->Prop} (h:∀a b c,P [a,b,c]):∀us:List α,us.length=3->P us
 | [a,b,c],_=>h a b c
theorem RK {α:Type} {P:List α->Prop} (h:∀a b c d,P [a,b,c,d]):∀us:List α,us.length=4->P us
 | [a,b,c,d],_=>h a b c d
theorem Ua {α:Type} {P:List α->Prop} (h:∀a b c d e,P [a,b,c,d,e]):∀us:List α,us.length=5->P us
 | [a,b,c,d,e],_=>h a b c d e
theorem Wa {α:Type} {P:List α->Prop} (h:∀a b c d e f,P [a,b,c,d,e,f]):∀us:List α,us.length=6->P us
 | [a,b,c,d,e,f],_=>h a b c d e f
theorem us_7 {α:Type} {P:List α->Prop} (h:∀a b c d e f g,P [a,b,c,d,e,f,g]):∀us:List α,us.length=7->P us
 | [a,b,c,d,e,f,g],_=>h a b c d e f g
theorem eX.sc {K:PySem.W.Frag} {nm qn:Str} {s:Stmt} {f:Addr} {ps:List Str} (_:eX K nm qn s f ps) (N:List Str) (h:gH N ps (bA s):=by exact⟨rfl,rfl,rfl,by decide +kernel,rfl,by decide +kernel,by decide +kernel⟩):gH N ps (bA s):=h
theorem mX.sc {K:PySem.W.Frag} {mg:Str->Option Value} {nm:Str} {s:Stmt} {f:Addr} {ps:List Str} (_:mX K mg nm s f ps) (N:List Str) (h:gH N ps (bA s):=by exact⟨rfl,rfl,rfl,by decide +kernel,rfl,by decide +kernel,by decide +kernel⟩):gH N ps (bA s):=h
noncomputable abbrev FO (P:Program) (w:World) (K:PySem.W.Frag) (mg:Str->Option Value) (base:Heap) (k:Nat) (f:Addr) (ps:List Str) (sp:Sp):Prop:=iG P w K mg base Aw k f (fdOf K f) ps sp
theorem Nv {N ps:List Str} {sc:Scope} (h:gH N ps sc:=by exact⟨rfl,rfl,rfl,by decide +kernel,rfl,by decide +kernel,by decide +kernel⟩):gH N ps sc:=h
section
variable {X:Cx} {k k' i:Nat} {f C:Addr} {ps as:List Str} {ms:List (Str×Addr)} {sp:Sp} {x m nm qn n:Str} {p pos apos pos':Pos} {e o:Expr} {es:List Expr} {ta te:TE} {t:TA} {s:Stmt} {N:List Str}
theorem dz (F:iG X.prog X.w X.K X.mg X.base Aw k f (fdOf X.K f) ps sp) (g:mX X.K X.mg x s f ps) (hr:iD k' X.A) (ha:PA X (e:: es) t) (hk:k<=k':=by decide) (hg:Gl X x:=by rfl)
  (hdb:(x == ("__debug__" :Str))=false:=by decide) (he:starEach (e:: es) X.env=(false,eval e X.env):: starEach es X.env:=by rfl) (hpl:(backTo pos (starEach es X.env)).any (·.1)=false:=by rfl):
  PE X (.Call (.Name x p) (e:: es) [] pos) (Q7 sp [] E0 t):=Pa F (hr.mono hk) hg g.m g.F.kp g.b .nil gQ ha hdb he hpl
theorem HW {pl:Sem Bool} (he:PE X o ta) (c:GJ X.K X.mg n C ms as) (hm:PySem.W.findIn X.K (.ref C) m=some (some (.ref f))) (F:iG X.prog X.w X.K X.mg X.base Aw k f (fdOf X.K f) ps sp) (g:eX X.K nm qn s f ps) (hr:iD k' X.A) (ha:PA X (e:: es) t)
  (hk:k<=k':=by decide) (hst:starEach (e:: es) X.env=(false,eval e X.env):: starEach es X.env:=by rfl) (hpl:(backTo pos (starEach es X.env)).any (·.1)=false:=by rfl)
  (ht:eval (.Call (.Attribute o m apos) (e:: es) [] pos) X.env=(do
   let ov <-eval o X.env
   standAt apos.atName
   let (f,first) <-holding [ov] (getMethod ov m pl)
   callWith pos f first (backTo pos (starEach (e:: es) X.env)) (backToKw pos (keywordEach [] X.env))):=by rfl):
  PE X (.Call (.Attribute o m apos) (e:: es) [] pos) (Bh C m sp [] E0 ta t):=O1 he c.c (g.me hm) F (hr.mono hk) g.b .nil gQ ha hst hpl ht
theorem RG {pl:Sem Bool} (he:PE X o ta) (c:GJ X.K X.mg n C ms as) (hm:PySem.W.findIn X.K (.ref C) m=some (some (.ref f))) (F:iG X.prog X.w X.K X.mg X.base Aw k f (fdOf X.K f) ps sp) (g:eX X.K nm qn s f ps) (hr:iD k' X.A)
  (hk:k<=k':=by decide) (ht:eval (.Call (.Attribute o m apos) [] [] pos) X.env=(do
   let ov <-eval o X.env
   standAt apos.atName
   let (f,first) <-holding [ov] (getMethod ov m pl)
   callWith pos f first (backTo pos (starEach [] X.env)) (backToKw pos (keywordEach [] X.env))):=by rfl):
  PE X (.Call (.Attribute o m apos) [] [] pos) (Bh C m sp [] E0 ta G7):=K3 he c.c (g.me hm) F (hr.mono hk) g.b .nil gQ ht
theorem gN {sc:Scope} (S:gH X.N ps sc) (i:Nat) (hi:X.N[i]?=some x:=by rfl) (hx:Loc X.env.scope x:=by first | exact Or.inl rfl | exact Or.inr rfl) (hf:X.fn x=true∨X.env.scope.names.lookup x=some .local:=by first | exact .inl rfl | exact .inr rfl | assumption):PG X (.Name x pos) (tR i):=qb S.nd hi hx hf
theorem sN {sc:Scope} (S:gH X.N ps sc) (i:Nat) (he:PE X e te) (hi:X.N[i]?=some x:=by rfl) (hx:Loc X.env.scope x:=by first | exact Or.inl rfl | exact Or.inr rfl) (hs:swapsWith e (some (.Name x pos')) pos.line X.env=pure false:=by rfl) (hf:X.fn x=true∨X.env.scope.names.lookup x=some .local:=by first | exact .inl rfl | exact .inr rfl | assumption):
  PS X (.Assign [.Name x pos'] e pos) (Kd te (tR i)):=Sx S.nd hi hx he hs hf
theorem Gg (h1:PE X o ta) (h2:PA X (e:: es) t) (hbase:attributeBase o "append" X.env (eval o X.env)=eval o X.env:=by rfl)
  (hfew:((backTo pos (starEach (e:: es) X.env)).all (fun x=>!x.1) && (backToKw pos (keywordEach [] X.env)).all (fun x=>x.1.isSome) && decide ((e:: es).length+([]:List Keyword).length+(if ([]:List Keyword).isEmpty then 0 else 1) <30))=true:=by rfl)
  (hline:(apos.endLine == pos.line)=true:=by rfl) (hs:starEach (e:: es) X.env=(false,eval e X.env):: starEach es X.env:=by rfl) (hplain:(backTo pos (starEach es X.env)).any (·.1)=false:=by rfl):
  PE X (.Call (.Attribute o "append" apos) (e:: es) [] pos) (Wu X.K "list" IV ta t):=yI PySem.F.plainAttrs_list PySem.F.slot_list_append PySem.F.type_list_append JH h1 h2 hbase hfew hline hs hplain
end
theorem ln {sp:Sp} {ps:List Str} (h:∀vs H Q E,sp vs H Q E->vs.length=ps.length:=by
 intro _ _ _ _ h
 first
 | (cases h;subst_vars;rfl)
 | (cases h;rename_i h;cases h;subst_vars;rfl)
 | (obtain⟨_,rfl,_⟩:=h;rfl)
 | (obtain⟨_,_,rfl,_⟩:=h;rfl)
 | (obtain⟨_,_,_,rfl,_⟩:=h;rfl)):∀vs H Q E,sp vs H Q E->vs.length=ps.length:=h
theorem pK {X:Cx}:j8 X (.builtin "len") (fun xs H Q=>∃d kvs,xs=[.ref d]/\Rd H d (.dK kvs)/\Q (.int (kvs.length:Nat)) H):=by
 intro pins s σ H xs us Q I rx h
 obtain⟨d,kvs,rfl,hr,q⟩:=h
 obtain⟨u,rfl,ru⟩:=vals1 rx
 cases ru
 obtain⟨z,hd,vs,rel,dd⟩:=pG I.hok hr
 have hl:kvs.length=vs.length:=Paired.length rel
 have hs:sizeLine=16777216:=sizeLine_eq
 refine call_len_dict (knd:=cG X.prog X.w) hd dd (by omega) ?_
 rw [<-hl]
 exact⟨.int _,H,I.tok _,⟨_,rfl⟩,q⟩
theorem Kc {X:Cx} {K:PySem.W.Frag} (hK:X.K=K):j8 X (.builtin "len") (fun xs H Q=>∃x n,xs=[x]/\Sy K x H n/\Q (V.int (n:Nat)) H):=by subst hK;exact bK
theorem FJ {X:Cx} {pins:List (Addr×Obj)} {σ:St} {H:Hp} {s:Shared} (I:Inv X pins σ H s) (hu:X.A.in1.units+64 <cLine) {ka0 kb0:List (Key×V)} {va vb:List (Key×Value)} (ra:KV ka0 va) (rb:KV kb0 vb) (nd:(vb.map (·.1)).Nodup) (hn:∀(i:Nat) (k:Key) (v:V),ka0[i]?=some (k,v)->∃w d,kb0[i]?=some (k,w)/\Dt X.K H v d/\Dt X.K H w d/\SeqAt.shaped d=true/\PyData.eqv d d=true):
  ∀(n:Nat) {ka:List (Key×Value)},ka=va.drop n->PySem.W.KeqHits X.A.in1 s vb ka true:=by
 intro n ka e
 induction ka generalizing n with
 | nil=>exact .nil
 | cons kv r ih=>
  obtain⟨k,v⟩:=kv
  have hv:va[n]?=some (k,v):=by
   have:=congrArg (·[0]?) e
   simpa using this.symm
  obtain⟨v0,e0,r0⟩:=Js ra hv
  obtain⟨w,d,ew,hd,hw,sh,ev⟩:=hn _ _ _ e0
  obtain⟨v',e',r'⟩:=Jp rb ew
  obtain⟨as,q1⟩:=hd.reads I r0
  obtain⟨bs,q2⟩:=hw.reads I r'
  have hd:r=va.drop (n+1):=by
   have hlt:n <va.length:=(List.getElem?_eq_some_iff.mp hv).1
   rw [List.drop_eq_getElem_cons hlt] at e
   exact(List.cons.inj e).2
  have q:=PySem.W.keq_at (A:=X.A) q1 q2 sh sh hu
  rw [ev] at q
  exact PySem.W.KeqHits.hit (e:=true) (b:=true) (uc nd e') q (ih _ hd)
noncomputable def Ht (K:PySem.W.Frag) (x y:V) (H:Hp):Prop:=∃p q ka kb,x=.ref p/\y=.ref q/\Rd H p (.dK ka)/\Rd H q (.dK kb)/\ka.length=kb.length/\∀(i:Nat) (k:Key) (v:V),ka[i]?=some (k,v)->∃w d,kb[i]?=some (k,w)/\Dt K H v d/\Dt K H w d/\SeqAt.shaped d=true/\PyData.eqv d d=true
theorem Pb {X:Cx} (hu:X.A.units+100 <cLine):v9 X (compareOp .Eq) (fun x y H Q=>Ht X.K x y H/\Q (.bl true) H):=by
 intro pins s σ H x y v u Q I rx ry h
 obtain⟨⟨p,q,ka,kb,rfl,rfl,h1,h2,hl,hn⟩,hq⟩:=h
 cases rx
 cases ry
 obtain⟨_,a1,va,r1,d1⟩:=pG I.hok h1
 obtain⟨_,a2,vb,r2,d2⟩:=pG I.hok h2
 obtain⟨_,_,_,_,_,_,_,_,nd⟩:=id d2
 refine PySem.W.keq_eq a1 a2 d1 d2 (by omega) (fun _=>FJ I (by show X.A.units+1+64 <cLine;omega) r1 r2 nd hn 0 (by simp)) ?_
 have e:va.length=vb.length:=(Paired.length r1).symm.trans (hl.trans (Paired.length r2))
 rw [e,beq_self_eq_true,Bool.true_and]
 exact cD I hq rfl
theorem Oj {X:Cx} (hu:X.A.units+100 <cLine):v9 X (compareOp .NotEq) (fun x y H Q=>Ht X.K x y H/\Q (.bl false) H):=by
 intro pins s σ H x y v u Q I rx ry h
 obtain⟨⟨p,q,ka,kb,rfl,rfl,h1,h2,hl,hn⟩,hq⟩:=h
 cases rx
 cases ry
 obtain⟨_,a1,va,r1,d1⟩:=pG I.hok h1
 obtain⟨_,a2,vb,r2,d2⟩:=pG I.hok h2
 obtain⟨_,_,_,_,_,_,_,_,nd⟩:=id d2
 refine PySem.W.keq_ne a1 a2 d1 d2 (by omega) (fun _=>FJ I (by show X.A.units+1+64 <cLine;omega) r1 r2 nd hn 0 (by simp)) ?_
 have e:va.length=vb.length:=(Paired.length r1).symm.trans (hl.trans (Paired.length r2))
 rw [e,beq_self_eq_true,Bool.true_and]
 exact cD I hq rfl
end L2
namespace One
open PySem PySem.W PySem.Calls PyProof.Rows
def Cq:Nat->BT->List Obj->BT
 | _,t,[]=>t
 | n,t,o:: r=>Cq (n+1) (t.ins n o) r
def Dj:Nat->BT->List Obj->Bool
 | _,_,[]=>true
 | n,t,o:: r=>((t.ins n o).get n).isSome && Dj (n+1) (t.ins n o) r
theorem Cj {life:Life}:∀(l:List Obj) (n:Nat) (t:BT) (as:List Obj),absHeap t n life=⟨as.toArray,life⟩->Dj n t l=true->absHeap (Cq n t l) (n+l.length) life=⟨(as ++ l).toArray,life⟩
 | [],n,t,as,h,_=>by simpa [Cq] using h
 | o:: r,n,t,as,h,k=>by
  simp only [Dj,Bool.and_eq_true] at k
  have e:=absHeap_ins (life:=life) k.1
  rw [h] at e
  have:=Cj r (n+1) (t.ins n o) (as ++ [o]) (by rw [e];simp [Heap.push]) k.2
  rw [List.append_assoc] at this
  rw [List.length_cons,show n+(r.length+1)=n+1+r.length by omega]
  exact this
def Ue (tb:String->Option Builtin) (p:Program) (w:World) (m:Nat) (an:Option Value):Nat->SharedT->Thread->Option (SharedT×Thread)
 | 0,s,t=>some (s,t)
 | n+1,s,t=>match through t with
  | true=>some (s,t)
  | false=>match stepOk m an t with
   | false=>none
   | true=>match stepT (denote tb) p w s t with
    | some (s',t')=>Ue tb p w m an n s' t'
    | none=>none
theorem KJ {tb:String->Option Builtin} {p:Program} {w:World} {m:Nat} {an:Option Value}:∀{n:Nat} {s s':SharedT} {t t':Thread},Ue tb p w m an n s t=some (s',t')->through t'=true->topRun tb p w m an (n+1) s.abs t=some s'.abs
 | 0,s,s',t,t',h,z=>by
  obtain⟨rfl,rfl⟩:=Prod.mk.inj (Option.some.inj h)
  unfold topRun
  rw [z]
 | n+1,s,s',t,t',h,z=>by
  unfold Ue at h
  unfold topRun
  cases e1:through t with
  | true=>
   rw [e1] at h
   obtain⟨rfl,rfl⟩:=Prod.mk.inj (Option.some.inj h)
   rfl
  | false=>
   rw [e1] at h
   cases e2:stepOk m an t with
   | false=>rw [e2] at h;cases h
   | true=>
    rw [e2] at h
    cases e3:stepT (denote tb) p w s t with
    | none=>rw [e3] at h;cases h
    | some r=>
     obtain⟨s2,t2⟩:=r
     rw [e3] at h
     rw [stepT_spec e3]
     exact KJ h z
def ends (r:SharedT×Thread):Option SharedT:=match through r.2 with
 | true=>some r.1
 | false=>none
theorem Ox {tb:String->Option Builtin} {p:Program} {w:World} {m:Nat} {an:Option Value} {n:Nat} {s s':SharedT} {t:Thread} (h:(Ue tb p w m an n s t).bind ends=some s'):topRun tb p w m an (n+1) s.abs t=some s'.abs:=by
 obtain⟨⟨s2,t2⟩,e1,e2⟩:=Option.bind_eq_some_iff.mp h
 unfold ends at e2
 cases z:through t2 with
 | false=>simp only [z] at e2;cases e2
 | true=>
  simp only [z] at e2
  cases e2
  exact KJ e1 z
noncomputable def Tq (P:Params):Option Value:=(boot_heap P).nsMap mainGlobals "__annotations__"
noncomputable def S0 (w:World) (os:OsState):SharedT:=⟨Cq 0 .nil (boot_heap w.params).objs.toList,11,{},Array.mk [],boot_drawn,boot_toks,os⟩
theorem Sg (w:World) (os:OsState):(S0 w os).abs=⟨boot_heap w.params,Array.mk [],boot_drawn,boot_toks,os⟩:=by
 have e:=Cj (life:={}) (boot_heap w.params).objs.toList 0 .nil [] rfl (by rfl)
 have e2:absHeap (Cq 0 .nil (boot_heap w.params).objs.toList) 11 {}=boot_heap w.params:=e
 show(⟨absHeap (Cq 0 .nil (boot_heap w.params).objs.toList) 11 {},_,_,_,_⟩:Shared)=_
 rw [e2]
 rfl
noncomputable def SN (p:Program) (M:Nat) (w:World) (os:OsState):Option SharedT:=(Ue treeTable p w 11 (Tq w.params) M (S0 w os) (topStub p)).bind ends
noncomputable def Ny (p q:Program) (loose:List Str) (Xt:Shared->Bool) (M:Nat) (w:World) (os:OsState):=
 (SN p M w os).map fun s=>(staticsOk (importedModules p.main.body) (boot_heap w.params) s.abs.heap && namesBound p s.abs.heap && gensDone s.abs && laidKept (boot_heap w.params) s.abs.heap,openSeen q loose (importedModules p.main.body) Xt true s.abs)
theorem O4 {p q:Program} {loose:List Str} {Xt:Shared->Bool} {α:Type} {Yf:Shared->α} {Ya:World->α} {N M:Nat} (e:opening p=plainProg p.main.scope.names) (hN:Nat.ble 600 N=true) (f:∀s,fenceModules? p s=some s) (le:Nat.ble (M+1) N=true)
  (A:∀w os,Ny p q loose Xt M w os=some (true,openGood q loose)) (B:∀w os,(SN p M w os).map (fun s=>Yf s.abs)=some (Ya w)):LeftO p q loose Xt Yf Ya N:=fun w=>by
 obtain⟨⟨h,gs,d,k,os⟩,e1,e2⟩:=Option.map_eq_some_iff.mp (boot_open e hN f w)
 obtain⟨rfl,rfl,rfl,rfl⟩:h=boot_heap w.params/\gs=Array.mk []/\d=boot_drawn/\k=boot_toks:=by simpa using e2
 obtain⟨s1,r1,l1⟩:=Option.map_eq_some_iff.mp (A w os)
 obtain⟨s2,r2,l2⟩:=Option.map_eq_some_iff.mp (B w os)
 rw [r1] at r2
 cases r2
 obtain⟨l3,l4⟩:=Prod.mk.inj l1
 have r3:=Ox r1
 rw [Sg] at r3
 have r4:=topRun_mono (N - (M+1)) _ _ _ _ r3
 rw [show M+1+(N - (M+1))=N by have:=Nat.le_of_ble_eq_true le;omega] at r4
 have t:topFrom treeTable p w N ⟨boot_heap w.params,Array.mk [],boot_drawn,boot_toks,os⟩=some s1.abs:=by
  unfold topFrom
  have z1:((boot_heap w.params).isNs mainGlobals && (Array.mk []:Array GenState).size == 0)=true:=by kernel_rfl
  dsimp only
  rw [z1]
  show((topRun treeTable p w 11 (Tq w.params) N _ _).bind _)=_
  rw [r4]
  show(match staticsOk (importedModules p.main.body) (boot_heap w.params) s1.abs.heap && namesBound p s1.abs.heap && gensDone s1.abs && laidKept (boot_heap w.params) s1.abs.heap with | true=>_ | false=>_)=_
  rw [l3]
 unfold openEnds
 rw [e1]
 show(topFrom treeTable p w N _).map _=_
 rw [t]
 exact congrArg some (Prod.ext l4 l2)
def vV (s:SharedT) (a:Addr):Option Obj:=match Nat.blt a s.n with
 | true=>(match s.tree.get a with | some o=>alive o | none=>none)
 | false=>none
theorem Nj {s:SharedT} {a:Addr} {o:Obj} (h:vV s a=some o):s.abs.heap.get? a=some o:=by
 unfold vV at h
 cases e:Nat.blt a s.n with
 | false=>rw [e] at h;cases h
 | true=>
  rw [e] at h
  cases g:s.tree.get a with
  | none=>rw [g] at h;cases h
  | some x=>
   rw [g] at h
   exact(abs_get (Nat.le_of_ble_eq_true e) g).trans h
theorem Jx {s:SharedT}:∀{as:List Addr} {l:List (Addr×Obj)},as.map (vV s)=l.map (fun p=>some p.2)->as.map s.abs.heap.get?=l.map fun p=>some p.2
 | [],[],_=>rfl
 | [],_:: _,h=>by cases h
 | _:: _,[],h=>by cases h
 | a:: as,x:: l,h=>by
  have h1:=List.cons.inj h
  show s.abs.heap.get? a:: as.map _=_
  rw [Nj h1.1,Jx h1.2]
  rfl
theorem chunk {o:Option SharedT} {as:List Addr} {l:List (Addr×Obj)} (n:Nat) (h1:o.map (fun s=>(as.take n).map (vV s))=some ((l.take n).map fun p=>some p.2)) (h2:o.map (fun s=>(as.drop n).map (vV s))=some ((l.drop n).map fun p=>some p.2)):
  o.map (fun s=>as.map (vV s))=some (l.map fun p=>some p.2):=by
 obtain⟨s,e1,e2⟩:=Option.map_eq_some_iff.mp h1
 subst e1
 have e3:=Option.some.inj h2
 show some (as.map (vV s))=_
 rw [<-List.take_append_drop n as,<-List.take_append_drop n l,List.map_append,List.map_append]
 exact congrArg some (congr (congrArg _ e2) e3)
theorem Ow {o:Option SharedT} {w:World} {K:Params->Frag} {as:List Addr} {e:∀P,as=(K P).map (·.1)} (h:o.map (fun s=>as.map (vV s))=some ((K w.params).map fun p=>some p.2)):
  o.map (fun s=>Hook.obs (kHook K as e) s.abs)=some (Hook.val (kHook K as e) w):=by
 obtain⟨s,h1,h2⟩:=Option.map_eq_some_iff.mp h
 rw [h1]
 exact congrArg some (Jx h2)
end One
namespace HD
open PySem PySem.W PySem.Calls PyProof.Rows
abbrev rr:OpenRow:=OpenLaw.row PySem.Challenge.rw_holdlane_k32_more_workings_go_on
def q:Program:=view PySem.Challenge.pw_holdlane_k32_more_workings_go_on [80]
def loose:List PySem.Str:=(["_wall", "LaneError", "BadWord", "TooMany", "NoKind", "BadName", "Doubled", "NoSuch", "BadNumbers", "BadLanes", "BadRoom", "Open", "Loose", "BadRow", "Flow", "VALUES"]:List PySem.Str) ++ (["FIGURES", "LETTERS", "LONGEST_NAME", "is_whole", "is_value", "is_name", "rest", "LONGEST_ROW", "MOST_WORKINGS", "is_row", "need_rows", "plain_rows", "work_out", "COUNTS", "Part", "Give"]:List PySem.Str) ++ (["Take", "Pass", "Copy", "Turn", "Heap", "Add", "Less", "Order", "Choose", "Split", "is_kind", "need_fit", "made_of", "part_made", "MOST_LANES", "MOST_PARTS"]:List PySem.Str) ++ (["MOST_ROOM", "need_counts", "need_fresh", "need_lane", "fresh_part", "tie_lanes", "need_ends", "joined_with", "need_joined", "Net", "_law_cell", "_law_mix", "_law_value", "_law_word", "_law_lane", "_law_part"]:List PySem.Str) ++ (["_law_pick", "_law_two", "_law_loop", "_law_step", "_law_closed", "_law_net", "_law_rows", "_law_begins", "_law_within"]:List PySem.Str)
def Xt (s:Shared):Bool:=xlAt q [] s && recOk (RowW.records (OpenRow.toRowW (OpenLaw.row PySem.Challenge.rw_holdlane_k32_more_workings_go_on))) s
structure KA where
 K:Params->Frag
 as:List Addr
def pickK {r:OpenRow} {K:Params->Frag} {as:List Addr} (_:(∀H:Hook,(∃e,H=kHook K as e)->r.Holds)->r.Holds):KA:=⟨K,as⟩
local macro_rules | `(tactic| o_head $H)=>`(tactic| (rename_i hh;exact hh $H ⟨_,rfl⟩))
noncomputable def ka:KA:=pickK (r:=rr) (fun _=>by k_head)
theorem Ou (P:Params):KA.as ka=(ka.heap_1 P).map (·.1):=by kernel_rfl
noncomputable def runC:World->OsState->Option SharedT:=fun w os=>One.SN PySem.Challenge.pw_holdlane_k32_more_workings_go_on 14060 w os
noncomputable def DG:=fun(w:World) (os:OsState)=>One.Ny PySem.Challenge.pw_holdlane_k32_more_workings_go_on q loose Xt 14060 w os
noncomputable def Jv:=some (true,openGood q loose)
theorem Rm:runC=runC:=rfl
name_quick runQ for HD.runC by HD.Rm
theorem NT:DG=DG:=rfl
name_quick looksQ for HD.DG by HD.NT
theorem Qh:Jv=Jv:=rfl
name_quick goodQ for HD.Jv by HD.Qh
theorem A0 (w:World) (os:OsState):PySem.W.Fast.looksQ (w.withFollow "special-get-raises" false) os=PySem.W.Fast.goodQ:=by kernel_rfl
theorem Wj (w:World) (os:OsState):(PySem.W.Fast.runQ (w.withFollow "special-get-raises" false) os).map (fun s=>(KA.as ka).map (One.vV s))=some ((ka.heap_1 (w.withFollow "special-get-raises" false).params).map fun p=>some p.2):=by kernel_rfl
theorem B0 (w:World) (os:OsState):(PySem.W.Fast.runQ (w.withFollow "special-get-raises" false) os).map (fun s=>(KA.as ka).map (One.vV s))=some ((ka.heap_1 (w.withFollow "special-get-raises" false).params).map fun p=>some p.2):=Wj w os
theorem A1 (w:World) (os:OsState):PySem.W.Fast.looksQ (w.withFollow "special-get-raises" true) os=PySem.W.Fast.goodQ:=by kernel_rfl
theorem Vt (w:World) (os:OsState):(PySem.W.Fast.runQ (w.withFollow "special-get-raises" true) os).map (fun s=>(KA.as ka).map (One.vV s))=some ((ka.heap_1 (w.withFollow "special-get-raises" true).params).map fun p=>some p.2):=by kernel_rfl
theorem B1 (w:World) (os:OsState):(PySem.W.Fast.runQ (w.withFollow "special-get-raises" true) os).map (fun s=>(KA.as ka).map (One.vV s))=some ((ka.heap_1 (w.withFollow "special-get-raises" true).params).map fun p=>some p.2):=Vt w os
theorem A (w:World):∀os,DG w os=Jv:=by
 rw [PySem.W.Fast.looksQ_eq,PySem.W.Fast.goodQ_eq]
 exact byRow2 "special-get-raises" (P:=fun w=>∀os,PySem.W.Fast.looksQ w os=PySem.W.Fast.goodQ) A0 A1 w
theorem B (w:World):∀os,(runC w os).map (fun s=>(KA.as ka).map (One.vV s))=some ((ka.heap_1 w.params).map fun p=>some p.2):=by
 rw [PySem.W.Fast.runQ_eq]
 exact byRow2 "special-get-raises" (P:=fun w=>∀os,(PySem.W.Fast.runQ w os).map (fun s=>(KA.as ka).map (One.vV s))=some ((ka.heap_1 w.params).map fun p=>some p.2)) B0 B1 w
theorem head {d:DefRec} {kwd:List (PySem.Str×Expr)}
  (hdef:defOf q rr.name=some (d,kwd)) (hp:rr.prog.theDef rr.name=some (d.params,d.body,d.scope)) (hk:kwWritten? d.params.kwonlyargs d.params.kw_defaults=some kwd) (hwr:(!rr.writes || rr.records.isEmpty)=true)
  (k1:rr.wellSaid=true) (ok:(chainsOk q && opensWell rr.prog && (frees rr.toRowW && rr.within.isEmpty))=true) (hb:rr.prog.bare) (ho:opening PySem.Challenge.pw_holdlane_k32_more_workings_go_on=plainProg (PySem.Challenge.pw_holdlane_k32_more_workings_go_on).main.scope.names) (f:∀s,fenceModules? PySem.Challenge.pw_holdlane_k32_more_workings_go_on s=some s)
  (hw:rr.toRowW.promised) (hc:WalkO q loose (XL q []) (Hook.says (kHook ka.heap_1 (KA.as ka) Ou)) rr.toRowW d kwd fun f vs=>PySem.call f vs):rr.Holds:=by
 have left:LeftO PySem.Challenge.pw_holdlane_k32_more_workings_go_on q loose Xt (Hook.obs (kHook ka.heap_1 (KA.as ka) Ou)) (Hook.val (kHook ka.heap_1 (KA.as ka) Ou)) 28700:=One.O4 (M:=14060) ho rfl f rfl A fun w os=>One.Ow (B w os)
 exact holds_open (XP:=XL q []) (YP:=Hook.says (kHook ka.heap_1 (KA.as ka) Ou)) left (Hook.of _) (Hook.keeps _) (fun s z=>xl_of s (Bool.and_eq_true_iff.mp z).1) XL.keeps hdef hp hk (fun s z=>recFacts_of (Bool.and_eq_true_iff.mp z).2) hwr k1 ok hb hw hc
end HD
namespace K32
open PySem L2
theorem lM {α β:Type} {f:α->β} {l:List α}:(l.map f).length=l.length:=List.length_map ..
theorem lP {α:Type} {l m:List α}:(l ++ m).length=l.length+m.length:=List.length_append ..
theorem jy {n:Nat} (h:Nat.ble n 16777216=true:=by rfl):n<=sizeLine:=by rw [sizeLine_eq];exact Nat.le_of_ble_eq_true h
noncomputable def top (i:Nat):Stmt:=PySem.Challenge.pw_holdlane_k32_more_workings_go_on.main.body.getD i (.Pass ⟨0,0,0,0⟩)
set_option genInjectivity false in
structure mW where
 (Aa zq bM rT rP rK rQ rF su uH sy p8 oU pY BW zY Bu ye Ml cz kW cC cU qj pB o8 oK oZ p7 o7 mD kZ lW oO oM za yl vz xN xJ yg xF yN xO yo um yS Ca tX vH xG uR xq xR tY tW jD jF iR rn ik mK oX mq qu rM jJ qw lX qR wZ kY Fi yj zG vp yf uf uq QF Ii GQ GP Hb Ho Hw Mq Hd Di z7 CQ cX bR vN:Addr)
noncomputable abbrev ROWS:List (Str×List Int):=[("give",[0,0,1]),("take",[0,1,0]),("pass",[0,1,1]),("copy",[0,1,2]),("turn",[2,1,1]),("heap",[1,1,1]),("add",[0,2,1]),("less",[0,2,1]),("order",[0,2,2]),("choose",[0,3,1]),("split",[0,2,2])]
structure Txt (w:World) (K:PySem.W.Frag) (mg:Str->Option Value) (t:mW):Prop where
 ir:GJ K mg "Give" t.Ii [("__init__",t.bM),("kind",t.rT),("taking",t.cz),("lacks",t.cC),("worked",t.oO),("start",t.cU)] ["name", "numbers", "ins", "outs"]
 gY:GJ K mg "Take" t.GQ [("__init__",t.bM),("kind",t.rP),("taking",t.cz),("lacks",t.cC),("worked",t.oM),("start",t.cU)] ["name", "numbers", "ins", "outs"]
 gP:GJ K mg "Pass" t.GP [("__init__",t.bM),("kind",t.rK),("taking",t.cz),("lacks",t.cC),("worked",t.pB),("start",t.cU)] ["name", "numbers", "ins", "outs"]
 gO:GJ K mg "Copy" t.Hb [("__init__",t.bM),("kind",t.rQ),("taking",t.cz),("lacks",t.cC),("worked",t.o8),("start",t.cU)] ["name", "numbers", "ins", "outs"]
 gZ:GJ K mg "Turn" t.Ho [("__init__",t.bM),("kind",t.rF),("taking",t.cz),("lacks",t.cC),("worked",t.oK),("start",t.cU)] ["name", "numbers", "ins", "outs"]
 ig:GJ K mg "Heap" t.Hw [("__init__",t.bM),("kind",t.su),("taking",t.cz),("lacks",t.cC),("worked",t.oZ),("start",t.qj)] ["name", "numbers", "ins", "outs"]
 j6:GJ K mg "Add" t.Mq [("__init__",t.bM),("kind",t.uH),("taking",t.cz),("lacks",t.cC),("worked",t.p7),("start",t.cU)] ["name", "numbers", "ins", "outs"]
 il:GJ K mg "Less" t.Hd [("__init__",t.bM),("kind",t.sy),("taking",t.cz),("lacks",t.cC),("worked",t.o7),("start",t.cU)] ["name", "numbers", "ins", "outs"]
 fc:GJ K mg "Order" t.Di [("__init__",t.bM),("kind",t.p8),("taking",t.cz),("lacks",t.cC),("worked",t.mD),("start",t.cU)] ["name", "numbers", "ins", "outs"]
 dU:GJ K mg "Choose" t.z7 [("__init__",t.bM),("kind",t.oU),("taking",t.kW),("lacks",t.cC),("worked",t.kZ),("start",t.cU)] ["name", "numbers", "ins", "outs"]
 fB:GJ K mg "Split" t.CQ [("__init__",t.bM),("kind",t.pY),("taking",t.cz),("lacks",t.cC),("worked",t.lW),("start",t.cU)] ["name", "numbers", "ins", "outs"]
 bw:GJ K mg "Net" t.cX [("__init__",t.mq),("lane_names",t.jD),("part_names",t.jF),("names_of_kind",t.iR),("gives",t.rn),("need_lane_name",t.ik),("first_of",t.mK),("part_of",t.oX)] ["rooms", "firsts", "parts", "givers", "takers"]
 aQ:GJ K mg "Flow" t.bR [("__init__",t.kY),("holds",t.qu),("head",t.rM),("row_ended",t.jJ),("heads",t.qw),("lacking",t.lX),("deed",t.qR),("do",t.wZ)] ["net", "ever", "gone", "kept", "done", "rows"]
 mJ:mX K mg "is_whole" (top 22) t.Aa ["thing"]
 mF:mX K mg "is_value" (top 23) t.zq ["thing"]
 aU:eX K "__init__" "Part.__init__" (inClass (top 35) 0) t.bM ["self", "name", "numbers", "ins", "outs"]
 oH:eX K "kind" "Give.kind" (inClass (top 36) 0) t.rT ["self"]
 mZ:eX K "kind" "Take.kind" (inClass (top 37) 0) t.rP ["self"]
 nC:eX K "kind" "Pass.kind" (inClass (top 38) 0) t.rK ["self"]
 m8:eX K "kind" "Copy.kind" (inClass (top 39) 0) t.rQ ["self"]
 oE:eX K "kind" "Turn.kind" (inClass (top 40) 0) t.rF ["self"]
 m6:eX K "kind" "Heap.kind" (inClass (top 41) 0) t.su ["self"]
 ql:eX K "kind" "Add.kind" (inClass (top 42) 0) t.uH ["self"]
 m7:eX K "kind" "Less.kind" (inClass (top 43) 0) t.sy ["self"]
 lq:eX K "kind" "Order.kind" (inClass (top 44) 0) t.p8 ["self"]
 jV:eX K "kind" "Choose.kind" (inClass (top 45) 0) t.oU ["self"]
 lO:eX K "kind" "Split.kind" (inClass (top 46) 0) t.pY ["self"]
 sI:mX K mg "is_kind" (top 47) t.BW ["word"]
 uG:mX K mg "need_fit" (top 48) t.zY ["kind", "name", "numbers", "ins", "outs"]
 Bg:mX K mg "made_of" (top 49) t.Bu ["kind", "name", "numbers", "ins", "outs"]
 xV:mX K mg "part_made" (top 50) t.ye ["kind", "name", "numbers", "ins", "outs"]
 yW:mX K mg "rest" (top 25) t.Ml ["number"]
 bj:eX K "taking" "Part.taking" (inClass (top 35) 4) t.cz ["self", "heads"]
 jc:eX K "taking" "Choose.taking" (inClass (top 45) 1) t.kW ["self", "heads"]
 bu:eX K "lacks" "Part.lacks" (inClass (top 35) 3) t.cC ["self", "heads"]
 bB:eX K "start" "Part.start" (inClass (top 35) 2) t.cU ["self"]
 lu:eX K "start" "Heap.start" (inClass (top 41) 1) t.qj ["self"]
 jR:eX K "worked" "Pass.worked" (inClass (top 38) 1) t.pB ["self", "values", "kept"]
 jW:eX K "worked" "Copy.worked" (inClass (top 39) 1) t.o8 ["self", "values", "kept"]
 jP:eX K "worked" "Turn.worked" (inClass (top 40) 1) t.oK ["self", "values", "kept"]
 jO:eX K "worked" "Heap.worked" (inClass (top 41) 2) t.oZ ["self", "values", "kept"]
 lA:eX K "worked" "Add.worked" (inClass (top 42) 1) t.p7 ["self", "values", "kept"]
 jQ:eX K "worked" "Less.worked" (inClass (top 43) 1) t.o7 ["self", "values", "kept"]
 jm:eX K "worked" "Order.worked" (inClass (top 44) 1) t.mD ["self", "values", "kept"]
 jd:eX K "worked" "Choose.worked" (inClass (top 45) 2) t.kZ ["self", "values", "kept"]
 jw:eX K "worked" "Split.worked" (inClass (top 46) 1) t.lW ["self", "values", "kept"]
 jN:eX K "worked" "Give.worked" (inClass (top 36) 1) t.oO ["self", "values", "kept"]
 jU:eX K "worked" "Take.worked" (inClass (top 37) 1) t.oM ["self", "values", "kept"]
 aX:mX K mg "_law_mix" (top 66) t.za ["_law_cell_here", "_law_k"]
 gM:mX K mg "_law_cell" (top 65) t.yl ["_law_script", "_law_k"]
 fj:mX K mg "_law_value" (top 67) t.vz ["_law_cell_here", "_law_k"]
 ji:mX K mg "_law_word" (top 68) t.xN ["_law_cell_here", "_law_k"]
 gU:mX K mg "_law_lane" (top 69) t.xJ ["_law_state", "_law_cell_here", "_law_back"]
 j0:mX K mg "_law_pick" (top 71) t.yg ["_law_state", "_law_number"]
 b7:mX K mg "_law_part" (top 70) t.xF ["_law_state", "_law_cell_here", "_law_kind", "_law_numbers", "_law_ins", "_law_many"]
 uK:mX K mg "_law_two" (top 72) t.yN ["_law_state", "_law_cell_here", "_law_one", "_law_odd"]
 rR:mX K mg "_law_loop" (top 73) t.xO ["_law_state", "_law_cell_here", "_law_one"]
 rE:mX K mg "_law_step" (top 74) t.yo ["_law_state", "_law_cell_here", "_law_odd"]
 pq:mX K mg "_law_closed" (top 75) t.um ["_law_state", "_law_cell_here", "_law_back"]
 uz:mX K mg "_law_net" (top 76) t.yS ["_law_script", "_law_start", "_law_steps", "_law_odd"]
 xf:mX K mg "is_name" (top 24) t.Ca ["thing"]
 oY:mX K mg "need_counts" (top 55) t.tX ["lanes", "parts"]
 lB:mX K mg "need_fresh" (top 56) t.vH ["name", "known"]
 rO:mX K mg "need_lane" (top 57) t.xG ["name", "room", "first"]
 qi:mX K mg "fresh_part" (top 58) t.uR ["row", "known"]
 m5:mX K mg "tie_lanes" (top 59) t.xq ["part", "lanes", "rooms", "ends"]
 rG:mX K mg "need_ends" (top 60) t.xR ["rooms", "givers", "takers"]
 o9:mX K mg "joined_with" (top 61) t.tY ["part", "givers", "takers"]
 oV:mX K mg "need_joined" (top 62) t.tW ["names", "givers", "takers"]
 iI:eX K "lane_names" "Net.lane_names" (inClass (top 63) 1) t.jD ["self"]
 fP:eX K "part_names" "Net.part_names" (inClass (top 63) 2) t.jF ["self"]
 iQ:eX K "names_of_kind" "Net.names_of_kind" (inClass (top 63) 5) t.iR ["self", "kind"]
 oA:eX K "gives" "Net.gives" (inClass (top 63) 3) t.rn ["self"]
 ie:eX K "need_lane_name" "Net.need_lane_name" (inClass (top 63) 12) t.ik ["self", "name"]
 lY:eX K "first_of" "Net.first_of" (inClass (top 63) 8) t.mK ["self", "name"]
 iV:eX K "part_of" "Net.part_of" (inClass (top 63) 11) t.oX ["self", "name"]
 fQ:eX K "__init__" "Net.__init__" (inClass (top 63) 0) t.mq ["self", "lanes", "parts"]
 pR:eX K "holds" "Flow.holds" (inClass (top 16) 1) t.qu ["self", "lane"]
 qY:eX K "head" "Flow.head" (inClass (top 16) 5) t.rM ["self", "lane"]
 jC:eX K "row_ended" "Flow.row_ended" (inClass (top 16) 8) t.jJ ["self", "name"]
 lH:eX K "heads" "Flow.heads" (inClass (top 16) 6) t.qw ["self", "part"]
 mU:eX K "lacking" "Flow.lacking" (inClass (top 16) 7) t.lX ["self", "name"]
 oJ:eX K "deed" "Flow.deed" (inClass (top 16) 9) t.qR ["self", "name"]
 wY:eX K "do" "Flow.do" (inClass (top 16) 10) t.wZ ["self", "name", "deed"]
 iZ:eX K "__init__" "Flow.__init__" (inClass (top 16) 0) t.kY ["self", "net", "rows"]
 yV:mX K mg "is_row" (top 29) t.Fi ["thing"]
 qX:mX K mg "need_rows" (top 30) t.yj ["net", "rows"]
 uI:mX K mg "work_out" (top 32) t.zG ["flow", "name", "most"]
 dB:mX K mg "plain_rows" (top 31) t.vp ["net", "rows", "most"]
 qI:mX K mg "_law_rows" (top 77) t.yf ["_law_script", "_law_parts", "_law_start"]
 fD:mX K mg "_law_begins" (top 78) t.uf ["_law_found", "_law_early"]
 jT:mX K mg "_law_within" (top 79) t.uq ["_law_found", "_law_lanes", "_law_most"]
 JG:mX K mg "law" (top 80) t.QF ["_law_script"]
 Cu:mg "COUNTS" =some (.ref t.vN)
 Fz:KTab w K t.vN ROWS
 Ik:mg "all" =none
 SX:mg "bool" =none
 Um:mg "int" =none
 lD:mg "isinstance" =none
 dG:mg "len" =none
 uD:mg "list" =none
 Iu:mg "max" =none
 Vg:mg "min" =none
 m9:mg "range" =none
 Qu:mg "str" =none
 yD:mg "tuple" =none
 Fg:∃u,mg "VALUES" =some u/\RelV (.int 1000000000) u
 Bm:∃u,mg "LETTERS" =some u/\RelV (.str "abcdefghijklmnopqrstuvwxyz") u
 zO:∃u,mg "LONGEST_NAME" =some u/\RelV (.int 8) u
 Ku:∃u,mg "FIGURES" =some u/\RelV (.str "0123456789") u
 Eh:∃u,mg "MOST_LANES" =some u/\RelV (.int 24) u
 CK:∃u,mg "MOST_PARTS" =some u/\RelV (.int 16) u
 Fo:∃u,mg "MOST_ROOM" =some u/\RelV (.int 199) u
 Ax:∃u,mg "LONGEST_ROW" =some u/\RelV (.int 300) u
 yr:∃u,mg "MOST_WORKINGS" =some u/\RelV (.int 300) u
section
variable {P:Program} {w:World} {K:PySem.W.Frag} {mg:Str->Option Value} {base:Heap} {t:mW}
noncomputable def d8 (i:Nat):Str:=match i with
 | 0=> "give"
 | 1=> "take"
 | 2=> "pass"
 | 3=> "copy"
 | 4=> "turn"
 | 5=> "heap"
 | 6=> "add"
 | 7=> "less"
 | 8=> "order"
 | 9=> "choose"
 | _=> "split"
noncomputable def cN (i:Nat):Nat:=match i with
 | 0=>0
 | 1=>0
 | 2=>0
 | 3=>0
 | 4=>2
 | 5=>1
 | 6=>0
 | 7=>0
 | 8=>0
 | 9=>0
 | _=>0
noncomputable def cI (i:Nat):Nat:=match i with
 | 0=>0
 | 1=>1
 | 2=>1
 | 3=>1
 | 4=>1
 | 5=>1
 | 6=>2
 | 7=>2
 | 8=>2
 | 9=>3
 | _=>2
noncomputable def cO (i:Nat):Nat:=match i with
 | 0=>1
 | 1=>0
 | 2=>1
 | 3=>2
 | 4=>1
 | 5=>1
 | 6=>1
 | 7=>1
 | 8=>2
 | 9=>1
 | _=>2
noncomputable def cls (t:mW) (i:Nat):Addr:=match i with
 | 0=>t.Ii
 | 1=>t.GQ
 | 2=>t.GP
 | 3=>t.Hb
 | 4=>t.Ho
 | 5=>t.Hw
 | 6=>t.Mq
 | 7=>t.Hd
 | 8=>t.Di
 | 9=>t.z7
 | _=>t.CQ
theorem row_of (i:Nat):rowOf ROWS (d8 i)=some [((cN i:Nat):Int),((cI i:Nat):Int),((cO i:Nat):Int)]:=match i with
 | 0=>by show rowOf ROWS "give" =some [0,0,1];decide +kernel
 | 1=>by show rowOf ROWS "take" =some [0,1,0];decide +kernel
 | 2=>by show rowOf ROWS "pass" =some [0,1,1];decide +kernel
 | 3=>by show rowOf ROWS "copy" =some [0,1,2];decide +kernel
 | 4=>by show rowOf ROWS "turn" =some [2,1,1];decide +kernel
 | 5=>by show rowOf ROWS "heap" =some [1,1,1];decide +kernel
 | 6=>by show rowOf ROWS "add" =some [0,2,1];decide +kernel
 | 7=>by show rowOf ROWS "less" =some [0,2,1];decide +kernel
 | 8=>by show rowOf ROWS "order" =some [0,2,2];decide +kernel
 | 9=>by show rowOf ROWS "choose" =some [0,3,1];decide +kernel
 | n+10=>by show rowOf ROWS "split" =some [0,2,2];decide +kernel
theorem iz (T:Txt w K mg t) (i:Nat):Kz K (cls t i):=match i with
 | 0=>T.ir.c
 | 1=>T.gY.c
 | 2=>T.gP.c
 | 3=>T.gO.c
 | 4=>T.gZ.c
 | 5=>T.ig.c
 | 6=>T.j6.c
 | 7=>T.il.c
 | 8=>T.fc.c
 | 9=>T.dU.c
 | n+10=>T.fB.c
theorem yE (T:Txt w K mg t) (i:Nat):oN K (cls t i) "name" :=match i with
 | 0=>T.ir.na.1
 | 1=>T.gY.na.1
 | 2=>T.gP.na.1
 | 3=>T.gO.na.1
 | 4=>T.gZ.na.1
 | 5=>T.ig.na.1
 | 6=>T.j6.na.1
 | 7=>T.il.na.1
 | 8=>T.fc.na.1
 | 9=>T.dU.na.1
 | n+10=>T.fB.na.1
theorem qg (T:Txt w K mg t) (i:Nat):oN K (cls t i) "numbers" :=match i with
 | 0=>T.ir.na.2.1
 | 1=>T.gY.na.2.1
 | 2=>T.gP.na.2.1
 | 3=>T.gO.na.2.1
 | 4=>T.gZ.na.2.1
 | 5=>T.ig.na.2.1
 | 6=>T.j6.na.2.1
 | 7=>T.il.na.2.1
 | 8=>T.fc.na.2.1
 | 9=>T.dU.na.2.1
 | n+10=>T.fB.na.2.1
theorem wO (T:Txt w K mg t) (i:Nat):oN K (cls t i) "ins" :=match i with
 | 0=>T.ir.na.2.2.1
 | 1=>T.gY.na.2.2.1
 | 2=>T.gP.na.2.2.1
 | 3=>T.gO.na.2.2.1
 | 4=>T.gZ.na.2.2.1
 | 5=>T.ig.na.2.2.1
 | 6=>T.j6.na.2.2.1
 | 7=>T.il.na.2.2.1
 | 8=>T.fc.na.2.2.1
 | 9=>T.dU.na.2.2.1
 | n+10=>T.fB.na.2.2.1
theorem El (T:Txt w K mg t) (i:Nat):oN K (cls t i) "outs" :=match i with
 | 0=>T.ir.na.2.2.2.1
 | 1=>T.gY.na.2.2.2.1
 | 2=>T.gP.na.2.2.2.1
 | 3=>T.gO.na.2.2.2.1
 | 4=>T.gZ.na.2.2.2.1
 | 5=>T.ig.na.2.2.2.1
 | 6=>T.j6.na.2.2.2.1
 | 7=>T.il.na.2.2.2.1
 | 8=>T.fc.na.2.2.2.1
 | 9=>T.dU.na.2.2.2.1
 | n+10=>T.fB.na.2.2.2.1
theorem Uq (i:Nat):cN i<=2:=match i with
 | 0=>by show 0<=2;decide
 | 1=>by show 0<=2;decide
 | 2=>by show 0<=2;decide
 | 3=>by show 0<=2;decide
 | 4=>by show 2<=2;decide
 | 5=>by show 1<=2;decide
 | 6=>by show 0<=2;decide
 | 7=>by show 0<=2;decide
 | 8=>by show 0<=2;decide
 | 9=>by show 0<=2;decide
 | n+10=>by show 0<=2;decide
theorem Bt (i:Nat):cI i<=3:=match i with
 | 0=>by show 0<=3;decide
 | 1=>by show 1<=3;decide
 | 2=>by show 1<=3;decide
 | 3=>by show 1<=3;decide
 | 4=>by show 1<=3;decide
 | 5=>by show 1<=3;decide
 | 6=>by show 2<=3;decide
 | 7=>by show 2<=3;decide
 | 8=>by show 2<=3;decide
 | 9=>by show 3<=3;decide
 | n+10=>by show 2<=3;decide
theorem Mp (i:Nat):cO i<=2:=match i with
 | 0=>by show 1<=2;decide
 | 1=>by show 0<=2;decide
 | 2=>by show 1<=2;decide
 | 3=>by show 2<=2;decide
 | 4=>by show 1<=2;decide
 | 5=>by show 1<=2;decide
 | 6=>by show 1<=2;decide
 | 7=>by show 1<=2;decide
 | 8=>by show 2<=2;decide
 | 9=>by show 1<=2;decide
 | n+10=>by show 2<=2;decide
theorem jf {f:Str} {y:V} {fs:List (Str×V)} {n:Nat} (h:fs.length<=n):(aG f y fs).length<=n+1:=Nat.le_trans (sr f y fs) (Nat.succ_le_succ h)
noncomputable def zF (nm:V) (tn ti to:Addr):List (Str×V):=aG "outs" (.ref to) (aG "ins" (.ref ti) (aG "numbers" (.ref tn) (aG "name" nm [])))
theorem wK (nm:V) (tn ti to:Addr):(zF nm tn ti to).lookup ("name" :Str)=some nm:=by
 unfold zF
 rw [aB,if_neg (by decide +kernel),aB,if_neg (by decide +kernel),aB,if_neg (by decide +kernel),aB,if_pos rfl]
theorem pQ (nm:V) (tn ti to:Addr):(zF nm tn ti to).lookup ("numbers" :Str)=some (.ref tn):=by
 unfold zF
 rw [aB,if_neg (by decide +kernel),aB,if_neg (by decide +kernel),aB,if_pos rfl]
theorem rJ (nm:V) (tn ti to:Addr):(zF nm tn ti to).lookup ("ins" :Str)=some (.ref ti):=by
 unfold zF
 rw [aB,if_neg (by decide +kernel),aB,if_pos rfl]
theorem Ck (nm:V) (tn ti to:Addr):(zF nm tn ti to).lookup ("outs" :Str)=some (.ref to):=by
 unfold zF
 rw [aB,if_pos rfl]
theorem sJ (nm:V) (tn ti to:Addr) {m:Str} (h1:¬m= "outs") (h2:¬m= "ins") (h3:¬m= "numbers") (h4:¬m= "name"):(zF nm tn ti to).lookup m=none:=by
 unfold zF
 rw [aB,if_neg h1,aB,if_neg h2,aB,if_neg h3,aB,if_neg h4]
 all_goals rfl
structure eU (K:PySem.W.Frag) (t:mW) (H:Hp) (p:Addr) (i:Nat) (nm:V) (ns is os:List V):Prop where
 ex:∃dx tn ti to,H p=some (.ins (cls t i) dx (zF nm tn ti to))/\gK K H tn ns/\gK K H ti is/\gK K H to os
theorem eU.same {H H':Hp} {p:Addr} {i:Nat} {nm:V} {ns is os:List V} (h:eU K t H p i nm ns is os) (s:aK H H'):eU K t H' p i nm ns is os:=by
 obtain⟨dx,tn,ti,to,h1,h2,h3,h4⟩:=h
 exact⟨dx,tn,ti,to,s _ _ h1,s.seqT h2,s.seqT h3,s.seqT h4⟩
noncomputable def iB (i:Nat):Sp:=fun vs H Q _=>∃x,vs=[x]/\Q (.str (d8 i)) H
noncomputable def nV (j:Nat):V:=.int (j:Nat)
inductive Val (v:V):Prop where
 | mk:∀n:Int,v=.int n->0<=n->n <1000000000->Val v
inductive Flat:PyData->Prop
 | non:Flat .none
 | int (i:Int):Flat (.int i)
noncomputable def places (i:Nat) (hs:List V):List Nat:=if i=9 then(match hs with | .int n:: _=>[0,1+(n % 2).toNat] | _=>[0]) else List.range hs.length
noncomputable def uT (i:Nat) (hs:List V):Prop:=hs.length=cI i/\∀h∈hs,h=.non∨∃n:Int,h=.int n
noncomputable def ue (hs:List V) (q:Nat):Bool:=decide (hs[q]?=some V.non)
noncomputable def Ji (i:Nat) (hs:List V):V:=match (places i hs).find? (ue hs) with
 | some q=>nV q
 | none=>.non
theorem jK {i:Nat} {hs:List V} (h:uT i hs):∀q∈places i hs,q <hs.length:=by
 intro q hq
 unfold places at hq
 by_cases hi:i=9
 ·rw [if_pos hi] at hq
  have hl:hs.length=3:=by rw [h.1,hi];rfl
  rw [hl]
  split at hq
  ·rename_i n r
   have h0:=Int.emod_nonneg n (show(2:Int)≠0 by decide)
   have h1:=Int.emod_lt_of_pos n (show(0:Int) <2 by decide)
   simp at hq
   omega
  ·simp at hq
   omega
 ·rw [if_neg hi] at hq
  simpa using hq
theorem Jb {f:Nat->Bool}:∀{l:List Nat} {j q:Nat},l[j]?=some q->(∀x∈l.take j,f x=false)->f q=true->l.find? f=some q
 | [],_,_,e,_,_=>by simp at e
 | x:: r,0,q,e,_,hq=>by
  simp at e
  subst e
  rw [List.find?_cons,hq]
 | x:: r,j+1,q,e,h,hq=>by
  have hx:f x=false:=h x (by simp)
  rw [List.find?_cons,hx]
  exact Jb (l:=r) (j:=j) (by simpa using e) (fun y hy=>h y (by simp [hy])) hq
theorem O3 {f:Nat->Bool} {l:List Nat} (h:∀x∈l,f x=false):l.find? f=none:=by
 rw [List.find?_eq_none]
 intro x hx
 rw [h x hx]
 decide
inductive lU (K:PySem.W.Frag) (t:mW) (i:Nat) (vs:List V) (H:Hp) (Q:VK) (E:XK):Prop where
 | mk:∀(p a:Addr) (nm:V) (ns is os hs:List V),vs=[.ref p,.ref a]->eU K t H p i nm ns is os->is.length=cI i->bT K H a hs->uT i hs->(∀H' L,aK H H'->H L=none->H' L=some (.lst ((places i hs).map nV))->Q (.ref L) H')->lU K t i vs H Q E
inductive u5 (K:PySem.W.Frag) (t:mW) (i:Nat) (vs:List V) (H:Hp) (Q:VK) (E:XK):Prop where
 | mk:∀(p a:Addr) (nm:V) (ns is os hs:List V),vs=[.ref p,.ref a]->eU K t H p i nm ns is os->is.length=cI i->bT K H a hs->uT i hs->(∀H',aK H H'->Q (Ji i hs) H')->u5 K t i vs H Q E
noncomputable def g0 (l:List Int):Int:=l.getD 0 0
noncomputable def g1 (l:List Int):Int:=l.getD 1 0
noncomputable def cV (i:Nat):Nat:=match i with
 | 0=>1
 | 1=>1
 | 2=>1
 | 3=>1
 | 4=>1
 | 5=>1
 | 6=>2
 | 7=>2
 | 8=>2
 | 9=>2
 | _=>2
noncomputable def cj (i:Nat) (ns ws:List Int) (kp:Int):List (Int×Int):=match i with
 | 0=>[(0,g0 ws)]
 | 1=>[]
 | 2=>[(0,g0 ws)]
 | 3=>[(0,g0 ws),(1,g0 ws)]
 | 4=>[(0,(g0 ns * g0 ws+g1 ns) % 1000000000)]
 | 5=>[(0,(kp+g0 ws) % 1000000000)]
 | 6=>[(0,(g0 ws+g1 ws) % 1000000000)]
 | 7=>[(0,if g0 ws <g1 ws then 1 else 0)]
 | 8=>[(0,if g1 ws <g0 ws then g1 ws else g0 ws),(1,if g1 ws <g0 ws then g0 ws else g1 ws)]
 | 9=>[(0,g1 ws)]
 | _=>[(g0 ws % 2,g1 ws)]
noncomputable def fZ (i:Nat) (ws:List Int) (kp:Int):Int:=if i=5 then(kp+g0 ws) % 1000000000 else kp
noncomputable def Ew (ps:List (Int×Int)):List (List V):=ps.map fun p=>[.int p.1,.int p.2]
noncomputable def S8 (ws:List Int):Prop:=∀w∈ws,0<=w/\w <1000000000
inductive dW (K:PySem.W.Frag) (t:mW) (i:Nat) (vs:List V) (H:Hp) (Q:VK) (E:XK):Prop where
 | mk:∀(p a:Addr) (nm:V) (ns:List Int) (is os:List V) (ws:List Int) (kp:Int),vs=[.ref p,.ref a,.int kp]->eU K t H p i nm (ns.map V.int) is os->ns.length=cN i->bT K H a (ws.map V.int)->ws.length=cV i->S8 ws->(∀H' U L rs,aK H H'->H L=none->H' U=some (.tup [.ref L,.int (fZ i ws kp)])->H' L=some (.lst (rs.map V.ref))->iW H' rs (Ew (cj i ns ws kp))->Q (.ref U) H')->dW K t i vs H Q E
theorem vA {H:Hp} {Q:VK} {a b x y:Int} (hx:x=a) (hy:y=b) (k:∀H' L rs,aK H H'->H L=none->H' L=some (.lst (rs.map V.ref))->iW H' rs (Ew [(a,b)])->Q (.ref L) H') {t0 L:Addr} (n0:H t0=none)
  (nL:(upd H t0 (.tup [.int x,.int y])) L=none):Q (.ref L) (upd (upd H t0 (.tup [.int x,.int y])) L (.lst [.ref t0])):=by
 subst hx hy
 have s0:=aF (o:=.tup [.int x,.int y]) n0
 have s1:=aF (o:=.lst [.ref t0]) nL
 exact k _ L [t0] (s0.trans s1) (s0.free nL) aA (.cons (s1 _ _ aA) .nil)
theorem QB {H:Hp} {Q:VK} {a b c d x y u v:Int} (hx:x=a) (hy:y=b) (hu:u=c) (hv:v=d) (k:∀H' L rs,aK H H'->H L=none->H' L=some (.lst (rs.map V.ref))->iW H' rs (Ew [(a,b),(c,d)])->Q (.ref L) H') {t0 t1 L:Addr} (n0:H t0=none)
  (n1:(upd H t0 (.tup [.int x,.int y])) t1=none) (nL:(upd (upd H t0 (.tup [.int x,.int y])) t1 (.tup [.int u,.int v])) L=none):Q (.ref L) (upd (upd (upd H t0 (.tup [.int x,.int y])) t1 (.tup [.int u,.int v])) L (.lst [.ref t0,.ref t1])):=by
 subst hx hy hu hv
 have s0:=aF (o:=.tup [.int x,.int y]) n0
 have s1:=aF (o:=.tup [.int u,.int v]) n1
 have s2:=aF (o:=.lst [.ref t0,.ref t1]) nL
 exact k _ L [t0,t1] (s0.trans (s1.trans s2)) (s0.free (s1.free nL)) aA (.cons (s2 _ _ (s1 _ _ aA)) (.cons (s2 _ _ aA) .nil))
theorem zz {H:Hp} {Q:VK} {c:Int} {ps:List (Int×Int)} (k:∀H' U L rs,aK H H'->H L=none->H' U=some (.tup [.ref L,.int c])->H' L=some (.lst (rs.map V.ref))->iW H' rs (Ew ps)->Q (.ref U) H'):
  ∀H' L rs,aK H H'->H L=none->H' L=some (.lst (rs.map V.ref))->iW H' rs (Ew ps)->∀U,H' U=none->Q (.ref U) (upd H' U (.tup [.ref L,.int c])):=fun H' L rs s nL eL tL U nU=>
 have s2:=aF (o:=.tup [.ref L,.int c]) nU
 k _ U L rs (s.trans s2) nL aA (s2 _ _ eL) (tL.same s2)
theorem dM:(2:Nat)<=sizeLine:=by decide
theorem one_le:(1:Nat)<=sizeLine:=by decide
theorem Wb {a b:Int} {ws:List Int} (h:S8 ws) (hb:b∈ws):IntMulOk a b:=.of_right (intBits_le_64 (by have:=(h b hb).1;omega) (by have:=(h b hb).2;omega))
noncomputable def Ep (i:Nat) (ns:List V):V:=if i=5 then ns.headD .non else .int 0
inductive qO (K:PySem.W.Frag) (t:mW) (i:Nat) (vs:List V) (H:Hp) (Q:VK) (E:XK):Prop where
 | mk:∀(p:Addr) (nm:V) (ns is os:List V),vs=[.ref p]->eU K t H p i nm ns is os->ns.length=cN i->Q (Ep i ns) H->qO K t i vs H Q E
noncomputable def Su (i:Nat) (kv:V) (ns:List V):List V:=if i=5 then [kv] else ns
inductive zN (K:PySem.W.Frag) (t:mW) (i:Nat) (vs:List V) (H:Hp) (Q:VK) (E:XK):Prop where
 | mk:∀(p:Addr) (kv nm:V) (ns is os:List V),vs=[.ref p,kv]->i<=10->eU K t H p i nm ns is os->(∀H' q,aK H H'->H q=none->eU K t H' q i nm (Su i kv ns) is os->Q (.ref q) H')->zN K t i vs H Q E
noncomputable def bO (a b:Int):Int:=((((a % 2147483647 * 48271+7919 * b+11) % 2147483647) * ((a % 2147483647 * 48271+7919 * b+11) % 2147483647) % 2147483629+613 * b) * (((a % 2147483647 * 48271+7919 * b+11) % 2147483647) * ((a % 2147483647 * 48271+7919 * b+11) % 2147483647) % 2147483629)) % 2147483587
theorem yc (a b:Int):0<=bO a b:=Int.emod_nonneg _ (by decide)
noncomputable def jA (ns:List Int) (j:Nat):Int:=(ns[j]?).getD (41 * (j:Int)+3)
noncomputable def mH (a b:Int):Int:=if bO a b / 7 % 3=0 then bO a b % 5 else if bO a b / 7 % 3=1 then bO a b % 10 ^ 9 else 10 ^ 9 - 1 - bO a b % 3
theorem lV (a b:Int):0<=mH a b/\mH a b <1000000000:=by
 unfold mH
 have h0:=yc a b
 generalize bO a b=n at h0
 split
 ·omega
 ·split
  ·have h1:=Int.emod_lt_of_pos n (show(0:Int) <10 ^ 9 by decide)
   have h2:=Int.emod_nonneg n (show(10:Int) ^ 9≠0 by decide)
   exact⟨h2,h1⟩
  ·have h1:=Int.emod_lt_of_pos n (show(0:Int) <3 by decide)
   have h2:=Int.emod_nonneg n (show(3:Int)≠0 by decide)
   have e:(10:Int) ^ 9=1000000000:=by decide
   rw [e]
   omega
noncomputable def low (c:Nat):Bool:=decide (97<=c) && decide (c<=122)
noncomputable def Jo (c:Nat):Bool:=decide (48<=c) && decide (c<=57)
noncomputable def nameB (x:Str):Bool:=match x.cps.toList with
 | []=>false
 | c:: r=>decide (r.length<=7) && (low c && (c:: r).all fun d=>low d || Jo d)
theorem lQ (x:Str):x.cps.toList.length=x.length:=by simp [Str.length]
theorem zT:∀(ws:List Str),(Str.join Str.empty ws).cps.toList=(ws.map fun w=>w.cps.toList).flatten
 | []=>rfl
 | [w]=>by simp [Str.join]
 | w:: v:: r=>by
  have ih:=zT (v:: r)
  show(w.cps ++ #[] ++ (Str.join Str.empty (v:: r)).cps).toList=_
  rw [Array.toList_append,ih]
  simp
theorem Lk {n:Nat}:∀(ws:List Str),(∀w∈ws,w.length<=n)->(ws.map (·.length)).sum<=ws.length * n
 | [],_=>by simp
 | w:: r,h=>by
  have h1:=h w (by simp)
  have h2:=Lk r fun v hv=>h v (by simp [hv])
  simp only [List.map_cons,List.sum_cons,List.length_cons,Nat.add_mul]
  omega
noncomputable def Gz (n:Int):Nat:=97+(n % 26).toNat
theorem DK (n:Int):low (Gz n)=true:=by
 unfold low Gz
 have h0:=Int.emod_nonneg n (show(26:Int)≠0 by decide)
 have h1:=Int.emod_lt_of_pos n (show(0:Int) <26 by decide)
 simp
 omega
noncomputable abbrev LT:Str:= "abcdefghijklmnopqrstuvwxyz"
theorem HR:LT.length=26:=by decide +kernel
theorem MN:LT.cps.toList=List.range' 97 26:=by decide +kernel
theorem Mh (n:Int):Gq LT.cps.toList (n % 26)=some (Gz n):=by
 have h0:=Int.emod_nonneg n (show(26:Int)≠0 by decide)
 have h1:=Int.emod_lt_of_pos n (show(0:Int) <26 by decide)
 obtain⟨j,hj⟩:∃j:Nat,n % 26=(j:Int):=⟨(n % 26).toNat,by omega⟩
 unfold Gz
 rw [hj,MN]
 exact aM (by rw [List.getElem?_range' (by omega)];simp)
noncomputable def fW (a:Int):List Nat:=(List.range (bO a 50 % 7).toNat).map fun j=>Gz (bO a (60+(j:Nat)))
noncomputable def n6 (a:Int):Nat:=(bO a 51 % (bO a 50 % 7+1)).toNat
noncomputable def Hx (n:Nat):List Nat:=(toString (Int.ofNat n):Str).cps.toList
noncomputable def xP (a:Int) (k:Nat):List Nat:=if bO a 52 % 3=0 then Gz (bO a 53):: Hx (bO a 54 % 1000+37 * (k:Int)).toNat else(fW a).take (n6 a) ++ Gz (bO a 55+k):: (fW a).drop (n6 a)
noncomputable def cJ (a:Int) (k:Nat):Str:=⟨(xP a k).toArray⟩
noncomputable def K4 (l:List Nat):Nat:=l.foldl (fun r c=>10 * r+(c - 48)) 0
theorem Qg:(List.range 2000).all (fun i=>(Hx i).all Jo && decide ((Hx i).length<=4) && decide (K4 (Hx i)=i))=true:=by decide +kernel
theorem sY {n:Nat} (h:n <2000):(Hx n).all Jo=true/\(Hx n).length<=4/\K4 (Hx n)=n:=by
 have z:=List.all_eq_true.mp Qg n (List.mem_range.mpr h)
 simp only [Bool.and_eq_true,decide_eq_true_eq] at z
 exact⟨z.1.1,z.1.2,z.2⟩
theorem yR (a:Int):(fW a).length<=6/\((fW a).length:Int)=bO a 50 % 7:=by
 unfold fW
 have h0:=Int.emod_nonneg (bO a 50) (show(7:Int)≠0 by decide)
 have h1:=Int.emod_lt_of_pos (bO a 50) (show(0:Int) <7 by decide)
 rw [lM,List.length_range]
 omega
theorem IW (a:Int):n6 a<=(fW a).length:=by
 have h:=(yR a).2
 unfold n6
 have h0:=Int.emod_nonneg (bO a 50) (show(7:Int)≠0 by decide)
 have h1:=Int.emod_lt_of_pos (bO a 51) (show(0:Int) <bO a 50 % 7+1 by omega)
 have h2:=Int.emod_nonneg (bO a 51) (show bO a 50 % 7+1≠0 by omega)
 omega
theorem yX {x:Str} {c:Nat} {r:List Nat} (e:x.cps.toList=c:: r) (h:r.length<=7) (hc:low c=true) (ha:∀d∈r,low d=true∨Jo d=true):nameB x=true:=by
 unfold nameB
 rw [e]
 simp only [Bool.and_eq_true,decide_eq_true_eq,List.all_eq_true,Bool.or_eq_true]
 refine⟨h,hc,fun d hd=>?_⟩
 rcases List.mem_cons.mp hd with rfl | hd
 ·exact .inl hc
 ·exact ha d hd
theorem zJ (a:Int) (k:Nat):(cJ a k).cps.toList=xP a k:=by simp [cJ]
theorem JF (a:Int) {k:Nat} (hk:k <26):nameB (cJ a k)=true:=by
 have h0:=Int.emod_nonneg (bO a 54) (show(1000:Int)≠0 by decide)
 have h1:=Int.emod_lt_of_pos (bO a 54) (show(0:Int) <1000 by decide)
 have e:=zJ a k
 unfold xP at e
 split at e
 ·obtain⟨n1,n2,_⟩:=sY (n:=(bO a 54 % 1000+37 * (k:Int)).toNat) (by omega)
  exact yX e (by omega) (DK _) fun c hc=>.inr (List.all_eq_true.mp n1 c hc)
 ·have b1:=(yR a).1
  have b2:=IW a
  have all:∀c∈(fW a).take (n6 a) ++ Gz (bO a 55+k):: (fW a).drop (n6 a),low c=true:=fun c hc=>by
   have hb:∀c∈fW a,low c=true:=fun c hc=>by
    unfold fW at hc
    obtain⟨j,_,rfl⟩:=List.mem_map.mp hc
    exact DK _
   rcases List.mem_append.mp hc with h | h
   ·exact hb c (List.mem_of_mem_take h)
   ·rcases List.mem_cons.mp h with rfl | h
    ·exact DK _
    ·exact hb c (List.mem_of_mem_drop h)
  have len:((fW a).take (n6 a) ++ Gz (bO a 55+k):: (fW a).drop (n6 a)).length<=7:=by
   rw [lP,List.length_take,List.length_cons,List.length_drop]
   omega
  have ne:(fW a).take (n6 a) ++ Gz (bO a 55+k):: (fW a).drop (n6 a)≠[]:=by simp
  generalize (fW a).take (n6 a) ++ Gz (bO a 55+k):: (fW a).drop (n6 a)=l at all len ne e
  obtain⟨c,r,rfl⟩:=List.exists_cons_of_ne_nil ne
  rw [List.length_cons] at len
  exact yX e (by omega) (all c List.mem_cons_self) fun d hd=>.inl (all d (List.mem_cons_of_mem _ hd))
theorem Gu (a:Int) {j k:Nat} (hj:j <26) (hk:k <26) (h:cJ a j=cJ a k):j=k:=by
 have e:xP a j=xP a k:=by
  have:=congrArg (fun s:Str=>s.cps.toList) h
  simpa [cJ] using this
 unfold xP at e
 split at e
 ·have h0:=Int.emod_nonneg (bO a 54) (show(1000:Int)≠0 by decide)
  have h1:=Int.emod_lt_of_pos (bO a 54) (show(0:Int) <1000 by decide)
  have e2:=congrArg K4 (List.cons.inj e).2
  rw [(sY (by omega)).2.2,(sY (by omega)).2.2] at e2
  omega
 ·have e2:=(List.cons.inj (List.append_cancel_left e)).1
  unfold Gz at e2
  omega
namespace Drawn
variable {S:Type}
structure iu (S:Type) where
 kind:Nat
 name:S
 nums:List Int
 ins:List S
 outs:List S
structure NS (S:Type) where
 lanes:List S
 parts:List (iu S)
 opens:List S
 back:List S
inductive iY (ps:List (iu S)):S->S->Prop
 | refl (x:S):iY ps x x
 | step {x y z:S} {p:iu S}:p∈ps->x∈p.ins ++ p.outs->y∈p.ins ++ p.outs->iY ps y z->iY ps x z
theorem iY.trans {ps:List (iu S)} {x y z:S} (h:iY ps x y) (k:iY ps y z):iY ps x z:=by
 induction h with
 | refl _=>exact k
 | step hp hx hy _ ih=>exact .step hp hx hy (ih k)
theorem iY.symm {ps:List (iu S)} {x y:S} (h:iY ps x y):iY ps y x:=by
 induction h with
 | refl _=>exact .refl _
 | step hp hx hy _ ih=>exact ih.trans (.step hp hy hx (.refl _))
theorem iY.mono {ps qs:List (iu S)} (hs:∀p∈ps,p∈qs) {x y:S} (h:iY ps x y):iY qs x y:=by
 induction h with
 | refl _=>exact .refl _
 | step hp hx hy _ ih=>exact .step (hs _ hp) hx hy ih
theorem iY.part {ps:List (iu S)} {p:iu S} (hp:p∈ps) {x y:S} (hx:x∈p.ins ++ p.outs) (hy:y∈p.ins ++ p.outs):iY ps x y:=.step hp hx hy (.refl _)
structure WF (ns:NS S):Prop where
 nod:ns.lanes.Nodup
 outs:((ns.parts.flatMap (·.outs)) ++ ns.back).Perm ns.lanes
 ins:((ns.parts.flatMap (·.ins)) ++ ns.opens).Perm ns.lanes
 hang:∀p∈ns.parts,∃x∈p.ins ++ p.outs,∃o∈ns.opens,iY ns.parts x o
 touch:∀p∈ns.parts,p.ins ++ p.outs≠[]
theorem WF.add {ns:NS S} (w:WF ns) {p:iu S} {newl opens' back':List S} (hn:(ns.lanes ++ newl).Nodup) (ho:(p.outs ++ back').Perm (ns.back ++ newl)) (hi:(p.ins ++ opens').Perm (ns.opens ++ newl))
  (hg:∀o∈ns.opens,∃o'∈opens',iY (ns.parts ++ [p]) o o') (hp:∃x∈p.ins ++ p.outs,∃o∈opens',iY (ns.parts ++ [p]) x o):
  WF { lanes:=ns.lanes ++ newl,parts:=ns.parts ++ [p],opens:=opens',back:=back' }:=by
 have mono:∀q∈ns.parts,q∈ns.parts ++ [p]:=fun q hq=>List.mem_append.mpr (.inl hq)
 refine⟨hn,?_,?_,?_,?_⟩
 ·have e:(ns.parts ++ [p]).flatMap (·.outs)=ns.parts.flatMap (·.outs) ++ p.outs:=by simp
  show(((ns.parts ++ [p]).flatMap (·.outs)) ++ back').Perm _
  rw [e,List.append_assoc]
  exact(ho.append_left _).trans (by rw [<-List.append_assoc];exact w.outs.append_right _)
 ·have e:(ns.parts ++ [p]).flatMap (·.ins)=ns.parts.flatMap (·.ins) ++ p.ins:=by simp
  show(((ns.parts ++ [p]).flatMap (·.ins)) ++ opens').Perm _
  rw [e,List.append_assoc]
  exact(hi.append_left _).trans (by rw [<-List.append_assoc];exact w.ins.append_right _)
 ·intro q hq
  rcases List.mem_append.mp hq with h | h
  ·obtain⟨x,hx,o,hoq,c⟩:=w.hang q h
   obtain⟨o',ho',c'⟩:=hg o hoq
   exact⟨x,hx,o',ho',(c.mono mono).trans c'⟩
  ·rw [List.mem_singleton] at h
   subst h
   exact hp
 ·intro q hq
  rcases List.mem_append.mp hq with h | h
  ·exact w.touch q h
  ·rw [List.mem_singleton] at h
   subst h
   obtain⟨x,hx,_⟩:=hp
   intro z
   rw [z] at hx
   cases hx
theorem WF.start:WF (⟨[],[],[],[]⟩:NS S):=⟨List.nodup_nil,.refl _,.refl _,fun p hp=>(by cases hp),fun p hp=>(by cases hp)⟩
theorem WF.backLane {ns:NS S} (w:WF ns) {b:S} (hn:(ns.lanes ++ [b]).Nodup):WF { ns with lanes:=ns.lanes ++ [b],opens:=ns.opens ++ [b],back:=ns.back ++ [b] }:=by
 refine⟨hn,?_,?_,fun p hp=>?_,w.touch⟩
 ·show(_ ++ (ns.back ++ [b])).Perm _
  rw [<-List.append_assoc]
  exact w.outs.append_right _
 ·show(_ ++ (ns.opens ++ [b])).Perm _
  rw [<-List.append_assoc]
  exact w.ins.append_right _
 ·obtain⟨x,hx,o,ho,c⟩:=w.hang p hp
  exact⟨x,hx,o,List.mem_append.mpr (.inl ho),c⟩
theorem WF.part {ns:NS S} (w:WF ns) {p:iu S} {rest:List S} (hi:ns.opens.Perm (p.ins ++ rest)) (hf:(ns.lanes ++ p.outs).Nodup) (ho:p.outs≠[]):
  WF { ns with lanes:=ns.lanes ++ p.outs,parts:=ns.parts ++ [p],opens:=rest ++ p.outs }:=by
 have hp:p∈ns.parts ++ [p]:=by simp
 obtain⟨o1,hoo⟩:∃o1,o1∈p.outs:=List.exists_mem_of_ne_nil _ ho
 have h1:o1∈rest ++ p.outs:=List.mem_append.mpr (.inr hoo)
 refine w.add hf List.perm_append_comm ?_ (fun o h=>?_) ⟨o1,List.mem_append.mpr (.inr hoo),o1,h1,.refl _⟩
 ·rw [<-List.append_assoc]
  exact hi.symm.append_right _
 ·rcases List.mem_append.mp (hi.mem_iff.mp h) with h | h
  ·exact⟨o1,h1,iY.part hp (List.mem_append.mpr (.inl h)) (List.mem_append.mpr (.inr hoo))⟩
  ·exact⟨o,List.mem_append.mpr (.inl h),.refl _⟩
theorem WF.take {ns:NS S} (w:WF ns) {p:iu S} {rest:List S} {y x:S} (hi:p.ins=[y]) (ho:p.outs=[]) (hr:ns.opens.Perm (y:: rest)) (hx:x∈rest) (c:iY ns.parts y x):
  WF { ns with parts:=ns.parts ++ [p],opens:=rest }:=by
 have mono:∀q∈ns.parts,q∈ns.parts ++ [p]:=fun q hq=>List.mem_append.mpr (.inl hq)
 have:=w.add (p:=p) (newl:=[]) (opens':=rest) (back':=ns.back) (by rw [List.append_nil];exact w.nod) (by rw [ho,List.append_nil];exact .refl _) (by rw [hi,List.append_nil];exact hr.symm)
  (fun o h=>by
   rcases List.mem_cons.mp (hr.mem_iff.mp h) with rfl | h
   ·exact⟨x,hx,c.mono mono⟩
   ·exact⟨o,h,.refl _⟩) ⟨y,by simp [hi],x,hx,c.mono mono⟩
 rw [List.append_nil] at this
 exact this
theorem WF.loop {ns:NS S} (w:WF ns) {p:iu S} {rest:List S} {one own fresh:S} (hi:p.ins=[one,own]) (ho:p.outs=[own,fresh]) (hr:ns.opens.Perm (one:: rest)) (hn:(ns.lanes ++ [own,fresh]).Nodup):
  WF { ns with lanes:=ns.lanes ++ [own,fresh],parts:=ns.parts ++ [p],opens:=rest ++ [fresh] }:=by
 have hp:p∈ns.parts ++ [p]:=by simp
 have hf:fresh∈rest ++ [fresh]:=by simp
 refine w.add hn (by rw [ho];exact List.perm_append_comm) ?_ (fun o h=>?_) ⟨fresh,by simp [ho],fresh,hf,.refl _⟩
 ·rw [hi]
  show(one:: own:: (rest ++ [fresh])).Perm (ns.opens ++ [own,fresh])
  refine .trans ?_ (hr.symm.append_right _)
  refine .cons _ ?_
  show(own:: (rest ++ [fresh])).Perm (rest ++ ([own] ++ [fresh]))
  rw [<-List.append_assoc]
  exact(List.perm_append_comm (l₁:=[own]) (l₂:=rest)).append_right [fresh]
 ·rcases List.mem_cons.mp (hr.mem_iff.mp h) with rfl | h
  ·exact⟨fresh,hf,iY.part hp (by simp [hi]) (by simp [ho])⟩
  ·exact⟨o,List.mem_append.mpr (.inl h),.refl _⟩
theorem WF.closeBack {ns:NS S} (w:WF ns) {p:iu S} {rest:List S} {one b fresh:S} (hi:p.ins=[one]) (ho:p.outs=[b,fresh]) (hb:ns.back.Perm (b:: rest)) (h1:ns.opens=[one]) (hn:(ns.lanes ++ [fresh]).Nodup):
  WF { lanes:=ns.lanes ++ [fresh],parts:=ns.parts ++ [p],opens:=[fresh],back:=rest }:=by
 have hp:p∈ns.parts ++ [p]:=by simp
 refine w.add hn ?_ (by rw [hi,h1]) (fun o h=>?_) ⟨fresh,by simp [ho],fresh,by simp,.refl _⟩
 ·rw [ho]
  show(b:: fresh:: rest).Perm (ns.back ++ [fresh])
  refine .trans ?_ (hb.symm.append_right _)
  exact .cons _ (List.perm_append_comm (l₁:=[fresh]) (l₂:=rest))
 ·rw [h1,List.mem_singleton] at h
  subst h
  exact⟨fresh,by simp,iY.part hp (by simp [hi]) (by simp [ho])⟩
theorem WF.last {ns:NS S} (w:WF ns) {p:iu S} {y:S} (hb:ns.back=[]) (h1:ns.opens=[y]) (hi:p.ins=[y]) (ho:p.outs=[]):
  ((ns.parts ++ [p]).flatMap (·.outs)).Perm ns.lanes/\((ns.parts ++ [p]).flatMap (·.ins)).Perm ns.lanes/\∀q∈ns.parts ++ [p],∃x∈q.ins ++ q.outs,iY (ns.parts ++ [p]) x y:=by
 have mono:∀q∈ns.parts,q∈ns.parts ++ [p]:=fun q hq=>List.mem_append.mpr (.inl hq)
 refine⟨?_,?_,?_⟩
 ·have e:(ns.parts ++ [p]).flatMap (·.outs)=ns.parts.flatMap (·.outs):=by simp [ho]
  rw [e]
  have:=w.outs
  rw [hb,List.append_nil] at this
  exact this
 ·have e:(ns.parts ++ [p]).flatMap (·.ins)=ns.parts.flatMap (·.ins) ++ [y]:=by simp [hi]
  rw [e]
  have:=w.ins
  rw [h1] at this
  exact this
 ·intro q hq
  rcases List.mem_append.mp hq with h | h
  ·obtain⟨x,hx,o,hoq,c⟩:=w.hang q h
   rw [h1,List.mem_singleton] at hoq
   subst hoq
   exact⟨x,hx,c.mono mono⟩
  ·rw [List.mem_singleton] at h
   subst h
   exact⟨y,by simp [hi],.refl _⟩
theorem Ia {ps:List (iu S)} {J:iu S->Prop} (closed:∀(l:S) (p q:iu S),p∈ps->q∈ps->l∈p.ins ++ p.outs->l∈q.ins ++ q.outs->J p->J q) {y:S} (hang:∀q∈ps,∃x∈q.ins ++ q.outs,iY ps x y)
  {p0:iu S} (hp0:p0∈ps) (h0:J p0):∀q∈ps,J q:=by
 have go:∀{x z:S},iY ps x z->(∃p∈ps,x∈p.ins ++ p.outs/\J p)->∃p∈ps,z∈p.ins ++ p.outs/\J p:=by
  intro x z c
  induction c with
  | refl _=>exact id
  | step hp hx hy _ ih=>
   rintro⟨p',hp',hx',hJ⟩
   exact ih ⟨_,hp,hy,closed _ _ _ hp' hp hx' hx hJ⟩
 obtain⟨x0,hx0,c0⟩:=hang p0 hp0
 have hy:=go c0 ⟨p0,hp0,hx0,h0⟩
 intro q hq
 obtain⟨x,hx,c⟩:=hang q hq
 obtain⟨p',hp',hx',hJ⟩:=go c.symm hy
 exact closed _ _ _ hp' hq hx' hx hJ
theorem J0 {ps:List (iu S)} (f:iu S->List S) (h:(ps.flatMap f).Nodup) {i j:Nat} {p q:iu S} {l:S} (hi:ps[i]?=some p) (hj:ps[j]?=some q) (hp:l∈f p) (hq:l∈f q):i=j:=by
 induction ps generalizing i j with
 | nil=>cases hi
 | cons r rs ih=>
  rw [List.flatMap_cons,List.nodup_append] at h
  obtain⟨h1,h2,h3⟩:=h
  have far:∀{k:Nat} {s:iu S},rs[k]?=some s->l∈f s->l∈rs.flatMap f:=fun e hs=>List.mem_flatMap.mpr ⟨_,List.mem_of_getElem? e,hs⟩
  match i,j with
  | 0,0=>rfl
  | 0,j+1=>
   simp only [List.getElem?_cons_zero,Option.some.injEq] at hi
   subst hi
   exact absurd rfl (h3 l hp l (far (by simpa using hj) hq))
  | i+1,0=>
   simp only [List.getElem?_cons_zero,Option.some.injEq] at hj
   subst hj
   exact absurd rfl (h3 l hq l (far (by simpa using hi) hp))
  | i+1,j+1=>exact congrArg (· +1) (ih h2 (by simpa using hi) (by simpa using hj))
end Drawn
structure aH where
 name:Str
 room:Int
 first:List Int
noncomputable def aH.ok (l:aH):Prop:=1<=l.room/\l.room<=10/\(l.first.length:Int)<=l.room/\∀v∈l.first,0<=v/\v <1000000000
noncomputable abbrev PD:=Drawn.iu Str
noncomputable def ph (p:PD):Prop:=p.kind <11/\p.nums.length=cN p.kind/\p.ins.length=cI p.kind/\p.outs.length=cO p.kind/\∀v∈p.nums,0<=v/\v <1000000000
noncomputable def bH (E:List Addr) (H:Hp):Hp:=fun b=>if b∈E then none else H b
theorem fM {E:List Addr} {H:Hp}:aK (bH E H) H:=fun b o e=>by
 unfold bH at e
 split at e
 ·cases e
 ·exact e
theorem eQ {E:List Addr} {H:Hp} {p:Addr} {o:HO} (h:H p=some o) (n:p∉E):bH E H p=some o:=by
 unfold bH
 rw [if_neg n]
 exact h
theorem fC {E:List Addr} {H:Hp} {a:Addr} {o:HO} (h:a∈E):bH E (upd H a o)=bH E H:=by
 funext b
 unfold bH
 split
 ·rfl
 ·rename_i n
  rw [aJ (fun z=>n (by rw [z];exact h))]
theorem Fd {E:List Addr} {H H':Hp} (s:aK H H') (hE:∀a∈E,∃o,H a=some o):aK (bH E H) (bH E H'):=fun b o e=>by
 have e':=fM b o e
 unfold bH at e ⊢
 split at e
 ·cases e
 ·rename_i n
  rw [if_neg n]
  exact s _ _ e'
inductive gJ {α β:Type} (R:α->β->Prop):List α->List β->Prop
 | nil:gJ R [] []
 | cons {a:α} {b:β} {l:List α} {m:List β}:R a b->gJ R l m->gJ R (a:: l) (b:: m)
theorem gJ.imp {α β:Type} {R R':α->β->Prop} (h:∀a b,R a b->R' a b):∀{l:List α} {m:List β},gJ R l m->gJ R' l m
 | _,_,.nil=>.nil
 | _,_,.cons r t=>.cons (h _ _ r) (t.imp h)
theorem gJ.length {α β:Type} {R:α->β->Prop}:∀{l:List α} {m:List β},gJ R l m->l.length=m.length
 | _,_,.nil=>rfl
 | _,_,.cons _ t=>by rw [List.length_cons,List.length_cons,t.length]
theorem gJ.app {α β:Type} {R:α->β->Prop}:∀{l l':List α} {m m':List β},gJ R l m->gJ R l' m'->gJ R (l ++ l') (m ++ m')
 | _,_,_,_,.nil,h=>h
 | _,_,_,_,.cons r t,h=>.cons r (t.app h)
theorem gJ.get {α β:Type} {R:α->β->Prop}:∀{l:List α} {m:List β},gJ R l m->∀{i:Nat} {a:α},l[i]?=some a->∃b,m[i]?=some b/\R a b
 | _,_,.nil,_,_,h=>by simp at h
 | _,_,.cons r t,0,_,h=>by
  simp only [List.getElem?_cons_zero,Option.some.injEq] at h
  subst h
  exact⟨_,rfl,r⟩
 | _,_,.cons r t,i+1,_,h=>t.get (i:=i) (by simpa using h)
theorem gJ.take {α β:Type} {R:α->β->Prop}:∀{l:List α} {m:List β},gJ R l m->∀n:Nat,gJ R (l.take n) (m.take n)
 | _,_,.nil,_=>by simp;exact .nil
 | _,_,.cons r t,0=>by simp;exact .nil
 | _,_,.cons r t,n+1=>by simp;exact .cons r (t.take n)
theorem gJ.drop {α β:Type} {R:α->β->Prop}:∀{l:List α} {m:List β},gJ R l m->∀n:Nat,gJ R (l.drop n) (m.drop n)
 | _,_,.nil,_=>by simp;exact .nil
 | _,_,.cons r t,0=>.cons r t
 | _,_,.cons r t,n+1=>by simp;exact t.drop n
inductive pW (G:Hp) (v:V) (l:aH):Prop where
 | mk:∀q f,v=.ref q->G q=some (.tup [.str l.name,.int l.room,.ref f])->G f=some (.lst (l.first.map V.int))->pW G v l
inductive xm (G:Hp) (v:V) (p:PD):Prop where
 | mk:∀q a1 a2 a3,v=.ref q->G q=some (.tup [.str (d8 p.kind),.str p.name,.ref a1,.ref a2,.ref a3])->G a1=some (.lst (p.nums.map V.int))->G a2=some (.lst (p.ins.map V.str))->G a3=some (.lst (p.outs.map V.str))->xm G v p
theorem pW.same {G G':Hp} {v:V} {l:aH} (h:pW G v l) (s:aK G G'):pW G' v l:=by
 obtain⟨q,f,e,h1,h2⟩:=h
 exact⟨q,f,e,s _ _ h1,s _ _ h2⟩
theorem xm.same {G G':Hp} {v:V} {p:PD} (h:xm G v p) (s:aK G G'):xm G' v p:=by
 obtain⟨q,a1,a2,a3,e,h1,h2,h3,h4⟩:=h
 exact⟨q,a1,a2,a3,e,s _ _ h1,s _ _ h2,s _ _ h3,s _ _ h4⟩
structure Dw where
 S:Addr
 L:Addr
 P:Addr
 O:Addr
 c3:Int
 c4:Int
noncomputable abbrev Dw.E (d:Dw):List Addr:=[d.L,d.P,d.O]
structure lN (d:Dw) (H:Hp) (ls:List aH) (ps:List PD) (os:List Str):Prop where
 top:bH d.E H d.S=some (.lst [.ref d.L,.ref d.P,.ref d.O,.int d.c3,.int d.c4])
 lanes:∃xs,H d.L=some (.lst xs)/\gJ (pW (bH d.E H)) xs ls
 parts:∃xs,H d.P=some (.lst xs)/\gJ (xm (bH d.E H)) xs ps
 opens:H d.O=some (.lst (os.map V.str))
 ne:d.L≠d.P/\d.L≠d.O/\d.P≠d.O
 lok:∀l∈ls,l.ok
 pok:∀p∈ps,ph p
 ln:ls.map (·.name)=(List.range ls.length).map (cJ d.c3)
 pn:ps.map (·.name)=(List.range ps.length).map (cJ d.c4)
theorem lN.seqS {d:Dw} {H:Hp} {ls:List aH} {ps:List PD} {os:List Str} (D:lN d H ls ps os):bT K H d.S [.ref d.L,.ref d.P,.ref d.O,.int d.c3,.int d.c4]:=bT.of (fM _ _ D.top)
theorem lN.has {d:Dw} {H:Hp} {ls:List aH} {ps:List PD} {os:List Str} (D:lN d H ls ps os) {a:Addr} (h:a∈d.E):∃o,H a=some o:=by
 obtain⟨_,e1,_⟩:=D.lanes
 obtain⟨_,e2,_⟩:=D.parts
 rcases List.mem_cons.mp h with rfl | h
 ·exact⟨_,e1⟩
 ·rcases List.mem_cons.mp h with rfl | h
  ·exact⟨_,e2⟩
  ·rw [List.mem_singleton] at h
   subst h
   exact⟨_,D.opens⟩
theorem lN.out {d:Dw} {H:Hp} {ls:List aH} {ps:List PD} {os:List Str} (D:lN d H ls ps os) {p:Addr} (h:H p=none):p∉d.E:=fun z=>by
 obtain⟨o,e⟩:=D.has z
 rw [h] at e
 cases e
theorem lN.keep {d:Dw} {H H':Hp} {ls:List aH} {ps:List PD} {os:List Str} (D:lN d H ls ps os) (s:aK H H'):lN d H' ls ps os:=by
 obtain⟨xs,e1,a1⟩:=D.lanes
 obtain⟨ys,e2,a2⟩:=D.parts
 have c:=Fd (E:=d.E) s (fun a h=>D.has h)
 exact⟨c _ _ D.top,⟨xs,s _ _ e1,a1.imp fun _ _ h=>h.same c⟩,⟨ys,s _ _ e2,a2.imp fun _ _ h=>h.same c⟩,s _ _ D.opens,D.ne,D.lok,D.pok,D.ln,D.pn⟩
theorem lN.cut {d:Dw} {H H':Hp} {ls:List aH} {ps:List PD} {os:List Str} (D:lN d H ls ps os) (s:aK H H'):aK (bH d.E H) (bH d.E H'):=Fd s (fun _ h=>D.has h)
theorem BZ {α:Type} {f:α->Str} {w:Nat->Str} {l:List α} {x:α} (h:l.map f=(List.range l.length).map w) (hx:f x=w l.length):(l ++ [x]).map f=(List.range (l ++ [x]).length).map w:=by
 rw [List.map_append,lP,List.length_singleton,List.range_succ,List.map_append,h,List.map_singleton,List.map_singleton,hx]
theorem lN.lane {d:Dw} {H:Hp} {ls:List aH} {ps:List PD} {os:List Str} (D:lN d H ls ps os) {v:V} {l:aH} (h:pW (bH d.E H) v l) (hl:l.ok) (hn:l.name=cJ d.c3 ls.length) {xs:List V} (e:H d.L=some (.lst xs)):
  lN d (upd H d.L (.lst (xs ++ [v]))) (ls ++ [l]) ps os:=by
 obtain⟨xs',e1,a1⟩:=D.lanes
 obtain⟨ys,e2,a2⟩:=D.parts
 rw [e] at e1
 cases e1
 have c:bH d.E (upd H d.L (.lst (xs ++ [v])))=bH d.E H:=fC (by simp)
 refine⟨by rw [c];exact D.top,⟨_,aA,by rw [c];exact a1.app (.cons h .nil)⟩,⟨ys,by rw [aJ (Ne.symm D.ne.1)];exact e2,by rw [c];exact a2⟩,by rw [aJ (Ne.symm D.ne.2.1)];exact D.opens,D.ne,fun x hx=>?_,D.pok,BZ D.ln hn,D.pn⟩
 rcases List.mem_append.mp hx with hx | hx
 ·exact D.lok x hx
 ·rw [List.mem_singleton] at hx
  subst hx
  exact hl
theorem lN.part {d:Dw} {H:Hp} {ls:List aH} {ps:List PD} {os:List Str} (D:lN d H ls ps os) {v:V} {p:PD} (h:xm (bH d.E H) v p) (hl:ph p) (hn:p.name=cJ d.c4 ps.length) {xs:List V} (e:H d.P=some (.lst xs)):
  lN d (upd H d.P (.lst (xs ++ [v]))) ls (ps ++ [p]) os:=by
 obtain⟨xs',e1,a1⟩:=D.lanes
 obtain⟨ys,e2,a2⟩:=D.parts
 rw [e] at e2
 cases e2
 have c:bH d.E (upd H d.P (.lst (xs ++ [v])))=bH d.E H:=fC (by simp)
 refine⟨by rw [c];exact D.top,⟨_,by rw [aJ D.ne.1];exact e1,by rw [c];exact a1⟩,⟨_,aA,by rw [c];exact a2.app (.cons h .nil)⟩,by rw [aJ (Ne.symm D.ne.2.2)];exact D.opens,D.ne,D.lok,fun x hx=>?_,D.ln,BZ D.pn hn⟩
 rcases List.mem_append.mp hx with hx | hx
 ·exact D.pok x hx
 ·rw [List.mem_singleton] at hx
  subst hx
  exact hl
theorem lN.open {d:Dw} {H:Hp} {ls:List aH} {ps:List PD} {os os':List Str} (D:lN d H ls ps os):lN d (upd H d.O (.lst (os'.map V.str))) ls ps os':=by
 obtain⟨xs,e1,a1⟩:=D.lanes
 obtain⟨ys,e2,a2⟩:=D.parts
 have c:bH d.E (upd H d.O (.lst (os'.map V.str)))=bH d.E H:=fC (by simp)
 exact⟨by rw [c];exact D.top,⟨xs,by rw [aJ D.ne.2.1];exact e1,by rw [c];exact a1⟩,⟨ys,by rw [aJ D.ne.2.2];exact e2,by rw [c];exact a2⟩,aA,D.ne,D.lok,D.pok,D.ln,D.pn⟩
theorem xH (a:Int) {n:Nat} (h:n<=26):((List.range n).map (cJ a)).Nodup:=by
 induction n with
 | zero=>exact List.nodup_nil
 | succ n ih=>
  rw [List.range_succ,List.map_append,List.nodup_append]
  refine⟨ih (by omega),by simp,fun x hx y hy=>?_⟩
  obtain⟨j,hj,rfl⟩:=List.mem_map.mp hx
  rw [List.map_singleton,List.mem_singleton] at hy
  subst hy
  have hj':=List.mem_range.mp hj
  intro z
  have:=Gu a (by omega) (by omega) z
  omega
noncomputable abbrev sE (ls:List aH) (ps:List PD) (os back:List Str):Drawn.NS Str:=⟨ls.map (·.name),ps,os,back⟩
theorem lN.nod {d:Dw} {H:Hp} {ls:List aH} {ps:List PD} {os:List Str} (D:lN d H ls ps os) (h:ls.length<=26):(ls.map (·.name)).Nodup:=by
 rw [D.ln]
 exact xH _ h
theorem RQ {ns:Drawn.NS Str} (w:Drawn.WF ns) {os:List Str} (h:ns.opens.Perm os):Drawn.WF { ns with opens:=os }:=
 ⟨w.nod,w.outs,(h.symm.append_left _).trans w.ins,fun p hp=>by
  obtain⟨x,hx,o,ho,c⟩:=w.hang p hp
  exact⟨x,hx,o,h.mem_iff.mp ho,c⟩,w.touch⟩
theorem pN {d:Dw} {H:Hp} {ls newl:List aH} {ps:List PD} {p:PD} {os ops back:List Str} (w:Drawn.WF (sE ls ps ops back)) (ho:p.outs=newl.map (·.name)) (D:lN d H (ls ++ newl) (ps ++ [p]) (os ++ newl.map (·.name))) (hi:ops.Perm (p.ins ++ os)) (hne:newl.length≠0) (hl:(ls ++ newl).length<=26):
  Drawn.WF (sE (ls ++ newl) (ps ++ [p]) (os ++ newl.map (·.name)) back):=by
 have nd:=D.nod hl
 rw [List.map_append] at nd
 have:=w.part (p:=p) hi (by rw [ho];exact nd) (by rw [ho];intro z;exact hne (by rw [<-lM (f:=fun l:aH=>l.name),z];rfl))
 rw [ho] at this
 unfold sE
 rw [List.map_append]
 exact this
noncomputable def GK (ps:List PD):Prop:=ps.any (fun p=>p.kind == 0)=true
theorem GK.app {ps:List PD} {p:PD} (h:GK ps):GK (ps ++ [p]):=by unfold GK at h ⊢;rw [List.any_append,h];rfl
structure Vw (d:Dw) (H H':Hp) (ls:List aH) (ps:List PD) (back:List Str) (ls':List aH) (ps':List PD) (os':List Str):Prop where
 cut:aK (bH d.E H) (bH d.E H')
 at':lN d H' ls' ps' os'
 wf:Drawn.WF (sE ls' ps' os' back)
 o1:1<=os'.length
 o4:os'.length<=4
 l2:ls'.length<=ls.length+2
 p2:ps'.length<=ps.length+2
 gv:GK ps->GK ps'
theorem Ae {c X Y B:Prop} [Decidable c] (k:B) (hx:c->B->X) (hy:B->Y):if c then X else Y:=by
 split
 ·rename_i h;exact hx h k
 ·exact hy k
theorem hide {t u:TS} {D:Ends} {σ:St} {H:Hp} (h:∀v,v=u->tH t v D σ H):tH t u D σ H:=h u rfl
theorem NZ {i:Nat} {x:V} {t u:TS} {D:Ends} {σ:St} {H:Hp} (h:∀E,E=D->∀v,v=u->tH t v E (σ.set i (some x)) H):tR i x σ H fun σ2 H2=>tH t u D σ2 H2:=h D rfl u rfl
theorem Qw {i:Nat} {x:V} {t:TS} {D:Ends} {σ:St} {H:Hp} (h:∀E,E=D->t E (σ.set i (some x)) H):tR i x σ H fun σ2 H2=>t D σ2 H2:=h D rfl
theorem Tv {t u:TS} {D:Ends} {σ:St} {H:Hp} (h:∀E,E=D->∀v,v=u->tH t v E σ H):tH t u D σ H:=h D rfl u rfl
theorem dj {t u v:TS} {D:Ends} {σ:St} {H:Hp} (hv:v=tH t u) (h:∀w,w=u->tH t w D σ H):v D σ H:=by
 subst hv
 exact h u rfl
theorem lN.two {d:Dw} {H:Hp} {ls:List aH} {ps:List PD} {os:List Str} (D:lN d H ls ps os) {a1 a2:Addr} {x y:HO} (n1:H a1=none) (n2:upd H a1 x a2=none):
  lN d (upd (upd H a1 x) a2 y) ls ps os/\bH d.E (upd (upd H a1 x) a2 y) a1=some x/\bH d.E (upd (upd H a1 x) a2 y) a2=some y/\aK (bH d.E H) (bH d.E (upd (upd H a1 x) a2 y)):=by
 have s1:=aF (o:=x) n1
 have s2:=aF (o:=y) n2
 have s:=s1.trans s2
 exact⟨D.keep s,eQ (s2 _ _ aA) (D.out n1),eQ aA (D.out (s1.free n2)),D.cut s⟩
structure Bs (lanes:List Str) (ps:List PD):Prop where
 nod:lanes.Nodup
 outs:(ps.flatMap (·.outs)).Perm lanes
 ins:(ps.flatMap (·.ins)).Perm lanes
 hang:∃y,∀q∈ps,∃x∈q.ins ++ q.outs,Drawn.iY ps x y
noncomputable def Nr (H:Hp) (a:Addr):Nat:=match H a with
 | some (.lst xs)=>xs.length
 | _=>0
theorem Gb {H:Hp} {a:Addr} {xs:List V} (h:H a=some (.lst xs)):Nr H a=xs.length:=by
 unfold Nr
 rw [h]
theorem G8 (m:Int) {n:Int} {k:Nat} (h0:0 <n) (hk:n=k):∃j:Nat,m % n=(j:Int)/\j <k:=by
 have h1:=Int.emod_nonneg m (Int.ne_of_gt h0)
 have h2:=Int.emod_lt_of_pos m h0
 exact⟨(m % n).toNat,(Int.toNat_of_nonneg h1).symm,by omega⟩
theorem TJ (m:Int):∃i:Nat,Gq [V.str "add",V.str "less",V.str "add"] (m % 3)=some (.str (d8 i))/\(i=6∨i=7):=by
 have key:∀j,j <3->Gq [V.str "add",V.str "less",V.str "add"] ((j:Nat):Int)=some (.str (d8 (([6,7,6]:List Nat).getD j 0)))/\(([6,7,6]:List Nat).getD j 0=6∨([6,7,6]:List Nat).getD j 0=7):=by decide +kernel
 obtain⟨j,e,hj⟩:=G8 m (n:=3) (k:=3) (by decide) rfl
 rw [e]
 exact⟨_,key j hj⟩
structure KY (c3 c4:Int) (ls:List aH) (ps:List PD):Prop where
 lok:∀l∈ls,l.ok
 pok:∀p∈ps,ph p
 ln:ls.map (·.name)=(List.range ls.length).map (cJ c3)
 pn:((List.range ps.length).map (cJ c4)).Perm (ps.map (·.name))
 whole:Bs (ls.map (·.name)) ps
 l1:1<=ls.length
 l17:ls.length<=17
 p1:1<=ps.length
 p16:ps.length<=16
 giv:GK ps
structure yZ (H:Hp) (L P:Addr) (ls:List aH) (ps:List PD):Prop where
 lanes:∃xs,H L=some (.lst xs)/\gJ (pW H) xs ls
 parts:∃xs,H P=some (.lst xs)/\gJ (xm H) xs ps
theorem yZ.same {H H':Hp} {L P:Addr} {ls:List aH} {ps:List PD} (h:yZ H L P ls ps) (s:aK H H'):yZ H' L P ls ps:=by
 obtain⟨⟨xs,e1,a1⟩,⟨ys,e2,a2⟩⟩:=h
 exact⟨⟨xs,s _ _ e1,a1.imp fun _ _ h=>h.same s⟩,⟨ys,s _ _ e2,a2.imp fun _ _ h=>h.same s⟩⟩
theorem Km {ps qs:List PD} (h:ps.Perm qs) {x y:Str} (c:Drawn.iY ps x y):Drawn.iY qs x y:=c.mono fun _ hp=>h.mem_iff.mp hp
theorem Bs.perm {ns:List Str} {ps qs:List PD} (w:Bs ns ps) (h:ps.Perm qs):Bs ns qs:=by
 obtain⟨y,hy⟩:=w.hang
 exact⟨w.nod,(h.symm.flatMap_right _).trans w.outs,(h.symm.flatMap_right _).trans w.ins,y,fun q hq=>by
  obtain⟨x,hx,c⟩:=hy q (h.mem_iff.mpr hq)
  exact⟨x,hx,Km h c⟩⟩
theorem Nh {α:Type} (l:List α) (n:Nat):l.Perm (l.drop n ++ l.take n):=by
 have h:l.Perm (l.take n ++ l.drop n):=by rw [List.take_append_drop]
 exact h.trans List.perm_append_comm
theorem Kf (xs:List V) (g:Nat):wC xs (some (g:Int)) none=xs.drop g:=by
 unfold wC
 rw [HT.z6,HT.vW,<-List.length_drop,List.take_length]
 rcases Nat.le_total g xs.length with h | h
 ·rw [Nat.min_eq_left h]
 ·rw [Nat.min_eq_right h,List.drop_length,List.drop_eq_nil_of_le h]
theorem Ot (xs:List V) (g:Nat):wC xs none (some (g:Int))=xs.take g:=by
 unfold wC
 rw [HT.z6,HT.vW,List.drop_zero,Nat.sub_zero]
 rcases Nat.le_total g xs.length with h | h
 ·rw [Nat.min_eq_left h]
 ·rw [Nat.min_eq_right h,List.take_length,List.take_of_length_le h]
theorem lN.init {H:Hp} {S L P O:Addr} (c3 c4:Int) (nL:H L=none) (nP:upd H L (.lst []) P=none) (nO:upd (upd H L (.lst [])) P (.lst []) O=none) (nS:upd (upd (upd H L (.lst [])) P (.lst [])) O (.lst []) S=none):
  lN ⟨S,L,P,O,c3,c4⟩ (upd (upd (upd (upd H L (.lst [])) P (.lst [])) O (.lst [])) S (.lst [.ref L,.ref P,.ref O,.int c3,.int c4])) [] [] []/\aK H (bH [L,P,O] (upd (upd (upd (upd H L (.lst [])) P (.lst [])) O (.lst [])) S (.lst [.ref L,.ref P,.ref O,.int c3,.int c4])))/\H P=none:=by
 have s1:=aF (o:=.lst []) nL
 have s2:=aF (o:=.lst []) nP
 have s3:=aF (o:=.lst []) nO
 have s4:=aF (o:=.lst [.ref L,.ref P,.ref O,.int c3,.int c4]) nS
 have e1:=s4 _ _ (s3 _ _ (s2 L (.lst []) aA))
 have e2:=s4 _ _ (s3 P (.lst []) aA)
 have e3:=s4 O (.lst []) aA
 have n1:L≠P:=aC (aA (H:=H) (o:=.lst [])) nP
 have n2:L≠O:=aC (s2 L (.lst []) aA) nO
 have n3:P≠O:=aC (aA (H:=upd H L (.lst [])) (o:=.lst [])) nO
 have m1:L≠S:=aC (s3 _ _ (s2 L (.lst []) aA)) nS
 have m2:P≠S:=aC (s3 P (.lst []) aA) nS
 have m3:O≠S:=aC (aA (H:=upd (upd H L (.lst [])) P (.lst [])) (o:=.lst [])) nS
 refine⟨⟨eQ aA ?_,⟨[],e1,.nil⟩,⟨[],e2,.nil⟩,e3,⟨n1,n2,n3⟩,(fun _ h=>by cases h),(fun _ h=>by cases h),rfl,rfl⟩,fun b o e=>eQ (s4 _ _ (s3 _ _ (s2 _ _ (s1 _ _ e)))) ?_,s1.free nP⟩
 ·show S∉[L,P,O]
  simp [m1.symm,m2.symm,m3.symm]
 ·have q1:=aC e nL
  have q2:=aC (s1 _ _ e) nP
  have q3:=aC (s2 _ _ (s1 _ _ e)) nO
  simp [q1,q2,q3]
noncomputable abbrev LET:Str:= "abcdefghijklmnopqrstuvwxyz"
noncomputable abbrev Vu:Str:= "0123456789"
theorem J1:LET.cps.toList=List.range' 97 26:=by decide +kernel
theorem Ke:Vu.cps.toList=List.range' 48 10:=by decide +kernel
theorem K6 (c:Nat):(!(Builtin.Str.occurrences LET ⟨#[c]⟩ 0 LET.length 1).isEmpty)=low c:=by
 rw [StrLaws.found_one,J1]
 unfold low
 rw [Bool.eq_iff_iff]
 simp [List.mem_range'_1]
 omega
theorem R8 (c:Nat):(!(Builtin.Str.occurrences Vu ⟨#[c]⟩ 0 Vu.length 1).isEmpty)=Jo c:=by
 rw [StrLaws.found_one,Ke]
 unfold Jo
 rw [Bool.eq_iff_iff]
 simp [List.mem_range'_1]
 omega
structure Ug (ms:List Str) (want:List (Str×V)) (fs:List (Str×V)):Prop where
 has:∀p∈want,fs.lookup p.1=some p.2
 no:∀m∈ms,fs.lookup m=none
theorem jj {H:Hp} {d:Addr} {kvs:List (Key×V)} {v:HO} (e:H d=some (.dK kvs)) {b:Addr} {u:HO} (h:H b=some u) (hu:∀ks,u≠.dK ks):upd H d v b=some u:=by
 rw [aJ]
 ·exact h
 ·rintro rfl
  rw [e] at h
  exact hu _ (Option.some.inj h).symm
theorem fH {H:Hp} {d a:Addr} {kvs:List (Key×V)} {v:HO} {xs:List V} (e:H d=some (.dK kvs)) (h:gK K H a xs):gK K (upd H d v) a xs:=by
 rcases h with (h | ⟨o,h⟩) | h
 ·exact .inl (.inl (jj e h (by intro _ z;cases z)))
 ·exact .inl (.inr ⟨o,jj e h (by intro _ z;cases z)⟩)
 ·exact .inr h
theorem eU.chill {H:Hp} {d p:Addr} {kvs:List (Key×V)} {v:HO} {i:Nat} {nm:V} {ns is os:List V} (e:H d=some (.dK kvs)) (h:eU K t H p i nm ns is os):eU K t (upd H d v) p i nm ns is os:=by
 obtain⟨dx,tn,ti,to,h1,h2,h3,h4⟩:=h
 exact⟨dx,tn,ti,to,jj e h1 (by intro _ z;cases z),fH e h2,fH e h3,fH e h4⟩
theorem Ko {H:Hp} {d D:Addr} {kvs:List (Key×V)} {o:Obj} {u:HO} (e:H d=some (.dK kvs)) (hD:(upd H d (.frz o (.dK kvs))) D=none):upd (upd (upd H d (.frz o (.dK kvs))) D u) d (.dK kvs)=upd H D u:=by
 have n:D≠d:=by rintro rfl;rw [aA] at hD;cases hD
 funext b
 by_cases h:b=d
 ·subst h
  rw [aA,aJ (Ne.symm n)]
  exact e.symm
 ·rw [aJ h]
  unfold upd
  rw [if_neg h]
theorem HS {H:Hp} {d D:Addr} {v:HO} (hD:(upd H d v) D=none):H D=none:=by
 by_cases h:D=d
 ·subst h;rw [aA] at hD;cases hD
 ·rw [aJ h] at hD;exact hD
theorem Ds {H:Hp} {a:Addr} {o:HO} (e:H a=some o):upd H a o=H:=by
 funext b
 unfold upd
 split
 ·rename_i h;rw [h];exact e.symm
 ·rfl
theorem gm {κ:Type} [DecidableEq κ] {kvs:List (κ×V)} {k:κ} (h:k∉kvs.map (·.1)):bW kvs k=none:=by
 induction kvs with
 | nil=>rfl
 | cons p r ih=>
  simp only [List.map_cons,List.mem_cons,not_or] at h
  rw [fO (Ne.symm h.1)]
  exact ih h.2
theorem gh {κ:Type} [DecidableEq κ] {kvs:List (κ×V)} {k:κ} {v:V} (nd:(kvs.map (·.1)).Nodup) (h:(k,v)∈kvs):bW kvs k=some v:=by
 induction kvs with
 | nil=>cases h
 | cons p r ih=>
  simp only [List.map_cons,List.nodup_cons] at nd
  rcases List.mem_cons.mp h with h | h
  ·subst h
   exact gf rfl
  ·have:¬p.1=k:=fun z=>nd.1 (List.mem_map.mpr ⟨_,h,z.symm⟩)
   rw [fO this]
   exact ih nd.2 h
noncomputable def cM (f:PD->List Str) (ps:List PD):List (Key×V):=ps.flatMap fun p=>(f p).map fun l=>((Sum.inr l:Key),V.str p.name)
theorem uB (f:PD->List Str) (ps:List PD):(cM f ps).map (·.1)=(ps.flatMap f).map (fun l=>(Sum.inr l:Key)):=by
 induction ps with
 | nil=>rfl
 | cons p r ih=>
  unfold cM at ih ⊢
  simp only [List.flatMap_cons,List.map_append,ih,List.map_map]
  rfl
theorem eZ {l:List Str} (h:l.Nodup):(l.map (fun x=>(Sum.inr x:Key))).Nodup:=by
 induction l with
 | nil=>exact List.nodup_nil
 | cons a r ih=>
  simp only [List.map_cons,List.nodup_cons,List.mem_map] at h ⊢
  refine⟨?_,ih h.2⟩
  rintro⟨b,hb,e⟩
  cases e
  exact h.1 hb
theorem iK {f:PD->List Str} {ps:List PD} (nd:(ps.flatMap f).Nodup) {p:PD} (hp:p∈ps) {l:Str} (hl:l∈f p):bW (cM f ps) (Sum.inr l)=some (.str p.name):=
 gh (by rw [uB];exact eZ nd) (List.mem_flatMap.mpr ⟨p,hp,List.mem_map.mpr ⟨l,hl,rfl⟩⟩)
theorem Ad {f:PD->List Str} {ps:List PD} {l:Str} (h:l∉ps.flatMap f):bW (cM f ps) (Sum.inr l)=none:=gm (by
 rw [uB]
 intro z
 obtain⟨b,hb,e⟩:=List.mem_map.mp z
 cases e
 exact h hb)
theorem JK (f:PD->List Str) (ps:List PD):(cM f ps).length=(ps.flatMap f).length:=by
 have:=congrArg List.length (uB f ps)
 simpa using this
theorem Ai (f:PD->List Str) (ps:List PD) (p:PD):cM f (ps ++ [p])=cM f ps ++ (f p).map fun l=>((Sum.inr l:Key),V.str p.name):=by
 unfold cM
 rw [List.flatMap_append]
 simp
theorem Jr {α:Type} {f g:α->Bool}:∀{l:List α},(∀a∈l,g a=true->f a=true)->(∃a∈l,f a=true/\g a=false)->(l.filter g).length <(l.filter f).length
 | [],_,h=>by obtain⟨a,ha,_⟩:=h;cases ha
 | x:: r,h,h2=>by
  have le:∀r:List α,(∀a∈r,g a=true->f a=true)->(r.filter g).length<=(r.filter f).length:=fun r=>by
   induction r with
   | nil=>intro _;exact Nat.le_refl _
   | cons y t ih=>
    intro q
    have:=ih fun a ha=>q a (List.mem_cons_of_mem _ ha)
    have q0:=q y List.mem_cons_self
    rw [List.filter_cons,List.filter_cons]
    cases hg:g y
    ·simp only [Bool.false_eq_true,if_false]
     split
     ·rw [List.length_cons];omega
     ·exact this
    ·rw [q0 hg]
     simp only [if_true,List.length_cons]
     omega
  obtain⟨a,ha,hf,hg⟩:=h2
  have hr:=fun a ha=>h a (List.mem_cons_of_mem x ha)
  rw [List.filter_cons,List.filter_cons]
  rcases List.mem_cons.mp ha with rfl | ha
  ·rw [hf,hg]
   have:=le r hr
   simp
   omega
  ·have ih:=Jr hr ⟨a,ha,hf,hg⟩
   have q0:=h x List.mem_cons_self
   cases hx:g x
   ·simp only [Bool.false_eq_true,if_false]
    split
    ·rw [List.length_cons];omega
    ·exact ih
   ·rw [q0 hx]
    simp only [if_true,List.length_cons]
    omega
noncomputable def fY (jk:List (Key×V)) (x:Str):Bool:=(bW jk (Sum.inr x)).isSome
noncomputable def lZ (ps:List PD) (jk:List (Key×V)):Nat:=(ps.filter fun p=>!fY jk p.name).length
theorem Fb (jk:List (Key×V)) (x y:Str) (v:V):fY (putK jk (Sum.inr x) v) y=(decide (y=x) || fY jk y):=by
 unfold fY
 rw [MP]
 by_cases h:y=x
 ·subst h;simp
 ·have:¬(Sum.inr y:Key)=Sum.inr x:=fun z=>h (Sum.inr.inj z)
  rw [if_neg this]
  simp [h]
theorem Gx {ps:List PD} {jk jk':List (Key×V)} (h:∀x,fY jk x=true->fY jk' x=true) {p:PD} (hp:p∈ps) (h1:fY jk p.name=false) (h2:fY jk' p.name=true):lZ ps jk' <lZ ps jk:=by
 refine Jr (fun a _ q=>?_) ⟨p,hp,by simp [h1],by simp [h2]⟩
 cases hj:fY jk a.name
 ·rfl
 ·rw [h _ hj] at q;cases q
theorem Ky {ps:List PD} (pm:(ps.flatMap (·.outs)).Perm (ps.flatMap (·.ins))) {l:Str} (h:l∈ps.flatMap (·.outs)):∃a∈ps,∃b∈ps,l∈a.outs/\l∈b.ins:=by
 obtain⟨a,ha,hl⟩:=List.mem_flatMap.mp h
 obtain⟨b,hb,hl2⟩:=List.mem_flatMap.mp (pm.mem_iff.mp h)
 exact⟨a,ha,b,hb,hl,hl2⟩
theorem R0 {ps:List PD} (no:(ps.flatMap (·.outs)).Nodup) (ni:(ps.flatMap (·.ins)).Nodup) (pm:(ps.flatMap (·.outs)).Perm (ps.flatMap (·.ins))) {jk:List (Key×V)} (hang:∃y,∀q∈ps,∃x∈q.ins ++ q.outs,Drawn.iY ps x y)
  (cl:∀a∈ps,∀b∈ps,∀l,l∈a.outs->l∈b.ins->fY jk a.name=fY jk b.name) {p0:PD} (hp0:p0∈ps) (h0:fY jk p0.name=true):∀q∈ps,fY jk q.name=true:=by
 obtain⟨y,hy⟩:=hang
 refine Drawn.Ia (J:=fun p=>fY jk p.name=true) (fun l p q hp hq hlp hlq hJ=>?_) hy hp0 h0
 have same:∀{f:PD->List Str},(ps.flatMap f).Nodup->∀{a b:PD},a∈ps->b∈ps->l∈f a->l∈f b->a.name=b.name:=fun {f} nd {a b} ha hb h1 h2=>by
  obtain⟨i,hi,ei⟩:=List.mem_iff_getElem.mp ha
  obtain⟨j,hj,ej⟩:=List.mem_iff_getElem.mp hb
  have:=Drawn.J0 f nd (i:=i) (j:=j) (p:=a) (q:=b) (l:=l) (by rw [List.getElem?_eq_getElem hi,ei]) (by rw [List.getElem?_eq_getElem hj,ej]) h1 h2
  subst this
  rw [<-ei,<-ej]
 have hl:l∈ps.flatMap (·.outs):=by
  rcases List.mem_append.mp hlp with h | h
  ·exact pm.mem_iff.mpr (List.mem_flatMap.mpr ⟨p,hp,h⟩)
  ·exact List.mem_flatMap.mpr ⟨p,hp,h⟩
 obtain⟨a,ha,b,hb,la,lb⟩:=Ky pm hl
 have e:=cl a ha b hb l la lb
 have np:p.name=a.name∨p.name=b.name:=(List.mem_append.mp hlp).elim (fun h=>.inr (same ni hp hb h lb)) fun h=>.inl (same no hp ha h la)
 have nq:q.name=a.name∨q.name=b.name:=(List.mem_append.mp hlq).elim (fun h=>.inr (same ni hq hb h lb)) fun h=>.inl (same no hq ha h la)
 show fY jk q.name=true
 change fY jk p.name=true at hJ
 rcases np with np | np <;> rcases nq with nq | nq <;> rw [np] at hJ <;> rw [nq]
 ·exact hJ
 ·rw [<-e];exact hJ
 ·rw [e];exact hJ
 ·exact hJ
theorem Bx {z:Str} (h:nameB z=true):z.length<=100:=by
 unfold nameB at h
 rw [<-lQ]
 split at h
 ·simp_all
 ·rename_i e
  rw [e]
  simp only [Bool.and_eq_true,decide_eq_true_eq] at h
  rw [List.length_cons]
  omega
structure sH (ls:List aH) (ps:List PD):Prop where
 lok:∀l∈ls,1<=l.room/\l.room<=199/\(l.first.length:Int)<=l.room/\∀v∈l.first,0<=v/\v <1000000000
 pok:∀p∈ps,ph p
 lnm:∀l∈ls,nameB l.name=true
 pnm:∀p∈ps,nameB p.name=true
 pnd:(ps.map (·.name)).Nodup
 whole:Bs (ls.map (·.name)) ps
 l1:1<=ls.length
 l24:ls.length<=24
 p1:1<=ps.length
 p16:ps.length<=16
theorem Dy {c:Int} {n:Nat} (hn:n<=26) {x:Str} (h:x∈(List.range n).map (cJ c)):∃k,k <n/\x=cJ c k:=by
 obtain⟨k,hk,rfl⟩:=List.mem_map.mp h
 exact⟨k,List.mem_range.mp hk,rfl⟩
theorem KY.fit {c3 c4:Int} {ls:List aH} {ps:List PD} (h:KY c3 c4 ls ps):sH ls ps:=by
 have a:=h.l17
 have b:=h.p16
 refine⟨fun l hl=>?_,h.pok,fun l hl=>?_,fun p hp=>?_,?_,h.whole,h.l1,by omega,h.p1,h.p16⟩
 ·obtain⟨x1,x2,x3,x4⟩:=h.lok l hl
  exact⟨x1,by omega,x3,x4⟩
 ·obtain⟨k,hk,e⟩:=Dy (c:=c3) (n:=ls.length) (by omega) (by rw [<-h.ln];exact List.mem_map.mpr ⟨l,hl,rfl⟩)
  rw [e]
  exact JF _ (by omega)
 ·obtain⟨k,hk,e⟩:=Dy (c:=c4) (n:=ps.length) (by omega) (h.pn.mem_iff.mpr (List.mem_map.mpr ⟨p,hp,rfl⟩))
  rw [e]
  exact JF _ (by omega)
 ·exact h.pn.nodup_iff.mp (xH _ (by omega))
theorem KY.lane20 {c3 c4:Int} {ls:List aH} {ps:List PD} (h:KY c3 c4 ls ps):cJ c3 20∉ls.map (·.name):=fun z=>by
 have a:=h.l17
 rw [h.ln] at z
 obtain⟨k,hk,e⟩:=Dy (by omega) z
 have:=Gu _ (by omega) (by omega) e
 omega
noncomputable def d9 (ls:List aH):List (Key×V):=ls.map fun l=>((Sum.inr l.name:Key),V.int l.room)
noncomputable def bG (FL:List (aH×Addr)):List (Key×V):=FL.map fun q=>((Sum.inr q.1.name:Key),V.ref q.2)
noncomputable def dY (PL:List (PD×Addr)):List (Key×V):=PL.map fun q=>((Sum.inr q.1.name:Key),V.ref q.2)
theorem qT (ls:List aH):(d9 ls).map (·.1)=(ls.map (·.name)).map (fun x=>(Sum.inr x:Key)):=by unfold d9;rw [List.map_map,List.map_map];rfl
theorem qm (FL:List (aH×Addr)):(bG FL).map (·.1)=((FL.map (·.1)).map (·.name)).map (fun x=>(Sum.inr x:Key)):=by unfold bG;rw [List.map_map,List.map_map,List.map_map];rfl
theorem xU (PL:List (PD×Addr)):(dY PL).map (·.1)=((PL.map (·.1)).map (·.name)).map (fun x=>(Sum.inr x:Key)):=by unfold dY;rw [List.map_map,List.map_map,List.map_map];rfl
structure tK (K:PySem.W.Frag) (t:mW) (H:Hp) (n:Addr) (ls:List aH) (ps:List PD) (dx:Addr) (fs:List (Str×V)) (R F Pd G Tk:Addr) (FL:List (aH×Addr)) (PL:List (PD×Addr)):Prop where
 obj:H n=some (.ins t.cX dx fs)
 fl:Ug ["lane_names", "part_names", "names_of_kind", "gives", "need_lane_name", "first_of", "part_of", "__init__"] [("rooms",.ref R),("firsts",.ref F),("parts",.ref Pd),("givers",.ref G),("takers",.ref Tk)] fs
 rooms:H R=some (.dK (d9 ls))
 firsts:H F=some (.dK (bG FL))
 parts:H Pd=some (.dK (dY PL))
 givers:H G=some (.dK (cM (·.outs) ps))
 takers:H Tk=some (.dK (cM (·.ins) ps))
 fls:FL.map (·.1)=ls
 pls:PL.map (·.1)=ps
 tups:∀q∈FL,gK K H q.2 (q.1.first.map V.int)
 pats:∀q∈PL,eU K t H q.2 q.1.kind (.str q.1.name) (q.1.nums.map V.int) (q.1.ins.map V.str) (q.1.outs.map V.str)
 fit:sH ls ps
 neRF:R≠F
inductive mY (K:PySem.W.Frag) (t:mW) (H:Hp) (n:Addr) (ls:List aH) (ps:List PD):Prop where
 | mk:∀dx fs R F Pd G Tk FL PL,tK K t H n ls ps dx fs R F Pd G Tk FL PL->mY K t H n ls ps
section
variable {H H':Hp} {n dx R F Pd G Tk:Addr} {ls:List aH} {ps:List PD} {fs:List (Str×V)} {FL:List (aH×Addr)} {PL:List (PD×Addr)}
theorem tK.same (N:tK K t H n ls ps dx fs R F Pd G Tk FL PL) (s:aK H H'):tK K t H' n ls ps dx fs R F Pd G Tk FL PL:=
 ⟨s _ _ N.obj,N.fl,s _ _ N.rooms,s _ _ N.firsts,s _ _ N.parts,s _ _ N.givers,s _ _ N.takers,N.fls,N.pls,fun q hq=>s.seqT (N.tups q hq),fun q hq=>(N.pats q hq).same s,N.fit,N.neRF⟩
theorem mY.same (N:mY K t H n ls ps) (s:aK H H'):mY K t H' n ls ps:=by
 obtain⟨dx,fs,R,F,Pd,G,Tk,FL,PL,N⟩:=N
 exact⟨dx,fs,R,F,Pd,G,Tk,FL,PL,N.same s⟩
theorem tK.s (N:tK K t H n ls ps dx fs R F Pd G Tk FL PL):mY K t H n ls ps:=⟨dx,fs,R,F,Pd,G,Tk,FL,PL,N⟩
theorem tK.room (N:tK K t H n ls ps dx fs R F Pd G Tk FL PL) {l:aH} (hl:l∈ls):bW (d9 ls) (Sum.inr l.name)=some (.int l.room):=
 gh (by rw [qT];exact eZ N.fit.whole.nod) (List.mem_map.mpr ⟨l,hl,rfl⟩)
theorem tK.firstV (N:tK K t H n ls ps dx fs R F Pd G Tk FL PL) {q:aH×Addr} (hq:q∈FL):bW (bG FL) (Sum.inr q.1.name)=some (.ref q.2):=
 gh (by rw [qm,N.fls];exact eZ N.fit.whole.nod) (List.mem_map.mpr ⟨q,hq,rfl⟩)
theorem tK.partV (N:tK K t H n ls ps dx fs R F Pd G Tk FL PL) {q:PD×Addr} (hq:q∈PL):bW (dY PL) (Sum.inr q.1.name)=some (.ref q.2):=
 gh (by rw [xU,N.pls];exact eZ N.fit.pnd) (List.mem_map.mpr ⟨q,hq,rfl⟩)
theorem tK.ono (N:tK K t H n ls ps dx fs R F Pd G Tk FL PL):(ps.flatMap (·.outs)).Nodup:=N.fit.whole.outs.nodup_iff.mpr N.fit.whole.nod
theorem tK.ini (N:tK K t H n ls ps dx fs R F Pd G Tk FL PL):(ps.flatMap (·.ins)).Nodup:=N.fit.whole.ins.nodup_iff.mpr N.fit.whole.nod
end
theorem Gm {α:Type} {f:α->Str} {xs:List α} {x:Str}:inV (.str x) (xs.map fun p=>V.str (f p))=decide (x∈xs.map f):=by
 rw [Bool.eq_iff_iff]
 unfold inV
 rw [List.any_eq_true,decide_eq_true_eq]
 constructor
 ·rintro⟨v,hv,e⟩
  obtain⟨p,hp,rfl⟩:=List.mem_map.mp hv
  exact List.mem_map.mpr ⟨p,hp,by simpa [KD] using e⟩
 ·intro h
  obtain⟨p,hp,rfl⟩:=List.mem_map.mp h
  exact⟨.str (f p),List.mem_map.mpr ⟨p,hp,rfl⟩,by simp [KD]⟩
noncomputable def jY (ps:List PD) (x:Str):List V:=(ps.filter fun p=>decide (d8 p.kind=x)).map fun p=>V.str p.name
theorem JQ (ps:List PD) (x:Str) (p:PD):jY (ps ++ [p]) x=if d8 p.kind=x then jY ps x ++ [V.str p.name] else jY ps x:=by
 unfold jY
 rw [List.filter_append,List.map_append]
 by_cases h:d8 p.kind=x
 ·rw [if_pos h];simp [h]
 ·rw [if_neg h];simp [h]
theorem Gj (ps:List PD) (x:Str):(jY ps x).length<=ps.length:=by
 unfold jY
 rw [lM]
 exact List.length_filter_le _ _
noncomputable def V8 (p:PD):Bool:=decide (d8 p.kind= "choose") || decide (d8 p.kind= "split")
noncomputable def oddN (ps:List PD):V:=match ps.find? V8 with
 | some p=>.str p.name
 | none=>.non
inductive FQ (K:PySem.W.Frag) (H:Hp) (v:V) (l:aH):Prop where
 | mk:∀q f,v=.ref q->H q=some (.tup [.str l.name,.int l.room,.ref f])->gK K H f (l.first.map V.int)->FQ K H v l
inductive Nt (K:PySem.W.Frag) (H:Hp) (v:V) (p:PD):Prop where
 | mk:∀q a1 a2 a3,v=.ref q->H q=some (.tup [.str (d8 p.kind),.str p.name,.ref a1,.ref a2,.ref a3])->gK K H a1 (p.nums.map V.int)->gK K H a2 (p.ins.map V.str)->gK K H a3 (p.outs.map V.str)->Nt K H v p
theorem FQ.same {H H':Hp} {v:V} {l:aH} (h:FQ K H v l) (s:aK H H'):FQ K H' v l:=by
 obtain⟨q,f,e,h1,h2⟩:=h
 exact⟨q,f,e,s _ _ h1,s.seqT h2⟩
theorem Nt.same {H H':Hp} {v:V} {p:PD} (h:Nt K H v p) (s:aK H H'):Nt K H' v p:=by
 obtain⟨q,a1,a2,a3,e,h1,h2,h3,h4⟩:=h
 exact⟨q,a1,a2,a3,e,s _ _ h1,s.seqT h2,s.seqT h3,s.seqT h4⟩
structure Hg (K:PySem.W.Frag) (H:Hp) (T a b:Addr) (ls:List aH) (ps:List PD):Prop where
 tup:H T=some (.tup [.ref a,.ref b])
 lanes:∃xs,H a=some (.lst xs)/\gJ (FQ K H) xs ls
 parts:∃xs,H b=some (.lst xs)/\gJ (Nt K H) xs ps
theorem Hg.same {H H':Hp} {T a b:Addr} {ls:List aH} {ps:List PD} (h:Hg K H T a b ls ps) (s:aK H H'):Hg K H' T a b ls ps:=by
 obtain⟨h1,⟨xs,e1,a1⟩,⟨ys,e2,a2⟩⟩:=h
 exact⟨s _ _ h1,⟨xs,s _ _ e1,a1.imp fun _ _ h=>h.same s⟩,⟨ys,s _ _ e2,a2.imp fun _ _ h=>h.same s⟩⟩
structure Tr (H:Hp) (f:Addr) (L:List (Addr×HO)) (Hk:Hp):Prop where
 but:j4 f H Hk
 all:∀p∈L,Hk p.1=some p.2
 fre:∀p∈L,p.1=f∨H p.1=none
 nod:(L.map Prod.fst).Nodup
 obj:∃o,(f,o)∈L
theorem Tr.free {H Hk:Hp} {f x:Addr} {L:List (Addr×HO)} (T:Tr H f L Hk) (nx:Hk x=none):H x=none:=by
 cases e:H x with
 | none=>rfl
 | some o=>
  by_cases h:x=f
  ·obtain⟨u,hu⟩:=T.obj
   have:=T.all _ hu
   rw [h] at nx
   rw [nx] at this
   cases this
  ·rw [T.but x o h e] at nx
   cases nx
theorem Tr.new {H Hk:Hp} {f x:Addr} {L:List (Addr×HO)} {o:HO} (T:Tr H f L Hk) (nx:Hk x=none):Tr H f (L ++ [(x,o)]) (upd Hk x o):=by
 have hne:∀p∈L,p.1≠x:=fun p hp z=>by have:=T.all p hp;rw [z,nx] at this;cases this
 have hx:=T.free nx
 refine⟨fun b u n e=>by rw [aJ (aC e hx)];exact T.but b u n e,fun p hp=>?_,fun p hp=>?_,?_,?_⟩
 ·rcases List.mem_append.mp hp with h | h
  ·rw [aJ (hne p h)];exact T.all p h
  ·rw [List.mem_singleton] at h;subst h;exact aA
 ·rcases List.mem_append.mp hp with h | h
  ·exact T.fre p h
  ·rw [List.mem_singleton] at h;subst h;exact .inr hx
 ·rw [List.map_append,List.nodup_append]
  refine⟨T.nod,by simp,fun a ha b hb=>?_⟩
  obtain⟨p,hp,rfl⟩:=List.mem_map.mp ha
  simp at hb
  subst hb
  exact hne p hp
 ·obtain⟨u,hu⟩:=T.obj
  exact⟨u,List.mem_append.mpr (.inl hu)⟩
theorem Tr.same {H Hk Hk':Hp} {f:Addr} {L:List (Addr×HO)} (T:Tr H f L Hk) (s:aK Hk Hk'):Tr H f L Hk':=
 ⟨fun b u n e=>s _ _ (T.but b u n e),fun p hp=>s _ _ (T.all p hp),T.fre,T.nod,T.obj⟩
theorem Tr.put {H Hk:Hp} {f x:Addr} {o o':HO} {L1 L2:List (Addr×HO)} (T:Tr H f (L1 ++ (x,o):: L2) Hk):Tr H f (L1 ++ (x,o'):: L2) (upd Hk x o'):=by
 have hx:x=f∨H x=none:=T.fre (x,o) (by simp)
 have nd:=T.nod
 rw [List.map_append,List.map_cons,List.nodup_append] at nd
 obtain⟨n1,n2,n3⟩:=nd
 rw [List.nodup_cons] at n2
 refine⟨fun b u n e=>?_,fun p hp=>?_,fun p hp=>?_,?_,?_⟩
 ·have:b≠x:=by
   rcases hx with rfl | hx
   ·exact n
   ·exact aC e hx
  rw [aJ this];exact T.but b u n e
 ·rcases List.mem_append.mp hp with h | h
  ·have:p.1≠x:=n3 p.1 (List.mem_map.mpr ⟨p,h,rfl⟩) x (by simp)
   rw [aJ this];exact T.all p (by simp [h])
  ·rcases List.mem_cons.mp h with rfl | h
   ·exact aA
   ·have:p.1≠x:=fun z=>n2.1 (by rw [<-z];exact List.mem_map.mpr ⟨p,h,rfl⟩)
    rw [aJ this];exact T.all p (by simp [h])
 ·rcases List.mem_append.mp hp with h | h
  ·exact T.fre p (by simp [h])
  ·rcases List.mem_cons.mp h with rfl | h
   ·exact hx
   ·exact T.fre p (by simp [h])
 ·have:=T.nod
  rw [List.map_append,List.map_cons] at this ⊢
  exact this
 ·obtain⟨u,hu⟩:=T.obj
  rcases List.mem_append.mp hu with h | h
  ·exact⟨u,by simp [h]⟩
  ·rcases List.mem_cons.mp h with h | h
   ·cases h;exact⟨o',by simp⟩
   ·exact⟨u,by simp [h]⟩
theorem Tr.start {H:Hp} {f:Addr} {o:HO} (e:H f=some o):Tr H f [(f,o)] H:=⟨j4.refl _,fun p hp=>by rw [List.mem_singleton] at hp;subst hp;exact e,fun p hp=>by rw [List.mem_singleton] at hp;subst hp;exact .inl rfl,by simp,o,by simp⟩
inductive QM (K:PySem.W.Frag) (H:Hp) (v:V) (l:aH):Prop where
 | mk:∀q f,v=.ref q->H q=some (.tup [.str l.name,.int l.room,.ref f])->vf K H f (l.first.map V.int)->QM K H v l
inductive Vf (K:PySem.W.Frag) (H:Hp) (v:V) (p:PD):Prop where
 | mk:∀q a1 a2 a3,v=.ref q->H q=some (.tup [.str (d8 p.kind),.str p.name,.ref a1,.ref a2,.ref a3])->vf K H a1 (p.nums.map V.int)->vf K H a2 (p.ins.map V.str)->vf K H a3 (p.outs.map V.str)->Vf K H v p
structure Hand (K:PySem.W.Frag) (H:Hp) (Ll Lp:Addr) (ls:List aH) (ps:List PD):Prop where
 ll:∃xs,bT K H Ll xs/\gJ (QM K H) xs ls
 lp:∃xs,bT K H Lp xs/\gJ (Vf K H) xs ps
theorem mV {α:Type} {f:α->Str} {xs:List α} (nd:(xs.map f).Nodup) {j:Nat} {x:α} (h:xs[j]?=some x):f x∉(xs.take j).map f:=fun hm=>by
 have hj:=(List.getElem?_eq_some_iff.mp h).1
 have e:xs[j]=x:=(List.getElem?_eq_some_iff.mp h).2
 rw [List.map_take] at hm
 obtain⟨i,hi,ei⟩:=List.mem_iff_getElem.mp hm
 rw [List.length_take,lM] at hi
 rw [List.getElem_take] at ei
 have e2:(xs.map f)[j]'(by rw [lM];exact hj)=f x:=by rw [List.getElem_map,e]
 have:=(List.getElem_inj nd).mp (ei.trans e2.symm)
 omega
theorem Ip {f:PD->List Str} {ps:List PD} (nd:(ps.flatMap f).Nodup) {j:Nat} {p:PD} (h:ps[j]?=some p):(f p).Nodup/\∀z∈f p,z∉(ps.take j).flatMap f:=by
 have hj:=(List.getElem?_eq_some_iff.mp h).1
 have e:ps[j]=p:=(List.getElem?_eq_some_iff.mp h).2
 have e2:ps=ps.take j ++ p:: ps.drop (j+1):=by rw [<-e,<-List.drop_eq_getElem_cons hj,List.take_append_drop]
 rw [e2,List.flatMap_append,List.flatMap_cons,List.nodup_append] at nd
 obtain⟨n1,n2,n3⟩:=nd
 rw [List.nodup_append] at n2
 exact⟨n2.1,fun z hz hm=>n3 z hm z (List.mem_append.mpr (.inl hz)) rfl⟩
structure qd (K:PySem.W.Frag) (t:mW) (H:Hp) (f n E G Kp D Rw:Addr):Prop where
 ex:∃dx fs,H f=some (.ins t.bR dx fs)/\Ug ["holds", "held_now", "gone_by", "row_left", "head", "heads", "lacking", "row_ended", "deed", "do"] [("net",.ref n),("ever",.ref E),("gone",.ref G),("kept",.ref Kp),("done",.ref D),("rows",.ref Rw)] fs
theorem qd.same {H H':Hp} {f n E G Kp D Rw:Addr} (h:qd K t H f n E G Kp D Rw) (s:aK H H'):qd K t H' f n E G Kp D Rw:=by
 obtain⟨dx,fs,h1,h2⟩:=h
 exact⟨dx,fs,s _ _ h1,h2⟩
noncomputable def f9 (i:Nat) (xs:List Str) (hs:List V):V:=match (places i hs).find? (ue hs) with
 | some q=>((xs[q]?).map V.str).getD .non
 | none=>.non
theorem zp {H:Hp}:∀{rs:List Addr} {vss:List (List V)} {j:Nat} {r:Addr},iW H rs vss->rs[j]?=some r->∃vs,vss[j]?=some vs/\H r=some (.tup vs)
 | _,_,_,_,.nil,e=>by simp at e
 | _,_,0,_,.cons h _,e=>by simp at e;subst e;exact⟨_,rfl,h⟩
 | _,_,j+1,_,.cons _ t,e=>by
  obtain⟨vs,h1,h2⟩:=zp (j:=j) t (by simpa using e)
  exact⟨vs,by simpa using h1,h2⟩
theorem places_len {i:Nat} {hs:List V} (h:uT i hs):(places i hs).length<=3:=by
 have h3:=Bt i
 have h1:=h.1
 unfold places
 by_cases hi:i=9
 ·rw [if_pos hi]
  split <;> simp
 ·rw [if_neg hi,List.length_range]
  omega
theorem Tr.got {H Hk Hk':Hp} {f x:Addr} {L:List (Addr×HO)} {o:HO} (T:Tr H f L Hk) (s:aK Hk Hk') (nx:Hk x=none) (ex:Hk' x=some o):Tr H f (L ++ [(x,o)]) Hk':=by
 have T':=T.same s
 have hx:=T.free nx
 refine⟨T'.but,fun p hp=>?_,fun p hp=>?_,?_,?_⟩
 ·rcases List.mem_append.mp hp with h | h
  ·exact T'.all p h
  ·rw [List.mem_singleton] at h;subst h;exact ex
 ·rcases List.mem_append.mp hp with h | h
  ·exact T.fre p h
  ·rw [List.mem_singleton] at h;subst h;exact .inr hx
 ·rw [List.map_append,List.nodup_append]
  refine⟨T.nod,by simp,fun a ha b hb z=>?_⟩
  obtain⟨p,hp,rfl⟩:=List.mem_map.mp ha
  simp at hb
  have:=T.all p hp
  rw [z,hb,nx] at this
  cases this
 ·obtain⟨u,hu⟩:=T.obj
  exact⟨u,List.mem_append.mpr (.inl hu)⟩
theorem Bq {α:Type} {a b c d e f g x:α} {M:List α} (h:x∈M):x∈a:: b:: c:: d:: e:: f:: g:: M:=by simp [h]
theorem Tr.perm {H Hk:Hp} {f:Addr} {L L':List (Addr×HO)} (T:Tr H f L Hk) (h:L.Perm L'):Tr H f L' Hk:=
 ⟨T.but,fun p hp=>T.all p (h.mem_iff.mpr hp),fun p hp=>T.fre p (h.mem_iff.mpr hp),(h.map _).nodup_iff.mp T.nod,by obtain⟨o,ho⟩:=T.obj;exact⟨o,h.mem_iff.mp ho⟩⟩
theorem Tr.sub {H Hk:Hp} {f:Addr} {L L':List (Addr×HO)} (T:Tr H f L Hk) (h:L'.Sublist L) (hf:∃o,(f,o)∈L'):Tr H f L' Hk:=
 ⟨T.but,fun p hp=>T.all p (h.subset hp),fun p hp=>T.fre p (h.subset hp),T.nod.sublist (h.map _),hf⟩
noncomputable def jB (EL:List (aH×Addr)):List (Addr×HO):=EL.map fun q=>(q.2,HO.lst (q.1.first.map V.int))
noncomputable def cY (g:Str->Nat) (ls:List aH):List (Key×V):=ls.map fun l=>((Sum.inr l.name:Key),V.int (g l.name:Nat))
noncomputable def bU (k:Str->Int) (ps:List PD):List (Key×V):=ps.map fun p=>((Sum.inr p.name:Key),V.int (k p.name))
theorem zH (g:Str->Nat) (ls:List aH):(cY g ls).map (·.1)=(ls.map (·.name)).map (fun x=>(Sum.inr x:Key)):=by unfold cY;rw [List.map_map,List.map_map];rfl
theorem yJ (k:Str->Int) (ps:List PD):(bU k ps).map (·.1)=(ps.map (·.name)).map (fun x=>(Sum.inr x:Key)):=by unfold bU;rw [List.map_map,List.map_map];rfl
noncomputable def fL (ps:List PD) (x:Str):Int:=((ps.find? fun p=>decide (p.name=x)).map fun p=>if p.kind=5 then p.nums.headD 0 else 0).getD 0
noncomputable def Cz (p:PD):Int:=if p.kind=5 then p.nums.headD 0 else 0
theorem find_name {α:Type} {f:α->Str}:∀{ls:List α} (_:(ls.map f).Nodup) {l:α} (_:l∈ls),ls.find? (fun x=>decide (f x=f l))=some l
 | a:: r,nd,l,hl=>by
  rw [List.map_cons,List.nodup_cons] at nd
  rcases List.mem_cons.mp hl with rfl | h
  ·rw [List.find?_cons_of_pos (by simp)]
  ·have:¬f a=f l:=fun z=>nd.1 (by rw [z];exact List.mem_map.mpr ⟨l,h,rfl⟩)
   rw [List.find?_cons_of_neg (by simp [this])]
   exact find_name nd.2 h
theorem sH.inL {ls:List aH} {ps:List PD} (F:sH ls ps) {p:PD} (hp:p∈ps) {x:Str} (hx:x∈p.ins ++ p.outs):∃l∈ls,l.name=x:=by
 rcases List.mem_append.mp hx with h | h
 ·exact List.mem_map.mp (F.whole.ins.mem_iff.mp (List.mem_flatMap.mpr ⟨p,hp,h⟩))
 ·exact List.mem_map.mp (F.whole.outs.mem_iff.mp (List.mem_flatMap.mpr ⟨p,hp,h⟩))
theorem qM {α β:Type} {f:α->β}:∀{l:List α},(l.map f).Nodup->∀{a b:α},a∈l->b∈l->f a=f b->a=b
 | x:: r,nd,a,b,ha,hb,e=>by
  rw [List.map_cons,List.nodup_cons] at nd
  rcases List.mem_cons.mp ha with h1 | h1
  ·rcases List.mem_cons.mp hb with h2 | h2
   ·rw [h1,h2]
   ·exact absurd (List.mem_map.mpr ⟨b,h2,by rw [<-e,h1]⟩) nd.1
  ·rcases List.mem_cons.mp hb with h2 | h2
   ·exact absurd (List.mem_map.mpr ⟨a,h1,by rw [e,h2]⟩) nd.1
   ·exact qM nd.2 h1 h2 e
noncomputable def Rc:V->Int
 | .int n=>n
 | _=>0
structure FS where
 ev:Str->List Int
 g:Str->Nat
 k:Str->Int
 d:Str->Nat
 r:Str->List Int
structure ww where
 (f n E G Kp D Rw:Addr)
 (ea ra:Str->Addr)
noncomputable def oR (ps:List PD):List PD:=ps.filter fun p=>decide (p.kind=0)
noncomputable def wy (ea:Str->Addr) (ls:List aH):List (Key×V):=ls.map fun l=>((Sum.inr l.name:Key),V.ref (ea l.name))
noncomputable def Hv (ra:Str->Addr) (ps:List PD):List (Key×V):=(oR ps).map fun p=>((Sum.inr p.name:Key),V.ref (ra p.name))
noncomputable def ww.cells (A:ww) (ls:List aH) (ps:List PD):List Addr:=A.E:: A.G:: A.Kp:: A.D:: A.Rw:: (ls.map (fun l=>A.ea l.name) ++ (oR ps).map (fun p=>A.ra p.name))
structure jr (K:PySem.W.Frag) (t:mW) (H:Hp) (A:ww) (ls:List aH) (ps:List PD) (S:FS):Prop where
 at':qd K t H A.f A.n A.E A.G A.Kp A.D A.Rw
 ever:H A.E=some (.dK (wy A.ea ls))
 lists:∀l∈ls,H (A.ea l.name)=some (.lst ((S.ev l.name).map V.int))
 gone:H A.G=some (.dK (cY S.g ls))
 kept:H A.Kp=some (.dK (bU S.k ps))
 done:H A.D=some (.dK (bU (fun x=>(S.d x:Int)) ps))
 rows:H A.Rw=some (.dK (Hv A.ra ps))
 rlst:∀p∈ps,p.kind=0->H (A.ra p.name)=some (.lst ((S.r p.name).map V.int))
 nod:(A.cells ls ps).Nodup
theorem jr.same {H H':Hp} {A:ww} {ls:List aH} {ps:List PD} {S:FS} (h:jr K t H A ls ps S) (s:aK H H'):jr K t H' A ls ps S:=
 ⟨h.at'.same s,s _ _ h.ever,fun l hl=>s _ _ (h.lists l hl),s _ _ h.gone,s _ _ h.kept,s _ _ h.done,s _ _ h.rows,fun p hp h0=>s _ _ (h.rlst p hp h0),h.nod⟩
structure Mi (b:Nat) (ls:List aH) (ps:List PD) (S:FS):Prop where
 vb:∀l∈ls,∀v∈S.ev l.name,0<=v/\v <1000000000
 rb:∀p∈ps,p.kind=0->∀v∈S.r p.name,0<=v/\v <1000000000
 dl:∀p∈ps,p.kind=0->S.d p.name<=(S.r p.name).length
 len:∀l∈ls,(S.ev l.name).length<=b
 rl:∀p∈ps,p.kind=0->(S.r p.name).length<=300
theorem M5 (ea:Str->Addr) (ls:List aH):(wy ea ls).map (·.1)=(ls.map (·.name)).map (fun x=>(Sum.inr x:Key)):=by unfold wy;rw [List.map_map,List.map_map];rfl
theorem sZ {ea:Str->Addr} {ls:List aH} (nd:(ls.map (·.name)).Nodup) {l:aH} (hl:l∈ls):bW (wy ea ls) (Sum.inr l.name)=some (.ref (ea l.name)):=
 gh (by rw [M5];exact eZ nd) (List.mem_map.mpr ⟨l,hl,rfl⟩)
theorem wB {g:Str->Nat} {ls:List aH} (nd:(ls.map (·.name)).Nodup) {l:aH} (hl:l∈ls):bW (cY g ls) (Sum.inr l.name)=some (.int (g l.name:Nat)):=
 gh (by rw [zH];exact eZ nd) (List.mem_map.mpr ⟨l,hl,rfl⟩)
theorem sX {k:Str->Int} {ps:List PD} (nd:(ps.map (·.name)).Nodup) {p:PD} (hp:p∈ps):bW (bU k ps) (Sum.inr p.name)=some (.int (k p.name)):=
 gh (by rw [yJ];exact eZ nd) (List.mem_map.mpr ⟨p,hp,rfl⟩)
theorem BP (ra:Str->Addr) (ps:List PD):(Hv ra ps).map (·.1)=((oR ps).map (·.name)).map (fun x=>(Sum.inr x:Key)):=by unfold Hv;rw [List.map_map,List.map_map];rfl
theorem O7 {ps:List PD} (nd:(ps.map (·.name)).Nodup):((oR ps).map (·.name)).Nodup:=nd.sublist (List.filter_sublist.map _)
theorem yM {ra:Str->Addr} {ps:List PD} (nd:(ps.map (·.name)).Nodup) {p:PD} (hp:p∈ps) (h0:p.kind=0):bW (Hv ra ps) (Sum.inr p.name)=some (.ref (ra p.name)):=
 gh (by rw [BP];exact eZ (O7 nd)) (List.mem_map.mpr ⟨p,List.mem_filter.mpr ⟨hp,by simp [h0]⟩,rfl⟩)
theorem Im {ra:Str->Addr} {ps:List PD} (nd:(ps.map (·.name)).Nodup) {p:PD} (hp:p∈ps) (h0:p.kind≠0):bW (Hv ra ps) (Sum.inr p.name)=none:=by
 refine gm ?_
 rw [BP]
 intro z
 obtain⟨b,hb,e⟩:=List.mem_map.mp z
 cases e
 obtain⟨p',hp',en⟩:=List.mem_map.mp hb
 have hf:=List.mem_filter.mp hp'
 have a1:=find_name nd hf.1
 have a2:=find_name nd hp
 rw [en] at a1
 rw [a1] at a2
 cases a2
 exact h0 (by simpa using hf.2)
noncomputable def j9 (S:FS) (x:Str):V:=(((S.ev x)[S.g x]?).map V.int).getD .non
noncomputable def bc (S:FS) (p:PD):List V:=p.ins.map (j9 S)
structure iH where
 tk:List Str
 gv:List (Str×Int)
 kv:Int
noncomputable def strAt (xs:List Str) (q:Nat):Str:=(xs[q]?).getD Str.empty
noncomputable def ud (S:FS) (p:PD):List Int:=if p.kind=0 then((S.r p.name)[S.d p.name]?).toList else(places p.kind (bc S p)).map fun q=>Rc (((bc S p)[q]?).getD .non)
noncomputable def vX (S:FS) (p:PD):Bool:=decide (p.kind=0) && decide (S.d p.name=(S.r p.name).length)
noncomputable def cH (S:FS) (p:PD):Option iH:=if f9 p.kind p.ins (bc S p)≠.non then none else if vX S p=true then none else
 some ⟨(places p.kind (bc S p)).map (strAt p.ins),(cj p.kind p.nums (ud S p) (S.k p.name)).map fun pv=>(strAt p.outs pv.1.toNat,pv.2),fZ p.kind (ud S p) (S.k p.name)⟩
inductive pP (M:List Addr) (H:Hp) (U:Addr) (dd:iH):Prop where
 | mk:∀La Lg rs,H U=some (.tup [.ref La,.ref Lg,.int dd.kv])->H La=some (.lst (dd.tk.map V.str))->H Lg=some (.lst (rs.map V.ref))->(iW H rs (dd.gv.map fun q=>[.str q.1,.int q.2]))->La∉M->Lg∉M->pP M H U dd
theorem pP.same {M:List Addr} {H H':Hp} {U:Addr} {dd:iH} (h:pP M H U dd) (s:aK H H'):pP M H' U dd:=by
 obtain⟨La,Lg,rs,a,b,c,d,e,f⟩:=h
 exact⟨La,Lg,rs,s _ _ a,s _ _ b,s _ _ c,iW.same s d,e,f⟩
theorem rC (S:FS) (p:PD) (h:ph p):uT p.kind (bc S p):=by
 refine⟨by unfold bc;rw [lM];exact h.2.2.1,fun v hv=>?_⟩
 obtain⟨x,_,rfl⟩:=List.mem_map.mp hv
 unfold j9
 cases (S.ev x)[S.g x]? with
 | none=>exact .inl rfl
 | some n=>exact .inr ⟨n,rfl⟩
theorem jr.cell {H:Hp} {A:ww} {ls:List aH} {ps:List PD} {S:FS} (h:jr K t H A ls ps S) {a:Addr} (ha:H a=none):a∉A.cells ls ps:=by
 intro z
 have no:∀{b:Addr} {u:HO},H b=some u->a=b->False:=fun e q=>by rw [<-q,ha] at e;cases e
 unfold ww.cells at z
 simp only [List.mem_cons,List.mem_append,List.mem_map] at z
 rcases z with z | z | z | z | z | ⟨l,hl,z⟩ | ⟨p,hp,z⟩
 ·exact no h.ever z
 ·exact no h.gone z
 ·exact no h.kept z
 ·exact no h.done z
 ·exact no h.rows z
 ·exact no (h.lists l hl) z.symm
 ·have hf:=List.mem_filter.mp hp
  exact no (h.rlst p hf.1 (by simpa using hf.2)) z.symm
structure Gd (n:Nat) (d:PyData):Prop where
 eq:PyData.eqv d d=true
 lay:PyData.canLay0 d=true
 dep:PyData.depth d<=n
theorem Gd.all {n:Nat}:∀{ds:List PyData},(∀d∈ds,Gd n d)->PyData.eqvAll ds ds=true/\PyData.canLayAll0 ds=true/\PyData.depthAll ds<=n
 | [],_=>⟨by simp [PyData.eqvAll],by simp [PyData.canLayAll0],by simp [PyData.depthAll]⟩
 | d:: r,h=>by
  obtain⟨h1,h2,h3⟩:=Gd.all (ds:=r) fun x hx=>h x (List.mem_cons_of_mem _ hx)
  have g:=h d List.mem_cons_self
  have g3:=g.dep
  refine⟨by simp [PyData.eqvAll,g.eq,h1],by simp [PyData.canLayAll0,g.lay,h2],?_⟩
  simp only [PyData.depthAll]
  omega
theorem Gd.list {n:Nat} {ds:List PyData} (h:∀d∈ds,Gd n d):Gd (n+1) (.list ds):=by
 obtain⟨h1,h2,h3⟩:=Gd.all h
 exact⟨by simp [PyData.eqv,h1],by simp [PyData.canLay0,h2],by simp only [PyData.depth];omega⟩
theorem Gd.tuple {n:Nat} {ds:List PyData} (h:∀d∈ds,Gd n d):Gd (n+1) (.tuple ds):=by
 obtain⟨h1,h2,h3⟩:=Gd.all h
 exact⟨by simp [PyData.eqv,h1],by simp [PyData.canLay0,h2],by simp only [PyData.depth];omega⟩
theorem Gd.int (n:Nat) (i:Int):Gd n (.int i):=⟨by simp [PyData.eqv],by simp [PyData.canLay0],by simp [PyData.depth]⟩
theorem Gd.str (n:Nat) {x:Str} (h:PyData.strOk x=true):Gd n (.str x):=⟨by simp [PyData.eqv],by simp [PyData.canLay0,h],by simp [PyData.depth]⟩
theorem Gd.ints (n:Nat) (ws:List Int):∀d∈ws.map PyData.int,Gd n d:=fun d hd=>by
 obtain⟨i,_,rfl⟩:=List.mem_map.mp hd
 exact .int n i
theorem Gd.shaped {n:Nat} {d:PyData} (h:Gd n d) (hn:n<=64):SeqAt.shaped d=true:=by
 have:=h.dep
 unfold SeqAt.shaped
 rw [h.lay,decide_eq_true (show d.depth<=64 by omega)]
 rfl
theorem Ir {H:Hp}:∀ws:List Int,Mx K H (ws.map V.int) (ws.map PyData.int)
 | []=>.nil
 | i:: r=>.cons (.int i) (Ir r)
theorem sO {H:Hp} {p:Addr} {ws:List Int} (h:bT K H p (ws.map V.int)):Dt K H (.ref p) (.list (ws.map PyData.int)):=.list h (Ir ws)
theorem Mw (xs:List V) (a b:Nat):wC xs (some (a:Int)) (some (b:Int))=(xs.drop (min a xs.length)).take (min b xs.length - min a xs.length):=by
 unfold wC
 rw [HT.vW,HT.vW]
theorem V9 {H H1:Hp} {a:Addr} {o:Obj} {kvs:List (Key×V)} (e:H a=some (.dK kvs)) (s:aK (upd H a (.frz o (.dK kvs))) H1):aK H (upd H1 a (.dK kvs)):=fun b u eb=>by
 by_cases hb:b=a
 ·rw [hb,aA,<-eb,hb,e]
 ·rw [aJ hb]
  exact s b u (by rw [aJ hb];exact eb)
theorem Wv {H:Hp} {a:Addr} {kvs:List (Key×V)} {x:Str} {v:V} (e:H a=some (.dK kvs)) (h:bW kvs (Sum.inr x)=some v):dZ H a (.str x) (some v):=by
 rw [<-h]
 exact dZ.k (k:=Sum.inr x) e
theorem zW (xs:List V) (g:Nat):wC xs none (some (g:Int))=xs.take g:=by
 unfold wC
 rw [HT.z6,HT.vW,List.drop_zero,Nat.sub_zero]
 rcases Nat.le_total g xs.length with h | h
 ·rw [Nat.min_eq_left h]
 ·rw [Nat.min_eq_right h,List.take_of_length_le h,List.take_of_length_le (Nat.le_refl _)]
inductive xY (K:PySem.W.Frag) (vs:List V) (H:Hp) (Q:VK) (E:XK):Prop where
 | mk:∀x Tx b,vs=[x]->Vl K H x Tx->Tx∈nY->decide (Tx= "int")=b->Q (.bl b) H->xY K vs H Q E
theorem rA (T:Txt w K mg t):FO P w K mg base 1 t.Aa ["thing"] (xY K):=by
 have sc:=T.mJ.sc ["thing"]
 refine T.mJ.F.ok sc ln (fun _ _ _ _ H vs Q E hr h=>?_)
 obtain⟨x,Tx,b,rfl,ty,hm,rfl,k⟩:=h
 refine⟨_,(az (aN (uJ (aV vL (by rfl) T.lD jM (aa (pv 0) (aa (yC (by rfl) T.Um Rh) ak aj) aj)) (uy (Sq (aV vL (by rfl) T.lD jM (aa (pv 0) (aa (yC (by rfl) T.SX Qa) ak aj) aj))))))),?_⟩
 have hm':Tx= "int" ∨Tx= "bool" ∨(Gr Tx "int" =false/\Tx≠ "int"):=by
  simp only [nY,List.mem_cons,List.not_mem_nil,or_false] at hm
  rcases hm with rfl | rfl | rfl | rfl | rfl | rfl | rfl
  ·exact .inr (.inr (by decide))
  ·exact .inr (.inl rfl)
  ·exact .inl rfl
  ·exact .inr (.inr (by decide))
  ·exact .inr (.inr (by decide))
  ·exact .inr (.inr (by decide))
  ·exact .inr (.inr (by decide))
 rcases hm' with rfl | rfl | ⟨h1,h2⟩
 ·exact⟨_,rfl,x, "int", "int",true,rfl,ty,by decide,by decide,true,rfl,lG ⟨_,rfl,x, "int", "bool",false,rfl,ty,by decide,by decide,_,rfl,k⟩⟩
 ·exact⟨_,rfl,x, "bool", "int",true,rfl,ty,by decide,by decide,true,rfl,lG ⟨_,rfl,x, "bool", "bool",true,rfl,ty,by decide,by decide,_,rfl,k⟩⟩
 ·rw [decide_eq_false h2] at k
  exact⟨_,rfl,x,Tx, "int",false,rfl,ty,by decide,h1,false,rfl,dR k⟩
inductive yd (K:PySem.W.Frag) (vs:List V) (H:Hp) (Q:VK) (E:XK):Prop where
 | mk:∀x,vs=[x]->(((∃i:Int,x=.int i/\Q (.bl (decide (0<=i) && decide (i <1000000000))) H)∨∃Tx,Vl K H x Tx/\Tx∈nY/\Tx≠ "int" /\Q (.bl false) H))->yd K vs H Q E
theorem qZ (T:Txt w K mg t):FO P w K mg base 2 t.zq ["thing"] (yd K):=by
 have sc:=T.mF.sc ["thing"]
 refine T.mF.F.ok sc ln (fun _ _ _ _ H vs Q E hr h=>?_)
 obtain⟨x,rfl,h⟩:=h
 refine⟨_,(az (aN (uJ (dz (rA T) T.mJ hr (aa (pv 0) ak aj)) (uy (MT qF uv aq (pv 0) (iy (by rfl) T.Fg)))))),?_⟩
 rcases h with ⟨i,rfl,k⟩ | ⟨Tx,ty,hm,hne,k⟩
 ·refine⟨_,rfl,.int i, "int",true,rfl,rfl,by decide,by decide,true,rfl,lG ⟨_,rfl,_,_,rfl,rfl,_,rfl,jx (fun h=>?_) (fun h=>?_)⟩⟩
  ·have h':0<=i:=of_decide_eq_true h
   rw [decide_eq_true h',Bool.true_and] at k
   exact⟨_,_,rfl,rfl,k⟩
  ·have h':¬0<=i:=fun z=>h (decide_eq_true z)
   rw [decide_eq_false h',Bool.false_and] at k
   exact k
 ·exact⟨_,rfl,x,Tx,false,rfl,ty,hm,decide_eq_false hne,false,rfl,dR k⟩
inductive pC (K:PySem.W.Frag) (t:mW) (vs:List V) (H:Hp) (Q:VK) (E:XK):Prop where
 | mk:∀(i:Nat) (p dx a1 a2 a3:Addr) (nm:V) (ns is os:List V),vs=[.ref p,nm,.ref a1,.ref a2,.ref a3]->H p=some (.ins (cls t i) dx [])->vf K H a1 ns->vf K H a2 is->vf K H a3 os->(∀H',j4 p H H'->eU K t H' p i nm ns is os->Q .non H')->pC K t vs H Q E
noncomputable abbrev kJ:List Str:=["self", "name", "numbers", "ins", "outs"]
theorem bV (T:Txt w K mg t):FO P w K mg base 1 t.bM kJ (pC K t):=by
 have sc:gH kJ kJ (bA (inClass (top 35) 0)):=Nv
 refine T.aU.F.ok sc ln (fun _ _ _ _ H vs Q E hr h=>?_)
 obtain⟨i,p,dx,a1,a2,a3,nm,ns,is,os,rfl,hp,q1,q2,q3,k⟩:=h
 refine⟨_,(au (je (pv 0) (pv 1) rfl)
  (au (je (pv 0) (eY tE (by rfl) T.yD wk (aa (pv 2) ak aj)) rfl)
  (au (je (pv 0) (eY tE (by rfl) T.yD wk (aa (pv 3) ak aj)) rfl)
  (az (je (pv 0) (eY tE (by rfl) T.yD wk (aa (pv 4) ak aj)) rfl))))),?_⟩
 refine⟨_,rfl,_,rfl,p,cls t i,dx,[],rfl,hp,iz T i,yE T i,by show 0 <1000;decide,?_⟩
 have b1:j4 p H (upd H p (.ins (cls t i) dx (aG "name" nm []))):=j4.write
 have e1:(upd H p (.ins (cls t i) dx (aG "name" nm []))) p=some (.ins (cls t i) dx (aG "name" nm [])):=aA
 generalize upd H p (.ins (cls t i) dx (aG "name" nm []))=H1 at b1 e1 ⊢
 have r2:=b1.seqA hp q2
 have r3:=b1.seqA hp q3
 refine⟨_,rfl,a1,ns,rfl,b1.seqA hp q1,fun H2 u2 s2 t2=>⟨_,rfl,p,cls t i,dx,_,rfl,s2 _ _ e1,iz T i,qg T i,Nat.lt_of_le_of_lt (jf (Nat.zero_le 0)) (by decide),?_⟩⟩
 have e2:=s2 _ _ e1
 have b2:j4 p H2 (upd H2 p (.ins (cls t i) dx (aG "numbers" (.ref u2) (aG "name" nm [])))):=j4.write
 have e3:(upd H2 p (.ins (cls t i) dx (aG "numbers" (.ref u2) (aG "name" nm [])))) p=some (.ins (cls t i) dx (aG "numbers" (.ref u2) (aG "name" nm []))):=aA
 generalize upd H2 p (.ins (cls t i) dx (aG "numbers" (.ref u2) (aG "name" nm [])))=H3 at b2 e3 ⊢
 have r2':=b2.seqA e2 (s2.seqA r2)
 have r3':=b2.seqA e2 (s2.seqA r3)
 have t2':=b2.seqT e2 t2
 refine⟨_,rfl,a2,is,rfl,r2',fun H4 u4 s4 t4=>⟨_,rfl,p,cls t i,dx,_,rfl,s4 _ _ e3,iz T i,wO T i,Nat.lt_of_le_of_lt (jf (jf (Nat.zero_le 0))) (by decide),?_⟩⟩
 have e4:=s4 _ _ e3
 have b4:j4 p H4 (upd H4 p (.ins (cls t i) dx (aG "ins" (.ref u4) (aG "numbers" (.ref u2) (aG "name" nm []))))):=j4.write
 have e5:(upd H4 p (.ins (cls t i) dx (aG "ins" (.ref u4) (aG "numbers" (.ref u2) (aG "name" nm []))))) p=some (.ins (cls t i) dx (aG "ins" (.ref u4) (aG "numbers" (.ref u2) (aG "name" nm [])))):=aA
 generalize upd H4 p (.ins (cls t i) dx (aG "ins" (.ref u4) (aG "numbers" (.ref u2) (aG "name" nm []))))=H5 at b4 e5 ⊢
 have r3'':=b4.seqA e4 (s4.seqA r3')
 have t2'':=b4.seqT e4 (s4.seqT t2')
 have t4':=b4.seqT e4 t4
 refine⟨_,rfl,a3,os,rfl,r3'',fun H6 u6 s6 t6=>⟨_,rfl,p,cls t i,dx,_,rfl,s6 _ _ e5,iz T i,El T i,Nat.lt_of_le_of_lt (jf (jf (jf (Nat.zero_le 0)))) (by decide),?_⟩⟩
 have e6:=s6 _ _ e5
 refine k _ (b1.trans ((j4.of_same s2).trans (b2.trans ((j4.of_same s4).trans (b4.trans ((j4.of_same s6).trans j4.write)))))) ⟨dx,u2,u4,u6,aA,?_,?_,?_⟩
 ·exact j4.write.seqT e6 (s6.seqT t2'')
 ·exact j4.write.seqT e6 (s6.seqT t4')
 ·exact j4.write.seqT e6 t6
theorem Dm (T:Txt w K mg t):FO P w K mg base 1 t.rT ["self"] (iB 0):=by
 have sc:=T.oH.sc ["self"]
 refine T.oH.F.ok sc ln (fun _ _ _ _ H vs Q E hr h=>?_)
 obtain⟨x,rfl,k⟩:=h
 refine⟨_,(az (aN bN)),?_⟩
 exact k
theorem CW (T:Txt w K mg t):FO P w K mg base 1 t.rP ["self"] (iB 1):=by
 have sc:=T.mZ.sc ["self"]
 refine T.mZ.F.ok sc ln (fun _ _ _ _ H vs Q E hr h=>?_)
 obtain⟨x,rfl,k⟩:=h
 refine⟨_,(az (aN bN)),?_⟩
 exact k
theorem CP (T:Txt w K mg t):FO P w K mg base 1 t.rK ["self"] (iB 2):=by
 have sc:=T.nC.sc ["self"]
 refine T.nC.F.ok sc ln (fun _ _ _ _ H vs Q E hr h=>?_)
 obtain⟨x,rfl,k⟩:=h
 refine⟨_,(az (aN bN)),?_⟩
 exact k
theorem DR (T:Txt w K mg t):FO P w K mg base 1 t.rQ ["self"] (iB 3):=by
 have sc:=T.m8.sc ["self"]
 refine T.m8.F.ok sc ln (fun _ _ _ _ H vs Q E hr h=>?_)
 obtain⟨x,rfl,k⟩:=h
 refine⟨_,(az (aN bN)),?_⟩
 exact k
theorem Ea (T:Txt w K mg t):FO P w K mg base 1 t.rF ["self"] (iB 4):=by
 have sc:=T.oE.sc ["self"]
 refine T.oE.F.ok sc ln (fun _ _ _ _ H vs Q E hr h=>?_)
 obtain⟨x,rfl,k⟩:=h
 refine⟨_,(az (aN bN)),?_⟩
 exact k
theorem Cy (T:Txt w K mg t):FO P w K mg base 1 t.su ["self"] (iB 5):=by
 have sc:=T.m6.sc ["self"]
 refine T.m6.F.ok sc ln (fun _ _ _ _ H vs Q E hr h=>?_)
 obtain⟨x,rfl,k⟩:=h
 refine⟨_,(az (aN bN)),?_⟩
 exact k
theorem Fx (T:Txt w K mg t):FO P w K mg base 1 t.uH ["self"] (iB 6):=by
 have sc:=T.ql.sc ["self"]
 refine T.ql.F.ok sc ln (fun _ _ _ _ H vs Q E hr h=>?_)
 obtain⟨x,rfl,k⟩:=h
 refine⟨_,(az (aN bN)),?_⟩
 exact k
theorem Ef (T:Txt w K mg t):FO P w K mg base 1 t.sy ["self"] (iB 7):=by
 have sc:=T.m7.sc ["self"]
 refine T.m7.F.ok sc ln (fun _ _ _ _ H vs Q E hr h=>?_)
 obtain⟨x,rfl,k⟩:=h
 refine⟨_,(az (aN bN)),?_⟩
 exact k
theorem Bb (T:Txt w K mg t):FO P w K mg base 1 t.p8 ["self"] (iB 8):=by
 have sc:=T.lq.sc ["self"]
 refine T.lq.F.ok sc ln (fun _ _ _ _ H vs Q E hr h=>?_)
 obtain⟨x,rfl,k⟩:=h
 refine⟨_,(az (aN bN)),?_⟩
 exact k
theorem zy (T:Txt w K mg t):FO P w K mg base 1 t.oU ["self"] (iB 9):=by
 have sc:=T.jV.sc ["self"]
 refine T.jV.F.ok sc ln (fun _ _ _ _ H vs Q E hr h=>?_)
 obtain⟨x,rfl,k⟩:=h
 refine⟨_,(az (aN bN)),?_⟩
 exact k
theorem Am (T:Txt w K mg t):FO P w K mg base 1 t.pY ["self"] (iB 10):=by
 have sc:=T.lO.sc ["self"]
 refine T.lO.F.ok sc ln (fun _ _ _ _ H vs Q E hr h=>?_)
 obtain⟨x,rfl,k⟩:=h
 refine⟨_,(az (aN bN)),?_⟩
 exact k
inductive Ah (vs:List V) (H:Hp) (Q:VK) (E:XK):Prop where
 | mk:∀z:Str,vs=[.str z]->Q (.bl (rowOf ROWS z).isSome) H->Ah vs H Q E
theorem yQ (T:Txt w K mg t):FO P w K mg base 1 t.BW ["word"] (Ah):=by
 have sc:=T.sI.sc ["word"]
 refine T.sI.F.ok sc ln (fun _ _ _ _ H vs Q E hr h=>?_)
 obtain⟨z,rfl,k⟩:=h
 refine⟨_,(az (aN (Dp (Ss (pv 0) (Do (v:=.ref _) (by rfl) T.Cu rfl)) (by with_unfolding_all rfl)))),?_⟩
 exact⟨_,rfl,t.vN,ROWS,z,rfl,T.Fz,rfl,k⟩
inductive xQ (K:PySem.W.Frag) (vs:List V) (H:Hp) (Q:VK) (E:XK):Prop where
 | mk:∀(i:Nat) (nm:V) (a1 a2 a3:Addr) (ns is os:List V),vs=[.str (d8 i),nm,.ref a1,.ref a2,.ref a3]->vf K H a1 ns->vf K H a2 is->vf K H a3 os->ns.length=cN i->is.length=cI i->os.length=cO i->((∀v∈ns,Val v))->(∀H',aK H H'->Q .non H')->xQ K vs H Q E
noncomputable abbrev zx:List Str:=["kind", "name", "numbers", "ins", "outs", "counts"]
theorem Ft (T:Txt w K mg t):FO P w K mg base 3 t.zY ["kind", "name", "numbers", "ins", "outs"] (xQ K):=by
 have sc:=T.uG.sc zx
 refine T.uG.F.ok sc ln (fun _ _ _ _ H vs Q E hr h=>?_)
 obtain⟨i,nm,a1,a2,a3,ns,is,os,rfl,h1,h2,h3,l1,l2,l3,hv,k⟩:=h
 refine⟨_,(au (bQ (fU (fJ (dz (yQ T) T.sI hr (aa (pv 0) ak aj))))
   (az dH)
   bz)
  (au (sN sc 5 (Pn (Do (v:=.ref _) (by rfl) T.Cu rfl) (pv 0) (fun _ _=>rfl)))
  (au (bQ (PW.pt (pJ (bC Jy (aV bK (by rfl) T.dG bY (aa (pv 2) ak aj)) (aY dD (pv 5) aq (fun _ _=>rfl)) (bL _)) (lg (fU (fJ (aV (vC rfl) (by rfl) T.Ik Du (aa (j5 [] zx (bA (top 48)) rfl (QL (dN (pv 2)) (DY (pv 2))) (fun _ _ _ _ _=>jo) (fun _ _ _ _ _=>(dz (qZ T) T.mF hr (aa (pv 0) ak aj)))) ak fG)))))))
   (az dH)
   bz)
  (az (bQ (PW.pt (pJ (bC Jy (aV bK (by rfl) T.dG bY (aa (pv 3) ak aj)) (aY dD (pv 5) aq (fun _ _=>rfl)) (bL _)) (lg (bC Jy (aV bK (by rfl) T.dG bY (aa (pv 4) ak aj)) (aY dD (pv 5) aq (fun _ _=>rfl)) (bL _)))))
   (az dH)
   bz))))),?_⟩
 have hl:sizeLine=16777216:=sizeLine_eq
 have hN:=Uq i
 have hI:=Bt i
 have hO:=Mp i
 refine⟨_,rfl,d8 i,rfl,true,by rw [row_of];rfl,dR ?_⟩
 refine⟨_,rfl,t.vN,ROWS,d8 i,_,rfl,T.Fz,rfl,row_of i,fun ad had=>?_⟩
 refine⟨_,rfl,.ref a1,ns.length,rfl,h1.len,_,rfl,ad,_,0,_,rfl,rfl,had,aM (j:=0) rfl,rfl,_,rfl,?_⟩
 rw [show(!decide (V.int ((ns.length:Nat):Int)=V.int ((cN i:Nat):Int)))=false by rw [l1];simp]
 refine dR ?_
 refine Mu (a:=a1) (xs:=ns) ?_ h1 (fun j ys=>ys=(List.replicate j true).map V.bl) (by omega) rfl (fun j ys e=>by rw [e];simp) (fun j x ys hx e=>?_) (fun ys e D hD=>?_)
 ·exact fun R r=>⟨_,rfl,r⟩
 ·subst e
  obtain⟨n,rfl,n0,n1⟩:=hv x (List.mem_of_getElem? hx)
  refine yes ⟨_,rfl,.int n,rfl,.inl ⟨n,rfl,rfl,?_⟩⟩
  rw [decide_eq_true n0,decide_eq_true n1,List.replicate_succ']
  simp
 ·subst e
  refine⟨D,_,rfl,bT.of aA,_,rfl,?_⟩
  rw [show((List.replicate ns.length true).all id)=true by simp]
  refine dR ?_
  have s1:aK H (upd H D (.lst ((List.replicate ns.length true).map V.bl))):=aF hD
  refine⟨_,rfl,.ref a2,is.length,rfl,(s1.seqA h2).len,_,rfl,ad,_,1,_,rfl,rfl,s1.seqT had,aM (j:=1) rfl,rfl,_,rfl,?_⟩
  rw [show(!decide (V.int ((is.length:Nat):Int)=V.int ((cI i:Nat):Int)))=false by rw [l2];simp]
  refine dR ?_
  refine⟨_,rfl,.ref a3,os.length,rfl,(s1.seqA h3).len,_,rfl,ad,_,2,_,rfl,rfl,s1.seqT had,aM (j:=2) rfl,rfl,_,rfl,?_⟩
  rw [show(!decide (V.int ((os.length:Nat):Int)=V.int ((cO i:Nat):Int)))=false by rw [l3];simp]
  exact dR (k _ s1)
inductive yG (K:PySem.W.Frag) (t:mW) (vs:List V) (H:Hp) (Q:VK) (E:XK):Prop where
 | mk:∀(i:Nat) (nm:V) (a1 a2 a3:Addr) (ns is os:List V),vs=[.str (d8 i),nm,.ref a1,.ref a2,.ref a3]->i<=10->vf K H a1 ns->vf K H a2 is->vf K H a3 os->(∀H' p,aK H H'->H p=none->eU K t H' p i nm ns is os->Q (.ref p) H')->yG K t vs H Q E
noncomputable abbrev wQ:List Str:=["kind", "name", "numbers", "ins", "outs"]
theorem Hj (T:Txt w K mg t):FO P w K mg base 3 t.Bu wQ (yG K t):=by
 have sc:gH wQ wQ (bA (top 49)):=Nv
 refine T.Bg.F.ok sc ln (fun _ _ _ _ H vs Q E hr h=>?_)
 obtain⟨i,nm,a1,a2,a3,ns,is,os,rfl,hi,h1,h2,h3,k⟩:=h
 refine⟨_,(au (bQ (bC iM (pv 0) bN (bL _))
   (az (aN (gB (T.ir.M T.aU) (bV T) (hr.mono (by decide)) (by rfl) T.ir.m T.aU.b .nil gQ (aa (pv 1) (aa (pv 2) (aa (pv 3) (aa (pv 4) ak aj) aj) aj) aj))))
   bz)
  (au (bQ (bC iM (pv 0) bN (bL _))
   (az (aN (gB (T.gY.M T.aU) (bV T) (hr.mono (by decide)) (by rfl) T.gY.m T.aU.b .nil gQ (aa (pv 1) (aa (pv 2) (aa (pv 3) (aa (pv 4) ak aj) aj) aj) aj))))
   bz)
  (au (bQ (bC iM (pv 0) bN (bL _))
   (az (aN (gB (T.gP.M T.aU) (bV T) (hr.mono (by decide)) (by rfl) T.gP.m T.aU.b .nil gQ (aa (pv 1) (aa (pv 2) (aa (pv 3) (aa (pv 4) ak aj) aj) aj) aj))))
   bz)
  (au (bQ (bC iM (pv 0) bN (bL _))
   (az (aN (gB (T.gO.M T.aU) (bV T) (hr.mono (by decide)) (by rfl) T.gO.m T.aU.b .nil gQ (aa (pv 1) (aa (pv 2) (aa (pv 3) (aa (pv 4) ak aj) aj) aj) aj))))
   bz)
  (au (bQ (bC iM (pv 0) bN (bL _))
   (az (aN (gB (T.gZ.M T.aU) (bV T) (hr.mono (by decide)) (by rfl) T.gZ.m T.aU.b .nil gQ (aa (pv 1) (aa (pv 2) (aa (pv 3) (aa (pv 4) ak aj) aj) aj) aj))))
   bz)
  (au (bQ (bC iM (pv 0) bN (bL _))
   (az (aN (gB (T.ig.M T.aU) (bV T) (hr.mono (by decide)) (by rfl) T.ig.m T.aU.b .nil gQ (aa (pv 1) (aa (pv 2) (aa (pv 3) (aa (pv 4) ak aj) aj) aj) aj))))
   bz)
  (au (bQ (bC iM (pv 0) bN (bL _))
   (az (aN (gB (T.j6.M T.aU) (bV T) (hr.mono (by decide)) (by rfl) T.j6.m T.aU.b .nil gQ (aa (pv 1) (aa (pv 2) (aa (pv 3) (aa (pv 4) ak aj) aj) aj) aj))))
   bz)
  (au (bQ (bC iM (pv 0) bN (bL _))
   (az (aN (gB (T.il.M T.aU) (bV T) (hr.mono (by decide)) (by rfl) T.il.m T.aU.b .nil gQ (aa (pv 1) (aa (pv 2) (aa (pv 3) (aa (pv 4) ak aj) aj) aj) aj))))
   bz)
  (au (bQ (bC iM (pv 0) bN (bL _))
   (az (aN (gB (T.fc.M T.aU) (bV T) (hr.mono (by decide)) (by rfl) T.fc.m T.aU.b .nil gQ (aa (pv 1) (aa (pv 2) (aa (pv 3) (aa (pv 4) ak aj) aj) aj) aj))))
   bz)
  (au (bQ (bC iM (pv 0) bN (bL _))
   (az (aN (gB (T.dU.M T.aU) (bV T) (hr.mono (by decide)) (by rfl) T.dU.m T.aU.b .nil gQ (aa (pv 1) (aa (pv 2) (aa (pv 3) (aa (pv 4) ak aj) aj) aj) aj))))
   bz)
  (az (aN (gB (T.fB.M T.aU) (bV T) (hr.mono (by decide)) (by rfl) T.fB.m T.aU.b .nil gQ (aa (pv 1) (aa (pv 2) (aa (pv 3) (aa (pv 4) ak aj) aj) aj) aj)))))))))))))),?_⟩
 match i,hi with
 | 0,_=>
  refine⟨_,rfl,rfl,_,rfl,uF rfl ?_⟩
  refine⟨_,rfl,_,rfl,_,rfl,_,rfl,fun x dx nx ndx nex=>?_⟩
  have s0:aK H (upd (upd H dx (.own x)) x (.ins t.Ii dx [])):=fun b o e=>by rw [aJ (aC e nx),aJ (aC e ndx)];exact e
  exact⟨0,x,dx,a1,a2,a3,nm,ns,is,os,rfl,aA,s0.seqA h1,s0.seqA h2,s0.seqA h3,fun H' b P=>⟨rfl,k H' x (fun c o e=>b c o (aC e nx) (s0 c o e)) nx P⟩⟩
 | 1,_=>
  refine⟨_,rfl,rfl,_,rfl,dF (by decide +kernel) ?_⟩
  refine⟨_,rfl,rfl,_,rfl,uF rfl ?_⟩
  refine⟨_,rfl,_,rfl,_,rfl,_,rfl,fun x dx nx ndx nex=>?_⟩
  have s0:aK H (upd (upd H dx (.own x)) x (.ins t.GQ dx [])):=fun b o e=>by rw [aJ (aC e nx),aJ (aC e ndx)];exact e
  exact⟨1,x,dx,a1,a2,a3,nm,ns,is,os,rfl,aA,s0.seqA h1,s0.seqA h2,s0.seqA h3,fun H' b P=>⟨rfl,k H' x (fun c o e=>b c o (aC e nx) (s0 c o e)) nx P⟩⟩
 | 2,_=>
  refine⟨_,rfl,rfl,_,rfl,dF (by decide +kernel) ?_⟩
  refine⟨_,rfl,rfl,_,rfl,dF (by decide +kernel) ?_⟩
  refine⟨_,rfl,rfl,_,rfl,uF rfl ?_⟩
  refine⟨_,rfl,_,rfl,_,rfl,_,rfl,fun x dx nx ndx nex=>?_⟩
  have s0:aK H (upd (upd H dx (.own x)) x (.ins t.GP dx [])):=fun b o e=>by rw [aJ (aC e nx),aJ (aC e ndx)];exact e
  exact⟨2,x,dx,a1,a2,a3,nm,ns,is,os,rfl,aA,s0.seqA h1,s0.seqA h2,s0.seqA h3,fun H' b P=>⟨rfl,k H' x (fun c o e=>b c o (aC e nx) (s0 c o e)) nx P⟩⟩
 | 3,_=>
  refine⟨_,rfl,rfl,_,rfl,dF (by decide +kernel) ?_⟩
  refine⟨_,rfl,rfl,_,rfl,dF (by decide +kernel) ?_⟩
  refine⟨_,rfl,rfl,_,rfl,dF (by decide +kernel) ?_⟩
  refine⟨_,rfl,rfl,_,rfl,uF rfl ?_⟩
  refine⟨_,rfl,_,rfl,_,rfl,_,rfl,fun x dx nx ndx nex=>?_⟩
  have s0:aK H (upd (upd H dx (.own x)) x (.ins t.Hb dx [])):=fun b o e=>by rw [aJ (aC e nx),aJ (aC e ndx)];exact e
  exact⟨3,x,dx,a1,a2,a3,nm,ns,is,os,rfl,aA,s0.seqA h1,s0.seqA h2,s0.seqA h3,fun H' b P=>⟨rfl,k H' x (fun c o e=>b c o (aC e nx) (s0 c o e)) nx P⟩⟩
 | 4,_=>
  refine⟨_,rfl,rfl,_,rfl,dF (by decide +kernel) ?_⟩
  refine⟨_,rfl,rfl,_,rfl,dF (by decide +kernel) ?_⟩
  refine⟨_,rfl,rfl,_,rfl,dF (by decide +kernel) ?_⟩
  refine⟨_,rfl,rfl,_,rfl,dF (by decide +kernel) ?_⟩
  refine⟨_,rfl,rfl,_,rfl,uF rfl ?_⟩
  refine⟨_,rfl,_,rfl,_,rfl,_,rfl,fun x dx nx ndx nex=>?_⟩
  have s0:aK H (upd (upd H dx (.own x)) x (.ins t.Ho dx [])):=fun b o e=>by rw [aJ (aC e nx),aJ (aC e ndx)];exact e
  exact⟨4,x,dx,a1,a2,a3,nm,ns,is,os,rfl,aA,s0.seqA h1,s0.seqA h2,s0.seqA h3,fun H' b P=>⟨rfl,k H' x (fun c o e=>b c o (aC e nx) (s0 c o e)) nx P⟩⟩
 | 5,_=>
  refine⟨_,rfl,rfl,_,rfl,dF (by decide +kernel) ?_⟩
  refine⟨_,rfl,rfl,_,rfl,dF (by decide +kernel) ?_⟩
  refine⟨_,rfl,rfl,_,rfl,dF (by decide +kernel) ?_⟩
  refine⟨_,rfl,rfl,_,rfl,dF (by decide +kernel) ?_⟩
  refine⟨_,rfl,rfl,_,rfl,dF (by decide +kernel) ?_⟩
  refine⟨_,rfl,rfl,_,rfl,uF rfl ?_⟩
  refine⟨_,rfl,_,rfl,_,rfl,_,rfl,fun x dx nx ndx nex=>?_⟩
  have s0:aK H (upd (upd H dx (.own x)) x (.ins t.Hw dx [])):=fun b o e=>by rw [aJ (aC e nx),aJ (aC e ndx)];exact e
  exact⟨5,x,dx,a1,a2,a3,nm,ns,is,os,rfl,aA,s0.seqA h1,s0.seqA h2,s0.seqA h3,fun H' b P=>⟨rfl,k H' x (fun c o e=>b c o (aC e nx) (s0 c o e)) nx P⟩⟩
 | 6,_=>
  refine⟨_,rfl,rfl,_,rfl,dF (by decide +kernel) ?_⟩
  refine⟨_,rfl,rfl,_,rfl,dF (by decide +kernel) ?_⟩
  refine⟨_,rfl,rfl,_,rfl,dF (by decide +kernel) ?_⟩
  refine⟨_,rfl,rfl,_,rfl,dF (by decide +kernel) ?_⟩
  refine⟨_,rfl,rfl,_,rfl,dF (by decide +kernel) ?_⟩
  refine⟨_,rfl,rfl,_,rfl,dF (by decide +kernel) ?_⟩
  refine⟨_,rfl,rfl,_,rfl,uF rfl ?_⟩
  refine⟨_,rfl,_,rfl,_,rfl,_,rfl,fun x dx nx ndx nex=>?_⟩
  have s0:aK H (upd (upd H dx (.own x)) x (.ins t.Mq dx [])):=fun b o e=>by rw [aJ (aC e nx),aJ (aC e ndx)];exact e
  exact⟨6,x,dx,a1,a2,a3,nm,ns,is,os,rfl,aA,s0.seqA h1,s0.seqA h2,s0.seqA h3,fun H' b P=>⟨rfl,k H' x (fun c o e=>b c o (aC e nx) (s0 c o e)) nx P⟩⟩
 | 7,_=>
  refine⟨_,rfl,rfl,_,rfl,dF (by decide +kernel) ?_⟩
  refine⟨_,rfl,rfl,_,rfl,dF (by decide +kernel) ?_⟩
  refine⟨_,rfl,rfl,_,rfl,dF (by decide +kernel) ?_⟩
  refine⟨_,rfl,rfl,_,rfl,dF (by decide +kernel) ?_⟩
  refine⟨_,rfl,rfl,_,rfl,dF (by decide +kernel) ?_⟩
  refine⟨_,rfl,rfl,_,rfl,dF (by decide +kernel) ?_⟩
  refine⟨_,rfl,rfl,_,rfl,dF (by decide +kernel) ?_⟩
  refine⟨_,rfl,rfl,_,rfl,uF rfl ?_⟩
  refine⟨_,rfl,_,rfl,_,rfl,_,rfl,fun x dx nx ndx nex=>?_⟩
  have s0:aK H (upd (upd H dx (.own x)) x (.ins t.Hd dx [])):=fun b o e=>by rw [aJ (aC e nx),aJ (aC e ndx)];exact e
  exact⟨7,x,dx,a1,a2,a3,nm,ns,is,os,rfl,aA,s0.seqA h1,s0.seqA h2,s0.seqA h3,fun H' b P=>⟨rfl,k H' x (fun c o e=>b c o (aC e nx) (s0 c o e)) nx P⟩⟩
 | 8,_=>
  refine⟨_,rfl,rfl,_,rfl,dF (by decide +kernel) ?_⟩
  refine⟨_,rfl,rfl,_,rfl,dF (by decide +kernel) ?_⟩
  refine⟨_,rfl,rfl,_,rfl,dF (by decide +kernel) ?_⟩
  refine⟨_,rfl,rfl,_,rfl,dF (by decide +kernel) ?_⟩
  refine⟨_,rfl,rfl,_,rfl,dF (by decide +kernel) ?_⟩
  refine⟨_,rfl,rfl,_,rfl,dF (by decide +kernel) ?_⟩
  refine⟨_,rfl,rfl,_,rfl,dF (by decide +kernel) ?_⟩
  refine⟨_,rfl,rfl,_,rfl,dF (by decide +kernel) ?_⟩
  refine⟨_,rfl,rfl,_,rfl,uF rfl ?_⟩
  refine⟨_,rfl,_,rfl,_,rfl,_,rfl,fun x dx nx ndx nex=>?_⟩
  have s0:aK H (upd (upd H dx (.own x)) x (.ins t.Di dx [])):=fun b o e=>by rw [aJ (aC e nx),aJ (aC e ndx)];exact e
  exact⟨8,x,dx,a1,a2,a3,nm,ns,is,os,rfl,aA,s0.seqA h1,s0.seqA h2,s0.seqA h3,fun H' b P=>⟨rfl,k H' x (fun c o e=>b c o (aC e nx) (s0 c o e)) nx P⟩⟩
 | 9,_=>
  refine⟨_,rfl,rfl,_,rfl,dF (by decide +kernel) ?_⟩
  refine⟨_,rfl,rfl,_,rfl,dF (by decide +kernel) ?_⟩
  refine⟨_,rfl,rfl,_,rfl,dF (by decide +kernel) ?_⟩
  refine⟨_,rfl,rfl,_,rfl,dF (by decide +kernel) ?_⟩
  refine⟨_,rfl,rfl,_,rfl,dF (by decide +kernel) ?_⟩
  refine⟨_,rfl,rfl,_,rfl,dF (by decide +kernel) ?_⟩
  refine⟨_,rfl,rfl,_,rfl,dF (by decide +kernel) ?_⟩
  refine⟨_,rfl,rfl,_,rfl,dF (by decide +kernel) ?_⟩
  refine⟨_,rfl,rfl,_,rfl,dF (by decide +kernel) ?_⟩
  refine⟨_,rfl,rfl,_,rfl,uF rfl ?_⟩
  refine⟨_,rfl,_,rfl,_,rfl,_,rfl,fun x dx nx ndx nex=>?_⟩
  have s0:aK H (upd (upd H dx (.own x)) x (.ins t.z7 dx [])):=fun b o e=>by rw [aJ (aC e nx),aJ (aC e ndx)];exact e
  exact⟨9,x,dx,a1,a2,a3,nm,ns,is,os,rfl,aA,s0.seqA h1,s0.seqA h2,s0.seqA h3,fun H' b P=>⟨rfl,k H' x (fun c o e=>b c o (aC e nx) (s0 c o e)) nx P⟩⟩
 | 10,_=>
  refine⟨_,rfl,rfl,_,rfl,dF (by decide +kernel) ?_⟩
  refine⟨_,rfl,rfl,_,rfl,dF (by decide +kernel) ?_⟩
  refine⟨_,rfl,rfl,_,rfl,dF (by decide +kernel) ?_⟩
  refine⟨_,rfl,rfl,_,rfl,dF (by decide +kernel) ?_⟩
  refine⟨_,rfl,rfl,_,rfl,dF (by decide +kernel) ?_⟩
  refine⟨_,rfl,rfl,_,rfl,dF (by decide +kernel) ?_⟩
  refine⟨_,rfl,rfl,_,rfl,dF (by decide +kernel) ?_⟩
  refine⟨_,rfl,rfl,_,rfl,dF (by decide +kernel) ?_⟩
  refine⟨_,rfl,rfl,_,rfl,dF (by decide +kernel) ?_⟩
  refine⟨_,rfl,rfl,_,rfl,dF (by decide +kernel) ?_⟩
  refine⟨_,rfl,_,rfl,_,rfl,_,rfl,fun x dx nx ndx nex=>?_⟩
  have s0:aK H (upd (upd H dx (.own x)) x (.ins t.CQ dx [])):=fun b o e=>by rw [aJ (aC e nx),aJ (aC e ndx)];exact e
  exact⟨10,x,dx,a1,a2,a3,nm,ns,is,os,rfl,aA,s0.seqA h1,s0.seqA h2,s0.seqA h3,fun H' b P=>⟨rfl,k H' x (fun c o e=>b c o (aC e nx) (s0 c o e)) nx P⟩⟩
 | (n+11),h=>exact absurd h (by omega)
inductive uY (K:PySem.W.Frag) (t:mW) (vs:List V) (H:Hp) (Q:VK) (E:XK):Prop where
 | mk:∀(i:Nat) (nm:V) (a1 a2 a3:Addr) (ns is os:List V),vs=[.str (d8 i),nm,.ref a1,.ref a2,.ref a3]->i<=10->vf K H a1 ns->vf K H a2 is->vf K H a3 os->ns.length=cN i->is.length=cI i->os.length=cO i->((∀v∈ns,Val v))->(∀H' p,aK H H'->H p=none->eU K t H' p i nm ns is os->Q (.ref p) H')->uY K t vs H Q E
noncomputable abbrev qW:List Str:=["kind", "name", "numbers", "ins", "outs"]
theorem CG (T:Txt w K mg t):FO P w K mg base 4 t.ye qW (uY K t):=by
 have sc:gH qW qW (bA (top 50)):=Nv
 refine T.xV.F.ok sc ln (fun _ _ _ _ H vs Q E hr h=>?_)
 obtain⟨i,nm,a1,a2,a3,ns,is,os,rfl,hi,h1,h2,h3,l1,l2,l3,hv,k⟩:=h
 refine⟨_,(au (bJ (dz (Ft T) T.uG hr (aa (pv 0) (aa (pv 1) (aa (pv 2) (aa (pv 3) (aa (pv 4) ak aj) aj) aj) aj) aj)))
  (az (aN (dz (Hj T) T.Bg hr (aa (pv 0) (aa (pv 1) (aa (pv 2) (aa (pv 3) (aa (pv 4) ak aj) aj) aj) aj) aj))))),?_⟩
 refine⟨_,rfl,_,rfl,_,rfl,_,rfl,_,rfl,i,nm,a1,a2,a3,ns,is,os,rfl,h1,h2,h3,l1,l2,l3,hv,fun H1 s1=>?_⟩
 exact⟨_,rfl,_,rfl,_,rfl,_,rfl,_,rfl,i,nm,a1,a2,a3,ns,is,os,rfl,hi,s1.seqA h1,s1.seqA h2,s1.seqA h3,fun H2 p s2 np P=>k H2 p (s1.trans s2) (s1.free np) P⟩
inductive Il (vs:List V) (H:Hp) (Q:VK) (E:XK):Prop where
 | mk:∀a:Int,vs=[.int a]->Q (.int (a % 1000000000)) H->Il vs H Q E
theorem Ej (T:Txt w K mg t):FO P w K mg base 1 t.Ml ["number"] (Il):=by
 have sc:=T.yW.sc ["number"]
 refine T.yW.F.ok sc ln (fun _ _ _ _ H vs Q E hr h=>?_)
 obtain⟨a,rfl,k⟩:=h
 refine⟨_,(az (aN (bh bZ (pv 0) (iy (by rfl) T.Fg)))),?_⟩
 exact⟨_,rfl,_,_,rfl,rfl,by show(0:Int) <1000000000;decide,k⟩
inductive rZ (K:PySem.W.Frag) (t:mW) (vs:List V) (H:Hp) (Q:VK) (E:XK):Prop where
 | mk:∀i,i≠9->lU K t i vs H Q E->rZ K t vs H Q E
theorem cP (T:Txt w K mg t):FO P w K mg base 1 t.cz ["self", "heads"] (rZ K t):=by
 have sc:=T.bj.sc ["self", "heads"]
 refine T.bj.F.ok sc ln (fun _ _ _ _ H vs Q E hr h=>?_)
 obtain⟨i,hi,p,a,nm,ns,is,os,hs,rfl,hP,hI,hS,hH,k⟩:=h
 refine⟨_,(az (aN (eY (An rfl) (by rfl) T.uD qx (aa (eY GC (by rfl) T.m9 Oa (aa (aV bK (by rfl) T.dG bY (aa (bD (pv 0) rfl) ak bx)) ak bf)) ak bf)))),?_⟩
 obtain⟨dx,tn,ti,to,hp,h2,h3,h4⟩:=id hP.ex
 have h3':=Bt i
 refine⟨_,rfl,p,cls t i,dx,_,.ref ti,rfl,hp,iz T i,wO T i,rJ _ _ _ _,.ref ti,is.length,rfl,.inr ⟨is,h3,rfl⟩,_,rfl,fun r hr=>⟨r,is.length,rfl,aA,by omega,fun l hl=>?_⟩⟩
 have e:(places i hs).map nV=Og is.length:=by
  unfold places Og
  rw [if_neg hi,hH.1,hI]
  rfl
 refine k _ l ((aF hr).trans (aF hl)) ((aF hr).free hl) ?_
 rw [e]
 exact aA
theorem wG (T:Txt w K mg t):FO P w K mg base 1 t.kW ["self", "heads"] (lU K t 9):=by
 have sc:=T.jc.sc ["self", "heads"]
 refine T.jc.F.ok sc ln (fun _ _ _ _ H vs Q E hr h=>?_)
 obtain⟨p,a,nm,ns,is,os,hs,rfl,hP,hI,hS,hH,k⟩:=h
 refine⟨_,(au (bQ (kO (Hr (aY aW (pv 1) aq (fun _ _=>rfl))))
   (az (aN (bF (aa aq ak ao))))
   bz)
  (az (aN (bF (aa aq (aa (bh cT aq (bh bZ (aY aW (pv 1) aq (fun _ _=>rfl)) aq)) ak bI) ao))))),?_⟩
 have hl:sizeLine=16777216:=sizeLine_eq
 have hlen:hs.length=3:=hH.1
 match hs,hlen,hH with
 | h0:: r,hlen,hH=>
  have ea:Gq (h0:: r) 0=some h0:=aM (xs:=h0:: r) (j:=0) rfl
  rcases hH.2 h0 List.mem_cons_self with e | ⟨n,e⟩
  ·subst e
   refine⟨_,rfl,a,_,0,_,rfl,rfl,hS,ea,_,rfl,uF rfl ?_⟩
   exact⟨jy,fun L hL=>k _ L (aF hL) hL aA⟩
  ·subst e
   refine⟨_,rfl,a,_,0,_,rfl,rfl,hS,ea,_,rfl,dF (by intro z;cases z) ?_⟩
   refine⟨_,rfl,a,_,0,_,rfl,rfl,hS,ea,_,_,rfl,rfl,by show(0:Int) <2;decide,_,_,rfl,rfl,jy,fun L hL=>k _ L (aF hL) hL ?_⟩
   have h0:=Int.emod_nonneg n (show(2:Int)≠0 by decide)
   have e1:(1:Int)+n % 2=((1+(n % 2).toNat:Nat):Int):=by omega
   rw [aA]
   show some (HO.lst [.int 0,.int (1+n % 2)])=some (HO.lst [.int ((0:Nat):Int),.int ((1+(n % 2).toNat:Nat):Int)])
   rw [e1]
   rfl
theorem BK (T:Txt w K mg t) (i:Nat):MethAt P w K mg base Aw 1 (cls t i) "taking" (lU K t i):=match i with
 | 0=>⟨_,_,_,T.ir.c,(T.bj.me T.ir.me.2.2.1),T.bj.b,(cP T).imp fun _ _ _ _ h=>⟨_,by omega,h⟩⟩
 | 1=>⟨_,_,_,T.gY.c,(T.bj.me T.gY.me.2.2.1),T.bj.b,(cP T).imp fun _ _ _ _ h=>⟨_,by omega,h⟩⟩
 | 2=>⟨_,_,_,T.gP.c,(T.bj.me T.gP.me.2.2.1),T.bj.b,(cP T).imp fun _ _ _ _ h=>⟨_,by omega,h⟩⟩
 | 3=>⟨_,_,_,T.gO.c,(T.bj.me T.gO.me.2.2.1),T.bj.b,(cP T).imp fun _ _ _ _ h=>⟨_,by omega,h⟩⟩
 | 4=>⟨_,_,_,T.gZ.c,(T.bj.me T.gZ.me.2.2.1),T.bj.b,(cP T).imp fun _ _ _ _ h=>⟨_,by omega,h⟩⟩
 | 5=>⟨_,_,_,T.ig.c,(T.bj.me T.ig.me.2.2.1),T.bj.b,(cP T).imp fun _ _ _ _ h=>⟨_,by omega,h⟩⟩
 | 6=>⟨_,_,_,T.j6.c,(T.bj.me T.j6.me.2.2.1),T.bj.b,(cP T).imp fun _ _ _ _ h=>⟨_,by omega,h⟩⟩
 | 7=>⟨_,_,_,T.il.c,(T.bj.me T.il.me.2.2.1),T.bj.b,(cP T).imp fun _ _ _ _ h=>⟨_,by omega,h⟩⟩
 | 8=>⟨_,_,_,T.fc.c,(T.bj.me T.fc.me.2.2.1),T.bj.b,(cP T).imp fun _ _ _ _ h=>⟨_,by omega,h⟩⟩
 | 9=>⟨_,_,_,T.dU.c,(T.jc.me T.dU.me.2.2.1),T.jc.b,wG T⟩
 | n+10=>⟨_,_,_,T.fB.c,(T.bj.me T.fB.me.2.2.1),T.bj.b,(cP T).imp fun _ _ _ _ h=>⟨_,by omega,h⟩⟩
inductive ur (K:PySem.W.Frag) (t:mW) (vs:List V) (H:Hp) (Q:VK) (E:XK):Prop where
 | mk:∀i,u5 K t i vs H Q E->ur K t vs H Q E
theorem cQ (T:Txt w K mg t):FO P w K mg base 2 t.cC ["self", "heads"] (ur K t):=by
 have sc:=T.bu.sc ["self", "heads", "place"]
 refine T.bu.F.ok sc ln (fun _ _ _ _ H vs Q E hr h=>?_)
 obtain⟨i,p,a,nm,ns,is,os,hs,rfl,hP,hI,hS,hH,k⟩:=h
 refine⟨_,(au (eO PassesOwn.never rfl (dN (vO (CX:=Aw) (k:=1) (E:=E0) (pv 0) (hr.mono (by decide)) gQ (aa (pv 1) ak aj))) (gN sc 2)
   (az (bQ (kO (Hr (aY aW (pv 1) (pv 2) (fun _ _=>rfl))))
    (az (aN (pv 2)))
    bz)))
  (az (aN Cw))),?_⟩
 obtain⟨dx,tn,ti,to,hp,h2,h3,h4⟩:=id hP.ex
 refine⟨_,rfl,p,cls t i,dx,_,lU K t i,rfl,hp,sJ _ _ _ _ (by decide +kernel) (by decide +kernel) (by decide +kernel) (by decide +kernel),BK T i,_,rfl,p,a,nm,ns,is,os,hs,rfl,hP,hI,hS,hH,fun H1 L s1 nL eL=>⟨L,rfl,⟨_,bT.of eL⟩,?_⟩⟩
 refine fu (K:=K) (a:=L) (xs:=(places i hs).map nV) (fun j σ H2=>H2=H1/\∃v,σ=[some (.ref p),some (.ref a),v]/\∀q∈(places i hs).take j,ue hs q=false)
  ⟨rfl,none,rfl,by simp⟩ (fun j σ H2 _ ⟨e,_⟩=>by rw [e];exact bT.of eL) ?_ ?_
 ·rintro j x σ H2 hx ⟨rfl,v,rfl,hno⟩
  rw [List.getElem?_map] at hx
  obtain⟨q,hq,rfl⟩:=Option.map_eq_some_iff.mp hx
  have hlt:=jK hH q (List.mem_of_getElem? hq)
  obtain⟨hv,ev⟩:∃hv,hs[q]?=some hv:=⟨hs[q],List.getElem?_eq_getElem hlt⟩
  refine⟨_,rfl,_,rfl,a,hs,_,hv,rfl,rfl,s1.seq hS,aM ev,_,rfl,jx (fun hn=>?_) (fun hn=>?_)⟩
  ·have hn':hv=.non:=of_decide_eq_true hn
   refine⟨_,rfl,?_⟩
   have:=k H2 s1
   unfold Ji at this
   rw [Jb hq hno (by unfold ue;rw [ev,hn'];simp)] at this
   exact this
  ·have hn':¬hv=.non:=fun z=>hn (decide_eq_true z)
   refine⟨rfl,_,rfl,fun y hy=>?_⟩
   rw [List.take_add_one,hq] at hy
   rcases List.mem_append.mp hy with hy | hy
   ·exact hno y hy
   ·have e:y=q:=by simpa using hy
    subst e
    unfold ue
    rw [ev]
    simpa using hn'
 ·rintro σ H2 ⟨rfl,v,rfl,hno⟩
  have:=k H2 s1
  unfold Ji at this
  rw [lM,List.take_of_length_le (Nat.le_refl _)] at hno
  rw [O3 hno] at this
  exact this
inductive tO (K:PySem.W.Frag) (t:mW) (vs:List V) (H:Hp) (Q:VK) (E:XK):Prop where
 | mk:∀i,i≠5->qO K t i vs H Q E->tO K t vs H Q E
theorem dw (T:Txt w K mg t):FO P w K mg base 1 t.cU ["self"] (tO K t):=by
 have sc:=T.bB.sc ["self"]
 refine T.bB.F.ok sc ln (fun _ _ _ _ H vs Q E hr h=>?_)
 obtain⟨i,hi,p,nm,ns,is,os,rfl,hP,hn,k⟩:=h
 refine⟨_,(az (aN aq)),?_⟩
 unfold Ep at k
 rw [if_neg hi] at k
 exact k
theorem Aq (T:Txt w K mg t):FO P w K mg base 1 t.qj ["self"] (qO K t 5):=by
 have sc:=T.lu.sc ["self"]
 refine T.lu.F.ok sc ln (fun _ _ _ _ H vs Q E hr h=>?_)
 obtain⟨p,nm,ns,is,os,rfl,hP,hn,k⟩:=h
 refine⟨_,(az (aN (aY Hy (bD (pv 0) rfl) aq (fun _ _=>rfl)))),?_⟩
 obtain⟨dx,tn,ti,to,hp,h2,h3,h4⟩:=id hP.ex
 match ns,hn with
 | v:: r,hn=>
  exact⟨_,rfl,p,cls t 5,dx,_,.ref tn,rfl,hp,iz T 5,qg T 5,pQ _ _ _ _,.inr (.inl ⟨tn,_,0,v,rfl,rfl,h2,aM (xs:=v:: r) (j:=0) rfl,k⟩)⟩
theorem zV (T:Txt w K mg t):FO P w K mg base 1 t.pB ["self", "values", "kept"] (dW K t 2):=by
 have sc:=T.jR.sc ["self", "values", "kept"]
 refine T.jR.F.ok sc ln (fun _ _ _ _ H vs Q E hr h=>?_)
 obtain⟨p,a,nm,ns,is,os,ws,kp,rfl,hP,ln,hS,lw,hB,k⟩:=h
 refine⟨_,(az (aN (cZ (aa (bF (aa (cZ (aa aq (aa (aY aW (pv 1) aq (fun _ _=>rfl)) ak aD) ao)) ak cL)) (aa (pv 2) ak aj) aO)))),?_⟩
 obtain⟨dx,tn,ti,to,hp,h2,h3,h4⟩:=id hP.ex
 match ws,lw with
 | [v],_=>
  have fin:∀H' L rs,aK H H'->H L=none->H' L=some (.lst (rs.map V.ref))->iW H' rs (Ew (cj 2 ns [v] kp))->∀U,H' U=none->Q (.ref U) (upd H' U (.tup [.ref L,.int (fZ 2 [v] kp)])):=zz k
  exact⟨_,rfl,a,_,0,_,rfl,rfl,hS,rfl,dM,fun t0 n0=>⟨one_le,fun L nL=>⟨_,rfl,dM,fun U nU=>vA (Q:=fun x H'=>∀U,H' U=none->Q (.ref U) (upd H' U (.tup [x,.int (fZ 2 [v] kp)]))) rfl rfl fin n0 nL U nU⟩⟩⟩
theorem zL (T:Txt w K mg t):FO P w K mg base 1 t.o8 ["self", "values", "kept"] (dW K t 3):=by
 have sc:=T.jW.sc ["self", "values", "kept"]
 refine T.jW.F.ok sc ln (fun _ _ _ _ H vs Q E hr h=>?_)
 obtain⟨p,a,nm,ns,is,os,ws,kp,rfl,hP,ln,hS,lw,hB,k⟩:=h
 refine⟨_,(az (aN (cZ (aa (bF (aa (cZ (aa aq (aa (aY aW (pv 1) aq (fun _ _=>rfl)) ak aD) ao)) (aa (cZ (aa aq (aa (aY aW (pv 1) aq (fun _ _=>rfl)) ak aD) ao)) ak cL) cL)) (aa (pv 2) ak aj) aO)))),?_⟩
 obtain⟨dx,tn,ti,to,hp,h2,h3,h4⟩:=id hP.ex
 match ws,lw with
 | [v],_=>
  have fin:∀H' L rs,aK H H'->H L=none->H' L=some (.lst (rs.map V.ref))->iW H' rs (Ew (cj 3 ns [v] kp))->∀U,H' U=none->Q (.ref U) (upd H' U (.tup [.ref L,.int (fZ 3 [v] kp)])):=zz k
  exact⟨_,rfl,a,_,0,_,rfl,rfl,hS,rfl,dM,fun t0 n0=>⟨_,rfl,a,_,0,_,rfl,rfl,((aF n0).seq hS),rfl,dM,fun t1 n1=>⟨dM,fun L nL=>⟨_,rfl,dM,fun U nU=>QB (Q:=fun x H'=>∀U,H' U=none->Q (.ref U) (upd H' U (.tup [x,.int (fZ 3 [v] kp)]))) rfl rfl rfl rfl fin n0 n1 nL U nU⟩⟩⟩⟩
theorem zA (T:Txt w K mg t):FO P w K mg base 2 t.oK ["self", "values", "kept"] (dW K t 4):=by
 have sc:=T.jP.sc ["self", "values", "kept"]
 refine T.jP.F.ok sc ln (fun _ _ _ _ H vs Q E hr h=>?_)
 obtain⟨p,a,nm,ns,is,os,ws,kp,rfl,hP,ln,hS,lw,hB,k⟩:=h
 refine⟨_,(az (aN (cZ (aa (bF (aa (cZ (aa aq (aa (dz (Ej T) T.yW hr (aa (bh cT (bh lL (aY Hy (bD (pv 0) rfl) aq (fun _ _=>rfl)) (aY aW (pv 1) aq (fun _ _=>rfl))) (aY Hy (bD (pv 0) rfl) aq (fun _ _=>rfl))) ak bI)) ak bf) ao)) ak cL)) (aa (pv 2) ak aj) aO)))),?_⟩
 obtain⟨dx,tn,ti,to,hp,h2,h3,h4⟩:=id hP.ex
 match ws,lw,ns,ln with
 | [v],_,[m,m1],_=>
  have fin:∀H' L rs,aK H H'->H L=none->H' L=some (.lst (rs.map V.ref))->iW H' rs (Ew (cj 4 [m,m1] [v] kp))->∀U,H' U=none->Q (.ref U) (upd H' U (.tup [.ref L,.int (fZ 4 [v] kp)])):=zz k
  exact⟨_,rfl,p,cls t 4,dx,_,.ref tn,rfl,hp,iz T 4,qg T 4,pQ _ _ _ _,.inr (.inl ⟨tn,_,0,_,rfl,rfl,h2,rfl,_,rfl,a,_,0,_,rfl,rfl,hS,rfl,_,_,rfl,rfl,Wb hB (by simp),_,rfl,p,cls t 4,dx,_,.ref tn,rfl,hp,iz T 4,qg T 4,pQ _ _ _ _,.inr (.inl ⟨tn,_,1,_,rfl,rfl,h2,rfl,_,_,rfl,rfl,_,rfl,dM,fun t0 n0=>⟨one_le,fun L nL=>⟨_,rfl,dM,fun U nU=>vA (Q:=fun x H'=>∀U,H' U=none->Q (.ref U) (upd H' U (.tup [x,.int (fZ 4 [v] kp)]))) rfl rfl fin n0 nL U nU⟩⟩⟩)⟩)⟩
theorem yH (T:Txt w K mg t):FO P w K mg base 2 t.oZ ["self", "values", "kept"] (dW K t 5):=by
 have sc:=T.jO.sc ["self", "values", "kept", "together"]
 refine T.jO.F.ok sc ln (fun _ _ _ _ H vs Q E hr h=>?_)
 obtain⟨p,a,nm,ns,is,os,ws,kp,rfl,hP,ln,hS,lw,hB,k⟩:=h
 refine⟨_,(au (sN sc 3 (dz (Ej T) T.yW hr (aa (bh cT (pv 2) (aY aW (pv 1) aq (fun _ _=>rfl))) ak bI)))
  (az (aN (cZ (aa (bF (aa (cZ (aa aq (aa (pv 3) ak aj) ao)) ak cL)) (aa (pv 3) ak aj) aO))))),?_⟩
 obtain⟨dx,tn,ti,to,hp,h2,h3,h4⟩:=id hP.ex
 match ws,lw with
 | [v],_=>
  have fin:∀H' L rs,aK H H'->H L=none->H' L=some (.lst (rs.map V.ref))->iW H' rs (Ew (cj 5 ns [v] kp))->∀U,H' U=none->Q (.ref U) (upd H' U (.tup [.ref L,.int (fZ 5 [v] kp)])):=zz k
  exact⟨_,rfl,_,rfl,a,_,0,_,rfl,rfl,hS,rfl,_,_,rfl,rfl,_,rfl,_,rfl,dM,fun t0 n0=>⟨one_le,fun L nL=>⟨_,rfl,dM,fun U nU=>vA (Q:=fun x H'=>∀U,H' U=none->Q (.ref U) (upd H' U (.tup [x,.int (fZ 5 [v] kp)]))) rfl rfl fin n0 nL U nU⟩⟩⟩
theorem Az (T:Txt w K mg t):FO P w K mg base 2 t.p7 ["self", "values", "kept"] (dW K t 6):=by
 have sc:=T.lA.sc ["self", "values", "kept"]
 refine T.lA.F.ok sc ln (fun _ _ _ _ H vs Q E hr h=>?_)
 obtain⟨p,a,nm,ns,is,os,ws,kp,rfl,hP,ln,hS,lw,hB,k⟩:=h
 refine⟨_,(az (aN (cZ (aa (bF (aa (cZ (aa aq (aa (dz (Ej T) T.yW hr (aa (bh cT (aY aW (pv 1) aq (fun _ _=>rfl)) (aY aW (pv 1) aq (fun _ _=>rfl))) ak bI)) ak bf) ao)) ak cL)) (aa (pv 2) ak aj) aO)))),?_⟩
 obtain⟨dx,tn,ti,to,hp,h2,h3,h4⟩:=id hP.ex
 match ws,lw with
 | [v,v1],_=>
  have fin:∀H' L rs,aK H H'->H L=none->H' L=some (.lst (rs.map V.ref))->iW H' rs (Ew (cj 6 ns [v,v1] kp))->∀U,H' U=none->Q (.ref U) (upd H' U (.tup [.ref L,.int (fZ 6 [v,v1] kp)])):=zz k
  exact⟨_,rfl,a,_,0,_,rfl,rfl,hS,rfl,_,rfl,a,_,1,_,rfl,rfl,hS,rfl,_,_,rfl,rfl,_,rfl,dM,fun t0 n0=>⟨one_le,fun L nL=>⟨_,rfl,dM,fun U nU=>vA (Q:=fun x H'=>∀U,H' U=none->Q (.ref U) (upd H' U (.tup [x,.int (fZ 6 [v,v1] kp)]))) rfl rfl fin n0 nL U nU⟩⟩⟩
theorem zf (T:Txt w K mg t):FO P w K mg base 1 t.o7 ["self", "values", "kept"] (dW K t 7):=by
 have sc:=T.jQ.sc ["self", "values", "kept"]
 refine T.jQ.F.ok sc ln (fun _ _ _ _ H vs Q E hr h=>?_)
 obtain⟨p,a,nm,ns,is,os,ws,kp,rfl,hP,ln,hS,lw,hB,k⟩:=h
 refine⟨_,(az (aN (cZ (aa (bF (aa (cZ (aa aq (aa (zg (bC uv (aY aW (pv 1) aq (fun _ _=>rfl)) (aY aW (pv 1) aq (fun _ _=>rfl)) (bL _)) aq aq) ak Ha) ao)) ak cL)) (aa (pv 2) ak aj) aO)))),?_⟩
 obtain⟨dx,tn,ti,to,hp,h2,h3,h4⟩:=id hP.ex
 match ws,lw with
 | [v,v1],_=>
  have fin:∀H' L rs,aK H H'->H L=none->H' L=some (.lst (rs.map V.ref))->iW H' rs (Ew (cj 7 ns [v,v1] kp))->∀U,H' U=none->Q (.ref U) (upd H' U (.tup [.ref L,.int (fZ 7 [v,v1] kp)])):=zz k
  refine⟨_,rfl,a,_,0,_,rfl,rfl,hS,rfl,_,rfl,a,_,1,_,rfl,rfl,hS,rfl,_,_,rfl,rfl,_,rfl,jx (fun h=>?_) (fun h=>?_)⟩
  ·have h':v <v1:=of_decide_eq_true h
   exact⟨dM,fun t0 n0=>⟨one_le,fun L nL=>⟨_,rfl,dM,fun U nU=>vA (Q:=fun x H'=>∀U,H' U=none->Q (.ref U) (upd H' U (.tup [x,.int (fZ 7 [v,v1] kp)]))) rfl (by show(1:Int)=if v <v1 then 1 else 0;rw [if_pos h']) fin n0 nL U nU⟩⟩⟩
  ·have h':¬v <v1:=fun z=>h (decide_eq_true z)
   exact⟨dM,fun t0 n0=>⟨one_le,fun L nL=>⟨_,rfl,dM,fun U nU=>vA (Q:=fun x H'=>∀U,H' U=none->Q (.ref U) (upd H' U (.tup [x,.int (fZ 7 [v,v1] kp)]))) rfl (by show(0:Int)=if v <v1 then 1 else 0;rw [if_neg h']) fin n0 nL U nU⟩⟩⟩
theorem yz (T:Txt w K mg t):FO P w K mg base 1 t.mD ["self", "values", "kept"] (dW K t 8):=by
 have sc:=T.jm.sc ["self", "values", "kept"]
 refine T.jm.F.ok sc ln (fun _ _ _ _ H vs Q E hr h=>?_)
 obtain⟨p,a,nm,ns,is,os,ws,kp,rfl,hP,ln,hS,lw,hB,k⟩:=h
 refine⟨_,(az (aN (cZ (aa (bF (aa (cZ (aa aq (aa (aV (JM rfl) (by rfl) T.Vg RN (aa (pv 1) ak aj)) ak bf) ao)) (aa (cZ (aa aq (aa (aV (JN rfl) (by rfl) T.Iu Dr (aa (pv 1) ak aj)) ak bf) ao)) ak cL) cL)) (aa (pv 2) ak aj) aO)))),?_⟩
 obtain⟨dx,tn,ti,to,hp,h2,h3,h4⟩:=id hP.ex
 match ws,lw with
 | [v,v1],_=>
  have fin:∀H' L rs,aK H H'->H L=none->H' L=some (.lst (rs.map V.ref))->iW H' rs (Ew (cj 8 ns [v,v1] kp))->∀U,H' U=none->Q (.ref U) (upd H' U (.tup [.ref L,.int (fZ 8 [v,v1] kp)])):=zz k
  exact⟨_,rfl,a,v,v1,rfl,hS,dM,fun t0 n0=>⟨_,rfl,a,v,v1,rfl,(aF n0).seq hS,dM,fun t1 n1=>⟨dM,fun L nL=>⟨_,rfl,dM,fun U nU=>QB (Q:=fun x H'=>∀U,H' U=none->Q (.ref U) (upd H' U (.tup [x,.int (fZ 8 [v,v1] kp)]))) rfl rfl rfl rfl fin n0 n1 nL U nU⟩⟩⟩⟩
theorem wM (T:Txt w K mg t):FO P w K mg base 1 t.kZ ["self", "values", "kept"] (dW K t 9):=by
 have sc:=T.jd.sc ["self", "values", "kept"]
 refine T.jd.F.ok sc ln (fun _ _ _ _ H vs Q E hr h=>?_)
 obtain⟨p,a,nm,ns,is,os,ws,kp,rfl,hP,ln,hS,lw,hB,k⟩:=h
 refine⟨_,(az (aN (cZ (aa (bF (aa (cZ (aa aq (aa (aY aW (pv 1) aq (fun _ _=>rfl)) ak aD) ao)) ak cL)) (aa (pv 2) ak aj) aO)))),?_⟩
 obtain⟨dx,tn,ti,to,hp,h2,h3,h4⟩:=id hP.ex
 match ws,lw with
 | [v,v1],_=>
  have fin:∀H' L rs,aK H H'->H L=none->H' L=some (.lst (rs.map V.ref))->iW H' rs (Ew (cj 9 ns [v,v1] kp))->∀U,H' U=none->Q (.ref U) (upd H' U (.tup [.ref L,.int (fZ 9 [v,v1] kp)])):=zz k
  exact⟨_,rfl,a,_,1,_,rfl,rfl,hS,rfl,dM,fun t0 n0=>⟨one_le,fun L nL=>⟨_,rfl,dM,fun U nU=>vA (Q:=fun x H'=>∀U,H' U=none->Q (.ref U) (upd H' U (.tup [x,.int (fZ 9 [v,v1] kp)]))) rfl rfl fin n0 nL U nU⟩⟩⟩
theorem yx (T:Txt w K mg t):FO P w K mg base 1 t.lW ["self", "values", "kept"] (dW K t 10):=by
 have sc:=T.jw.sc ["self", "values", "kept"]
 refine T.jw.F.ok sc ln (fun _ _ _ _ H vs Q E hr h=>?_)
 obtain⟨p,a,nm,ns,is,os,ws,kp,rfl,hP,ln,hS,lw,hB,k⟩:=h
 refine⟨_,(az (aN (cZ (aa (bF (aa (cZ (aa (bh bZ (aY aW (pv 1) aq (fun _ _=>rfl)) aq) (aa (aY aW (pv 1) aq (fun _ _=>rfl)) ak aD) bI)) ak cL)) (aa (pv 2) ak aj) aO)))),?_⟩
 obtain⟨dx,tn,ti,to,hp,h2,h3,h4⟩:=id hP.ex
 match ws,lw with
 | [v,v1],_=>
  have fin:∀H' L rs,aK H H'->H L=none->H' L=some (.lst (rs.map V.ref))->iW H' rs (Ew (cj 10 ns [v,v1] kp))->∀U,H' U=none->Q (.ref U) (upd H' U (.tup [.ref L,.int (fZ 10 [v,v1] kp)])):=zz k
  exact⟨_,rfl,a,_,0,_,rfl,rfl,hS,rfl,_,_,rfl,rfl,by show(0:Int) <2;decide,_,rfl,a,_,1,_,rfl,rfl,hS,rfl,dM,fun t0 n0=>⟨one_le,fun L nL=>⟨_,rfl,dM,fun U nU=>vA (Q:=fun x H'=>∀U,H' U=none->Q (.ref U) (upd H' U (.tup [x,.int (fZ 10 [v,v1] kp)]))) rfl rfl fin n0 nL U nU⟩⟩⟩
theorem zU (T:Txt w K mg t):FO P w K mg base 1 t.oO ["self", "values", "kept"] (dW K t 0):=by
 have sc:=T.jN.sc ["self", "values", "kept"]
 refine T.jN.F.ok sc ln (fun _ _ _ _ H vs Q E hr h=>?_)
 obtain⟨p,a,nm,ns,is,os,ws,kp,rfl,hP,ln,hS,lw,hB,k⟩:=h
 refine⟨_,(az (aN (cZ (aa (bF (aa (cZ (aa aq (aa (aY aW (pv 1) aq (fun _ _=>rfl)) ak aD) ao)) ak cL)) (aa (pv 2) ak aj) aO)))),?_⟩
 obtain⟨dx,tn,ti,to,hp,h2,h3,h4⟩:=id hP.ex
 match ws,lw with
 | [v],_=>
  have fin:∀H' L rs,aK H H'->H L=none->H' L=some (.lst (rs.map V.ref))->iW H' rs (Ew (cj 0 ns [v] kp))->∀U,H' U=none->Q (.ref U) (upd H' U (.tup [.ref L,.int (fZ 0 [v] kp)])):=zz k
  exact⟨_,rfl,a,_,0,_,rfl,rfl,hS,rfl,dM,fun t0 n0=>⟨one_le,fun L nL=>⟨_,rfl,dM,fun U nU=>vA (Q:=fun x H'=>∀U,H' U=none->Q (.ref U) (upd H' U (.tup [x,.int (fZ 0 [v] kp)]))) rfl rfl fin n0 nL U nU⟩⟩⟩
theorem zZ (T:Txt w K mg t):FO P w K mg base 1 t.oM ["self", "values", "kept"] (dW K t 1):=by
 have sc:=T.jU.sc ["self", "values", "kept"]
 refine T.jU.F.ok sc ln (fun _ _ _ _ H vs Q E hr h=>?_)
 obtain⟨p,a,nm,ns,is,os,ws,kp,rfl,hP,ln,hS,lw,hB,k⟩:=h
 refine⟨_,(az (aN (cZ (aa (bF ak) (aa (pv 2) ak aj) aO)))),?_⟩
 obtain⟨dx,tn,ti,to,hp,h2,h3,h4⟩:=id hP.ex
 match ws,lw with
 | [v],_=>
  have fin:∀H' L rs,aK H H'->H L=none->H' L=some (.lst (rs.map V.ref))->iW H' rs (Ew (cj 1 ns [v] kp))->∀U,H' U=none->Q (.ref U) (upd H' U (.tup [.ref L,.int (fZ 1 [v] kp)])):=zz k
  exact⟨by show 0<=sizeLine;decide,fun L nL=>⟨_,rfl,dM,fun U nU=>fin _ L [] (aF nL) nL aA .nil U nU⟩⟩
inductive xX (vs:List V) (H:Hp) (Q:VK) (E:XK):Prop where
 | mk:∀a b:Int,vs=[.int a,.int b]->Q (.int (bO a b)) H->xX vs H Q E
theorem aR (T:Txt w K mg t):FO P w K mg base 1 t.za ["_law_cell_here", "_law_k"] (xX):=by
 have sc:=T.aX.sc ["_law_cell_here", "_law_k", "_law_number"]
 refine T.aX.F.ok sc ln (fun _ _ _ _ H vs Q E hr h=>?_)
 obtain⟨a,b,rfl,k⟩:=h
 refine⟨_,(au (sN sc 2 (bh bZ (bh cT (bh cT (bh lL (bh bZ (pv 0) aq) aq) (bh lL aq (pv 1))) aq) aq))
  (au (sN sc 2 (bh bZ (bh lL (pv 2) (pv 2)) aq))
  (az (aN (bh bZ (bh lL (bh cT (pv 2) (bh lL aq (pv 1))) (pv 2)) aq))))),?_⟩
 refine⟨_,rfl,_,_,rfl,rfl,by show(0:Int) <2147483647;decide,_,_,rfl,rfl,Dz,_,rfl,_,_,rfl,rfl,kI,_,_,rfl,rfl,_,_,rfl,rfl,_,_,rfl,rfl,by show(0:Int) <2147483647;decide,?_⟩
 unfold bO at k
 have y0:0<=(a % 2147483647 * 48271+7919 * b+11) % 2147483647:=Int.emod_nonneg _ (by decide)
 have y1:(a % 2147483647 * 48271+7919 * b+11) % 2147483647 <2147483647:=Int.emod_lt_of_pos _ (by decide)
 refine⟨_,rfl,_,rfl,_,_,rfl,rfl,.of_right (intBits_le_64 (Int.lt_of_lt_of_le (show -(2 ^ 64) <(0:Int) by decide) y0) (Int.lt_trans y1 (by decide))),_,_,rfl,rfl,by show(0:Int) <2147483629;decide,?_⟩
 have z0:0<=((a % 2147483647 * 48271+7919 * b+11) % 2147483647) * ((a % 2147483647 * 48271+7919 * b+11) % 2147483647) % 2147483629:=Int.emod_nonneg _ (by decide)
 have z1:((a % 2147483647 * 48271+7919 * b+11) % 2147483647) * ((a % 2147483647 * 48271+7919 * b+11) % 2147483647) % 2147483629 <2147483629:=Int.emod_lt_of_pos _ (by decide)
 exact⟨_,rfl,_,rfl,_,_,rfl,rfl,kI,_,_,rfl,rfl,_,rfl,_,_,rfl,rfl,.of_right (intBits_le_64 (Int.lt_of_lt_of_le (show -(2 ^ 64) <(0:Int) by decide) z0) (Int.lt_trans z1 (by decide))),_,_,rfl,rfl,by show(0:Int) <2147483587;decide,k⟩
inductive vM (K:PySem.W.Frag) (vs:List V) (H:Hp) (Q:VK) (E:XK):Prop where
 | mk:∀(a:Addr) (ns:List Int) (j:Nat),vs=[.ref a,.int (j:Nat)]->bT K H a (ns.map V.int)->Q (.int (jA ns j)) H->vM K vs H Q E
theorem jn (T:Txt w K mg t):FO P w K mg base 1 t.yl ["_law_script", "_law_k"] (vM K):=by
 have sc:=T.gM.sc ["_law_script", "_law_k"]
 refine T.gM.F.ok sc ln (fun _ _ _ _ H vs Q E hr h=>?_)
 obtain⟨a,ns,j,rfl,hS,k⟩:=h
 refine⟨_,(au (bQ (bC uv (pv 1) (aV bK (by rfl) T.dG bY (aa (pv 0) ak aj)) (bL _))
   (az (aN (aY aW (pv 0) (pv 1) (fun _ _=>rfl))))
   bz)
  (az (aN (bh cT (bh lL aq (pv 1)) aq)))),?_⟩
 unfold jA at k
 refine⟨_,rfl,_,rfl,.ref a,ns.length,rfl,.inl ⟨_,hS,by simp⟩,_,_,rfl,rfl,_,rfl,jx (fun h=>?_) (fun h=>?_)⟩
 ·have h':j <ns.length:=by have:=of_decide_eq_true h;omega
  rw [List.getElem?_eq_getElem h'] at k
  exact⟨_,rfl,_,rfl,a,_,j,_,rfl,rfl,hS,aM (by rw [List.getElem?_map,List.getElem?_eq_getElem h'];rfl),k⟩
 ·have h':¬j <ns.length:=fun z=>h (decide_eq_true (by omega))
  rw [List.getElem?_eq_none (by omega)] at k
  exact⟨_,rfl,_,_,rfl,rfl,kI,_,_,rfl,rfl,k⟩
inductive tM (vs:List V) (H:Hp) (Q:VK) (E:XK):Prop where
 | mk:∀a b:Int,vs=[.int a,.int b]->Q (.int (mH a b)) H->tM vs H Q E
theorem gr (T:Txt w K mg t):FO P w K mg base 2 t.vz ["_law_cell_here", "_law_k"] (tM):=by
 have sc:=T.fj.sc ["_law_cell_here", "_law_k", "_law_number", "_law_way"]
 refine T.fj.F.ok sc ln (fun _ _ _ _ H vs Q E hr h=>?_)
 obtain⟨a,b,rfl,k⟩:=h
 refine⟨_,(au (sN sc 2 (dz (aR T) T.aX hr (aa (pv 0) (aa (pv 1) ak aj) aj)))
  (au (sN sc 3 (bh bZ (bh MF (pv 2) aq) aq))
  (au (bQ (bC iM (pv 3) aq (bL _))
   (az (aN (bh bZ (pv 2) aq)))
   bz)
  (au (bQ (bC iM (pv 3) aq (bL _))
   (az (aN (bh bZ (pv 2) (bh MJ aq aq))))
   bz)
  (az (aN (bh CZ (bh CZ (bh MJ aq aq) aq) (bh bZ (pv 2) aq)))))))),?_⟩
 refine⟨_,rfl,_,rfl,a,b,rfl,?_⟩
 unfold mH at k
 have n0:=yc a b
 generalize bO a b=n at n0 k ⊢
 refine⟨_,rfl,_,_,rfl,rfl,Uj (by decide) (by decide),_,_,rfl,rfl,by show(0:Int) <3;decide,?_⟩
 refine⟨_,rfl,rfl,_,rfl,jx (fun h=>?_) (fun h=>?_)⟩
 ·have h':n / 7 % 3=0:=by simpa using of_decide_eq_true h
  rw [if_pos h'] at k
  exact⟨_,rfl,_,_,rfl,rfl,by show(0:Int) <5;decide,k⟩
 have h':¬n / 7 % 3=0:=fun z=>h (decide_eq_true (by show V.int (n / 7 % 3)=V.int 0;rw [z]))
 rw [if_neg h'] at k
 refine⟨_,rfl,rfl,_,rfl,jx (fun h2=>?_) (fun h2=>?_)⟩
 ·have h2':n / 7 % 3=1:=by simpa using of_decide_eq_true h2
  rw [if_pos h2'] at k
  exact⟨_,rfl,_,_,rfl,rfl,⟨by decide,by decide,by decide⟩,_,_,rfl,rfl,by show(0:Int) <10 ^ 9;decide,k⟩
 have h2':¬n / 7 % 3=1:=fun z=>h2 (decide_eq_true (by show V.int (n / 7 % 3)=V.int 1;rw [z]))
 rw [if_neg h2'] at k
 exact⟨_,_,rfl,rfl,⟨by decide,by decide,by decide⟩,_,_,rfl,rfl,_,rfl,_,_,rfl,rfl,by show(0:Int) <3;decide,_,_,rfl,rfl,k⟩
theorem Iv {x y:Str} (h:x.cps.toList=y.cps.toList):x=y:=PyProof.Rows.ext_toList h
theorem JT {n:Int} (h0:0<=n) (h1:n <2000):n.natAbs.log2 <1920:=by
 by_cases z:n.natAbs=0
 ·rw [z]
  decide
 ·have:n.natAbs.log2 <11:=(Nat.log2_lt z).mpr (by omega)
  omega
theorem join_ones (cs:List Nat):(Txt.join Str.empty (cs.map fun c=>(⟨#[c]⟩:Str))).cps.toList=cs:=by
 unfold Txt.join
 rw [StrLaws.glued_eq_join,zT]
 induction cs with
 | nil=>rfl
 | cons c r ih=>simpa using ih
theorem RM {x:Str} {n:Nat} (h:n<=x.length):(Txt.slice x none (some (n:Int))).cps.toList=x.cps.toList.take n:=by
 have e:=beq_iff_eq.mp (PyProof.Rows.slice_closes_toL (x:=x) (j:=(n:Int)) (by omega) (by omega))
 rw [e]
 simp
theorem LK {x:Str} {n:Nat} (h:n<=x.length):(Txt.slice x (some (n:Int)) none).cps.toList=x.cps.toList.drop n:=by
 have e:=PyProof.Rows.slice_from_eq (x:=x) (i:=(n:Int)) (b:=(x.length:Int)) (by omega) (by omega) rfl
 rw [e]
 show List.take ((x.length:Int) - n).toNat (List.drop ((n:Int)).toNat x.cps.toList)=_
 rw [Int.toNat_natCast,List.take_of_length_le (by rw [List.length_drop,lQ];omega)]
inductive uW (vs:List V) (H:Hp) (Q:VK) (E:XK):Prop where
 | mk:∀(a:Int) (b:Nat),vs=[.int a,.int (b:Nat)]->b<=25->(∀H':Hp,aK H H'->Q (.str (cJ a b)) H')->uW vs H Q E
noncomputable abbrev yh:List Str:=["_law_cell_here", "_law_k", "_law_letters", "_law_many", "_law_base", "_law_at"]
theorem lE (T:Txt w K mg t):FO P w K mg base 2 t.xN ["_law_cell_here", "_law_k"] (uW):=by
 have sc:=T.ji.sc yh
 refine T.ji.F.ok sc ln (fun _ _ _ _ H vs Q E hr h=>?_)
 obtain⟨a,b,rfl,b1,k⟩:=h
 refine⟨_,(au (sN sc 2 bN)
  (au (bQ (bC iM (bh bZ (dz (aR T) T.aX hr (aa (pv 0) (aa aq ak ao) aj)) aq) aq (bL _))
   (az (aN (bh uC (aY zr (pv 2) (bh bZ (dz (aR T) T.aX hr (aa (pv 0) (aa aq ak ao) aj)) aq) (fun _ _=>rfl)) (eY DX (by rfl) T.Qu Nm (aa (bh cT (bh bZ (dz (aR T) T.aX hr (aa (pv 0) (aa aq ak ao) aj)) aq) (bh lL aq (pv 1))) ak bI)))))
   bz)
  (au (sN sc 3 (bh bZ (dz (aR T) T.aX hr (aa (pv 0) (aa aq ak ao) aj)) aq))
  (au (sN sc 4 (yI PySem.F.plainAttrs_str PySem.F.slot_str_join PySem.F.type_str_join Qm bN (aa (j5 [0,2] yh (bA (top 68)) rfl (jG rfl T.m9 (aa (pv 3) ak aj)) (fun _ _ _ _ _=>jo) (fun _ _ _ _ _=>(aY zr (pv 2) (bh bZ (dz (aR T) T.aX hr (aa (pv 1) (aa (bh cT aq (pv 0)) ak bI) aj)) aq) (fun _ _=>rfl)))) ak fG)))
  (au (sN sc 5 (bh bZ (dz (aR T) T.aX hr (aa (pv 0) (aa aq ak ao) aj)) (bh cT (pv 3) aq)))
  (az (aN (bh uC (bh uC (jZ N6 (pv 4) pX (lF (pv 5))) (aY zr (pv 2) (bh bZ (bh cT (dz (aR T) T.aX hr (aa (pv 0) (aa aq ak ao) aj)) (pv 1)) aq) (fun _ _=>rfl))) (jZ N6 (pv 4) (lF (pv 5)) pX))))))))),?_⟩
 have hl:sizeLine=16777216:=sizeLine_eq
 have hF:(cJ a b).cps.toList=xP a b:=zJ a b
 unfold xP at hF
 refine⟨_,rfl,_,_,rfl,⟨_,_,rfl,rfl,by show(0:Int) <3;decide,rfl,_,rfl,jx (fun hw=>?_) (fun hw=>?_)⟩⟩
 ·have hw':bO a 52 % 3=0:=by simpa using of_decide_eq_true hw
  rw [if_pos hw'] at hF
  refine⟨_,rfl,_,rfl,_,_,rfl,?_⟩
  refine⟨_,_,rfl,rfl,by show(0:Int) <26;decide,LT,_,_,rfl,rfl,by rw [HR];omega,Mh _,?_⟩
  refine⟨_,rfl,_,_,rfl,⟨_,_,rfl,rfl,by show(0:Int) <1000;decide,_,rfl,_,_,rfl,rfl,kI,_,_,rfl,rfl,?_⟩⟩
  have q0:=Int.emod_nonneg (bO a 54) (show(1000:Int)≠0 by decide)
  have q1:=Int.emod_lt_of_pos (bO a 54) (show(0:Int) <1000 by decide)
  obtain⟨m,hm⟩:∃m:Nat,bO a 54 % 1000+37 * (b:Int)=(m:Int):=⟨(bO a 54 % 1000+37 * (b:Int)).toNat,by omega⟩
  obtain⟨_,g2,_⟩:=sY (n:=m) (by omega)
  have g3:(toString (m:Int):Str).length<=4:=by rw [<-lQ];exact g2
  have e:(⟨#[Gz (bO a 53)]⟩:Str) ++ (toString (m:Int):Str)=cJ a b:=Iv (by
   rw [hF,Str.cps_append,hm,Int.toNat_natCast]
   simp only [Array.toList_append]
   rfl)
  have k':=k H (aK.refl _)
  rw [<-e] at k'
  dsimp only
  rw [hm]
  exact⟨_,rfl,JT (by omega) (by omega),_,_,rfl,rfl,by show 1+_<=sizeLine;omega,k'⟩
 have hw':¬bO a 52 % 3=0:=fun z=>hw (decide_eq_true (by show V.int (bO a 52 % 3)=V.int 0;rw [z]))
 rw [if_neg hw'] at hF
 refine⟨_,rfl,_,_,rfl,⟨_,_,rfl,rfl,by show(0:Int) <7;decide,?_⟩⟩
 have z0:=Int.emod_nonneg (bO a 50) (show(7:Int)≠0 by decide)
 have z1:=Int.emod_lt_of_pos (bO a 50) (show(0:Int) <7 by decide)
 refine⟨rfl,_,rfl,bO a 50 % 7,rfl,by omega,by omega,?_⟩
 refine mQ (fun i ys H'=>H'=H/\ys=((List.range i).map fun j=>Gz (bO a (60+(j:Nat)))).map fun c=>V.str ⟨#[c]⟩) (by omega) ⟨rfl,rfl⟩ (fun i ys H' ⟨_,e⟩=>by rw [e,lM,lM,List.length_range];omega) ?_ ?_
 ·rintro i ys H' hi ⟨rfl,rfl⟩
  refine yes ?_
  refine⟨_,rfl,_,rfl,_,rfl,_,_,rfl,rfl,_,_,rfl,?_⟩
  refine⟨_,_,rfl,rfl,by show(0:Int) <26;decide,LT,_,_,rfl,rfl,by rw [HR];omega,Mh _,rfl,?_⟩
  rw [List.range_succ,List.map_append,List.map_append]
  simp
 rintro ys H' ⟨rfl,rfl⟩ D hD
 have eb:((List.range (bO a 50 % 7).toNat).map fun j=>Gz (bO a (60+(j:Nat))))=fW a:=rfl
 rw [eb]
 have s1:aK H' (upd H' D (.lst ((fW a).map fun c=>V.str ⟨#[c]⟩))):=aF hD
 have bl:=(yR a).1
 have es:((fW a).map fun c=>V.str ⟨#[c]⟩)=((fW a).map fun c=>(⟨#[c]⟩:Str)).map V.str:=by rw [List.map_map];rfl
 refine⟨Str.empty,D,(fW a).map fun c=>(⟨#[c]⟩:Str),rfl,rfl,bT.of (by rw [<-es];exact aA),?_,?_⟩
 ·have:=Lk (n:=1) ((fW a).map fun c=>(⟨#[c]⟩:Str)) fun w h=>by
   obtain⟨c,_,rfl⟩:=List.mem_map.mp h
   exact Nat.le_refl 1
  have he:Str.empty.length=0:=rfl
  rw [he]
  rw [lM] at this
  omega
 have ej:=join_ones (fW a)
 generalize upd H' D (.lst ((fW a).map fun c=>V.str ⟨#[c]⟩))=H1 at s1 ⊢
 generalize Txt.join Str.empty ((fW a).map fun c=>(⟨#[c]⟩:Str))=x0 at ej ⊢
 have hx0:x0.length=(fW a).length:=by rw [<-lQ,ej]
 refine⟨_,rfl,_,_,rfl,⟨_,rfl,_,_,rfl,rfl,_,_,rfl,rfl,by show(0:Int) <bO a 50 % 7+1;omega,?_⟩⟩
 have hsp:=IW a
 obtain⟨n,hn,hn2⟩:∃n:Nat,bO a 51 % (bO a 50 % 7+1)=(n:Int)/\n=n6 a:=⟨n6 a,(Int.toNat_of_nonneg (Int.emod_nonneg _ (by omega))).symm,rfl⟩
 rw [<-hn2] at hsp hF
 dsimp only
 rw [hn]
 have s0:=Txt.slice_le x0 none (some (n:Int))
 have s2:=Txt.slice_le x0 (some (n:Int)) none
 refine⟨_,rfl,_,rfl,_,rfl,x0,rfl,by omega,_,rfl,_,rfl,_,_,rfl,⟨_,rfl,_,_,rfl,rfl,?_⟩⟩
 have h1:(⟨#[Gz (bO a 55+(b:Int))]⟩:Str).length=1:=rfl
 refine⟨_,_,rfl,rfl,by show(0:Int) <26;decide,LT,_,_,rfl,rfl,by rw [HR];omega,Mh _,_,_,rfl,rfl,by rw [h1];omega,?_⟩
 refine⟨_,rfl,_,rfl,_,rfl,x0,rfl,by omega,_,_,rfl,rfl,by rw [Str.length_append,h1];omega,?_⟩
 have e:Txt.slice x0 none (some (n:Int)) ++ (⟨#[Gz (bO a 55+(b:Int))]⟩:Str) ++ Txt.slice x0 (some (n:Int)) none=cJ a b:=Iv (by
  rw [hF,Str.cps_append,Str.cps_append]
  simp only [Array.toList_append]
  rw [RM (by omega),LK (by omega),ej]
  simp)
 rw [e]
 exact k H1 s1
theorem Ti (m:Int):∃c:Nat,Gq [V.int 0,.int 0,.int 0,.int 1,.int 2] (m % 5)=some (.int (c:Nat))/\c<=2:=by
 have key:∀j,j <5->Gq [V.int 0,.int 0,.int 0,.int 1,.int 2] ((j:Nat):Int)=some (.int (([0,0,0,1,2]:List Nat).getD j 0:Nat))/\([0,0,0,1,2]:List Nat).getD j 0<=2:=by decide +kernel
 obtain⟨j,e,hj⟩:=G8 m (n:=5) (k:=5) (by decide) rfl
 rw [e]
 exact⟨_,key j hj⟩
theorem Tu (m:Int):∃c:Nat,Gq [V.int 0,.int 0,.int 1,.int 1,.int 2,.int 7] (m % 6)=some (.int (c:Nat))/\c<=7:=by
 have key:∀j,j <6->Gq [V.int 0,.int 0,.int 1,.int 1,.int 2,.int 7] ((j:Nat):Int)=some (.int (([0,0,1,1,2,7]:List Nat).getD j 0:Nat))/\([0,0,1,1,2,7]:List Nat).getD j 0<=7:=by decide +kernel
 obtain⟨j,e,hj⟩:=G8 m (n:=6) (k:=6) (by decide) rfl
 rw [e]
 exact⟨_,key j hj⟩
inductive vJ (vs:List V) (H:Hp) (Q:VK) (E:XK):Prop where
 | mk:∀(d:Dw) (ls:List aH) (ps:List PD) (os:List Str) (c:Int) (b:Bool),vs=[.ref d.S,.int c,.bl b]->lN d H ls ps os->ls.length<=24->(∀(l:aH) (H':Hp),l.name=cJ d.c3 ls.length->aK (bH d.E H) (bH d.E H')->lN d H' (ls ++ [l]) ps os->Q (.str l.name) H')->vJ vs H Q E
noncomputable abbrev xn:List Str:=["_law_state", "_law_cell_here", "_law_back", "_law_many", "_law_first", "_law_room", "_law_name"]
theorem ju (T:Txt w K mg t):FO P w K mg base 3 t.xJ ["_law_state", "_law_cell_here", "_law_back"] (vJ):=by
 have sc:=T.gU.sc xn
 refine T.gU.F.ok sc ln (fun _ _ _ _ H vs Q E hr h=>?_)
 obtain⟨d,ls,ps,os,c,b,rfl,D,hn,k⟩:=h
 refine⟨_,(au (sN sc 3 (aY aW (bF (aa aq (aa aq (aa aq (aa aq (aa aq ak ao) ao) ao) ao) ao)) (bh bZ (dz (aR T) T.aX hr (aa (pv 1) (aa aq ak ao) aj)) aq) (fun _ _=>rfl)))
  (au (fX (bQ (fJ (pv 2))
   (az (sN sc 3 (bh bZ (dz (aR T) T.aX hr (aa (pv 1) (aa aq ak ao) aj)) aq)))
   bz))
  (au (qP (i:=4) [1] xn (bA (top 69)) rfl sc.nd rfl (jG rfl T.m9 (aa (pv 3) ak aj)) (fun _ _ _ _ _=>jo) (fun _ _ _ _ _=>(dz (gr T) T.fj hr (aa (pv 1) (aa (bh cT aq (pv 0)) ak bI) aj))))
  (au (sN sc 5 (bh cT (aV (wD rfl) (by rfl) T.Iu Dr (aa aq (aa (pv 3) ak aj) ao)) (aY aW (bF (aa aq (aa aq (aa aq (aa aq (aa aq (aa aq ak ao) ao) ao) ao) ao) ao)) (bh bZ (dz (aR T) T.aX hr (aa (pv 1) (aa aq ak ao) aj)) aq) (fun _ _=>rfl))))
  (au (sN sc 6 (dz (lE T) T.ji hr (aa (aY aW (pv 0) aq (fun _ _=>rfl)) (aa (aV bK (by rfl) T.dG bY (aa (aY aW (pv 0) aq (fun _ _=>rfl)) ak aD)) ak bf) aD)))
  (au (bJ (Gg (aY aW (pv 0) aq (fun _ _=>rfl)) (aa (cZ (aa (pv 6) (aa (pv 5) (aa (pv 4) ak aj) aj) aj)) ak cL)))
  (az (aN (pv 6))))))))),?_⟩
 have hl:sizeLine=16777216:=sizeLine_eq
 refine⟨jy,fun l0 n0=>?_⟩
 have s0:=aF (o:=.lst [.int 0,.int 0,.int 0,.int 1,.int 2]) n0
 obtain⟨c0,e0,h0⟩:=Ti (bO c 1)
 refine⟨_,rfl,_,_,rfl,_,_,rfl,rfl,by show(0:Int) <5;decide,l0,_,_,_,rfl,rfl,bT.of aA,e0,?_⟩
 generalize upd H l0 (.lst [.int 0,.int 0,.int 0,.int 1,.int 2])=H0 at s0 ⊢
 refine⟨fun σ H1=>∃m:Nat,m<=3/\H1=H0/\σ=[some (.ref d.S),some (.int c),some (.bl b),some (.int (m:Nat)),none,none,none],?_,?_⟩
 ·cases b
  ·exact⟨_,rfl,false,rfl,dR ⟨c0,by omega,rfl,rfl⟩⟩
  ·refine⟨_,rfl,true,rfl,lG ⟨_,rfl,_,_,rfl,_,_,rfl,rfl,by show(0:Int) <4;decide,?_⟩⟩
   have h1:=Int.emod_nonneg (bO c 1) (show(4:Int)≠0 by decide)
   have h2:=Int.emod_lt_of_pos (bO c 1) (show(0:Int) <4 by decide)
   refine⟨(bO c 1 % 4).toNat,by omega,rfl,?_⟩
   rw [Int.toNat_of_nonneg h1]
   rfl
 rintro σ H1 ⟨m,hm,rfl,rfl⟩
 refine⟨_,rfl,(m:Int),rfl,by omega,by omega,?_⟩
 rw [Int.toNat_natCast]
 refine mQ (fun i ys H'=>H'=H1/\∃ws:List Int,ys=ws.map V.int/\ws.length=i/\∀v∈ws,0<=v/\v <1000000000) (by omega) ⟨rfl,[],rfl,rfl,by simp⟩ (fun i ys H' ⟨_,ws,e,e2,_⟩=>by rw [e,lM];omega) ?_ ?_
 ·rintro i ys H' hi ⟨rfl,ws,rfl,hw,hB⟩
  refine yes ⟨_,rfl,_,rfl,_,_,rfl,rfl,c,10+(0+(i:Int)),rfl,rfl,ws ++ [mH c (10+(0+(i:Int)))],by simp,by simp [hw],fun v hv=>?_⟩
  rcases List.mem_append.mp hv with hv | hv
  ·exact hB v hv
  ·rw [List.mem_singleton] at hv
   subst hv
   exact lV _ _
 rintro ys H' ⟨rfl,ws,rfl,hw,hB⟩ F nF
 have t1:=aF (o:=.lst (ws.map V.int)) nF
 have sF:=s0.trans t1
 have eF:upd H' F (.lst (ws.map V.int)) F=some (.lst (ws.map V.int)):=aA
 have oF:F∉d.E:=D.out (s0.free nF)
 generalize upd H' F (.lst (ws.map V.int))=H2 at t1 sF eF ⊢
 refine⟨_,rfl,_,_,rfl,jy,fun l1 n1=>?_⟩
 have t2:=aF (o:=.lst [.int 0,.int 0,.int 1,.int 1,.int 2,.int 7]) n1
 obtain⟨c1,e1,h1⟩:=Tu (bO c 2)
 refine⟨_,rfl,_,_,rfl,_,_,rfl,rfl,by show(0:Int) <6;decide,l1,_,_,_,rfl,rfl,bT.of aA,e1,_,_,rfl,rfl,?_⟩
 have s2:=sF.trans t2
 have eF2:=t2 _ _ eF
 generalize upd H2 l1 (.lst [.int 0,.int 0,.int 1,.int 1,.int 2,.int 7])=H3 at t2 s2 eF2 ⊢
 have D3:=D.keep s2
 obtain⟨xs,eL,aL⟩:=D3.lanes
 have xl:=aL.length
 refine⟨_,rfl,d.S,_,3,_,rfl,rfl,D3.seqS,aM (j:=3) rfl,?_⟩
 refine⟨_,rfl,d.S,_,0,_,rfl,rfl,D3.seqS,aM (j:=0) rfl,.ref d.L,ls.length,rfl,.inl ⟨_,bT.of eL,xl.symm⟩,?_⟩
 refine⟨d.c3,ls.length,rfl,by omega,fun H4 s4=>?_⟩
 have D4:=D3.keep s4
 have eL4:=s4 _ _ eL
 have eF4:=s4 _ _ eF2
 have s04:=s2.trans s4
 refine⟨_,rfl,d.S,_,0,_,rfl,rfl,D4.seqS,aM (j:=0) rfl,?_⟩
 refine⟨.inl ⟨rfl,_,bT.of eL4⟩,_,rfl,_,rfl,_,rfl,jy,fun q nq=>?_⟩
 have t5:=aF (o:=.tup [.str (cJ d.c3 ls.length),.int ((if (m:Int) >1 then(m:Int) else 1)+(c1:Int)),.ref F]) nq
 have s5:=s04.trans t5
 have D5:=D4.keep t5
 have oq:q∉d.E:=D4.out nq
 have eq:upd H4 q (.tup [.str (cJ d.c3 ls.length),.int ((if (m:Int) >1 then(m:Int) else 1)+(c1:Int)),.ref F]) q=some (.tup [.str (cJ d.c3 ls.length),.int ((if (m:Int) >1 then(m:Int) else 1)+(c1:Int)),.ref F]):=aA
 have eL5:=t5 _ _ eL4
 have eF5:=t5 _ _ eF4
 refine⟨d.L,xs,_,rfl,rfl,eL5,by omega,_,rfl,?_⟩
 refine k ⟨cJ d.c3 ls.length,(if (m:Int) >1 then(m:Int) else 1)+(c1:Int),ws⟩ _ rfl ?_ (D5.lane ⟨q,F,rfl,eQ eq oq,eQ eF5 oF⟩ ⟨by dsimp only;split <;> omega,by dsimp only;split <;> omega,by dsimp only;split <;> omega,hB⟩ rfl eL5)
 rw [fC (by simp)]
 exact D.cut s5
theorem pop_at:∀{os:List Str} {j:Nat} (h:j <os.length),os.Perm (os[j]:: os.eraseIdx j)
 | [],_,h=>absurd h (by simp)
 | a:: l,0,_=>.refl _
 | a:: l,j+1,h=>by
  have h':j <l.length:=by simpa using h
  show(a:: l).Perm (l[j]:: a:: l.eraseIdx j)
  exact((pop_at (os:=l) (j:=j) (by simpa using h)).cons a).trans (.swap _ _ _)
theorem Bc {α β:Type} {f:α->β}:∀(l:List α) (j:Nat),(l.map f).eraseIdx j=(l.eraseIdx j).map f
 | [],_=>rfl
 | a:: l,0=>rfl
 | a:: l,j+1=>by
  show f a:: (l.map f).eraseIdx j=f a:: (l.eraseIdx j).map f
  rw [Bc l j]
theorem HQ {j n:Nat} (h:j <n):seqIndex? (j:Int) n=some j:=by
 unfold seqIndex?
 have z:¬(j:Int) <0:=by omega
 simp [h,z]
inductive uZ (vs:List V) (H:Hp) (Q:VK) (E:XK):Prop where
 | mk:∀(d:Dw) (ls:List aH) (ps:List PD) (os:List Str) (n:Int),vs=[.ref d.S,.int n]->lN d H ls ps os->os≠[]->os.length<=100->(∀(x:Str) (os':List Str) (H':Hp),os.Perm (x:: os')->aK (bH d.E H) (bH d.E H')->lN d H' ls ps os'->Q (.str x) H')->uZ vs H Q E
theorem pU (T:Txt w K mg t):FO P w K mg base 1 t.yg ["_law_state", "_law_number"] (uZ):=by
 have sc:=T.j0.sc ["_law_state", "_law_number"]
 refine T.j0.F.ok sc ln (fun _ _ _ _ H vs Q E hr h=>?_)
 obtain⟨d,ls,ps,os,n,rfl,D,hne,hs,k⟩:=h
 refine⟨_,(az (aN (yI PySem.F.plainAttrs_list PySem.F.slot_list_pop PySem.F.type_list_pop zu (aY aW (pv 0) aq (fun _ _=>rfl)) (aa (bh bZ (pv 1) (aV bK (by rfl) T.dG bY (aa (aY aW (pv 0) aq (fun _ _=>rfl)) ak aD))) ak bI)))),?_⟩
 have hpos:0 <os.length:=List.length_pos_iff.mpr hne
 refine⟨_,rfl,d.S,_,2,_,rfl,rfl,D.seqS,aM (j:=2) rfl,.inl ⟨rfl,_,bT.of D.opens⟩,?_⟩
 refine⟨_,rfl,_,rfl,d.S,_,2,_,rfl,rfl,D.seqS,aM (j:=2) rfl,.ref d.O,os.length,rfl,.inl ⟨_,bT.of D.opens,by simp⟩,n,(os.length:Int),rfl,rfl,by omega,?_⟩
 have h0:=Int.emod_nonneg n (show(os.length:Int)≠0 by omega)
 have h1:=Int.emod_lt_of_pos n (show(0:Int) <(os.length:Int) by omega)
 obtain⟨j,hj⟩:∃j:Nat,n % (os.length:Int)=(j:Int):=⟨(n % (os.length:Int)).toNat,by omega⟩
 have hj':j <os.length:=by omega
 refine⟨d.O,_,(j:Int),j,.str os[j],rfl,by show [V.int (n % (os.length:Int))]=_;rw [hj],D.opens,by omega,by omega,by rw [lM];exact HQ hj',by rw [List.getElem?_map,List.getElem?_eq_getElem hj'];rfl,?_⟩
 rw [Bc]
 exact k os[j] (os.eraseIdx j) _ (pop_at hj') (by rw [fC (by simp)];exact aK.refl _) D.open
inductive uO (vs:List V) (H:Hp) (Q:VK) (E:XK):Prop where
 | mk:∀(d:Dw) (ls:List aH) (ps:List PD) (os:List Str) (c:Int) (i:Nat) (a1 a2:Addr) (nums:List Int) (ins:List Str) (many:Nat),vs=[.ref d.S,.int c,.str (d8 i),.ref a1,.ref a2,.int (many:Nat)]->lN d H ls ps os->bH d.E H a1=some (.lst (nums.map V.int))->bH d.E H a2=some (.lst (ins.map V.str))->i <11->nums.length=cN i->((∀v∈nums,0<=v/\v <1000000000))->ins.length=cI i->many=cO i->ls.length<=22->ps.length<=25->os.length<=100->(∀(newl:List aH) (H':Hp),newl.length=many->aK (bH d.E H) (bH d.E H')->lN d H' (ls ++ newl) (ps ++ [⟨i,cJ d.c4 ps.length,nums,ins,newl.map (·.name)⟩]) (os ++ newl.map (·.name))->Q .non H')->uO vs H Q E
noncomputable abbrev xT:List Str:=["_law_state", "_law_cell_here", "_law_kind", "_law_numbers", "_law_ins", "_law_many", "_law_outs"]
theorem cB (T:Txt w K mg t):FO P w K mg base 4 t.xF ["_law_state", "_law_cell_here", "_law_kind", "_law_numbers", "_law_ins", "_law_many"] (uO):=by
 have sc:=T.b7.sc xT
 refine T.b7.F.ok sc ln (fun _ _ _ _ H vs Q E hr h=>?_)
 obtain⟨d,ls,ps,os,c,i,a1,a2,nums,ins,many,rfl,D,e1,e2,hi,hN,hB,hI,hO,hls,hps,hos,k⟩:=h
 refine⟨_,(au (qP (i:=6) [0,1] xT (bA (top 70)) rfl sc.nd rfl (jG rfl T.m9 (aa (pv 5) ak aj)) (fun _ _ _ _ _=>jo) (fun _ _ _ _ _=>(dz (ju T) T.gU hr (aa (pv 1) (aa (dz (aR T) T.aX hr (aa (pv 2) (aa (bh cT aq (pv 0)) ak bI) aj)) (aa iT ak ao) bf) aj))))
  (au (bJ (Gg (aY aW (pv 0) aq (fun _ _=>rfl)) (aa (cZ (aa (pv 2) (aa (dz (lE T) T.ji hr (aa (aY aW (pv 0) aq (fun _ _=>rfl)) (aa (aV bK (by rfl) T.dG bY (aa (aY aW (pv 0) aq (fun _ _=>rfl)) ak aD)) ak bf) aD)) (aa (pv 3) (aa (pv 4) (aa (pv 6) ak aj) aj) aj) bf) aj)) ak cL)))
  (az (bJ (yI PySem.F.plainAttrs_list PySem.F.slot_list_extend PySem.F.type_list_extend Bf (aY aW (pv 0) aq (fun _ _=>rfl)) (aa (pv 6) ak aj)))))),?_⟩
 have hl:sizeLine=16777216:=sizeLine_eq
 have hm2:many<=2:=by rw [hO];exact Mp i
 refine⟨_,rfl,(many:Int),rfl,by omega,by omega,?_⟩
 rw [Int.toNat_natCast]
 refine mQ (fun i ys H'=>∃newl:List aH,newl.length=i/\ys=newl.map (fun l=>V.str l.name)/\aK (bH d.E H) (bH d.E H')/\lN d H' (ls ++ newl) ps os) (by omega) ⟨[],rfl,rfl,aK.refl _,by rw [List.append_nil];exact D⟩ (fun i ys H' ⟨newl,e,e2,_⟩=>by rw [e2,lM];omega) ?_ ?_
 ·rintro j ys H' hj ⟨newl,hn,rfl,s,D'⟩
  refine yes ⟨_,rfl,_,rfl,_,rfl,_,_,rfl,rfl,c,20+(0+(j:Int)),rfl,?_⟩
  refine⟨d,ls ++ newl,ps,os,_,false,rfl,D',by rw [lP];omega,fun l H1 _ s1 D1=>?_⟩
  exact⟨newl ++ [l],by simp [hn],by simp,s.trans s1,by rw [<-List.append_assoc];exact D1⟩
 rintro ys H1 ⟨newl,hn,rfl,s1,D1⟩ F nF
 have t1:=aF (o:=.lst (newl.map fun l=>V.str l.name)) nF
 have eF:upd H1 F (.lst (newl.map fun l=>V.str l.name)) F=some (.lst ((newl.map (·.name)).map V.str)):=by rw [List.map_map];exact aA
 have oF:=D1.out nF
 have D2:=D1.keep t1
 have s2:=s1.trans (D1.cut t1)
 generalize upd H1 F (.lst (newl.map fun l=>V.str l.name))=H2 at t1 eF D2 s2 ⊢
 obtain⟨xs,eP,aP⟩:=D2.parts
 have xl:=aP.length
 refine⟨_,rfl,d.S,_,1,_,rfl,rfl,D2.seqS,aM (j:=1) rfl,.inl ⟨rfl,_,bT.of eP⟩,?_⟩
 refine⟨_,rfl,_,rfl,d.S,_,4,_,rfl,rfl,D2.seqS,aM (j:=4) rfl,?_⟩
 refine⟨_,rfl,d.S,_,1,_,rfl,rfl,D2.seqS,aM (j:=1) rfl,.ref d.P,ps.length,rfl,.inl ⟨_,bT.of eP,xl.symm⟩,?_⟩
 refine⟨d.c4,ps.length,rfl,by omega,fun H3 s3=>?_⟩
 have D3:=D2.keep s3
 have t3:=s2.trans (D2.cut s3)
 have eP3:=s3 _ _ eP
 have eF3:=s3 _ _ eF
 refine⟨_,rfl,_,rfl,_,rfl,jy,fun q nq=>?_⟩
 have s4:=aF (o:=.tup [.str (d8 i),.str (cJ d.c4 ps.length),.ref a1,.ref a2,.ref F]) nq
 have D4:=D3.keep s4
 have t4:=t3.trans (D3.cut s4)
 have eP4:=s4 _ _ eP3
 have eF4:=s4 _ _ eF3
 have oq:=D3.out nq
 have eq:upd H3 q (.tup [.str (d8 i),.str (cJ d.c4 ps.length),.ref a1,.ref a2,.ref F]) q=some (.tup [.str (d8 i),.str (cJ d.c4 ps.length),.ref a1,.ref a2,.ref F]):=aA
 refine⟨d.P,xs,_,rfl,rfl,eP4,by omega,?_⟩
 generalize upd H3 q (.tup [.str (d8 i),.str (cJ d.c4 ps.length),.ref a1,.ref a2,.ref F])=H4 at s4 D4 t4 eP4 eF4 eq ⊢
 have D5:=D4.part (p:=⟨i,cJ d.c4 ps.length,nums,ins,newl.map (·.name)⟩) ⟨q,a1,a2,F,rfl,eQ eq oq,t4 _ _ e1,t4 _ _ e2,eQ eF4 oF⟩ ⟨hi,hN,hI,by show(newl.map _).length=_;rw [lM,hn];exact hO,hB⟩ rfl eP4
 have hcu:bH d.E (upd H4 d.P (.lst (xs ++ [.ref q])))=bH d.E H4:=fC (by simp)
 have eF5:upd H4 d.P (.lst (xs ++ [.ref q])) F=some (.lst ((newl.map (·.name)).map V.str)):=by rw [aJ (fun z=>oF (by rw [z];simp))];exact eF4
 generalize upd H4 d.P (.lst (xs ++ [.ref q]))=H5 at D5 hcu eF5 ⊢
 refine⟨_,rfl,d.S,_,2,_,rfl,rfl,D5.seqS,aM (j:=2) rfl,.inl ⟨rfl,_,bT.of D5.opens⟩,?_⟩
 refine⟨_,rfl,d.O,F,_,_,rfl,rfl,D5.opens,eF5,by rw [lM,lM,lM];omega,?_⟩
 rw [<-List.map_append]
 exact k newl _ hn (by rw [fC (by simp),hcu];exact t4) D5.open
theorem Ra (m:Int):∃i:Nat,Gq [V.str "add",V.str "less"] (m % 2)=some (.str (d8 i))/\(i=6∨i=7):=by
 have h0:=Int.emod_nonneg m (show(2:Int)≠0 by decide)
 have h1:=Int.emod_lt_of_pos m (show(0:Int) <2 by decide)
 have:m % 2=0∨m % 2=1:=by omega
 rcases this with e | e <;> rw [e]
 ·exact⟨6,rfl,.inl rfl⟩
 ·exact⟨7,rfl,.inr rfl⟩
theorem FN {one other:Str} {os os1:List Str} (h:os.Perm (other:: os1)):(one:: os).Perm ([one,other] ++ os1):=h.cons one
theorem Uy {one other third:Str} {os os1 os2:List Str} (h:os.Perm (other:: os1)) (h2:os1.Perm (third:: os2)):(one:: os).Perm ([one,other,third] ++ os2):=(h.trans (h2.cons other)).cons one
inductive xZ (vs:List V) (H:Hp) (Q:VK) (E:XK):Prop where
 | mk:∀(d:Dw) (ls:List aH) (ps:List PD) (os:List Str) (c:Int) (one:Str) (back:List Str) (odd:Bool),vs=[.ref d.S,.int c,.str one,.bl odd]->lN d H ls ps os->Drawn.WF (sE ls ps (one:: os) back)->os≠[]->os.length<=3->ls.length<=20->ps.length<=22->(∀ls' ps' os' H',Vw d H H' ls ps back ls' ps' os'->Q .non H')->xZ vs H Q E
theorem Fj (T:Txt w K mg t):FO P w K mg base 5 t.yN ["_law_state", "_law_cell_here", "_law_one", "_law_odd"] (xZ):=by
 have sc:=T.uK.sc ["_law_state", "_law_cell_here", "_law_one", "_law_odd", "_law_other", "_law_way", "_law_third"]
 refine T.uK.F.ok sc ln (fun _ _ _ _ H vs Q E hr h=>?_)
 obtain⟨d,ls,ps,os,c,one,back,odd,rfl,D,w,hne,ho,hls,hps,k⟩:=h
 refine⟨_,(au (sN sc 4 (dz (pU T) T.j0 hr (aa (pv 0) (aa (dz (aR T) T.aX hr (aa (pv 1) (aa aq ak ao) aj)) ak bf) aj)))
  (au (sN sc 5 (bh bZ (dz (aR T) T.aX hr (aa (pv 1) (aa aq ak ao) aj)) aq))
  (az (fX (bQ (PW.pt (wI (fJ (pv 3)) (wI (bC uv (pv 5) aq (bL _)) (uP (bC zb (aV bK (by rfl) T.dG bY (aa (aY aW (pv 0) aq (fun _ _=>rfl)) ak aD)) aq (bL _))))))
   (au (sN sc 6 (dz (pU T) T.j0 hr (aa (pv 0) (aa (dz (aR T) T.aX hr (aa (pv 1) (aa aq ak ao) aj)) ak bf) aj)))
   (az (bJ (dz (cB T) T.b7 hr (aa (pv 0) (aa (pv 1) (aa bN (aa (bF ak) (aa (bF (aa (pv 2) (aa (pv 4) (aa (pv 6) ak aj) aj) aj)) (aa aq ak ao) aO) aO) ao) aj) aj)))))
   (az (fX (bQ (PW.pt (wI (fJ (pv 3)) (uP (bC uv (pv 5) aq (bL _)))))
    (az (bJ (dz (cB T) T.b7 hr (aa (pv 0) (aa (pv 1) (aa bN (aa (bF ak) (aa (bF (aa (pv 2) (aa (pv 4) ak aj) aj)) (aa aq ak ao) aO) aO) ao) aj) aj))))
    (az (fX (bQ (bC iM (bh bZ (pv 5) aq) aq (bL _))
     (az (bJ (dz (cB T) T.b7 hr (aa (pv 0) (aa (pv 1) (aa bN (aa (bF ak) (aa (bF (aa (pv 2) (aa (pv 4) ak aj) aj)) (aa aq ak ao) aO) aO) ao) aj) aj))))
     (az (bJ (dz (cB T) T.b7 hr (aa (pv 0) (aa (pv 1) (aa (aY aW (bF (aa bN (aa bN ak ao) ao)) (bh bZ (pv 5) aq) (fun _ _=>rfl)) (aa (bF ak) (aa (bF (aa (pv 2) (aa (pv 4) ak aj) aj)) (aa aq ak ao) aO) aO) aD) aj) aj))))))))))))))),?_⟩
 have hl:sizeLine=16777216:=sizeLine_eq
 refine⟨_,rfl,_,rfl,_,_,rfl,d,ls,ps,os,_,rfl,D,hne,by omega,fun other os1 H1 p1 s1 D1=>?_⟩
 have l1:=p1.length_eq
 rw [List.length_cons] at l1
 refine⟨_,rfl,_,_,rfl,_,_,rfl,rfl,by show(0:Int) <6;decide,?_⟩
 refine⟨fun _ H'=>Q .non H',?_,fun _ _ h=>h⟩
 have fin:∀{i:Nat} {nm:Str} {newl:List aH} {ins os2:List Str} {H':Hp},aK (bH d.E H) (bH d.E H')->lN d H' (ls ++ newl) (ps ++ [⟨i,nm,[],ins,newl.map (·.name)⟩]) (os2 ++ newl.map (·.name))->(one:: os).Perm (ins ++ os2)->newl.length≠0->newl.length<=2->os2.length+newl.length<=4->Q .non H':=fun s DD hp h1 h2 h4=>
  k _ _ _ _ ⟨s,DD,pN w rfl DD hp h1 (by rw [lP];omega),by rw [lP,lM];omega,by rw [lP,lM];omega,by rw [lP];omega,by rw [lP,List.length_singleton];omega,fun c=>c.app⟩
 cases odd
 ·refine⟨_,rfl,false,rfl,dR (dR ?_)⟩
  refine⟨fun _ H'=>Q .non H',?_,fun _ _ h=>h⟩
  refine⟨_,rfl,false,rfl,dR (dR ?_)⟩
  refine⟨fun _ H'=>Q .non H',?_,fun _ _ h=>h⟩
  refine⟨_,rfl,_,_,rfl,rfl,by show(0:Int) <3;decide,rfl,_,rfl,jx (fun _=>?_) (fun _=>?_)⟩
  ·refine⟨_,rfl,_,rfl,jy,fun a1 n1=>⟨_,rfl,_,rfl,jy,fun a2 n2=>?_⟩⟩
   obtain⟨D9,z1,z2,z3⟩:=D1.two n1 n2 (y:=.lst [.str one,.str other])
   refine⟨d,_,_,os1,_,8,a1,a2,[],[one,other],2,rfl,D9,z1,z2,by omega,rfl,by simp,rfl,rfl,by omega,by omega,by omega,fun newl H8 hn s8 D8=>?_⟩
   exact fin (s1.trans (z3.trans s8)) D8 (FN p1) (by omega) (by omega) (by omega)
  ·refine⟨_,rfl,_,rfl,jy,fun a0 n0=>?_⟩
   have s0:=aF (o:=.lst [.str "add",.str "less"]) n0
   have D0:=D1.keep s0
   have c0:=D1.cut s0
   refine⟨_,rfl,_,_,rfl,rfl,by show(0:Int) <2;decide,?_⟩
   obtain⟨i,ei,hi⟩:=Ra (bO c 6 % 6)
   refine⟨a0,_,_,_,rfl,rfl,bT.of aA,ei,?_⟩
   generalize upd H1 a0 (.lst [.str "add",.str "less"])=H0 at s0 D0 c0 ⊢
   have hN:([]:List Int).length=cN i:=by rcases hi with rfl | rfl <;> rfl
   have hI:[one,other].length=cI i:=by rcases hi with rfl | rfl <;> rfl
   have hO:1=cO i:=by rcases hi with rfl | rfl <;> rfl
   refine⟨jy,fun a1 n1=>⟨_,rfl,_,rfl,jy,fun a2 n2=>?_⟩⟩
   obtain⟨D9,z1,z2,z3⟩:=D0.two n1 n2 (y:=.lst [.str one,.str other])
   refine⟨d,_,_,os1,_,i,a1,a2,[],[one,other],1,rfl,D9,z1,z2,by omega,hN,by simp,hI,hO,by omega,by omega,by omega,fun newl H8 hn s8 D8=>?_⟩
   exact fin (s1.trans (c0.trans (z3.trans s8))) D8 (FN p1) (by omega) (by omega) (by omega)
 ·refine⟨_,rfl,true,rfl,lG ⟨_,rfl,_,_,rfl,rfl,_,rfl,Ae ?_ (fun h2 b=>?_) (fun b=>b)⟩⟩
  ·refine⟨fun _ H'=>Q .non H',?_,fun _ _ h=>h⟩
   refine⟨_,rfl,true,rfl,lG ?_⟩
   refine⟨_,rfl,_,_,rfl,rfl,_,rfl,jx (fun h5=>?_) (fun h5=>?_)⟩
   ·refine⟨_,rfl,_,rfl,jy,fun a1 n1=>⟨_,rfl,_,rfl,jy,fun a2 n2=>?_⟩⟩
    obtain⟨D9,z1,z2,z3⟩:=D1.two n1 n2 (y:=.lst [.str one,.str other])
    refine⟨d,_,_,os1,_,10,a1,a2,[],[one,other],2,rfl,D9,z1,z2,by omega,rfl,by simp,rfl,rfl,by omega,by omega,by omega,fun newl H8 hn s8 D8=>?_⟩
    exact fin (s1.trans (z3.trans s8)) D8 (FN p1) (by omega) (by omega) (by omega)
   ·refine⟨fun _ H'=>Q .non H',?_,fun _ _ h=>h⟩
    refine⟨_,rfl,_,_,rfl,rfl,by show(0:Int) <3;decide,rfl,_,rfl,jx (fun _=>?_) (fun _=>?_)⟩
    ·refine⟨_,rfl,_,rfl,jy,fun a1 n1=>⟨_,rfl,_,rfl,jy,fun a2 n2=>?_⟩⟩
     obtain⟨D9,z1,z2,z3⟩:=D1.two n1 n2 (y:=.lst [.str one,.str other])
     refine⟨d,_,_,os1,_,8,a1,a2,[],[one,other],2,rfl,D9,z1,z2,by omega,rfl,by simp,rfl,rfl,by omega,by omega,by omega,fun newl H8 hn s8 D8=>?_⟩
     exact fin (s1.trans (z3.trans s8)) D8 (FN p1) (by omega) (by omega) (by omega)
    ·refine⟨_,rfl,_,rfl,jy,fun a0 n0=>?_⟩
     have s0:=aF (o:=.lst [.str "add",.str "less"]) n0
     have D0:=D1.keep s0
     have c0:=D1.cut s0
     refine⟨_,rfl,_,_,rfl,rfl,by show(0:Int) <2;decide,?_⟩
     obtain⟨i,ei,hi⟩:=Ra (bO c 6 % 6)
     refine⟨a0,_,_,_,rfl,rfl,bT.of aA,ei,?_⟩
     generalize upd H1 a0 (.lst [.str "add",.str "less"])=H0 at s0 D0 c0 ⊢
     have hN:([]:List Int).length=cN i:=by rcases hi with rfl | rfl <;> rfl
     have hI:[one,other].length=cI i:=by rcases hi with rfl | rfl <;> rfl
     have hO:1=cO i:=by rcases hi with rfl | rfl <;> rfl
     refine⟨jy,fun a1 n1=>⟨_,rfl,_,rfl,jy,fun a2 n2=>?_⟩⟩
     obtain⟨D9,z1,z2,z3⟩:=D0.two n1 n2 (y:=.lst [.str one,.str other])
     refine⟨d,_,_,os1,_,i,a1,a2,[],[one,other],1,rfl,D9,z1,z2,by omega,hN,by simp,hI,hO,by omega,by omega,by omega,fun newl H8 hn s8 D8=>?_⟩
     exact fin (s1.trans (c0.trans (z3.trans s8))) D8 (FN p1) (by omega) (by omega) (by omega)
  ·refine⟨_,rfl,d.S,_,2,_,rfl,rfl,D1.seqS,aM (j:=2) rfl,.ref d.O,os1.length,rfl,.inl ⟨_,bT.of D1.opens,by simp⟩,_,_,rfl,rfl,_,rfl,jx (fun h3=>?_) (fun _=>b)⟩
   have hne1:os1≠[]:=fun z=>by rw [z] at h3;exact absurd (of_decide_eq_true h3) (by decide)
   refine⟨_,rfl,_,rfl,_,_,rfl,d,ls,ps,os1,_,rfl,D1,hne1,by omega,fun third os2 H2 p2 s2 D2=>?_⟩
   have l2:=p2.length_eq
   rw [List.length_cons] at l2
   refine⟨_,rfl,_,rfl,jy,fun a1 n1=>⟨_,rfl,_,rfl,_,rfl,jy,fun a2 n2=>?_⟩⟩
   obtain⟨D9,z1,z2,z3⟩:=D2.two n1 n2 (y:=.lst [.str one,.str other,.str third])
   refine⟨d,_,_,os2,_,9,a1,a2,[],[one,other,third],1,rfl,D9,z1,z2,by omega,rfl,by simp,rfl,rfl,by omega,by omega,by omega,fun newl H8 hn s8 D8=>?_⟩
   exact fin (s1.trans (s2.trans (z3.trans s8))) D8 (Uy p1 p2) (by omega) (by omega) (by omega)
inductive vB (vs:List V) (H:Hp) (Q:VK) (E:XK):Prop where
 | mk:∀(d:Dw) (ls:List aH) (ps:List PD) (os:List Str) (c:Int) (one:Str) (back:List Str),vs=[.ref d.S,.int c,.str one]->lN d H ls ps os->Drawn.WF (sE ls ps (one:: os) back)->os.length<=3->ls.length<=20->ps.length<=22->(∀ls' ps' os' H',Vw d H H' ls ps back ls' ps' os'->Q .non H')->vB vs H Q E
theorem Dv (T:Txt w K mg t):FO P w K mg base 4 t.xO ["_law_state", "_law_cell_here", "_law_one"] (vB):=by
 have sc:=T.rR.sc ["_law_state", "_law_cell_here", "_law_one", "_law_own", "_law_fresh"]
 refine T.rR.F.ok sc ln (fun _ _ _ _ H vs Q E hr h=>?_)
 obtain⟨d,ls,ps,os,c,one,back,rfl,D,w,ho,hls,hps,k⟩:=h
 refine⟨_,(au (sN sc 3 (dz (ju T) T.gU hr (aa (pv 0) (aa (dz (aR T) T.aX hr (aa (pv 1) (aa aq ak ao) aj)) (aa iT ak ao) bf) aj)))
  (au (sN sc 4 (dz (ju T) T.gU hr (aa (pv 0) (aa (dz (aR T) T.aX hr (aa (pv 1) (aa aq ak ao) aj)) (aa iT ak ao) bf) aj)))
  (au (bJ (Gg (aY aW (pv 0) aq (fun _ _=>rfl)) (aa (cZ (aa bN (aa (dz (lE T) T.ji hr (aa (aY aW (pv 0) aq (fun _ _=>rfl)) (aa (aV bK (by rfl) T.dG bY (aa (aY aW (pv 0) aq (fun _ _=>rfl)) ak aD)) ak bf) aD)) (aa (bF ak) (aa (bF (aa (pv 2) (aa (pv 3) ak aj) aj)) (aa (bF (aa (pv 3) (aa (pv 4) ak aj) aj)) ak aO) aO) aO) bf) ao)) ak cL)))
  (az (bJ (Gg (aY aW (pv 0) aq (fun _ _=>rfl)) (aa (pv 4) ak aj))))))),?_⟩
 have hl:sizeLine=16777216:=sizeLine_eq
 refine⟨_,rfl,_,rfl,_,_,rfl,d,ls,ps,os,_,true,rfl,D,by omega,fun l1 H1 e1 s1 D1=>?_⟩
 refine⟨_,rfl,_,rfl,_,_,rfl,d,ls ++ [l1],ps,os,_,false,rfl,D1,by rw [lP,List.length_singleton];omega,fun l2 H2 e2 s2 D2=>?_⟩
 have s12:=s1.trans s2
 obtain⟨xs,eP,aP⟩:=D2.parts
 have xl:=aP.length
 refine⟨_,rfl,d.S,_,1,_,rfl,rfl,D2.seqS,aM (j:=1) rfl,.inl ⟨rfl,_,bT.of eP⟩,?_⟩
 refine⟨_,rfl,d.S,_,4,_,rfl,rfl,D2.seqS,aM (j:=4) rfl,?_⟩
 refine⟨_,rfl,d.S,_,1,_,rfl,rfl,D2.seqS,aM (j:=1) rfl,.ref d.P,ps.length,rfl,.inl ⟨_,bT.of eP,xl.symm⟩,?_⟩
 refine⟨d.c4,ps.length,rfl,by omega,fun H3 s3=>?_⟩
 have D3:=D2.keep s3
 have c3:=s12.trans (D2.cut s3)
 have eP3:=s3 _ _ eP
 refine⟨jy,fun a1 n1=>⟨_,rfl,_,rfl,jy,fun a2 n2=>⟨_,rfl,_,rfl,jy,fun a3 n3=>⟨jy,fun q nq=>?_⟩⟩⟩⟩
 obtain⟨D4,z1,z2,z3⟩:=D3.two n1 n2 (y:=.lst [.str one,.str l1.name])
 have t4:aK H3 (upd (upd H3 a1 (.lst [])) a2 (.lst [.str one,.str l1.name])):=(aF n1).trans (aF n2)
 have eP4:=t4 _ _ eP3
 generalize upd (upd H3 a1 (.lst [])) a2 (.lst [.str one,.str l1.name])=H4 at D4 z1 z2 z3 t4 eP4 n3 nq ⊢
 obtain⟨D5,y1,y2,y3⟩:=D4.two n3 nq (y:=.tup [.str "order",.str (cJ d.c4 ps.length),.ref a1,.ref a2,.ref a3])
 have t5:aK H4 (upd (upd H4 a3 (.lst [.str l1.name,.str l2.name])) q (.tup [.str "order",.str (cJ d.c4 ps.length),.ref a1,.ref a2,.ref a3])):=(aF n3).trans (aF nq)
 have eP5:=t5 _ _ eP4
 generalize upd (upd H4 a3 (.lst [.str l1.name,.str l2.name])) q (.tup [.str "order",.str (cJ d.c4 ps.length),.ref a1,.ref a2,.ref a3])=H5 at D5 y1 y2 y3 t5 eP5 ⊢
 have c5:=c3.trans (z3.trans y3)
 refine⟨d.P,xs,_,rfl,rfl,eP5,by omega,?_⟩
 have D6:=D5.part (p:=⟨8,cJ d.c4 ps.length,[],[one,l1.name],[l1.name,l2.name]⟩) ⟨q,a1,a2,a3,rfl,y2,y3 _ _ z1,y3 _ _ z2,y1⟩ ⟨by show 8 <11;omega,rfl,rfl,rfl,by simp⟩ rfl eP5
 have c6:bH d.E (upd H5 d.P (.lst (xs ++ [.ref q])))=bH d.E H5:=fC (by simp)
 generalize upd H5 d.P (.lst (xs ++ [.ref q]))=H6 at D6 c6 ⊢
 refine⟨_,rfl,d.S,_,2,_,rfl,rfl,D6.seqS,aM (j:=2) rfl,.inl ⟨rfl,_,bT.of D6.opens⟩,_,rfl,d.O,_,_,rfl,rfl,D6.opens,by rw [lM];omega,?_⟩
 have D7:=D6.open (os':=os ++ [l2.name])
 rw [List.map_append] at D7
 have nd:=D7.nod (by rw [lP,lP,List.length_singleton,List.length_singleton];omega)
 have wl:=w.loop (p:=⟨8,cJ d.c4 ps.length,[],[one,l1.name],[l1.name,l2.name]⟩) (rest:=os) (one:=one) (own:=l1.name) (fresh:=l2.name) rfl rfl (.refl _) (by simpa using nd)
 refine k _ _ _ _ ⟨by rw [fC (by simp),c6];exact c5,D7,by simpa [sE] using wl,by rw [lP,List.length_singleton];omega,by rw [lP,List.length_singleton];omega,by simp,by simp,fun c=>c.app⟩
inductive vZ (vs:List V) (H:Hp) (Q:VK) (E:XK):Prop where
 | mk:∀(d:Dw) (ls:List aH) (ps:List PD) (os:List Str) (c:Int) (back:List Str) (odd:Bool),vs=[.ref d.S,.int c,.bl odd]->lN d H ls ps os->Drawn.WF (sE ls ps os back)->os≠[]->os.length<=4->ls.length<=20->ps.length<=22->(∀ls' ps' os' H',Vw d H H' ls ps back ls' ps' os'->Q .non H')->vZ vs H Q E
theorem Er (T:Txt w K mg t):FO P w K mg base 6 t.yo ["_law_state", "_law_cell_here", "_law_odd"] (vZ):=by
 have sc:=T.rE.sc ["_law_state", "_law_cell_here", "_law_odd", "_law_way", "_law_one"]
 refine T.rE.F.ok sc ln (fun _ _ _ _ H vs Q E hr h=>?_)
 obtain⟨d,ls,ps,os,c,back,odd,rfl,D,w,hne,ho,hls,hps,k⟩:=h
 refine⟨_,(au (sN sc 3 (bh bZ (dz (aR T) T.aX hr (aa (pv 1) (aa aq ak ao) aj)) aq))
  (au (sN sc 4 (dz (pU T) T.j0 hr (aa (pv 0) (aa (dz (aR T) T.aX hr (aa (pv 1) (aa aq ak ao) aj)) ak bf) aj)))
  (az (fX (bQ (PW.pt (wI (bC uv (pv 3) aq (bL _)) (uP (bC uv (aV bK (by rfl) T.dG bY (aa (aY aW (pv 0) aq (fun _ _=>rfl)) ak aD)) aq (bL _)))))
   (az (bJ (dz (cB T) T.b7 hr (aa (pv 0) (aa (pv 1) (aa bN (aa (bF ak) (aa (bF (aa (pv 4) ak aj)) (aa aq ak ao) aO) aO) ao) aj) aj))))
   (az (fX (bQ (bC iM (pv 3) aq (bL _))
    (au (bJ (dz (cB T) T.b7 hr (aa (pv 0) (aa (pv 1) (aa bN (aa (bF ak) (aa (bF (aa (pv 4) ak aj)) (aa aq ak ao) aO) aO) ao) aj) aj)))
    (az (bJ (dz (cB T) T.b7 hr (aa (pv 0) (aa (pv 1) (aa bN (aa (bF ak) (aa (bF (aa (G6 PySem.F.plainAttrs_list PySem.F.slot_list_pop PySem.F.type_list_pop Ih (aY aW (pv 0) aq (fun _ _=>rfl))) ak bf)) (aa aq ak ao) aO) aO) ao) aj) aj)))))
    (az (fX (bQ (PW.pt (wI (bC uv (pv 3) aq (bL _)) (uP (bC zb (aV bK (by rfl) T.dG bY (aa (aY aW (pv 0) aq (fun _ _=>rfl)) ak aD)) aq (bL _)))))
     (az (bJ (dz (Fj T) T.uK hr (aa (pv 0) (aa (pv 1) (aa (pv 4) (aa (pv 2) ak aj) aj) aj) aj))))
     (az (fX (bQ (bC uv (pv 3) aq (bL _))
      (az (bJ (dz (cB T) T.b7 hr (aa (pv 0) (aa (pv 1) (aa bN (aa (bF (aa (dz (gr T) T.fj hr (aa (pv 1) (aa aq ak ao) aj)) (aa (dz (gr T) T.fj hr (aa (pv 1) (aa aq ak ao) aj)) ak bf) bf)) (aa (bF (aa (pv 4) ak aj)) (aa aq ak ao) aO) aO) ao) aj) aj))))
      (az (fX (bQ (bC iM (pv 3) aq (bL _))
       (az (bJ (dz (cB T) T.b7 hr (aa (pv 0) (aa (pv 1) (aa bN (aa (bF (aa (dz (gr T) T.fj hr (aa (pv 1) (aa aq ak ao) aj)) ak bf)) (aa (bF (aa (pv 4) ak aj)) (aa aq ak ao) aO) aO) ao) aj) aj))))
       (az (fX (bQ (bC iM (bh bZ (dz (aR T) T.aX hr (aa (pv 1) (aa aq ak ao) aj)) aq) aq (bL _))
        (az (bJ (dz (Dv T) T.rR hr (aa (pv 0) (aa (pv 1) (aa (pv 4) ak aj) aj) aj))))
        (az (bJ (dz (cB T) T.b7 hr (aa (pv 0) (aa (pv 1) (aa bN (aa (bF ak) (aa (bF (aa (pv 4) ak aj)) (aa aq ak ao) aO) aO) ao) aj) aj)))))))))))))))))))))))),?_⟩
 have hl:sizeLine=16777216:=sizeLine_eq
 refine⟨_,rfl,_,_,rfl,_,_,rfl,rfl,by show(0:Int) <9;decide,?_⟩
 refine⟨_,rfl,_,rfl,_,_,rfl,d,ls,ps,os,_,rfl,D,hne,by omega,fun one os1 H1 p1 s1 D1=>?_⟩
 have w1:Drawn.WF (sE ls ps (one:: os1) back):=RQ w p1
 have lo:=p1.length_eq
 rw [List.length_cons] at lo
 have fin:∀{i:Nat} {nm:Str} {nums:List Int} {newl:List aH} {ins os2:List Str} {H':Hp},aK (bH d.E H) (bH d.E H')->lN d H' (ls ++ newl) (ps ++ [⟨i,nm,nums,ins,newl.map (·.name)⟩]) (os2 ++ newl.map (·.name))->(one:: os1).Perm (ins ++ os2)->newl.length≠0->newl.length<=2->os2.length+newl.length<=4->Q .non H':=fun s DD hp h1 h2 h4=>
  k _ _ _ _ ⟨s,DD,pN w1 rfl DD hp h1 (by rw [lP];omega),by rw [lP,lM];omega,by rw [lP,lM];omega,by rw [lP];omega,by rw [lP,List.length_singleton];omega,fun c=>c.app⟩
 refine⟨fun _ H'=>Q .non H',?_,fun _ _ h=>h⟩
 refine⟨_,rfl,_,_,rfl,rfl,_,rfl,Ae ?_ (fun h2 b=>?_) (fun b=>b)⟩
 ·refine⟨fun _ H'=>Q .non H',?_,fun _ _ h=>h⟩
  refine⟨_,rfl,rfl,_,rfl,jx (fun _=>?_) (fun _=>?_)⟩
  ·refine⟨_,rfl,_,rfl,jy,fun a1 n1=>⟨_,rfl,jy,fun a2 n2=>?_⟩⟩
   obtain⟨D9,z1,z2,z3⟩:=D1.two n1 n2 (y:=.lst [.str one])
   refine⟨d,_,_,os1,_,3,a1,a2,[],[one],2,rfl,D9,z1,z2,by omega,rfl,by simp,rfl,rfl,by omega,by omega,by omega,fun newl H8 hn s8 D8=>?_⟩
   obtain⟨l1,l2,rfl⟩:∃l1 l2,newl=[l1,l2]:=by
    match newl,hn with
    | [x,y],_=>exact⟨x,y,rfl⟩
   have w8:=pN w1 rfl D8 (.refl _) (by simp) (by simp;omega)
   have s18:=s1.trans (z3.trans s8)
   clear D9 z1 z2 z3 n1 n2 s8
   refine⟨_,rfl,_,rfl,jy,fun a3 n3=>?_⟩
   have s3:=aF (o:=.lst []) n3
   have D3:=D8.keep s3
   have c3:=s18.trans (D8.cut s3)
   have o3:=D8.out n3
   have e3:upd H8 a3 (.lst []) a3=some (.lst ([]:List V)):=aA
   generalize upd H8 a3 (.lst [])=H3 at s3 D3 c3 e3 ⊢
   have eo:((os1 ++ [l1,l2].map (·.name)).map V.str)=((os1 ++ [l1.name]).map V.str) ++ [.str l2.name]:=by simp
   have hop:=D3.opens
   rw [eo] at hop
   refine⟨_,rfl,d.S,_,2,_,rfl,rfl,D3.seqS,aM (j:=2) rfl,.inl ⟨rfl,_,bT.of D3.opens⟩,d.O,_,.str l2.name,rfl,rfl,hop,by rw [lP,List.length_singleton,Nat.add_sub_cancel];exact List.getElem?_concat_length,?_⟩
   rw [List.dropLast_concat]
   have D4:=D3.open (os':=os1 ++ [l1.name])
   have c4:bH d.E (upd H3 d.O (.lst ((os1 ++ [l1.name]).map V.str)))=bH d.E H3:=fC (by simp)
   have e4:=eQ e3 o3
   generalize upd H3 d.O (.lst ((os1 ++ [l1.name]).map V.str))=H4 at D4 c4 ⊢
   refine⟨jy,fun a4 n4=>?_⟩
   have s5:=aF (o:=.lst [.str l2.name]) n4
   have D5:=D4.keep s5
   have c5:=D4.cut s5
   rw [c4] at c5
   have e5:=eQ (E:=d.E) (H:=upd H4 a4 (.lst [.str l2.name])) aA (D4.out n4)
   refine⟨d,ls ++ [l1,l2],_,os1 ++ [l1.name],_,1,a3,a4,[],[l2.name],0,rfl,D5,c5 _ _ e4,e5,by omega,rfl,by simp,rfl,rfl,by simp;omega,by simp;omega,by simp;omega,fun newl2 H9 hn2 s9 D9=>?_⟩
   have hz:newl2=[]:=List.length_eq_zero_iff.mp hn2
   subst hz
   have wt:=w8.take (p:=⟨1,cJ d.c4 (ps ++ [(⟨3,cJ d.c4 ps.length,[],[one],[l1,l2].map (·.name)⟩:PD)]).length,[],[l2.name],[]⟩) (rest:=os1 ++ [l1.name]) (y:=l2.name) (x:=l1.name) rfl rfl (by
     show(os1 ++ [l1.name,l2.name]).Perm (l2.name:: (os1 ++ [l1.name]))
     rw [show os1 ++ [l1.name,l2.name]=(os1 ++ [l1.name]) ++ [l2.name] by simp]
     exact List.perm_append_comm) (by simp) (Drawn.iY.part (p:=⟨3,cJ d.c4 ps.length,[],[one],[l1,l2].map (·.name)⟩) (by simp) (by simp) (by simp))
   rw [List.map_nil,List.append_nil,List.append_nil] at D9
   exact k _ _ _ _ ⟨c3.trans (c5.trans s9),D9,wt,by simp,by simp;omega,by simp,by simp,fun c=>c.app.app⟩
  ·refine⟨fun _ H'=>Q .non H',?_,fun _ _ h=>h⟩
   refine⟨_,rfl,_,_,rfl,rfl,_,rfl,Ae ?_ (fun h2 b=>?_) (fun b=>b)⟩
   ·refine⟨fun _ H'=>Q .non H',?_,fun _ _ h=>h⟩
    refine⟨_,rfl,_,_,rfl,rfl,_,rfl,jx (fun _=>?_) (fun _=>?_)⟩
    ·refine⟨_,rfl,_,rfl,_,rfl,c,8,rfl,_,rfl,c,9,rfl,jy,fun a1 n1=>⟨_,rfl,jy,fun a2 n2=>?_⟩⟩
     obtain⟨D9,z1,z2,z3⟩:=D1.two n1 n2 (y:=.lst [.str one])
     refine⟨d,_,_,os1,_,4,a1,a2,[mH c 8,mH c 9],[one],1,rfl,D9,z1,z2,by omega,rfl,?_,rfl,rfl,by omega,by omega,by omega,fun newl H8 hn s8 D8=>?_⟩
     ·intro v hv
      rcases List.mem_cons.mp hv with rfl | hv
      ·exact lV _ _
      ·rw [List.mem_singleton] at hv
       subst hv
       exact lV _ _
     exact fin (s1.trans (z3.trans s8)) D8 (.refl _) (by omega) (by omega) (by omega)
    ·refine⟨fun _ H'=>Q .non H',?_,fun _ _ h=>h⟩
     refine⟨_,rfl,rfl,_,rfl,jx (fun _=>?_) (fun _=>?_)⟩
     ·refine⟨_,rfl,_,rfl,_,rfl,c,8,rfl,jy,fun a1 n1=>⟨_,rfl,jy,fun a2 n2=>?_⟩⟩
      obtain⟨D9,z1,z2,z3⟩:=D1.two n1 n2 (y:=.lst [.str one])
      refine⟨d,_,_,os1,_,5,a1,a2,[mH c 8],[one],1,rfl,D9,z1,z2,by omega,rfl,?_,rfl,rfl,by omega,by omega,by omega,fun newl H8 hn s8 D8=>?_⟩
      ·intro v hv
       rw [List.mem_singleton] at hv
       subst hv
       exact lV _ _
      exact fin (s1.trans (z3.trans s8)) D8 (.refl _) (by omega) (by omega) (by omega)
     ·refine⟨fun _ H'=>Q .non H',?_,fun _ _ h=>h⟩
      refine⟨_,rfl,_,_,rfl,_,_,rfl,rfl,by show(0:Int) <2;decide,rfl,_,rfl,jx (fun _=>?_) (fun _=>?_)⟩
      ·exact⟨_,rfl,_,rfl,_,rfl,d,ls,ps,os1,c,one,back,rfl,D1,w1,by omega,hls,hps,fun ls' ps' os' H' X=>k ls' ps' os' H' ⟨s1.trans X.cut,X.at',X.wf,X.o1,X.o4,X.l2,X.p2,X.gv⟩⟩
      ·refine⟨_,rfl,_,rfl,jy,fun a1 n1=>⟨_,rfl,jy,fun a2 n2=>?_⟩⟩
       obtain⟨D9,z1,z2,z3⟩:=D1.two n1 n2 (y:=.lst [.str one])
       refine⟨d,_,_,os1,_,2,a1,a2,[],[one],1,rfl,D9,z1,z2,by omega,rfl,by simp,rfl,rfl,by omega,by omega,by omega,fun newl H8 hn s8 D8=>?_⟩
       exact fin (s1.trans (z3.trans s8)) D8 (.refl _) (by omega) (by omega) (by omega)
   ·refine⟨_,rfl,d.S,_,2,_,rfl,rfl,D1.seqS,aM (j:=2) rfl,.ref d.O,os1.length,rfl,.inl ⟨_,bT.of D1.opens,by simp⟩,_,_,rfl,rfl,_,rfl,jx (fun h3=>?_) (fun _=>b)⟩
    have hne1:os1≠[]:=fun z=>by rw [z] at h3;exact absurd (of_decide_eq_true h3) (by decide)
    exact⟨_,rfl,_,rfl,_,rfl,_,rfl,d,ls,ps,os1,c,one,back,odd,rfl,D1,w1,hne1,by omega,hls,hps,fun ls' ps' os' H' X=>k ls' ps' os' H' ⟨s1.trans X.cut,X.at',X.wf,X.o1,X.o4,X.l2,X.p2,X.gv⟩⟩
 ·refine⟨_,rfl,d.S,_,2,_,rfl,rfl,D1.seqS,aM (j:=2) rfl,.ref d.O,os1.length,rfl,.inl ⟨_,bT.of D1.opens,by simp⟩,_,_,rfl,rfl,_,rfl,jx (fun h3=>?_) (fun _=>b)⟩
  have h3:os1.length <3:=by have:=of_decide_eq_true h3;omega
  refine⟨_,rfl,_,rfl,jy,fun a1 n1=>⟨_,rfl,jy,fun a2 n2=>?_⟩⟩
  obtain⟨D9,z1,z2,z3⟩:=D1.two n1 n2 (y:=.lst [.str one])
  refine⟨d,_,_,os1,_,3,a1,a2,[],[one],2,rfl,D9,z1,z2,by omega,rfl,by simp,rfl,rfl,by omega,by omega,by omega,fun newl H8 hn s8 D8=>?_⟩
  exact fin (s1.trans (z3.trans s8)) D8 (.refl _) (by omega) (by omega) (by omega)
inductive rB (vs:List V) (H:Hp) (Q:VK) (E:XK):Prop where
 | mk:∀(d:Dw) (ls:List aH) (ps:List PD) (os:List Str) (c:Int) (B:Addr) (back:List Str),vs=[.ref d.S,.int c,.ref B]->lN d H ls ps os->Drawn.WF (sE ls ps os back)->bH d.E H B=some (.lst (back.map V.str))->os≠[]->os.length<=4->back.length<=2->ls.length<=12->ps.length<=10->GK ps->(∀ls' ps' H',aK (bH d.E H) (bH d.E H')->lN d H' ls' ps' []->Bs (ls'.map (·.name)) ps'->ls'.length<=17->ls.length<=ls'.length->ps'.length<=16->1<=ps'.length->GK ps'->Q .non H')->rB vs H Q E
theorem zX (T:Txt w K mg t):FO P w K mg base 5 t.um ["_law_state", "_law_cell_here", "_law_back"] (rB):=by
 have sc:=T.pq.sc ["_law_state", "_law_cell_here", "_law_back", "_law_one", "_law_other", "_law_kind", "_law_lane_here", "_law_fresh"]
 refine T.pq.F.ok sc ln (fun _ _ _ _ H vs Q E hr h=>?_)
 obtain⟨d,ls,ps,os,c,B,back,rfl,D,w,eB,hne,ho,hb,hls,hps,hC,k⟩:=h
 refine⟨_,(au (vm PassesOwn.never (bC zb (aV bK (by rfl) T.dG bY (aa (aY aW (pv 0) aq (fun _ _=>rfl)) ak aD)) aq (bL _))
   (au (sN sc 3 (yI PySem.F.plainAttrs_list PySem.F.slot_list_pop PySem.F.type_list_pop zu (aY aW (pv 0) aq (fun _ _=>rfl)) (aa aq ak ao)))
   (au (sN sc 4 (yI PySem.F.plainAttrs_list PySem.F.slot_list_pop PySem.F.type_list_pop zu (aY aW (pv 0) aq (fun _ _=>rfl)) (aa aq ak ao)))
   (au (sN sc 5 (aY aW (bF (aa bN (aa bN (aa bN ak ao) ao) ao)) (bh bZ (dz (aR T) T.aX hr (aa (pv 1) (aa (aV bK (by rfl) T.dG bY (aa (aY aW (pv 0) aq (fun _ _=>rfl)) ak aD)) ak bf) aj)) aq) (fun _ _=>rfl)))
   (az (bJ (dz (cB T) T.b7 hr (aa (pv 0) (aa (dz (aR T) T.aX hr (aa (pv 1) (aa (bh cT aq (aV bK (by rfl) T.dG bY (aa (aY aW (pv 0) aq (fun _ _=>rfl)) ak aD))) ak bI) aj)) (aa (pv 5) (aa (bF ak) (aa (bF (aa (pv 3) (aa (pv 4) ak aj) aj)) (aa aq ak ao) aO) aO) aj) bf) aj))))))))
  (au (eO PassesOwn.never rfl (dN (pv 2)) (gN sc 6)
   (au (sN sc 3 (G6 PySem.F.plainAttrs_list PySem.F.slot_list_pop PySem.F.type_list_pop Ih (aY aW (pv 0) aq (fun _ _=>rfl))))
   (au (sN sc 7 (dz (ju T) T.gU hr (aa (pv 0) (aa (dz (aR T) T.aX hr (aa (pv 1) (aa (bh cT aq (aV bK (by rfl) T.dG bY (aa (aY aW (pv 0) aq (fun _ _=>rfl)) ak aD))) ak bI) aj)) (aa iT ak ao) bf) aj)))
   (au (bJ (Gg (aY aW (pv 0) aq (fun _ _=>rfl)) (aa (cZ (aa bN (aa (dz (lE T) T.ji hr (aa (aY aW (pv 0) aq (fun _ _=>rfl)) (aa (aV bK (by rfl) T.dG bY (aa (aY aW (pv 0) aq (fun _ _=>rfl)) ak aD)) ak bf) aD)) (aa (bF ak) (aa (bF (aa (pv 3) ak aj)) (aa (bF (aa (pv 6) (aa (pv 7) ak aj) aj)) ak aO) aO) aO) bf) ao)) ak cL)))
   (az (bJ (Gg (aY aW (pv 0) aq (fun _ _=>rfl)) (aa (pv 7) ak aj))))))))
  (az (bJ (dz (cB T) T.b7 hr (aa (pv 0) (aa (pv 1) (aa bN (aa (bF ak) (aa (bF (aa (G6 PySem.F.plainAttrs_list PySem.F.slot_list_pop PySem.F.type_list_pop Ih (aY aW (pv 0) aq (fun _ _=>rfl))) ak bf)) (aa aq ak ao) aO) aO) ao) aj) aj)))))),?_⟩
 have hl:sizeLine=16777216:=sizeLine_eq
 have hpos:0 <os.length:=List.length_pos_iff.mpr hne
 refine hide fun u hu=>?_
 refine vI (fun σ H1=>∃(ls1:List aH) (ps1:List PD) (os1:List Str) (v3 v4 v5:Option V),σ=[some (.ref d.S),some (.int c),some (.ref B),v3,v4,v5,none,none]/\aK (bH d.E H) (bH d.E H1)/\lN d H1 ls1 ps1 os1/\Drawn.WF (sE ls1 ps1 os1 back)/\1<=os1.length/\os1.length<=4/\ls.length<=ls1.length/\ls1.length+os1.length<=16/\ps1.length+os1.length<=14/\GK ps1)
  (fun _ H1=>Nr H1 d.O) ⟨ls,ps,os,none,none,none,rfl,aK.refl _,D,w,by omega,ho,Nat.le_refl _,by omega,by omega,hC⟩ ?_ ?_
 ·rintro σ H1 ⟨ls1,ps1,os1,v3,v4,v5,rfl,s1,D1,w1,o1,o4,hl1,hl2,hp2,hC1⟩
  refine⟨_,rfl,d.S,_,2,_,rfl,rfl,D1.seqS,aM (j:=2) rfl,.ref d.O,os1.length,rfl,.inl ⟨_,bT.of D1.opens,by simp⟩,_,_,rfl,rfl,_,rfl,jx (fun h3=>?_) (fun h3=>?_)⟩
  ·have h3:1 <os1.length:=by have:=of_decide_eq_true h3;omega
   obtain⟨one,other,os2,rfl⟩:∃one other os2,os1=one:: other:: os2:=by
    match os1,h3 with
    | x:: y:: r,_=>exact⟨x,y,r,rfl⟩
   rw [List.length_cons,List.length_cons] at h3 o1 o4 hl2 hp2
   have lm:=Gb D1.opens
   refine Tv fun De hD u hu=>?_
   refine⟨_,rfl,d.S,_,2,_,rfl,rfl,D1.seqS,aM (j:=2) rfl,.inl ⟨rfl,_,bT.of D1.opens⟩,d.O,_,0,0,.str one,rfl,rfl,D1.opens,by decide,by decide,HQ (by simp),rfl,?_⟩
   have D2:=D1.open (os':=other:: os2)
   have c2:bH d.E (upd H1 d.O (.lst ((other:: os2).map V.str)))=bH d.E H1:=fC (by simp)
   refine dj (v:=u) hu fun u hu=>?_
   change tH _ _ _ _ (upd H1 d.O (.lst ((other:: os2).map V.str)))
   generalize upd H1 d.O (.lst ((other:: os2).map V.str))=H2 at D2 c2 ⊢
   refine⟨_,rfl,d.S,_,2,_,rfl,rfl,D2.seqS,aM (j:=2) rfl,.inl ⟨rfl,_,bT.of D2.opens⟩,d.O,_,0,0,.str other,rfl,rfl,D2.opens,by decide,by decide,HQ (by simp),rfl,?_⟩
   have D3:=D2.open (os':=os2)
   have c3:bH d.E (upd H2 d.O (.lst (os2.map V.str)))=bH d.E H2:=fC (by simp)
   refine dj (v:=u) hu fun u hu=>?_
   change tH _ _ _ _ (upd H2 d.O (.lst (os2.map V.str)))
   generalize upd H2 d.O (.lst (os2.map V.str))=H3 at D3 c3 ⊢
   have s3:aK (bH d.E H) (bH d.E H3):=by rw [c3,c2];exact s1
   refine⟨jy,fun a0 n0=>?_⟩
   have s0:=aF (o:=.lst [.str "add",.str "less",.str "add"]) n0
   have D0:=D3.keep s0
   have c0:=s3.trans (D3.cut s0)
   refine⟨_,rfl,_,rfl,d.S,_,2,_,rfl,rfl,D0.seqS,aM (j:=2) rfl,.ref d.O,os2.length,rfl,.inl ⟨_,bT.of D0.opens,by simp⟩,c,(os2.length:Int),rfl,_,_,rfl,rfl,by show(0:Int) <3;decide,?_⟩
   obtain⟨i,ei,hi⟩:=TJ (bO c (os2.length:Int))
   refine⟨a0,_,_,_,rfl,rfl,bT.of aA,ei,?_⟩
   generalize upd H3 a0 (.lst [.str "add",.str "less",.str "add"])=H0 at s0 D0 c0 ⊢
   obtain⟨xs,eP,aP⟩:=D0.parts
   have xl:=aP.length
   have hN:([]:List Int).length=cN i:=by rcases hi with rfl | rfl <;> rfl
   have hI:[one,other].length=cI i:=by rcases hi with rfl | rfl <;> rfl
   have hO:1=cO i:=by rcases hi with rfl | rfl <;> rfl
   subst hu
   refine⟨_,rfl,_,rfl,_,rfl,d.S,_,1,_,rfl,rfl,D0.seqS,aM (j:=1) rfl,.ref d.P,ps1.length,rfl,.inl ⟨_,bT.of eP,xl.symm⟩,_,_,rfl,rfl,_,_,rfl,?_⟩
   refine⟨_,rfl,jy,fun a1 n1=>⟨_,rfl,_,rfl,jy,fun a2 n2=>?_⟩⟩
   obtain⟨D9,z1,z2,z3⟩:=D0.two n1 n2 (y:=.lst [.str one,.str other])
   refine⟨d,_,_,os2,_,i,a1,a2,[],[one,other],1,rfl,D9,z1,z2,by omega,hN,by simp,hI,hO,by omega,by omega,by omega,fun newl H8 hn s8 D8=>?_⟩
   have w8:=pN w1 rfl D8 (.refl _) (by omega) (by rw [lP];omega)
   subst hD
   refine⟨⟨_,_,_,_,_,_,rfl,c0.trans (z3.trans s8),D8,w8,?_,?_,?_,?_,?_,hC1.app⟩,?_⟩
   ·rw [lP,lM];omega
   ·rw [lP,lM];omega
   ·rw [lP];omega
   ·rw [lP,lP,lM];omega
   ·rw [lP,lP,lM,List.length_singleton];omega
   ·rw [Gb D8.opens,lm,lM,lM,lP,lM,List.length_cons,List.length_cons]
    omega
  ·have h3:os1.length=1:=by
    have:¬(1:Int) <(os1.length:Int):=fun z=>h3 (decide_eq_true z)
    omega
   obtain⟨y,rfl⟩:=List.length_eq_one_iff.mp h3
   refine dj (v:=u) hu fun u hu=>?_
   refine⟨_,rfl,B,rfl,⟨_,bT.of (fM _ _ (s1 _ _ eB))⟩,?_⟩
   refine fu (K:=K) (a:=B) (xs:=back.map V.str) (fun j σ H2=>∃(ls2:List aH) (ps2:List PD) (y:Str) (u3 u6 u7:Option V),σ=[some (.ref d.S),some (.int c),some (.ref B),u3,v4,v5,u6,u7]/\aK (bH d.E H) (bH d.E H2)/\lN d H2 ls2 ps2 [y]/\Drawn.WF (sE ls2 ps2 [y] (back.drop j))/\ls.length<=ls2.length/\ls2.length<=15+j/\ps2.length<=13+j/\GK ps2) ⟨ls1,ps1,y,v3,none,none,rfl,s1,D1,w1,hl1,by have z:=hl2;rw [List.length_singleton] at z;omega,by have z:=hp2;rw [List.length_singleton] at z;omega,hC1⟩ (fun j σ H2 _ ⟨ls2,ps2,y,u3,u6,u7,e,s2,h⟩=>bT.of (fM _ _ (s2 _ _ eB))) ?_ ?_
   ·rintro j x σ H2 hx ⟨ls2,ps2,y2,u3,u6,u7,rfl,s2,D2,w2,hl2',hl3,hp3,hC2⟩
    rw [List.getElem?_map] at hx
    obtain⟨bn,hbn,rfl⟩:=Option.map_eq_some_iff.mp hx
    have hj:j <back.length:=by
     rcases Nat.lt_or_ge j back.length with h | h
     ·exact h
     ·rw [List.getElem?_eq_none h] at hbn;cases hbn
    have hdr:back.drop j=bn:: back.drop (j+1):=by
     rw [List.drop_eq_getElem_cons hj]
     rw [List.getElem?_eq_getElem hj,Option.some.injEq] at hbn
     rw [hbn]
    refine NZ fun De hD u hu=>?_
    refine⟨_,rfl,d.S,_,2,_,rfl,rfl,D2.seqS,aM (j:=2) rfl,.inl ⟨rfl,_,bT.of D2.opens⟩,d.O,_,.str y2,rfl,rfl,D2.opens,rfl,?_⟩
    have D3:=D2.open (os':=[])
    have c3:bH d.E (upd H2 d.O (.lst (([]:List Str).map V.str)))=bH d.E H2:=fC (by simp)
    refine dj (v:=u) hu fun u hu=>?_
    change tH _ _ _ _ (upd H2 d.O (.lst (([]:List Str).map V.str)))
    generalize upd H2 d.O (.lst (([]:List Str).map V.str))=H3 at D3 c3 ⊢
    obtain⟨xs,eP,aP⟩:=D3.parts
    have xl:=aP.length
    refine⟨_,rfl,_,rfl,_,rfl,d.S,_,1,_,rfl,rfl,D3.seqS,aM (j:=1) rfl,.ref d.P,ps2.length,rfl,.inl ⟨_,bT.of eP,xl.symm⟩,_,_,rfl,rfl,_,_,rfl,d,ls2,ps2,[],_,false,rfl,D3,by omega,fun l H4 _ s4 D4=>?_⟩
    rw [c3] at s4
    have s24:=s2.trans s4
    obtain⟨xs4,eP4,aP4⟩:=D4.parts
    have xl4:=aP4.length
    refine dj (v:=u) hu fun u hu=>?_
    refine⟨_,rfl,d.S,_,1,_,rfl,rfl,D4.seqS,aM (j:=1) rfl,.inl ⟨rfl,_,bT.of eP4⟩,?_⟩
    refine⟨_,rfl,d.S,_,4,_,rfl,rfl,D4.seqS,aM (j:=4) rfl,?_⟩
    refine⟨_,rfl,d.S,_,1,_,rfl,rfl,D4.seqS,aM (j:=1) rfl,.ref d.P,ps2.length,rfl,.inl ⟨_,bT.of eP4,xl4.symm⟩,?_⟩
    refine⟨d.c4,ps2.length,rfl,by omega,fun H5 s5=>?_⟩
    have D5:=D4.keep s5
    have c5:=s24.trans (D4.cut s5)
    have eP5:=s5 _ _ eP4
    refine⟨jy,fun a1 n1=>⟨_,rfl,jy,fun a2 n2=>⟨_,rfl,_,rfl,jy,fun a3 n3=>⟨jy,fun q nq=>?_⟩⟩⟩⟩
    obtain⟨D6,z1,z2,z3⟩:=D5.two n1 n2 (y:=.lst [.str y2])
    have t6:aK H5 (upd (upd H5 a1 (.lst [])) a2 (.lst [.str y2])):=(aF n1).trans (aF n2)
    have eP6:=t6 _ _ eP5
    generalize upd (upd H5 a1 (.lst [])) a2 (.lst [.str y2])=H6 at D6 z1 z2 z3 t6 eP6 n3 nq ⊢
    obtain⟨D7,y1,y2',y3⟩:=D6.two n3 nq (y:=.tup [.str "copy",.str (cJ d.c4 ps2.length),.ref a1,.ref a2,.ref a3])
    have t7:aK H6 (upd (upd H6 a3 (.lst [.str bn,.str l.name])) q (.tup [.str "copy",.str (cJ d.c4 ps2.length),.ref a1,.ref a2,.ref a3])):=(aF n3).trans (aF nq)
    have eP7:=t7 _ _ eP6
    generalize upd (upd H6 a3 (.lst [.str bn,.str l.name])) q (.tup [.str "copy",.str (cJ d.c4 ps2.length),.ref a1,.ref a2,.ref a3])=H7 at D7 y1 y2' y3 t7 eP7 ⊢
    have c7:=c5.trans (z3.trans y3)
    refine⟨d.P,xs4,_,rfl,rfl,eP7,by omega,?_⟩
    have D8:=D7.part (p:=⟨3,cJ d.c4 ps2.length,[],[y2],[bn,l.name]⟩) ⟨q,a1,a2,a3,rfl,y2',y3 _ _ z1,y3 _ _ z2,y1⟩ ⟨by show 3 <11;omega,rfl,rfl,rfl,by simp⟩ rfl eP7
    have c8:bH d.E (upd H7 d.P (.lst (xs4 ++ [.ref q])))=bH d.E H7:=fC (by simp)
    generalize upd H7 d.P (.lst (xs4 ++ [.ref q]))=H8 at D8 c8 ⊢
    subst hu
    refine⟨_,rfl,d.S,_,2,_,rfl,rfl,D8.seqS,aM (j:=2) rfl,.inl ⟨rfl,_,bT.of D8.opens⟩,_,rfl,d.O,_,_,rfl,rfl,D8.opens,by simp;omega,?_⟩
    have D9:=D8.open (os':=[l.name])
    have nd:=D9.nod (by rw [lP,List.length_singleton];omega)
    rw [hdr] at w2
    have wc:=w2.closeBack (p:=⟨3,cJ d.c4 ps2.length,[],[y2],[bn,l.name]⟩) (rest:=back.drop (j+1)) (one:=y2) (b:=bn) (fresh:=l.name) rfl rfl (.refl _) rfl (by simpa using nd)
    subst hD
    exact⟨ls2 ++ [l],_,l.name,_,_,_,rfl,by rw [fC (by simp),c8];exact c7,D9,by simpa [sE] using wc,by rw [lP];omega,by rw [lP,List.length_singleton];omega,by rw [lP,List.length_singleton];omega,hC2.app⟩
   rintro σ H2 ⟨ls2,ps2,y2,u3,u6,u7,rfl,s2,D2,w2,hl2',hl3,hp3,hC2⟩
   rw [lM] at w2 hl3 hp3
   rw [List.drop_length] at w2
   subst hu
   refine⟨_,rfl,_,rfl,jy,fun a3 n3=>?_⟩
   have t3:=aF (o:=.lst []) n3
   have D3:=D2.keep t3
   have c3:=s2.trans (D2.cut t3)
   have o3:=D2.out n3
   have e3:=eQ (aA (H:=H2) (a:=a3) (o:=.lst ([]:List V))) o3
   generalize upd H2 a3 (.lst [])=H3 at t3 D3 c3 e3 ⊢
   refine⟨_,rfl,d.S,_,2,_,rfl,rfl,D3.seqS,aM (j:=2) rfl,.inl ⟨rfl,_,bT.of D3.opens⟩,d.O,_,.str y2,rfl,rfl,D3.opens,rfl,?_⟩
   have D4:=D3.open (os':=[])
   have c4:bH d.E (upd H3 d.O (.lst (([]:List Str).map V.str)))=bH d.E H3:=fC (by simp)
   rw [show([y2].map V.str).dropLast=([]:List Str).map V.str from rfl]
   refine⟨jy,fun a4 n4=>?_⟩
   generalize upd H3 d.O (.lst (([]:List Str).map V.str))=H4 at D4 c4 n4 ⊢
   have s5:=aF (o:=.lst [.str y2]) n4
   have D5:=D4.keep s5
   have c5:=D4.cut s5
   rw [c4] at c5
   have e5:=eQ (E:=d.E) (H:=upd H4 a4 (.lst [.str y2])) aA (D4.out n4)
   refine⟨d,ls2,ps2,[],_,1,a3,a4,[],[y2],0,rfl,D5,c5 _ _ e3,e5,by omega,rfl,by simp,rfl,rfl,by omega,by omega,by simp,fun newl2 H9 hn2 s9 D9=>?_⟩
   have hz:newl2=[]:=List.length_eq_zero_iff.mp hn2
   subst hz
   rw [List.map_nil,List.append_nil,List.append_nil] at D9
   obtain⟨x1,x2,x3⟩:=w2.last (p:=⟨1,cJ d.c4 ps2.length,[],[y2],[]⟩) (y:=y2) rfl rfl rfl rfl
   exact k ls2 _ H9 (c3.trans (c5.trans s9)) D9 ⟨w2.nod,x1,x2,y2,x3⟩ (by omega) hl2' (by rw [lP,List.length_singleton];omega) (by rw [lP,List.length_singleton];omega) hC2.app
 ·intro σ H' Q' Q'' hm hq
  obtain⟨x1,x2,x3,x4,x5,x6,x7,x8,x9,x10,x11,x12,x13,x14,x15,x16,x17,x18,x19,x20,q⟩:=hq
  exact⟨x1,x2,x3,x4,x5,x6,x7,x8,x9,x10,x11,x12,x13,x14,x15,x16,x17,x18,x19,x20,hm _ _ q⟩
inductive xx (K:PySem.W.Frag) (vs:List V) (H:Hp) (Q:VK) (E:XK):Prop where
 | mk:∀(a:Addr) (ns:List Int) (start steps:Nat) (odd:Bool),vs=[.ref a,.int (start:Nat),.int (steps:Nat),.bl odd]->bT K H a (ns.map V.int)->steps<=4->(∀(T L P:Addr) (ls:List aH) (ps:List PD) (H':Hp),aK H H'->H L=none->H P=none->L≠P->H' T=some (.tup [.ref L,.ref P])->yZ H' L P ls ps->KY (jA ns start) (jA ns (start+1)) ls ps->Q (.ref T) H')->xx K vs H Q E
noncomputable abbrev Ac:List Str:=["_law_script", "_law_start", "_law_steps", "_law_odd", "_law_one", "_law_other", "_law_state", "_law_k", "_law_back", "_law_at"]
theorem Ge (T:Txt w K mg t):FO P w K mg base 7 t.yS ["_law_script", "_law_start", "_law_steps", "_law_odd"] (xx K):=by
 have sc:=T.uz.sc Ac
 refine T.uz.F.ok sc ln (fun _ _ _ _ H vs Q E hr h=>?_)
 obtain⟨a,ns,start,steps,odd,rfl,hS,hst,k⟩:=h
 refine⟨_,(au (sN sc 4 (dz (jn T) T.gM hr (aa (pv 0) (aa (pv 1) ak aj) aj)))
  (au (sN sc 5 (dz (jn T) T.gM hr (aa (pv 0) (aa (bh cT (pv 1) aq) ak bI) aj)))
  (au (sN sc 6 (bF (aa (bF ak) (aa (bF ak) (aa (bF ak) (aa (pv 4) (aa (pv 5) ak aj) aj) aO) aO) aO)))
  (au (eO PassesOwn.never rfl (jG rfl T.m9 (aa (bh cT aq (bh bZ (dz (aR T) T.aX hr (aa (pv 4) (aa aq ak ao) aj)) aq)) ak bI)) (gN sc 7)
   (az (bJ (dz (cB T) T.b7 hr (aa (pv 6) (aa (dz (aR T) T.aX hr (aa (pv 5) (aa (pv 7) ak aj) aj)) (aa bN (aa (bF ak) (aa (bF ak) (aa aq ak ao) aO) aO) ao) bf) aj)))))
  (au (qP (i:=8) [5,6] Ac (bA (top 76)) rfl sc.nd rfl (jG rfl T.m9 (aa (bh bZ (dz (aR T) T.aX hr (aa (pv 4) (aa aq ak ao) aj)) aq) ak bI)) (fun _ _ _ _ _=>jo) (fun _ _ _ _ _=>(dz (ju T) T.gU hr (aa (pv 2) (aa (dz (aR T) T.aX hr (aa (pv 1) (aa (bh cT aq (pv 0)) ak bI) aj)) (aa iT ak ao) bf) aj))))
  (au (bJ (yI PySem.F.plainAttrs_list PySem.F.slot_list_extend PySem.F.type_list_extend Bf (aY aW (pv 6) aq (fun _ _=>rfl)) (aa (pv 8) ak aj)))
  (au (eO PassesOwn.never rfl (jG rfl T.m9 (aa (pv 2) ak aj)) (gN sc 7)
   (az (bJ (dz (Er T) T.rE hr (aa (pv 6) (aa (dz (jn T) T.gM hr (aa (pv 0) (aa (bh cT (bh cT (pv 1) aq) (pv 7)) ak bI) aj)) (aa (pv 3) ak aj) bf) aj)))))
  (au (bJ (dz (zX T) T.pq hr (aa (pv 6) (aa (pv 5) (aa (pv 8) ak aj) aj) aj)))
  (au (sN sc 9 (bh bZ (dz (aR T) T.aX hr (aa (pv 4) (aa aq ak ao) aj)) (aV bK (by rfl) T.dG bY (aa (aY aW (pv 6) aq (fun _ _=>rfl)) ak aD))))
  (az (aN (cZ (aa (aY aW (pv 6) aq (fun _ _=>rfl)) (aa (bh SJ (jZ sU (aY aW (pv 6) aq (fun _ _=>rfl)) (lF (pv 9)) pX) (jZ sU (aY aW (pv 6) aq (fun _ _=>rfl)) pX (lF (pv 9)))) ak bI) aD))))))))))))),?_⟩
 have hl:sizeLine=16777216:=sizeLine_eq
 refine hide fun u hu=>?_
 refine⟨_,rfl,_,rfl,a,ns,start,rfl,hS,?_⟩
 refine dj (v:=u) hu fun u hu=>?_
 refine⟨_,rfl,_,rfl,_,_,rfl,rfl,a,ns,start+1,rfl,hS,?_⟩
 refine dj (v:=u) hu fun u hu=>?_
 refine⟨jy,fun L nL=>⟨jy,fun P' nP=>⟨jy,fun O nO=>⟨_,rfl,_,rfl,jy,fun S nS=>?_⟩⟩⟩⟩
 obtain⟨D1,s1,nP0⟩:=lN.init (jA ns start) (jA ns (start+1)) nL nP nO nS
 have nLP:L≠P':=D1.ne.1
 refine dj (v:=u) hu fun u hu=>?_
 change tH _ _ _ [some (.ref a),some (.int (start:Nat)),some (.int (steps:Nat)),some (.bl odd),some (.int (jA ns start)),some (.int (jA ns (start+1))),some (.ref S),none,none,none] (upd (upd (upd (upd H L (.lst [])) P' (.lst [])) O (.lst [])) S (.lst [.ref L,.ref P',.ref O,.int (jA ns start),.int (jA ns (start+1))]))
 generalize upd (upd (upd (upd H L (.lst [])) P' (.lst [])) O (.lst [])) S (.lst [.ref L,.ref P',.ref O,.int (jA ns start),.int (jA ns (start+1))])=H1 at D1 s1 ⊢
 obtain⟨d,hd⟩:∃d:Dw,d=⟨S,L,P',O,jA ns start,jA ns (start+1)⟩:=⟨_,rfl⟩
 rw [<-hd] at D1
 have hE:[L,P',O]=d.E:=by rw [hd]
 have hSd:S=d.S:=by rw [hd]
 have hLd:L=d.L:=by rw [hd]
 have hc3:jA ns start=d.c3:=by rw [hd]
 have hc4:jA ns (start+1)=d.c4:=by rw [hd]
 rw [hE] at s1
 rw [hLd] at nL nLP
 rw [hc3,hc4] at k
 rw [hSd,hc3,hc4]
 clear hd hE nP nO nS
 have g0:=Int.emod_nonneg (bO d.c3 5) (show(2:Int)≠0 by decide)
 have g1:=Int.emod_lt_of_pos (bO d.c3 5) (show(0:Int) <2 by decide)
 refine⟨_,rfl,_,_,rfl,_,_,rfl,rfl,by show(0:Int) <2;decide,_,_,rfl,rfl,1+bO d.c3 5 % 2,rfl,by omega,by omega,?_⟩
 obtain⟨g,hg,hg1,hg2⟩:∃g:Nat,(1+bO d.c3 5 % 2).toNat=g/\1<=g/\g<=2:=⟨_,rfl,by omega,by omega⟩
 rw [hg]
 refine BV (fun j σ H2=>∃(ls:List aH) (ps:List PD) (os:List Str) (v7:Option V),σ=[some (.ref a),some (.int (start:Nat)),some (.int (steps:Nat)),some (.bl odd),some (.int d.c3),some (.int d.c4),some (.ref d.S),v7,none,none]/\aK (bH d.E H1) (bH d.E H2)/\lN d H2 ls ps os/\Drawn.WF (sE ls ps os [])/\ls.length=j/\ps.length=j/\os.length=j/\(1<=j->GK ps)) ⟨[],[],[],none,rfl,aK.refl _,D1,Drawn.WF.start,rfl,rfl,rfl,fun h=>absurd h (by decide)⟩ ?_ ?_
 ·rintro j σ H2 hj ⟨ls,ps,os,v7,rfl,s2,D2,w2,h1,h2,h3,hC⟩
  refine Qw fun De hD=>?_
  refine⟨_,rfl,_,rfl,_,rfl,_,_,rfl,jy,fun a1 n1=>⟨jy,fun a2 n2=>?_⟩⟩
  obtain⟨D9,z1,z2,z3⟩:=D2.two n1 n2 (y:=.lst [])
  refine⟨d,ls,ps,os,_,0,a1,a2,[],[],1,rfl,D9,z1,z2,by omega,rfl,by simp,rfl,rfl,by omega,by omega,by omega,fun newl H8 hn s8 D8=>?_⟩
  have w8:=pN w2 rfl D8 (.refl _) (by omega) (by rw [lP];omega)
  subst hD
  exact⟨_,_,_,_,rfl,s2.trans (z3.trans s8),D8,w8,by rw [lP];omega,by rw [lP,List.length_singleton];omega,by rw [lP,lM];omega,fun _=>by unfold GK;rw [List.any_append];simp⟩
 rintro σ H2 ⟨ls,ps,os,v7,rfl,s2,D2,w2,h1,h2,h3,hC⟩
 have b0:=Int.emod_nonneg (bO d.c3 6) (show(3:Int)≠0 by decide)
 have b1:=Int.emod_lt_of_pos (bO d.c3 6) (show(0:Int) <3 by decide)
 refine dj (v:=u) hu fun u hu=>?_
 refine⟨_,rfl,_,_,rfl,_,_,rfl,rfl,by show(0:Int) <3;decide,bO d.c3 6 % 3,rfl,by omega,by omega,?_⟩
 obtain⟨nb,hnb,hnb2⟩:∃nb:Nat,(bO d.c3 6 % 3).toNat=nb/\nb<=2:=⟨_,rfl,by omega⟩
 rw [hnb]
 refine mQ (fun j ys H3=>∃(ls3:List aH) (bl:List Str),ys=bl.map V.str/\bl.length=j/\aK (bH d.E H1) (bH d.E H3)/\lN d H3 ls3 ps os/\Drawn.WF (sE ls3 ps (os ++ bl) bl)/\ls3.length=g+j) (by omega) ⟨ls,[],rfl,rfl,s2,D2,by rw [List.append_nil];exact w2,by omega⟩ (fun j ys H3 ⟨_,bl,e,e2,_⟩=>by rw [e,lM];omega) ?_ ?_
 ·rintro j ys H3 hj ⟨ls3,bl,rfl,hb,s3,D3,w3,h4⟩
  refine yes ⟨_,rfl,_,rfl,_,rfl,_,_,rfl,rfl,_,_,rfl,d,ls3,ps,os,_,true,rfl,D3,by omega,fun l H4 _ s4 D4=>?_⟩
  have nd:=D4.nod (by rw [lP,List.length_singleton];omega)
  have wb:=w3.backLane (b:=l.name) (by simpa using nd)
  exact⟨ls3 ++ [l],bl ++ [l.name],by simp,by simp [hb],s3.trans s4,D4,by simpa [sE] using wb,by rw [lP,List.length_singleton];omega⟩
 rintro ys H3 ⟨ls3,bl,rfl,hbl,s3,D3,w3,h4⟩ B nB
 have t4:=aF (o:=.lst (bl.map V.str)) nB
 have D4:=D3.keep t4
 have s4:=s3.trans (D3.cut t4)
 have eB:=eQ (aA (H:=H3) (a:=B) (o:=.lst (bl.map V.str))) (D3.out nB)
 generalize upd H3 B (.lst (bl.map V.str))=H4 at t4 D4 s4 eB ⊢
 refine dj (v:=u) hu fun u hu=>?_
 refine⟨_,rfl,d.S,_,2,_,rfl,rfl,D4.seqS,aM (j:=2) rfl,.inl ⟨rfl,_,bT.of D4.opens⟩,_,rfl,d.O,B,_,_,rfl,rfl,D4.opens,fM _ _ eB,by rw [lM,lM];omega,?_⟩
 rw [<-List.map_append]
 have D5:=D4.open (os':=os ++ bl)
 have c5:bH d.E (upd H4 d.O (.lst ((os ++ bl).map V.str)))=bH d.E H4:=fC (by simp)
 generalize upd H4 d.O (.lst ((os ++ bl).map V.str))=H5 at D5 c5 ⊢
 rw [<-c5] at s4 eB
 refine dj (v:=u) hu fun u hu=>?_
 refine⟨_,rfl,(steps:Int),rfl,by omega,by omega,?_⟩
 rw [Int.toNat_natCast]
 refine BV (fun j σ H6=>∃(ls6:List aH) (ps6:List PD) (os6:List Str) (v7:Option V),σ=[some (.ref a),some (.int (start:Nat)),some (.int (steps:Nat)),some (.bl odd),some (.int d.c3),some (.int d.c4),some (.ref d.S),v7,some (.ref B),none]/\aK (bH d.E H5) (bH d.E H6)/\lN d H6 ls6 ps6 os6/\Drawn.WF (sE ls6 ps6 os6 bl)/\1<=ls6.length/\ls6.length<=4+2 * j/\ps6.length<=2+2 * j/\os6≠[]/\os6.length<=4/\GK ps6) ⟨ls3,ps,os ++ bl,v7,rfl,aK.refl _,D5,w3,by omega,by omega,by omega,by intro z;have:=congrArg List.length z;rw [lP,List.length_nil] at this;omega,by rw [lP];omega,hC (by omega)⟩ ?_ ?_
 ·rintro j σ H6 hj ⟨ls6,ps6,os6,u7,rfl,s6,D6,w6,l0,l6,p6,o0,o6,hC6⟩
  have hS6:bT K H6 a (ns.map V.int):=fM.seq ((s1.trans (s4.trans s6)).seq hS)
  refine Qw fun De hD=>?_
  refine⟨_,rfl,_,rfl,_,rfl,_,_,rfl,rfl,_,rfl,_,_,rfl,rfl,a,ns,start+2+(0+j),rfl,hS6,_,rfl,d,ls6,ps6,os6,_,bl,odd,rfl,D6,w6,o0,o6,by omega,by omega,fun ls' ps' os' H' X=>?_⟩
  subst hD
  exact⟨ls',ps',os',_,rfl,s6.trans X.cut,X.at',X.wf,by have h1:=X.wf.ins.length_eq;have h2:=X.o1;rw [lP,lM] at h1;change _+os'.length=_ at h1;omega,by have:=X.l2;omega,by have:=X.p2;omega,by intro z;have:=X.o1;rw [z] at this;simp at this,X.o4,X.gv hC6⟩
 rintro σ H6 ⟨ls6,ps6,os6,u7,rfl,s6,D6,w6,l0,l6,p6,o0,o6,hC6⟩
 refine dj (v:=u) hu fun u hu=>?_
 refine⟨_,rfl,_,rfl,_,rfl,d,ls6,ps6,os6,_,B,bl,rfl,D6,w6,s6 _ _ eB,o0,o6,by omega,by omega,by omega,hC6,fun ls7 ps7 H7 s7 D7 W7 l17 l7 p16 p1 hC7=>?_⟩
 obtain⟨xsL,eL,aL⟩:=D7.lanes
 obtain⟨xsP,eP,aP⟩:=D7.parts
 have xl:=aP.length
 refine dj (v:=u) hu fun u hu=>?_
 refine⟨_,rfl,_,_,rfl,_,rfl,d.S,_,1,_,rfl,rfl,D7.seqS,aM (j:=1) rfl,.ref d.P,ps7.length,rfl,.inl ⟨_,bT.of eP,xl.symm⟩,bO d.c3 7,(ps7.length:Int),rfl,rfl,by omega,?_⟩
 have r0:=Int.emod_nonneg (bO d.c3 7) (show(ps7.length:Int)≠0 by omega)
 obtain⟨r,hr'⟩:∃r:Nat,bO d.c3 7 % (ps7.length:Int)=(r:Int):=⟨_,(Int.toNat_of_nonneg r0).symm⟩
 dsimp only
 rw [hr']
 subst hu
 refine⟨_,rfl,d.S,_,0,_,rfl,rfl,D7.seqS,aM (j:=0) rfl,?_⟩
 refine⟨_,rfl,d.S,_,1,_,rfl,rfl,D7.seqS,aM (j:=1) rfl,?_⟩
 refine⟨_,rfl,_,rfl,d.P,_,rfl,bT.of eP,fun q1 m1=>?_⟩
 rw [Kf]
 have t1:=aF (o:=.lst (xsP.drop r)) m1
 have f1:upd H7 q1 (.lst (xsP.drop r)) q1=some (.lst (xsP.drop r)):=aA
 have D8:=D7.keep t1
 have eP8:=t1 _ _ eP
 have eL8:=t1 _ _ eL
 generalize upd H7 q1 (.lst (xsP.drop r))=H8 at t1 f1 D8 eP8 eL8 ⊢
 refine⟨_,rfl,d.S,_,1,_,rfl,rfl,D8.seqS,aM (j:=1) rfl,_,rfl,_,rfl,d.P,_,rfl,bT.of eP8,fun q2 m2=>?_⟩
 rw [Ot]
 have t2:=aF (o:=.lst (xsP.take r)) m2
 have f2:upd H8 q2 (.lst (xsP.take r)) q2=some (.lst (xsP.take r)):=aA
 have f12:=t2 _ _ f1
 have eL9:=t2 _ _ eL8
 generalize upd H8 q2 (.lst (xsP.take r))=H9 at t2 f2 f12 eL9 ⊢
 refine⟨q1,q2,_,_,rfl,rfl,f12,f2,by rw [List.length_drop,List.length_take];omega,fun q3 m3=>?_⟩
 have t3:=aF (o:=.lst (xsP.drop r ++ xsP.take r)) m3
 have f3:upd H9 q3 (.lst (xsP.drop r ++ xsP.take r)) q3=some (.lst (xsP.drop r ++ xsP.take r)):=aA
 have eLA:=t3 _ _ eL9
 generalize upd H9 q3 (.lst (xsP.drop r ++ xsP.take r))=HA at t3 f3 eLA ⊢
 refine⟨jy,fun T' nT=>?_⟩
 have t4:=aF (o:=.tup [.ref d.L,.ref q3]) nT
 have sA:aK H7 (upd HA T' (.tup [.ref d.L,.ref q3])):=t1.trans (t2.trans (t3.trans t4))
 have s17:aK H (bH d.E H7):=s1.trans (s4.trans (s6.trans s7))
 have s07:aK H H7:=s17.trans fM
 have free3:H q3=none:=s07.free (t1.free (t2.free m3))
 have cA:aK (bH d.E H7) (upd HA T' (.tup [.ref d.L,.ref q3])):=fM.trans sA
 have nq:d.L≠q3:=aC eL9 m3
 have rp:=Nh ps7 r
 refine k T' d.L q3 ls7 (ps7.drop r ++ ps7.take r) _ (s07.trans sA) nL free3 nq aA ⟨⟨xsL,t4 _ _ eLA,aL.imp fun _ _ h=>h.same cA⟩,⟨_,t4 _ _ f3,((aP.drop r).app (aP.take r)).imp fun _ _ h=>h.same cA⟩⟩ ⟨D7.lok,fun p hp=>D7.pok p (rp.mem_iff.mpr hp),D7.ln,?_,W7.perm rp,by omega,l17,by rw [<-rp.length_eq];exact p1,by rw [<-rp.length_eq];exact p16,by unfold GK at hC7 ⊢;rw [<-rp.any_eq];exact hC7⟩
 rw [<-rp.length_eq,<-D7.pn]
 exact rp.map _
inductive zQ (K:PySem.W.Frag) (vs:List V) (H:Hp) (Q:VK) (E:XK):Prop where
 | mk:∀x,vs=[x]->(((∃z:Str,x=.str z/\z.length<=100/\∀H',aK H H'->Q (.bl (nameB z)) H')∨∃Tx,Vl K H x Tx/\Tx∈nY/\Tx≠ "str" /\Q (.bl false) H))->zQ K vs H Q E
theorem G5 (T:Txt w K mg t):FO P w K mg base 1 t.Ca ["thing"] (zQ K):=by
 have sc:=T.xf.sc ["thing"]
 refine T.xf.F.ok sc ln (fun _ _ _ _ H vs Q E hr h=>?_)
 obtain⟨x,rfl,h⟩:=h
 refine⟨_,(au (bQ (PW.pt (pJ (fU (fJ (aV vL (by rfl) T.lD jM (aa (pv 0) (aa (yC (by rfl) T.Qu Nm) ak aj) aj)))) (lg (fU (rH qF qF aq (aV bK (by rfl) T.dG bY (aa (pv 0) ak aj)) (iy (by rfl) T.zO))))))
   (az (aN iT))
   bz)
  (az (aN (uJ (nH wV (aY zr (pv 0) aq (fun _ _=>rfl)) (iy (by rfl) T.Bm) (by with_unfolding_all rfl)) (uy (aV (vC rfl) (by rfl) T.Ik Du (aa (j5 [] ["thing"] (bA (top 24)) rfl (R5 (pv 0)) (fun _ _ _ _ _=>jo) (fun _ _ _ _ _=>(Tp (nH wV (pv 0) (iy (by rfl) T.Bm) (by with_unfolding_all rfl)) (uy (nH wV (pv 0) (iy (by rfl) T.Ku) (by with_unfolding_all rfl)))))) ak fG))))))),?_⟩
 have hl:sizeLine=16777216:=sizeLine_eq
 rcases h with ⟨z,rfl,hz,k⟩ | ⟨Tx,ty,hm,hne,k⟩
 ·refine⟨_,rfl,.str z, "str", "str",true,rfl,rfl,by decide,by decide,_,rfl,dR ?_⟩
  refine⟨_,rfl,.str z,z.length,rfl,⟨by omega,rfl⟩,_,_,rfl,rfl,_,rfl,?_⟩
  cases e:z.cps.toList with
  | nil=>
   have h0:z.length=0:=by rw [<-lQ,e];rfl
   rw [h0]
   refine dR ⟨_,rfl,lG ?_⟩
   have:=k H (aK.refl _)
   unfold nameB at this
   rw [e] at this
   exact this
  | cons c r=>
   have hlen:z.length=r.length+1:=by rw [<-lQ,e];rfl
   refine uF (by omega) ⟨_,_,rfl,rfl,_,rfl,jx (fun h=>?_) (fun h=>?_)⟩
   ·have h8:¬(z.length:Int)<=8:=by simpa using h
    have:=k H (aK.refl _)
    unfold nameB at this
    rw [e] at this
    simp only [show ¬r.length<=7 by omega,decide_false,Bool.false_and] at this
    exact this
   ·have h8:(z.length:Int)<=8:=by simpa using h
    have hc0:Gq z.cps.toList 0=some c:=by rw [e];exact aM (xs:=c:: r) (j:=0) rfl
    refine⟨_,rfl,z,_,c,rfl,rfl,by omega,hc0,_,_,rfl,rfl,_,rfl,?_⟩
    have kk:∀H',aK H H'->Q (.bl (low c && z.cps.toList.all fun d=>low d || Jo d)) H':=fun H' s'=>by
     have:=k H' s'
     unfold nameB at this
     rw [e] at this ⊢
     simp only [show r.length<=7 by omega,decide_true,Bool.true_and] at this
     exact this
    rw [K6]
    refine jx (fun hc=>?_) (fun hc=>?_)
    ·rw [hc,Bool.true_and] at kk
     refine⟨_,rfl,z,rfl,Ma (fun i ys H'=>H'=H/\ys=((z.cps.toList.take i).map fun d=>low d || Jo d).map V.bl) (by simp only [Str.length] at hz;omega) ⟨rfl,by simp⟩ (fun i ys H' ⟨_,e⟩=>by rw [e];simp only [lM,List.length_take];omega) ?_ ?_⟩
     ·rintro i d ys H' hd ⟨rfl,rfl⟩
      refine yes ⟨_,rfl,_,_,rfl,rfl,_,rfl,?_⟩
      have hd':z.cps.toList[i]?=some d:=by simpa using hd
      have next:∀b,b=(low d || Jo d)->(((z.cps.toList.take i).map fun d=>low d || Jo d).map V.bl) ++ [V.bl b]=((z.cps.toList.take (i+1)).map fun d=>low d || Jo d).map V.bl:=fun b hb=>by
       rw [List.take_add_one,hd',hb]
       simp
      rw [K6]
      refine jx (fun hl'=>?_) (fun hl'=>?_)
      ·exact⟨rfl,next true (by rw [hl'];rfl)⟩
      ·have hl2:low d=false:=by simpa using hl'
       refine⟨_,rfl,_,_,rfl,rfl,rfl,next _ ?_⟩
       rw [R8,hl2,Bool.false_or]
     ·rintro ys H' ⟨rfl,rfl⟩ D hD
      refine⟨D,(z.cps.toList.take z.cps.size).map fun d=>low d || Jo d,rfl,bT.of aA,?_⟩
      have hall:((z.cps.toList.take z.cps.size).map fun d=>low d || Jo d).all id=z.cps.toList.all fun d=>low d || Jo d:=by
       rw [List.take_of_length_le (by simp),List.all_map]
       rfl
      rw [hall]
      exact kk _ (aF hD)
    ·have hc':low c=false:=by simpa using hc
     rw [hc',Bool.false_and] at kk
     exact kk H (aK.refl _)
 ·have hb:Gr Tx "str" =false:=by
   simp only [nY,List.mem_cons,List.not_mem_nil,or_false] at hm
   rcases hm with rfl | rfl | rfl | rfl | rfl | rfl | rfl <;> first | decide | exact absurd rfl hne
  exact⟨_,rfl,x,Tx, "str",false,rfl,ty,by decide,hb,_,rfl,lG (lG k)⟩
inductive qJ (K:PySem.W.Frag) (vs:List V) (H:Hp) (Q:VK) (E:XK):Prop where
 | mk:∀(a b:Addr) (xs ys:List V),vs=[.ref a,.ref b]->bT K H a xs->bT K H b ys->1<=xs.length->xs.length<=24->1<=ys.length->ys.length<=16->Q .non H->qJ K vs H Q E
theorem zj (T:Txt w K mg t):FO P w K mg base 1 t.tX ["lanes", "parts"] (qJ K):=by
 have sc:=T.oY.sc ["lanes", "parts"]
 refine T.oY.F.ok sc ln (fun _ _ _ _ H vs Q E hr h=>?_)
 obtain⟨a,b,xs,ys,rfl,h1,h2,c1,c2,c3,c4,k⟩:=h
 refine⟨_,(au (bQ (fU (rH qF qF aq (aV bK (by rfl) T.dG bY (aa (pv 0) ak aj)) (iy (by rfl) T.Eh)))
   (az dH)
   bz)
  (az (bQ (fU (rH qF qF aq (aV bK (by rfl) T.dG bY (aa (pv 1) ak aj)) (iy (by rfl) T.CK)))
   (az dH)
   bz))),?_⟩
 have hl:sizeLine=16777216:=sizeLine_eq
 refine⟨_,rfl,.ref a,xs.length,rfl,.inl ⟨_,h1,rfl⟩,_,_,rfl,rfl,_,rfl,uF (by omega) ⟨_,_,rfl,rfl,_,rfl,?_⟩⟩
 rw [show decide ((xs.length:Int)<=24)=true from decide_eq_true (by omega)]
 refine dR ?_
 refine⟨_,rfl,.ref b,ys.length,rfl,.inl ⟨_,h2,rfl⟩,_,_,rfl,rfl,_,rfl,uF (by omega) ⟨_,_,rfl,rfl,_,rfl,?_⟩⟩
 rw [show decide ((ys.length:Int)<=16)=true from decide_eq_true (by omega)]
 exact dR k
inductive tQ (K:PySem.W.Frag) (vs:List V) (H:Hp) (Q:VK) (E:XK):Prop where
 | mk:∀(z:Str) (d:Addr) (kvs:List (Key×V)),vs=[.str z,.ref d]->H d=some (.dK kvs)->nameB z=true->z.length<=100->bW kvs (Sum.inr z)=none->(∀H',aK H H'->Q .non H')->tQ K vs H Q E
theorem ut (T:Txt w K mg t):FO P w K mg base 2 t.vH ["name", "known"] (tQ K):=by
 have sc:=T.lB.sc ["name", "known"]
 refine T.lB.F.ok sc ln (fun _ _ _ _ H vs Q E hr h=>?_)
 obtain⟨z,d,kvs,rfl,hd,hz,hl,hv,k⟩:=h
 refine⟨_,(au (bQ (fU (fJ (dz (G5 T) T.xf hr (aa (pv 0) ak aj))))
   (az dH)
   bz)
  (az (bQ (kO (wA hr.u1 (pv 0) (pv 1)))
   (az dH)
   bz))),?_⟩
 refine⟨_,rfl,.str z,rfl,.inl ⟨z,rfl,hl,fun H1 s1=>?_⟩⟩
 rw [hz]
 refine⟨_,rfl,dR ?_⟩
 refine⟨_,rfl,_,rfl,d,_,rfl,dZ.k (k:=Sum.inr z) (s1 _ _ hd),?_⟩
 rw [hv]
 exact⟨_,rfl,dR (k _ s1)⟩
inductive uM (K:PySem.W.Frag) (vs:List V) (H:Hp) (Q:VK) (E:XK):Prop where
 | mk:∀(nm:V) (room:Int) (L:Addr) (ws:List Int),vs=[nm,.int room,.ref L]->vf K H L (ws.map V.int)->ws.length<=1000->((∀v∈ws,0<=v/\v <1000000000))->1<=room->(ws.length:Int)<=room->room<=199->(∀H',aK H H'->Q .non H')->uM K vs H Q E
theorem Ed (T:Txt w K mg t):FO P w K mg base 3 t.xG ["name", "room", "first"] (uM K):=by
 have sc:=T.rO.sc ["name", "room", "first"]
 refine T.rO.F.ok sc ln (fun _ _ _ _ H vs Q E hr h=>?_)
 obtain⟨nm,room,L,ws,rfl,hL,hw,hB,c1,c2,c3,k⟩:=h
 refine⟨_,(au (bQ (PW.pt (pJ (fU (fJ (dz (rA T) T.mJ hr (aa (pv 1) ak aj)))) (lg (fU (rH qF qF (aV (wD rfl) (by rfl) T.Iu Dr (aa aq (aa (aV bK (by rfl) T.dG bY (aa (pv 2) ak aj)) ak bf) ao)) (pv 1) (iy (by rfl) T.Fo))))))
   (az dH)
   bz)
  (az (bQ (fU (fJ (aV (vC rfl) (by rfl) T.Ik Du (aa (j5 [] ["name", "room", "first"] (bA (top 57)) rfl (QL (dN (pv 2)) (DY (pv 2))) (fun _ _ _ _ _=>jo) (fun _ _ _ _ _=>(dz (qZ T) T.mF hr (aa (pv 0) ak aj)))) ak fG))))
   (az dH)
   bz))),?_⟩
 have hl:sizeLine=16777216:=sizeLine_eq
 have hlw:(ws.map V.int).length=ws.length:=lM ..
 refine⟨_,rfl,.int room, "int",true,rfl,rfl,by decide,by decide,true,rfl,dR ?_⟩
 refine⟨_,rfl,.ref L,(ws.map V.int).length,rfl,hL.len,_,_,rfl,_,rfl,_,_,rfl,rfl,_,rfl,uF ?_ ⟨_,_,rfl,rfl,_,rfl,?_⟩⟩
 ·split <;> omega
 rw [show decide (room<=199)=true from decide_eq_true c3]
 refine dR ?_
 refine Mu (a:=L) (xs:=ws.map V.int) ?_ hL (fun j ys=>ys=(List.replicate j true).map V.bl) (by rw [lM];omega) rfl (fun j ys e=>by rw [e];simp) (fun j x ys hx e=>?_) (fun ys e D hD=>?_)
 ·exact fun R r=>⟨_,rfl,r⟩
 ·subst e
  rw [List.getElem?_map] at hx
  obtain⟨n,hn,rfl⟩:=Option.map_eq_some_iff.mp hx
  obtain⟨n0,n1⟩:=hB n (List.mem_of_getElem? hn)
  refine yes ⟨_,rfl,.int n,rfl,.inl ⟨n,rfl,rfl,?_⟩⟩
  rw [decide_eq_true n0,decide_eq_true n1,List.replicate_succ']
  simp
 ·subst e
  refine⟨D,_,rfl,bT.of aA,_,rfl,?_⟩
  rw [show((List.replicate (ws.map V.int).length true).all id)=true by simp]
  exact dR (k _ (aF hD))
inductive ug (K:PySem.W.Frag) (t:mW) (vs:List V) (H:Hp) (Q:VK) (E:XK):Prop where
 | mk:∀(i:Nat) (nm:Str) (r d a1 a2 a3:Addr) (ns is os:List V) (kvs:List (Key×V)),vs=[.ref r,.ref d]->H r=some (.tup [.str (d8 i),.str nm,.ref a1,.ref a2,.ref a3])->i<=10->H d=some (.dK kvs)->nameB nm=true->nm.length<=100->bW kvs (Sum.inr nm)=none->vf K H a1 ns->vf K H a2 is->vf K H a3 os->ns.length=cN i->is.length=cI i->os.length=cO i->((∀v∈ns,Val v))->(∀H' p,aK H H'->H p=none->eU K t H' p i (.str nm) ns is os->Q (.ref p) H')->ug K t vs H Q E
theorem Al (T:Txt w K mg t):FO P w K mg base 5 t.uR ["row", "known"] (ug K t):=by
 have sc:=T.qi.sc ["row", "known"]
 refine T.qi.F.ok sc ln (fun _ _ _ _ H vs Q E hr h=>?_)
 obtain⟨i,nm,r,d,a1,a2,a3,ns,is,os,kvs,rfl,hr1,hi,hd,hz,hl,hv,q1,q2,q3,l1,l2,l3,hV,k⟩:=h
 refine⟨_,(au (bQ (fU (fJ (dz (yQ T) T.sI hr (aa (aY dD (pv 0) aq (fun _ _=>rfl)) ak aD))))
   (az dH)
   bz)
  (au (bJ (dz (ut T) T.lB hr (aa (aY dD (pv 0) aq (fun _ _=>rfl)) (aa (pv 1) ak aj) aD)))
  (az (aN (dz (CG T) T.xV hr (aa (aY dD (pv 0) aq (fun _ _=>rfl)) (aa (aY dD (pv 0) aq (fun _ _=>rfl)) (aa (aY dD (pv 0) aq (fun _ _=>rfl)) (aa (aY dD (pv 0) aq (fun _ _=>rfl)) (aa (aY dD (pv 0) aq (fun _ _=>rfl)) ak aD) aD) aD) aD) aD)))))),?_⟩
 refine⟨_,rfl,r,_,0,_,rfl,rfl,gK.of hr1,aM (j:=0) rfl,d8 i,rfl,?_⟩
 rw [row_of]
 refine⟨_,rfl,dR ?_⟩
 refine⟨_,rfl,r,_,1,_,rfl,rfl,gK.of hr1,aM (j:=1) rfl,_,rfl,nm,d,kvs,rfl,hd,hz,hl,hv,fun H1 s1=>?_⟩
 have e1:=gK.of (K:=K) (s1 _ _ hr1)
 exact⟨_,rfl,r,_,0,_,rfl,rfl,e1,aM (j:=0) rfl,_,rfl,r,_,1,_,rfl,rfl,e1,aM (j:=1) rfl,_,rfl,r,_,2,_,rfl,rfl,e1,aM (j:=2) rfl,_,rfl,r,_,3,_,rfl,rfl,e1,aM (j:=3) rfl,_,rfl,r,_,4,_,rfl,rfl,e1,aM (j:=4) rfl,i,.str nm,a1,a2,a3,ns,is,os,rfl,hi,s1.seqA q1,s1.seqA q2,s1.seqA q3,l1,l2,l3,hV,fun H2 p s2 np P=>k _ p (s1.trans s2) (s1.free np) P⟩
inductive wg (K:PySem.W.Frag) (vs:List V) (H:Hp) (Q:VK) (E:XK):Prop where
 | mk:∀(y:Str) (a rd d:Addr) (zs:List Str) (rk kvs:List (Key×V)),vs=[.str y,.ref a,.ref rd,.ref d]->gK K H a (zs.map V.str)->H rd=some (.dK rk)->rd≠d->H d=some (.dK kvs)->zs.Nodup->((∀z∈zs,(bW rk (Sum.inr z)).isSome=true/\bW kvs (Sum.inr z)=none))->kvs.length+zs.length<=1000->(Q .non (upd H d (.dK (kvs ++ zs.map fun l=>((Sum.inr l:Key),V.str y)))))->wg K vs H Q E
theorem uV (T:Txt w K mg t):FO P w K mg base 1 t.xq ["part", "lanes", "rooms", "ends"] (wg K):=by
 have sc:=T.m5.sc ["part", "lanes", "rooms", "ends", "lane"]
 refine T.m5.F.ok sc ln (fun _ _ _ _ H vs Q E hr h=>?_)
 obtain⟨y,a,rd,d,zs,rk,kvs,rfl,hT,hrd,hne,hd,nd,hz,hlen,k⟩:=h
 refine⟨_,(az (eO PassesOwn.never rfl (DY (pv 1)) (gN sc 4)
   (au (bQ (PW.pt (pJ (kO (sV hr.u1 (pv 4) (pv 2))) (lg (kO (wA hr.u1 (pv 4) (pv 3))))))
    (az dH)
    bz)
   (az (gw hr.u1 (pv 3) (pv 4) (pv 0) rfl))))),?_⟩
 have hl:sizeLine=16777216:=sizeLine_eq
 refine⟨_,rfl,a,rfl,⟨_,hT⟩,Pj (K:=K) (a:=a) (xs:=zs.map V.str) (fun j σ H'=>H'=upd H d (.dK (kvs ++ (zs.take j).map fun l=>((Sum.inr l:Key),V.str y)))/\∃v4,σ=[some (.str y),some (.ref a),some (.ref rd),some (.ref d),v4]) ⟨by rw [List.take_zero,List.map_nil,List.append_nil,Ds hd],none,rfl⟩ (fun j σ H' _ ⟨e,_⟩=>by rw [e];exact fH hd hT) ?_ ?_⟩
 ·rintro j x σ H' hx ⟨rfl,v4,rfl⟩
  rw [List.getElem?_map] at hx
  obtain⟨z,hzj,rfl⟩:=Option.map_eq_some_iff.mp hx
  have hj:j <zs.length:=(List.getElem?_eq_some_iff.mp hzj).1
  obtain⟨r1,r2⟩:=hz z (List.mem_of_getElem? hzj)
  obtain⟨rv,hrv⟩:=Option.isSome_iff_exists.mp r1
  have erd:upd H d (.dK (kvs ++ (zs.take j).map fun l=>((Sum.inr l:Key),V.str y))) rd=some (.dK rk):=by rw [aJ hne];exact hrd
  have nin:z∉zs.take j:=fun hm=>by
   obtain⟨i,hi,ei⟩:=List.mem_iff_getElem.mp hm
   rw [List.length_take] at hi
   rw [List.getElem_take] at ei
   have e2:zs[j]=z:=by rw [List.getElem?_eq_getElem hj] at hzj;exact Option.some.inj hzj
   have:=(List.getElem_inj nd).mp (ei.trans e2.symm)
   omega
  have none':bW (kvs ++ (zs.take j).map fun l=>((Sum.inr l:Key),V.str y)) (Sum.inr z)=none:=gm (by
   rw [List.map_append,List.mem_append,not_or]
   refine⟨fun hm=>?_,fun hm=>?_⟩
   ·have:(bW kvs (Sum.inr z)).isSome=true:=by rw [<-pO];obtain⟨p,hp,e⟩:=List.mem_map.mp hm;exact List.any_eq_true.mpr ⟨p,hp,decide_eq_true e⟩
    rw [r2] at this
    cases this
   ·rw [List.map_map] at hm
    obtain⟨b,hb,e⟩:=List.mem_map.mp hm
    cases e
    exact nin hb)
  refine⟨_,rfl,_,rfl,rd,some rv,rfl,(by rw [<-hrv];exact dZ.k (k:=Sum.inr z) erd),_,rfl,dR ?_⟩
  refine⟨_,rfl,_,rfl,d,none,rfl,(by rw [<-none'];exact dZ.k (k:=Sum.inr z) aA),_,rfl,dR ?_⟩
  refine⟨_,rfl,_,rfl,_,rfl,d,_,rfl,pA.k (k:=Sum.inr z) aA (by rw [lP,lM,List.length_take];omega),?_,_,rfl⟩
  rw [tD,jt _ none',List.append_assoc,List.take_succ,hzj,Option.toList_some,List.map_append]
  rfl
 ·rintro σ H' ⟨rfl,v4,rfl⟩
  rw [lM,List.take_length]
  exact k
inductive vQ (K:PySem.W.Frag) (vs:List V) (H:Hp) (Q:VK) (E:XK):Prop where
 | mk:∀(r g d:Addr) (rk gk tk:List (Key×V)),vs=[.ref r,.ref g,.ref d]->H r=some (.dK rk)->H g=some (.dK gk)->H d=some (.dK tk)->r≠g->r≠d->((∀q∈rk,(bW gk q.1).isSome=true/\(bW tk q.1).isSome=true))->Q .non H->vQ K vs H Q E
theorem Cv (T:Txt w K mg t):FO P w K mg base 1 t.xR ["rooms", "givers", "takers"] (vQ K):=by
 have sc:=T.rG.sc ["rooms", "givers", "takers", "lane"]
 refine T.rG.F.ok sc ln (fun _ _ _ _ H vs Q E hr h=>?_)
 obtain⟨r,g,d,rk,gk,tk,rfl,h1,h2,h3,n1,n2,hA,k⟩:=h
 refine⟨_,(az (pH (H0:=H) rfl (eO PassesOwn.never rfl (pZ (pv 0)) (gN sc 3)
   (az (bQ (PW.pt (pJ (kO (sV hr.u1 (pv 3) (pv 1))) (lg (kO (sV hr.u1 (pv 3) (pv 2))))))
    (az dH)
    bz))))),?_⟩
 refine⟨_,rfl,r,_,rfl,h1,fun o=>pF (fun j σ H'=>H'=upd H r (.frz o (.dK rk))/\∃v3,σ=[some (.ref r),some (.ref g),some (.ref d),v3]) ⟨rfl,none,rfl⟩ (fun j σ H' _ ⟨e,_⟩=>by rw [e];exact aA) ?_ ?_⟩
 ·rintro j kk w σ H' hj ⟨rfl,v3,rfl⟩
  obtain⟨a1,a2⟩:=hA _ (List.mem_of_getElem? hj)
  obtain⟨u1,b1⟩:=Option.isSome_iff_exists.mp a1
  obtain⟨u2,b2⟩:=Option.isSome_iff_exists.mp a2
  have e2:upd H r (.frz o (.dK rk)) g=some (.dK gk):=by rw [aJ (Ne.symm n1)];exact h2
  have e3:upd H r (.frz o (.dK rk)) d=some (.dK tk):=by rw [aJ (Ne.symm n2)];exact h3
  exact⟨_,rfl,_,rfl,g,some u1,rfl,(by rw [<-b1];exact dZ.k e2),_,rfl,dR ⟨_,rfl,_,rfl,d,some u2,rfl,(by rw [<-b2];exact dZ.k e3),_,rfl,dR ⟨rfl,_,rfl⟩⟩⟩
 ·rintro σ H' ⟨rfl,v3,rfl⟩
  refine⟨_,⟨r,o,_,aA,?_,rfl⟩,?_⟩
  ·intro o' u' z
   rw [show H r=_ from h1] at z
   cases z
  ·rw [tD,Ds h1]
   exact k
noncomputable def Nx (H:Hp) (J:Addr):List (Key×V):=match H J with
 | some (.dK jk)=>jk
 | _=>[]
theorem Jm {H:Hp} {J:Addr} {jk:List (Key×V)} (h:H J=some (.dK jk)):Nx H J=jk:=by
 unfold Nx
 rw [h]
theorem LC {f:PD->List Str} {ps:List PD} {j:Nat} {k:Key} {v:V} (h:(cM f ps)[j]?=some (k,v)):∃p∈ps,∃l∈f p,k=Sum.inr l/\v=.str p.name:=by
 have:=List.mem_of_getElem? h
 unfold cM at this
 obtain⟨p,hp,hm⟩:=List.mem_flatMap.mp this
 obtain⟨l,hl,e⟩:=List.mem_map.mp hm
 cases e
 exact⟨p,hp,l,hl,rfl,rfl⟩
noncomputable def Oc (ps:List PD) (jk:List (Key×V)) (j:Nat):Prop:=∀i k v,i <j->(cM (·.outs) ps)[i]?=some (k,v)->∀a∈ps,∀b∈ps,∀l,k=Sum.inr l->l∈a.outs->l∈b.ins->fY jk a.name=fY jk b.name
theorem Oc.all {ps:List PD} {jk:List (Key×V)} (h:Oc ps jk (cM (·.outs) ps).length):∀a∈ps,∀b∈ps,∀l,l∈a.outs->l∈b.ins->fY jk a.name=fY jk b.name:=fun a ha b hb l la lb=>by
 have hm:((Sum.inr l:Key),V.str a.name)∈cM (·.outs) ps:=List.mem_flatMap.mpr ⟨a,ha,List.mem_map.mpr ⟨l,la,rfl⟩⟩
 obtain⟨i,hi,ei⟩:=List.mem_iff_getElem.mp hm
 exact h i _ _ hi (by rw [List.getElem?_eq_getElem hi,ei]) a ha b hb l rfl la lb
inductive rU (K:PySem.W.Frag) (vs:List V) (H:Hp) (Q:VK) (E:XK):Prop where
 | mk:∀(p0:PD) (g d:Addr) (ps:List PD),vs=[.str p0.name,.ref g,.ref d]->p0∈ps->ps.length<=16->H g=some (.dK (cM (·.outs) ps))->H d=some (.dK (cM (·.ins) ps))->g≠d->(ps.flatMap (·.outs)).Nodup->(ps.flatMap (·.ins)).Nodup->(ps.flatMap (·.outs)).Perm (ps.flatMap (·.ins))->((∃y,∀q∈ps,∃x∈q.ins ++ q.outs,Drawn.iY ps x y))->(∀H' J jk,aK H H'->H' J=some (.dK jk)->(∀p∈ps,fY jk p.name=true)->Q (.ref J) H')->rU K vs H Q E
theorem zB (T:Txt w K mg t):FO P w K mg base 1 t.tY ["part", "givers", "takers"] (rU K):=by
 have sc:=T.o9.sc ["part", "givers", "takers", "joined", "grown", "lane"]
 refine T.o9.F.ok sc ln (fun _ _ _ _ H vs Q E hr h=>?_)
 obtain⟨p0,g,d,ps,rfl,hp0,hps,h1,h2,n1,no,ni,pm,hang,k⟩:=h
 refine⟨_,(au (sN sc 3 (PK (KN (pv 0) iT Qe) rfl rfl (by simp) (by decide)))
  (au (sN sc 4 iT)
  (au (vm PassesOwn.never (fJ (pv 4))
   (au (sN sc 4 iT)
   (az (pH (H0:=H) rfl (eO PassesOwn.never rfl (pZ (pv 1)) (gN sc 5)
    (az (fX (bQ (bC Jy (Dp (wA hr.u1 (cW hr.u1 (pv 1) (pv 5) (fun _ _=>rfl)) (pv 3))) (Dp (wA hr.u1 (cW hr.u1 (pv 2) (pv 5) (fun _ _=>rfl)) (pv 3))) (bL _))
     (au (gw hr.u1 (pv 3) (cW hr.u1 (pv 1) (pv 5) (fun _ _=>rfl)) iT rfl)
     (au (gw hr.u1 (pv 3) (cW hr.u1 (pv 2) (pv 5) (fun _ _=>rfl)) iT rfl)
     (az (sN sc 4 iT))))
     bz))))))))
  (az (aN (pv 3)))))),?_⟩
 have hl:sizeLine=16777216:=sizeLine_eq
 refine fun J nJ=>⟨_,rfl,aA,[((Sum.inr p0.name:Key),V.bl true)],rfl,by show 1<=15;decide,?_⟩
 rw [tD]
 have s0:aK H (upd H J (.dK (qN [] [((Sum.inr p0.name:Key),V.bl true)]))):=aF nJ
 have e0:(upd H J (.dK (qN [] [((Sum.inr p0.name:Key),V.bl true)]))) J=some (.dK [((Sum.inr p0.name:Key),V.bl true)]):=aA
 generalize upd H J (.dK (qN [] [((Sum.inr p0.name:Key),V.bl true)]))=H0 at s0 e0 ⊢
 have ngJ:J≠g:=Ne.symm (aC h1 nJ)
 have ndJ:J≠d:=Ne.symm (aC h2 nJ)
 have melt:∀{H':Hp} {o:Obj},j4 g H H'->H' g=some (.frz o (.dK (cM (·.outs) ps)))->aK H (upd H' g (.dK (cM (·.outs) ps))):=fun hb hg b u e=>by
  by_cases h:b=g
  ·subst h;rw [aA];rw [h1] at e;exact e
  ·rw [aJ h];exact hb b u h e
 have m0:lZ ps [((Sum.inr p0.name:Key),V.bl true)]<=16:=Nat.le_trans (List.length_filter_le _ _) hps
 refine vI (fun σ H'=>aK H H'/\∃b v5 jk,σ=[some (.str p0.name),some (.ref g),some (.ref d),some (.ref J),some (.bl b),v5]/\H' J=some (.dK jk)/\fY jk p0.name=true/\jk.length+2 * lZ ps jk<=40/\(b=false->Oc ps jk (cM (·.outs) ps).length))
  (fun σ H'=>match σ with | [_,_,_,_,some (.bl b),_]=>(if b then 1 else 0)+2 * lZ ps (Nx H' J) | _=>0) ⟨s0,true,none,_,rfl,e0,by simp [fY,bW],by rw [List.length_singleton];omega,by intro z;cases z⟩ ?_ ?_
 ·rintro σ H1 ⟨s1,b,v5,jk,rfl,hJ,hp,hlen,hev⟩
  cases b with
  | false=>exact⟨_,rfl,_,rfl,dR ⟨_,rfl,k _ J jk s1 hJ (R0 no ni pm hang (hev rfl).all hp0 hp)⟩⟩
  | true=>
   refine⟨_,rfl,_,rfl,lG ?_⟩
   refine⟨_,rfl,g,_,rfl,s1 _ _ h1,fun o=>?_⟩
   have gD:∀{H':Hp},j4 g H H'->H' d=some (.dK (cM (·.ins) ps)):=fun hb=>hb d _ (Ne.symm n1) h2
   refine pF (fun j σ H'=>j4 g H H'/\H' g=some (.frz o (.dK (cM (·.outs) ps)))/\∃b v5 jk',σ=[some (.str p0.name),some (.ref g),some (.ref d),some (.ref J),some (.bl b),v5]/\H' J=some (.dK jk')/\fY jk' p0.name=true/\jk'.length+2 * lZ ps jk'<=40/\((b=false/\jk'=jk/\Oc ps jk j)∨(b=true/\lZ ps jk' <lZ ps jk)))
    ⟨fun b u hn e=>by rw [aJ hn];exact s1 b u e,aA,false,v5,jk,rfl,by rw [aJ ngJ];exact hJ,hp,hlen,.inl ⟨rfl,rfl,fun i _ _ hi=>absurd hi (by omega)⟩⟩ (fun j σ H' _ h=>h.2.1) ?_ ?_
   ·rintro j kk w σ H' hj ⟨hb,hg,b,v5,jk',rfl,hJ',hp',hlen',hv⟩
    obtain⟨a,ha,l,la,rfl,rfl⟩:=LC hj
    obtain⟨b',hb',lb⟩:=List.mem_flatMap.mp (pm.mem_iff.mp (List.mem_flatMap.mpr ⟨a,ha,la⟩))
    have ga:dZ H' g (.str l) (some (.str a.name)):=.inl ⟨_,Sum.inr l,.inr ⟨o,hg⟩,rfl,(iK no ha la).symm⟩
    have gb:dZ H' d (.str l) (some (.str b'.name)):=by rw [<-iK ni hb' lb];exact dZ.k (k:=Sum.inr l) (gD hb)
    have ja:dZ H' J (.str a.name) (bW jk' (Sum.inr a.name)):=dZ.k (k:=Sum.inr a.name) hJ'
    have jb:dZ H' J (.str b'.name) (bW jk' (Sum.inr b'.name)):=dZ.k (k:=Sum.inr b'.name) hJ'
    have nm:∀a2∈ps,∀b2∈ps,l∈a2.outs->l∈b2.ins->a2.name=a.name/\b2.name=b'.name:=fun a2 ha2 b2 hb2 q1 q2=>by
     have e1:=iK no ha2 q1
     rw [iK no ha la] at e1
     have e2:=iK ni hb2 q2
     rw [iK ni hb' lb] at e2
     simp only [Option.some.injEq,V.str.injEq] at e1 e2
     exact⟨e1.symm,e2.symm⟩
    refine⟨fun σ H''=>j4 g H H''/\H'' g=some (.frz o (.dK (cM (·.outs) ps)))/\∃b jk'',σ=[some (.str p0.name),some (.ref g),some (.ref d),some (.ref J),some (.bl b),some (.str l)]/\H'' J=some (.dK jk'')/\fY jk'' p0.name=true/\jk''.length+2 * lZ ps jk''<=40/\((b=false/\jk''=jk/\Oc ps jk (j+1))∨(b=true/\lZ ps jk'' <lZ ps jk)),?_,?_⟩
    ·refine⟨_,rfl,_,rfl,g,_,rfl,ga,_,rfl,J,_,rfl,ja,?_⟩
     refine⟨_,rfl,_,rfl,d,_,rfl,gb,_,rfl,J,_,rfl,jb,rfl,_,rfl,?_⟩
     change if (!decide (V.bl (fY jk' a.name)=V.bl (fY jk' b'.name)))=true then _ else _
     refine jx (fun hne=>?_) (fun heq=>?_)
     ·have hne':fY jk' a.name≠fY jk' b'.name:=fun z=>by rw [z] at hne;simp at hne
      refine⟨_,rfl,_,rfl,_,rfl,g,_,rfl,ga,J,_,rfl,pA.k (k:=Sum.inr a.name) hJ' (by omega),?_⟩
      have b2:j4 g H (upd H' J (.dK (putK jk' (Sum.inr a.name) (.bl true)))):=fun x u hn e=>by rw [aJ (aC e nJ)];exact hb x u hn e
      have g2:(upd H' J (.dK (putK jk' (Sum.inr a.name) (.bl true)))) g=some (.frz o (.dK (cM (·.outs) ps))):=by rw [aJ (Ne.symm ngJ)];exact hg
      have gb2:dZ (upd H' J (.dK (putK jk' (Sum.inr a.name) (.bl true)))) d (.str l) (some (.str b'.name)):=by rw [<-iK ni hb' lb];exact dZ.k (k:=Sum.inr l) (gD b2)
      have len1:=j7 jk' (Sum.inr a.name:Key) (.bl true)
      have len2:=j7 (putK jk' (Sum.inr a.name) (.bl true)) (Sum.inr b'.name:Key) (.bl true)
      refine⟨_,rfl,_,rfl,_,rfl,d,_,rfl,gb2,J,_,rfl,pA.k (k:=Sum.inr b'.name) aA (by omega),?_⟩
      rw [tD]
      have has2:∀x,fY (putK (putK jk' (Sum.inr a.name) (.bl true)) (Sum.inr b'.name) (.bl true)) x=(decide (x=b'.name) || (decide (x=a.name) || fY jk' x)):=fun x=>by rw [Fb,Fb]
      have mono:∀x,fY jk' x=true->fY (putK (putK jk' (Sum.inr a.name) (.bl true)) (Sum.inr b'.name) (.bl true)) x=true:=fun x hx=>by rw [has2,hx];simp
      have lt:lZ ps (putK (putK jk' (Sum.inr a.name) (.bl true)) (Sum.inr b'.name) (.bl true)) <lZ ps jk':=by
       cases hA:fY jk' a.name
       ·exact Gx mono ha hA (by rw [has2];simp)
       ·cases hB:fY jk' b'.name
        ·exact Gx mono hb' hB (by rw [has2];simp)
        ·rw [hA,hB] at hne';exact absurd rfl hne'
      refine⟨fun x u hn e=>by rw [aJ (aC e nJ)];exact hb x u hn e,by rw [aJ (Ne.symm ngJ)];exact hg,true,_,rfl,aA,mono _ hp',by omega,.inr ⟨rfl,?_⟩⟩
      rcases hv with ⟨_,rfl,_⟩ | ⟨_,hv⟩
      ·exact lt
      ·omega
     ·have heq':fY jk' a.name=fY jk' b'.name:=by
       cases hA:fY jk' a.name <;> cases hB:fY jk' b'.name <;> rw [hA,hB] at heq <;> simp_all
      refine⟨hb,hg,b,jk',rfl,hJ',hp',hlen',?_⟩
      rcases hv with ⟨rfl,rfl,hE⟩ | hv
      ·refine .inl ⟨rfl,rfl,fun i k2 v2 hi e2 a2 ha2 b2 hb2 l2 ek q1 q2=>?_⟩
       rcases Nat.lt_or_ge i j with h | h
       ·exact hE i k2 v2 h e2 a2 ha2 b2 hb2 l2 ek q1 q2
       ·have:i=j:=by omega
        subst this
        rw [hj] at e2
        cases e2
        cases ek
        obtain⟨x1,x2⟩:=nm a2 ha2 b2 hb2 q1 q2
        rw [x1,x2]
        exact heq'
      ·exact .inr hv
    ·rintro σ H'' ⟨hb,hg,b,jk'',rfl,r⟩
     exact⟨hb,hg,b,_,jk'',rfl,r⟩
   ·rintro σ H' ⟨hb,hg,b,v5',jk',rfl,hJ',hp',hlen',hv⟩
    refine⟨_,⟨g,o,_,hg,(fun o' u' z=>by rw [show H g=_ from h1] at z;cases z),rfl⟩,?_⟩
    have eJ:(upd H' g (.dK (cM (·.outs) ps))) J=some (.dK jk'):=by rw [aJ ngJ];exact hJ'
    refine⟨⟨melt hb hg,b,v5',jk',rfl,eJ,hp',hlen',fun z=>?_⟩,?_⟩
    ·rcases hv with ⟨_,rfl,hE⟩ | ⟨h,_⟩
     ·exact hE
     ·rw [h] at z;cases z
    ·show(if b=true then 1 else 0)+2 * lZ ps (Nx _ J) <(if true=true then 1 else 0)+2 * lZ ps (Nx _ J)
     rw [Jm eJ,Jm hJ]
     rcases hv with ⟨rfl,rfl,_⟩ | ⟨rfl,h⟩
     ·simp
     ·simp;omega
 ·intro σ H' Q' Q'' hm hq
  obtain⟨v,e,b,e2,q⟩:=hq
  exact⟨v,e,b,e2,hm _ _ q⟩
inductive rY (K:PySem.W.Frag) (vs:List V) (H:Hp) (Q:VK) (E:XK):Prop where
 | mk:∀(L g d:Addr) (ps:List PD),vs=[.ref L,.ref g,.ref d]->(bT K H L (ps.map fun p=>V.str p.name))->1<=ps.length->ps.length<=16->H g=some (.dK (cM (·.outs) ps))->H d=some (.dK (cM (·.ins) ps))->g≠d->(ps.flatMap (·.outs)).Nodup->(ps.flatMap (·.ins)).Nodup->(ps.flatMap (·.outs)).Perm (ps.flatMap (·.ins))->((∃y,∀q∈ps,∃x∈q.ins ++ q.outs,Drawn.iY ps x y))->(∀H',aK H H'->Q .non H')->rY K vs H Q E
theorem z8 (T:Txt w K mg t):FO P w K mg base 2 t.tW ["names", "givers", "takers"] (rY K):=by
 have sc:=T.oV.sc ["names", "givers", "takers", "joined", "name"]
 refine T.oV.F.ok sc ln (fun _ _ _ _ H vs Q E hr h=>?_)
 obtain⟨L,g,d,ps,rfl,hL,hp1,hps,h1,h2,n1,no,ni,pm,hang,k⟩:=h
 refine⟨_,(au (sN sc 3 (dz (zB T) T.o9 hr (aa (aY aW (pv 0) aq (fun _ _=>rfl)) (aa (pv 1) (aa (pv 2) ak aj) aj) aD)))
  (az (eO PassesOwn.never rfl (dN (pv 0)) (gN sc 4)
   (az (bQ (kO (sV hr.u1 (pv 4) (pv 3)))
    (az dH)
    bz))))),?_⟩
 obtain⟨p0,pr,rfl⟩:∃p0 pr,ps=p0:: pr:=by
  cases ps with
  | nil=>simp at hp1
  | cons a r=>exact⟨a,r,rfl⟩
 refine⟨_,rfl,L,_,0,_,rfl,rfl,hL,aM (j:=0) rfl,_,rfl,_,rfl,p0,g,d,_,rfl,List.mem_cons_self,hps,h1,h2,n1,no,ni,pm,hang,fun H1 J jk s1 eJ hA=>?_⟩
 refine⟨_,rfl,L,rfl,⟨_,s1.seq hL⟩,fu (K:=K) (a:=L) (xs:=(p0:: pr).map fun p=>V.str p.name) (fun j σ H'=>H'=H1/\∃v4,σ=[some (.ref L),some (.ref g),some (.ref d),some (.ref J),v4]) ⟨rfl,none,rfl⟩ (fun j σ H' _ ⟨e,_⟩=>by rw [e];exact s1.seq hL) ?_ ?_⟩
 ·rintro j x σ H' hx ⟨rfl,v4,rfl⟩
  rw [List.getElem?_map] at hx
  obtain⟨p,hp,rfl⟩:=Option.map_eq_some_iff.mp hx
  obtain⟨u,hu⟩:=Option.isSome_iff_exists.mp (hA p (List.mem_of_getElem? hp))
  exact⟨_,rfl,_,rfl,J,some u,rfl,(by rw [<-hu];exact dZ.k (k:=Sum.inr p.name) eJ),_,rfl,dR ⟨rfl,_,rfl⟩⟩
 ·rintro σ H' ⟨rfl,v4,rfl⟩
  exact k _ s1
inductive nZ (K:PySem.W.Frag) (t:mW) (vs:List V) (H:Hp) (Q:VK) (E:XK):Prop where
 | mk:∀(n:Addr) (ls:List aH) (ps:List PD),vs=[.ref n]->mY K t H n ls ps->(∀l,H l=none->Q (.ref l) (upd H l (.lst (ls.map fun x=>V.str x.name))))->nZ K t vs H Q E
theorem oG (T:Txt w K mg t):FO P w K mg base 1 t.jD ["self"] (nZ K t):=by
 have sc:=T.iI.sc ["self"]
 refine T.iI.F.ok sc ln (fun _ _ _ _ H vs Q E hr h=>?_)
 obtain⟨n,ls,ps,rfl,N,k⟩:=h
 refine⟨_,(az (aN (eY (mL rfl) (by rfl) T.uD qx (aa (bD (pv 0) rfl) ak bx)))),?_⟩
 obtain⟨dx,fs,R,F,Pd,G,Tk,FL,PL,W⟩:=id N
 refine⟨_,rfl,n,_,dx,fs,_,rfl,W.obj,T.bw.c,T.bw.na.1,W.fl.has ("rooms",.ref R) (by simp),R,_,rfl,.inl W.rooms,fun l hl=>?_⟩
 unfold d9
 rw [List.map_map]
 exact k l hl
inductive nQ (K:PySem.W.Frag) (t:mW) (vs:List V) (H:Hp) (Q:VK) (E:XK):Prop where
 | mk:∀(n:Addr) (ls:List aH) (ps:List PD),vs=[.ref n]->mY K t H n ls ps->(∀l,H l=none->Q (.ref l) (upd H l (.lst (ps.map fun x=>V.str x.name))))->nQ K t vs H Q E
theorem jq (T:Txt w K mg t):FO P w K mg base 1 t.jF ["self"] (nQ K t):=by
 have sc:=T.fP.sc ["self"]
 refine T.fP.F.ok sc ln (fun _ _ _ _ H vs Q E hr h=>?_)
 obtain⟨n,ls,ps,rfl,N,k⟩:=h
 refine⟨_,(az (aN (eY (mL rfl) (by rfl) T.uD qx (aa (bD (pv 0) rfl) ak bx)))),?_⟩
 obtain⟨dx,fs,R,F,Pd,G,Tk,FL,PL,W⟩:=id N
 refine⟨_,rfl,n,_,dx,fs,_,rfl,W.obj,T.bw.c,T.bw.na.2.2.1,W.fl.has ("parts",.ref Pd) (by simp),Pd,_,rfl,.inl W.parts,fun l hl=>?_⟩
 unfold dY
 rw [List.map_map]
 have e:ps.map (fun x=>V.str x.name)=PL.map (fun q=>V.str q.1.name):=by rw [<-W.pls,List.map_map];rfl
 rw [e] at k
 exact k l hl
theorem PJ (T:Txt w K mg t) (i:Nat):MethAt P w K mg base Aw 1 (cls t i) "kind" (iB i):=match i with
 | 0=>⟨_,_,_,T.ir.c,(T.oH.me T.ir.me.2.1),T.oH.b,Dm T⟩
 | 1=>⟨_,_,_,T.gY.c,(T.mZ.me T.gY.me.2.1),T.mZ.b,CW T⟩
 | 2=>⟨_,_,_,T.gP.c,(T.nC.me T.gP.me.2.1),T.nC.b,CP T⟩
 | 3=>⟨_,_,_,T.gO.c,(T.m8.me T.gO.me.2.1),T.m8.b,DR T⟩
 | 4=>⟨_,_,_,T.gZ.c,(T.oE.me T.gZ.me.2.1),T.oE.b,Ea T⟩
 | 5=>⟨_,_,_,T.ig.c,(T.m6.me T.ig.me.2.1),T.m6.b,Cy T⟩
 | 6=>⟨_,_,_,T.j6.c,(T.ql.me T.j6.me.2.1),T.ql.b,Fx T⟩
 | 7=>⟨_,_,_,T.il.c,(T.m7.me T.il.me.2.1),T.m7.b,Ef T⟩
 | 8=>⟨_,_,_,T.fc.c,(T.lq.me T.fc.me.2.1),T.lq.b,Bb T⟩
 | 9=>⟨_,_,_,T.dU.c,(T.jV.me T.dU.me.2.1),T.jV.b,zy T⟩
 | n+10=>⟨_,_,_,T.fB.c,(T.lO.me T.fB.me.2.1),T.lO.b,Am T⟩
inductive kh (K:PySem.W.Frag) (t:mW) (vs:List V) (H:Hp) (Q:VK) (E:XK):Prop where
 | mk:∀(n:Addr) (ls:List aH) (ps:List PD) (x:Str),vs=[.ref n,.str x]->mY K t H n ls ps->(∀p,H p=none->Q (.ref p) (upd H p (.lst (jY ps x))))->kh K t vs H Q E
theorem qQ (T:Txt w K mg t):FO P w K mg base 2 t.iR ["self", "kind"] (kh K t):=by
 have sc:=T.iQ.sc ["self", "kind"]
 refine T.iQ.F.ok sc ln (fun _ _ _ _ H vs Q E hr h=>?_)
 obtain⟨n,ls,ps,x,rfl,N,k⟩:=h
 refine⟨_,(az (aN (Py (H0:=H) rfl (j5 [0,1] ["self", "kind"] (bA (inClass (top 63) 5)) rfl (pZ (bD (pv 0) rfl)) (fun _ _ _ _ _=>(RC (bC iM (HN (P:=P) (w:=w) (K:=K) (mg:=mg) (base:=base) (CX:=Aw) (k:=1) (E:=E0) rfl rfl rfl rfl rfl (cW hr.u1 (CT (K:=K) rfl (pv 1) rfl) (pv 0) (fun _ _=>rfl)) (hr.mono (by decide)) gQ) (pv 2) (bL _)))) (fun _ _ _ _ _=>(pv 0)))))),?_⟩
 obtain⟨dx,fs,R,F,Pd,G,Tk,FL,PL,W⟩:=id N
 have hz:sizeLine=16777216:=sizeLine_eq
 have hp:=W.fit.p16
 have h5:=W.parts
 have lpl:PL.length=ps.length:=by rw [<-W.pls,lM]
 refine⟨_,rfl,n,_,dx,fs,_,rfl,W.obj,T.bw.c,T.bw.na.2.2.1,W.fl.has ("parts",.ref Pd) (by simp),Pd,_,rfl,h5,fun o=>?_⟩
 refine JS (fun j ys H'=>H'=upd H Pd (.frz o (.dK (dY PL)))/\ys=jY ((PL.take j).map (·.1)) x) (by unfold dY;rw [lM];omega) ⟨rfl,by simp [jY]⟩ ?_ ?_ ?_ ?_
 ·rintro j ys H' ⟨_,rfl⟩
  have:=Gj ((PL.take j).map (·.1)) x
  rw [lM,List.length_take] at this
  omega
 ·rintro j ys H' _ ⟨rfl,_⟩
  exact aA
 ·rintro j kk v ys H' hj ⟨rfl,rfl⟩
  unfold dY at hj
  rw [List.getElem?_map] at hj
  obtain⟨q,hq,e⟩:=Option.map_eq_some_iff.mp hj
  cases e
  have hm:=List.mem_of_getElem? hq
  obtain⟨dxp,tn,ti,to,p1,p2,p3,p4⟩:=((W.pats q hm).chill (v:=.frz o (.dK (dY PL))) h5).ex
  refine⟨_,rfl,n,_,dx,fs,_,rfl,jj h5 W.obj (by intro _ z;cases z),T.bw.c,T.bw.na.2.2.1,W.fl.has ("parts",.ref Pd) (by simp),_,rfl,Pd,_,rfl,(by rw [<-W.partV hm];exact .inl ⟨_,Sum.inr q.1.name,.inr ⟨o,aA⟩,rfl,rfl⟩),?_⟩
  refine⟨q.2,cls t q.1.kind,dxp,_,iB q.1.kind,rfl,p1,sJ _ _ _ _ (by decide +kernel) (by decide +kernel) (by decide +kernel) (by decide +kernel),PJ T q.1.kind,_,rfl,_,rfl,rfl,_,rfl,?_⟩
  rw [List.take_succ,hq,Option.toList_some,List.map_append,List.map_singleton,JQ]
  refine jx (fun e=>?_) (fun e=>?_)
  ·have e':d8 q.1.kind=x:=by simpa using e
   rw [if_pos e']
   exact⟨_,rfl,rfl,rfl⟩
  ·have e':¬d8 q.1.kind=x:=by simpa using e
   rw [if_neg e']
   exact⟨rfl,rfl⟩
 ·rintro ys H' ⟨rfl,rfl⟩ D hD
  refine⟨_,⟨Pd,o,dY PL,?_,?_,rfl⟩,?_⟩
  ·rw [aJ (by rintro rfl;rw [aA] at hD;cases hD)]
   exact aA
  ·intro o' u z
   rw [show H Pd=_ from h5] at z
   cases z
  ·rw [Ko h5 hD]
   have:=k D (HS hD)
   rw [show(dY PL).length=PL.length by unfold dY;rw [lM],List.take_length,W.pls]
   exact this
inductive wu (K:PySem.W.Frag) (t:mW) (vs:List V) (H:Hp) (Q:VK) (E:XK):Prop where
 | mk:∀(n:Addr) (ls:List aH) (ps:List PD),vs=[.ref n]->mY K t H n ls ps->(∀p,H p=none->Q (.ref p) (upd H p (.lst (jY ps "give"))))->wu K t vs H Q E
theorem uQ (T:Txt w K mg t):FO P w K mg base 3 t.rn ["self"] (wu K t):=by
 have sc:=T.oA.sc ["self"]
 refine T.oA.F.ok sc ln (fun _ _ _ _ H vs Q E hr h=>?_)
 obtain⟨n,ls,ps,rfl,N,k⟩:=h
 refine⟨_,(az (aN (HW (pv 0) T.bw T.bw.me.2.2.2.1 (qQ T) T.iQ hr (aa bN ak ao)))),?_⟩
 obtain⟨dx,fs,R,F,Pd,G,Tk,FL,PL,W⟩:=id N
 exact⟨_,rfl,n,dx,fs,rfl,W.obj,W.fl.no _ (by decide +kernel),n,ls,ps,_,rfl,N,k⟩
inductive jz (K:PySem.W.Frag) (t:mW) (vs:List V) (H:Hp) (Q:VK) (E:XK):Prop where
 | mk:∀(n:Addr) (ls:List aH) (ps:List PD) (x:Str),vs=[.ref n,.str x]->mY K t H n ls ps->(((x∈ls.map (·.name)/\∀H',aK H H'->Q .non H')∨False))->jz K t vs H Q E
theorem qG (T:Txt w K mg t):FO P w K mg base 2 t.ik ["self", "name"] (jz K t):=by
 have sc:=T.ie.sc ["self", "name"]
 refine T.ie.F.ok sc ln (fun _ _ _ _ H vs Q E hr h=>?_)
 obtain⟨n,ls,ps,x,rfl,N,h⟩:=h
 refine⟨_,(az (bQ (bC qt (pv 1) (RG (pv 0) T.bw T.bw.me.2.1 (oG T) T.iI hr) (by with_unfolding_all rfl))
   (az dH)
   bz)),?_⟩
 obtain⟨dx,fs,R,F,Pd,G,Tk,FL,PL,W⟩:=id N
 refine⟨_,rfl,_,rfl,n,dx,fs,rfl,W.obj,W.fl.no _ (by decide +kernel),n,ls,ps,rfl,N,fun l hl=>?_⟩
 have s1:=aF (o:=.lst (ls.map fun x=>V.str x.name)) hl
 refine⟨l,_,rfl,.inl (bT.of aA),rfl,by simp [rW],_,rfl,?_⟩
 rw [Gm (f:=fun x:aH=>x.name)]
 rcases h with ⟨hx,k⟩ | h
 ·rw [decide_eq_true hx]
  exact dR (k _ s1)
 ·exact h.elim
inductive qC (K:PySem.W.Frag) (t:mW) (vs:List V) (H:Hp) (Q:VK) (E:XK):Prop where
 | mk:∀(n:Addr) (ls:List aH) (ps:List PD) (x:Str),vs=[.ref n,.str x]->mY K t H n ls ps->(((∃l∈ls,l.name=x/\∀H' p,aK H H'->H p=none->H' p=some (.lst (l.first.map V.int))->Q (.ref p) H')∨False))->qC K t vs H Q E
theorem yp (T:Txt w K mg t):FO P w K mg base 3 t.mK ["self", "name"] (qC K t):=by
 have sc:=T.lY.sc ["self", "name"]
 refine T.lY.F.ok sc ln (fun _ _ _ _ H vs Q E hr h=>?_)
 obtain⟨n,ls,ps,x,rfl,N,h⟩:=h
 refine⟨_,(au (bJ (HW (pv 0) T.bw T.bw.me.2.2.2.2.2.1 (qG T) T.ie hr (aa (pv 1) ak aj)))
  (az (aN (eY u0 (by rfl) T.uD qx (aa (cW hr.u1 (bD (pv 0) rfl) (pv 1) (fun _ _=>rfl)) ak aD))))),?_⟩
 obtain⟨dx,fs,R,F,Pd,G,Tk,FL,PL,W⟩:=id N
 refine⟨_,rfl,n,dx,fs,rfl,W.obj,W.fl.no _ (by decide +kernel),_,rfl,n,ls,ps,x,rfl,N,?_⟩
 rcases h with ⟨l,hl,rfl,k⟩ | h
 ·refine .inl ⟨List.mem_map.mpr ⟨l,hl,rfl⟩,fun H1 s1=>?_⟩
  have W1:=W.same s1
  obtain⟨q,hq,eq⟩:∃q∈FL,q.1=l:=by
   rw [<-W.fls] at hl
   obtain⟨q,hq,e⟩:=List.mem_map.mp hl
   exact⟨q,hq,e⟩
  subst eq
  have hv:=W1.firstV hq
  refine⟨_,rfl,n,_,dx,fs,_,rfl,W1.obj,T.bw.c,T.bw.na.2.1,W1.fl.has ("firsts",.ref F) (by simp),_,rfl,F,_,rfl,(by rw [<-hv];exact dZ.k (k:=Sum.inr q.1.name) W1.firsts),?_⟩
  exact⟨q.2,_,rfl,.inr (W1.tups q hq),fun p hp=>k _ p (s1.trans (aF hp)) (s1.free hp) aA⟩
 ·exact .inr h
inductive qU (K:PySem.W.Frag) (t:mW) (vs:List V) (H:Hp) (Q:VK) (E:XK):Prop where
 | mk:∀(n:Addr) (ls:List aH) (ps:List PD) (x:Str),vs=[.ref n,.str x]->mY K t H n ls ps->(((∃p∈ps,p.name=x/\∀H' q,aK H H'->eU K t H' q p.kind (.str p.name) (p.nums.map V.int) (p.ins.map V.str) (p.outs.map V.str)->Q (.ref q) H')∨False))->qU K t vs H Q E
theorem mC (T:Txt w K mg t):FO P w K mg base 2 t.oX ["self", "name"] (qU K t):=by
 have sc:=T.iV.sc ["self", "name"]
 refine T.iV.F.ok sc ln (fun _ _ _ _ H vs Q E hr h=>?_)
 obtain⟨n,ls,ps,x,rfl,N,h⟩:=h
 refine⟨_,(au (bQ (bC qt (pv 1) (RG (pv 0) T.bw T.bw.me.2.2.1 (jq T) T.fP hr) (by with_unfolding_all rfl))
   (az dH)
   bz)
  (az (aN (cW hr.u1 (bD (pv 0) rfl) (pv 1) (fun _ _=>rfl))))),?_⟩
 obtain⟨dx,fs,R,F,Pd,G,Tk,FL,PL,W⟩:=id N
 refine⟨_,rfl,_,rfl,n,dx,fs,rfl,W.obj,W.fl.no _ (by decide +kernel),n,ls,ps,rfl,N,fun l hl=>?_⟩
 have s1:=aF (o:=.lst (ps.map fun x=>V.str x.name)) hl
 refine⟨l,_,rfl,.inl (bT.of aA),rfl,by simp [rW],_,rfl,?_⟩
 rw [Gm (f:=fun x:PD=>x.name)]
 rcases h with ⟨p,hp,rfl,k⟩ | h
 ·rw [decide_eq_true (List.mem_map.mpr ⟨p,hp,rfl⟩)]
  refine dR ?_
  obtain⟨q,hq,eq⟩:∃q∈PL,q.1=p:=by
   rw [<-W.pls] at hp
   obtain⟨q,hq,e⟩:=List.mem_map.mp hp
   exact⟨q,hq,e⟩
  subst eq
  have W1:=W.same s1
  have hv:=W1.partV hq
  exact⟨_,rfl,n,_,dx,fs,_,rfl,W1.obj,T.bw.c,T.bw.na.2.2.1,W1.fl.has ("parts",.ref Pd) (by simp),_,rfl,Pd,_,rfl,(by rw [<-hv];exact dZ.k (k:=Sum.inr q.1.name) W1.parts),k _ q.2 s1 (W1.pats q hq)⟩
 ·exact h.elim
inductive qz (K:PySem.W.Frag) (t:mW) (vs:List V) (H:Hp) (Q:VK) (E:XK):Prop where
 | mk:∀(n dx Ll Lp:Addr) (ls:List aH) (ps:List PD),vs=[.ref n,.ref Ll,.ref Lp]->H n=some (.ins t.cX dx [])->Hand K H Ll Lp ls ps->sH ls ps->(∀H',j4 n H H'->mY K t H' n ls ps->Q .non H')->qz K t vs H Q E
theorem qy (T:Txt w K mg t):FO P w K mg base 6 t.mq ["self", "lanes", "parts"] (qz K t):=by
 have sc:=T.fQ.sc ["self", "lanes", "parts", "lane", "row", "part"]
 refine T.fQ.F.ok sc ln (fun _ _ _ _ H vs Q E hr h=>?_)
 obtain⟨n,dx,Ll,Lp,ls,ps,rfl,hn,hH,hF,k⟩:=h
 refine⟨_,(au (bJ (dz (zj T) T.oY hr (aa (pv 1) (aa (pv 2) ak aj) aj)))
  (au (je (pv 0) eE rfl)
  (au (je (pv 0) eE rfl)
  (au (eO PassesOwn.never rfl (dN (pv 1)) (gN sc 3)
   (au (bJ (dz (ut T) T.lB hr (aa (aY dD (pv 3) aq (fun _ _=>rfl)) (aa (bD (pv 0) rfl) ak bx) aD)))
   (au (bJ (dz (Ed T) T.rO hr (aa (aY dD (pv 3) aq (fun _ _=>rfl)) (aa (aY dD (pv 3) aq (fun _ _=>rfl)) (aa (aY dD (pv 3) aq (fun _ _=>rfl)) ak aD) aD) aD)))
   (au (gw hr.u1 (bD (pv 0) rfl) (aY dD (pv 3) aq (fun _ _=>rfl)) (aY dD (pv 3) aq (fun _ _=>rfl)) rfl)
   (az (gw hr.u1 (bD (pv 0) rfl) (aY dD (pv 3) aq (fun _ _=>rfl)) (eY tE (by rfl) T.yD wk (aa (aY dD (pv 3) aq (fun _ _=>rfl)) ak aD)) rfl))))))
  (au (je (pv 0) eE rfl)
  (au (je (pv 0) eE rfl)
  (au (je (pv 0) eE rfl)
  (au (eO PassesOwn.never rfl (dN (pv 2)) (gN sc 4)
   (au (sN sc 5 (dz (Al T) T.qi hr (aa (pv 4) (aa (bD (pv 0) rfl) ak bx) aj)))
   (au (bJ (dz (uV T) T.m5 hr (aa (bD (pv 5) rfl) (aa (bD (pv 5) rfl) (aa (bD (pv 0) rfl) (aa (bD (pv 0) rfl) ak bx) bx) bx) bx)))
   (au (bJ (dz (uV T) T.m5 hr (aa (bD (pv 5) rfl) (aa (bD (pv 5) rfl) (aa (bD (pv 0) rfl) (aa (bD (pv 0) rfl) ak bx) bx) bx) bx)))
   (az (gw hr.u1 (bD (pv 0) rfl) (bD (pv 5) rfl) (pv 5) rfl))))))
  (au (bJ (dz (Cv T) T.rG hr (aa (bD (pv 0) rfl) (aa (bD (pv 0) rfl) (aa (bD (pv 0) rfl) ak bx) bx) bx)))
  (az (bJ (dz (z8 T) T.oV hr (aa (eY (mL rfl) (by rfl) T.uD qx (aa (bD (pv 0) rfl) ak bx)) (aa (bD (pv 0) rfl) (aa (bD (pv 0) rfl) ak bx) bx) bf))))))))))))),?_⟩
 have hl:sizeLine=16777216:=sizeLine_eq
 obtain⟨xs,hLl,aL⟩:=hH.ll
 obtain⟨ys,hLp,aP⟩:=hH.lp
 have lx:=aL.length
 have ly:=aP.length
 have l1:=hF.l1
 have l24:=hF.l24
 have p1:=hF.p1
 have p16:=hF.p16
 refine⟨_,rfl,_,rfl,Ll,Lp,_,_,rfl,hLl,hLp,by omega,by omega,by omega,by omega,?_⟩
 have T0:=Tr.start hn
 refine fun R nR=>?_
 have T1:=T0.new (o:=.dK []) nR
 have gR:=aF (o:=.dK []) nR
 generalize upd H R (.dK [])=H1 at T1 gR ⊢
 have cR:=T1.all (n,.ins t.cX dx []) (.head _)
 refine⟨_,rfl,n,_,dx,_,rfl,cR,T.bw.c,T.bw.na.1,Nat.lt_of_le_of_lt (show 0<=0 from Nat.le_refl 0) (by decide),?_⟩
 have T2:=T1.put (L1:=[]) (o':=.ins t.cX dx (aG "rooms" (.ref R) []))
 have wR:j4 n H1 (upd H1 n (.ins t.cX dx (aG "rooms" (.ref R) []))):=j4.write
 generalize upd H1 n (.ins t.cX dx (aG "rooms" (.ref R) []))=H2 at T2 wR ⊢
 refine fun F nF=>?_
 have T3:=T2.new (o:=.dK []) nF
 have gF:=aF (o:=.dK []) nF
 generalize upd H2 F (.dK [])=H3 at T3 gF ⊢
 have cF:=T3.all (n,.ins t.cX dx (aG "rooms" (.ref R) [])) (.head _)
 refine⟨_,rfl,n,_,dx,_,rfl,cF,T.bw.c,T.bw.na.2.1,Nat.lt_of_le_of_lt (jf (Nat.zero_le 0)) (by decide),?_⟩
 have T4:=T3.put (L1:=[]) (o':=.ins t.cX dx (aG "firsts" (.ref F) (aG "rooms" (.ref R) [])))
 have wF:j4 n H3 (upd H3 n (.ins t.cX dx (aG "firsts" (.ref F) (aG "rooms" (.ref R) [])))):=j4.write
 generalize upd H3 n (.ins t.cX dx (aG "firsts" (.ref F) (aG "rooms" (.ref R) [])))=H4 at T4 wF ⊢
 have kb:∀{Hk:Hp} {q:Addr} {u:HO},j4 n H Hk->H q=some u->(∀C d f,u≠.ins C d f)->Hk q=some u:=fun b h hu=>b _ _ (ul h hn (by intro z;exact hu _ _ _ z)) h
 refine⟨_,rfl,Ll,rfl,⟨_,T4.but.seqL hn hLl⟩,fu (K:=K) (a:=Ll) (xs:=xs) (fun j σ H'=>(∃x3,σ=[some (.ref n),some (.ref Ll),some (.ref Lp),x3,none,none])/\∃FL:List (aH×Addr),FL.map (·.1)=ls.take j/\Tr H n [(n,.ins t.cX dx (aG "firsts" (.ref F) (aG "rooms" (.ref R) []))),(R,.dK (d9 (ls.take j))),(F,.dK (bG FL))] H'/\∀q∈FL,gK K H' q.2 (q.1.first.map V.int)) ⟨⟨none,rfl⟩,[],rfl,T4,by simp⟩ (fun j σ H' _ ⟨_,_,_,T',_⟩=>T'.but.seqL hn hLl) ?_ ?_⟩
 ·rintro j x σ H' hx ⟨⟨x3,rfl⟩,FL,eFL,T4,hS⟩
  obtain⟨l,hlj,q,f,rfl,hq,hf⟩:=aL.get hx
  have hm:=List.mem_of_getElem? hlj
  obtain⟨v1,v2,v3,v4⟩:=hF.lok l hm
  have hnm:=hF.lnm l hm
  have hj:=(List.getElem?_eq_some_iff.mp hlj).1
  have kq:∀{Hk:Hp},j4 n H Hk->Hk q=some (.tup [.str l.name,.int l.room,.ref f]):=fun b=>kb b hq (by intro _ _ _ z;cases z)
  have nin:=mV hF.whole.nod hlj
  have vR:bW (d9 (ls.take j)) (Sum.inr l.name)=none:=gm (by rw [qT];intro z;obtain⟨b,hb,e⟩:=List.mem_map.mp z;cases e;exact nin hb)
  have vF:bW (bG FL) (Sum.inr l.name)=none:=gm (by rw [qm,eFL];intro z;obtain⟨b,hb,e⟩:=List.mem_map.mp z;cases e;exact nin hb)
  have tk:ls.take (j+1)=ls.take j ++ [l]:=by rw [List.take_succ,hlj];rfl
  have e4:=T4.all (n,.ins t.cX dx (aG "firsts" (.ref F) (aG "rooms" (.ref R) []))) (.head _)
  refine NZ fun De hD u hu=>?_
  refine⟨_,rfl,q,_,0,_,rfl,rfl,gK.of (kq T4.but),aM (j:=0) rfl,_,rfl,n,_,dx,_,_,rfl,e4,T.bw.c,T.bw.na.1,(by (repeat first | (rw [aB,if_pos rfl];done) | rw [aB,if_neg (by decide +kernel)])),l.name,R,_,rfl,T4.all (R,.dK (d9 (ls.take j))) (by simp),hnm,Bx hnm,vR,fun H5 s5=>?_⟩
  have T5:=T4.same s5
  refine dj (v:=u) hu fun u hu=>?_
  refine⟨_,rfl,q,_,0,_,rfl,rfl,gK.of (kq T5.but),aM (j:=0) rfl,_,rfl,q,_,1,_,rfl,rfl,gK.of (kq T5.but),aM (j:=1) rfl,_,rfl,q,_,2,_,rfl,rfl,gK.of (kq T5.but),aM (j:=2) rfl,.str l.name,l.room,f,l.first,rfl,T5.but.seqA hn hf,by omega,v4,v1,v3,v2,fun H6 s6=>?_⟩
  have T6:=T5.same s6
  have e6:=T6.all (n,.ins t.cX dx (aG "firsts" (.ref F) (aG "rooms" (.ref R) []))) (.head _)
  have eR6:=T6.all (R,.dK (d9 (ls.take j))) (by simp)
  refine dj (v:=u) hu fun u hu=>?_
  refine⟨_,rfl,q,_,1,_,rfl,rfl,gK.of (kq T6.but),aM (j:=1) rfl,_,rfl,n,_,dx,_,_,rfl,e6,T.bw.c,T.bw.na.1,(by (repeat first | (rw [aB,if_pos rfl];done) | rw [aB,if_neg (by decide +kernel)])),_,rfl,q,_,0,_,rfl,rfl,gK.of (kq T6.but),aM (j:=0) rfl,R,_,rfl,pA.k (k:=Sum.inr l.name) eR6 (by unfold d9;rw [lM,List.length_take];omega),?_⟩
  have e7:putK (d9 (ls.take j)) (Sum.inr l.name) (.int l.room)=d9 (ls.take (j+1)):=by rw [jt _ vR,tk];unfold d9;rw [List.map_append];rfl
  have T7:=T6.put (L1:=[_]) (o':=.dK (d9 (ls.take (j+1))))
  rw [e7]
  have hS7:∀q∈FL,gK K (upd H6 R (.dK (d9 (ls.take (j+1))))) q.2 (q.1.first.map V.int):=fun q hq=>fH eR6 (s6.seqT (s5.seqT (hS q hq)))
  generalize upd H6 R (.dK (d9 (ls.take (j+1))))=H7 at T7 hS7 ⊢
  subst hu
  refine⟨_,rfl,q,_,2,_,rfl,rfl,gK.of (kq T7.but),aM (j:=2) rfl,f,_,rfl,T7.but.seqA hn hf,fun H8 F0 s8 t8=>?_⟩
  have T8:=T7.same s8
  have e8:=T8.all (n,.ins t.cX dx (aG "firsts" (.ref F) (aG "rooms" (.ref R) []))) (.head _)
  have eF8:=T8.all (F,.dK (bG FL)) (by simp)
  have lFL:FL.length<=24:=by have:=congrArg List.length eFL;rw [lM,List.length_take] at this;omega
  refine⟨_,rfl,n,_,dx,_,_,rfl,e8,T.bw.c,T.bw.na.2.1,(by (repeat first | (rw [aB,if_pos rfl];done) | rw [aB,if_neg (by decide +kernel)])),_,rfl,q,_,0,_,rfl,rfl,gK.of (kq T8.but),aM (j:=0) rfl,F,_,rfl,pA.k (k:=Sum.inr l.name) eF8 (by unfold bG;rw [lM];omega),?_⟩
  have e9:putK (bG FL) (Sum.inr l.name) (.ref F0)=bG (FL ++ [(l,F0)]):=by rw [jt _ vF];unfold bG;rw [List.map_append];rfl
  have T9:=T8.put (L1:=[_,_]) (o':=.dK (bG (FL ++ [(l,F0)])))
  rw [e9]
  subst hD
  refine⟨⟨_,rfl⟩,FL ++ [(l,F0)],by rw [List.map_append,eFL,tk];rfl,T9,fun q hq=>?_⟩
  rcases List.mem_append.mp hq with h | h
  ·exact fH eF8 (s8.seqT (hS7 q h))
  ·rw [List.mem_singleton] at h
   subst h
   exact fH eF8 t8
 rintro σ H9 ⟨⟨x3,rfl⟩,FL,eFL,T9,t9⟩
 rw [lx,List.take_length] at eFL T9
 clear T0 T1 T2 T3 T4
 refine fun Pd nPd=>?_
 have T10:=T9.new (o:=.dK []) nPd
 have gPd:=aF (o:=.dK []) nPd
 generalize upd H9 Pd (.dK [])=H10 at T10 gPd ⊢
 have cPd:=T10.all (n,.ins t.cX dx (aG "firsts" (.ref F) (aG "rooms" (.ref R) []))) (.head _)
 refine⟨_,rfl,n,_,dx,_,rfl,cPd,T.bw.c,T.bw.na.2.2.1,Nat.lt_of_le_of_lt (jf (jf (Nat.zero_le 0))) (by decide),?_⟩
 have T11:=T10.put (L1:=[]) (o':=.ins t.cX dx (aG "parts" (.ref Pd) (aG "firsts" (.ref F) (aG "rooms" (.ref R) []))))
 have wPd:j4 n H10 (upd H10 n (.ins t.cX dx (aG "parts" (.ref Pd) (aG "firsts" (.ref F) (aG "rooms" (.ref R) []))))):=j4.write
 generalize upd H10 n (.ins t.cX dx (aG "parts" (.ref Pd) (aG "firsts" (.ref F) (aG "rooms" (.ref R) []))))=H11 at T11 wPd ⊢
 refine fun Gv nGv=>?_
 have T12:=T11.new (o:=.dK []) nGv
 have gGv:=aF (o:=.dK []) nGv
 generalize upd H11 Gv (.dK [])=H12 at T12 gGv ⊢
 have cGv:=T12.all (n,.ins t.cX dx (aG "parts" (.ref Pd) (aG "firsts" (.ref F) (aG "rooms" (.ref R) [])))) (.head _)
 refine⟨_,rfl,n,_,dx,_,rfl,cGv,T.bw.c,T.bw.na.2.2.2.1,Nat.lt_of_le_of_lt (jf (jf (jf (Nat.zero_le 0)))) (by decide),?_⟩
 have T13:=T12.put (L1:=[]) (o':=.ins t.cX dx (aG "givers" (.ref Gv) (aG "parts" (.ref Pd) (aG "firsts" (.ref F) (aG "rooms" (.ref R) [])))))
 have wGv:j4 n H12 (upd H12 n (.ins t.cX dx (aG "givers" (.ref Gv) (aG "parts" (.ref Pd) (aG "firsts" (.ref F) (aG "rooms" (.ref R) [])))))):=j4.write
 generalize upd H12 n (.ins t.cX dx (aG "givers" (.ref Gv) (aG "parts" (.ref Pd) (aG "firsts" (.ref F) (aG "rooms" (.ref R) [])))))=H13 at T13 wGv ⊢
 refine fun Tk nTk=>?_
 have T14:=T13.new (o:=.dK []) nTk
 have gTk:=aF (o:=.dK []) nTk
 generalize upd H13 Tk (.dK [])=H14 at T14 gTk ⊢
 have cTk:=T14.all (n,.ins t.cX dx (aG "givers" (.ref Gv) (aG "parts" (.ref Pd) (aG "firsts" (.ref F) (aG "rooms" (.ref R) []))))) (.head _)
 refine⟨_,rfl,n,_,dx,_,rfl,cTk,T.bw.c,T.bw.na.2.2.2.2.1,Nat.lt_of_le_of_lt (jf (jf (jf (jf (Nat.zero_le 0))))) (by decide),?_⟩
 have T15:=T14.put (L1:=[]) (o':=.ins t.cX dx (aG "takers" (.ref Tk) (aG "givers" (.ref Gv) (aG "parts" (.ref Pd) (aG "firsts" (.ref F) (aG "rooms" (.ref R) []))))))
 have wTk:j4 n H14 (upd H14 n (.ins t.cX dx (aG "takers" (.ref Tk) (aG "givers" (.ref Gv) (aG "parts" (.ref Pd) (aG "firsts" (.ref F) (aG "rooms" (.ref R) []))))))):=j4.write
 generalize upd H14 n (.ins t.cX dx (aG "takers" (.ref Tk) (aG "givers" (.ref Gv) (aG "parts" (.ref Pd) (aG "firsts" (.ref F) (aG "rooms" (.ref R) []))))))=H15 at T15 wTk ⊢
 have T15:Tr H n [(n,.ins t.cX dx (aG "takers" (.ref Tk) (aG "givers" (.ref Gv) (aG "parts" (.ref Pd) (aG "firsts" (.ref F) (aG "rooms" (.ref R) [])))))),(R,.dK (d9 ls)),(F,.dK (bG FL)),(Pd,.dK []),(Gv,.dK []),(Tk,.dK [])] H15:=T15
 have t15:∀q∈FL,gK K H15 q.2 (q.1.first.map V.int):=fun q hq=>wTk.seqT cTk (gTk.seqT (wGv.seqT cGv (gGv.seqT (wPd.seqT cPd (gPd.seqT (t9 q hq))))))
 have nod:=T15.nod
 simp only [List.map_append,List.map_cons,List.map_nil,List.nil_append,List.cons_append,List.nodup_cons,List.mem_cons,List.not_mem_nil,or_false,not_or] at nod
 have nRF:R≠F:=nod.2.1.1
 have nRT:R≠Tk:=nod.2.1.2.2.2
 have nRG:R≠Gv:=nod.2.1.2.2.1
 have nGT:Gv≠Tk:=nod.2.2.2.2.1
 clear nod
 have ono:(ps.flatMap (·.outs)).Nodup:=hF.whole.outs.nodup_iff.mpr hF.whole.nod
 have ini:(ps.flatMap (·.ins)).Nodup:=hF.whole.ins.nodup_iff.mpr hF.whole.nod
 have inR:∀z∈ls.map (·.name),(bW (d9 ls) (Sum.inr z)).isSome=true:=fun z hz=>by
  obtain⟨l,hl,rfl⟩:=List.mem_map.mp hz
  have e:bW (d9 ls) (Sum.inr l.name)=some (.int l.room):=gh (by rw [qT];exact eZ hF.whole.nod) (List.mem_map.mpr ⟨l,hl,rfl⟩)
  rw [e]
  rfl
 have lenE:∀(f:PD->List Str) (j:Nat),(ps.flatMap f).Perm (ls.map (·.name))->(cM f (ps.take j)).length<=24:=fun f j pm=>by
  rw [JK]
  have e1:((ps.take j).flatMap f).length+((ps.drop j).flatMap f).length=(ps.flatMap f).length:=by rw [<-lP,<-List.flatMap_append,List.take_append_drop]
  have e2:=pm.length_eq
  rw [lM] at e2
  omega
 refine⟨_,rfl,Lp,rfl,⟨_,T15.but.seqL hn hLp⟩,fu (K:=K) (a:=Lp) (xs:=ys) (fun j σ H'=>(∃x3 x4 x5,σ=[some (.ref n),some (.ref Ll),some (.ref Lp),x3,x4,x5])/\∃PL:List (PD×Addr),PL.map (·.1)=ps.take j/\Tr H n [(n,.ins t.cX dx (aG "takers" (.ref Tk) (aG "givers" (.ref Gv) (aG "parts" (.ref Pd) (aG "firsts" (.ref F) (aG "rooms" (.ref R) [])))))),(R,.dK (d9 ls)),(F,.dK (bG FL)),(Pd,.dK (dY PL)),(Gv,.dK (cM (·.outs) (ps.take j))),(Tk,.dK (cM (·.ins) (ps.take j)))] H'/\(∀q∈FL,gK K H' q.2 (q.1.first.map V.int))/\∀q∈PL,eU K t H' q.2 q.1.kind (.str q.1.name) (q.1.nums.map V.int) (q.1.ins.map V.str) (q.1.outs.map V.str)) ⟨⟨x3,none,none,rfl⟩,[],rfl,T15,t15,by simp⟩ (fun j σ H' _ ⟨_,_,_,T',_⟩=>T'.but.seqL hn hLp) ?_ ?_⟩
 ·rintro j x σ H' hx ⟨⟨x3,x4,x5,rfl⟩,PL,ePL,T15,hS,hP⟩
  obtain⟨p,hpj,r,a1,a2,a3,rfl,hr,q1,q2,q3⟩:=aP.get hx
  have hm:=List.mem_of_getElem? hpj
  have hj:=(List.getElem?_eq_some_iff.mp hpj).1
  obtain⟨o1,o2,o3,o4,o5⟩:=hF.pok p hm
  have hnm:=hF.pnm p hm
  have nin:=mV hF.pnd hpj
  have tk:ps.take (j+1)=ps.take j ++ [p]:=by rw [List.take_succ,hpj];rfl
  have vP:bW (dY PL) (Sum.inr p.name)=none:=gm (by rw [xU,ePL];intro z;obtain⟨b,hb,e⟩:=List.mem_map.mp z;cases e;exact nin hb)
  obtain⟨di,fi⟩:=Ip ini hpj
  obtain⟨do',fo⟩:=Ip ono hpj
  have e15:=T15.all (n,.ins t.cX dx (aG "takers" (.ref Tk) (aG "givers" (.ref Gv) (aG "parts" (.ref Pd) (aG "firsts" (.ref F) (aG "rooms" (.ref R) [])))))) (.head _)
  refine NZ fun De hD u hu=>?_
  refine⟨_,rfl,_,rfl,n,_,dx,_,_,rfl,e15,T.bw.c,T.bw.na.2.2.1,(by (repeat first | (rw [aB,if_pos rfl];done) | rw [aB,if_neg (by decide +kernel)])),p.kind,p.name,r,Pd,a1,a2,a3,_,_,_,_,rfl,kb T15.but hr (by intro _ _ _ z;cases z),by omega,T15.all (Pd,.dK (dY PL)) (by simp),hnm,Bx hnm,vP,T15.but.seqA hn q1,T15.but.seqA hn q2,T15.but.seqA hn q3,by rw [lM];exact o2,by rw [lM];exact o3,by rw [lM];exact o4,?_,fun H16 pp s16 npp Pp=>?_⟩
  ·intro v hv
   obtain⟨i,hi,rfl⟩:=List.mem_map.mp hv
   exact⟨i,rfl,(o5 i hi).1,(o5 i hi).2⟩
  have T16:=T15.same s16
  obtain⟨dxp,tn,ti,to,z1,z2,z3,z4⟩:=id Pp.ex
  have e16:=T16.all (n,.ins t.cX dx (aG "takers" (.ref Tk) (aG "givers" (.ref Gv) (aG "parts" (.ref Pd) (aG "firsts" (.ref F) (aG "rooms" (.ref R) [])))))) (.head _)
  have eTk:=T16.all (Tk,.dK (cM (·.ins) (ps.take j))) (by simp)
  have li:=lenE (·.ins) j hF.whole.ins
  have lo:=lenE (·.outs) j hF.whole.outs
  have h3I:p.ins.length<=3:=by rw [o3];exact Bt _
  have h3O:p.outs.length<=2:=by rw [o4];exact Mp _
  refine dj (v:=u) hu fun u hu=>?_
  refine⟨_,rfl,pp,_,dxp,_,_,rfl,z1,iz T p.kind,yE T p.kind,wK _ _ _ _,_,rfl,pp,_,dxp,_,_,rfl,z1,iz T p.kind,wO T p.kind,rJ _ _ _ _,_,rfl,n,_,dx,_,_,rfl,e16,T.bw.c,T.bw.na.1,(by (repeat first | (rw [aB,if_pos rfl];done) | rw [aB,if_neg (by decide +kernel)])),_,rfl,n,_,dx,_,_,rfl,e16,T.bw.c,T.bw.na.2.2.2.2.1,(by (repeat first | (rw [aB,if_pos rfl];done) | rw [aB,if_neg (by decide +kernel)])),p.name,ti,R,Tk,p.ins,_,_,rfl,z3,T16.all (R,.dK (d9 ls)) (by simp),nRT,eTk,di,fun z hz=>⟨inR z (hF.whole.ins.mem_iff.mp (List.mem_flatMap.mpr ⟨p,hm,hz⟩)),Ad (fi z hz)⟩,by omega,?_⟩
  rw [<-Ai (·.ins) (ps.take j) p,<-tk]
  have T17:=T16.put (L1:=[_,_,_,_,_]) (o':=.dK (cM (·.ins) (ps.take (j+1))))
  have Pp17:=Pp.chill (v:=.dK (cM (·.ins) (ps.take (j+1)))) eTk
  have hS17:∀q∈FL,gK K (upd H16 Tk (.dK (cM (·.ins) (ps.take (j+1))))) q.2 (q.1.first.map V.int):=fun q hq=>fH eTk (s16.seqT (hS q hq))
  have hP17:∀q∈PL,eU K t (upd H16 Tk (.dK (cM (·.ins) (ps.take (j+1))))) q.2 q.1.kind (.str q.1.name) (q.1.nums.map V.int) (q.1.ins.map V.str) (q.1.outs.map V.str):=fun q hq=>((hP q hq).same s16).chill eTk
  generalize upd H16 Tk (.dK (cM (·.ins) (ps.take (j+1))))=H17 at T17 Pp17 hS17 hP17 ⊢
  clear z1 z2 z3 z4 e16
  obtain⟨dxp,tn,ti,to,z1,z2,z3,z4⟩:=id Pp17.ex
  have e17:=T17.all (n,.ins t.cX dx (aG "takers" (.ref Tk) (aG "givers" (.ref Gv) (aG "parts" (.ref Pd) (aG "firsts" (.ref F) (aG "rooms" (.ref R) [])))))) (.head _)
  have eGv:=T17.all (Gv,.dK (cM (·.outs) (ps.take j))) (by simp)
  refine dj (v:=u) hu fun u hu=>?_
  refine⟨_,rfl,pp,_,dxp,_,_,rfl,z1,iz T p.kind,yE T p.kind,wK _ _ _ _,_,rfl,pp,_,dxp,_,_,rfl,z1,iz T p.kind,El T p.kind,Ck _ _ _ _,_,rfl,n,_,dx,_,_,rfl,e17,T.bw.c,T.bw.na.1,(by (repeat first | (rw [aB,if_pos rfl];done) | rw [aB,if_neg (by decide +kernel)])),_,rfl,n,_,dx,_,_,rfl,e17,T.bw.c,T.bw.na.2.2.2.1,(by (repeat first | (rw [aB,if_pos rfl];done) | rw [aB,if_neg (by decide +kernel)])),p.name,to,R,Gv,p.outs,_,_,rfl,z4,T17.all (R,.dK (d9 ls)) (by simp),nRG,eGv,do',fun z hz=>⟨inR z (hF.whole.outs.mem_iff.mp (List.mem_flatMap.mpr ⟨p,hm,hz⟩)),Ad (fo z hz)⟩,by omega,?_⟩
  rw [<-Ai (·.outs) (ps.take j) p,<-tk]
  have T18:=T17.put (L1:=[_,_,_,_]) (o':=.dK (cM (·.outs) (ps.take (j+1))))
  have Pp18:=Pp17.chill (v:=.dK (cM (·.outs) (ps.take (j+1)))) eGv
  have hS18:∀q∈FL,gK K (upd H17 Gv (.dK (cM (·.outs) (ps.take (j+1))))) q.2 (q.1.first.map V.int):=fun q hq=>fH eGv (hS17 q hq)
  have hP18:∀q∈PL,eU K t (upd H17 Gv (.dK (cM (·.outs) (ps.take (j+1))))) q.2 q.1.kind (.str q.1.name) (q.1.nums.map V.int) (q.1.ins.map V.str) (q.1.outs.map V.str):=fun q hq=>(hP17 q hq).chill eGv
  generalize upd H17 Gv (.dK (cM (·.outs) (ps.take (j+1))))=H18 at T18 Pp18 hS18 hP18 ⊢
  clear z1 z2 z3 z4 e17
  obtain⟨dxp,tn,ti,to,z1,z2,z3,z4⟩:=id Pp18.ex
  have e18:=T18.all (n,.ins t.cX dx (aG "takers" (.ref Tk) (aG "givers" (.ref Gv) (aG "parts" (.ref Pd) (aG "firsts" (.ref F) (aG "rooms" (.ref R) [])))))) (.head _)
  have ePd:=T18.all (Pd,.dK (dY PL)) (by simp)
  have lPL:PL.length<=16:=by have:=congrArg List.length ePL;rw [lM,List.length_take] at this;omega
  subst hu
  refine⟨_,rfl,_,rfl,n,_,dx,_,_,rfl,e18,T.bw.c,T.bw.na.2.2.1,(by (repeat first | (rw [aB,if_pos rfl];done) | rw [aB,if_neg (by decide +kernel)])),_,rfl,pp,_,dxp,_,_,rfl,z1,iz T p.kind,yE T p.kind,wK _ _ _ _,Pd,_,rfl,pA.k (k:=Sum.inr p.name) ePd (by unfold dY;rw [lM];omega),?_⟩
  have e19:putK (dY PL) (Sum.inr p.name) (.ref pp)=dY (PL ++ [(p,pp)]):=by rw [jt _ vP];unfold dY;rw [List.map_append];rfl
  have T19:=T18.put (L1:=[_,_,_]) (o':=.dK (dY (PL ++ [(p,pp)])))
  rw [e19]
  subst hD
  refine⟨⟨_,_,_,rfl⟩,PL ++ [(p,pp)],by rw [List.map_append,ePL,tk];rfl,T19,fun q hq=>fH ePd (hS18 q hq),fun q hq=>?_⟩
  rcases List.mem_append.mp hq with h | h
  ·exact(hP18 q h).chill ePd
  ·rw [List.mem_singleton] at h
   subst h
   exact Pp18.chill ePd
 rintro σ H18 ⟨⟨x3,x4,x5,rfl⟩,PL,ePL,T18,hS,hP⟩
 rw [ly,List.take_length] at ePL T18
 have e18:=T18.all (n,.ins t.cX dx (aG "takers" (.ref Tk) (aG "givers" (.ref Gv) (aG "parts" (.ref Pd) (aG "firsts" (.ref F) (aG "rooms" (.ref R) [])))))) (.head _)
 have eR:=T18.all (R,.dK (d9 ls)) (by simp)
 have eF:=T18.all (F,.dK (bG FL)) (by simp)
 have ePd:=T18.all (Pd,.dK (dY PL)) (by simp)
 have eGv:=T18.all (Gv,.dK (cM (·.outs) ps)) (by simp)
 have eTk:=T18.all (Tk,.dK (cM (·.ins) ps)) (by simp)
 refine⟨_,rfl,n,_,dx,_,_,rfl,e18,T.bw.c,T.bw.na.1,(by (repeat first | (rw [aB,if_pos rfl];done) | rw [aB,if_neg (by decide +kernel)])),_,rfl,n,_,dx,_,_,rfl,e18,T.bw.c,T.bw.na.2.2.2.1,(by (repeat first | (rw [aB,if_pos rfl];done) | rw [aB,if_neg (by decide +kernel)])),_,rfl,n,_,dx,_,_,rfl,e18,T.bw.c,T.bw.na.2.2.2.2.1,(by (repeat first | (rw [aB,if_pos rfl];done) | rw [aB,if_neg (by decide +kernel)])),R,Gv,Tk,_,_,_,rfl,eR,eGv,eTk,nRG,nRT,?_,?_⟩
 ·intro q hq
  obtain⟨l,hl,rfl⟩:=List.mem_map.mp hq
  have hln:l.name∈ls.map (·.name):=List.mem_map.mpr ⟨l,hl,rfl⟩
  obtain⟨pa,ha,la⟩:=List.mem_flatMap.mp (hF.whole.outs.mem_iff.mpr hln)
  obtain⟨pb,hb,lb⟩:=List.mem_flatMap.mp (hF.whole.ins.mem_iff.mpr hln)
  exact⟨by rw [iK ono ha la];rfl,by rw [iK ini hb lb];rfl⟩
 refine⟨_,rfl,n,_,dx,_,_,rfl,e18,T.bw.c,T.bw.na.2.2.1,(by (repeat first | (rw [aB,if_pos rfl];done) | rw [aB,if_neg (by decide +kernel)])),Pd,_,rfl,.inl ePd,fun l nl=>?_⟩
 have s19:=aF (o:=.lst ((dY PL).map fun p=>kV p.1)) nl
 have eL:(dY PL).map (fun p=>kV p.1)=ps.map fun p=>V.str p.name:=by unfold dY;rw [List.map_map,<-ePL,List.map_map];rfl
 refine⟨_,rfl,n,_,dx,_,_,rfl,(s19 _ _ e18),T.bw.c,T.bw.na.2.2.2.1,(by (repeat first | (rw [aB,if_pos rfl];done) | rw [aB,if_neg (by decide +kernel)])),_,rfl,n,_,dx,_,_,rfl,(s19 _ _ e18),T.bw.c,T.bw.na.2.2.2.2.1,(by (repeat first | (rw [aB,if_pos rfl];done) | rw [aB,if_neg (by decide +kernel)])),l,Gv,Tk,ps,rfl,bT.of (by rw [<-eL];exact aA),by omega,by omega,s19 _ _ eGv,s19 _ _ eTk,nGT,ono,ini,hF.whole.outs.trans hF.whole.ins.symm,hF.whole.hang,fun H20 s20=>?_⟩
 have s:=s19.trans s20
 refine k _ (fun b u hb e=>s _ _ (T18.but b u hb e)) ⟨dx,_,R,F,Pd,Gv,Tk,FL,PL,s _ _ e18,⟨?_,?_⟩,s _ _ eR,s _ _ eF,s _ _ ePd,s _ _ eGv,s _ _ eTk,eFL,ePL,fun q hq=>s.seqT (hS q hq),fun q hq=>(hP q hq).same s,hF,nRF⟩
 ·intro q hq
  simp only [List.mem_cons,List.not_mem_nil,or_false] at hq
  rcases hq with rfl | rfl | rfl | rfl | rfl <;> (dsimp only;(repeat first | (rw [aB,if_pos rfl];done) | rw [aB,if_neg (by decide +kernel)]))
 ·intro m hm
  have hne:∀m∈(["lane_names", "part_names", "names_of_kind", "gives", "need_lane_name", "first_of", "part_of", "__init__"]:List Str),∀g∈(["takers", "givers", "parts", "firsts", "rooms"]:List Str),¬m=g:=by decide +kernel
  have h:=hne m hm
  rw [aB,if_neg (h _ (by simp)),aB,if_neg (h _ (by simp)),aB,if_neg (h _ (by simp)),aB,if_neg (h _ (by simp)),aB,if_neg (h _ (by simp))]
  rfl
inductive tZ (K:PySem.W.Frag) (t:mW) (vs:List V) (H:Hp) (Q:VK) (E_:XK):Prop where
 | mk:∀(f n E G Kp D Rw l:Addr) (ed gd:List (Key×V)) (x:Str) (vs':List V) (g:Nat),vs=[.ref f,.str x]->qd K t H f n E G Kp D Rw->H E=some (.dK ed)->H G=some (.dK gd)->bW ed (Sum.inr x)=some (.ref l)->bW gd (Sum.inr x)=some (.int g)->bT K H l vs'->Q (.int (vs'.length - g)) H->tZ K t vs H Q E_
theorem Ao (T:Txt w K mg t):FO P w K mg base 1 t.qu ["self", "lane"] (tZ K t):=by
 have sc:=T.pR.sc ["self", "lane"]
 refine T.pR.F.ok sc ln (fun _ _ _ _ H vs Q E hr h=>?_)
 obtain⟨f,n,E,G,Kp,D,Rw,l,ed,gd,x,vs',g,rfl,N,hE,hG,h3,h4,h5,k⟩:=h
 refine⟨_,(az (aN (bh CZ (aV bK (by rfl) T.dG bY (aa (cW hr.u1 (bD (pv 0) rfl) (pv 1) (fun _ _=>rfl)) ak aD)) (cW hr.u1 (bD (pv 0) rfl) (pv 1) (fun _ _=>rfl))))),?_⟩
 obtain⟨dx,fs,h1,h2⟩:=id N.ex
 refine⟨_,rfl,f,_,dx,fs,_,rfl,h1,T.aQ.c,T.aQ.na.2.1,h2.has ("ever",.ref E) (by simp),_,rfl,E,_,rfl,(by rw [<-h3];exact dZ.k (k:=Sum.inr x) hE),?_⟩
 refine⟨.ref l,vs'.length,rfl,.inl ⟨vs',h5,rfl⟩,_,rfl,f,_,dx,fs,_,rfl,h1,T.aQ.c,T.aQ.na.2.2.1,h2.has ("gone",.ref G) (by simp),_,rfl,G,_,rfl,(by rw [<-h4];exact dZ.k (k:=Sum.inr x) hG),?_⟩
 refine⟨_,_,rfl,rfl,?_⟩
 exact k
inductive vo (K:PySem.W.Frag) (t:mW) (vs:List V) (H:Hp) (Q:VK) (E_:XK):Prop where
 | mk:∀(f n E G Kp D Rw l:Addr) (ed gd:List (Key×V)) (x:Str) (vs':List V) (g:Nat),vs=[.ref f,.str x]->qd K t H f n E G Kp D Rw->H E=some (.dK ed)->H G=some (.dK gd)->bW ed (Sum.inr x)=some (.ref l)->bW gd (Sum.inr x)=some (.int g)->bT K H l vs'->Q ((vs'[g]?).getD .non) H->vo K t vs H Q E_
theorem Dk (T:Txt w K mg t):FO P w K mg base 2 t.rM ["self", "lane"] (vo K t):=by
 have sc:=T.qY.sc ["self", "lane"]
 refine T.qY.F.ok sc ln (fun _ _ _ _ H vs Q E hr h=>?_)
 obtain⟨f,n,E,G,Kp,D,Rw,l,ed,gd,x,vs',g,rfl,N,hE,hG,h3,h4,h5,k⟩:=h
 refine⟨_,(az (aN (zg (bC zb (HW (pv 0) T.aQ T.aQ.me.2.1 (Ao T) T.pR hr (aa (pv 1) ak aj)) aq (bL _)) (aY aW (cW hr.u1 (bD (pv 0) rfl) (pv 1) (fun _ _=>rfl)) (cW hr.u1 (bD (pv 0) rfl) (pv 1) (fun _ _=>rfl)) (fun _ _=>rfl)) Cw))),?_⟩
 obtain⟨dx,fs,h1,h2⟩:=id N.ex
 refine⟨_,rfl,f,dx,fs,rfl,h1,h2.no _ (by decide +kernel),_,rfl,f,n,E,G,Kp,D,Rw,l,ed,gd,x,vs',g,rfl,N,hE,hG,h3,h4,h5,?_⟩
 refine⟨_,_,rfl,rfl,_,rfl,jx (fun e=>?_) (fun e=>?_)⟩
 ·have e':g <vs'.length:=by have:=of_decide_eq_true e;omega
  refine⟨_,rfl,f,_,dx,fs,_,rfl,h1,T.aQ.c,T.aQ.na.2.1,h2.has ("ever",.ref E) (by simp),_,rfl,E,_,rfl,(by rw [<-h3];exact dZ.k (k:=Sum.inr x) hE),?_⟩
  refine⟨_,rfl,f,_,dx,fs,_,rfl,h1,T.aQ.c,T.aQ.na.2.2.1,h2.has ("gone",.ref G) (by simp),_,rfl,G,_,rfl,(by rw [<-h4];exact dZ.k (k:=Sum.inr x) hG),?_⟩
  rw [List.getElem?_eq_getElem e'] at k
  exact⟨l,vs',g,_,rfl,rfl,h5,aM (List.getElem?_eq_getElem e'),k⟩
 ·have e':¬g <vs'.length:=fun z=>e (decide_eq_true (by omega))
  rw [List.getElem?_eq_none (by omega)] at k
  exact k
inductive mO (K:PySem.W.Frag) (t:mW) (vs:List V) (H:Hp) (Q:VK):Prop where
 | mk:∀(f n E G Kp D Rw:Addr) (rd dd:List (Key×V)) (x:Str),vs=[.ref f,.str x]->qd K t H f n E G Kp D Rw->H Rw=some (.dK rd)->H D=some (.dK dd)->(((bW rd (Sum.inr x)=none/\Q (.bl false) H)∨∃(l:Addr) (vs':List V) (g:Nat),bW rd (Sum.inr x)=some (.ref l)/\bW dd (Sum.inr x)=some (.int g)/\bT K H l vs'/\Q (.bl (decide (g=vs'.length))) H))->mO K t vs H Q
@[irreducible] noncomputable def dX (K:PySem.W.Frag) (t:mW):Sp:=fun vs H Q _=>mO K t vs H Q
theorem uN (T:Txt w K mg t):FO P w K mg base 1 t.jJ ["self", "name"] (dX K t):=by
 have sc:=T.jC.sc ["self", "name"]
 refine T.jC.F.ok sc (fun vs H Q E h=>?_) (fun cdv A outer s H vs Q E hr h=>?_)
 ·unfold dX at h
  obtain⟨f,n,E,G,Kp,D,Rw,rd,dd,x,rfl,_⟩:=h
  rfl
 ·unfold dX at h
  obtain⟨f,n,E,G,Kp,D,Rw,rd,dd,x,rfl,N,hR,hD,k⟩:=h
  refine⟨_,(az (aN (uJ (Dp (wA hr.u1 (pv 1) (bD (pv 0) rfl))) (uy (nH iM (cW hr.u1 (bD (pv 0) rfl) (pv 1) (fun _ _=>rfl)) (aV bK (by rfl) T.dG bY (aa (cW hr.u1 (bD (pv 0) rfl) (pv 1) (fun _ _=>rfl)) ak aD)) (bL _)))))),?_⟩
  obtain⟨dx,fs,h1,h2⟩:=id N.ex
  refine⟨_,rfl,_,rfl,f,_,dx,fs,_,rfl,h1,T.aQ.c,T.aQ.na.2.2.2.2.2.1,h2.has ("rows",.ref Rw) (by simp),Rw,_,rfl,dZ.k (k:=Sum.inr x) hR,?_⟩
  rcases k with ⟨k1,k⟩ | ⟨l,vs',g,k1,k2,k3,k⟩
  ·rw [k1]
   exact⟨_,rfl,dR k⟩
  ·rw [k1]
   refine⟨_,rfl,lG ?_⟩
   refine⟨_,rfl,f,_,dx,fs,_,rfl,h1,T.aQ.c,T.aQ.na.2.2.2.2.1,h2.has ("done",.ref D) (by simp),_,rfl,D,_,rfl,(by rw [<-k2];exact dZ.k (k:=Sum.inr x) hD),?_⟩
   refine⟨_,rfl,f,_,dx,fs,_,rfl,h1,T.aQ.c,T.aQ.na.2.2.2.2.2.1,h2.has ("rows",.ref Rw) (by simp),_,rfl,Rw,_,rfl,(by rw [<-k1];exact dZ.k (k:=Sum.inr x) hR),?_⟩
   refine⟨.ref l,vs'.length,rfl,.inl ⟨vs',k3,rfl⟩,rfl,?_⟩
   rw [show decide (V.int (g:Int)=V.int (vs'.length:Int))=decide (g=vs'.length) by rw [decide_eq_decide,V.int.injEq];omega]
   exact k
inductive uh (K:PySem.W.Frag) (t:mW) (vs:List V) (H:Hp) (Q:VK) (E_:XK):Prop where
 | mk:∀(f n E G Kp D Rw p:Addr) (ed gd:List (Key×V)) (i:Nat) (nm:V) (ns os:List V) (xs:List Str) (hv:Str->V),vs=[.ref f,.ref p]->qd K t H f n E G Kp D Rw->H E=some (.dK ed)->H G=some (.dK gd)->eU K t H p i nm ns (xs.map V.str) os->xs.length<=3->((∀x∈xs,∃(l:Addr) (vs':List V) (g:Nat),bW ed (Sum.inr x)=some (.ref l)/\bW gd (Sum.inr x)=some (.int g)/\bT K H l vs'/\hv x=(vs'[g]?).getD .non))->(∀d,H d=none->Q (.ref d) (upd H d (.lst (xs.map hv))))->uh K t vs H Q E_
theorem tV (T:Txt w K mg t):FO P w K mg base 3 t.qw ["self", "part"] (uh K t):=by
 have sc:=T.lH.sc ["self", "part"]
 refine T.lH.F.ok sc ln (fun _ _ _ _ H vs Q E hr h=>?_)
 obtain⟨f,n,E,G,Kp,D,Rw,p,ed,gd,i,nm,ns,os,xs,hv,rfl,N,hE,hG,hP,hx,hh,k⟩:=h
 refine⟨_,(az (aN (j5 [0] ["self", "part"] (bA (inClass (top 16) 6)) rfl (DY (bD (pv 1) rfl)) (fun _ _ _ _ _=>jo) (fun _ _ _ _ _=>(HW (pv 1) T.aQ T.aQ.me.2.2.1 (Dk T) T.qY hr (aa (pv 0) ak aj)))))),?_⟩
 obtain⟨dx,fs,h1,h2⟩:=id N.ex
 obtain⟨dxp,tn,ti,to,p1,p2,p3,p4⟩:=id hP.ex
 have hz:sizeLine=16777216:=sizeLine_eq
 refine⟨_,rfl,p,_,dxp,_,_,rfl,p1,iz T i,wO T i,rJ _ _ _ _,ti,rfl,⟨_,p3⟩,?_⟩
 refine GD (K:=K) (a:=ti) (xs:=xs.map V.str) (fun j ys H'=>H'=H/\ys=(xs.take j).map hv) (by simp;omega) ⟨rfl,rfl⟩ (fun j ys H' ⟨_,e⟩=>by rw [e];simp;omega) (fun j ys H' _ ⟨e,_⟩=>by rw [e];exact p3) ?_ ?_
 ·rintro j y ys H' hy ⟨rfl,rfl⟩
  rw [List.getElem?_map] at hy
  obtain⟨x,hq,rfl⟩:=Option.map_eq_some_iff.mp hy
  obtain⟨l,vs',g,g1,g2,g3,g4⟩:=hh x (List.mem_of_getElem? hq)
  refine yes ⟨_,rfl,f,dx,fs,rfl,h1,h2.no _ (by decide +kernel),_,rfl,f,n,E,G,Kp,D,Rw,l,ed,gd,x,vs',g,rfl,N,hE,hG,g1,g2,g3,rfl,?_⟩
  rw [List.take_succ,hq,Option.toList_some,List.map_append,<-g4]
  rfl
 ·rintro ys H' ⟨rfl,rfl⟩ d hd
  rw [lM,List.take_length]
  exact k d hd
theorem N7 (T:Txt w K mg t) (i:Nat):MethAt P w K mg base Aw 2 (cls t i) "lacks" (u5 K t i):=match i with
 | 0=>⟨_,_,_,T.ir.c,(T.bu.me T.ir.me.2.2.2.1),T.bu.b,(cQ T).imp fun _ _ _ _ h=>⟨_,h⟩⟩
 | 1=>⟨_,_,_,T.gY.c,(T.bu.me T.gY.me.2.2.2.1),T.bu.b,(cQ T).imp fun _ _ _ _ h=>⟨_,h⟩⟩
 | 2=>⟨_,_,_,T.gP.c,(T.bu.me T.gP.me.2.2.2.1),T.bu.b,(cQ T).imp fun _ _ _ _ h=>⟨_,h⟩⟩
 | 3=>⟨_,_,_,T.gO.c,(T.bu.me T.gO.me.2.2.2.1),T.bu.b,(cQ T).imp fun _ _ _ _ h=>⟨_,h⟩⟩
 | 4=>⟨_,_,_,T.gZ.c,(T.bu.me T.gZ.me.2.2.2.1),T.bu.b,(cQ T).imp fun _ _ _ _ h=>⟨_,h⟩⟩
 | 5=>⟨_,_,_,T.ig.c,(T.bu.me T.ig.me.2.2.2.1),T.bu.b,(cQ T).imp fun _ _ _ _ h=>⟨_,h⟩⟩
 | 6=>⟨_,_,_,T.j6.c,(T.bu.me T.j6.me.2.2.2.1),T.bu.b,(cQ T).imp fun _ _ _ _ h=>⟨_,h⟩⟩
 | 7=>⟨_,_,_,T.il.c,(T.bu.me T.il.me.2.2.2.1),T.bu.b,(cQ T).imp fun _ _ _ _ h=>⟨_,h⟩⟩
 | 8=>⟨_,_,_,T.fc.c,(T.bu.me T.fc.me.2.2.2.1),T.bu.b,(cQ T).imp fun _ _ _ _ h=>⟨_,h⟩⟩
 | 9=>⟨_,_,_,T.dU.c,(T.bu.me T.dU.me.2.2.2.1),T.bu.b,(cQ T).imp fun _ _ _ _ h=>⟨_,h⟩⟩
 | n+10=>⟨_,_,_,T.fB.c,(T.bu.me T.fB.me.2.2.2.1),T.bu.b,(cQ T).imp fun _ _ _ _ h=>⟨_,h⟩⟩
inductive qD (K:PySem.W.Frag) (t:mW) (vs:List V) (H:Hp) (Q:VK) (E:XK):Prop where
 | mk:∀(A:ww) (ls:List aH) (ps:List PD) (S:FS) (p:PD),vs=[.ref A.f,.str p.name]->mY K t H A.n ls ps->jr K t H A ls ps S->p∈ps->(∀H',aK H H'->Q (f9 p.kind p.ins (bc S p)) H')->qD K t vs H Q E
theorem yw (T:Txt w K mg t):FO P w K mg base 4 t.lX ["self", "name"] (qD K t):=by
 have sc:=T.mU.sc ["self", "name", "part", "place"]
 refine T.mU.F.ok sc ln (fun _ _ _ _ H vs Q E hr h=>?_)
 obtain⟨A,ls,ps,S,p,rfl,N,W,hp,k⟩:=h
 refine⟨_,(au (sN sc 2 (HW (bD (pv 0) rfl) T.bw T.bw.me.2.2.2.2.2.2.2.1 (mC T) T.iV hr (aa (pv 1) ak aj)))
  (au (sN sc 3 (vO (CX:=Aw) (k:=2) (E:=E0) (pv 2) (hr.mono (by decide)) gQ (aa (HW (pv 0) T.aQ T.aQ.me.2.2.2.2.1 (tV T) T.lH hr (aa (pv 2) ak aj)) ak bf)))
  (az (aN (zg (kO (Hr (pv 3))) Cw (aY dD (bD (pv 2) rfl) (pv 3) (fun _ _=>rfl))))))),?_⟩
 obtain⟨dxn,fsn,R,F,Pd,Gn,Tk,FL,PL,Wn⟩:=id N
 have F:=Wn.fit
 obtain⟨dx,fs,h1,h2⟩:=id W.at'.ex
 have hh1:∀{H':Hp},aK H H'->(∀x∈p.ins,∃(l:Addr) (vs':List V) (g:Nat),bW (wy A.ea ls) (Sum.inr x)=some (.ref l)/\bW (cY S.g ls) (Sum.inr x)=some (.int g)/\bT K H' l vs'/\j9 S x=(vs'[g]?).getD .non):=fun s x hx=>by
  obtain⟨l,hl,rfl⟩:=F.inL hp (List.mem_append.mpr (.inl hx))
  exact⟨A.ea l.name,_,S.g l.name,sZ F.whole.nod hl,wB F.whole.nod hl,bT.of (s _ _ (W.lists l hl)),by unfold j9;rw [List.getElem?_map]⟩
 refine⟨_,rfl,A.f,_,dx,fs,_,rfl,h1,T.aQ.c,T.aQ.na.1,h2.has ("net",.ref A.n) (by simp),A.n,dxn,fsn,rfl,Wn.obj,Wn.fl.no _ (by decide +kernel),_,rfl,A.n,ls,ps,p.name,rfl,N,.inl ⟨p,hp,rfl,fun H1 q s1 P1=>?_⟩⟩
 obtain⟨dxp,tn,ti,to,p1,p2,p3,p4⟩:=id P1.ex
 have W1:=W.same s1
 have hI:=(F.pok p hp).2.2.1
 have hO:=rC S p (F.pok p hp)
 refine⟨_,rfl,q,cls t p.kind,dxp,_,u5 K t p.kind,rfl,p1,sJ _ _ _ _ (by decide +kernel) (by decide +kernel) (by decide +kernel) (by decide +kernel),N7 T p.kind,?_⟩
 refine⟨_,rfl,A.f,dx,fs,rfl,s1 _ _ h1,h2.no _ (by decide +kernel),_,rfl,A.f,A.n,A.E,A.G,A.Kp,A.D,A.Rw,q,_,_,p.kind,_,_,_,p.ins,j9 S,rfl,W1.at',W1.ever,W1.gone,P1,(by have:=Bt p.kind;omega),hh1 s1,fun d hd=>?_⟩
 have s2:aK H1 (upd H1 d (.lst (p.ins.map (j9 S)))):=aF hd
 refine⟨q,d,_,_,_,_,bc S p,rfl,P1.same s2,by rw [lM];exact hI,bT.of aA,hO,fun H3 s3=>?_⟩
 have s23:=s2.trans s3
 have k':=k H3 (s1.trans s23)
 have hlt:=jK hO
 unfold f9 at k'
 unfold Ji
 cases hf:(places p.kind (bc S p)).find? (ue (bc S p)) with
 | none=>
  rw [hf] at k'
  exact⟨_,rfl,_,rfl,lG k'⟩
 | some j=>
  rw [hf] at k'
  have hq:j <p.ins.length:=by have:=hlt j (List.mem_of_find?_eq_some hf);unfold bc at this;rwa [lM] at this
  have k':Q (V.str p.ins[j]) H3:=by simpa only [List.getElem?_eq_getElem hq,Option.map_some,Option.getD_some] using k'
  exact⟨_,rfl,_,rfl,dR ⟨_,rfl,q,_,dxp,_,_,rfl,s23 _ _ p1,iz T p.kind,wO T p.kind,rJ _ _ _ _,_,rfl,ti,p.ins.map V.str,j,_,rfl,rfl,s23.seqT p3,aM (j:=j) (by rw [List.getElem?_map,List.getElem?_eq_getElem hq];rfl),k'⟩⟩
theorem J8 (T:Txt w K mg t) {i:Nat} (hi:i <11):MethAt P w K mg base Aw 2 (cls t i) "worked" (dW K t i):=match i,hi with
 | 0,_=>⟨_,_,_,T.ir.c,(T.jN.me T.ir.me.2.2.2.2.1),T.jN.b,iG.mono (k:=2) (zU T) (by decide)⟩
 | 1,_=>⟨_,_,_,T.gY.c,(T.jU.me T.gY.me.2.2.2.2.1),T.jU.b,iG.mono (k:=2) (zZ T) (by decide)⟩
 | 2,_=>⟨_,_,_,T.gP.c,(T.jR.me T.gP.me.2.2.2.2.1),T.jR.b,iG.mono (k:=2) (zV T) (by decide)⟩
 | 3,_=>⟨_,_,_,T.gO.c,(T.jW.me T.gO.me.2.2.2.2.1),T.jW.b,iG.mono (k:=2) (zL T) (by decide)⟩
 | 4,_=>⟨_,_,_,T.gZ.c,(T.jP.me T.gZ.me.2.2.2.2.1),T.jP.b,iG.mono (k:=2) (zA T) (by decide)⟩
 | 5,_=>⟨_,_,_,T.ig.c,(T.jO.me T.ig.me.2.2.2.2.1),T.jO.b,iG.mono (k:=2) (yH T) (by decide)⟩
 | 6,_=>⟨_,_,_,T.j6.c,(T.lA.me T.j6.me.2.2.2.2.1),T.lA.b,iG.mono (k:=2) (Az T) (by decide)⟩
 | 7,_=>⟨_,_,_,T.il.c,(T.jQ.me T.il.me.2.2.2.2.1),T.jQ.b,iG.mono (k:=2) (zf T) (by decide)⟩
 | 8,_=>⟨_,_,_,T.fc.c,(T.jm.me T.fc.me.2.2.2.2.1),T.jm.b,iG.mono (k:=2) (yz T) (by decide)⟩
 | 9,_=>⟨_,_,_,T.dU.c,(T.jd.me T.dU.me.2.2.2.2.1),T.jd.b,iG.mono (k:=2) (wM T) (by decide)⟩
 | 10,_=>⟨_,_,_,T.fB.c,(T.jw.me T.fB.me.2.2.2.2.1),T.jw.b,iG.mono (k:=2) (yx T) (by decide)⟩
theorem Ul (ns ws:List Int) (kp:Int):∀pv∈cj 0 ns ws kp,∃q:Nat,pv.1=(q:Int)/\q <cO 0:=by
 intro pv h
 simp [cj] at h
 subst h
 exact⟨0,rfl,by decide⟩
theorem Ux (ns ws:List Int) (kp:Int):∀pv∈cj 1 ns ws kp,∃q:Nat,pv.1=(q:Int)/\q <cO 1:=by
 intro pv h
 simp [cj] at h
theorem U4 (ns ws:List Int) (kp:Int):∀pv∈cj 2 ns ws kp,∃q:Nat,pv.1=(q:Int)/\q <cO 2:=by
 intro pv h
 simp [cj] at h
 subst h
 exact⟨0,rfl,by decide⟩
theorem U5 (ns ws:List Int) (kp:Int):∀pv∈cj 3 ns ws kp,∃q:Nat,pv.1=(q:Int)/\q <cO 3:=by
 intro pv h
 simp [cj] at h
 rcases h with rfl | rfl
 ·exact⟨0,rfl,by decide⟩
 ·exact⟨1,rfl,by decide⟩
theorem UT (ns ws:List Int) (kp:Int):∀pv∈cj 4 ns ws kp,∃q:Nat,pv.1=(q:Int)/\q <cO 4:=by
 intro pv h
 simp [cj] at h
 subst h
 exact⟨0,rfl,by decide⟩
theorem U9 (ns ws:List Int) (kp:Int):∀pv∈cj 5 ns ws kp,∃q:Nat,pv.1=(q:Int)/\q <cO 5:=by
 intro pv h
 simp [cj] at h
 subst h
 exact⟨0,rfl,by decide⟩
theorem Ub (ns ws:List Int) (kp:Int):∀pv∈cj 6 ns ws kp,∃q:Nat,pv.1=(q:Int)/\q <cO 6:=by
 intro pv h
 simp [cj] at h
 subst h
 exact⟨0,rfl,by decide⟩
theorem Ud (ns ws:List Int) (kp:Int):∀pv∈cj 7 ns ws kp,∃q:Nat,pv.1=(q:Int)/\q <cO 7:=by
 intro pv h
 simp [cj] at h
 subst h
 exact⟨0,rfl,by decide⟩
theorem U3 (ns ws:List Int) (kp:Int):∀pv∈cj 8 ns ws kp,∃q:Nat,pv.1=(q:Int)/\q <cO 8:=by
 intro pv h
 simp [cj] at h
 rcases h with rfl | rfl
 ·exact⟨0,rfl,by decide⟩
 ·exact⟨1,rfl,by decide⟩
theorem Uv (ns ws:List Int) (kp:Int):∀pv∈cj 9 ns ws kp,∃q:Nat,pv.1=(q:Int)/\q <cO 9:=by
 intro pv h
 simp [cj] at h
 subst h
 exact⟨0,rfl,by decide⟩
theorem Rz (ns ws:List Int) (kp:Int):∀pv∈cj 10 ns ws kp,∃q:Nat,pv.1=(q:Int)/\q <cO 10:=by
 intro pv h
 simp [cj] at h
 subst h
 have h0:=Int.emod_nonneg (g0 ws) (show(2:Int)≠0 by decide)
 have h1:=Int.emod_lt_of_pos (g0 ws) (show(0:Int) <2 by decide)
 exact⟨(g0 ws % 2).toNat,by show g0 ws % 2=_;omega,by show(g0 ws % 2).toNat <2;omega⟩
theorem Dq {i:Nat} (hi:i<=10) (ns ws:List Int) (kp:Int):∀pv∈cj i ns ws kp,∃q:Nat,pv.1=(q:Int)/\q <cO i:=by
 match i,hi with
 | 0,_=>exact Ul ns ws kp
 | 1,_=>exact Ux ns ws kp
 | 2,_=>exact U4 ns ws kp
 | 3,_=>exact U5 ns ws kp
 | 4,_=>exact UT ns ws kp
 | 5,_=>exact U9 ns ws kp
 | 6,_=>exact Ub ns ws kp
 | 7,_=>exact Ud ns ws kp
 | 8,_=>exact U3 ns ws kp
 | 9,_=>exact Uv ns ws kp
 | 10,_=>exact Rz ns ws kp
 | (n+11),z=>exact absurd z (by omega)
theorem yU (i:Nat) (ns ws:List Int) (kp:Int):(cj i ns ws kp).length<=2:=match i with
 | 0=>by simp [cj]
 | 1=>by simp [cj]
 | 2=>by simp [cj]
 | 3=>by simp [cj]
 | 4=>by simp [cj]
 | 5=>by simp [cj]
 | 6=>by simp [cj]
 | 7=>by simp [cj]
 | 8=>by simp [cj]
 | 9=>by simp [cj]
 | n+10=>by simp [cj]
noncomputable def nameAt (xs:List Str) (q:Nat):V:=V.str ((xs[q]?).getD Str.empty)
theorem Rb {H:Hp} {Q:VK} {Ex:XK} {f n E G Kp D Rw:Addr} {rd dd:List (Key×V)} {y:Str} (N:qd K t H f n E G Kp D Rw) (hR:H Rw=some (.dK rd)) (hD:H D=some (.dK dd))
  (k:(bW rd (Sum.inr y)=none/\Q (.bl false) H)∨∃(l:Addr) (vs':List V) (g:Nat),bW rd (Sum.inr y)=some (.ref l)/\bW dd (Sum.inr y)=some (.int g)/\bT K H l vs'/\Q (.bl (decide (g=vs'.length))) H):dX K t [.ref f,.str y] H Q Ex:=by
 unfold dX
 exact⟨f,n,E,G,Kp,D,Rw,rd,dd,y,rfl,N,hR,hD,k⟩
theorem Vi {i:Nat} (h0:i≠0) (hi:i <11) (h9:i≠9):cV i=cI i:=by
 match i,h0,hi with
 | 1,_,_=>rfl
 | 2,_,_=>rfl
 | 3,_,_=>rfl
 | 4,_,_=>rfl
 | 5,_,_=>rfl
 | 6,_,_=>rfl
 | 7,_,_=>rfl
 | 8,_,_=>rfl
 | 9,_,_=>exact absurd rfl h9
 | 10,_,_=>rfl
theorem En {S:FS} {p:PD} (ok:ph p) (hl:f9 p.kind p.ins (bc S p)=.non):∀q∈places p.kind (bc S p),∃x n,p.ins[q]?=some x/\(bc S p)[q]?=some (.int n)/\(S.ev x)[S.g x]?=some n:=by
 have hO:=rC S p ok
 have hf:(places p.kind (bc S p)).find? (ue (bc S p))=none:=by
  cases hf:(places p.kind (bc S p)).find? (ue (bc S p)) with
  | none=>rfl
  | some j=>
   unfold f9 at hl
   rw [hf] at hl
   have hq:j <p.ins.length:=by have:=jK hO j (List.mem_of_find?_eq_some hf);unfold bc at this;rwa [lM] at this
   simp only [List.getElem?_eq_getElem hq,Option.map_some,Option.getD_some] at hl
   cases hl
 intro q hq
 have h1:=List.find?_eq_none.mp hf q hq
 have hlt:=jK hO q hq
 have hlt':q <p.ins.length:=by unfold bc at hlt;rwa [lM] at hlt
 have e:(bc S p)[q]?=some (j9 S p.ins[q]):=by unfold bc;rw [List.getElem?_map,List.getElem?_eq_getElem hlt'];rfl
 refine⟨p.ins[q],?_⟩
 unfold ue at h1
 rw [e] at h1 ⊢
 unfold j9 at h1 ⊢
 cases h0:(S.ev p.ins[q])[S.g p.ins[q]]? with
 | none=>rw [h0] at h1;exact absurd (by simp) h1
 | some n=>exact⟨n,List.getElem?_eq_getElem hlt',by simp,rfl⟩
theorem Lr {b:Nat} {ls:List aH} {ps:List PD} {S:FS} (F:sH ls ps) (O:Mi b ls ps S) {p:PD} (hp:p∈ps) (hl:f9 p.kind p.ins (bc S p)=.non) (he:vX S p=false):(ud S p).length=cV p.kind/\S8 (ud S p)/\
  (p.kind≠0->(places p.kind (bc S p)).map (fun q=>((bc S p)[q]?).getD .non)=(ud S p).map V.int)/\(p.kind=0->∃w,(S.r p.name)[S.d p.name]?=some w/\ud S p=[w]):=by
 have ok:=F.pok p hp
 have hn:=En ok hl
 by_cases h0:p.kind=0
 ·have hd:=O.dl p hp h0
  have hlt:S.d p.name <(S.r p.name).length:=by
   unfold vX at he
   simp [h0] at he
   omega
  have e:=List.getElem?_eq_getElem hlt
  have ew:ud S p=[(S.r p.name)[S.d p.name]]:=by unfold ud;rw [if_pos h0,e];rfl
  refine⟨by rw [ew,h0];rfl,fun w hw=>?_,fun z=>absurd h0 z,fun _=>⟨_,e,ew⟩⟩
  rw [ew,List.mem_singleton] at hw
  subst hw
  exact O.rb p hp h0 _ (List.getElem_mem hlt)
 ·have ew:ud S p=(places p.kind (bc S p)).map fun q=>Rc (((bc S p)[q]?).getD .non):=by unfold ud;rw [if_neg h0]
  refine⟨?_,fun w hw=>?_,fun _=>?_,fun z=>absurd z h0⟩
  ·rw [ew,lM]
   by_cases h9:p.kind=9
   ·have h3:=hn
    unfold places at h3 ⊢
    rw [if_pos h9] at h3 ⊢
    split
    ·rw [h9];rfl
    ·rename_i hno
     obtain⟨x,n,_,h3,_⟩:=h3 0 (by split <;> simp)
     cases hs:bc S p with
     | nil=>rw [hs] at h3;cases h3
     | cons a r=>
      rw [hs] at h3
      have:a=.int n:=by simpa using h3
      exact absurd (by rw [hs,this]) (hno n r)
   ·unfold places
    rw [if_neg h9,List.length_range,(rC S p ok).1,Vi h0 ok.1 h9]
  ·rw [ew] at hw
   obtain⟨q,hq,rfl⟩:=List.mem_map.mp hw
   obtain⟨x,n,hx,h3,h4⟩:=hn q hq
   rw [h3]
   show 0<=n/\n <1000000000
   obtain⟨l,hll,rfl⟩:=F.inL hp (List.mem_append.mpr (.inl (List.mem_of_getElem? hx)))
   exact O.vb l hll n (List.mem_of_getElem? h4)
  ·rw [ew,List.map_map]
   refine List.map_congr_left fun q hq=>?_
   obtain⟨x,n,_,h3,_⟩:=hn q hq
   show _=V.int (Rc _)
   rw [h3]
   rfl
theorem Hs {S:FS} {p:PD} (h:f9 p.kind p.ins (bc S p)≠.non):cH S p=none:=by unfold cH;rw [if_pos h]
theorem JX {S:FS} {p:PD} (h:vX S p=true):cH S p=none:=by unfold cH;split <;> simp [h]
inductive uw (K:PySem.W.Frag) (t:mW) (vs:List V) (H:Hp) (Q:VK):Prop where
 | mk:∀(b:Nat) (A:ww) (ls:List aH) (ps:List PD) (S:FS) (p:PD),vs=[.ref A.f,.str p.name]->mY K t H A.n ls ps->jr K t H A ls ps S->p∈ps->Mi b ls ps S->((cH S p=none->∀H',aK H H'->Q .non H'))->(∀dd,cH S p=some dd->∀H' U,aK H H'->H U=none->pP (A.cells ls ps) H' U dd->Q (.ref U) H')->uw K t vs H Q
@[irreducible] noncomputable def iJ (K:PySem.W.Frag) (t:mW):Sp:=fun vs H Q _=>uw K t vs H Q
noncomputable abbrev n8:List Str:=["self", "name", "part", "heads", "places", "values", "answer", "given"]
theorem uU (T:Txt w K mg t):FO P w K mg base 5 t.qR ["self", "name"] (iJ K t):=by
 have sc:=T.oJ.sc n8
 refine T.oJ.F.ok sc (fun vs H Q E h=>?_) (fun cdv A outer s H vs Q E hr h=>?_)
 ·unfold iJ at h
  obtain⟨b,A,ls,ps,S,p,rfl,_⟩:=h
  rfl
 ·unfold iJ at h
  obtain⟨b,A,ls,ps,S,p,rfl,N,W,hp,O,kn,k⟩:=h
  refine⟨_,(au (bQ (PW.pt (pJ (kO (Jw (HW (pv 0) T.aQ T.aQ.me.2.2.2.2.2.1 (yw T) T.mU hr (aa (pv 1) ak aj)))) (lg (fJ (HW (pv 0) T.aQ T.aQ.me.2.2.2.1 (uN T) T.jC hr (aa (pv 1) ak aj))))))
    (az (aN Cw))
    bz)
   (au (sN sc 2 (HW (bD (pv 0) rfl) T.bw T.bw.me.2.2.2.2.2.2.2.1 (mC T) T.iV hr (aa (pv 1) ak aj)))
   (au (sN sc 3 (HW (pv 0) T.aQ T.aQ.me.2.2.2.2.1 (tV T) T.lH hr (aa (pv 2) ak aj)))
   (au (sN sc 4 (vO (CX:=Aw) (k:=1) (E:=E0) (pv 2) (hr.mono (by decide)) gQ (aa (pv 3) ak aj)))
   (au (qP (i:=5) [3] n8 (bA (inClass (top 16) 9)) rfl sc.nd rfl (dN (pv 4)) (fun _ _ _ _ _=>jo) (fun _ _ _ _ _=>(aY (Mz (K:=K) rfl) (pv 1) (pv 0) (fun _ _=>rfl))))
   (au (fX (bQ (kO (wA hr.u1 (pv 1) (bD (pv 0) rfl)))
    (az (sN sc 5 (bF (aa (aY aW (cW hr.u1 (bD (pv 0) rfl) (pv 1) (fun _ _=>rfl)) (cW hr.u1 (bD (pv 0) rfl) (pv 1) (fun _ _=>rfl)) (fun _ _=>rfl)) ak aD))))
    bz))
   (au (sN sc 6 (vO (CX:=Aw) (k:=2) (E:=E0) (pv 2) (hr.mono (by decide)) gQ (aa (pv 5) (aa (cW hr.u1 (bD (pv 0) rfl) (pv 1) (fun _ _=>rfl)) ak aD) aj)))
   (au (Ly (i:=7) ["place", "value"] [2] n8 (bA (inClass (top 16) 9)) rfl sc.nd rfl (dN (aY dD (pv 6) aq (fun _ _=>rfl))) (fun _ _ _ _ _=>Jc (K:=K) (n:=2) rfl rfl (gj (qb (i:=0) (show(["place", "value", "part"]:List Str).Nodup by decide +kernel) rfl (Or.inl rfl) (.inr rfl)) (gj (qb (i:=1) (show(["place", "value", "part"]:List Str).Nodup by decide +kernel) rfl (Or.inl rfl) (.inr rfl)) u9))) (fun _ _ _ _ _=>jo) (fun _ _ _ _ _=>(cZ (aa (aY (JD (K:=K) rfl) (CT (K:=K) rfl (pv 2) rfl) (pv 0) (fun _ _=>rfl)) (aa (pv 1) ak aj) aD))))
   (az (aN (cZ (aa (j5 [2] n8 (bA (inClass (top 16) 9)) rfl (dN (pv 4)) (fun _ _ _ _ _=>jo) (fun _ _ _ _ _=>(aY (JD (K:=K) rfl) (CT (K:=K) rfl (pv 1) rfl) (pv 0) (fun _ _=>rfl)))) (aa (pv 7) (aa (aY dD (pv 6) aq (fun _ _=>rfl)) ak aD) aj) fG)))))))))))),?_⟩
  obtain⟨dxn,fsn,R,F,Pd,Gn,Tk,FL,PL,Wn⟩:=id N
  have F:=Wn.fit
  obtain⟨dx,fs,h1,h2⟩:=id W.at'.ex
  have ok:=F.pok p hp
  have hO:=rC S p ok
  have hI:=ok.2.2.1
  have hh1:∀{H':Hp},aK H H'->(∀x∈p.ins,∃(l:Addr) (vs':List V) (g:Nat),bW (wy A.ea ls) (Sum.inr x)=some (.ref l)/\bW (cY S.g ls) (Sum.inr x)=some (.int g)/\bT K H' l vs'/\j9 S x=(vs'[g]?).getD .non):=fun s x hx=>by
   obtain⟨l,hl,rfl⟩:=F.inL hp (List.mem_append.mpr (.inl hx))
   exact⟨A.ea l.name,_,S.g l.name,sZ F.whole.nod hl,wB F.whole.nod hl,bT.of (s _ _ (W.lists l hl)),by unfold j9;rw [List.getElem?_map]⟩
  have hz:sizeLine=16777216:=sizeLine_eq
  have hpl:(places p.kind (bc S p)).length<=3:=places_len hO
  refine⟨_,rfl,A.f,dx,fs,rfl,h1,h2.no _ (by decide +kernel),_,rfl,A,ls,ps,S,p,rfl,N,W,hp,fun H1 s1=>?_⟩
  by_cases hlk:f9 p.kind p.ins (bc S p)≠.non
  ·have e:(!decide (f9 p.kind p.ins (bc S p)=V.non))=true:=by simp [hlk]
   refine⟨_,rfl,?_⟩
   rw [e]
   exact lG (lG (kn (Hs hlk) H1 s1))
  have hlk:=Classical.not_not.mp hlk
  rw [hlk]
  have W1:=W.same s1
  refine⟨_,rfl,dR ⟨_,rfl,A.f,dx,fs,rfl,s1 _ _ h1,h2.no _ (by decide +kernel),_,rfl,?_⟩⟩
  have vd:=sX (k:=fun x=>(S.d x:Int)) F.pnd hp
  cases he:vX S p with
  | true=>
   have h0:p.kind=0/\S.d p.name=(S.r p.name).length:=by unfold vX at he;simpa using he
   refine Rb W1.at' W1.rows W1.done (.inr ⟨_,_,S.d p.name,yM F.pnd hp h0.1,vd,bT.of (W1.rlst p hp h0.1),?_⟩)
   rw [decide_eq_true (by rw [lM];exact h0.2)]
   exact⟨_,rfl,lG (kn (JX he) H1 s1)⟩
  | false=>
  obtain⟨lw,hB,hv,hw0⟩:=Lr F O hp hlk he
  have k':=k _ (show cH S p=some _ by unfold cH;rw [if_neg (by simp [hlk]),if_neg (by simp [he])])
  have hwl:=Dq (show p.kind<=10 by have:=ok.1;omega) p.nums (ud S p) (S.k p.name)
  have hw2:=yU p.kind p.nums (ud S p) (S.k p.name)
  have pick:∀(Q':VK) (E':XK),Q' (.bl false) H1->dX K t [.ref A.f,.str p.name] H1 Q' E':=by
   intro Q' E' z
   refine Rb W1.at' W1.rows W1.done ?_
   by_cases h0:p.kind=0
   ·refine .inr ⟨_,_,S.d p.name,yM F.pnd hp h0,vd,bT.of (W1.rlst p hp h0),?_⟩
    obtain⟨w,ew,_⟩:=hw0 h0
    have:=(List.getElem?_eq_some_iff.mp ew).1
    rw [decide_eq_false (by rw [lM];omega)]
    exact z
   ·exact .inl ⟨Im F.pnd hp h0,z⟩
  refine pick _ _ ?_
  clear pick
  refine⟨_,rfl,dR ?_⟩
  have Wn1:=Wn.same s1
  refine⟨_,rfl,A.f,_,dx,fs,_,rfl,s1 _ _ h1,T.aQ.c,T.aQ.na.1,h2.has ("net",.ref A.n) (by simp),A.n,dxn,fsn,rfl,Wn1.obj,Wn1.fl.no _ (by decide +kernel),_,rfl,A.n,ls,ps,p.name,rfl,Wn1.s,.inl ⟨p,hp,rfl,fun H2 q s2' hP=>?_⟩⟩
  have s2:=s1.trans s2'
  have W2:=W.same s2
  obtain⟨dxp,tn,ti,to,p1,p2,p3,p4⟩:=id hP.ex
  clear s2' W1 Wn1
  refine⟨_,rfl,A.f,dx,fs,rfl,s2 _ _ h1,h2.no _ (by decide +kernel),_,rfl,A.f,A.n,A.E,A.G,A.Kp,A.D,A.Rw,q,_,_,p.kind,_,_,_,p.ins,j9 S,rfl,W2.at',W2.ever,W2.gone,hP,(by have:=Bt p.kind;omega),hh1 s2,fun d hd=>?_⟩
  have s3':=aF (o:=.lst (bc S p)) hd
  have ed3:(upd H2 d (.lst (p.ins.map (j9 S)))) d=some (.lst (bc S p)):=aA
  change aK H2 (upd H2 d (.lst (p.ins.map (j9 S)))) at s3'
  generalize upd H2 d (.lst (p.ins.map (j9 S)))=H3 at s3' ed3 ⊢
  have s3:=s2.trans s3'
  refine⟨_,rfl,q,cls t p.kind,dxp,_,lU K t p.kind,rfl,s3' _ _ p1,sJ _ _ _ _ (by decide +kernel) (by decide +kernel) (by decide +kernel) (by decide +kernel),BK T p.kind,_,rfl,q,d,_,_,_,_,bc S p,rfl,hP.same s3',by rw [lM];exact hI,bT.of ed3,hO,fun H4 L s4' nL eL=>?_⟩
  have s24:=s3'.trans s4'
  have s4:=s3.trans s4'
  have ed4:=s4' _ _ ed3
  refine⟨_,rfl,L,rfl,⟨_,bT.of eL⟩,sG (K:=K) (a:=L) (xs:=(places p.kind (bc S p)).map nV) (fun j ys H'=>H'=H4/\ys=((places p.kind (bc S p)).take j).map (fun q=>((bc S p)[q]?).getD .non)) (by rw [lM];omega) ⟨rfl,rfl⟩ (fun j ys H' ⟨_,e⟩=>by rw [e,lM,List.length_take];omega) (fun j ys H' _ ⟨e,_⟩=>by rw [e];exact bT.of eL) ?_ ?_⟩
  ·rintro j v ys H' hv' ⟨e',rfl⟩
   subst e'
   rw [List.getElem?_map] at hv'
   obtain⟨r,hr',rfl⟩:=Option.map_eq_some_iff.mp hv'
   have hql:r <(bc S p).length:=jK hO r (List.mem_of_getElem? hr')
   refine yes ⟨_,rfl,_,rfl,d,bc S p,r,_,rfl,rfl,bT.of ed4,aM (j:=r) (List.getElem?_eq_getElem hql),rfl,?_⟩
   rw [List.take_succ,hr',Option.toList_some,List.map_append,List.map_cons,List.map_nil,List.getElem?_eq_getElem hql]
   rfl
  rintro ys H' ⟨e',rfl⟩ V1 hV1
  subst e'
  rw [lM,List.take_length]
  have s5':=aF (o:=.lst ((places p.kind (bc S p)).map fun q=>((bc S p)[q]?).getD .non)) hV1
  have eV:(upd H' V1 (.lst ((places p.kind (bc S p)).map fun q=>((bc S p)[q]?).getD .non))) V1=some (.lst ((places p.kind (bc S p)).map fun q=>((bc S p)[q]?).getD .non)):=aA
  generalize upd H' V1 (.lst ((places p.kind (bc S p)).map fun q=>((bc S p)[q]?).getD .non))=H5 at s5' eV ⊢
  have s25:=s24.trans s5'
  have s5:=s4.trans s5'
  have W5:=W.same s5
  refine⟨fun σ' H6=>∃V2,aK H H6/\aK H2 H6/\aK H' H6/\σ'=[some (.ref A.f),some (.str p.name),some (.ref q),some (.ref d),some (.ref L),some (.ref V2),none,none]/\H6 V2=some (.lst ((ud S p).map V.int)),?_,?_⟩
  ·refine⟨_,rfl,_,rfl,A.f,_,dx,fs,_,rfl,s5 _ _ h1,T.aQ.c,T.aQ.na.2.2.2.2.2.1,h2.has ("rows",.ref A.Rw) (by simp),A.Rw,_,rfl,dZ.k (k:=Sum.inr p.name) W5.rows,?_⟩
   by_cases h0:p.kind=0
   ·obtain⟨w,ew,eW⟩:=hw0 h0
    have v1:=yM (ra:=A.ra) F.pnd hp h0
    rw [v1,eW]
    refine⟨_,rfl,lG ?_⟩
    refine⟨_,rfl,A.f,_,dx,fs,_,rfl,s5 _ _ h1,T.aQ.c,T.aQ.na.2.2.2.2.2.1,h2.has ("rows",.ref A.Rw) (by simp),_,rfl,A.Rw,_,rfl,(by rw [<-v1];exact dZ.k (k:=Sum.inr p.name) W5.rows),?_⟩
    refine⟨_,rfl,A.f,_,dx,fs,_,rfl,s5 _ _ h1,T.aQ.c,T.aQ.na.2.2.2.2.1,h2.has ("done",.ref A.D) (by simp),_,rfl,A.D,_,rfl,(by rw [<-vd];exact dZ.k (k:=Sum.inr p.name) W5.done),?_⟩
    refine⟨A.ra p.name,_,S.d p.name,_,rfl,rfl,bT.of (W5.rlst p hp h0),aM (j:=S.d p.name) (by rw [List.getElem?_map,ew];rfl),jy,fun V2 hV2=>?_⟩
    exact⟨V2,s5.trans (aF hV2),s25.trans (aF hV2),s5'.trans (aF hV2),rfl,aA⟩
   ·rw [Im F.pnd hp h0]
    exact⟨_,rfl,dR ⟨V1,s5,s25,s5',rfl,by rw [<-hv h0];exact eV⟩⟩
  rintro σ' H6 ⟨V2,s6,s26,s46,rfl,eV2⟩
  clear W5 W2 s25 s24 s5 s5' s4 s3 s3' eV ed4 ed3
  have W6:=W.same s6
  have hkp:=sX (k:=S.k) F.pnd hp
  refine⟨_,rfl,q,cls t p.kind,dxp,_,dW K t p.kind,rfl,s26 _ _ p1,sJ _ _ _ _ (by decide +kernel) (by decide +kernel) (by decide +kernel) (by decide +kernel),J8 T ok.1,_,rfl,_,rfl,A.f,_,dx,fs,_,rfl,s6 _ _ h1,T.aQ.c,T.aQ.na.2.2.2.1,h2.has ("kept",.ref A.Kp) (by simp),_,rfl,A.Kp,_,rfl,(by rw [<-hkp];exact dZ.k (k:=Sum.inr p.name) W6.kept),?_⟩
  refine⟨q,V2,_,p.nums,_,_,ud S p,S.k p.name,rfl,hP.same s26,ok.2.1,bT.of eV2,lw,hB,fun H7 U0 L0 rs s7 nL0 eU0 eL0 tU=>?_⟩
  have s57:=s6.trans s7
  have s27:=s26.trans s7
  have eL7:=s7 _ _ (s46 _ _ eL)
  have hlr:rs.length=(cj p.kind p.nums (ud S p) (S.k p.name)).length:=by have:=Paired.length tU;unfold Ew at this;rw [lM] at this;exact this
  clear W6
  refine⟨_,rfl,U0,_,0,_,rfl,rfl,gK.of eU0,aM (j:=0) rfl,L0,rfl,⟨_,bT.of eL0⟩,?_⟩
  refine zM (K:=K) (a:=L0) (xs:=rs.map V.ref) (fun j ys H8=>aK H7 H8/\∃qs:List Addr,ys=qs.map V.ref/\iW H8 qs (((cj p.kind p.nums (ud S p) (S.k p.name)).take j).map fun pv=>[.str (strAt p.outs pv.1.toNat),.int pv.2])) (by rw [lM];omega) ⟨aK.refl _,[],rfl,.nil⟩ ?_ (fun j ys H8 _ ⟨e,_⟩=>e.seq (bT.of eL0)) ?_ ?_
  ·rintro j ys H8 ⟨_,qs,rfl,tq⟩
   have:=Paired.length tq
   rw [lM,List.length_take] at this
   rw [lM]
   omega
  ·rintro j v ys H8 hj ⟨s8,qs,rfl,tq⟩
   rw [List.getElem?_map] at hj
   obtain⟨r,hr',rfl⟩:=Option.map_eq_some_iff.mp hj
   have hjl:j <(cj p.kind p.nums (ud S p) (S.k p.name)).length:=by have:=(List.getElem?_eq_some_iff.mp hr').1;omega
   obtain⟨pv,hpv⟩:∃pv,(cj p.kind p.nums (ud S p) (S.k p.name))[j]?=some pv:=⟨_,List.getElem?_eq_getElem hjl⟩
   have hr2:H7 r=some (.tup [.int pv.1,.int pv.2]):=by
    obtain⟨vs2,z1,z2⟩:=zp tU hr'
    unfold Ew at z1
    rw [List.getElem?_map,hpv] at z1
    cases z1
    exact z2
   obtain⟨o,ho1,ho2⟩:=hwl _ (List.mem_of_getElem? hpv)
   have ho3:o <p.outs.length:=by rw [ok.2.2.2.1];exact ho2
   have hn:strAt p.outs o=p.outs[o]:=by unfold strAt;rw [List.getElem?_eq_getElem ho3];rfl
   refine⟨r,_,rfl,gK.of (s8 _ _ hr2),rfl,_,_,rfl,_,_,rfl,rfl,rfl,?_⟩
   refine yes ⟨_,rfl,q,_,dxp,_,_,rfl,s8 _ _ (s27 _ _ p1),iz T p.kind,El T p.kind,Ck _ _ _ _,_,rfl,to,p.outs.map V.str,_,.str (strAt p.outs o),rfl,rfl,s8.seqT (s27.seqT p4),?_,_,rfl,jy,fun u hu=>⟨s8.trans (aF hu),qs ++ [u],by simp,?_⟩⟩
   ·rw [ho1,hn]
    exact aM (j:=o) (by rw [List.getElem?_map,List.getElem?_eq_getElem ho3];rfl)
   ·rw [List.take_succ,hpv,Option.toList_some,List.map_append]
    refine(iW.same (aF hu) tq).append (.cons ?_ .nil)
    show upd H8 u _ u=some (HO.tup [V.str (strAt p.outs pv.1.toNat),V.int pv.2])
    rw [ho1,Int.toNat_natCast]
    exact aA
  rintro ys H8 ⟨s8,qs,rfl,tq⟩ Lg hLg
  rw [lM,hlr,List.take_length] at tq
  have t9:=aF (o:=.lst (qs.map V.ref)) hLg
  have s9':=s8.trans t9
  have tq9:=iW.same t9 tq
  have eLg:(upd H8 Lg (.lst (qs.map V.ref))) Lg=some (.lst (qs.map V.ref)):=aA
  generalize upd H8 Lg (.lst (qs.map V.ref))=H9 at t9 s9' tq9 eLg ⊢
  have s9:=s57.trans s9'
  have s29:=s27.trans s9'
  have eL9:=s9' _ _ eL7
  have eU9:=s9' _ _ eU0
  refine⟨_,rfl,L,rfl,⟨_,bT.of eL9⟩,sG (K:=K) (a:=L) (xs:=(places p.kind (bc S p)).map nV) (fun j ys H'=>H'=H9/\ys=((places p.kind (bc S p)).take j).map (fun q=>V.str (strAt p.ins q))) (by rw [lM];omega) ⟨rfl,rfl⟩ (fun j ys H' ⟨_,e⟩=>by rw [e,lM,List.length_take];omega) (fun j ys H' _ ⟨e,_⟩=>by rw [e];exact bT.of eL9) ?_ ?_⟩
  ·rintro j v ys HX hv' ⟨e',rfl⟩
   subst e'
   rw [List.getElem?_map] at hv'
   obtain⟨r,hr',rfl⟩:=Option.map_eq_some_iff.mp hv'
   have hql:r <p.ins.length:=by have:=jK hO r (List.mem_of_getElem? hr');unfold bc at this;rwa [lM] at this
   have hn:strAt p.ins r=p.ins[r]:=by unfold strAt;rw [List.getElem?_eq_getElem hql];rfl
   refine yes ⟨_,rfl,q,_,dxp,_,_,rfl,s29 _ _ p1,iz T p.kind,wO T p.kind,rJ _ _ _ _,_,rfl,ti,p.ins.map V.str,r,.str (strAt p.ins r),rfl,rfl,s29.seqT p3,by rw [hn];exact aM (j:=r) (by rw [List.getElem?_map,List.getElem?_eq_getElem hql];rfl),rfl,?_⟩
   rw [List.take_succ,hr',Option.toList_some,List.map_append]
   rfl
  rintro ys H10 ⟨e',rfl⟩ La hLa
  subst e'
  rw [lM,List.take_length]
  have s10':=aF (o:=.lst ((places p.kind (bc S p)).map fun q=>V.str (strAt p.ins q))) hLa
  refine⟨_,rfl,_,rfl,U0,_,1,_,rfl,rfl,gK.of (s10' _ _ eU9),aM (j:=1) rfl,jy,fun U hU=>?_⟩
  refine k' _ U ((s9.trans s10').trans (aF hU)) ((s9.trans s10').free hU) ⟨La,Lg,qs,aA,?_,aF hU _ _ (s10' _ _ eLg),?_,W.cell (s9.free hLa),W.cell ((s57.trans s8).free hLg)⟩
  ·rw [List.map_map]
   exact aF hU _ _ aA
  ·rw [List.map_map]
   exact iW.same (s10'.trans (aF hU)) tq9
theorem Kq (g:Str->Nat) {ls:List aH} {x:Str} (hx:x∈ls.map (·.name)) (v:Nat):putK (cY g ls) (Sum.inr x) (.int (v:Nat))=cY (fun y=>if y=x then v else g y) ls:=by
 unfold putK
 rw [if_pos (by
  obtain⟨l,hl,rfl⟩:=List.mem_map.mp hx
  exact List.any_eq_true.mpr ⟨_,List.mem_map.mpr ⟨l,hl,rfl⟩,by simp⟩)]
 unfold cY
 rw [List.map_map]
 refine List.map_congr_left fun l _=>?_
 by_cases h:l.name=x
 ·simp [h]
 ·simp [h]
theorem By (g:Str->Int) {ps:List PD} {x:Str} (hx:x∈ps.map (·.name)) (v:Int):putK (bU g ps) (Sum.inr x) (.int v)=bU (fun y=>if y=x then v else g y) ps:=by
 unfold putK
 rw [if_pos (by
  obtain⟨l,hl,rfl⟩:=List.mem_map.mp hx
  exact List.any_eq_true.mpr ⟨_,List.mem_map.mpr ⟨l,hl,rfl⟩,by simp⟩)]
 unfold bU
 rw [List.map_map]
 refine List.map_congr_left fun l _=>?_
 by_cases h:l.name=x
 ·simp [h]
 ·simp [h]
noncomputable def jl (S:FS) (x:Str) (dd:iH):FS:=⟨fun y=>S.ev y ++ (dd.gv.filter fun q=>decide (q.1=y)).map (·.2),fun y=>if y∈dd.tk then S.g y+1 else S.g y,fun y=>if y=x then dd.kv else S.k y,fun y=>if y=x then S.d y+1 else S.d y,S.r⟩
noncomputable def Gw (M:List Addr) (H H':Hp):Prop:=∀b,b∉M->H' b=H b
structure Dn (ls:List aH) (dd:iH):Prop where
 ntk:dd.tk.Nodup
 tin:∀x∈dd.tk,x∈ls.map (·.name)
 gin:∀q∈dd.gv,q.1∈ls.map (·.name)
 g2:dd.gv.length<=2
inductive xK (K:PySem.W.Frag) (t:mW) (vs:List V) (H:Hp) (Q:VK):Prop where
 | mk:∀(b:Nat) (A:ww) (ls:List aH) (ps:List PD) (S:FS) (p:PD) (U:Addr) (dd:iH),vs=[.ref A.f,.str p.name,.ref U]->sH ls ps->jr K t H A ls ps S->p∈ps->((∀l∈ls,(S.ev l.name).length<=b))->b<=100000->pP (A.cells ls ps) H U dd->Dn ls dd->(∀H',Gw (A.cells ls ps) H H'->jr K t H' A ls ps (jl S p.name dd)->Q .non H')->xK K t vs H Q
@[irreducible] noncomputable def jH (K:PySem.W.Frag) (t:mW):Sp:=fun vs H Q _=>xK K t vs H Q
theorem GX (T:Txt w K mg t):FO P w K mg base 1 t.wZ ["self", "name", "deed"] (jH K t):=by
 have sc:=T.wY.sc ["self", "name", "deed", "lane", "value"]
 refine T.wY.F.ok sc (fun vs H Q E h=>?_) (fun cdv A outer s H vs Q E hr h=>?_)
 ·unfold jH at h
  obtain⟨b,A,ls,ps,S,p,U,dd,rfl,_⟩:=h
  rfl
 ·unfold jH at h
  obtain⟨b,A,ls,ps,S,p,U,dd,rfl,F,W,hp,O,hb,⟨La,Lg,rs,hU,hLa,hLg,hT,na,ng⟩,⟨ntk,hin,hout,hg2⟩,k⟩:=h
  refine⟨_,(au (eO PassesOwn.never rfl (dN (aY dD (pv 2) aq (fun _ _=>rfl))) (gN sc 3)
    (az (Jg hr.u1 (bD (pv 0) rfl) (pv 3) aq Jz (fun _ _ _=>rfl))))
   (au (eO PassesOwn.never rfl (dN (aY dD (pv 2) aq (fun _ _=>rfl))) (Em rfl (gj (gN sc 3) (gj (gN sc 4) u9)))
    (az (bJ (Gg (cW hr.u1 (bD (pv 0) rfl) (pv 3) (fun _ _=>rfl)) (aa (pv 4) ak aj)))))
   (au (gw hr.u1 (bD (pv 0) rfl) (pv 1) (aY dD (pv 2) aq (fun _ _=>rfl)) rfl)
   (az (Jg hr.u1 (bD (pv 0) rfl) (pv 1) aq Jz (fun _ _ _=>rfl)))))),?_⟩
  have hl:sizeLine=16777216:=sizeLine_eq
  have l24:=F.l24
  have p16:=F.p16
  obtain⟨dx,fs,h1,h2⟩:=id W.at'.ex
  have hG:=W.gone
  have hn:=W.nod
  unfold ww.cells at hn na ng
  simp only [List.nodup_cons,List.mem_cons,List.mem_append,not_or] at hn na ng
  obtain⟨⟨nEG,nEK,nED,nER,nEE,nE2⟩,⟨nGK,nGD,nGR,nGE,nG2⟩,⟨nKD,nKR,nKE,nK2⟩,⟨nDR,nDE,nD2⟩,⟨nRE,nR2⟩,nA⟩:=hn
  obtain⟨nE1,nR1,nER1⟩:=List.nodup_append.mp nA
  refine⟨_,rfl,U,_,0,_,rfl,rfl,gK.of hU,aM (j:=0) rfl,La,rfl,⟨_,bT.of hLa⟩,fu (K:=K) (a:=La) (xs:=dd.tk.map V.str) (fun j σ H'=>H'=upd H A.G (.dK (cY (fun x=>if x∈dd.tk.take j then S.g x+1 else S.g x) ls))/\∃v3,σ=[some (.ref A.f),some (.str p.name),some (.ref U),v3,none]) ⟨?_,none,rfl⟩ ?_ ?_ ?_⟩
  ·have:cY (fun x=>if x∈dd.tk.take 0 then S.g x+1 else S.g x) ls=cY S.g ls:=by simp
   rw [this,Ds hG]
  ·rintro j σ H' _ ⟨rfl,_⟩
   exact bT.of (jj hG hLa (by intro _ z;cases z))
  ·rintro j x σ H' hx ⟨rfl,v3,rfl⟩
   rw [List.getElem?_map] at hx
   obtain⟨y,hy,rfl⟩:=Option.map_eq_some_iff.mp hx
   have hym:=hin y (List.mem_of_getElem? hy)
   have nin:y∉dd.tk.take j:=by
    have:=mV (f:=id) (xs:=dd.tk) (by rw [List.map_id];exact ntk) hy
    rwa [List.map_id] at this
   have vg:bW (cY (fun x=>if x∈dd.tk.take j then S.g x+1 else S.g x) ls) (Sum.inr y)=some (.int ((S.g y:Nat):Int)):=by
    obtain⟨l,hl',rfl⟩:=List.mem_map.mp hym
    rw [wB F.whole.nod hl',if_neg nin]
   refine⟨_,rfl,A.f,_,dx,fs,_,rfl,jj hG h1 (by intro _ z;cases z),T.aQ.c,T.aQ.na.2.2.1,h2.has ("gone",.ref A.G) (by simp),_,rfl,A.G,.int ((S.g y:Nat):Int),rfl,(by rw [<-vg];exact dZ.k (k:=Sum.inr y) aA),_,_,rfl,rfl,_,pA.k (k:=Sum.inr y) aA (by unfold cY;rw [lM];omega),?_,_,rfl⟩
   rw [tD]
   show upd H A.G (.dK (putK _ (Sum.inr y) (.int ((S.g y+1:Nat):Int))))=_
   rw [Kq _ hym (S.g y+1)]
   have:(fun z=>if z=y then S.g y+1 else if z∈dd.tk.take j then S.g z+1 else S.g z)=fun z=>if z∈dd.tk.take (j+1) then S.g z+1 else S.g z:=by
    funext z
    simp only [List.take_succ,hy,Option.toList_some,List.mem_append,List.mem_singleton]
    by_cases h3:z=y <;> by_cases h4:z∈dd.tk.take j <;> simp [h3,h4]
   rw [this]
  rintro σ H' ⟨rfl,v3,rfl⟩
  rw [lM,List.take_length]
  have m1:Gw [A.G] H (upd H A.G (.dK (cY (jl S p.name dd).g ls))):=fun b hb=>aJ (by simpa using hb)
  have gG:upd H A.G (.dK (cY (jl S p.name dd).g ls)) A.G=some (.dK (cY (jl S p.name dd).g ls)):=aA
  change tH _ _ _ _ (upd H A.G (.dK (cY (jl S p.name dd).g ls)))
  generalize upd H A.G (.dK (cY (jl S p.name dd).g ls))=H1 at m1 gG ⊢
  have g1:∀{b:Addr} {u:HO},H b=some u->(∀ks,u≠.dK ks)->H1 b=some u:=fun {b u} h hu=>by
   rw [m1 b (by rw [List.mem_singleton];rintro rfl;rw [hG] at h;exact hu _ (Option.some.inj h).symm)]
   exact h
  have hlr:rs.length=dd.gv.length:=by have:=Paired.length hT;rw [lM] at this;exact this
  have eE1:H1 A.E=some (.dK (wy A.ea ls)):=by rw [m1 A.E (by simpa using nEG)];exact W.ever
  have lists1:∀l∈ls,H1 (A.ea l.name)=some (.lst ((S.ev l.name).map V.int)):=fun l hl=>g1 (W.lists l hl) (by intro _ z;cases z)
  have nM:∀{b:Addr} {u:HO},H1 b=some u->(∀ks,u≠.lst ks)->b∉ls.map (fun l=>A.ea l.name):=fun {b u} h hu hm=>by
   obtain⟨l,hl,rfl⟩:=List.mem_map.mp hm
   rw [lists1 l hl] at h
   exact hu _ (Option.some.inj h).symm
  refine⟨_,rfl,U,_,1,_,rfl,rfl,gK.of (g1 hU (by intro _ z;cases z)),aM (j:=1) rfl,Lg,rfl,⟨_,bT.of (g1 hLg (by intro _ z;cases z))⟩,fu (K:=K) (a:=Lg) (xs:=rs.map V.ref) (fun j σ H'=>(Gw (ls.map (fun l=>A.ea l.name)) H1 H'/\∀l∈ls,H' (A.ea l.name)=some (.lst ((S.ev l.name ++ ((dd.gv.take j).filter fun q=>decide (q.1=l.name)).map (·.2)).map V.int)))/\∃v3 v4,σ=[some (.ref A.f),some (.str p.name),some (.ref U),v3,v4]) ⟨⟨fun _ _=>rfl,fun l hl=>?_⟩,v3,none,rfl⟩ ?_ ?_ ?_⟩
  ·rw [lists1 l hl]
   simp
  ·rintro j σ H' _ ⟨⟨m2,_⟩,_⟩
   exact bT.of (by rw [m2 Lg ng.2.2.2.2.2.1];exact g1 hLg (by intro _ z;cases z))
  ·rintro j x σ H' hx ⟨⟨m2,l2⟩,v3,v4,rfl⟩
   rw [List.getElem?_map] at hx
   obtain⟨r,hr',rfl⟩:=Option.map_eq_some_iff.mp hx
   obtain⟨vs2,z1,z2⟩:=zp hT hr'
   rw [List.getElem?_map] at z1
   obtain⟨w,ew,rfl⟩:=Option.map_eq_some_iff.mp z1
   have hj:=(List.getElem?_eq_some_iff.mp ew).1
   have er:=g1 z2 (by intro _ z;cases z)
   have er':H' r=some (.tup [.str w.1,.int w.2]):=by rw [m2 r (nM er (by intro _ z;cases z))];exact er
   have fe:H' A.f=some (.ins t.bR dx fs):=by
    have e1:=g1 h1 (by intro _ z;cases z)
    rw [m2 A.f (nM e1 (by intro _ z;cases z))]
    exact e1
   have ee:H' A.E=some (.dK (wy A.ea ls)):=by rw [m2 A.E nEE];exact eE1
   obtain⟨l,hl',hln⟩:=List.mem_map.mp (hout w (List.mem_of_getElem? ew))
   have va:=sZ (ea:=A.ea) F.whole.nod hl'
   have ea:=l2 _ hl'
   rw [hln] at va
   refine⟨r,_,rfl,gK.of er',rfl,_,_,rfl,_,_,rfl,rfl,?_⟩
   refine⟨_,rfl,A.f,_,dx,fs,_,rfl,fe,T.aQ.c,T.aQ.na.2.1,h2.has ("ever",.ref A.E) (by simp),_,rfl,A.E,.ref (A.ea w.1),rfl,(by rw [<-va];exact dZ.k (k:=Sum.inr w.1) ee),.inl ⟨rfl,_,bT.of (by rw [<-hln];exact ea)⟩,?_⟩
   refine⟨_,rfl,A.ea w.1,_,.int w.2,rfl,rfl,by rw [<-hln];exact ea,?_,⟨fun b hb=>?_,fun l1 hl1=>?_⟩,some (.str w.1),some (.int w.2),rfl⟩
   ·have h3:=O l hl'
    have h4:=List.length_filter_le (fun q:Str×Int=>decide (q.1=l.name)) (dd.gv.take j)
    rw [List.length_take] at h4
    rw [lM,lP,lM]
    omega
   ·rw [aJ (fun z=>hb (by rw [z,<-hln];exact List.mem_map.mpr ⟨l,hl',rfl⟩))]
    exact m2 b hb
   ·rw [List.take_succ,ew,Option.toList_some,List.filter_append,List.map_append]
    by_cases h:w.1=l1.name
    ·have e:l1=l:=by
      have a1:=find_name F.whole.nod hl1
      have a2:=find_name F.whole.nod hl'
      rw [<-h,<-hln,a2] at a1
      exact(Option.some.inj a1).symm
     subst e
     rw [<-hln,aA]
     simp [h]
    ·have hne:A.ea l1.name≠A.ea w.1:=fun z=>by
      rw [<-hln] at z
      have:=qM nE1 hl1 hl' z
      exact h (by rw [this,hln])
     rw [aJ hne,l2 l1 hl1]
     simp [h]
  rintro σ H2 ⟨⟨m2,l2⟩,v5,v6,rfl⟩
  rw [lM,hlr,List.take_length] at l2
  have fe:H2 A.f=some (.ins t.bR dx fs):=by
   have e1:=g1 h1 (by intro _ z;cases z)
   rw [m2 A.f (nM e1 (by intro _ z;cases z))]
   exact e1
  have uE:H2 U=some (.tup [.ref La,.ref Lg,.int dd.kv]):=by
   have e1:=g1 hU (by intro _ z;cases z)
   rw [m2 U (nM e1 (by intro _ z;cases z))]
   exact e1
  have kE:H2 A.Kp=some (.dK (bU S.k ps)):=by rw [m2 A.Kp nKE,m1 A.Kp (by simpa using Ne.symm nGK)];exact W.kept
  have dE:H2 A.D=some (.dK (bU (fun x=>(S.d x:Int)) ps)):=by rw [m2 A.D nDE,m1 A.D (by simpa using Ne.symm nGD)];exact W.done
  have lk:∀k1:Str->Int,(bU k1 ps).length <sizeLine:=fun k1=>by unfold bU;rw [lM];omega
  have hpn:p.name∈ps.map (·.name):=List.mem_map.mpr ⟨p,hp,rfl⟩
  refine⟨_,rfl,U,_,2,_,rfl,rfl,gK.of uE,aM (j:=2) rfl,_,rfl,A.f,_,dx,fs,_,rfl,fe,T.aQ.c,T.aQ.na.2.2.2.1,h2.has ("kept",.ref A.Kp) (by simp),_,rfl,A.Kp,_,rfl,pA.k (k:=Sum.inr p.name) kE (lk _),?_⟩
  rw [By S.k hpn]
  have m3:Gw [A.Kp] H2 (upd H2 A.Kp (.dK (bU (fun y=>if y=p.name then dd.kv else S.k y) ps))):=fun b hb=>aJ (by simpa using hb)
  have kE3:upd H2 A.Kp (.dK (bU (fun y=>if y=p.name then dd.kv else S.k y) ps)) A.Kp=some (.dK (bU (fun y=>if y=p.name then dd.kv else S.k y) ps)):=aA
  generalize upd H2 A.Kp (.dK (bU (fun y=>if y=p.name then dd.kv else S.k y) ps))=H3 at m3 kE3 ⊢
  have fe3:H3 A.f=some (.ins t.bR dx fs):=by rw [m3 A.f (by simpa using ul fe kE (by intro z;cases z))];exact fe
  have dE3:H3 A.D=some (.dK (bU (fun x=>(S.d x:Int)) ps)):=by rw [m3 A.D (by simpa using Ne.symm nKD)];exact dE
  have vd:=sX (k:=fun x=>(S.d x:Int)) F.pnd hp
  refine⟨_,rfl,A.f,_,dx,fs,_,rfl,fe3,T.aQ.c,T.aQ.na.2.2.2.2.1,h2.has ("done",.ref A.D) (by simp),_,rfl,A.D,.int (S.d p.name:Int),rfl,(by rw [<-vd];exact dZ.k (k:=Sum.inr p.name) dE3),_,_,rfl,rfl,_,pA.k (k:=Sum.inr p.name) dE3 (lk _),?_⟩
  rw [By (fun x=>(S.d x:Int)) hpn]
  have eD:(fun y=>if y=p.name then(S.d p.name:Int)+1 else(S.d y:Int))=fun x=>(((jl S p.name dd).d x:Nat):Int):=by
   funext y
   unfold jl
   by_cases h:y=p.name
   ·subst h;simp
   ·simp [h]
  change Q .non (upd H3 A.D (.dK (bU (fun y=>if y=p.name then(S.d p.name:Int)+1 else(S.d y:Int)) ps)))
  rw [eD]
  have m4:Gw [A.D] H3 (upd H3 A.D (.dK (bU (fun x=>(((jl S p.name dd).d x:Nat):Int)) ps))):=fun b hb=>aJ (by simpa using hb)
  have dE4:upd H3 A.D (.dK (bU (fun x=>(((jl S p.name dd).d x:Nat):Int)) ps)) A.D=some (.dK (bU (fun x=>(((jl S p.name dd).d x:Nat):Int)) ps)):=aA
  generalize upd H3 A.D (.dK (bU (fun x=>(((jl S p.name dd).d x:Nat):Int)) ps))=H4 at m4 dE4 ⊢
  have mv:∀b,b≠A.D->b≠A.Kp->H4 b=H2 b:=fun b a1 a2=>by rw [m4 b (by simpa using a1),m3 b (by simpa using a2)]
  have fe4:H4 A.f=some (.ins t.bR dx fs):=by rw [m4 A.f (by simpa using ul fe3 dE3 (by intro z;cases z))];exact fe3
  refine k H4 (fun b hb=>?_) ⟨⟨dx,fs,fe4,h2⟩,?_,?_,?_,?_,dE4,?_,?_,W.nod⟩
  ·unfold ww.cells at hb
   simp only [List.mem_cons,List.mem_append,not_or] at hb
   rw [mv b hb.2.2.2.1 hb.2.2.1,m2 b hb.2.2.2.2.2.1,m1 b (by simpa using hb.2.1)]
  ·rw [mv A.E nED nEK,m2 A.E nEE,eE1]
  ·intro l hl
   have a2:=l2 l hl
   rw [mv _ (ul a2 dE (by intro z;cases z)) (ul a2 kE (by intro z;cases z))]
   exact a2
  ·rw [mv A.G nGD nGK,m2 A.G nGE,gG]
  ·rw [m4 A.Kp (by simpa using nKD)]
   exact kE3
  ·rw [mv A.Rw (Ne.symm nDR) (Ne.symm nKR),m2 A.Rw nRE,m1 A.Rw (by simpa using Ne.symm nGR)]
   exact W.rows
  ·intro p' hp' h0
   have hm:A.ra p'.name∈(oR ps).map (fun p=>A.ra p.name):=List.mem_map.mpr ⟨p',List.mem_filter.mpr ⟨hp',by simp [h0]⟩,rfl⟩
   rw [mv _ (fun z=>nD2 (by rw [<-z];exact hm)) (fun z=>nK2 (by rw [<-z];exact hm)),m2 _ (fun z=>nER1 _ z _ hm rfl),m1 _ (by simpa using fun z=>nG2 (by rw [<-z];exact hm))]
   exact W.rlst p' hp' h0
theorem My (T:Txt w K mg t) (i:Nat):MethAt P w K mg base Aw 1 (cls t i) "start" (qO K t i):=match i with
 | 0=>⟨_,_,_,T.ir.c,(T.bB.me T.ir.me.2.2.2.2.2.1),T.bB.b,(dw T).imp fun _ _ _ _ h=>⟨_,by omega,h⟩⟩
 | 1=>⟨_,_,_,T.gY.c,(T.bB.me T.gY.me.2.2.2.2.2.1),T.bB.b,(dw T).imp fun _ _ _ _ h=>⟨_,by omega,h⟩⟩
 | 2=>⟨_,_,_,T.gP.c,(T.bB.me T.gP.me.2.2.2.2.2.1),T.bB.b,(dw T).imp fun _ _ _ _ h=>⟨_,by omega,h⟩⟩
 | 3=>⟨_,_,_,T.gO.c,(T.bB.me T.gO.me.2.2.2.2.2.1),T.bB.b,(dw T).imp fun _ _ _ _ h=>⟨_,by omega,h⟩⟩
 | 4=>⟨_,_,_,T.gZ.c,(T.bB.me T.gZ.me.2.2.2.2.2.1),T.bB.b,(dw T).imp fun _ _ _ _ h=>⟨_,by omega,h⟩⟩
 | 5=>⟨_,_,_,T.ig.c,(T.lu.me T.ig.me.2.2.2.2.2.1),T.lu.b,Aq T⟩
 | 6=>⟨_,_,_,T.j6.c,(T.bB.me T.j6.me.2.2.2.2.2.1),T.bB.b,(dw T).imp fun _ _ _ _ h=>⟨_,by omega,h⟩⟩
 | 7=>⟨_,_,_,T.il.c,(T.bB.me T.il.me.2.2.2.2.2.1),T.bB.b,(dw T).imp fun _ _ _ _ h=>⟨_,by omega,h⟩⟩
 | 8=>⟨_,_,_,T.fc.c,(T.bB.me T.fc.me.2.2.2.2.2.1),T.bB.b,(dw T).imp fun _ _ _ _ h=>⟨_,by omega,h⟩⟩
 | 9=>⟨_,_,_,T.dU.c,(T.bB.me T.dU.me.2.2.2.2.2.1),T.bB.b,(dw T).imp fun _ _ _ _ h=>⟨_,by omega,h⟩⟩
 | n+10=>⟨_,_,_,T.fB.c,(T.bB.me T.fB.me.2.2.2.2.2.1),T.bB.b,(dw T).imp fun _ _ _ _ h=>⟨_,by omega,h⟩⟩
theorem O8:∀i,i <11->d8 i= "give" ->i=0:=by decide +kernel
theorem JV (p:PD) (h:ph p):Ep p.kind (p.nums.map V.int)=.int (Cz p):=by
 unfold Ep Cz
 by_cases h5:p.kind=5
 ·rw [if_pos h5,if_pos h5]
  have hl:p.nums.length=1:=by rw [h.2.1,h5];rfl
  match p.nums,hl with
  | [m],_=>rfl
 ·rw [if_neg h5,if_neg h5]
noncomputable def zK (ls:List aH) (x:Str):List Int:=((ls.find? fun l=>decide (l.name=x)).map (·.first)).getD []
theorem wj {ls:List aH} (nd:(ls.map (·.name)).Nodup) {l:aH} (hl:l∈ls):zK ls l.name=l.first:=by
 unfold zK
 rw [find_name nd hl]
 rfl
noncomputable def dh (RW:List (Str×Addr×List Int)):List (Key×V):=RW.map fun q=>((Sum.inr q.1:Key),V.ref q.2.1)
noncomputable def lJ (RW:List (Str×Addr×List Int)) (x:Str):List Int:=((RW.find? fun q=>decide (q.1=x)).map (·.2.2)).getD []
structure jE (H:Hp) (rw:Addr) (RW:List (Str×Addr×List Int)):Prop where
 dict:H rw=some (.dK (dh RW))
 lists:∀q∈RW,H q.2.1=some (.lst (q.2.2.map V.int))
 nd:(RW.map (·.1)).Nodup
 len:∀q∈RW,q.2.2.length<=300
theorem jE.same {H H':Hp} {rw:Addr} {RW:List (Str×Addr×List Int)} (h:jE H rw RW) (s:aK H H'):jE H' rw RW:=⟨s _ _ h.dict,fun q hq=>s _ _ (h.lists q hq),h.nd,h.len⟩
theorem mz (RW:List (Str×Addr×List Int)):(dh RW).map (·.1)=(RW.map (·.1)).map (fun x=>(Sum.inr x:Key)):=by unfold dh;rw [List.map_map,List.map_map];rfl
theorem jE.get {H:Hp} {rw:Addr} {RW:List (Str×Addr×List Int)} (h:jE H rw RW) (x:Str):(bW (dh RW) (Sum.inr x)=none/\lJ RW x=[])∨∃a,bW (dh RW) (Sum.inr x)=some (.ref a)/\H a=some (.lst ((lJ RW x).map V.int))/\(lJ RW x).length<=300:=by
 by_cases hx:x∈RW.map (·.1)
 ·obtain⟨q,hq,rfl⟩:=List.mem_map.mp hx
  have e:lJ RW q.1=q.2.2:=by unfold lJ;rw [find_name (f:=fun q:Str×Addr×List Int=>q.1) h.nd hq];rfl
  refine .inr ⟨q.2.1,gh (by rw [mz];exact eZ h.nd) (List.mem_map.mpr ⟨q,hq,rfl⟩),?_,?_⟩
  ·rw [e];exact h.lists q hq
  ·rw [e];exact h.len q hq
 ·refine .inl ⟨gm (by rw [mz];intro z;obtain⟨b,hb,e⟩:=List.mem_map.mp z;cases e;exact hx hb),?_⟩
  unfold lJ
  rw [List.find?_eq_none.mpr fun q hq=>by simpa using fun e=>hx (List.mem_map.mpr ⟨q,hq,e⟩)]
  rfl
noncomputable def eN (ls:List aH) (ps:List PD) (RW:List (Str×Addr×List Int)):FS:=⟨zK ls,fun _=>0,fL ps,fun _=>0,lJ RW⟩
noncomputable def Gh (RW:List (Str×Addr×List Int)) (RL:List (PD×Addr)):List (Addr×HO):=RL.map fun q=>(q.2,HO.lst ((lJ RW q.1.name).map V.int))
theorem Lx {ps:List PD} (h:∀p∈ps,ph p):(ps.filter fun p=>decide (d8 p.kind= "give"))=oR ps:=by
 unfold oR
 refine List.filter_congr fun p hp=>?_
 by_cases h0:p.kind=0
 ·rw [h0];rfl
 ·have:¬d8 p.kind= "give" :=fun z=>h0 (O8 _ (h p hp).1 z)
  simp [h0,this]
noncomputable def Gi {α:Type} (f:α->Str) (L:List (α×Addr)) (x:Str):Addr:=((L.find? fun q=>decide (f q.1=x)).map (·.2)).getD 0
theorem qL {α:Type} {f:α->Str} {L:List (α×Addr)} (nd:(L.map fun q=>f q.1).Nodup) {q:α×Addr} (hq:q∈L):Gi f L (f q.1)=q.2:=by
 unfold Gi
 rw [find_name (f:=fun q:α×Addr=>f q.1) nd hq]
 rfl
theorem Bo {α:Type} {f:α->Str} {L:List (α×Addr)} (nd:(L.map fun q=>f q.1).Nodup):(L.map (·.1)).map (fun a=>Gi f L (f a))=L.map (·.2):=by
 rw [List.map_map]
 exact List.map_congr_left fun q hq=>qL nd hq
inductive nW (K:PySem.W.Frag) (t:mW) (vs:List V) (H:Hp) (Q:VK):Prop where
 | mk:∀(H0:Hp) (f dx n rw:Addr) (ls:List aH) (ps:List PD) (RW:List (Str×Addr×List Int)),vs=[.ref f,.ref n,.ref rw]->H f=some (.ins t.bR dx [])->aK H0 H->H0 f=none->mY K t H0 n ls ps->jE H0 rw RW->(∀H' A,A.f=f->A.n=n->j4 f H H'->jr K t H' A ls ps (eN ls ps RW)->(∀a∈A.cells ls ps,H a=none)->Q .non H')->nW K t vs H Q
@[irreducible] noncomputable def fV (K:PySem.W.Frag) (t:mW):Sp:=fun vs H Q _=>nW K t vs H Q
theorem wJ (T:Txt w K mg t):FO P w K mg base 4 t.kY ["self", "net", "rows"] (fV K t):=by
 have sc:=T.iZ.sc ["self", "net", "rows", "lane", "name", "door"]
 refine T.iZ.F.ok sc (fun vs H Q E h=>?_) (fun cdv A outer s H vs Q E hr h=>?_)
 ·unfold fV at h
  obtain⟨H0,f,dx,n,rw,ls,ps,RW,rfl,_⟩:=h
  rfl
 ·unfold fV at h
  obtain⟨H0,f,dx,n,rw,ls,ps,RW,rfl,hf,s0,nf0,N,hrw,k⟩:=h
  refine⟨_,(au (je (pv 0) (pv 1) rfl)
   (au (je (pv 0) eE rfl)
   (au (je (pv 0) eE rfl)
   (au (eO PassesOwn.never rfl (dN (RG (pv 1) T.bw T.bw.me.2.1 (oG T) T.iI hr)) (gN sc 3)
    (au (gw hr.u1 (bD (pv 0) rfl) (pv 3) (HW (pv 1) T.bw T.bw.me.2.2.2.2.2.2.1 (yp T) T.lY hr (aa (pv 3) ak aj)) rfl)
    (az (gw hr.u1 (bD (pv 0) rfl) (pv 3) aq rfl))))
   (au (je (pv 0) eE rfl)
   (au (je (pv 0) eE rfl)
   (au (eO PassesOwn.never rfl (dN (RG (pv 1) T.bw T.bw.me.2.2.1 (jq T) T.fP hr)) (gN sc 4)
    (au (gw hr.u1 (bD (pv 0) rfl) (pv 4) (BJ (CX:=Aw) (k:=1) (E:=E0) (HW (pv 1) T.bw T.bw.me.2.2.2.2.2.2.2.1 (mC T) T.iV hr (aa (pv 4) ak aj)) (hr.mono (by decide)) gQ) rfl)
    (az (gw hr.u1 (bD (pv 0) rfl) (pv 4) aq rfl))))
   (au (je (pv 0) eE rfl)
   (az (eO PassesOwn.never rfl (dN (RG (pv 1) T.bw T.bw.me.2.2.2.2.1 (uQ T) T.oA hr)) (gN sc 5)
    (az (gw hr.u1 (bD (pv 0) rfl) (pv 5) (eY u0 (by rfl) T.uD qx (aa (LR hr.u1 (pv 2) (pv 5) (bF ak) ⟨rfl,rfl,rfl,rfl⟩) ak bf)) rfl)))))))))))),?_⟩
  obtain⟨dxn,fsn,R,F,Pd,Gn,Tk,FL,PL,W⟩:=id N
  have hl:sizeLine=16777216:=sizeLine_eq
  have l24:=W.fit.l24
  have p16:=W.fit.p16
  have sk:∀{Hk:Hp},j4 f H Hk->aK H0 Hk:=fun b x o e=>b x o (aC e nf0) (s0 x o e)
  have T0:=Tr.start hf
  refine⟨_,rfl,_,rfl,f,_,dx,[],rfl,hf,T.aQ.c,T.aQ.na.1,by show 0 <1000;decide,?_⟩
  have T1:=T0.put (L1:=[]) (L2:=[]) (o':=.ins t.bR dx (aG "net" (.ref n) []))
  generalize upd H f (.ins t.bR dx (aG "net" (.ref n) []))=H1 at T1 ⊢
  refine fun E nE=>?_
  have T2:=T1.new (o:=.dK []) nE
  generalize upd H1 E (.dK [])=H2 at T2 ⊢
  refine⟨_,rfl,f,_,dx,_,rfl,T2.all (f,_) (.head _),T.aQ.c,T.aQ.na.2.1,Nat.lt_of_le_of_lt (jf (Nat.zero_le 0)) (by decide),?_⟩
  have T3:=T2.put (L1:=[]) (o':=.ins t.bR dx (aG "ever" (.ref E) (aG "net" (.ref n) [])))
  generalize upd H2 f (.ins t.bR dx (aG "ever" (.ref E) (aG "net" (.ref n) [])))=H3 at T3 ⊢
  refine fun G nG=>?_
  have T4:=T3.new (o:=.dK []) nG
  generalize upd H3 G (.dK [])=H4 at T4 ⊢
  refine⟨_,rfl,f,_,dx,_,rfl,T4.all (f,_) (.head _),T.aQ.c,T.aQ.na.2.2.1,Nat.lt_of_le_of_lt (jf (jf (Nat.zero_le 0))) (by decide),?_⟩
  have T5:=T4.put (L1:=[]) (o':=.ins t.bR dx (aG "gone" (.ref G) (aG "ever" (.ref E) (aG "net" (.ref n) []))))
  generalize upd H4 f (.ins t.bR dx (aG "gone" (.ref G) (aG "ever" (.ref E) (aG "net" (.ref n) []))))=H5 at T5 ⊢
  have W5:=W.same (sk T5.but)
  refine⟨_,rfl,n,dxn,fsn,rfl,W5.obj,W5.fl.no _ (by decide +kernel),n,ls,ps,rfl,W5.s,fun l nl=>?_⟩
  have T6:Tr H f ((f,.ins t.bR dx (aG "gone" (.ref G) (aG "ever" (.ref E) (aG "net" (.ref n) [])))):: (E,.dK (bG [])):: (G,.dK (cY (fun _=>0) [])):: (l,.lst (ls.map fun x:aH=>V.str x.name)):: jB []) (upd H5 l (.lst (ls.map fun x:aH=>V.str x.name))):=T5.new nl
  generalize upd H5 l (.lst (ls.map fun x:aH=>V.str x.name))=H6 at T6 ⊢
  clear T0 T1 T2 T3 T4 T5 W5
  refine⟨l,rfl,⟨_,bT.of (T6.all (l,.lst (ls.map fun x:aH=>V.str x.name)) (by simp))⟩,fu (K:=K) (a:=l) (xs:=ls.map fun x:aH=>V.str x.name) (fun j σ H'=>(∃v3,σ=[some (.ref f),some (.ref n),some (.ref rw),v3,none,none])/\∃EL:List (aH×Addr),EL.map (·.1)=ls.take j/\Tr H f ((f,.ins t.bR dx (aG "gone" (.ref G) (aG "ever" (.ref E) (aG "net" (.ref n) [])))):: (E,.dK (bG EL)):: (G,.dK (cY (fun _=>0) (ls.take j))):: (l,.lst (ls.map fun x:aH=>V.str x.name)):: jB EL) H') ⟨⟨none,rfl⟩,[],rfl,T6⟩ (fun j σ H' _ ⟨_,_,_,T'⟩=>bT.of (T'.all (l,.lst (ls.map fun x:aH=>V.str x.name)) (by simp))) ?_ ?_⟩
  ·rintro j x σ H' hx ⟨⟨v3,rfl⟩,EL,eEL,T7⟩
   rw [List.getElem?_map] at hx
   obtain⟨ln,hlj,rfl⟩:=Option.map_eq_some_iff.mp hx
   have hm:=List.mem_of_getElem? hlj
   have hj:=(List.getElem?_eq_some_iff.mp hlj).1
   have nin:=mV W.fit.whole.nod hlj
   have vE:bW (bG EL) (Sum.inr ln.name)=none:=gm (by rw [qm,eEL];intro z;obtain⟨b,hb,e⟩:=List.mem_map.mp z;cases e;exact nin hb)
   have vG:bW (cY (fun _=>0) (ls.take j)) (Sum.inr ln.name)=none:=gm (by rw [zH];intro z;obtain⟨b,hb,e⟩:=List.mem_map.mp z;cases e;exact nin hb)
   have tk:ls.take (j+1)=ls.take j ++ [ln]:=by rw [List.take_succ,hlj];rfl
   have lEL:EL.length<=24:=by have:=congrArg List.length eEL;rw [lM,List.length_take] at this;omega
   have W7:=W.same (sk T7.but)
   refine⟨_,rfl,n,dxn,fsn,rfl,W7.obj,W7.fl.no _ (by decide +kernel),_,rfl,n,ls,ps,ln.name,rfl,W7.s,.inl ⟨ln,hm,rfl,fun H8 le s8 nle ele=>?_⟩⟩
   have T8:Tr H f ((f,.ins t.bR dx (aG "gone" (.ref G) (aG "ever" (.ref E) (aG "net" (.ref n) [])))):: (E,.dK (bG EL)):: (G,.dK (cY (fun _=>0) (ls.take j))):: (l,.lst (ls.map fun x:aH=>V.str x.name)):: jB (EL ++ [(ln,le)])) H8:=by
    unfold jB
    rw [List.map_append]
    exact T7.got s8 nle ele
   refine⟨_,rfl,f,_,dx,_,_,rfl,T8.all (f,_) (.head _),T.aQ.c,T.aQ.na.2.1,(by (repeat first | (rw [aB,if_pos rfl];done) | rw [aB,if_neg (by decide +kernel)])),_,rfl,E,_,rfl,pA.k (k:=Sum.inr ln.name) (T8.all (E,.dK (bG EL)) (by simp)) (by unfold bG;rw [lM];omega),?_⟩
   have e8:putK (bG EL) (Sum.inr ln.name) (.ref le)=bG (EL ++ [(ln,le)]):=by rw [jt _ vE];unfold bG;rw [List.map_append];rfl
   rw [e8]
   have T9:=T8.put (L1:=[_]) (o':=.dK (bG (EL ++ [(ln,le)])))
   generalize upd H8 E (.dK (bG (EL ++ [(ln,le)])))=H9 at T9 ⊢
   refine⟨_,rfl,f,_,dx,_,_,rfl,T9.all (f,_) (.head _),T.aQ.c,T.aQ.na.2.2.1,(by (repeat first | (rw [aB,if_pos rfl];done) | rw [aB,if_neg (by decide +kernel)])),_,rfl,G,_,rfl,pA.k (k:=Sum.inr ln.name) (T9.all (G,.dK (cY (fun _=>0) (ls.take j))) (by simp)) (by unfold cY;rw [lM,List.length_take];omega),?_⟩
   have e9:putK (cY (fun _=>0) (ls.take j)) (Sum.inr ln.name) (.int 0)=cY (fun _=>0) (ls.take (j+1)):=by rw [jt _ vG,tk];unfold cY;rw [List.map_append];rfl
   rw [e9]
   have TA:=T9.put (L1:=[_,_]) (o':=.dK (cY (fun _=>0) (ls.take (j+1))))
   exact⟨⟨_,rfl⟩,EL ++ [(ln,le)],by rw [List.map_append,eEL,tk];rfl,TA⟩
  rintro σ H7 ⟨⟨v3,rfl⟩,EL,eEL,T7⟩
  rw [lM,List.take_length] at eEL T7
  have T7:Tr H f ((f,.ins t.bR dx (aG "gone" (.ref G) (aG "ever" (.ref E) (aG "net" (.ref n) [])))):: (E,.dK (bG EL)):: (G,.dK (cY (fun _=>0) ls)):: jB EL) H7:=T7.sub (.cons₂ _ (.cons₂ _ (.cons₂ _ (.cons _ (List.Sublist.refl _))))) ⟨_,.head _⟩
  clear T6
  refine fun Kp nKp=>?_
  have T8:Tr H f ((f,.ins t.bR dx (aG "gone" (.ref G) (aG "ever" (.ref E) (aG "net" (.ref n) [])))):: (E,.dK (bG EL)):: (G,.dK (cY (fun _=>0) ls)):: (Kp,.dK []):: jB EL) (upd H7 Kp (.dK [])):=(T7.new nKp).perm (.cons _ (.cons _ (.cons _ (List.perm_append_singleton _ _))))
  generalize upd H7 Kp (.dK [])=H8 at T8 ⊢
  refine⟨_,rfl,f,_,dx,_,rfl,T8.all (f,_) (.head _),T.aQ.c,T.aQ.na.2.2.2.1,Nat.lt_of_le_of_lt (jf (jf (jf (Nat.zero_le 0)))) (by decide),?_⟩
  have T9:=T8.put (L1:=[]) (o':=.ins t.bR dx (aG "kept" (.ref Kp) (aG "gone" (.ref G) (aG "ever" (.ref E) (aG "net" (.ref n) [])))))
  generalize upd H8 f (.ins t.bR dx (aG "kept" (.ref Kp) (aG "gone" (.ref G) (aG "ever" (.ref E) (aG "net" (.ref n) [])))))=H9 at T9 ⊢
  refine fun D nD=>?_
  have TA:Tr H f ((f,.ins t.bR dx (aG "kept" (.ref Kp) (aG "gone" (.ref G) (aG "ever" (.ref E) (aG "net" (.ref n) []))))):: (E,.dK (bG EL)):: (G,.dK (cY (fun _=>0) ls)):: (Kp,.dK []):: (D,.dK []):: jB EL) (upd H9 D (.dK [])):=(T9.new nD).perm (.cons _ (.cons _ (.cons _ (.cons _ (List.perm_append_singleton _ _)))))
  generalize upd H9 D (.dK [])=HA at TA ⊢
  refine⟨_,rfl,f,_,dx,_,rfl,TA.all (f,_) (.head _),T.aQ.c,T.aQ.na.2.2.2.2.1,Nat.lt_of_le_of_lt (jf (jf (jf (jf (Nat.zero_le 0))))) (by decide),?_⟩
  have TB:=TA.put (L1:=[]) (o':=.ins t.bR dx (aG "done" (.ref D) (aG "kept" (.ref Kp) (aG "gone" (.ref G) (aG "ever" (.ref E) (aG "net" (.ref n) []))))))
  generalize upd HA f (.ins t.bR dx (aG "done" (.ref D) (aG "kept" (.ref Kp) (aG "gone" (.ref G) (aG "ever" (.ref E) (aG "net" (.ref n) []))))))=HB at TB ⊢
  have WB:=W.same (sk TB.but)
  refine⟨_,rfl,n,dxn,fsn,rfl,WB.obj,WB.fl.no _ (by decide +kernel),n,ls,ps,rfl,WB.s,fun m nm=>?_⟩
  have TC:Tr H f ((f,.ins t.bR dx (aG "done" (.ref D) (aG "kept" (.ref Kp) (aG "gone" (.ref G) (aG "ever" (.ref E) (aG "net" (.ref n) [])))))):: (E,.dK (bG EL)):: (G,.dK (cY (fun _=>0) ls)):: (Kp,.dK (bU (fL ps) [])):: (D,.dK (bU (fun _=>0) [])):: (m,.lst (ps.map fun x:PD=>V.str x.name)):: jB EL) (upd HB m (.lst (ps.map fun x:PD=>V.str x.name))):=(TB.new nm).perm (.cons _ (.cons _ (.cons _ (.cons _ (.cons _ (List.perm_append_singleton _ _))))))
  generalize upd HB m (.lst (ps.map fun x:PD=>V.str x.name))=HC at TC ⊢
  clear T7 T8 T9 TA TB WB
  refine⟨m,rfl,⟨_,bT.of (TC.all (m,.lst (ps.map fun x:PD=>V.str x.name)) (by simp))⟩,fu (K:=K) (a:=m) (xs:=ps.map fun x:PD=>V.str x.name) (fun j σ H'=>(∃v4,σ=[some (.ref f),some (.ref n),some (.ref rw),v3,v4,none])/\Tr H f ((f,.ins t.bR dx (aG "done" (.ref D) (aG "kept" (.ref Kp) (aG "gone" (.ref G) (aG "ever" (.ref E) (aG "net" (.ref n) [])))))):: (E,.dK (bG EL)):: (G,.dK (cY (fun _=>0) ls)):: (Kp,.dK (bU (fL ps) (ps.take j))):: (D,.dK (bU (fun _=>0) (ps.take j))):: (m,.lst (ps.map fun x:PD=>V.str x.name)):: jB EL) H') ⟨⟨none,rfl⟩,TC⟩ (fun j σ H' _ ⟨_,T'⟩=>bT.of (T'.all (m,.lst (ps.map fun x:PD=>V.str x.name)) (by simp))) ?_ ?_⟩
  ·rintro j x σ H' hx ⟨⟨v4,rfl⟩,T7⟩
   rw [List.getElem?_map] at hx
   obtain⟨p,hpj,rfl⟩:=Option.map_eq_some_iff.mp hx
   have hm:=List.mem_of_getElem? hpj
   have hj:=(List.getElem?_eq_some_iff.mp hpj).1
   have nin:=mV W.fit.pnd hpj
   have vK:∀k0:Str->Int,bW (bU k0 (ps.take j)) (Sum.inr p.name)=none:=fun k0=>gm (by rw [yJ];intro z;obtain⟨b,hb,e⟩:=List.mem_map.mp z;cases e;exact nin hb)
   have tk:ps.take (j+1)=ps.take j ++ [p]:=by rw [List.take_succ,hpj];rfl
   have so:fL ps p.name=Cz p:=by unfold fL Cz;rw [find_name W.fit.pnd hm];rfl
   have W7:=W.same (sk T7.but)
   refine⟨_,rfl,n,dxn,fsn,rfl,W7.obj,W7.fl.no _ (by decide +kernel),_,rfl,n,ls,ps,p.name,rfl,W7.s,.inl ⟨p,hm,rfl,fun H8 q s8 P8=>?_⟩⟩
   have T8:=T7.same s8
   obtain⟨dxp,tn,ti,to,p1,p2,p3,p4⟩:=id P8.ex
   refine⟨q,cls t p.kind,dxp,_,qO K t p.kind,rfl,p1,sJ _ _ _ _ (by decide +kernel) (by decide +kernel) (by decide +kernel) (by decide +kernel),My T p.kind,q,_,_,_,_,rfl,P8,by rw [lM];exact(W.fit.pok p hm).2.1,?_⟩
   rw [JV p (W.fit.pok p hm),<-so]
   refine⟨_,rfl,f,_,dx,_,_,rfl,T8.all (f,_) (.head _),T.aQ.c,T.aQ.na.2.2.2.1,(by (repeat first | (rw [aB,if_pos rfl];done) | rw [aB,if_neg (by decide +kernel)])),_,rfl,Kp,_,rfl,pA.k (k:=Sum.inr p.name) (T8.all (Kp,.dK (bU (fL ps) (ps.take j))) (by simp)) (by unfold bU;rw [lM,List.length_take];omega),?_⟩
   have e8:∀k0:Str->Int,putK (bU k0 (ps.take j)) (Sum.inr p.name) (.int (k0 p.name))=bU k0 (ps.take (j+1)):=fun k0=>by rw [jt _ (vK k0),tk];unfold bU;rw [List.map_append];rfl
   rw [e8]
   have T9:=T8.put (L1:=[_,_,_]) (o':=.dK (bU (fL ps) (ps.take (j+1))))
   generalize upd H8 Kp (.dK (bU (fL ps) (ps.take (j+1))))=H9 at T9 ⊢
   refine⟨_,rfl,f,_,dx,_,_,rfl,T9.all (f,_) (.head _),T.aQ.c,T.aQ.na.2.2.2.2.1,(by (repeat first | (rw [aB,if_pos rfl];done) | rw [aB,if_neg (by decide +kernel)])),_,rfl,D,_,rfl,pA.k (k:=Sum.inr p.name) (T9.all (D,.dK (bU (fun _=>0) (ps.take j))) (by simp)) (by unfold bU;rw [lM,List.length_take];omega),?_⟩
   rw [e8 fun _=>0]
   exact⟨⟨_,rfl⟩,T9.put (L1:=[_,_,_,_])⟩
  rintro σ HD ⟨⟨v4,rfl⟩,TD⟩
  rw [lM,List.take_length] at TD
  have TD:Tr H f ((f,.ins t.bR dx (aG "done" (.ref D) (aG "kept" (.ref Kp) (aG "gone" (.ref G) (aG "ever" (.ref E) (aG "net" (.ref n) [])))))):: (E,.dK (bG EL)):: (G,.dK (cY (fun _=>0) ls)):: (Kp,.dK (bU (fL ps) ps)):: (D,.dK (bU (fun _=>0) ps)):: jB EL) HD:=TD.sub (.cons₂ _ (.cons₂ _ (.cons₂ _ (.cons₂ _ (.cons₂ _ (.cons _ (List.Sublist.refl _))))))) ⟨_,.head _⟩
  clear TC
  refine fun Rw nRw=>?_
  have TE:Tr H f ((f,.ins t.bR dx (aG "done" (.ref D) (aG "kept" (.ref Kp) (aG "gone" (.ref G) (aG "ever" (.ref E) (aG "net" (.ref n) [])))))):: (E,.dK (bG EL)):: (G,.dK (cY (fun _=>0) ls)):: (Kp,.dK (bU (fL ps) ps)):: (D,.dK (bU (fun _=>0) ps)):: (Rw,.dK []):: jB EL) (upd HD Rw (.dK [])):=(TD.new nRw).perm (.cons _ (.cons _ (.cons _ (.cons _ (.cons _ (List.perm_append_singleton _ _))))))
  generalize upd HD Rw (.dK [])=HE at TE ⊢
  refine⟨_,rfl,f,_,dx,_,rfl,TE.all (f,_) (.head _),T.aQ.c,T.aQ.na.2.2.2.2.2.1,Nat.lt_of_le_of_lt (jf (jf (jf (jf (jf (Nat.zero_le 0)))))) (by decide),?_⟩
  have TF:=TE.put (L1:=[]) (o':=.ins t.bR dx (aG "rows" (.ref Rw) (aG "done" (.ref D) (aG "kept" (.ref Kp) (aG "gone" (.ref G) (aG "ever" (.ref E) (aG "net" (.ref n) [])))))))
  generalize upd HE f (.ins t.bR dx (aG "rows" (.ref Rw) (aG "done" (.ref D) (aG "kept" (.ref Kp) (aG "gone" (.ref G) (aG "ever" (.ref E) (aG "net" (.ref n) [])))))))=HF at TF ⊢
  have WF:=W.same (sk TF.but)
  refine⟨_,rfl,n,dxn,fsn,rfl,WF.obj,WF.fl.no _ (by decide +kernel),n,ls,ps,rfl,WF.s,fun d nd=>?_⟩
  have TG:Tr H f ((f,.ins t.bR dx (aG "rows" (.ref Rw) (aG "done" (.ref D) (aG "kept" (.ref Kp) (aG "gone" (.ref G) (aG "ever" (.ref E) (aG "net" (.ref n) []))))))):: (E,.dK (bG EL)):: (G,.dK (cY (fun _=>0) ls)):: (Kp,.dK (bU (fL ps) ps)):: (D,.dK (bU (fun _=>0) ps)):: (Rw,.dK []):: (d,.lst (jY ps "give")):: jB EL) (upd HF d (.lst (jY ps "give"))):=(TF.new nd).perm (.cons _ (.cons _ (.cons _ (.cons _ (.cons _ (.cons _ (List.perm_append_singleton _ _)))))))
  generalize upd HF d (.lst (jY ps "give"))=HG at TG ⊢
  clear TD TE TF WF
  have lgv:=Gj ps "give"
  have ndg:((ps.filter fun p=>decide (d8 p.kind= "give")).map (·.name)).Nodup:=W.fit.pnd.sublist ((List.filter_sublist).map _)
  rw [Lx W.fit.pok] at ndg
  have ePg:jY ps "give" =(oR ps).map fun p=>V.str p.name:=by unfold jY;rw [Lx W.fit.pok]
  rw [ePg] at TG
  have lgP:(oR ps).length<=16:=by have:=List.length_filter_le (fun p:PD=>decide (p.kind=0)) ps;unfold oR;omega
  have TG:Tr H f ((f,.ins t.bR dx (aG "rows" (.ref Rw) (aG "done" (.ref D) (aG "kept" (.ref Kp) (aG "gone" (.ref G) (aG "ever" (.ref E) (aG "net" (.ref n) []))))))):: (E,.dK (bG EL)):: (G,.dK (cY (fun _=>0) ls)):: (Kp,.dK (bU (fL ps) ps)):: (D,.dK (bU (fun _=>0) ps)):: (Rw,.dK []):: (d,.lst ((oR ps).map fun p=>V.str p.name)):: (jB EL ++ Gh RW [])) HG:=by
   unfold Gh
   rw [List.map_nil,List.append_nil]
   exact TG
  refine⟨d,rfl,⟨_,bT.of (TG.all (d,.lst ((oR ps).map fun p=>V.str p.name)) (by simp))⟩,fu (K:=K) (a:=d) (xs:=(oR ps).map fun p=>V.str p.name) (fun j σ H'=>(∃v5,σ=[some (.ref f),some (.ref n),some (.ref rw),v3,v4,v5])/\∃RL:List (PD×Addr),RL.map (·.1)=(oR ps).take j/\Tr H f ((f,.ins t.bR dx (aG "rows" (.ref Rw) (aG "done" (.ref D) (aG "kept" (.ref Kp) (aG "gone" (.ref G) (aG "ever" (.ref E) (aG "net" (.ref n) []))))))):: (E,.dK (bG EL)):: (G,.dK (cY (fun _=>0) ls)):: (Kp,.dK (bU (fL ps) ps)):: (D,.dK (bU (fun _=>0) ps)):: (Rw,.dK (RL.map fun q=>((Sum.inr q.1.name:Key),V.ref q.2))):: (d,.lst ((oR ps).map fun p=>V.str p.name)):: (jB EL ++ Gh RW RL)) H') ⟨⟨none,rfl⟩,[],rfl,TG⟩ (fun j σ H' _ ⟨_,_,_,T7⟩=>bT.of (T7.all (d,.lst ((oR ps).map fun p=>V.str p.name)) (by simp))) ?_ ?_⟩
  ·rintro j x σ H' hx ⟨⟨v5,rfl⟩,RL,eRL,T7⟩
   rw [List.getElem?_map] at hx
   obtain⟨p,hpj,rfl⟩:=Option.map_eq_some_iff.mp hx
   have nin:=mV ndg hpj
   have tk:(oR ps).take (j+1)=(oR ps).take j ++ [p]:=by rw [List.take_succ,hpj];rfl
   have vR:bW (RL.map fun q=>((Sum.inr q.1.name:Key),V.ref q.2)) (Sum.inr p.name)=none:=gm (by
    rw [List.map_map]
    intro z
    obtain⟨q,hq,e⟩:=List.mem_map.mp z
    have hm:q.1∈RL.map (·.1):=List.mem_map.mpr ⟨q,hq,rfl⟩
    rw [eRL] at hm
    exact nin (List.mem_map.mpr ⟨q.1,hm,by injection e⟩))
   have lRL:RL.length<=16:=by
    have:=congrArg List.length eRL
    rw [lM,List.length_take] at this
    omega
   have rw7:=hrw.same (sk T7.but)
   refine⟨_,rfl,rw,rfl,.inl ⟨_,.inl rw7.dict⟩,_,rfl,jy,fun u nu=>?_⟩
   have tu:=aF (o:=.lst []) nu
   have xu:upd H' u (.lst []) u=some (.lst []):=aA
   generalize upd H' u (.lst [])=H8 at tu xu ⊢
   have rw8:=rw7.same tu
   refine⟨_,dZ.k (k:=Sum.inr p.name) rw8.dict,?_⟩
   obtain⟨y,ey,hy⟩:∃y:Addr,(bW (dh RW) (Sum.inr p.name)).getD (V.ref u)=.ref y/\H8 y=some (.lst ((lJ RW p.name).map V.int)):=by
    rcases rw8.get p.name with ⟨e1,e2⟩ | ⟨a,e1,e2,_⟩
    ·rw [e1,e2]
     exact⟨u,rfl,xu⟩
    ·rw [e1]
     exact⟨a,rfl,e2⟩
   refine⟨y,(lJ RW p.name).map V.int,by rw [ey],.inl (bT.of hy),fun r nr=>?_⟩
   have T9:Tr H f ((f,.ins t.bR dx (aG "rows" (.ref Rw) (aG "done" (.ref D) (aG "kept" (.ref Kp) (aG "gone" (.ref G) (aG "ever" (.ref E) (aG "net" (.ref n) []))))))):: (E,.dK (bG EL)):: (G,.dK (cY (fun _=>0) ls)):: (Kp,.dK (bU (fL ps) ps)):: (D,.dK (bU (fun _=>0) ps)):: (Rw,.dK (RL.map fun q=>((Sum.inr q.1.name:Key),V.ref q.2))):: (d,.lst ((oR ps).map fun p=>V.str p.name)):: (jB EL ++ Gh RW (RL ++ [(p,r)]))) (upd H8 r (.lst ((lJ RW p.name).map V.int))):=by
    unfold Gh
    rw [List.map_append,<-List.append_assoc]
    exact(T7.same tu).new nr
   generalize upd H8 r (.lst ((lJ RW p.name).map V.int))=H9 at T9 ⊢
   refine⟨_,rfl,f,_,dx,_,_,rfl,T9.all (f,_) (.head _),T.aQ.c,T.aQ.na.2.2.2.2.2.1,(by (repeat first | (rw [aB,if_pos rfl];done) | rw [aB,if_neg (by decide +kernel)])),_,rfl,Rw,_,rfl,pA.k (k:=Sum.inr p.name) (T9.all (Rw,.dK (RL.map fun q=>((Sum.inr q.1.name:Key),V.ref q.2))) (by simp)) (by rw [lM];omega),?_⟩
   rw [jt _ vR]
   refine⟨⟨_,rfl⟩,RL ++ [(p,r)],by rw [List.map_append,eRL,tk];rfl,?_⟩
   rw [List.map_append]
   exact T9.put (L1:=[_,_,_,_,_])
  rintro σ HH ⟨⟨v5,rfl⟩,RL,eRL,TH⟩
  rw [lM,List.take_length] at eRL
  have eo:=TH.all (f,.ins t.bR dx (aG "rows" (.ref Rw) (aG "done" (.ref D) (aG "kept" (.ref Kp) (aG "gone" (.ref G) (aG "ever" (.ref E) (aG "net" (.ref n) []))))))) (.head _)
  have nod:=TH.nod
  have fre:=TH.fre
  have nE:(EL.map fun q=>q.1.name).Nodup:=by
   have:(EL.map (·.1)).map (·.name)=EL.map fun q=>q.1.name:=by rw [List.map_map];rfl
   rw [<-this,eEL]
   exact W.fit.whole.nod
  have nR:(RL.map fun q=>q.1.name).Nodup:=by
   have:(RL.map (·.1)).map (·.name)=RL.map fun q=>q.1.name:=by rw [List.map_map];rfl
   rw [<-this,eRL]
   exact ndg
  let A:ww:=⟨f,n,E,G,Kp,D,Rw,Gi (·.name) EL,Gi (·.name) RL⟩
  have mE:ls.map (fun l=>A.ea l.name)=EL.map (·.2):=by rw [<-eEL];exact Bo nE
  have mR:(oR ps).map (fun p=>A.ra p.name)=RL.map (·.2):=by rw [<-eRL];exact Bo nR
  have eC:A.cells ls ps=E:: G:: Kp:: D:: Rw:: (EL.map (·.2) ++ RL.map (·.2)):=by unfold ww.cells;rw [mE,mR]
  have e2:(jB EL ++ Gh RW RL).map Prod.fst=EL.map (·.2) ++ RL.map (·.2):=by unfold jB Gh;rw [List.map_append,List.map_map,List.map_map];rfl
  refine k HH A rfl rfl TH.but ⟨⟨dx,_,eo,⟨?_,?_⟩⟩,?_,fun l hl=>?_,TH.all (G,.dK (cY (fun _=>0) ls)) (by simp),TH.all (Kp,.dK (bU (fL ps) ps)) (by simp),TH.all (D,.dK (bU (fun _=>0) ps)) (by simp),?_,fun p hp h0=>?_,?_⟩ ?_
  ·intro q hq
   simp only [List.mem_cons,List.not_mem_nil,or_false] at hq
   rcases hq with rfl | rfl | rfl | rfl | rfl | rfl <;> (dsimp only;(repeat first | (rw [aB,if_pos rfl];done) | rw [aB,if_neg (by decide +kernel)]))
  ·intro m hm
   have hne:∀m∈(["holds", "held_now", "gone_by", "row_left", "head", "heads", "lacking", "row_ended", "deed", "do"]:List Str),∀g∈(["rows", "done", "kept", "gone", "ever", "net"]:List Str),¬m=g:=by decide +kernel
   have h:=hne m hm
   rw [aB,if_neg (h _ (by simp)),aB,if_neg (h _ (by simp)),aB,if_neg (h _ (by simp)),aB,if_neg (h _ (by simp)),aB,if_neg (h _ (by simp)),aB,if_neg (h _ (by simp))]
   rfl
  ·have:wy A.ea ls=bG EL:=by
    unfold wy bG
    rw [<-eEL,List.map_map]
    refine List.map_congr_left fun q hq=>?_
    show((Sum.inr q.1.name:Key),V.ref (A.ea q.1.name))=_
    rw [show A.ea q.1.name=q.2 from qL nE hq]
   rw [this]
   exact TH.all (E,.dK (bG EL)) (by simp)
  ·rw [<-eEL] at hl
   obtain⟨q,hq,rfl⟩:=List.mem_map.mp hl
   rw [show A.ea q.1.name=q.2 from qL nE hq]
   have hm:q.1∈ls:=by rw [<-eEL];exact List.mem_map.mpr ⟨q,hq,rfl⟩
   show HH q.2=some (.lst ((zK ls q.1.name).map V.int))
   rw [wj W.fit.whole.nod hm]
   exact TH.all (q.2,.lst (q.1.first.map V.int)) (Bq (List.mem_append.mpr (.inl (List.mem_map.mpr ⟨q,hq,rfl⟩))))
  ·have:Hv A.ra ps=RL.map fun q=>((Sum.inr q.1.name:Key),V.ref q.2):=by
    unfold Hv
    rw [<-eRL,List.map_map]
    refine List.map_congr_left fun q hq=>?_
    show((Sum.inr q.1.name:Key),V.ref (A.ra q.1.name))=_
    rw [show A.ra q.1.name=q.2 from qL nR hq]
   rw [this]
   exact TH.all (Rw,.dK (RL.map fun q=>((Sum.inr q.1.name:Key),V.ref q.2))) (by simp)
  ·have hm:p∈RL.map (·.1):=by rw [eRL];exact List.mem_filter.mpr ⟨hp,by simp [h0]⟩
   obtain⟨q,hq,rfl⟩:=List.mem_map.mp hm
   rw [show A.ra q.1.name=q.2 from qL nR hq]
   exact TH.all (q.2,.lst ((lJ RW q.1.name).map V.int)) (Bq (List.mem_append.mpr (.inr (List.mem_map.mpr ⟨q,hq,rfl⟩))))
  ·rw [eC,<-e2]
   exact nod.sublist (List.Sublist.cons _ (.cons₂ _ (.cons₂ _ (.cons₂ _ (.cons₂ _ (.cons₂ _ (.cons _ (List.Sublist.refl _))))))))
  ·intro a ha
   rw [eC,<-e2] at ha
   have h2:a∈(((E,.dK (bG EL)):: (G,.dK (cY (fun _=>0) ls)):: (Kp,.dK (bU (fL ps) ps)):: (D,.dK (bU (fun _=>0) ps)):: (Rw,.dK (RL.map fun q=>((Sum.inr q.1.name:Key),V.ref q.2))):: (d,.lst ((oR ps).map fun p=>V.str p.name)):: (jB EL ++ Gh RW RL):List (Addr×HO))).map Prod.fst:=
    (List.Sublist.cons₂ E (.cons₂ G (.cons₂ Kp (.cons₂ D (.cons₂ Rw (.cons d (List.Sublist.refl _))))))).subset ha
   have hne:a≠f:=fun z=>by
    rw [List.map_cons,List.nodup_cons] at nod
    exact nod.1 (by rw [<-z];exact h2)
   obtain⟨q,hq,hqa⟩:=List.mem_map.mp h2
   have:=fre q (List.mem_cons_of_mem _ hq)
   rw [hqa] at this
   exact this.resolve_left hne
inductive Cd (K:PySem.W.Frag) (vs:List V) (H:Hp) (Q:VK) (E:XK):Prop where
 | mk:∀(a:Addr) (ws:List Int),vs=[.ref a]->bT K H a (ws.map V.int)->ws.length<=300->((∀v∈ws,0<=v/\v <1000000000))->(∀H',aK H H'->Q (.bl true) H')->Cd K vs H Q E
theorem Ka (T:Txt w K mg t):FO P w K mg base 3 t.Fi ["thing"] (Cd K):=by
 have sc:=T.yV.sc ["thing"]
 refine T.yV.F.ok sc ln (fun _ _ _ _ H vs Q E hr h=>?_)
 obtain⟨a,ws,rfl,hS,hl,hB,k⟩:=h
 refine⟨_,(az (aN (uJ (aV vL (by rfl) T.lD jM (aa (pv 0) (aa (yC (by rfl) T.uD qx) ak aj) aj)) (uJ (nH qF (aV bK (by rfl) T.dG bY (aa (pv 0) ak aj)) (iy (by rfl) T.Ax) (bL _)) (uy (aV (vC rfl) (by rfl) T.Ik Du (aa (j5 [] ["thing"] (bA (top 29)) rfl (dN (pv 0)) (fun _ _ _ _ _=>jo) (fun _ _ _ _ _=>(dz (qZ T) T.mF hr (aa (pv 0) ak aj)))) ak fG))))))),?_⟩
 have hz:sizeLine=16777216:=sizeLine_eq
 refine⟨_,rfl,_,_,_,_,rfl,.inl ⟨rfl,_,hS⟩,by decide,rfl,_,rfl,lG ?_⟩
 refine⟨_,rfl,_,(ws.map V.int).length,rfl,.inl ⟨_,hS,by simp⟩,_,_,rfl,rfl,_,rfl,?_⟩
 rw [lM,decide_eq_true (show(ws.length:Int)<=300 by omega)]
 refine lG ?_
 refine⟨_,rfl,a,rfl,⟨_,hS⟩,sG (K:=K) (a:=a) (xs:=ws.map V.int) (fun j ys H'=>H'=H/\ys=(List.replicate j true).map V.bl) (by rw [lM];omega) ⟨rfl,rfl⟩ (fun j ys H' ⟨_,e⟩=>by rw [e];simp) (fun j ys H' _ ⟨e,_⟩=>by rw [e];exact hS) ?_ ?_⟩
 ·rintro j x ys H' hx ⟨rfl,rfl⟩
  rw [List.getElem?_map] at hx
  obtain⟨n,hn,rfl⟩:=Option.map_eq_some_iff.mp hx
  obtain⟨n0,n1⟩:=hB n (List.mem_of_getElem? hn)
  refine yes ⟨_,rfl,.int n,rfl,.inl ⟨n,rfl,rfl,?_⟩⟩
  rw [decide_eq_true n0,decide_eq_true n1,List.replicate_succ']
  simp
 rintro ys H' ⟨rfl,rfl⟩ D hD
 refine⟨D,List.replicate (ws.map V.int).length true,rfl,bT.of aA,?_⟩
 rw [show(List.replicate (ws.map V.int).length true).all id=true by simp]
 exact k _ (aF hD)
theorem Rq {x:V} {xs:List V} (h:x∈xs) (f:KD x x=true):inV x xs=true:=List.any_eq_true.mpr ⟨x,h,f⟩
structure wN (ps:List PD) (RW:List (Str×Addr×List Int)):Prop where
 door:∀q∈RW,V.str q.1∈jY ps "give"
 bnd:∀q∈RW,∀v∈q.2.2,0<=v/\v <1000000000
theorem Cr {ls:List aH} {ps:List PD} {RW:List (Str×Addr×List Int)} (F:sH ls ps) (hl:∀q∈RW,q.2.2.length<=300) (hb:∀q∈RW,∀v∈q.2.2,0<=v/\v <1000000000):Mi 199 ls ps (eN ls ps RW):=by
 have rq:∀x,lJ RW x=[]∨∃q∈RW,lJ RW x=q.2.2:=fun x=>by
  unfold lJ
  cases e:RW.find? fun q=>decide (q.1=x) with
  | none=>exact .inl rfl
  | some q=>exact .inr ⟨q,List.mem_of_find?_eq_some e,rfl⟩
 refine⟨fun l h v hv=>?_,fun p hp h0 v hv=>?_,fun p hp h0=>Nat.zero_le _,fun l h=>?_,fun p hp h0=>?_⟩
 ·have e:(eN ls ps RW).ev l.name=l.first:=wj F.whole.nod h
  rw [e] at hv
  exact(F.lok l h).2.2.2 v hv
 ·rcases rq p.name with e | ⟨q,hq,e⟩
  ·rw [show(eN ls ps RW).r p.name=[] from e] at hv
   cases hv
  ·rw [show(eN ls ps RW).r p.name=q.2.2 from e] at hv
   exact hb q hq v hv
 ·have e:(eN ls ps RW).ev l.name=l.first:=wj F.whole.nod h
  rw [e]
  have:=F.lok l h
  omega
 ·rcases rq p.name with e | ⟨q,hq,e⟩
  ·rw [show(eN ls ps RW).r p.name=[] from e]
   exact Nat.zero_le _
  ·rw [show(eN ls ps RW).r p.name=q.2.2 from e]
   exact hl q hq
inductive vU (K:PySem.W.Frag) (t:mW) (vs:List V) (H:Hp) (Q:VK) (E:XK):Prop where
 | mk:∀(n rw:Addr) (ls:List aH) (ps:List PD) (RW:List (Str×Addr×List Int)),vs=[.ref n,.ref rw]->mY K t H n ls ps->jE H rw RW->wN ps RW->(∀H',aK H H'->Q .non H')->vU K t vs H Q E
theorem DW (T:Txt w K mg t):FO P w K mg base 4 t.yj ["net", "rows"] (vU K t):=by
 have sc:=T.qX.sc ["net", "rows", "doors", "door"]
 refine T.qX.F.ok sc ln (fun _ _ _ _ H vs Q E hr h=>?_)
 obtain⟨n,rw,ls,ps,RW,rfl,N,hrw,hO,k⟩:=h
 refine⟨_,(au (sN sc 2 (RG (pv 0) T.bw T.bw.me.2.2.2.2.1 (uQ T) T.oA hr))
  (au (pH (H0:=H) rfl (eO PassesOwn.never rfl (pZ (pv 1)) (gN sc 3)
   (az (bQ (bC qt (pv 3) (pv 2) (by with_unfolding_all rfl))
    (az dH)
    bz))))
  (az (pH (H0:=H) rfl (eO PassesOwn.never rfl (pZ (pv 1)) (gN sc 3)
   (az (bQ (fU (fJ (dz (Ka T) T.yV hr (aa (cW hr.u1 (pv 1) (pv 3) (fun _ _=>rfl)) ak aD))))
    (az dH)
    bz))))))),?_⟩
 have hz:sizeLine=16777216:=sizeLine_eq
 obtain⟨dxn,fsn,R,F,Pd,Gn,Tk,FL,PL,Wn⟩:=id N
 refine⟨_,rfl,n,dxn,fsn,rfl,Wn.obj,Wn.fl.no _ (by decide +kernel),n,ls,ps,rfl,N,fun l nl=>?_⟩
 have s1:=aF (o:=.lst (jY ps "give")) nl
 have el:upd H l (.lst (jY ps "give")) l=some (.lst (jY ps "give")):=aA
 generalize upd H l (.lst (jY ps "give"))=H1 at s1 el ⊢
 have fl:(jY ps "give").all rW=true:=by
  rw [List.all_eq_true]
  intro v hv
  obtain⟨p,_,rfl⟩:=List.mem_map.mp hv
  rfl
 have w1:=hrw.same s1
 have nf:∀(o':Obj) (u':HO),H rw≠some (.frz o' u'):=fun o' u' z=>by rw [hrw.dict] at z;cases z
 refine⟨_,rfl,rw,_,rfl,w1.dict,fun o=>pF (fun j σ H'=>H'=upd H1 rw (.frz o (.dK (dh RW)))/\∃v3,σ=[some (.ref n),some (.ref rw),some (.ref l),v3]) ⟨rfl,none,rfl⟩ (fun j σ H' _ ⟨e,_⟩=>by rw [e];exact aA) ?_ ?_⟩
 ·rintro j kk v σ H' hj ⟨rfl,v3,rfl⟩
  unfold dh at hj
  rw [List.getElem?_map] at hj
  obtain⟨q,hq,e⟩:=Option.map_eq_some_iff.mp hj
  cases e
  refine⟨_,rfl,_,rfl,l,_,rfl,.inl (bT.of (jj w1.dict el (by intro _ z;cases z))),rfl,fl,_,rfl,?_⟩
  have hin:inV (kV (Sum.inr q.1)) (jY ps "give")=true:=Rq (hO.door q (List.mem_of_getElem? hq)) (by simp [KD,kV])
  rw [hin]
  exact dR ⟨rfl,_,rfl⟩
 rintro σ H' ⟨rfl,v3,rfl⟩
 refine⟨_,⟨rw,o,_,aA,nf,rfl⟩,?_⟩
 rw [tD,Ds w1.dict]
 refine⟨_,rfl,rw,_,rfl,w1.dict,fun o=>pF (fun j σ H'=>aK (upd H1 rw (.frz o (.dK (dh RW)))) H'/\∃v3,σ=[some (.ref n),some (.ref rw),some (.ref l),v3]) ⟨aK.refl _,v3,rfl⟩ (fun j σ H' _ ⟨e,_⟩=>e _ _ aA) ?_ ?_⟩
 ·rintro j kk v σ H' hj ⟨s2,v3,rfl⟩
  unfold dh at hj
  rw [List.getElem?_map] at hj
  obtain⟨q,hq,e⟩:=Option.map_eq_some_iff.mp hj
  cases e
  have hm:=List.mem_of_getElem? hq
  have vq:bW (dh RW) (Sum.inr q.1)=some (.ref q.2.1):=gh (by rw [mz];exact eZ hrw.nd) (List.mem_map.mpr ⟨q,hm,rfl⟩)
  have eq2:=s2 _ _ (jj w1.dict (w1.lists q hm) (by intro _ z;cases z))
  refine⟨_,rfl,_,rfl,rw,_,rfl,(by rw [<-vq];exact .inl ⟨_,Sum.inr q.1,.inr ⟨o,s2 _ _ aA⟩,rfl,rfl⟩),q.2.1,q.2.2,rfl,bT.of eq2,hrw.len q hm,hO.bnd q hm,fun H3 s3=>⟨_,rfl,dR ⟨s2.trans s3,_,rfl⟩⟩⟩
 rintro σ H' ⟨s2,v3,rfl⟩
 refine⟨_,⟨rw,o,_,s2 _ _ aA,nf,rfl⟩,?_⟩
 refine k _ fun b u e=>?_
 by_cases hb:b=rw
 ·subst hb
  rw [aA]
  rw [hrw.dict] at e
  exact e
 ·rw [aJ hb]
  exact s2 _ _ (by rw [aJ hb];exact s1 _ _ e)
noncomputable def roomF (ls:List aH) (x:Str):Int:=((ls.find? fun l=>decide (l.name=x)).map (·.room)).getD 0
noncomputable def Uo (ls:List aH) (S:FS) (q:Str×Int):Bool:=decide (roomF ls q.1<=((S.ev q.1).length:Int) - (S.g q.1:Int))
noncomputable def QH (ls:List aH) (S:FS) (dd:iH):V:=match dd.gv.find? (Uo ls S) with
 | some q=>.str q.1
 | none=>.non
theorem Jl {H:Hp} {Q:VK} {Ex:XK} {b:Nat} {A:ww} {ls:List aH} {ps:List PD} {S:FS} {p:PD} (N:mY K t H A.n ls ps) (W:jr K t H A ls ps S) (hp:p∈ps) (O:Mi b ls ps S) (kn:cH S p=none->∀H',aK H H'->Q .non H')
  (k:∀dd,cH S p=some dd->∀H' U,aK H H'->H U=none->pP (A.cells ls ps) H' U dd->Q (.ref U) H'):iJ K t [.ref A.f,.str p.name] H Q Ex:=by
 unfold iJ
 exact⟨b,A,ls,ps,S,p,rfl,N,W,hp,O,kn,k⟩
noncomputable def xM (ls:List aH) (S:FS) (p:PD):Option iH:=match cH S p with
 | none=>none
 | some dd=>if QH ls S dd=.non then some dd else none
theorem gW {S:FS} {p:PD} {dd:iH} (h:cH S p=some dd):f9 p.kind p.ins (bc S p)=.non/\vX S p=false/\dd=⟨(places p.kind (bc S p)).map (strAt p.ins),(cj p.kind p.nums (ud S p) (S.k p.name)).map fun pv=>(strAt p.outs pv.1.toNat,pv.2),fZ p.kind (ud S p) (S.k p.name)⟩:=by
 unfold cH at h
 split at h
 ·cases h
 ·rename_i h1
  split at h
  ·cases h
  ·rename_i h2
   exact⟨Classical.not_not.mp h1,by simpa using h2,(Option.some.inj h).symm⟩
theorem wL {xs:List Str} {q:Nat} (h:q <xs.length):strAt xs q∈xs:=by unfold strAt;rw [List.getElem?_eq_getElem h];exact List.getElem_mem h
theorem Ab {xs:List Str} {q:Nat} (h:q <xs.length):strAt xs q=xs[q]:=by unfold strAt;rw [List.getElem?_eq_getElem h];rfl
theorem J2 {i:Nat} {hs:List V}:(places i hs).Nodup:=by
 unfold places
 split
 ·split
  ·rename_i n _
   have h0:=Int.emod_nonneg n (show(2:Int)≠0 by decide)
   simp
   omega
  ·simp
 ·exact List.nodup_range
theorem O5 {xs:List Str} (nd:xs.Nodup) {l:List Nat} (hl:l.Nodup) (h:∀q∈l,q <xs.length):(l.map (strAt xs)).Nodup:=by
 unfold List.Nodup at hl ⊢
 rw [List.pairwise_map]
 refine hl.imp_of_mem fun {a b} ha hb hne e=>hne ?_
 rw [Ab (h a ha),Ab (h b hb)] at e
 exact(List.getElem_inj nd).mp e
theorem Eb {f:PD->List Str}:∀{ps:List PD},(ps.flatMap f).Nodup->∀{p:PD},p∈ps->(f p).Nodup
 | q:: r,nd,p,hp=>by
  rw [List.flatMap_cons,List.nodup_append] at nd
  rcases List.mem_cons.mp hp with h | h
  ·rw [h];exact nd.1
  ·exact Eb nd.2.1 h
theorem Jk {ls:List aH} {ps:List PD} {S:FS} (F:sH ls ps) {p:PD} (hp:p∈ps) {dd:iH} (h:cH S p=some dd):Dn ls dd:=by
 obtain⟨hl,he,rfl⟩:=gW h
 have ok:=F.pok p hp
 have hO:=rC S p ok
 have hlt:∀q∈places p.kind (bc S p),q <p.ins.length:=fun q hq=>by
  have:=jK hO q hq
  unfold bc at this
  rwa [lM] at this
 have inL:∀x∈p.ins ++ p.outs,x∈ls.map (·.name):=fun x hx=>by
  obtain⟨l,hl,rfl⟩:=F.inL hp hx
  exact List.mem_map.mpr ⟨l,hl,rfl⟩
 refine⟨?_,fun x hx=>?_,fun q hq=>?_,?_⟩
 ·exact O5 (Eb (F.whole.ins.nodup_iff.mpr F.whole.nod) hp) J2 hlt
 ·obtain⟨q,hq,rfl⟩:=List.mem_map.mp hx
  exact inL _ (List.mem_append.mpr (.inl (wL (hlt q hq))))
 ·obtain⟨pv,hpv,rfl⟩:=List.mem_map.mp hq
  obtain⟨o,ho1,ho2⟩:=Dq (show p.kind<=10 by have:=ok.1;omega) _ _ _ _ hpv
  refine inL _ (List.mem_append.mpr (.inr (wL ?_)))
  rw [ho1,Int.toNat_natCast,ok.2.2.2.1]
  exact ho2
 ·show(List.map _ _).length<=2
  rw [lM]
  exact yU ..
noncomputable def Gf (xs:List Str) (p:PD):Bool:=!decide (p.name∈xs)
noncomputable def vh (ls:List aH) (ps:List PD) (S:FS) (xs:List Str):List (PD×iH):=(ps.filter (Gf xs)).filterMap fun p=>(xM ls S p).map fun dd=>(p,dd)
noncomputable def kj (S:FS) (ws:List (PD×iH)):FS:=ws.foldl (fun S w=>jl S w.1.name w.2) S
noncomputable def Bp (ls:List aH) (ps:List PD) (S:FS) (xs:List Str):FS:=kj S (vh ls ps S xs)
theorem BX {S:FS} {b:Nat} {x:Str}:∀{ws:List (PD×iH)},(S.ev x).length<=b->(∀w∈ws,w.2.gv.length<=2)->((kj S ws).ev x).length<=b+2 * ws.length
 | [],h,_=>by simpa [kj] using h
 | w:: r,h,g=>by
  have h1:=g w List.mem_cons_self
  have h2:((jl S w.1.name w.2).ev x).length<=b+2:=by
   unfold jl
   rw [lP,lM]
   have:=List.length_filter_le (fun q:Str×Int=>decide (q.1=x)) w.2.gv
   omega
  have h3:=BX (S:=jl S w.1.name w.2) (ws:=r) h2 (fun w' hw=>g w' (List.mem_cons_of_mem _ hw))
  show((kj (jl S w.1.name w.2) r).ev x).length<=_
  rw [List.length_cons]
  omega
theorem Up {H:Hp} {Q:VK} {Ex:XK} {b:Nat} {A:ww} {ls:List aH} {ps:List PD} {S:FS} {p:PD} {U:Addr} {dd:iH} (F:sH ls ps) (W:jr K t H A ls ps S) (hp:p∈ps) (hl:∀l∈ls,(S.ev l.name).length<=b) (hb:b<=100000) (d:pP (A.cells ls ps) H U dd) (o:Dn ls dd)
  (k:∀H',Gw (A.cells ls ps) H H'->jr K t H' A ls ps (jl S p.name dd)->Q .non H'):jH K t [.ref A.f,.str p.name,.ref U] H Q Ex:=by
 unfold jH
 exact⟨b,A,ls,ps,S,p,U,dd,rfl,F,W,hp,hl,hb,d,o,k⟩
theorem jr.ins {H:Hp} {A:ww} {ls:List aH} {ps:List PD} {S:FS} (W:jr K t H A ls ps S) {x:Addr} (nx:x∉A.cells ls ps) {o:HO} (nf:x≠A.f):jr K t (upd H x o) A ls ps S:=by
 have st:∀a,a∈A.cells ls ps->upd H x o a=H a:=fun a ha=>aJ fun z=>nx (by rw [<-z];exact ha)
 obtain⟨dx,fs,h1,h2⟩:=W.at'.ex
 refine⟨⟨dx,fs,by rw [aJ (Ne.symm nf)];exact h1,h2⟩,?_,fun l hl=>?_,?_,?_,?_,?_,fun p hp h0=>?_,W.nod⟩
 ·rw [st _ (by simp [ww.cells])];exact W.ever
 ·rw [st _ (by unfold ww.cells;simp only [List.mem_cons,List.mem_append,List.mem_map];exact .inr (.inr (.inr (.inr (.inr (.inl ⟨l,hl,rfl⟩))))))];exact W.lists l hl
 ·rw [st _ (by simp [ww.cells])];exact W.gone
 ·rw [st _ (by simp [ww.cells])];exact W.kept
 ·rw [st _ (by simp [ww.cells])];exact W.done
 ·rw [st _ (by simp [ww.cells])];exact W.rows
 ·rw [st _ (by unfold ww.cells;simp only [List.mem_cons,List.mem_append,List.mem_map];exact .inr (.inr (.inr (.inr (.inr (.inr ⟨p,List.mem_filter.mpr ⟨hp,by simp [h0]⟩,rfl⟩))))))];exact W.rlst p hp h0
inductive Ij (M:List Addr) (ls:List aH) (S:FS) (H:Hp) (q:PD×Addr):Prop where
 | mk:∀u,H q.2=some (.tup [.str q.1.name,u])->(((xM ls S q.1=none/\u=.non)∨∃dd U,xM ls S q.1=some dd/\u=.ref U/\pP M H U dd))->Ij M ls S H q
theorem Ij.same {M:List Addr} {ls:List aH} {S:FS} {H H':Hp} {q:PD×Addr} (h:Ij M ls S H q) (s:aK H H'):Ij M ls S H' q:=by
 obtain⟨u,h1,h2⟩:=h
 refine⟨u,s _ _ h1,?_⟩
 rcases h2 with h2 | ⟨dd,U,a,b,c⟩
 ·exact .inl h2
 ·exact .inr ⟨dd,U,a,b,c.same s⟩
theorem pI {ls:List aH} {S:FS} {p:PD} {dd:iH} (h:xM ls S p=some dd):cH S p=some dd/\QH ls S dd=.non:=by
 unfold xM at h
 split at h
 ·cases h
 ·rename_i d hd
  split at h
  ·rename_i hf
   cases h
   exact⟨hd,hf⟩
  ·cases h
theorem Sh {ws:List Int} (h:S8 ws):0<=g0 ws/\g0 ws <1000000000:=by
 unfold g0
 match ws,h with
 | [],_=>exact⟨by decide,by decide⟩
 | w:: r,h=>exact h w List.mem_cons_self
theorem RD {ws:List Int} (h:S8 ws):0<=g1 ws/\g1 ws <1000000000:=by
 unfold g1
 match ws,h with
 | [],_=>exact⟨by decide,by decide⟩
 | [w],_=>exact⟨Int.le_refl 0,by show(0:Int) <1000000000;decide⟩
 | w:: v:: r,h=>exact h v (by simp)
theorem DP (n:Int):0<=n % 1000000000/\n % 1000000000 <1000000000:=⟨Int.emod_nonneg _ (by decide),Int.emod_lt_of_pos _ (by decide)⟩
theorem Gs {i:Nat} (hi:i <11) (ns:List Int) {ws:List Int} (kp:Int) (h:S8 ws):∀pv∈cj i ns ws kp,0<=pv.2/\pv.2 <1000000000:=by
 have a0:=Sh h
 have a1:=RD h
 match i,hi with
 | 0,_=>simp [cj];exact a0
 | 1,_=>simp [cj]
 | 2,_=>simp [cj];exact a0
 | 3,_=>simp [cj];exact a0
 | 4,_=>simp [cj];exact DP _
 | 5,_=>simp [cj];exact DP _
 | 6,_=>simp [cj];exact DP _
 | 7,_=>simp [cj];split <;> decide
 | 8,_=>simp [cj];constructor <;> split <;> omega
 | 9,_=>simp [cj];exact a1
 | 10,_=>simp [cj];exact a1
theorem Ga (x:Str):∀(ws:List (PD×iH)) (S:FS),(kj S ws).ev x=S.ev x ++ ws.flatMap fun w=>(w.2.gv.filter fun q=>decide (q.1=x)).map (·.2)
 | [],S=>by simp [kj]
 | w:: r,S=>by
  show(kj (jl S w.1.name w.2) r).ev x=_
  rw [Ga x r,List.flatMap_cons,<-List.append_assoc]
  rfl
theorem yF:∀(ws:List (PD×iH)) (S:FS),(kj S ws).r=S.r
 | [],_=>rfl
 | w:: r,S=>by show(kj (jl S w.1.name w.2) r).r=_;rw [yF r];rfl
theorem Io (x:Str):∀(ws:List (PD×iH)) (S:FS),(kj S ws).d x=S.d x+(ws.filter fun w=>decide (w.1.name=x)).length
 | [],S=>by simp [kj]
 | w:: r,S=>by
  show(kj (jl S w.1.name w.2) r).d x=_
  rw [Io x r,List.filter_cons]
  show(if x=w.1.name then S.d x+1 else S.d x)+_=_
  by_cases h:x=w.1.name
  ·rw [if_pos h,if_pos (by simp [h])]
   simp
   omega
  ·rw [if_neg h,if_neg (by simpa using fun e=>h e.symm)]
theorem Jh (x:Str):∀(ws:List (PD×iH)) (S:FS),(kj S ws).g x=S.g x+(ws.filter fun w=>decide (x∈w.2.tk)).length
 | [],S=>by simp [kj]
 | w:: r,S=>by
  show(kj (jl S w.1.name w.2) r).g x=_
  rw [Jh x r,List.filter_cons]
  show(if x∈w.2.tk then S.g x+1 else S.g x)+_=_
  by_cases h:x∈w.2.tk
  ·rw [if_pos h,if_pos (by simp [h])]
   simp
   omega
  ·rw [if_neg h,if_neg (by simp [h])]
theorem sS {ls:List aH} {ps:List PD} {S:FS} {xs:List Str} {w:PD×iH} (h:w∈vh ls ps S xs):w.1∈ps/\Gf xs w.1=true/\xM ls S w.1=some w.2:=by
 obtain⟨p,hp,e⟩:=List.mem_filterMap.mp h
 obtain⟨dd,hd,rfl⟩:=Option.map_eq_some_iff.mp e
 obtain⟨h1,h2⟩:=List.mem_filter.mp hp
 exact⟨h1,h2,hd⟩
theorem pM {ls:List aH} {S:FS}:∀{qs:List PD},((qs.filterMap fun p=>(xM ls S p).map fun dd=>(p,dd)).map (·.1)).Sublist qs
 | []=>by simp
 | q:: r=>by
  rw [List.filterMap_cons]
  cases xM ls S q with
  | none=>exact pM.cons _
  | some dd=>exact pM.cons₂ _
theorem RJ {ls:List aH} {ps:List PD} {S:FS} {xs:List Str} (nd:(ps.map (·.name)).Nodup):((vh ls ps S xs).map fun w=>w.1.name).Nodup:=by
 have h:((vh ls ps S xs).map (·.1)).Sublist ps:=(pM (qs:=ps.filter (Gf xs))).trans List.filter_sublist
 have e:(vh ls ps S xs).map (fun w=>w.1.name)=((vh ls ps S xs).map (·.1)).map (·.name):=by rw [List.map_map];rfl
 rw [e]
 exact nd.sublist (h.map _)
theorem Oq {ls:List aH} {ps:List PD} {S:FS} {xs:List Str}:(vh ls ps S xs).length<=ps.length:=by
 have h:((vh ls ps S xs).map (·.1)).Sublist ps:=(pM (qs:=ps.filter (Gf xs))).trans List.filter_sublist
 have:=h.length_le
 rwa [lM] at this
theorem HY {α:Type} {f:α->Str} {x:Str}:∀{l:List α},(l.map f).Nodup->(l.filter fun a=>decide (f a=x)).length<=1
 | [],_=>by simp
 | a:: r,nd=>by
  rw [List.map_cons,List.nodup_cons] at nd
  rw [List.filter_cons]
  by_cases h:f a=x
  ·rw [if_pos (by simp [h]),List.filter_eq_nil_iff.mpr fun b hb=>by simpa using fun e=>nd.1 (List.mem_map.mpr ⟨b,hb,by rw [e,h]⟩)]
   simp
  ·rw [if_neg (by simp [h])]
   exact HY nd.2
theorem Vn {b:Nat} {ls:List aH} {ps:List PD} {S:FS} (F:sH ls ps) (O:Mi b ls ps S) (xs:List Str):Mi (b+32) ls ps (Bp ls ps S xs):=by
 have dk:∀w∈vh ls ps S xs,Dn ls w.2:=fun w hw=>Jk F (sS hw).1 (pI (sS hw).2.2).1
 refine⟨fun l hl v hv=>?_,fun p hp h0=>?_,fun p hp h0=>?_,fun l hl=>?_,fun p hp h0=>?_⟩
 ·unfold Bp at hv
  rw [Ga] at hv
  rcases List.mem_append.mp hv with h | h
  ·exact O.vb l hl v h
  ·obtain⟨w,hw,hv⟩:=List.mem_flatMap.mp h
   obtain⟨q,hq,rfl⟩:=List.mem_map.mp hv
   obtain⟨h1,_,h3⟩:=sS hw
   obtain⟨e1,e2,e3⟩:=gW (pI h3).1
   have hq':=(List.mem_filter.mp hq).1
   rw [e3] at hq'
   obtain⟨pv,hpv,rfl⟩:=List.mem_map.mp hq'
   exact Gs (F.pok _ h1).1 _ _ (Lr F O h1 e1 e2).2.1 pv hpv
 ·unfold Bp
  rw [yF]
  exact O.rb p hp h0
 ·unfold Bp
  rw [yF,Io]
  have h1:=HY (x:=p.name) (RJ (ls:=ls) (S:=S) (xs:=xs) F.pnd)
  have h2:=O.dl p hp h0
  by_cases hm:∃w∈vh ls ps S xs,w.1.name=p.name
  ·obtain⟨w,hw,e⟩:=hm
   obtain⟨a1,_,a3⟩:=sS hw
   have ew:w.1=p:=qM F.pnd a1 hp e
   obtain⟨_,e2,_⟩:=gW (pI a3).1
   rw [ew] at e2
   unfold vX at e2
   simp [h0] at e2
   omega
  ·rw [List.filter_eq_nil_iff.mpr fun w hw=>by simpa using fun e=>hm ⟨w,hw,e⟩]
   simpa using h2
 ·have h1:=BX (O.len l hl) fun w hw=>(dk w hw).g2
  have h2:=Oq (ls:=ls) (ps:=ps) (S:=S) (xs:=xs)
  have:=F.p16
  unfold Bp
  omega
 ·unfold Bp
  rw [yF]
  exact O.rl p hp h0
theorem NQ {H:Hp} {Q:VK} {Ex:XK} {H0:Hp} {f dx n rw:Addr} {ls:List aH} {ps:List PD} {RW:List (Str×Addr×List Int)} (hf:H f=some (.ins t.bR dx [])) (s0:aK H0 H) (nf:H0 f=none) (N:mY K t H0 n ls ps) (hrw:jE H0 rw RW)
  (k:∀(H':Hp) (A:ww),A.f=f->A.n=n->j4 f H H'->jr K t H' A ls ps (eN ls ps RW)->(∀a∈A.cells ls ps,H a=none)->Q .non H'):fV K t [.ref f,.ref n,.ref rw] H Q Ex:=by
 unfold fV
 exact⟨H0,f,dx,n,rw,ls,ps,RW,rfl,hf,s0,nf,N,hrw,k⟩
theorem Ag {α:Type} {f:α->List Str}:∀{l m:List α},l.Sublist m->(l.flatMap f).Sublist (m.flatMap f)
 | _,_,.slnil=>List.Sublist.refl _
 | _,_,.cons a h=>by rw [List.flatMap_cons];exact(Ag h).trans (List.sublist_append_right _ _)
 | _,_,.cons₂ a h=>by rw [List.flatMap_cons,List.flatMap_cons];exact(List.Sublist.refl _).append (Ag h)
theorem PN {ls:List aH} {ps:List PD} {S:FS} {xs:List Str} (F:sH ls ps):((vh ls ps S xs).flatMap (·.1.ins)).Nodup:=by
 have h:((vh ls ps S xs).map (·.1)).Sublist ps:=(pM (qs:=ps.filter (Gf xs))).trans List.filter_sublist
 have h2:=(F.whole.ins.nodup_iff.mpr F.whole.nod).sublist (Ag (f:=(·.ins)) h)
 rwa [List.flatMap_map] at h2
theorem Lq {ls:List aH} {ps:List PD} {S:FS} (F:sH ls ps) {p:PD} (hp:p∈ps) {dd:iH} (h:cH S p=some dd) {x:Str} (hx:x∈dd.tk):x∈p.ins/\S.g x <(S.ev x).length:=by
 obtain⟨hl,_,rfl⟩:=gW h
 obtain⟨q,hq,rfl⟩:=List.mem_map.mp hx
 obtain⟨y,n,e1,_,e3⟩:=En (F.pok p hp) hl q hq
 have e:strAt p.ins q=y:=by unfold strAt;rw [e1];rfl
 rw [e]
 exact⟨List.mem_of_getElem? e1,(List.getElem?_eq_some_iff.mp e3).1⟩
theorem Lb {α:Type} {l:List α} {j:Nat} {a:α} (h:l[j]?=some a):l=l.take j ++ a:: l.drop (j+1):=by
 obtain⟨hj,e⟩:=List.getElem?_eq_some_iff.mp h
 rw [<-e,<-List.drop_eq_getElem_cons hj,List.take_append_drop]
theorem VR {ls:List aH} {ps:List PD} {S:FS} {xs:List Str} (F:sH ls ps) {j:Nat} {w:PD×iH} (h:(vh ls ps S xs)[j]?=some w) {x:Str} (hx:x∈w.2.tk):(kj S ((vh ls ps S xs).take j)).g x=S.g x/\S.g x <(S.ev x).length:=by
 have hw:=sS (List.mem_of_getElem? h)
 have t1:=Lq F hw.1 (pI hw.2.2).1 hx
 refine⟨?_,t1.2⟩
 have nd:=PN (ls:=ls) (S:=S) (xs:=xs) F
 rw [Lb h,List.flatMap_append,List.flatMap_cons,List.nodup_append] at nd
 rw [Jh,List.filter_eq_nil_iff.mpr fun w' hw'=>?_]
 ·rfl
 ·intro z
  have hx':=of_decide_eq_true z
  have hd:=sS (List.mem_of_mem_take hw')
  have t2:=Lq F hd.1 (pI hd.2.2).1 hx'
  exact nd.2.2 x (List.mem_flatMap.mpr ⟨w',hw',t2.1⟩) x (List.mem_append.mpr (.inl t1.1)) rfl
theorem vY {f:PD->List Str}:∀{ps:List PD},(ps.flatMap f).Nodup->∀{p q:PD},p∈ps->q∈ps->∀{x:Str},x∈f p->x∈f q->p=q
 | a:: r,nd,p,q,hp,hq,x,h1,h2=>by
  rw [List.flatMap_cons,List.nodup_append] at nd
  rcases List.mem_cons.mp hp with e1 | e1
  ·rcases List.mem_cons.mp hq with e2 | e2
   ·rw [e1,e2]
   ·rw [e1] at h1
    exact absurd rfl (nd.2.2 x h1 x (List.mem_flatMap.mpr ⟨q,e2,h2⟩))
  ·rcases List.mem_cons.mp hq with e2 | e2
   ·rw [e2] at h2
    exact absurd rfl (nd.2.2 x h2 x (List.mem_flatMap.mpr ⟨p,e1,h1⟩))
   ·exact vY nd.2.1 e1 e2 h1 h2
noncomputable def Wi (S:FS) (p:PD):List (Str×Int):=(cj p.kind p.nums (ud S p) (S.k p.name)).map fun pv=>(strAt p.outs pv.1.toNat,pv.2)
noncomputable def Nb (S:FS) (p:PD):List Str:=(Wi S p).map (·.1)
theorem OD {S:FS} {p:PD} (ok:ph p) (hA:p.kind≠10):Nb S p=p.outs:=by
 have h:=ok.1
 have hO:=ok.2.2.2.1
 unfold Nb Wi
 rw [List.map_map]
 have key:∀i,i <11->i≠10->∀(ns ws:List Int) (k:Int),(cj i ns ws k).map (fun pv=>pv.1.toNat)=List.range (cO i):=by
  intro i hi hn ns ws k
  match i,hi,hn with
  | 0,_,_=>rfl
  | 1,_,_=>rfl
  | 2,_,_=>rfl
  | 3,_,_=>rfl
  | 4,_,_=>rfl
  | 5,_,_=>rfl
  | 6,_,_=>rfl
  | 7,_,_=>rfl
  | 8,_,_=>rfl
  | 9,_,_=>rfl
  | 10,_,hn=>exact absurd rfl hn
 have e:(cj p.kind p.nums (ud S p) (S.k p.name)).map ((fun q:Str×Int=>q.1)∘fun pv=>(strAt p.outs pv.1.toNat,pv.2))=((cj p.kind p.nums (ud S p) (S.k p.name)).map (fun pv=>pv.1.toNat)).map (strAt p.outs):=by rw [List.map_map];rfl
 rw [e,key _ h hA,<-hO]
 refine List.ext_getElem? fun i=>?_
 rw [List.getElem?_map]
 by_cases h:i <p.outs.length
 ·rw [List.getElem?_range h,List.getElem?_eq_getElem h,Option.map_some,Ab h]
 ·rw [List.getElem?_eq_none (by rw [List.length_range];omega),List.getElem?_eq_none (by omega)]
  rfl
theorem Sv {S:FS} {p:PD} (ok:ph p) {x:Str} (hx:x∈Nb S p):x∈p.outs:=by
 obtain⟨q,hq,rfl⟩:=List.mem_map.mp hx
 obtain⟨pv,hpv,rfl⟩:=List.mem_map.mp hq
 obtain⟨o,ho1,ho2⟩:=Dq (show p.kind<=10 by have:=ok.1;omega) _ _ _ _ hpv
 refine wL ?_
 rw [ho1,Int.toNat_natCast,ok.2.2.2.1]
 exact ho2
theorem JB {ls:List aH} {ps:List PD} {S:FS} (F:sH ls ps) {p:PD} (hp:p∈ps) {dd:iH} (h:cH S p=some dd):(dd.gv.map (·.1)).Nodup/\∀q∈dd.gv,q.1∈p.outs:=by
 obtain⟨_,_,rfl⟩:=gW h
 have ok:=F.pok p hp
 have eg:((cj p.kind p.nums (ud S p) (S.k p.name)).map fun pv=>(strAt p.outs pv.1.toNat,pv.2)).map (·.1)=Nb S p:=rfl
 refine⟨?_,fun q hq=>Sv (S:=S) ok (List.mem_map.mpr ⟨q,hq,rfl⟩)⟩
 show(((cj p.kind p.nums (ud S p) (S.k p.name)).map fun pv=>(strAt p.outs pv.1.toNat,pv.2)).map (·.1)).Nodup
 rw [eg]
 by_cases hA:p.kind=10
 ·unfold Nb Wi
  rw [hA]
  show [_].Nodup
  simp
 ·rw [OD ok hA]
  exact Eb (F.whole.outs.nodup_iff.mpr F.whole.nod) hp
theorem G4 {ls:List aH} {ps:List PD} {S:FS} (F:sH ls ps) {p q:PD} (hp:p∈ps) (hq:q∈ps) (hne:p≠q) {dd:iH} (h:cH S p=some dd) {x:Str} (hx:x∈q.ins) {n:Int} (hn:j9 S x=.int n):j9 (jl S p.name dd) x=.int n:=by
 have hg:x∉dd.tk:=fun z=>by
  have h1:=(Lq F hp h z).1
  have nd:=F.whole.ins.nodup_iff.mpr F.whole.nod
  exact hne (vY nd hp hq h1 hx)
 unfold j9 at hn ⊢
 show((((S.ev x) ++ _)[if x∈dd.tk then S.g x+1 else S.g x]?).map V.int).getD .non=.int n
 rw [if_neg hg]
 cases e:(S.ev x)[S.g x]? with
 | none=>rw [e] at hn;cases hn
 | some m=>
  rw [e] at hn
  rw [List.getElem?_append_left (List.getElem?_eq_some_iff.mp e).1,e]
  exact hn
theorem wz {ls:List aH} {ps:List PD} {S:FS} (F:sH ls ps) {p q:PD} (hp:p∈ps) (hq:q∈ps) (hne:p≠q) {dd dq:iH} (h:cH S p=some dd) (hd:cH S q=some dq):cH (jl S p.name dd) q=some dq:=by
 obtain⟨hl,he,rfl⟩:=gW hd
 have ok:=F.pok q hq
 have hno:=En ok hl
 have nn:q.name≠p.name:=fun z=>hne (qM F.pnd hp hq z.symm)
 have at':∀i∈places q.kind (bc S q),∃n,(bc S q)[i]?=some (.int n)/\(bc (jl S p.name dd) q)[i]?=some (.int n):=fun i hi=>by
  obtain⟨x,n,e1,e2,_⟩:=hno i hi
  refine⟨n,e2,?_⟩
  unfold bc at e2 ⊢
  rw [List.getElem?_map,e1] at e2 ⊢
  rw [Option.map_some] at e2 ⊢
  rw [G4 F hp hq hne h (List.mem_of_getElem? e1) (Option.some.inj e2)]
 have pl:places q.kind (bc (jl S p.name dd) q)=places q.kind (bc S q):=by
  by_cases h9:q.kind=9
  ·obtain⟨n,e1,e2⟩:=at' 0 (by unfold places;rw [if_pos h9];split <;> simp)
   unfold places
   rw [if_pos h9,if_pos h9]
   cases a:bc S q with
   | nil=>rw [a] at e1;cases e1
   | cons u r=>
    rw [a] at e1
    cases b:bc (jl S p.name dd) q with
    | nil=>rw [b] at e2;cases e2
    | cons v s=>
     rw [b] at e2
     have e1:u=.int n:=by simpa using e1
     have e2:v=.int n:=by simpa using e2
     rw [e1,e2]
  ·unfold places bc
   rw [if_neg h9,if_neg h9,lM,lM]
 have ws:ud (jl S p.name dd) q=ud S q:=by
  unfold ud
  rw [pl]
  by_cases h0:q.kind=0
  ·rw [if_pos h0,if_pos h0]
   show((S.r q.name)[if q.name=p.name then _ else S.d q.name]?).toList=_
   rw [if_neg nn]
  ·rw [if_neg h0,if_neg h0]
   refine List.map_congr_left fun i hi=>?_
   obtain⟨n,e1,e2⟩:=at' i hi
   rw [e1,e2]
 have kk:(jl S p.name dd).k q.name=S.k q.name:=if_neg nn
 have hl':f9 q.kind q.ins (bc (jl S p.name dd) q)=.non:=by
  unfold f9
  rw [pl,List.find?_eq_none.mpr fun i hi=>?_]
  obtain⟨n,_,e2⟩:=at' i hi
  unfold ue
  rw [e2]
  simp
 have he':vX (jl S p.name dd) q=false:=by
  unfold vX at he ⊢
  show(decide (q.kind=0) && decide ((if q.name=p.name then _ else S.d q.name)=(S.r q.name).length))=false
  rw [if_neg nn]
  exact he
 unfold cH
 rw [if_neg (by simp [hl']),if_neg (by simp [he']),pl,ws,kk]
theorem Px {ls:List aH} {ps:List PD} {S:FS} (F:sH ls ps) {p q:PD} (hp:p∈ps) (hq:q∈ps) (hne:p≠q) {dd dq:iH} (h:cH S p=some dd) (hd:cH S q=some dq):jl (jl S p.name dd) q.name dq=jl (jl S q.name dq) p.name dd:=by
 have nn:q.name≠p.name:=fun z=>hne (qM F.pnd hp hq z.symm)
 have go:=(JB F hp h).2
 have gq:=(JB F hq hd).2
 have nd:=F.whole.outs.nodup_iff.mpr F.whole.nod
 have e1:(jl (jl S p.name dd) q.name dq).ev=(jl (jl S q.name dq) p.name dd).ev:=by
  funext y
  show(S.ev y ++ (dd.gv.filter fun z=>decide (z.1=y)).map (·.2)) ++ (dq.gv.filter fun z=>decide (z.1=y)).map (·.2)=(S.ev y ++ (dq.gv.filter fun z=>decide (z.1=y)).map (·.2)) ++ (dd.gv.filter fun z=>decide (z.1=y)).map (·.2)
  by_cases ha:(dd.gv.filter fun z=>decide (z.1=y))=[]
  ·rw [ha];simp
  ·by_cases hb:(dq.gv.filter fun z=>decide (z.1=y))=[]
   ·rw [hb];simp
   ·obtain⟨a,ha⟩:=List.exists_mem_of_ne_nil _ ha
    obtain⟨b,hb⟩:=List.exists_mem_of_ne_nil _ hb
    obtain⟨a1,a2⟩:=List.mem_filter.mp ha
    obtain⟨b1,b2⟩:=List.mem_filter.mp hb
    have z1:=go a a1
    have z2:=gq b b1
    rw [of_decide_eq_true a2] at z1
    rw [of_decide_eq_true b2] at z2
    exact absurd (vY nd hp hq z1 z2) hne
 have e2:(jl (jl S p.name dd) q.name dq).g=(jl (jl S q.name dq) p.name dd).g:=by
  funext y
  show(if y∈dq.tk then(if y∈dd.tk then S.g y+1 else S.g y)+1 else if y∈dd.tk then S.g y+1 else S.g y)=if y∈dd.tk then(if y∈dq.tk then S.g y+1 else S.g y)+1 else if y∈dq.tk then S.g y+1 else S.g y
  by_cases a:y∈dq.tk <;> by_cases b:y∈dd.tk <;> simp [a,b]
 have e3:(jl (jl S p.name dd) q.name dq).k=(jl (jl S q.name dq) p.name dd).k:=by
  funext y
  show(if y=q.name then dq.kv else if y=p.name then dd.kv else S.k y)=if y=p.name then dd.kv else if y=q.name then dq.kv else S.k y
  by_cases a:y=q.name
  ·rw [if_pos a,if_neg (by rw [a];exact nn),if_pos a]
  ·rw [if_neg a,if_neg a]
 have e4:(jl (jl S p.name dd) q.name dq).d=(jl (jl S q.name dq) p.name dd).d:=by
  funext y
  show(if y=q.name then(if y=p.name then S.d y+1 else S.d y)+1 else if y=p.name then S.d y+1 else S.d y)=if y=p.name then(if y=q.name then S.d y+1 else S.d y)+1 else if y=q.name then S.d y+1 else S.d y
  by_cases a:y=q.name
  ·rw [if_pos a,if_neg (by rw [a];exact nn),if_neg (by rw [a];exact nn),if_pos a]
  ·rw [if_neg a,if_neg a]
 show(⟨_,_,_,_,_⟩:FS)=⟨_,_,_,_,_⟩
 exact congr (congr (congr (congr (congrArg FS.mk e1) e2) e3) e4) rfl
inductive pL (ps:List PD) (m:Nat):FS->FS->Prop
 | refl (S:FS):pL ps m S S
 | head {S T:FS} {p:PD} {dd:iH}:p∈ps->S.d p.name <m->cH S p=some dd->pL ps m (jl S p.name dd) T->pL ps m S T
theorem pL.trans {ps:List PD} {m:Nat} {S T U:FS} (a:pL ps m S T) (b:pL ps m T U):pL ps m S U:=by
 induction a with
 | refl _=>exact b
 | head h1 h2 h3 _ ih=>exact .head h1 h2 h3 (ih b)
noncomputable def Done (ps:List PD) (m:Nat) (T:FS):Prop:=∀p∈ps,T.d p.name <m->cH T p=none
theorem pL.swap {ls:List aH} {ps:List PD} {m:Nat} (F:sH ls ps) {A T:FS} (r:pL ps m A T) (hT:Done ps m T):∀{p:PD} {dd:iH},p∈ps->A.d p.name <m->cH A p=some dd->pL ps m (jl A p.name dd) T:=by
 induction r with
 | refl S=>intro p dd hp hm hd;rw [hT p hp hm] at hd;cases hd
 | @head S T q dq hq hm' hd' r ih=>
  intro p dd hp hm hd
  by_cases e:q=p
  ·subst e
   rw [hd] at hd'
   cases hd'
   exact r
  ·have nn:p.name≠q.name:=fun z=>e (qM F.pnd hq hp z.symm)
   have c:=ih hT hp (show(if p.name=q.name then _ else S.d p.name) <m by rw [if_neg nn];exact hm) (wz F hq hp e hd' hd)
   rw [Px F hq hp e hd' hd] at c
   exact .head hq (show(if q.name=p.name then _ else S.d q.name) <m by rw [if_neg (Ne.symm nn)];exact hm') (wz F hp hq (Ne.symm e) hd hd') c
theorem pL.ends {ls:List aH} {ps:List PD} {m:Nat} (F:sH ls ps) {A S T:FS} (a:pL ps m A S) (b:pL ps m A T) (hT:Done ps m T):pL ps m S T:=by
 induction a with
 | refl _=>exact b
 | head h1 h2 h3 _ ih=>exact ih (b.swap F hT h1 h2 h3)
theorem pL.pre {ps:List PD} {m:Nat} {S T:FS} (r:pL ps m S T) (x:Str):∃l,T.ev x=S.ev x ++ l:=by
 induction r with
 | refl S=>exact⟨[],by simp⟩
 | head _ _ _ _ ih=>
  obtain⟨l,e⟩:=ih
  exact⟨_,by rw [e];show(_ ++ _) ++ _=_;rw [List.append_assoc]⟩
theorem pL.all {ls:List aH} {ps:List PD} {m:Nat} (F:sH ls ps):∀{ws:List (PD×iH)} {S:FS},(ws.map fun w=>w.1.name).Nodup->(∀w∈ws,w.1∈ps/\S.d w.1.name <m/\cH S w.1=some w.2)->pL ps m S (kj S ws)
 | [],S,_,_=>.refl S
 | w:: r,S,nd,h=>by
  rw [List.map_cons,List.nodup_cons] at nd
  obtain⟨h1,h2,h3⟩:=h w List.mem_cons_self
  refine .head h1 h2 h3 (pL.all F nd.2 fun w' hw'=>?_)
  obtain⟨a1,a2,a3⟩:=h w' (List.mem_cons_of_mem _ hw')
  have ne:w'.1.name≠w.1.name:=fun z=>nd.1 (List.mem_map.mpr ⟨w',hw',z⟩)
  refine⟨a1,?_,wz F h1 a1 (fun z=>ne (by rw [z])) h3 a3⟩
  show(if w'.1.name=w.1.name then _ else S.d w'.1.name) <m
  rw [if_neg ne]
  exact a2
noncomputable def sW (ps:List PD) (S:FS):Nat:=(ps.map fun p=>S.d p.name).sum
noncomputable def Qi:Option HO->Nat
 | some (.dK kvs)=>(kvs.map fun kv=>match kv.2 with | .int n=>n.toNat | _=>0).sum
 | _=>0
theorem KZ {H:Hp} {a:Addr} {ps:List PD} {S:FS} (h:H a=some (.dK (bU (fun x=>(S.d x:Int)) ps))):Qi (H a)=sW ps S:=by
 rw [h]
 show(List.map _ (bU _ ps)).sum=_
 unfold bU sW
 rw [List.map_map]
 congr 1
theorem K7 {ps:List PD} {S:FS} {dd:iH}:∀{qs:List PD} {p:PD},(qs.map (·.name)).Nodup->p∈qs->sW qs (jl S p.name dd)=sW qs S+1
 | a:: r,p,nd,hp=>by
  rw [List.map_cons,List.nodup_cons] at nd
  have tl:∀{x:Str},x∉r.map (·.name)->(r.map fun p=>(jl S x dd).d p.name)=r.map fun p=>S.d p.name:=fun {x} hx=>List.map_congr_left fun q hq=>if_neg fun z=>hx (List.mem_map.mpr ⟨q,hq,z⟩)
  unfold sW
  rw [List.map_cons,List.map_cons,List.sum_cons,List.sum_cons]
  rcases List.mem_cons.mp hp with rfl | hp
  ·rw [tl nd.1]
   show(if p.name=p.name then S.d p.name+1 else S.d p.name)+_=_
   rw [if_pos rfl]
   omega
  ·have ih:=K7 (ps:=ps) (S:=S) (dd:=dd) nd.2 hp
   unfold sW at ih
   rw [ih]
   have ne:a.name≠p.name:=fun z=>nd.1 (List.mem_map.mpr ⟨p,hp,z.symm⟩)
   show(if a.name=p.name then S.d a.name+1 else S.d a.name)+_=_
   rw [if_neg ne]
   omega
theorem M7 {S:FS} {m:Nat}:∀{ps:List PD},(∀p∈ps,S.d p.name<=m)->sW ps S<=ps.length * m
 | [],_=>Nat.zero_le _
 | a:: r,h=>by
  have:=M7 fun p hp=>h p (List.mem_cons_of_mem _ hp)
  have:=h a List.mem_cons_self
  unfold sW at *
  rw [List.map_cons,List.sum_cons,List.length_cons,Nat.add_mul]
  omega
theorem QD {b:Nat} {ls:List aH} {ps:List PD} {S:FS} (F:sH ls ps) (O:Mi b ls ps S) {p:PD} (hp:p∈ps) {dd:iH} (h:cH S p=some dd):Mi (b+2) ls ps (jl S p.name dd):=by
 obtain⟨e1,e2,rfl⟩:=gW h
 have hw2:=yU p.kind p.nums (ud S p) (S.k p.name)
 refine⟨fun l hl v hv=>?_,fun p' hp' h0=>O.rb p' hp' h0,fun p' hp' h0=>?_,fun l hl=>?_,fun p' hp' h0=>O.rl p' hp' h0⟩
 ·rcases List.mem_append.mp hv with hv | hv
  ·exact O.vb l hl v hv
  ·obtain⟨q,hq,rfl⟩:=List.mem_map.mp hv
   obtain⟨pv,hpv,rfl⟩:=List.mem_map.mp (List.mem_filter.mp hq).1
   exact Gs (F.pok _ hp).1 _ _ (Lr F O hp e1 e2).2.1 pv hpv
 ·show(if p'.name=p.name then S.d p'.name+1 else S.d p'.name)<=_
  have hd:=O.dl p' hp' h0
  by_cases e:p'.name=p.name
  ·have:=qM F.pnd hp' hp e
   subst this
   rw [if_pos rfl]
   unfold vX at e2
   simp [h0] at e2
   show S.d p'.name+1<=(S.r p'.name).length
   omega
  ·rw [if_neg e]
   exact hd
 ·show(S.ev l.name ++ _).length<=_
  rw [lP,lM]
  have:=O.len l hl
  refine Nat.le_trans (Nat.add_le_add_left (List.length_filter_le _ _) _) ?_
  rw [lM]
  omega
theorem pL.snoc {ps:List PD} {m:Nat} {S T:FS} (r:pL ps m S T) {p:PD} {dd:iH} (hp:p∈ps) (hm:T.d p.name <m) (hd:cH T p=some dd):pL ps m S (jl T p.name dd):=r.trans (.head hp hm hd (.refl _))
structure Ey (K:PySem.W.Frag) (t:mW) (H H':Hp) (A:ww) (ls:List aH) (ps:List PD) (m:Nat) (S0 S:FS):Prop where
 net:mY K t (bH (A.cells ls ps) H') A.n ls ps
 flow:jr K t H' A ls ps S
 con:aK (bH (A.cells ls ps) H) (bH (A.cells ls ps) H')
 rch:pL ps m S0 S
 ok:Mi (199+2 * sW ps S) ls ps S
 dm:∀p∈ps,S.d p.name<=m
theorem Cm {E:List Addr} {H H':Hp} (s:aK H H'):aK (bH E H) (bH E H'):=fun b o e=>by
 have hb:b∉E:=fun z=>by unfold bH at e;rw [if_pos z] at e;cases e
 exact eQ (s _ _ (fM _ _ e)) hb
theorem Oo {E:List Addr} {H H':Hp} (m:Gw E H H'):bH E H'=bH E H:=by
 funext b
 unfold bH
 split
 ·rfl
 ·rename_i h
  exact m b h
theorem Ey.mv {H H' H'':Hp} {A:ww} {ls:List aH} {ps:List PD} {m:Nat} {S0 S:FS} (h:Ey K t H H' A ls ps m S0 S) (s:aK H' H''):Ey K t H H'' A ls ps m S0 S:=⟨h.net.same (Cm s),h.flow.same s,h.con.trans (Cm s),h.rch,h.ok,h.dm⟩
theorem Ey.work {H H' H'':Hp} {A:ww} {ls:List aH} {ps:List PD} {m:Nat} {S0 S:FS} (F:sH ls ps) (h:Ey K t H H' A ls ps m S0 S) (mv:Gw (A.cells ls ps) H' H'') {p:PD} {dd:iH} (hp:p∈ps) (hm:S.d p.name <m) (hd:cH S p=some dd) (W:jr K t H'' A ls ps (jl S p.name dd)):Ey K t H H'' A ls ps m S0 (jl S p.name dd):=by
 have e:=Oo mv
 have sd:=K7 (ps:=ps) (S:=S) (dd:=dd) F.pnd hp
 refine⟨by rw [e];exact h.net,W,by rw [e];exact h.con,h.rch.snoc hp hm hd,?_,fun p' hp'=>?_⟩
 ·have:=QD F h.ok hp hd
  rw [sd]
  exact⟨this.vb,this.rb,this.dl,this.len,this.rl⟩
 ·show(if p'.name=p.name then S.d p'.name+1 else S.d p'.name)<=m
  by_cases e:p'.name=p.name
  ·rw [if_pos e,e];omega
  ·rw [if_neg e];exact h.dm p' hp'
inductive vy (K:PySem.W.Frag) (t:mW) (vs:List V) (H:Hp) (Q:VK):Prop where
 | mk:∀(H0:Hp) (A:ww) (ls:List aH) (ps:List PD) (S0 S:FS) (p:PD) (m:Nat),vs=[.ref A.f,.str p.name,.int (m:Nat)]->Ey K t H0 H A ls ps m S0 S->sH ls ps->p∈ps->m<=300->(∀H' S' (c:Nat),Ey K t H0 H' A ls ps m S0 S'->(c=0->S'=S)->(0 <c->sW ps S <sW ps S')->sW ps S<=sW ps S'->(S'.d p.name <m->cH S' p=none)->Q (.int (c:Nat)) H')->vy K t vs H Q
@[irreducible] noncomputable def ou (K:PySem.W.Frag) (t:mW):Sp:=fun vs H Q _=>vy K t vs H Q
theorem Fq (T:Txt w K mg t):FO P w K mg base 6 t.zG ["flow", "name", "most"] (ou K t):=by
 have sc:=T.uI.sc ["flow", "name", "most", "times", "deed"]
 refine T.uI.F.ok sc (fun vs H Q E h=>?_) (fun cdv A outer s H vs Q E hr h=>?_)
 ·unfold ou at h
  obtain⟨H0,A,ls,ps,S0,S,p,m,rfl,_⟩:=h
  rfl
 ·unfold ou at h
  obtain⟨H0,A,ls,ps,S0,S,p,m,rfl,I,F,hp,hm,k⟩:=h
  refine⟨_,(au (sN sc 3 aq)
   (au (sN sc 4 (HW (pv 0) T.aQ T.aQ.me.2.2.2.2.2.2.1 (uU T) T.oJ hr (aa (pv 1) ak aj)))
   (au (vm PassesOwn.never (PW.pt (wI (kO (Jw (pv 4))) (uP (bC uv (cW hr.u1 (bD (pv 0) rfl) (pv 1) (fun _ _=>rfl)) (pv 2) (bL _)))))
    (au (bJ (HW (pv 0) T.aQ T.aQ.me.2.2.2.2.2.2.2.1 (GX T) T.wY hr (aa (pv 1) (aa (pv 4) ak aj) aj)))
    (au (R3 (i:=3) sc.nd rfl (Or.inl rfl) aq Rj)
    (az (sN sc 4 (HW (pv 0) T.aQ T.aQ.me.2.2.2.2.2.2.1 (uU T) T.oJ hr (aa (pv 1) ak aj)))))))
   (az (aN (pv 3)))))),?_⟩
  have hz:sizeLine=16777216:=sizeLine_eq
  have hpl:ps.length * m<=4800:=Nat.le_trans (Nat.mul_le_mul F.p16 hm) (by decide)
  have bnd:∀{H':Hp} {S1:FS},Ey K t H0 H' A ls ps m S0 S1->199+2 * sW ps S1<=100000:=fun J=>by have:=M7 J.dm;omega
  obtain⟨dx,fs,h1,h2⟩:=id I.flow.at'.ex
  have go:∀{H1:Hp} {S1:FS} {c:Nat} {dv:V},Ey K t H0 H1 A ls ps m S0 S1->(c=0->S1=S)->(0 <c->sW ps S <sW ps S1)->sW ps S<=sW ps S1->S1.d p.name=S.d p.name+c->((dv=.non/\cH S1 p=none)∨∃U dd,dv=.ref U/\cH S1 p=some dd/\pP (A.cells ls ps) H1 U dd)->∃(S':FS) (c':Nat) (dv':V),[some (V.ref A.f),some (.str p.name),some (.int (m:Nat)),some (.int (c:Nat)),some dv]=[some (V.ref A.f),some (.str p.name),some (.int (m:Nat)),some (.int (c':Nat)),some dv']/\Ey K t H0 H1 A ls ps m S0 S'/\(c'=0->S'=S)/\(0 <c'->sW ps S <sW ps S')/\sW ps S<=sW ps S'/\S'.d p.name=S.d p.name+c'/\((dv'=.non/\cH S' p=none)∨∃U dd,dv'=.ref U/\cH S' p=some dd/\pP (A.cells ls ps) H1 U dd):=fun {H1 S1 c dv} a b c1 d e f=>⟨S1,c,dv,rfl,a,b,c1,d,e,f⟩
  have lp:∀{H1:Hp} {dv:V},Ey K t H0 H1 A ls ps m S0 S->((dv=.non/\cH S p=none)∨∃U dd,dv=.ref U/\cH S p=some dd/\pP (A.cells ls ps) H1 U dd)->Hh (Ve (tB (QG (yu 4))) (Mf (S9 (Pz fun i j=>V.bl (decide (i <j))) (Q3 (Rt K (yu 0) "done") (yu 1)) (yu 2)))) (tH (QR (Bh t.bR "do" (jH K t) [] E0 (yu 0) (IK (yu 1) (IK (yu 4) G7)))) (tH (Ut 3 (tC (V.int 1)) (Wm fun i j=>i+j)) (Kd (Bh t.bR "deed" (iJ K t) [] E0 (yu 0) (IK (yu 1) G7)) (tR 4)))) { nx:=U7 (yu 3) { nx:=fun x H'=>Q V.non H',rt:=Q },rt:=Q } [some (V.ref A.f),some (.str p.name),some (.int (m:Nat)),some (.int ((0:Nat):Int)),some dv] H1:=fun {H1 dv} I1 hdv=>by
   refine vI (fun σ H'=>∃(S':FS) (c':Nat) (dv':V),σ=[some (V.ref A.f),some (.str p.name),some (.int (m:Nat)),some (.int (c':Nat)),some dv']/\Ey K t H0 H' A ls ps m S0 S'/\(c'=0->S'=S)/\(0 <c'->sW ps S <sW ps S')/\sW ps S<=sW ps S'/\S'.d p.name=S.d p.name+c'/\((dv'=.non/\cH S' p=none)∨∃U dd,dv'=.ref U/\cH S' p=some dd/\pP (A.cells ls ps) H' U dd)) (fun(σ:St) (_:Hp)=>match σ[3]? with | some (some (V.int c))=>m - c.toNat | _=>0) (go I1 (fun _=>rfl) (fun z=>absurd z (Nat.lt_irrefl 0)) (Nat.le_refl _) rfl hdv) ?_ ?_
   ·rintro σ H2 ⟨S1,c,dv,rfl,I2,c0,c1,hle,hdc,hdv⟩
    rcases hdv with ⟨rfl,hn⟩ | ⟨U,dd,rfl,hd,hA⟩
    ·exact⟨_,rfl,_,rfl,dR (dR ⟨_,rfl,k H2 S1 c I2 c0 c1 hle fun _=>hn⟩)⟩
    obtain⟨dx,fs,h1,h2⟩:=id I2.flow.at'.ex
    refine⟨_,rfl,_,rfl,lG ⟨_,rfl,A.f,_,dx,fs,_,rfl,h1,T.aQ.c,T.aQ.na.2.2.2.2.1,h2.has ("done",.ref A.D) (by simp),_,rfl,A.D,_,rfl,(by rw [<-sX (k:=fun x=>(S1.d x:Int)) F.pnd hp];exact dZ.k (k:=Sum.inr p.name) I2.flow.done),_,rfl,_,_,rfl,rfl,_,rfl,jx (fun hlt=>?_) (fun hge=>?_)⟩⟩
    ·have hlt:S1.d p.name <m:=by simpa using hlt
     refine⟨_,rfl,A.f,dx,fs,rfl,h1,h2.no _ (by decide +kernel),_,rfl,_,rfl,Up F I2.flow hp (fun l hl=>I2.ok.len l hl) (bnd I2) hA (Jk F hp hd) fun H3 mv W3=>?_⟩
     have I3:=I2.work F mv hp hlt hd W3
     have sd:=K7 (ps:=ps) (S:=S1) (dd:=dd) F.pnd hp
     have d3:(jl S1 p.name dd).d p.name=S.d p.name+(c+1):=by
      show(if p.name=p.name then S1.d p.name+1 else _)=_
      rw [if_pos rfl]
      omega
     obtain⟨dx,fs,h1,h2⟩:=id I3.flow.at'.ex
     have ms:m - (c+1) <m - c:=by omega
     refine⟨_,rfl,_,_,rfl,rfl,_,rfl,A.f,dx,fs,rfl,h1,h2.no _ (by decide +kernel),_,rfl,Jl (I3.net.same fM) I3.flow hp I3.ok (fun hn H4 s4=>?_) (fun dd' hd' H4 U' s4 nU' hA'=>?_)⟩
     ·exact⟨⟨_,c+1,_,rfl,I3.mv s4,(fun z=>absurd z (Nat.succ_ne_zero _)),fun _=>by omega,by omega,d3,.inl ⟨rfl,hn⟩⟩,ms⟩
     ·exact⟨⟨_,c+1,_,rfl,I3.mv s4,(fun z=>absurd z (Nat.succ_ne_zero _)),fun _=>by omega,by omega,d3,.inr ⟨U',dd',rfl,hd',hA'⟩⟩,ms⟩
    ·have hge:¬S1.d p.name <m:=fun z=>hge (by simpa using z)
     exact⟨_,rfl,k H2 S1 c I2 c0 c1 hle fun z=>absurd z hge⟩
   ·intro σ H' Q' Q'' hQ hq
    obtain⟨v,e,b,e2,hq⟩:=hq
    refine⟨v,e,b,e2,?_⟩
    split at hq
    ·rename_i hb
     rw [if_pos hb]
     obtain⟨x1,x2,x3,x4,x5,x6,x7,x8,x9,x10,x11,x12,x13,x14,x15,x16,x17,x18,x19,x20,x21,x22,x23,x24,x25,x26,hq⟩:=hq
     exact⟨x1,x2,x3,x4,x5,x6,x7,x8,x9,x10,x11,x12,x13,x14,x15,x16,x17,x18,x19,x20,x21,x22,x23,x24,x25,x26,hQ _ _ hq⟩
    ·rename_i hb
     rw [if_neg hb]
     exact hQ _ _ hq
  refine⟨_,rfl,A.f,dx,fs,rfl,h1,h2.no _ (by decide +kernel),_,rfl,Jl (I.net.same fM) I.flow hp I.ok (fun hn H1 s1=>?_) (fun dd hd H1 U s1 nU hA=>?_)⟩
  ·exact lp (I.mv s1) (.inl ⟨rfl,hn⟩)
  ·exact lp (I.mv s1) (.inr ⟨U,dd,rfl,hd,hA⟩)
inductive qK (K:PySem.W.Frag) (t:mW) (vs:List V) (H:Hp) (Q:VK):Prop where
 | mk:∀(n rw:Addr) (ls:List aH) (ps:List PD) (RW:List (Str×Addr×List Int)) (m:Nat),vs=[.ref n,.ref rw,.int (m:Nat)]->mY K t H n ls ps->sH ls ps->jE H rw RW->wN ps RW->m<=300->(∀H' D pa T,aK H H'->H' D=some (.dK (wy pa ls))->(∀l∈ls,H' (pa l.name)=some (.lst ((T.ev l.name).map V.int)))->(∀a∈D:: ls.map (fun l=>pa l.name),H a=none)->(D:: ls.map (fun l=>pa l.name)).Nodup->pL ps m (eN ls ps RW) T->Done ps m T->Q (.ref D) H')->qK K t vs H Q
@[irreducible] noncomputable def iU (K:PySem.W.Frag) (t:mW):Sp:=fun vs H Q _=>qK K t vs H Q
theorem dO (T:Txt w K mg t):FO P w K mg base 7 t.vp ["net", "rows", "most"] (iU K t):=by
 have sc:=T.dB.sc ["net", "rows", "most", "flow", "busy", "name"]
 refine T.dB.F.ok sc (fun vs H Q E h=>?_) (fun cdv A outer s H vs Q E hr h=>?_)
 ·unfold iU at h
  obtain⟨n,rw,ls,ps,RW,m,rfl,_⟩:=h
  rfl
 ·unfold iU at h
  obtain⟨n,rw,ls,ps,RW,m,rfl,N,F,hrw,hO,hm,k⟩:=h
  refine⟨_,(au (bQ (PW.pt (pJ (fU (fJ (dz (rA T) T.mJ hr (aa (pv 2) ak aj)))) (lg (fU (rH qF qF aq (pv 2) (iy (by rfl) T.yr))))))
    (az dH)
    bz)
   (au (bJ (dz (DW T) T.qX hr (aa (pv 0) (aa (pv 1) ak aj) aj)))
   (au (sN sc 3 (gB (T.aQ.M T.iZ) (wJ T) (hr.mono (by decide)) (by rfl) T.aQ.m T.iZ.b .nil gQ (aa (pv 0) (aa (pv 1) ak aj) aj)))
   (au (sN sc 4 iT)
   (au (vm PassesOwn.never (fJ (pv 4))
    (au (sN sc 4 iT)
    (az (eO PassesOwn.never rfl (dN (RG (pv 0) T.bw T.bw.me.2.2.1 (jq T) T.fP hr)) (gN sc 5)
     (az (fX (bQ (bC zb (dz (Fq T) T.uI hr (aa (pv 3) (aa (pv 5) (aa (pv 2) ak aj) aj) aj)) aq (bL _))
      (az (sN sc 4 iT))
      bz)))))))
   (az (aN (bD (pv 3) rfl)))))))),?_⟩
  have hz:sizeLine=16777216:=sizeLine_eq
  have p16:=F.p16
  have hpl:ps.length * m<=4800:=Nat.le_trans (Nat.mul_le_mul p16 hm) (by decide)
  refine⟨_,rfl,_, "int",true,rfl,rfl,by decide,rfl,_,rfl,dR ?_⟩
  refine⟨_,rfl,_,_,rfl,rfl,_,rfl,?_⟩
  rw [decide_eq_true (show(0:Int)<=(m:Int) by omega)]
  refine lG ⟨_,_,rfl,rfl,_,rfl,?_⟩
  rw [decide_eq_true (show(m:Int)<=300 by omega)]
  refine dR ?_
  refine⟨_,rfl,_,rfl,n,rw,ls,ps,RW,rfl,N,hrw,hO,fun H1 s1=>?_⟩
  have N1:=N.same s1
  refine⟨_,rfl,_,rfl,fun f dxf nf ndf nef=>?_⟩
  have s2:aK H1 (upd (upd H1 dxf (.own f)) f (.ins t.bR dxf [])):=fun b o e=>by rw [aJ (aC e nf),aJ (aC e ndf)];exact e
  have ef:(upd (upd H1 dxf (.own f)) f (.ins t.bR dxf [])) f=some (.ins t.bR dxf []):=aA
  generalize upd (upd H1 dxf (.own f)) f (.ins t.bR dxf [])=H2 at s2 ef ⊢
  refine NQ ef s2 nf N1 (hrw.same s1) fun H3 A eAf eAn b3 W3 fr3=>⟨rfl,?_⟩
  subst eAf
  subst eAn
  have s13:aK H1 H3:=fun b o e=>b3 b o (aC e nf) (s2 _ _ e)
  have fr1:∀a∈A.cells ls ps,H1 a=none:=fun a ha=>s2.free (fr3 a ha)
  have fr0:∀a∈A.cells ls ps,H a=none:=fun a ha=>s1.free (fr1 a ha)
  have I3:Ey K t H3 H3 A ls ps m (eN ls ps RW) (eN ls ps RW):=by
   refine⟨N1.same fun b o e=>eQ (s13 _ _ e) (fun z=>by rw [fr1 b z] at e;cases e),W3,aK.refl _,.refl _,?_,fun p hp=>Nat.zero_le _⟩
   have o:=Cr (RW:=RW) F (fun q hq=>hrw.len q hq) hO.bnd
   exact⟨o.vb,o.rb,o.dl,fun l hl=>Nat.le_trans (o.len l hl) (Nat.le_add_right _ _),o.rl⟩
  have sF:∀{H':Hp},aK (bH (A.cells ls ps) H3) (bH (A.cells ls ps) H')->aK H H':=fun s b o e=>fM _ _ (s _ _ (eQ (s13 _ _ (s1 _ _ e)) fun z=>by rw [fr0 b z] at e;cases e))
  generalize eN ls ps RW=S0 at I3 k W3
  have nc:(A.E:: ls.map fun l=>A.ea l.name).Sublist (A.cells ls ps):=.cons₂ _ (.cons _ (.cons _ (.cons _ (.cons _ (List.sublist_append_left _ _)))))
  refine vI (fun σ H'=>∃S bb v5,σ=[some (.ref A.n),some (.ref rw),some (.int (m:Nat)),some (.ref A.f),some (.bl bb),v5]/\Ey K t H3 H' A ls ps m S0 S/\(bb=false->Done ps m S)) (fun(σ:St) (H':Hp)=>2 * (ps.length * m - Qi (H' A.D))+(match σ[4]? with | some (some (V.bl true))=>1 | _=>0)) ⟨S0,true,_,rfl,I3,by intro z;cases z⟩ ?_ ?_
  ·rintro σ H4 ⟨S,bb,w5,rfl,I4,hd⟩
   obtain⟨dx,fs,h1,h2⟩:=id I4.flow.at'.ex
   cases bb with
   | false=>
    refine⟨_,rfl,_,rfl,dR ⟨_,rfl,A.f,_,dx,fs,_,rfl,h1,T.aQ.c,T.aQ.na.2.1,h2.has ("ever",.ref A.E) (by simp),?_⟩⟩
    exact k H4 A.E A.ea S (sF I4.con) I4.flow.ever I4.flow.lists (fun a ha=>fr0 a (nc.subset ha)) (I4.flow.nod.sublist nc) I4.rch (hd rfl)
   | true=>
    have c4:=KZ I4.flow.done
    have N4:=I4.net.same fM
    obtain⟨dxn,fsn,R,F0,Pd,Gn,Tk,FL,PL,Wn⟩:=id N4
    refine⟨_,rfl,_,rfl,lG ?_⟩
    refine⟨_,rfl,A.n,dxn,fsn,rfl,Wn.obj,Wn.fl.no _ (by decide +kernel),A.n,ls,ps,rfl,N4,fun L nL=>?_⟩
    have tL:=aF (o:=.lst (ps.map fun p=>V.str p.name)) nL
    have eL:upd H4 L (.lst (ps.map fun p=>V.str p.name)) L=some (.lst (ps.map fun p=>V.str p.name)):=aA
    generalize upd H4 L (.lst (ps.map fun p=>V.str p.name))=H5 at tL eL ⊢
    have I5:=I4.mv tL
    have nLc:L∉A.cells ls ps:=I4.flow.cell nL
    have J5:Ey K t H5 H5 A ls ps m S0 S:=⟨I5.net,I5.flow,aK.refl _,I5.rch,I5.ok,I5.dm⟩
    refine⟨L,rfl,⟨_,bT.of eL⟩,fu (K:=K) (a:=L) (xs:=ps.map fun p=>V.str p.name) (fun j σ H'=>∃S' bb v5,σ=[some (.ref A.n),some (.ref rw),some (.int (m:Nat)),some (.ref A.f),some (.bl bb),v5]/\Ey K t H5 H' A ls ps m S0 S'/\(bb=false->S'=S/\∀p∈ps.take j,S.d p.name <m->cH S p=none)/\(bb=true->sW ps S <sW ps S')/\sW ps S<=sW ps S') ⟨S,false,w5,rfl,J5,fun _=>⟨rfl,by simp⟩,(fun z=>by cases z),Nat.le_refl _⟩ (fun j σ H' _ ⟨_,_,_,_,J,_⟩=>bT.of (fM _ _ (J.con _ _ (eQ eL nLc)))) ?_ ?_⟩
    ·rintro j x σ H6 hx ⟨S',bb,v5,rfl,J6,hf,ht,hle⟩
     rw [List.getElem?_map] at hx
     obtain⟨p,hpj,rfl⟩:=Option.map_eq_some_iff.mp hx
     have hp:=List.mem_of_getElem? hpj
     refine⟨fun σ' H'=>∃S' bb v5,σ'=[some (.ref A.n),some (.ref rw),some (.int (m:Nat)),some (.ref A.f),some (.bl bb),v5]/\Ey K t H5 H' A ls ps m S0 S'/\(bb=false->S'=S/\∀p∈ps.take (j+1),S.d p.name <m->cH S p=none)/\(bb=true->sW ps S <sW ps S')/\sW ps S<=sW ps S',?_,fun _ _ h=>h⟩
     refine⟨_,rfl,_,rfl,_,rfl,?_⟩
     unfold ou
     refine⟨H5,A,ls,ps,S0,S',p,m,rfl,J6,F,hp,hm,fun H7 S7 c J7 c0 c1 hle7 hn7=>⟨_,_,rfl,rfl,_,rfl,jx (fun hc=>?_) (fun hc=>?_)⟩⟩
     ·have hc:0 <c:=by simpa using hc
      have:=c1 hc
      exact⟨S7,true,_,rfl,J7,(fun z=>by cases z),fun _=>by omega,by omega⟩
     ·have hc:c=0:=by
       have:¬0 <c:=fun z=>hc (by simpa using z)
       omega
      have e7:=c0 hc
      refine⟨S7,bb,_,rfl,J7,fun hb=>⟨by rw [e7];exact(hf hb).1,fun p' hp' hlt=>?_⟩,fun hb=>by rw [e7];exact ht hb,by omega⟩
      rw [List.take_succ,hpj,Option.toList_some] at hp'
      rcases List.mem_append.mp hp' with z | z
      ·exact(hf hb).2 p' z hlt
      ·rw [List.mem_singleton] at z
       rw [z,<-(hf hb).1,<-e7] at hlt ⊢
       exact hn7 hlt
    rintro σ H6 ⟨S',bb,v5,rfl,J6,hf,ht,hle⟩
    have c6:=KZ J6.flow.done
    have sm6:=M7 J6.dm
    refine⟨⟨S',bb,_,rfl,⟨J6.net,J6.flow,I5.con.trans J6.con,J6.rch,J6.ok,J6.dm⟩,fun hb p hp hlt=>?_⟩,?_⟩
    ·obtain⟨e,h⟩:=hf hb
     rw [e] at hlt ⊢
     exact h p (by rw [lM,List.take_length];exact hp) hlt
    ·show 2 * (ps.length * m - Qi (H6 A.D))+(match some (some (V.bl bb)) with | some (some (V.bl true))=>1 | _=>0) <2 * (ps.length * m - Qi (H4 A.D))+1
     rw [c4,c6]
     cases bb with
     | false=>show _+0 <_;omega
     | true=>
      have:=ht rfl
      show _+1 <_
      omega
  ·intro σ H' Q' Q'' hQ hq
   obtain⟨v,e,b,e2,q⟩:=hq
   exact⟨v,e,b,e2,hQ _ _ q⟩
noncomputable def yt (RW:List (Str×Addr×List Int)) (x:Str) (a:Addr) (ws:List Int):List (Str×Addr×List Int):=if x∈RW.map (·.1) then RW.map (fun q=>if q.1=x then(x,a,ws) else q) else RW ++ [(x,a,ws)]
theorem Rg (RW:List (Str×Addr×List Int)) (x:Str) (a:Addr) (ws:List Int):dh (yt RW x a ws)=putK (dh RW) (Sum.inr x) (.ref a):=by
 unfold yt putK
 by_cases h:x∈RW.map (·.1)
 ·rw [if_pos h,if_pos (by
   obtain⟨q,hq,rfl⟩:=List.mem_map.mp h
   exact List.any_eq_true.mpr ⟨_,List.mem_map.mpr ⟨q,hq,rfl⟩,by simp⟩)]
  unfold dh
  rw [List.map_map,List.map_map]
  refine List.map_congr_left fun q _=>?_
  by_cases e:q.1=x
  ·simp [e]
  ·simp [e]
 ·rw [if_neg h,if_neg (by
   intro z
   obtain⟨kv,hk,e⟩:=List.any_eq_true.mp z
   obtain⟨q,hq,rfl⟩:=List.mem_map.mp hk
   exact h (List.mem_map.mpr ⟨q,hq,by simpa using e⟩))]
  unfold dh
  rw [List.map_append]
  rfl
theorem Li {RW:List (Str×Addr×List Int)} {x:Str} {a:Addr} {ws:List Int} {q:Str×Addr×List Int} (h:q∈yt RW x a ws):q∈RW∨q=(x,a,ws):=by
 unfold yt at h
 split at h
 ·obtain⟨q',hq,e⟩:=List.mem_map.mp h
  split at e
  ·exact .inr e.symm
  ·exact .inl (by rw [<-e];exact hq)
 ·rcases List.mem_append.mp h with h | h
  ·exact .inl h
  ·exact .inr (List.mem_singleton.mp h)
theorem Ol {RW:List (Str×Addr×List Int)} {x:Str} {a:Addr} {ws:List Int} (nd:(RW.map (·.1)).Nodup):((yt RW x a ws).map (·.1)).Nodup:=by
 unfold yt
 split
 ·have e:(RW.map (fun q=>if q.1=x then(x,a,ws) else q)).map (·.1)=RW.map (·.1):=by
   rw [List.map_map]
   refine List.map_congr_left fun q _=>?_
   by_cases h:q.1=x
   ·simp [h]
   ·simp [h]
  rw [e]
  exact nd
 ·rename_i h
  rw [List.map_append,List.nodup_append]
  exact⟨nd,by simp,fun b hb c hc z=>h (by simp at hc;rw [<-hc,<-z];exact hb)⟩
theorem KQ (RW:List (Str×Addr×List Int)) (x:Str) (a:Addr) (ws:List Int):(yt RW x a ws).length<=RW.length+1:=by
 unfold yt
 split
 ·rw [lM];omega
 ·simp
structure uX (B H:Hp) (d:Addr) (m:Nat) (G:List V) (RW:List (Str×Addr×List Int)):Prop where
 at':jE H d RW
 bnd:∀q∈RW,∀v∈q.2.2,0<=v/\v <1000000000
 door:∀q∈RW,V.str q.1∈G
 new:∀q∈RW,B q.2.1=none/\q.2.1≠d
 len:∀q∈RW,q.2.2.length<=m
theorem uX.same {B H H':Hp} {d:Addr} {m:Nat} {G:List V} {RW:List (Str×Addr×List Int)} (h:uX B H d m G RW) (s:aK H H'):uX B H' d m G RW:=⟨h.at'.same s,h.bnd,h.door,h.new,h.len⟩
theorem uX.put {B H:Hp} {d:Addr} {m:Nat} {G:List V} {RW:List (Str×Addr×List Int)} (h:uX B H d m G RW) {x:Str} {a:Addr} {ws:List Int} (ea:H a=some (.lst (ws.map V.int))) (na:B a=none) (nd:a≠d) (hx:V.str x∈G) (hb:∀v∈ws,0<=v/\v <1000000000) (hl:ws.length<=m) (hm:m<=299):
  uX B (upd H d (.dK (putK (dh RW) (Sum.inr x) (.ref a)))) d m G (yt RW x a ws):=by
 refine⟨⟨by rw [Rg];exact aA,fun q hq=>?_,Ol h.at'.nd,fun q hq=>?_⟩,fun q hq=>?_,fun q hq=>?_,fun q hq=>?_,fun q hq=>?_⟩ <;> rcases Li hq with hq | rfl
 ·rw [aJ (h.new q hq).2];exact h.at'.lists q hq
 ·rw [aJ nd];exact ea
 ·exact h.at'.len q hq
 ·show ws.length<=300;omega
 ·exact h.bnd q hq
 ·exact hb
 ·exact h.door q hq
 ·exact hx
 ·exact h.new q hq
 ·exact⟨na,nd⟩
 ·exact h.len q hq
 ·exact hl
theorem Qc (RW:List (Str×Addr×List Int)) (x:Str) (a:Addr) (ws:List Int):yt RW x a ws≠[]:=by
 unfold yt
 split
 ·rename_i h
  intro z
  rw [List.map_eq_nil_iff.mp z] at h
  cases h
 ·simp
inductive vD (K:PySem.W.Frag) (vs:List V) (H:Hp) (Q:VK) (E:XK):Prop where
 | mk:∀(a P:Addr) (ns:List Int) (xs:List V) (ps:List PD) (st:Nat),vs=[.ref a,.ref P,.int (st:Nat)]->bT K H a (ns.map V.int)->H P=some (.lst xs)->gJ (xm H) xs ps->ps.length<=16->(∀H' d RW,aK H H'->H d=none->uX H H' d 39 (jY ps "give") RW->RW.length<=16->(GK ps->RW≠[])->Q (.ref d) H')->vD K vs H Q E
noncomputable abbrev ym:List Str:=["_law_script", "_law_parts", "_law_start", "_law_rows_here", "_law_part_here", "_law_j", "_law_one", "_law_row", "_law_cell_here"]
theorem Eg (T:Txt w K mg t):FO P w K mg base 3 t.yf ["_law_script", "_law_parts", "_law_start"] (vD K):=by
 have sc:=T.qI.sc ym
 refine T.qI.F.ok sc ln (fun _ _ _ _ H vs Q E hr h=>?_)
 obtain⟨a,P,ns,xs,ps,st,rfl,hS,eP,aP,p16,k⟩:=h
 refine⟨_,(au (sN sc 3 eE)
  (au (eO PassesOwn.never rfl (dN (pv 1)) (gN sc 4)
   (az (fX (bQ (bC iM (aY dD (pv 4) aq (fun _ _=>rfl)) bN (bL _))
    (au (sN sc 5 (aV pK (by rfl) T.dG bY (aa (pv 3) ak aj)))
    (au (sN sc 6 (dz (jn T) T.gM hr (aa (pv 0) (aa (pv 2) ak aj) aj)))
    (au (qP (i:=7) [5,6] ym (bA (top 77)) rfl sc.nd rfl (jG rfl T.m9 (aa (bh bZ (dz (aR T) T.aX hr (aa (pv 6) (aa (bh cT aq (pv 5)) ak bI) aj)) aq) ak bI)) (fun _ _ _ _ _=>jo) (fun _ _ _ _ _=>(dz (gr T) T.fj hr (aa (pv 2) (aa (bh cT (bh cT aq (pv 0)) (bh lL aq (pv 1))) ak bI) aj))))
    (au (eO PassesOwn.never rfl (dN (jZ sU (pv 0) (lF (pv 2)) (lF (bh cT (pv 2) aq)))) (gN sc 8)
     (az (fX (bQ (bC zb (bh bZ (dz (aR T) T.aX hr (aa (pv 8) (aa (bh cT aq (pv 5)) ak bI) aj)) aq) aq (bL _))
      (az (bJ (Gg (pv 7) (aa (dz (gr T) T.fj hr (aa (pv 8) (aa (pv 5) ak aj) aj)) ak bf))))
      bz))))
    (az (gw hr.u1 (pv 3) (aY dD (pv 4) aq (fun _ _=>rfl)) (pv 7) rfl))))))
    bz))))
  (az (aN (pv 3))))),?_⟩
 have hz:sizeLine=16777216:=sizeLine_eq
 have xl:=aP.length
 refine fun d nd=>?_
 have s1:=aF (o:=.dK []) nd
 have ed:upd H d (.dK []) d=some (.dK []):=aA
 have sB:aK H (bH [d] (upd H d (.dK []))):=fun b o e=>eQ (s1 _ _ e) (by simpa using aC e nd)
 generalize upd H d (.dK [])=H1 at s1 ed sB ⊢
 have upB:∀{H':Hp} {o:HO},aK H H'->aK H (upd H' d o):=fun s b o e=>by rw [aJ (aC e nd)];exact s b o e
 refine⟨_,rfl,P,rfl,⟨_,bT.of (s1 _ _ eP)⟩,fu (K:=K) (a:=P) (xs:=xs) (fun j σ H'=>(∃v4 v5 v6 v7 v8,σ=[some (.ref a),some (.ref P),some (.int st),some (.ref d),v4,v5,v6,v7,v8])/\aK H H'/\∃RW,uX H H' d 39 (jY ps "give") RW/\RW.length<=j/\((ps.take j).any (fun p=>p.kind == 0)=true->RW≠[])) ⟨⟨none,none,none,none,none,rfl⟩,s1,[],⟨⟨ed,by simp,by simp,by simp⟩,by simp,by simp,by simp,by simp⟩,Nat.le_refl _,fun h=>by simp at h⟩ (fun j σ H' _ h=>bT.of (h.2.1 _ _ eP)) ?_ ?_⟩
 ·rintro j x σ H2 hx ⟨⟨w4,w5,w6,w7,w8,rfl⟩,s2,RW,hR,lR,hne⟩
  obtain⟨p,hpj,q,a1,a2,a3,rfl,hq,_⟩:=aP.get hx
  have hj:=(List.getElem?_eq_some_iff.mp hx).1
  have hq2:=s2 _ _ hq
  refine⟨fun σ' H'=>(∃v4 v5 v6 v7 v8,σ'=[some (.ref a),some (.ref P),some (.int st),some (.ref d),v4,v5,v6,v7,v8])/\aK H H'/\∃RW,uX H H' d 39 (jY ps "give") RW/\RW.length<=j+1/\((ps.take (j+1)).any (fun p=>p.kind == 0)=true->RW≠[]),?_,fun _ _ h=>h⟩
  refine⟨_,rfl,q,_,0,_,rfl,rfl,gK.of hq2,aM (j:=0) rfl,rfl,_,rfl,jx (fun hg=>?_) (fun hng=>⟨⟨_,_,_,_,_,rfl⟩,s2,RW,hR,by omega,fun h=>hne ?_⟩)⟩
  rotate_left
  ·rw [List.take_succ,hpj,Option.toList_some,List.any_append] at h
   have h0:¬p.kind=0:=fun z=>hng (decide_eq_true (by rw [z];rfl))
   simpa [h0] using h
  have hG:V.str p.name∈jY ps "give" :=List.mem_map.mpr ⟨p,List.mem_filter.mpr ⟨List.mem_of_getElem? hpj,by simpa using of_decide_eq_true hg⟩,rfl⟩
  refine⟨_,rfl,d,_,rfl,.inl hR.at'.dict,?_⟩
  have lK:((dh RW).length:Int)=(RW.length:Int):=by unfold dh;rw [lM]
  refine⟨_,rfl,_,rfl,a,ns,st,rfl,s2.seq hS,?_⟩
  generalize jA ns st=c
  have h0:=Int.emod_nonneg (bO c (7+((dh RW).length:Int))) (show(6:Int)≠0 by decide)
  have h1:=Int.emod_lt_of_pos (bO c (7+((dh RW).length:Int))) (show(0:Int) <6 by decide)
  refine⟨_,rfl,_,rfl,_,_,rfl,rfl,_,_,rfl,_,_,rfl,rfl,by show(0:Int) <6;decide,_,rfl,by omega,by omega,?_⟩
  refine mQ (fun i ys H'=>H'=H2/\∃ws:List Int,ys=ws.map V.int/\ws.length=i/\∀v∈ws,0<=v/\v <1000000000) (by omega) ⟨rfl,[],rfl,rfl,by simp⟩ (fun i ys H' ⟨_,ws,e,e2,_⟩=>by rw [e,lM];omega) ?_ ?_
  ·rintro i ys H' hi ⟨rfl,ws,rfl,hw,hB⟩
   refine yes ⟨_,rfl,_,rfl,_,_,rfl,rfl,_,rfl,_,_,rfl,rfl,kI,_,_,rfl,rfl,_,_,rfl,rfl,ws ++ [mH c (30+(0+(i:Int))+9 * ((dh RW).length:Int))],by simp,by simp [hw],fun v hv=>?_⟩
   rcases List.mem_append.mp hv with hv | hv
   ·exact hB v hv
   ·rw [List.mem_singleton] at hv
    subst hv
    exact lV _ _
  rintro ys H' ⟨rfl,ws,rfl,hw,hB⟩ u nu
  have t3:=aF (o:=.lst (ws.map V.int)) nu
  have eu:upd H' u (.lst (ws.map V.int)) u=some (.lst (ws.map V.int)):=aA
  have nud:u≠d:=fun z=>by rw [z,hR.at'.dict] at nu;cases nu
  have nuH:=s2.free nu
  have s3:=s2.trans t3
  generalize upd H' u (.lst (ws.map V.int))=H3 at t3 eu s3 ⊢
  refine⟨_,rfl,_,rfl,_,rfl,_,rfl,_,_,rfl,rfl,_,rfl,a,_,rfl,s3.seq hS,fun Lc nLc=>⟨Lc,rfl,⟨_,bT.of aA⟩,?_⟩⟩
  obtain⟨cs,ecs,lcs⟩:∃cs:List Int,wC (ns.map V.int) (some (st:Int)) (some ((st:Int)+34))=cs.map V.int/\cs.length<=34:=by
   refine⟨(ns.drop (min st ns.length)).take (min (st+34) ns.length - min st ns.length),(Mw (ns.map V.int) st (st+34)).trans ?_,?_⟩
   ·rw [List.map_take,List.map_drop,lM]
   ·rw [List.length_take];omega
  rw [ecs]
  have t4:=aF (o:=.lst (cs.map V.int)) nLc
  have eLc:upd H3 Lc (.lst (cs.map V.int)) Lc=some (.lst (cs.map V.int)):=aA
  have nLu:Lc≠u:=fun z=>by rw [z,eu] at nLc;cases nLc
  generalize upd H3 Lc (.lst (cs.map V.int))=H4 at t4 eLc ⊢
  have sC:aK H' (bH [u] H4):=fun b o e=>eQ (t4 _ _ (t3 _ _ e)) (by simpa using aC e nu)
  have eLcC:bH [u] H4 Lc=some (.lst (cs.map V.int)):=eQ eLc (by simpa using nLu)
  have C4:aK (bH [u] H4) H4:=fM
  have cu:bH [u] H4 u=none:=by simp [bH]
  generalize bH [u] H4=C at sC eLcC C4 cu
  have hRC:=hR.same sC
  have hqC:=sC _ _ hq2
  refine fu (K:=K) (a:=Lc) (xs:=cs.map V.int) (fun i σ H5=>(∃v8,σ=[some (.ref a),some (.ref P),some (.int st),some (.ref d),some (.ref q),some (.int ((dh RW).length:Nat)),some (.int c),some (.ref u),v8])/\aK C H5/\∃ws:List Int,H5 u=some (.lst (ws.map V.int))/\ws.length<=5+i/\∀v∈ws,0<=v/\v <1000000000) ⟨⟨_,rfl⟩,C4,ws,t4 _ _ eu,by omega,hB⟩ (fun i σ H5 _ h=>bT.of (h.2.1 _ _ eLcC)) ?_ ?_
  ·rintro i x σ H5 hx ⟨⟨x8,rfl⟩,s5,ws,eu5,lw,hB⟩
   rw [List.getElem?_map] at hx
   obtain⟨cc,hcc,rfl⟩:=Option.map_eq_some_iff.mp hx
   have hi:=(List.getElem?_eq_some_iff.mp hcc).1
   refine⟨fun σ H5=>(∃v8,σ=[some (.ref a),some (.ref P),some (.int st),some (.ref d),some (.ref q),some (.int ((dh RW).length:Nat)),some (.int c),some (.ref u),v8])/\aK C H5/\∃ws:List Int,H5 u=some (.lst (ws.map V.int))/\ws.length<=5+(i+1)/\∀v∈ws,0<=v/\v <1000000000,?_,fun _ _ h=>h⟩
   refine⟨_,rfl,_,rfl,_,_,rfl,rfl,_,_,rfl,_,_,rfl,rfl,by show(0:Int) <4;decide,_,_,rfl,rfl,_,rfl,jx (fun _=>?_) (fun _=>⟨⟨_,rfl⟩,s5,ws,eu5,by omega,hB⟩)⟩
   refine⟨_,rfl,.inl ⟨rfl,_,bT.of eu5⟩,_,rfl,_,rfl,_,_,rfl,u,_,.int _,rfl,rfl,eu5,by rw [lM];omega,⟨_,rfl⟩,fun b o e=>?_,ws ++ [mH cc ((dh RW).length:Int)],by rw [aA,List.map_append];rfl,by rw [lP,List.length_singleton];omega,fun v hv=>?_⟩
   ·rw [aJ (fun z=>by rw [z,cu] at e;cases e)]
    exact s5 b o e
   ·rcases List.mem_append.mp hv with hv | hv
    ·exact hB v hv
    ·rw [List.mem_singleton] at hv
     subst hv
     exact lV _ _
  rintro σ H5 ⟨⟨x8,rfl⟩,s5,ws,eu5,lw,hB⟩
  rw [lM] at lw
  have hR5:=hRC.same s5
  refine⟨_,rfl,_,rfl,_,rfl,q,_,1,_,rfl,rfl,gK.of (s5 _ _ hqC),aM (j:=1) rfl,d,_,rfl,pA.k (k:=Sum.inr p.name) hR5.at'.dict (by unfold dh;rw [lM];omega),⟨_,_,_,_,_,rfl⟩,upB ((s2.trans sC).trans s5),yt RW p.name u ws,hR5.put eu5 nuH nud hG hB (by omega) (by decide),?_,fun _=>Qc _ _ _ _⟩
  have:=KQ RW p.name u ws
  omega
 rintro σ H2 ⟨⟨w4,w5,w6,w7,w8,rfl⟩,s2,RW,hR,lR,hne⟩
 rw [xl,List.take_length] at hne
 exact⟨_,rfl,k H2 d RW s2 nd hR (by omega) hne⟩
inductive mj (K:PySem.W.Frag) (vs:List V) (H:Hp) (Q:VK) (E:XK):Prop where
 | mk:∀(D1 D2:Addr) (pa1 pa2:Str->Addr) (ls:List aH) (f1 f2:Str->List Int),vs=[.ref D1,.ref D2]->D1≠D2->H D1=some (.dK (wy pa1 ls))->H D2=some (.dK (wy pa2 ls))->(ls.map (·.name)).Nodup->((∀l∈ls,H (pa1 l.name)=some (.lst ((f1 l.name).map V.int))))->((∀l∈ls,H (pa2 l.name)=some (.lst ((f2 l.name).map V.int))))->((∀l∈ls,∃r,f1 l.name=f2 l.name ++ r))->(∀H',aK H H'->Q (.bl true) H')->mj K vs H Q E
theorem iw (T:Txt w K mg t):FO P w K mg base 1 t.uf ["_law_found", "_law_early"] (mj K):=by
 have sc:=T.fD.sc ["_law_found", "_law_early", "_law_name"]
 refine T.fD.F.ok sc ln (fun _ _ _ _ H vs Q E hr h=>?_)
 obtain⟨D1,D2,pa1,pa2,ls,f1,f2,rfl,nD,e1,e2,nod,l1,l2,pre,k⟩:=h
 refine⟨_,(au (pH (H0:=H) rfl (eO PassesOwn.never rfl (pZ (pv 1)) (gN sc 2)
   (az (bQ (bC (M8 hr.units) (jZ sU (cW hr.u1 (pv 0) (pv 2) (fun _ _=>rfl)) pX (lF (aV bK (by rfl) T.dG bY (aa (cW hr.u1 (pv 1) (pv 2) (fun _ _=>rfl)) ak aD)))) (cW hr.u1 (pv 1) (pv 2) (fun _ _=>rfl)) (bL _))
    (az (Qf (H0:=H) rfl (aN iT)))
    bz))))
  (az (aN (nH iM (aV pK (by rfl) T.dG bY (aa (pv 0) ak aj)) (aV pK (by rfl) T.dG bY (aa (pv 1) ak aj)) (bL _))))),?_⟩
 have hz:sizeLine=16777216:=sizeLine_eq
 have gdL:∀l:List Int,Gd 1 (.list (l.map PyData.int)):=fun l=>.list (.ints 0 _)
 have nl:∀l∈ls,pa1 l.name≠D2/\pa2 l.name≠D2:=fun l hl=>⟨fun z=>(by have:=l1 l hl;rw [z,e2] at this;cases this),fun z=>(by have:=l2 l hl;rw [z,e2] at this;cases this)⟩
 refine⟨_,rfl,D2,_,rfl,e2,fun o=>pF (fun j σ H'=>aK (upd H D2 (.frz o (.dK (wy pa2 ls)))) H'/\∃v2,σ=[some (.ref D1),some (.ref D2),v2]) ⟨aK.refl _,none,rfl⟩ (fun j σ H' _ h=>h.1 _ _ aA) ?_ ?_⟩
 ·rintro j ky v σ H1 hj ⟨s1,v2,rfl⟩
  unfold wy at hj
  rw [List.getElem?_map] at hj
  obtain⟨l,hlj,e⟩:=Option.map_eq_some_iff.mp hj
  cases e
  have hl:=List.mem_of_getElem? hlj
  obtain⟨r,er⟩:=pre l hl
  have d1:H1 D1=some (.dK (wy pa1 ls)):=s1 _ _ (by rw [aJ nD];exact e1)
  have x1:H1 (pa1 l.name)=some (.lst ((f1 l.name).map V.int)):=s1 _ _ (by rw [aJ (nl l hl).1];exact l1 l hl)
  have x2:H1 (pa2 l.name)=some (.lst ((f2 l.name).map V.int)):=s1 _ _ (by rw [aJ (nl l hl).2];exact l2 l hl)
  have g2:∀{H':Hp},H' D2=some (.frz o (.dK (wy pa2 ls)))->dZ H' D2 (.str l.name) (some (.ref (pa2 l.name))):=fun e=>by rw [<-sZ (ea:=pa2) nod hl];exact .inl ⟨_,Sum.inr l.name,.inr ⟨o,e⟩,rfl,rfl⟩
  have f2':=s1 _ _ aA
  refine⟨_,rfl,_,rfl,D1,_,rfl,Wv d1 (sZ nod hl),_,rfl,_,rfl,D2,_,rfl,g2 f2',_,(f2 l.name).length,rfl,.inl ⟨_,bT.of x2,by rw [lM]⟩,_,rfl,pa1 l.name,_,rfl,bT.of x1,fun v nv=>?_⟩
  rw [zW,<-List.map_take,er,List.take_left]
  have t2:=aF (o:=.lst ((f2 l.name).map V.int)) nv
  refine⟨_,rfl,_,rfl,D2,_,rfl,g2 (t2 _ _ f2'),_,_,sO (bT.of aA),sO (bT.of (t2 _ _ x2)),(gdL _).shaped (by decide),(gdL _).shaped (by decide),_,rfl,?_⟩
  rw [(gdL (f2 l.name)).eq]
  exact dR ⟨s1.trans t2,_,rfl⟩
 rintro σ H1 ⟨s1,v2,rfl⟩
 refine⟨_,⟨D2,o,_,s1 _ _ aA,(fun o' u' z=>by rw [e2] at z;cases z),rfl⟩,?_⟩
 have s2:=V9 e2 s1
 generalize upd H1 D2 (.dK (wy pa2 ls))=H2 at s2 ⊢
 refine⟨_,rfl,D1,_,rfl,.inl (s2 _ _ e1),_,rfl,D2,_,rfl,.inl (s2 _ _ e2),rfl,?_⟩
 rw [show(wy pa1 ls).length=(wy pa2 ls).length by unfold wy;rw [lM,lM],decide_eq_true rfl]
 exact k _ s2
inductive my (K:PySem.W.Frag) (vs:List V) (H:Hp) (Q:VK) (E:XK):Prop where
 | mk:∀(D L:Addr) (pa:Str->Addr) (xs:List V) (ls:List aH) (f:Str->List Int) (m:Nat),vs=[.ref D,.ref L,.int (m:Nat)]->H D=some (.dK (wy pa ls))->(ls.map (·.name)).Nodup->H L=some (.lst xs)->gJ (pW H) xs ls->((∀l∈ls,H (pa l.name)=some (.lst ((f l.name).map V.int))))->((∀l∈ls,∃r,f l.name=l.first ++ r))->((∀l∈ls,(f l.name).length<=l.first.length+m))->(∀H',aK H H'->Q (.bl true) H')->my K vs H Q E
theorem rm (T:Txt w K mg t):FO P w K mg base 1 t.uq ["_law_found", "_law_lanes", "_law_most"] (my K):=by
 have sc:=T.jT.sc ["_law_found", "_law_lanes", "_law_most", "_law_name", "_law_room", "_law_first", "_law_row"]
 refine T.jT.F.ok sc ln (fun _ _ _ _ H vs Q E hr h=>?_)
 obtain⟨D,L,pa,xs,ls,f,m,rfl,e1,nod,eL,aL,l1,pre,hm,k⟩:=h
 refine⟨_,(au (eO PassesOwn.never rfl (dN (pv 1)) (Em rfl (gj (gN sc 3) (gj (gN sc 4) (gj (gN sc 5) u9))))
   (au (sN sc 6 (cW hr.u1 (pv 0) (pv 3) (fun _ _=>rfl)))
   (az (bQ (PW.pt (pJ (bC (M8 hr.units) (jZ sU (pv 6) pX (lF (aV bK (by rfl) T.dG bY (aa (pv 5) ak aj)))) (pv 5) (bL _)) (lg (bC zb (aV bK (by rfl) T.dG bY (aa (pv 6) ak aj)) (bh cT (aV bK (by rfl) T.dG bY (aa (pv 5) ak aj)) (pv 2)) (bL _)))))
    (az (aN iT))
    bz))))
  (az (aN (nH iM (aV pK (by rfl) T.dG bY (aa (pv 0) ak aj)) (aV bK (by rfl) T.dG bY (aa (pv 1) ak aj)) (bL _))))),?_⟩
 have hz:sizeLine=16777216:=sizeLine_eq
 have gdL:∀l:List Int,Gd 1 (.list (l.map PyData.int)):=fun l=>.list (.ints 0 _)
 have xl:=aL.length
 refine⟨_,rfl,L,rfl,⟨_,bT.of eL⟩,fu (K:=K) (a:=L) (xs:=xs) (fun j σ H'=>aK H H'/\∃v3 v4 v5 v6,σ=[some (.ref D),some (.ref L),some (.int (m:Nat)),v3,v4,v5,v6]) ⟨aK.refl _,_,_,_,_,rfl⟩ (fun j σ H' _ h=>bT.of (h.1 _ _ eL)) ?_ ?_⟩
 ·rintro j x σ H1 hx ⟨s1,v3,v4,v5,v6,rfl⟩
  obtain⟨l,hlj,q,g,rfl,hq,hg⟩:=aL.get hx
  have hl:=List.mem_of_getElem? hlj
  obtain⟨r,er⟩:=pre l hl
  have hml:=hm l hl
  refine⟨q,_,rfl,gK.of (s1 _ _ hq),rfl,_,_,rfl,_,_,rfl,_,_,rfl,rfl,?_⟩
  refine⟨_,rfl,_,rfl,D,_,rfl,Wv (s1 _ _ e1) (sZ nod hl),?_⟩
  have x1:=s1 _ _ (l1 l hl)
  have xg:=s1 _ _ hg
  refine⟨_,rfl,_,rfl,_,l.first.length,rfl,.inl ⟨_,bT.of xg,by rw [lM]⟩,_,rfl,pa l.name,_,rfl,bT.of x1,fun v nv=>?_⟩
  rw [zW,<-List.map_take,er,List.take_left]
  have t2:=aF (o:=.lst (l.first.map V.int)) nv
  refine⟨_,rfl,_,_,sO (bT.of aA),sO (bT.of (t2 _ _ xg)),(gdL _).shaped (by decide),(gdL _).shaped (by decide),_,rfl,?_⟩
  rw [(gdL l.first).eq]
  refine dR ⟨_,rfl,_,(f l.name).length,rfl,.inl ⟨_,bT.of (t2 _ _ x1),by rw [lM]⟩,_,rfl,_,l.first.length,rfl,.inl ⟨_,bT.of (t2 _ _ xg),by rw [lM]⟩,_,rfl,_,_,rfl,rfl,_,_,rfl,rfl,_,rfl,?_⟩
  rw [decide_eq_false (by omega)]
  exact dR ⟨s1.trans t2,_,_,_,_,rfl⟩
 rintro σ H1 ⟨s1,v3,v4,v5,v6,rfl⟩
 refine⟨_,rfl,D,_,rfl,.inl (s1 _ _ e1),_,rfl,_,xs.length,rfl,.inl ⟨_,bT.of (s1 _ _ eL),rfl⟩,rfl,?_⟩
 rw [show(wy pa ls).length=xs.length by unfold wy;rw [lM,xl],decide_eq_true rfl]
 exact k _ s1
noncomputable def Bl (S:FS) (r:Str->List Int):FS:=⟨S.ev,S.g,S.k,S.d,r⟩
theorem Kw {b:Nat} {ls:List aH} {ps:List PD} {S:FS} (O:Mi b ls ps S) {r:Str->List Int} (hr:∀x,∃z,r x=S.r x ++ z) {p:PD} (hp:p∈ps) {dd:iH} (h:cH S p=some dd):cH (Bl S r) p=some dd:=by
 obtain⟨hl,he,rfl⟩:=gW h
 have eh:bc (Bl S r) p=bc S p:=rfl
 obtain⟨z,ez⟩:=hr p.name
 have key:p.kind=0->S.d p.name <(S.r p.name).length:=fun h0=>by
  have:=O.dl p hp h0
  unfold vX at he
  simp [h0] at he
  omega
 have he':vX (Bl S r) p=false:=by
  unfold vX
  show(decide (p.kind=0) && decide (S.d p.name=(r p.name).length))=false
  by_cases h0:p.kind=0
  ·have:=key h0
   rw [decide_eq_false (p:=S.d p.name=(r p.name).length) (fun z=>by rw [ez,lP] at z;omega),Bool.and_false]
  ·rw [decide_eq_false h0,Bool.false_and]
 have ws:ud (Bl S r) p=ud S p:=by
  unfold ud
  rw [eh]
  by_cases h0:p.kind=0
  ·rw [if_pos h0,if_pos h0]
   show((r p.name)[S.d p.name]?).toList=_
   rw [ez,List.getElem?_append_left (key h0)]
  ·rw [if_neg h0,if_neg h0]
 unfold cH
 rw [eh,if_neg (by simp [hl]),if_neg (by simp [he']),ws]
 rfl
theorem pL.more {ls:List aH} {ps:List PD} {m m':Nat} (F:sH ls ps) (hm:m<=m') {r:Str->List Int} {S T:FS} (c:pL ps m S T):∀{b:Nat},Mi b ls ps S->(∀x,∃z,r x=S.r x ++ z)->pL ps m' (Bl S r) (Bl T r):=by
 induction c with
 | refl S=>intro b _ _;exact .refl _
 | @head S T p dd hp hd h _ ih=>
  intro b O hr
  exact .head hp (Nat.lt_of_lt_of_le hd hm) (Kw O hr hp h) (ih (QD F O hp h) hr)
theorem pL.len {ls:List aH} {ps:List PD} {m:Nat} (F:sH ls ps) {p:PD} (hp:p∈ps) {x:Str} (hx:x∈p.outs) {S T:FS} (c:pL ps m S T):(T.ev x).length+S.d p.name<=(S.ev x).length+T.d p.name:=by
 induction c with
 | refl S=>exact Nat.le_refl _
 | @head S T q dd hq hd h _ ih=>
  have nd:=F.whole.outs.nodup_iff.mpr F.whole.nod
  have ev:((jl S q.name dd).ev x).length=(S.ev x).length+(dd.gv.filter fun z=>decide (z.1=x)).length:=by
   show(S.ev x ++ _).length=_
   rw [lP,lM]
  have dv:(jl S q.name dd).d p.name=if p.name=q.name then S.d p.name+1 else S.d p.name:=rfl
  rw [ev,dv] at ih
  by_cases e:q=p
  ·subst e
   rw [if_pos rfl] at ih
   have:=HY (f:=fun q:Str×Int=>q.1) (x:=x) (JB F hq h).1
   omega
  ·rw [if_neg fun z=>e (qM F.pnd hq hp z.symm)] at ih
   have:(dd.gv.filter fun z=>decide (z.1=x))=[]:=List.filter_eq_nil_iff.mpr fun z hz e2=>e (vY nd hq hp (by rw [<-of_decide_eq_true e2];exact(JB F hq h).2 z hz) hx)
   rw [this] at ih
   exact ih
theorem Iw {H:Hp} {L P:Addr} {ls:List aH} {ps:List PD} (A:yZ H L P ls ps):Hand K H L P ls ps:=by
 obtain⟨⟨x1,x2,x3⟩,⟨y1,y2,y3⟩⟩:=A
 refine⟨⟨x1,bT.of x2,x3.imp fun _ _ h=>?_⟩,⟨y1,bT.of y2,y3.imp fun _ _ h=>?_⟩⟩
 ·obtain⟨q,f,e,h1,h2⟩:=h
  exact⟨q,f,e,h1,.inl (bT.of h2)⟩
 ·obtain⟨q,a1,a2,a3,e,h1,h2,h3,h4⟩:=h
  exact⟨q,a1,a2,a3,e,h1,.inl (bT.of h2),.inl (bT.of h3),.inl (bT.of h4)⟩
theorem pL.d_le {ps:List PD} {m:Nat} {x:Str} {S T:FS} (c:pL ps m S T):S.d x<=m->T.d x<=m:=by
 induction c with
 | refl S=>exact id
 | @head S T q dd hq hd h _ ih=>
  intro hx
  refine ih ?_
  show(if x=q.name then S.d x+1 else S.d x)<=m
  split
  ·rename_i e;rw [e];omega
  ·exact hx
theorem Done.same {ps:List PD} {m:Nat} {S T:FS} (c:pL ps m S T) (d:Done ps m S):T=S:=by
 cases c with
 | refl _=>rfl
 | head hp hd h _=>rw [d _ hp hd] at h;cases h
theorem mG {ls:List aH} {ps:List PD} {m m':Nat} (F:sH ls ps) (hm:m<=m') {R1 R2:List (Str×Addr×List Int)} (l1:∀q∈R1,q.2.2.length<=300) (b1:∀q∈R1,∀v∈q.2.2,0<=v/\v <1000000000) (hr:∀x,∃z,lJ R2 x=lJ R1 x ++ z) {T1 T2:FS} (c1:pL ps m (eN ls ps R1) T1) (c2:pL ps m' (eN ls ps R2) T2) (d2:Done ps m' T2) (x:Str):∃z,T2.ev x=T1.ev x ++ z:=by
 have c:=pL.more (r:=lJ R2) F hm c1 (Cr F l1 b1) hr
 exact(pL.ends F (A:=eN ls ps R2) c c2 d2).pre x
theorem uL {ls:List aH} {ps:List PD} {m:Nat} (F:sH ls ps) {R1:List (Str×Addr×List Int)} {T1:FS} (c1:pL ps m (eN ls ps R1) T1) {l:aH} (hl:l∈ls):(∃r,T1.ev l.name=l.first ++ r)/\(T1.ev l.name).length<=l.first.length+m:=by
 have e:(eN ls ps R1).ev l.name=l.first:=wj F.whole.nod hl
 refine⟨by rw [<-e];exact c1.pre l.name,?_⟩
 have hm:l.name∈ps.flatMap (·.outs):=F.whole.outs.mem_iff.mpr (List.mem_map.mpr ⟨l,hl,rfl⟩)
 obtain⟨p,hp,ho⟩:=List.mem_flatMap.mp hm
 have h1:=c1.len F hp ho
 have h2:=c1.d_le (x:=p.name) (Nat.zero_le _)
 rw [e] at h1
 omega
structure Oe (H:Hp) (D:Addr) (pa:Str->Addr) (ls:List aH) (T:FS):Prop where
 dict:H D=some (.dK (wy pa ls))
 lists:∀l∈ls,H (pa l.name)=some (.lst ((T.ev l.name).map V.int))
theorem Oe.same {H H':Hp} {D:Addr} {pa:Str->Addr} {ls:List aH} {T:FS} (h:Oe H D pa ls T) (s:aK H H'):Oe H' D pa ls T:=⟨s _ _ h.dict,fun l hl=>s _ _ (h.lists l hl)⟩
theorem Pk {H:Hp} {Q:VK} {Ex:XK} {n rw:Addr} {ls:List aH} {ps:List PD} {RW:List (Str×Addr×List Int)} {m:Nat} (N:mY K t H n ls ps) (F:sH ls ps) (R:jE H rw RW) (O:wN ps RW) (hm:m<=300) (k:∀H' D pa T,aK H H'->Oe H' D pa ls T->H D=none->pL ps m (eN ls ps RW) T->Done ps m T->Q (.ref D) H'):iU K t [.ref n,.ref rw,.int (m:Nat)] H Q Ex:=by
 unfold iU
 exact⟨n,rw,ls,ps,RW,m,rfl,N,F,R,O,hm,fun H' D pa T s e l fr _ c d=>k H' D pa T s ⟨e,l⟩ (fr D (.head _)) c d⟩
noncomputable def nj (c:Int) (l:aH):aH:=⟨l.name,(if (l.first.length:Int) >1 then(l.first.length:Int) else 1)+bO c 5 % 9,l.first⟩
theorem Uu {H:Hp} {D1 D2:Addr} {p1 p2:Str->Addr} {ls:List aH} {T1 T2:FS} (h1:Oe H D1 p1 ls T1) (h2:Oe H D2 p2 ls T2) (e:∀l∈ls,T1.ev l.name=T2.ev l.name):Ht K (.ref D1) (.ref D2) H:=by
 have gdL:∀l:List Int,Gd 1 (.list (l.map PyData.int)):=fun l=>.list (.ints 0 _)
 refine⟨D1,D2,_,_,rfl,rfl,.inl h1.dict,.inl h2.dict,by unfold wy;rw [lM,lM],fun i k v hi=>?_⟩
 unfold wy at hi ⊢
 rw [List.getElem?_map] at hi ⊢
 obtain⟨l,hli,e1⟩:=Option.map_eq_some_iff.mp hi
 cases e1
 have hl:=List.mem_of_getElem? hli
 have x2:=h2.lists l hl
 rw [<-e l hl] at x2
 exact⟨.ref (p2 l.name),_,by rw [hli];rfl,sO (bT.of (h1.lists l hl)),sO (bT.of x2),(gdL _).shaped (by decide),(gdL _).eq⟩
theorem beg {H:Hp} {Q:VK} {Ex:XK} {D1 D2:Addr} {p1 p2:Str->Addr} {ls:List aH} {T1 T2:FS} (h1:Oe H D1 p1 ls T1) (h2:Oe H D2 p2 ls T2) (ne:D1≠D2) (nod:(ls.map (·.name)).Nodup) (e:∀x,∃r,T1.ev x=T2.ev x ++ r) (k:∀H',aK H H'->Q (.bl true) H'):mj K [.ref D1,.ref D2] H Q Ex:=⟨D1,D2,p1,p2,ls,T1.ev,T2.ev,rfl,ne,h1.dict,h2.dict,nod,h1.lists,h2.lists,fun l _=>e l.name,k⟩
theorem wit {H:Hp} {Q:VK} {Ex:XK} {D L P:Addr} {pa:Str->Addr} {ls:List aH} {ps:List PD} {R:List (Str×Addr×List Int)} {T:FS} {m:Nat} (h:Oe H D pa ls T) (F:sH ls ps) (A:yZ H L P ls ps) (c:pL ps m (eN ls ps R) T) (k:∀H',aK H H'->Q (.bl true) H'):my K [.ref D,.ref L,.int (m:Nat)] H Q Ex:=by
 obtain⟨⟨xs,eL,aL⟩,_⟩:=A
 exact⟨D,L,pa,xs,ls,T.ev,m,rfl,h.dict,F.whole.nod,eL,aL,h.lists,fun l hl=>(uL F c hl).1,fun l hl=>(uL F c hl).2,k⟩
theorem Hf (ls:List aH) (c:Int):zK (ls.map (nj c))=zK ls:=by
 funext x
 unfold zK
 rw [List.find?_map]
 cases h:ls.find? ((fun l=>decide (l.name=x))∘nj c) with
 | none=>rw [show ls.find? (fun l=>decide (l.name=x))=none from h];rfl
 | some l=>rw [show ls.find? (fun l=>decide (l.name=x))=some l from h];rfl
theorem jh {H:Hp} {a b:Addr} {o:HO} (e:H a=some o) (n:H b=none):b≠a:=fun z=>by rw [z,e] at n;cases n
noncomputable def Lw (q r:Str×Addr×List Int):Prop:=q.1=r.1/\∃z,r.2.2=q.2.2 ++ z
theorem uA:∀{SW RW:List (Str×Addr×List Int)},gJ Lw SW RW->SW.map (·.1)=RW.map (·.1)
 | _,_,.nil=>rfl
 | _,_,.cons h r=>by rw [List.map_cons,List.map_cons,h.1,uA r]
theorem zE:∀{SW RW:List (Str×Addr×List Int)},gJ Lw SW RW->∀q∈SW,∃r∈RW,Lw q r
 | _,_,.cons h r,q,hq=>by
  rcases List.mem_cons.mp hq with rfl | hq
  ·exact⟨_,.head _,h⟩
  ·obtain⟨r',h1,h2⟩:=zE r q hq
   exact⟨r',.tail _ h1,h2⟩
theorem EY:∀{SW RW:List (Str×Addr×List Int)},gJ Lw SW RW->∀x,∃z,lJ RW x=lJ SW x ++ z
 | _,_,.nil,x=>⟨[],rfl⟩
 | _,_,@gJ.cons _ _ _ q r _ _ h t,x=>by
  unfold lJ
  rw [List.find?_cons,List.find?_cons,h.1]
  by_cases e:r.1=x
  ·rw [decide_eq_true e];exact h.2
  ·rw [decide_eq_false e];exact EY t x
theorem sH.rooms {ls:List aH} {ps:List PD} (F:sH ls ps) (lok:∀l∈ls,l.ok) (c:Int):sH (ls.map (nj c)) ps:=by
 have nm:(ls.map (nj c)).map (·.name)=ls.map (·.name):=by rw [List.map_map];rfl
 refine⟨fun l hl=>?_,F.pok,fun l hl=>?_,F.pnm,F.pnd,by rw [nm];exact F.whole,by rw [lM];exact F.l1,by rw [lM];exact F.l24,F.p1,F.p16⟩
 ·obtain⟨l,hm,rfl⟩:=List.mem_map.mp hl
  obtain⟨h1,h2,h3,h4⟩:=lok l hm
  have m0:=Int.emod_nonneg (bO c 5) (show(9:Int)≠0 by decide)
  have m1:=Int.emod_lt_of_pos (bO c 5) (show(0:Int) <9 by decide)
  refine⟨?_,?_,?_,h4⟩ <;> show _<=_ <;> unfold nj <;> dsimp only <;> split <;> omega
 ·obtain⟨l,hm,rfl⟩:=List.mem_map.mp hl
  exact F.lnm l hm
inductive yK (K:PySem.W.Frag) (vs:List V) (H:Hp) (Q:VK) (E:XK):Prop where
 | mk:∀(a:Addr) (ns:List Int),vs=[.ref a]->bT K H a (ns.map V.int)->ns.length<=63->(∀H',Q (.bl true) H')->yK K vs H Q E
noncomputable abbrev Q4:List Str:=["_law_script", "_law_cell_here", "_law_lanes", "_law_parts", "_law_net_one", "_law_other", "_law_rows_here", "_law_short", "_law_name", "_law_most", "_law_greater", "_law_early", "_law_longer", "_law_later", "_law_both", "_law_bare"]
theorem RP (T:Txt w K mg t):FO P w K mg base 8 t.QF ["_law_script"] (yK K):=by
 have sc:=T.JG.sc Q4
 refine T.JG.F.ok sc ln (fun _ _ _ _ H vs Q E hr h=>?_)
 obtain⟨a,ns,rfl,hS,hl,k⟩:=h
 refine⟨_,(au (sN sc 1 (dz (jn T) T.gM hr (aa (pv 0) (aa aq ak ao) aj)))
  (au (Sd (dz (Ge T) T.uz hr (aa (pv 0) (aa aq (aa aq (aa iT ak ao) ao) ao) aj)) (Em rfl (gj (gN sc 2) (gj (gN sc 3) u9))))
  (au (sN sc 4 (gB (T.bw.M T.fQ) (qy T) (hr.mono (by decide)) (by rfl) T.bw.m T.fQ.b .nil gQ (aa (pv 2) (aa (pv 3) ak aj) aj)))
  (au (sN sc 5 (gB (T.bw.M T.fQ) (qy T) (hr.mono (by decide)) (by rfl) T.bw.m T.fQ.b .nil gQ (aa (Lf ["_law_name", "_law_room", "_law_first"] [1] Q4 (bA (top 80)) rfl (dN (pv 2)) (fun _ _ _ _ _=>Jc (K:=K) (n:=3) rfl rfl (gj (qb (i:=0) (show(["_law_name", "_law_room", "_law_first", "_law_cell_here"]:List Str).Nodup by decide +kernel) rfl (Or.inl rfl) (.inr rfl)) (gj (qb (i:=1) (show(["_law_name", "_law_room", "_law_first", "_law_cell_here"]:List Str).Nodup by decide +kernel) rfl (Or.inl rfl) (.inr rfl)) (gj (qb (i:=2) (show(["_law_name", "_law_room", "_law_first", "_law_cell_here"]:List Str).Nodup by decide +kernel) rfl (Or.inl rfl) (.inr rfl)) u9)))) (fun _ _ _ _ _=>jo) (fun _ _ _ _ _=>(cZ (aa (pv 0) (aa (bh cT (aV (wD rfl) (by rfl) T.Iu Dr (aa aq (aa (aV ((Kc (K:=K) rfl)) (by rfl) T.dG bY (aa (pv 2) ak aj)) ak bf) ao)) (bh bZ (dz (aR T) T.aX hr (aa (pv 3) (aa aq ak ao) aj)) aq)) (aa (pv 2) ak aj) bI) aj)))) (aa (pv 3) ak aj) fG)))
  (au (sN sc 6 (dz (Eg T) T.qI hr (aa (pv 0) (aa (pv 3) (aa aq ak ao) aj) aj)))
  (au (sN sc 7 eE)
  (au (pH (H0:=H) rfl (eO PassesOwn.never rfl (pZ (pv 6)) (gN sc 8)
   (az (gw hr.u1 (pv 7) (pv 8) (jZ sU (cW hr.u1 (pv 6) (pv 8) (fun _ _=>rfl)) pX (lF (bh bZ (dz (aR T) T.aX hr (aa (pv 1) (aa (bh cT aq (aV pK (by rfl) T.dG bY (aa (pv 7) ak aj))) ak bI) aj)) (bh cT (aV bK (by rfl) T.dG bY (aa (cW hr.u1 (pv 6) (pv 8) (fun _ _=>rfl)) ak aD)) aq)))) rfl))))
  (au (sN sc 9 (bh bZ (dz (aR T) T.aX hr (aa (pv 1) (aa aq ak ao) aj)) aq))
  (au (sN sc 10 (bh cT (pv 9) (bh bZ (dz (aR T) T.aX hr (aa (pv 1) (aa aq ak ao) aj)) (bh CZ aq (pv 9)))))
  (au (sN sc 11 (dz (dO T) T.dB hr (aa (pv 4) (aa (pv 7) (aa (pv 9) ak aj) aj) aj)))
  (au (bQ (PW.pt (pJ (fU (fJ (dz (rm T) T.jT hr (aa (pv 11) (aa (pv 2) (aa (pv 9) ak aj) aj) aj)))) (lg (fU (fJ (dz (rm T) T.jT hr (aa (dz (dO T) T.dB hr (aa (pv 4) (aa (pv 6) (aa aq ak ao) aj) aj)) (aa (pv 2) (aa aq ak ao) aj) bf)))))))
   (az (aN iT))
   bz)
  (au (sN sc 12 (dz (dO T) T.dB hr (aa (pv 4) (aa (pv 6) (aa (pv 9) ak aj) aj) aj)))
  (au (sN sc 13 (dz (dO T) T.dB hr (aa (pv 4) (aa (pv 7) (aa (pv 10) ak aj) aj) aj)))
  (au (sN sc 14 (dz (dO T) T.dB hr (aa (pv 4) (aa (pv 6) (aa (pv 10) ak aj) aj) aj)))
  (au (bQ (PW.pt (pJ (fU (fJ (dz (iw T) T.fD hr (aa (pv 12) (aa (pv 11) ak aj) aj)))) (pJ (fU (fJ (dz (iw T) T.fD hr (aa (pv 13) (aa (pv 11) ak aj) aj)))) (lg (fU (fJ (dz (iw T) T.fD hr (aa (pv 14) (aa (pv 13) ak aj) aj))))))))
   (az (aN iT))
   bz)
  (au (bQ (PW.pt (pJ (fU (fJ (dz (iw T) T.fD hr (aa (pv 14) (aa (pv 12) ak aj) aj)))) (lg (bC (Oj hr.u100) (dz (dO T) T.dB hr (aa (pv 5) (aa (pv 6) (aa (pv 10) ak aj) aj) aj)) (pv 14) (bL _)))))
   (az (aN iT))
   bz)
  (au (sN sc 15 (dz (dO T) T.dB hr (aa (pv 4) (aa eE (aa (pv 10) ak aj) wW) aj)))
  (az (aN (uJ (dz (iw T) T.fD hr (aa (pv 11) (aa (dz (dO T) T.dB hr (aa (pv 4) (aa eE (aa (pv 9) ak aj) wW) aj)) ak bf) aj)) (uy (nH (Pb hr.u100) (dz (dO T) T.dB hr (aa (pv 4) (aa eE (aa (pv 10) ak aj) wW) aj)) (pv 15) (bL _))))))))))))))))))))))),?_⟩
 have hz:sizeLine=16777216:=sizeLine_eq
 refine⟨_,rfl,a,ns,0,rfl,hS,?_⟩
 generalize jA ns 0=c
 refine⟨_,rfl,a,ns,1,3,true,rfl,hS,by decide,fun T' L P ls ps H2 s2 nL nP nLP eT A D=>?_⟩
 refine⟨T',_,rfl,gK.of eT,rfl,_,_,rfl,_,_,rfl,rfl,?_⟩
 have F:=D.fit
 have lok:=D.lok
 clear eT nL nP nLP D
 have p16:=F.p16
 obtain⟨⟨xs,eL,aL⟩,⟨ys,eP,aP⟩⟩:=id A
 have xl:=aL.length
 refine⟨_,rfl,_,rfl,fun n dxn nn ndn nen=>?_⟩
 have gn:aK H2 (upd (upd H2 dxn (.own n)) n (.ins t.cX dxn [])):=fun b o e=>by rw [aJ (aC e nn),aJ (aC e ndn)];exact e
 have en:upd (upd H2 dxn (.own n)) n (.ins t.cX dxn []) n=some (.ins t.cX dxn []):=aA
 generalize upd (upd H2 dxn (.own n)) n (.ins t.cX dxn [])=Hn at gn en ⊢
 refine⟨n,dxn,L,P,ls,ps,rfl,en,Iw (A.same gn),F,fun H5 b5 N5=>⟨rfl,?_⟩⟩
 have s25:aK H2 H5:=fun b o e=>b5 b o (aC e nn) (gn b o e)
 have F2:=F.rooms lok c
 have l24:=F.l24
 have eL5:=s25 _ _ eL
 refine⟨_,rfl,L,rfl,⟨_,bT.of eL5⟩,?_⟩
 refine zM (K:=K) (a:=L) (xs:=xs) (fun j zs H'=>aK H5 H'/\zs.length<=j/\gJ (pW H') zs ((ls.map (nj c)).take j)) (by omega) ⟨aK.refl _,Nat.le_refl _,.nil⟩ (fun j zs H' h=>h.2.1) (fun j zs H' _ h=>h.1.seq (bT.of eL5)) ?_ ?_
 ·rintro j x zs H6 hx ⟨s6,lz,aZ⟩
  obtain⟨l,hlj,q,f,rfl,hq,hf⟩:=aL.get hx
  have hf6:=s6 _ _ (s25 _ _ hf)
  have tk:(ls.map (nj c)).take (j+1)=(ls.map (nj c)).take j ++ [nj c l]:=by rw [List.take_succ,List.getElem?_map,hlj];rfl
  refine⟨q,_,rfl,gK.of (s6 _ _ (s25 _ _ hq)),rfl,_,_,rfl,_,_,rfl,_,_,rfl,rfl,rfl,yes ?_⟩
  refine⟨_,rfl,_,rfl,_,l.first.length,rfl,.inl ⟨_,bT.of hf6,by rw [lM]⟩,_,_,rfl,_,rfl,_,_,rfl,_,_,rfl,rfl,by show(0:Int) <9;decide,_,_,rfl,rfl,_,rfl,jy,fun u nu=>⟨s6.trans (aF nu),by rw [lP];exact Nat.succ_le_succ lz,?_⟩⟩
  rw [tk]
  exact(aZ.imp fun _ _ h=>h.same (aF nu)).app (.cons ⟨u,f,rfl,aA,(aF nu) _ _ hf6⟩ .nil)
 rintro zs H6 ⟨s6,lz,aZ⟩ Lo nLo
 rw [show(ls.map (nj c)).take xs.length=ls.map (nj c) by rw [List.take_of_length_le];rw [lM,xl];exact Nat.le_refl _] at aZ
 have t7:=aF (o:=.lst zs) nLo
 have A7:yZ (upd H6 Lo (.lst zs)) Lo P (ls.map (nj c)) ps:=⟨⟨zs,aA,aZ.imp fun _ _ h=>h.same t7⟩,((A.same s25).same (s6.trans t7)).parts⟩
 have s57:=s6.trans t7
 generalize upd H6 Lo (.lst zs)=H7 at t7 A7 s57 ⊢
 refine⟨_,rfl,fun n2 dx2 nn2 nd2 ne2=>?_⟩
 have gn2:aK H7 (upd (upd H7 dx2 (.own n2)) n2 (.ins t.cX dx2 [])):=fun b o e=>by rw [aJ (aC e nn2),aJ (aC e nd2)];exact e
 have en2:upd (upd H7 dx2 (.own n2)) n2 (.ins t.cX dx2 []) n2=some (.ins t.cX dx2 []):=aA
 generalize upd (upd H7 dx2 (.own n2)) n2 (.ins t.cX dx2 [])=Hm at gn2 en2 ⊢
 refine⟨n2,dx2,Lo,P,_,ps,rfl,en2,Iw (A7.same gn2),F2,fun H8 b8 N8=>⟨rfl,?_⟩⟩
 have s78:aK H7 H8:=fun b o e=>b8 b o (aC e nn2) (gn2 b o e)
 have s58:=s57.trans s78
 have s28:=s25.trans s58
 have N1:=N5.same s58
 have A8:=A.same s28
 have hS8:=(s2.trans s28).seq hS
 clear aZ lz A7 t7 s57 gn2 en2 b8 s78 N5 nLo s6 gn en b5 eL5
 obtain⟨⟨xs8,eL8,aL8⟩,⟨ys8,eP8,aP8⟩⟩:=id A8
 refine⟨_,rfl,_,rfl,a,P,ns,ys8,ps,6,rfl,hS8,eP8,aP8,p16,fun H9 d RW s9 nd hR9 lR _=>?_⟩
 refine fun sh nsh=>?_
 have R9:=hR9.at'
 have O9:wN ps RW:=⟨hR9.door,hR9.bnd⟩
 have t10:=aF (o:=.dK []) nsh
 have eSh0:upd H9 sh (.dK []) sh=some (.dK []):=aA
 have ndS:d≠sh:=aC R9.dict nsh
 have d10:=t10 _ _ R9.dict
 have nfd:∀o u,H d≠some (.frz o u):=fun o u z=>by rw [(s2.trans s28).free nd] at z;cases z
 generalize upd H9 sh (.dK [])=H10 at t10 eSh0 d10 ⊢
 refine⟨_,rfl,d,_,rfl,d10,fun o=>?_⟩
 obtain⟨C,hC⟩:∃C,C=bH [sh] (upd H10 d (.frz o (.dK (dh RW)))):=⟨_,rfl⟩
 have dC:C d=some (.frz o (.dK (dh RW))):=by rw [hC];exact eQ aA (by simpa using ndS)
 have sC0:aK C (upd H10 d (.frz o (.dK (dh RW)))):=by rw [hC];exact fM
 have lC:∀r∈RW,C r.2.1=some (.lst (r.2.2.map V.int)):=fun r hr=>by
  have e9:=R9.lists r hr
  have n1:r.2.1≠d:=fun z=>by rw [z,R9.dict] at e9;cases e9
  rw [hC]
  exact eQ (by rw [aJ n1];exact t10 _ _ e9) (by simpa using aC e9 nsh)
 have sR:sh∉([]:List Addr):=by simp
 refine pF (fun j σ H'=>∃SW v8,σ=[some (.ref a),some (.int c),some (.ref L),some (.ref P),some (.ref n),some (.ref n2),some (.ref d),some (.ref sh),v8,none,none,none,none,none,none,none]/\aK C H'/\H' sh=some (.dK (dh SW))/\gJ Lw SW (RW.take j)/\∀q∈SW,H' q.2.1=some (.lst (q.2.2.map V.int))/\q.2.1≠sh) ⟨[],none,rfl,sC0,by rw [aJ (Ne.symm ndS)];exact eSh0,.nil,by simp⟩ (fun j σ H' _ ⟨_,_,_,s',_⟩=>s' _ _ dC) ?_ ?_
 ·rintro j ky v σ H1 hj ⟨SW,v8,rfl,s1,eS,aS,lS⟩
  unfold dh at hj
  rw [List.getElem?_map] at hj
  obtain⟨r,hrj,e⟩:=Option.map_eq_some_iff.mp hj
  cases e
  have hr:=List.mem_of_getElem? hrj
  have hjl:=(List.getElem?_eq_some_iff.mp hrj).1
  have ev:bW (dh RW) (Sum.inr r.1)=some (.ref r.2.1):=gh (by rw [mz];exact eZ R9.nd) (List.mem_map.mpr ⟨r,hr,rfl⟩)
  have g6:dZ H1 d (.str r.1) (some (.ref r.2.1)):=by rw [<-ev];exact .inl ⟨_,Sum.inr r.1,.inr ⟨o,s1 _ _ dC⟩,rfl,rfl⟩
  have x1:=s1 _ _ (lC r hr)
  have lr:=R9.len r hr
  have lSW:SW.length<=16:=by have:=aS.length;rw [List.length_take] at this;omega
  obtain⟨g,hg⟩:∃g:Nat,bO c (6+((dh SW).length:Int)) % ((r.2.2.length:Int)+1)=(g:Int):=⟨(bO c (6+((dh SW).length:Int)) % ((r.2.2.length:Int)+1)).toNat,(Int.toNat_of_nonneg (Int.emod_nonneg _ (by omega))).symm⟩
  refine⟨_,rfl,_,rfl,d,_,rfl,g6,_,rfl,_,rfl,sh,_,rfl,.inl eS,_,_,rfl,rfl,_,_,rfl,_,rfl,_,rfl,d,_,rfl,g6,_,r.2.2.length,rfl,.inl ⟨_,bT.of x1,by rw [lM]⟩,_,_,rfl,rfl,_,_,rfl,rfl,by show(0:Int) <(r.2.2.length:Int)+1;omega,_,rfl,r.2.1,_,rfl,bT.of x1,fun v nv=>?_⟩
  rw [hg,zW,<-List.map_take]
  have t2:=aF (o:=.lst ((r.2.2.take g).map V.int)) nv
  have nvs:v≠sh:=jh eS nv
  refine⟨_,rfl,_,rfl,sh,_,rfl,pA.k (k:=Sum.inr r.1) (t2 _ _ eS) (by unfold dh;rw [lM];omega),?_⟩
  have vS:bW (dh SW) (Sum.inr r.1)=none:=gm (by rw [mz,uA aS];intro z;obtain⟨b,hb,e⟩:=List.mem_map.mp z;cases e;exact mV R9.nd hrj hb)
  have tk:RW.take (j+1)=RW.take j ++ [r]:=by rw [List.take_succ,hrj];rfl
  rw [jt _ vS,tk]
  refine⟨SW ++ [(r.1,v,r.2.2.take g)],_,rfl,fun b u e=>?_,by unfold dh;rw [List.map_append];exact aA,aS.app (.cons ⟨rfl,r.2.2.drop g,(List.take_append_drop g r.2.2).symm⟩ .nil),fun q hq=>?_⟩
  ·have hb:b≠sh:=fun z=>by rw [z,hC] at e;simp [bH] at e
   rw [aJ hb]
   exact t2 _ _ (s1 _ _ e)
  ·rcases List.mem_append.mp hq with hq | hq
   ·rw [aJ (lS q hq).2]
    exact⟨t2 _ _ (lS q hq).1,(lS q hq).2⟩
   ·rw [List.mem_singleton] at hq
    subst hq
    exact⟨by rw [aJ nvs];exact aA,nvs⟩
 rintro σ H11 ⟨SW,v8,rfl,s11,eS,aS,lS⟩
 rw [show(dh RW).length=RW.length by unfold dh;rw [lM],List.take_length] at aS
 refine⟨_,⟨d,o,_,s11 _ _ dC,nfd,rfl⟩,?_⟩
 have s9':aK H9 (upd H11 d (.dK (dh RW))):=fun b u e=>by
  by_cases hb:b=d
  ·rw [hb,aA,<-R9.dict,<-hb,e]
  ·rw [aJ hb]
   exact s11 _ _ (by rw [hC];exact eQ (by rw [aJ hb];exact t10 _ _ e) (by simpa using aC e nsh))
 have RS:jE (upd H11 d (.dK (dh RW))) sh SW:=by
  refine⟨by rw [aJ (Ne.symm ndS)];exact eS,fun q hq=>?_,by rw [uA aS];exact R9.nd,fun q hq=>?_⟩
  ·rw [aJ fun z=>by have:=(lS q hq).1;rw [z,s11 _ _ dC] at this;cases this]
   exact(lS q hq).1
  ·obtain⟨r,hr,_,z,e⟩:=zE aS q hq
   have:=R9.len r hr
   rw [e,lP] at this
   omega
 have OS:wN ps SW:=by
  refine⟨fun q hq=>?_,fun q hq v hv=>?_⟩ <;> obtain⟨r,hr,e1,z,e⟩:=zE aS q hq
  ·rw [e1];exact O9.door r hr
  ·exact O9.bnd r hr v (by rw [e];exact List.mem_append.mpr (.inl hv))
 have pre:=EY aS
 have N8':=N8.same (s9.trans s9')
 have N1':=N1.same (s9.trans s9')
 have A':=A8.same (s9.trans s9')
 have R':=R9.same s9'
 generalize upd H11 d (.dK (dh RW))=H12 at RS N8' N1' A' R' ⊢
 clear aS lS eS s11 s9' lC dC sC0 hC d10 nfd eSh0 t10 nsh hR9 hS8 eP8 aP8 eL8 aL8 A8 N1 N8 s28 s58 s9 nd
 have pre0:∀x,∃z,lJ SW x=lJ [] x ++ z:=fun x=>⟨_,rfl⟩
 have lSW:=RS.len
 have lRW:=R'.len
 have nod:=F.whole.nod
 refine⟨_,rfl,_,_,rfl,_,_,rfl,rfl,by show(0:Int) <41;decide,?_⟩
 obtain⟨m,hm,hm41⟩:∃m:Nat,bO c 3 % 41=(m:Int)/\m<=40:=⟨(bO c 3 % 41).toNat,(Int.toNat_of_nonneg (Int.emod_nonneg _ (by decide))).symm,by omega⟩
 dsimp only
 rw [hm]
 refine⟨_,rfl,_,rfl,_,_,rfl,_,rfl,_,_,rfl,rfl,_,_,rfl,rfl,by show(0:Int) <41 - (m:Int);omega,_,_,rfl,rfl,?_⟩
 obtain⟨M,hM,hmM,hM40⟩:∃M:Nat,(m:Int)+bO c 4 % (41 - (m:Int))=(M:Int)/\m<=M/\M<=40:=by
  have h0:=Int.emod_nonneg (bO c 4) (show(41 - (m:Int))≠0 by omega)
  have h1:=Int.emod_lt_of_pos (bO c 4) (show(0:Int) <41 - (m:Int) by omega)
  exact⟨((m:Int)+bO c 4 % (41 - (m:Int))).toNat,by omega,by omega,by omega⟩
 dsimp only
 rw [hM]
 refine⟨_,rfl,_,rfl,_,rfl,Pk N1' F RS OS (by omega) fun H13 De pe Te s13 PE nDe ce de=>?_⟩
 refine⟨_,rfl,_,rfl,_,rfl,wit PE F (A'.same s13) ce fun H14 s14=>⟨_,rfl,dR ?_⟩⟩
 have s14:=s13.trans s14
 refine⟨_,rfl,_,rfl,Pk (m:=0) (N1'.same s14) F (R'.same s14) O9 (by omega) fun H15 D0 p0 T0 s15 P0 nD0 c0 d0=>?_⟩
 refine⟨_,rfl,wit (m:=0) P0 F ((A'.same s14).same s15) c0 fun H16 s16=>⟨_,rfl,dR ?_⟩⟩
 have u16:=(s14.trans s15).trans s16
 have PE16:=PE.same (((show aK H13 H14 from ‹aK H13 H14›).trans s15).trans s16)
 have N16:=N1'.same u16
 have R16:=R'.same u16
 have RS16:=RS.same u16
 have M16:=N8'.same u16
 clear P0 c0 d0 nD0 s15 s16 s14 s13 PE u16 N1' R' RS N8' A'
 refine⟨_,rfl,_,rfl,_,rfl,Pk N16 F R16 O9 (by omega) fun H17 Dl pl Tl s17 PL nDl cl dl=>?_⟩
 refine⟨_,rfl,_,rfl,_,rfl,Pk (N16.same s17) F (RS16.same s17) OS (by omega) fun H18 Da pa Ta s18 PA nDa ca da=>?_⟩
 have s18:=s17.trans s18
 refine⟨_,rfl,_,rfl,_,rfl,Pk (N16.same s18) F (R16.same s18) O9 (by omega) fun H19 Db pb Tb s19 PB nDb cb db=>?_⟩
 have s19':=s18.trans s19
 have s79:=(show aK H17 H18 from ‹aK H17 H18›).trans s19
 have PE19:=PE16.same s19'
 have PL19:=PL.same s79
 have PA19:=PA.same s19
 have nLE:Dl≠De:=jh PE16.dict nDl
 have nAE:Da≠De:=jh (PE16.same s17).dict nDa
 have nBA:Db≠Da:=jh PA.dict nDb
 have nBL:Db≠Dl:=jh (PL.same ‹aK H17 H18›).dict nDb
 have hEL:=mG F (Nat.le_refl m) lSW OS.bnd pre ce cl dl
 have hEA:=mG F hmM lSW OS.bnd (fun x=>⟨[],(List.append_nil _).symm⟩) ce ca da
 have hAB:=mG F (Nat.le_refl M) lSW OS.bnd pre ca cb db
 have hLB:=mG F hmM lRW O9.bnd (fun x=>⟨[],(List.append_nil _).symm⟩) cl cb db
 refine⟨_,rfl,_,rfl,beg PL19 PE19 nLE nod hEL fun H20 s20=>⟨_,rfl,dR ?_⟩⟩
 refine⟨_,rfl,_,rfl,beg (PA19.same s20) (PE19.same s20) nAE nod hEA fun H21 s21=>⟨_,rfl,dR ?_⟩⟩
 have s21:=s20.trans s21
 refine⟨_,rfl,_,rfl,beg (PB.same s21) (PA19.same s21) nBA nod hAB fun H22 s22=>⟨_,rfl,dR ?_⟩⟩
 have s22:=s21.trans s22
 refine⟨_,rfl,_,rfl,beg (PB.same s22) (PL19.same s22) nBL nod hLB fun H23 s23=>⟨_,rfl,dR ?_⟩⟩
 have s23:=s22.trans s23
 have u23:=s19'.trans s23
 refine⟨_,rfl,_,rfl,_,rfl,Pk (M16.same u23) F2 (R16.same u23) O9 (by omega) fun H24 Dc pc Tc s24 PC nDc cc dc=>?_⟩
 have PC':Oe H24 Dc pc ls Tc:=by
  refine⟨?_,fun l hl=>PC.lists (nj c l) (List.mem_map.mpr ⟨l,hl,rfl⟩)⟩
  have:=PC.dict
  unfold wy at this ⊢
  rw [List.map_map] at this
  exact this
 have eS:eN (ls.map (nj c)) ps RW=eN ls ps RW:=by unfold eN;rw [Hf]
 rw [eS] at cc
 have eT:Tb=Tc:=Done.same (pL.ends F cc cb db) dc
 refine⟨_,rfl,Uu PC' (PB.same (s23.trans s24)) (fun l _=>by rw [eT]),_,rfl,dR ?_⟩
 have s24:=s23.trans s24
 have u24:=s19'.trans s24
 have e0:∀{H':Hp} {z:Addr},H' z=some (.dK [])->jE H' z []:=fun e=>⟨e,by simp,by simp,by simp⟩
 have o0:wN ps []:=⟨by simp,by simp⟩
 refine⟨_,rfl,fun z1 nz1=>⟨_,rfl,Pk ((N16.same u24).same (aF nz1)) F (e0 aA) o0 (by omega) fun H25 Dd pd Td s25 PD' nDd cd dd=>?_⟩⟩
 have s25:=(aF (o:=.dK []) nz1).trans s25
 have u25:=u24.trans s25
 refine⟨_,rfl,_,rfl,fun z2 nz2=>⟨_,rfl,Pk ((N16.same u25).same (aF nz2)) F (e0 aA) o0 (by omega) fun H26 Df pf Tf s26 PF nDf cf df=>?_⟩⟩
 have s26:=(aF (o:=.dK []) nz2).trans s26
 have u26:=u25.trans s26
 have nEF:De≠Df:=Ne.symm (jh (((PE16.same u25).same (aF nz2)).dict) nDf)
 refine beg (PE16.same u26) PF nEF nod (mG F (Nat.le_refl m) (by simp) (by simp) pre0 cf ce de) fun H27 s27=>⟨_,rfl,lG ?_⟩
 have u27:=u26.trans s27
 refine⟨_,rfl,fun z3 nz3=>⟨_,rfl,Pk ((N16.same u27).same (aF nz3)) F (e0 aA) o0 (by omega) fun H28 Dg pg Tg s28 PG nDg cg dg=>?_⟩⟩
 have s28:=((s26.trans s27).trans (aF (o:=.dK []) nz3)).trans s28
 have eG:Td=Tg:=Done.same (pL.ends F cg cd dd) dg
 exact⟨_,rfl,Uu PG (PD'.same s28) (fun l _=>by rw [eG]),k _⟩
end
theorem fin {l:PySem.W.OpenLaw} {w:World} {K:PySem.W.Frag} {mg:Str->Option Value} {fa r0 r1 r2 r3 r4 r5 r6 r7 r8 r9 r10 r11 r12 r13 r14 r15 r16 r17 r18 r19 r20 r21 r22 r23 r24 r25 r26 r27 r28 r29 r30 r31 r32 r33 r34 r35 r36 r37 r38 r39 r40 r41 r42 r43 r44 r45 r46 r47 r48 r49 r50 r51 r52 r53 r54 r55 r56 r57 r58 r59 r60 r61 r62 r63 r64 r65 r66 r67 r68 r69 r70 r71 r72 r73 r74 r75 r76 r77 r78 r79 r80 r81 r82 r83 r84 r85 r86 r87 r88 r89 r90 r91 r92 r93:Addr} (hfa:mg "law" =some (.ref fa)) (T:Txt w K mg ⟨r0,r1,r2,r3,r4,r5,r6,r7,r8,r9,r10,r11,r12,r13,r14,r15,r16,r17,r18,r19,r20,r21,r22,r23,r24,r25,r26,r27,r28,r29,r30,r31,r32,r33,r34,r35,r36,r37,r38,r39,r40,r41,r42,r43,r44,r45,r46,r47,r48,r49,r50,r51,r52,r53,r54,r55,r56,r57,r58,r59,r60,r61,r62,r63,r64,r65,r66,r67,r68,r69,r70,r71,r72,r73,r74,r75,r76,r77,r78,r79,r80,r81,r82,r83,r84,r85,r86,r87,r88,r89,r90,r91,r92,r93⟩):∃fd:FuncData,(∀(s:Shared) (v:Value),BindsTo s fd ⟨[v],[]⟩ [("_law_script",v)])/\∀base:Heap,K.In base->base.Ns mainGlobals mg->iG l.prog w K mg base Aw 8 fa fd ["_law_script"] (yK K):=by
 have e:=hfa.symm.trans T.JG.m
 cases e
 exact⟨_,SQ T.JG.F fun _ _ _ _ _ _ _=>rfl,fun base _ _=>RP T⟩
theorem walk {l:PySem.W.OpenLaw} {q:Program} {loose:List Str} {XP:(Str->Option Value)->Heap->Prop} {YP:World->Heap->Prop} {d:DefRec} {K:Params->PySem.W.Frag} (hn:l.most=some 63) (hdf:d.params.defaults=[])
  (hY:∀(w:World) (h:Heap),YP w h->(K w.params).In h)
  (F:∀(w:World) (mg:Str->Option Value) (fa:Addr) (h:Heap),(K w.params).In h->h.Ns mainGlobals mg->mg d.name=some (.ref fa)->
   ∃fd:FuncData,(∀(s:Shared) (u:Value),BindsTo s fd ⟨[u],[]⟩ [("_law_script",u)])/\∀base:Heap,(K w.params).In base->base.Ns mainGlobals mg->iG l.prog w (K w.params) mg base Aw 8 fa fd ["_law_script"] (yK (K w.params))):
  PySem.W.WalkO q loose XP YP l.row.toRowW d [] (fun f vs=>PySem.call f vs):=
 L2.Ql (n:=63) (k:=8) (x:= "_law_script") (CX:=fun _=>Aw) (sp:=fun w=>yK (K w.params)) hn (by decide) hdf ⟨rfl,by decide,by decide⟩ hY F (fun _ _ a ns hl _ hS=>⟨a,ns,rfl,hS,hl,fun _=>rfl⟩) fun _ _ _ _ _ z=>z
end K32
open PySem PySem.W PyProof.Rows L2
set_option maxRecDepth 100000 in
set_option maxHeartbeats 0 in
theorem PySem.Challenge.cw_holdlane_k32_more_workings_go_on_holds : PySem.Challenge.rw_holdlane_k32_more_workings_go_on.Holds := by
 w_on;o_law
 refine HD.head (by rfl) (by rfl) (by rfl) (by rfl) (by first | assumption | decide +kernel) (by decide +kernel) ⟨rfl,rfl,rfl,rfl,rfl,by decide +kernel⟩ rfl (fun _=>rfl) ?_ ?_
 ·w_witness2
 k_fill
 refine K32.walk (l:=PySem.Challenge.rw_holdlane_k32_more_workings_go_on) rfl rfl (fun w h Y=>PySem.W.kIn_of Y) ?F
 case F=>
  intro w mg fa h KX G hmg
  refine' K32.fin hmg ⟨?q0,?q1,?q2,?q3,?q4,?q5,?q6,?q7,?q8,?q9,?q10,?q11,?q12,?q13,?q14,?q15,?q16,?q17,?q18,?q19,?q20,?q21,?q22,?q23,?q24,?q25,?q26,?q27,?q28,?q29,?q30,?q31,?q32,?q33,?q34,?q35,?q36,?q37,?q38,?q39,?q40,?q41,?q42,?q43,?q44,?q45,?q46,?q47,?q48,?q49,?q50,?q51,?q52,?q53,?q54,?q55,?q56,?q57,?q58,?q59,?q60,?q61,?q62,?q63,?q64,?q65,?q66,?q67,?q68,?q69,?q70,?q71,?q72,?q73,?q74,?q75,?q76,?q77,?q78,?q79,?q80,?q81,?q82,?q83,?q84,?q85,?q86,?q87,?q88,?q89,?q90,?q91,?q92,?q93,?q94,?q95,?q96,?q97,?q98,?q99,?q100,?q101,?q102,?q103,?q104,?q105,?q106,?q107,?q108,?q109,?q110,?q111,?q112,?q113,?q114⟩
  all_goals try dsimp only
  (case q0 | q1 | q2 | q3 | q4 | q5 | q6 | q7 | q8 | q9 | q10=>refine' ⟨mg_of KX G ?_,⟨?_,?_,?_,?_⟩,?_,?_,⟨?_,?_,?_,?_,?_,?_,trivial⟩,⟨?_,?_,?_,?_,trivial⟩⟩ <;> (try dsimp only) <;> k_is)
  (case q11=>refine' ⟨mg_of KX G ?_,⟨?_,?_,?_,?_⟩,?_,?_,⟨?_,?_,?_,?_,?_,?_,?_,?_,trivial⟩,⟨?_,?_,?_,?_,?_,trivial⟩⟩ <;> (try dsimp only) <;> k_is)
  (case q12=>refine' ⟨mg_of KX G ?_,⟨?_,?_,?_,?_⟩,?_,?_,⟨?_,?_,?_,?_,?_,?_,?_,?_,trivial⟩,⟨?_,?_,?_,?_,?_,?_,trivial⟩⟩ <;> (try dsimp only) <;> k_is)
  (case q13 | q14=>refine' .of (mg_of KX G ?_) (eX.of ?_ ?_ ?_ ?_ (fun _ _ _ _ _ _=>Av fun _=>rfl)) <;> (try k_is);all_goals try k_is)
  (case q15=>refine' eX.of ?_ ?_ ?_ ?_ (fun _ _ _ _ _ _=>Ua fun _ _ _ _ _=>rfl) <;> try k_is)
  (case q16 | q17 | q18 | q19 | q20 | q21 | q22 | q23 | q24 | q25 | q26=>refine' eX.of ?_ ?_ ?_ ?_ (fun _ _ _ _ _ _=>Av fun _=>rfl) <;> try k_is)
  (case q27=>refine' .of (mg_of KX G ?_) (eX.of ?_ ?_ ?_ ?_ (fun _ _ _ _ _ _=>Av fun _=>rfl)) <;> (try k_is);all_goals try k_is)
  (case q28 | q29 | q30=>refine' .of (mg_of KX G ?_) (eX.of ?_ ?_ ?_ ?_ (fun _ _ _ _ _ _=>Ua fun _ _ _ _ _=>rfl)) <;> (try k_is);all_goals try k_is)
  (case q31=>refine' .of (mg_of KX G ?_) (eX.of ?_ ?_ ?_ ?_ (fun _ _ _ _ _ _=>Av fun _=>rfl)) <;> (try k_is);all_goals try k_is)
  (case q32 | q33 | q34=>refine' eX.of ?_ ?_ ?_ ?_ (fun _ _ _ _ _ _=>Ar fun _ _=>rfl) <;> try k_is)
  (case q35 | q36=>refine' eX.of ?_ ?_ ?_ ?_ (fun _ _ _ _ _ _=>Av fun _=>rfl) <;> try k_is)
  (case q37 | q38 | q39 | q40 | q41 | q42 | q43 | q44 | q45 | q46 | q47=>refine' eX.of ?_ ?_ ?_ ?_ (fun _ _ _ _ _ _=>Et fun _ _ _=>rfl) <;> try k_is)
  (case q48 | q49 | q50 | q51=>refine' .of (mg_of KX G ?_) (eX.of ?_ ?_ ?_ ?_ (fun _ _ _ _ _ _=>Ar fun _ _=>rfl)) <;> (try k_is);all_goals try k_is)
  (case q52=>refine' .of (mg_of KX G ?_) (eX.of ?_ ?_ ?_ ?_ (fun _ _ _ _ _ _=>Et fun _ _ _=>rfl)) <;> (try k_is);all_goals try k_is)
  (case q53=>refine' .of (mg_of KX G ?_) (eX.of ?_ ?_ ?_ ?_ (fun _ _ _ _ _ _=>Ar fun _ _=>rfl)) <;> (try k_is);all_goals try k_is)
  (case q54=>refine' .of (mg_of KX G ?_) (eX.of ?_ ?_ ?_ ?_ (fun _ _ _ _ _ _=>Wa fun _ _ _ _ _ _=>rfl)) <;> (try k_is);all_goals try k_is)
  (case q55=>refine' .of (mg_of KX G ?_) (eX.of ?_ ?_ ?_ ?_ (fun _ _ _ _ _ _=>RK fun _ _ _ _=>rfl)) <;> (try k_is);all_goals try k_is)
  (case q56 | q57 | q58=>refine' .of (mg_of KX G ?_) (eX.of ?_ ?_ ?_ ?_ (fun _ _ _ _ _ _=>Et fun _ _ _=>rfl)) <;> (try k_is);all_goals try k_is)
  (case q59=>refine' .of (mg_of KX G ?_) (eX.of ?_ ?_ ?_ ?_ (fun _ _ _ _ _ _=>RK fun _ _ _ _=>rfl)) <;> (try k_is);all_goals try k_is)
  (case q60=>refine' .of (mg_of KX G ?_) (eX.of ?_ ?_ ?_ ?_ (fun _ _ _ _ _ _=>Av fun _=>rfl)) <;> (try k_is);all_goals try k_is)
  (case q61 | q62=>refine' .of (mg_of KX G ?_) (eX.of ?_ ?_ ?_ ?_ (fun _ _ _ _ _ _=>Ar fun _ _=>rfl)) <;> (try k_is);all_goals try k_is)
  (case q63=>refine' .of (mg_of KX G ?_) (eX.of ?_ ?_ ?_ ?_ (fun _ _ _ _ _ _=>Et fun _ _ _=>rfl)) <;> (try k_is);all_goals try k_is)
  (case q64=>refine' .of (mg_of KX G ?_) (eX.of ?_ ?_ ?_ ?_ (fun _ _ _ _ _ _=>Ar fun _ _=>rfl)) <;> (try k_is);all_goals try k_is)
  (case q65=>refine' .of (mg_of KX G ?_) (eX.of ?_ ?_ ?_ ?_ (fun _ _ _ _ _ _=>RK fun _ _ _ _=>rfl)) <;> (try k_is);all_goals try k_is)
  (case q66 | q67 | q68=>refine' .of (mg_of KX G ?_) (eX.of ?_ ?_ ?_ ?_ (fun _ _ _ _ _ _=>Et fun _ _ _=>rfl)) <;> (try k_is);all_goals try k_is)
  (case q69 | q70=>refine' eX.of ?_ ?_ ?_ ?_ (fun _ _ _ _ _ _=>Av fun _=>rfl) <;> try k_is)
  (case q71=>refine' eX.of ?_ ?_ ?_ ?_ (fun _ _ _ _ _ _=>Ar fun _ _=>rfl) <;> try k_is)
  (case q72=>refine' eX.of ?_ ?_ ?_ ?_ (fun _ _ _ _ _ _=>Av fun _=>rfl) <;> try k_is)
  (case q73 | q74 | q75=>refine' eX.of ?_ ?_ ?_ ?_ (fun _ _ _ _ _ _=>Ar fun _ _=>rfl) <;> try k_is)
  (case q76=>refine' eX.of ?_ ?_ ?_ ?_ (fun _ _ _ _ _ _=>Et fun _ _ _=>rfl) <;> try k_is)
  (case q77 | q78 | q79 | q80 | q81 | q82=>refine' eX.of ?_ ?_ ?_ ?_ (fun _ _ _ _ _ _=>Ar fun _ _=>rfl) <;> try k_is)
  (case q83 | q84=>refine' eX.of ?_ ?_ ?_ ?_ (fun _ _ _ _ _ _=>Et fun _ _ _=>rfl) <;> try k_is)
  (case q85=>refine' .of (mg_of KX G ?_) (eX.of ?_ ?_ ?_ ?_ (fun _ _ _ _ _ _=>Av fun _=>rfl)) <;> (try k_is);all_goals try k_is)
  (case q86=>refine' .of (mg_of KX G ?_) (eX.of ?_ ?_ ?_ ?_ (fun _ _ _ _ _ _=>Ar fun _ _=>rfl)) <;> (try k_is);all_goals try k_is)
  (case q87 | q88 | q89=>refine' .of (mg_of KX G ?_) (eX.of ?_ ?_ ?_ ?_ (fun _ _ _ _ _ _=>Et fun _ _ _=>rfl)) <;> (try k_is);all_goals try k_is)
  (case q90=>refine' .of (mg_of KX G ?_) (eX.of ?_ ?_ ?_ ?_ (fun _ _ _ _ _ _=>Ar fun _ _=>rfl)) <;> (try k_is);all_goals try k_is)
  (case q91=>refine' .of (mg_of KX G ?_) (eX.of ?_ ?_ ?_ ?_ (fun _ _ _ _ _ _=>Et fun _ _ _=>rfl)) <;> (try k_is);all_goals try k_is)
  (case q92=>refine' .of (mg_of KX G ?_) (eX.of ?_ ?_ ?_ ?_ (fun _ _ _ _ _ _=>Av fun _=>rfl)) <;> (try k_is);all_goals try k_is)
  (case q93=>refine' mg_of KX G ?_;k_is)
  (case q94=>
   refine' L2.KTab.mk' ?lk ?c1 ?c2 ?c3 ?c4 ?sm ?rows ?nd
   (case lk=>k_is)
   (case c1=>exact rfl)
   (case c2=>exact rfl)
   (case c3=>exact rfl)
   (case c4=>exact rfl)
   (case sm=>exact rfl)
   (case nd=>decide +kernel)
   (case rows=>
    refine' L2.jg.cons ?hh0 ?lk0 ?cc0 ?dd0 ?vv0 ?zz0 ?rest0
    (case hh0=>exact rfl)
    (case lk0=>k_is)
    (case cc0=>exact rfl)
    (case dd0=>exact rfl)
    (case vv0=>exact .cons ⟨_,rfl⟩ (.cons ⟨_,rfl⟩ (.cons ⟨_,rfl⟩ .nil)))
    (case zz0=>decide)
    refine' L2.jg.cons ?hh1 ?lk1 ?cc1 ?dd1 ?vv1 ?zz1 ?rest1
    (case hh1=>exact rfl)
    (case lk1=>k_is)
    (case cc1=>exact rfl)
    (case dd1=>exact rfl)
    (case vv1=>exact .cons ⟨_,rfl⟩ (.cons ⟨_,rfl⟩ (.cons ⟨_,rfl⟩ .nil)))
    (case zz1=>decide)
    refine' L2.jg.cons ?hh2 ?lk2 ?cc2 ?dd2 ?vv2 ?zz2 ?rest2
    (case hh2=>exact rfl)
    (case lk2=>k_is)
    (case cc2=>exact rfl)
    (case dd2=>exact rfl)
    (case vv2=>exact .cons ⟨_,rfl⟩ (.cons ⟨_,rfl⟩ (.cons ⟨_,rfl⟩ .nil)))
    (case zz2=>decide)
    refine' L2.jg.cons ?hh3 ?lk3 ?cc3 ?dd3 ?vv3 ?zz3 ?rest3
    (case hh3=>exact rfl)
    (case lk3=>k_is)
    (case cc3=>exact rfl)
    (case dd3=>exact rfl)
    (case vv3=>exact .cons ⟨_,rfl⟩ (.cons ⟨_,rfl⟩ (.cons ⟨_,rfl⟩ .nil)))
    (case zz3=>decide)
    refine' L2.jg.cons ?hh4 ?lk4 ?cc4 ?dd4 ?vv4 ?zz4 ?rest4
    (case hh4=>exact rfl)
    (case lk4=>k_is)
    (case cc4=>exact rfl)
    (case dd4=>exact rfl)
    (case vv4=>exact .cons ⟨_,rfl⟩ (.cons ⟨_,rfl⟩ (.cons ⟨_,rfl⟩ .nil)))
    (case zz4=>decide)
    refine' L2.jg.cons ?hh5 ?lk5 ?cc5 ?dd5 ?vv5 ?zz5 ?rest5
    (case hh5=>exact rfl)
    (case lk5=>k_is)
    (case cc5=>exact rfl)
    (case dd5=>exact rfl)
    (case vv5=>exact .cons ⟨_,rfl⟩ (.cons ⟨_,rfl⟩ (.cons ⟨_,rfl⟩ .nil)))
    (case zz5=>decide)
    refine' L2.jg.cons ?hh6 ?lk6 ?cc6 ?dd6 ?vv6 ?zz6 ?rest6
    (case hh6=>exact rfl)
    (case lk6=>k_is)
    (case cc6=>exact rfl)
    (case dd6=>exact rfl)
    (case vv6=>exact .cons ⟨_,rfl⟩ (.cons ⟨_,rfl⟩ (.cons ⟨_,rfl⟩ .nil)))
    (case zz6=>decide)
    refine' L2.jg.cons ?hh7 ?lk7 ?cc7 ?dd7 ?vv7 ?zz7 ?rest7
    (case hh7=>exact rfl)
    (case lk7=>k_is)
    (case cc7=>exact rfl)
    (case dd7=>exact rfl)
    (case vv7=>exact .cons ⟨_,rfl⟩ (.cons ⟨_,rfl⟩ (.cons ⟨_,rfl⟩ .nil)))
    (case zz7=>decide)
    refine' L2.jg.cons ?hh8 ?lk8 ?cc8 ?dd8 ?vv8 ?zz8 ?rest8
    (case hh8=>exact rfl)
    (case lk8=>k_is)
    (case cc8=>exact rfl)
    (case dd8=>exact rfl)
    (case vv8=>exact .cons ⟨_,rfl⟩ (.cons ⟨_,rfl⟩ (.cons ⟨_,rfl⟩ .nil)))
    (case zz8=>decide)
    refine' L2.jg.cons ?hh9 ?lk9 ?cc9 ?dd9 ?vv9 ?zz9 ?rest9
    (case hh9=>exact rfl)
    (case lk9=>k_is)
    (case cc9=>exact rfl)
    (case dd9=>exact rfl)
    (case vv9=>exact .cons ⟨_,rfl⟩ (.cons ⟨_,rfl⟩ (.cons ⟨_,rfl⟩ .nil)))
    (case zz9=>decide)
    refine' L2.jg.cons ?hh10 ?lk10 ?cc10 ?dd10 ?vv10 ?zz10 ?rest10
    (case hh10=>exact rfl)
    (case lk10=>k_is)
    (case cc10=>exact rfl)
    (case dd10=>exact rfl)
    (case vv10=>exact .cons ⟨_,rfl⟩ (.cons ⟨_,rfl⟩ (.cons ⟨_,rfl⟩ .nil)))
    (case zz10=>decide)
    exact .nil))
  (case q95 | q96 | q97 | q98 | q99 | q100 | q101 | q102 | q103 | q104 | q105=>refine' mg_none_of KX G ?_;k_is)
  (case q106 | q107 | q108 | q109 | q110 | q111 | q112 | q113 | q114=>refine' gC (mg_of KX G ?_) ?_ <;> (try k_is);all_goals exact⟨_,rfl⟩)
