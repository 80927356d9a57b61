import PyProof.Rows.All
import Wide.All
import OpenK.AllK
import Wide.FinOn
import Lean
import PyProof.EqAt
import PyProof.EqKinds
import PyProof.TupleCall
import PyProof.StrLawsChain
import PyProof.StrLawsOccR
import PyProof.StrLawsReplace
import PyProof.NeKinds
import PyProof.EnumStmt
import PyProof.EnumMake
import PyProof.ListRange
import PyProof.StationsW
import PyProof.ExcClass2
import PyProof.ExcInit
import PyProof.InstStoreFacts
import OpenK.KRaise
import PyProof.NsDelKeeps
import PyProof.RulesAs
import PyProof.Rows.Catch
import OpenK.KOwn
import PyProof.ExcArgsOwn
import PyProof.ExcAttrAll.ValueError
import PyProof.IsiBase
import PyProof.MaxThree
import PyProof.SeqI3
import KE.KIsAll
import KE.IntTextLaws
import PyProof.StrLawsIdx
import PyProof.FitsInt
import PySem.Challenge.RW_holdlane_k63_whole_a_ring_stops_ranks_go
set_option Elab.async false
set_option linter.all false
set_option maxRecDepth 100000
namespace L2
open PySem PySem.Spec PyProof.Rows
noncomputable abbrev Key:=Sum Int Str
noncomputable def Gq:Key->Value->Bool
 | .inl k,v=>Value.isInt k v
 | .inr x,v=>Value.isStrOf x v
noncomputable def ZV (w:World):Key->Int
 | .inl k=>hashInt k
 | .inr x=>hashStr w x
theorem eO:∀{k:Key} {v:Value},Gq k v=true->(∃i t,k=Sum.inl i/\v=Value.int i t)∨(∃x t,k=Sum.inr x/\v=Value.str x t)
 | .inl i,v,h=>by
  obtain⟨t,e⟩:=Value.isInt_shape (k:=i) (v:=v) h
  exact .inl ⟨i,t,rfl,e⟩
 | .inr x,v,h=>by
  obtain⟨t,e⟩:=Value.isStrOf_shape (x:=x) (v:=v) h
  exact .inr ⟨x,t,rfl,e⟩
theorem Ob (i:Int) (t:Tok):Gq (.inl i) (.int i t)=true:=by simp [Gq,Value.isInt]
theorem Ol (x:Str) (t:Tok):Gq (.inr x) (.str x t)=true:=by simp [Gq,Value.isStrOf]
theorem WT (a b:Int):decide ((Sum.inl a:Key)=Sum.inl b)=(a == b):=by
 by_cases e:a=b
 ·subst e;simp
 ·have h:¬(Sum.inl a:Key)=Sum.inl b:=fun q=>e (Sum.inl.inj q)
  rw [decide_eq_false h]
  exact(beq_eq_false_iff_ne.mpr e).symm
theorem Ww (a b:Str):decide ((Sum.inr a:Key)=Sum.inr b)=decide (a=b):=by
 by_cases e:a=b
 ·subst e;simp
 ·have h:¬(Sum.inr a:Key)=Sum.inr b:=fun q=>e (Sum.inr.inj q)
  rw [decide_eq_false h,decide_eq_false e]
theorem Wx (a:Int) (b:Str):decide ((Sum.inl a:Key)=Sum.inr b)=false:=decide_eq_false (fun q=>nomatch q)
theorem Xb (a:Str) (b:Int):decide ((Sum.inr a:Key)=Sum.inl b)=false:=decide_eq_false (fun q=>nomatch q)
noncomputable def cJ (prog:Program) (w:World):PySem.KeyKind prog w Key where
 is:=Gq
 hash:=ZV w
 inj:=fun v a b ha hb=>by
  rcases eO ha with ⟨i,t,rfl,rfl⟩ | ⟨x,t,rfl,rfl⟩
  ·rcases eO hb with ⟨j,u,rfl,e⟩ | ⟨y,u,rfl,e⟩
   ·injection e with e1 _;rw [e1]
   ·exact nomatch e
  ·rcases eO hb with ⟨j,u,rfl,e⟩ | ⟨y,u,rfl,e⟩
   ·exact nomatch e
   ·injection e with e1 _;rw [e1]
 byValue:=fun k v h=>by
  rcases eO h with ⟨i,t,rfl,rfl⟩ | ⟨x,t,rfl,rfl⟩ <;> rfl
 pyHash:=fun hv h=>by
  rcases eO hv with ⟨i,t,rfl,rfl⟩ | ⟨x,t,rfl,rfl⟩
  ·exact wpAny_pyHash_int h
  ·exact wpAny_pyHash_str h
 eqBool:=fun hu hv h=>by
  rcases eO hu with ⟨i,t,rfl,rfl⟩ | ⟨x,t,rfl,rfl⟩
  ·rcases eO hv with ⟨j,u,rfl,rfl⟩ | ⟨y,u,rfl,rfl⟩
   ·rw [WT] at h;exact wpAny_eqBool_int h
   ·rw [Wx] at h;exact SeqAt.EqAt.int_str i t y u _ _ _ _ h
  ·rcases eO hv with ⟨j,u,rfl,rfl⟩ | ⟨y,u,rfl,rfl⟩
   ·rw [Xb] at h;exact SeqAt.EqAt.str_int x t j u _ _ _ _ h
   ·rw [Ww] at h;exact wpAny_eqBool_str h
 «strs» :=fun k x t v h=>by
  rcases eO h with ⟨i,u,rfl,e⟩ | ⟨y,u,rfl,e⟩
  ·exact nomatch e
  ·injection e with e1 _
   subst e1
   cases v <;> rfl
theorem Jw (prog:Program) (w:World) (i:Int) (t:Tok):(cJ prog w).is (.inl i) (.int i t)=true:=Ob i t
theorem lG (prog:Program) (w:World) (x:Str) (t:Tok):(cJ prog w).is (.inr x) (.str x t)=true:=Ol x t
inductive V where
 | non | bl (b:Bool) | int (i:Int) | str (x:Str) | byt (b:Array UInt8) | flt (b:UInt64) | ref (a:Addr) | ty (n:String)
 deriving DecidableEq
noncomputable def RelV:V->Value->Prop
 | .non,u=>u=Value.none
 | .bl b,u=>u=Value.bool b
 | .int i,u=>∃t,u=Value.int i t
 | .str x,u=>∃t,u=Value.str x t
 | .byt b,u=>∃t,u=Value.bytes b t
 | .flt b,u=>∃t,u=Value.float b t
 | .ref a,u=>u=Value.ref a
 | .ty n,u=>u=Value.type n
noncomputable abbrev Vals:List V->List Value->Prop:=Paired RelV
theorem Vals.length {xs:List V} {us:List Value} (r:Vals xs us):xs.length=us.length:=Paired.length r
theorem Vals.get:∀{xs:List V} {us:List Value} {i:Nat} {x:V},Vals xs us->xs[i]?=some x->∃u,us[i]?=some u/\RelV x u
 | _,_,_,_,.nil,e=>by simp at e
 | _,_,0,_,.cons r _,e=>by simp at e;subst e;exact⟨_,rfl,r⟩
 | _,_,i+1,x,.cons _ t,e=>by
  obtain⟨u,h1,h2⟩:=Vals.get (i:=i) (x:=x) t (by simpa using e)
  exact⟨u,by simpa using h1,h2⟩
theorem Vals.append:∀{xs ys:List V} {us ws:List Value},Vals xs us->Vals ys ws->Vals (xs ++ ys) (us ++ ws)
 | _,_,_,_,.nil,s=>s
 | _,_,_,_,.cons r t,s=>.cons r (Vals.append t s)
theorem Vals.take:∀{xs:List V} {us:List Value} (n:Nat),Vals xs us->Vals (xs.take n) (us.take n)
 | _,_,0,_=>.nil
 | _,_,_+1,.nil=>.nil
 | _,_,n+1,.cons r t=>.cons r (Vals.take n t)
theorem Vals.drop:∀{xs:List V} {us:List Value} (n:Nat),Vals xs us->Vals (xs.drop n) (us.drop n)
 | _,_,0,r=>r
 | _,_,_+1,.nil=>.nil
 | _,_,n+1,.cons _ t=>Vals.drop n t
noncomputable def sV:Option V->Option Value->Prop
 | some v,some u=>RelV v u
 | none,none=>True
 | _,_=>False
noncomputable def KV {κ:Type}:List (κ×V)->List (κ×Value)->Prop:=Paired fun(p:κ×V) (q:κ×Value)=>p.1=q.1/\RelV p.2 q.2
noncomputable def kV:Key->V
 | .inl i=>.int i
 | .inr x=>.str x
inductive HO where
  | lst (xs:List V)
  | tup (xs:List V)
  | dK (kvs:List (Key×V)) | dT (kvs:List (List Key×V))
  | set (S:Int->Bool) (n:Nat)
  | ins (C dx:Addr) (fs:List (Str×V))
  | own (x:Addr)
  | xd (fs:List (Str×V))
  | met (f x:Addr)
  | rng (lo hi:Int)
  | frz (o:Obj) (u:HO)
  | tbl (ps:Array Value)
  | ext (φ:Heap->Prop)
noncomputable abbrev Hp:=Addr->Option HO
noncomputable def upd (H:Hp) (a:Addr) (o:HO):Hp:=fun b=>if b=a then some o else H b
theorem aq {H:Hp} {a:Addr} {o:HO}:upd H a o a=some o:=by unfold upd;rw [if_pos rfl]
theorem aK {H:Hp} {a b:Addr} {o:HO} (h:b≠a):upd H a o b=H b:=by unfold upd;rw [if_neg h]
theorem pQ {H:Hp} {a:Addr} {o u:HO}:upd (upd H a o) a u=upd H a u:=by
 funext b;unfold upd;split <;> rfl
theorem qM {H:Hp} {a b:Addr} {o u:HO} (h:H a=some o) (h':H b=some u) (d:o≠u):a≠b:=by
 intro e;subst e;rw [h] at h';exact d (Option.some.inj h')
theorem aD {H:Hp} {a b:Addr} {o:HO} (h:H a=some o) (h':H b=none):a≠b:=by
 intro e;subst e;rw [h] at h';cases h'
section
variable (P:Program) (w:World)
noncomputable def fP (H:Hp) (h:Heap) (a:Addr):HO->Prop
 | .lst xs=>xs.length<=sizeLine/\∃(its:List Value) (n:Nat),Vals xs its/\h.get? a=some { cls:=.type "list",data:=.seq its.toArray n }
 | .tup xs=>xs.length<=sizeLine/\∃its:List Value,Vals xs its/\IsTup h a its.toArray
 | .dK kvs=>kvs.length<=sizeLine/\(a == sysModules)=false/\∃vs,KV kvs vs/\h.DictOf (cJ P w) a vs
 | .dT kvs=>kvs.length<=sizeLine/\(a == sysModules)=false/\∃xs:List (List Key×Addr×Value),
   Paired (fun(p:List Key×V) (q:List Key×Addr×Value)=>p.1=q.1/\H q.2.1=some (.tup (p.1.map kV))/\RelV p.2 q.2.2) kvs xs/\
   ∃o es ep,h.get? a=some o/\o.ExactDict/\o.data=.dict es ep/\es.toList=xs.map (entryOfKey (tupleKind (cJ P w)))/\(xs.map (·.1)).Nodup
 | .set S n=>h.SetOf (intKind P w) a S n
 | .ins C dx fs=>H dx=some (.own a)/\fs.length<=1000/\dx≠a/\h.get? a=some (PySem.W.instObj C dx)/\
   ∃mA,h.Ns1 dx mA/\(∀f,sV (fs.lookup f) (mA f))/\PySem.Within mA (fs.map (·.1))
 | .own _=>∃o,h.get? a=some o
 | .xd fs=>∃mA,h.Ns1 a mA/\∀f,sV (fs.lookup f) (mA f)
 | .rng lo hi=>∃t u v,h.get? a=some { cls:=.type "range",data:=.fields #[.int lo t,.int hi u,.int 1 v] }
 | .frz o u=>h.get? a=some o/\fP H h a u
 | .tbl ps=>h.get? a=some { cls:=.none,data:=.fields ps }
 | .met f x=>h.get? a=some (PySem.W.methodObj (.ref f) (.ref x))
 | .ext φ=>φ h/\(∃o,h.get? a=some o)/\∀h1 h2:Heap,φ h1->(∀o,h1.get? a=some o->h2.get? a=some o)->φ h2
noncomputable def uX (H:Hp) (h:Heap):Prop:=∀a o,H a=some o->fP P w H h a o
end
section
variable {P:Program} {w:World} {H H':Hp} {h h':Heap} {a:Addr} {o:HO}
theorem fP.lt (x:fP P w H h a o):a <h.objs.size:=by
 cases o with
 | lst xs=>obtain⟨_,_,_,_,e⟩:=x;exact Heap.lt_size e
 | tup xs=>obtain⟨_,_,_,p⟩:=x;exact p.lt
 | dK kvs=>obtain⟨_,_,_,_,o,_,_,e,_⟩:=x;exact Heap.lt_size e
 | dT kvs=>obtain⟨_,_,_,_,o,_,_,e,_⟩:=x;exact Heap.lt_size e
 | set S n=>obtain⟨o,_,_,_,e,_⟩:=x;exact Heap.lt_size e
 | ins C dx fs=>obtain⟨_,_,_,e,_⟩:=x;exact Heap.lt_size e
 | own y=>obtain⟨_,e⟩:=x;exact Heap.lt_size e
 | xd fs=>obtain⟨_,⟨_,_,_,e,_⟩,_⟩:=x;exact Heap.lt_size e
 | rng lo hi=>obtain⟨_,_,_,e⟩:=x;exact Heap.lt_size e
 | frz ob u=>obtain⟨e,_⟩:=x;exact Heap.lt_size e
 | tbl ps=>exact Heap.lt_size (show h.get? a=some _ from x)
 | met f y=>exact Heap.lt_size (show h.get? a=some _ from x)
 | ext φ=>obtain⟨_,⟨_,e⟩,_⟩:=x;exact Heap.lt_size e
theorem Paired.mapP {α β:Type} {F G:α->β->Prop}:∀{l₁:List α} {l₂:List β},Paired F l₁ l₂->(∀a b,F a b->G a b)->Paired G l₁ l₂
 | _,_,.nil,_=>.nil
 | _,_,.cons r t,f=>.cons (f _ _ r) (Paired.mapP t f)
theorem fP.stay (x:fP P w H h a o) (k:∀b u,(b=a∨H b=some (.own a))->h.get? b=some u->h'.get? b=some u)
  (ho:∀b,H b=some (.own a)->H' b=some (.own a)) (ht:∀b xs,H b=some (.tup xs)->H' b=some (.tup xs)):fP P w H' h' a o:=by
 induction o with
 | lst xs=>obtain⟨z,its,n,r,e⟩:=x;exact⟨z,its,n,r,k _ _ (.inl rfl) e⟩
 | tup xs=>obtain⟨z,its,r,ob,e,c⟩:=x;exact⟨z,its,r,ob,k _ _ (.inl rfl) e,c⟩
 | dK kvs=>obtain⟨z,y,vs,r,ob,es,ep,e,c⟩:=x;exact⟨z,y,vs,r,ob,es,ep,k _ _ (.inl rfl) e,c⟩
 | dT kvs=>
  obtain⟨z,y,xs,r,ob,es,ep,e,c⟩:=x
  exact⟨z,y,xs,Paired.mapP r fun p q z=>⟨z.1,ht _ _ z.2.1,z.2.2⟩,ob,es,ep,k _ _ (.inl rfl) e,c⟩
 | set S n=>obtain⟨ob,es,ep,t,e,c⟩:=x;exact⟨ob,es,ep,t,k _ _ (.inl rfl) e,c⟩
 | ins C dx fs=>
  obtain⟨d,z,ne,e,mA,⟨od,es,ep,e2,c⟩,r⟩:=x
  exact⟨ho _ d,z,ne,k _ _ (.inl rfl) e,mA,⟨od,es,ep,k _ _ (.inr d) e2,c⟩,r⟩
 | own y=>obtain⟨ob,e⟩:=x;exact⟨ob,k _ _ (.inl rfl) e⟩
 | xd fs=>obtain⟨mA,⟨od,es,ep,e,c⟩,r⟩:=x;exact⟨mA,⟨od,es,ep,k _ _ (.inl rfl) e,c⟩,r⟩
 | rng lo hi=>obtain⟨t,u,v,e⟩:=x;exact⟨t,u,v,k _ _ (.inl rfl) e⟩
 | frz ob u ih=>obtain⟨e,q⟩:=x;exact⟨k _ _ (.inl rfl) e,ih q⟩
 | tbl ps=>
  have e:h.get? a=some { cls:=.none,data:=.fields ps }:=x
  show h'.get? a=some { cls:=.none,data:=.fields ps }
  exact k a _ (.inl rfl) e
 | met f y=>
  have e:h.get? a=some (PySem.W.methodObj (.ref f) (.ref y)):=x
  show h'.get? a=some (PySem.W.methodObj (.ref f) (.ref y))
  exact k a _ (.inl rfl) e
 | ext φ=>obtain⟨p,⟨o,e⟩,st⟩:=x;exact⟨st _ _ p fun o q=>k _ _ (.inl rfl) q,⟨o,k _ _ (.inl rfl) e⟩,st⟩
theorem uX.lt (x:uX P w H h) (e:H a=some o):a <h.objs.size:=(x a o e).lt
theorem uX.fresh (x:uX P w H h) (e:h.objs.size<=a):H a=none:=by
 cases q:H a with
 | none=>rfl
 | some u=>exact absurd (Nat.lt_of_lt_of_le (x.lt q) e) (Nat.lt_irrefl _)
theorem uX.kept (x:uX P w H h) (k:∀b u,h.get? b=some u->h'.get? b=some u):uX P w H h':=fun a o e=>
 (x a o e).stay (fun b u _ q=>k b u q) (fun _ q=>q) fun _ _ q=>q
theorem uX.laid (x:uX P w H h) (k:∀b u,h.get? b=some u->h'.get? b=some u) (hp:h.objs.size<=a) (new:fP P w (upd H a o) h' a o):uX P w (upd H a o) h':=fun b u e=>by
 have hn:=x.fresh hp
 by_cases hb:b=a
 ·subst hb;rw [aq] at e;cases e;exact new
 ·rw [aK hb] at e
  exact(x b u e).stay (fun c v _ q=>k c v q) (fun c q=>by rw [aK (aD q hn)];exact q) fun c xs q=>by rw [aK (aD q hn)];exact q
end
noncomputable def Rd (H:Hp) (a:Addr) (u:HO):Prop:=H a=some u∨∃o,H a=some (.frz o u)
theorem Rd.ok {P:Program} {w:World} {H:Hp} {h:Heap} {a:Addr} {u:HO} (r:Rd H a u) (x:uX P w H h):fP P w H h a u:=by
 rcases r with r | ⟨o,r⟩
 ·exact x a u r
 ·obtain⟨_,q⟩:=x a _ r
  exact q
noncomputable def Yp:Option HO->Prop
 | some (.lst _)=>True
 | some (.dK _)=>True
 | some (.dT _)=>True
 | some (.set _ _)=>True
 | some (.ins _ _ _)=>True
 | some (.ext _)=>True
 | _=>False
section
variable {P:Program} {w:World} {H:Hp} {h h':Heap} {x e:Addr} {o':HO}
theorem uX.write (ok:uX P w H h) (mu:Yp (H x)) (he:e=x∨H e=some (.own x)) (k:∀b u,b≠e->h.get? b=some u->h'.get? b=some u) (heo:∃u,h'.get? e=some u)
  (new:fP P w (upd H x o') h' x o'):uX P w (upd H x o') h':=fun b u q=>by
 have nown:∀c y,H c=some (.own y)->c≠x:=fun c y r z=>by subst z;rw [r] at mu;exact mu
 have ntup:∀c xs,H c=some (.tup xs)->c≠x:=fun c xs r z=>by subst z;rw [r] at mu;exact mu
 by_cases hb:b=x
 ·subst hb;rw [aq] at q;cases q;exact new
 ·rw [aK hb] at q
  by_cases hbe:b=e
  ·have q':H b=some (.own x):=by
    rcases he with z | z
    ·exact absurd (hbe.trans z) hb
    ·rw [hbe];exact z
   rw [q] at q';cases q'
   obtain⟨v,hv⟩:=heo
   exact⟨v,by rw [hbe];exact hv⟩
  ·refine(ok b u q).stay (fun c v hc r=>k c v ?_ r) (fun c r=>by rw [aK (nown c b r)];exact r) fun c xs r=>by rw [aK (ntup c xs r)];exact r
   rcases hc with rfl | hc
   ·exact hbe
   ·rintro rfl
    rcases he with z | z
    ·exact nown c b hc z
    ·rw [hc] at z;cases z;exact hb rfl
end
structure Un (fs ex:List Addr) (H H':Hp) (h h':Heap):Prop where
 keep:∀b o,h.get? b=some o->H b=none->b∉fs->b∉ex->h'.get? b=some o
 slot:∀b o,h.get? b=some o->H b=none->b∈fs->b∉ex->∃sl,h'.get? b=some { o with slots:=sl }
 free:∀b o,h.get? b=some o->H b=none->b∉ex->H' b=none
 there:∀b o,h.get? b=some o->b∉ex->∃o',h'.get? b=some o'
 tups:∀b xs,H b=some (.tup xs)->H' b=some (.tup xs)
 frzs:∀b o u,H b=some (.frz o u)->H' b=some (.frz o u)
 tbls:∀b ps,H b=some (.tbl ps)->∃more,H' b=some (.tbl (ps ++ more))
section
variable {fs fs' ex ex':List Addr} {H H1 H2:Hp} {h h1 h2 h':Heap} {a x e:Addr} {o:HO}
theorem Un.any (u:Un fs ex H H1 h h1) {b:Addr} {ob:Obj} (q:h.get? b=some ob) (n:H b=none) (hx:b∉ex):∃sl,h1.get? b=some { ob with slots:=sl }:=by
 by_cases hb:b∈fs
 ·exact u.slot b ob q n hb hx
 ·exact⟨ob.slots,u.keep b ob q n hb hx⟩
theorem Un.kept (k:∀b u,h.get? b=some u->h'.get? b=some u):Un fs ex H H h h':=
 ⟨fun b ob q _ _ _=>k b ob q,fun b ob q _ _ _=>⟨ob.slots,k b ob q⟩,fun _ _ _ n _=>n,fun b ob q _=>⟨ob,k b ob q⟩,fun _ _ q=>q,fun _ _ _ q=>q,fun _ ps q=>⟨#[],by rw [q];simp⟩⟩
theorem Un.refl:Un fs ex H H h h:=Un.kept fun _ _ q=>q
theorem Un.laid (k:∀b u,h.get? b=some u->h'.get? b=some u) (hp:h.objs.size<=a) (hn:H a=none):Un fs ex H (upd H a o) h h' where
 keep:=fun b u q _ _ _=>k b u q
 slot:=fun b u q _ _ _=>⟨u.slots,k b u q⟩
 free:=fun b u q n _=>by rw [aK (Nat.ne_of_lt (Nat.lt_of_lt_of_le (Heap.lt_size q) hp))];exact n
 there:=fun b u q _=>⟨u,k b u q⟩
 tups:=fun b xs q=>by rw [aK (aD q hn)];exact q
 frzs:=fun b u xs q=>by rw [aK (aD q hn)];exact q
 tbls:=fun b ps q=>⟨#[],by rw [aK (aD q hn),q];simp⟩
theorem Un.write (mu:Yp (H x)) (he:e=x∨H e=some (.own x)) (k:∀b u,b≠e->h.get? b=some u->h'.get? b=some u) (heo:∃u,h'.get? e=some u):Un fs ex H (upd H x o) h h':=by
 have hx:∀b,H b=none->b≠x:=fun b n z=>by subst z;rw [n] at mu;exact mu
 have hb:∀b,H b=none->b≠e:=fun b n z=>by
  subst z
  rcases he with r | r
  ·exact hx b n r
  ·rw [n] at r;cases r
 have hm:∀b u,H b=some u->¬Yp (some u)->b≠x:=fun b u q nm z=>by subst z;rw [q] at mu;exact nm mu
 refine⟨fun b u q n _ _=>k b u (hb b n) q,fun b u q n _ _=>⟨u.slots,k b u (hb b n) q⟩,fun b u q n _=>by rw [aK (hx b n)];exact n,fun b u q _=>?_,
  fun b xs q=>by rw [aK (hm b _ q fun z=>z)];exact q,fun b u xs q=>by rw [aK (hm b _ q fun z=>z)];exact q,fun b ps q=>⟨#[],by rw [aK (hm b _ q fun z=>z),q];simp⟩⟩
 by_cases hbe:b=e
 ·subst hbe;exact heo
 ·exact⟨u,k b u hbe q⟩
end
noncomputable def Zf (h:Heap) (H:Hp):List Addr:=(List.range h.objs.size).filter fun a=>(H a).isSome
noncomputable def Ii (h:Heap) (H:Hp):Heap:=PySem.W.hideAll h (Zf h H)
theorem Oc (h:Heap) (H:Hp):(Ii h H).objs.size=h.objs.size:=PySem.W.hideAll_size _ _
theorem Qi {h:Heap} {H:Hp} {b:Addr} {o:Obj} (e:h.get? b=some o) (n:H b=none):(Ii h H).get? b=some o:=
 PySem.W.hideAll_get _ e fun hm=>by
  have q:(H b).isSome=true:=(List.mem_filter.mp hm).2
  rw [n] at q;simp at q
theorem Vf {h:Heap} {H:Hp} {b:Addr} {o:Obj} (e:(Ii h H).get? b=some o):h.get? b=some o/\H b=none:=by
 have e':h.get? b=some o:=PySem.W.of_hideAll (Zf h H) e
 refine⟨e',?_⟩
 cases q:H b with
 | none=>rfl
 | some x=>
  have hm:b∈Zf h H:=List.mem_filter.mpr ⟨List.mem_range.mpr (Heap.lt_size e'),by simp [q]⟩
  have z:(Ii h H).get? b=none:=PySem.W.hideAll_none (Zf h H) hm
  rw [z] at e;cases e
structure Mod (K:PySem.W.Frag) (mg:Str->Option Value) (base:Heap):Prop where
 kin:K.In base
 glob:base.Ns mainGlobals mg
 blt:∃mb,base.Ns builtinsNs mb/\∀x:Str,x≠ "__name__" ->mb x=bootBuiltins x
 nolimit:base.NoLimit
structure Cx where
 prog:Program
 w:World
 K:PySem.W.Frag
 mg:Str->Option Value
 base:Heap
 A:Around
 N:List Str
 s₀:Shared
 H₀:Hp
 env:Env
 outer:List Env
 stack:List Env
 ex:List Addr
 fn:Str->Bool
 calm:Bool
 pn:List (Addr×Obj)
 xe:Value->Shared->Prop
noncomputable def frs (l:List Env):List Addr:=l.filterMap (·.frame)
noncomputable abbrev Cx.fs (X:Cx):List Addr:=frs X.outer
noncomputable def Ze (sc:Scope) (x:Str):Prop:=sc.names.lookup x=some .local∨sc.names.lookup x=some .cell∨sc.names.lookup x=some .free
noncomputable def Loc (sc:Scope) (x:Str):Prop:=sc.names.lookup x=some .local∨sc.names.lookup x=some .cell
noncomputable def Look (env:Env) (h:Heap) (m:Str->Option Value) (x:Str) (u:Value):Prop:=
 (env.kindOf x=some .local/\m x=some u)∨((env.kindOf x=some .cell∨env.kindOf x=some .free)/\∃c,env.cells.lookup x=some c/\h.IsCell c (some u))
structure Cx.Ok (X:Cx):Prop where
 mod:Mod X.K X.mg X.base
 kind:X.env.scope.kind=.function
 glob:X.env.globals=mainGlobals
 blt:X.env.builtins=builtinsNs
 above:X.s₀.heap.objs.size<=X.env.locals
 inj:∀x y c,X.env.cells.lookup x=some c->X.env.cells.lookup y=some c->x=y
 has:∀x,(X.env.kindOf x=some .cell∨X.env.kindOf x=some .free)->∃c,X.env.cells.lookup x=some c
 cab:∀x c,X.fn x=true->X.env.cells.lookup x=some c->X.s₀.heap.objs.size<=c
 hd:X.calm=true->X.A.handled=none
 frames:X.A.frames=some X.stack
 stk:X.stack=X.outer∨(X.stack=X.env:: X.outer/\X.env.frame=some X.env.locals)
 exf:∀b∈X.ex,b≠X.env.locals/\∀x c,X.env.cells.lookup x=some c->c≠b
 bs:∀b o,X.base.get? b=some o->X.s₀.heap.get? b=some o/\X.H₀ b=none
 bsz:X.base.objs.size<=X.s₀.heap.objs.size
 noex:∀b o,X.base.get? b=some o->b∉X.ex
 exfs:∀b∈X.ex,b∉X.fs
 funs:X.s₀.heap.FunFrames X.base X.outer
 frf:∀b∈X.fs,X.H₀ b=none
structure Inv (X:Cx) (pins:List (Addr×Obj)) (σ:List (Option V)) (H:Hp) (s:Shared):Prop where
 ok:X.Ok
 os:s.os=X.s₀.os
 bare:AllBare s.gens
 base:Un X.fs X.ex X.H₀ H X.s₀.heap s.heap
 loc:∃m,s.heap.Ns X.env.locals m/\∀(i:Nat) (x:Str) (v:V),X.N[i]?=some x->σ[i]?=some (some v)->Ze X.env.scope x->∃u,RelV v u/\Look X.env s.heap m x u
 cell:∀x c,X.env.cells.lookup x=some c->∃v,s.heap.IsCell c v
 free:H X.env.locals=none
 freeC:∀x c,X.env.cells.lookup x=some c->H c=none
 pin:∀p∈X.pn ++ pins,s.heap.get? p.1=some p.2/\H p.1=none/\p.1≠X.env.locals/\p.1∉X.fs/\∀v,p.2.data≠.cell v
 hok:uX X.prog X.w H s.heap
 len:σ.length=X.N.length
section
variable {X:Cx} {pins:List (Addr×Obj)} {σ:List (Option V)} {H H':Hp} {s:Shared} {h':Heap}
theorem Cx.Ok.nofr (ok:X.Ok) {b:Addr} {o:Obj} (e:X.base.get? b=some o):b∉X.fs:=fun hb=>by
 have:=(ok.funs.mem hb).1
 rw [e] at this;cases this
theorem Inv.bs (I:Inv X pins σ H s):∀b o,X.base.get? b=some o->s.heap.get? b=some o/\H b=none:=fun b o e=>
 ⟨I.base.keep b o (I.ok.bs b o e).1 (I.ok.bs b o e).2 (I.ok.nofr e) (I.ok.noex b o e),I.base.free b o (I.ok.bs b o e).1 (I.ok.bs b o e).2 (I.ok.noex b o e)⟩
theorem Inv.bk (I:Inv X pins σ H s):∀b o,X.base.get? b=some o->s.heap.get? b=some o:=fun b o e=>(I.bs b o e).1
theorem Inv.mod (I:Inv X pins σ H s):Mod X.K X.mg X.base:=I.ok.mod
theorem Inv.kIn (I:Inv X pins σ H s):X.K.In s.heap:=I.ok.mod.kin.keeps I.bk
theorem Inv.lt (I:Inv X pins σ H s):X.env.locals <s.heap.objs.size:=let ⟨_,hn,_⟩:=I.loc;hn.lt
theorem Inv.sz (I:Inv X pins σ H s):X.s₀.heap.objs.size<=s.heap.objs.size:=Nat.le_trans I.ok.above (Nat.le_of_lt I.lt)
theorem Inv.nofs (I:Inv X pins σ H s) {a:Addr} (h:s.heap.objs.size<=a):a∉X.fs:=fun hb=>by
 obtain⟨_,o,ho,_⟩:=I.ok.funs.mem hb
 exact absurd (Nat.lt_of_lt_of_le (Heap.lt_size ho) (Nat.le_trans I.sz h)) (Nat.lt_irrefl _)
theorem Inv.cne (I:Inv X pins σ H s):∀x c,X.env.cells.lookup x=some c->c≠X.env.locals:=fun x c e z=>by
 obtain⟨v,o,ho,hd⟩:=I.cell x c e
 obtain⟨m,⟨o',es,ep,ho',hd',_⟩,_⟩:=I.loc
 rw [z,ho'] at ho;cases ho;rw [hd'] at hd;cases hd
theorem Inv.funs (I:Inv X pins σ H s):s.heap.FunFrames X.base X.outer:=by
 have all:∀(l:List Env),(∀b∈frs l,b∈X.fs)->X.s₀.heap.FunFrames X.base l->s.heap.FunFrames X.base l:=by
  intro l
  induction l with
  | nil=>intro _ _;trivial
  | cons env r ih=>
   intro hs hl
   obtain⟨hk,⟨L,o,hf,hn,ho,hd⟩,hr⟩:=hl
   have hL:L∈X.fs:=hs L (by unfold frs;rw [List.filterMap_cons,hf];exact List.mem_cons_self)
   obtain⟨sl,e⟩:=I.base.slot L o ho (I.ok.frf L hL) hL fun z=>I.ok.exfs L z hL
   exact⟨hk,⟨L,_,hf,hn,e,hd⟩,ih (fun b hb=>hs b (by unfold frs;rw [List.filterMap_cons,hf];exact List.mem_cons_of_mem _ hb)) hr⟩
 exact all X.outer (fun _ hb=>hb) I.ok.funs
theorem Inv.stack (I:Inv X pins σ H s):s.heap.FunFrames X.base X.stack:=by
 rcases I.ok.stk with e | ⟨e,hf⟩
 ·rw [e];exact I.funs
 ·rw [e]
  obtain⟨m,hn,_⟩:=I.loc
  refine .cons (by rw [I.ok.kind];decide) hf hn ?_ I.funs
  exact Heap.get?_none_of_le (Nat.le_trans I.ok.bsz I.ok.above)
theorem Inv.stkSub (I:Inv X pins σ H s):∀b∈frs X.stack,b∈X.env.locals:: X.fs:=fun b hb=>by
 rcases I.ok.stk with e | ⟨e,hf⟩
 ·rw [e] at hb;exact List.mem_cons_of_mem _ hb
 ·rw [e] at hb
  unfold frs at hb
  rw [List.filterMap_cons,hf] at hb
  exact hb
theorem Inv.stkFree (I:Inv X pins σ H s):∀b∈frs X.stack,H b=none:=fun b hb=>by
 rcases List.mem_cons.mp (I.stkSub b hb) with e | hb
 ·rw [e];exact I.free
 ·obtain⟨_,o,ho,_⟩:=I.ok.funs.mem hb
  exact I.base.free b o ho (I.ok.frf b hb) fun z=>I.ok.exfs b z hb
theorem Inv.step {g':Array GenState} {t':Nat} {d':Drawn} {ch:List Addr} (I:Inv X pins σ H s)
  (hch:∀b∈ch,(b∈X.ex∨X.s₀.heap.objs.size<=b)/\b≠X.env.locals/\(∀x c,X.env.cells.lookup x=some c->c≠b)/\∀p∈X.pn ++ pins,p.1≠b)
  (keep:∀b o,b≠X.env.locals->b∉X.fs->b∉ch->s.heap.get? b=some o->H b=none->h'.get? b=some o)
  (slot:∀b o,b≠X.env.locals->b∈X.fs->b∉ch->s.heap.get? b=some o->H b=none->∃sl,h'.get? b=some { o with slots:=sl }) (free:∀b o,b∉ch->s.heap.get? b=some o->H b=none->H' b=none)
  (there:∀b o,b∉ch->s.heap.get? b=some o->∃o',h'.get? b=some o')
  (tups:∀b xs,H b=some (.tup xs)->H' b=some (.tup xs)) (frzs:∀b o u,H b=some (.frz o u)->H' b=some (.frz o u)) (tbls:∀b ps,H b=some (.tbl ps)->∃more,H' b=some (.tbl (ps ++ more)))
  (ns:∀m,s.heap.Ns X.env.locals m->h'.Ns X.env.locals m) (hok:uX X.prog X.w H' h') (hg:AllBare g'):
  Inv X pins σ H' { s with heap:=h',gens:=g',drawn:=d',toks:=t' }:=by
 have neL:∀b o,X.s₀.heap.get? b=some o->b≠X.env.locals:=fun b o e=>Nat.ne_of_lt (Nat.lt_of_lt_of_le (Heap.lt_size e) I.ok.above)
 have neC:∀b o,X.s₀.heap.get? b=some o->b∉X.ex->b∉ch:=fun b o e hx hb=>by
  rcases(hch b hb).1 with z | z
  ·exact hx z
  ·exact absurd (Nat.lt_of_lt_of_le (Heap.lt_size e) z) (Nat.lt_irrefl _)
 have cellK:∀x c,X.env.cells.lookup x=some c->∀v,s.heap.IsCell c v->h'.IsCell c v:=fun x c e v ⟨o,ho,hd⟩=>by
  have nch:c∉ch:=fun z=>(hch c z).2.2.1 x c e rfl
  by_cases hc:c∈X.fs
  ·obtain⟨sl,q⟩:=slot c o (I.cne x c e) hc nch ho (I.freeC x c e)
   exact⟨_,q,hd⟩
  ·exact⟨o,keep c o (I.cne x c e) hc nch ho (I.freeC x c e),hd⟩
 refine⟨I.ok,I.os,hg,⟨fun b o e n hb hx=>?_,fun b o e n hb hx=>?_,fun b o e n hx=>?_,fun b o e hx=>?_,fun b xs e=>tups b xs (I.base.tups b xs e),fun b o xs e=>frzs b o xs (I.base.frzs b o xs e),fun b ps e=>?_⟩,?_,fun x c e=>?_,?_,fun x c e=>?_,fun p hp=>?_,hok,I.len⟩
 ·exact keep b o (neL b o e) hb (neC b o e hx) (I.base.keep b o e n hb hx) (I.base.free b o e n hx)
 ·obtain⟨sl,e1⟩:=I.base.slot b o e n hb hx
  obtain⟨sl',e2⟩:=slot b _ (neL b o e) hb (neC b o e hx) e1 (I.base.free b o e n hx)
  exact⟨sl',e2⟩
 ·obtain⟨o',e1⟩:=I.base.there b o e hx
  exact free b o' (neC b o e hx) e1 (I.base.free b o e n hx)
 ·obtain⟨o',e1⟩:=I.base.there b o e hx
  exact there b o' (neC b o e hx) e1
 ·obtain⟨m1,e1⟩:=I.base.tbls b ps e
  obtain⟨m2,e2⟩:=tbls b _ e1
  exact⟨m1 ++ m2,by rw [e2,Array.append_assoc]⟩
 ·obtain⟨m,hn,hl⟩:=I.loc
  refine⟨m,ns m hn,fun i x v e1 e2 e3=>?_⟩
  obtain⟨u,r,l⟩:=hl i x v e1 e2 e3
  refine⟨u,r,?_⟩
  rcases l with l | ⟨k,c,e,z⟩
  ·exact .inl l
  ·exact .inr ⟨k,c,e,cellK x c e _ z⟩
 ·obtain⟨v,z⟩:=I.cell x c e
  exact⟨v,cellK x c e v z⟩
 ·obtain⟨m,⟨o,_,_,ho,_⟩,_⟩:=I.loc
  exact free _ o (fun z=>(hch _ z).2.1 rfl) ho I.free
 ·obtain⟨v,o,ho,hd⟩:=I.cell x c e
  exact free c o (fun z=>(hch c z).2.2.1 x c e rfl) ho (I.freeC x c e)
 ·obtain⟨e,n,ne,nf,d⟩:=I.pin p hp
  have nch:p.1∉ch:=fun z=>(hch p.1 z).2.2.2 p hp rfl
  exact⟨keep p.1 p.2 ne nf nch e n,free p.1 p.2 nch e n,ne,nf,d⟩
theorem Inv.un {t':Nat} (I:Inv X pins σ H s) (u:Un X.fs [] H H' s.heap h') (hok:uX X.prog X.w H' h'):Inv X pins σ H' { s with heap:=h',toks:=t' }:=by
 obtain⟨m,⟨o,es,ep,ho,r⟩,_⟩:=id I.loc
 obtain⟨sl,hL⟩:=u.any ho I.free (by simp)
 exact I.step (g':=s.gens) (d':=s.drawn) (ch:=[]) (fun _ z=>nomatch z) (fun b o _ hb _ e n=>u.keep b o e n hb (by simp)) (fun b o _ hb _ e n=>u.slot b o e n hb (by simp)) (fun b o _ e n=>u.free b o e n (by simp)) (fun b o _ e=>u.there b o e (by simp)) u.tups u.frzs u.tbls (fun m' hm=>by
  obtain⟨o',es',ep',ho',r'⟩:=hm
  rw [ho] at ho';cases ho'
  exact⟨_,es',ep',hL,r'⟩) hok I.bare
theorem Inv.call {g':Array GenState} {t':Nat} {d':Drawn} {ch:List Addr} (I:Inv X pins σ H s) (u:Un (frs X.stack) ch H H' s.heap h') (hok:uX X.prog X.w H' h') (hg:AllBare g')
  (hch:∀b∈ch,(b∈X.ex∨X.s₀.heap.objs.size<=b)/\b≠X.env.locals/\(∀x c,X.env.cells.lookup x=some c->c≠b)/\∀p∈X.pn ++ pins,p.1≠b):
  Inv X pins σ H' { s with heap:=h',gens:=g',drawn:=d',toks:=t' }:=by
 obtain⟨m,⟨o,es,ep,ho,r⟩,_⟩:=id I.loc
 obtain⟨sl,hL⟩:=u.any ho I.free fun z=>(hch _ z).2.1 rfl
 exact I.step (ch:=ch) hch (fun b o hL hb hc e n=>u.keep b o e n (fun z=>(List.mem_cons.mp (I.stkSub b z)).elim hL hb) hc) (fun b o _ _ hc e n=>u.any e n hc) (fun b o hc e n=>u.free b o e n hc) (fun b o hc e=>u.there b o e hc) u.tups u.frzs u.tbls (fun m' hm=>by
  obtain⟨o',es',ep',ho',r'⟩:=hm
  rw [ho] at ho';cases ho'
  exact⟨_,es',ep',hL,r'⟩) hok hg
theorem Inv.turned {t':Nat} {it:Addr} (I:Inv X pins σ H s) (k:∀b o,b≠it->s.heap.get? b=some o->h'.get? b=some o) (hn:H it=none) (hL:it≠X.env.locals)
  (h1:it∈X.ex∨X.s₀.heap.objs.size<=it) (h2:∀x c,X.env.cells.lookup x=some c->c≠it) (h3:∀p∈X.pn ++ pins,p.1≠it):Inv X pins σ H { s with heap:=h',toks:=t' }:=by
 have nit:∀b u,H b=some u->b≠it:=fun b u e z=>by rw [z,hn] at e;cases e
 refine I.step (g':=s.gens) (d':=s.drawn) (ch:=[it]) (fun b hb=>?_) (fun b o _ _ hc e _=>k b o (fun z=>hc (by simp [z])) e) (fun b o _ _ hc e _=>⟨o.slots,k b o (fun z=>hc (by simp [z])) e⟩) (fun _ _ _ _ n=>n)
  (fun b o hc e=>⟨o,k b o (fun z=>hc (by simp [z])) e⟩) (fun _ _ e=>e) (fun _ _ _ e=>e) (fun b ps e=>⟨#[],by rw [e];simp⟩) (fun m hm=>?_) (fun b u e=>?_) I.bare
 ·have e:b=it:=by simpa using hb
  subst e
  exact⟨h1,hL,h2,h3⟩
 ·obtain⟨o,es,ep,ho,r⟩:=hm
  exact⟨o,es,ep,k _ o (Ne.symm hL) ho,r⟩
 ·refine(I.hok b u e).stay (fun c v hc q=>k c v ?_ q) (fun _ q=>q) fun _ _ q=>q
  rcases hc with z | z
  ·rw [z];exact nit b u e
  ·exact nit c _ z
theorem Inv.tok (I:Inv X pins σ H s) (t:Nat):Inv X pins σ H { s with toks:=t }:=I.un (h':=s.heap) (t':=t) Un.refl I.hok
theorem Inv.kept {t':Nat} (I:Inv X pins σ H s) (k:∀b u,s.heap.get? b=some u->h'.get? b=some u):Inv X pins σ H { s with heap:=h',toks:=t' }:=I.un (Un.kept k) (I.hok.kept k)
theorem Inv.laid {a:Addr} {o:HO} {t':Nat} (I:Inv X pins σ H s) (k:∀b u,s.heap.get? b=some u->h'.get? b=some u) (hp:s.heap.objs.size<=a) (new:fP X.prog X.w (upd H a o) h' a o):
  Inv X pins σ (upd H a o) { s with heap:=h',toks:=t' }:=I.un (Un.laid k hp (I.hok.fresh hp)) (I.hok.laid k hp new)
theorem Inv.write {x e:Addr} {o:HO} {t':Nat} (I:Inv X pins σ H s) (mu:Yp (H x)) (he:e=x∨H e=some (.own x)) (k:∀b u,b≠e->s.heap.get? b=some u->h'.get? b=some u) (heo:∃u,h'.get? e=some u)
  (new:fP X.prog X.w (upd H x o) h' x o):Inv X pins σ (upd H x o) { s with heap:=h',toks:=t' }:=I.un (Un.write mu he k heo) (I.hok.write mu he k heo new)
theorem Inv.weak {σ':List (Option V)} (I:Inv X pins σ H s) (hl:σ'.length=σ.length) (w:∀(i:Nat) v,σ'[i]?=some (some v)->σ[i]?=some (some v)):Inv X pins σ' H s:=
 ⟨I.ok,I.os,I.bare,I.base,let ⟨m,hn,hl'⟩:=I.loc;⟨m,hn,fun i x v e1 e2 e3=>hl' i x v e1 (w i v e2) e3⟩,I.cell,I.free,I.freeC,I.pin,I.hok,hl.trans I.len⟩
theorem Inv.pins_of {pins':List (Addr×Obj)} (I:Inv X pins σ H s) (h:∀p∈pins',s.heap.get? p.1=some p.2/\H p.1=none/\p.1≠X.env.locals/\p.1∉X.fs/\∀v,p.2.data≠.cell v):Inv X pins' σ H s:=
 ⟨I.ok,I.os,I.bare,I.base,I.loc,I.cell,I.free,I.freeC,fun p hp=>(List.mem_append.mp hp).elim (fun z=>I.pin p (List.mem_append_left _ z)) (h p),I.hok,I.len⟩
theorem J7 {N:List Str} (hN:N.Nodup) {i j:Nat} {x:Str} (a:N[i]?=some x) (b:N[j]?=some x):i=j:=by
 obtain⟨h1,e1⟩:=List.getElem?_eq_some_iff.mp a
 obtain⟨h2,e2⟩:=List.getElem?_eq_some_iff.mp b
 exact(List.getElem_inj hN).mp (e1.trans e2.symm)
theorem zK {M:Model} {A:Around} {E:Value->Shared->Prop} {i:Nat} {x:Str} {v:V} {u:Value} {Q:Unit->Shared->Prop} (I:Inv X pins σ H s) (hN:X.N.Nodup) (hi:X.N[i]?=some x) (hx:Loc X.env.scope x) (r:RelV v u)
  (h:∀s',Inv X pins (σ.set i (some v)) H s'->(∃a,Heap.SameBut a s.heap s'.heap/\(a=X.env.locals∨X.env.cells.lookup x=some a))->Q () s') (hf:X.fn x=true∨X.env.scope.names.lookup x=some .local:=by first | exact .inl rfl | exact .inr rfl | assumption):wpAny M A (storeName X.env x u) Q E s:=by
 obtain⟨m,hn,hl⟩:=id I.loc
 have hcls:(X.env.scope.kind == .class || (X.env.scope.kind == .module && X.env.locals != X.env.globals))=false:=by rw [I.ok.kind];rfl
 have hiσ:i <σ.length:=by rw [I.len];exact(List.getElem?_eq_some_iff.mp hi).1
 have cne:=I.cne
 have tracked:∀{a:Addr} {h':Heap},(∃o,s.heap.get? a=some o/\H a=none)->Heap.SameBut a s.heap h'->uX X.prog X.w H h':=fun {a h'} ha hs b ob e=>by
  obtain⟨_,_,hfree⟩:=ha
  refine(I.hok b ob e).stay (fun c w' hc q=>(hs.2 c ?_).trans q) (fun _ q=>q) fun _ _ q=>q
  rintro rfl
  rcases hc with rfl | hc
  ·rw [hfree] at e;cases e
  ·rw [hfree] at hc;cases hc
 rcases hx with hk | hk
 ·refine wpAny_storeName_local hk hn (fun h' hn' hs=>?_) hcls
  obtain⟨oL,_,_,hoL,_⟩:=id hn
  refine h _ ⟨I.ok,I.os,I.bare,⟨fun b o e n hb hx=>?_,fun b o e n hb hx=>?_,I.base.free,fun b o e hx=>?_,I.base.tups,I.base.frzs,I.base.tbls⟩,⟨_,hn',fun j y v' e1 e2 e3=>?_⟩,fun y c e=>?_,I.free,I.freeC,fun p hp=>?_,tracked ⟨oL,hoL,I.free⟩ hs,by simpa using I.len⟩ ⟨_,hs,.inl rfl⟩
  ·exact(hs.2 b (Nat.ne_of_lt (Nat.lt_of_lt_of_le (Heap.lt_size e) I.ok.above))).trans (I.base.keep b o e n hb hx)
  ·obtain⟨sl,e1⟩:=I.base.slot b o e n hb hx
   exact⟨sl,(hs.2 b (Nat.ne_of_lt (Nat.lt_of_lt_of_le (Heap.lt_size e) I.ok.above))).trans e1⟩
  ·obtain⟨o',e1⟩:=I.base.there b o e hx
   exact⟨o',(hs.2 b (Nat.ne_of_lt (Nat.lt_of_lt_of_le (Heap.lt_size e) I.ok.above))).trans e1⟩
  ·by_cases hj:j=i
   ·subst hj
    rw [hi] at e1;cases e1
    rw [List.getElem?_set_self hiσ] at e2
    cases e2
    exact⟨u,r,.inl ⟨hk,by simp⟩⟩
   ·rw [List.getElem?_set_ne (Ne.symm hj)] at e2
    obtain⟨u',r',q⟩:=hl j y v' e1 e2 e3
    refine⟨u',r',?_⟩
    rcases q with ⟨k,e⟩ | ⟨k,c,e,z⟩
    ·refine .inl ⟨k,?_⟩
     have:y≠x:=fun e=>hj (J7 hN e1 (e ▸ hi))
     simp [this,e]
    ·exact .inr ⟨k,c,e,z.sameBut hs (cne y c e)⟩
  ·obtain⟨w',z⟩:=I.cell y c e
   exact⟨w',z.sameBut hs (cne y c e)⟩
  ·obtain⟨e,n,ne,nf,d⟩:=I.pin p hp
   exact⟨(hs.2 p.1 ne).trans e,n,ne,nf,d⟩
 ·have hfn:X.fn x=true:=by
   rcases hf with z | z
   ·exact z
   ·rw [z] at hk;cases hk
  obtain⟨c,hc⟩:=I.ok.has x (.inl hk)
  obtain⟨w',z⟩:=I.cell x c hc
  refine wpAny_storeName_cell I.ok.kind hk hc z (fun h' hc' hs=>?_)
  obtain⟨oc,hoc,hocd⟩:=id z
  refine h { s with heap:=h' } ⟨I.ok,I.os,I.bare,⟨fun b o e n hb hx=>?_,fun b o e n hb hx=>?_,I.base.free,fun b o e hx=>?_,I.base.tups,I.base.frzs,I.base.tbls⟩,⟨m,hn.sameBut hs (Ne.symm (cne x c hc)),fun j y v' e1 e2 e3=>?_⟩,fun y c' e=>?_,I.free,I.freeC,fun p hp=>?_,tracked ⟨oc,hoc,I.freeC x c hc⟩ hs,by simpa using I.len⟩ ⟨c,hs,.inr hc⟩
  ·exact(hs.2 b (Nat.ne_of_lt (Nat.lt_of_lt_of_le (Heap.lt_size e) (I.ok.cab x c hfn hc)))).trans (I.base.keep b o e n hb hx)
  ·obtain⟨sl,e1⟩:=I.base.slot b o e n hb hx
   exact⟨sl,(hs.2 b (Nat.ne_of_lt (Nat.lt_of_lt_of_le (Heap.lt_size e) (I.ok.cab x c hfn hc)))).trans e1⟩
  ·obtain⟨o',e1⟩:=I.base.there b o e hx
   exact⟨o',(hs.2 b (Nat.ne_of_lt (Nat.lt_of_lt_of_le (Heap.lt_size e) (I.ok.cab x c hfn hc)))).trans e1⟩
  ·by_cases hj:j=i
   ·subst hj
    rw [hi] at e1;cases e1
    rw [List.getElem?_set_self hiσ] at e2
    cases e2
    exact⟨u,r,.inr ⟨.inl hk,c,hc,hc'⟩⟩
   ·rw [List.getElem?_set_ne (Ne.symm hj)] at e2
    obtain⟨u',r',q⟩:=hl j y v' e1 e2 e3
    refine⟨u',r',?_⟩
    rcases q with q | ⟨k,c',e,z'⟩
    ·exact .inl q
    ·refine .inr ⟨k,c',e,z'.sameBut hs ?_⟩
     rintro rfl
     exact hj (J7 hN e1 (I.ok.inj _ _ _ e hc ▸ hi))
  ·by_cases hcc:c'=c
   ·subst hcc;exact⟨_,hc'⟩
   ·obtain⟨w2,z2⟩:=I.cell y c' e
    exact⟨w2,z2.sameBut hs hcc⟩
  ·obtain⟨e,n,ne,nf,d⟩:=I.pin p hp
   refine⟨(hs.2 p.1 ?_).trans e,n,ne,nf,d⟩
   intro q
   rw [q,hoc] at e
   have q':oc=p.2:=Option.some.inj e
   exact d w' (by rw [<-q'];exact hocd)
theorem JW {M:Model} {A:Around} {E:Value->Shared->Prop} {i:Nat} {x:Str} {v:V} {u:Value} {Q:Unit->Shared->Prop} (I:Inv X pins σ H s) (hN:X.N.Nodup) (hi:X.N[i]?=some x) (hx:Loc X.env.scope x) (r:RelV v u)
  (h:∀s',Inv X pins (σ.set i (some v)) H s'->Q () s') (hf:X.fn x=true∨X.env.scope.names.lookup x=some .local:=by first | exact .inl rfl | exact .inr rfl | assumption):wpAny M A (storeName X.env x u) Q E s:=
 zK I hN hi hx r (fun s' I' _=>h s' I') hf
theorem Inv.call' {s':Shared} {ch:List Addr} (I:Inv X pins σ H s) (ho:s'.os=s.os) (u:Un (frs X.stack) ch H H' s.heap s'.heap) (hok:uX X.prog X.w H' s'.heap) (hg:AllBare s'.gens)
  (hch:∀b∈ch,(b∈X.ex∨X.s₀.heap.objs.size<=b)/\b≠X.env.locals/\(∀x c,X.env.cells.lookup x=some c->c≠b)/\∀p∈X.pn ++ pins,p.1≠b):Inv X pins σ H' s':=by
 obtain⟨h',g',d',t',o'⟩:=s'
 have e:o'=s.os:=ho
 subst e
 exact I.call (g':=g') (t':=t') (d':=d') u hok hg hch
end
noncomputable abbrev XK:=Value->Option Addr->Hp->Prop
noncomputable abbrev St:=List (Option V)
noncomputable abbrev VK:=V->Hp->Prop
noncomputable abbrev TE:=St->Hp->VK->Prop
noncomputable abbrev TT:=St->Hp->(Bool->Hp->Prop)->Prop
noncomputable abbrev TA:=St->Hp->(List V->Hp->Prop)->Prop
structure Ends where
 nx:St->Hp->Prop
 rt:VK
 bk:St->Hp->Prop:=fun _ _=>False
 ct:St->Hp->Prop:=fun _ _=>False
noncomputable abbrev TS:=Ends->St->Hp->Prop
noncomputable def EP (X:Cx) (pins:List (Addr×Obj)) (σ:St) (Q:VK) (u:Value) (s':Shared):Prop:=∃v H',Inv X pins σ H' s'/\RelV v u/\Q v H'
noncomputable def TP (X:Cx) (pins:List (Addr×Obj)) (σ:St) (Q:Bool->Hp->Prop) (b:Bool) (s':Shared):Prop:=∃H',Inv X pins σ H' s'/\Q b H'
noncomputable def AP (X:Cx) (pins:List (Addr×Obj)) (σ:St) (Q:List V->Hp->Prop) (us:List Value) (s':Shared):Prop:=∃vs H',Inv X pins σ H' s'/\Vals vs us/\Q vs H'
noncomputable def SP (X:Cx) (pins:List (Addr×Obj)) (D:Ends) (f:Flow) (s':Shared):Prop:=
 match f with
 | .next=>∃σ' H',Inv X pins σ' H' s'/\D.nx σ' H'
 | .brk=>∃σ' H',Inv X pins σ' H' s'/\D.bk σ' H'
 | .cont=>∃σ' H',Inv X pins σ' H' s'/\D.ct σ' H'
 | .ret u=>∃v σ' H',Inv X pins σ' H' s'/\RelV v u/\D.rt v H'
noncomputable def PE (X:Cx) (e:Expr) (t:TE):Prop:=
 ∀(pins:List (Addr×Obj)) (s:Shared) (σ:St) (H:Hp) (Q:VK),Inv X pins σ H s->t σ H Q->wpAny (model X.prog X.w) X.A (eval e X.env) (EP X pins σ Q) X.xe s
noncomputable def PT (X:Cx) (e:Expr) (t:TT):Prop:=
 ∀(pins:List (Addr×Obj)) (s:Shared) (σ:St) (H:Hp) (Q:Bool->Hp->Prop),Inv X pins σ H s->t σ H Q->wpAny (model X.prog X.w) X.A (isTrue e X.env (eval e X.env)) (TP X pins σ Q) X.xe s
noncomputable def PW (X:Cx) (e:Expr) (t:TT):Prop:=
 ∀(whole:Sem Value) (pins:List (Addr×Obj)) (s:Shared) (σ:St) (H:Hp) (Q:Bool->Hp->Prop),Inv X pins σ H s->t σ H Q->wpAny (model X.prog X.w) X.A (isTrue e X.env whole) (TP X pins σ Q) X.xe s
theorem PW.pt {X:Cx} {e:Expr} {t:TT} (h:PW X e t):PT X e t:=h _
noncomputable def PA (X:Cx) (es:List Expr) (t:TA):Prop:=
 ∀(pos:Pos) (pins:List (Addr×Obj)) (s:Shared) (σ:St) (H:Hp) (Q:List V->Hp->Prop),Inv X pins σ H s->t σ H Q->wpAny (model X.prog X.w) X.A (spliced (backTo pos (starEach es X.env))) (AP X pins σ Q) X.xe s
noncomputable def PS (X:Cx) (st:Stmt) (t:TS):Prop:=
 ∀(pins:List (Addr×Obj)) (s:Shared) (σ:St) (H:Hp) (D:Ends),Inv X pins σ H s->t D σ H->wpAny (model X.prog X.w) X.A (exec st X.env) (SP X pins D) X.xe s
noncomputable def Ni (X:Cx) (st:List Stmt) (t:TS):Prop:=
 ∀(pins:List (Addr×Obj)) (s:Shared) (σ:St) (H:Hp) (D:Ends),Inv X pins σ H s->t D σ H->wpAny (model X.prog X.w) X.A (execs st X.env) (SP X pins D) X.xe s
theorem dG {α:Type} {t:Sem α} {Q Q':α->Shared->Prop} {M:Model} {A:Around} {E:Value->Shared->Prop} {s:Shared} (h:wpAny M A t Q E s) (hQ:∀a s,Q a s->Q' a s):wpAny M A t Q' E s:=wpAny_mono h hQ fun _ _ x=>x
section
variable {X:Cx}
inductive Vi (i:Nat) (σ:St) (H:Hp) (Q:VK):Prop where
 | mk:∀v,σ[i]?=some (some v)->Q v H->Vi i σ H Q
noncomputable def YB (i:Nat):TE:=fun σ H Q=>Vi i σ H Q
noncomputable def tC (v:V):TE:=fun _ H Q=>Q v H
theorem We {i:Nat} {x:Str} {pos:Pos} (hN:X.N[i]?=some x) (hv:Ze X.env.scope x) (hd:(x == ("__debug__" :Str))=false:=by decide) (hcd:(x == ("__classdict__" :Str))=false:=by decide):PE X (.Name x pos) (YB i):=by
 intro pins s σ H Q I h
 obtain⟨v,e,h⟩:=h
 obtain⟨m,hn,hl⟩:=I.loc
 obtain⟨u,r,l⟩:=hl i x v hN e hv
 have fin:EP X pins σ Q u s:=⟨v,H,I,r,h⟩
 rcases l with ⟨hk,hm⟩ | ⟨hk,c,hc,hcell⟩
 ·exact wpAny_Name (wpAny_loadName_local I.ok.kind hk hn hm fin) hd
 ·rcases hk with hk | hk
  ·exact wpAny_Name (wpAny_loadName_cell I.ok.kind hk hc hcell fin) hd
  ·exact wpAny_Name (wpAny_loadName_free I.ok.kind hk hc hcell fin hcd) hd
theorem az {i j pos}:PE X (.Constant (.int i) j pos) (tC (.int i)):=fun _ _ _ H _ I h=>wpAny_Constant_int ⟨.int i,H,I.tok _,⟨_,rfl⟩,h⟩
theorem mD {b j pos}:PE X (.Constant (.bool b) j pos) (tC (.bl b)):=fun _ _ _ H _ I h=>Constant_bool ⟨.bl b,H,I,rfl,h⟩
theorem wY {j pos}:PE X (.Constant .none j pos) (tC .non):=fun _ _ _ H _ I h=>Constant_none ⟨.non,H,I,rfl,h⟩
theorem bI {x j pos}:PE X (.Constant (.str x) j pos) (tC (.str x)):=fun _ _ _ H _ I h=>Calls.Constant_str ⟨.str x,H,I.tok _,⟨_,rfl⟩,h⟩
noncomputable def Gl (X:Cx) (x:Str):Prop:=X.env.kindOf x=some .globalImplicit
theorem Jk {E:Value->Shared->Prop} {pins:List (Addr×Obj)} {s:Shared} {σ:St} {H:Hp} {x:Str} {u:Value} {pos:Pos} {Q:Value->Shared->Prop} (I:Inv X pins σ H s) (hg:Gl X x) (hm:X.mg x=some u) (h:Q u s)
  (hd:(x == ("__debug__" :Str))=false:=by decide):wpAny (model X.prog X.w) X.A (eval (.Name x pos) X.env) Q E s:=
 Calls.Name_function_global I.ok.kind hg (Calls.loadGlobal_global (by rw [I.ok.glob];exact I.mod.glob.keeps I.bk) hm h) hd
theorem za {E:Value->Shared->Prop} {pins:List (Addr×Obj)} {s:Shared} {σ:St} {H:Hp} {x:Str} {u:Value} {pos:Pos} {Q:Value->Shared->Prop} (I:Inv X pins σ H s) (hg:Gl X x) (hm:X.mg x=none) (hv:bootBuiltins x=some u) (h:Q u s)
  (hn:x≠ "__name__" :=by decide) (hd:(x == ("__debug__" :Str))=false:=by decide):wpAny (model X.prog X.w) X.A (eval (.Name x pos) X.env) Q E s:=by
 obtain⟨mb,h1,h2⟩:=I.mod.blt
 exact Calls.Name_function_global I.ok.kind hg (Calls.loadGlobal_builtin (by rw [I.ok.glob];exact I.mod.glob.keeps I.bk) hm (by rw [I.ok.blt];exact h1.keeps I.bk) ((h2 x hn).trans hv) h) hd
theorem Hr {x:Str} {v:V} {u:Value} {pos:Pos} (hg:Gl X x) (hm:X.mg x=some u) (r:RelV v u) (hd:(x == ("__debug__" :Str))=false:=by decide):PE X (.Name x pos) (tC v):=
 fun _ _ _ H _ I h=>Jk I hg hm ⟨v,H,I,r,h⟩ hd
theorem Tz {x:Str} {v:V} {u:Value} {pos:Pos} (hg:Gl X x) (hm:X.mg x=none) (hv:bootBuiltins x=some u) (r:RelV v u) (hn:x≠ "__name__" :=by decide) (hd:(x == ("__debug__" :Str))=false:=by decide):PE X (.Name x pos) (tC v):=
 fun _ _ _ H _ I h=>za I hg hm hv ⟨v,H,I,r,h⟩ hn hd
variable {a b:Expr} {ta tb:TE} {pos:Pos}
noncomputable def PC (X:Cx) (op:CmpOp) (a b:Expr) (t:TE):Prop:=
 ∀(pins:List (Addr×Obj)) (s:Shared) (σ:St) (H:Hp) (Q:VK),Inv X pins σ H s->t σ H Q->
  wpAny (model X.prog X.w) X.A (eval a X.env) (fun v s₁=>wpAny (model X.prog X.w) X.A (eval b X.env) (fun u s₂=>wpAny (model X.prog X.w) X.A (compareOp op v u) (EP X pins σ Q) X.xe s₂) X.xe s₁) X.xe s
theorem J0 (b:Expr) {op:CmpOp} (h:op≠.In) (h2:op≠.NotIn):behindInMarks op b=false:=by
 have e1:(op == CmpOp.In)=false:=by cases op <;> first | rfl | exact absurd rfl h
 have e2:(op == CmpOp.NotIn)=false:=by cases op <;> first | rfl | exact absurd rfl h2
 cases b <;> simp [behindInMarks,e1,e2]
noncomputable def Zz (ta:TE):TE:=fun σ H Q=>ta σ H fun x H1=>Q (.bl (decide (x=.non))) H1
noncomputable def YH (ta:TE):TE:=fun σ H Q=>ta σ H fun x H1=>Q (.bl (!decide (x=.non))) H1
theorem RelV.none_iff {x:V} {v:Value} (r:RelV x v):(v == Value.none)=decide (x=.non):=by
 cases x with
 | non=>cases r;rfl
 | bl _=>cases r;rfl
 | int _=>obtain⟨t,rfl⟩:=r;rfl
 | str _=>obtain⟨t,rfl⟩:=r;rfl
 | byt _=>obtain⟨t,rfl⟩:=r;rfl
 | flt _=>obtain⟨t,rfl⟩:=r;rfl
 | ref _=>cases r;rfl
 | ty _=>cases r;rfl
theorem Dn {j pos'} (ha:PE X a ta):PC X .Is a (.Constant .none j pos') (Zz ta):=by
 intro pins s σ H Q I h
 refine dG (ha pins s σ H _ I h) fun v s1 hpt=>?_
 obtain⟨x,H1,I1,r1,q1⟩:=hpt
 exact Constant_none (is_none_gen ⟨.bl _,H1,I1,by rw [r1.none_iff];rfl,q1⟩)
theorem Bu {j pos'} (ha:PE X a ta):PC X .IsNot a (.Constant .none j pos') (YH ta):=by
 intro pins s σ H Q I h
 refine dG (ha pins s σ H _ I h) fun v s1 hpt=>?_
 obtain⟨x,H1,I1,r1,q1⟩:=hpt
 exact Constant_none (isnot_none_gen ⟨.bl _,H1,I1,by rw [r1.none_iff];rfl,q1⟩)
inductive Z8 (Q:Bool->Hp->Prop) (x:V) (H1:Hp):Prop where
 | mk:∀c,x=.bl c->Q c H1->Z8 Q x H1
noncomputable def tB (t:TE):TT:=fun σ H Q=>t σ H fun x H1=>Z8 Q x H1
theorem Il {op:CmpOp} {t:TE} (h:PC X op a b t) (h1:behindInMarks op b=false:=by first | exact J0 _ (by decide) (by decide) | rfl):PE X (.Compare a [op] [b] pos) t:=fun pins s σ H Q I hw=>wpAny_Compare1 (h pins s σ H Q I hw) h1
theorem fY {op:CmpOp} {t:TE} (h:PC X op a b t) (h1:behindInMarks op b=false:=by first | exact J0 _ (by decide) (by decide) | rfl):PT X (.Compare a [op] [b] pos) (tB t):=by
 intro pins s σ H Q I hw
 refine wpAny_isTrue_Compare1 (dG (h pins s σ H _ I hw) fun v s1 h1=>dG h1 fun u s2 h2=>dG h2 fun c s3 hpt=>?_) h1
 obtain⟨x,H1,I1,r1,q1⟩:=hpt
 obtain⟨d,rfl,q⟩:=q1
 cases r1
 exact wpAny_truthy_bool ⟨H1,I1,q⟩
theorem jX {e:Expr} {t:TE} (h:PE X e t) (he:∀whole,isTrue e X.env whole=(do let v <-whole;standAt e.pos;holding [v] (truthy v)):=by intro _;rfl):PT X e (tB t):=by
 intro pins s σ H Q I hw
 refine isTrue_plain (dG (h pins s σ H _ I hw) fun v s1 ⟨x,H1,I1,r1,q1⟩=>?_) (he _)
 obtain⟨d,rfl,q⟩:=q1
 cases r1
 exact wpAny_truthy_bool ⟨H1,I1,q⟩
variable {tA tB':TT} {rest:List Expr}
noncomputable def Zx (t u:TT):TT:=fun σ H Q=>t σ H fun c H1=>if c=true then u σ H1 Q else Q false H1
noncomputable def tOr (t u:TT):TT:=fun σ H Q=>t σ H fun c H1=>if c=true then Q true H1 else u σ H1 Q
noncomputable def Z3 (t:TT):TT:=fun σ H Q=>t σ H fun c H1=>Q (!c) H1
theorem rR (ha:PT X a tA):PW X (.BoolOp .And [a] pos) tA:=by
 intro wh pins s σ H Q I h
 refine isTrue_and (dG (ha pins s σ H Q I h) fun c s1 e=>?_)
 cases c with
 | true=>exact isTrue_and_nil e
 | false=>exact e
theorem qY (ha:PT X a tA):PW X (.BoolOp .Or [a] pos) tA:=by
 intro wh pins s σ H Q I h
 refine isTrue_or (dG (ha pins s σ H Q I h) fun c s1 e=>?_)
 cases c with
 | false=>exact isTrue_or_nil e
 | true=>exact e
theorem uF (ha:PT X a tA) (hb:PW X (.BoolOp .And (b:: rest) pos) tB'):PW X (.BoolOp .And (a:: b:: rest) pos) (Zx tA tB'):=by
 intro wh pins s σ H Q I h
 refine isTrue_and (dG (ha pins s σ H _ I h) fun c s1 hpt=>?_)
 obtain⟨H1,I1,q1⟩:=hpt
 cases c with
 | true=>exact hb wh pins s1 σ H1 Q I1 q1
 | false=>exact⟨H1,I1,q1⟩
theorem xn (ha:PT X a tA) (hb:PW X (.BoolOp .Or (b:: rest) pos) tB'):PW X (.BoolOp .Or (a:: b:: rest) pos) (tOr tA tB'):=by
 intro wh pins s σ H Q I h
 refine isTrue_or (dG (ha pins s σ H _ I h) fun c s1 hpt=>?_)
 obtain⟨H1,I1,q1⟩:=hpt
 cases c with
 | true=>exact⟨H1,I1,q1⟩
 | false=>exact hb wh pins s1 σ H1 Q I1 q1
theorem mq (ha:PT X a tA):PT X (.UnaryOp .Not a pos) (Z3 tA):=by
 intro pins s σ H Q I h
 exact isTrue_not (ha pins s σ H (fun c H1=>Q (!c) H1) I h)
inductive Qn (tb:TE) (σ:St) (Q:VK) (x:V) (H1:Hp):Prop where
 | mk:∀c,x=.bl c->(if c=true then tb σ H1 Q else Q (.bl false) H1)->Qn tb σ Q x H1
noncomputable def Y5 (ta tb:TE):TE:=fun σ H Q=>ta σ H fun x H1=>Qn tb σ Q x H1
inductive Vo (tb:TE) (σ:St) (Q:VK) (x:V) (H1:Hp):Prop where
 | mk:∀c,x=.bl c->(if c=true then Q (.bl true) H1 else tb σ H1 Q)->Vo tb σ Q x H1
noncomputable def Zu (ta tb:TE):TE:=fun σ H Q=>ta σ H fun x H1=>Vo tb σ Q x H1
inductive RX (Q:VK) (x:V) (H1:Hp):Prop where
 | mk:∀c,x=.bl c->Q (.bl (!c)) H1->RX Q x H1
noncomputable def YT (ta:TE):TE:=fun σ H Q=>ta σ H fun x H1=>RX Q x H1
theorem yU {op} {t:TE} (h:PE X a t):PE X (.BoolOp op [a] pos) t:=fun pins s σ H Q I hw=>BoolOp_one (h pins s σ H Q I hw)
theorem zE (ha:PE X a ta) (hb:PE X (.BoolOp .And (b:: rest) pos) tb):PE X (.BoolOp .And (a:: b:: rest) pos) (Y5 ta tb):=by
 intro pins s σ H Q I h
 refine BoolOp_and (dG (ha pins s σ H _ I h) fun v s1 hpt=>?_)
 obtain⟨x,H1,I1,r1,q1⟩:=hpt
 obtain⟨c,rfl,q1⟩:=q1
 cases r1
 refine wpAny_truthy_bool ?_
 cases c with
 | true=>exact hb pins s1 σ H1 Q I1 q1
 | false=>exact⟨.bl false,H1,I1,rfl,q1⟩
theorem Yx (ha:PE X a ta) (hb:PE X (.BoolOp .Or (b:: rest) pos) tb):PE X (.BoolOp .Or (a:: b:: rest) pos) (Zu ta tb):=by
 intro pins s σ H Q I h
 refine BoolOp_or (dG (ha pins s σ H _ I h) fun v s1 hpt=>?_)
 obtain⟨x,H1,I1,r1,q1⟩:=hpt
 obtain⟨c,rfl,q1⟩:=q1
 cases r1
 refine wpAny_truthy_bool ?_
 cases c with
 | false=>exact hb pins s1 σ H1 Q I1 q1
 | true=>exact⟨.bl true,H1,I1,rfl,q1⟩
theorem Xf (ha:PE X a ta):PE X (.UnaryOp .Not a pos) (YT ta):=by
 intro pins s σ H Q I h
 refine UnaryOp_ (dG (ha pins s σ H _ I h) fun v s1 hpt=>?_)
 obtain⟨x,H1,I1,r1,q1⟩:=hpt
 obtain⟨c,rfl,q1⟩:=q1
 cases r1
 exact not_of (wpAny_truthy_bool ⟨.bl (!c),H1,I1,rfl,q1⟩)
noncomputable def tIf (t:TT) (ta tb:TE):TE:=fun σ H Q=>t σ H fun c H1=>if c=true then ta σ H1 Q else tb σ H1 Q
theorem oH {c:Expr} (hc:PT X c tA) (ha:PE X a ta) (hb:PE X b tb):PE X (.IfExp c a b pos) (tIf tA ta tb):=by
 intro pins s σ H Q I h
 refine wpAny_IfExp (dG (hc pins s σ H _ I h) fun d s1 hpt=>?_)
 obtain⟨H1,I1,q1⟩:=hpt
 cases d with
 | true=>exact ha pins s1 σ H1 Q I1 q1
 | false=>exact hb pins s1 σ H1 Q I1 q1
end
noncomputable def bJ (K:PySem.W.Frag) (H:Hp) (a:Addr) (xs:List V):Prop:=
 Rd H a (.lst xs)∨
  ∃(o:Obj) (its:Array Value) (n:Nat),K.lookup a=some o/\o.cls=.type "list" /\o.dict=none/\o.data=.seq its n/\its.size<=sizeLine/\Vals xs its.toList
noncomputable def fu (K:PySem.W.Frag) (H:Hp) (a:Addr) (xs:List V):Prop:=
 Rd H a (.tup xs)∨
  ∃(o:Obj) (its:Array Value) (n:Nat),K.lookup a=some o/\o.cls=.type "tuple" /\o.data=.seq its n/\its.size<=sizeLine/\Vals xs its.toList
noncomputable def Zm:Value->Option V
 | .none=>some .non
 | .bool b=>some (.bl b)
 | .int i _=>some (.int i)
 | .str x _=>some (.str x)
 | .bytes b _=>some (.byt b)
 | .float b _=>some (.flt b)
 | .ref a=>some (.ref a)
 | .type n=>some (.ty n)
 | _=>none
theorem RelV.abs {x:V} {u:Value} (r:RelV x u):Zm u=some x:=by
 cases x with
 | non=>cases r;rfl
 | bl _=>cases r;rfl
 | int _=>obtain⟨t,rfl⟩:=r;rfl
 | str _=>obtain⟨t,rfl⟩:=r;rfl
 | byt _=>obtain⟨t,rfl⟩:=r;rfl
 | flt _=>obtain⟨t,rfl⟩:=r;rfl
 | ref _=>cases r;rfl
 | ty _=>cases r;rfl
theorem RelV.inj {x y:V} {u:Value} (r:RelV x u) (q:RelV y u):x=y:=Option.some.inj (r.abs.symm.trans q.abs)
theorem Vals.inj:∀{xs ys:List V} {us:List Value},Vals xs us->Vals ys us->xs=ys
 | _,_,_,.nil,.nil=>rfl
 | _,_,_,.cons r t,.cons r' t'=>by rw [r.inj r',Vals.inj t t']
section
variable {X:Cx} {pins:List (Addr×Obj)} {σ:St} {H:Hp} {s:Shared} {a:Addr} {xs ys:List V}
theorem bJ.of {K:PySem.W.Frag} (h:H a=some (.lst xs)):bJ K H a xs:=.inl (.inl h)
theorem fu.of {K:PySem.W.Frag} (h:H a=some (.tup xs)):fu K H a xs:=.inl (.inl h)
theorem Inv.list (I:Inv X pins σ H s) (h:bJ X.K H a xs):∃its:List Value,Vals xs its/\PlainL s.heap a its.toArray/\xs.length<=sizeLine:=by
 rcases h with h | ⟨o,its,n,hk,hc,hd,hs,hz,r⟩
 ·obtain⟨z,its,n,r,e⟩:=h.ok I.hok
  exact⟨its,r,⟨_,n,e,rfl,rfl,rfl⟩,z⟩
 ·refine⟨its.toList,r,⟨o,n,I.kIn a o hk,hc,hd,by simpa using hs⟩,?_⟩
  have e:=r.length
  simp only [Array.length_toList] at e
  omega
theorem Inv.tuple (I:Inv X pins σ H s) (h:fu X.K H a xs):∃its:List Value,Vals xs its/\IsTup s.heap a its.toArray/\xs.length<=sizeLine:=by
 rcases h with h | ⟨o,its,n,hk,hc,hs,hz,r⟩
 ·obtain⟨z,its,r,p⟩:=h.ok I.hok
  exact⟨its,r,p,z⟩
 ·refine⟨its.toList,r,⟨o,I.kIn a o hk,hc,n,by simpa using hs⟩,?_⟩
  have e:=r.length
  simp only [Array.length_toList] at e
  omega
theorem Inv.list_inj (I:Inv X pins σ H s) (h:bJ X.K H a xs) (h':bJ X.K H a ys):xs=ys:=by
 obtain⟨its,r,⟨o,n,e,_,_,d⟩,_⟩:=I.list h
 obtain⟨its',r',⟨o',n',e',_,_,d'⟩,_⟩:=I.list h'
 rw [e] at e';cases e'
 rw [d] at d'
 injection d' with d1 _
 have:its=its':=by simpa using congrArg Array.toList d1
 subst this
 exact r.inj r'
theorem Inv.tuple_inj (I:Inv X pins σ H s) (h:fu X.K H a xs) (h':fu X.K H a ys):xs=ys:=by
 obtain⟨its,r,⟨o,e,_,n,d⟩,_⟩:=I.tuple h
 obtain⟨its',r',⟨o',e',_,n',d'⟩,_⟩:=I.tuple h'
 rw [e] at e';cases e'
 rw [d] at d'
 injection d' with d1 _
 have:its=its':=by simpa using congrArg Array.toList d1
 subst this
 exact r.inj r'
end
noncomputable abbrev Cx.wish (X:Cx) (E:Value->Shared->Prop):Cx:={ X with xe:=E }
noncomputable abbrev Cx.nox (X:Cx):Cx:=X.wish fun _ _=>False
theorem Cx.Ok.wish {X:Cx} (ok:X.Ok) (E:Value->Shared->Prop):(X.wish E).Ok:=
 ⟨ok.mod,ok.kind,ok.glob,ok.blt,ok.above,ok.inj,ok.has,ok.cab,ok.hd,ok.frames,ok.stk,ok.exf,ok.bs,ok.bsz,ok.noex,ok.exfs,ok.funs,ok.frf⟩
theorem Cx.Ok.unwish {X:Cx} {E:Value->Shared->Prop} (ok:(X.wish E).Ok):X.Ok:=
 ⟨ok.mod,ok.kind,ok.glob,ok.blt,ok.above,ok.inj,ok.has,ok.cab,ok.hd,ok.frames,ok.stk,ok.exf,ok.bs,ok.bsz,ok.noex,ok.exfs,ok.funs,ok.frf⟩
section
variable {X:Cx} {pins:List (Addr×Obj)} {σ:St} {H:Hp} {s:Shared} {E:Value->Shared->Prop}
theorem Inv.wish (I:Inv X pins σ H s) (E:Value->Shared->Prop):Inv (X.wish E) pins σ H s:=⟨I.ok.wish E,I.os,I.bare,I.base,I.loc,I.cell,I.free,I.freeC,I.pin,I.hok,I.len⟩
theorem Inv.unwish (I:Inv (X.wish E) pins σ H s):Inv X pins σ H s:=⟨I.ok.unwish,I.os,I.bare,I.base,I.loc,I.cell,I.free,I.freeC,I.pin,I.hok,I.len⟩
theorem SP.unwish {D:Ends} {f:Flow} {s':Shared} (h:SP (X.wish E) pins D f s'):SP X pins D f s':=by
 cases f with
 | next=>obtain⟨σ',H',I,q⟩:=h;exact⟨σ',H',I.unwish,q⟩
 | brk=>obtain⟨σ',H',I,q⟩:=h;exact⟨σ',H',I.unwish,q⟩
 | cont=>obtain⟨σ',H',I,q⟩:=h;exact⟨σ',H',I.unwish,q⟩
 | ret u=>obtain⟨v,σ',H',I,r,q⟩:=h;exact⟨v,σ',H',I.unwish,r,q⟩
theorem Ni.nox {st:List Stmt} {t:TS} (h:Ni X.nox st t):Ni X st t:=fun pins s σ H D I hw=>
 wpAny_mono (h pins s σ H D (I.wish _) hw) (fun _ _ q=>q.unwish) fun _ _ z=>False.elim z
end
section
variable {X:Cx} {st:Stmt} {rest:List Stmt} {t u:TS} {e:Expr} {te:TE} {pos:Pos}
noncomputable def XM:TS:=fun D σ H=>D.nx σ H
noncomputable def yD (t u:TS):TS:=fun D σ H=>t { D with nx:=u D } σ H
theorem bD:Ni X [] XM:=fun _ _ σ H _ I h=>wpAny_execs_nil ⟨σ,H,I,h⟩
theorem au (h1:PS X st t) (h2:Ni X rest u):Ni X (st:: rest) (yD t u):=by
 intro pins s σ H D I h
 refine wpAny_execs_cons (dG (h1 pins s σ H { D with nx:=u D } I h) fun f s1 q=>?_)
 cases f with
 | next=>
  obtain⟨σ',H',I',q⟩:=q
  exact h2 pins s1 σ' H' D I' q
 | ret v=>exact q
 | brk=>exact q
 | cont=>exact q
theorem aA (h1:PS X st t):Ni X [st] t:=by
 intro pins s σ H D I h
 refine wpAny_execs_cons (dG (h1 pins s σ H D I h) fun f s1 q=>?_)
 cases f with
 | next=>exact wpAny_execs_nil q
 | ret v=>exact q
 | brk=>exact q
 | cont=>exact q
theorem Inv.quiet {pins:List (Addr×Obj)} {σ:St} {H:Hp} {s:Shared} (I:Inv X pins σ H s):interactive X.env=false:=by simp [interactive,I.ok.kind]
noncomputable def YF (te:TE):TS:=fun D σ H=>te σ H fun _ H1=>D.nx σ H1
theorem bH (he:PE X e te) (hs:swapsWith e none pos.line X.env=pure false:=by rfl):PS X (.Expr e pos) (YF te):=by
 intro pins s σ H D I h
 exact wpAny_Expr_any (dG (he pins s σ H _ I h) fun v s1 ⟨x,H1,I1,r1,q1⟩=>⟨σ,H1,I1,q1⟩) I.quiet hs
noncomputable def ZX (te:TE):TS:=fun D σ H=>te σ H D.rt
theorem aO (he:PE X e te):PS X (.Return (some e) pos) (ZX te):=by
 intro pins s σ H D I h
 exact wpAny_Return_some (dG (he pins s σ H _ I h) fun v s1 ⟨x,H1,I1,r1,q1⟩=>⟨x,σ,H1,I1,r1,q1⟩)
noncomputable def Z0 (c:TT) (t u:TS):TS:=fun D σ H=>c σ H fun b H1=>if b=true then t D σ H1 else u D σ H1
theorem bQ {c:Expr} {a b:List Stmt} {tc:TT} (hc:PT X c tc) (ha:Ni X a t) (hb:Ni X b u):PS X (.If c a b pos) (Z0 tc t u):=by
 intro pins s σ H D I h
 refine wpAny_If (dG (hc pins s σ H _ I h) fun d s1 hpt=>?_)
 obtain⟨H1,I1,q1⟩:=hpt
 cases d with
 | true=>exact ha pins s1 σ H1 D I1 q1
 | false=>exact hb pins s1 σ H1 D I1 q1
noncomputable def Wd:TS:=fun _ _ _=>False
theorem dz:PS X st Wd:=fun _ _ _ _ _ _ h=>h.elim
end
noncomputable abbrev TG:=V->St->Hp->(St->Hp->Prop)->Prop
noncomputable abbrev S7:=List V->St->Hp->(St->Hp->Prop)->Prop
noncomputable def PG (X:Cx) (target:Expr) (t:TG):Prop:=
 ∀(pins:List (Addr×Obj)) (s:Shared) (σ:St) (H:Hp) (v:V) (u:Value) (Q:St->Hp->Prop),Inv X pins σ H s->RelV v u->t v σ H Q->
  wpAny (model X.prog X.w) X.A (assign target X.env u) (fun _ s'=>∃σ' H',Inv X pins σ' H' s'/\Q σ' H') X.xe s
noncomputable def X3 (X:Cx) (ts:List Expr) (t:S7):Prop:=
 ∀(pins:List (Addr×Obj)) (s:Shared) (σ:St) (H:Hp) (vs:List V) (us:List Value) (Q:St->Hp->Prop),Inv X pins σ H s->Vals vs us->t vs σ H Q->
  wpAny (model X.prog X.w) X.A (assignInOrder ((assignEach ts X.env).map (·.2)) us) (fun _ s'=>∃σ' H',Inv X pins σ' H' s'/\Q σ' H') X.xe s
section
variable {X:Cx} {pos:Pos}
noncomputable def yu (i:Nat):TG:=fun v σ H Q=>Q (σ.set i (some v)) H
theorem pB {i:Nat} {x:Str} (hN:X.N.Nodup) (hi:X.N[i]?=some x) (hx:Loc X.env.scope x) (hf:X.fn x=true∨X.env.scope.names.lookup x=some .local:=by first | exact .inl rfl | exact .inr rfl | assumption):PG X (.Name x pos) (yu i):=by
 intro pins s σ H v u Q I r h
 exact wpAny_assign_Name (JW I hN hi hx r (fun s' I'=>⟨_,H,I',h⟩) hf)
noncomputable def ZF:S7:=fun vs σ H Q=>vs=[]/\Q σ H
inductive Rb (t:TG) (u:S7) (vs:List V) (σ:St) (H:Hp) (Q:St->Hp->Prop):Prop where
 | mk:∀v r,vs=v:: r->(t v σ H fun σ' H'=>u r σ' H' Q)->Rb t u vs σ H Q
noncomputable def Yb (t:TG) (u:S7):S7:=fun vs σ H Q=>Rb t u vs σ H Q
theorem pR:X3 X [] ZF:=by
 intro pins s σ H vs us Q I r h
 obtain⟨e,h⟩:=h
 subst e
 cases r
 exact assignInOrder_nil ⟨σ,H,I,h⟩
theorem d8 {e:Expr} {es:List Expr} {t:TG} {u:S7} (h1:PG X e t) (h2:X3 X es u)
  (hs:(assignEach (e:: es) X.env).map (·.2)=assign e X.env:: (assignEach es X.env).map (·.2):=by rfl):X3 X (e:: es) (Yb t u):=by
 intro pins s σ H vs us Q I r h
 obtain⟨v,vr,e1,h⟩:=h
 subst e1
 cases r with
 | cons r rr=>
  rw [hs]
  refine assignInOrder_cons (dG (h1 pins s σ H _ _ _ I r h) fun _ s1 hpt=>?_)
  obtain⟨σ1,H1,I1,q1⟩:=hpt
  exact h2 pins s1 σ1 H1 _ _ Q I1 rr q1
inductive Vw (K:PySem.W.Frag) (n:Nat) (t:S7) (v:V) (σ:St) (H:Hp) (Q:St->Hp->Prop):Prop where
 | mk:∀a xs,v=.ref a->fu K H a xs->xs.length=n->t xs σ H Q->Vw K n t v σ H Q
noncomputable def XH (K:PySem.W.Frag) (n:Nat) (t:S7):TG:=fun v σ H Q=>Vw K n t v σ H Q
theorem zJ {es:List Expr} {k:Nat} {t:S7} {n:Nat} (hc:X.calm=true) (h:X3 X es t)
  (hn:(assignEach es X.env).length=n:=by rfl) (hst:(assignEach es X.env).findIdx? (·.1)=none:=by rfl):PG X (.Tuple es k pos) (XH X.K n t):=by
 intro pins s σ H v u Q I r hw
 obtain⟨a,xs,e1,hq,hl,hw⟩:=hw
 subst e1
 cases r
 obtain⟨its,rv,ht,hz⟩:=I.tuple hq
 refine assign_Tuple_tuple (I.ok.hd hc) ht (by simp [hn,<-hl,rv.length]) hst fun h' hx=>?_
 have I1:Inv X pins σ H { s with heap:=h' }:=I.kept (t':=s.toks) fun b o e=>hx b o (Nat.ne_of_lt (Heap.lt_size e)) e
 exact h pins _ σ H xs _ Q I1 (by simpa using rv) hw
noncomputable def Sh (te:TE) (g:TG):TS:=fun D σ H=>te σ H fun x H1=>g x σ H1 D.nx
theorem Qw {tg e:Expr} {te:TE} {g:TG} (he:PE X e te) (hg:PG X tg g) (hs:swapsWithSole [tg] e pos.line X.env=pure false:=by rfl) (hw:swappedStores [tg] e X.env=pure none:=by rfl)
  (h1:(assignEach [tg] X.env).map (·.2)=[assign tg X.env]:=by rfl):PS X (.Assign [tg] e pos) (Sh te g):=by
 intro pins s σ H D I h
 refine wpAny_Assign_stores (dG (he pins s σ H _ I h) fun v s1 hpt=>?_) hs hw
 obtain⟨x,H1,I1,r1,q1⟩:=hpt
 rw [h1]
 exact dG (hg pins s1 σ H1 x v _ I1 r1 q1) fun _ s2 q=>q
theorem Wv {i:Nat} {x:Str} {e:Expr} {te:TE} {pos':Pos} (hN:X.N.Nodup) (hi:X.N[i]?=some x) (hx:Loc X.env.scope x) (he:PE X e te) (hs:swapsWith e (some (.Name x pos')) pos.line X.env=pure false:=by rfl) (hf:X.fn x=true∨X.env.scope.names.lookup x=some .local:=by first | exact .inl rfl | exact .inr rfl | assumption):
  PS X (.Assign [.Name x pos'] e pos) (Sh te (yu i)):=by
 intro pins s σ H D I h
 refine wpAny_Assign_Name (dG (he pins s σ H _ I h) fun v s1 hpt=>?_) hs
 obtain⟨y,H1,I1,r1,q1⟩:=hpt
 exact JW I1 hN hi hx r1 (fun s2 I2=>⟨_,H1,I2,q1⟩) hf
end
section
variable {X:Cx} {pos:Pos}
inductive MP (c:TT) (tb:TS) (D:Ends) (σ:St) (H:Hp):Prop where
 | mk:∀W:Nat->St->Hp->Prop,((∃m,W m σ H))->(∀m σ H,W m σ H->
 c σ H fun b H1=>if b=true then ∃N:St->Hp->Prop,(∀σ' H',N σ' H'->∃m',m' <m/\W m' σ' H')/\tb { D with nx:=N,ct:=N,bk:=D.nx } σ H1 else D.nx σ H1)->MP c tb D σ H
noncomputable def Sq (c:TT) (tb:TS):TS:=fun D σ H=>MP c tb D σ H
theorem Dz {c:Expr} {body:List Stmt} {tc:TT} {tb:TS} (hp:PassesOwn (model X.prog X.w) X.A X.env X.xe) (hc:PT X c tc) (hb:Ni X body tb):PS X (.While c body [] pos) (Sq tc tb):=by
 intro pins s σ H D I h
 obtain⟨W,⟨m0,w0⟩,turn⟩:=h
 refine wpAny_While (codeAny_whileLoop (fun n s'=>∃σ' H',Inv X pins σ' H' s'/\W n σ' H') ?_ m0 ⟨σ,H,I,w0⟩)
 rintro n s1 ⟨σ1,H1,I1,w1⟩
 refine wpAny_passesOwn hp (dG (hc pins s1 σ1 H1 _ I1 (turn n σ1 H1 w1)) fun b s2 hpt=>?_)
 obtain⟨H2,I2,q2⟩:=hpt
 cases b with
 | true=>
  obtain⟨N,hN,q2⟩:=q2
  rw [if_pos rfl]
  refine wpAny_passesOwn hp (dG (hb pins s2 σ1 H2 _ I2 q2) fun f s3 q3=>?_)
  cases f with
  | next=>
   obtain⟨σ3,H3,I3,n3⟩:=q3
   obtain⟨m',hm,w3⟩:=hN σ3 H3 n3
   exact⟨m',hm,σ3,H3,I3,w3⟩
  | cont=>
   obtain⟨σ3,H3,I3,n3⟩:=q3
   obtain⟨m',hm,w3⟩:=hN σ3 H3 n3
   exact⟨m',hm,σ3,H3,I3,w3⟩
  | brk=>exact q3
  | ret v=>exact q3
 | false=>
  rw [if_neg Bool.false_ne_true]
  exact wpAny_execs_nil ⟨σ1,H2,I2,q2⟩
end
structure It where
 go:Nat->Hp->Prop
 yld:Nat->Hp->V->Hp->Prop
 stop:Nat->Hp->Prop
noncomputable def HR (X:Cx) (pins:List (Addr×Obj)) (H:Hp) (b:Addr):Prop:=
 H b=none/\b≠X.env.locals/\b∉X.fs/\(b∈X.ex∨X.s₀.heap.objs.size<=b)/\(∀x c,X.env.cells.lookup x=some c->c≠b)/\∀p∈X.pn ++ pins,p.1≠b
theorem Inv.fpOk {X:Cx} {pins:List (Addr×Obj)} {σ:St} {H H':Hp} {s:Shared} {b:Addr} (I:Inv X pins σ H s) (hb:s.heap.objs.size<=b) (hn:H' b=none):HR X pins H' b:=by
 refine⟨hn,Nat.ne_of_gt (Nat.lt_of_lt_of_le I.lt hb),I.nofs hb,.inr (Nat.le_trans I.sz hb),fun x c e z=>?_,fun p hp z=>?_⟩
 ·obtain⟨v,q⟩:=I.cell x c e
  exact absurd (Nat.lt_of_lt_of_le q.lt (by rw [z];exact hb)) (Nat.lt_irrefl _)
 ·exact absurd (Nat.lt_of_lt_of_le (Heap.lt_size (I.pin p hp).1) (by rw [z];exact hb)) (Nat.lt_irrefl _)
structure Turn (P:Program) (w:World) (K:PySem.W.Frag) (tg:Expr) (J:It) (fp:List Addr) (it:Addr) (tn:Nat->Heap->Prop):Prop where
 mem:it∈fp
 obj:∀i h,tn i h->∀b∈fp,∃o,h.get? b=some o/\∀v,o.data≠.cell v
 keep:∀i h h',tn i h->(∀b∈fp,∀o,h.get? b=some o->h'.get? b=some o)->tn i h'
 item:∀(X:Cx),X.prog=P->X.w=w->X.K=K->X.calm=true->∀(i:Nat) (pins:List (Addr×Obj)) (s:Shared) (σ:St) (H:Hp) (E:Value->Shared->Prop),Inv X pins σ H s->(∀b∈fp,HR X pins H b)->tn i s.heap->J.go i H->
  wpAny (model P w) X.A (pyNext (.ref it)) (fun r s1=>∃u,r=some u/\
   wpAny (model P w) X.A (letOwnedTupleGo tg (.ref it) u) (fun _ s2=>∃x H',Inv X pins σ H' s2/\RelV x u/\J.yld i H x H'/\tn (i+1) s2.heap/\∀b∈fp,H' b=none) E s1) E s
 done:∀(X:Cx),X.prog=P->X.w=w->X.K=K->X.calm=true->∀(i:Nat) (pins:List (Addr×Obj)) (s:Shared) (σ:St) (H:Hp) (E:Value->Shared->Prop),Inv X pins σ H s->(∀b∈fp,HR X pins H b)->tn i s.heap->J.stop i H->
  wpAny (model P w) X.A (pyNext (.ref it)) (fun r s1=>r=none/\Inv X pins σ H s1) E s
 self:∀(A:Around) (i:Nat) (s:Shared) (Q:Value->Shared->Prop) (E:Value->Shared->Prop),tn i s.heap->Q (.ref it) s->wpAny (model P w) A (pyIter (.ref it)) Q E s
noncomputable abbrev TI:=St->Hp->(It->Hp->Prop)->Prop
noncomputable def PIE (X:Cx) (pins:List (Addr×Obj)) (σ:St) (tg:Expr) (R:It->Hp->Prop) (itv:Value) (s2:Shared):Prop:=
 ∃(it:Addr) (fp:List Addr) (tn:Nat->Heap->Prop) (J:It) (H':Hp),itv=.ref it/\Inv X pins σ H' s2/\Turn X.prog X.w X.K tg J fp it tn/\tn 0 s2.heap/\(∀b∈fp,HR X pins H' b)/\R J H'
noncomputable def PI (X:Cx) (tg iter:Expr) (wi:TI):Prop:=
 ∀(pins:List (Addr×Obj)) (s:Shared) (σ:St) (H:Hp) (R:It->Hp->Prop),Inv X pins σ H s->wi σ H R->
  wpAny (model X.prog X.w) X.A (eval iter X.env) (fun v s1=>wpAny (model X.prog X.w) X.A (pyIter v) (PIE X pins σ tg R) X.xe s1) X.xe s
theorem Fq {M:Model} {A:Around} {E:Value->Shared->Prop} {s:Shared} {tg:Expr} {it:Addr} {u:Value} {o:Obj} {n:String} {vs:Array Value} {Q:Unit->Shared->Prop} (ho:s.heap.get? it=some o) (hc:o.cls=.type n) (hd:o.data=.fields vs)
  (hn:["enumerate", "zip", "dict_itemiterator", "dict_reverseitemiterator", "odict_iterator", "itertools.zip_longest", "itertools.pairwise"].contains n=false) (hQ:Q () s):wpAny M A (letOwnedTupleGo tg (.ref it) u) Q E s:=by
 unfold letOwnedTupleGo
 cases tg <;> first
  | exact wpAny_pure hQ
  | (cases u <;> first
    | exact wpAny_pure hQ
    | (refine wpAny_bind (wpAny_load ho ?_)
       rw [hc,hd]
       show wpAny M A (if (["enumerate", "zip", "dict_itemiterator", "dict_reverseitemiterator", "odict_iterator", "itertools.zip_longest", "itertools.pairwise"].contains n && vs[0]? == some (rawInt _))=true then _ else _) Q E s
       rw [if_neg (by intro h;rw [hn,Bool.false_and] at h;cases h)]
       exact wpAny_pure hQ))
noncomputable def Xh (K:PySem.W.Frag) (a:Addr):It:=
 ⟨fun i H=>∃xs x,bJ K H a xs/\xs[i]?=some x,fun i H x H'=>H'=H/\∀xs,bJ K H a xs->xs[i]?=some x,fun i H=>∃xs,bJ K H a xs/\xs.length<=i⟩
noncomputable def Xp (K:PySem.W.Frag) (a:Addr):It:=
 ⟨fun i H=>∃xs x,fu K H a xs/\xs[i]?=some x,fun i H x H'=>H'=H/\∀xs,fu K H a xs->xs[i]?=some x,fun i H=>∃xs,fu K H a xs/\xs.length<=i⟩
noncomputable def WW (lo:Int) (n:Nat):It:=⟨fun i _=>i <n,fun i H x H'=>H'=H/\x=.int (lo+i),fun i _=>n<=i⟩
theorem Pr {P:Program} {w:World} {K:PySem.W.Frag} {tg:Expr} (a it:Addr):Turn P w K tg (Xh K a) [it] it (fun i h=>h.IsListIter it a i) where
 mem:=by simp
 obj:=fun i h st b hb=>by
  have e:b=it:=by simpa using hb
  subst e
  obtain⟨o,e,c,d⟩:=st
  exact⟨o,e,fun v z=>by rw [d] at z;cases z⟩
 keep:=fun i h h' st k=>st.at fun o e=>k it (by simp) o e
 item:=by
  intro X hP hw hK hc i pins s σ H E I hf st hg
  subst hP hw hK
  obtain⟨xs,x,hq,hx⟩:=hg
  obtain⟨its,rv,p,hz⟩:=I.list hq
  obtain⟨u,hu,ru⟩:=rv.get hx
  obtain⟨f0,f1,f2,f3,f4,f5⟩:=hf it (by simp)
  refine wpAny_pyNext_list_item st p.isList (x:=u) (by simpa using hu) fun h' st' sb=>?_
  have I1:Inv X pins σ H { s with heap:=h' }:=I.turned (t':=s.toks) (fun b o hb e=>(sb.2 b hb).trans e) f0 f1 f3 f4 f5
  obtain⟨o,e,c,d⟩:=id st'
  exact⟨u,rfl,Fq (s:={ s with heap:=h' }) e c d (by decide) ⟨x,H,I1,ru,⟨rfl,fun ys hy=>by rw [I.list_inj hy hq];exact hx⟩,st',fun b hb=>(hf b hb).1⟩⟩
 done:=by
  intro X hP hw hK hc i pins s σ H E I hf st hg
  subst hP hw hK
  obtain⟨xs,hq,hx⟩:=hg
  obtain⟨its,rv,p,hz⟩:=I.list hq
  obtain⟨f0,f1,f2,f3,f4,f5⟩:=hf it (by simp)
  have hl:=rv.length
  exact wpAny_pyNext_list_end (I.ok.hd hc) st p.isList (by simp;omega) fun h' eb=>⟨rfl,I.turned (t':=s.toks) (fun b o hb e=>eb b o hb e) f0 f1 f3 f4 f5⟩
 self:=fun _ _ _ _ _ st h=>wpAny_pyIter_listiter st h
theorem Mp {P:Program} {w:World} {K:PySem.W.Frag} {tg:Expr} (a it:Addr):Turn P w K tg (Xp K a) [it] it (fun i h=>h.IsTupleIter it a i) where
 mem:=by simp
 obj:=fun i h st b hb=>by
  have e:b=it:=by simpa using hb
  subst e
  obtain⟨o,e,c,d⟩:=st
  exact⟨o,e,fun v z=>by rw [d] at z;cases z⟩
 keep:=fun i h h' st k=>st.at fun o e=>k it (by simp) o e
 item:=by
  intro X hP hw hK hc i pins s σ H E I hf st hg
  subst hP hw hK
  obtain⟨xs,x,hq,hx⟩:=hg
  obtain⟨its,rv,p,hz⟩:=I.tuple hq
  obtain⟨u,hu,ru⟩:=rv.get hx
  obtain⟨f0,f1,f2,f3,f4,f5⟩:=hf it (by simp)
  refine wpAny_pyNext_tuple_item st (show s.heap.IsTuple a its.toArray from p) (x:=u) (by simpa using hu) fun h' st' sb=>?_
  have I1:Inv X pins σ H { s with heap:=h' }:=I.turned (t':=s.toks) (fun b o hb e=>(sb.2 b hb).trans e) f0 f1 f3 f4 f5
  obtain⟨o,e,c,d⟩:=id st'
  exact⟨u,rfl,Fq (s:={ s with heap:=h' }) e c d (by decide) ⟨x,H,I1,ru,⟨rfl,fun ys hy=>by rw [I.tuple_inj hy hq];exact hx⟩,st',fun b hb=>(hf b hb).1⟩⟩
 done:=by
  intro X hP hw hK hc i pins s σ H E I hf st hg
  subst hP hw hK
  obtain⟨xs,hq,hx⟩:=hg
  obtain⟨its,rv,p,hz⟩:=I.tuple hq
  obtain⟨f0,f1,f2,f3,f4,f5⟩:=hf it (by simp)
  have hl:=rv.length
  exact wpAny_pyNext_tuple_end (I.ok.hd hc) st (show s.heap.IsTuple a its.toArray from p) (by simp;omega) fun h' eb=>⟨rfl,I.turned (t':=s.toks) (fun b o hb e=>eb b o hb e) f0 f1 f3 f4 f5⟩
 self:=fun _ _ _ _ _ st h=>wpAny_pyIter_tupleiter st h
theorem Mq {P:Program} {w:World} {K:PySem.W.Frag} {tg:Expr} (it:Addr) (lo:Int) (n:Nat):Turn P w K tg (WW lo n) [it] it (fun i h=>IsRangeIter h it (lo+(i:Nat) * 1) ((n:Int) - (i:Nat)) 1) where
 mem:=by simp
 obj:=fun i h st b hb=>by
  have e:b=it:=by simpa using hb
  subst e
  exact⟨_,st,fun v z=>by
   have z':Data.fields _=Data.cell v:=z
   cases z'⟩
 keep:=fun i h h' st k=>k it (by simp) _ st
 item:=by
  intro X hP hw hK hc i pins s σ H E I hf st hg
  subst hP hw hK
  obtain⟨f0,f1,f2,f3,f4,f5⟩:=hf it (by simp)
  have W:=Walks.range (prog:=X.prog) (w:=X.w) (I.ok.hd hc) it lo 1 n
  refine W.item i s _ _ hg st fun v h' tk hv st' kk=>?_
  obtain⟨t,rfl⟩:=hv
  have I1:Inv X pins σ H { s with heap:=h',toks:=tk }:=I.turned (fun b o hb e=>kk b o (by simpa using hb) e) f0 f1 f3 f4 f5
  refine⟨_,rfl,Fq (s:={ s with heap:=h',toks:=tk }) (n:= "range_iterator") st' rfl rfl (by decide) ⟨.int (lo+i),H,I1,⟨t,?_⟩,⟨rfl,rfl⟩,st',fun b hb=>(hf b hb).1⟩⟩
  rw [Int.mul_one]
 done:=by
  intro X hP hw hK hc i pins s σ H E I hf st hg
  subst hP hw hK
  obtain⟨f0,f1,f2,f3,f4,f5⟩:=hf it (by simp)
  exact wpAny_pyNext_range_end (I.ok.hd hc) st (by have:n<=i:=hg;omega) fun h' eb=>⟨rfl,I.turned (t':=s.toks) (fun b o hb e=>eb b o hb e) f0 f1 f3 f4 f5⟩
 self:=fun _ _ _ _ _ st h=>wpAny_pyIter_rangeiter st h
section
variable {X:Cx} {tg:Expr}
inductive Su (K:PySem.W.Frag) (R:It->Hp->Prop) (x:V) (H1:Hp):Prop where
 | mk:∀a,x=.ref a->((∃xs,bJ K H1 a xs))->R (Xh K a) H1->Su K R x H1
noncomputable def Sw (K:PySem.W.Frag) (tl:TE):TI:=fun σ H R=>tl σ H fun x H1=>Su K R x H1
inductive Vk (K:PySem.W.Frag) (R:It->Hp->Prop) (x:V) (H1:Hp):Prop where
 | mk:∀a,x=.ref a->((∃xs,fu K H1 a xs))->R (Xp K a) H1->Vk K R x H1
noncomputable def Yy (K:PySem.W.Frag) (tl:TE):TI:=fun σ H R=>tl σ H fun x H1=>Vk K R x H1
theorem bM {l:Expr} {tl:TE} (hl:PE X l tl):PI X tg l (Sw X.K tl):=by
 intro pins s σ H R I h
 refine dG (hl pins s σ H _ I h) fun v s1 hpt=>?_
 obtain⟨x,H1,I1,r1,q1⟩:=hpt
 obtain⟨a,e,⟨xs,hq⟩,q⟩:=q1
 subst e
 cases r1
 obtain⟨its,rv,p,hz⟩:=I1.list hq
 refine wpAny_pyIter_list p.isList ?_
 refine⟨s1.heap.objs.size,[s1.heap.objs.size],_,_,H1,rfl,I1.kept (t':=s1.toks) fun b o e=>Heap.get?_push_of_some _ e,Pr a _,⟨_,Heap.get?_push_size _ rfl,rfl,rfl⟩,fun b hb=>?_,q⟩
 have e:b=s1.heap.objs.size:=by simpa using hb
 subst e
 exact I1.fpOk (Nat.le_refl _) (I1.hok.fresh (Nat.le_refl _))
theorem Ho {l:Expr} {tl:TE} (hl:PE X l tl):PI X tg l (Yy X.K tl):=by
 intro pins s σ H R I h
 refine dG (hl pins s σ H _ I h) fun v s1 hpt=>?_
 obtain⟨x,H1,I1,r1,q1⟩:=hpt
 obtain⟨a,e,⟨xs,hq⟩,q⟩:=q1
 subst e
 cases r1
 obtain⟨its,rv,p,hz⟩:=I1.tuple hq
 refine wpAny_pyIter_tuple (show s1.heap.IsTuple a its.toArray from p) ?_
 refine⟨s1.heap.objs.size,[s1.heap.objs.size],_,_,H1,rfl,I1.kept (t':=s1.toks) fun b o e=>Heap.get?_push_of_some _ e,Mp a _,⟨_,Heap.get?_push_size _ rfl,rfl,rfl⟩,fun b hb=>?_,q⟩
 have e:b=s1.heap.objs.size:=by simpa using hb
 subst e
 exact I1.fpOk (Nat.le_refl _) (I1.hok.fresh (Nat.le_refl _))
theorem Rz {pins:List (Addr×Obj)} {σ:St} {H:Hp} {s:Shared} {R:It->Hp->Prop} {E:Value->Shared->Prop} {lo hi:Int} {t u v:Tok} {tk:Nat} (I:Inv X pins σ H s) (h1: -(2 ^ 62)<=lo) (h2:lo <2 ^ 62) (h3: -(2 ^ 62)<=hi) (h4:hi <2 ^ 62)
  (q:R (WW lo (hi - lo).toNat) H):wpAny (model X.prog X.w) X.A (pyIter (.ref s.heap.objs.size)) (PIE X pins σ tg R) E { s with heap:=s.heap.push { cls:=.type "range",data:=.fields #[.int lo t,.int hi u,.int 1 v] },toks:=tk }:=by
 refine wpAny_pyIter_range (IsRange.new ..) (small_one h1 h2 h3 h4) ?_
 have I1:Inv X pins σ H { s with heap:=s.heap.push { cls:=.type "range",data:=.fields #[.int lo t,.int hi u,.int 1 v] },toks:=tk }:=I.kept fun b o e=>Heap.get?_push_of_some _ e
 refine⟨(s.heap.push { cls:=.type "range",data:=.fields #[.int lo t,.int hi u,.int 1 v] }).objs.size,[(s.heap.push { cls:=.type "range",data:=.fields #[.int lo t,.int hi u,.int 1 v] }).objs.size],_,_,H,rfl,
  I1.kept (t':=tk) fun b o e=>Heap.get?_push_of_some _ e,Mq _ lo (hi - lo).toNat,?_,fun b hb=>?_,q⟩
 ·have e1:lo+((0:Nat):Int) * 1=lo:=by simp
  have e2:(((hi - lo).toNat:Nat):Int) - ((0:Nat):Int)=Builtin.Range.rangeSize lo hi 1:=by rw [rangeSize_one];split <;> omega
  show IsRangeIter _ _ (lo+((0:Nat):Int) * 1) ((((hi - lo).toNat:Nat):Int) - ((0:Nat):Int)) 1
  rw [e1,e2]
  exact Heap.get?_push_size _ rfl
 ·have e:b=(s.heap.push { cls:=.type "range",data:=.fields #[.int lo t,.int hi u,.int 1 v] }).objs.size:=by simpa using hb
  subst e
  exact I1.fpOk (Nat.le_refl _) (I1.hok.fresh (Nat.le_refl _))
inductive Qp (R:It->Hp->Prop) (vs:List V) (H1:Hp):Prop where
 | mk:∀j:Int,vs=[.int j]-> -(2 ^ 62)<=j->j <2 ^ 62->R (WW 0 j.toNat) H1->Qp R vs H1
noncomputable def XN (ta:TA):TI:=fun σ H R=>ta σ H fun vs H1=>Qp R vs H1
theorem jm {a:Expr} {ta:TA} {p pos:Pos} (hg:Gl X "range") (hm:X.mg "range" =none) (ha:PA X [a] ta) (hs:starEach [a] X.env=[(false,eval a X.env)]:=by rfl):PI X tg (.Call (.Name "range" p) [a] [] pos) (XN ta):=by
 intro pins s σ H R I h
 refine Call_ (za I hg hm boot_range (PyProof.Rows.callWith_type1 (dG (ha pos pins s σ H _ I h) fun us s1 ⟨vs,H1,I1,r1,q1⟩=>?_) hs rfl))
 obtain⟨j,e,q1,q2,q⟩:=q1
 subst e
 cases r1 with
 | cons r rr=>
  cases rr
  obtain⟨t,rfl⟩:=r
  exact call_range_1 (Rz I1 (by omega) (by omega) q1 q2 (by simpa using q))
noncomputable def Zh (wi:TI) (g:TG) (tb:TS):TS:=fun D σ H=>wi σ H fun J H1=>∃W:Nat->Nat->St->Hp->Prop,(∃m,W 0 m σ H1)/\∀i m σ H,W i m σ H->
 (J.stop i H/\D.nx σ H)∨(J.go i H/\∃N:St->Hp->Prop,(∀σ' H',N σ' H'->∃m',m' <m/\W (i+1) m' σ' H')/\∀x H',J.yld i H x H'->g x σ H' fun σ2 H2=>tb { D with nx:=N,ct:=N,bk:=D.nx } σ2 H2)
noncomputable def Jb (fp:List Addr) (h:Heap):List (Addr×Obj):=fp.filterMap fun b=>(h.get? b).map fun o=>(b,o)
theorem rK {fp:List Addr} {h:Heap} {b:Addr} {o:Obj} (hb:b∈fp) (e:h.get? b=some o):(b,o)∈Jb fp h:=List.mem_filterMap.mpr ⟨b,hb,by rw [e];rfl⟩
theorem O4 {fp:List Addr} {h:Heap} {p:Addr×Obj} (hp:p∈Jb fp h):p.1∈fp/\h.get? p.1=some p.2:=by
 obtain⟨b,hb,e⟩:=List.mem_filterMap.mp hp
 cases q:h.get? b with
 | none=>rw [q] at e;cases e
 | some o=>
  rw [q] at e
  have e':(b,o)=p:=Option.some.inj e
  subst e'
  exact⟨hb,q⟩
theorem Inv.pinned {pins:List (Addr×Obj)} {σ:St} {H:Hp} {s:Shared} {fp:List Addr} (I:Inv X pins σ H s) (hf:∀b∈fp,HR X pins H b) (ho:∀b∈fp,∃o,s.heap.get? b=some o/\∀v,o.data≠.cell v):Inv X (pins ++ Jb fp s.heap) σ H s:=
 I.pins_of fun p hp=>(List.mem_append.mp hp).elim (fun z=>I.pin p (List.mem_append_right _ z)) fun z=>by
  obtain⟨hb,e⟩:=O4 z
  obtain⟨f0,f1,f2,_⟩:=hf p.1 hb
  obtain⟨o,e',d⟩:=ho p.1 hb
  rw [e] at e';cases e'
  exact⟨e,f0,f1,f2,d⟩
theorem Inv.unpinned {pins pl:List (Addr×Obj)} {σ:St} {H:Hp} {s:Shared} (I:Inv X (pins ++ pl) σ H s):Inv X pins σ H s:=I.pins_of fun p hp=>I.pin p (List.mem_append_right _ (List.mem_append_left _ hp))
theorem dw {iter:Expr} {body:List Stmt} {wi:TI} {g:TG} {tb:TS} {pos:Pos} (hp:PassesOwn (model X.prog X.w) X.A X.env X.xe) (hc:X.calm=true) (hi:PI X tg iter wi) (hg:PG X tg g) (hb:Ni X body tb)
  (hs:∀x,foldedSetIterable iter X.env x=pure x:=by intro _;rfl):PS X (.For tg iter body [] pos) (Zh wi g tb):=by
 intro pins s σ H D I h
 refine wpAny_For (dG (hi pins s σ H _ I h) fun v s1 h1=>dG h1 fun itv s2 h2=>?_) hs
 obtain⟨it,fp,tn,J,H2,e,I2,T,st2,f2,W,⟨m0,w0⟩,turn⟩:=h2
 subst e
 have stat:∀{H':Hp},(∀b∈fp,H' b=none)->∀b∈fp,HR X pins H' b:=fun hn b hb=>⟨hn b hb,(f2 b hb).2⟩
 refine codeAny_forLoop_any (fun n s'=>∃i σ' H',Inv X pins σ' H' s'/\tn i s'.heap/\(∀b∈fp,H' b=none)/\W i n σ' H') ?_ m0 ⟨0,σ,H2,I2,st2,fun b hb=>(f2 b hb).1,w0⟩
 rintro n s3 ⟨i,σ3,H3,I3,st3,fr3,w3⟩
 rcases turn i n σ3 H3 w3 with ⟨stop,qn⟩ | ⟨go,N,hN,step⟩
 ·refine wpAny_passesOwn hp (dG (T.done X rfl rfl rfl hc i pins s3 σ3 H3 X.xe I3 (stat fr3) st3 stop) fun r s4 hpt=>?_)
  obtain⟨hr,I4⟩:=hpt
  subst hr
  exact wpAny_execs_nil ⟨σ3,H3,I4,qn⟩
 ·refine wpAny_passesOwn hp (dG (T.item X rfl rfl rfl hc i pins s3 σ3 H3 X.xe I3 (stat fr3) st3 go) fun r s4 hpt=>?_)
  obtain⟨u,hr,h4⟩:=hpt
  subst hr
  refine wpAny_passesOwn hp (dG h4 fun _ s5 hpt=>?_)
  obtain⟨x,H5,I5,r5,y5,st5,fr5⟩:=hpt
  have I5':=I5.pinned (stat fr5) (T.obj _ _ st5)
  refine wpAny_passesOwn hp (dG (hg _ s5 σ3 H5 x u _ I5' r5 (step x H5 y5)) fun _ s6 hpt=>?_)
  obtain⟨σ6,H6,I6,q6⟩:=hpt
  refine wpAny_passesOwn hp (dG (hb _ s6 σ6 H6 _ I6 q6) fun f s7 q7=>?_)
  have again:∀{σ7:St} {H7:Hp},Inv X (pins ++ Jb fp s5.heap) σ7 H7 s7->N σ7 H7->∃m,m <n/\∃i σ' H',Inv X pins σ' H' s7/\tn i s7.heap/\(∀b∈fp,H' b=none)/\W i m σ' H':=fun {σ7 H7} I7 n7=>by
   obtain⟨m',hm,w7⟩:=hN σ7 H7 n7
   refine⟨m',hm,i+1,σ7,H7,I7.unpinned,T.keep _ _ _ st5 fun b hb o e=>(I7.pin (b,o) (List.mem_append_right _ (List.mem_append_right _ (rK hb e)))).1,fun b hb=>?_,w7⟩
   obtain⟨o,e,d⟩:=T.obj _ _ st5 b hb
   exact(I7.pin (b,o) (List.mem_append_right _ (List.mem_append_right _ (rK hb e)))).2.1
  cases f with
  | next=>obtain⟨σ7,H7,I7,n7⟩:=q7;exact again I7 n7
  | cont=>obtain⟨σ7,H7,I7,n7⟩:=q7;exact again I7 n7
  | brk=>obtain⟨σ7,H7,I7,q7⟩:=q7;exact⟨σ7,H7,I7.unpinned,q7⟩
  | ret v=>obtain⟨x7,σ7,H7,I7,r7,q7⟩:=q7;exact⟨x7,σ7,H7,I7.unpinned,r7,q7⟩
end
theorem dH {K:PySem.W.Frag} {a:Addr} {xs:List V} {g:TG} {tb:TS} {D:Ends} {σ:St} {H:Hp} (Pv:Nat->St->Hp->Prop) (h0:Pv 0 σ H) (hl:∀i σ H,i<=xs.length->Pv i σ H->bJ K H a xs)
  (hs:∀i x σ H,xs[i]?=some x->Pv i σ H->g x σ H fun σ2 H2=>tb { D with nx:=Pv (i+1),ct:=Pv (i+1),bk:=D.nx } σ2 H2) (hd:∀σ H,Pv xs.length σ H->D.nx σ H):
  ∃W:Nat->Nat->St->Hp->Prop,(∃m,W 0 m σ H)/\∀i m σ H,W i m σ H->
   ((Xh K a).stop i H/\D.nx σ H)∨((Xh K a).go i H/\∃N:St->Hp->Prop,(∀σ' H',N σ' H'->∃m',m' <m/\W (i+1) m' σ' H')/\∀x H',(Xh K a).yld i H x H'->g x σ H' fun σ2 H2=>tb { D with nx:=N,ct:=N,bk:=D.nx } σ2 H2):=by
 refine⟨fun i m σ H=>m=xs.length - i/\i<=xs.length/\Pv i σ H,⟨xs.length,by simp,Nat.zero_le _,h0⟩,?_⟩
 rintro i m σ H ⟨rfl,hi,p⟩
 have q:=hl i σ H hi p
 by_cases hlt:i <xs.length
 ·refine .inr ⟨⟨xs,xs[i],q,by simp [hlt]⟩,Pv (i+1),fun σ' H' p'=>⟨xs.length - (i+1),by omega,rfl,hlt,p'⟩,fun x H' y=>?_⟩
  obtain⟨e,y⟩:=y
  subst e
  exact hs i x σ _ (y xs q) p
 ·have e:i=xs.length:=by omega
  subst e
  exact .inl ⟨⟨xs,q,Nat.le_refl _⟩,hd σ H p⟩
theorem Tp {K:PySem.W.Frag} {a:Addr} {xs:List V} {g:TG} {tb:TS} {D:Ends} {σ:St} {H:Hp} (Pv:Nat->St->Hp->Prop) (h0:Pv 0 σ H) (hl:∀i σ H,i<=xs.length->Pv i σ H->fu K H a xs)
  (hs:∀i x σ H,xs[i]?=some x->Pv i σ H->g x σ H fun σ2 H2=>tb { D with nx:=Pv (i+1),ct:=Pv (i+1),bk:=D.nx } σ2 H2) (hd:∀σ H,Pv xs.length σ H->D.nx σ H):
  ∃W:Nat->Nat->St->Hp->Prop,(∃m,W 0 m σ H)/\∀i m σ H,W i m σ H->
   ((Xp K a).stop i H/\D.nx σ H)∨((Xp K a).go i H/\∃N:St->Hp->Prop,(∀σ' H',N σ' H'->∃m',m' <m/\W (i+1) m' σ' H')/\∀x H',(Xp K a).yld i H x H'->g x σ H' fun σ2 H2=>tb { D with nx:=N,ct:=N,bk:=D.nx } σ2 H2):=by
 refine⟨fun i m σ H=>m=xs.length - i/\i<=xs.length/\Pv i σ H,⟨xs.length,by simp,Nat.zero_le _,h0⟩,?_⟩
 rintro i m σ H ⟨rfl,hi,p⟩
 have q:=hl i σ H hi p
 by_cases hlt:i <xs.length
 ·refine .inr ⟨⟨xs,xs[i],q,by simp [hlt]⟩,Pv (i+1),fun σ' H' p'=>⟨xs.length - (i+1),by omega,rfl,hlt,p'⟩,fun x H' y=>?_⟩
  obtain⟨e,y⟩:=y
  subst e
  exact hs i x σ _ (y xs q) p
 ·have e:i=xs.length:=by omega
  subst e
  exact .inl ⟨⟨xs,q,Nat.le_refl _⟩,hd σ H p⟩
theorem yR {lo:Int} {n:Nat} {g:TG} {tb:TS} {D:Ends} {σ:St} {H:Hp} (Pv:Nat->St->Hp->Prop) (h0:Pv 0 σ H)
  (hs:∀i σ H,i <n->Pv i σ H->g (.int (lo+i)) σ H fun σ2 H2=>tb { D with nx:=Pv (i+1),ct:=Pv (i+1),bk:=D.nx } σ2 H2) (hd:∀σ H,Pv n σ H->D.nx σ H):
  ∃W:Nat->Nat->St->Hp->Prop,(∃m,W 0 m σ H)/\∀i m σ H,W i m σ H->
   ((WW lo n).stop i H/\D.nx σ H)∨((WW lo n).go i H/\∃N:St->Hp->Prop,(∀σ' H',N σ' H'->∃m',m' <m/\W (i+1) m' σ' H')/\∀x H',(WW lo n).yld i H x H'->g x σ H' fun σ2 H2=>tb { D with nx:=N,ct:=N,bk:=D.nx } σ2 H2):=by
 refine⟨fun i m σ H=>m=n - i/\i<=n/\Pv i σ H,⟨n,by simp,Nat.zero_le _,h0⟩,?_⟩
 rintro i m σ H ⟨rfl,hi,p⟩
 by_cases hlt:i <n
 ·refine .inr ⟨hlt,Pv (i+1),fun σ' H' p'=>⟨n - (i+1),by omega,rfl,hlt,p'⟩,fun x H' y=>?_⟩
  obtain⟨e,y⟩:=y
  subst e y
  exact hs i σ _ hlt p
 ·have e:i=n:=by omega
  subst e
  exact .inl ⟨Nat.le_refl _,hd σ H p⟩
theorem Dp {c:TT} {tb:TS} {D:Ends} {σ:St} {H:Hp} (Pv:St->Hp->Prop) (μ:St->Hp->Nat) (h0:Pv σ H)
  (hs:∀σ H,Pv σ H->c σ H fun b H1=>if b=true then tb { D with nx:=fun σ' H'=>Pv σ' H'/\μ σ' H' <μ σ H,ct:=fun σ' H'=>Pv σ' H'/\μ σ' H' <μ σ H,bk:=D.nx } σ H1 else D.nx σ H1)
  (mono:∀σ H Q Q',(∀b H1,Q b H1->Q' b H1)->c σ H Q->c σ H Q'):Sq c tb D σ H:=by
 refine⟨fun m σ H=>m=μ σ H/\Pv σ H,⟨_,rfl,h0⟩,?_⟩
 rintro m σ H ⟨rfl,p⟩
 refine mono σ H _ _ (fun b H1 q=>?_) (hs σ H p)
 cases b with
 | true=>exact⟨_,fun σ' H' ⟨p',l⟩=>⟨_,l,rfl,p'⟩,q⟩
 | false=>exact q
noncomputable abbrev R2:=V->V->Hp->VK->Prop
noncomputable def sY (X:Cx) (f:Value->Value->Sem Value) (r:R2):Prop:=
 ∀(pins:List (Addr×Obj)) (s:Shared) (σ:St) (H:Hp) (x y:V) (v u:Value) (Q:VK),Inv X pins σ H s->RelV x v->RelV y u->r x y H Q->
  wpAny (model X.prog X.w) X.A (f v u) (EP X pins σ Q) X.xe s
noncomputable def oW (X:Cx) (f:Value) (r:List V->Hp->VK->Prop):Prop:=
 ∀(pins:List (Addr×Obj)) (s:Shared) (σ:St) (H:Hp) (xs:List V) (us:List Value) (Q:VK),Inv X pins σ H s->Vals xs us->r xs H Q->
  wpAny (model X.prog X.w) X.A (call f us) (EP X pins σ Q) X.xe s
noncomputable def YM (r:R2) (ta tb:TE):TE:=fun σ H Q=>ta σ H fun x H1=>tb σ H1 fun y H2=>r x y H2 Q
inductive rII (C:Int->Int->Prop) (g:Int->Int->V) (x:V) (y:V) (H:Hp) (Q:VK):Prop where
 | mk:∀i j,x=.int i->y=.int j->C i j->Q (g i j) H->rII C g x y H Q
noncomputable def rI (C:Int->Int->Prop) (g:Int->Int->V):R2:=fun x y H Q=>rII C g x y H Q
inductive X4 (g:Int->Int->V) (x:V) (y:V) (H:Hp) (Q:VK):Prop where
 | mk:∀i j,x=.int i->y=.int j->Q (g i j) H->X4 g x y H Q
noncomputable def S6 (g:Int->Int->V):R2:=fun x y H Q=>X4 g x y H Q
section
variable {X:Cx} {a b c:Expr} {ta tb tc:TE} {pos:Pos}
theorem WL (ha:PE X a ta) (hb:PE X b tb) {pins:List (Addr×Obj)} {s:Shared} {σ:St} {H:Hp} {R:V->V->Hp->Prop} (I:Inv X pins σ H s)
  (h:ta σ H fun x H1=>tb σ H1 fun y H2=>R x y H2) {Q:Value->Shared->Prop} {f:Value->Value->Sem Value}
  (hf:∀v u s2 x y H2,Inv X pins σ H2 s2->RelV x v->RelV y u->R x y H2->wpAny (model X.prog X.w) X.A (f v u) Q X.xe s2):
  wpAny (model X.prog X.w) X.A (eval a X.env) (fun v s₁=>wpAny (model X.prog X.w) X.A (eval b X.env) (fun u s₂=>wpAny (model X.prog X.w) X.A (f v u) Q X.xe s₂) X.xe s₁) X.xe s:=by
 refine dG (ha pins s σ H _ I h) fun v s1 hpt=>?_
 obtain⟨x,H1,I1,r1,q1⟩:=hpt
 refine dG (hb pins s1 σ H1 _ I1 q1) fun u s2 hpt=>?_
 obtain⟨y,H2,I2,r2,q2⟩:=hpt
 exact hf v u s2 x y H2 I2 r1 r2 q2
theorem bC {op:Operator} {r:R2} (ho:sY X (binaryOp op) r) (ha:PE X a ta) (hb:PE X b tb):PE X (.BinOp a op b pos) (YM r ta tb):=by
 intro pins s σ H Q I h
 exact wpAny_BinOp (WL ha hb I h fun v u s2 x y H2 I2 rx ry q=>ho pins s2 σ H2 x y v u Q I2 rx ry q)
theorem XS {f:Value->Value->Sem Value} {C:Int->Int->Prop} {g:Int->Int->Int}
  (rule:∀(i j:Int) (t u:Tok) (s:Shared) (Q:Value->Shared->Prop) (E:Value->Shared->Prop),C i j->Q (.int (g i j) s.toks) { s with toks:=s.toks+1 }->wpAny (model X.prog X.w) X.A (f (.int i t) (.int j u)) Q E s):
  sY X f (rI C fun i j=>.int (g i j)):=by
 intro pins s σ H x y v u Q I rx ry h
 obtain⟨i,j,rfl,rfl,hc,q⟩:=h
 obtain⟨t,rfl⟩:=rx
 obtain⟨t',rfl⟩:=ry
 exact rule i j t t' s _ _ hc ⟨.int (g i j),H,I.tok _,⟨_,rfl⟩,q⟩
theorem Tf {f:Value->Value->Sem Value} {g:Int->Int->Int}
  (rule:∀(i j:Int) (t u:Tok) (s:Shared) (Q:Value->Shared->Prop) (E:Value->Shared->Prop),Q (.int (g i j) s.toks) { s with toks:=s.toks+1 }->wpAny (model X.prog X.w) X.A (f (.int i t) (.int j u)) Q E s):
  sY X f (S6 fun i j=>.int (g i j)):=by
 intro pins s σ H x y v u Q I rx ry h
 obtain⟨i,j,rfl,rfl,q⟩:=h
 obtain⟨t,rfl⟩:=rx
 obtain⟨t',rfl⟩:=ry
 exact rule i j t t' s _ _ ⟨.int (g i j),H,I.tok _,⟨_,rfl⟩,q⟩
theorem Th {f:Value->Value->Sem Value} {g:Int->Int->Bool}
  (rule:∀(i j:Int) (t u:Tok) (s:Shared) (Q:Value->Shared->Prop) (E:Value->Shared->Prop),Q (.bool (g i j)) s->wpAny (model X.prog X.w) X.A (f (.int i t) (.int j u)) Q E s):
  sY X f (S6 fun i j=>.bl (g i j)):=by
 intro pins s σ H x y v u Q I rx ry h
 obtain⟨i,j,rfl,rfl,q⟩:=h
 obtain⟨t,rfl⟩:=rx
 obtain⟨t',rfl⟩:=ry
 exact rule i j t t' s _ _ ⟨.bl (g i j),H,I,rfl,q⟩
noncomputable def Z2 (i j:Int):Prop:=0<=j/\j<=1000000/\i.natAbs <2 ^ 64
theorem Lh (k:Nat):(0:Int)<=2 ^ k:=by
 rw [two_pow_cast]
 exact Int.natCast_nonneg _
theorem d9:sY X (binaryOp .Add) (S6 fun i j=>.int (i+j)):=Tf fun _ _ _ _ _ _ _ q=>add_int q
theorem Ib:sY X (binaryOp .Sub) (S6 fun i j=>.int (i - j)):=Tf fun _ _ _ _ _ _ _ q=>sub_int q
theorem cX:sY X (binaryOp .Mod) (rI (fun _ j=>0 <j) fun i j=>.int (i % j)):=XS fun i j _ _ _ _ _ hc q=>by
 have h1:(0:Int) <j:=hc
 exact mod_int' (by omega) (by rw [Int.fmod_eq_emod_of_nonneg i (by omega)];exact q)
theorem Sv:sY X (binaryOp .Pow) (rI Z2 fun i j=>.int (i ^ j.toNat)):=XS fun _ _ _ _ _ _ _ hc q=>pow_int_small hc.1 hc.2.1 hc.2.2 q
theorem Wt:sY X (binaryOp .RShift) (rI (fun _ j=>0<=j) fun i j=>.int (i / 2 ^ j.toNat)):=XS fun i j _ _ _ _ _ hc q=>
 rshift_int hc (by rw [Int.fdiv_eq_ediv_of_nonneg i (Lh _)];exact q)
theorem WR:sY X (binaryOp .BitAnd) (S6 fun i j=>.int (Builtin.bitAnd i j)):=Tf fun _ _ _ _ _ _ _ q=>and_int q
theorem HS:sY X (inplaceOp .Add) (S6 fun i j=>.int (i+j)):=Tf fun _ _ _ _ _ _ _ q=>iadd_int q
end
noncomputable def Yw:V->V->Bool
 | .non,.non=>true | .non,.int _=>true | .int _,.non=>true | .non,.bl _=>true | .bl _,.non=>true | .non,.str _=>true | .str _,.non=>true
 | .int _,.int _=>true | .bl _,.bl _=>true | .str _,.str _=>true | .byt _,.byt _=>true
 | .int _,.str _=>true | .str _,.int _=>true | .bl _,.str _=>true | .str _,.bl _=>true
 | _,_=>false
noncomputable def rEq:R2:=fun x y H Q=>Yw x y=true/\Q (.bl (decide (x=y))) H
noncomputable def rNe:R2:=fun x y H Q=>Yw x y=true/\Q (.bl (!decide (x=y))) H
theorem M3 {i j:Int}:decide (V.int i=V.int j)=(i == j):=by
 rw [Bool.eq_iff_iff]
 simp
theorem SX {i j:Bool}:decide (V.bl i=V.bl j)=(i == j):=by
 rw [Bool.eq_iff_iff]
 simp
theorem Nf {i j:Str}:decide (V.str i=V.str j)=(i == j):=by
 rw [Bool.eq_iff_iff]
 simp
theorem Nb {i j:Array UInt8}:decide (V.byt i=V.byt j)=(i.toList == j.toList):=by
 rw [Bool.eq_iff_iff]
 cases i
 cases j
 simp
section
variable {X:Cx} {a b c:Expr} {ta tb tc:TE} {pos:Pos}
theorem cC {pins:List (Addr×Obj)} {σ:St} {H:Hp} {s:Shared} {Q:VK} {k k':Bool} (I:Inv X pins σ H s) (q:Q (.bl k) H) (e:k=k'):EP X pins σ Q (.bool k') s:=by
 subst e
 exact⟨.bl k,H,I,rfl,q⟩
theorem iG:sY X (compareOp .Eq) rEq:=by
 intro pins s σ H x y v u Q I rx ry h
 obtain⟨hs,q⟩:=h
 cases x with
 | non=>
  cases rx
  cases y with
  | non=>cases ry;exact PySem.EqNone.eq_none_none (cC I q (by simp))
  | bl j=>cases ry;exact PySem.EqNone.eq_none_bool (cC I q (by simp))
  | int j=>obtain⟨t',rfl⟩:=ry;exact PySem.EqNone.eq_none_int (cC I q (by simp))
  | str j=>obtain⟨t',rfl⟩:=ry;exact PySem.EqNone.eq_none_str (cC I q (by simp))
  | _=>exact absurd (show false=true from hs) Bool.false_ne_true
 | bl i=>
  cases rx
  cases y with
  | non=>cases ry;exact PySem.EqNone.eq_bool_none (cC I q (by simp))
  | bl j=>cases ry;exact eq_bool (cC I q SX)
  | str j=>obtain⟨t',rfl⟩:=ry;exact PySem.EqMixed.eq_bool_str (cC I q (by simp))
  | _=>exact absurd (show false=true from hs) Bool.false_ne_true
 | int i=>
  obtain⟨t,rfl⟩:=rx
  cases y with
  | non=>cases ry;exact PySem.EqNone.eq_int_none (cC I q (by simp))
  | int j=>obtain⟨t',rfl⟩:=ry;exact eq_int (cC I q M3)
  | str j=>obtain⟨t',rfl⟩:=ry;exact PySem.EqMixed.eq_int_str (cC I q (by simp))
  | _=>exact absurd (show false=true from hs) Bool.false_ne_true
 | str i=>
  obtain⟨t,rfl⟩:=rx
  cases y with
  | non=>cases ry;exact PySem.EqNone.eq_str_none (cC I q (by simp))
  | bl j=>cases ry;exact PySem.EqMixed.eq_str_bool (cC I q (by simp))
  | int j=>obtain⟨t',rfl⟩:=ry;exact PySem.EqMixed.eq_str_int (cC I q (by simp))
  | str j=>obtain⟨t',rfl⟩:=ry;exact eq_str (cC I q Nf)
  | _=>exact absurd (show false=true from hs) Bool.false_ne_true
 | byt i=>
  obtain⟨t,rfl⟩:=rx
  cases y with
  | byt j=>obtain⟨t',rfl⟩:=ry;exact PySem.W.eq_bytes (cC I q Nb)
  | _=>exact absurd (show false=true from hs) Bool.false_ne_true
 | _=>cases y <;> exact absurd (show false=true from hs) Bool.false_ne_true
theorem JS:sY X (compareOp .NotEq) rNe:=by
 intro pins s σ H x y v u Q I rx ry h
 obtain⟨hs,q⟩:=h
 cases x with
 | non=>
  cases rx
  cases y with
  | non=>cases ry;exact PySem.EqNone.ne_none_none (cC I q (by simp))
  | bl j=>cases ry;exact PySem.EqNone.ne_none_bool (cC I q (by simp))
  | int j=>obtain⟨t',rfl⟩:=ry;exact PySem.EqNone.ne_none_int (cC I q (by simp))
  | str j=>obtain⟨t',rfl⟩:=ry;exact PySem.EqNone.ne_none_str (cC I q (by simp))
  | _=>exact absurd (show false=true from hs) Bool.false_ne_true
 | bl i=>
  cases rx
  cases y with
  | non=>cases ry;exact PySem.EqNone.ne_bool_none (cC I q (by simp))
  | bl j=>cases ry;exact ne_bool (cC I q (congrArg not SX))
  | str j=>obtain⟨t',rfl⟩:=ry;exact PySem.EqMixed.ne_bool_str (cC I q (by simp))
  | _=>exact absurd (show false=true from hs) Bool.false_ne_true
 | int i=>
  obtain⟨t,rfl⟩:=rx
  cases y with
  | non=>cases ry;exact PySem.EqNone.ne_int_none (cC I q (by simp))
  | int j=>obtain⟨t',rfl⟩:=ry;exact ne_int (cC I q (congrArg not M3))
  | str j=>obtain⟨t',rfl⟩:=ry;exact PySem.EqMixed.ne_int_str (cC I q (by simp))
  | _=>exact absurd (show false=true from hs) Bool.false_ne_true
 | str i=>
  obtain⟨t,rfl⟩:=rx
  cases y with
  | non=>cases ry;exact PySem.EqNone.ne_str_none (cC I q (by simp))
  | bl j=>cases ry;exact PySem.EqMixed.ne_str_bool (cC I q (by simp))
  | int j=>obtain⟨t',rfl⟩:=ry;exact PySem.EqMixed.ne_str_int (cC I q (by simp))
  | str j=>obtain⟨t',rfl⟩:=ry;exact ne_str (cC I q (congrArg not Nf))
  | _=>exact absurd (show false=true from hs) Bool.false_ne_true
 | byt i=>
  obtain⟨t,rfl⟩:=rx
  cases y with
  | byt j=>obtain⟨t',rfl⟩:=ry;exact PySem.W.ne_bytes (cC I q (congrArg not Nb))
  | _=>exact absurd (show false=true from hs) Bool.false_ne_true
 | _=>cases y <;> exact absurd (show false=true from hs) Bool.false_ne_true
theorem tX:sY X (compareOp .Lt) (S6 fun i j=>.bl (decide (i <j))):=Th fun _ _ _ _ _ _ _ q=>lt_int q
theorem vB:sY X (compareOp .LtE) (S6 fun i j=>.bl (decide (i<=j))):=Th fun _ _ _ _ _ _ _ q=>le_int q
theorem Mz:sY X (compareOp .Gt) (S6 fun i j=>.bl (decide (j <i))):=Th fun _ _ _ _ _ _ _ q=>gt_int q
theorem X7:sY X (compareOp .GtE) (S6 fun i j=>.bl (decide (j<=i))):=Th fun _ _ _ _ _ _ _ q=>ge_int q
theorem yV:sY X (compareOp .In) (fun x y H Q=>∃i j,x=.str i/\y=.str j/\Q (.bl (!(Builtin.Str.occurrences j i 0 j.length 1).isEmpty)) H):=by
 intro pins s σ H x y v u Q I rx ry h
 obtain⟨i,j,rfl,rfl,q⟩:=h
 obtain⟨t,rfl⟩:=rx
 obtain⟨t',rfl⟩:=ry
 exact in_str (cC I q rfl)
theorem bL (b:Expr) {op:CmpOp} (h:op≠.In:=by decide) (h2:op≠.NotIn:=by decide):behindInMarks op b=false:=by
 have e1:(op == CmpOp.In)=false:=by cases op <;> first | rfl | exact absurd rfl h
 have e2:(op == CmpOp.NotIn)=false:=by cases op <;> first | rfl | exact absurd rfl h2
 cases b <;> simp [behindInMarks,e1,e2]
theorem u9 {op:CmpOp} {r:R2} (ho:sY X (compareOp op) r) (ha:PE X a ta) (hb:PE X b tb) (hm:behindInMarks op b=false):PE X (.Compare a [op] [b] pos) (YM r ta tb):=by
 intro pins s σ H Q I h
 exact wpAny_Compare1 (WL ha hb I h fun v u s2 x y H2 I2 rx ry q=>ho pins s2 σ H2 x y v u Q I2 rx ry q) hm
inductive Sx (Q:Bool->Hp->Prop) (x:V) (H':Hp):Prop where
 | mk:∀k,x=.bl k->Q k H'->Sx Q x H'
noncomputable def V9 (t:TE):TT:=fun σ H Q=>t σ H fun x H'=>Sx Q x H'
theorem bc {op:CmpOp} {r:R2} (ho:sY X (compareOp op) r) (ha:PE X a ta) (hb:PE X b tb) (hm:behindInMarks op b=false):PT X (.Compare a [op] [b] pos) (V9 (YM r ta tb)):=by
 intro pins s σ H Q I h
 refine wpAny_isTrue_Compare1 (dG (ha pins s σ H _ I h) fun v s1 ⟨x,H1,I1,r1,q1⟩=>dG (hb pins s1 σ H1 _ I1 q1) fun u s2 ⟨y,H2,I2,r2,q2⟩=>
  dG (ho pins s2 σ H2 x y v u _ I2 r1 r2 q2) fun c s3 ⟨z,H3,I3,r3,k,e,q3⟩=>?_) hm
 subst e
 cases r3
 exact wpAny_truthy_bool ⟨H3,I3,q3⟩
inductive M8 (r':R2) (tc:TE) (σ:St) (Q:VK) (y:V) (z:V) (H3:Hp):Prop where
 | mk:∀k,z=.bl k->((if k=true then tc σ H3 fun w' H4=>r' y w' H4 Q else Q (.bl false) H3))->M8 r' tc σ Q y z H3
noncomputable def R9 (r r':R2) (ta tb tc:TE):TE:=fun σ H Q=>ta σ H fun x H1=>tb σ H1 fun y H2=>r x y H2 fun z H3=>M8 r' tc σ Q y z H3
theorem Rk {op op':CmpOp} {r r':R2} (ho:sY X (compareOp op) r) (ho':sY X (compareOp op') r') (ha:PE X a ta) (hb:PE X b tb) (hc:PE X c tc)
  (hm:lastMarks [op,op'] [b,c]=false:=by with_unfolding_all rfl):PE X (.Compare a [op,op'] [b,c] pos) (R9 r r' ta tb tc):=by
 intro pins s σ H Q I h
 refine Compare_chain (dG (ha pins s σ H _ I h) fun v s1 ⟨x,H1,I1,r1,q1⟩=>chain_link (dG (hb pins s1 σ H1 _ I1 q1) fun u s2 ⟨y,H2,I2,r2,q2⟩=>
  dG (ho pins s2 σ H2 x y v u _ I2 r1 r2 q2) fun d s3 ⟨z,H3,I3,r3,k,e,q3⟩=>?_)) hm
 subst e
 cases r3
 refine wpAny_truthy_bool ?_
 cases k with
 | false=>exact ite_ff ⟨.bl false,H3,I3,rfl,q3⟩
 | true=>exact ite_tt (chain_last (dG (hc pins s3 σ H3 _ I3 q3) fun w' s4 ⟨z',H4,I4,r4,q4⟩=>ho' pins s4 σ H4 y z' u w' Q I4 r2 r4 q4))
theorem yC {op op':CmpOp} {r r':R2} (ho:sY X (compareOp op) r) (ho':sY X (compareOp op') r') (ha:PE X a ta) (hb:PE X b tb) (hc:PE X c tc)
  (hm:lastMarks [op,op'] [b,c]=false:=by with_unfolding_all rfl):PT X (.Compare a [op,op'] [b,c] pos) (V9 (R9 r r' ta tb tc)):=by
 intro pins s σ H Q I h
 refine isTrue_chain (dG (ha pins s σ H _ I h) fun v s1 ⟨x,H1,I1,r1,q1⟩=>test_link (dG (hb pins s1 σ H1 _ I1 q1) fun u s2 ⟨y,H2,I2,r2,q2⟩=>
  dG (ho pins s2 σ H2 x y v u _ I2 r1 r2 q2) fun d s3 ⟨z,H3,I3,r3,k,e,q3⟩=>?_)) hm
 subst e
 cases r3
 refine wpAny_truthy_bool ?_
 cases k with
 | false=>
  obtain⟨k',e',q'⟩:=q3
  cases e'
  exact ite_ff ⟨H3,I3,q'⟩
 | true=>
  refine ite_tt (test_last (dG (hc pins s3 σ H3 _ I3 q3) fun w' s4 ⟨z',H4,I4,r4,q4⟩=>dG (ho' pins s4 σ H4 y z' u w' _ I4 r2 r4 q4) fun d' s5 hpt=>?_))
  obtain⟨z2,H5,I5,r5,k2,e2,q5⟩:=hpt
  subst e2
  cases r5
  exact wpAny_truthy_bool ⟨H5,I5,q5⟩
theorem G9:(sizeLine:Nat) <2 ^ 63:=by rw [sizeLine_eq];decide
theorem wK:sY X (binaryOp .Add) (fun x y H Q=>∃i j,x=.str i/\y=.str j/\i.length+j.length<=sizeLine/\Q (.str (i ++ j)) H):=by
 intro pins s σ H x y v u Q I rx ry h
 obtain⟨i,j,rfl,rfl,hz,q⟩:=h
 obtain⟨t,rfl⟩:=rx
 obtain⟨t',rfl⟩:=ry
 exact add_str (fun t' tk=>⟨.str (i ++ j),H,I.tok _,⟨_,rfl⟩,q⟩) hz
theorem vals1 {x:V} {us:List Value} (r:Vals [x] us):∃u,us=[u]/\RelV x u:=by
 cases r with
 | cons r1 r2=>cases r2;exact⟨_,rfl,r1⟩
theorem vals2 {x y:V} {us:List Value} (r:Vals [x,y] us):∃u w',us=[u,w']/\RelV x u/\RelV y w':=by
 cases r with
 | cons r1 r2=>
  cases r2 with
  | cons r3 r4=>cases r4;exact⟨_,_,rfl,r1,r3⟩
theorem Gj (hc:X.calm=true):oW X (.builtin "max") (fun xs H Q=>∃i j,xs=[.int i,.int j]/\Q (.int (if j >i then j else i)) H):=by
 intro pins s σ H xs us Q I r h
 obtain⟨i,j,rfl,q⟩:=h
 obtain⟨u,w',rfl,⟨t,rfl⟩,⟨t',rfl⟩⟩:=vals2 r
 refine max_two_ints (I.ok.hd hc) fun h' tk k=>⟨_,H,I.kept k,?_,q⟩
 by_cases hj:j >i
 ·rw [if_pos hj,if_pos hj];exact⟨_,rfl⟩
 ·rw [if_neg hj,if_neg hj];exact⟨_,rfl⟩
theorem Hy:oW X (.type "str") (fun xs H Q=>∃i,xs=[.int i]/\i.natAbs.log2 <1920/\Q (.str (toString i)) H):=by
 intro pins s σ H xs us Q I r h
 obtain⟨i,rfl,hz,q⟩:=h
 obtain⟨u,rfl,t,rfl⟩:=vals1 r
 exact PySem.P.str_of_int hz ⟨.str _,H,I.tok _,⟨_,rfl⟩,q⟩
noncomputable def YG (K:PySem.W.Frag) (x:V) (H:Hp) (n:Nat):Prop:=
 match x with
 | .str y=>y.length<=sizeLine/\n=y.length
 | .byt y=>y.size<=sizeLine/\n=y.size
 | .ref p=>(∃xs,bJ K H p xs/\n=xs.length)∨∃xs,fu K H p xs/\n=xs.length
 | _=>False
theorem bO:oW X (.builtin "len") (fun xs H Q=>∃x n,xs=[x]/\YG X.K x H n/\Q (.int n) H):=by
 intro pins s σ H xs us Q I r h
 obtain⟨x,n,rfl,e,q⟩:=h
 obtain⟨u,rfl,rx⟩:=vals1 r
 have hl:=G9
 have hs:sizeLine=16777216:=sizeLine_eq
 cases x with
 | str y=>
  obtain⟨t,rfl⟩:=rx
  obtain⟨hy,e'⟩:y.length<=sizeLine/\n=y.length:=e
  subst e'
  exact len_str (by omega) ⟨.int _,H,I.tok _,⟨_,rfl⟩,q⟩
 | byt y=>
  obtain⟨t,rfl⟩:=rx
  obtain⟨hy,e'⟩:y.size<=sizeLine/\n=y.size:=e
  subst e'
  exact PySem.W.len_bytes (by omega) ⟨.int _,H,I.tok _,⟨_,rfl⟩,q⟩
 | ref p=>
  cases rx
  have e':(∃xs,bJ X.K H p xs/\n=xs.length)∨∃xs,fu X.K H p xs/\n=xs.length:=e
  rcases e' with ⟨xs,hx,e'⟩ | ⟨xs,hx,e'⟩
  ·subst e'
   obtain⟨its,r',pl,hz⟩:=I.list hx
   have hlen:=r'.length
   exact Calls.call_len_list pl.isList (by simp only [List.size_toArray];omega) ⟨.int xs.length,H,I.tok _,⟨_,by simp only [List.size_toArray];rw [hlen]⟩,q⟩
  ·subst e'
   obtain⟨its,r',pl,hz⟩:=I.tuple hx
   have hlen:=r'.length
   exact len_tuple pl (by simp only [List.size_toArray];omega) ⟨.int xs.length,H,I.tok _,⟨_,by simp only [List.size_toArray];rw [hlen]⟩,q⟩
 | _=>exact(show False from e).elim
end
structure Mi (h:Heap) (x dx C:Addr) (mA:Str->Option Value):Prop where
 obj:h.get? x=some (PySem.W.instObj C dx)
 ns:h.Ns1 dx mA
 ne:dx≠x
theorem Oi {h:Heap} {dx:Addr} {mA:Str->Option Value} (n:h.Ns1 dx mA):∃od,h.get? dx=some od/\∀name,PySem.W.lookIn name od=some (mA name):=by
 obtain⟨o,es,ep,ho,hd,hk,_,hm⟩:=n
 refine⟨o,ho,fun name=>?_⟩
 have e:=hm name
 unfold nsFind findBy at e
 rw [<-Array.find?_toList] at e
 unfold PySem.W.lookIn
 rw [hd]
 dsimp only
 split
 ·rename_i y q
  rw [q] at e
  exact congrArg some e
 ·rename_i q
  rw [q] at e
  have a:es.toList.any (·.refKey)=false:=by
   rw [List.any_eq_false]
   intro y hy
   obtain⟨z,t,hkey⟩:=hk y (Array.mem_toList_iff.mp hy)
   simp [DictEntry.refKey,hkey]
  have a':¬es.toList.any (·.refKey)=true:=by rw [a];exact Bool.false_ne_true
  rw [if_neg a']
  exact congrArg some e
theorem Mi.look {h:Heap} {x dx C:Addr} {mA:Str->Option Value} (I:Mi h x dx C mA):∃od,PySem.W.InstAt h x (PySem.W.instObj C dx) C (some od)/\∀name,PySem.W.lookIn name od=some (mA name):=
 let ⟨od,ho,hl⟩:=Oi I.ns
 ⟨od,⟨I.obj,rfl,rfl,ho⟩,hl⟩
section
variable {prog:Program} {w:World} {A:Around} {E:Value->Shared->Prop} {s:Shared} {K:PySem.W.Frag} {x dx C f:Addr} {mA:Str->Option Value} {name:Str} {v:Value}
theorem Tw {expr:Bool} {Q:Value->Shared->Prop} (X:K.In s.heap) (I:Mi s.heap x dx C mA) (hg:PySem.W.plainGet K C name=true) (hh:PySem.W.hasDictIn K C=true)
  (ha:PySem.W.findIn K (.ref C) name=some none) (hv:mA name=some v) (hv':PySem.W.handedIn v=true) (h:Q v { s with toks:=s.toks+1 }):
  wpAny (model prog w) A (getAttr (.ref x) name expr) Q E s:=by
 obtain⟨od,J,hl⟩:=I.look
 exact PySem.W.get_value X J (PySem.W.plainGet_of hg).1 (PySem.W.findObj_own hh ha rfl (by rw [hl,hv])) hv' h
theorem Rc {pl:Sem Bool} {Q:Value×List Value->Shared->Prop} (X:K.In s.heap) (I:Mi s.heap x dx C mA) (hg:PySem.W.plainGet K C name=true)
  (hf:PySem.W.findIn K (.ref C) name=some (some (.ref f))) (ht:PySem.W.isFn K (.ref f)=true) (hv:mA name=none) (h:Q (.ref f,[.ref x]) s):
  wpAny (model prog w) A (getMethod (.ref x) name pl) Q E s:=by
 obtain⟨od,J,hl⟩:=I.look
 exact PySem.W.method_fn X J (PySem.W.plainGet_of hg).1 (PySem.W.plainGet_of hg).2 hf (beq_iff_eq.mp ht) (by show(PySem.W.lookIn name od).map (·.isSome)=some false;rw [hl,hv];rfl) h
theorem Uk {ns:List Str} {Q:Unit->Shared->Prop} (X:K.In s.heap) (I:Mi s.heap x dx C mA)
  (hs:PySem.W.findIn K (.ref C) "__setattr__" =some (some (.builtin "object.__setattr__"))) (hp:PySem.W.plainOver K C=true) (ht:PySem.W.takerIn K C name=some none) (hh:PySem.W.hasDictIn K C=true)
  (hw:PySem.Within mA ns) (hsz:ns.length<=sizeLine)
  (h:∀h',Mi h' x dx C (fun y=>if y=name then some v else mA y)->Heap.SameBut dx s.heap h'->Q () { s with heap:=h',toks:=s.toks+2 }):
  wpAny (model prog w) A (setAttr (.ref x) name v) Q E s:=by
 obtain⟨od,J,hl⟩:=I.look
 refine PySem.W.set_plain X J hs (PySem.W.osa_open (s:={ s with toks:=s.toks+1 }) (r:=none) X J hp ht fun b=>?_)
 obtain⟨cd,hc,hd'⟩:=PySem.W.any_some hh
 have hx:s.heap.get? x=some ⟨.ref C,some dx,.plain,#[]⟩:=I.obj
 refine wpAny_bind (wpAny_pure (wpAny_bind (wpAny_bind (wpAny_loadPart hx (wpAny_bind (PySem.W.Looks.here (s:={ s with toks:=s.toks+1 }) (PySem.W.looks_clsIn X hc) ?_))))))
 rw [hd']
 refine wpAny_pure (a:=some dx) (wpAny_bind (wpAny_pure (wpAny_bind ?_)))
 refine wpAny_nsSet1 (s:={ s with toks:=s.toks+1 }) I.ns fun h' hn2 hs2=>?_
 obtain⟨oD,esD,epD,hoD,hdD,hcD⟩:=hn2.count (PySem.Within.cons name v hw)
 refine wpAny_bind (wpAny_lookBehind hoD (by rw [hdD];exact pastItsLine_dict (Nat.le_trans hcD (by rw [List.length_cons];omega))) ?_)
 exact wpAny_pure (h _ ⟨(hs2.2 _ (Ne.symm I.ne)).trans I.obj,hn2,I.ne⟩ hs2)
theorem QT {R:Result->Shared->Prop} {vs:List Value} {kw:List (Str×Value)} (X:K.In s.heap) (hm:PySem.W.makesIn K C=true)
  (hi:PySem.W.findIn K (.ref C) "__init__" =some (some (.ref f))) (hf:PySem.W.typeIn K (.ref f)=some (.type "function"))
  (h:codeAny (model prog w) (A.under (.builtin "type.__call__" ⟨.ref C:: vs,kw⟩)) (.call (.ref f) ⟨.ref (s.heap.objs.size+1):: vs,kw⟩) (PySem.W.InitBack (s.heap.objs.size+1) R)
   { s with heap:=(s.heap.push PySem.W.emptyDict).push (PySem.W.instObj C s.heap.objs.size) }):
  codeAny (model prog w) A (.call (.ref C) ⟨vs,kw⟩) R s:=by
 obtain⟨hh,g,d,t,os⟩:=s
 exact PySem.W.make_core (PySem.W.makes_of X hm) (PySem.W.looks_findIn X hi) (fun self=>PySem.W.bind_fn X self hf) (.inl rfl) h
end
noncomputable def aJ (f:Str) (v:V):List (Str×V)->List (Str×V)
 | []=>[(f,v)]
 | (g,x):: r=>if g=f then(g,v):: r else(g,x):: aJ f v r
theorem aC (f g:Str) (v:V):∀fs:List (Str×V),(aJ f v fs).lookup g=if g=f then some v else fs.lookup g
 | []=>by
  show List.lookup g [(f,v)]=_
  by_cases h:g=f
  ·have hb:(g == f)=true:=beq_iff_eq.mpr h
   simp only [List.lookup,hb,if_pos h]
  ·have hb:(g == f)=false:=beq_eq_false_iff_ne.mpr h
   simp only [List.lookup,hb,if_neg h]
 | (k,x):: r=>by
  have ih:=aC f g v r
  rw [show aJ f v ((k,x):: r)=(if k=f then(k,v):: r else(k,x):: aJ f v r) from rfl]
  by_cases hk:k=f
  ·rw [if_pos hk]
   by_cases h:g=k
   ·have hb:(g == k)=true:=beq_iff_eq.mpr h
    simp only [List.lookup,hb,if_pos (h.trans hk)]
   ·have hb:(g == k)=false:=beq_eq_false_iff_ne.mpr h
    simp only [List.lookup,hb,if_neg (fun e:g=f=>h (e.trans hk.symm))]
  ·rw [if_neg hk]
   by_cases h:g=k
   ·have hb:(g == k)=true:=beq_iff_eq.mpr h
    simp only [List.lookup,hb,if_neg (fun e:g=f=>hk (h.symm.trans e))]
   ·have hb:(g == k)=false:=beq_eq_false_iff_ne.mpr h
    simp only [List.lookup,hb]
    exact ih
theorem yS (f:Str) (v:V):∀fs:List (Str×V),f∈(aJ f v fs).map (·.1)/\∀g,g∈fs.map (·.1)->g∈(aJ f v fs).map (·.1)
 | []=>⟨by simp [aJ],fun g h=>by simp at h⟩
 | (k,x):: r=>by
  obtain⟨i1,i2⟩:=yS f v r
  rw [show aJ f v ((k,x):: r)=(if k=f then(k,v):: r else(k,x):: aJ f v r) from rfl]
  by_cases hk:k=f
  ·rw [if_pos hk]
   subst hk
   exact⟨by simp,fun g h=>by simpa using h⟩
  ·rw [if_neg hk]
   refine⟨?_,fun g h=>?_⟩
   ·rw [List.map_cons]
    exact List.mem_cons_of_mem _ i1
   ·rw [List.map_cons] at h ⊢
    rcases List.mem_cons.mp h with e | e
    ·exact List.mem_cons.mpr (.inl e)
    ·exact List.mem_cons_of_mem _ (i2 g e)
theorem tO (f:Str) (v:V):∀fs:List (Str×V),(aJ f v fs).length<=fs.length+1
 | []=>by simp [aJ]
 | (k,x):: r=>by
  have ih:=tO f v r
  rw [show aJ f v ((k,x):: r)=(if k=f then(k,v):: r else(k,x):: aJ f v r) from rfl]
  by_cases hk:k=f
  ·rw [if_pos hk,List.length_cons,List.length_cons];omega
  ·rw [if_neg hk,List.length_cons,List.length_cons];omega
theorem sV.some_of {v:V} {o:Option Value} (r:sV (some v) o):∃u,o=some u/\RelV v u:=by
 cases o with
 | none=>exact(show False from r).elim
 | some u=>exact⟨u,rfl,r⟩
theorem sV.none_of {o:Option Value} (r:sV none o):o=none:=by
 cases o with
 | none=>rfl
 | some u=>exact(show False from r).elim
theorem Ow {v:V} {u:Value} (r:RelV v u):PySem.W.handedIn u=true:=by
 cases v with
 | non=>cases (show u=Value.none from r);rfl
 | bl b=>cases (show u=Value.bool b from r);rfl
 | int i=>obtain⟨t,e⟩:=(show ∃t,u=Value.int i t from r);cases e;rfl
 | str x=>obtain⟨t,e⟩:=(show ∃t,u=Value.str x t from r);cases e;rfl
 | byt b=>obtain⟨t,e⟩:=(show ∃t,u=Value.bytes b t from r);cases e;rfl
 | flt b=>obtain⟨t,e⟩:=(show ∃t,u=Value.float b t from r);cases e;rfl
 | ref a=>cases (show u=Value.ref a from r);rfl
 | ty n=>cases (show u=Value.type n from r);rfl
section
variable {P:Program} {w:World} {H H':Hp} {h h':Heap} {a C dx:Addr} {fs fs':List (Str×V)}
theorem Hj (hok:uX P w H h) (e:H a=some (.ins C dx fs)):∃mA,Mi h a dx C mA/\(∀f,sV (fs.lookup f) (mA f))/\PySem.Within mA (fs.map (·.1))/\fs.length<=1000/\H dx=some (.own a):=by
 obtain⟨d,z,ne,ob,mA,n,r,q⟩:=(show fP P w H h a (.ins C dx fs) from hok a _ e)
 exact⟨mA,⟨ob,n,ne⟩,r,q,z,d⟩
end
structure Ot (K:PySem.W.Frag) (C:Addr):Prop where
 pg:PySem.W.plainGet K C Str.empty=true
 hd:PySem.W.hasDictIn K C=true
 po:PySem.W.plainOver K C=true
 sa:PySem.W.findIn K (.ref C) "__setattr__" =some (some (.builtin "object.__setattr__"))
theorem Ot.get {K:PySem.W.Frag} {C:Addr} (c:Ot K C) (f:Str):PySem.W.plainGet K C f=true:=c.pg
noncomputable def oG (K:PySem.W.Frag) (C:Addr) (f:Str):Prop:=PySem.W.findIn K (.ref C) f=some none
theorem oG.taker {K:PySem.W.Frag} {C:Addr} {f:Str} (n:oG K C f):PySem.W.takerIn K C f=some none:=by
 unfold PySem.W.takerIn
 rw [show PySem.W.findIn K (.ref C) f=some none from n]
 rfl
structure Meth (K:PySem.W.Frag) (C:Addr) (m:Str) (f:Addr):Prop where
 at_:PySem.W.findIn K (.ref C) m=some (some (.ref f))
 fn:PySem.W.isFn K (.ref f)=true
 kp:PySem.W.keepIn K (.ref f)=true
section
variable {X:Cx} {pins:List (Addr×Obj)} {σ:St} {H:Hp} {s:Shared} {a C dx:Addr} {fs:List (Str×V)} {f:Str} {v:V} {A:Around} {E:Value->Shared->Prop}
theorem Dc {b:Bool} {Q:Value->Shared->Prop} (I:Inv X pins σ H s) (e:H a=some (.ins C dx fs)) (c:Ot X.K C) (n:oG X.K C f) (l:fs.lookup f=some v)
  (h:∀u s',Inv X pins σ H s'->RelV v u->Q u s'):wpAny (model X.prog X.w) A (getAttr (.ref a) f b) Q E s:=by
 obtain⟨mA,O,r,_,_,_⟩:=Hj I.hok e
 obtain⟨u,hu,ru⟩:=sV.some_of (v:=v) (o:=mA f) (by rw [<-l];exact r f)
 exact Tw I.kIn O (c.get f) c.hd n hu (Ow ru) (h u _ (I.tok _) ru)
theorem rE {m:Str} {g:Addr} {pl:Sem Bool} {Q:Value×List Value->Shared->Prop} (I:Inv X pins σ H s) (e:H a=some (.ins C dx fs)) (c:Ot X.K C) (k:Meth X.K C m g) (l:fs.lookup m=none)
  (h:Q (.ref g,[.ref a]) s):wpAny (model X.prog X.w) A (getMethod (.ref a) m pl) Q E s:=by
 obtain⟨mA,O,r,_,_,_⟩:=Hj I.hok e
 have hn:mA m=none:=sV.none_of (by rw [<-l];exact r m)
 exact Rc I.kIn O (c.get m) k.at_ k.fn hn h
theorem Dv {y:V} {u:Value} {Q:Unit->Shared->Prop} (I:Inv X pins σ H s) (e:H a=some (.ins C dx fs)) (c:Ot X.K C) (n:oG X.K C f) (hl:fs.length <1000) (ry:RelV y u)
  (h:∀s',Inv X pins σ (upd H a (.ins C dx (aJ f y fs))) s'->Q () s'):wpAny (model X.prog X.w) A (setAttr (.ref a) f u) Q E s:=by
 obtain⟨mA,O,r,wi,_,ho⟩:=Hj I.hok e
 have hz:(fs.map (·.1)).length<=sizeLine:=by rw [List.length_map,sizeLine_eq];omega
 refine Uk I.kIn O c.sa c.po n.taker c.hd wi hz fun h' O' sb=>h _ ?_
 have hd:∃o,h'.get? dx=some o:=let ⟨o,_,_,e',_⟩:=O'.ns;⟨o,e'⟩
 refine I.write (x:=a) (e:=dx) (by rw [e];exact True.intro) (.inr ho) (fun b q hb z=>(sb.2 b hb).trans z) hd ?_
 refine⟨by rw [aK O.ne];exact ho,?_,O.ne,O'.obj,_,O'.ns,fun g=>?_,fun g hg=>?_⟩
 ·have:=tO f y fs;omega
 ·show sV ((aJ f y fs).lookup g) (if g=f then some u else mA g)
  rw [aC]
  by_cases q:g=f
  ·rw [if_pos q,if_pos q];exact ry
  ·rw [if_neg q,if_neg q];exact r g
 ·by_cases q:g=f
  ·rw [q];exact(yS f y fs).1
  ·refine(yS f y fs).2 g (wi g fun z=>hg ?_)
   show(if g=f then some u else mA g)=none
   rw [if_neg q];exact z
theorem Inv.made (I:Inv X pins σ H s):Inv X pins σ (upd (upd H s.heap.objs.size (.own (s.heap.objs.size+1))) (s.heap.objs.size+1) (.ins C s.heap.objs.size []))
  { s with heap:=(s.heap.push PySem.W.emptyDict).push (PySem.W.instObj C s.heap.objs.size) }:=by
 have e1:(s.heap.push PySem.W.emptyDict).get? s.heap.objs.size=some PySem.W.emptyDict:=Heap.get?_push_size s.heap rfl
 have e2:((s.heap.push PySem.W.emptyDict).push (PySem.W.instObj C s.heap.objs.size)).get? (s.heap.objs.size+1)=some (PySem.W.instObj C s.heap.objs.size):=by
  have:=Heap.get?_push_size (s.heap.push PySem.W.emptyDict) (o:=PySem.W.instObj C s.heap.objs.size) rfl
  rwa [Heap.size_push] at this
 have e3:(s.heap.push PySem.W.emptyDict).Ns s.heap.objs.size (fun _=>none):=⟨PySem.W.emptyDict,#[],_,e1,rfl,(fun e he=>absurd he (by simp)),fun _=>rfl⟩
 have I1:=I.laid (a:=s.heap.objs.size) (o:=.own (s.heap.objs.size+1)) (h':=s.heap.push PySem.W.emptyDict) (t':=s.toks) (fun b u q=>Heap.get?_push_of_some _ q) (Nat.le_refl _) ⟨_,e1⟩
 refine I1.laid (a:=s.heap.objs.size+1) (o:=.ins C s.heap.objs.size []) (t':=s.toks) (fun b u q=>Heap.get?_push_of_some _ q) (Nat.le_of_eq (Heap.size_push _ _)) ?_
 have ne:s.heap.objs.size≠s.heap.objs.size+1:=Nat.ne_of_lt (Nat.lt_succ_self _)
 refine⟨by rw [aK ne,aq],Nat.zero_le _,ne,e2,fun _=>none,(Heap.Ns1.of_empty e3).at fun o q=>Heap.get?_push_of_some _ q,fun _=>True.intro,fun y hy=>absurd rfl hy⟩
theorem Uq {prog:Program} {w:World} {env:Env} {e:Expr} {f:Str} {pos:Pos} {s:Shared} {Q:Value->Shared->Prop} (hb:attributeBase e f env (eval e env)=eval e env)
  (h:wpAny (model prog w) A (eval e env) (fun o s₁=>wpAny (model prog w) A (getAttr o f true) Q E s₁) E s):wpAny (model prog w) A (eval (.Attribute e f pos) env) Q E s:=
 Attribute_any_ h (by rw [arm_eval_Attribute,hb])
end
inductive Vt (K:PySem.W.Frag) (f:Str) (Q:VK) (x:V) (H1:Hp):Prop where
 | mk:∀a C dx fs v,x=.ref a->H1 a=some (.ins C dx fs)->Ot K C->oG K C f->fs.lookup f=some v->Q v H1->Vt K f Q x H1
noncomputable def Yd (K:PySem.W.Frag) (ta:TE) (f:Str):TE:=fun σ H Q=>ta σ H fun x H1=>Vt K f Q x H1
inductive Vq (K:PySem.W.Frag) (f:Str) (D:Ends) (σ:St) (y:V) (x:V) (H2:Hp):Prop where
 | mk:∀a C dx fs,x=.ref a->H2 a=some (.ins C dx fs)->Ot K C->oG K C f->fs.length <1000->D.nx σ (upd H2 a (.ins C dx (aJ f y fs)))->Vq K f D σ y x H2
noncomputable def Zw (K:PySem.W.Frag) (ta tv:TE) (f:Str):TS:=fun D σ H=>tv σ H fun y H1=>ta σ H1 fun x H2=>Vq K f D σ y x H2
noncomputable def Yi (X:Cx) (op:Operator) (rd:V->V->Hp->VK->Prop):Prop:=
 ∀(pins:List (Addr×Obj)) (s:Shared) (σ:St) (H:Hp) (x y:V) (u v:Value) (Q:VK),Inv X pins σ H s->RelV x u->RelV y v->rd x y H Q->wpAny (model X.prog X.w) X.A (inplaceOp op u v) (EP X pins σ Q) X.xe s
inductive JL (K:PySem.W.Frag) (tv:TE) (rd:V->V->Hp->VK->Prop) (f:Str) (D:Ends) (σ:St) (x:V) (H1:Hp):Prop where
 | mk:∀a C dx fs v,x=.ref a->H1 a=some (.ins C dx fs)->Ot K C->oG K C f->fs.lookup f=some v->(tv σ H1 fun y H2=>rd v y H2 fun z H3=>∃dx' fs',H3 a=some (.ins C dx' fs')/\fs'.length <1000/\D.nx σ (upd H3 a (.ins C dx' (aJ f z fs'))))->JL K tv rd f D σ x H1
noncomputable def Tg (K:PySem.W.Frag) (ta tv:TE) (rd:V->V->Hp->VK->Prop) (f:Str):TS:=fun D σ H=>ta σ H fun x H1=>JL K tv rd f D σ x H1
section
variable {X:Cx} {o e value:Expr} {f:Str} {pos pos' tpos:Pos} {ta tv:TE}
theorem bj (he:PE X e ta) (hb:attributeBase e f X.env (eval e X.env)=eval e X.env):PE X (.Attribute e f pos) (Yd X.K ta f):=by
 intro pins s σ H Q I h
 refine Uq hb (dG (he pins s σ H _ I h) fun u s1 hpt=>?_)
 obtain⟨x,H1,I1,rx,a,C,dx,fs,v,ex,ea,c,n,l,q⟩:=hpt
 subst ex
 obtain rfl:u=Value.ref a:=rx
 exact Dc I1 ea c n l fun u' s2 I2 ru=>⟨v,H1,I2,ru,q⟩
theorem gU (ha:PE X o ta) (hv:PE X value tv) (hs:swapsWith value (some (.Attribute o f pos')) pos.line X.env=pure false):PS X (.Assign [.Attribute o f pos'] value pos) (Zw X.K ta tv f):=by
 intro pins s σ H D I h
 refine plainObj_wpAny_Assign_Attribute (dG (hv pins s σ H _ I h) fun u s1 ⟨y,H1,I1,ry,q⟩=>dG (ha pins s1 σ H1 _ I1 q) fun ov s2 hpt=>?_) hs
 obtain⟨x,H2,I2,rx,a,C,dx,fs,ex,ea,c,n,l,q2⟩:=hpt
 subst ex
 obtain rfl:ov=Value.ref a:=rx
 exact Dv I2 ea c n l ry fun s3 I3=>⟨σ,_,I3,q2⟩
theorem O9 {op:Operator} {rd:V->V->Hp->VK->Prop} (ha:PE X o ta) (hv:PE X value tv) (hop:Yi X op rd):PS X (.AugAssign (.Attribute o f tpos) op value pos) (Tg X.K ta tv rd f):=by
 intro pins s σ H D I h
 refine wpAny_AugAssign_AttributeAny (dG (ha pins s σ H _ I h) fun ov s1 hpt=>?_)
 obtain⟨x,H1,I1,rx,a,C,dx,fs,v,ex,ea,c,n,l,q⟩:=hpt
 subst ex
 obtain rfl:ov=Value.ref a:=rx
 refine Dc I1 ea c n l fun u s2 I2 ru=>dG (hv pins s2 σ H1 _ I2 q) fun w3 s3 ⟨y,H2,I3,ry,q3⟩=>dG (hop pins s3 σ H2 v y u w3 _ I3 ru ry q3) fun w4 s4 hpt=>?_
 obtain⟨z,H3,I4,rz,dx',fs',ea',l',q4⟩:=hpt
 exact Dv I4 ea' c n l' rz fun s5 I5=>⟨σ,_,I5,q4⟩
end
section
variable {X:Cx} {pins:List (Addr×Obj)} {σ:St} {H:Hp} {s:Shared} {A:Around} {E:Value->Shared->Prop} {Q:Value->Shared->Prop} {c:Value} {b:Bool}
end
structure iQ (k:Nat) (A:Around):Prop where
 hd:A.handled=none
 dp:A.depth+3 * k+5 <recursionLimit
 un:A.units+16 * k+200 <cLine
theorem iQ.mono {j k:Nat} {A:Around} (r:iQ k A) (h:j<=k):iQ j A:=⟨r.hd,by have:=r.dp;omega,by have:=r.un;omega⟩
theorem iQ.deeper {k:Nat} {A:Around} (r:iQ (k+1) A) (env:Env):iQ k (A.deeper env):=
 ⟨r.hd,by have:=r.dp;show A.depth+1+3 * k+5 <_;omega,by have:=r.un;show A.units+3+16 * k+200 <_;omega⟩
theorem K1 {A:Around} {C:Addr} {us:List Value} {kw:List (Str×Value)}:(A.under (.builtin "type.__call__" ⟨.ref C:: us,kw⟩)).depth=A.depth+1:=by
 first | rfl | simp [Around.under,Code.weight,Code.isCreation,Code.isGuard,Code.isCaller,Code.frames,Code.isFrame,guardIds]
theorem LQ {A:Around} {C:Addr} {us:List Value} {kw:List (Str×Value)}:(A.under (.builtin "type.__call__" ⟨.ref C:: us,kw⟩)).units=A.units+1:=by
 first | rfl | simp [Around.under,Code.cUnits,Code.frames,Code.isFrame]
theorem iQ.make {k:Nat} {A:Around} (r:iQ (k+1) A) (C:Addr) (us:List Value) (kw:List (Str×Value)):iQ k (A.under (.builtin "type.__call__" ⟨.ref C:: us,kw⟩)):=
 ⟨r.hd,by have:=r.dp;rw [K1];omega,by have:=r.un;rw [LQ];omega⟩
theorem iQ.depth {k:Nat} {A:Around} (r:iQ k A):A.depth <recursionLimit:=by have:=r.dp;omega
theorem iQ.units {k:Nat} {A:Around} (r:iQ k A):A.units+64 <cLine:=by have:=r.un;omega
noncomputable def Qe:TA:=fun _ H Q=>Q [] H
noncomputable def Xz (ta:TE) (tr:TA):TA:=fun σ H Q=>ta σ H fun x H1=>tr σ H1 fun xs H2=>Q (x:: xs) H2
section
variable {X:Cx} {e:Expr} {es:List Expr} {te:TE} {t:TA} {pos:Pos}
theorem ak:PA X [] Qe:=fun _ _ _ _ H Q I h=>Calls.spliced_nil ⟨[],H,I,.nil,h⟩
theorem aa (ha:PE X e te) (hr:PA X es t) (hs:starEach (e:: es) X.env=(false,eval e X.env):: starEach es X.env:=by rfl):PA X (e:: es) (Xz te t):=by
 intro pos pins s σ H Q I h
 rw [hs]
 show wpAny _ _ (spliced ((false,eval e X.env):: backTo pos (starEach es X.env))) _ _ s
 refine Calls.spliced_cons (dG (ha pins s σ H _ I h) fun u s1 hpt=>?_)
 obtain⟨x,H1,I1,r1,q1⟩:=hpt
 exact dG (hr pos pins s1 σ H1 _ I1 q1) fun us s2 ⟨xs,H2,I2,r2,q2⟩=>⟨x:: xs,H2,I2,.cons r1 r2,q2⟩
noncomputable def Zk (t:TA):TE:=fun σ H Q=>t σ H fun xs H1=>xs.length<=sizeLine/\∀p,H1 p=none->Q (.ref p) (upd H1 p (.tup xs))
noncomputable def ZD (t:TA):TE:=fun σ H Q=>t σ H fun xs H1=>xs.length<=sizeLine/\∀p,H1 p=none->Q (.ref p) (upd H1 p (.lst xs))
theorem bW {x1} (h:PA X es t):PE X (.Tuple es x1 pos) (Zk t):=by
 intro pins s σ H Q I hq
 refine wpAny_Tuple_spliced (dG (h pos pins s σ H _ I hq) fun us s1 ⟨xs,H1,I1,r,z,q⟩=>⟨by rw [<-r.length];exact z,?_⟩)
 have hf:H1 s1.heap.objs.size=none:=I1.hok.fresh (Nat.le_refl _)
 refine⟨.ref s1.heap.objs.size,upd H1 s1.heap.objs.size (.tup xs),I1.laid (t':=s1.toks) (fun b u e=>Heap.get?_push_of_some _ e) (Nat.le_refl _) ?_,rfl,q _ hf⟩
 exact⟨z,us,r,⟨_,Heap.get?_push_size _ rfl,rfl,_,rfl⟩⟩
theorem bu (h:PA X es t):PE X (.List es pos) (ZD t):=by
 intro pins s σ H Q I hq
 refine wpAny_List_spliced (dG (h pos pins s σ H _ I hq) fun us s1 ⟨xs,H1,I1,r,z,q⟩=>⟨by rw [<-r.length];exact z,?_⟩)
 have hf:H1 s1.heap.objs.size=none:=I1.hok.fresh (Nat.le_refl _)
 refine⟨.ref s1.heap.objs.size,upd H1 s1.heap.objs.size (.lst xs),I1.laid (t':=s1.toks) (fun b u e=>Heap.get?_push_of_some _ e) (Nat.le_refl _) ?_,rfl,q _ hf⟩
 exact⟨z,us,0,r,Heap.get?_push_size _ rfl⟩
end
noncomputable abbrev Sp:=List V->Hp->VK->XK->Prop
noncomputable abbrev FP:=List Env->Hp->Shared->XK->Value->Shared->Prop
structure K5 (P:Program) (w:World) (K:PySem.W.Frag) (mg:Str->Option Value) (base:Heap) (A:Around) (outer:List Env) (s:Shared) (H:Hp):Prop where
 frames:A.frames=some outer
 mod:Mod K mg base
 bs:∀b o,base.get? b=some o->s.heap.get? b=some o/\H b=none
 bsz:base.objs.size<=s.heap.objs.size
 funs:s.heap.FunFrames base outer
 frf:∀b∈frs outer,H b=none
 hok:uX P w H s.heap
 bare:AllBare s.gens
noncomputable def CE (outer:List Env) (P:Program) (w:World) (H:Hp) (s:Shared) (Q:VK) (u:Value) (s':Shared):Prop:=
 ∃v H',s'.os=s.os/\AllBare s'.gens/\Un (frs outer) [] H H' s.heap s'.heap/\uX P w H' s'.heap/\RelV v u/\Q v H'
noncomputable def CR (CX:FP) (outer:List Env) (P:Program) (w:World) (H:Hp) (s:Shared) (Q:VK) (E:XK) (r:Result) (s':Shared):Prop:=
 match r with
 | .ok (.ret u)=>CE outer P w H s Q u s'
 | .ok _=>False
 | .error e=>CX outer H s E e s'
structure iR (P:Program) (w:World) (K:PySem.W.Frag) (mg:Str->Option Value) (base:Heap) (CX:FP) (k:Nat) (f:Addr) (fd:FuncData) (ps:List Str) (sp:Sp):Prop where
 len:∀vs H Q E,sp vs H Q E->vs.length=ps.length
 run:∀(A:Around) (outer:List Env) (s:Shared) (H:Hp) (args:Args) (us:List Value) (vs:List V) (Q:VK) (E:XK),iQ k A->K5 P w K mg base A outer s H->BindsTo s fd args (ps.zip us)->Vals vs us->sp vs H Q E->
  codeAny (model P w) A (.call (.ref f) args) (CR CX outer P w H s Q E) s
theorem iR.mono {P:Program} {w:World} {K:PySem.W.Frag} {mg:Str->Option Value} {base:Heap} {CX:FP} {j k:Nat} {f:Addr} {fd:FuncData} {ps:List Str} {sp:Sp} (F:iR P w K mg base CX j f fd ps sp) (h:j<=k):
  iR P w K mg base CX k f fd ps sp:=⟨F.len,fun A outer s H args us vs Q E hr=>F.run A outer s H args us vs Q E (hr.mono h)⟩
theorem iR.imp {P:Program} {w:World} {K:PySem.W.Frag} {mg:Str->Option Value} {base:Heap} {CX:FP} {k:Nat} {f:Addr} {fd:FuncData} {ps:List Str} {sp sp':Sp} (F:iR P w K mg base CX k f fd ps sp)
  (h:∀vs H Q E,sp' vs H Q E->sp vs H Q E):iR P w K mg base CX k f fd ps sp':=
 ⟨fun vs H Q E q=>F.len vs H Q E (h _ _ _ _ q),fun A outer s H args us vs Q E hr he hb hv hs=>F.run A outer s H args us vs Q E hr he hb hv (h _ _ _ _ hs)⟩
theorem K5.make {P:Program} {w:World} {K:PySem.W.Frag} {mg:Str->Option Value} {base:Heap} {A:Around} {outer:List Env} {s:Shared} {H:Hp} (e:K5 P w K mg base A outer s H) (C:Addr) (us:List Value) (kw:List (Str×Value)):
  K5 P w K mg base (A.under (.builtin "type.__call__" ⟨.ref C:: us,kw⟩)) outer s H:=⟨by first | exact e.frames | (simpa [Around.under,Code.envs,Code.isFrame,pushEnvs] using e.frames),e.mod,e.bs,e.bsz,e.funs,e.frf,e.hok,e.bare⟩
section
variable {X:Cx} {pins:List (Addr×Obj)} {σ:St} {H:Hp} {s s':Shared}
theorem Inv.env0 (I:Inv X pins σ H s):K5 X.prog X.w X.K X.mg X.base X.A X.stack s H:=
 ⟨I.ok.frames,I.ok.mod,I.bs,Nat.le_trans I.ok.bsz I.sz,I.stack,I.stkFree,I.hok,I.bare⟩
theorem Inv.after {Q:VK} {u:Value} (I:Inv X pins σ H s) (h:CE X.stack X.prog X.w H s Q u s'):EP X pins σ Q u s':=by
 obtain⟨v,H',os,bare,un,hok,r,q⟩:=h
 obtain⟨hh,g,d,t,os'⟩:=s'
 obtain rfl:os'=s.os:=os
 exact⟨v,H',I.call (h':=hh) (g':=g) (d':=d) (t':=t) (ch:=[]) un hok bare (fun b z=>absurd z (by simp)),r,q⟩
end
noncomputable def VR (sp:Sp) (dvs:List V) (E:XK) (t:TA):TE:=fun σ H Q=>t σ H fun vs H1=>sp (vs ++ dvs) H1 Q E
inductive Qz (C:Addr) (m:Str) (sp:Sp) (dvs:List V) (E:XK) (t:TA) (σ:St) (Q:VK) (x:V) (H1:Hp):Prop where
 | mk:∀a dx fs,x=.ref a->H1 a=some (.ins C dx fs)->fs.lookup m=none->(t σ H1 fun vs H2=>sp (x:: (vs ++ dvs)) H2 Q E)->Qz C m sp dvs E t σ Q x H1
noncomputable def Mw (C:Addr) (m:Str) (sp:Sp) (dvs:List V) (E:XK) (ta:TE) (t:TA):TE:=fun σ H Q=>ta σ H fun x H1=>Qz C m sp dvs E t σ Q x H1
noncomputable def Ys (C:Addr) (sp:Sp) (dvs:List V) (E:XK) (t:TA):TE:=fun σ H Q=>t σ H fun vs H1=>∀x dx,H1 x=none->H1 dx=none->dx≠x->
 sp (.ref x:: (vs ++ dvs)) (upd (upd H1 dx (.own x)) x (.ins C dx [])) (fun v H2=>v=.non/\Q (.ref x) H2) E
noncomputable def Binds (K:PySem.W.Frag) (fd:FuncData) (ps:List Str) (ds:List Value):Prop:=
 ∀(s:Shared) (us:List Value),K.In s.heap->(us ++ ds).length=ps.length->BindsTo s fd ⟨us,[]⟩ (ps.zip (us ++ ds))
theorem Binds.all {K:PySem.W.Frag} {fd:FuncData} {ps:List Str} (h:∀us:List Value,us.length=ps.length->bindArgs fd ⟨us,[]⟩=pure (ps.zip us)):Binds K fd ps []:=fun s us _ hl=>by
 rw [List.append_nil] at hl ⊢
 exact .of_eq (h us hl)
noncomputable def qu (CX:FP) (X:Cx) (E:XK):Prop:=∀(pins:List (Addr×Obj)) (σ:St) (H:Hp) (s:Shared) (e:Value) (s':Shared),Inv X pins σ H s->CX X.stack H s E e s'->X.xe e s'
section
variable {X:Cx} {CX:FP} {k:Nat} {f C:Addr} {fd:FuncData} {ps:List Str} {sp:Sp} {dvs:List V} {ds:List Value} {E:XK} {x m:Str} {p pos apos:Pos} {e o:Expr} {es:List Expr} {ta:TE} {t:TA}
theorem Dd {pins:List (Addr×Obj)} {σ:St} {H:Hp} {s:Shared} {Q:VK} {us:List Value} {vs:List V} (F:iR X.prog X.w X.K X.mg X.base CX k f fd ps sp) (hr:iQ k X.A) (hb:Binds X.K fd ps ds) (hd:Vals dvs ds) (hx:qu CX X E)
  (I:Inv X pins σ H s) (r:Vals vs us) (h:sp (vs ++ dvs) H Q E):wpAny (model X.prog X.w) X.A (call (.ref f) us) (EP X pins σ Q) X.xe s:=by
 have r2:Vals (vs ++ dvs) (us ++ ds):=r.append hd
 have hl:(us ++ ds).length=ps.length:=by rw [<-r2.length];exact F.len _ _ _ _ h
 refine wpAny_call (codeAny_mono (F.run X.A X.stack s H ⟨us,[]⟩ (us ++ ds) (vs ++ dvs) Q E hr I.env0 (hb s us I.kIn hl) r2 h) fun r s' hq=>?_)
 cases r with
 | error e=>exact hx pins σ H s e s' I hq
 | ok fl=>
  cases fl with
  | ret u=>exact I.after hq
  | next=>exact False.elim hq
  | brk=>exact False.elim hq
  | cont=>exact False.elim hq
theorem Td (F:iR X.prog X.w X.K X.mg X.base CX k f fd ps sp) (hr:iQ k X.A) (hg:Gl X x) (hm:X.mg x=some (.ref f)) (hk:PySem.W.keepIn X.K (.ref f)=true) (hb:Binds X.K fd ps ds) (hd:Vals dvs ds) (hx:qu CX X E)
  (ha:PA X (e:: es) t) (hdb:(x == ("__debug__" :Str))=false:=by decide) (he:starEach (e:: es) X.env=(false,eval e X.env):: starEach es X.env:=by rfl) (hpl:(backTo pos (starEach es X.env)).any (·.1)=false:=by rfl):
  PE X (.Call (.Name x p) (e:: es) [] pos) (VR sp dvs E t):=by
 intro pins s σ H Q I h
 refine wpAny_Call_Name_kw (Jk I hg hm ?_ hdb)
 refine PySem.W.callWith_K (h₀:=X.base) I.ok.mod.kin hk (dG (ha pos pins s σ H _ I h) fun us s1 ⟨vs,H1,I1,r,q⟩=>⟨I1.kIn,?_⟩) he hpl
 exact Dd F hr hb hd hx I1 r q
theorem MJ {pl:Sem Bool} (he:PE X o ta) (c:Ot X.K C) (hm:Meth X.K C m f) (F:iR X.prog X.w X.K X.mg X.base CX k f fd ps sp) (hr:iQ k X.A) (hb:Binds X.K fd ps ds) (hd:Vals dvs ds) (hx:qu CX X E) (ha:PA X (e:: es) t)
  (hst:starEach (e:: es) X.env=(false,eval e X.env):: starEach es X.env:=by rfl) (hpl:(backTo pos (starEach es X.env)).any (·.1)=false:=by rfl)
  (ht:eval (.Call (.Attribute o m apos) (e:: es) [] pos) X.env=(do
   let ov <-eval o X.env
   standAt apos.atName
   let (f,first) <-holding [ov] (getMethod ov m pl)
   callWith pos f first (backTo pos (starEach (e:: es) X.env)) (backToKw pos (keywordEach [] X.env))):=by rfl):
  PE X (.Call (.Attribute o m apos) (e:: es) [] pos) (Mw C m sp dvs E ta t):=by
 intro pins s σ H Q I h
 refine PySem.W.methodCall_KW (pl:=pl) (dG (he pins s σ H _ I h) fun u s1 hpt=>?_) ht
 obtain⟨x,H1,I1,rx,a,dx,fs,ex,ea,l,q⟩:=hpt
 subst ex
 obtain rfl:u=Value.ref a:=rx
 refine rE I1 ea c hm l ?_
 refine PySem.W.callWith_K (first:=[.ref a]) (h₀:=X.base) I.ok.mod.kin hm.kp (dG (ha pos pins s1 σ H1 _ I1 q) fun us s2 ⟨vs,H2,I2,r,q2⟩=>⟨I2.kIn,?_⟩) hst hpl
 exact Dd (us:=.ref a:: us) (vs:=.ref a:: vs) F hr hb hd hx I2 (.cons rfl r) q2
theorem Qo {pl:Sem Bool} (he:PE X o ta) (c:Ot X.K C) (hm:Meth X.K C m f) (F:iR X.prog X.w X.K X.mg X.base CX k f fd ps sp) (hr:iQ k X.A) (hb:Binds X.K fd ps ds) (hd:Vals dvs ds) (hx:qu CX X E)
  (ht:eval (.Call (.Attribute o m apos) [] [] pos) X.env=(do
   let ov <-eval o X.env
   standAt apos.atName
   let (f,first) <-holding [ov] (getMethod ov m pl)
   callWith pos f first (backTo pos (starEach [] X.env)) (backToKw pos (keywordEach [] X.env))):=by rfl):
  PE X (.Call (.Attribute o m apos) [] [] pos) (Mw C m sp dvs E ta Qe):=by
 intro pins s σ H Q I h
 refine PySem.W.methodCall_KW (pl:=pl) (dG (he pins s σ H _ I h) fun u s1 hpt=>?_) ht
 obtain⟨x,H1,I1,rx,a,dx,fs,ex,ea,l,q⟩:=hpt
 subst ex
 obtain rfl:u=Value.ref a:=rx
 refine rE I1 ea c hm l ?_
 exact PySem.W.callWith_K0 (first:=[.ref a]) I1.kIn hm.kp (Dd (us:=[.ref a]) (vs:=[.ref a]) F hr hb hd hx I1 (.cons rfl .nil) q)
structure Mk (K:PySem.W.Frag) (C f:Addr):Prop where
 makes:PySem.W.makesIn K C=true
 init:PySem.W.findIn K (.ref C) "__init__" =some (some (.ref f))
 fn:PySem.W.isFn K (.ref f)=true
 kp:PySem.W.keepIn K (.ref C)=true
theorem Qq {pins:List (Addr×Obj)} {σ:St} {H:Hp} {s:Shared} {Q:VK} {us:List Value} {vs:List V} (M:Mk X.K C f) (F:iR X.prog X.w X.K X.mg X.base CX k f fd ps sp) (hr:iQ (k+1) X.A) (hb:Binds X.K fd ps ds) (hd:Vals dvs ds)
  (hx:qu CX X E) (I:Inv X pins σ H s) (r:Vals vs us)
  (h:∀x dx,H x=none->H dx=none->dx≠x->sp (.ref x:: (vs ++ dvs)) (upd (upd H dx (.own x)) x (.ins C dx [])) (fun v H2=>v=.non/\Q (.ref x) H2) E):
  wpAny (model X.prog X.w) X.A (call (.ref C) us) (EP X pins σ Q) X.xe s:=by
 have hq:=h (s.heap.objs.size+1) s.heap.objs.size (I.hok.fresh (Nat.le_succ _)) (I.hok.fresh (Nat.le_refl _)) (Nat.ne_of_lt (Nat.lt_succ_self _))
 have I2:=Inv.made (C:=C) I
 have r2:Vals (V.ref (s.heap.objs.size+1):: (vs ++ dvs)) (Value.ref (s.heap.objs.size+1):: (us ++ ds)):=.cons rfl (r.append hd)
 have hl:(Value.ref (s.heap.objs.size+1):: us ++ ds).length=ps.length:=by
  have e:=r2.length
  rw [F.len _ _ _ _ hq] at e
  exact e.symm
 refine wpAny_call (QT (f:=f) I.kIn M.makes M.init (beq_iff_eq.mp M.fn) (codeAny_mono (F.run _ X.stack _ _ ⟨Value.ref (s.heap.objs.size+1):: us,[]⟩ (Value.ref (s.heap.objs.size+1):: (us ++ ds)) _ _ E (hr.make C us [])
  (I2.env0.make C us []) (hb _ (Value.ref (s.heap.objs.size+1):: us) I2.kIn hl) r2 hq) fun r s' hq'=>?_))
 cases r with
 | error e=>exact hx pins σ _ _ e s' I2 hq'
 | ok fl=>
  cases fl with
  | ret u=>
   obtain⟨v,H',I3,rv,ev,q3⟩:=I2.after hq'
   subst ev
   exact⟨rv,⟨V.ref (s.heap.objs.size+1),H',I3,rfl,q3⟩⟩
  | next=>exact False.elim hq'
  | brk=>exact False.elim hq'
  | cont=>exact False.elim hq'
theorem gY (M:Mk X.K C f) (F:iR X.prog X.w X.K X.mg X.base CX k f fd ps sp) (hr:iQ (k+1) X.A) (hg:Gl X x) (hm:X.mg x=some (.ref C)) (hb:Binds X.K fd ps ds) (hd:Vals dvs ds) (hx:qu CX X E)
  (ha:PA X (e:: es) t) (hdb:(x == ("__debug__" :Str))=false:=by decide) (he:starEach (e:: es) X.env=(false,eval e X.env):: starEach es X.env:=by rfl) (hpl:(backTo pos (starEach es X.env)).any (·.1)=false:=by rfl):
  PE X (.Call (.Name x p) (e:: es) [] pos) (Ys C sp dvs E t):=by
 intro pins s σ H Q I h
 refine wpAny_Call_Name_kw (Jk I hg hm ?_ hdb)
 refine PySem.W.callWith_K (h₀:=X.base) I.ok.mod.kin M.kp (dG (ha pos pins s σ H _ I h) fun us s1 ⟨vs,H1,I1,r,q⟩=>⟨I1.kIn,?_⟩) he hpl
 exact Qq M F hr hb hd hx I1 r q
end
section
variable {X:Cx} {CX:FP} {k:Nat} {f C:Addr} {fd:FuncData} {ps ks:List Str} {sp:Sp} {E:XK} {x m:Str} {p pos apos kpos:Pos} {e o:Expr} {es:List Expr} {kws:List Keyword} {te ta:TE} {t tk:TA} {nm:Option Str}
variable {g:List Value->List Value->List Value} {gV:List V->List V->List V}
end
structure fV (N P:List Str) (sc:Scope):Prop where
 kind:sc.kind=.function
 co:sc.isCoroutine=false
 gen:sc.isGenerator=false
 nd:N.Nodup
 pre:N.take P.length=P
 par:∀x∈P,sc.names.lookup x=some .local∨sc.names.lookup x=some .cell
 nofree:∀y∈sc.names,y.2≠.free
theorem GF {kindOf:Str->Option NameKind} {x:Str}:∀{binds:List (Str×Value)} {m:Str->Option Value},(∀v,(x,v)∉binds)->bindL kindOf binds m x=m x
 | [],_,_=>rfl
 | (n,v):: r,m,h=>by
  unfold bindL
  rw [GF fun w hw=>h w (List.mem_cons_of_mem _ hw)]
  split
  ·have:x≠n:=by rintro rfl;exact h v List.mem_cons_self
   simp [this]
  ·rfl
theorem Fl {kindOf:Str->Option NameKind} {x:Str}:∀{binds:List (Str×Value)} {m:Str->Option Value},(∀v,(x,v)∉binds)->bindC kindOf binds m x=m x
 | [],_,_=>rfl
 | (n,v):: r,m,h=>by
  unfold bindC
  rw [Fl fun w hw=>h w (List.mem_cons_of_mem _ hw)]
  split
  ·rfl
  ·have:x≠n:=by rintro rfl;exact h v List.mem_cons_self
   simp [this]
theorem Gr {kindOf:Str->Option NameKind} {x:Str} {v:Value}:∀{P:List Str} {vs:List Value} {i:Nat} {m:Str->Option Value},P.Nodup->P[i]?=some x->vs[i]?=some v->kindOf x=some .local->
  bindL kindOf (P.zip vs) m x=some v
 | [],_,_,_,_,h,_,_=>by simp at h
 | _:: _,[],_,_,_,_,h,_=>by simp at h
 | p:: P,w:: vs,0,m,nd,h1,h2,hk=>by
  simp at h1 h2;subst h1;subst h2
  show bindL kindOf ((p,w):: P.zip vs) m p=_
  unfold bindL
  rw [GF fun v hv=>(List.nodup_cons.mp nd).1 (List.of_mem_zip hv).1,if_pos hk]
  simp
 | p:: P,w:: vs,i+1,m,nd,h1,h2,hk=>by
  show bindL kindOf ((p,w):: P.zip vs) m x=_
  unfold bindL
  exact Gr (i:=i) (List.nodup_cons.mp nd).2 (by simpa using h1) (by simpa using h2) hk
theorem FJ {kindOf:Str->Option NameKind} {x:Str} {v:Value}:∀{P:List Str} {vs:List Value} {i:Nat} {m:Str->Option Value},P.Nodup->P[i]?=some x->vs[i]?=some v->kindOf x≠some .local->
  bindC kindOf (P.zip vs) m x=some v
 | [],_,_,_,_,h,_,_=>by simp at h
 | _:: _,[],_,_,_,_,h,_=>by simp at h
 | p:: P,w:: vs,0,m,nd,h1,h2,hk=>by
  simp at h1 h2;subst h1;subst h2
  show bindC kindOf ((p,w):: P.zip vs) m p=_
  unfold bindC
  rw [Fl fun v hv=>(List.nodup_cons.mp nd).1 (List.of_mem_zip hv).1,if_neg hk]
  simp
 | p:: P,w:: vs,i+1,m,nd,h1,h2,hk=>by
  show bindC kindOf ((p,w):: P.zip vs) m x=_
  unfold bindC
  exact FJ (i:=i) (List.nodup_cons.mp nd).2 (by simpa using h1) (by simpa using h2) hk
noncomputable def start (N:List Str) (vs:List V):St:=vs.map some ++ List.replicate (N.length - vs.length) none
noncomputable def K4 (CX:FP) (P:Program) (w:World) (K:PySem.W.Frag) (mg:Str->Option Value) (base:Heap) (N:List Str) (qual:Str) (scope:Scope) (f:Addr) (cd:Value) (A:Around) (outer:List Env) (s:Shared) (H:Hp) (E:XK):Cx where
 prog:=P
 w:=w
 K:=K
 mg:=mg
 base:=base
 A:=A.deeper (envOfC qual scope s.heap.objs.size f cd)
 N:=N
 s₀:=s
 H₀:=H
 env:=envOfC qual scope s.heap.objs.size f cd
 outer:=outer
 stack:=envOfC qual scope s.heap.objs.size f cd:: outer
 ex:=[]
 calm:=true
 fn:=fun _=>true
 pn:=[]
 xe:=fun e s'=>wpAny (model P w) (A.deeper (envOfC qual scope s.heap.objs.size f cd)) (leaving (envOfC qual scope s.heap.objs.size f cd) e) (fun _ s''=>CX outer H s E e s'') (fun e' s''=>CX outer H s E e' s'') s'
theorem Ka {sc:Scope} {n:Nat} {x:Str} (h:sc.names.lookup x=some .cell):∃c,(cellsFrom n sc.names []).lookup x=some c:=by
 have q:=PySem.W.cellsFrom_some sc.names n [] (.inl h)
 exact Option.isSome_iff_exists.mp q
theorem N5 {CX:FP} {P:Program} {w:World} {K:PySem.W.Frag} {mg:Str->Option Value} {base:Heap} {N ps:List Str} {qual:Str} {scope:Scope} {f:Addr} {cd:Value} {A:Around} {outer:List Env} {s s1:Shared} {H:Hp} {E:XK} {us:List Value} {vs:List V}
  (S:fV N ps scope) (hd:A.handled=none) (e0:K5 P w K mg base A outer s H) (hl:vs.length=ps.length) (r:Vals vs us)
  (x:InCallC s s.heap.objs.size (bindL (envOfC qual scope s.heap.objs.size f cd).kindOf (ps.zip us) fun _=>none) (cellsFrom (s.heap.objs.size+1) scope.names []) (bindC (envOfC qual scope s.heap.objs.size f cd).kindOf (ps.zip us) fun _=>none) s1):
  Inv (K4 CX P w K mg base N qual scope f cd A outer s H E) [] (start N vs) H s1:=by
 have hpl:ps.length<=N.length:=by have:=congrArg List.length S.pre;rw [List.length_take] at this;omega
 obtain⟨h1,tk,rfl,hk⟩:=x.done
 have noA:∀b:Addr,b∉(K4 CX P w K mg base N qual scope f cd A outer s H E).ex:=fun b z=>absurd (show b∈([]:List Addr) from z) (by simp)
 refine⟨⟨e0.mod,S.kind,rfl,rfl,Nat.le_refl _,fun y z c h1 h2=>?_,fun y hy=>?_,fun y c _ h=>?_,fun _=>hd,Around.frames_deeper e0.frames,.inr ⟨rfl,rfl⟩,fun b z=>absurd z (noA b),e0.bs,e0.bsz,fun b _ _=>noA b,fun b z=>absurd z (noA b),e0.funs,e0.frf⟩,
  rfl,e0.bare,Un.kept hk,⟨_,x.toInCall.ns,fun i y v h1 h2 h3=>?_⟩,fun y c h=>⟨_,x.cell y c h⟩,e0.hok.fresh (Nat.le_refl _),fun y c h=>?_,fun p hp=>absurd (show p∈([]:List (Addr×Obj)) from hp) (by simp),e0.hok.kept hk,?_⟩
 ·exact name_of_addr x.apart (PySem.mem_of_lookup h1) (PySem.mem_of_lookup h2)
 ·have hy:scope.names.lookup y=some .cell∨scope.names.lookup y=some .free:=hy
  rcases hy with hy | hy
  ·exact Ka hy
  ·exact absurd rfl (S.nofree _ (PySem.mem_of_lookup hy))
 ·exact Nat.le_of_lt (x.above y c (PySem.mem_of_lookup h))
 ·have hi:i <vs.length:=by
   unfold start at h2
   by_cases hi:i <vs.length
   ·exact hi
   ·rw [List.getElem?_append_right (by simpa using hi)] at h2
    rw [List.getElem?_replicate] at h2
    split at h2 <;> cases h2
  have ha:vs[i]?=some v:=by
   unfold start at h2
   rw [List.getElem?_append_left (by simpa using hi),List.getElem?_map] at h2
   cases e:vs[i]? with
   | none=>rw [e] at h2;cases h2
   | some a=>rw [e] at h2;cases h2;rfl
  obtain⟨u,hu,rv⟩:=r.get ha
  have hp:ps[i]?=some y:=by
   rw [<-S.pre,List.getElem?_take_of_lt (by omega)];exact h1
  have ndP:ps.Nodup:=by rw [<-S.pre];exact S.nd.sublist (List.take_sublist _ _)
  refine⟨u,rv,?_⟩
  rcases S.par y (List.mem_of_getElem? hp) with k | k
  ·exact .inl ⟨k,Gr ndP hp hu k⟩
  ·obtain⟨c,e⟩:=Ka (n:=s.heap.objs.size+1) k
   refine .inr ⟨.inl k,c,e,?_⟩
   have q:=x.cell y c e
   rw [FJ ndP hp hu (by show scope.names.lookup y≠_;rw [k];decide)] at q
   exact q
 ·exact e0.hok.fresh (Nat.le_of_lt (x.above y c (PySem.mem_of_lookup h)))
 ·unfold start
  show _=N.length
  rw [List.length_append,List.length_map,List.length_replicate]
  omega
theorem VL {CX:FP} {P:Program} {w:World} {K:PySem.W.Frag} {mg:Str->Option Value} {base:Heap} {k:Nat} {f:Addr} {name qual:Str} {params:Arguments} {body:List Stmt} {scope:Scope} {dV kV doc pm cdv ct oc:Value} {an od:Option Addr}
  {osl:Array (Option Value)} {N ps:List Str} {sp:Sp} (lk:K.lookup f=some ⟨oc,od,.func (PySem.W.fnOf name qual params body scope dV kV doc pm an cdv ct),osl⟩) (hcd:PySem.W.codeIn K cdv qual=true) (S:fV N ps scope)
  (len:∀vs H Q E,sp vs H Q E->vs.length=ps.length)
  (hbody:∀(A:Around) (outer:List Env) (s:Shared) (H:Hp) (vs:List V) (Q:VK) (E:XK),iQ k (A.deeper (envOfC qual scope s.heap.objs.size f cdv))->sp vs H Q E->
   ∃t,Ni (K4 CX P w K mg base N qual scope f cdv A outer s H E) body t/\t { nx:=fun _ H'=>Q .non H',rt:=Q } (start N vs) H):
  iR P w K mg base CX (k+1) f (PySem.W.fnOf name qual params body scope dV kV doc pm an cdv ct) ps sp:=by
 refine⟨len,fun A outer s H args us vs Q E hr e0 hb r hsp=>?_⟩
 have hl:=len _ _ _ _ hsp
 have KX:K.In s.heap:=e0.mod.kin.keeps fun b o e=>(e0.bs b o e).1
 have lim:s.heap.NoLimit:=e0.mod.nolimit.keeps fun b o e=>(e0.bs b o e).1
 have hkind:∀y∈ps.zip us,scope.names.lookup y.1=some .local∨(scope.names.lookup y.1=some .cell/\((cellsFrom (s.heap.objs.size+1) scope.names []).lookup y.1).isSome=true):=fun⟨n,v⟩ hy=>by
  rcases S.par n (List.of_mem_zip hy).1 with q | q
  ·exact .inl q
  ·exact .inr ⟨q,PySem.W.cellsFrom_some _ _ _ (.inl q)⟩
 refine codeAny_call_function hr.depth (KX _ _ lk) rfl S.co S.gen rfl (PySem.W.codeRec_of KX hcd) (hb _ _ _ _ ?_)
 refine wpAny_newFunctionEnv_cells S.kind hkind fun env he s1 x=>?_
 subst he
 refine⟨lim.keeps x.toInCall.keep,codeAny_func ?_⟩
 obtain⟨t,ht,hq⟩:=hbody A outer s H vs Q E (hr.deeper _) hsp
 have I:Inv (K4 CX P w K mg base N qual scope f cdv A outer s H E) [] (start N vs) H s1:=N5 S hr.hd e0 hl r x
 refine wpAny_mono (ht [] s1 (start N vs) H _ I hq) (fun fl s' hs=>?_) fun e s' hs=>hs
 have fin:∀{σ':St} {H':Hp} {v:V} {u:Value},Inv (K4 CX P w K mg base N qual scope f cdv A outer s H E) [] σ' H' s'->RelV v u->Q v H'->CE outer P w H s Q u s':=
  fun {σ' H' v u} J rv q=>⟨v,H',J.os,J.bare,J.base,J.hok,rv,q⟩
 cases fl with
 | ret u=>
  obtain⟨v,σ',H',J,rv,q⟩:=hs
  exact fin J rv q
 | next=>
  obtain⟨σ',H',J,q⟩:=hs
  exact fin (v:=V.non) (u:=Value.none) J rfl q
 | brk=>
  obtain⟨_,_,_,q⟩:=hs
  exact False.elim q
 | cont=>
  obtain⟨_,_,_,q⟩:=hs
  exact False.elim q
section
variable {X:Cx} {x:Str} {p pos:Pos} {e:Expr} {es:List Expr} {t:TA} {id T:String} {r:List V->Hp->VK->Prop}
noncomputable def tCB (r:List V->Hp->VK->Prop) (t:TA):TE:=fun σ H Q=>t σ H fun vs H1=>r vs H1 Q
theorem bz (hc:oW X (.builtin id) r) (hg:Gl X x) (hm:X.mg x=none) (hv:bootBuiltins x=some (.builtin id)) (ha:PA X (e:: es) t) (hn:x≠ "__name__" :=by decide) (hdb:(x == ("__debug__" :Str))=false:=by decide)
  (he:starEach (e:: es) X.env=(false,eval e X.env):: starEach es X.env:=by rfl) (hpl:(backTo pos (starEach es X.env)).any (·.1)=false:=by rfl):PE X (.Call (.Name x p) (e:: es) [] pos) (tCB r t):=by
 intro pins s σ H Q I h
 refine wpAny_Call_Name_kw (za I hg hm hv ?_ hn hdb)
 exact PyProof.Rows.callWith_builtin1 (dG (ha pos pins s σ H _ I h) fun us s1 ⟨vs,H1,I1,r1,q1⟩=>hc pins s1 σ H1 vs us Q I1 r1 q1) he hpl
theorem fj (hc:oW X (.type T) r) (hg:Gl X x) (hm:X.mg x=none) (hv:bootBuiltins x=some (.type T)) (ha:PA X (e:: es) t) (hn:x≠ "__name__" :=by decide) (hdb:(x == ("__debug__" :Str))=false:=by decide)
  (he:starEach (e:: es) X.env=(false,eval e X.env):: starEach es X.env:=by rfl) (hpl:(backTo pos (starEach es X.env)).any (·.1)=false:=by rfl):PE X (.Call (.Name x p) (e:: es) [] pos) (tCB r t):=by
 intro pins s σ H Q I h
 refine wpAny_Call_Name_kw (za I hg hm hv ?_ hn hdb)
 exact PyProof.Rows.callWith_type1 (dG (ha pos pins s σ H _ I h) fun us s1 ⟨vs,H1,I1,r1,q1⟩=>hc pins s1 σ H1 vs us Q I1 r1 q1) he hpl
end
end L2
namespace HT
open PySem PyProof.Rows
section
open PySem.SeqAt
open PySem.AutoSeq1 (wpAny_loadPart')
open PySem.MeetsSeq PySem.MeetsSeq2 PySem.MeetsSeq3
end
section
variable {prog:Program} {w:World} {A:Around} {E:Value->Shared->Prop} {s:Shared}
noncomputable def Jx (n d:Nat):Option Int->Nat
 | none=>d
 | some v=>if v <0 then(v+(n:Int)).toNat else min v.toNat n
theorem BL (n d:Nat):Jx n d none=d:=rfl
theorem xQ (n d k:Nat):Jx n d (some (k:Int))=min k n:=by
 show(if (k:Int) <0 then((k:Int)+(n:Int)).toNat else min (k:Int).toNat n)=min k n
 rw [if_neg (by omega),Int.toNat_natCast]
end
end HT
namespace L2
open PySem PySem.Spec PyProof.Rows
noncomputable abbrev TO:=St->Hp->(Option Int->Hp->Prop)->Prop
noncomputable def PO (X:Cx) (e:Option Expr) (t:TO):Prop:=
 ∀(pins:List (Addr×Obj)) (s:Shared) (σ:St) (H:Hp) (Q:Option Int->Hp->Prop),Inv X pins σ H s->t σ H Q->
  wpAny (model X.prog X.w) X.A (evalPart e X.env) (fun u s'=>∃o H',Inv X pins σ H' s'/\IsPart u o/\Q o H') X.xe s
noncomputable def U8:TO:=fun _ H Q=>Q none H
inductive Qx (Q:Option Int->Hp->Prop) (x:V) (H1:Hp):Prop where
 | mk:∀i,x=.int i->Q (some i) H1->Qx Q x H1
noncomputable def Y0 (t:TE):TO:=fun σ H Q=>t σ H fun x H1=>Qx Q x H1
section
variable {X:Cx} {e:Expr} {te:TE} {lo hi:Option Expr} {tl th:TO} {pos p2:Pos}
theorem vy:PO X none U8:=by
 intro pins s σ H Q I h
 rw [evalPart_none]
 exact wpAny_pure ⟨none,H,I,.none,h⟩
theorem kJ (h:PE X e te):PO X (some e) (Y0 te):=by
 intro pins s σ H Q I hw
 rw [evalPart_some]
 refine dG (h pins s σ H _ I hw) fun u s1 hpt=>?_
 obtain⟨x,H1,I1,r1,q1⟩:=hpt
 obtain⟨i,rfl,q⟩:=q1
 obtain⟨t,rfl⟩:=r1
 exact⟨some i,H1,I1,.int i t,q⟩
noncomputable def ZC (X:Cx) (r:V->Option Int->Option Int->Hp->VK->Prop):Prop:=
 ∀(pins:List (Addr×Obj)) (s:Shared) (σ:St) (H:Hp) (x:V) (v vl vu:Value) (lo hi:Option Int) (sl:Addr) (Q:VK),Inv X pins σ H s->RelV x v->s.heap.IsSliceOf sl vl vu .none->IsPart vl lo->IsPart vu hi->r x lo hi H Q->
  ∃T id,typeLookup (.type T) "__getitem__" =pure (some (.builtin id))/\s.TypeIs v T/\wpAny (model X.prog X.w) X.A (getItem v (.ref sl)) (EP X pins σ Q) X.xe s
noncomputable def tSl (r:V->Option Int->Option Int->Hp->VK->Prop) (te:TE) (tl th:TO):TE:=fun σ H Q=>te σ H fun x H1=>tl σ H1 fun l H2=>th σ H2 fun u H3=>r x l u H3 Q
theorem lK {r:V->Option Int->Option Int->Hp->VK->Prop} (hr:ZC X r) (he:PE X e te) (hl:PO X lo tl) (hu:PO X hi th):PE X (.Subscript e (.Slice lo hi none p2) pos) (tSl r te tl th):=by
 intro pins s σ H Q I h
 refine Subscript_ (dG (he pins s σ H _ I h) fun v s1 hpt=>?_)
 obtain⟨x,H1,I1,r1,q1⟩:=hpt
 refine wpAny_Slice (dG (hl pins s1 σ H1 _ I1 q1) fun vl s2 ⟨l,H2,I2,pl,q2⟩=>dG (hu pins s2 σ H2 _ I2 q2) fun vu s3 hpt=>?_)
 obtain⟨u,H3,I3,pu,q3⟩:=hpt
 rw [evalPart_none]
 refine wpAny_pure ?_
 have I4:Inv X pins σ H3 { s3 with heap:=s3.heap.push { cls:=.type "slice",data:=.fields #[vl,vu,.none] } }:=I3.kept (t':=s3.toks) fun b ob q=>Heap.get?_push_of_some _ q
 obtain⟨T,id,hT,ht,hg⟩:=hr pins { s3 with heap:=s3.heap.push { cls:=.type "slice",data:=.fields #[vl,vu,.none] } } σ H3 x v vl vu l u s3.heap.objs.size Q I4 r1 (Heap.IsSliceOf.new ..) pl pu q3
 show wpAny (model X.prog X.w) X.A (subscriptTail e (.Slice lo hi none p2) v (.ref s3.heap.objs.size)) (EP X pins σ Q) X.xe { s3 with heap:=s3.heap.push { cls:=.type "slice",data:=.fields #[vl,vu,.none] } }
 exact tail_any (ops:=[.ref s3.heap.objs.size,v]) ht hT hg (by with_unfolding_all rfl)
noncomputable def xR (xs:List V) (lo hi:Option Int):List V:=(xs.drop (HT.Jx xs.length 0 lo)).take (HT.Jx xs.length xs.length hi - HT.Jx xs.length 0 lo)
theorem J2 (xs:List V) (lo hi:Option Int):(xR xs lo hi).length<=xs.length:=by
 unfold xR
 rw [List.length_take,List.length_drop]
 omega
end
noncomputable def Xr (n:Nat) (i:Int):Option Nat:=if 0<=i then(if i <n then some i.toNat else none) else if -(n:Int)<=i then some (i+n).toNat else none
noncomputable def JZ {α:Type} (xs:List α) (i:Int):Option α:=(Xr xs.length i).bind fun j=>xs[j]?
theorem Ut {n:Nat} {i:Int} {j:Nat} (h:Xr n i=some j):seqIndex? i n=some j/\j <n/\ -(n:Int)<=i/\i <n:=by
 unfold Xr at h
 by_cases h0:0<=i
 ·rw [if_pos h0] at h
  by_cases h1:i <n
  ·rw [if_pos h1] at h
   have e:i.toNat=j:=Option.some.inj h
   exact⟨by rw [seqIndex_of h0 h1,e],by omega,by omega,h1⟩
  ·rw [if_neg h1] at h;cases h
 ·rw [if_neg h0] at h
  by_cases h1: -(n:Int)<=i
  ·rw [if_pos h1] at h
   have e:(i+n).toNat=j:=Option.some.inj h
   exact⟨by rw [seqIndex_neg (by omega) h1,e],by omega,h1,by omega⟩
  ·rw [if_neg h1] at h;cases h
theorem Hi {α:Type} {xs:List α} {i:Int} {v:α} (h:JZ xs i=some v):∃j,seqIndex? i xs.length=some j/\xs[j]?=some v/\j <xs.length/\ -(xs.length:Int)<=i/\i <xs.length:=by
 unfold JZ at h
 cases e:Xr xs.length i with
 | none=>rw [e] at h;cases h
 | some j=>
  rw [e] at h
  obtain⟨h1,h2,h3,h4⟩:=Ut e
  exact⟨j,h1,h,h2,h3,h4⟩
theorem aN {α:Type} {xs:List α} {j:Nat} {v:α} (h:xs[j]?=some v):JZ xs (j:Int)=some v:=by
 have hj:j <xs.length:=(List.getElem?_eq_some_iff.mp h).1
 have e:Xr xs.length (j:Int)=some j:=by
  unfold Xr
  rw [if_pos (by omega),if_pos (by omega)];simp
 unfold JZ;rw [e];exact h
noncomputable def MN (b:Expr):Prop:=∀o i,subscripted b false o i=operate [o,i] (getItem o i)
noncomputable def Px (X:Cx) (r:R2):Prop:=
 ∀(value slice:Expr) (pins:List (Addr×Obj)) (s:Shared) (σ:St) (H:Hp) (x y:V) (v u:Value) (Q:VK),Inv X pins σ H s->RelV x v->RelV y u->r x y H Q->
  subscripted slice false v u=operate [v,u] (getItem v u)->wpAny (model X.prog X.w) X.A (subscriptTail value slice v u) (EP X pins σ Q) X.xe s
noncomputable def Zq (X:Cx) (id:String) (r:V->List V->Hp->VK->Prop):Prop:=
 ∀(pins:List (Addr×Obj)) (s:Shared) (σ:St) (H:Hp) (x:V) (xs:List V) (v:Value) (us:List Value) (Q:VK),Inv X pins σ H s->RelV x v->Vals xs us->r x xs H Q->
  wpAny (model X.prog X.w) X.A (call (.builtin id) (v:: us)) (EP X pins σ Q) X.xe s
section
variable {X:Cx} {a b:Expr} {ta tb:TE} {pos:Pos}
theorem Px.or {r r':R2} (h:Px X r) (h':Px X r'):Px X (fun x y H Q=>r x y H Q∨r' x y H Q):=by
 intro value slice pins s σ H x y v u Q I rx ry q hs
 rcases q with q | q
 ·exact h value slice pins s σ H x y v u Q I rx ry q hs
 ·exact h' value slice pins s σ H x y v u Q I rx ry q hs
theorem aV {r:R2} (hr:Px X r) (ha:PE X a ta) (hb:PE X b tb) (hs:MN b):PE X (.Subscript a b pos) (YM r ta tb):=by
 intro pins s σ H Q I h
 exact Subscript_ (WL ha hb I h fun v u s2 x y H2 I2 rx ry q=>hr a b pins s2 σ H2 x y v u Q I2 rx ry q (hs _ _))
inductive V0 (K:PySem.W.Frag) (x:V) (y:V) (H:Hp) (Q:VK):Prop where
 | mk:∀p xs i v,x=.ref p->y=.int i->bJ K H p xs->JZ xs i=some v->Q v H->V0 K x y H Q
noncomputable def WM (K:PySem.W.Frag):R2:=fun x y H Q=>V0 K x y H Q
inductive VM (K:PySem.W.Frag) (x:V) (y:V) (H:Hp) (Q:VK):Prop where
 | mk:∀p xs i v,x=.ref p->y=.int i->fu K H p xs->JZ xs i=some v->Q v H->VM K x y H Q
noncomputable def Xd (K:PySem.W.Frag):R2:=fun x y H Q=>VM K x y H Q
inductive Vl (x:V) (y:V) (H:Hp) (Q:VK):Prop where
 | mk:∀z i c,x=.str z->y=.int i->z.length<=sizeLine->JZ z.cps.toList i=some c->Q (.str ⟨#[c]⟩) H->Vl x y H Q
noncomputable def Yv:R2:=fun x y H Q=>Vl x y H Q
theorem aX:Px X (WM X.K):=by
 intro value slice pins s σ H x y v u Q I rx ry h hs
 obtain⟨p,xs,i,z,rfl,rfl,hq,he,q⟩:=h
 cases rx
 obtain⟨t,rfl⟩:=ry
 obtain⟨its,r,pl,hz⟩:=I.list hq
 obtain⟨j,h1,h2,h3,h4,h5⟩:=Hi he
 obtain⟨w,ew,rw'⟩:=r.get h2
 have hl:=r.length
 have hn:=G9
 have fin:EP X pins σ Q w s:=⟨z,H,I,rw',q⟩
 by_cases h0:0<=i
 ·have hj:i.toNat=j:=by
   rw [seqIndex_of h0 h5] at h1
   exact Option.some.inj h1
  exact item_listR pl.isList h0 (by omega) (by rw [hj];simpa using ew) fin hs
 ·have hj:(i+(its.toArray.size:Int)).toNat=j:=by
   rw [seqIndex_neg (by omega) h4] at h1
   rw [List.size_toArray,<-hl]
   exact Option.some.inj h1
  exact subscriptTail_builtinR (x:=w) pl.isList.typeIs slot_list_getitem.lookup
   (wpAny_getItem_list_neg (Q:=fun r s'=>r=w/\EP X pins σ Q r s') pl.isList (by omega) (by rw [List.size_toArray] <;> omega) (by omega) (by rw [hj];simpa using ew) ⟨rfl,fin⟩) hs
theorem cP:Px X (Xd X.K):=by
 intro value slice pins s σ H x y v u Q I rx ry h hs
 obtain⟨p,xs,i,z,rfl,rfl,hq,he,q⟩:=h
 cases rx
 obtain⟨t,rfl⟩:=ry
 obtain⟨its,r,pl,hz⟩:=I.tuple hq
 obtain⟨j,h1,h2,h3,h4,h5⟩:=Hi he
 obtain⟨w,ew,rw'⟩:=r.get h2
 have hl:=r.length
 have hn:=G9
 have fin:EP X pins σ Q w s:=⟨z,H,I,rw',q⟩
 exact subscriptTail_builtinR (x:=w) pl.typeIs slot_tuple_getitem.lookup
  (getItem_tuple (j:=j) (Q:=fun r s'=>r=w/\EP X pins σ Q r s') pl (by omega) (by omega) (by rw [List.size_toArray,<-hl];exact h1) (by simpa using ew) ⟨rfl,fin⟩) hs
theorem DG:Px X Yv:=by
 intro value slice pins s σ H x y v u Q I rx ry h hs
 obtain⟨z,i,c,rfl,rfl,hz,he,q⟩:=h
 obtain⟨t,rfl⟩:=rx
 obtain⟨t',rfl⟩:=ry
 obtain⟨j,h1,h2,h3,h4,h5⟩:=Hi he
 have hl:z.cps.toList.length=z.length:=by simp [Str.length]
 rw [hl] at h1 h4 h5
 have hn:=G9
 exact tail_any (typeIs_str s z t) slot_str_getitem.lookup (getItem_str (c:=c) (by
  have e1:decide (i < -(2 ^ 63:Int))=false:=decide_eq_false (by omega)
  have e2:decide (i≥2 ^ 63)=false:=decide_eq_false (by omega)
  rw [e1,e2,Bool.or_false]) (by rw [h1];simpa using h2) ⟨.str ⟨#[c]⟩,H,I.tok _,⟨_,rfl⟩,q⟩) hs
noncomputable def rIx (K:PySem.W.Frag):R2:=fun x y H Q=>WM K x y H Q∨Xd K x y H Q∨Yv x y H Q
theorem Mj:Px X (rIx X.K):=aX.or (cP.or DG)
theorem Hd (lo hi:Option Int) (n:Nat):(sliceBounds lo hi none n).1=((HT.Jx n 0 lo:Nat):Int)/\(sliceBounds lo hi none n).2.1=((HT.Jx n n hi:Nat):Int)/\(sliceBounds lo hi none n).2.2=1:=by
 refine⟨?_,?_,rfl⟩
 ·cases lo with
  | none=>simp [sliceBounds,HT.Jx]
  | some i=>
   simp only [sliceBounds,HT.Jx,Option.getD_none,show(1:Int) >0 by decide,if_true]
   by_cases h:i <0
   ·simp only [h,if_true] <;> omega
   ·simp only [h,if_false] <;> omega
 ·cases hi with
  | none=>simp [sliceBounds,HT.Jx]
  | some i=>
   simp only [sliceBounds,HT.Jx,Option.getD_none,show(1:Int) >0 by decide,if_true]
   by_cases h:i <0
   ·simp only [h,if_true] <;> omega
   ·simp only [h,if_false] <;> omega
theorem Fd (its:List Value) (lo hi:Option Int):slicePick its.toArray lo hi none=((its.drop (HT.Jx its.length 0 lo)).take (HT.Jx its.length its.length hi - HT.Jx its.length 0 lo)).toArray:=by
 obtain⟨h1,h2,h3⟩:=Hd lo hi its.toArray.size
 unfold slicePick
 rw [h1,h2,h3]
 simp only [sliceRange_one,pick_run,List.size_toArray] <;> rfl
inductive Vu (K:PySem.W.Frag) (x:V) (lo:Option Int) (hi:Option Int) (H:Hp) (Q:VK):Prop where
 | mk:∀a xs,x=.ref a->bJ K H a xs->(∀p,H p=none->Q (.ref p) (upd H p (.lst (xR xs lo hi))))->Vu K x lo hi H Q
noncomputable def Z6 (K:PySem.W.Frag):V->Option Int->Option Int->Hp->VK->Prop:=fun x lo hi H Q=>Vu K x lo hi H Q
theorem uW:ZC X (Z6 X.K):=by
 intro pins s σ H x v vl vu lo hi sl Q I rx hs pl pu h
 obtain⟨a,xs,rfl,hx,q⟩:=h
 cases rx
 obtain⟨its,r,ht,hz⟩:=I.list hx
 have hlen:=r.length
 refine⟨"list",_,slot_list_getitem.lookup,ht.isList.typeIs,?_⟩
 refine wpAny_getItem_list_slice ht.isList hs pl pu .none (by simp) ?_ (by rw [List.size_toArray] <;> omega)
 rw [Fd,<-hlen]
 refine⟨.ref s.heap.objs.size,_,I.laid (t':=s.toks) (o:=.lst (xR xs lo hi)) (fun b ob q=>Heap.get?_push_of_some _ q) (Nat.le_refl _) ?_,rfl,q _ (I.hok.fresh (Nat.le_refl _))⟩
 exact⟨Nat.le_trans (J2 xs lo hi) hz,_,0,(r.drop (HT.Jx xs.length 0 lo)).take (HT.Jx xs.length xs.length hi - HT.Jx xs.length 0 lo),Heap.get?_push_size _ rfl⟩
noncomputable def jO:V->Bool
 | .non=>true
 | .bl _=>true
 | .int _=>true
 | .str _=>true
 | _=>false
noncomputable def Ew:V->V->Bool
 | .non,.non=>true
 | .bl a,.bl b=>a == b
 | .bl a,.int b=>(if a then 1 else 0) == b
 | .int a,.bl b=>a == (if b then 1 else 0)
 | .int a,.int b=>a == b
 | .str a,.str b=>a == b
 | _,_=>false
theorem WY {A:Around} {s:Shared} {y x:V} {u v:Value} (ry:RelV y u) (rx:RelV x v) (fy:jO y=true) (fx:jO x=true):SeqAt.EqAt A s u v (Ew y x):=by
 cases y with
 | non=>
  cases ry
  cases x with
  | non=>cases rx;exact SeqAt.EqAt.same _
  | bl b=>cases rx;exact SeqAt.EqAt.none_bool b
  | int b=>obtain⟨t,rfl⟩:=rx;exact SeqAt.EqAt.none_int b t
  | str b=>obtain⟨t,rfl⟩:=rx;exact SeqAt.EqAt.none_str b t
  | _=>exact absurd (show false=true from fx) Bool.false_ne_true
 | bl a=>
  cases ry
  cases x with
  | non=>cases rx;exact SeqAt.EqAt.bool_none a
  | bl b=>cases rx;exact SeqAt.EqAt.bool_bool a b
  | int b=>obtain⟨t,rfl⟩:=rx;exact SeqAt.EqAt.bool_int a b t
  | str b=>obtain⟨t,rfl⟩:=rx;exact SeqAt.EqAt.bool_str a b t
  | _=>exact absurd (show false=true from fx) Bool.false_ne_true
 | int a=>
  obtain⟨t',rfl⟩:=ry
  cases x with
  | non=>cases rx;exact SeqAt.EqAt.int_none a t'
  | bl b=>cases rx;exact SeqAt.EqAt.int_bool a t' b
  | int b=>obtain⟨t,rfl⟩:=rx;exact SeqAt.EqAt.int_int a t' b t
  | str b=>obtain⟨t,rfl⟩:=rx;exact SeqAt.EqAt.int_str a t' b t
  | _=>exact absurd (show false=true from fx) Bool.false_ne_true
 | str a=>
  obtain⟨t',rfl⟩:=ry
  cases x with
  | non=>cases rx;exact SeqAt.EqAt.str_none a t'
  | bl b=>cases rx;exact SeqAt.EqAt.str_bool a t' b
  | int b=>obtain⟨t,rfl⟩:=rx;exact SeqAt.EqAt.str_int a t' b t
  | str b=>obtain⟨t,rfl⟩:=rx;exact SeqAt.EqAt.str_str a t' b t
  | _=>exact absurd (show false=true from fx) Bool.false_ne_true
 | _=>exact absurd (show false=true from fy) Bool.false_ne_true
noncomputable def LR (x:V) (u:Value):Bool:=match u with
 | .none=>Ew .non x
 | .bool b=>Ew (.bl b) x
 | .int i _=>Ew (.int i) x
 | .str z _=>Ew (.str z) x
 | _=>false
theorem QZ {x y:V} {u:Value} (r:RelV y u) (f:jO y=true):LR x u=Ew y x:=by
 cases y with
 | non=>cases r;rfl
 | bl b=>cases r;rfl
 | int i=>obtain⟨t,rfl⟩:=r;rfl
 | str z=>obtain⟨t,rfl⟩:=r;rfl
 | _=>exact absurd (show false=true from f) Bool.false_ne_true
theorem w5 {x:V}:∀{xs:List V} {us:List Value},Vals xs us->xs.all jO=true->us.any (LR x)=xs.any fun y=>Ew y x
 | _,_,.nil,_=>rfl
 | y:: xs,u:: us,.cons r t,f=>by
  rw [List.all_cons,Bool.and_eq_true] at f
  rw [List.any_cons,List.any_cons,QZ r f.1,w5 t f.2]
theorem tM {A:Around} {s:Shared} {x:V} {v:Value} (rx:RelV x v) (fx:jO x=true):∀{xs:List V} {us:List Value},Vals xs us->xs.all jO=true->∀u∈us,SeqAt.EqAt A s u v (LR x u)
 | _,_,.nil,_=>fun u hu=>by cases hu
 | y:: xs,u:: us,.cons r t,f=>fun u' hu=>by
  rw [List.all_cons,Bool.and_eq_true] at f
  rcases List.mem_cons.mp hu with rfl | hu
  ·rw [QZ r f.1];exact WY r rx f.1 fx
  ·exact tM rx fx t f.2 u' hu
noncomputable def inV (x:V) (xs:List V):Bool:=xs.any fun y=>Ew y x
inductive XC (K:PySem.W.Frag) (neg:Bool) (x:V) (y:V) (H:Hp) (Q:VK):Prop where
 | mk:∀p xs,y=.ref p->((bJ K H p xs∨fu K H p xs))->jO x=true->xs.all jO=true->(Q (.bl (if neg then !inV x xs else inV x xs)) H)->XC K neg x y H Q
noncomputable def Zg (K:PySem.W.Frag) (neg:Bool):R2:=fun x y H Q=>XC K neg x y H Q
theorem vf:sY X (compareOp .In) (Zg X.K false):=by
 intro pins s σ H x y v u Q I rx ry h
 obtain⟨p,xs,rfl,hq,fx,fs,q⟩:=h
 cases ry
 rcases hq with hq | hq
 ·obtain⟨its,r,pl,hz⟩:=I.list hq
  refine SeqAt.in_listAt (LR x) pl.isList (fun w hw=>tM rx fx r fs w (by simpa using hw)) ⟨.bl _,H,I,rfl,?_⟩
  rw [show its.toArray.any (LR x)=its.any (LR x) by simp,w5 r fs]
  exact q
 ·obtain⟨its,r,pl,hz⟩:=I.tuple hq
  refine SeqAt.in_tupleAt (LR x) pl (fun w hw=>tM rx fx r fs w (by simpa using hw)) ⟨.bl _,H,I,rfl,?_⟩
  rw [show its.toArray.any (LR x)=its.any (LR x) by simp,w5 r fs]
  exact q
theorem iU:sY X (compareOp .NotIn) (Zg X.K true):=by
 intro pins s σ H x y v u Q I rx ry h
 obtain⟨p,xs,rfl,hq,fx,fs,q⟩:=h
 cases ry
 rcases hq with hq | hq
 ·obtain⟨its,r,pl,hz⟩:=I.list hq
  refine SeqAt.notIn_listAt (LR x) pl.isList (fun w hw=>tM rx fx r fs w (by simpa using hw)) ⟨.bl _,H,I,rfl,?_⟩
  rw [show its.toArray.any (LR x)=its.any (LR x) by simp,w5 r fs]
  exact q
 ·obtain⟨its,r,pl,hz⟩:=I.tuple hq
  refine SeqAt.notIn_tupleAt (LR x) pl (fun w hw=>tM rx fx r fs w (by simpa using hw)) ⟨.bl _,H,I,rfl,?_⟩
  rw [show its.toArray.any (LR x)=its.any (LR x) by simp,w5 r fs]
  exact q
theorem yx:oW X (.type "list") (fun xs H Q=>∃p ys,xs=[.ref p]/\(bJ X.K H p ys∨fu X.K H p ys)/\∀l,H l=none->Q (.ref l) (upd H l (.lst ys))):=by
 intro pins s σ H xs us Q I r h
 obtain⟨p,ys,rfl,hq,q⟩:=h
 obtain⟨u,rfl,rx⟩:=vals1 r
 cases rx
 have fin:∀(its:List Value),Vals ys its->ys.length<=sizeLine->∀(h':Heap) (c':Nat),(∀b o',s.heap.get? b=some o'->h'.get? b=some o')->
   h'.get? s.heap.objs.size=some { cls:=.type "list",dict:=none,data:=.seq its.toArray c',slots:=#[] }->EP X pins σ Q (.ref s.heap.objs.size) { s with heap:=h' }:=fun its r' hz h' c' kp e=>
  ⟨.ref s.heap.objs.size,_,I.laid (t':=s.toks) kp (Nat.le_refl _) (show fP X.prog X.w _ h' _ (.lst ys) from⟨hz,its,c',r',e⟩),rfl,q _ (I.hok.fresh (Nat.le_refl _))⟩
 rcases hq with hq | hq
 ·obtain⟨its,r',pl,hz⟩:=I.list hq
  have hlen:=r'.length
  obtain⟨o,ho,hc,n,hd⟩:=pl.isList
  exact call_list_seq p (.inl rfl) ho hc hd (fun h' c' kp e=>fin its r' hz h' c' kp e) (by simp only [List.size_toArray] <;> omega)
 ·obtain⟨its,r',pl,hz⟩:=I.tuple hq
  have hlen:=r'.length
  obtain⟨o,ho,hc,n,hd⟩:=pl
  exact call_list_seq p (.inr rfl) ho hc hd (fun h' c' kp e=>fin its r' hz h' c' kp e) (by simp only [List.size_toArray] <;> omega)
theorem Fe:oW X (.type "tuple") (fun xs H Q=>∃p ys,xs=[.ref p]/\((bJ X.K H p ys/\∀l,H l=none->Q (.ref l) (upd H l (.tup ys)))∨(fu X.K H p ys/\Q (.ref p) H))):=by
 intro pins s σ H xs us Q I r h
 obtain⟨p,ys,rfl,h⟩:=h
 obtain⟨u,rfl,rx⟩:=vals1 r
 cases rx
 rcases h with ⟨hq,q⟩ | ⟨hq,q⟩
 ·obtain⟨its,r',pl,hz⟩:=I.list hq
  have hlen:=r'.length
  refine call_tuple_list pl.isList (fun h' kp=>?_) (by simp only [List.size_toArray] <;> omega)
  have I1:Inv X pins σ H { s with heap:=h' }:=I.kept (t':=s.toks) kp
  have I2:Inv X pins σ (upd H h'.objs.size (.tup ys)) { s with heap:=h'.push { cls:=.type "tuple",data:=.seq its.toArray } }:=
   I1.laid (t':=s.toks) (fun b o e=>Heap.get?_push_of_some _ e) (Nat.le_refl _) (show fP X.prog X.w _ _ _ (.tup ys) from⟨hz,its,r',IsTup.new _ _⟩)
  exact⟨.ref h'.objs.size,_,I2,rfl,q _ (I1.hok.fresh (Nat.le_refl _))⟩
 ·obtain⟨its,r',pl,hz⟩:=I.tuple hq
  exact call_tuple_same pl ⟨.ref p,H,I,rfl,q⟩
noncomputable def ZJ (K:PySem.W.Frag) (T:String) (x:V) (H:Hp):Prop:=match x with
 | .str _=>T= "str"
 | .int _=>T= "int"
 | .ref p=>(T= "list" /\∃xs,bJ K H p xs)∨(T= "tuple" /\∃o,K.lookup p=some o/\o.cls=.type "tuple" /\o.dict=none)∨
   (T= "dict" /\((∃kvs,H p=some (.dK kvs))∨∃kvs,H p=some (.dT kvs)))∨(T= "set" /\∃S n,H p=some (.set S n))
 | _=>False
theorem QV {pins:List (Addr×Obj)} {σ:St} {H:Hp} {s:Shared} {T:String} {x:V} {v:Value} (I:Inv X pins σ H s) (r:RelV x v) (ty:ZJ X.K T x H):
  s.TypeIs v T/\∀a,v=.ref a->∃ob,s.heap.get? a=some ob/\ob.dict=none:=by
 cases x with
 | str z=>
  obtain⟨t,rfl⟩:=r
  cases (show T= "str" from ty)
  exact⟨typeIs_str s z t,fun _ e=>nomatch e⟩
 | int i=>
  obtain⟨t,rfl⟩:=r
  cases (show T= "int" from ty)
  exact⟨typeIs_int s i t,fun _ e=>nomatch e⟩
 | ref p=>
  cases r
  rcases ty with ⟨rfl,xs,hq⟩ | ⟨rfl,o,hk,hc,hd⟩ | ⟨rfl,hk⟩ | ⟨rfl,S,n,hk⟩
  ·obtain⟨its,_,pl,_⟩:=I.list hq
   refine⟨pl.isList.typeIs,fun a e=>?_⟩
   cases e
   obtain⟨o,n,e,c,hd,_⟩:=pl
   exact⟨o,e,hd⟩
  ·refine⟨⟨o,I.kIn p o hk,hc⟩,fun a e=>?_⟩
   cases e
   exact⟨o,I.kIn _ o hk,hd⟩
  ·have z:∃o,s.heap.get? p=some o/\o.ExactDict:=by
    rcases hk with ⟨kvs,hk⟩ | ⟨kvs,hk⟩
    ·obtain⟨_,_,_,_,o,_,_,e,ex,_⟩:=I.hok p _ hk
     exact⟨o,e,ex⟩
    ·obtain⟨_,_,_,_,o,_,_,e,ex,_⟩:=I.hok p _ hk
     exact⟨o,e,ex⟩
   obtain⟨o,e,ex⟩:=z
   refine⟨⟨o,e,ex.1⟩,fun a e2=>?_⟩
   cases e2
   exact⟨o,e,ex.2.1⟩
  ·obtain⟨o,_,_,_,e,ex,_⟩:=I.hok p _ hk
   refine⟨⟨o,e,ex.1⟩,fun a e2=>?_⟩
   cases e2
   exact⟨o,e,ex.2.1⟩
 | _=>exact False.elim ty
noncomputable def ZM (K:PySem.W.Frag) (T:String) (r:V->List V->Hp->VK->Prop) (to:TE):TE:=fun σ H Q=>to σ H fun x H1=>ZJ K T x H1/\r x [] H1 Q
noncomputable def tBM (K:PySem.W.Frag) (T:String) (r:V->List V->Hp->VK->Prop) (to:TE) (t:TA):TE:=fun σ H Q=>to σ H fun x H1=>ZJ K T x H1/\t σ H1 fun xs H2=>r x xs H2 Q
variable {o e:Expr} {es:List Expr} {to:TE} {t:TA} {name:Str} {apos cpos:Pos} {T id:String} {r:V->List V->Hp->VK->Prop}
theorem Kz (pa:PlainAttrs T) (slot:Slot T name id) (hty:typeOf (.builtin id)=pure (.type "method_descriptor")) (hm:Zq X id r) (ho:PE X o to)
  (hbase:attributeBase o name X.env (eval o X.env)=eval o X.env:=by rfl) (hline:(apos.endLine == cpos.line)=true:=by rfl):PE X (.Call (.Attribute o name apos) [] [] cpos) (ZM X.K T r to):=by
 intro pins s σ H Q I h
 refine wpAny_Call_method0_late hbase hline (dG (ho pins s σ H _ I h) fun v s1 hpt=>?_)
 obtain⟨x,H1,I1,r1,ty,q1⟩:=hpt
 obtain⟨h1,h2⟩:=QV I1 r1 ty
 exact⟨T,id,pa,slot,hty,h1,h2,Calls.callWith_builtin rfl (PySem.evalArgs_none (hm pins s1 σ H1 x [] v [] Q I1 r1 .nil q1))⟩
theorem yz (pa:PlainAttrs T) (slot:Slot T name id) (hty:typeOf (.builtin id)=pure (.type "method_descriptor")) (hm:Zq X id r) (ho:PE X o to) (ha:PA X (e:: es) t)
  (hbase:attributeBase o name X.env (eval o X.env)=eval o X.env:=by rfl)
  (hfew:((backTo cpos (starEach (e:: es) X.env)).all (fun x=>!x.1) && (backToKw cpos (keywordEach [] X.env)).all (fun x=>x.1.isSome)
   && decide ((e:: es).length+([]:List Keyword).length+(if ([]:List Keyword).isEmpty then 0 else 1) <30))=true:=by rfl)
  (hline:(apos.endLine == cpos.line)=true:=by rfl) (hs:starEach (e:: es) X.env=(false,eval e X.env):: starEach es X.env:=by rfl) (hplain:(backTo cpos (starEach es X.env)).any (·.1)=false:=by rfl):
  PE X (.Call (.Attribute o name apos) (e:: es) [] cpos) (tBM X.K T r to t):=by
 intro pins s σ H Q I h
 refine wpAny_Call_method_late hbase hfew hline rfl (dG (ho pins s σ H _ I h) fun v s1 hpt=>?_)
 obtain⟨x,H1,I1,r1,ty,q1⟩:=hpt
 obtain⟨h1,h2⟩:=QV I1 r1 ty
 refine⟨T,id,pa,slot,hty,h1,h2,?_⟩
 have hA:=ha cpos pins s1 σ H1 _ I1 q1
 rw [hs] at hA ⊢
 refine Calls.callWith_builtin (by show(false || (backTo cpos (starEach es X.env)).any (·.1))=false;rw [hplain] <;> rfl) (Calls.evalArgs_plain ?_)
 exact dG hA fun us s2 ⟨vs,H2,I2,r2,q2⟩=>hm pins s2 σ H2 x vs v us Q I2 r1 r2 q2
end
noncomputable def Y7 (X:Cx) (id:String) (r:V->List V->Hp->VK->Prop):Prop:=
 ∀(pins:List (Addr×Obj)) (s:Shared) (σ:St) (H:Hp) (x:V) (xs:List V) (v:Value) (us:List Value) (Q:VK),Inv X pins σ H s->RelV x v->Vals xs us->r x xs H Q->
  wpAny (model X.prog X.w) X.A (call (.builtin id) (v:: us)) (EP X pins σ Q) X.xe s
theorem Vals.one:∀{x:V} {us:List Value},Vals [x] us->∃u,us=[u]/\RelV x u
 | _,_,.cons r .nil=>⟨_,rfl,r⟩
theorem Vals.zero:∀{us:List Value},Vals [] us->us=[]
 | _,.nil=>rfl
theorem Vals.dropLast {xs:List V} {us:List Value} (h:Vals xs us):Vals xs.dropLast us.dropLast:=by
 induction h with
 | nil=>exact .nil
 | cons r t ih=>
  cases t with
  | nil=>exact .nil
  | cons q t'=>exact .cons r ih
theorem Vals.eraseIdx:∀{xs:List V} {us:List Value} (i:Nat),Vals xs us->Vals (xs.eraseIdx i) (us.eraseIdx i)
 | _,_,_,.nil=>.nil
 | _,_,0,.cons _ t=>t
 | _,_,i+1,.cons r t=>.cons r (Vals.eraseIdx i t)
theorem K8 {α:Type} (l:List α):l.eraseIdx (l.length - 1)=l.dropLast:=by
 induction l with
 | nil=>rfl
 | cons a r ih=>
  cases r with
  | nil=>rfl
  | cons b r=>
   have e:(a:: b:: r).length - 1=((b:: r).length - 1)+1:=by
    have h1:(a:: b:: r).length=r.length+2:=rfl
    have h2:(b:: r).length=r.length+1:=rfl
    omega
   rw [e,List.eraseIdx_cons_succ,ih]
   all_goals rfl
theorem FQ {α:Type}:∀(l:List α) (i:Nat),(l.eraseIdx i).length<=l.length
 | [],_=>Nat.le_refl _
 | _:: _,0=>Nat.le_succ _
 | _:: r,i+1=>Nat.succ_le_succ (FQ r i)
section
variable {X:Cx} {pins:List (Addr×Obj)} {σ:St} {H:Hp} {s:Shared} {l b:Addr} {xs ys zs:List V}
theorem Inv.lset {its its':List Value} {n:Nat} {f:Array Value->Array Value} {t':Nat} (I:Inv X pins σ H s) (hH:H l=some (.lst xs))
  (e:s.heap.get? l=some { cls:=.type "list",data:=.seq its.toArray n }) (hf:f its.toArray=its'.toArray) (hv:Vals ys its') (hz:ys.length<=sizeLine):
  Inv X pins σ (upd H l (.lst ys)) { s with heap:=s.heap.update l (Obj.mapSeq f),toks:=t' }:=by
 have q:=PySem.IsL.update e f
 rw [hf] at q
 refine I.write (x:=l) (e:=l) (by rw [hH];exact trivial) (.inl rfl) (fun b' u hb hu=>(Heap.get?_update_other s.heap (Obj.mapSeq f) (Ne.symm hb)).trans hu) ⟨_,q⟩ ?_
 exact⟨hz,its',_,hv,q⟩
theorem Inv.lnew {its:List Value} {t':Nat} (I:Inv X pins σ H s) (hv:Vals ys its) (hz:ys.length<=sizeLine):
  Inv X pins σ (upd H s.heap.objs.size (.lst ys)) { s with heap:=s.heap.push { cls:=.type "list",data:=.seq its.toArray },toks:=t' }:=
 I.laid (fun _ _ q=>Heap.get?_push_of_some _ q) (Nat.le_refl _) ⟨hz,its,0,hv,Heap.get?_push_size _ rfl⟩
theorem Inv.fresh (I:Inv X pins σ H s):H s.heap.objs.size=none:=I.hok.fresh (Nat.le_refl _)
theorem Inv.lstM (I:Inv X pins σ H s) (hH:H l=some (.lst xs)):xs.length<=sizeLine/\∃(its:List Value) (n:Nat),Vals xs its/\xs.length=its.length/\s.heap.get? l=some { cls:=.type "list",data:=.seq its.toArray n }:=by
 obtain⟨z,its,n,r,e⟩:=I.hok l _ hH
 exact⟨z,its,n,r,r.length,e⟩
theorem RP {n:Nat} (h:n<=sizeLine):Builtin.List.listTooLong n=false:=by
 unfold Builtin.List.listTooLong
 exact decide_eq_false (by omega)
end
section
variable {X:Cx}
inductive JH (x:V) (vs:List V) (H:Hp) (Q:VK):Prop where
 | mk:∀l xs y,x=.ref l->vs=[y]->H l=some (.lst xs)->xs.length <sizeLine->Q .non (upd H l (.lst (xs ++ [y])))->JH x vs H Q
noncomputable def M7:V->List V->Hp->VK->Prop:=fun x vs H Q=>JH x vs H Q
theorem O3:Y7 X "list.append" M7:=by
 intro pins s σ H x vs v us Q I rx rv h
 obtain⟨l,xs,y,rfl,rfl,hH,hz,q⟩:=h
 cases rx
 obtain⟨u,rfl,ru⟩:=rv.one
 obtain⟨z,its,n,r,hl,e⟩:=I.lstM hH
 refine call_meets F.slot_list_append ⟨_,e,rfl⟩ F.entry_list_append (F.args_list_append_2 _ _) (PySem.list_append l its.toArray n u (by rw [List.size_toArray];omega)) ⟨e,?_⟩
 refine⟨.non,_,I.lset (its':=its ++ [u]) hH e (by simp) (r.append (.cons ru .nil)) ?_,rfl,q⟩
 rw [List.length_append,List.length_singleton]
 omega
inductive JN (x:V) (vs:List V) (H:Hp) (Q:VK):Prop where
 | mk:∀l b xs zs,x=.ref l->vs=[.ref b]->H l=some (.lst xs)->H b=some (.lst zs)->xs.length+zs.length<=sizeLine->Q .non (upd H l (.lst (xs ++ zs)))->JN x vs H Q
noncomputable def Te:V->List V->Hp->VK->Prop:=fun x vs H Q=>JN x vs H Q
theorem zO:Y7 X "list.extend" Te:=by
 intro pins s σ H x vs v us Q I rx rv h
 obtain⟨l,b,xs,zs,rfl,rfl,hH,hB,hz,q⟩:=h
 cases rx
 obtain⟨u,rfl,ru⟩:=rv.one
 cases ru
 obtain⟨z,its,n,r,hl,e⟩:=I.lstM hH
 obtain⟨z2,its2,n2,r2,hl2,e2⟩:=I.lstM hB
 have hsz:its.toArray.size+its2.toArray.size<=sizeLine:=by rw [List.size_toArray,List.size_toArray];omega
 have hlong:¬(!its.toArray.isEmpty && Builtin.List.listTooLong (its.toArray.size+its2.toArray.size))=true:=by
  rw [RP hsz,Bool.and_false]
  exact Bool.false_ne_true
 refine call_meets F.slot_list_extend ⟨_,e,rfl⟩ F.entry_list_extend (F.args_list_extend_2 _ _)
  (AutoSeq1.list_extend_list_list_0 l its.toArray n b its2.toArray n2 hlong (by rw [List.size_toArray];omega) (by omega)) ⟨e,e2,?_⟩
 refine⟨.non,_,I.lset (its':=its ++ its2) hH e (by simp) (r.append r2) ?_,rfl,q⟩
 rw [List.length_append]
 omega
inductive V6 (x:V) (vs:List V) (H:Hp) (Q:VK):Prop where
 | mk:∀l xs y,x=.ref l->vs=[]->H l=some (.lst xs)->xs[xs.length - 1]?=some y->Q y (upd H l (.lst xs.dropLast))->V6 x vs H Q
noncomputable def Zy:V->List V->Hp->VK->Prop:=fun x vs H Q=>V6 x vs H Q
theorem Lz:Y7 X "list.pop" Zy:=by
 intro pins s σ H x vs v us Q I rx rv h
 obtain⟨l,xs,y,rfl,rfl,hH,hy,q⟩:=h
 cases rx
 have hus:=rv.zero
 subst hus
 obtain⟨z,its,n,r,hl,e⟩:=I.lstM hH
 obtain⟨u,hu,ru⟩:=r.get hy
 have hy':its.toArray[its.toArray.size - 1]?=some u:=by
  show its.toArray[its.length - 1]?=some u
  rw [<-Array.getElem?_toList,<-hl]
  exact hu
 refine call_meets F.slot_list_pop ⟨_,e,rfl⟩ F.entry_list_pop (F.args_list_pop_1 _) (MeetsSeq.list_pop_last l its.toArray n u hy' (by rw [List.size_toArray];omega)) ⟨e,?_⟩
 refine⟨y,_,I.lset (its':=its.dropLast) hH e ?_ r.dropLast ?_,ru,q⟩
 ·show its.toArray.eraseIdxIfInBounds (its.toArray.size - 1)=its.dropLast.toArray
  rw [List.size_toArray,List.eraseIdxIfInBounds_toArray,K8]
 ·rw [List.length_dropLast]
  omega
inductive Nk (x:V) (vs:List V) (H:Hp) (Q:VK):Prop where
 | mk:∀l xs i k y,x=.ref l->vs=[.int i]->H l=some (.lst xs)-> -(2 ^ 63)<=i->i <2 ^ 63->seqIndex? i xs.length=some k->xs[k]?=some y->Q y (upd H l (.lst (xs.eraseIdx k)))->Nk x vs H Q
noncomputable def Wq:V->List V->Hp->VK->Prop:=fun x vs H Q=>Nk x vs H Q
theorem Dk:Y7 X "list.pop" Wq:=by
 intro pins s σ H x vs v us Q I rx rv h
 obtain⟨l,xs,i,k,y,rfl,rfl,hH,h1,h2,hk,hy,q⟩:=h
 cases rx
 obtain⟨u,rfl,ru⟩:=rv.one
 obtain⟨t,rfl⟩:=ru
 obtain⟨z,its,n,r,hl,e⟩:=I.lstM hH
 obtain⟨w,hw,rw'⟩:=r.get hy
 refine call_meets F.slot_list_pop ⟨_,e,rfl⟩ F.entry_list_pop (F.args_list_pop_2 _ _)
  (MeetsSeq.list_pop_at l its.toArray n i t k w (fitsIndex_both h1 h2) (by rw [List.size_toArray,<-hl];exact hk) (by rw [<-Array.getElem?_toList];exact hw) (by rw [List.size_toArray];omega)) ⟨e,?_⟩
 refine⟨y,_,I.lset (its':=its.eraseIdx k) hH e ?_ (r.eraseIdx k) ?_,rw',q⟩
 ·show its.toArray.eraseIdxIfInBounds k=(its.eraseIdx k).toArray
  rw [List.eraseIdxIfInBounds_toArray]
 ·have:=FQ xs k
  omega
inductive V5 (x:V) (y:V) (H:Hp) (Q:VK):Prop where
 | mk:∀l b xs zs,x=.ref l->y=.ref b->H l=some (.lst xs)->H b=some (.lst zs)->xs.length+zs.length<=sizeLine->(∀p,H p=none->Q (.ref p) (upd H p (.lst (xs ++ zs))))->V5 x y H Q
noncomputable def Zo:R2:=fun x y H Q=>V5 x y H Q
theorem Jf:sY X (binaryOp .Add) Zo:=by
 intro pins s σ H x y v u Q I rx ry h
 obtain⟨l,b,xs,zs,rfl,rfl,hH,hB,hz,q⟩:=h
 cases rx
 cases ry
 obtain⟨z,its,n,r,hl,e⟩:=I.lstM hH
 obtain⟨z2,its2,n2,r2,hl2,e2⟩:=I.lstM hB
 refine PySem.P.add_list e e2 ?_ (by rw [List.size_toArray,List.size_toArray];omega)
 have ea:its.toArray ++ its2.toArray=(its ++ its2).toArray:=by simp
 rw [ea]
 exact⟨.ref _,_,I.lnew (t':=s.toks) (r.append r2) (by rw [List.length_append];omega),rfl,q _ I.fresh⟩
end
section
variable {prog:Program} {w:World} {A:Around} {E:Value->Shared->Prop} {s:Shared}
end
section
variable {X:Cx}
end
end L2
namespace Att
open PySem PySem.W PySem.Calls PyProof.Rows
theorem Bo {P:Params} {h:Heap}:∀(ns:List Int) (vs:List Value),WellAll P h vs (ns.map WData.int)->IntsAre vs ns:=by
 intro ns
 induction ns with
 | nil=>
  intro vs w
  rw [List.map_nil] at w
  cases w
  exact .nil
 | cons n ns ih=>
  intro vs w
  rw [List.map_cons] at w
  cases w with
  | cons a b=>
   cases a
   exact .cons _ _ (ih _ b)
theorem Pb {l:OpenLaw} {n:Nat} (hn:l.most=some n) {P:Params} {h:Heap} {args:List WData} {vals:List Value}
  (hpre:l.row.toRowW.claim.pre args=true) (hwl:WellAll P h vals args):
  ∃a vs ns,vals=[Value.ref a]/\args=[WData.list (ns.map WData.int)]/\h.get? a=some { cls:=.type "list",data:=.seq vs.toArray }/\IntsAre vs ns/\ns.length<=n:=by
 have hsh:WShape.hasAll [] args [.list .int]=true:=(pre_splitW hpre).1
 have hc:l.pre.holds [] { args:=args }=true:=(pre_splitW hpre).2
 obtain⟨d,r,rfl,h1,h2⟩:=hasAllW_cons hsh
 obtain rfl:=hasAllW_nil h2
 obtain⟨xs,rfl,h3⟩:=hasW_list h1
 obtain⟨ns,rfl⟩:=items_int h3
 have hlen:ns.length<=n:=by
  unfold OpenLaw.pre at hc
  have h4:(WTm.not (.lt (.lit (.int (n:Int))) (.len (.arg 0)))).holds [] { args:=[.list (ns.map .int)] }=true:=by
   have h4:=(holds_andW hc).1
   rw [hn] at h4
   exact h4
  have h5:=condW_of h4 (w_not (w_lt w_lit (w_len_list (w_arg rfl))))
  rw [List.length_map] at h5
  refine Nat.le_of_not_lt fun q=>?_
  have q':(n:Int) <((ns.length:Nat):Int):=by omega
  first
   | (rw [decide_eq_true q'] at h5;exact absurd h5 (by decide))
   | (simp at h5;omega)
 cases hwl with
 | cons w1 w2=>
  cases w2
  cases w1 with
  | list ho hall=>exact⟨_,_,ns,rfl,rfl,ho,Bo ns _ hall,hlen⟩
theorem Pg (l:OpenLaw) (args:List WData):l.row.toRowW.claim.post args (.bool true) args=true:=
 postW_of (r:=l.row.toRowW) (X:=(true == true))
  (show WShape.has [] (.bool true) .bool=true by first | rfl | decide | simp [WShape.has,WShape.arms,WShape.armsAll])
  (show(WTm.eq .res (.lit (.bool true))).value [] { args:=args,res:=some (.bool true),after:=args }=some (.bool (true == true)) from w_eq_bool (w_res rfl) w_lit) rfl
theorem Kr {l:OpenLaw} {n:Nat} {q:Program} {loose:List Str} {XP:(Str->Option Value)->Heap->Prop} {YP:World->Heap->Prop} {d:DefRec}
  (hn:l.most=some n) (hdf:d.params.defaults=[])
  (call:∀(w:World) (s₀ s₁:Shared) (mg mb:Str->Option Value) (fa:Addr) (o:Obj) (pm cd doc:Value) (a:Addr) (vs:List Value) (ns:List Int),
   Ground q loose [] XP w s₀ mg mb s₁.heap->YP w s₁.heap->
   s₁.heap.get? fa=some o->o.data=.func (docDef d.name d.params d.body d.scope pm cd doc)->s₁.heap.CodeRec cd d.name->mg d.name=some (.ref fa)->
   s₁.heap.get? a=some { cls:=.type "list",data:=.seq vs.toArray }->IntsAre vs ns->ns.length<=n->s₁.gens= #[]->
   codeAny (model l.prog w) callerA (.call (.ref fa) ⟨[.ref a],[]⟩) (fun r s'=>r=.ok (.ret (.bool true))/\OldK s₁.heap s'.heap/\s'.os=s₁.os/\AllBare s'.gens) s₁):
  WalkO q loose XP YP l.row.toRowW d [] (fun f vs=>PySem.call f vs):=by
 intro w s₀ s₁ mg mb G Y fa o pm cd doc dV kV ho hd hcd hD hmg hg args vals as hpre hlay hrd hwl hlo
 obtain rfl:dV=.none:=Dflts.none hD hdf
 obtain rfl:kV=.none:=Dflts.noKw hD
 obtain⟨a,vs,ns,rfl,rfl,hobj,hints,hlen⟩:=Pb hn hpre hwl
 refine enter_call (codeAny_mono (call w s₀ s₁ mg mb fa o pm cd doc a vs ns G Y ho (fd_plain hd) hcd hmg hobj hints hlen hg) fun r s' hq=>?_)
 obtain⟨rfl,h2,h3,h4⟩:=hq
 exact⟨.inl ⟨.bool true,.bool true,[],rfl,fun _=>rfl,.bool true,Pg l _,fun _=>⟨List.Pairwise.nil,fun _ hm=>(nomatch hm)⟩⟩,h2,h3,h4⟩
section
variable {prog:Program} {w:World} {A:Around} {E:Value->Shared->Prop} {s:Shared} {K:Frag}
end
end Att
namespace L2
open PySem PySem.Spec PyProof.Rows
theorem Gk:∀{vs:List Value} {ns:List Int},IntsAre vs ns->Vals (ns.map V.int) vs
 | _,_,.nil=>.nil
 | _,_,.cons n t h=>.cons ⟨t,rfl⟩ (Gk h)
noncomputable def Only (H:Hp):Prop:=∀b,H b=none∨∃o xs,H b=some (.frz o (.lst xs))
theorem Sy {P:Program} {w:World} {K:PySem.W.Frag} {mg mb:Str->Option Value} {CX:FP} {k:Nat} {fa a:Addr} {fd:FuncData} {x:Str} {sp:Sp} {s₁:Shared} {vs:List Value} {ns:List Int}
  (KX:K.In s₁.heap) (hns:s₁.heap.Ns mainGlobals mg) (hb:s₁.heap.Ns builtinsNs mb) (hbb:∀x:Str,x≠ "__name__" ->mb x=bootBuiltins x) (hlim:s₁.heap.NoLimit) (hg:s₁.gens= #[])
  (ha:s₁.heap.get? a=some { cls:=.type "list",data:=.seq vs.toArray }) (hi:IntsAre vs ns) (hl:ns.length<=sizeLine) (hr:iQ k callerA)
  (F:∀base:Heap,K.In base->base.Ns mainGlobals mg->iR P w K mg base CX k fa fd [x] sp) (hbind:∀(s:Shared) (u:Value),BindsTo s fd ⟨[u],[]⟩ [(x,u)])
  (hsp:∀H:Hp,Only H->bJ K H a (ns.map V.int)->sp [.ref a] H (fun v _=>v=.bl true) fun _ _ _=>False)
  (hCX:∀H e s',CX [] H s₁ (fun _ _ _=>False) e s'->False):
  codeAny (model P w) callerA (.call (.ref fa) ⟨[.ref a],[]⟩) (fun r s'=>r=.ok (.ret (.bool true))/\OldK s₁.heap s'.heap/\s'.os=s₁.os/\AllBare s'.gens) s₁:=by
 have rv:=Gk hi
 have lenV:=hi.length
 have core:∀H:Hp,Only H->bJ K H a (ns.map V.int)->uX P w H s₁.heap->(∀b,H b≠none->b=a)->(H a≠none->K.lookup a=none)->
   codeAny (model P w) callerA (.call (.ref fa) ⟨[.ref a],[]⟩) (fun r s'=>r=.ok (.ret (.bool true))/\OldK s₁.heap s'.heap/\s'.os=s₁.os/\AllBare s'.gens) s₁:=by
  intro H hO hS hok hA hK
  have base_of:∀{b:Addr} {o:Obj},s₁.heap.get? b=some o->H b=none->(Ii s₁.heap H).get? b=some o:=fun e n=>Qi e n
  have noA:∀{b:Addr} {o:Obj} {es:Array DictEntry} {ep:Nat},s₁.heap.get? b=some o->o.data=.dict es ep->H b=none:=fun {b o es ep} e d=>by
   cases q:H b with
   | none=>rfl
   | some u=>
    have e':b=a:=hA b (by rw [q];simp)
    subst e'
    rw [ha] at e;cases e
    have d':Data.seq vs.toArray _=Data.dict es ep:=d
    cases d'
  have Pz:∀{b:Addr} {m:Str->Option Value},s₁.heap.Ns b m->(Ii s₁.heap H).Ns b m:=fun {b m} ⟨o,es,ep,e,d,r⟩=>⟨o,es,ep,base_of e (noA e d),d,r⟩
  have hKb:K.In (Ii s₁.heap H):=fun b o e=>base_of (KX b o e) (by
   cases q:H b with
   | none=>rfl
   | some u=>
    have e':b=a:=hA b (by rw [q];simp)
    subst e'
    rw [hK (by rw [q];simp)] at e;cases e)
  have hM:Mod K mg (Ii s₁.heap H):=⟨hKb,Pz hns,⟨mb,Pz hb,hbb⟩,let ⟨mc,h1,h2⟩:=hlim;⟨mc,Pz h1,h2⟩⟩
  have e0:K5 P w K mg (Ii s₁.heap H) callerA [] s₁ H:=⟨rfl,hM,fun b o e=>Vf e,Nat.le_of_eq (Oc _ _),trivial,fun b hb=>absurd (show b∈([]:List Addr) from hb) (by simp),hok,.of_eq hg⟩
  refine codeAny_mono ((F _ hKb (Pz hns)).run callerA [] s₁ H ⟨[.ref a],[]⟩ [.ref a] [.ref a] _ _ hr e0 (hbind s₁ (.ref a)) (.cons rfl .nil) (hsp H hO hS)) fun r s' h=>?_
  cases r with
  | error e=>exact(hCX H e s' h).elim
  | ok fl=>
   cases fl with
   | next=>exact False.elim h
   | brk=>exact False.elim h
   | cont=>exact False.elim h
   | ret u=>
    obtain⟨v,H',os,bare,un,hok',r',q⟩:=h
    have q':v=.bl true:=q
    subst q'
    obtain rfl:u=Value.bool true:=r'
    refine⟨rfl,OldK.of_keep fun b o e=>?_,os,bare⟩
    cases q:H b with
    | none=>exact un.keep b o e q (by intro z;exact absurd (show b∈([]:List Addr) from z) (by simp)) (by simp)
    | some u=>
     rcases hO b with z | ⟨ob,xs,z⟩
     ·rw [q] at z;cases z
     ·have z2:=un.frzs b ob _ z
      obtain⟨e1,_⟩:=hok b _ z
      obtain⟨e2,_⟩:=hok' b _ z2
      rw [e] at e1;cases e1
      exact e2
 cases hk:K.lookup a with
 | some o=>
  have e:=KX a o hk
  rw [ha] at e
  cases e
  refine core (fun _=>none) (fun _=>.inl rfl) (.inr ⟨_,vs.toArray,_,hk,rfl,rfl,rfl,by rw [List.size_toArray,lenV];exact hl,by simpa using rv⟩) (fun b u z=>by have z':(none:Option HO)=some u:=z;cases z') (fun b z=>absurd rfl z) fun z=>absurd rfl z
 | none=>
  refine core (fun b=>if b=a then some (.frz { cls:=.type "list",data:=.seq vs.toArray } (.lst (ns.map V.int))) else none) (fun b=>?_) (.inl (.inr ⟨{ cls:=.type "list",data:=.seq vs.toArray },if_pos rfl⟩)) (fun b u z=>?_) (fun b z=>?_) fun _=>hk
  ·by_cases hb:b=a
   ·exact .inr ⟨_,_,if_pos hb⟩
   ·exact .inl (if_neg hb)
  ·by_cases hb:b=a
   ·have z':=(if_pos hb).symm.trans z
    cases z'
    subst hb
    exact⟨ha,by rw [List.length_map];exact hl,vs,_,rv,ha⟩
   ·have z':=(if_neg hb).symm.trans z
    cases z'
  ·by_cases hb:b=a
   ·exact hb
   ·exact absurd (if_neg hb) z
theorem Tu {l:PySem.W.OpenLaw} {n k:Nat} {q:Program} {loose:List Str} {XP:(Str->Option Value)->Heap->Prop} {YP:World->Heap->Prop} {d:DefRec} {K:Params->PySem.W.Frag} {CX:World->FP} {sp:World->Sp} {x:Str}
  (hn:l.most=some n) (hn2:n<=sizeLine) (hdf:d.params.defaults=[]) (hr:iQ k callerA)
  (hY:∀(w:World) (h:Heap),YP w h->(K w.params).In h)
  (F:∀(w:World) (mg:Str->Option Value) (fa:Addr) (h:Heap),(K w.params).In h->h.Ns mainGlobals mg->mg d.name=some (.ref fa)->
   ∃fd:FuncData,(∀(s:Shared) (u:Value),BindsTo s fd ⟨[u],[]⟩ [(x,u)])/\
    ∀base:Heap,(K w.params).In base->base.Ns mainGlobals mg->iR l.prog w (K w.params) mg base (CX w) k fa fd [x] (sp w))
  (hsp:∀(w:World) (H:Hp) (a:Addr) (ns:List Int),ns.length<=n->Only H->bJ (K w.params) H a (ns.map V.int)->sp w [.ref a] H (fun v _=>v=.bl true) fun _ _ _=>False)
  (hCX:∀(w:World) (H:Hp) (s:Shared) (e:Value) (s':Shared),CX w [] H s (fun _ _ _=>False) e s'->False):
  PySem.W.WalkO q loose XP YP l.row.toRowW d [] (fun f vs=>PySem.call f vs):=by
 refine Att.Kr hn hdf fun w s₀ s₁ mg mb fa o pm cd doc a vs ns G Y ho hd hcd hmg hobj hints hlen hg=>?_
 have KX:=hY w _ Y
 obtain⟨fd,hb,hF⟩:=F w mg fa _ KX G.T.g hmg
 exact Sy KX G.T.g G.T.b G.T.builtins G.T.nolimit hg hobj hints (Nat.le_trans hlen hn2) hr hF hb (fun H hO hS=>hsp w H a ns hlen hO hS) fun H e s'=>hCX w H s₁ e s'
noncomputable def inClass (s:Stmt) (j:Nat):Stmt:=match s with
 | .ClassDef _ _ _ body _ _ _ _ _ _ _=>body.getD j (.Pass ⟨0,0,0,0⟩)
 | _=>.Pass ⟨0,0,0,0⟩
noncomputable def iV (s:Stmt):Arguments:=match s with
 | .FunctionDef _ a _ _ _ _ _ _ _ _=>a
 | _=>{ posonlyargs:=[],args:=[],vararg:=none,kwonlyargs:=[],kw_defaults:=[],kwarg:=none,defaults:=[] }
noncomputable def gq (s:Stmt):List Stmt:=match s with
 | .FunctionDef _ _ b _ _ _ _ _ _ _=>b
 | _=>[]
noncomputable def aR (s:Stmt):Scope:=match s with
 | .FunctionDef _ _ _ _ _ _ sc _ _ _=>sc
 | _=>{ kind:=.function,names:=[],isGenerator:=false,isCoroutine:=false }
noncomputable abbrev Bp:FP:=fun _ _ _ _ _ _=>False
noncomputable abbrev E0:XK:=fun _ _ _=>False
theorem gK {X:Cx}:qu Bp X E0:=fun _ _ _ _ _ _ _ h=>h.elim
structure Vr (K:PySem.W.Frag) (x qual:Str) (st:Stmt) (f:Addr) (fd:FuncData):Prop where
 ex:∃(oc:Value) (od:Option Addr) (kV doc pm:Value) (an:Option Addr) (cdv ct:Value) (osl:Array (Option Value)),
  fd=PySem.W.fnOf x qual (iV st) (gq st) (aR st) .none kV doc pm an cdv ct/\K.lookup f=some ⟨oc,od,.func fd,osl⟩/\PySem.W.codeIn K cdv qual=true
 kp:PySem.W.keepIn K (.ref f)=true
section
variable {P:Program} {w:World} {K:PySem.W.Frag} {mg:Str->Option Value} {base:Heap}
theorem Vr.ok {x qual:Str} {st:Stmt} {f:Addr} {fd:FuncData} {N ps:List Str} {k:Nat} {sp:Sp} (F:Vr K x qual st f fd) (S:fV N ps (aR st)) (len:∀vs H Q E,sp vs H Q E->vs.length=ps.length)
  (hbody:∀(cdv:Value) (A:Around) (outer:List Env) (s:Shared) (H:Hp) (vs:List V) (Q:VK) (E:XK),iQ k (A.deeper (envOfC qual (aR st) s.heap.objs.size f cdv))->sp vs H Q E->
   ∃t,Ni (K4 Bp P w K mg base N qual (aR st) f cdv A outer s H E).nox (gq st) t/\t { nx:=fun _ H'=>Q .non H',rt:=Q } (start N vs) H):iR P w K mg base Bp (k+1) f fd ps sp:=by
 obtain⟨oc,od,kV,doc,pm,an,cdv,ct,osl,rfl,lk,hcd⟩:=F.ex
 refine VL lk hcd S len fun A outer s H vs Q E hr hsp=>?_
 obtain⟨t,h,q⟩:=hbody cdv A outer s H vs Q E hr hsp
 exact⟨t,h.nox,q⟩
theorem Vr.binds {x qual:Str} {st:Stmt} {f:Addr} {fd:FuncData} {ps:List Str} (F:Vr K x qual st f fd)
  (h:∀(kV doc pm:Value) (an:Option Addr) (cdv ct:Value) (us:List Value),us.length=ps.length->bindArgs (PySem.W.fnOf x qual (iV st) (gq st) (aR st) .none kV doc pm an cdv ct) ⟨us,[]⟩=pure (ps.zip us)):Binds K fd ps []:=by
 obtain⟨oc,od,kV,doc,pm,an,cdv,ct,osl,rfl,lk,hcd⟩:=F.ex
 exact .all (h kV doc pm an cdv ct)
theorem WD {x qual:Str} {st:Stmt} {f:Addr} {oc:Value} {od an:Option Addr} {osl:Array (Option Value)} {kV doc pm cdv ct:Value} (l:K.lookup f=some ⟨oc,od,.func (PySem.W.fnOf x qual (iV st) (gq st) (aR st) .none kV doc pm an cdv ct),osl⟩)
  (c:PySem.W.codeIn K cdv qual=true) (k:PySem.W.keepIn K (.ref f)=true):Vr K x qual st f (PySem.W.fnOf x qual (iV st) (gq st) (aR st) .none kV doc pm an cdv ct):=⟨⟨oc,od,kV,doc,pm,an,cdv,ct,osl,rfl,l,c⟩,k⟩
end
section
variable {X:Cx}
theorem pv (i:Nat) {x:Str} {pos:Pos} (hN:X.N[i]?=some x:=by rfl) (hv:Ze X.env.scope x:=by first | exact Or.inl rfl | exact Or.inr (Or.inl rfl) | exact Or.inr (Or.inr rfl)) (hd:(x == ("__debug__" :Str))=false:=by decide)
  (hcd:(x == ("__classdict__" :Str))=false:=by decide):PE X (.Name x pos) (YB i):=We hN hv hd hcd
end
theorem cZ {A B:Prop} (h:B):if false=true then A else B:=by
 rw [if_neg Bool.false_ne_true]
 exact h
theorem iW {A B:Prop} (h:A):if true=true then A else B:=by
 rw [if_pos rfl]
 exact h
theorem jH {c A B:Prop} [Decidable c] (h1:c->A) (h2:¬c->B):if c then A else B:=by
 by_cases h:c
 ·rw [if_pos h]
  exact h1 h
 ·rw [if_neg h]
  exact h2 h
noncomputable def aM (H H':Hp):Prop:=∀b o,H b=some o->H' b=some o
theorem aM.refl (H:Hp):aM H H:=fun _ _ h=>h
theorem aM.trans {H H1 H2:Hp} (a:aM H H1) (b:aM H1 H2):aM H H2:=fun c o h=>b c o (a c o h)
theorem aM.free {H H':Hp} (e:aM H H') {l:Addr} (h:H' l=Option.none):H l=Option.none:=by
 cases q:H l with
 | none=>rfl
 | some o=>
  rw [e l o q] at h
  cases h
theorem aM.seq {K:PySem.W.Frag} {H H':Hp} {a:Addr} {xs:List V} (e:aM H H') (h:bJ K H a xs):bJ K H' a xs:=by
 rcases h with (h | ⟨o,h⟩) | h
 ·exact .inl (.inl (e _ _ h))
 ·exact .inl (.inr ⟨o,e _ _ h⟩)
 ·exact .inr h
end L2
set_option maxHeartbeats 4000000
namespace L2
open PySem PySem.Spec PyProof.Rows
theorem Od {P:Program} {w:World} {H:Hp} {h:Heap} {a:Addr} {o:HO} (x:uX P w H h) (hn:H a=none) (new:fP P w (upd H a o) h a o):uX P w (upd H a o) h:=fun b u e=>by
 by_cases hb:b=a
 ·subst hb;rw [aq] at e;cases e;exact new
 ·rw [aK hb] at e
  exact(x b u e).stay (fun c v _ q=>q) (fun c q=>by rw [aK (aD q hn)];exact q) fun c xs q=>by rw [aK (aD q hn)];exact q
theorem Cr {α β:Type} {f:α->β->Sem (ForInStep β)} (g:α->β->β):∀(l:List α) (c:β),(∀x∈l,∀c,f x c=pure (.yield (g x c)))->forIn l c f=pure (l.foldl (fun c x=>g x c) c)
 | [],_,_=>rfl
 | x:: l,c,h=>by
  rw [List.forIn_cons,h x List.mem_cons_self,pure_bind]
  exact Cr g l (g x c) fun y hy=>h y (List.mem_cons_of_mem _ hy)
noncomputable def vZ (env:Env) (x:Str×NameKind) (cs:List (Str×Addr)):List (Str×Addr):=
 if x.2=.free then(match env.cells.lookup x.1 with | some c=>(x.1,c):: cs | none=>cs) else cs
noncomputable def clos (env:Env) (l:List (Str×NameKind)) (c:List (Str×Addr)):List (Str×Addr):=l.foldl (fun c x=>vZ env x c) c
theorem j9 {env:Env} {scope:Scope} (h:∀y∈scope.names,y.2=.free->∃c,env.cells.lookup y.1=some c):closureFor scope env=pure (clos env scope.names []):=by
 simp only [closureFor]
 rw [Cr (vZ env) scope.names [] fun x hx c=>?_]
 ·rfl
 ·obtain⟨n,k⟩:=x
  by_cases hk:k=.free
  ·subst hk
   obtain⟨a,ha⟩:=h _ hx rfl
   have ha':env.cells.lookup n=some a:=ha
   simp [cellOf,ha',vZ]
  ·have:(k == NameKind.free)=false:=by simpa using hk
   simp [this,vZ,hk]
theorem Km {env:Env}:∀(l:List (Str×NameKind)) (c:List (Str×Addr)),(∀y a,c.lookup y=some a->env.cells.lookup y=some a)->∀y a,(clos env l c).lookup y=some a->env.cells.lookup y=some a
 | [],_,h=>h
 | x:: l,c,h=>by
  refine Km l (vZ env x c) fun y a e=>?_
  unfold vZ at e
  by_cases hk:x.2=.free
  ·rw [if_pos hk] at e
   cases q:env.cells.lookup x.1 with
   | none=>rw [q] at e;exact h y a e
   | some b=>
    rw [q] at e
    by_cases hy:(y == x.1)=true
    ·have:y=x.1:=by simpa using hy
     subst this
     have e':((x.1,b):: c).lookup x.1=some a:=e
     simp [List.lookup_cons] at e'
     rw [q,e']
    ·have hy':(y == x.1)=false:=by simpa using hy
     have e':((x.1,b):: c).lookup y=some a:=e
     rw [List.lookup_cons,hy'] at e'
     exact h y a e'
  ·rw [if_neg hk] at e;exact h y a e
theorem BX {env:Env}:∀(l:List (Str×NameKind)) (c:List (Str×Addr)) (y:Str),((∃a,c.lookup y=some a)∨∃k∈l,k.1=y/\k.2=.free/\∃a,env.cells.lookup y=some a)->∃a,(clos env l c).lookup y=some a
 | [],_,_,h=>by
  rcases h with h | ⟨k,hk,_⟩
  ·exact h
  ·cases hk
 | x:: l,c,y,h=>by
  refine BX l (vZ env x c) y ?_
  have up:(∃a,c.lookup y=some a)->∃a,(vZ env x c).lookup y=some a:=fun⟨a,e⟩=>by
   unfold vZ
   split
   ·split
    ·rename_i b q
     by_cases hy:(y == x.1)=true
     ·exact⟨b,by rw [List.lookup_cons,hy]⟩
     ·have hy':(y == x.1)=false:=by simpa using hy
      exact⟨a,by rw [List.lookup_cons,hy'];exact e⟩
    ·exact⟨a,e⟩
   ·exact⟨a,e⟩
  rcases h with h | ⟨k,hk,h1,h2,a,h3⟩
  ·exact .inl (up h)
  ·rcases List.mem_cons.mp hk with e | hk
   ·subst e
    left
    unfold vZ
    rw [if_pos h2,h1,h3]
    exact⟨a,by simp [List.lookup_cons]⟩
   ·exact .inr ⟨k,hk,h1,h2,a,h3⟩
theorem tR (scope:Scope) (env:Env) (y:Str):(relabel scope env).names.lookup y=(scope.names.lookup y).map fun k=>if (k == NameKind.free && env.scope.kind == .function && env.kindOf y == some .cell)=true then .cell else k:=by
 show(scope.names.map _).lookup y=_
 induction scope.names with
 | nil=>rfl
 | cons p l ih=>
  obtain⟨n,k⟩:=p
  rw [List.map_cons]
  show List.lookup y ((if (k == NameKind.free && env.scope.kind == .function && env.kindOf n == some .cell)=true then(n,NameKind.cell) else(n,k)):: _)=_
  by_cases hy:(y == n)=true
  ·have:y=n:=by simpa using hy
   subst this
   by_cases hc:(k == NameKind.free && env.scope.kind == .function && env.kindOf y == some .cell)=true
   ·rw [if_pos hc]
    simp only [List.lookup_cons,beq_self_eq_true,Option.map_some]
    rw [if_pos hc]
   ·rw [if_neg hc]
    simp only [List.lookup_cons,beq_self_eq_true,Option.map_some]
    rw [if_neg hc]
  ·have hy':(y == n)=false:=by simpa using hy
   by_cases hc:(k == NameKind.free && env.scope.kind == .function && env.kindOf n == some .cell)=true
   ·rw [if_pos hc]
    simp only [List.lookup_cons,hy']
    exact ih
   ·rw [if_neg hc]
    simp only [List.lookup_cons,hy']
    exact ih
noncomputable def dq (N:List Str) (js:List Nat):List Str:=js.map fun j=>(N[j]?).getD Str.empty
noncomputable def cY (σ:St) (js:List Nat):St:=js.map fun j=>(σ[j]?).join
noncomputable def zA (X:Cx) (scope:Scope) (x:Str) (js:List Nat) (cl:List (Str×Addr)) (C:Addr) (s:Shared) (H:Hp) (ex:List Addr):Cx where
 prog:=X.prog
 w:=X.w
 K:=X.K
 mg:=X.mg
 base:=X.base
 A:=X.A
 N:=x:: dq X.N js
 s₀:=s
 H₀:=H
 env:=compEnvC scope cl C X.env
 outer:=X.stack
 stack:=X.stack
 ex:=ex
 fn:=fun _=>false
 calm:=X.calm
 pn:=[]
 xe:=fun _ _=>False
noncomputable def PF (X:Cx) (ifs:List Expr) (t:TT):Prop:=
 ∀(pins:List (Addr×Obj)) (s:Shared) (σ:St) (H:Hp) (Q:Bool->Hp->Prop),Inv X pins σ H s->t σ H Q->
  wpAny (model X.prog X.w) X.A (forIn ifs true fun c r=>if r=true then do let ok <-isTrue c X.env (eval c X.env);pure (ForInStep.yield ok) else pure (ForInStep.yield r)) (TP X pins σ Q) X.xe s
noncomputable def Yu:TT:=fun _ H Q=>Q true H
theorem iM {X:Cx}:PF X [] Yu:=fun _ _ _ H _ I h=>wpAny_pure ⟨H,I,h⟩
theorem lX {X:Cx} {c:Expr} {t:TT} (hc:PT X c t):PF X [c] t:=by
 intro pins s σ H Q I h
 rw [List.forIn_cons,if_pos rfl]
 refine wpAny_bind (wpAny_bind (dG (hc pins s σ H Q I h) fun b s1 q=>wpAny_pure ?_))
 show wpAny (model X.prog X.w) X.A (pure b) (TP X pins σ Q) X.xe s1
 exact wpAny_pure q
inductive CompEnd (js:List Nat) (tt:TT) (te:TE) (σ:St) (Qd:List V->Hp->Prop) (J:It) (H1:Hp):Prop where
 | mk:∀W:Nat->Nat->List V->Hp->Prop,((∃m,W 0 m [] H1))->(∀i m ys H2,W i m ys H2->
 (J.stop i H2/\ys.length<=sizeLine/\Qd ys H2)∨
 (J.go i H2/\ys.length <sizeLine/\∃N:List V->Hp->Prop,(∀ys' H',N ys' H'->∃m',m' <m/\W (i+1) m' ys' H')/\∀x H3,J.yld i H2 x H3->tt (some x:: cY σ js) H3 fun b H4=>
  if b=true then te (some x:: cY σ js) H4 fun y H5=>N (ys ++ [y]) H5 else N ys H4))->CompEnd js tt te σ Qd J H1
noncomputable def VB (js:List Nat) (wi:TI) (tt:TT) (te:TE):TE:=fun σ H Q=>wi σ H (CompEnd js tt te σ fun ys H2=>∀D,H2 D=none->Q (.ref D) (upd H2 D (.lst ys)))
section
variable {X:Cx} {x:Str} {px pos:Pos} {iter elt:Expr} {ifs:List Expr} {scope:Scope} {wi:TI} {tt:TT} {te:TE}
end
section
variable {X:Cx}
theorem mO:sY X (binaryOp .Mult) (rI IntMulOk fun i j=>.int (i * j)):=XS fun _ _ _ _ _ _ _ hc q=>mul_int q hc
noncomputable def Wa (_ j:Int):Prop:=0 <j/\j.natAbs.log2 <9000
theorem PQ:sY X (binaryOp .FloorDiv) (rI Wa fun i j=>.int (i / j)):=XS fun i j _ _ _ _ _ hc q=>by
 have h1:(0:Int) <j:=hc.1
 exact floordiv_int (by omega) (by rw [Int.fdiv_eq_ediv_of_nonneg i (by omega)];exact q) (.inl (PyProof.noPylong_of_log2 hc.2))
theorem YX {i j:Int} (h0:0 <j) (h:j.natAbs <2 ^ 9000):Wa i j:=⟨h0,(Nat.log2_lt (by omega)).mpr h⟩
noncomputable def Zc (K:PySem.W.Frag) (H:Hp) (x:V) (T:String):Prop:=match x with
 | .non=>T= "NoneType"
 | .bl _=>T= "bool"
 | .int _=>T= "int"
 | .str _=>T= "str"
 | .ref p=>(T= "list" /\∃xs,bJ K H p xs)∨(T= "tuple" /\∃xs,fu K H p xs)∨(T= "dict" /\∃kvs,H p=some (.dK kvs))
 | _=>False
noncomputable def J1 (a b:String):Bool:=a == b || (a == "bool" && b == "int")
noncomputable def Ng:List String:=["int", "bool", "str", "list", "tuple", "dict"]
noncomputable def pL:List String:=["NoneType", "bool", "int", "str", "list", "tuple", "dict"]
theorem Sd:∀T∈Ng,PySem.W.kitMeta T=true:=by decide +kernel
theorem Uh:∀a∈pL,∀b∈Ng,(PySem.fastBuiltinMro a).map (·.contains (.type b))=some (J1 a b):=by decide +kernel
theorem Us (K:PySem.W.Frag) {a b:String} (ha:a∈pL) (hb:b∈Ng):PySem.W.kitOne K (.type a) (.type b)=some (J1 a b):=by
 unfold PySem.W.kitOne
 by_cases h:(Value.type a == Value.type b)=true
 ·rw [if_pos h]
  have e:a=b:=by
   have:=beq_iff_eq.mp h
   injection this
  subst e
  simp [J1]
 ·rw [if_neg h]
  show(if PySem.W.kitMeta b=true then PySem.W.subIn K (.type a) (.type b) else none)=_
  rw [if_pos (Sd b hb)]
  exact Uh a ha b hb
theorem xU:oW X (.builtin "isinstance") (fun xs H Q=>∃x Tx T b,xs=[x,.ty T]/\Zc X.K H x Tx/\T∈Ng/\J1 Tx T=b/\Q (.bl b) H):=by
 intro pins s σ H xs us Q I r h
 obtain⟨x,Tx,T,b,rfl,ty,hT,rfl,q⟩:=h
 obtain⟨u,w',rfl,rx,ry⟩:=vals2 r
 cases ry
 have fin:∀{b:Bool},b=J1 Tx T->∀tk,EP X pins σ Q (.bool b) { s with toks:=tk }:=fun e tk=>⟨.bl (J1 Tx T),H,I.tok tk,by rw [e];rfl,q⟩
 have go:∀{P:Heap->Prop},PySem.W.KitX X.K u (.type Tx) P->P s.heap->Tx∈pL->u≠.builtin "__main__.__loader__#opaque" ->wpAny (model X.prog X.w) X.A (call (.builtin "isinstance") [u,.type T]) (EP X pins σ Q) X.xe s:=fun Z p hm hx=>
  PySem.W.kia_one Z I.kIn p (Us X.K hm hT) hx fun tk=>fin rfl tk
 cases x with
 | non=>cases rx;cases (show Tx= "NoneType" from ty);exact go PySem.W.kitx_none trivial (by decide) (by intro e;cases e)
 | bl b=>cases rx;cases (show Tx= "bool" from ty);exact go PySem.W.kitx_bool trivial (by decide) (by intro e;cases e)
 | int i=>obtain⟨t,rfl⟩:=rx;cases (show Tx= "int" from ty);exact go PySem.W.kitx_int trivial (by decide) (by intro e;cases e)
 | str z=>obtain⟨t,rfl⟩:=rx;cases (show Tx= "str" from ty);exact go PySem.W.kitx_str trivial (by decide) (by intro e;cases e)
 | ref p=>
  cases rx
  rcases ty with ⟨rfl,ys,hq⟩ | ⟨rfl,ys,hq⟩ | ⟨rfl,kvs,hq⟩
  ·obtain⟨its,_,pl,_⟩:=I.list hq
   obtain⟨o,n,e,c,_,_⟩:=pl
   exact go PySem.W.kitx_list ⟨o,e,c⟩ (by decide) (by intro e;cases e)
  ·obtain⟨its,_,⟨o,e,c,_⟩,_⟩:=I.tuple hq
   exact go PySem.W.kitx_tuple ⟨o,e,c⟩ (by decide) (by intro e;cases e)
  ·obtain⟨_,_,_,_,o,_,_,e,ex,_⟩:=I.hok p _ hq
   exact go PySem.W.kitx_dict ⟨o,e,ex.1⟩ (by decide) (by intro e;cases e)
 | _=>exact(show False from ty).elim
inductive SQ (K:PySem.W.Frag) (x:V) (xs:List V) (H:Hp) (Q:VK):Prop where
 | mk:∀z p ys,x=.str z->xs=[.ref p]->bJ K H p (ys.map V.str)->(ys.map (·.length)).sum+ys.length * z.length<=16777216->Q (.str (Txt.join z ys)) H->SQ K x xs H Q
noncomputable def rJoin (K:PySem.W.Frag):V->List V->Hp->VK->Prop:=fun x xs H Q=>SQ K x xs H Q
theorem BP:∀{ys:List Str} {us:List Value},Vals (ys.map V.str) us->StrsAre us ys
 | [],us,r=>by rw [List.map_nil] at r;cases r;exact .nil
 | y:: ys,us,r=>by
  rw [List.map_cons] at r
  cases r with
  | cons r1 r2=>
   obtain⟨t,e⟩:=r1
   subst e
   exact .cons y t (BP r2)
theorem Up:Zq X "str.join" (rJoin X.K):=by
 intro pins s σ H x xs v us Q I rx rs h
 obtain⟨z,p,ys,rfl,rfl,hq,hz,q⟩:=h
 obtain⟨t,rfl⟩:=rx
 obtain⟨u,rfl,ru⟩:=vals1 rs
 cases ru
 obtain⟨its,rv,pl,_⟩:=I.list hq
 exact join_list (items:=its.toArray) pl.isList (by simpa using BP rv) hz fun t' k=>⟨.str (Txt.join z ys),H,I.tok k,⟨_,rfl⟩,q⟩
end
theorem Xj:bootBuiltins "int" =some (.type "int"):=by decide +kernel
theorem Vb:bootBuiltins "bool" =some (.type "bool"):=by decide +kernel
theorem Q3:bootBuiltins "str" =some (.type "str"):=by decide +kernel
theorem rN:bootBuiltins "list" =some (.type "list"):=by decide +kernel
theorem yw:bootBuiltins "tuple" =some (.type "tuple"):=by decide +kernel
theorem dB:bootBuiltins "len" =some (.builtin "len"):=by decide +kernel
theorem j8:bootBuiltins "isinstance" =some (.builtin "isinstance"):=by decide +kernel
theorem Xm:bootBuiltins "min" =some (.builtin "min"):=by decide +kernel
theorem K7:bootBuiltins "max" =some (.builtin "max"):=by decide +kernel
theorem HW:bootBuiltins "all" =some (.builtin "all"):=by decide +kernel
section
variable {X:Cx} {pos:Pos}
theorem jc {x:Str} {v:V} (hg:Gl X x) (hm:∃u,X.mg x=some u/\RelV v u) (hd:(x == ("__debug__" :Str))=false:=by decide):PE X (.Name x pos) (tC v):=by
 obtain⟨u,h1,h2⟩:=hm
 exact Hr hg h1 h2 hd
theorem Bq {x:Str} {T:String} (hg:Gl X x) (hm:X.mg x=none) (hv:bootBuiltins x=some (.type T)) (hn:x≠ "__name__" :=by decide) (hd:(x == ("__debug__" :Str))=false:=by decide):PE X (.Name x pos) (tC (.ty T)):=
 Tz hg hm hv rfl hn hd
end
theorem lC {a b:Int} (h: -(2 ^ 64) <a/\a <2 ^ 64:=by decide):IntMulOk a b:=.of_left (intBits_le_64 h.1 h.2)
theorem Ip {a b:Int} (h: -(2 ^ 64) <b/\b <2 ^ 64:=by decide):IntMulOk a b:=.of_right (intBits_le_64 h.1 h.2)
inductive Qt (t:TS) (D:Ends) (σ:St) (H:Hp):Prop where
 | mk:∀J:St->Hp->Prop,t { D with nx:=J } σ H->(∀σ' H',J σ' H'->D.nx σ' H')->Qt t D σ H
noncomputable def XR (t:TS):TS:=fun D σ H=>Qt t D σ H
theorem gW {X:Cx} {st:Stmt} {t:TS} (h:PS X st t):PS X st (XR t):=by
 intro pins s σ H D I hw
 obtain⟨J,h1,h2⟩:=hw
 refine dG (h pins s σ H { D with nx:=J } I h1) fun f s1 q=>?_
 cases f with
 | next=>obtain⟨σ',H',I',q⟩:=q;exact⟨σ',H',I',h2 _ _ q⟩
 | ret v=>exact q
 | brk=>exact q
 | cont=>exact q
theorem dF {c A B:Prop} [Decidable c] (hc:¬c) (h:B):if decide c=true then A else B:=by rw [decide_eq_false hc];exact cZ h
theorem vz {c A B:Prop} [Decidable c] (hc:c) (h:A):if decide c=true then A else B:=by rw [decide_eq_true hc];exact iW h
mutual
inductive Dt (K:PySem.W.Frag) (H:Hp):V->PyData->Prop
 | non:Dt K H .non .none
 | bl (b:Bool):Dt K H (.bl b) (.bool b)
 | int (i:Int):Dt K H (.int i) (.int i)
 | str (x:Str):Dt K H (.str x) (.str x)
 | list {p:Addr} {xs:List V} {ds:List PyData}:bJ K H p xs->Py K H xs ds->Dt K H (.ref p) (.list ds)
 | tuple {p:Addr} {xs:List V} {ds:List PyData}:fu K H p xs->Py K H xs ds->Dt K H (.ref p) (.tuple ds)
inductive Py (K:PySem.W.Frag) (H:Hp):List V->List PyData->Prop
 | nil:Py K H [] []
 | cons {x:V} {xs:List V} {d:PyData} {ds:List PyData}:Dt K H x d->Py K H xs ds->Py K H (x:: xs) (d:: ds)
end
section
variable {X:Cx} {pins:List (Addr×Obj)} {σ:St} {H:Hp} {s:Shared}
mutual
theorem Dt.reads (I:Inv X pins σ H s):∀{x:V} {d:PyData},Dt X.K H x d->∀{u:Value},RelV x u->∃as,Reads s.heap u d as
 | _,_,.non,_,r=>by cases r;exact⟨_,.none⟩
 | _,_,.bl b,_,r=>by cases r;exact⟨_,.bool b⟩
 | _,_,.int i,_,r=>by obtain⟨t,rfl⟩:=r;exact⟨_,.int i t⟩
 | _,_,.str x,_,r=>by obtain⟨t,rfl⟩:=r;exact⟨_,.str x t⟩
 | _,_,.list hq hd,_,r=>by
  cases r
  obtain⟨its,rv,⟨o,n,e,c,_,d⟩,_⟩:=I.list hq
  obtain⟨as,q⟩:=Py.reads I hd rv
  exact⟨_,.list e c d (by simpa using q)⟩
 | _,_,.tuple hq hd,_,r=>by
  cases r
  obtain⟨its,rv,⟨o,e,c,n,d⟩,_⟩:=I.tuple hq
  obtain⟨as,q⟩:=Py.reads I hd rv
  exact⟨_,.tuple e c d (by simpa using q)⟩
theorem Py.reads (I:Inv X pins σ H s):∀{xs:List V} {ds:List PyData},Py X.K H xs ds->∀{us:List Value},Vals xs us->∃as,ReadsAll s.heap us ds as
 | _,_,.nil,_,r=>by cases r;exact⟨_,.nil⟩
 | _,_,.cons h t,_,r=>by
  cases r with
  | cons r1 r2=>
   obtain⟨as,q⟩:=Dt.reads I h r1
   obtain⟨bs,q'⟩:=Py.reads I t r2
   exact⟨_,.cons q q'⟩
end
inductive Vs (K:PySem.W.Frag) (x:V) (y:V) (H:Hp) (Q:VK):Prop where
 | mk:∀da db,Dt K H x da->Dt K H y db->SeqAt.shaped da=true->SeqAt.shaped db=true->Q (.bl (PyData.eqv da db)) H->Vs K x y H Q
noncomputable def Zj (K:PySem.W.Frag):R2:=fun x y H Q=>Vs K x y H Q
inductive VD (K:PySem.W.Frag) (x:V) (y:V) (H:Hp) (Q:VK):Prop where
 | mk:∀da db,Dt K H x da->Dt K H y db->SeqAt.shaped da=true->SeqAt.shaped db=true->Q (.bl (!PyData.eqv da db)) H->VD K x y H Q
noncomputable def Yl (K:PySem.W.Frag):R2:=fun x y H Q=>VD K x y H Q
theorem QS (hu:X.A.units+64 <cLine):sY X (compareOp .Eq) (Zj X.K):=by
 intro pins s σ H x y v u Q I rx ry h
 obtain⟨da,db,h1,h2,s1,s2,q⟩:=h
 obtain⟨as,r1⟩:=h1.reads I rx
 obtain⟨bs,r2⟩:=h2.reads I ry
 exact eq_dataH r1 r2 s1 s2 hu (cC I q rfl)
theorem Xc (hu:X.A.units+64 <cLine):sY X (compareOp .NotEq) (Yl X.K):=by
 intro pins s σ H x y v u Q I rx ry h
 obtain⟨da,db,h1,h2,s1,s2,q⟩:=h
 obtain⟨as,r1⟩:=h1.reads I rx
 obtain⟨bs,r2⟩:=h2.reads I ry
 exact ne_dataH r1 r2 s1 s2 hu (cC I q rfl)
end
noncomputable def Zd (x:Str):It:=⟨fun i _=>i <x.cps.size,fun i H v H'=>H'=H/\∃c,x.cps[i]?=some c/\v=.str ⟨#[c]⟩,fun i _=>x.cps.size<=i⟩
theorem J5 {P:Program} {w:World} {K:PySem.W.Frag} {tg:Expr} (it:Addr) (x:Str) (t:Tok) {ty:String} (hty:ty= "str_ascii_iterator" ∨ty= "str_iterator"):Turn P w K tg (Zd x) [it] it (fun i h=>h.IsStrIter it ty x t i) where
 mem:=by simp
 obj:=fun i h st b hb=>by
  have e:b=it:=by simpa using hb
  subst e
  obtain⟨o,e,c,d⟩:=st
  exact⟨o,e,fun v z=>by rw [d] at z;cases z⟩
 keep:=fun i h h' st k=>by
  obtain⟨o,e,r⟩:=st
  exact⟨o,k it (by simp) o e,r⟩
 item:=by
  intro X hP hw hK hc i pins s σ H E I hf st hg
  subst hP hw hK
  obtain⟨f0,f1,f2,f3,f4,f5⟩:=hf it (by simp)
  have fin:∀(v:Value) (h':Heap) (tk:Nat),SignAt x i v->h'.IsStrIter it ty x t (i+1)->(∀b o,b∉[it]->s.heap.get? b=some o->h'.get? b=some o)->
    ∃u,some v=some u/\wpAny (model X.prog X.w) X.A (letOwnedTupleGo tg (.ref it) u) (fun _ s2=>∃x' H',Inv X pins σ H' s2/\RelV x' u/\(Zd x).yld i H x' H'/\s2.heap.IsStrIter it ty x t (i+1)/\∀b∈[it],H' b=none) E { s with heap:=h',toks:=tk }:=by
   intro v h' tk hv st' kk
   obtain⟨c,u,hcc,rfl⟩:=hv
   have I1:Inv X pins σ H { s with heap:=h',toks:=tk }:=I.turned (fun b o hb e=>kk b o (by simpa using hb) e) f0 f1 f3 f4 f5
   obtain⟨o,e,c',d⟩:=id st'
   refine⟨_,rfl,Fq (s:={ s with heap:=h',toks:=tk }) (n:=ty) e c' d (by rcases hty with rfl | rfl <;> decide) ⟨.str ⟨#[c]⟩,H,I1,⟨u,rfl⟩,⟨rfl,c,hcc,rfl⟩,st',fun b hb=>(hf b hb).1⟩⟩
  rcases hty with rfl | rfl
  ·exact(Walks.strAscii (prog:=X.prog) (w:=X.w) (I.ok.hd hc) it x t).item i s _ _ hg st fun v h' tk hv st' kk=>fin v h' tk hv st' kk
  ·exact(Walks.strWide (prog:=X.prog) (w:=X.w) (I.ok.hd hc) it x t).item i s _ _ hg st fun v h' tk hv st' kk=>fin v h' tk hv st' kk
 done:=by
  intro X hP hw hK hc i pins s σ H E I hf st hg
  subst hP hw hK
  obtain⟨f0,f1,f2,f3,f4,f5⟩:=hf it (by simp)
  have hx:x.cps[i]?=none:=by
   have hg':x.cps.size<=i:=hg
   simp;omega
  rcases hty with rfl | rfl
  ·exact wpAny_pyNext_ascii_end (I.ok.hd hc) st hx fun h' eb=>⟨rfl,I.turned (t':=s.toks) (fun b o hb e=>eb b o hb e) f0 f1 f3 f4 f5⟩
  ·exact wpAny_pyNext_wide_end (I.ok.hd hc) st hx fun h' eb=>⟨rfl,I.turned (t':=s.toks) (fun b o hb e=>eb b o hb e) f0 f1 f3 f4 f5⟩
 self:=fun _ _ _ _ _ st h=>by
  rcases hty with rfl | rfl
  ·exact wpAny_pyIter_striter_ascii st h
  ·exact wpAny_pyIter_striter_wide st h
section
variable {X:Cx} {tg:Expr}
inductive V8 (R:It->Hp->Prop) (x:V) (H1:Hp):Prop where
 | mk:∀z,x=.str z->R (Zd z) H1->V8 R x H1
noncomputable def Z1 (tl:TE):TI:=fun σ H R=>tl σ H fun x H1=>V8 R x H1
theorem Wh {l:Expr} {tl:TE} (hl:PE X l tl):PI X tg l (Z1 tl):=by
 intro pins s σ H R I h
 refine dG (hl pins s σ H _ I h) fun v s1 hpt=>?_
 obtain⟨x,H1,I1,r1,q1⟩:=hpt
 obtain⟨z,e,q⟩:=q1
 subst e
 obtain⟨t,rfl⟩:=r1
 cases ha:z.cps.all (· <128)
 ·refine wpAny_pyIter_wide ha ?_
  refine⟨s1.heap.objs.size,[s1.heap.objs.size],_,_,H1,rfl,I1.kept (t':=s1.toks) fun b o e=>Heap.get?_push_of_some _ e,J5 _ z t (ty:= "str_iterator") (.inr rfl),⟨_,Heap.get?_push_size _ rfl,rfl,rfl⟩,fun b hb=>?_,q⟩
  have e:b=s1.heap.objs.size:=by simpa using hb
  subst e
  exact I1.fpOk (Nat.le_refl _) (I1.hok.fresh (Nat.le_refl _))
 ·refine wpAny_pyIter_ascii ha ?_
  refine⟨s1.heap.objs.size,[s1.heap.objs.size],_,_,H1,rfl,I1.kept (t':=s1.toks) fun b o e=>Heap.get?_push_of_some _ e,J5 _ z t (ty:= "str_ascii_iterator") (.inl rfl),⟨_,Heap.get?_push_size _ rfl,rfl,rfl⟩,fun b hb=>?_,q⟩
  have e:b=s1.heap.objs.size:=by simpa using hb
  subst e
  exact I1.fpOk (Nat.le_refl _) (I1.hok.fresh (Nat.le_refl _))
end
theorem yes {A B:Hp->Prop} {σ:St} {H:Hp} (h:A H):Yu σ H (fun b H4=>if b=true then A H4 else B H4):=by
 show if true=true then A H else B H
 exact iW h
section
variable {js:List Nat} {tt:TT} {te:TE} {σ:St} {Qd:List V->Hp->Prop}
theorem nZ {lo:Int} {n:Nat} {H:Hp} (Pv:Nat->List V->Hp->Prop) (hn:n<=sizeLine) (h0:Pv 0 [] H) (hl:∀i ys H,Pv i ys H->ys.length<=i)
  (hs:∀i ys H,i <n->Pv i ys H->tt (some (.int (lo+i)):: cY σ js) H fun b H4=>if b=true then te (some (.int (lo+i)):: cY σ js) H4 fun y H5=>Pv (i+1) (ys ++ [y]) H5 else Pv (i+1) ys H4)
  (hd:∀ys H,Pv n ys H->Qd ys H):CompEnd js tt te σ Qd (WW lo n) H:=by
 refine⟨fun i m ys H=>m=n - i/\i<=n/\Pv i ys H,⟨n,by simp,Nat.zero_le _,h0⟩,?_⟩
 rintro i m ys H ⟨rfl,hi,p⟩
 have hlen:=hl i ys H p
 by_cases hlt:i <n
 ·refine .inr ⟨hlt,by omega,Pv (i+1),fun ys' H' p'=>⟨n - (i+1),by omega,rfl,hlt,p'⟩,fun x H' y=>?_⟩
  obtain⟨e,y⟩:=y
  subst e y
  exact hs i ys _ hlt p
 ·have e:i=n:=by omega
  subst e
  exact .inl ⟨Nat.le_refl _,by omega,hd ys H p⟩
theorem dC {K:PySem.W.Frag} {a:Addr} {xs:List V} {H:Hp} (Pv:Nat->List V->Hp->Prop) (hn:xs.length<=sizeLine) (h0:Pv 0 [] H) (hl:∀i ys H,Pv i ys H->ys.length<=i) (hq:∀i ys H,i<=xs.length->Pv i ys H->bJ K H a xs)
  (hs:∀i x ys H,xs[i]?=some x->Pv i ys H->tt (some x:: cY σ js) H fun b H4=>if b=true then te (some x:: cY σ js) H4 fun y H5=>Pv (i+1) (ys ++ [y]) H5 else Pv (i+1) ys H4)
  (hd:∀ys H,Pv xs.length ys H->Qd ys H):CompEnd js tt te σ Qd (Xh K a) H:=by
 refine⟨fun i m ys H=>m=xs.length - i/\i<=xs.length/\Pv i ys H,⟨xs.length,by simp,Nat.zero_le _,h0⟩,?_⟩
 rintro i m ys H ⟨rfl,hi,p⟩
 have hlen:=hl i ys H p
 have q:=hq i ys H hi p
 by_cases hlt:i <xs.length
 ·refine .inr ⟨⟨xs,xs[i],q,by simp [hlt]⟩,by omega,Pv (i+1),fun ys' H' p'=>⟨xs.length - (i+1),by omega,rfl,hlt,p'⟩,fun x H' y=>?_⟩
  obtain⟨e,y⟩:=y
  subst e
  exact hs i x ys _ (y xs q) p
 ·have e:i=xs.length:=by omega
  subst e
  exact .inl ⟨⟨xs,q,Nat.le_refl _⟩,by omega,hd ys H p⟩
theorem QF {z:Str} {H:Hp} (Pv:Nat->List V->Hp->Prop) (hn:z.cps.size<=sizeLine) (h0:Pv 0 [] H) (hl:∀i ys H,Pv i ys H->ys.length<=i)
  (hs:∀i c ys H,z.cps[i]?=some c->Pv i ys H->tt (some (.str ⟨#[c]⟩):: cY σ js) H fun b H4=>if b=true then te (some (.str ⟨#[c]⟩):: cY σ js) H4 fun y H5=>Pv (i+1) (ys ++ [y]) H5 else Pv (i+1) ys H4)
  (hd:∀ys H,Pv z.cps.size ys H->Qd ys H):CompEnd js tt te σ Qd (Zd z) H:=by
 refine⟨fun i m ys H=>m=z.cps.size - i/\i<=z.cps.size/\Pv i ys H,⟨z.cps.size,by simp,Nat.zero_le _,h0⟩,?_⟩
 rintro i m ys H ⟨rfl,hi,p⟩
 have hlen:=hl i ys H p
 by_cases hlt:i <z.cps.size
 ·refine .inr ⟨hlt,by omega,Pv (i+1),fun ys' H' p'=>⟨z.cps.size - (i+1),by omega,rfl,hlt,p'⟩,fun x H' y=>?_⟩
  obtain⟨e,c,hc,y⟩:=y
  subst e y
  exact hs i c ys _ hc p
 ·have e:i=z.cps.size:=by omega
  subst e
  exact .inl ⟨Nat.le_refl _,by omega,hd ys H p⟩
end
section
variable {X:Cx}
inductive Vp (x:V) (lo:Option Int) (hi:Option Int) (H:Hp) (Q:VK):Prop where
 | mk:∀z,x=.str z->z.length<=sizeLine->Q (.str (Txt.slice z lo hi)) H->Vp x lo hi H Q
noncomputable def ZQ:V->Option Int->Option Int->Hp->VK->Prop:=fun x lo hi H Q=>Vp x lo hi H Q
theorem Qa:ZC X ZQ:=by
 intro pins s σ H x v vl vu lo hi sl Q I rx hs pl pu h
 obtain⟨z,rfl,hz,q⟩:=h
 obtain⟨t,rfl⟩:=rx
 refine⟨"str",_,PySem.F.slot_str_getitem.lookup,typeIs_str _ _ _,?_⟩
 have fin:∀t' k,EP X pins σ Q (.str (Txt.slice z lo hi) t') { s with toks:=k }:=fun t' k=>⟨.str _,H,I.tok k,⟨_,rfl⟩,q⟩
 cases pl with
 | none=>
  cases pu with
  | none=>exact wpAny_getItem_str_slice (l:=none) (u:=none) (st:=none) hs rfl (post_val_or_str ⟨Nat.le_trans (Txt.slice_le z _ _) hz,fin⟩)
  | int j tj=>exact wpAny_getItem_str_slice (l:=none) (u:=some (j,tj)) (st:=none) hs rfl (post_val_or_str ⟨Nat.le_trans (Txt.slice_le z _ _) hz,fin⟩)
 | int i ti=>
  cases pu with
  | none=>exact wpAny_getItem_str_slice (l:=some (i,ti)) (u:=none) (st:=none) hs rfl (post_val_or_str ⟨Nat.le_trans (Txt.slice_le z _ _) hz,fin⟩)
  | int j tj=>exact wpAny_getItem_str_slice (l:=some (i,ti)) (u:=some (j,tj)) (st:=none) hs rfl (post_val_or_str ⟨Nat.le_trans (Txt.slice_le z _ _) hz,fin⟩)
theorem xg (hc:X.calm=true):oW X (.builtin "all") (fun xs H Q=>∃(p:Addr) (bs:List Bool),xs=[.ref p]/\bJ X.K H p (bs.map V.bl)/\Q (.bl (bs.all id)) H):=by
 intro pins s σ H xs us Q I r h
 obtain⟨p,bs,rfl,hq,q⟩:=h
 obtain⟨u,rfl,rx⟩:=vals1 r
 cases rx
 obtain⟨its,rv,pl,_⟩:=I.list hq
 have hl:=pl.isList
 have hlt:p <s.heap.objs.size:=by obtain⟨_,e,_⟩:=hl;exact Heap.lt_size e
 have hb:∀i v,its[i]?=some v->∃b,bs[i]?=some b/\v=Value.bool b:=fun i v e=>by
  have hi:i <its.length:=(List.getElem?_eq_some_iff.mp e).1
  have hi':i <bs.length:=by have:=rv.length;rw [List.length_map] at this;omega
  obtain⟨u,e',r'⟩:=rv.get (i:=i) (x:=.bl bs[i]) (by rw [List.getElem?_map,List.getElem?_eq_getElem hi'];rfl)
  rw [e] at e'
  cases e'
  exact⟨bs[i],List.getElem?_eq_getElem hi',r'⟩
 refine call_all_walk (wpAny_pyIter_list hl ?_)
 refine⟨s.heap.objs.size,[s.heap.objs.size,p],[s.heap.objs.size],its.toArray.size,_,_,fun i=>(bs[i]?).getD true,rfl,Walks.list (A:=X.A.in1) (I.ok.hd hc) _ p (Nat.ne_of_lt hlt) its.toArray,
  ⟨⟨_,Heap.get?_push_size _ rfl,rfl,rfl⟩,hl.push _⟩,fun i v s' Q' E' hP hQ=>?_,fun h' tk hk=>?_⟩
 ·obtain⟨b,e,rfl⟩:=hb i v (by simpa using hP)
  simp only [e,Option.getD_some] at hQ
  exact wpAny_truthy_bool hQ
 ·have e:((List.range its.toArray.size).all fun i=>(bs[i]?).getD true)=bs.all id:=by
   have hlen:=rv.length
   rw [List.length_map] at hlen
   rw [List.size_toArray,<-hlen];exact LSm.range_all bs
  rw [e]
  exact⟨.bl _,H,I.kept (LSm.kept_iter hk),rfl,q⟩
end
end L2
namespace L2
open PySem PySem.StrLaws PySem.Builtin PySem.Builtin.Str
end L2
namespace L2
open PySem
theorem aB {H:L2.Hp} {p:Addr} {o:L2.HO} (hp:H p=none):L2.aM H (L2.upd H p o):=fun b o' e=>by rw [L2.aK (L2.aD e hp)];exact e
end L2
namespace L2
open PySem PySem.SeqAt
open AutoSeq1 (wpAny_loadPart')
open MeetsSeq MeetsSeq2 MeetsSeq3 SeqRoads2
section
variable {A:Around} {s:Shared}
end
open PySem.Spec PyProof.Rows
end L2
namespace L2
open PySem PySem.Spec PyProof.Rows
structure MethAt (P:Program) (w:World) (K:PySem.W.Frag) (mg:Str->Option Value) (base:Heap) (CX:FP) (k:Nat) (C:Addr) (m:Str) (sp:Sp):Prop where
 ex:∃(f:Addr) (fd:FuncData) (ps:List Str),Ot K C/\Meth K C m f/\Binds K fd ps []/\iR P w K mg base CX k f fd ps sp
inductive NQ (P:Program) (w:World) (K:PySem.W.Frag) (mg:Str->Option Value) (base:Heap) (CX:FP) (k:Nat) (m:Str) (E:XK) (t:TA) (σ:St) (Q:VK) (x:V) (H1:Hp):Prop where
 | mk:∀a C dx fs sp,x=.ref a->H1 a=some (.ins C dx fs)->fs.lookup m=none->MethAt P w K mg base CX k C m sp->(t σ H1 fun vs H2=>sp (x:: vs) H2 Q E)->NQ P w K mg base CX k m E t σ Q x H1
noncomputable def K6 (P:Program) (w:World) (K:PySem.W.Frag) (mg:Str->Option Value) (base:Heap) (CX:FP) (k:Nat) (m:Str) (E:XK) (ta:TE) (t:TA):TE:=fun σ H Q=>ta σ H fun x H1=>NQ P w K mg base CX k m E t σ Q x H1
section
variable {X:Cx} {CX:FP} {k:Nat} {E:XK} {m:Str} {pos apos:Pos} {e o:Expr} {es:List Expr} {ta:TE} {t:TA}
theorem xP {pl:Sem Bool} (he:PE X o ta) (hr:iQ k X.A) (hx:qu CX X E) (ha:PA X (e:: es) t)
  (hst:starEach (e:: es) X.env=(false,eval e X.env):: starEach es X.env:=by rfl) (hpl:(backTo pos (starEach es X.env)).any (·.1)=false:=by rfl)
  (ht:eval (.Call (.Attribute o m apos) (e:: es) [] pos) X.env=(do
   let ov <-eval o X.env
   standAt apos.atName
   let (f,first) <-holding [ov] (getMethod ov m pl)
   callWith pos f first (backTo pos (starEach (e:: es) X.env)) (backToKw pos (keywordEach [] X.env))):=by rfl):
  PE X (.Call (.Attribute o m apos) (e:: es) [] pos) (K6 X.prog X.w X.K X.mg X.base CX k m E ta t):=by
 intro pins s σ H Q I h
 refine PySem.W.methodCall_KW (pl:=pl) (dG (he pins s σ H _ I h) fun u s1 hpt=>?_) ht
 obtain⟨x,H1,I1,rx,a,C,dx,fs,sp,ex,ea,l,⟨f,fd,ps,c,hm,hb,F⟩,q⟩:=hpt
 subst ex
 obtain rfl:u=Value.ref a:=rx
 refine rE I1 ea c hm l ?_
 refine PySem.W.callWith_K (first:=[.ref a]) (h₀:=X.base) I.ok.mod.kin hm.kp (dG (ha pos pins s1 σ H1 _ I1 q) fun us s2 ⟨vs,H2,I2,r,q2⟩=>⟨I2.kIn,?_⟩) hst hpl
 exact Dd (us:=.ref a:: us) (vs:=.ref a:: vs) (ds:=[]) (dvs:=[]) F hr hb .nil hx I2 (.cons rfl r) (by rw [List.append_nil];exact q2)
theorem zH {pl:Sem Bool} (he:PE X o ta) (hr:iQ k X.A) (hx:qu CX X E)
  (ht:eval (.Call (.Attribute o m apos) [] [] pos) X.env=(do
   let ov <-eval o X.env
   standAt apos.atName
   let (f,first) <-holding [ov] (getMethod ov m pl)
   callWith pos f first (backTo pos (starEach [] X.env)) (backToKw pos (keywordEach [] X.env))):=by rfl):
  PE X (.Call (.Attribute o m apos) [] [] pos) (K6 X.prog X.w X.K X.mg X.base CX k m E ta Qe):=by
 intro pins s σ H Q I h
 refine PySem.W.methodCall_KW (pl:=pl) (dG (he pins s σ H _ I h) fun u s1 hpt=>?_) ht
 obtain⟨x,H1,I1,rx,a,C,dx,fs,sp,ex,ea,l,⟨f,fd,ps,c,hm,hb,F⟩,q⟩:=hpt
 subst ex
 obtain rfl:u=Value.ref a:=rx
 refine rE I1 ea c hm l ?_
 exact PySem.W.callWith_K0 (first:=[.ref a]) I1.kIn hm.kp (Dd (us:=[.ref a]) (vs:=[.ref a]) (ds:=[]) (dvs:=[]) F hr hb .nil hx I1 (.cons rfl .nil) (by rw [List.append_nil];exact q))
end
section
variable {X:Cx}
theorem Ru:bootBuiltins "range" =some (.type "range"):=by decide +kernel
theorem Ko:oW X (.type "range") (fun xs H Q=>∃j:Int,xs=[.int j]/\∀r,H r=none->Q (.ref r) (upd H r (.rng 0 j))):=by
 intro pins s σ H xs us Q I r h
 obtain⟨j,rfl,q⟩:=h
 obtain⟨u,rfl,t,rfl⟩:=vals1 r
 refine call_range_1 ⟨.ref s.heap.objs.size,upd H s.heap.objs.size (.rng 0 j),I.laid (fun b o e=>Heap.get?_push_of_some _ e) (Nat.le_refl _) ?_,rfl,q _ (I.hok.fresh (Nat.le_refl _))⟩
 exact⟨_,_,_,Heap.get?_push_size _ rfl⟩
noncomputable def S9 (n:Nat):List V:=(List.range n).map fun i=>V.int (i:Nat)
theorem Um (n:Nat):(S9 n).length=n:=by simp [S9]
theorem Qf:∀(n:Nat) (us:List Value),us.length=n->(∀(j:Nat) (v:Value),us[j]?=some v->∃t,v=.int (j:Nat) t)->Vals (S9 n) us:=by
 intro n
 induction n with
 | zero=>intro us hl _;cases us with | nil=>exact .nil | cons _ _=>cases hl
 | succ n ih=>
  intro us hl h
  have e1:S9 (n+1)=S9 n ++ [V.int (n:Nat)]:=by simp [S9,List.range_succ]
  have hn:n <us.length:=by omega
  have e2:us=us.take n ++ [us[n]]:=by
   have:=List.take_append_drop n us
   rw [List.drop_eq_getElem_cons hn] at this
   rw [List.drop_eq_nil_of_le (by omega)] at this
   exact this.symm
  rw [e1,e2]
  refine Vals.append (ih _ (by simp;omega) fun j v e=>?_) (.cons ?_ .nil)
  ·rw [List.getElem?_take] at e
   split at e
   ·exact h j v e
   ·cases e
  ·obtain⟨t,e⟩:=h n us[n] (by simp [hn])
   exact⟨t,e⟩
theorem Ez (hc:X.calm=true):oW X (.type "list") (fun xs H Q=>∃(r:Addr) (n:Nat),xs=[.ref r]/\H r=some (.rng 0 n)/\n<=1000000/\∀l,H l=none->Q (.ref l) (upd H l (.lst (S9 n)))):=by
 intro pins s σ H xs us Q I rx h
 obtain⟨r,n,rfl,hr,hn,q⟩:=h
 obtain⟨u,rfl,ru⟩:=vals1 rx
 cases ru
 have hl:sizeLine=16777216:=sizeLine_eq
 obtain⟨t,u,v,e⟩:=(show fP X.prog X.w H s.heap r (.rng 0 n) from I.hok r _ hr)
 refine call_list_range (n:=n) (I.ok.hd hc) e (small_one (by omega) (by omega) (by omega) (by omega)) (by rw [rangeSize_one];split <;> omega) (by omega) fun h' tk acc' c' kp e' hi=>?_
 refine⟨.ref s.heap.objs.size,_,I.laid (t':=tk) kp (Nat.le_refl _) (show fP X.prog X.w _ h' _ (.lst (S9 n)) from⟨by rw [Um];omega,acc'.toList,c',Qf n _ (by simpa using hi.1) fun j v ej=>?_,by simpa using e'⟩),rfl,q _ (I.hok.fresh (Nat.le_refl _))⟩
 obtain⟨t,ev⟩:=hi.2 j v (by simpa using ej)
 exact⟨t,by rw [ev];congr 1;omega⟩
end
inductive jt (w:World) (K:PySem.W.Frag):List DictEntry->List (Str×List Int)->Prop
 | nil:jt w K [] []
 | cons {x:Str} {t:Tok} {ad:Addr} {ns:List Int} {es:List DictEntry} {rows:List (Str×List Int)} {h:Int} {its:Array Value} {n:Nat} {o:Obj}:
   h=hashStr w x->K.lookup ad=some o->o.cls=.type "tuple" ->o.data=.seq its n->Vals (ns.map V.int) its.toList->ns.length<=1000->jt w K es rows->jt w K (⟨h,.str x t,.ref ad⟩:: es) ((x,ns):: rows)
inductive KTab (w:World) (K:PySem.W.Frag) (a:Addr) (rows:List (Str×List Int)):Prop where
 | mk:∀(o:Obj) (es:Array DictEntry) (ep:Nat),K.lookup a=some o->o.cls=.type "dict" ->o.dict=none->o.slots= #[]->o.data=.dict es ep->(a == sysModules)=false->jt w K es.toList rows->(rows.map (·.1)).Nodup->KTab w K a rows
theorem KTab.mk' {w:World} {K:PySem.W.Frag} {a:Addr} {rows:List (Str×List Int)} {o:Obj} {es:Array DictEntry} {ep:Nat} (lk:K.lookup a=some o) (c1:o.cls=.type "dict") (c2:o.dict=none) (c3:o.slots= #[]) (c4:o.data=.dict es ep) (sm:(a == sysModules)=false)
  (rw':jt w K es.toList rows) (nd:(rows.map (·.1)).Nodup):KTab w K a rows:=⟨o,es,ep,lk,c1,c2,c3,c4,sm,rw',nd⟩
noncomputable def rowOf (rows:List (Str×List Int)) (z:Str):Option (List Int):=(rows.find? fun r=>decide (r.1=z)).map (·.2)
section
variable {P:Program} {w:World} {K:PySem.W.Frag}
theorem jt.kvs:∀{es:List DictEntry} {rows:List (Str×List Int)},jt w K es rows->∃kvs:List (Key×Value),Pairs (cJ P w) es kvs/\kvs.map (·.1)=rows.map (fun r=>(Sum.inr r.1:Key))/\
  (∀e∈es,∃k,(cJ P w).is k e.key=true/\e.hash=(cJ P w).hash k)/\
  ∀z,(rowOf rows z=none->valueAt kvs (Sum.inr z)=none)/\∀ns,rowOf rows z=some ns->∃ad,valueAt kvs (Sum.inr z)=some (.ref ad)/\∀H,fu K H ad (ns.map V.int)
 | _,_,.nil=>⟨[],.nil,rfl,fun e he=>(by cases he),fun z=>⟨fun _=>rfl,fun ns e=>by cases e⟩⟩
 | _,_,@jt.cons _ _ x t ad ns es rows h its n o hh hl hc hdt hv hz hr=>by
  obtain⟨kvs,p,hk,ho,hf⟩:=jt.kvs hr
  refine⟨(Sum.inr x,.ref ad):: kvs,.cons (lG P w x t) rfl p,by rw [List.map_cons,List.map_cons,hk],fun e he=>?_,fun z=>?_⟩
  ·rcases List.mem_cons.mp he with e1 | he
   ·subst e1
    exact⟨Sum.inr x,lG P w x t,hh⟩
   ·exact ho e he
  ·by_cases hx:x=z
   ·subst hx
    have e1:rowOf ((x,ns):: rows) x=some ns:=by simp [rowOf]
    have e2:valueAt ((Sum.inr x,Value.ref ad):: kvs) (Sum.inr x:Key)=some (.ref ad):=by simp [valueAt]
    rw [e1,e2]
    refine⟨fun e=>by (cases e),fun ms e=>⟨ad,rfl,fun H=>.inr ⟨_,its,n,hl,hc,hdt,?_,?_⟩⟩⟩
    ·have:=hv.length
     have hs:sizeLine=16777216:=sizeLine_eq
     simp at this
     omega
    ·cases e;exact hv
   ·have e1:rowOf ((x,ns):: rows) z=rowOf rows z:=by simp [rowOf,hx]
    have hx':¬(Sum.inr x:Key)=Sum.inr z:=fun q=>hx (Sum.inr.inj q)
    have e2:valueAt ((Sum.inr x,Value.ref ad):: kvs) (Sum.inr z:Key)=valueAt kvs (Sum.inr z):=by simp [valueAt,hx']
    rw [e1,e2]
    exact hf z
theorem KTab.map {a:Addr} {rows:List (Str×List Int)} {h:Heap} (T:KTab w K a rows) (hk:K.In h):∃f:Key->Option Value,h.MapOf (cJ P w) a f/\(a == sysModules)=false/\
  ∀z,(rowOf rows z=none->f (Sum.inr z)=none)/\∀ns,rowOf rows z=some ns->∃ad,f (Sum.inr z)=some (.ref ad)/\∀H,fu K H ad (ns.map V.int):=by
 obtain⟨o,es,ep,hl,c1,c2,c3,c4,hs,hr,nd⟩:=T
 obtain⟨kvs,p,hkk,ho,hf⟩:=hr.kvs (P:=P)
 have D:h.DictOf (cJ P w) a kvs:=⟨o,es,ep,hk a _ hl,⟨c1,c2,c3⟩,c4,fun e he=>ho e (by simpa using he),p,?_⟩
 ·exact⟨_,D.mapOf,hs,hf⟩
 ·rw [hkk]
  have:rows.map (fun r=>(Sum.inr r.1:Key))=(rows.map (·.1)).map Sum.inr:=by rw [List.map_map];rfl
  rw [this]
  exact List.Pairwise.map _ (fun a b hab e=>hab (Sum.inr.inj e)) nd
end
section
variable {X:Cx} {i o:Expr} {ty td:TE} {pos:Pos}
inductive Vz (w:World) (K:PySem.W.Frag) (Q:VK) (y:V) (x:V) (H2:Hp):Prop where
 | mk:∀a rows z,x=.ref a->KTab w K a rows->y=.str z->Q (.bl (rowOf rows z).isSome) H2->Vz w K Q y x H2
noncomputable def ZS (w:World) (K:PySem.W.Frag) (ty td:TE):TE:=fun σ H Q=>ty σ H fun y H1=>td σ H1 fun x H2=>Vz w K Q y x H2
theorem WX (hi:PE X i ty) (ho:PE X o td):PC X .In i o (ZS X.w X.K ty td):=by
 intro pins s σ H Q I h
 refine dG (hi pins s σ H _ I h) fun iv s1 ⟨y,H1,I1,ry,q1⟩=>dG (ho pins s1 σ H1 _ I1 q1) fun u s2 hpt=>?_
 obtain⟨x,H2,I2,rx,a,rows,z,ex,T,ey,q2⟩:=hpt
 subst ex
 subst ey
 obtain rfl:u=Value.ref a:=rx
 obtain⟨t,rfl⟩:=ry
 obtain⟨f,M,hs,hf⟩:=T.map (P:=X.prog) I2.kIn
 refine wpAny_in_of (k:=(Sum.inr z:Key)) (lG X.prog X.w z t) hs M ?_
 refine⟨.bl (rowOf rows z).isSome,H2,I2.tok _,?_,q2⟩
 cases e:rowOf rows z with
 | none=>rw [(hf z).1 e];rfl
 | some ns=>obtain⟨ad,e1,_⟩:=(hf z).2 ns e;rw [e1];rfl
inductive Vy (w:World) (K:PySem.W.Frag) (x:V) (y:V) (H:Hp) (Q:VK):Prop where
 | mk:∀a rows z ns,x=.ref a->KTab w K a rows->y=.str z->rowOf rows z=some ns->(∀ad,fu K H ad (ns.map V.int)->Q (.ref ad) H)->Vy w K x y H Q
noncomputable def Ym (w:World) (K:PySem.W.Frag):R2:=fun x y H Q=>Vy w K x y H Q
theorem ZW:Px X (Ym X.w X.K):=by
 intro value slice pins s σ H x y v u Q I rx ry h hs
 obtain⟨a,rows,z,ns,rfl,T,rfl,e,q⟩:=h
 cases rx
 obtain⟨t,rfl⟩:=ry
 obtain⟨f,M,hsm,hf⟩:=T.map (P:=X.prog) I.kIn
 obtain⟨ad,e1,e2⟩:=(hf z).2 ns e
 exact tail_any M.typeIs PySem.F.slot_dict_getitem.lookup (wpAny_getItem_of (k:=(Sum.inr z:Key)) (lG X.prog X.w z t) M e1 ⟨.ref ad,H,I.tok _,rfl,q ad (e2 H)⟩) hs
theorem Uv (ho:PE X o td) (hi:PE X i ty) (hs:MN i):PE X (.Subscript o i pos) (YM (Ym X.w X.K) td ty):=aV ZW ho hi hs
end
noncomputable def yt (K:PySem.W.Frag) (H:Hp) (a:Addr) (xs:List V):Prop:=bJ K H a xs∨fu K H a xs
theorem aM.seqT {K:PySem.W.Frag} {H H':Hp} {a:Addr} {xs:List V} (e:aM H H') (h:fu K H a xs):fu K H' a xs:=by
 rcases h with (h | ⟨o,h⟩) | h
 ·exact .inl (.inl (e _ _ h))
 ·exact .inl (.inr ⟨o,e _ _ h⟩)
 ·exact .inr h
theorem aM.seqA {K:PySem.W.Frag} {H H':Hp} {a:Addr} {xs:List V} (e:aM H H') (h:yt K H a xs):yt K H' a xs:=h.elim (fun h=>.inl (e.seq h)) fun h=>.inr (e.seqT h)
noncomputable def jK (p:Addr) (H H':Hp):Prop:=∀b o,b≠p->H b=some o->H' b=some o
theorem jK.refl {p:Addr} (H:Hp):jK p H H:=fun _ _ _ e=>e
theorem jK.trans {p:Addr} {H H1 H2:Hp} (a:jK p H H1) (b:jK p H1 H2):jK p H H2:=fun c o n e=>b c o n (a c o n e)
theorem jK.of_same {p:Addr} {H H1:Hp} (a:aM H H1):jK p H H1:=fun c o _ e=>a c o e
theorem jK.write {p:Addr} {H:Hp} {o:HO}:jK p H (upd H p o):=fun b u n e=>by rw [aK n];exact e
theorem jK.seqT {K:PySem.W.Frag} {H H':Hp} {p a C dx:Addr} {fs:List (Str×V)} {xs:List V} (e:jK p H H') (hp:H p=some (.ins C dx fs)) (h:fu K H a xs):fu K H' a xs:=by
 rcases h with (h | ⟨o,h⟩) | h
 ·exact .inl (.inl (e _ _ (qM h hp (by intro z;cases z)) h))
 ·exact .inl (.inr ⟨o,e _ _ (qM h hp (by intro z;cases z)) h⟩)
 ·exact .inr h
theorem jK.seqL {K:PySem.W.Frag} {H H':Hp} {p a C dx:Addr} {fs:List (Str×V)} {xs:List V} (e:jK p H H') (hp:H p=some (.ins C dx fs)) (h:bJ K H a xs):bJ K H' a xs:=by
 rcases h with (h | ⟨o,h⟩) | h
 ·exact .inl (.inl (e _ _ (qM h hp (by intro z;cases z)) h))
 ·exact .inl (.inr ⟨o,e _ _ (qM h hp (by intro z;cases z)) h⟩)
 ·exact .inr h
theorem jK.seqA {K:PySem.W.Frag} {H H':Hp} {p a C dx:Addr} {fs:List (Str×V)} {xs:List V} (e:jK p H H') (hp:H p=some (.ins C dx fs)) (h:yt K H a xs):yt K H' a xs:=h.elim (fun h=>.inl (e.seqL hp h)) fun h=>.inr (e.seqT hp h)
theorem QH {K:PySem.W.Frag} {H:Hp} {a:Addr} {xs:List V} {Q:VK} (h:yt K H a xs) (k:∀H' u,aM H H'->fu K H' u xs->Q (.ref u) H'):
  ∃p ys,[V.ref a]=[.ref p]/\((bJ K H p ys/\∀l,H l=none->Q (.ref l) (upd H l (.tup ys)))∨(fu K H p ys/\Q (.ref p) H)):=by
 rcases h with h | h
 ·exact⟨a,xs,rfl,.inl ⟨h,fun l hl=>k _ _ (aB hl) (fu.of aq)⟩⟩
 ·exact⟨a,xs,rfl,.inr ⟨h,k _ _ (aM.refl _) h⟩⟩
theorem uY {X:Cx}:oW X (.type "tuple") (fun xs H Q=>∃a ys,xs=[.ref a]/\yt X.K H a ys/\∀H' u,aM H H'->fu X.K H' u ys->Q (.ref u) H'):=by
 intro pins s σ H xs us Q I r h
 obtain⟨a,ys,rfl,hq,q⟩:=h
 exact Fe pins s σ H _ us Q I r (QH hq q)
section
variable {es:List Expr} {env:Env}
theorem b7 {a b c}:starEach (.Tuple a b c:: es) env=(false,eval (.Tuple a b c) env):: starEach es env:=rfl
theorem aU {a b}:starEach (.List a b:: es) env=(false,eval (.List a b) env):: starEach es env:=rfl
theorem ao {a b c}:starEach (.Constant a b c:: es) env=(false,eval (.Constant a b c) env):: starEach es env:=rfl
theorem aj {a b}:starEach (.Name a b:: es) env=(false,eval (.Name a b) env):: starEach es env:=rfl
theorem aZ {a b c d}:starEach (.Call a b c d:: es) env=(false,eval (.Call a b c d) env):: starEach es env:=rfl
theorem bT {a b c d}:starEach (.BinOp a b c d:: es) env=(false,eval (.BinOp a b c d) env):: starEach es env:=rfl
theorem bF {a b c}:starEach (.Attribute a b c:: es) env=(false,eval (.Attribute a b c) env):: starEach es env:=rfl
theorem aF {a b c}:starEach (.Subscript a b c:: es) env=(false,eval (.Subscript a b c) env):: starEach es env:=rfl
theorem gP {a b c d}:starEach (.ListComp a b c d:: es) env=(false,eval (.ListComp a b c d) env):: starEach es env:=rfl
theorem Ml {a b c d}:starEach (.IfExp a b c d:: es) env=(false,eval (.IfExp a b c d) env):: starEach es env:=rfl
end
section
variable {X:Cx} {scope:Scope} {x:Str} {js:List Nat} {cl:List (Str×Addr)} {C:Addr} {s:Shared} {H:Hp} {ex:List Addr}
end
noncomputable def iZ (H:Hp):List Addr->List (List V)->Prop:=Paired fun r vs=>H r=some (.tup vs)
theorem iZ.same {H H':Hp} (s:aM H H'):∀{rs:List Addr} {vss:List (List V)},iZ H rs vss->iZ H' rs vss
 | _,_,.nil=>.nil
 | _,_,.cons h t=>.cons (s _ _ h) (iZ.same s t)
theorem iZ.append {H:Hp}:∀{rs rs':List Addr} {vss vss':List (List V)},iZ H rs vss->iZ H rs' vss'->iZ H (rs ++ rs') (vss ++ vss')
 | _,_,_,_,.nil,q=>q
 | _,_,_,_,.cons h t,q=>.cons h (iZ.append t q)
section
variable {X:Cx}
end
noncomputable def WK (K:PySem.W.Frag) (a:Addr):It:=
 ⟨fun i H=>∃xs x,bJ K H a xs/\xs[i]?=some x,fun i H v H'=>∃u y,H u=none/\v=.ref u/\H'=upd H u (.tup [.int (i:Nat),y])/\∀xs,bJ K H a xs->xs[i]?=some y,fun i H=>∃xs,bJ K H a xs/\xs.length<=i⟩
theorem O5 {P:Program} {w:World} {K:PySem.W.Frag} {elts:List Expr} {x1:_} {tpos:Pos} (a e it:Addr) (hne:e≠it):
  Turn P w K (.Tuple elts x1 tpos) (WK K a) [e,it] e (fun i h=>(∃old,IsEnum h e it ((i:Nat):Int) old)/\h.IsListIter it a i) where
 mem:=by simp
 obj:=fun i h st b hb=>by
  obtain⟨⟨old,he⟩,hit⟩:=st
  have hb':b=e∨b=it:=by simpa using hb
  rcases hb' with z | z
  ·subst z
   exact⟨_,he,fun v z=>by cases z⟩
  ·subst z
   obtain⟨o,e1,c,d⟩:=hit
   exact⟨o,e1,fun v z=>by rw [d] at z;cases z⟩
 keep:=fun i h h' st k=>by
  obtain⟨⟨old,he⟩,hit⟩:=st
  exact⟨⟨old,k e (by simp) _ he⟩,hit.at fun o e1=>k it (by simp) o e1⟩
 item:=by
  intro X hP hw hK hc i pins s σ H E I hf st hg
  subst hP hw hK
  obtain⟨⟨old,he⟩,hit⟩:=st
  obtain⟨xs,x,hq,hx⟩:=hg
  obtain⟨its,rv,p,hz⟩:=I.list hq
  obtain⟨u,hu,ru⟩:=rv.get hx
  obtain⟨f0,f1,f2,f3,f4,f5⟩:=hf it (by simp)
  obtain⟨g0,g1,g2,g3,g4,g5⟩:=hf e (by simp)
  refine wpAny_pyNext_enum_item he hit p.isList (x:=u) (by simpa using hu) hne fun h1 heo hit1 ht1 hz1 hk1=>?_
  refine⟨_,rfl,wpAny_letOwnedTupleGo_enum heo fun h2 he2 hs2=>?_⟩
  have hs2':Heap.SameBut e h1 h2:=hs2
  have heS:e <s.heap.objs.size:=Heap.lt_size he
  have hnE:s.heap.objs.size≠e:=Nat.ne_of_gt heS
  have kp:∀b o,b≠e->b≠it->s.heap.get? b=some o->h2.get? b=some o:=fun b o n1 n2 q=>(hs2'.2 b n1).trans (hk1 b o n1 n2 q)
  have nn:∀b o,s.heap.get? b=some o->b≠s.heap.objs.size:=fun b o q=>Nat.ne_of_lt (Heap.lt_size q)
  have hfr:H s.heap.objs.size=none:=I.hok.fresh (Nat.le_refl _)
  have tupN:h2.get? s.heap.objs.size=some { cls:=.type "tuple",data:=.seq #[.int i s.toks,u] }:=(hs2'.2 _ hnE).trans ht1
  have tr:∀b o,H b=some o->b≠e/\b≠it:=fun b o q=>⟨fun z=>(by rw [z,g0] at q;cases q),fun z=>(by rw [z,f0] at q;cases q)⟩
  have ok2:uX X.prog X.w (upd H s.heap.objs.size (.tup [.int (i:Nat),x])) h2:=fun b o q=>by
   by_cases hb:b=s.heap.objs.size
   ·rw [hb,aq] at q
    cases q
    rw [hb]
    exact⟨by show 2<=sizeLine;decide,[.int i s.toks,u],.cons ⟨_,rfl⟩ (.cons ru .nil),⟨_,tupN,rfl,_,rfl⟩⟩
   ·rw [aK hb] at q
    refine(I.hok b o q).stay (fun c v hc q'=>?_) (fun c q'=>by rw [aK (aD q' hfr)];exact q') fun c ys q'=>by rw [aK (aD q' hfr)];exact q'
    rcases hc with z | z
    ·rw [z] at q' ⊢
     exact kp _ _ (tr _ _ q).1 (tr _ _ q).2 q'
    ·exact kp _ _ (tr _ _ z).1 (tr _ _ z).2 q'
  refine⟨.ref s.heap.objs.size,upd H s.heap.objs.size (.tup [.int (i:Nat),x]),?_,rfl,⟨_,x,hfr,rfl,rfl,fun ys hy=>by rw [I.list_inj hy hq];exact hx⟩,⟨⟨_,by simpa using he2⟩,hit1.at fun o e1=>(hs2'.2 _ (Ne.symm hne)).trans e1⟩,fun b hb=>?_⟩
  ·show Inv X pins σ (upd H s.heap.objs.size (.tup [.int (i:Nat),x])) { s with heap:=h2,gens:=s.gens,drawn:=s.drawn,toks:=s.toks+1 }
   refine I.step (g':=s.gens) (d':=s.drawn) (t':=s.toks+1) (ch:=[e,it]) (fun b hb=>?_) (fun b o _ _ hc q _=>kp b o (fun z=>hc (by simp [z])) (fun z=>hc (by simp [z])) q)
    (fun b o _ _ hc q _=>⟨o.slots,kp b o (fun z=>hc (by simp [z])) (fun z=>hc (by simp [z])) q⟩) (fun b o _ q n=>by rw [aK (nn b o q)];exact n)
    (fun b o hc q=>⟨o,kp b o (fun z=>hc (by simp [z])) (fun z=>hc (by simp [z])) q⟩) (fun b ys q=>by rw [aK (aD q hfr)];exact q) (fun b o ys q=>by rw [aK (aD q hfr)];exact q)
    (fun b ps q=>⟨#[],by rw [aK (aD q hfr),q];simp⟩) (fun m hm=>?_) ok2 I.bare
   ·have hb':b=e∨b=it:=by simpa using hb
    rcases hb' with z | z
    ·subst z;exact⟨g3,g1,g4,g5⟩
    ·subst z;exact⟨f3,f1,f4,f5⟩
   ·obtain⟨o,es,ep,ho,r⟩:=hm
    exact⟨o,es,ep,kp _ o (Ne.symm g1) (Ne.symm f1) ho,r⟩
  ·have hb':b=e∨b=it:=by simpa using hb
   rcases hb' with z | z
   ·subst z;rw [aK (Ne.symm hnE)];exact g0
   ·subst z
    obtain⟨o,e1,_⟩:=hit
    rw [aK (nn _ o e1)];exact f0
 done:=by
  intro X hP hw hK hc i pins s σ H E I hf st hg
  subst hP hw hK
  obtain⟨⟨old,he⟩,hit⟩:=st
  obtain⟨xs,hq,hx⟩:=hg
  obtain⟨its,rv,p,hz⟩:=I.list hq
  obtain⟨f0,f1,f2,f3,f4,f5⟩:=hf it (by simp)
  have hl:=rv.length
  exact wpAny_pyNext_enum_end (I.ok.hd hc) he hit p.isList (by simp;omega) fun h' eb=>⟨rfl,I.turned (t':=s.toks) (fun b o hb e=>eb b o hb e) f0 f1 f3 f4 f5⟩
 self:=fun _ _ _ _ _ st h=>by
  obtain⟨⟨old,he⟩,_⟩:=st
  exact wpAny_pyIter_enum he h
section
variable {X:Cx}
theorem Jc:bootBuiltins "enumerate" =some (.type "enumerate"):=by decide +kernel
inductive Rv (K:PySem.W.Frag) (R:It->Hp->Prop) (vs:List V) (H1:Hp):Prop where
 | mk:∀a,vs=[.ref a]->((∃xs,bJ K H1 a xs))->R (WK K a) H1->Rv K R vs H1
noncomputable def Ye (K:PySem.W.Frag) (ta:TA):TI:=fun σ H R=>ta σ H fun vs H1=>Rv K R vs H1
theorem Ua {l:Expr} {ta:TA} {p pos tpos:Pos} {elts:List Expr} {x1:_} (hg:Gl X "enumerate") (hm:X.mg "enumerate" =none) (ha:PA X [l] ta) (hs:starEach [l] X.env=[(false,eval l X.env)]:=by rfl):
  PI X (.Tuple elts x1 tpos) (.Call (.Name "enumerate" p) [l] [] pos) (Ye X.K ta):=by
 intro pins s σ H R I h
 refine Call_ (za I hg hm Jc (PyProof.Rows.callWith_type1 (dG (ha pos pins s σ H _ I h) fun us s1 ⟨vs,H1,I1,r1,q1⟩=>?_) hs rfl))
 obtain⟨a,e,⟨xs,hq⟩,q⟩:=q1
 subst e
 obtain⟨u,rfl,ru⟩:=vals1 r1
 cases ru
 obtain⟨its,rv,pl,hz⟩:=I1.list hq
 refine call_enumerate_list pl.isList fun h' he hit hz' kp=>wpAny_pyIter_enum he ?_
 have I2:Inv X pins σ H1 { s1 with heap:=h' }:=I1.kept (t':=s1.toks) kp
 refine⟨s1.heap.objs.size+1,[s1.heap.objs.size+1,s1.heap.objs.size],_,_,H1,rfl,I2,O5 a _ _ (Nat.ne_of_gt (Nat.lt_succ_self _)),⟨⟨_,he⟩,hit⟩,fun b hb=>?_,q⟩
 have hb':b=s1.heap.objs.size+1∨b=s1.heap.objs.size:=by simpa using hb
 rcases hb' with z | z <;> subst z
 ·exact I1.fpOk (Nat.le_succ _) (I1.hok.fresh (Nat.le_succ _))
 ·exact I1.fpOk (Nat.le_refl _) (I1.hok.fresh (Nat.le_refl _))
end
section
variable {P:Program} {w:World} {K:PySem.W.Frag} {mg:Str->Option Value} {base:Heap} {N:List Str} {qual:Str} {scope:Scope} {f:Addr} {cd:Value} {A:Around} {outer:List Env} {s:Shared} {H:Hp} {E:XK}
end
structure Qh (K:PySem.W.Frag) (C:Addr):Prop where
 ex:∃(nm q:Str) (Nn:Addr) (bs bm bmB:List Value) (hdct:Bool) (sn:List Str) (sub:List Value) (ab:Bool) (col:Option Bool) (dd:Option Addr) (k0 k1 k2 k3 k5:Option Value) (B newId initId:String) (mN:Str->Option Value),
  ExcBaseFacts B newId initId bmB/\bm.contains (.type "BaseException")=true/\mN "__init__" =none/\
  ∀h:Heap,K.In h->h.get? C=some (excClassObj nm q C Nn bs bm hdct sn sub ab col dd k0 k1 k2 k3 k5 newId)/\h.Ns Nn mN/\OwnTail h bmB bm
section
variable {P:Program} {w:World} {K:PySem.W.Frag} {mg:Str->Option Value} {base:Heap} {N:List Str} {qual:Str} {scope:Scope} {f:Addr} {cd:Value} {A:Around} {outer:List Env} {s:Shared} {H:Hp} {E:XK}
end
section
variable {X:Cx} {pins:List (Addr×Obj)} {σ:St} {H:Hp} {s:Shared} {E:Value->Shared->Prop}
end
section
variable {X:Cx} {pins:List (Addr×Obj)} {σ:St} {H:Hp} {s:Shared}
end
structure ExcAt (K:PySem.W.Frag) (C:Addr):Prop where
 ex:∃(nm q:Str) (Nn:Addr) (bs bm:List Value) (hdct:Bool) (sn:List Str) (sub:List Value) (ab:Bool) (col:Option Bool) (dd:Option Addr) (k0 k1 k2 k3 k5:Option Value) (newId:String),bm.contains (.type "BaseException")=true/\
  ∀h:Heap,K.In h->h.get? C=some (excClassObj nm q C Nn bs bm hdct sn sub ab col dd k0 k1 k2 k3 k5 newId)
section
variable {prog:Program} {w:World} {A:Around} {E:Value->Shared->Prop} {h:Heap} {g:Array GenState} {d:Drawn} {t:Nat} {os:OsState} {a:Addr} {o:Obj} {C:Addr}
end
noncomputable abbrev Ms:List Value:=[.type "ValueError",.type "Exception",.type "BaseException",.type "object"]
noncomputable def Pz (K:PySem.W.Frag) (N:Addr) (x:Str):Option Value:=match K.lookup N with
 | some o=>(match o.data with | .dict es _=>nsFind es x | _=>none)
 | none=>none
theorem QJ {K:PySem.W.Frag} {h:Heap} {N:Addr} (X:K.In h) (ok:PySem.W.nsOkIn K N=true):h.nsMap N=Pz K N:=by
 funext x
 unfold PySem.W.nsOkIn at ok
 split at ok
 ·rename_i look
  unfold Heap.nsMap Pz
  rw [X _ _ look,look]
 ·cases ok
theorem Rf {K:PySem.W.Frag} {N:Addr} {x:Str} (e:PySem.W.nsIn K N x=some none):Pz K N x=none:=by
 unfold PySem.W.nsIn at e
 split at e
 ·rename_i look
  split at e
  ·cases e
  ·rename_i f
   unfold Pz
   rw [look]
   show nsFind _ _=none
   unfold nsFind findBy
   rw [<-Array.find?_toList,f]
   rfl
 ·cases e
theorem Gp {K:PySem.W.Frag}:∀{l:List Value},PySem.W.tailIn K Ms l=true->l.contains (.type "BaseException")=true
 | [],e=>by simp [PySem.W.tailIn,Ms] at e
 | v:: r,e=>by
  unfold PySem.W.tailIn at e
  rcases Bool.or_eq_true_iff.mp e with z | z
  ·rw [beq_iff_eq.mp z];decide +kernel
  ·split at z
   ·split at z
    ·simp only [Bool.and_eq_true] at z
     rw [List.contains_cons,Gp z.2,Bool.or_true]
    ·cases z
   ·cases z
theorem Qh.ofIn {K:PySem.W.Frag} {C:Addr} (z:PySem.W.excIn K C Ms "ValueError.__new__" =true):Qh K C:=by
 unfold PySem.W.excIn at z
 split at z
 ·rename_i od kd slo look
  split at z
  ·rename_i C1 up a0 a1 a2 a3 nid a5 em es
   simp only [Bool.and_eq_true,beq_iff_eq,Bool.not_eq_true'] at z
   obtain⟨⟨⟨⟨⟨x1,x2⟩,x3⟩,x4⟩,x5⟩,x6⟩:=z
   subst x1 x2
   obtain⟨g1,g2,g3,g4,g5,g6,g7,g8,g9,g10,g11⟩:=kd
   dsimp only at em x3 x5 x6
   subst em x3
   have hs:slo= #[a0,a1,a2,a3,some (.builtin "ValueError.__new__"),a5]:=by
    obtain⟨l⟩:=slo
    simp only at es
    rw [es]
   subst hs
   refine⟨⟨g1,g5,g4,g2,up,Ms,g6,g7,g8,g9,g10,od,a0,a1,a2,a3,a5, "ValueError", "ValueError.__new__", "ValueError.__init__",Pz K g4,PySem.F.excBase_ValueError,Gp x4,Rf x6,fun h X=>⟨X _ _ look,?_,PySem.W.tail_of_in X x4⟩⟩⟩
   rw [<-QJ X x5]
   exact .of_isNs (PySem.W.isNs_of_in X x5)
  ·cases z
 ·cases z
structure ZZ (K:PySem.W.Frag) (C:Addr):Prop where
 cls:(PySem.W.clsIn K C).isSome=true
 ga:PySem.W.findIn K (.ref C) "__getattribute__" =some (some (.builtin "BaseException.__getattribute__"))
 gn:PySem.W.findIn K (.ref C) "__getattr__" =some none
 cl:PySem.W.findIn K (.ref C) "__class__" =some (some (.builtin "object.__class__"))
 ob:PySem.W.subIn K (.ref C) (.type "object")=some true
 be:PySem.W.subIn K (.ref C) (.type "BaseException")=some true
section
variable {P:Program} {w:World} {K:PySem.W.Frag} {mg:Str->Option Value} {base:Heap}
end
end L2
namespace L2
open PySem
section
variable {prog:Program} {w:World} {A:Around} {E:Value->Shared->Prop} {h:Heap} {g:Array GenState} {d:Drawn} {t:Nat} {os:OsState}
variable {nm q:Str} {C N:Addr} {bs bm bmB:List Value} {hdct:Bool} {sn:List Str} {sub:List Value} {ab:Bool} {col:Option Bool} {dd:Option Addr} {k0 k1 k2 k3 k5:Option Value} {B newId initId:String}
end
section
variable {prog:Program} {w:World} {A:Around} {E:Value->Shared->Prop} {h:Heap} {g:Array GenState} {d:Drawn} {t:Nat} {os:OsState}
variable {nm q:Str} {C N:Addr} {bs bm bmB:List Value} {hdct:Bool} {sn:List Str} {sub:List Value} {ab:Bool} {col:Option Bool} {dd:Option Addr} {k0 k1 k2 k3 k5:Option Value} {B newId initId:String}
end
end L2
namespace L2
open PySem Builtin Builtin.ObjectAttr
noncomputable def Hu:List Value->Bool
 | .ref _:: r=>Hu r
 | l=>l == Ms
structure Z9 (K:PySem.W.Frag) (C:Addr):Prop where
 xc:ZZ K C
 sa:PySem.W.findIn K (.ref C) "__setattr__" =some (some (.builtin "object.__setattr__"))
 ov:(PySem.W.clsIn K C).any (fun cd=>Hu cd.mro && cd.hasDict)=true
section
variable {prog:Program} {w:World} {A:Around} {E:Value->Shared->Prop} {h:Heap} {g:Array GenState} {d:Drawn} {t:Nat} {os:OsState} {x C:Addr} {K:PySem.W.Frag} {mA:Str->Option Value} {name:Str} {v:Value}
end
end L2
namespace L2
open PySem PySem.Spec PyProof.Rows
section
variable {X:Cx} {pins:List (Addr×Obj)} {σ:St} {H:Hp} {s:Shared} {a C dx:Addr} {fs:List (Str×V)} {f:Str} {v:V} {A:Around} {E:Value->Shared->Prop}
end
section
variable {X:Cx} {e o value:Expr} {f:Str} {pos pos':Pos} {ta tv:TE}
end
noncomputable def QM (K:PySem.W.Frag) (C f:Addr):Bool:=match K.lookup C with
 | some o=>(match o.data with
  | .cls kd=>o.cls == .type "type" && kd.mro.head? == some (.ref C) && PySem.W.tailIn K Ms kd.mro.tail && !kd.hasDel && PySem.W.nsOkIn K kd.ns && Pz K kd.ns "__init__" == some (.ref f) && o.slots.size == 6 && o.slots[4]? == some (some (.builtin "ValueError.__new__"))
  | _=>false)
 | none=>false
structure Cg (K:PySem.W.Frag) (C f:Addr):Prop where
 ex:∃(nm q:Str) (Nn:Addr) (bs bm:List Value) (hdct:Bool) (sn:List Str) (sub:List Value) (ab:Bool) (col:Option Bool) (dd:Option Addr) (k0 k1 k2 k3 k5:Option Value) (mN:Str->Option Value),
  mN "__init__" =some (.ref f)/\∀h:Heap,K.In h->h.get? C=some (excClassObj nm q C Nn bs bm hdct sn sub ab col dd k0 k1 k2 k3 k5 "ValueError.__new__")/\h.Ns Nn mN/\OwnTail h Ms bm
theorem Zi {α:Type}:∀{l:List α},l.length=6->∃a b c d e f,l=[a,b,c,d,e,f]
 | [a,b,c,d,e,f],_=>⟨a,b,c,d,e,f,rfl⟩
theorem Cg.ofIn {K:PySem.W.Frag} {C f:Addr} (z:QM K C f=true):Cg K C f:=by
 unfold QM at z
 split at z
 ·rename_i o look
  obtain⟨oc,od,dt,slo⟩:=o
  dsimp only at z
  split at z
  ·rename_i kd
   simp only [Bool.and_eq_true,beq_iff_eq,Bool.not_eq_true'] at z
   obtain⟨⟨⟨⟨⟨⟨⟨x1,x2⟩,x3⟩,x4⟩,x5⟩,x6⟩,x7⟩,x8⟩:=z
   subst x1
   obtain⟨g1,g2,g3,g4,g5,g6,g7,g8,g9,g10,g11⟩:=kd
   dsimp only at x2 x3 x4 x5 x6
   obtain⟨sl⟩:=slo
   obtain⟨a0,a1,a2,a3,a5,rfl⟩:∃a0 a1 a2 a3 a5,sl=[a0,a1,a2,a3,some (.builtin "ValueError.__new__"),a5]:=by
    obtain⟨a0,a1,a2,a3,a4,a5,rfl⟩:=Zi (show sl.length=6 from x7)
    have e:a4=some (.builtin "ValueError.__new__"):=Option.some.inj (show some a4=_ from x8)
    subst e
    exact⟨a0,a1,a2,a3,a5,rfl⟩
   obtain⟨up,rfl⟩:∃up,g3=.ref C:: up:=by
    cases g3 with
    | nil=>cases x2
    | cons v r=>cases (show some v=some (Value.ref C) from x2);exact⟨r,rfl⟩
   subst x4
   refine⟨⟨g1,g5,g4,g2,up,g6,g7,g8,g9,g10,od,a0,a1,a2,a3,a5,Pz K g4,x6,fun h X=>⟨X _ _ look,?_,PySem.W.tail_of_in X x3⟩⟩⟩
   rw [<-QJ X x5]
   exact .of_isNs (PySem.W.isNs_of_in X x5)
  ·cases z
 ·cases z
section
variable {X:Cx} {CX:FP} {k:Nat} {C B f:Addr} {fd:FuncData} {ps:List Str} {sp:Sp} {E:XK} {x:Str} {p pos apos:Pos} {e:Expr} {es:List Expr} {t:TA}
end
section
variable {X:Cx} {CX:FP} {k:Nat} {C f:Addr} {fd:FuncData} {ps:List Str} {sp:Sp} {E:XK} {x:Str} {p pos:Pos} {e:Expr} {es:List Expr} {t:TA}
end
section
variable {X:Cx} {C:Addr} {x:Str} {p pos:Pos} {e:Expr} {es:List Expr} {t:TA}
end
end L2
namespace L2
open PySem
noncomputable def Xk (K:PySem.W.Frag) (C:Addr):Bool:=(PySem.W.clsIn K C).isSome && PySem.W.findIn K (.ref C) "__getattribute__" == some (some (.builtin "BaseException.__getattribute__")) && PySem.W.findIn K (.ref C) "__getattr__" == some none &&
 PySem.W.findIn K (.ref C) "__class__" == some (some (.builtin "object.__class__")) && PySem.W.subIn K (.ref C) (.type "object") == some true && PySem.W.subIn K (.ref C) (.type "BaseException") == some true
theorem ZZ.ofIn {K:PySem.W.Frag} {C:Addr} (h:Xk K C=true):ZZ K C:=by
 simp only [Xk,Bool.and_eq_true,beq_iff_eq] at h
 obtain⟨⟨⟨⟨⟨a,b⟩,c⟩,d⟩,e⟩,f⟩:=h
 exact⟨a,b,c,d,e,f⟩
noncomputable def X6 (K:PySem.W.Frag) (C:Addr):Bool:=Xk K C && PySem.W.findIn K (.ref C) "__setattr__" == some (some (.builtin "object.__setattr__")) && (PySem.W.clsIn K C).any (fun cd=>Hu cd.mro && cd.hasDict)
theorem Z9.ofIn {K:PySem.W.Frag} {C:Addr} (h:X6 K C=true):Z9 K C:=by
 simp only [X6,Bool.and_eq_true,beq_iff_eq] at h
 obtain⟨⟨a,b⟩,c⟩:=h
 exact⟨.ofIn a,b,c⟩
end L2
namespace L2
open PySem PySem.Spec PyProof.Rows
section
variable {P:Program} {w:World} {K:PySem.W.Frag} {mg:Str->Option Value} {base:Heap} {N:List Str} {qual:Str} {scope:Scope} {f:Addr} {cd:Value} {A:Around} {outer:List Env} {s:Shared} {H:Hp} {E:XK}
end
section
variable {M:Model} {A:Around} {E:Value->Shared->Prop} {s:Shared} {env:Env} {nm q:Str} {C N:Addr} {bs bm:List Value} {hdct:Bool} {sn:List Str} {sub:List Value} {ab:Bool} {col:Option Bool} {dd:Option Addr} {k0 k1 k2 k3 k5:Option Value} {newId:String}
end
section
variable {P:Program} {w:World} {K:PySem.W.Frag} {mg:Str->Option Value} {base:Heap} {N:List Str} {qual:Str} {scope:Scope} {f:Addr} {cd:Value} {A:Around} {outer:List Env} {s:Shared} {H:Hp} {E:XK}
end
section
variable {M:Model} {A:Around} {E:Value->Shared->Prop} {nm q:Str} {C N:Addr} {bs bm:List Value} {hdct:Bool} {sn:List Str} {sub:List Value} {ab:Bool} {col:Option Bool} {dd:Option Addr} {k0 k1 k2 k3 k5:Option Value} {newId:String}
end
section
variable {P:Program} {w:World} {K:PySem.W.Frag} {mg:Str->Option Value} {base:Heap}
end
theorem Cg.at {K:PySem.W.Frag} {C f:Addr} (c:Cg K C f) {h:Heap} (X:K.In h):ExcAt K C:=by
 obtain⟨nm,q,Nn,bs,bm,hdct,sn,sub,ab,col,dd,k0,k1,k2,k3,k5,mN,_,hf⟩:=c.ex
 exact⟨⟨nm,q,Nn,bs,bm,hdct,sn,sub,ab,col,dd,k0,k1,k2,k3,k5,_,(hf h X).2.2.hasType (X:= "BaseException") (b:=true) (by decide +kernel),fun h X=>(hf h X).1⟩⟩
noncomputable def iOr (a b:TI):TI:=fun σ H R=>a σ H R∨b σ H R
theorem V4 {X:Cx} {tg it:Expr} {a b:TI} (h1:PI X tg it a) (h2:PI X tg it b):PI X tg it (iOr a b):=fun pins s σ H R I h=>h.elim (h1 pins s σ H R I) (h2 pins s σ H R I)
theorem JQ {js:List Nat} {tt:TT} {te:TE} {σ:St} {Qd:List V->Hp->Prop} {K:PySem.W.Frag} {a:Addr} {xs:List V} {H:Hp} (Pv:Nat->List V->Hp->Prop) (hn:xs.length<=sizeLine) (h0:Pv 0 [] H) (hl:∀i ys H,Pv i ys H->ys.length<=i) (hq:∀i ys H,i<=xs.length->Pv i ys H->fu K H a xs)
  (hs:∀i x ys H,xs[i]?=some x->Pv i ys H->tt (some x:: cY σ js) H fun b H4=>if b=true then te (some x:: cY σ js) H4 fun y H5=>Pv (i+1) (ys ++ [y]) H5 else Pv (i+1) ys H4)
  (hd:∀ys H,Pv xs.length ys H->Qd ys H):CompEnd js tt te σ Qd (Xp K a) H:=by
 refine⟨fun i m ys H=>m=xs.length - i/\i<=xs.length/\Pv i ys H,⟨xs.length,by simp,Nat.zero_le _,h0⟩,?_⟩
 rintro i m ys H ⟨rfl,hi,p⟩
 have hlen:=hl i ys H p
 have q:=hq i ys H hi p
 by_cases hlt:i <xs.length
 ·refine .inr ⟨⟨xs,xs[i],q,by simp [hlt]⟩,by omega,Pv (i+1),fun ys' H' p'=>⟨xs.length - (i+1),by omega,rfl,hlt,p'⟩,fun x H' y=>?_⟩
  obtain⟨e,y⟩:=y
  subst e
  exact hs i x ys _ (y xs q) p
 ·have e:i=xs.length:=by omega
  subst e
  exact .inl ⟨⟨xs,q,Nat.le_refl _⟩,by omega,hd ys H p⟩
theorem Ql {js:List Nat} {tt:TT} {te:TE} {σ σ0:St} {Qd:List V->Hp->Prop} {K:PySem.W.Frag} {a:Addr} {xs:List V} {H:Hp} {tl:TE} (ht:∀R:V->Hp->Prop,R (.ref a) H->tl σ0 H R) (ha:yt K H a xs) (Pv:Nat->List V->Prop) (hn:xs.length<=sizeLine) (h0:Pv 0 []) (hl:∀i ys,Pv i ys->ys.length<=i)
  (hs:∀i x ys,xs[i]?=some x->Pv i ys->tt (some x:: cY σ js) H fun b H4=>if b=true then te (some x:: cY σ js) H4 fun y H5=>H5=H/\Pv (i+1) (ys ++ [y]) else H4=H/\Pv (i+1) ys)
  (hd:∀ys,Pv xs.length ys->Qd ys H):iOr (Sw K tl) (Yy K tl) σ0 H (CompEnd js tt te σ Qd):=by
 rcases ha with ha | ha
 ·refine .inl (ht _ ⟨a,rfl,⟨xs,ha⟩,dC (K:=K) (a:=a) (xs:=xs) (fun i ys H'=>H'=H/\Pv i ys) hn ⟨rfl,h0⟩ (fun i ys _ z=>hl i ys z.2) (fun i ys H' _ z=>by rw [z.1];exact ha) (fun i x ys H' hx z=>?_) fun ys H' z=>?_⟩)
  ·obtain⟨rfl,z⟩:=z;exact hs i x ys hx z
  ·obtain⟨rfl,z⟩:=z;exact hd ys z
 ·refine .inr (ht _ ⟨a,rfl,⟨xs,ha⟩,JQ (K:=K) (a:=a) (xs:=xs) (fun i ys H'=>H'=H/\Pv i ys) hn ⟨rfl,h0⟩ (fun i ys _ z=>hl i ys z.2) (fun i ys H' _ z=>by rw [z.1];exact ha) (fun i x ys H' hx z=>?_) fun ys H' z=>?_⟩)
  ·obtain⟨rfl,z⟩:=z;exact hs i x ys hx z
  ·obtain⟨rfl,z⟩:=z;exact hd ys z
theorem yt.len {K:PySem.W.Frag} {H:Hp} {a:Addr} {xs:List V} (h:yt K H a xs):YG K (.ref a) H xs.length:=h.elim (fun h=>.inl ⟨xs,h,rfl⟩) fun h=>.inr ⟨xs,h,rfl⟩
theorem Q8 {X:Cx} {K:PySem.W.Frag} (hK:X.K=K):Px X (WM K):=by subst hK;exact aX
theorem m5 {X:Cx} {K:PySem.W.Frag} (hK:X.K=K):Px X (Xd K):=by subst hK;exact cP
section
variable {P:Program} {w:World} {K:PySem.W.Frag} {mg:Str->Option Value} {base:Heap} {N:List Str} {qual:Str} {scope:Scope} {f:Addr} {cd:Value} {A:Around} {outer:List Env} {s:Shared} {H:Hp} {E:XK}
end
section
variable {κ:Type} [DecidableEq κ]
noncomputable def bZ (kvs:List (κ×V)) (k:κ):Option V:=(kvs.find? fun kv=>decide (kv.1=k)).map (·.2)
noncomputable def putK (kvs:List (κ×V)) (k:κ) (v:V):List (κ×V):=
 if (kvs.any fun kv=>decide (kv.1=k))=true then kvs.map (fun kv=>if kv.1=k then(kv.1,v) else kv) else kvs ++ [(k,v)]
theorem f9 {p:κ×V} {r:List (κ×V)} {k:κ} (e:p.1=k):bZ (p:: r) k=some p.2:=by simp [bZ,List.find?_cons,e]
theorem fG {p:κ×V} {r:List (κ×V)} {k:κ} (e:¬p.1=k):bZ (p:: r) k=bZ r k:=by simp [bZ,List.find?_cons,e]
theorem qG (k:κ):∀kvs:List (κ×V),(kvs.any fun kv=>decide (kv.1=k))=(bZ kvs k).isSome
 | []=>rfl
 | p:: r=>by
  rw [List.any_cons]
  by_cases e:p.1=k
  ·simp only [f9 e,decide_eq_true e,Bool.true_or,Option.isSome_some]
  ·rw [fG e,decide_eq_false e,Bool.false_or];exact qG k r
theorem Jz (k j:κ) (y:V):∀kvs:List (κ×V),bZ (kvs.map fun kv=>if kv.1=k then(kv.1,y) else kv) j=(bZ kvs j).map fun x=>if j=k then y else x
 | []=>rfl
 | p:: r=>by
  have ih:=Jz k j y r
  rw [List.map_cons]
  by_cases h:p.1=k
  ·rw [if_pos h]
   by_cases e:p.1=j
   ·rw [f9 (p:=(p.1,y)) e,f9 e,Option.map_some,if_pos (e.symm.trans h)]
   ·rw [fG (p:=(p.1,y)) e,fG e,ih]
  ·rw [if_neg h]
   by_cases e:p.1=j
   ·rw [f9 (p:=p) e,f9 e,Option.map_some,if_neg (fun z=>h (e.trans z))]
   ·rw [fG (p:=p) e,fG e,ih]
theorem Gz (k j:κ) (y:V):∀kvs:List (κ×V),bZ kvs k=none->bZ (kvs ++ [(k,y)]) j=if j=k then some y else bZ kvs j
 | [],_=>by
  by_cases e:k=j
  ·rw [if_pos e.symm];exact f9 (p:=(k,y)) e
  ·rw [if_neg (fun z=>e z.symm)];exact fG (p:=(k,y)) e
 | p:: r,hn=>by
  rw [List.cons_append]
  have hk:¬p.1=k:=fun z=>by rw [f9 z] at hn;cases hn
  rw [fG hk] at hn
  have ih:=Gz k j y r hn
  by_cases e:p.1=j
  ·rw [f9 e,f9 e,if_neg (fun z=>hk (e.trans z))]
  ·rw [fG e,fG e,ih]
theorem SM (kvs:List (κ×V)) (k j:κ) (y:V):bZ (putK kvs k y) j=if j=k then some y else bZ kvs j:=by
 unfold putK
 by_cases a:(kvs.any fun kv=>decide (kv.1=k))=true
 ·rw [if_pos a,Jz]
  rw [qG] at a
  by_cases e:j=k
  ·obtain⟨x,hx⟩:=Option.isSome_iff_exists.mp a
   rw [if_pos e,e,hx,Option.map_some,if_pos rfl]
  ·rw [if_neg e]
   cases bZ kvs j with
   | none=>rfl
   | some x=>rw [Option.map_some,if_neg e]
 ·rw [if_neg a]
  refine Gz k j y kvs ?_
  rw [qG] at a
  cases q:bZ kvs k with
  | none=>rfl
  | some x=>rw [q] at a;exact(a rfl).elim
theorem lz (kvs:List (κ×V)) (k:κ) (v:V):(putK kvs k v).length<=kvs.length+1:=by
 unfold putK
 split
 ·rw [List.length_map];omega
 ·rw [List.length_append,List.length_cons,List.length_nil];omega
theorem lg {kvs:List (κ×V)} {k:κ} (v:V) (h:bZ kvs k=none):putK kvs k v=kvs ++ [(k,v)]:=by
 unfold putK
 rw [qG,h]
 exact if_neg (by decide)
theorem sV.isSome_eq {o:Option V} {u:Option Value} (r:sV o u):o.isSome=u.isSome:=by
 cases o with
 | none=>cases u with
  | none=>rfl
  | some _=>exact(show False from r).elim
 | some _=>cases u with
  | none=>exact(show False from r).elim
  | some _=>rfl
theorem sV.getD {o:Option V} {u:Option Value} {d:V} {d':Value} (r:sV o u) (rd:RelV d d'):RelV (o.getD d) (u.getD d'):=by
 cases o with
 | none=>cases u with
  | none=>exact rd
  | some _=>exact(show False from r).elim
 | some _=>cases u with
  | none=>exact(show False from r).elim
  | some _=>exact r
theorem KV.val {kvs:List (κ×V)} {vs:List (κ×Value)} (r:KV kvs vs) (k:κ):sV (bZ kvs k) (valueAt vs k):=by
 unfold KV at r
 induction r with
 | nil=>exact True.intro
 | @cons p q ps qs h t ih=>
  obtain⟨h1,h2⟩:=h
  by_cases e:p.1=k
  ·have e':q.1=k:=h1.symm.trans e
   have b:valueAt (q:: qs) k=some q.2:=by simp [valueAt,List.find?_cons,e']
   rw [f9 e,b];exact h2
  ·have e':¬q.1=k:=fun z=>e (h1.trans z)
   have b:valueAt (q:: qs) k=valueAt qs k:=by simp [valueAt,List.find?_cons,e']
   rw [fG e,b];exact ih
theorem KV.any {kvs:List (κ×V)} {vs:List (κ×Value)} (r:KV kvs vs) (k:κ):(kvs.any fun kv=>decide (kv.1=k))=vs.any fun kv=>decide (kv.1=k):=by
 unfold KV at r
 induction r with
 | nil=>rfl
 | cons h t ih=>rw [List.any_cons,List.any_cons,ih,h.1]
theorem KV.repl {kvs:List (κ×V)} {vs:List (κ×Value)} (r:KV kvs vs) (k:κ) {y:V} {u:Value} (ry:RelV y u):
  KV (kvs.map fun kv=>if kv.1=k then(kv.1,y) else kv) (vs.map fun kv=>if kv.1=k then(kv.1,u) else kv):=by
 unfold KV at r ⊢
 induction r with
 | nil=>exact .nil
 | @cons p q ps qs h t ih=>
  rw [List.map_cons,List.map_cons]
  refine .cons ?_ ih
  obtain⟨h1,h2⟩:=h
  by_cases e:p.1=k
  ·rw [if_pos e,if_pos (h1.symm.trans e)];exact⟨h1,ry⟩
  ·rw [if_neg e,if_neg (fun z=>e (h1.trans z))];exact⟨h1,h2⟩
theorem KV.put {kvs:List (κ×V)} {vs:List (κ×Value)} (r:KV kvs vs) (k:κ) {y:V} {u:Value} (ry:RelV y u):KV (putK kvs k y) (stored vs k u):=by
 unfold putK stored
 rw [r.any k]
 by_cases e:(vs.any fun kv=>decide (kv.1=k))=true
 ·rw [if_pos e,if_pos e];exact r.repl k ry
 ·rw [if_neg e,if_neg e];exact Paired.snoc r ⟨rfl,ry⟩
theorem KV.length {kvs:List (κ×V)} {vs:List (κ×Value)} (r:KV kvs vs):kvs.length=vs.length:=Paired.length r
end
theorem Em {P:Program} {w:World} {k:Key} {u:Value} (r:RelV (kV k) u):(cJ P w).is k u=true:=by
 cases k with
 | inl i=>obtain⟨t,e⟩:=(show ∃t,u=Value.int i t from r);subst e;exact Jw P w i t
 | inr x=>obtain⟨t,e⟩:=(show ∃t,u=Value.str x t from r);subst e;exact lG P w x t
theorem Fv {P:Program} {w:World}:∀{ks:List Key} {us:List Value},Vals (ks.map kV) us->ItemsAre (cJ P w) ks us
 | [],_,r=>by rw [List.map_nil] at r;cases r;exact .nil
 | k:: ks,_,r=>by
  rw [List.map_cons] at r
  cases r with
  | cons h t=>exact .cons (Em h) (Fv t)
noncomputable abbrev KT (H:Hp):List (List Key×V)->List (List Key×Addr×Value)->Prop:=Paired fun p q=>p.1=q.1/\H q.2.1=some (.tup (p.1.map kV))/\RelV p.2 q.2.2
theorem KT.val {H:Hp} {kvs:List (List Key×V)} {xs:List (List Key×Addr×Value)} (r:KT H kvs xs) (k:List Key):sV (bZ kvs k) ((atKey xs k).map (·.2)):=by
 induction r with
 | nil=>exact True.intro
 | @cons p q ps qs h t ih=>
  obtain⟨h1,_,h2⟩:=h
  by_cases e:p.1=k
  ·have e':q.1=k:=h1.symm.trans e
   have b:atKey (q:: qs) k=some q.2:=by simp [atKey,List.find?_cons,e']
   rw [f9 e,b];exact h2
  ·have e':¬q.1=k:=fun z=>e (h1.trans z)
   have b:atKey (q:: qs) k=atKey qs k:=by simp [atKey,List.find?_cons,e']
   rw [fG e,b];exact ih
theorem KT.repl {H:Hp} {kvs:List (List Key×V)} {xs:List (List Key×Addr×Value)} (r:KT H kvs xs) (k:List Key) {y:V} {u:Value} (ry:RelV y u):
  KT H (kvs.map fun kv=>if kv.1=k then(kv.1,y) else kv) (xs.map (putAt k u)):=by
 induction r with
 | nil=>exact .nil
 | @cons p q ps qs h t ih=>
  rw [List.map_cons,List.map_cons]
  refine .cons ?_ ih
  obtain⟨h1,h2,h3⟩:=h
  unfold putAt
  by_cases e:p.1=k
  ·rw [if_pos e,if_pos (h1.symm.trans e)];exact⟨h1,h2,ry⟩
  ·rw [if_neg e,if_neg (fun z=>e (h1.trans z))];exact⟨h1,h2,h3⟩
theorem KT.put {H:Hp} {kvs:List (List Key×V)} {xs:List (List Key×Addr×Value)} (r:KT H kvs xs) (k:List Key) {b:Addr} {y:V} {u:Value} (hb:H b=some (.tup (k.map kV))) (ry:RelV y u):
  KT H (putK kvs k y) (storedH xs k b u):=by
 have e:(kvs.any fun kv=>decide (kv.1=k))=(atKey xs k).isSome:=by
  rw [qG,(r.val k).isSome_eq,Option.isSome_map]
 unfold putK storedH
 rw [e]
 by_cases q:(atKey xs k).isSome=true
 ·rw [if_pos q,if_pos q];exact r.repl k ry
 ·rw [if_neg q,if_neg q];exact Paired.snoc r ⟨rfl,hb,ry⟩
theorem KT.keeps {H H':Hp} {kvs:List (List Key×V)} {xs:List (List Key×Addr×Value)} (r:KT H kvs xs) (ht:∀b ys,H b=some (.tup ys)->H' b=some (.tup ys)):KT H' kvs xs:=
 Paired.mapP r fun _ _ z=>⟨z.1,ht _ _ z.2.1,z.2.2⟩
section
variable {P:Program} {w:World} {H:Hp} {h:Heap} {a:Addr}
theorem VP {u:HO} (ok:uX P w H h) (e:Rd H a u):fP P w H h a u:=e.ok ok
theorem Aq {kvs:List (Key×V)} (ok:uX P w H h) (e:Rd H a (.dK kvs)):kvs.length<=sizeLine/\(a == sysModules)=false/\∃vs,KV kvs vs/\h.DictOf (cJ P w) a vs:=
 show fP P w H h a (.dK kvs) from VP ok e
theorem Vj {kvs:List (Key×V)} (ok:uX P w H h) (e:H a=some (.dK kvs)):kvs.length<=sizeLine/\(a == sysModules)=false/\∃vs,KV kvs vs/\h.DictOf (cJ P w) a vs:=Aq ok (.inl e)
theorem zB {ks:List Key} (ok:uX P w H h) (e:H a=some (.tup (ks.map kV))):(tupleKind (cJ P w)).is h ks a:=by
 obtain⟨_,its,r,o,h1,h2,n,h3⟩:=(show fP P w H h a (.tup (ks.map kV)) from ok a _ e)
 exact⟨o,its.toArray,n,h1,h2,h3,by simpa using Fv r⟩
theorem Ea {kvs:List (List Key×V)} (ok:uX P w H h) (e:Rd H a (.dT kvs)):kvs.length<=sizeLine/\(a == sysModules)=false/\
  ∃xs,KT H kvs xs/\h.DictOfH (tupleKind (cJ P w)) a xs:=by
 obtain⟨z,y,xs,r,o,es,ep,h1,h2,h3,h4,h5⟩:=(show fP P w H h a (.dT kvs) from VP ok e)
 refine⟨z,y,xs,r,o,es,ep,h1,h2,h3,h4,fun x hx=>?_,h5⟩
 have all:∀{l:List (List Key×V)} {m:List (List Key×Addr×Value)},KT H l m->∀x∈m,(tupleKind (cJ P w)).is h x.1 x.2.1:=by
  intro l m q
  induction q with
  | nil=>intro x hx;exact nomatch hx
  | @cons p q ps qs hq t ih=>
   intro x hx
   rcases List.mem_cons.mp hx with e | hx
   ·subst e
    exact zB ok (by rw [<-hq.1];exact hq.2.1)
   ·exact ih x hx
 exact all r x hx
theorem Yc {kvs:List (List Key×V)} (ok:uX P w H h) (e:H a=some (.dT kvs)):kvs.length<=sizeLine/\(a == sysModules)=false/\
  ∃xs,KT H kvs xs/\h.DictOfH (tupleKind (cJ P w)) a xs:=Ea ok (.inl e)
end
noncomputable def dZ (H:Hp) (a:Addr) (y:V) (r:Option V):Prop:=
 (∃kvs k,Rd H a (.dK kvs)/\y=kV k/\r=bZ kvs k)∨∃kvs k b,Rd H a (.dT kvs)/\y=.ref b/\H b=some (.tup (k.map kV))/\r=bZ kvs k
noncomputable def pq (H:Hp) (a:Addr) (y v:V) (H':Hp):Prop:=
 (∃kvs k,H a=some (.dK kvs)/\y=kV k/\kvs.length <sizeLine/\H'=upd H a (.dK (putK kvs k v)))∨
 ∃kvs k b,H a=some (.dT kvs)/\y=.ref b/\H b=some (.tup (k.map kV))/\kvs.length <sizeLine/\H'=upd H a (.dT (putK kvs k v))
theorem dZ.k {H:Hp} {a:Addr} {kvs:List (Key×V)} {k:Key} (e:H a=some (.dK kvs)):dZ H a (kV k) (bZ kvs k):=.inl ⟨kvs,k,.inl e,rfl,rfl⟩
theorem pq.k {H:Hp} {a:Addr} {kvs:List (Key×V)} {k:Key} {v:V} (e:H a=some (.dK kvs)) (hl:kvs.length <sizeLine):pq H a (kV k) v (upd H a (.dK (putK kvs k v))):=.inl ⟨kvs,k,e,rfl,hl,rfl⟩
section
variable {X:Cx} {pins:List (Addr×Obj)} {σ:St} {H:Hp} {s:Shared} {a:Addr} {y v:V} {u r:Value} {o:Option V} {A:Around} {E:Value->Shared->Prop}
theorem Inv.big (I:Inv X pins σ H s):sysModules <s.heap.objs.size:=by
 have h:mainGlobals <s.heap.objs.size:=(I.mod.glob.keeps I.bk).lt
 exact Nat.lt_trans (by decide) h
theorem Fw {Q:Value->Shared->Prop} (hu:A.units+1 <cLine) (I:Inv X pins σ H s) (g:dZ H a y (some v)) (ry:RelV y u) (h:∀w' s',Inv X pins σ H s'->RelV v w'->Q w' s'):
  wpAny (model X.prog X.w) A (getItem (.ref a) u) Q E s:=by
 rcases g with ⟨kvs,k,e,ey,l⟩ | ⟨kvs,k,b,e,ey,eb,l⟩
 ·subst ey
  obtain⟨z,hd,vs,rel,dd⟩:=Aq I.hok e
  obtain⟨w',hw,rw'⟩:=sV.some_of (v:=v) (o:=valueAt vs k) (by rw [l];exact rel.val k)
  exact wpAny_getItem_of (Em ry) dd.mapOf hw (h w' _ (I.tok _) rw')
 ·subst ey
  cases (show u=Value.ref b from ry)
  obtain⟨z,hd,xs,rel,dd⟩:=Ea I.hok e
  obtain⟨w',hw,rw'⟩:=sV.some_of (v:=v) (o:=(atKey xs k).map (·.2)) (by rw [l];exact rel.val k)
  obtain⟨p,hp,hp2⟩:=Option.map_eq_some_iff.mp hw
  refine wpAny_getItem_heap (tupleKind_room_in1 hu) (zB I.hok eb) dd hp ?_
  rw [hp2]
  exact h w' _ (I.tok _) rw'
theorem ZR {Q:Value->Shared->Prop} (hu:A.units+1 <cLine) (I:Inv X pins σ H s) (g:dZ H a y o) (ry:RelV y u) (h:∀s',Inv X pins σ H s'->Q (.bool o.isSome) s'):
  wpAny (model X.prog X.w) A (compareOp .In u (.ref a)) Q E s:=by
 rcases g with ⟨kvs,k,e,ey,l⟩ | ⟨kvs,k,b,e,ey,eb,l⟩
 ·subst ey
  obtain⟨z,hd,vs,rel,dd⟩:=Aq I.hok e
  refine wpAny_in_of (Em ry) hd dd.mapOf ?_
  rw [<-(rel.val k).isSome_eq,<-l]
  exact h _ (I.tok _)
 ·subst ey
  cases (show u=Value.ref b from ry)
  obtain⟨z,hd,xs,rel,dd⟩:=Ea I.hok e
  refine wpAny_in_heap (tupleKind_room_in1 hu) (zB I.hok eb) hd dd ?_
  have q:=(rel.val k).isSome_eq
  rw [Option.isSome_map] at q
  rw [<-q,<-l]
  exact h _ (I.tok _)
theorem U9 {Q:Value->Shared->Prop} (hu:A.units+1 <cLine) (I:Inv X pins σ H s) (g:dZ H a y o) (ry:RelV y u) (h:∀s',Inv X pins σ H s'->Q (.bool (!o.isSome)) s'):
  wpAny (model X.prog X.w) A (compareOp .NotIn u (.ref a)) Q E s:=by
 rcases g with ⟨kvs,k,e,ey,l⟩ | ⟨kvs,k,b,e,ey,eb,l⟩
 ·subst ey
  obtain⟨z,hd,vs,rel,dd⟩:=Aq I.hok e
  refine wpAny_notIn_of (Em ry) hd dd.mapOf ?_
  rw [<-(rel.val k).isSome_eq,<-l]
  exact h _ (I.tok _)
 ·subst ey
  cases (show u=Value.ref b from ry)
  obtain⟨z,hd,xs,rel,dd⟩:=Ea I.hok e
  refine wpAny_notIn_heap (tupleKind_room_in1 hu) (zB I.hok eb) hd dd ?_
  have q:=(rel.val k).isSome_eq
  rw [Option.isSome_map] at q
  rw [<-q,<-l]
  exact h _ (I.tok _)
theorem Ig {h':Heap} {t':Nat} {ob:HO} (I:Inv X pins σ H s) (mu:Yp (H a)) (hs:Heap.SameBut a s.heap h') (he:∃q,h'.get? a=some q) (new:fP X.prog X.w (upd H a ob) h' a ob):
  Inv X pins σ (upd H a ob) { s with heap:=h',toks:=t' }:=
 I.write (x:=a) (e:=a) mu (.inl rfl) (fun b q hb z=>(hs.2 b hb).trans z) he new
theorem Rm {P:Program} {w:World} {H':Hp} {h':Heap} {kvs:List (Key×V)} {vs:List (Key×Value)} (z:kvs.length<=sizeLine) (hd:(a == sysModules)=false) (rel:KV kvs vs) (dd:h'.DictOf (cJ P w) a vs):
  fP P w H' h' a (.dK kvs):=⟨z,hd,vs,rel,dd⟩
theorem FT {H':Hp} {Q:Unit->Shared->Prop} (hu:A.units+1 <cLine) (I:Inv X pins σ H s) (g:pq H a y v H') (ry:RelV y u) (rv:RelV v r) (h:∀s',Inv X pins σ H' s'->Q () s'):
  wpAny (model X.prog X.w) A (setItem (.ref a) u r) Q E s:=by
 rcases g with ⟨kvs,k,e,ey,l,eH⟩ | ⟨kvs,k,b,e,ey,eb,l,eH⟩
 ·subst ey eH
  obtain⟨z,hd,vs,rel,dd⟩:=Vj I.hok e
  have hz:vs.length<=sizeLine:=by rw [<-rel.length];exact z
  have hl:(putK kvs k v).length<=sizeLine:=by have:=lz kvs k v;omega
  refine wpAny_setItem_pairs (hsz:=hz) (Em ry) dd fun h' dd' hs=>h _ ?_
  have he:∃q,h'.get? a=some q:=let ⟨q,_,_,hq,_⟩:=dd';⟨q,hq⟩
  exact Ig I (by rw [e];exact True.intro) hs he (Rm hl hd (rel.put k rv) dd')
 ·subst ey eH
  cases (show u=Value.ref b from ry)
  obtain⟨z,hd,xs,rel,dd⟩:=Yc I.hok e
  have hz:xs.length<=sizeLine:=by rw [<-Paired.length rel];exact z
  have hl:(putK kvs k v).length<=sizeLine:=by have:=lz kvs k v;omega
  refine wpAny_setItem_heap (hsz:=hz) (tupleKind_room_in1 hu) (zB I.hok eb) dd fun h' dd' hs=>h _ ?_
  obtain⟨q,es,ep,hq,h2,h3,h4,_,h5⟩:=dd'
  refine Ig I (by rw [e];exact True.intro) hs ⟨q,hq⟩ ⟨hl,hd,_,(rel.put k eb rv).keeps fun c ys ec=>?_,q,es,ep,hq,h2,h3,h4,h5⟩
  rw [aK (qM ec e (fun z=>nomatch z))]
  exact ec
end
section
variable {X:Cx} {pins:List (Addr×Obj)} {σ:St} {H:Hp} {s:Shared} {a:Addr} {kvs:List (Key×V)} {k:Key} {u:Value} {A:Around} {E:Value->Shared->Prop}
end
noncomputable def Y4 (i:Expr):Prop:=∀ov iv,subscripted i false ov iv=operate [ov,iv] (getItem ov iv)
theorem Uu {prog:Program} {w:World} {A:Around} {E:Value->Shared->Prop} {s:Shared} {env:Env} {value slice:Expr} {pos:Pos} {T id:String} {Q:Value->Shared->Prop}
  (hl:typeLookup (.type T) "__getitem__" =pure (some (.builtin id))) (hs:Y4 slice)
  (h:wpAny (model prog w) A (eval value env) (fun o s₁=>wpAny (model prog w) A (eval slice env) (fun i s₂=>s₂.TypeIs o T/\wpAny (model prog w) A (getItem o i) Q E s₂) E s₁) E s):
  wpAny (model prog w) A (eval (.Subscript value slice pos) env) Q E s:=by
 refine Subscript_ (wpAny_mono h (fun o s₁ h₁=>wpAny_mono h₁ (fun i s₂ h₂=>?_) fun _ _ x=>x) fun _ _ x=>x)
 obtain⟨hT,h₂⟩:=h₂
 unfold subscriptTail
 refine wpAny_bind ?_
 rw [getitemInPython_of_ne hT.not_modules]
 refine wpAny_bind (wpAny_specialOf hT hl ?_)
 have fin:wpAny (model prog w) A (subscripted slice false o i) (fun r s₃=>wpAny (model prog w) A (letTemporaryGo value o r >>= fun _=>pure r) Q E s₃) E s₂:=by
  rw [hs o i]
  exact wpAny_operating (wpAny_mono h₂ (fun r s₃ h₃=>wpAny_bind (wpAny_letTemporaryGo (wpAny_pure h₃))) fun _ _ x=>x)
 first
  | exact wpAny_pure (wpAny_bind fin)
  | exact wpAny_bind (wpAny_pure (wpAny_bind fin))
  | exact wpAny_bind fin
theorem JD {X:Cx} {pins:List (Addr×Obj)} {σ:St} {H:Hp} {s:Shared} {a:Addr} {y:V} {o:Option V} (I:Inv X pins σ H s) (g:dZ H a y o):s.TypeIs (.ref a) "dict" :=by
 rcases g with ⟨kvs,k,e,_,_⟩ | ⟨kvs,k,b,e,_,_,_⟩
 ·obtain⟨_,_,vs,_,dd⟩:=Aq I.hok e
  exact dd.typeIs
 ·obtain⟨_,_,xs,_,dd⟩:=Ea I.hok e
  exact dd.typeIs
inductive R4 (Q:VK) (x:V) (y:V) (H2:Hp):Prop where
 | mk:∀a v,x=.ref a->dZ H2 a y (some v)->Q v H2->R4 Q x y H2
noncomputable def YW (td ty:TE):TE:=fun σ H Q=>td σ H fun x H1=>ty σ H1 fun y H2=>R4 Q x y H2
inductive V7 (Q:VK) (y:V) (x:V) (H2:Hp):Prop where
 | mk:∀a o,x=.ref a->dZ H2 a y o->Q (.bl o.isSome) H2->V7 Q y x H2
noncomputable def ZG (ty td:TE):TE:=fun σ H Q=>ty σ H fun y H1=>td σ H1 fun x H2=>V7 Q y x H2
inductive Kf (Q:VK) (y:V) (x:V) (H2:Hp):Prop where
 | mk:∀a o,x=.ref a->dZ H2 a y o->Q (.bl (!o.isSome)) H2->Kf Q y x H2
noncomputable def Uz (ty td:TE):TE:=fun σ H Q=>ty σ H fun y H1=>td σ H1 fun x H2=>Kf Q y x H2
inductive S5 (D:Ends) (σ:St) (v:V) (x:V) (y:V) (H3:Hp):Prop where
 | mk:∀a H4,x=.ref a->pq H3 a y v H4->D.nx σ H4->S5 D σ v x y H3
noncomputable def XQ (td ty tv:TE):TS:=fun D σ H=>tv σ H fun v H1=>td σ H1 fun x H2=>ty σ H2 fun y H3=>S5 D σ v x y H3
inductive Rt (tv:TE) (rd:V->V->Hp->VK->Prop) (D:Ends) (σ:St) (x:V) (y:V) (H2:Hp):Prop where
 | mk:∀a v,x=.ref a->dZ H2 a y (some v)->(tv σ H2 fun y2 H3=>rd v y2 H3 fun z H4=>∃H5,pq H4 a y z H5/\D.nx σ H5)->Rt tv rd D σ x y H2
noncomputable def Yt (td ty tv:TE) (rd:V->V->Hp->VK->Prop):TS:=fun D σ H=>td σ H fun x H1=>ty σ H1 fun y H2=>Rt tv rd D σ x y H2
section
variable {X:Cx} {o i e value:Expr} {pos pos' tpos:Pos} {td ty tv:TE}
theorem cB (hu:X.A.units+1 <cLine) (ho:PE X o td) (hi:PE X i ty) (hs:Y4 i):PE X (.Subscript o i pos) (YW td ty):=by
 intro pins s σ H Q I h
 refine Uu PySem.F.slot_dict_getitem.lookup hs (dG (ho pins s σ H _ I h) fun u s1 ⟨x,H1,I1,rx,q1⟩=>dG (hi pins s1 σ H1 _ I1 q1) fun iv s2 hpt=>?_)
 obtain⟨y,H2,I2,ry,a,v,ex,g,q2⟩:=hpt
 subst ex
 obtain rfl:u=Value.ref a:=rx
 exact⟨JD I2 g,Fw hu I2 g ry fun w' s3 I3 rw'=>⟨v,H2,I3,rw',q2⟩⟩
theorem wB (hu:X.A.units+1 <cLine) (hi:PE X i ty) (ho:PE X o td):PC X .In i o (ZG ty td):=by
 intro pins s σ H Q I h
 refine dG (hi pins s σ H _ I h) fun iv s1 ⟨y,H1,I1,ry,q1⟩=>dG (ho pins s1 σ H1 _ I1 q1) fun u s2 hpt=>?_
 obtain⟨x,H2,I2,rx,a,ov,ex,g,q2⟩:=hpt
 subst ex
 obtain rfl:u=Value.ref a:=rx
 exact ZR hu I2 g ry fun s3 I3=>⟨.bl ov.isSome,H2,I3,rfl,q2⟩
theorem jT (hu:X.A.units+1 <cLine) (hi:PE X i ty) (ho:PE X o td):PC X .NotIn i o (Uz ty td):=by
 intro pins s σ H Q I h
 refine dG (hi pins s σ H _ I h) fun iv s1 ⟨y,H1,I1,ry,q1⟩=>dG (ho pins s1 σ H1 _ I1 q1) fun u s2 hpt=>?_
 obtain⟨x,H2,I2,rx,a,ov,ex,g,q2⟩:=hpt
 subst ex
 obtain rfl:u=Value.ref a:=rx
 exact U9 hu I2 g ry fun s3 I3=>⟨.bl (!ov.isSome),H2,I3,rfl,q2⟩
theorem fU (hu:X.A.units+1 <cLine) (ho:PE X o td) (hi:PE X i ty) (hv:PE X value tv) (hs:swapsWith value (some (.Subscript o i pos')) pos.line X.env=pure false):
  PS X (.Assign [.Subscript o i pos'] value pos) (XQ td ty tv):=by
 intro pins s σ H D I h
 refine wpAny_Assign_Subscript (dG (hv pins s σ H _ I h) fun r s1 ⟨v,H1,I1,rv,q1⟩=>dG (ho pins s1 σ H1 _ I1 q1) fun u s2 ⟨x,H2,I2,rx,q2⟩=>dG (hi pins s2 σ H2 _ I2 q2) fun iv s3 hpt=>?_) hs
 obtain⟨y,H3,I3,ry,a,H4,ex,g,q3⟩:=hpt
 subst ex
 obtain rfl:u=Value.ref a:=rx
 exact FT hu I3 g ry rv fun s4 I4=>⟨σ,H4,I4,q3⟩
theorem M5 {op:Operator} {rd:V->V->Hp->VK->Prop} (hu:X.A.units+1 <cLine) (ho:PE X o td) (hi:PE X i ty) (hv:PE X value tv) (hop:Yi X op rd)
  (ha:∀ov iv new,augStore i ov iv new=(do holding [new,ov,iv] (setItem ov iv new);release [new,ov,iv] [];pure .next)):PS X (.AugAssign (.Subscript o i tpos) op value pos) (Yt td ty tv rd):=by
 intro pins s σ H D I h
 refine wpAny_AugAssign_SubscriptAny (dG (ho pins s σ H _ I h) fun u s1 ⟨x,H1,I1,rx,q1⟩=>dG (hi pins s1 σ H1 _ I1 q1) fun iv s2 hpt=>?_) ha
 obtain⟨y,H2,I2,ry,a,v,ex,g,q2⟩:=hpt
 subst ex
 obtain rfl:u=Value.ref a:=rx
 refine Fw hu I2 g ry fun w' s3 I3 rw'=>dG (hv pins s3 σ H2 _ I3 q2) fun w2 s4 ⟨y2,H3,I4,ry2,q3⟩=>dG (hop pins s4 σ H3 v y2 w' w2 _ I4 rw' ry2 q3) fun w3 s5 hpt=>?_
 obtain⟨z,H4,I5,rz,H5,g5,q4⟩:=hpt
 exact FT hu I5 g5 ry rz fun s6 I6=>⟨σ,H5,I6,q4⟩
end
theorem JB {P:Program} {w:World} {H:Hp} (h:Heap) (hb:sysModules <h.objs.size):fP P w H (h.push { cls:=.type "dict",data:=.dict #[] }) h.objs.size (.dK []):=
 ⟨Nat.zero_le _,beq_eq_false_iff_ne.mpr (Ne.symm (Nat.ne_of_lt hb)),[],.nil,Heap.DictOf.new h⟩
noncomputable def Wb:TE:=fun _ H Q=>∀p,H p=none->Q (.ref p) (upd H p (.dK []))
section
variable {X:Cx} {pos:Pos}
theorem fJ:PE X (.Dict [] [] pos) Wb:=fun pins s σ H Q I h=>
 wpAny_Dict_empty ⟨.ref s.heap.objs.size,_,I.laid (a:=s.heap.objs.size) (o:=.dK []) (t':=s.toks) (fun _ _ q=>Heap.get?_push_of_some _ q) (Nat.le_refl _) (JB s.heap I.big),rfl,h _ (I.hok.fresh (Nat.le_refl _))⟩
end
noncomputable def KC:List (TE×TE)->St->Hp->(List (V×V)->Hp->Prop)->Prop
 | [],_,H,Q=>Q [] H
 | (tk,tv):: r,σ,H,Q=>tk σ H fun x H1=>tv σ H1 fun y H2=>KC r σ H2 fun ps H3=>Q ((x,y):: ps) H3
noncomputable abbrev VV:List (V×V)->List (Value×Value)->Prop:=Paired fun p q=>RelV p.1 q.1/\RelV p.2 q.2
noncomputable def Zb (X:Cx) (pos:Pos) (keys:List (Option Expr)) (values:List Expr) (trs:List (TE×TE)):Prop:=
 ∀(pins:List (Addr×Obj)) (s:Shared) (σ:St) (H:Hp) (Q:List (V×V)->Hp->Prop),Inv X pins σ H s->KC trs σ H Q->
  wpAny (model X.prog X.w) X.A (evalPairs (pairTrees keys values X.env pos)) (fun vs s'=>∃ps H',Inv X pins σ H' s'/\VV ps vs/\Q ps H') X.xe s
theorem UJ {X:Cx} {pos:Pos}:Zb X pos [] [] []:=fun pins s σ H Q I h=>pairTrees_nil_walk ⟨[],H,I,.nil,h⟩
theorem SN {X:Cx} {pos:Pos} {k v:Expr} {ks:List (Option Expr)} {vs:List Expr} {tk tv:TE} {trs:List (TE×TE)} (hk:PE X k tk) (hv:PE X v tv) (hr:Zb X pos ks vs trs):
  Zb X pos (some k:: ks) (v:: vs) ((tk,tv):: trs):=fun pins s σ H Q I h=>
 pairTrees_cons_walk (dG (hk pins s σ H _ I h) fun u s1 ⟨x,H1,I1,rx,q1⟩=>dG (hv pins s1 σ H1 _ I1 q1) fun w2 s2 ⟨y,H2,I2,ry,q2⟩=>
  dG (hr pins s2 σ H2 _ I2 q2) fun ws s3 ⟨ps,H3,I3,rel,q3⟩=>⟨(x,y):: ps,H3,I3,.cons ⟨rx,ry⟩ rel,q3⟩)
noncomputable def uv (kvs more:List (Key×V)):List (Key×V):=more.foldl (fun acc kv=>putK acc kv.1 kv.2) kvs
theorem KV.merge:∀{more:List (Key×V)} {rs:List (Key×Value)} {kvs:List (Key×V)} {vs:List (Key×Value)},KV more rs->KV kvs vs->KV (uv kvs more) (merged vs rs):=by
 intro more rs kvs vs r
 unfold KV at r
 induction r generalizing kvs vs with
 | nil=>intro q;exact q
 | @cons p q ps qs h t ih=>
  intro r0
  have e:KV (putK kvs p.1 p.2) (stored vs q.1 q.2):=by
   have:=r0.put p.1 h.2
   rw [<-h.1];exact this
  exact ih e
theorem wu:∀(more kvs:List (Key×V)),(uv kvs more).length<=kvs.length+more.length
 | [],kvs=>by show kvs.length<=kvs.length+0;omega
 | p:: r,kvs=>by
  have h1:=wu r (putK kvs p.1 p.2)
  have h2:=lz kvs p.1 p.2
  show(uv (putK kvs p.1 p.2) r).length<=_
  rw [List.length_cons];omega
theorem Cv {P:Program} {w:World}:∀{kvs:List (Key×V)} {ws:List (Value×Value)},VV (kvs.map fun kv=>(kV kv.1,kv.2)) ws->∃rs,Carries (cJ P w) ws rs/\KV kvs rs
 | [],_,r=>by rw [List.map_nil] at r;cases r;exact⟨[],True.intro,.nil⟩
 | p:: kvs,_,r=>by
  rw [List.map_cons] at r
  cases r with
  | @cons a b as bs h t=>
   obtain⟨rs,c,q⟩:=Cv (P:=P) (w:=w) t
   obtain⟨b1,b2⟩:=b
   exact⟨(p.1,b2):: rs,⟨Em h.1,rfl,c⟩,.cons ⟨rfl,h.2⟩ q⟩
noncomputable def YC (trs:List (TE×TE)):TE:=fun σ H Q=>∀p,H p=none->KC trs σ (upd H p (.dK [])) fun ps H2=>H2 p=some (.dK [])/\∃kvs:List (Key×V),ps=kvs.map (fun kv=>(kV kv.1,kv.2))/\kvs.length<=15/\Q (.ref p) (upd H2 p (.dK (uv [] kvs)))
theorem Vd {X:Cx} {pos:Pos} {keys:List (Option Expr)} {values:List Expr} {trs:List (TE×TE)} (h:Zb X pos keys values trs) (hall:keys.all (·.isSome)=true) (hl:keys.length=values.length) (h0:keys≠[])
  (h15:keys.length<=15):PE X (.Dict keys values pos) (YC trs):=by
 intro pins s σ H Q I q
 have hn:=I.hok.fresh (Nat.le_refl s.heap.objs.size)
 have I1:=I.laid (a:=s.heap.objs.size) (o:=.dK []) (h':=s.heap.push { cls:=.type "dict",data:=.dict #[] }) (t':=s.toks) (fun _ _ q=>Heap.get?_push_of_some _ q) (Nat.le_refl _) (JB s.heap I.big)
 refine wpAny_Dict_walk (knd:=cJ X.prog X.w) hall hl h0 h15 (dG (h pins _ σ _ _ I1 (q _ hn)) fun ws s2 hpt=>?_)
 obtain⟨ps,H2,I2,rel,e,kvs,ep,lk,q2⟩:=hpt
 subst ep
 obtain⟨rs,c,rk⟩:=Cv (P:=X.prog) (w:=X.w) rel
 obtain⟨z,hd,vs0,r0,dd⟩:=Vj I2.hok e
 cases r0
 refine⟨rs,c,dd,fun h' dd' hs=>⟨.ref s.heap.objs.size,_,?_,rfl,q2⟩⟩
 have hz:(uv [] kvs).length<=sizeLine:=by
  have h1:=wu kvs []
  rw [List.length_nil] at h1
  rw [sizeLine_eq];omega
 have he:∃q,h'.get? s.heap.objs.size=some q:=let ⟨q,_,_,hq,_⟩:=dd';⟨q,hq⟩
 exact Ig I2 (by rw [e];exact True.intro) hs he (Rm hz hd (rk.merge .nil) dd')
structure M2 (X:Cx) (o:Expr) (m:Str) (apos:Pos) (e f:Expr) (cpos:Pos):Prop where
 base:attributeBase o m X.env (eval o X.env)=eval o X.env
 few:((backTo cpos (starEach [e,f] X.env)).all (fun x=>!x.1) && (backToKw cpos (keywordEach [] X.env)).all (fun x=>x.1.isSome)
  && decide (([e,f]:List Expr).length+([]:List Keyword).length+(if ([]:List Keyword).isEmpty then 0 else 1) <30))=true
 line:(apos.endLine == cpos.line)=true
 trees:backTo cpos (starEach [e,f] X.env)=[(false,eval e X.env),(false,eval f X.env)]
noncomputable def IsD (H:Hp) (a:Addr):Prop:=(∃kvs,Rd H a (.dK kvs))∨∃kvs,Rd H a (.dT kvs)
theorem W0 {X:Cx} {pins:List (Addr×Obj)} {σ:St} {H:Hp} {s:Shared} {a:Addr} (I:Inv X pins σ H s) (d:IsD H a):
  s.TypeIs (.ref a) "dict" /\(∀b,Value.ref a=.ref b->∃ob,s.heap.get? b=some ob/\ob.dict=none)/\(a == sysModules)=false:=by
 rcases d with ⟨kvs,e⟩ | ⟨kvs,e⟩
 ·obtain⟨_,hd,vs,_,dd⟩:=Aq I.hok e
  refine⟨dd.typeIs,fun b q=>?_,hd⟩
  cases q
  obtain⟨ob,_,_,h1,h2,_⟩:=dd
  exact⟨ob,h1,h2.2.1⟩
 ·obtain⟨_,hd,xs,_,dd⟩:=Ea I.hok e
  refine⟨dd.typeIs,fun b q=>?_,hd⟩
  cases q
  obtain⟨ob,_,_,h1,h2,_⟩:=dd
  exact⟨ob,h1,h2.2.1⟩
section
variable {X:Cx} {pins:List (Addr×Obj)} {σ:St} {H:Hp} {s:Shared} {a:Addr} {y d:V} {u r:Value} {o:Option V} {A:Around} {E:Value->Shared->Prop}
theorem Wj {Q:Value->Shared->Prop} (hu:A.units+1 <cLine) (I:Inv X pins σ H s) (g:dZ H a y o) (ry:RelV y u) (rd:RelV d r) (h:∀w' s',Inv X pins σ H s'->RelV (o.getD d) w'->Q w' s'):
  wpAny (model X.prog X.w) A (call (.builtin "dict.get") [.ref a,u,r]) Q E s:=by
 rcases g with ⟨kvs,k,e,ey,l⟩ | ⟨kvs,k,b,e,ey,eb,l⟩
 ·subst ey
  obtain⟨z,hd,vs,rel,dd⟩:=Aq I.hok e
  refine call_meetsIn PySem.F.slot_dict_get dd.typeIs PySem.F.entry_dict_get (PySem.F.args_dict_get_3 _ _ _) (meets_dict_get_default (cJ X.prog X.w) a (Em ry) hd r) ⟨_,dd.mapOf,h _ _ (I.tok _) ?_⟩
  rw [l]
  exact(rel.val k).getD rd
 ·subst ey
  cases (show u=Value.ref b from ry)
  obtain⟨z,hd,xs,rel,dd⟩:=Ea I.hok e
  refine call_meetsIn PySem.F.slot_dict_get dd.typeIs PySem.F.entry_dict_get (PySem.F.args_dict_get_3 _ _ _) (meetsH_dict_get_default (tupleKind (cJ X.prog X.w)) a b hd r) ⟨tupleKind_room_in1 hu,k,xs,zB I.hok eb,dd,h _ _ (I.tok _) ?_⟩
  rw [l]
  exact(rel.val k).getD rd
end
inductive M6 (ty:TE) (tx:TE) (σ:St) (Q:VK) (x:V) (H1:Hp):Prop where
 | mk:∀a,x=.ref a->IsD H1 a->(ty σ H1 fun y H2=>tx σ H2 fun z H3=>∃o,dZ H3 a y o/\Q (o.getD z) H3)->M6 ty tx σ Q x H1
noncomputable def Xe (td ty tx:TE):TE:=fun σ H Q=>td σ H fun x H1=>M6 ty tx σ Q x H1
section
variable {X:Cx} {o e f:Expr} {apos cpos:Pos} {td ty tx:TE}
theorem Qj (hu:X.A.units+1 <cLine) (ho:PE X o td) (he:PE X e ty) (hf:PE X f tx) (m:M2 X o "get" apos e f cpos):PE X (.Call (.Attribute o "get" apos) [e,f] [] cpos) (Xe td ty tx):=by
 intro pins s σ H Q I h
 refine wpAny_Call_method m.base m.few m.line PySem.F.plainAttrs_dict PySem.F.slot_dict_get PySem.F.type_dict_get (dG (ho pins s σ H _ I h) fun u s1 hpt=>?_)
 obtain⟨x,H1,I1,rx,a,ex,d,q1⟩:=hpt
 subst ex
 obtain rfl:u=Value.ref a:=rx
 obtain⟨t1,t2,_⟩:=W0 I1 d
 refine⟨t1,t2,?_⟩
 rw [m.trees]
 refine Calls.callWith_builtin rfl (Calls.evalArgs_plain (Calls.spliced_cons (dG (he pins s1 σ H1 _ I1 q1) fun iv s2 ⟨y,H2,I2,ry,q2⟩=>
  Calls.spliced_cons (dG (hf pins s2 σ H2 _ I2 q2) fun fv s3 ⟨z,H3,I3,rz,ov,g,q3⟩=>Calls.spliced_nil ?_))))
 exact Wj hu I3 g ry rz fun w' s4 I4 rw'=>⟨_,H3,I4,rw',q3⟩
end
section
variable {X:Cx} {pins:List (Addr×Obj)} {σ:St} {H:Hp} {s:Shared} {a:Addr} {kvs:List (Key×V)} {A:Around} {E:Value->Shared->Prop}
end
section
variable {X:Cx} {pins:List (Addr×Obj)} {σ:St} {H:Hp} {s:Shared} {a:Addr} {y:V} {u:Value} {A:Around} {E:Value->Shared->Prop}
end
section
variable {X:Cx} {pins:List (Addr×Obj)} {σ:St} {H:Hp} {s:Shared} {d:Addr} {kvs:List (Key×V)}
theorem Inv.chill (I:Inv X pins σ H s) (e:H d=some (.dK kvs)):∃o,s.heap.get? d=some o/\Inv X pins σ (upd H d (.frz o (.dK kvs))) s:=by
 obtain⟨z,hd,vs,rel,o,es,ep,ho,r⟩:=(show fP X.prog X.w H s.heap d (.dK kvs) from I.hok d _ e)
 refine⟨o,ho,?_⟩
 have:=I.write (x:=d) (e:=d) (o:=.frz o (.dK kvs)) (h':=s.heap) (t':=s.toks) (by rw [e];exact True.intro) (.inl rfl) (fun b u _ q=>q) ⟨o,ho⟩ ⟨ho,z,hd,vs,rel,o,es,ep,ho,r⟩
 exact this
theorem Inv.melt {o:Obj} (I:Inv X pins σ H s) (e:H d=some (.frz o (.dK kvs))) (h0:∀o u,X.H₀ d≠some (.frz o u)):Inv X pins σ (upd H d (.dK kvs)) s:=by
 have ne:∀b u,H b=some u->(∀o v,u≠.frz o v)->b≠d:=fun b u q n z=>by
  rw [z,e] at q
  exact n _ _ (Option.some.inj q).symm
 have no:∀b,H b=none->b≠d:=fun b q z=>by rw [z,e] at q;cases q
 refine⟨I.ok,I.os,I.bare,⟨I.base.keep,I.base.slot,fun b u q n hx=>?_,I.base.there,fun b xs q=>?_,fun b u v q=>?_,fun b ps q=>?_⟩,I.loc,I.cell,?_,fun y c q=>?_,fun p h=>?_,fun b u q=>?_,I.len⟩
 ·have z:=I.base.free b u q n hx
  rw [aK (no b z)];exact z
 ·have z:=I.base.tups b xs q
  rw [aK (ne b _ z (by intro _ _ w;cases w))];exact z
 ·have z:=I.base.frzs b u v q
  rw [aK (fun w=>by rw [w] at q;exact h0 _ _ q)];exact z
 ·obtain⟨m,z⟩:=I.base.tbls b ps q
  exact⟨m,by rw [aK (ne b _ z (by intro _ _ w;cases w))];exact z⟩
 ·rw [aK (no _ I.free)];exact I.free
 ·rw [aK (no _ (I.freeC y c q))];exact I.freeC y c q
 ·obtain⟨z1,z2,r⟩:=I.pin p h
  exact⟨z1,by rw [aK (no _ z2)];exact z2,r⟩
 ·by_cases w:b=d
  ·subst w
   rw [aq] at q
   cases q
   exact(I.hok b _ e).2
  ·rw [aK w] at q
   exact(I.hok b u q).stay (fun _ _ _ z=>z) (fun c z=>by rw [aK (ne c _ z (by intro _ _ w;cases w))];exact z) fun c xs z=>by rw [aK (ne c _ z (by intro _ _ w;cases w))];exact z
end
inductive U6 (H0 H H':Hp):Prop where
 | mk:∀d o kvs,H d=some (.frz o (.dK kvs))->((∀o u,H0 d≠some (.frz o u)))->H'=upd H d (.dK kvs)->U6 H0 H H'
section
variable {X:Cx} {H0:Hp} {st:Stmt} {sts:List Stmt} {e:Expr} {t:TS} {te:TE}
theorem MK (hH:X.H₀=H0) (h:PS X st t):PS X st (fun D σ H=>∃H',U6 H0 H H'/\t D σ H'):=by
 subst hH
 intro pins s σ H D I hh
 obtain⟨H',⟨d,o,kvs,e,n,rfl⟩,q⟩:=hh
 exact h pins s σ _ D (I.melt e n) q
theorem nW (hH:X.H₀=H0) (h:PS X st t):PS X st (fun D σ H=>t { D with nx:=fun σ' H'=>∃H'',U6 H0 H' H''/\D.nx σ' H'' } σ H):=by
 subst hH
 intro pins s σ H D I hh
 refine dG (h pins s σ H _ I hh) fun f s1 q=>?_
 cases f with
 | next=>obtain⟨σ',H',I',H'',⟨d,o,kvs,e,n,rfl⟩,q⟩:=q;exact⟨σ',_,I'.melt e n,q⟩
 | ret v=>exact q
 | brk=>exact q
 | cont=>exact q
theorem UG (hH:X.H₀=H0) (h:PE X e te):PE X e (fun σ H Q=>te σ H fun v H1=>∃H2,U6 H0 H1 H2/\Q v H2):=by
 subst hH
 intro pins s σ H Q I hh
 refine dG (h pins s σ H _ I hh) fun u s1 q=>?_
 obtain⟨v,H1,I1,r,H2,⟨d,o,kvs,e,n,rfl⟩,q⟩:=q
 exact⟨v,_,I1.melt e n,r,q⟩
end
noncomputable def Xw (d:Addr) (o:Obj) (kvs:List (Key×V)):It:=
 ⟨fun i H=>H d=some (.frz o (.dK kvs))/\i <kvs.length,fun i H x H'=>H'=H/\∃k v,kvs[i]?=some (k,v)/\x=kV k,fun i H=>H d=some (.frz o (.dK kvs))/\kvs.length<=i⟩
theorem Qs {P:Program} {w:World} {k:Key} {u:Value} (h:(cJ P w).is k u=true):RelV (kV k) u:=by
 rcases eO (k:=k) (v:=u) h with ⟨i,t,rfl,rfl⟩ | ⟨x,t,rfl,rfl⟩
 ·exact⟨t,rfl⟩
 ·exact⟨t,rfl⟩
theorem KH:∀{kvs:List (Key×V)} {vs:List (Key×Value)} {i:Nat} {k:Key} {v:V},KV kvs vs->kvs[i]?=some (k,v)->∃v',vs[i]?=some (k,v')
 | _,_,0,k,v,.cons h _,e=>by
  cases (Option.some.inj e)
  exact⟨_,by rw [List.getElem?_cons_zero,show k=_ from h.1]⟩
 | _,_,i+1,k,v,.cons _ t,e=>by
  obtain⟨v',z⟩:=KH (i:=i) (k:=k) (v:=v) t (by simpa using e)
  exact⟨v',by simpa using z⟩
theorem Pu {P:Program} {w:World} {K:PySem.W.Frag} {tg:Expr} {d it:Addr} {o:Obj} {kvs:List (Key×V)} {vs:List (Key×Value)} {ep:Nat} (rel:KV kvs vs) (hD:∀h:Heap,h.get? d=some o->h.DictAt (cJ P w) d vs ep):
  Turn P w K tg (Xw d o kvs) [it] it (fun i h=>h.IsKeyIter it d i vs.length ep) where
 mem:=by simp
 obj:=fun i h st b hb=>by
  have e:b=it:=by simpa using hb
  subst e
  obtain⟨o,e,c,d⟩:=st
  exact⟨o,e,fun v z=>by rw [d] at z;cases z⟩
 keep:=fun i h h' st k=>st.at fun o e=>k it (by simp) o e
 item:=by
  intro X hP hw hK hc i pins s σ H E I hf st hg
  subst hP hw hK
  obtain⟨hq,hi⟩:=hg
  obtain⟨f0,f1,f2,f3,f4,f5⟩:=hf it (by simp)
  have ho:s.heap.get? d=some o:=(I.hok d _ hq).1
  have hl:kvs.length=vs.length:=Paired.length rel
  obtain⟨k,v,ek⟩:∃k v,kvs[i]?=some (k,v):=⟨_,_,List.getElem?_eq_getElem hi⟩
  obtain⟨v',ev⟩:=KH rel ek
  refine wpAny_pyNext_dict_item st (hD _ ho) ev fun key h' hk st' sb=>?_
  have I1:Inv X pins σ H { s with heap:=h' }:=I.turned (t':=s.toks) (fun b o hb e=>(sb.2 b hb).trans e) f0 f1 f3 f4 f5
  obtain⟨o',e,c,dd⟩:=id st'
  exact⟨key,rfl,Fq (s:={ s with heap:=h' }) e c dd (by decide) ⟨kV k,H,I1,Qs hk,⟨rfl,k,v,ek,rfl⟩,st',fun b hb=>(hf b hb).1⟩⟩
 done:=by
  intro X hP hw hK hc i pins s σ H E I hf st hg
  subst hP hw hK
  obtain⟨hq,hi⟩:=hg
  obtain⟨f0,f1,f2,f3,f4,f5⟩:=hf it (by simp)
  have ho:s.heap.get? d=some o:=(I.hok d _ hq).1
  have hl:kvs.length=vs.length:=Paired.length rel
  exact wpAny_pyNext_dict_end (I.ok.hd hc) st (hD _ ho) (List.getElem?_eq_none (by omega)) fun h' eb=>⟨rfl,I.turned (t':=s.toks) (fun b o hb e=>eb b o hb e) f0 f1 f3 f4 f5⟩
 self:=fun _ _ _ _ _ st h=>wpAny_pyIter_keyiter st h
inductive Sg (R:It->Hp->Prop) (x:V) (H1:Hp):Prop where
 | mk:∀d kvs,x=.ref d->H1 d=some (.dK kvs)->(∀o,R (Xw d o kvs) (upd H1 d (.frz o (.dK kvs))))->Sg R x H1
noncomputable def Yo (td:TE):TI:=fun σ H R=>td σ H fun x H1=>Sg R x H1
theorem pM {X:Cx} {tg l:Expr} {td:TE} (hl:PE X l td):PI X tg l (Yo td):=by
 intro pins s σ H R I h
 refine dG (hl pins s σ H _ I h) fun v s1 hpt=>?_
 obtain⟨x,H1,I1,r1,q1⟩:=hpt
 obtain⟨d,kvs,e,ed,q⟩:=q1
 subst e
 cases r1
 obtain⟨_,hd,vs,rel,o0,es,ep,ho0,r⟩:=(show fP X.prog X.w H1 s1.heap d (.dK kvs) from I1.hok d _ ed)
 obtain⟨o,ho,I2⟩:=I1.chill ed
 obtain rfl:o0=o:=Option.some.inj (ho0.symm.trans ho)
 have hD:∀h:Heap,h.get? d=some o0->h.DictAt (cJ X.prog X.w) d vs ep:=fun h z=>⟨o0,es,z,r⟩
 refine wpAny_pyIter_dict hd (hD _ ho) ?_
 refine⟨s1.heap.objs.size,[s1.heap.objs.size],_,_,_,rfl,I2.kept (t':=s1.toks) fun b o e=>Heap.get?_push_of_some _ e,Pu rel hD,⟨_,Heap.get?_push_size _ rfl,rfl,rfl⟩,fun b hb=>?_,q o0⟩
 have e:b=s1.heap.objs.size:=by simpa using hb
 subst e
 exact I2.fpOk (Nat.le_refl _) (I2.hok.fresh (Nat.le_refl _))
theorem oK {d:Addr} {o:Obj} {kvs:List (Key×V)} {g:TG} {tb:TS} {D:Ends} {σ:St} {H:Hp} (Pv:Nat->St->Hp->Prop) (h0:Pv 0 σ H) (hl:∀i σ H,i<=kvs.length->Pv i σ H->H d=some (.frz o (.dK kvs)))
  (hs:∀i k v σ H,kvs[i]?=some (k,v)->Pv i σ H->g (kV k) σ H fun σ2 H2=>tb { D with nx:=Pv (i+1),ct:=Pv (i+1),bk:=D.nx } σ2 H2) (hd:∀σ H,Pv kvs.length σ H->D.nx σ H):
  ∃W:Nat->Nat->St->Hp->Prop,(∃m,W 0 m σ H)/\∀i m σ H,W i m σ H->
   ((Xw d o kvs).stop i H/\D.nx σ H)∨((Xw d o kvs).go i H/\∃N:St->Hp->Prop,(∀σ' H',N σ' H'->∃m',m' <m/\W (i+1) m' σ' H')/\∀x H',(Xw d o kvs).yld i H x H'->g x σ H' fun σ2 H2=>tb { D with nx:=N,ct:=N,bk:=D.nx } σ2 H2):=by
 refine⟨fun i m σ H=>m=kvs.length - i/\i<=kvs.length/\Pv i σ H,⟨kvs.length,by simp,Nat.zero_le _,h0⟩,?_⟩
 rintro i m σ H ⟨rfl,hi,p⟩
 have q:=hl i σ H hi p
 by_cases hlt:i <kvs.length
 ·refine .inr ⟨⟨q,hlt⟩,Pv (i+1),fun σ' H' p'=>⟨kvs.length - (i+1),by omega,rfl,hlt,p'⟩,fun x H' y=>?_⟩
  obtain⟨rfl,k,v,ek,rfl⟩:=y
  exact hs i k v σ _ ek p
 ·obtain rfl:i=kvs.length:=by omega
  exact .inl ⟨⟨q,Nat.le_refl _⟩,hd σ H p⟩
theorem Oa {js:List Nat} {tt:TT} {te:TE} {σ:St} {Qd:List V->Hp->Prop} {d:Addr} {o:Obj} {kvs:List (Key×V)} {H:Hp} (Pv:Nat->List V->Hp->Prop) (hn:kvs.length<=sizeLine) (h0:Pv 0 [] H) (hl:∀i ys H,Pv i ys H->ys.length<=i) (hq:∀i ys H,i<=kvs.length->Pv i ys H->H d=some (.frz o (.dK kvs)))
  (hs:∀i k v ys H,kvs[i]?=some (k,v)->Pv i ys H->tt (some (kV k):: cY σ js) H fun b H4=>if b=true then te (some (kV k):: cY σ js) H4 fun y H5=>Pv (i+1) (ys ++ [y]) H5 else Pv (i+1) ys H4)
  (hd:∀ys H,Pv kvs.length ys H->Qd ys H):CompEnd js tt te σ Qd (Xw d o kvs) H:=by
 refine⟨fun i m ys H=>m=kvs.length - i/\i<=kvs.length/\Pv i ys H,⟨kvs.length,by simp,Nat.zero_le _,h0⟩,?_⟩
 rintro i m ys H ⟨rfl,hi,p⟩
 have hlen:=hl i ys H p
 have q:=hq i ys H hi p
 by_cases hlt:i <kvs.length
 ·refine .inr ⟨⟨q,hlt⟩,by omega,Pv (i+1),fun ys' H' p'=>⟨kvs.length - (i+1),by omega,rfl,hlt,p'⟩,fun x H' y=>?_⟩
  obtain⟨rfl,k,v,ek,rfl⟩:=y
  exact hs i k v ys _ ek p
 ·obtain rfl:i=kvs.length:=by omega
  exact .inl ⟨⟨q,Nat.le_refl _⟩,by omega,hd ys H p⟩
theorem Am:∀{xs:List V} {us:List Value},us.length=xs.length->(∀(j:Nat) x u,xs[j]?=some x->us[j]?=some u->RelV x u)->Vals xs us
 | [],[],_,_=>.nil
 | [],_:: _,h,_=>by simp at h
 | _:: _,[],h,_=>by simp at h
 | x:: xs,u:: us,h,r=>.cons (r 0 x u rfl rfl) (Am (by simpa using h) fun j y v h1 h2=>r (j+1) y v (by simpa using h1) (by simpa using h2))
theorem oR {X:Cx} (hc:X.calm=true):oW X (.type "list") (fun xs H Q=>∃d kvs,xs=[.ref d]/\Rd H d (.dK kvs)/\∀l,H l=none->Q (.ref l) (upd H l (.lst (kvs.map fun p=>kV p.1)))):=by
 intro pins s σ H xs us Q I rx h
 obtain⟨d,kvs,rfl,hr,q⟩:=h
 obtain⟨u,rfl,ru⟩:=vals1 rx
 cases ru
 obtain⟨z,hd,vs,rel,dd⟩:=Aq I.hok hr
 obtain⟨ep,da⟩:=dd.dictAt
 have hl:kvs.length=vs.length:=Paired.length rel
 refine PySem.W.kdl_call (PySem.W.kdl_dict (knd:=cJ X.prog X.w) (kvs:=vs) (ep:=ep) hd) (I.ok.hd hc) da (by omega) fun h' tk acc' c' kp e' hi=>?_
 refine⟨.ref s.heap.objs.size,_,I.laid (t':=tk) kp (Nat.le_refl _) (show fP X.prog X.w _ h' _ (.lst (kvs.map fun p=>kV p.1)) from⟨by rw [List.length_map];exact z,acc'.toList,c',Am (by rw [Array.length_toList,hi.1,List.length_map,hl]) fun j x u hx hu=>?_,by simpa using e'⟩),rfl,q _ (I.hok.fresh (Nat.le_refl _))⟩
 obtain⟨k,v,hkv,hk⟩:=hi.2 j u (by rw [<-Array.getElem?_toList];exact hu)
 rw [List.getElem?_map] at hx
 obtain⟨p,hp,rfl⟩:=Option.map_eq_some_iff.mp hx
 obtain⟨v',hv'⟩:=KH rel (k:=p.1) (v:=p.2) hp
 rw [hkv] at hv'
 cases hv'
 exact Qs hk
section
variable {X:Cx} {pins:List (Addr×Obj)} {σ:St} {H:Hp} {s:Shared}
end
section
variable {X:Cx} {tg:Expr}
end
theorem iQ.u1 {k:Nat} {A:Around} (r:iQ k A):A.units+1 <cLine:=by have:=r.units;omega
section
variable {prog:Program} {w:World} {A:Around} {E:Value->Shared->Prop} {s:Shared}
end
theorem iQ.u100 {k:Nat} {A:Around} (r:iQ k A):A.units+100 <cLine:=by have:=r.un;omega
theorem Jh {X:Cx} {K:PySem.W.Frag} {e:Expr} {f:Str} {pos:Pos} {ta:TE} (hK:X.K=K) (he:PE X e ta) (hb:attributeBase e f X.env (eval e X.env)=eval e X.env):PE X (.Attribute e f pos) (Yd K ta f):=by subst hK;exact bj he hb
theorem wH {X:Cx} {K:PySem.W.Frag} (hK:X.K=K):sY X (compareOp .In) (Zg K false):=by subst hK;exact vf
theorem vY {X:Cx} {K:PySem.W.Frag} (hK:X.K=K):sY X (compareOp .NotIn) (Zg K true):=by subst hK;exact iU
section
variable {X:Cx} {P:Program} {w:World} {K:PySem.W.Frag} {mg:Str->Option Value} {base:Heap} {CX:FP} {k:Nat} {E:XK} {m:Str} {pos apos:Pos} {e o:Expr} {es:List Expr} {ta:TE} {t:TA}
theorem KR {pl:Sem Bool} (hP:X.prog=P) (hw:X.w=w) (hK:X.K=K) (hm:X.mg=mg) (hb:X.base=base) (he:PE X o ta) (hr:iQ k X.A) (hx:qu CX X E)
  (ht:eval (.Call (.Attribute o m apos) [] [] pos) X.env=(do
   let ov <-eval o X.env
   standAt apos.atName
   let (f,first) <-holding [ov] (getMethod ov m pl)
   callWith pos f first (backTo pos (starEach [] X.env)) (backToKw pos (keywordEach [] X.env))):=by rfl):
  PE X (.Call (.Attribute o m apos) [] [] pos) (K6 P w K mg base CX k m E ta Qe):=by
 subst hP hw hK hm hb
 exact zH he hr hx ht
end
section
variable {prog:Program} {w:World} {A:Around} {R:Result->Shared->Prop} {s:Shared}
theorem Y8 {elt tg iter:Expr} {ifs:List Expr} {scope:Scope} {pos:Pos} {it acc:Value} {env:Env} (J:Nat->Shared->Prop)
  (turn:∀k s1,J k s1->wpAny (model prog w) A (pyNext it) (fun r s2=>match r with
   | none=>R (.ok .next) s2
   | some v=>wpAny (model prog w) A (letOwnedTupleGo tg it v) (fun _ s3=>wpAny (model prog w) A (assign tg env v) (fun _ s4=>
     wpAny (model prog w) A (forIn ifs true fun c r=>if r=true then do let ok <-isTrue c env (eval c env);pure (ForInStep.yield ok) else pure (ForInStep.yield r)) (fun ok s5=>
      if ok=true then wpAny (model prog w) A (eval elt env) (fun y s6=>wpAny (model prog w) A (call (.builtin "list.append") [acc,y]) (fun _ s7=>∃m,m <k/\J m s7) (notedBy (model prog w) A env fun e s'=>R (.error e) s') s6)
       (notedBy (model prog w) A env fun e s'=>R (.error e) s') s5
      else ∃m,m <k/\J m s5) (notedBy (model prog w) A env fun e s'=>R (.error e) s') s4) (notedBy (model prog w) A env fun e s'=>R (.error e) s') s3) (notedBy (model prog w) A env fun e s'=>R (.error e) s') s2)
   (notedBy (model prog w) A env fun e s'=>R (.error e) s') s1)
  (k:Nat) (h:J k s):codeAny (model prog w) A (.compLoop (.ListComp elt [⟨tg,iter,ifs,0⟩] scope pos) 0 it acc env) R s:=by
 refine codeAny_loop rfl J (fun k s1 hJ=>?_) k h
 show wpAny _ A ((compTurn (.ListComp elt [⟨tg,iter,ifs,0⟩] scope pos) 0 it acc env).onRaise (fun e=>do noteFrame e env;theTreesLotGoes e)) _ _ s1
 refine wpAny_noted ?_
 rw [compTurn_list]
 refine wpAny_bind (wpAny_standAt (wpAny_bind (wpAny_mono (turn k s1 hJ) (fun r s2 h2=>?_) fun _ _ z=>z)))
 cases r with
 | none=>exact wpAny_pure h2
 | some v=>
  refine wpAny_bind (wpAny_mono h2 (fun _ s3 h3=>wpAny_bind (wpAny_mono h3 (fun _ s4 h4=>wpAny_bind (wpAny_mono h4 (fun ok s5 h5=>?_) fun _ _ z=>z)) fun _ _ z=>z)) fun _ _ z=>z)
  cases ok with
  | false=>exact wpAny_pure ⟨rfl,h5⟩
  | true=>exact wpAny_bind (wpAny_bind (wpAny_mono h5 (fun y s6 h6=>wpAny_bind (wpAny_mono h6 (fun _ s7 h7=>wpAny_pure (wpAny_pure ⟨rfl,h7⟩)) fun _ _ z=>z)) fun _ _ z=>z))
end
section
variable {X:Cx} {tg:Expr} {g:TG} {pos:Pos} {iter elt:Expr} {ifs:List Expr} {scope:Scope} {wi:TI} {tt:TT} {te:TE}
end
theorem O2 {X:Cx} (hc:X.calm=true):oW X (.builtin "min") (fun xs H Q=>∃(p:Addr) (a b:Int),xs=[.ref p]/\bJ X.K H p [.int a,.int b]/\Q (.int (if b <a then b else a)) H):=by
 intro pins s σ H xs us Q I r h
 obtain⟨p,a,b,rfl,hq,q⟩:=h
 obtain⟨u,rfl,rx⟩:=vals1 r
 cases rx
 obtain⟨its,rv,pl,_⟩:=I.list hq
 obtain⟨v1,v2,rfl,⟨t1,rfl⟩,⟨t2,rfl⟩⟩:=vals2 rv
 have hl:s.heap.IsList p (intItems #[(a,t1),(b,t2)]):=by simpa [intItems] using pl.isList
 refine min_intList (I.ok.hd hc) hl (by simp) fun v h' tk hv hk=>?_
 obtain⟨t,rfl⟩:=intItems_at hv
 obtain⟨h1,h2⟩:=argBest_lt (numAt #[(a,t1),(b,t2)]) (#[(a,t1),(b,t2)].size - 1)
 have h1':argBest (fun i j=>decide (numAt #[(a,t1),(b,t2)] i <numAt #[(a,t1),(b,t2)] j)) (#[(a,t1),(b,t2)].size - 1)<=1:=h1
 have ha:_<=a:=h2 0 (Nat.zero_le _)
 have hb:_<=b:=h2 1 (by simp)
 generalize argBest (fun i j=>decide (numAt #[(a,t1),(b,t2)] i <numAt #[(a,t1),(b,t2)] j)) (#[(a,t1),(b,t2)].size - 1)=k at h1' ha hb ⊢
 refine⟨.int (numAt #[(a,t1),(b,t2)] k),H,I.kept hk,⟨_,rfl⟩,?_⟩
 have e:numAt #[(a,t1),(b,t2)] k=if b <a then b else a:=by
  match k,h1',ha,hb with
  | 0,_,_,hb=>
   have hb':a<=b:=hb
   rw [if_neg (by omega)];rfl
  | 1,_,ha,_=>
   have ha':b<=a:=ha
   show b=_
   by_cases z:b <a
   ·rw [if_pos z]
   ·rw [if_neg z];omega
 rw [e]
 exact q
theorem Oz {X:Cx} (hc:X.calm=true):oW X (.builtin "max") (fun xs H Q=>∃(p:Addr) (a b:Int),xs=[.ref p]/\bJ X.K H p [.int a,.int b]/\Q (.int (if b <a then a else b)) H):=by
 intro pins s σ H xs us Q I r h
 obtain⟨p,a,b,rfl,hq,q⟩:=h
 obtain⟨u,rfl,rx⟩:=vals1 r
 cases rx
 obtain⟨its,rv,pl,_⟩:=I.list hq
 obtain⟨v1,v2,rfl,⟨t1,rfl⟩,⟨t2,rfl⟩⟩:=vals2 rv
 have hl:s.heap.IsList p (intItems #[(a,t1),(b,t2)]):=by simpa [intItems] using pl.isList
 refine max_intList (I.ok.hd hc) hl (by simp) fun v h' tk hv hk=>?_
 obtain⟨t,rfl⟩:=intItems_at hv
 obtain⟨h1,h2⟩:=argBest_gt (numAt #[(a,t1),(b,t2)]) (#[(a,t1),(b,t2)].size - 1)
 have h1':argBest (fun i j=>decide (numAt #[(a,t1),(b,t2)] i >numAt #[(a,t1),(b,t2)] j)) (#[(a,t1),(b,t2)].size - 1)<=1:=h1
 have ha:a<=_:=h2 0 (Nat.zero_le _)
 have hb:b<=_:=h2 1 (by simp)
 generalize argBest (fun i j=>decide (numAt #[(a,t1),(b,t2)] i >numAt #[(a,t1),(b,t2)] j)) (#[(a,t1),(b,t2)].size - 1)=k at h1' ha hb ⊢
 refine⟨.int (numAt #[(a,t1),(b,t2)] k),H,I.kept hk,⟨_,rfl⟩,?_⟩
 have e:numAt #[(a,t1),(b,t2)] k=if b <a then a else b:=by
  match k,h1',ha,hb with
  | 0,_,_,hb=>
   have hb':b<=a:=hb
   show a=_
   by_cases z:b <a
   ·rw [if_pos z]
   ·rw [if_neg z];omega
  | 1,_,ha,_=>
   have ha':a<=b:=ha
   rw [if_neg (by omega)];rfl
 rw [e]
 exact q
theorem Iv {X:Cx} {K:PySem.W.Frag} {es:List Expr} {k:Nat} {pos:Pos} {t:S7} {n:Nat} (hK:X.K=K) (hc:X.calm=true) (h:X3 X es t)
  (hn:(assignEach es X.env).length=n:=by rfl) (hst:(assignEach es X.env).findIdx? (·.1)=none:=by rfl):PG X (.Tuple es k pos) (XH K n t):=by
 subst hK
 exact zJ hc h hn hst
noncomputable def j7 (X:Cx) (scope:Scope) (xs:List Str) (js:List Nat) (cl:List (Str×Addr)) (C:Addr) (s:Shared) (H:Hp) (ex:List Addr):Cx where
 prog:=X.prog
 w:=X.w
 K:=X.K
 mg:=X.mg
 base:=X.base
 A:=X.A
 N:=xs ++ dq X.N js
 s₀:=s
 H₀:=H
 env:=compEnvC scope cl C X.env
 outer:=X.stack
 stack:=X.stack
 ex:=ex
 fn:=fun _=>false
 calm:=X.calm
 pn:=[]
 xe:=fun _ _=>False
noncomputable def xY (xs:List Str) (js:List Nat) (σ:St) (g:TG) (tt:TT) (te:TE) (Qd:List V->Hp->Prop) (J:It) (H1:Hp):Prop:=∃W:Nat->Nat->List V->Hp->Prop,(∃m,W 0 m [] H1)/\∀i m ys H2,W i m ys H2->
 (J.stop i H2/\ys.length<=sizeLine/\Qd ys H2)∨
 (J.go i H2/\ys.length <sizeLine/\∃N:List V->Hp->Prop,(∀ys' H',N ys' H'->∃m',m' <m/\W (i+1) m' ys' H')/\∀x H3,J.yld i H2 x H3->g x ((xs.map fun _=>none) ++ cY σ js) H3 fun σ2 H4=>σ2.drop xs.length=cY σ js/\tt σ2 H4 fun b H5=>
  if b=true then te σ2 H5 fun y H6=>N (ys ++ [y]) H6 else N ys H5)
noncomputable def Rj (xs:List Str) (js:List Nat) (wi:TI) (g:TG) (tt:TT) (te:TE):TE:=fun σ H Q=>wi σ H (xY xs js σ g tt te fun ys H2=>∀D,H2 D=none->Q (.ref D) (upd H2 D (.lst ys)))
section
variable {X:Cx} {tg:Expr} {g:TG} {pos:Pos} {iter elt:Expr} {ifs:List Expr} {scope:Scope} {wi:TI} {tt:TT} {te:TE}
theorem tH (xs:List Str) (js:List Nat) {pins:List (Addr×Obj)} {σ:St} {s:Shared} {itv:Value} {Q:List V->Hp->Prop} {RR:Value->Addr->Result->Shared->Prop} {E:Value->Shared->Prop}
  (hc:X.calm=true) (hk:scope.kind=.function) (hcell:∀y∈scope.names,y.2≠.cell)
  (hfree:∀y∈scope.names,y.2=.free->X.env.kindOf y.1=some .cell∨X.env.kindOf y.1=some .free)
  (hg:∀cl C s H ex,PG (j7 X scope xs js cl C s H ex) tg g)
  (hif:∀cl C s H ex,PF (j7 X scope xs js cl C s H ex) ifs tt) (he:∀cl C s H ex,PE (j7 X scope xs js cl C s H ex) elt te)
  (hjs:∀y∈dq X.N js,scope.names.lookup y=some .free) (hit:PIE X pins σ tg (xY xs js σ g tt te Q) itv s)
  (hR:∀D C s' H2 ys m,Inv X pins σ (upd H2 D (.lst ys)) s'->H2 D=none->s'.heap.Ns C m->(∀h',Heap.SameBut C s'.heap h'->Inv X pins σ (upd H2 D (.lst ys)) { s' with heap:=h' })->HR X pins (upd H2 D (.lst ys)) C->C≠D->Q ys H2->RR (.ref D) C (.ok .next) s'):
  wpAny (model X.prog X.w) X.A (newList []) (fun acc s₃=>wpAny (model X.prog X.w) X.A (newFunctionEnv scope X.env.globals (clos X.env scope.names []) [] X.env.qual none .none (some X.env)) (fun cenv s₄=>
   codeAny (model X.prog X.w) X.A (.compStart (.ListComp elt [⟨tg,iter,ifs,0⟩] scope pos) 0 itv acc { cenv with scope:=relabel scope X.env }) (RR acc cenv.locals) s₄) E s₃) E s:=by
 obtain⟨it,fp,tn,J,H1,rfl,I1,T,st1,f1,W,⟨m0,w0⟩,turn⟩:=hit
 refine wpAny_newObj_type (wpAny_newFunctionEnv hcell (by intro y hy;simp at hy) (fun h₁ hns₁ hsb₁=>?_) hk)
 dsimp only at hns₁ hsb₁ ⊢
 generalize hH2:s.heap.push { cls:=.type "list",dict:=none,data:=.seq ([]:List Value).toArray }=Hl at hns₁ hsb₁ ⊢
 generalize hDe:s.heap.objs.size=D
 have hCe:Hl.objs.size=D+1:=by rw [<-hH2,Heap.size_push,hDe]
 generalize hC:Hl.objs.size=C at hns₁ hsb₁ hCe ⊢
 subst hCe
 have hDC:D≠D+1:=Nat.ne_of_lt (Nat.lt_succ_self _)
 have lt:∀b o,s.heap.get? b=some o->b <D:=fun b o e=>hDe ▸ Heap.lt_size e
 have old:∀b o,s.heap.get? b=some o->h₁.get? b=some o:=fun b o e=>by
  have hb:=lt b o e
  refine hsb₁.extBut b o (Nat.ne_of_lt (Nat.lt_succ_of_lt hb)) (Heap.get?_push_of_some _ ?_)
  rw [<-hH2];exact Heap.get?_push_of_some _ e
 have accD:h₁.get? D=some { cls:=.type "list",dict:=none,data:=.seq ([]:List Value).toArray }:=by
  refine hsb₁.extBut _ _ hDC (Heap.get?_push_of_some _ ?_)
  rw [<-hH2,<-hDe];exact Heap.get?_push_size _ rfl
 have fresh:∀a,D<=a->H1 a=none:=fun a ha=>I1.hok.fresh (by rw [hDe];exact ha)
 have fpD:∀b∈fp,b <D:=fun b hb=>by
  obtain⟨o,e,_⟩:=T.obj 0 s.heap st1 b hb
  exact lt b o e
 have cellD:∀y c,X.env.cells.lookup y=some c->c <D:=fun y c e=>by
  obtain⟨v,q⟩:=I1.cell y c e
  exact hDe ▸ q.lt
 generalize hcl:clos X.env scope.names []=cl
 have clsub:∀y c,cl.lookup y=some c->X.env.cells.lookup y=some c:=by
  rw [<-hcl];exact Km scope.names [] fun y a e=>by simp at e
 have frD:∀b∈frs X.stack,b <D:=fun b hb=>by
  obtain⟨_,o,ho,_⟩:=I1.stack.mem hb
  exact lt b o ho
 let Y:Cx:=j7 X scope xs js cl (D+1) s H1 fp
 have kinds:∀y,Y.env.kindOf y=some .cell∨Y.env.kindOf y=some .free->∃k∈scope.names,k.1=y/\k.2=.free:=fun y hy=>by
  have hy':(relabel scope X.env).names.lookup y=some .cell∨(relabel scope X.env).names.lookup y=some .free:=hy
  rw [tR] at hy'
  cases q:scope.names.lookup y with
  | none=>rw [q] at hy';simp at hy'
  | some k=>
   have hm:=PySem.mem_of_lookup q
   refine⟨(y,k),hm,rfl,?_⟩
   have h1:k≠.cell:=hcell _ hm
   rw [q] at hy'
   simp only [Option.map_some,Option.some.injEq] at hy'
   by_cases hkf:k=.free
   ·exact hkf
   ·have:(k == NameKind.free)=false:=by simpa using hkf
    simp only [this,Bool.false_and,Bool.false_eq_true,if_false] at hy'
    rcases hy' with e | e
    ·exact absurd e h1
    ·exact absurd e hkf
 have okY:Y.Ok:=by
  refine⟨I1.ok.mod,hk,I1.ok.glob,I1.ok.blt,(by show s.heap.objs.size<=D+1;rw [hDe];exact Nat.le_succ _),fun y z c h1 h2=>I1.ok.inj y z c (clsub y c h1) (clsub z c h2),fun y hy=>?_,fun y c h _=>absurd h (by show ¬(false=true);decide),I1.ok.hd,I1.ok.frames,.inl rfl,fun b hb=>⟨Nat.ne_of_lt (Nat.lt_succ_of_lt (fpD b hb)),fun y c e z=>(f1 b hb).2.2.2.2.1 y c (clsub y c e) z⟩,
   fun b o e=>I1.bs b o e,Nat.le_trans I1.ok.bsz I1.sz,fun b o e hb=>?_,fun b hb hf=>?_,I1.stack,I1.stkFree⟩
  ·obtain⟨k,hm,e1,e2⟩:=kinds y hy
   show ∃c,cl.lookup y=some c
   rw [<-hcl]
   refine BX scope.names [] y (.inr ⟨k,hm,e1,e2,?_⟩)
   have:=hfree k hm e2
   rw [e1] at this
   exact I1.ok.has y this
  ·obtain⟨_,_,_,h4,_,_⟩:=f1 b hb
   rcases h4 with z | z
   ·exact I1.ok.noex b o e z
   ·exact absurd (Nat.lt_of_lt_of_le (Heap.lt_size e) (Nat.le_trans I1.ok.bsz z)) (Nat.lt_irrefl _)
  ·rcases List.mem_cons.mp (I1.stkSub b hf) with z | z
   ·exact(f1 b hb).2.1 z
   ·exact(f1 b hb).2.2.1 z
 let σ0:St:=(xs.map fun _=>none) ++ cY σ js
 have IY:Inv Y [] σ0 H1 { s with heap:=h₁,toks:=s.toks+([]:List (Str×Value)).length }:=by
  refine⟨okY,rfl,I1.bare,Un.kept old,⟨_,hns₁,fun i y v e1 e2 e3=>?_⟩,fun y c e=>?_,fresh _ (Nat.le_succ _),fun y c e=>I1.freeC y c (clsub y c e),fun p hp=>absurd (show p∈([]:List (Addr×Obj)) from hp) (by simp),I1.hok.kept old,?_⟩
  ·by_cases hi:i <xs.length
   ·exfalso
    have e2':((xs.map fun _=>(none:Option V)) ++ cY σ js)[i]?=some (some v):=e2
    rw [List.getElem?_append_left (by rw [List.length_map];exact hi),List.getElem?_map,List.getElem?_eq_getElem hi] at e2'
    cases e2'
   ·have e1':(xs ++ dq X.N js)[i]?=some y:=e1
    have e2':((xs.map fun _=>(none:Option V)) ++ cY σ js)[i]?=some (some v):=e2
    rw [List.getElem?_append_right (by omega)] at e1'
    rw [List.getElem?_append_right (by rw [List.length_map];omega),List.length_map] at e2'
    generalize i - xs.length=i at e1' e2'
    unfold dq at e1'
    unfold cY at e2'
    rw [List.getElem?_map] at e1' e2'
    cases q:js[i]? with
    | none=>rw [q] at e1';cases e1'
    | some j=>
     rw [q] at e1' e2'
     simp only [Option.map_some,Option.some.injEq] at e1' e2'
     have hv:σ[j]?=some (some v):=by
      cases z:σ[j]? with
      | none=>rw [z] at e2';cases e2'
      | some w=>rw [z] at e2';simpa using e2'
     have hj:j <X.N.length:=by
      rw [<-I1.len];exact(List.getElem?_eq_some_iff.mp hv).1
     have hy:X.N[j]?=some y:=by
      rw [List.getElem?_eq_getElem hj] at e1' ⊢
      rw [<-e1'];rfl
     obtain⟨m,hn,hl⟩:=I1.loc
     have hmem:y∈dq X.N js:=List.mem_map.mpr ⟨j,List.mem_of_getElem? q,by rw [hy];rfl⟩
     have hfr:=hjs y hmem
     have hkx:=hfree _ (PySem.mem_of_lookup hfr) rfl
     have hvis:Ze X.env.scope y:=hkx.elim (fun z=>.inr (.inl z)) fun z=>.inr (.inr z)
     obtain⟨u,r,l⟩:=hl j y v hy hv hvis
     refine⟨u,r,?_⟩
     rcases l with ⟨kl,_⟩ | ⟨_,c,hc1,z⟩
     ·exfalso
      have kl':X.env.kindOf y=some .local:=kl
      rcases hkx with w | w <;> · rw [show X.env.kindOf y=_ from w] at kl';cases kl'
     ·obtain⟨c',hc'⟩:=BX (env:=X.env) scope.names [] y (.inr ⟨_,PySem.mem_of_lookup hfr,rfl,rfl,c,hc1⟩)
      rw [hcl] at hc'
      have e4:=clsub y c' hc'
      rw [hc1] at e4
      cases e4
      obtain⟨o,ho,hd⟩:=z
      refine .inr ⟨?_,c,hc',o,old c o ho,hd⟩
      rcases e3 with e3 | e3 | e3
      ·exfalso
       have e3':(relabel scope X.env).names.lookup y=some .local:=e3
       rw [tR,hfr] at e3'
       simp only [Option.map_some,Option.some.injEq] at e3'
       split at e3' <;> cases e3'
      ·exact .inl e3
      ·exact .inr e3
  ·obtain⟨v,q⟩:=I1.cell y c (clsub y c e)
   obtain⟨o,ho,hd⟩:=q
   exact⟨v,o,old c o ho,hd⟩
  ·show((xs.map fun _=>(none:Option V)) ++ cY σ js).length=(xs ++ dq X.N js).length
   unfold cY dq
   rw [List.length_append,List.length_append,List.length_map,List.length_map,List.length_map]
 have mkR:∀(s':Shared) (H2:Hp) (ys:List V) (its:List Value) (σ':St),Inv Y [] σ' H2 s'->s'.heap.PlainList D its.toArray->Vals ys its->ys.length<=sizeLine->H2 D=none->Q ys H2->RR (.ref D) (D+1) (.ok .next) s':=by
  intro s' H2 ys its σ' I' pl rv hz hD hq
  obtain⟨m,hn,_⟩:=I'.loc
  have hn':s'.heap.Ns (D+1) m:=hn
  have hCn:H2 (D+1)=none:=I'.free
  have hch:∀b∈fp,(b∈X.ex∨X.s₀.heap.objs.size<=b)/\b≠X.env.locals/\(∀x c,X.env.cells.lookup x=some c->c≠b)/\∀p∈X.pn ++ pins,p.1≠b:=fun b hb=>by
   obtain⟨_,h2,_,h4,h5,h6⟩:=f1 b hb
   exact⟨h4,h2,h5,h6⟩
  have bs:Un (frs X.stack) fp H1 H2 s.heap s'.heap:=I'.base
  have all:∀h',Heap.SameBut (D+1) s'.heap h'->Inv X pins σ (upd H2 D (.lst ys)) { s' with heap:=h' }:=fun h' sb=>by
   have neD:∀b o,s.heap.get? b=some o->b≠D:=fun b o e=>Nat.ne_of_lt (lt b o e)
   have neC:∀b o,s.heap.get? b=some o->b≠D+1:=fun b o e=>Nat.ne_of_lt (Nat.lt_succ_of_lt (lt b o e))
   refine I1.call' (s':={ s' with heap:=h' }) (ch:=fp) I'.os ⟨fun b o e n hb hx=>?_,fun b o e n hb hx=>?_,fun b o e n hx=>?_,fun b o e hx=>?_,fun b xs e=>?_,fun b o u e=>?_,fun b ps e=>?_⟩ ?_ I'.bare hch
   ·exact(sb.2 b (neC b o e)).trans (bs.keep b o e n hb hx)
   ·obtain⟨sl,q⟩:=bs.slot b o e n hb hx
    exact⟨sl,(sb.2 b (neC b o e)).trans q⟩
   ·rw [aK (neD b o e)];exact bs.free b o e n hx
   ·obtain⟨o',q⟩:=bs.there b o e hx
    exact⟨o',(sb.2 b (neC b o e)).trans q⟩
   ·have:=bs.tups b xs e
    rw [aK (aD this hD)];exact this
   ·have:=bs.frzs b o u e
    rw [aK (aD this hD)];exact this
   ·obtain⟨more,q⟩:=bs.tbls b ps e
    exact⟨more,by rw [aK (aD q hD)];exact q⟩
   ·have h0:uX X.prog X.w H2 h':=fun b u e=>(I'.hok b u e).stay (fun c v hc q=>(sb.2 c (by
     rintro rfl
     rcases hc with z | z
     ·rw [z,e] at hCn;cases hCn
     ·rw [z] at hCn;cases hCn)).trans q) (fun _ q=>q) fun _ _ q=>q
    refine Od h0 hD ?_
    obtain⟨n,e⟩:=pl
    exact⟨hz,its,n,rv,(sb.2 D hDC).trans e⟩
  have hall:=all s'.heap (.refl ..)
  refine hR D (D+1) s' H2 ys m hall hD hn' all ?_ hDC.symm hq
  refine⟨by rw [aK hDC.symm];exact hCn,?_,?_,.inr (Nat.le_trans I1.sz (by rw [hDe];exact Nat.le_succ _)),fun y c e z=>?_,fun p hp z=>?_⟩
  ·exact Nat.ne_of_gt (Nat.lt_trans (hDe ▸ I1.lt) (Nat.lt_succ_self _))
  ·exact I1.nofs (by rw [hDe];exact Nat.le_succ _)
  ·exact absurd z (Nat.ne_of_lt (Nat.lt_succ_of_lt (cellD y c e)))
  ·exact absurd z (Nat.ne_of_lt (Nat.lt_succ_of_lt (lt _ _ (I1.pin p hp).1)))
 have loop:∀s₃:Shared,s₃={ s with heap:=h₁,toks:=s.toks+([]:List (Str×Value)).length }->
   codeAny (model X.prog X.w) X.A (.compLoop (.ListComp elt [⟨tg,iter,ifs,0⟩] scope pos) 0 (.ref it) (.ref D) Y.env) (RR (.ref D) (D+1)) s₃:=by
  rintro s₃ rfl
  have stat:∀{H':Hp} {ob:Obj},(∀b∈fp,H' b=none)->∀b∈fp,HR Y [(D,ob)] H' b:=fun {H'} {ob} hn b hb=>by
   refine⟨hn b hb,Nat.ne_of_lt (Nat.lt_succ_of_lt (fpD b hb)),fun hf=>okY.exfs b hb hf,.inl hb,fun y c e=>(okY.exf b hb).2 y c e,fun p hp z=>?_⟩
   have hp':p∈[(D,ob)]:=hp
   have e:p=(D,ob):=by simpa using hp'
   rw [e] at z
   exact absurd z (Ne.symm (Nat.ne_of_lt (fpD b hb)))
  refine Y8 (fun n s'=>∃i ys its H',∃ob:Obj,Inv Y [(D,ob)] σ0 H' s'/\(∃n,ob={ cls:=.type "list",data:=.seq its.toArray n })/\Vals ys its/\H' D=none/\tn i s'.heap/\(∀b∈fp,H' b=none)/\W i n ys H') ?_ m0
   ⟨0,[],[],H1,{ cls:=.type "list",dict:=none,data:=.seq ([]:List Value).toArray },?_,⟨_,rfl⟩,.nil,fresh _ (Nat.le_refl _),T.keep _ _ _ st1 fun b _ o e=>old b o e,fun b hb=>(f1 b hb).1,w0⟩
  ·rintro n s3 ⟨i,ys,its,H3,ob,I3,⟨cap,rfl⟩,rv,hD,st3,fr3,w3⟩
   rcases turn i n ys H3 w3 with ⟨stop,hz,hq⟩ | ⟨go,hz,N,hN7,step⟩
   ·refine wpAny_mono (T.done Y rfl rfl rfl hc i _ s3 σ0 H3 (fun _ _=>False) I3 (stat fr3) st3 stop) (fun r s4 ⟨hr,I4⟩=>?_) fun _ _ f=>f.elim
    subst hr
    exact mkR s4 H3 ys its σ0 (I4.pins_of fun p hp=>absurd hp (by simp)) ⟨cap,(I4.pin _ (List.mem_append_right _ List.mem_cons_self)).1⟩ rv hz hD hq
   ·refine wpAny_mono (T.item Y rfl rfl rfl hc i _ s3 σ0 H3 (fun _ _=>False) I3 (stat fr3) st3 go) (fun r s4 ⟨u,hr,h4⟩=>?_) fun _ _ f=>f.elim
    subst hr
    refine wpAny_mono h4 (fun _ s4 ⟨xv,H5,I5,r5,y5,st5,fr5⟩=>?_) fun _ _ f=>f.elim
    have I5':=I5.pinned (stat fr5) (T.obj _ _ st5)
    refine wpAny_mono (hg cl (D+1) s H1 fp _ _ σ0 H5 xv u _ I5' r5 (step xv H5 y5)) (fun _ s6 ⟨σ6,H6,I6,hσ6,q6⟩=>?_) fun _ _ f=>False.elim f
    have again:∀{s7:Shared} {H7:Hp} {ys7:List V} {its7:List Value} {cap7:Nat} {pl:List (Addr×Obj)},Inv Y ([(D,{ cls:=.type "list",data:=.seq its7.toArray cap7 })] ++ pl) σ6 H7 s7->(∀b∈fp,∀o,s4.heap.get? b=some o->s7.heap.get? b=some o/\H7 b=none)->Vals ys7 its7->(∃m',m' <n/\W (i+1) m' ys7 H7)->
      ∃m,m <n/\∃i ys its H',∃ob:Obj,Inv Y [(D,ob)] σ0 H' s7/\(∃n,ob={ cls:=.type "list",data:=.seq its.toArray n })/\Vals ys its/\H' D=none/\tn i s7.heap/\(∀b∈fp,H' b=none)/\W i m ys H':=by
     intro s7 H7 ys7 its7 cap7 pl I7 kf rv7 ⟨m',hm,w7⟩
     refine⟨m',hm,i+1,ys7,its7,H7,_,I7.unpinned.weak (by rw [I7.len];show((xs.map fun _=>(none:Option V)) ++ cY σ js).length=(xs ++ dq X.N js).length;unfold cY dq;rw [List.length_append,List.length_append,List.length_map,List.length_map,List.length_map]) fun j v e=>?_,⟨cap7,rfl⟩,rv7,(I7.pin _ (List.mem_append_right _ (List.mem_append_left _ List.mem_cons_self))).2.1,T.keep _ _ _ st5 fun b hb o e=>(kf b hb o e).1,fun b hb=>?_,w7⟩
     ·have e':((xs.map fun _=>(none:Option V)) ++ cY σ js)[j]?=some (some v):=e
      by_cases hj:j <xs.length
      ·exfalso
       rw [List.getElem?_append_left (by rw [List.length_map];exact hj),List.getElem?_map,List.getElem?_eq_getElem hj] at e'
       cases e'
      ·rw [List.getElem?_append_right (by rw [List.length_map];omega),List.length_map,<-hσ6,List.getElem?_drop] at e'
       rw [show xs.length+(j - xs.length)=j by omega] at e'
       exact e'
     ·obtain⟨o,e,_⟩:=T.obj _ _ st5 b hb
      exact(kf b hb o e).2
    refine wpAny_mono (hif cl (D+1) s H1 fp _ s6 _ H6 _ I6 q6) (fun ok s7 ⟨H7,I7,q7⟩=>?_) fun _ _ f=>False.elim f
    have kf7:∀b∈fp,∀o,s4.heap.get? b=some o->s7.heap.get? b=some o/\H7 b=none:=fun b hb o e=>
     have z:=I7.pin (b,o) (List.mem_append_right _ (List.mem_append_right _ (rK hb e)))
     ⟨z.1,z.2.1⟩
    cases ok with
    | false=>
     rw [if_neg Bool.false_ne_true] at q7 ⊢
     exact again I7 kf7 rv (hN7 _ _ q7)
    | true=>
     rw [if_pos rfl] at q7 ⊢
     refine wpAny_mono (he cl (D+1) s H1 fp _ s7 _ H7 _ I7 q7) (fun yv s8 ⟨y,H8,I8,r8,q8⟩=>?_) fun _ _ f=>False.elim f
     have pD:=I8.pin _ (List.mem_append_right _ (List.mem_append_left _ List.mem_cons_self))
     have hlen:=rv.length
     refine wpAny_list_append_plain (items:=its.toArray) ⟨cap,pD.1⟩ (fun h9 pl9 sb9=>?_) (by rw [List.size_toArray];omega)
     obtain⟨cap9,e9⟩:=pl9
     have I9:Inv Y [] σ6 H8 { s8 with heap:=h9 }:=(I8.pins_of (pins':=[]) fun p hp=>absurd hp (by simp)).turned (t':=s8.toks) (it:=D) (fun b o hb e=>(sb9.2 b hb).trans e) pD.2.1 hDC
      (.inr (Nat.le_of_eq hDe)) (fun y c e z=>absurd z (Nat.ne_of_lt (cellD y c (clsub y c e)))) fun p hp=>absurd (show p∈([]:List (Addr×Obj)) from hp) (by simp)
     have kf9:∀b∈fp,∀o,s4.heap.get? b=some o->h9.get? b=some o/\H8 b=none:=fun b hb o e=>by
      have z:=I8.pin (b,o) (List.mem_append_right _ (List.mem_append_right _ (rK hb e)))
      exact⟨(sb9.2 b (Nat.ne_of_lt (fpD b hb))).trans z.1,z.2.1⟩
     refine again (s7:={ s8 with heap:=h9 }) (its7:=its ++ [yv]) (cap7:=cap9) (pl:=[]) (I9.pins_of fun p hp=>?_) kf9 (rv.append (.cons r8 .nil)) (hN7 _ _ q8)
     have hp':p=(D,{ cls:=.type "list",data:=.seq (its ++ [yv]).toArray cap9 }):=by simpa using hp
     subst hp'
     refine⟨?_,pD.2.1,pD.2.2.1,pD.2.2.2.1,fun v z=>by cases z⟩
     rw [e9]
     simp
  ·refine IY.pins_of fun p hp=>?_
   have hp':p=(D,{ cls:=.type "list",dict:=none,data:=.seq ([]:List Value).toArray }):=by simpa using hp
   subst hp'
   exact⟨accD,fresh _ (Nat.le_refl _),hDC,fun hf=>Nat.lt_irrefl _ (frD _ hf),fun v z=>by cases z⟩
 exact codeAny_compStart_list (loop _ rfl) (wpAny_mono (T.self X.A 0 _ (fun v s'=>v=.ref it/\s'={ s with heap:=h₁,toks:=s.toks+([]:List (Str×Value)).length }) (fun _ _=>False) (T.keep _ _ _ st1 fun b _ o e=>old b o e) ⟨rfl,rfl⟩) (fun v s' ⟨e1,e2⟩=>by subst e1 e2;exact loop _ rfl) fun _ _ f=>f.elim)
theorem Ry (xs:List Str) (js:List Nat) (N0:List Str) (sc0:Scope) (hc:X.calm=true) (hi:PI X tg iter wi) (hg:∀cl C s H ex,PG (j7 X scope xs js cl C s H ex) tg g)
  (hif:∀cl C s H ex,PF (j7 X scope xs js cl C s H ex) ifs tt) (he:∀cl C s H ex,PE (j7 X scope xs js cl C s H ex) elt te)
  (hk:scope.kind=.function:=by rfl) (hcell:∀y∈scope.names,y.2≠.cell:=by decide +kernel)
  (hnames:∀y∈scope.names,y.2=.local->scope.names.lookup y.1=some .local:=by decide +kernel)
  (hsc:X.env.scope=sc0:=by rfl) (hfree0:∀y∈scope.names,y.2=.free->sc0.names.lookup y.1=some .cell∨sc0.names.lookup y.1=some .free:=by decide +kernel)
  (hNN:X.N=N0:=by rfl) (hj0:∀y∈dq N0 js,scope.names.lookup y=some .free:=by decide +kernel)
  (hs:∀x,foldedSetIterable iter X.env x=pure x:=by intro _;rfl):
  PE X (.ListComp elt [⟨tg,iter,ifs,0⟩] scope pos) (Rj xs js wi g tt te):=by
 intro pins s σ H Q I h
 have hfree:∀y∈scope.names,y.2=.free->X.env.kindOf y.1=some .cell∨X.env.kindOf y.1=some .free:=fun y hy e=>by
  show X.env.scope.names.lookup y.1=some .cell∨X.env.scope.names.lookup y.1=some .free
  rw [hsc];exact hfree0 y hy e
 rw [eval_ListComp]
 have hcl:closureFor scope X.env=pure (clos X.env scope.names []):=j9 fun y hy e=>I.ok.has y.1 (hfree y hy e)
 refine wpAny_comprehension_free (use:=none) rfl hs hcl hk hnames (dG (hi pins s σ H _ I h) fun xv s1 h1=>dG h1 fun it s2 h2=>?_)
 have hjs:∀y∈dq X.N js,scope.names.lookup y=some .free:=by rw [hNN];exact hj0
 refine tH xs js (RR:=fun acc C=>compPost (model X.prog X.w) X.A X.xe none (EP X pins σ Q) acc C) (Q:=fun ys H2=>∀D,H2 D=none->Q (.ref D) (upd H2 D (.lst ys))) hc hk hcell hfree hg hif he hjs h2 ?_
 intro D C s' H2 ys m I' hD hn all fpC hCD hq
 exact⟨m,hn,fun h' sb=>⟨.ref D,_,all h' sb,rfl,hq D hD⟩⟩
theorem Jy {i:Nat} {y:Str} {py spos:Pos} (xs:List Str) (js:List Nat) (N0:List Str) (sc0:Scope) (hc:X.calm=true) (hNX:X.N.Nodup) (hiy:X.N[i]?=some y) (hi:PI X tg iter wi) (hg:∀cl C s H ex,PG (j7 X scope xs js cl C s H ex) tg g)
  (hif:∀cl C s H ex,PF (j7 X scope xs js cl C s H ex) ifs tt) (he:∀cl C s H ex,PE (j7 X scope xs js cl C s H ex) elt te)
  (hsw:swapsWith (.ListComp elt [⟨tg,iter,ifs,0⟩] scope pos) (some (.Name y py)) spos.line X.env=pure true:=by rfl) (hy:X.env.scope.names.lookup y=some .local:=by rfl)
  (hk:scope.kind=.function:=by rfl) (hcell:∀y∈scope.names,y.2≠.cell:=by decide +kernel)
  (hnames:∀y∈scope.names,y.2=.local->scope.names.lookup y.1=some .local:=by decide +kernel)
  (hsc:X.env.scope=sc0:=by rfl) (hfree0:∀y∈scope.names,y.2=.free->sc0.names.lookup y.1=some .cell∨sc0.names.lookup y.1=some .free:=by decide +kernel)
  (hNN:X.N=N0:=by rfl) (hj0:∀y∈dq N0 js,scope.names.lookup y=some .free:=by decide +kernel)
  (hs:∀x,foldedSetIterable iter X.env x=pure x:=by intro _;rfl):
  PS X (.Assign [.Name y py] (.ListComp elt [⟨tg,iter,ifs,0⟩] scope pos) spos) (Sh (Rj xs js wi g tt te) (yu i)):=by
 intro pins s σ H D I h
 have hfree:∀y∈scope.names,y.2=.free->X.env.kindOf y.1=some .cell∨X.env.kindOf y.1=some .free:=fun y hy e=>by
  show X.env.scope.names.lookup y.1=some .cell∨X.env.scope.names.lookup y.1=some .free
  rw [hsc];exact hfree0 y hy e
 have hjs:∀y∈dq X.N js,scope.names.lookup y=some .free:=by rw [hNN];exact hj0
 rw [exec_Assign_Name_used _ _ _ _ hsw]
 refine wpAny_bind (wpAny_standAt (wpAny_bind ?_))
 show wpAny _ X.A (do let _ <-comprehension (.ListComp elt [⟨tg,iter,ifs,0⟩] scope pos) scope X.env _ (newList []) false (eval iter X.env) (some (assign (.Name y py) X.env))) _ _ s
 have hcl:closureFor scope X.env=pure (clos X.env scope.names []):=j9 fun y hy e=>I.ok.has y.1 (hfree y hy e)
 refine wpAny_bind (wpAny_mono (wpAny_comprehension_free (use:=some (assign (.Name y py) X.env)) (Q:=fun _ s'=>SP X pins D .next s') rfl hs hcl hk hnames
  (dG (hi pins s σ H _ I h) fun xv s1 h1=>dG h1 fun it s2 h2=>?_)) (fun _ s' hq=>wpAny_pure (wpAny_pure hq)) fun _ _ e=>e)
 refine tH xs js (RR:=fun acc C=>compPost (model X.prog X.w) X.A X.xe (some (assign (.Name y py) X.env)) (fun _ s'=>SP X pins D .next s') acc C) (Q:=fun ys H2=>∀D',H2 D'=none->D.nx (σ.set i (some (.ref D'))) (upd H2 D' (.lst ys))) hc hk hcell hfree hg hif he hjs h2 ?_
 intro D' C s' H2 ys m I' hD hn all fpC hCD hq
 show wpAny _ X.A (assign (.Name y py) X.env (.ref D')) _ _ _
 refine wpAny_assign_Name (zK I' hNX hiy (.inl hy) (v:=.ref D') rfl (fun s'' I'' ⟨a,sb,ha⟩=>?_) (.inr hy))
 obtain⟨f1,f2,f3,f4,f5,f6⟩:=fpC
 have hCa:C≠a:=by
  rcases ha with z | z
  ·rw [z];exact f2
  ·exact fun w=>f5 _ _ z w.symm
 exact⟨m,hn.sameBut sb hCa,fun h' sb'=>⟨_,_,I''.turned (t':=s''.toks) (it:=C) (fun b o hb e=>(sb'.2 b hb).trans e) f1 f2 f4 f5 f6,hq D' hD⟩⟩
end
theorem BW {ts:List Str} {js:List Nat} {σ:St} {g:TG} {tt:TT} {te:TE} {Qd:List V->Hp->Prop} {K:PySem.W.Frag} {a:Addr} {xs:List V} {H:Hp} (Pv:Nat->List V->Hp->Prop) (hn:xs.length<=sizeLine) (h0:Pv 0 [] H) (hl:∀i ys H,Pv i ys H->ys.length<=i) (hq:∀i ys H,i<=xs.length->Pv i ys H->bJ K H a xs)
  (hs:∀i x ys H,xs[i]?=some x->Pv i ys H->g x ((ts.map fun _=>none) ++ cY σ js) H fun σ2 H3=>σ2.drop ts.length=cY σ js/\tt σ2 H3 fun b H4=>if b=true then te σ2 H4 fun y H5=>Pv (i+1) (ys ++ [y]) H5 else Pv (i+1) ys H4)
  (hd:∀ys H,Pv xs.length ys H->Qd ys H):xY ts js σ g tt te Qd (Xh K a) H:=by
 refine⟨fun i m ys H=>m=xs.length - i/\i<=xs.length/\Pv i ys H,⟨xs.length,by simp,Nat.zero_le _,h0⟩,?_⟩
 rintro i m ys H ⟨rfl,hi,p⟩
 have hlen:=hl i ys H p
 have q:=hq i ys H hi p
 by_cases hlt:i <xs.length
 ·refine .inr ⟨⟨xs,xs[i],q,by simp [hlt]⟩,by omega,Pv (i+1),fun ys' H' p'=>⟨xs.length - (i+1),by omega,rfl,hlt,p'⟩,fun x H' y=>?_⟩
  obtain⟨e,y⟩:=y
  subst e
  exact hs i x ys _ (y xs q) p
 ·have e:i=xs.length:=by omega
  subst e
  exact .inl ⟨⟨xs,q,Nat.le_refl _⟩,by omega,hd ys H p⟩
structure K3 (K:PySem.W.Frag) (x qual:Str) (st:Stmt) (f:Addr) (fd:FuncData) (its:Array Value):Prop where
 ex:∃(oc:Value) (od:Option Addr) (T:Addr) (kV doc pm:Value) (an:Option Addr) (cdv ct:Value) (osl:Array (Option Value)) (o:Obj) (n:Nat),
  fd=PySem.W.fnOf x qual (iV st) (gq st) (aR st) (.ref T) kV doc pm an cdv ct/\K.lookup f=some ⟨oc,od,.func fd,osl⟩/\PySem.W.codeIn K cdv qual=true/\K.lookup T=some o/\o.data=.seq its n
 kp:PySem.W.keepIn K (.ref f)=true
section
variable {P:Program} {w:World} {K:PySem.W.Frag} {mg:Str->Option Value} {base:Heap} {its:Array Value}
theorem K3.ok {x qual:Str} {st:Stmt} {f:Addr} {fd:FuncData} {N ps:List Str} {k:Nat} {sp:Sp} (F:K3 K x qual st f fd its) (S:fV N ps (aR st)) (len:∀vs H Q E,sp vs H Q E->vs.length=ps.length)
  (hbody:∀(cdv:Value) (A:Around) (outer:List Env) (s:Shared) (H:Hp) (vs:List V) (Q:VK) (E:XK),iQ k (A.deeper (envOfC qual (aR st) s.heap.objs.size f cdv))->sp vs H Q E->
   ∃t,Ni (K4 Bp P w K mg base N qual (aR st) f cdv A outer s H E).nox (gq st) t/\t { nx:=fun _ H'=>Q .non H',rt:=Q } (start N vs) H):iR P w K mg base Bp (k+1) f fd ps sp:=by
 obtain⟨oc,od,T,kV,doc,pm,an,cdv,ct,osl,o,n,rfl,lk,hcd,_⟩:=F.ex
 refine VL lk hcd S len fun A outer s H vs Q E hr hsp=>?_
 obtain⟨t,h,q⟩:=hbody cdv A outer s H vs Q E hr hsp
 exact⟨t,h.nox,q⟩
theorem K3.binds {x qual:Str} {st:Stmt} {f:Addr} {fd:FuncData} {ps:List Str} (F:K3 K x qual st f fd its)
  (h:∀(T:Addr) (kV doc pm:Value) (an:Option Addr) (cdv ct:Value) (us:List Value),us.length=ps.length->∃k,bindArgs (PySem.W.fnOf x qual (iV st) (gq st) (aR st) (.ref T) kV doc pm an cdv ct) ⟨us,[]⟩=seqItems? (.ref T) >>= k/\k (some its)=pure (ps.zip us)):Binds K fd ps []:=by
 obtain⟨oc,od,T,kV,doc,pm,an,cdv,ct,osl,o,n,rfl,lk,hcd,hT,ho⟩:=F.ex
 intro s us X hl
 rw [List.append_nil] at hl ⊢
 obtain⟨k,h1,h2⟩:=h T kV doc pm an cdv ct us hl
 exact .of_defaults rfl (X _ _ hT) ho h1 h2
theorem UV {x qual:Str} {st:Stmt} {f T:Addr} {oc:Value} {od an:Option Addr} {osl:Array (Option Value)} {kV doc pm cdv ct:Value} {o:Obj} {n:Nat} (l:K.lookup f=some ⟨oc,od,.func (PySem.W.fnOf x qual (iV st) (gq st) (aR st) (.ref T) kV doc pm an cdv ct),osl⟩)
  (c:PySem.W.codeIn K cdv qual=true) (k:PySem.W.keepIn K (.ref f)=true) (d:K.lookup T=some o) (e:o.data=.seq its n):K3 K x qual st f (PySem.W.fnOf x qual (iV st) (gq st) (aR st) (.ref T) kV doc pm an cdv ct) its:=⟨⟨oc,od,T,kV,doc,pm,an,cdv,ct,osl,o,n,rfl,l,c,d,e⟩,k⟩
end
theorem KN {ts:List Str} {js:List Nat} {σ:St} {g:TG} {tt:TT} {te:TE} {Qd:List V->Hp->Prop} {K:PySem.W.Frag} {a:Addr} {xs:List V} {H:Hp} (Pv:Nat->List V->Hp->Prop) (hn:xs.length<=sizeLine) (h0:Pv 0 [] H) (hl:∀i ys H,Pv i ys H->ys.length<=i) (hq:∀i ys H,i<=xs.length->Pv i ys H->bJ K H a xs)
  (hs:∀i x ys H p,xs[i]?=some x->Pv i ys H->H p=none->g (.ref p) ((ts.map fun _=>none) ++ cY σ js) (upd H p (.tup [.int (i:Nat),x])) fun σ2 H3=>σ2.drop ts.length=cY σ js/\tt σ2 H3 fun b H4=>if b=true then te σ2 H4 fun y H5=>Pv (i+1) (ys ++ [y]) H5 else Pv (i+1) ys H4)
  (hd:∀ys H,Pv xs.length ys H->Qd ys H):xY ts js σ g tt te Qd (WK K a) H:=by
 refine⟨fun i m ys H=>m=xs.length - i/\i<=xs.length/\Pv i ys H,⟨xs.length,by simp,Nat.zero_le _,h0⟩,?_⟩
 rintro i m ys H ⟨rfl,hi,p⟩
 have hlen:=hl i ys H p
 have q:=hq i ys H hi p
 by_cases hlt:i <xs.length
 ·refine .inr ⟨⟨xs,xs[i],q,by simp [hlt]⟩,by omega,Pv (i+1),fun ys' H' p'=>⟨xs.length - (i+1),by omega,rfl,hlt,p'⟩,fun x H' y=>?_⟩
  obtain⟨u,z,hu,ex,eH,hy⟩:=y
  subst ex eH
  exact hs i z ys H u (hy xs q) p hu
 ·have e:i=xs.length:=by omega
  subst e
  exact .inl ⟨⟨xs,q,Nat.le_refl _⟩,by omega,hd ys H p⟩
section
variable {X:Cx} {e:Expr} {es:List Expr} {te:TE} {t:TA} {pos:Pos} {st:Stmt} {rest:List Stmt} {ts us:TS}
end
section
variable {X:Cx}
noncomputable def RB (z:Str):Value->Bool
 | .str y _=>y.cps.toList == z.cps.toList
 | _=>false
theorem GQ {z:Str} {t:Tok}:∀{ys:List Str} {us:List Value},Vals (ys.map V.str) us->(∀u∈us,PySem.MeetsSeq.EqGives u (.str z t) (RB z u))/\us.countP (RB z)=ys.countP (fun y=>decide (y=z))/\∀(m:Nat) (u:Value),us[m]?=some u->∃y,ys[m]?=some y/\RB z u=decide (y=z)
 | [],us,r=>by
  rw [List.map_nil] at r
  cases r
  exact⟨(fun _ h=>by cases h),rfl,fun m u h=>by simp at h⟩
 | y:: ys,us,r=>by
  rw [List.map_cons] at r
  cases r with
  | cons r1 r2=>
   obtain⟨t',e⟩:=r1
   subst e
   obtain⟨h1,h2,h3⟩:=GQ (z:=z) (t:=t) r2
   have he:RB z (.str y t')=decide (y=z):=by
    show(y.cps.toList == z.cps.toList)=decide (y=z)
    rw [Bool.eq_iff_iff,beq_iff_eq,decide_eq_true_eq]
    exact⟨fun h=>ext_toList h,fun h=>by rw [h]⟩
   refine⟨fun u hu=>?_,?_,fun m u hm=>?_⟩
   ·rcases List.mem_cons.mp hu with rfl | hu
    ·exact PySem.SeqRoads2.EqGives.str y z t' t
    ·exact h1 u hu
   ·rw [List.countP_cons,List.countP_cons,h2,he]
   ·cases m with
    | zero=>
     simp only [List.getElem?_cons_zero,Option.some.injEq] at hm
     subst hm
     exact⟨y,rfl,he⟩
    | succ m=>exact h3 m u (by simpa using hm)
inductive J8 (x:V) (vs:List V) (H:Hp) (Q:VK):Prop where
 | mk:∀(l:Addr) (xs:List Str) (z:Str) (j:Nat),x=.ref l->vs=[.str z]->H l=some (.lst (xs.map V.str))->xs[j]?=some z->((∀m y,m <j->xs[m]?=some y->y≠z))->Q (.int (j:Nat)) H->J8 x vs H Q
noncomputable def Ti:V->List V->Hp->VK->Prop:=fun x vs H Q=>J8 x vs H Q
theorem Oh:Y7 X "list.index" Ti:=by
 intro pins s σ H x vs v us Q I rx rv h
 obtain⟨l,xs,z,j,rfl,rfl,hH,hj,hno,q⟩:=h
 cases rx
 obtain⟨u,rfl,ru⟩:=rv.one
 obtain⟨t,rfl⟩:=ru
 obtain⟨hz,its,n,r,hl,e⟩:=I.lstM hH
 have hsz:sizeLine=16777216:=sizeLine_eq
 obtain⟨h1,_,h3⟩:=GQ (z:=z) (t:=t) r
 have hjx:=(List.getElem?_eq_some_iff.mp hj).1
 rw [List.length_map] at hl hz
 have hji:j <its.length:=by omega
 refine call_meets F.slot_list_index ⟨_,e,rfl⟩ F.entry_list_index (F.args_list_index_2 _ _) (MeetsSeq.list_index l its.toArray n (.str z t) (RB z) (fun y hy=>h1 y (by simpa using hy)) j (by simpa using hji) (by omega) ?_ ?_) ⟨e,?_⟩
 ·obtain⟨y,hy,e2⟩:=h3 j its[j] (List.getElem?_eq_getElem hji)
  rw [hj] at hy
  cases hy
  simpa using e2
 ·intro m hm hlt
  have hm':m <its.length:=by simpa using hm
  obtain⟨y,hy,e2⟩:=h3 m its[m] (List.getElem?_eq_getElem hm')
  have:=hno m y hlt hy
  simp only [List.getElem_toArray]
  rw [e2]
  exact decide_eq_false this
 ·exact⟨.int (j:Nat),H,I.tok _,⟨s.toks,rfl⟩,q⟩
end
section
variable {X:Cx}
end
section
variable {prog:Program} {w:World} {A:Around} {E:Value->Shared->Prop}
end
noncomputable def Wl (K:PySem.W.Frag) (a:Addr) (xs:List V):It:=
 ⟨fun i H=>bJ K H a xs/\i <xs.length,fun i H x H'=>H'=H/\xs.reverse[i]?=some x,fun i H=>bJ K H a xs/\xs.length<=i⟩
theorem QX {P:Program} {w:World} {K:PySem.W.Frag} {tg:Expr} (a it:Addr) (xs:List V):Turn P w K tg (Wl K a xs) [it] it (fun i h=>i<=xs.length/\h.IsRevIter it a ((xs.length:Int) - 1 - (i:Int))) where
 mem:=by simp
 obj:=fun i h st b hb=>by
  have e:b=it:=by simpa using hb
  subst e
  obtain⟨_,o,e,c,d⟩:=st
  exact⟨o,e,fun v z=>by rw [d] at z;cases z⟩
 keep:=fun i h h' st k=>⟨st.1,st.2.at fun o e=>k it (by simp) o e⟩
 item:=by
  intro X hP hw hK hc i pins s σ H E I hf st hg
  subst hP hw hK
  obtain⟨hq,hi⟩:=hg
  obtain⟨its,rv,p,hz⟩:=I.list hq
  have hl:=rv.length
  obtain⟨f0,f1,f2,f3,f4,f5⟩:=hf it (by simp)
  have e1:(xs.length:Int) - 1 - (i:Int)=((xs.length - 1 - i:Nat):Int):=by omega
  have hit:=st.2
  rw [e1] at hit
  have hx:xs.reverse[i]?=some (xs[xs.length - 1 - i]'(by omega)):=by rw [List.getElem?_reverse hi];exact List.getElem?_eq_getElem _
  obtain⟨u,hu,ru⟩:=rv.get (List.getElem?_eq_getElem (show xs.length - 1 - i <xs.length by omega))
  refine wpAny_pyNext_rev_item hit p.isList (x:=u) (by simpa using hu) fun h' st' sb=>?_
  have e2:((xs.length - 1 - i:Nat):Int) - 1=(xs.length:Int) - 1 - ((i+1:Nat):Int):=by omega
  rw [e2] at st'
  have I1:Inv X pins σ H { s with heap:=h' }:=I.turned (t':=s.toks) (fun b o hb e=>(sb.2 b hb).trans e) f0 f1 f3 f4 f5
  obtain⟨o,e,c,d⟩:=id st'
  exact⟨u,rfl,Fq (s:={ s with heap:=h' }) e c d (by decide) ⟨_,H,I1,ru,⟨rfl,hx⟩,⟨hi,st'⟩,fun b hb=>(hf b hb).1⟩⟩
 done:=by
  intro X hP hw hK hc i pins s σ H E I hf st hg
  subst hP hw hK
  obtain⟨hq,hi⟩:=hg
  obtain⟨f0,f1,f2,f3,f4,f5⟩:=hf it (by simp)
  have hit:=st.2
  rw [show(xs.length:Int) - 1 - (i:Int)= -1 by have:=st.1;omega] at hit
  exact wpAny_pyNext_rev_end (I.ok.hd hc) hit fun h' eb=>⟨rfl,I.turned (t':=s.toks) (fun b o hb e=>eb b o hb e) f0 f1 f3 f4 f5⟩
 self:=fun _ _ _ _ _ st h=>wpAny_pyIter_revIter st.2 h
section
variable {X:Cx} {tg:Expr}
theorem JC:bootBuiltins "reversed" =some (.type "reversed"):=by decide +kernel
inductive VN (K:PySem.W.Frag) (R:It->Hp->Prop) (vs:List V) (H1:Hp):Prop where
 | mk:∀a xs,vs=[.ref a]->bJ K H1 a xs->R (Wl K a xs) H1->VN K R vs H1
noncomputable def Zt (K:PySem.W.Frag) (ta:TA):TI:=fun σ H R=>ta σ H fun vs H1=>VN K R vs H1
theorem Wy {l:Expr} {ta:TA} {p pos:Pos} (hg:Gl X "reversed") (hm:X.mg "reversed" =none) (ha:PA X [l] ta) (hs:starEach [l] X.env=[(false,eval l X.env)]:=by rfl):
  PI X tg (.Call (.Name "reversed" p) [l] [] pos) (Zt X.K ta):=by
 intro pins s σ H R I h
 refine Call_ (za I hg hm JC (PyProof.Rows.callWith_type1 (dG (ha pos pins s σ H _ I h) fun us s1 ⟨vs,H1,I1,r1,q1⟩=>?_) hs rfl))
 obtain⟨a,xs,e,hq,q⟩:=q1
 subst e
 obtain⟨u,rfl,ru⟩:=vals1 r1
 cases ru
 obtain⟨its,rv,pl,hz⟩:=I1.list hq
 have hl:=rv.length
 refine call_reversed_list pl.isList (wpAny_pyIter_revIter (it:=s1.heap.objs.size) (l:=a) (i:=(xs.length:Int) - 1) ⟨_,Heap.get?_push_size _ rfl,rfl,by simp [revObj,hl]⟩ ?_)
 refine⟨s1.heap.objs.size,[s1.heap.objs.size],_,_,H1,rfl,I1.kept (t':=s1.toks) fun b o e=>Heap.get?_push_of_some _ e,QX a _ xs,⟨Nat.zero_le _,⟨_,Heap.get?_push_size _ rfl,rfl,by simp [revObj,hl]⟩⟩,fun b hb=>?_,q⟩
 have e:b=s1.heap.objs.size:=by simpa using hb
 subst e
 exact I1.fpOk (Nat.le_refl _) (I1.hok.fresh (Nat.le_refl _))
end
theorem QC {js:List Nat} {tt:TT} {te:TE} {σ:St} {Qd:List V->Hp->Prop} {K:PySem.W.Frag} {a:Addr} {xs:List V} {H:Hp} (Pv:Nat->List V->Hp->Prop) (hn:xs.length<=sizeLine) (h0:Pv 0 [] H) (hl:∀i ys H,Pv i ys H->ys.length<=i) (hq:∀i ys H,i<=xs.length->Pv i ys H->bJ K H a xs)
  (hs:∀i x ys H,xs.reverse[i]?=some x->Pv i ys H->tt (some x:: cY σ js) H fun b H4=>if b=true then te (some x:: cY σ js) H4 fun y H5=>Pv (i+1) (ys ++ [y]) H5 else Pv (i+1) ys H4)
  (hd:∀ys H,Pv xs.length ys H->Qd ys H):CompEnd js tt te σ Qd (Wl K a xs) H:=by
 refine⟨fun i m ys H=>m=xs.length - i/\i<=xs.length/\Pv i ys H,⟨xs.length,by simp,Nat.zero_le _,h0⟩,?_⟩
 rintro i m ys H ⟨rfl,hi,p⟩
 have hlen:=hl i ys H p
 have q:=hq i ys H hi p
 by_cases hlt:i <xs.length
 ·refine .inr ⟨⟨q,hlt⟩,by omega,Pv (i+1),fun ys' H' p'=>⟨xs.length - (i+1),by omega,rfl,hlt,p'⟩,fun x H' y=>?_⟩
  obtain⟨rfl,y⟩:=y
  exact hs i x ys _ y p
 ·obtain rfl:i=xs.length:=by omega
  exact .inl ⟨⟨q,Nat.le_refl _⟩,by omega,hd ys H p⟩
section
variable {X:Cx} {e:Expr}
end
section
variable {X:Cx}
inductive Vv (K:PySem.W.Frag) (neg:Bool) (x:V) (y:V) (H:Hp) (Q:VK):Prop where
 | mk:∀d ds,Dt K H x d->Dt K H y (.list ds)->SeqAt.shaped d=true->SeqAt.shaped (.list ds)=true->(Q (.bl (if neg then !(ds.any fun z=>PyData.eqv z d) else ds.any fun z=>PyData.eqv z d)) H)->Vv K neg x y H Q
noncomputable def Z5 (K:PySem.W.Frag) (neg:Bool):R2:=fun x y H Q=>Vv K neg x y H Q
theorem Wo (hu:X.A.units+100 <cLine):sY X (compareOp .In) (Z5 X.K false):=by
 intro pins s σ H x y v u Q I rx ry h
 obtain⟨d,ds,h1,h2,s1,s2,q⟩:=h
 obtain⟨as,r1⟩:=h1.reads I rx
 obtain⟨bs,r2⟩:=h2.reads I ry
 exact SeqAt.in_list_reads r2 r1 (SeqAt.canLay_of_shaped s2) (SeqAt.canLay_of_shaped s1) (room_in_shaped s1 (by omega)) (cC I q rfl)
end
section
variable {M:Model} {A:Around} {E:Value->Shared->Prop} {nm q:Str} {C N:Addr} {bs bm:List Value} {hdct:Bool} {sn:List Str} {sub:List Value} {ab:Bool} {col:Option Bool} {dd:Option Addr} {k0 k1 k2 k3 k5:Option Value} {newId:String}
end
end L2
namespace L2
open PySem PyProof
section
variable {X:Cx} {x:Str} {px pos:Pos} {iter elt:Expr} {ifs:List Expr} {scope:Scope} {wi:TI} {tt:TT} {te:TE}
theorem Ax (js:List Nat) {pins:List (Addr×Obj)} {σ:St} {s:Shared} {itv:Value} {Q:List V->Hp->Prop} {RR:Value->Addr->Result->Shared->Prop} {E:Value->Shared->Prop}
  (hc:X.calm=true) (hk:scope.kind=.function) (hx:scope.names.lookup x=some .local) (hcell:∀y∈scope.names,y.2≠.cell)
  (hfree:∀y∈scope.names,y.2=.free->X.env.kindOf y.1=some .cell∨X.env.kindOf y.1=some .free)
  (hN:(x:: dq X.N js).Nodup) (hjs:∀y∈dq X.N js,scope.names.lookup y=some .free)
  (hif:∀cl C s H ex,PF (zA X scope x js cl C s H ex) ifs tt) (he:∀cl C s H ex,PE (zA X scope x js cl C s H ex) elt te)
  (hit:PIE X pins σ (.Name x px) (CompEnd js tt te σ Q) itv s)
  (hR:∀D C s' H2 ys m,Inv X pins σ (upd H2 D (.lst ys)) s'->H2 D=none->s'.heap.Ns C m->(∀h',Heap.SameBut C s'.heap h'->Inv X pins σ (upd H2 D (.lst ys)) { s' with heap:=h' })->HR X pins (upd H2 D (.lst ys)) C->C≠D->Q ys H2->RR (.ref D) C (.ok .next) s'):
  wpAny (model X.prog X.w) X.A (newList []) (fun acc s₃=>wpAny (model X.prog X.w) X.A (newFunctionEnv scope X.env.globals (clos X.env scope.names []) [] X.env.qual none .none (some X.env)) (fun cenv s₄=>
   codeAny (model X.prog X.w) X.A (.compStart (.ListComp elt [⟨.Name x px,iter,ifs,0⟩] scope pos) 0 itv acc { cenv with scope:=relabel scope X.env }) (RR acc cenv.locals) s₄) E s₃) E s:=
 tH (tg:=.Name x px) (g:=yu 0) [x] js hc hk hcell hfree (fun cl C s H ex=>pB (i:=0) hN rfl (.inl (lookup_relabel_local hx)) (.inr (lookup_relabel_local hx))) hif he hjs
  (by
   obtain⟨it,fp,tn,J,H',e,I,T,t0,hf,W,h0,hW⟩:=hit
   exact⟨it,fp,tn,J,H',e,I,T,t0,hf,W,h0,fun i m ys H2 w=>(hW i m ys H2 w).imp_right fun⟨a,b,N,c,d⟩=>⟨a,b,N,c,fun y H3 z=>⟨rfl,d y H3 z⟩⟩⟩) hR
theorem eU (js:List Nat) (N0:List Str) (sc0:Scope) (hc:X.calm=true) (hi:PI X (.Name x px) iter wi)
  (hif:∀cl C s H ex,PF (zA X scope x js cl C s H ex) ifs tt) (he:∀cl C s H ex,PE (zA X scope x js cl C s H ex) elt te)
  (hk:scope.kind=.function:=by rfl) (hx:scope.names.lookup x=some .local:=by rfl) (hcell:∀y∈scope.names,y.2≠.cell:=by decide +kernel)
  (hnames:∀y∈scope.names,y.2=.local->scope.names.lookup y.1=some .local:=by decide +kernel)
  (hsc:X.env.scope=sc0:=by rfl) (hfree0:∀y∈scope.names,y.2=.free->sc0.names.lookup y.1=some .cell∨sc0.names.lookup y.1=some .free:=by decide +kernel)
  (hNN:X.N=N0:=by rfl) (hN0:(x:: dq N0 js).Nodup:=by decide +kernel) (hj0:∀y∈dq N0 js,scope.names.lookup y=some .free:=by decide +kernel)
  (hs:∀x,foldedSetIterable iter X.env x=pure x:=by intro _;rfl):
  PE X (.ListComp elt [⟨.Name x px,iter,ifs,0⟩] scope pos) (VB js wi tt te):=by
 intro pins s σ H Q I h
 have hN:(x:: dq X.N js).Nodup:=by rw [hNN];exact hN0
 have hfree:∀y∈scope.names,y.2=.free->X.env.kindOf y.1=some .cell∨X.env.kindOf y.1=some .free:=fun y hy e=>by
  show X.env.scope.names.lookup y.1=some .cell∨X.env.scope.names.lookup y.1=some .free
  rw [hsc];exact hfree0 y hy e
 have hjs:∀y∈dq X.N js,scope.names.lookup y=some .free:=by rw [hNN];exact hj0
 rw [eval_ListComp]
 have hcl:closureFor scope X.env=pure (clos X.env scope.names []):=j9 fun y hy e=>I.ok.has y.1 (hfree y hy e)
 refine wpAny_comprehension_free (use:=none) rfl hs hcl hk hnames (dG (hi pins s σ H _ I h) fun xv s1 h1=>dG h1 fun it s2 h2=>?_)
 refine Ax js (RR:=fun acc C=>compPost (model X.prog X.w) X.A X.xe none (EP X pins σ Q) acc C) (Q:=fun ys H2=>∀D,H2 D=none->Q (.ref D) (upd H2 D (.lst ys))) hc hk hx hcell hfree hN hjs hif he h2 ?_
 intro D C s' H2 ys m I' hD hn all fpC hCD hq
 exact⟨m,hn,fun h' sb=>⟨.ref D,_,all h' sb,rfl,hq D hD⟩⟩
theorem iD {i:Nat} {y:Str} {py spos:Pos} (js:List Nat) (N0:List Str) (sc0:Scope) (hc:X.calm=true) (hNX:X.N.Nodup) (hiy:X.N[i]?=some y) (hi:PI X (.Name x px) iter wi)
  (hif:∀cl C s H ex,PF (zA X scope x js cl C s H ex) ifs tt) (he:∀cl C s H ex,PE (zA X scope x js cl C s H ex) elt te)
  (hsw:swapsWith (.ListComp elt [⟨.Name x px,iter,ifs,0⟩] scope pos) (some (.Name y py)) spos.line X.env=pure true:=by rfl) (hy:X.env.scope.names.lookup y=some .local:=by rfl)
  (hk:scope.kind=.function:=by rfl) (hx:scope.names.lookup x=some .local:=by rfl) (hcell:∀y∈scope.names,y.2≠.cell:=by decide +kernel)
  (hnames:∀y∈scope.names,y.2=.local->scope.names.lookup y.1=some .local:=by decide +kernel)
  (hsc:X.env.scope=sc0:=by rfl) (hfree0:∀y∈scope.names,y.2=.free->sc0.names.lookup y.1=some .cell∨sc0.names.lookup y.1=some .free:=by decide +kernel)
  (hNN:X.N=N0:=by rfl) (hN0:(x:: dq N0 js).Nodup:=by decide +kernel) (hj0:∀y∈dq N0 js,scope.names.lookup y=some .free:=by decide +kernel)
  (hs:∀x,foldedSetIterable iter X.env x=pure x:=by intro _;rfl):
  PS X (.Assign [.Name y py] (.ListComp elt [⟨.Name x px,iter,ifs,0⟩] scope pos) spos) (Sh (VB js wi tt te) (yu i)):=by
 intro pins s σ H D I h
 have hN:(x:: dq X.N js).Nodup:=by rw [hNN];exact hN0
 have hfree:∀y∈scope.names,y.2=.free->X.env.kindOf y.1=some .cell∨X.env.kindOf y.1=some .free:=fun y hy e=>by
  show X.env.scope.names.lookup y.1=some .cell∨X.env.scope.names.lookup y.1=some .free
  rw [hsc];exact hfree0 y hy e
 have hjs:∀y∈dq X.N js,scope.names.lookup y=some .free:=by rw [hNN];exact hj0
 rw [exec_Assign_Name_used _ _ _ _ hsw]
 refine wpAny_bind (wpAny_standAt (wpAny_bind ?_))
 show wpAny _ X.A (do let _ <-comprehension (.ListComp elt [⟨.Name x px,iter,ifs,0⟩] scope pos) scope X.env _ (newList []) false (eval iter X.env) (some (assign (.Name y py) X.env))) _ _ s
 have hcl:closureFor scope X.env=pure (clos X.env scope.names []):=j9 fun y hy e=>I.ok.has y.1 (hfree y hy e)
 refine wpAny_bind (wpAny_mono (wpAny_comprehension_free (use:=some (assign (.Name y py) X.env)) (Q:=fun _ s'=>SP X pins D .next s') rfl hs hcl hk hnames
  (dG (hi pins s σ H _ I h) fun xv s1 h1=>dG h1 fun it s2 h2=>?_)) (fun _ s' hq=>wpAny_pure (wpAny_pure hq)) fun _ _ e=>e)
 refine Ax js (RR:=fun acc C=>compPost (model X.prog X.w) X.A X.xe (some (assign (.Name y py) X.env)) (fun _ s'=>SP X pins D .next s') acc C) (Q:=fun ys H2=>∀D',H2 D'=none->D.nx (σ.set i (some (.ref D'))) (upd H2 D' (.lst ys))) hc hk hx hcell hfree hN hjs hif he h2 ?_
 intro D' C s' H2 ys m I' hD hn all fpC hCD hq
 show wpAny _ X.A (assign (.Name y py) X.env (.ref D')) _ _ _
 refine wpAny_assign_Name (zK I' hNX hiy (.inl hy) (v:=.ref D') rfl (fun s'' I'' ⟨a,sb,ha⟩=>?_) (.inr hy))
 obtain⟨f1,f2,f3,f4,f5,f6⟩:=fpC
 have hCa:C≠a:=by
  rcases ha with z | z
  ·rw [z];exact f2
  ·exact fun w=>f5 _ _ z w.symm
 exact⟨m,hn.sameBut sb hCa,fun h' sb'=>⟨_,_,I''.turned (t':=s''.toks) (it:=C) (fun b o hb e=>(sb'.2 b hb).trans e) f1 f2 f4 f5 f6,hq D' hD⟩⟩
end
end L2
namespace L2
open PySem PySem.Spec PyProof.Rows
noncomputable def fdOf (K:PySem.W.Frag) (f:Addr):FuncData:=match K.lookup f with
 | some ⟨_,_,.func d,_⟩=>d
 | _=>default
theorem Tt {K:PySem.W.Frag} {f:Addr} {oc:Value} {od:Option Addr} {fd:FuncData} {osl:Array (Option Value)} (l:K.lookup f=some ⟨oc,od,.func fd,osl⟩):fdOf K f=fd:=by
 unfold fdOf
 rw [l]
structure dW (K:PySem.W.Frag) (nm qn:Str) (s:Stmt) (f:Addr) (ps:List Str):Prop where
 F:Vr K nm qn s f (fdOf K f)
 b:Binds K (fdOf K f) ps []
 i:PySem.W.isFn K (.ref f)=true
theorem dW.me {K:PySem.W.Frag} {nm qn m:Str} {s:Stmt} {f C:Addr} {ps:List Str} (x:dW K nm qn s f ps) (h:PySem.W.findIn K (.ref C) m=some (some (.ref f))):Meth K C m f:=⟨h,x.i,x.F.kp⟩
theorem dW.of {K:PySem.W.Frag} {nm qn:Str} {s:Stmt} {f:Addr} {ps:List Str} {oc:Value} {od an:Option Addr} {osl:Array (Option Value)} {kV doc pm cdv ct:Value}
  (l:K.lookup f=some ⟨oc,od,.func (PySem.W.fnOf nm qn (iV s) (gq s) (aR s) .none kV doc pm an cdv ct),osl⟩) (c:PySem.W.codeIn K cdv qn=true) (k:PySem.W.keepIn K (.ref f)=true) (i:PySem.W.isFn K (.ref f)=true)
  (h:∀(kV doc pm:Value) (an:Option Addr) (cdv ct:Value) (us:List Value),us.length=ps.length->bindArgs (PySem.W.fnOf nm qn (iV s) (gq s) (aR s) .none kV doc pm an cdv ct) ⟨us,[]⟩=pure (ps.zip us)):dW K nm qn s f ps:=by
 have e:fdOf K f=PySem.W.fnOf nm qn (iV s) (gq s) (aR s) .none kV doc pm an cdv ct:=by
  unfold fdOf
  rw [l]
 have F:=WD l c k
 have b:=F.binds h
 rw [<-e] at F b
 exact⟨F,b,i⟩
structure Xq (K:PySem.W.Frag) (nm qn:Str) (s:Stmt) (f:Addr) (ps:List Str):Prop where
 F:K3 K nm qn s f (fdOf K f) #[.none]
 b:Binds K (fdOf K f) ps []
 i:PySem.W.isFn K (.ref f)=true
theorem Xq.me {K:PySem.W.Frag} {nm qn m:Str} {s:Stmt} {f C:Addr} {ps:List Str} (x:Xq K nm qn s f ps) (h:PySem.W.findIn K (.ref C) m=some (some (.ref f))):Meth K C m f:=⟨h,x.i,x.F.kp⟩
theorem Xq.of {K:PySem.W.Frag} {nm qn:Str} {s:Stmt} {f T:Addr} {ps:List Str} {oc oe:Value} {od an oh:Option Addr} {osl osm:Array (Option Value)} {kV doc pm cdv ct:Value} {n:Nat}
  (l:K.lookup f=some ⟨oc,od,.func (PySem.W.fnOf nm qn (iV s) (gq s) (aR s) (.ref T) kV doc pm an cdv ct),osl⟩) (d:K.lookup T=some ⟨oe,oh,.seq #[.none] n,osm⟩) (c:PySem.W.codeIn K cdv qn=true) (k:PySem.W.keepIn K (.ref f)=true) (i:PySem.W.isFn K (.ref f)=true)
  (h:∀fd:FuncData,K3 K nm qn s f fd #[.none]->Binds K fd ps []):Xq K nm qn s f ps:=by
 have F:=UV (its:=#[.none]) l c k d rfl
 have b:=h _ F
 rw [<-Tt l] at F b
 exact⟨F,b,i⟩
structure m8 (K:PySem.W.Frag) (mg:Str->Option Value) (nm:Str) (s:Stmt) (f:Addr) (ps:List Str):Prop where
 x:dW K nm nm s f ps
 m:mg nm=some (.ref f)
theorem m8.of {K:PySem.W.Frag} {mg:Str->Option Value} {nm:Str} {s:Stmt} {f:Addr} {ps:List Str} (m:mg nm=some (.ref f)) (x:dW K nm nm s f ps):m8 K mg nm s f ps:=⟨x,m⟩
theorem gC {mg:Str->Option Value} {nm:Str} {u:Value} {v:V} (m:mg nm=some u) (r:RelV v u):∃u,mg nm=some u/\RelV v u:=⟨u,m,r⟩
theorem m8.F {K:PySem.W.Frag} {mg:Str->Option Value} {nm:Str} {s:Stmt} {f:Addr} {ps:List Str} (h:m8 K mg nm s f ps):Vr K nm nm s f (fdOf K f):=h.x.F
theorem m8.b {K:PySem.W.Frag} {mg:Str->Option Value} {nm:Str} {s:Stmt} {f:Addr} {ps:List Str} (h:m8 K mg nm s f ps):Binds K (fdOf K f) ps []:=h.x.b
noncomputable def MB (K:PySem.W.Frag) (C:Addr):List (Str×Addr)->Prop
 | []=>True
 | (m,f):: r=>PySem.W.findIn K (.ref C) m=some (some (.ref f))/\MB K C r
noncomputable def NB (K:PySem.W.Frag) (C:Addr):List Str->Prop
 | []=>True
 | f:: r=>PySem.W.findIn K (.ref C) f=some none/\NB K C r
structure Jm (K:PySem.W.Frag) (mg:Str->Option Value) (nm:Str) (C:Addr) (ms:List (Str×Addr)) (as:List Str):Prop where
 m:mg nm=some (.ref C)
 c:Ot K C
 mks:PySem.W.makesIn K C=true
 kp:PySem.W.keepIn K (.ref C)=true
 me:MB K C ms
 na:NB K C as
theorem Jm.M {K:PySem.W.Frag} {mg:Str->Option Value} {nm:Str} {C f:Addr} {ms:List (Str×Addr)} {as ps:List Str} {n q:Str} {s:Stmt} (h:Jm K mg nm C (("__init__",f):: ms) as) (x:dW K n q s f ps):Mk K C f:=⟨h.mks,h.me.1,x.i,h.kp⟩
theorem Xi {K:PySem.W.Frag} {nm qn:Str} {st:Stmt} {f:Addr} {x:Str} (F:Vr K nm qn st f (fdOf K f))
  (h:∀(kV doc pm:Value) (an:Option Addr) (cdv ct v:Value),bindArgs (PySem.W.fnOf nm qn (iV st) (gq st) (aR st) .none kV doc pm an cdv ct) ⟨[v],[]⟩=pure [(x,v)]) (s:Shared) (v:Value):BindsTo s (fdOf K f) ⟨[v],[]⟩ [(x,v)]:=by
 obtain⟨oc,od,kV,doc,pm,an,cdv,ct,osl,e,lk,hcd⟩:=F.ex
 rw [e]
 exact .of_eq (h kV doc pm an cdv ct v)
theorem aad {K:PySem.W.Frag} {h:Heap} {C f:Addr} (X:K.In h) (_:PySem.W.findIn K (.ref C) "__init__" =some (some (.ref f))) (b:QM K C f=true):ExcAt K C:=(Cg.ofIn b).at X
theorem us_0 {α:Type} {P:List α->Prop} (h:P []):∀us:List α,us.length=0->P us
 | [],_=>h
theorem zc {α:Type} {P:List α->Prop} (h:∀a,P [a]):∀us:List α,us.length=1->P us
 | [a],_=>h a
theorem zF {α:Type} {P:List α->Prop} (h:∀a b,P [a,b]):∀us:List α,us.length=2->P us
 | [a,b],_=>h a b
theorem JF {α:Type} {P:List α->Prop} (h:∀a b c,P [a,b,c]):∀us:List α,us.length=3->P us
 | [a,b,c],_=>h a b c
theorem Wk {α:Type} {P:List α->Prop} (h:∀a b c d,P [a,b,c,d]):∀us:List α,us.length=4->P us
 | [a,b,c,d],_=>h a b c d
theorem WP {α:Type} {P:List α->Prop} (h:∀a b c d e,P [a,b,c,d,e]):∀us:List α,us.length=5->P us
 | [a,b,c,d,e],_=>h a b c d e
theorem Zn {α:Type} {P:List α->Prop} (h:∀a b c d e f,P [a,b,c,d,e,f]):∀us:List α,us.length=6->P us
 | [a,b,c,d,e,f],_=>h a b c d e f
theorem us_7 {α:Type} {P:List α->Prop} (h:∀a b c d e f g,P [a,b,c,d,e,f,g]):∀us:List α,us.length=7->P us
 | [a,b,c,d,e,f,g],_=>h a b c d e f g
theorem dW.sc {K:PySem.W.Frag} {nm qn:Str} {s:Stmt} {f:Addr} {ps:List Str} (_:dW K nm qn s f ps) (N:List Str) (h:fV N ps (aR s):=by exact⟨rfl,rfl,rfl,by decide +kernel,rfl,by decide +kernel,by decide +kernel⟩):fV N ps (aR s):=h
theorem m8.sc {K:PySem.W.Frag} {mg:Str->Option Value} {nm:Str} {s:Stmt} {f:Addr} {ps:List Str} (_:m8 K mg nm s f ps) (N:List Str) (h:fV N ps (aR s):=by exact⟨rfl,rfl,rfl,by decide +kernel,rfl,by decide +kernel,by decide +kernel⟩):fV N ps (aR s):=h
noncomputable abbrev FO (P:Program) (w:World) (K:PySem.W.Frag) (mg:Str->Option Value) (base:Heap) (k:Nat) (f:Addr) (ps:List Str) (sp:Sp):Prop:=iR P w K mg base Bp k f (fdOf K f) ps sp
theorem Nq {N ps:List Str} {sc:Scope} (h:fV N ps sc:=by exact⟨rfl,rfl,rfl,by decide +kernel,rfl,by decide +kernel,by decide +kernel⟩):fV N ps sc:=h
section
variable {X:Cx} {k k' i:Nat} {f C:Addr} {ps as:List Str} {ms:List (Str×Addr)} {sp:Sp} {x m nm qn n:Str} {p pos apos pos':Pos} {e o:Expr} {es:List Expr} {ta te:TE} {t:TA} {s:Stmt} {N:List Str}
theorem d7 (F:iR X.prog X.w X.K X.mg X.base Bp k f (fdOf X.K f) ps sp) (g:m8 X.K X.mg x s f ps) (hr:iQ k' X.A) (ha:PA X (e:: es) t) (hk:k<=k':=by decide) (hg:Gl X x:=by rfl)
  (hdb:(x == ("__debug__" :Str))=false:=by decide) (he:starEach (e:: es) X.env=(false,eval e X.env):: starEach es X.env:=by rfl) (hpl:(backTo pos (starEach es X.env)).any (·.1)=false:=by rfl):
  PE X (.Call (.Name x p) (e:: es) [] pos) (VR sp [] E0 t):=Td F (hr.mono hk) hg g.m g.F.kp g.b .nil gK ha hdb he hpl
theorem zb {pl:Sem Bool} (he:PE X o ta) (c:Jm X.K X.mg n C ms as) (hm:PySem.W.findIn X.K (.ref C) m=some (some (.ref f))) (F:iR X.prog X.w X.K X.mg X.base Bp k f (fdOf X.K f) ps sp) (g:dW X.K nm qn s f ps) (hr:iQ k' X.A) (ha:PA X (e:: es) t)
  (hk:k<=k':=by decide) (hst:starEach (e:: es) X.env=(false,eval e X.env):: starEach es X.env:=by rfl) (hpl:(backTo pos (starEach es X.env)).any (·.1)=false:=by rfl)
  (ht:eval (.Call (.Attribute o m apos) (e:: es) [] pos) X.env=(do
   let ov <-eval o X.env
   standAt apos.atName
   let (f,first) <-holding [ov] (getMethod ov m pl)
   callWith pos f first (backTo pos (starEach (e:: es) X.env)) (backToKw pos (keywordEach [] X.env))):=by rfl):
  PE X (.Call (.Attribute o m apos) (e:: es) [] pos) (Mw C m sp [] E0 ta t):=MJ he c.c (g.me hm) F (hr.mono hk) g.b .nil gK ha hst hpl ht
theorem Pj {pl:Sem Bool} (he:PE X o ta) (c:Jm X.K X.mg n C ms as) (hm:PySem.W.findIn X.K (.ref C) m=some (some (.ref f))) (F:iR X.prog X.w X.K X.mg X.base Bp k f (fdOf X.K f) ps sp) (g:dW X.K nm qn s f ps) (hr:iQ k' X.A)
  (hk:k<=k':=by decide) (ht:eval (.Call (.Attribute o m apos) [] [] pos) X.env=(do
   let ov <-eval o X.env
   standAt apos.atName
   let (f,first) <-holding [ov] (getMethod ov m pl)
   callWith pos f first (backTo pos (starEach [] X.env)) (backToKw pos (keywordEach [] X.env))):=by rfl):
  PE X (.Call (.Attribute o m apos) [] [] pos) (Mw C m sp [] E0 ta Qe):=Qo he c.c (g.me hm) F (hr.mono hk) g.b .nil gK ht
theorem gN {sc:Scope} (S:fV X.N ps sc) (i:Nat) (hi:X.N[i]?=some x:=by rfl) (hx:Loc X.env.scope x:=by first | exact Or.inl rfl | exact Or.inr rfl) (hf:X.fn x=true∨X.env.scope.names.lookup x=some .local:=by first | exact .inl rfl | exact .inr rfl | assumption):PG X (.Name x pos) (yu i):=pB S.nd hi hx hf
theorem sN {sc:Scope} (S:fV X.N ps sc) (i:Nat) (he:PE X e te) (hi:X.N[i]?=some x:=by rfl) (hx:Loc X.env.scope x:=by first | exact Or.inl rfl | exact Or.inr rfl) (hs:swapsWith e (some (.Name x pos')) pos.line X.env=pure false:=by rfl) (hf:X.fn x=true∨X.env.scope.names.lookup x=some .local:=by first | exact .inl rfl | exact .inr rfl | assumption):
  PS X (.Assign [.Name x pos'] e pos) (Sh te (yu i)):=Wv S.nd hi hx he hs hf
theorem IV (h1:PE X o ta) (h2:PA X (e:: es) t) (hbase:attributeBase o "append" X.env (eval o X.env)=eval o X.env:=by rfl)
  (hfew:((backTo pos (starEach (e:: es) X.env)).all (fun x=>!x.1) && (backToKw pos (keywordEach [] X.env)).all (fun x=>x.1.isSome) && decide ((e:: es).length+([]:List Keyword).length+(if ([]:List Keyword).isEmpty then 0 else 1) <30))=true:=by rfl)
  (hline:(apos.endLine == pos.line)=true:=by rfl) (hs:starEach (e:: es) X.env=(false,eval e X.env):: starEach es X.env:=by rfl) (hplain:(backTo pos (starEach es X.env)).any (·.1)=false:=by rfl):
  PE X (.Call (.Attribute o "append" apos) (e:: es) [] pos) (tBM X.K "list" M7 ta t):=yz PySem.F.plainAttrs_list PySem.F.slot_list_append PySem.F.type_list_append O3 h1 h2 hbase hfew hline hs hplain
end
theorem ln {sp:Sp} {ps:List Str} (h:∀vs H Q E,sp vs H Q E->vs.length=ps.length:=by
 intro _ _ _ _ h
 first
 | (cases h;subst_vars;rfl)
 | (cases h;rename_i h;cases h;subst_vars;rfl)
 | (obtain⟨_,rfl,_⟩:=h;rfl)
 | (obtain⟨_,_,rfl,_⟩:=h;rfl)
 | (obtain⟨_,_,_,rfl,_⟩:=h;rfl)):∀vs H Q E,sp vs H Q E->vs.length=ps.length:=h
end L2
namespace PySem
open PyProof.Rows
section
variable {prog:Program} {w:World} {A:Around} {R:Result->Shared->Prop} {I:Addr} {fp wr:List Addr} {G:Array GenState->Array GenState->Prop} {n:Nat} {P:Nat->Value->Prop} {St:Nat->Shared->Prop} {KK:Type} [DecidableEq KK] {knd:KeyKind prog w KK}
end
section
variable {prog:Program} {w:World} {A:Around} {E:Value->Shared->Prop} {s:Shared} {KK:Type} [DecidableEq KK] {knd:KeyKind prog w KK}
end
end PySem
namespace L2
open PySem PySem.Spec PyProof.Rows
section
variable {prog:Program} {w:World} {A:Around}
end
end L2
namespace One
open PySem PySem.W PySem.Calls PyProof.Rows
def Gb:Nat->BT->List Obj->BT
 | _,t,[]=>t
 | n,t,o:: r=>Gb (n+1) (t.ins n o) r
def Ja:Nat->BT->List Obj->Bool
 | _,_,[]=>true
 | n,t,o:: r=>((t.ins n o).get n).isSome && Ja (n+1) (t.ins n o) r
theorem G3 {life:Life}:∀(l:List Obj) (n:Nat) (t:BT) (as:List Obj),absHeap t n life=⟨as.toArray,life⟩->Ja n t l=true->absHeap (Gb n t l) (n+l.length) life=⟨(as ++ l).toArray,life⟩
 | [],n,t,as,h,_=>by simpa [Gb] using h
 | o:: r,n,t,as,h,k=>by
  simp only [Ja,Bool.and_eq_true] at k
  have e:=absHeap_ins (life:=life) k.1
  rw [h] at e
  have:=G3 r (n+1) (t.ins n o) (as ++ [o]) (by rw [e];simp [Heap.push]) k.2
  rw [List.append_assoc] at this
  rw [List.length_cons,show n+(r.length+1)=n+1+r.length by omega]
  exact this
def Y9 (tb:String->Option Builtin) (p:Program) (w:World) (m:Nat) (an:Option Value):Nat->SharedT->Thread->Option (SharedT×Thread)
 | 0,s,t=>some (s,t)
 | n+1,s,t=>match through t with
  | true=>some (s,t)
  | false=>match stepOk m an t with
   | false=>none
   | true=>match stepT (denote tb) p w s t with
    | some (s',t')=>Y9 tb p w m an n s' t'
    | none=>none
theorem Q7 {tb:String->Option Builtin} {p:Program} {w:World} {m:Nat} {an:Option Value}:∀{n:Nat} {s s':SharedT} {t t':Thread},Y9 tb p w m an n s t=some (s',t')->through t'=true->topRun tb p w m an (n+1) s.abs t=some s'.abs
 | 0,s,s',t,t',h,z=>by
  obtain⟨rfl,rfl⟩:=Prod.mk.inj (Option.some.inj h)
  unfold topRun
  rw [z]
 | n+1,s,s',t,t',h,z=>by
  unfold Y9 at h
  unfold topRun
  cases e1:through t with
  | true=>
   rw [e1] at h
   obtain⟨rfl,rfl⟩:=Prod.mk.inj (Option.some.inj h)
   rfl
  | false=>
   rw [e1] at h
   cases e2:stepOk m an t with
   | false=>rw [e2] at h;cases h
   | true=>
    rw [e2] at h
    cases e3:stepT (denote tb) p w s t with
    | none=>rw [e3] at h;cases h
    | some r=>
     obtain⟨s2,t2⟩:=r
     rw [e3] at h
     rw [stepT_spec e3]
     exact Q7 h z
def ends (r:SharedT×Thread):Option SharedT:=match through r.2 with
 | true=>some r.1
 | false=>none
theorem TY {tb:String->Option Builtin} {p:Program} {w:World} {m:Nat} {an:Option Value} {n:Nat} {s s':SharedT} {t:Thread} (h:(Y9 tb p w m an n s t).bind ends=some s'):topRun tb p w m an (n+1) s.abs t=some s'.abs:=by
 obtain⟨⟨s2,t2⟩,e1,e2⟩:=Option.bind_eq_some_iff.mp h
 unfold ends at e2
 cases z:through t2 with
 | false=>simp only [z] at e2;cases e2
 | true=>
  simp only [z] at e2
  cases e2
  exact Q7 e1 z
noncomputable def Xx (P:Params):Option Value:=(boot_heap P).nsMap mainGlobals "__annotations__"
noncomputable def S0 (w:World) (os:OsState):SharedT:=⟨Gb 0 .nil (boot_heap w.params).objs.toList,11,{},Array.mk [],boot_drawn,boot_toks,os⟩
theorem Wf (w:World) (os:OsState):(S0 w os).abs=⟨boot_heap w.params,Array.mk [],boot_drawn,boot_toks,os⟩:=by
 have e:=G3 (life:={}) (boot_heap w.params).objs.toList 0 .nil [] rfl (by rfl)
 have e2:absHeap (Gb 0 .nil (boot_heap w.params).objs.toList) 11 {}=boot_heap w.params:=e
 show(⟨absHeap (Gb 0 .nil (boot_heap w.params).objs.toList) 11 {},_,_,_,_⟩:Shared)=_
 rw [e2]
 rfl
noncomputable def Wm (p:Program) (M:Nat) (w:World) (os:OsState):Option SharedT:=(Y9 treeTable p w 11 (Xx w.params) M (S0 w os) (topStub p)).bind ends
noncomputable def PJ (p q:Program) (loose:List Str) (Xt:Shared->Bool) (M:Nat) (w:World) (os:OsState):=
 (Wm p M w os).map fun s=>(staticsOk (importedModules p.main.body) (boot_heap w.params) s.abs.heap && namesBound p s.abs.heap && gensDone s.abs && laidKept (boot_heap w.params) s.abs.heap,openSeen q loose (importedModules p.main.body) Xt true s.abs)
theorem U5 {p q:Program} {loose:List Str} {Xt:Shared->Bool} {α:Type} {Yf:Shared->α} {Ya:World->α} {N M:Nat} (e:opening p=plainProg p.main.scope.names) (hN:Nat.ble 600 N=true) (f:∀s,fenceModules? p s=some s) (le:Nat.ble (M+1) N=true)
  (A:∀w os,PJ p q loose Xt M w os=some (true,openGood q loose)) (B:∀w os,(Wm p M w os).map (fun s=>Yf s.abs)=some (Ya w)):LeftO p q loose Xt Yf Ya N:=fun w=>by
 obtain⟨⟨h,gs,d,k,os⟩,e1,e2⟩:=Option.map_eq_some_iff.mp (boot_open e hN f w)
 obtain⟨rfl,rfl,rfl,rfl⟩:h=boot_heap w.params/\gs=Array.mk []/\d=boot_drawn/\k=boot_toks:=by simpa using e2
 obtain⟨s1,r1,l1⟩:=Option.map_eq_some_iff.mp (A w os)
 obtain⟨s2,r2,l2⟩:=Option.map_eq_some_iff.mp (B w os)
 rw [r1] at r2
 cases r2
 obtain⟨l3,l4⟩:=Prod.mk.inj l1
 have r3:=TY r1
 rw [Wf] at r3
 have r4:=topRun_mono (N - (M+1)) _ _ _ _ r3
 rw [show M+1+(N - (M+1))=N by have:=Nat.le_of_ble_eq_true le;omega] at r4
 have t:topFrom treeTable p w N ⟨boot_heap w.params,Array.mk [],boot_drawn,boot_toks,os⟩=some s1.abs:=by
  unfold topFrom
  have z1:((boot_heap w.params).isNs mainGlobals && (Array.mk []:Array GenState).size == 0)=true:=by kernel_rfl
  dsimp only
  rw [z1]
  show((topRun treeTable p w 11 (Xx w.params) N _ _).bind _)=_
  rw [r4]
  show(match staticsOk (importedModules p.main.body) (boot_heap w.params) s1.abs.heap && namesBound p s1.abs.heap && gensDone s1.abs && laidKept (boot_heap w.params) s1.abs.heap with | true=>_ | false=>_)=_
  rw [l3]
 unfold openEnds
 rw [e1]
 show(topFrom treeTable p w N _).map _=_
 rw [t]
 exact congrArg some (Prod.ext l4 l2)
def xJ (s:SharedT) (a:Addr):Option Obj:=match Nat.blt a s.n with
 | true=>(match s.tree.get a with | some o=>alive o | none=>none)
 | false=>none
theorem P0 {s:SharedT} {a:Addr} {o:Obj} (h:xJ s a=some o):s.abs.heap.get? a=some o:=by
 unfold xJ at h
 cases e:Nat.blt a s.n with
 | false=>rw [e] at h;cases h
 | true=>
  rw [e] at h
  cases g:s.tree.get a with
  | none=>rw [g] at h;cases h
  | some x=>
   rw [g] at h
   exact(abs_get (Nat.le_of_ble_eq_true e) g).trans h
theorem Mx {s:SharedT}:∀{as:List Addr} {l:List (Addr×Obj)},as.map (xJ s)=l.map (fun p=>some p.2)->as.map s.abs.heap.get?=l.map fun p=>some p.2
 | [],[],_=>rfl
 | [],_:: _,h=>by cases h
 | _:: _,[],h=>by cases h
 | a:: as,x:: l,h=>by
  have h1:=List.cons.inj h
  show s.abs.heap.get? a:: as.map _=_
  rw [P0 h1.1,Mx h1.2]
  rfl
theorem chunk {o:Option SharedT} {as:List Addr} {l:List (Addr×Obj)} (n:Nat) (h1:o.map (fun s=>(as.take n).map (xJ s))=some ((l.take n).map fun p=>some p.2)) (h2:o.map (fun s=>(as.drop n).map (xJ s))=some ((l.drop n).map fun p=>some p.2)):
  o.map (fun s=>as.map (xJ s))=some (l.map fun p=>some p.2):=by
 obtain⟨s,e1,e2⟩:=Option.map_eq_some_iff.mp h1
 subst e1
 have e3:=Option.some.inj h2
 show some (as.map (xJ s))=_
 rw [<-List.take_append_drop n as,<-List.take_append_drop n l,List.map_append,List.map_append]
 exact congrArg some (congr (congrArg _ e2) e3)
theorem Ur {o:Option SharedT} {w:World} {K:Params->Frag} {as:List Addr} {e:∀P,as=(K P).map (·.1)} (h:o.map (fun s=>as.map (xJ s))=some ((K w.params).map fun p=>some p.2)):
  o.map (fun s=>Hook.obs (kHook K as e) s.abs)=some (Hook.val (kHook K as e) w):=by
 obtain⟨s,h1,h2⟩:=Option.map_eq_some_iff.mp h
 rw [h1]
 exact congrArg some (Mx h2)
end One
namespace HD
open PySem PySem.W PySem.Calls PyProof.Rows
abbrev rr:OpenRow:=OpenLaw.row PySem.Challenge.rw_holdlane_k63_whole_a_ring_stops_ranks_go
def q:Program:=view PySem.Challenge.pw_holdlane_k63_whole_a_ring_stops_ranks_go [87]
def loose:List PySem.Str:=(["_wall", "LaneError", "TooMany", "NoKind", "BadName", "Doubled", "NoSuch", "BadNumbers", "BadLanes", "BadRoom", "Open", "Loose", "NotCalm", "BadRow", "arcs_of", "arcs_of_lane"]:List PySem.Str) ++ (["gone_round", "ring_into", "ranks_or_ring", "ranks_by", "ring_among", "VALUES", "FIGURES", "LETTERS", "LONGEST_NAME", "is_whole", "is_value", "is_name", "rest", "COUNTS", "Part", "Give"]:List PySem.Str) ++ (["Take", "Pass", "Copy", "Turn", "Heap", "Add", "Less", "Order", "Choose", "Split", "is_kind", "need_fit", "made_of", "part_made", "MOST_LANES", "MOST_PARTS"]:List PySem.Str) ++ (["MOST_ROOM", "need_counts", "need_fresh", "need_lane", "fresh_part", "tie_lanes", "need_ends", "joined_with", "need_joined", "Net", "Flow", "LONGEST_ROW", "is_row", "need_rows", "Run", "_law_cell"]:List PySem.Str) ++ (["_law_mix", "_law_value", "_law_word", "_law_lane", "_law_part", "_law_pick", "_law_two", "_law_loop", "_law_step", "_law_closed", "_law_net", "_law_worked"]:List PySem.Str)
def Xt (s:Shared):Bool:=xlAt q [] s && recOk (RowW.records (OpenRow.toRowW (OpenLaw.row PySem.Challenge.rw_holdlane_k63_whole_a_ring_stops_ranks_go))) s
structure KA where
 K:Params->Frag
 as:List Addr
def pickK {r:OpenRow} {K:Params->Frag} {as:List Addr} (_:(∀H:Hook,(∃e,H=kHook K as e)->r.Holds)->r.Holds):KA:=⟨K,as⟩
local macro_rules | `(tactic| o_head $H)=>`(tactic| (rename_i hh;exact hh $H ⟨_,rfl⟩))
noncomputable def ka:KA:=pickK (r:=rr) (fun _=>by k_head)
theorem Ub (P:Params):KA.as ka=(ka.heap_1 P).map (·.1):=by kernel_rfl
noncomputable def runC:World->OsState->Option SharedT:=fun w os=>One.Wm PySem.Challenge.pw_holdlane_k63_whole_a_ring_stops_ranks_go 14060 w os
noncomputable def Hq:=fun(w:World) (os:OsState)=>One.PJ PySem.Challenge.pw_holdlane_k63_whole_a_ring_stops_ranks_go q loose Xt 14060 w os
noncomputable def M9:=some (true,openGood q loose)
theorem WQ:runC=runC:=rfl
name_quick runQ for HD.runC by HD.WQ
theorem QK:Hq=Hq:=rfl
name_quick looksQ for HD.Hq by HD.QK
theorem Ud:M9=M9:=rfl
name_quick goodQ for HD.M9 by HD.Ud
theorem A0 (w:World) (os:OsState):PySem.W.Fast.looksQ (w.withFollow "special-get-raises" false) os=PySem.W.Fast.goodQ:=by kernel_rfl
theorem Zr (w:World) (os:OsState):(PySem.W.Fast.runQ (w.withFollow "special-get-raises" false) os).map (fun s=>(KA.as ka).map (One.xJ s))=some ((ka.heap_1 (w.withFollow "special-get-raises" false).params).map fun p=>some p.2):=by kernel_rfl
theorem B0 (w:World) (os:OsState):(PySem.W.Fast.runQ (w.withFollow "special-get-raises" false) os).map (fun s=>(KA.as ka).map (One.xJ s))=some ((ka.heap_1 (w.withFollow "special-get-raises" false).params).map fun p=>some p.2):=Zr w os
theorem A1 (w:World) (os:OsState):PySem.W.Fast.looksQ (w.withFollow "special-get-raises" true) os=PySem.W.Fast.goodQ:=by kernel_rfl
theorem Z4 (w:World) (os:OsState):(PySem.W.Fast.runQ (w.withFollow "special-get-raises" true) os).map (fun s=>(KA.as ka).map (One.xJ s))=some ((ka.heap_1 (w.withFollow "special-get-raises" true).params).map fun p=>some p.2):=by kernel_rfl
theorem B1 (w:World) (os:OsState):(PySem.W.Fast.runQ (w.withFollow "special-get-raises" true) os).map (fun s=>(KA.as ka).map (One.xJ s))=some ((ka.heap_1 (w.withFollow "special-get-raises" true).params).map fun p=>some p.2):=Z4 w os
theorem A (w:World):∀os,Hq w os=M9:=by
 rw [PySem.W.Fast.looksQ_eq,PySem.W.Fast.goodQ_eq]
 exact byRow2 "special-get-raises" (P:=fun w=>∀os,PySem.W.Fast.looksQ w os=PySem.W.Fast.goodQ) A0 A1 w
theorem B (w:World):∀os,(runC w os).map (fun s=>(KA.as ka).map (One.xJ s))=some ((ka.heap_1 w.params).map fun p=>some p.2):=by
 rw [PySem.W.Fast.runQ_eq]
 exact byRow2 "special-get-raises" (P:=fun w=>∀os,(PySem.W.Fast.runQ w os).map (fun s=>(KA.as ka).map (One.xJ s))=some ((ka.heap_1 w.params).map fun p=>some p.2)) B0 B1 w
theorem head {d:DefRec} {kwd:List (PySem.Str×Expr)}
  (hdef:defOf q rr.name=some (d,kwd)) (hp:rr.prog.theDef rr.name=some (d.params,d.body,d.scope)) (hk:kwWritten? d.params.kwonlyargs d.params.kw_defaults=some kwd) (hwr:(!rr.writes || rr.records.isEmpty)=true)
  (k1:rr.wellSaid=true) (ok:(chainsOk q && opensWell rr.prog && (frees rr.toRowW && rr.within.isEmpty))=true) (hb:rr.prog.bare) (ho:opening PySem.Challenge.pw_holdlane_k63_whole_a_ring_stops_ranks_go=plainProg (PySem.Challenge.pw_holdlane_k63_whole_a_ring_stops_ranks_go).main.scope.names) (f:∀s,fenceModules? PySem.Challenge.pw_holdlane_k63_whole_a_ring_stops_ranks_go s=some s)
  (hw:rr.toRowW.promised) (hc:WalkO q loose (XL q []) (Hook.says (kHook ka.heap_1 (KA.as ka) Ub)) rr.toRowW d kwd fun f vs=>PySem.call f vs):rr.Holds:=by
 have left:LeftO PySem.Challenge.pw_holdlane_k63_whole_a_ring_stops_ranks_go q loose Xt (Hook.obs (kHook ka.heap_1 (KA.as ka) Ub)) (Hook.val (kHook ka.heap_1 (KA.as ka) Ub)) 28700:=One.U5 (M:=14060) ho rfl f rfl A fun w os=>One.Ur (B w os)
 exact holds_open (XP:=XL q []) (YP:=Hook.says (kHook ka.heap_1 (KA.as ka) Ub)) left (Hook.of _) (Hook.keeps _) (fun s z=>xl_of s (Bool.and_eq_true_iff.mp z).1) XL.keeps hdef hp hk (fun s z=>recFacts_of (Bool.and_eq_true_iff.mp z).2) hwr k1 ok hb hw hc
end HD
namespace K63
open PySem L2
theorem lM {α β:Type} {f:α->β} {l:List α}:(l.map f).length=l.length:=List.length_map ..
theorem lP {α:Type} {l m:List α}:(l ++ m).length=l.length+m.length:=List.length_append ..
theorem je {n:Nat} (h:Nat.ble n 16777216=true:=by rfl):n<=sizeLine:=by rw [sizeLine_eq];exact Nat.le_of_ble_eq_true h
noncomputable def top (i:Nat):Stmt:=PySem.Challenge.pw_holdlane_k63_whole_a_ring_stops_ranks_go.main.body.getD i (.Pass ⟨0,0,0,0⟩)
set_option genInjectivity false in
structure jw where
 (BZ DK bN uU sZ uN um ug uO wQ uz rT qy rP Fp DY Gu Ba QW cj lU cu cU rO qj qe qz qC rm qD oA lN nH ql qi Ek Ae xF z6 Av Az Aw DW zR Aa vI Cz Gy vV xr Ay yE Ak zY wj vQ jP jU iY ul tG iw qw ou ph nQ qg zg o9 uo GJ ym Al Cp yg su qZ uI jQ rn o8 uH zx lO lQ my jW wX Ks zX oJ vJ Vn Ma Li KQ KZ Ky Lw Ro Lq Ij CW Hf dD bU oO xH:Addr)
noncomputable abbrev ROWS:List (Str×List Int):=[("give",[0,0,1]),("take",[0,1,0]),("pass",[0,1,1]),("copy",[0,1,2]),("turn",[2,1,1]),("heap",[1,1,1]),("add",[0,2,1]),("less",[0,2,1]),("order",[0,2,2]),("choose",[0,3,1]),("split",[0,2,2])]
structure Txt (w:World) (K:PySem.W.Frag) (mg:Str->Option Value) (t:jw):Prop where
 iz:Jm K mg "Give" t.Ma [("__init__",t.bN),("kind",t.uU),("taking",t.cj),("lacks",t.cu),("worked",t.ql),("start",t.cU)] ["name", "numbers", "ins", "outs"]
 iJ:Jm K mg "Take" t.Li [("__init__",t.bN),("kind",t.sZ),("taking",t.cj),("lacks",t.cu),("worked",t.qi),("start",t.cU)] ["name", "numbers", "ins", "outs"]
 iu:Jm K mg "Pass" t.KQ [("__init__",t.bN),("kind",t.uN),("taking",t.cj),("lacks",t.cu),("worked",t.qj),("start",t.cU)] ["name", "numbers", "ins", "outs"]
 iH:Jm K mg "Copy" t.KZ [("__init__",t.bN),("kind",t.um),("taking",t.cj),("lacks",t.cu),("worked",t.qe),("start",t.cU)] ["name", "numbers", "ins", "outs"]
 iC:Jm K mg "Turn" t.Ky [("__init__",t.bN),("kind",t.ug),("taking",t.cj),("lacks",t.cu),("worked",t.qz),("start",t.cU)] ["name", "numbers", "ins", "outs"]
 iy:Jm K mg "Heap" t.Lw [("__init__",t.bN),("kind",t.uO),("taking",t.cj),("lacks",t.cu),("worked",t.qC),("start",t.rO)] ["name", "numbers", "ins", "outs"]
 lE:Jm K mg "Add" t.Ro [("__init__",t.bN),("kind",t.wQ),("taking",t.cj),("lacks",t.cu),("worked",t.rm),("start",t.cU)] ["name", "numbers", "ins", "outs"]
 iB:Jm K mg "Less" t.Lq [("__init__",t.bN),("kind",t.uz),("taking",t.cj),("lacks",t.cu),("worked",t.qD),("start",t.cU)] ["name", "numbers", "ins", "outs"]
 fK:Jm K mg "Order" t.Ij [("__init__",t.bN),("kind",t.rT),("taking",t.cj),("lacks",t.cu),("worked",t.oA),("start",t.cU)] ["name", "numbers", "ins", "outs"]
 dO:Jm K mg "Choose" t.CW [("__init__",t.bN),("kind",t.qy),("taking",t.lU),("lacks",t.cu),("worked",t.lN),("start",t.cU)] ["name", "numbers", "ins", "outs"]
 fB:Jm K mg "Split" t.Hf [("__init__",t.bN),("kind",t.rP),("taking",t.cj),("lacks",t.cu),("worked",t.nH),("start",t.cU)] ["name", "numbers", "ins", "outs"]
 aQ:Jm K mg "Net" t.dD [("__init__",t.o9),("lane_names",t.jP),("part_names",t.jU),("odd",t.zg),("names_of_kind",t.iY),("gives",t.ul),("takes",t.tG),("need_lane_name",t.iw),("room_of",t.qw),("first_of",t.ou),("giver_of",t.ph),("taker_of",t.nQ),("part_of",t.qg)] ["rooms", "firsts", "parts", "givers", "takers"]
 aY:Jm K mg "Flow" t.bU [("__init__",t.lO),("holds",t.qZ),("head",t.uI),("row_ended",t.jQ),("heads",t.rn),("lacking",t.o8),("deed",t.uH),("do",t.zx)] ["net", "ever", "gone", "kept", "done", "rows"]
 eG:Jm K mg "Run" t.oO [("__init__",t.oJ),("full_lane",t.lQ),("next_deed",t.my),("need_doors",t.jW),("step",t.wX)] ["net", "flow", "turns"]
 rC:m8 K mg "is_whole" (top 30) t.BZ ["thing"]
 oZ:m8 K mg "is_value" (top 31) t.DK ["thing"]
 aW:dW K "__init__" "Part.__init__" (inClass (top 36) 0) t.bN ["self", "name", "numbers", "ins", "outs"]
 pW:dW K "kind" "Give.kind" (inClass (top 37) 0) t.uU ["self"]
 pH:dW K "kind" "Take.kind" (inClass (top 38) 0) t.sZ ["self"]
 pU:dW K "kind" "Pass.kind" (inClass (top 39) 0) t.uN ["self"]
 pA:dW K "kind" "Copy.kind" (inClass (top 40) 0) t.um ["self"]
 pK:dW K "kind" "Turn.kind" (inClass (top 41) 0) t.ug ["self"]
 pF:dW K "kind" "Heap.kind" (inClass (top 42) 0) t.uO ["self"]
 rM:dW K "kind" "Add.kind" (inClass (top 43) 0) t.wQ ["self"]
 pZ:dW K "kind" "Less.kind" (inClass (top 44) 0) t.uz ["self"]
 mX:dW K "kind" "Order.kind" (inClass (top 45) 0) t.rT ["self"]
 j6:dW K "kind" "Choose.kind" (inClass (top 46) 0) t.qy ["self"]
 mZ:dW K "kind" "Split.kind" (inClass (top 47) 0) t.rP ["self"]
 vm:m8 K mg "is_kind" (top 48) t.Fp ["word"]
 wZ:m8 K mg "need_fit" (top 49) t.DY ["kind", "name", "numbers", "ins", "outs"]
 FW:m8 K mg "made_of" (top 50) t.Gu ["kind", "name", "numbers", "ins", "outs"]
 Ao:m8 K mg "part_made" (top 51) t.Ba ["kind", "name", "numbers", "ins", "outs"]
 Dy:m8 K mg "rest" (top 33) t.QW ["number"]
 bx:dW K "taking" "Part.taking" (inClass (top 36) 4) t.cj ["self", "heads"]
 jl:dW K "taking" "Choose.taking" (inClass (top 46) 1) t.lU ["self", "heads"]
 bA:dW K "lacks" "Part.lacks" (inClass (top 36) 3) t.cu ["self", "heads"]
 bG:dW K "start" "Part.start" (inClass (top 36) 2) t.cU ["self"]
 mY:dW K "start" "Heap.start" (inClass (top 42) 1) t.rO ["self"]
 j4:dW K "worked" "Pass.worked" (inClass (top 39) 1) t.qj ["self", "values", "kept"]
 kh:dW K "worked" "Copy.worked" (inClass (top 40) 1) t.qe ["self", "values", "kept"]
 j5:dW K "worked" "Turn.worked" (inClass (top 41) 1) t.qz ["self", "values", "kept"]
 kj:dW K "worked" "Heap.worked" (inClass (top 42) 2) t.qC ["self", "values", "kept"]
 mV:dW K "worked" "Add.worked" (inClass (top 43) 1) t.rm ["self", "values", "kept"]
 jZ:dW K "worked" "Less.worked" (inClass (top 44) 1) t.qD ["self", "values", "kept"]
 jy:dW K "worked" "Order.worked" (inClass (top 45) 1) t.oA ["self", "values", "kept"]
 jh:dW K "worked" "Choose.worked" (inClass (top 46) 2) t.lN ["self", "values", "kept"]
 jx:dW K "worked" "Split.worked" (inClass (top 47) 1) t.nH ["self", "values", "kept"]
 kI:dW K "worked" "Give.worked" (inClass (top 37) 1) t.ql ["self", "values", "kept"]
 kO:dW K "worked" "Take.worked" (inClass (top 38) 1) t.qi ["self", "values", "kept"]
 bB:m8 K mg "_law_mix" (top 75) t.Ek ["_law_cell_here", "_law_k"]
 jn:m8 K mg "_law_cell" (top 74) t.Ae ["_law_script", "_law_k"]
 gB:m8 K mg "_law_value" (top 76) t.xF ["_law_cell_here", "_law_k"]
 jq:m8 K mg "_law_word" (top 77) t.z6 ["_law_cell_here", "_law_k"]
 iI:m8 K mg "_law_lane" (top 78) t.Av ["_law_state", "_law_cell_here", "_law_back"]
 lB:m8 K mg "_law_pick" (top 80) t.Az ["_law_state", "_law_number"]
 cg:m8 K mg "_law_part" (top 79) t.Aw ["_law_state", "_law_cell_here", "_law_kind", "_law_numbers", "_law_ins", "_law_many"]
 wU:m8 K mg "_law_two" (top 81) t.DW ["_law_state", "_law_cell_here", "_law_one", "_law_odd"]
 uc:m8 K mg "_law_loop" (top 82) t.zR ["_law_state", "_law_cell_here", "_law_one"]
 tY:m8 K mg "_law_step" (top 83) t.Aa ["_law_state", "_law_cell_here", "_law_odd"]
 qx:m8 K mg "_law_closed" (top 84) t.vI ["_law_state", "_law_cell_here", "_law_back"]
 wW:m8 K mg "_law_net" (top 85) t.Cz ["_law_script", "_law_start", "_law_steps", "_law_odd"]
 zm:m8 K mg "is_name" (top 32) t.Gy ["thing"]
 qm:m8 K mg "need_counts" (top 56) t.vV ["lanes", "parts"]
 mK:m8 K mg "need_fresh" (top 57) t.xr ["name", "known"]
 ud:m8 K mg "need_lane" (top 58) t.Ay ["name", "room", "first"]
 rY:m8 K mg "fresh_part" (top 59) t.yE ["row", "known"]
 pY:m8 K mg "tie_lanes" (top 60) t.Ak ["part", "lanes", "rooms", "ends"]
 uA:m8 K mg "need_ends" (top 61) t.zY ["rooms", "givers", "takers"]
 qp:m8 K mg "joined_with" (top 62) t.wj ["part", "givers", "takers"]
 qb:m8 K mg "need_joined" (top 63) t.vQ ["names", "givers", "takers"]
 fZ:dW K "lane_names" "Net.lane_names" (inClass (top 64) 1) t.jP ["self"]
 dJ:dW K "part_names" "Net.part_names" (inClass (top 64) 2) t.jU ["self"]
 fQ:dW K "names_of_kind" "Net.names_of_kind" (inClass (top 64) 5) t.iY ["self", "kind"]
 kW:dW K "gives" "Net.gives" (inClass (top 64) 3) t.ul ["self"]
 uL:dW K "takes" "Net.takes" (inClass (top 64) 4) t.tG ["self"]
 dg:dW K "need_lane_name" "Net.need_lane_name" (inClass (top 64) 12) t.iw ["self", "name"]
 km:dW K "room_of" "Net.room_of" (inClass (top 64) 7) t.qw ["self", "name"]
 jG:dW K "first_of" "Net.first_of" (inClass (top 64) 8) t.ou ["self", "name"]
 o7:dW K "giver_of" "Net.giver_of" (inClass (top 64) 9) t.ph ["self", "name"]
 oE:dW K "taker_of" "Net.taker_of" (inClass (top 64) 10) t.nQ ["self", "name"]
 jg:dW K "part_of" "Net.part_of" (inClass (top 64) 11) t.qg ["self", "name"]
 yO:dW K "odd" "Net.odd" (inClass (top 64) 6) t.zg ["self"]
 jC:dW K "__init__" "Net.__init__" (inClass (top 64) 0) t.o9 ["self", "lanes", "parts"]
 oN:m8 K mg "arcs_of_lane" (top 17) t.uo ["net", "lane"]
 yX:m8 K mg "arcs_of" (top 16) t.GJ ["net"]
 rZ:m8 K mg "gone_round" (top 19) t.ym ["start", "leads"]
 tV:m8 K mg "ring_into" (top 20) t.Al ["start", "into"]
 wI:m8 K mg "ranks_by" (top 23) t.Cp ["names", "bare"]
 rJ:m8 K mg "ring_among" (top 24) t.yg ["names", "bare"]
 lZ:m8 K mg "ranks_or_ring" (top 22) t.su ["net"]
 mH:dW K "holds" "Flow.holds" (inClass (top 66) 1) t.qZ ["self", "lane"]
 uK:dW K "head" "Flow.head" (inClass (top 66) 5) t.uI ["self", "lane"]
 jR:dW K "row_ended" "Flow.row_ended" (inClass (top 66) 8) t.jQ ["self", "name"]
 mG:dW K "heads" "Flow.heads" (inClass (top 66) 6) t.rn ["self", "part"]
 oU:dW K "lacking" "Flow.lacking" (inClass (top 66) 7) t.o8 ["self", "name"]
 ut:dW K "deed" "Flow.deed" (inClass (top 66) 9) t.uH ["self", "name"]
 zG:dW K "do" "Flow.do" (inClass (top 66) 10) t.zx ["self", "name", "deed"]
 ji:dW K "__init__" "Flow.__init__" (inClass (top 66) 0) t.lO ["self", "net", "rows"]
 lW:dW K "full_lane" "Run.full_lane" (inClass (top 72) 4) t.lQ ["self", "deed"]
 mj:dW K "next_deed" "Run.next_deed" (inClass (top 72) 3) t.my ["self", "name"]
 jV:dW K "need_doors" "Run.need_doors" (inClass (top 72) 2) t.jW ["self", "names"]
 wC:Xq K "step" "Run.step" (inClass (top 72) 1) t.wX ["self", "held"]
 Cd:m8 K mg "is_row" (top 69) t.Ks ["thing"]
 uG:m8 K mg "need_rows" (top 70) t.zX ["net", "rows"]
 jE:dW K "__init__" "Run.__init__" (inClass (top 72) 0) t.oJ ["self", "net", "rows"]
 j0:m8 K mg "_law_worked" (top 86) t.vJ ["_law_net_here", "_law_rows", "_law_doors", "_law_cells", "_law_often"]
 Nh:m8 K mg "law" (top 87) t.Vn ["_law_script"]
 Fo:mg "COUNTS" =some (.ref t.xH)
 JV:KTab w K t.xH ROWS
 Mu:mg "all" =none
 Xg:mg "bool" =none
 Kc:mg "enumerate" =none
 YK:mg "int" =none
 mJ:mg "isinstance" =none
 fH:mg "len" =none
 wG:mg "list" =none
 Qm:mg "max" =none
 YS:mg "min" =none
 mU:mg "range" =none
 KJ:mg "reversed" =none
 VG:mg "str" =none
 Br:mg "tuple" =none
 Jt:∃u,mg "VALUES" =some u/\RelV (.int 1000000000) u
 FZ:∃u,mg "LETTERS" =some u/\RelV (.str "abcdefghijklmnopqrstuvwxyz") u
 Ej:∃u,mg "LONGEST_NAME" =some u/\RelV (.int 8) u
 Ox:∃u,mg "FIGURES" =some u/\RelV (.str "0123456789") u
 G5:∃u,mg "MOST_LANES" =some u/\RelV (.int 24) u
 HN:∃u,mg "MOST_PARTS" =some u/\RelV (.int 16) u
 Kl:∃u,mg "MOST_ROOM" =some u/\RelV (.int 199) u
 Fg:∃u,mg "LONGEST_ROW" =some u/\RelV (.int 300) u
section
variable {P:Program} {w:World} {K:PySem.W.Frag} {mg:Str->Option Value} {base:Heap} {t:jw}
noncomputable def dh (i:Nat):Str:=match i with
 | 0=> "give"
 | 1=> "take"
 | 2=> "pass"
 | 3=> "copy"
 | 4=> "turn"
 | 5=> "heap"
 | 6=> "add"
 | 7=> "less"
 | 8=> "order"
 | 9=> "choose"
 | _=> "split"
noncomputable def cN (i:Nat):Nat:=match i with
 | 0=>0
 | 1=>0
 | 2=>0
 | 3=>0
 | 4=>2
 | 5=>1
 | 6=>0
 | 7=>0
 | 8=>0
 | 9=>0
 | _=>0
noncomputable def cI (i:Nat):Nat:=match i with
 | 0=>0
 | 1=>1
 | 2=>1
 | 3=>1
 | 4=>1
 | 5=>1
 | 6=>2
 | 7=>2
 | 8=>2
 | 9=>3
 | _=>2
noncomputable def cO (i:Nat):Nat:=match i with
 | 0=>1
 | 1=>0
 | 2=>1
 | 3=>2
 | 4=>1
 | 5=>1
 | 6=>1
 | 7=>1
 | 8=>2
 | 9=>1
 | _=>2
noncomputable def cls (t:jw) (i:Nat):Addr:=match i with
 | 0=>t.Ma
 | 1=>t.Li
 | 2=>t.KQ
 | 3=>t.KZ
 | 4=>t.Ky
 | 5=>t.Lw
 | 6=>t.Ro
 | 7=>t.Lq
 | 8=>t.Ij
 | 9=>t.CW
 | _=>t.Hf
theorem row_of (i:Nat):rowOf ROWS (dh i)=some [((cN i:Nat):Int),((cI i:Nat):Int),((cO i:Nat):Int)]:=match i with
 | 0=>by show rowOf ROWS "give" =some [0,0,1];decide +kernel
 | 1=>by show rowOf ROWS "take" =some [0,1,0];decide +kernel
 | 2=>by show rowOf ROWS "pass" =some [0,1,1];decide +kernel
 | 3=>by show rowOf ROWS "copy" =some [0,1,2];decide +kernel
 | 4=>by show rowOf ROWS "turn" =some [2,1,1];decide +kernel
 | 5=>by show rowOf ROWS "heap" =some [1,1,1];decide +kernel
 | 6=>by show rowOf ROWS "add" =some [0,2,1];decide +kernel
 | 7=>by show rowOf ROWS "less" =some [0,2,1];decide +kernel
 | 8=>by show rowOf ROWS "order" =some [0,2,2];decide +kernel
 | 9=>by show rowOf ROWS "choose" =some [0,3,1];decide +kernel
 | n+10=>by show rowOf ROWS "split" =some [0,2,2];decide +kernel
theorem ie (T:Txt w K mg t) (i:Nat):Ot K (cls t i):=match i with
 | 0=>T.iz.c
 | 1=>T.iJ.c
 | 2=>T.iu.c
 | 3=>T.iH.c
 | 4=>T.iC.c
 | 5=>T.iy.c
 | 6=>T.lE.c
 | 7=>T.iB.c
 | 8=>T.fK.c
 | 9=>T.dO.c
 | n+10=>T.fB.c
theorem Bx (T:Txt w K mg t) (i:Nat):oG K (cls t i) "name" :=match i with
 | 0=>T.iz.na.1
 | 1=>T.iJ.na.1
 | 2=>T.iu.na.1
 | 3=>T.iH.na.1
 | 4=>T.iC.na.1
 | 5=>T.iy.na.1
 | 6=>T.lE.na.1
 | 7=>T.iB.na.1
 | 8=>T.fK.na.1
 | 9=>T.dO.na.1
 | n+10=>T.fB.na.1
theorem qT (T:Txt w K mg t) (i:Nat):oG K (cls t i) "numbers" :=match i with
 | 0=>T.iz.na.2.1
 | 1=>T.iJ.na.2.1
 | 2=>T.iu.na.2.1
 | 3=>T.iH.na.2.1
 | 4=>T.iC.na.2.1
 | 5=>T.iy.na.2.1
 | 6=>T.lE.na.2.1
 | 7=>T.iB.na.2.1
 | 8=>T.fK.na.2.1
 | 9=>T.dO.na.2.1
 | n+10=>T.fB.na.2.1
theorem yZ (T:Txt w K mg t) (i:Nat):oG K (cls t i) "ins" :=match i with
 | 0=>T.iz.na.2.2.1
 | 1=>T.iJ.na.2.2.1
 | 2=>T.iu.na.2.2.1
 | 3=>T.iH.na.2.2.1
 | 4=>T.iC.na.2.2.1
 | 5=>T.iy.na.2.2.1
 | 6=>T.lE.na.2.2.1
 | 7=>T.iB.na.2.2.1
 | 8=>T.fK.na.2.2.1
 | 9=>T.dO.na.2.2.1
 | n+10=>T.fB.na.2.2.1
theorem Iw (T:Txt w K mg t) (i:Nat):oG K (cls t i) "outs" :=match i with
 | 0=>T.iz.na.2.2.2.1
 | 1=>T.iJ.na.2.2.2.1
 | 2=>T.iu.na.2.2.2.1
 | 3=>T.iH.na.2.2.2.1
 | 4=>T.iC.na.2.2.2.1
 | 5=>T.iy.na.2.2.2.1
 | 6=>T.lE.na.2.2.2.1
 | 7=>T.iB.na.2.2.2.1
 | 8=>T.fK.na.2.2.2.1
 | 9=>T.dO.na.2.2.2.1
 | n+10=>T.fB.na.2.2.2.1
theorem X5 (i:Nat):cN i<=2:=match i with
 | 0=>by show 0<=2;decide
 | 1=>by show 0<=2;decide
 | 2=>by show 0<=2;decide
 | 3=>by show 0<=2;decide
 | 4=>by show 2<=2;decide
 | 5=>by show 1<=2;decide
 | 6=>by show 0<=2;decide
 | 7=>by show 0<=2;decide
 | 8=>by show 0<=2;decide
 | 9=>by show 0<=2;decide
 | n+10=>by show 0<=2;decide
theorem Gm (i:Nat):cI i<=3:=match i with
 | 0=>by show 0<=3;decide
 | 1=>by show 1<=3;decide
 | 2=>by show 1<=3;decide
 | 3=>by show 1<=3;decide
 | 4=>by show 1<=3;decide
 | 5=>by show 1<=3;decide
 | 6=>by show 2<=3;decide
 | 7=>by show 2<=3;decide
 | 8=>by show 2<=3;decide
 | 9=>by show 3<=3;decide
 | n+10=>by show 2<=3;decide
theorem RC (i:Nat):cO i<=2:=match i with
 | 0=>by show 1<=2;decide
 | 1=>by show 0<=2;decide
 | 2=>by show 1<=2;decide
 | 3=>by show 2<=2;decide
 | 4=>by show 1<=2;decide
 | 5=>by show 1<=2;decide
 | 6=>by show 1<=2;decide
 | 7=>by show 1<=2;decide
 | 8=>by show 2<=2;decide
 | 9=>by show 1<=2;decide
 | n+10=>by show 2<=2;decide
theorem gO {f:Str} {y:V} {fs:List (Str×V)} {n:Nat} (h:fs.length<=n):(aJ f y fs).length<=n+1:=Nat.le_trans (tO f y fs) (Nat.succ_le_succ h)
noncomputable def Cw (nm:V) (tn ti to:Addr):List (Str×V):=aJ "outs" (.ref to) (aJ "ins" (.ref ti) (aJ "numbers" (.ref tn) (aJ "name" nm [])))
theorem zq (nm:V) (tn ti to:Addr):(Cw nm tn ti to).lookup ("name" :Str)=some nm:=by
 unfold Cw
 rw [aC,if_neg (by decide +kernel),aC,if_neg (by decide +kernel),aC,if_neg (by decide +kernel),aC,if_pos rfl]
theorem qW (nm:V) (tn ti to:Addr):(Cw nm tn ti to).lookup ("numbers" :Str)=some (.ref tn):=by
 unfold Cw
 rw [aC,if_neg (by decide +kernel),aC,if_neg (by decide +kernel),aC,if_pos rfl]
theorem uB (nm:V) (tn ti to:Addr):(Cw nm tn ti to).lookup ("ins" :Str)=some (.ref ti):=by
 unfold Cw
 rw [aC,if_neg (by decide +kernel),aC,if_pos rfl]
theorem FN (nm:V) (tn ti to:Addr):(Cw nm tn ti to).lookup ("outs" :Str)=some (.ref to):=by
 unfold Cw
 rw [aC,if_pos rfl]
theorem rG (nm:V) (tn ti to:Addr) {m:Str} (h1:¬m= "outs") (h2:¬m= "ins") (h3:¬m= "numbers") (h4:¬m= "name"):(Cw nm tn ti to).lookup m=none:=by
 unfold Cw
 rw [aC,if_neg h1,aC,if_neg h2,aC,if_neg h3,aC,if_neg h4]
 all_goals rfl
structure dX (K:PySem.W.Frag) (t:jw) (H:Hp) (p:Addr) (i:Nat) (nm:V) (ns is os:List V):Prop where
 ex:∃dx tn ti to,H p=some (.ins (cls t i) dx (Cw nm tn ti to))/\fu K H tn ns/\fu K H ti is/\fu K H to os
theorem dX.same {H H':Hp} {p:Addr} {i:Nat} {nm:V} {ns is os:List V} (h:dX K t H p i nm ns is os) (s:aM H H'):dX K t H' p i nm ns is os:=by
 obtain⟨dx,tn,ti,to,h1,h2,h3,h4⟩:=h
 exact⟨dx,tn,ti,to,s _ _ h1,s.seqT h2,s.seqT h3,s.seqT h4⟩
noncomputable def gZ (i:Nat):Sp:=fun vs H Q _=>∃x,vs=[x]/\Q (.str (dh i)) H
noncomputable def nV (j:Nat):V:=.int (j:Nat)
inductive Val (v:V):Prop where
 | mk:∀n:Int,v=.int n->0<=n->n <1000000000->Val v
inductive Flat:PyData->Prop
 | non:Flat .none
 | int (i:Int):Flat (.int i)
noncomputable def places (i:Nat) (hs:List V):List Nat:=if i=9 then(match hs with | .int n:: _=>[0,1+(n % 2).toNat] | _=>[0]) else List.range hs.length
noncomputable def yd (i:Nat) (hs:List V):Prop:=hs.length=cI i/\∀h∈hs,h=.non∨∃n:Int,h=.int n
noncomputable def tZ (hs:List V) (q:Nat):Bool:=decide (hs[q]?=some V.non)
noncomputable def MF (i:Nat) (hs:List V):V:=match (places i hs).find? (tZ hs) with
 | some q=>nV q
 | none=>.non
theorem jr {i:Nat} {hs:List V} (h:yd i hs):∀q∈places i hs,q <hs.length:=by
 intro q hq
 unfold places at hq
 by_cases hi:i=9
 ·rw [if_pos hi] at hq
  have hl:hs.length=3:=by rw [h.1,hi];rfl
  rw [hl]
  split at hq
  ·rename_i n r
   have h0:=Int.emod_nonneg n (show(2:Int)≠0 by decide)
   have h1:=Int.emod_lt_of_pos n (show(0:Int) <2 by decide)
   simp at hq
   omega
  ·simp at hq
   omega
 ·rw [if_neg hi] at hq
  simpa using hq
theorem Nv {f:Nat->Bool}:∀{l:List Nat} {j q:Nat},l[j]?=some q->(∀x∈l.take j,f x=false)->f q=true->l.find? f=some q
 | [],_,_,e,_,_=>by simp at e
 | x:: r,0,q,e,_,hq=>by
  simp at e
  subst e
  rw [List.find?_cons,hq]
 | x:: r,j+1,q,e,h,hq=>by
  have hx:f x=false:=h x (by simp)
  rw [List.find?_cons,hx]
  exact Nv (l:=r) (j:=j) (by simpa using e) (fun y hy=>h y (by simp [hy])) hq
theorem U4 {f:Nat->Bool} {l:List Nat} (h:∀x∈l,f x=false):l.find? f=none:=by
 rw [List.find?_eq_none]
 intro x hx
 rw [h x hx]
 decide
inductive nC (K:PySem.W.Frag) (t:jw) (i:Nat) (vs:List V) (H:Hp) (Q:VK) (E:XK):Prop where
 | mk:∀(p a:Addr) (nm:V) (ns is os hs:List V),vs=[.ref p,.ref a]->dX K t H p i nm ns is os->is.length=cI i->bJ K H a hs->yd i hs->(∀H' L,aM H H'->H L=none->H' L=some (.lst ((places i hs).map nV))->Q (.ref L) H')->nC K t i vs H Q E
inductive yc (K:PySem.W.Frag) (t:jw) (i:Nat) (vs:List V) (H:Hp) (Q:VK) (E:XK):Prop where
 | mk:∀(p a:Addr) (nm:V) (ns is os hs:List V),vs=[.ref p,.ref a]->dX K t H p i nm ns is os->is.length=cI i->bJ K H a hs->yd i hs->(∀H',aM H H'->Q (MF i hs) H')->yc K t i vs H Q E
noncomputable def g0 (l:List Int):Int:=l.getD 0 0
noncomputable def g1 (l:List Int):Int:=l.getD 1 0
noncomputable def cV (i:Nat):Nat:=match i with
 | 0=>1
 | 1=>1
 | 2=>1
 | 3=>1
 | 4=>1
 | 5=>1
 | 6=>2
 | 7=>2
 | 8=>2
 | 9=>2
 | _=>2
noncomputable def cz (i:Nat) (ns ws:List Int) (kp:Int):List (Int×Int):=match i with
 | 0=>[(0,g0 ws)]
 | 1=>[]
 | 2=>[(0,g0 ws)]
 | 3=>[(0,g0 ws),(1,g0 ws)]
 | 4=>[(0,(g0 ns * g0 ws+g1 ns) % 1000000000)]
 | 5=>[(0,(kp+g0 ws) % 1000000000)]
 | 6=>[(0,(g0 ws+g1 ws) % 1000000000)]
 | 7=>[(0,if g0 ws <g1 ws then 1 else 0)]
 | 8=>[(0,if g1 ws <g0 ws then g1 ws else g0 ws),(1,if g1 ws <g0 ws then g0 ws else g1 ws)]
 | 9=>[(0,g1 ws)]
 | _=>[(g0 ws % 2,g1 ws)]
noncomputable def gJ (i:Nat) (ws:List Int) (kp:Int):Int:=if i=5 then(kp+g0 ws) % 1000000000 else kp
noncomputable def Jo (ps:List (Int×Int)):List (List V):=ps.map fun p=>[.int p.1,.int p.2]
noncomputable def Xu (ws:List Int):Prop:=∀w∈ws,0<=w/\w <1000000000
inductive dU (K:PySem.W.Frag) (t:jw) (i:Nat) (vs:List V) (H:Hp) (Q:VK) (E:XK):Prop where
 | mk:∀(p a:Addr) (nm:V) (ns:List Int) (is os:List V) (ws:List Int) (kp:Int),vs=[.ref p,.ref a,.int kp]->dX K t H p i nm (ns.map V.int) is os->ns.length=cN i->bJ K H a (ws.map V.int)->ws.length=cV i->Xu ws->(∀H' U L rs,aM H H'->H L=none->H' U=some (.tup [.ref L,.int (gJ i ws kp)])->H' L=some (.lst (rs.map V.ref))->iZ H' rs (Jo (cz i ns ws kp))->Q (.ref U) H')->dU K t i vs H Q E
theorem yJ {H:Hp} {Q:VK} {a b x y:Int} (hx:x=a) (hy:y=b) (k:∀H' L rs,aM H H'->H L=none->H' L=some (.lst (rs.map V.ref))->iZ H' rs (Jo [(a,b)])->Q (.ref L) H') {t0 L:Addr} (n0:H t0=none)
  (nL:(upd H t0 (.tup [.int x,.int y])) L=none):Q (.ref L) (upd (upd H t0 (.tup [.int x,.int y])) L (.lst [.ref t0])):=by
 subst hx hy
 have s0:=aB (o:=.tup [.int x,.int y]) n0
 have s1:=aB (o:=.lst [.ref t0]) nL
 exact k _ L [t0] (s0.trans s1) (s0.free nL) aq (.cons (s1 _ _ aq) .nil)
theorem Vh {H:Hp} {Q:VK} {a b c d x y u v:Int} (hx:x=a) (hy:y=b) (hu:u=c) (hv:v=d) (k:∀H' L rs,aM H H'->H L=none->H' L=some (.lst (rs.map V.ref))->iZ H' rs (Jo [(a,b),(c,d)])->Q (.ref L) H') {t0 t1 L:Addr} (n0:H t0=none)
  (n1:(upd H t0 (.tup [.int x,.int y])) t1=none) (nL:(upd (upd H t0 (.tup [.int x,.int y])) t1 (.tup [.int u,.int v])) L=none):Q (.ref L) (upd (upd (upd H t0 (.tup [.int x,.int y])) t1 (.tup [.int u,.int v])) L (.lst [.ref t0,.ref t1])):=by
 subst hx hy hu hv
 have s0:=aB (o:=.tup [.int x,.int y]) n0
 have s1:=aB (o:=.tup [.int u,.int v]) n1
 have s2:=aB (o:=.lst [.ref t0,.ref t1]) nL
 exact k _ L [t0,t1] (s0.trans (s1.trans s2)) (s0.free (s1.free nL)) aq (.cons (s2 _ _ (s1 _ _ aq)) (.cons (s2 _ _ aq) .nil))
theorem Di {H:Hp} {Q:VK} {c:Int} {ps:List (Int×Int)} (k:∀H' U L rs,aM H H'->H L=none->H' U=some (.tup [.ref L,.int c])->H' L=some (.lst (rs.map V.ref))->iZ H' rs (Jo ps)->Q (.ref U) H'):
  ∀H' L rs,aM H H'->H L=none->H' L=some (.lst (rs.map V.ref))->iZ H' rs (Jo ps)->∀U,H' U=none->Q (.ref U) (upd H' U (.tup [.ref L,.int c])):=fun H' L rs s nL eL tL U nU=>
 have s2:=aB (o:=.tup [.ref L,.int c]) nU
 k _ U L rs (s.trans s2) nL aq (s2 _ _ eL) (tL.same s2)
theorem dM:(2:Nat)<=sizeLine:=by decide
theorem one_le:(1:Nat)<=sizeLine:=by decide
theorem ZK {a b:Int} {ws:List Int} (h:Xu ws) (hb:b∈ws):IntMulOk a b:=.of_right (intBits_le_64 (by have:=(h b hb).1;omega) (by have:=(h b hb).2;omega))
noncomputable def Ie (i:Nat) (ns:List V):V:=if i=5 then ns.headD .non else .int 0
inductive uf (K:PySem.W.Frag) (t:jw) (i:Nat) (vs:List V) (H:Hp) (Q:VK) (E:XK):Prop where
 | mk:∀(p:Addr) (nm:V) (ns is os:List V),vs=[.ref p]->dX K t H p i nm ns is os->ns.length=cN i->Q (Ie i ns) H->uf K t i vs H Q E
noncomputable def Wc (i:Nat) (kv:V) (ns:List V):List V:=if i=5 then [kv] else ns
inductive Ec (K:PySem.W.Frag) (t:jw) (i:Nat) (vs:List V) (H:Hp) (Q:VK) (E:XK):Prop where
 | mk:∀(p:Addr) (kv nm:V) (ns is os:List V),vs=[.ref p,kv]->i<=10->dX K t H p i nm ns is os->(∀H' q,aM H H'->H q=none->dX K t H' q i nm (Wc i kv ns) is os->Q (.ref q) H')->Ec K t i vs H Q E
noncomputable def b8 (a b:Int):Int:=((((a % 2147483647 * 48271+7919 * b+11) % 2147483647) * ((a % 2147483647 * 48271+7919 * b+11) % 2147483647) % 2147483629+613 * b) * (((a % 2147483647 * 48271+7919 * b+11) % 2147483647) * ((a % 2147483647 * 48271+7919 * b+11) % 2147483647) % 2147483629)) % 2147483587
theorem Ad (a b:Int):0<=b8 a b:=Int.emod_nonneg _ (by decide)
noncomputable def lD (ns:List Int) (j:Nat):Int:=(ns[j]?).getD (41 * (j:Int)+3)
noncomputable def qd (a b:Int):Int:=if b8 a b / 7 % 3=0 then b8 a b % 5 else if b8 a b / 7 % 3=1 then b8 a b % 10 ^ 9 else 10 ^ 9 - 1 - b8 a b % 3
theorem qP (a b:Int):0<=qd a b/\qd a b <1000000000:=by
 unfold qd
 have h0:=Ad a b
 generalize b8 a b=n at h0
 split
 ·omega
 ·split
  ·have h1:=Int.emod_lt_of_pos n (show(0:Int) <10 ^ 9 by decide)
   have h2:=Int.emod_nonneg n (show(10:Int) ^ 9≠0 by decide)
   exact⟨h2,h1⟩
  ·have h1:=Int.emod_lt_of_pos n (show(0:Int) <3 by decide)
   have h2:=Int.emod_nonneg n (show(3:Int)≠0 by decide)
   have e:(10:Int) ^ 9=1000000000:=by decide
   rw [e]
   omega
noncomputable def low (c:Nat):Bool:=decide (97<=c) && decide (c<=122)
noncomputable def Lk (c:Nat):Bool:=decide (48<=c) && decide (c<=57)
noncomputable def nameB (x:Str):Bool:=match x.cps.toList with
 | []=>false
 | c:: r=>decide (r.length<=7) && (low c && (c:: r).all fun d=>low d || Lk d)
theorem m9 (x:Str):x.cps.toList.length=x.length:=by simp [Str.length]
theorem Dr:∀(ws:List Str),(Str.join Str.empty ws).cps.toList=(ws.map fun w=>w.cps.toList).flatten
 | []=>rfl
 | [w]=>by simp [Str.join]
 | w:: v:: r=>by
  have ih:=Dr (v:: r)
  show(w.cps ++ #[] ++ (Str.join Str.empty (v:: r)).cps).toList=_
  rw [Array.toList_append,ih]
  simp
theorem RQ {n:Nat}:∀(ws:List Str),(∀w∈ws,w.length<=n)->(ws.map (·.length)).sum<=ws.length * n
 | [],_=>by simp
 | w:: r,h=>by
  have h1:=h w (by simp)
  have h2:=RQ r fun v hv=>h v (by simp [hv])
  simp only [List.map_cons,List.sum_cons,List.length_cons,Nat.add_mul]
  omega
noncomputable def JP (n:Int):Nat:=97+(n % 26).toNat
theorem Iz (n:Int):low (JP n)=true:=by
 unfold low JP
 have h0:=Int.emod_nonneg n (show(26:Int)≠0 by decide)
 have h1:=Int.emod_lt_of_pos n (show(0:Int) <26 by decide)
 simp
 omega
noncomputable abbrev LT:Str:= "abcdefghijklmnopqrstuvwxyz"
theorem Lx:LT.length=26:=by decide +kernel
theorem PK:LT.cps.toList=List.range' 97 26:=by decide +kernel
theorem QL (n:Int):JZ LT.cps.toList (n % 26)=some (JP n):=by
 have h0:=Int.emod_nonneg n (show(26:Int)≠0 by decide)
 have h1:=Int.emod_lt_of_pos n (show(0:Int) <26 by decide)
 obtain⟨j,hj⟩:∃j:Nat,n % 26=(j:Int):=⟨(n % 26).toNat,by omega⟩
 unfold JP
 rw [hj,PK]
 exact aN (by rw [List.getElem?_range' (by omega)];simp)
noncomputable def gj (a:Int):List Nat:=(List.range (b8 a 50 % 7).toNat).map fun j=>JP (b8 a (60+(j:Nat)))
noncomputable def pC (a:Int):Nat:=(b8 a 51 % (b8 a 50 % 7+1)).toNat
noncomputable def Lj (n:Nat):List Nat:=(toString (Int.ofNat n):Str).cps.toList
noncomputable def Ar (a:Int) (k:Nat):List Nat:=if b8 a 52 % 3=0 then JP (b8 a 53):: Lj (b8 a 54 % 1000+37 * (k:Int)).toNat else(gj a).take (pC a) ++ JP (b8 a 55+k):: (gj a).drop (pC a)
noncomputable def cG (a:Int) (k:Nat):Str:=⟨(Ar a k).toArray⟩
noncomputable def Q0 (l:List Nat):Nat:=l.foldl (fun r c=>10 * r+(c - 48)) 0
theorem Tv:(List.range 2000).all (fun i=>(Lj i).all Lk && decide ((Lj i).length<=4) && decide (Q0 (Lj i)=i))=true:=by decide +kernel
theorem uZ {n:Nat} (h:n <2000):(Lj n).all Lk=true/\(Lj n).length<=4/\Q0 (Lj n)=n:=by
 have z:=List.all_eq_true.mp Tv n (List.mem_range.mpr h)
 simp only [Bool.and_eq_true,decide_eq_true_eq] at z
 exact⟨z.1.1,z.1.2,z.2⟩
theorem BJ (a:Int):(gj a).length<=6/\((gj a).length:Int)=b8 a 50 % 7:=by
 unfold gj
 have h0:=Int.emod_nonneg (b8 a 50) (show(7:Int)≠0 by decide)
 have h1:=Int.emod_lt_of_pos (b8 a 50) (show(0:Int) <7 by decide)
 rw [lM,List.length_range]
 omega
theorem Mv (a:Int):pC a<=(gj a).length:=by
 have h:=(BJ a).2
 unfold pC
 have h0:=Int.emod_nonneg (b8 a 50) (show(7:Int)≠0 by decide)
 have h1:=Int.emod_lt_of_pos (b8 a 51) (show(0:Int) <b8 a 50 % 7+1 by omega)
 have h2:=Int.emod_nonneg (b8 a 51) (show b8 a 50 % 7+1≠0 by omega)
 omega
theorem Do {x:Str} {c:Nat} {r:List Nat} (e:x.cps.toList=c:: r) (h:r.length<=7) (hc:low c=true) (ha:∀d∈r,low d=true∨Lk d=true):nameB x=true:=by
 unfold nameB
 rw [e]
 simp only [Bool.and_eq_true,decide_eq_true_eq,List.all_eq_true,Bool.or_eq_true]
 refine⟨h,hc,fun d hd=>?_⟩
 rcases List.mem_cons.mp hd with rfl | hd
 ·exact .inl hc
 ·exact ha d hd
theorem El (a:Int) (k:Nat):(cG a k).cps.toList=Ar a k:=by simp [cG]
theorem Nr (a:Int) {k:Nat} (hk:k <26):nameB (cG a k)=true:=by
 have h0:=Int.emod_nonneg (b8 a 54) (show(1000:Int)≠0 by decide)
 have h1:=Int.emod_lt_of_pos (b8 a 54) (show(0:Int) <1000 by decide)
 have e:=El a k
 unfold Ar at e
 split at e
 ·obtain⟨n1,n2,_⟩:=uZ (n:=(b8 a 54 % 1000+37 * (k:Int)).toNat) (by omega)
  exact Do e (by omega) (Iz _) fun c hc=>.inr (List.all_eq_true.mp n1 c hc)
 ·have b1:=(BJ a).1
  have b2:=Mv a
  have all:∀c∈(gj a).take (pC a) ++ JP (b8 a 55+k):: (gj a).drop (pC a),low c=true:=fun c hc=>by
   have hb:∀c∈gj a,low c=true:=fun c hc=>by
    unfold gj at hc
    obtain⟨j,_,rfl⟩:=List.mem_map.mp hc
    exact Iz _
   rcases List.mem_append.mp hc with h | h
   ·exact hb c (List.mem_of_mem_take h)
   ·rcases List.mem_cons.mp h with rfl | h
    ·exact Iz _
    ·exact hb c (List.mem_of_mem_drop h)
  have len:((gj a).take (pC a) ++ JP (b8 a 55+k):: (gj a).drop (pC a)).length<=7:=by
   rw [lP,List.length_take,List.length_cons,List.length_drop]
   omega
  have ne:(gj a).take (pC a) ++ JP (b8 a 55+k):: (gj a).drop (pC a)≠[]:=by simp
  generalize (gj a).take (pC a) ++ JP (b8 a 55+k):: (gj a).drop (pC a)=l at all len ne e
  obtain⟨c,r,rfl⟩:=List.exists_cons_of_ne_nil ne
  rw [List.length_cons] at len
  exact Do e (by omega) (all c List.mem_cons_self) fun d hd=>.inl (all d (List.mem_cons_of_mem _ hd))
theorem Ke (a:Int) {j k:Nat} (hj:j <26) (hk:k <26) (h:cG a j=cG a k):j=k:=by
 have e:Ar a j=Ar a k:=by
  have:=congrArg (fun s:Str=>s.cps.toList) h
  simpa [cG] using this
 unfold Ar at e
 split at e
 ·have h0:=Int.emod_nonneg (b8 a 54) (show(1000:Int)≠0 by decide)
  have h1:=Int.emod_lt_of_pos (b8 a 54) (show(0:Int) <1000 by decide)
  have e2:=congrArg Q0 (List.cons.inj e).2
  rw [(uZ (by omega)).2.2,(uZ (by omega)).2.2] at e2
  omega
 ·have e2:=(List.cons.inj (List.append_cancel_left e)).1
  unfold JP at e2
  omega
namespace Drawn
variable {S:Type}
structure ig (S:Type) where
 kind:Nat
 name:S
 nums:List Int
 ins:List S
 outs:List S
structure NS (S:Type) where
 lanes:List S
 parts:List (ig S)
 opens:List S
 back:List S
inductive jd (ps:List (ig S)):S->S->Prop
 | refl (x:S):jd ps x x
 | step {x y z:S} {p:ig S}:p∈ps->x∈p.ins ++ p.outs->y∈p.ins ++ p.outs->jd ps y z->jd ps x z
theorem jd.trans {ps:List (ig S)} {x y z:S} (h:jd ps x y) (k:jd ps y z):jd ps x z:=by
 induction h with
 | refl _=>exact k
 | step hp hx hy _ ih=>exact .step hp hx hy (ih k)
theorem jd.symm {ps:List (ig S)} {x y:S} (h:jd ps x y):jd ps y x:=by
 induction h with
 | refl _=>exact .refl _
 | step hp hx hy _ ih=>exact ih.trans (.step hp hy hx (.refl _))
theorem jd.mono {ps qs:List (ig S)} (hs:∀p∈ps,p∈qs) {x y:S} (h:jd ps x y):jd qs x y:=by
 induction h with
 | refl _=>exact .refl _
 | step hp hx hy _ ih=>exact .step (hs _ hp) hx hy ih
theorem jd.part {ps:List (ig S)} {p:ig S} (hp:p∈ps) {x y:S} (hx:x∈p.ins ++ p.outs) (hy:y∈p.ins ++ p.outs):jd ps x y:=.step hp hx hy (.refl _)
structure WF (ns:NS S):Prop where
 nod:ns.lanes.Nodup
 outs:((ns.parts.flatMap (·.outs)) ++ ns.back).Perm ns.lanes
 ins:((ns.parts.flatMap (·.ins)) ++ ns.opens).Perm ns.lanes
 hang:∀p∈ns.parts,∃x∈p.ins ++ p.outs,∃o∈ns.opens,jd ns.parts x o
 touch:∀p∈ns.parts,p.ins ++ p.outs≠[]
theorem WF.add {ns:NS S} (w:WF ns) {p:ig S} {newl opens' back':List S} (hn:(ns.lanes ++ newl).Nodup) (ho:(p.outs ++ back').Perm (ns.back ++ newl)) (hi:(p.ins ++ opens').Perm (ns.opens ++ newl))
  (hg:∀o∈ns.opens,∃o'∈opens',jd (ns.parts ++ [p]) o o') (hp:∃x∈p.ins ++ p.outs,∃o∈opens',jd (ns.parts ++ [p]) x o):
  WF { lanes:=ns.lanes ++ newl,parts:=ns.parts ++ [p],opens:=opens',back:=back' }:=by
 have mono:∀q∈ns.parts,q∈ns.parts ++ [p]:=fun q hq=>List.mem_append.mpr (.inl hq)
 refine⟨hn,?_,?_,?_,?_⟩
 ·have e:(ns.parts ++ [p]).flatMap (·.outs)=ns.parts.flatMap (·.outs) ++ p.outs:=by simp
  show(((ns.parts ++ [p]).flatMap (·.outs)) ++ back').Perm _
  rw [e,List.append_assoc]
  exact(ho.append_left _).trans (by rw [<-List.append_assoc];exact w.outs.append_right _)
 ·have e:(ns.parts ++ [p]).flatMap (·.ins)=ns.parts.flatMap (·.ins) ++ p.ins:=by simp
  show(((ns.parts ++ [p]).flatMap (·.ins)) ++ opens').Perm _
  rw [e,List.append_assoc]
  exact(hi.append_left _).trans (by rw [<-List.append_assoc];exact w.ins.append_right _)
 ·intro q hq
  rcases List.mem_append.mp hq with h | h
  ·obtain⟨x,hx,o,hoq,c⟩:=w.hang q h
   obtain⟨o',ho',c'⟩:=hg o hoq
   exact⟨x,hx,o',ho',(c.mono mono).trans c'⟩
  ·rw [List.mem_singleton] at h
   subst h
   exact hp
 ·intro q hq
  rcases List.mem_append.mp hq with h | h
  ·exact w.touch q h
  ·rw [List.mem_singleton] at h
   subst h
   obtain⟨x,hx,_⟩:=hp
   intro z
   rw [z] at hx
   cases hx
theorem WF.start:WF (⟨[],[],[],[]⟩:NS S):=⟨List.nodup_nil,.refl _,.refl _,fun p hp=>(by cases hp),fun p hp=>(by cases hp)⟩
theorem WF.backLane {ns:NS S} (w:WF ns) {b:S} (hn:(ns.lanes ++ [b]).Nodup):WF { ns with lanes:=ns.lanes ++ [b],opens:=ns.opens ++ [b],back:=ns.back ++ [b] }:=by
 refine⟨hn,?_,?_,fun p hp=>?_,w.touch⟩
 ·show(_ ++ (ns.back ++ [b])).Perm _
  rw [<-List.append_assoc]
  exact w.outs.append_right _
 ·show(_ ++ (ns.opens ++ [b])).Perm _
  rw [<-List.append_assoc]
  exact w.ins.append_right _
 ·obtain⟨x,hx,o,ho,c⟩:=w.hang p hp
  exact⟨x,hx,o,List.mem_append.mpr (.inl ho),c⟩
theorem WF.part {ns:NS S} (w:WF ns) {p:ig S} {rest:List S} (hi:ns.opens.Perm (p.ins ++ rest)) (hf:(ns.lanes ++ p.outs).Nodup) (ho:p.outs≠[]):
  WF { ns with lanes:=ns.lanes ++ p.outs,parts:=ns.parts ++ [p],opens:=rest ++ p.outs }:=by
 have hp:p∈ns.parts ++ [p]:=by simp
 obtain⟨o1,hoo⟩:∃o1,o1∈p.outs:=List.exists_mem_of_ne_nil _ ho
 have h1:o1∈rest ++ p.outs:=List.mem_append.mpr (.inr hoo)
 refine w.add hf List.perm_append_comm ?_ (fun o h=>?_) ⟨o1,List.mem_append.mpr (.inr hoo),o1,h1,.refl _⟩
 ·rw [<-List.append_assoc]
  exact hi.symm.append_right _
 ·rcases List.mem_append.mp (hi.mem_iff.mp h) with h | h
  ·exact⟨o1,h1,jd.part hp (List.mem_append.mpr (.inl h)) (List.mem_append.mpr (.inr hoo))⟩
  ·exact⟨o,List.mem_append.mpr (.inl h),.refl _⟩
theorem WF.take {ns:NS S} (w:WF ns) {p:ig S} {rest:List S} {y x:S} (hi:p.ins=[y]) (ho:p.outs=[]) (hr:ns.opens.Perm (y:: rest)) (hx:x∈rest) (c:jd ns.parts y x):
  WF { ns with parts:=ns.parts ++ [p],opens:=rest }:=by
 have mono:∀q∈ns.parts,q∈ns.parts ++ [p]:=fun q hq=>List.mem_append.mpr (.inl hq)
 have:=w.add (p:=p) (newl:=[]) (opens':=rest) (back':=ns.back) (by rw [List.append_nil];exact w.nod) (by rw [ho,List.append_nil];exact .refl _) (by rw [hi,List.append_nil];exact hr.symm)
  (fun o h=>by
   rcases List.mem_cons.mp (hr.mem_iff.mp h) with rfl | h
   ·exact⟨x,hx,c.mono mono⟩
   ·exact⟨o,h,.refl _⟩) ⟨y,by simp [hi],x,hx,c.mono mono⟩
 rw [List.append_nil] at this
 exact this
theorem WF.loop {ns:NS S} (w:WF ns) {p:ig S} {rest:List S} {one own fresh:S} (hi:p.ins=[one,own]) (ho:p.outs=[own,fresh]) (hr:ns.opens.Perm (one:: rest)) (hn:(ns.lanes ++ [own,fresh]).Nodup):
  WF { ns with lanes:=ns.lanes ++ [own,fresh],parts:=ns.parts ++ [p],opens:=rest ++ [fresh] }:=by
 have hp:p∈ns.parts ++ [p]:=by simp
 have hf:fresh∈rest ++ [fresh]:=by simp
 refine w.add hn (by rw [ho];exact List.perm_append_comm) ?_ (fun o h=>?_) ⟨fresh,by simp [ho],fresh,hf,.refl _⟩
 ·rw [hi]
  show(one:: own:: (rest ++ [fresh])).Perm (ns.opens ++ [own,fresh])
  refine .trans ?_ (hr.symm.append_right _)
  refine .cons _ ?_
  show(own:: (rest ++ [fresh])).Perm (rest ++ ([own] ++ [fresh]))
  rw [<-List.append_assoc]
  exact(List.perm_append_comm (l₁:=[own]) (l₂:=rest)).append_right [fresh]
 ·rcases List.mem_cons.mp (hr.mem_iff.mp h) with rfl | h
  ·exact⟨fresh,hf,jd.part hp (by simp [hi]) (by simp [ho])⟩
  ·exact⟨o,List.mem_append.mpr (.inl h),.refl _⟩
theorem WF.closeBack {ns:NS S} (w:WF ns) {p:ig S} {rest:List S} {one b fresh:S} (hi:p.ins=[one]) (ho:p.outs=[b,fresh]) (hb:ns.back.Perm (b:: rest)) (h1:ns.opens=[one]) (hn:(ns.lanes ++ [fresh]).Nodup):
  WF { lanes:=ns.lanes ++ [fresh],parts:=ns.parts ++ [p],opens:=[fresh],back:=rest }:=by
 have hp:p∈ns.parts ++ [p]:=by simp
 refine w.add hn ?_ (by rw [hi,h1]) (fun o h=>?_) ⟨fresh,by simp [ho],fresh,by simp,.refl _⟩
 ·rw [ho]
  show(b:: fresh:: rest).Perm (ns.back ++ [fresh])
  refine .trans ?_ (hb.symm.append_right _)
  exact .cons _ (List.perm_append_comm (l₁:=[fresh]) (l₂:=rest))
 ·rw [h1,List.mem_singleton] at h
  subst h
  exact⟨fresh,by simp,jd.part hp (by simp [hi]) (by simp [ho])⟩
theorem WF.last {ns:NS S} (w:WF ns) {p:ig S} {y:S} (hb:ns.back=[]) (h1:ns.opens=[y]) (hi:p.ins=[y]) (ho:p.outs=[]):
  ((ns.parts ++ [p]).flatMap (·.outs)).Perm ns.lanes/\((ns.parts ++ [p]).flatMap (·.ins)).Perm ns.lanes/\∀q∈ns.parts ++ [p],∃x∈q.ins ++ q.outs,jd (ns.parts ++ [p]) x y:=by
 have mono:∀q∈ns.parts,q∈ns.parts ++ [p]:=fun q hq=>List.mem_append.mpr (.inl hq)
 refine⟨?_,?_,?_⟩
 ·have e:(ns.parts ++ [p]).flatMap (·.outs)=ns.parts.flatMap (·.outs):=by simp [ho]
  rw [e]
  have:=w.outs
  rw [hb,List.append_nil] at this
  exact this
 ·have e:(ns.parts ++ [p]).flatMap (·.ins)=ns.parts.flatMap (·.ins) ++ [y]:=by simp [hi]
  rw [e]
  have:=w.ins
  rw [h1] at this
  exact this
 ·intro q hq
  rcases List.mem_append.mp hq with h | h
  ·obtain⟨x,hx,o,hoq,c⟩:=w.hang q h
   rw [h1,List.mem_singleton] at hoq
   subst hoq
   exact⟨x,hx,c.mono mono⟩
  ·rw [List.mem_singleton] at h
   subst h
   exact⟨y,by simp [hi],.refl _⟩
theorem Mr {ps:List (ig S)} {J:ig S->Prop} (closed:∀(l:S) (p q:ig S),p∈ps->q∈ps->l∈p.ins ++ p.outs->l∈q.ins ++ q.outs->J p->J q) {y:S} (hang:∀q∈ps,∃x∈q.ins ++ q.outs,jd ps x y)
  {p0:ig S} (hp0:p0∈ps) (h0:J p0):∀q∈ps,J q:=by
 have go:∀{x z:S},jd ps x z->(∃p∈ps,x∈p.ins ++ p.outs/\J p)->∃p∈ps,z∈p.ins ++ p.outs/\J p:=by
  intro x z c
  induction c with
  | refl _=>exact id
  | step hp hx hy _ ih=>
   rintro⟨p',hp',hx',hJ⟩
   exact ih ⟨_,hp,hy,closed _ _ _ hp' hp hx' hx hJ⟩
 obtain⟨x0,hx0,c0⟩:=hang p0 hp0
 have hy:=go c0 ⟨p0,hp0,hx0,h0⟩
 intro q hq
 obtain⟨x,hx,c⟩:=hang q hq
 obtain⟨p',hp',hx',hJ⟩:=go c.symm hy
 exact closed _ _ _ hp' hq hx' hx hJ
theorem Ph {ps:List (ig S)} (f:ig S->List S) (h:(ps.flatMap f).Nodup) {i j:Nat} {p q:ig S} {l:S} (hi:ps[i]?=some p) (hj:ps[j]?=some q) (hp:l∈f p) (hq:l∈f q):i=j:=by
 induction ps generalizing i j with
 | nil=>cases hi
 | cons r rs ih=>
  rw [List.flatMap_cons,List.nodup_append] at h
  obtain⟨h1,h2,h3⟩:=h
  have far:∀{k:Nat} {s:ig S},rs[k]?=some s->l∈f s->l∈rs.flatMap f:=fun e hs=>List.mem_flatMap.mpr ⟨_,List.mem_of_getElem? e,hs⟩
  match i,j with
  | 0,0=>rfl
  | 0,j+1=>
   simp only [List.getElem?_cons_zero,Option.some.injEq] at hi
   subst hi
   exact absurd rfl (h3 l hp l (far (by simpa using hj) hq))
  | i+1,0=>
   simp only [List.getElem?_cons_zero,Option.some.injEq] at hj
   subst hj
   exact absurd rfl (h3 l hq l (far (by simpa using hi) hp))
  | i+1,j+1=>exact congrArg (· +1) (ih h2 (by simpa using hi) (by simpa using hj))
end Drawn
structure aH where
 name:Str
 room:Int
 first:List Int
noncomputable def aH.ok (l:aH):Prop:=1<=l.room/\l.room<=10/\(l.first.length:Int)<=l.room/\∀v∈l.first,0<=v/\v <1000000000
noncomputable abbrev PD:=Drawn.ig Str
noncomputable def oX (p:PD):Prop:=p.kind <11/\p.nums.length=cN p.kind/\p.ins.length=cI p.kind/\p.outs.length=cO p.kind/\∀v∈p.nums,0<=v/\v <1000000000
noncomputable def bf (E:List Addr) (H:Hp):Hp:=fun b=>if b∈E then none else H b
theorem bY {E:List Addr} {H:Hp}:aM (bf E H) H:=fun b o e=>by
 unfold bf at e
 split at e
 ·cases e
 ·exact e
theorem Ux {E:List Addr} {H:Hp} {p:Addr} {o:HO} (h:H p=none):aM (bf E H) (bf E (upd H p o)):=fun b u e=>by
 have e':=bY b u e
 unfold bf at e ⊢
 split at e
 ·cases e
 ·rename_i n
  rw [if_neg n,aK (aD e' h)]
  exact e
theorem cQ {E:List Addr} {H:Hp} {p:Addr} {o:HO} (h:H p=some o) (n:p∉E):bf E H p=some o:=by
 unfold bf
 rw [if_neg n]
 exact h
theorem dm {E:List Addr} {H:Hp} {a:Addr} {o:HO} (h:a∈E):bf E (upd H a o)=bf E H:=by
 funext b
 unfold bf
 split
 ·rfl
 ·rename_i n
  rw [aK (fun z=>n (by rw [z];exact h))]
theorem Ce {E:List Addr} {H H':Hp} (s:aM H H') (hE:∀a∈E,∃o,H a=some o):aM (bf E H) (bf E H'):=fun b o e=>by
 have e':=bY b o e
 unfold bf at e ⊢
 split at e
 ·cases e
 ·rename_i n
  rw [if_neg n]
  exact s _ _ e'
inductive jJ {α β:Type} (R:α->β->Prop):List α->List β->Prop
 | nil:jJ R [] []
 | cons {a:α} {b:β} {l:List α} {m:List β}:R a b->jJ R l m->jJ R (a:: l) (b:: m)
theorem jJ.imp {α β:Type} {R R':α->β->Prop} (h:∀a b,R a b->R' a b):∀{l:List α} {m:List β},jJ R l m->jJ R' l m
 | _,_,.nil=>.nil
 | _,_,.cons r t=>.cons (h _ _ r) (t.imp h)
theorem jJ.length {α β:Type} {R:α->β->Prop}:∀{l:List α} {m:List β},jJ R l m->l.length=m.length
 | _,_,.nil=>rfl
 | _,_,.cons _ t=>by rw [List.length_cons,List.length_cons,t.length]
theorem jJ.app {α β:Type} {R:α->β->Prop}:∀{l l':List α} {m m':List β},jJ R l m->jJ R l' m'->jJ R (l ++ l') (m ++ m')
 | _,_,_,_,.nil,h=>h
 | _,_,_,_,.cons r t,h=>.cons r (t.app h)
theorem jJ.get {α β:Type} {R:α->β->Prop}:∀{l:List α} {m:List β},jJ R l m->∀{i:Nat} {a:α},l[i]?=some a->∃b,m[i]?=some b/\R a b
 | _,_,.nil,_,_,h=>by simp at h
 | _,_,.cons r t,0,_,h=>by
  simp only [List.getElem?_cons_zero,Option.some.injEq] at h
  subst h
  exact⟨_,rfl,r⟩
 | _,_,.cons r t,i+1,_,h=>t.get (i:=i) (by simpa using h)
theorem jJ.take {α β:Type} {R:α->β->Prop}:∀{l:List α} {m:List β},jJ R l m->∀n:Nat,jJ R (l.take n) (m.take n)
 | _,_,.nil,_=>by simp;exact .nil
 | _,_,.cons r t,0=>by simp;exact .nil
 | _,_,.cons r t,n+1=>by simp;exact .cons r (t.take n)
theorem jJ.drop {α β:Type} {R:α->β->Prop}:∀{l:List α} {m:List β},jJ R l m->∀n:Nat,jJ R (l.drop n) (m.drop n)
 | _,_,.nil,_=>by simp;exact .nil
 | _,_,.cons r t,0=>.cons r t
 | _,_,.cons r t,n+1=>by simp;exact t.drop n
inductive wD (G:Hp) (v:V) (l:aH):Prop where
 | mk:∀q f,v=.ref q->G q=some (.tup [.str l.name,.int l.room,.ref f])->G f=some (.lst (l.first.map V.int))->wD G v l
inductive Cq (G:Hp) (v:V) (p:PD):Prop where
 | mk:∀q a1 a2 a3,v=.ref q->G q=some (.tup [.str (dh p.kind),.str p.name,.ref a1,.ref a2,.ref a3])->G a1=some (.lst (p.nums.map V.int))->G a2=some (.lst (p.ins.map V.str))->G a3=some (.lst (p.outs.map V.str))->Cq G v p
theorem wD.same {G G':Hp} {v:V} {l:aH} (h:wD G v l) (s:aM G G'):wD G' v l:=by
 obtain⟨q,f,e,h1,h2⟩:=h
 exact⟨q,f,e,s _ _ h1,s _ _ h2⟩
theorem Cq.same {G G':Hp} {v:V} {p:PD} (h:Cq G v p) (s:aM G G'):Cq G' v p:=by
 obtain⟨q,a1,a2,a3,e,h1,h2,h3,h4⟩:=h
 exact⟨q,a1,a2,a3,e,s _ _ h1,s _ _ h2,s _ _ h3,s _ _ h4⟩
structure Dw where
 S:Addr
 L:Addr
 P:Addr
 O:Addr
 c3:Int
 c4:Int
noncomputable abbrev Dw.E (d:Dw):List Addr:=[d.L,d.P,d.O]
structure mL (d:Dw) (H:Hp) (ls:List aH) (ps:List PD) (os:List Str):Prop where
 top:bf d.E H d.S=some (.lst [.ref d.L,.ref d.P,.ref d.O,.int d.c3,.int d.c4])
 lanes:∃xs,H d.L=some (.lst xs)/\jJ (wD (bf d.E H)) xs ls
 parts:∃xs,H d.P=some (.lst xs)/\jJ (Cq (bf d.E H)) xs ps
 opens:H d.O=some (.lst (os.map V.str))
 ne:d.L≠d.P/\d.L≠d.O/\d.P≠d.O
 lok:∀l∈ls,l.ok
 pok:∀p∈ps,oX p
 ln:ls.map (·.name)=(List.range ls.length).map (cG d.c3)
 pn:ps.map (·.name)=(List.range ps.length).map (cG d.c4)
theorem mL.seqS {d:Dw} {H:Hp} {ls:List aH} {ps:List PD} {os:List Str} (D:mL d H ls ps os):bJ K H d.S [.ref d.L,.ref d.P,.ref d.O,.int d.c3,.int d.c4]:=bJ.of (bY _ _ D.top)
theorem mL.has {d:Dw} {H:Hp} {ls:List aH} {ps:List PD} {os:List Str} (D:mL d H ls ps os) {a:Addr} (h:a∈d.E):∃o,H a=some o:=by
 obtain⟨_,e1,_⟩:=D.lanes
 obtain⟨_,e2,_⟩:=D.parts
 rcases List.mem_cons.mp h with rfl | h
 ·exact⟨_,e1⟩
 ·rcases List.mem_cons.mp h with rfl | h
  ·exact⟨_,e2⟩
  ·rw [List.mem_singleton] at h
   subst h
   exact⟨_,D.opens⟩
theorem mL.out {d:Dw} {H:Hp} {ls:List aH} {ps:List PD} {os:List Str} (D:mL d H ls ps os) {p:Addr} (h:H p=none):p∉d.E:=fun z=>by
 obtain⟨o,e⟩:=D.has z
 rw [h] at e
 cases e
theorem mL.keep {d:Dw} {H H':Hp} {ls:List aH} {ps:List PD} {os:List Str} (D:mL d H ls ps os) (s:aM H H'):mL d H' ls ps os:=by
 obtain⟨xs,e1,a1⟩:=D.lanes
 obtain⟨ys,e2,a2⟩:=D.parts
 have c:=Ce (E:=d.E) s (fun a h=>D.has h)
 exact⟨c _ _ D.top,⟨xs,s _ _ e1,a1.imp fun _ _ h=>h.same c⟩,⟨ys,s _ _ e2,a2.imp fun _ _ h=>h.same c⟩,s _ _ D.opens,D.ne,D.lok,D.pok,D.ln,D.pn⟩
theorem mL.cut {d:Dw} {H H':Hp} {ls:List aH} {ps:List PD} {os:List Str} (D:mL d H ls ps os) (s:aM H H'):aM (bf d.E H) (bf d.E H'):=Ce s (fun _ h=>D.has h)
theorem Gs {α:Type} {f:α->Str} {w:Nat->Str} {l:List α} {x:α} (h:l.map f=(List.range l.length).map w) (hx:f x=w l.length):(l ++ [x]).map f=(List.range (l ++ [x]).length).map w:=by
 rw [List.map_append,lP,List.length_singleton,List.range_succ,List.map_append,h,List.map_singleton,List.map_singleton,hx]
theorem mL.lane {d:Dw} {H:Hp} {ls:List aH} {ps:List PD} {os:List Str} (D:mL d H ls ps os) {v:V} {l:aH} (h:wD (bf d.E H) v l) (hl:l.ok) (hn:l.name=cG d.c3 ls.length) {xs:List V} (e:H d.L=some (.lst xs)):
  mL d (upd H d.L (.lst (xs ++ [v]))) (ls ++ [l]) ps os:=by
 obtain⟨xs',e1,a1⟩:=D.lanes
 obtain⟨ys,e2,a2⟩:=D.parts
 rw [e] at e1
 cases e1
 have c:bf d.E (upd H d.L (.lst (xs ++ [v])))=bf d.E H:=dm (by simp)
 refine⟨by rw [c];exact D.top,⟨_,aq,by rw [c];exact a1.app (.cons h .nil)⟩,⟨ys,by rw [aK (Ne.symm D.ne.1)];exact e2,by rw [c];exact a2⟩,by rw [aK (Ne.symm D.ne.2.1)];exact D.opens,D.ne,fun x hx=>?_,D.pok,Gs D.ln hn,D.pn⟩
 rcases List.mem_append.mp hx with hx | hx
 ·exact D.lok x hx
 ·rw [List.mem_singleton] at hx
  subst hx
  exact hl
theorem mL.part {d:Dw} {H:Hp} {ls:List aH} {ps:List PD} {os:List Str} (D:mL d H ls ps os) {v:V} {p:PD} (h:Cq (bf d.E H) v p) (hl:oX p) (hn:p.name=cG d.c4 ps.length) {xs:List V} (e:H d.P=some (.lst xs)):
  mL d (upd H d.P (.lst (xs ++ [v]))) ls (ps ++ [p]) os:=by
 obtain⟨xs',e1,a1⟩:=D.lanes
 obtain⟨ys,e2,a2⟩:=D.parts
 rw [e] at e2
 cases e2
 have c:bf d.E (upd H d.P (.lst (xs ++ [v])))=bf d.E H:=dm (by simp)
 refine⟨by rw [c];exact D.top,⟨_,by rw [aK D.ne.1];exact e1,by rw [c];exact a1⟩,⟨_,aq,by rw [c];exact a2.app (.cons h .nil)⟩,by rw [aK (Ne.symm D.ne.2.2)];exact D.opens,D.ne,D.lok,fun x hx=>?_,D.ln,Gs D.pn hn⟩
 rcases List.mem_append.mp hx with hx | hx
 ·exact D.pok x hx
 ·rw [List.mem_singleton] at hx
  subst hx
  exact hl
theorem mL.open {d:Dw} {H:Hp} {ls:List aH} {ps:List PD} {os os':List Str} (D:mL d H ls ps os):mL d (upd H d.O (.lst (os'.map V.str))) ls ps os':=by
 obtain⟨xs,e1,a1⟩:=D.lanes
 obtain⟨ys,e2,a2⟩:=D.parts
 have c:bf d.E (upd H d.O (.lst (os'.map V.str)))=bf d.E H:=dm (by simp)
 exact⟨by rw [c];exact D.top,⟨xs,by rw [aK D.ne.2.1];exact e1,by rw [c];exact a1⟩,⟨ys,by rw [aK D.ne.2.2];exact e2,by rw [c];exact a2⟩,aq,D.ne,D.lok,D.pok,D.ln,D.pn⟩
theorem z8 (a:Int) {n:Nat} (h:n<=26):((List.range n).map (cG a)).Nodup:=by
 induction n with
 | zero=>exact List.nodup_nil
 | succ n ih=>
  rw [List.range_succ,List.map_append,List.nodup_append]
  refine⟨ih (by omega),by simp,fun x hx y hy=>?_⟩
  obtain⟨j,hj,rfl⟩:=List.mem_map.mp hx
  rw [List.map_singleton,List.mem_singleton] at hy
  subst hy
  have hj':=List.mem_range.mp hj
  intro z
  have:=Ke a (by omega) (by omega) z
  omega
noncomputable abbrev uQ (ls:List aH) (ps:List PD) (os back:List Str):Drawn.NS Str:=⟨ls.map (·.name),ps,os,back⟩
theorem mL.nod {d:Dw} {H:Hp} {ls:List aH} {ps:List PD} {os:List Str} (D:mL d H ls ps os) (h:ls.length<=26):(ls.map (·.name)).Nodup:=by
 rw [D.ln]
 exact z8 _ h
theorem Xl {ns:Drawn.NS Str} (w:Drawn.WF ns) {os:List Str} (h:ns.opens.Perm os):Drawn.WF { ns with opens:=os }:=
 ⟨w.nod,w.outs,(h.symm.append_left _).trans w.ins,fun p hp=>by
  obtain⟨x,hx,o,ho,c⟩:=w.hang p hp
  exact⟨x,hx,o,h.mem_iff.mp ho,c⟩,w.touch⟩
theorem qL {d:Dw} {H:Hp} {ls newl:List aH} {ps:List PD} {p:PD} {os ops back:List Str} (w:Drawn.WF (uQ ls ps ops back)) (ho:p.outs=newl.map (·.name)) (D:mL d H (ls ++ newl) (ps ++ [p]) (os ++ newl.map (·.name))) (hi:ops.Perm (p.ins ++ os)) (hne:newl.length≠0) (hl:(ls ++ newl).length<=26):
  Drawn.WF (uQ (ls ++ newl) (ps ++ [p]) (os ++ newl.map (·.name)) back):=by
 have nd:=D.nod hl
 rw [List.map_append] at nd
 have:=w.part (p:=p) hi (by rw [ho];exact nd) (by rw [ho];intro z;exact hne (by rw [<-lM (f:=fun l:aH=>l.name),z];rfl))
 rw [ho] at this
 unfold uQ
 rw [List.map_append]
 exact this
noncomputable def Calm (ps:List PD):Prop:=∀p∈ps,p.kind <9
theorem Calm.app {ps:List PD} {p:PD} (h:Calm ps) (hp:p.kind <9):Calm (ps ++ [p]):=fun q hq=>by
 rcases List.mem_append.mp hq with z | z
 ·exact h q z
 ·rw [List.mem_singleton] at z
  rw [z]
  exact hp
structure Zv (d:Dw) (H H':Hp) (ls:List aH) (ps:List PD) (back:List Str) (ls':List aH) (ps':List PD) (os':List Str):Prop where
 cut:aM (bf d.E H) (bf d.E H')
 at':mL d H' ls' ps' os'
 wf:Drawn.WF (uQ ls' ps' os' back)
 o1:1<=os'.length
 o4:os'.length<=4
 l2:ls'.length<=ls.length+2
 p2:ps'.length<=ps.length+2
 cm:Calm ps->Calm ps'
theorem Ju {c X Y B:Prop} [Decidable c] (k:B) (hx:c->B->X) (hy:B->Y):if c then X else Y:=by
 split
 ·rename_i h;exact hx h k
 ·exact hy k
theorem hide {t u:TS} {D:Ends} {σ:St} {H:Hp} (h:∀v,v=u->yD t v D σ H):yD t u D σ H:=h u rfl
theorem Qg {i:Nat} {x:V} {t u:TS} {D:Ends} {σ:St} {H:Hp} (h:∀E,E=D->∀v,v=u->yD t v E (σ.set i (some x)) H):yu i x σ H fun σ2 H2=>yD t u D σ2 H2:=h D rfl u rfl
theorem VH {i:Nat} {x:V} {t:TS} {D:Ends} {σ:St} {H:Hp} (h:∀E,E=D->t E (σ.set i (some x)) H):yu i x σ H fun σ2 H2=>t D σ2 H2:=h D rfl
theorem Yr {t u:TS} {D:Ends} {σ:St} {H:Hp} (h:∀E,E=D->∀v,v=u->yD t v E σ H):yD t u D σ H:=h D rfl u rfl
theorem dj {t u v:TS} {D:Ends} {σ:St} {H:Hp} (hv:v=yD t u) (h:∀w,w=u->yD t w D σ H):v D σ H:=by
 subst hv
 exact h u rfl
theorem mL.two {d:Dw} {H:Hp} {ls:List aH} {ps:List PD} {os:List Str} (D:mL d H ls ps os) {a1 a2:Addr} {x y:HO} (n1:H a1=none) (n2:upd H a1 x a2=none):
  mL d (upd (upd H a1 x) a2 y) ls ps os/\bf d.E (upd (upd H a1 x) a2 y) a1=some x/\bf d.E (upd (upd H a1 x) a2 y) a2=some y/\aM (bf d.E H) (bf d.E (upd (upd H a1 x) a2 y)):=by
 have s1:=aB (o:=x) n1
 have s2:=aB (o:=y) n2
 have s:=s1.trans s2
 exact⟨D.keep s,cQ (s2 _ _ aq) (D.out n1),cQ aq (D.out (s1.free n2)),D.cut s⟩
structure Ga (lanes:List Str) (ps:List PD):Prop where
 nod:lanes.Nodup
 outs:(ps.flatMap (·.outs)).Perm lanes
 ins:(ps.flatMap (·.ins)).Perm lanes
 hang:∃y,∀q∈ps,∃x∈q.ins ++ q.outs,Drawn.jd ps x y
noncomputable def Fy (H:Hp) (a:Addr):Nat:=match H a with
 | some (.lst xs)=>xs.length
 | _=>0
theorem xZ {H:Hp} {a:Addr} {xs:List V} (h:H a=some (.lst xs)):Fy H a=xs.length:=by
 unfold Fy
 rw [h]
theorem Mf (m:Int) {n:Int} {k:Nat} (h0:0 <n) (hk:n=k):∃j:Nat,m % n=(j:Int)/\j <k:=by
 have h1:=Int.emod_nonneg m (Int.ne_of_gt h0)
 have h2:=Int.emod_lt_of_pos m h0
 exact⟨(m % n).toNat,(Int.toNat_of_nonneg h1).symm,by omega⟩
theorem Yj (m:Int):∃i:Nat,JZ [V.str "add",V.str "less",V.str "add"] (m % 3)=some (.str (dh i))/\(i=6∨i=7):=by
 have key:∀j,j <3->JZ [V.str "add",V.str "less",V.str "add"] ((j:Nat):Int)=some (.str (dh (([6,7,6]:List Nat).getD j 0)))/\(([6,7,6]:List Nat).getD j 0=6∨([6,7,6]:List Nat).getD j 0=7):=by decide +kernel
 obtain⟨j,e,hj⟩:=Mf m (n:=3) (k:=3) (by decide) rfl
 rw [e]
 exact⟨_,key j hj⟩
structure Q9 (c3 c4:Int) (ls:List aH) (ps:List PD):Prop where
 lok:∀l∈ls,l.ok
 pok:∀p∈ps,oX p
 ln:ls.map (·.name)=(List.range ls.length).map (cG c3)
 pn:((List.range ps.length).map (cG c4)).Perm (ps.map (·.name))
 whole:Ga (ls.map (·.name)) ps
 l1:1<=ls.length
 l17:ls.length<=17
 p1:1<=ps.length
 p16:ps.length<=16
 calm:Calm ps
structure DQ (H:Hp) (L P:Addr) (ls:List aH) (ps:List PD):Prop where
 lanes:∃xs,H L=some (.lst xs)/\jJ (wD H) xs ls
 parts:∃xs,H P=some (.lst xs)/\jJ (Cq H) xs ps
theorem DQ.same {H H':Hp} {L P:Addr} {ls:List aH} {ps:List PD} (h:DQ H L P ls ps) (s:aM H H'):DQ H' L P ls ps:=by
 obtain⟨⟨xs,e1,a1⟩,⟨ys,e2,a2⟩⟩:=h
 exact⟨⟨xs,s _ _ e1,a1.imp fun _ _ h=>h.same s⟩,⟨ys,s _ _ e2,a2.imp fun _ _ h=>h.same s⟩⟩
theorem Oq {ps qs:List PD} (h:ps.Perm qs) {x y:Str} (c:Drawn.jd ps x y):Drawn.jd qs x y:=c.mono fun _ hp=>h.mem_iff.mp hp
theorem Ga.perm {ns:List Str} {ps qs:List PD} (w:Ga ns ps) (h:ps.Perm qs):Ga ns qs:=by
 obtain⟨y,hy⟩:=w.hang
 exact⟨w.nod,(h.symm.flatMap_right _).trans w.outs,(h.symm.flatMap_right _).trans w.ins,y,fun q hq=>by
  obtain⟨x,hx,c⟩:=hy q (h.mem_iff.mpr hq)
  exact⟨x,hx,Oq h c⟩⟩
theorem Rq {α:Type} (l:List α) (n:Nat):l.Perm (l.drop n ++ l.take n):=by
 have h:l.Perm (l.take n ++ l.drop n):=by rw [List.take_append_drop]
 exact h.trans List.perm_append_comm
theorem GZ (xs:List V) (g:Nat):xR xs (some (g:Int)) none=xs.drop g:=by
 unfold xR
 rw [HT.BL,HT.xQ,<-List.length_drop,List.take_length]
 rcases Nat.le_total g xs.length with h | h
 ·rw [Nat.min_eq_left h]
 ·rw [Nat.min_eq_right h,List.drop_length,List.drop_eq_nil_of_le h]
theorem Uy (xs:List V) (g:Nat):xR xs none (some (g:Int))=xs.take g:=by
 unfold xR
 rw [HT.BL,HT.xQ,List.drop_zero,Nat.sub_zero]
 rcases Nat.le_total g xs.length with h | h
 ·rw [Nat.min_eq_left h]
 ·rw [Nat.min_eq_right h,List.take_length,List.take_of_length_le h]
theorem mL.init {H:Hp} {S L P O:Addr} (c3 c4:Int) (nL:H L=none) (nP:upd H L (.lst []) P=none) (nO:upd (upd H L (.lst [])) P (.lst []) O=none) (nS:upd (upd (upd H L (.lst [])) P (.lst [])) O (.lst []) S=none):
  mL ⟨S,L,P,O,c3,c4⟩ (upd (upd (upd (upd H L (.lst [])) P (.lst [])) O (.lst [])) S (.lst [.ref L,.ref P,.ref O,.int c3,.int c4])) [] [] []/\aM H (bf [L,P,O] (upd (upd (upd (upd H L (.lst [])) P (.lst [])) O (.lst [])) S (.lst [.ref L,.ref P,.ref O,.int c3,.int c4])))/\H P=none:=by
 have s1:=aB (o:=.lst []) nL
 have s2:=aB (o:=.lst []) nP
 have s3:=aB (o:=.lst []) nO
 have s4:=aB (o:=.lst [.ref L,.ref P,.ref O,.int c3,.int c4]) nS
 have e1:=s4 _ _ (s3 _ _ (s2 L (.lst []) aq))
 have e2:=s4 _ _ (s3 P (.lst []) aq)
 have e3:=s4 O (.lst []) aq
 have n1:L≠P:=aD (aq (H:=H) (o:=.lst [])) nP
 have n2:L≠O:=aD (s2 L (.lst []) aq) nO
 have n3:P≠O:=aD (aq (H:=upd H L (.lst [])) (o:=.lst [])) nO
 have m1:L≠S:=aD (s3 _ _ (s2 L (.lst []) aq)) nS
 have m2:P≠S:=aD (s3 P (.lst []) aq) nS
 have m3:O≠S:=aD (aq (H:=upd (upd H L (.lst [])) P (.lst [])) (o:=.lst [])) nS
 refine⟨⟨cQ aq ?_,⟨[],e1,.nil⟩,⟨[],e2,.nil⟩,e3,⟨n1,n2,n3⟩,(fun _ h=>by cases h),(fun _ h=>by cases h),rfl,rfl⟩,fun b o e=>cQ (s4 _ _ (s3 _ _ (s2 _ _ (s1 _ _ e)))) ?_,s1.free nP⟩
 ·show S∉[L,P,O]
  simp [m1.symm,m2.symm,m3.symm]
 ·have q1:=aD e nL
  have q2:=aD (s1 _ _ e) nP
  have q3:=aD (s2 _ _ (s1 _ _ e)) nO
  simp [q1,q2,q3]
noncomputable abbrev LET:Str:= "abcdefghijklmnopqrstuvwxyz"
noncomputable abbrev ZL:Str:= "0123456789"
theorem Ou:LET.cps.toList=List.range' 97 26:=by decide +kernel
theorem Og:ZL.cps.toList=List.range' 48 10:=by decide +kernel
theorem QG (c:Nat):(!(Builtin.Str.occurrences LET ⟨#[c]⟩ 0 LET.length 1).isEmpty)=low c:=by
 rw [StrLaws.found_one,Ou]
 unfold low
 rw [Bool.eq_iff_iff]
 simp [List.mem_range'_1]
 omega
theorem Xn (c:Nat):(!(Builtin.Str.occurrences ZL ⟨#[c]⟩ 0 ZL.length 1).isEmpty)=Lk c:=by
 rw [StrLaws.found_one,Og]
 unfold Lk
 rw [Bool.eq_iff_iff]
 simp [List.mem_range'_1]
 omega
structure TX (ms:List Str) (want:List (Str×V)) (fs:List (Str×V)):Prop where
 has:∀p∈want,fs.lookup p.1=some p.2
 no:∀m∈ms,fs.lookup m=none
theorem jo {H:Hp} {d:Addr} {kvs:List (Key×V)} {v:HO} (e:H d=some (.dK kvs)) {b:Addr} {u:HO} (h:H b=some u) (hu:∀ks,u≠.dK ks):upd H d v b=some u:=by
 rw [aK]
 ·exact h
 ·rintro rfl
  rw [e] at h
  exact hu _ (Option.some.inj h).symm
theorem fO {H:Hp} {d a:Addr} {kvs:List (Key×V)} {v:HO} {xs:List V} (e:H d=some (.dK kvs)) (h:fu K H a xs):fu K (upd H d v) a xs:=by
 rcases h with (h | ⟨o,h⟩) | h
 ·exact .inl (.inl (jo e h (by intro _ z;cases z)))
 ·exact .inl (.inr ⟨o,jo e h (by intro _ z;cases z)⟩)
 ·exact .inr h
theorem dX.chill {H:Hp} {d p:Addr} {kvs:List (Key×V)} {v:HO} {i:Nat} {nm:V} {ns is os:List V} (e:H d=some (.dK kvs)) (h:dX K t H p i nm ns is os):dX K t (upd H d v) p i nm ns is os:=by
 obtain⟨dx,tn,ti,to,h1,h2,h3,h4⟩:=h
 exact⟨dx,tn,ti,to,jo e h1 (by intro _ z;cases z),fO e h2,fO e h3,fO e h4⟩
theorem Pa {H:Hp} {d D:Addr} {kvs:List (Key×V)} {o:Obj} {u:HO} (e:H d=some (.dK kvs)) (hD:(upd H d (.frz o (.dK kvs))) D=none):upd (upd (upd H d (.frz o (.dK kvs))) D u) d (.dK kvs)=upd H D u:=by
 have n:D≠d:=by rintro rfl;rw [aq] at hD;cases hD
 funext b
 by_cases h:b=d
 ·subst h
  rw [aq,aK (Ne.symm n)]
  exact e.symm
 ·rw [aK h]
  unfold upd
  rw [if_neg h]
theorem Ls {H:Hp} {d D:Addr} {v:HO} (hD:(upd H d v) D=none):H D=none:=by
 by_cases h:D=d
 ·subst h;rw [aq] at hD;cases hD
 ·rw [aK h] at hD;exact hD
theorem Ha {H:Hp} {a:Addr} {o:HO} (e:H a=some o):upd H a o=H:=by
 funext b
 unfold upd
 split
 ·rename_i h;rw [h];exact e.symm
 ·rfl
theorem ir {κ:Type} [DecidableEq κ] {kvs:List (κ×V)} {k:κ} (h:k∉kvs.map (·.1)):bZ kvs k=none:=by
 induction kvs with
 | nil=>rfl
 | cons p r ih=>
  simp only [List.map_cons,List.mem_cons,not_or] at h
  rw [fG (Ne.symm h.1)]
  exact ih h.2
theorem iK {κ:Type} [DecidableEq κ] {kvs:List (κ×V)} {k:κ} {v:V} (nd:(kvs.map (·.1)).Nodup) (h:(k,v)∈kvs):bZ kvs k=some v:=by
 induction kvs with
 | nil=>cases h
 | cons p r ih=>
  simp only [List.map_cons,List.nodup_cons] at nd
  rcases List.mem_cons.mp h with h | h
  ·subst h
   exact f9 rfl
  ·have:¬p.1=k:=fun z=>nd.1 (List.mem_map.mpr ⟨_,h,z.symm⟩)
   rw [fG this]
   exact ih nd.2 h
noncomputable def cH (f:PD->List Str) (ps:List PD):List (Key×V):=ps.flatMap fun p=>(f p).map fun l=>((Sum.inr l:Key),V.str p.name)
theorem wJ (f:PD->List Str) (ps:List PD):(cH f ps).map (·.1)=(ps.flatMap f).map (fun l=>(Sum.inr l:Key)):=by
 induction ps with
 | nil=>rfl
 | cons p r ih=>
  unfold cH at ih ⊢
  simp only [List.flatMap_cons,List.map_append,ih,List.map_map]
  rfl
theorem gh {l:List Str} (h:l.Nodup):(l.map (fun x=>(Sum.inr x:Key))).Nodup:=by
 induction l with
 | nil=>exact List.nodup_nil
 | cons a r ih=>
  simp only [List.map_cons,List.nodup_cons,List.mem_map] at h ⊢
  refine⟨?_,ih h.2⟩
  rintro⟨b,hb,e⟩
  cases e
  exact h.1 hb
theorem eQ {f:PD->List Str} {ps:List PD} (nd:(ps.flatMap f).Nodup) {p:PD} (hp:p∈ps) {l:Str} (hl:l∈f p):bZ (cH f ps) (Sum.inr l)=some (.str p.name):=
 iK (by rw [wJ];exact gh nd) (List.mem_flatMap.mpr ⟨p,hp,List.mem_map.mpr ⟨l,hl,rfl⟩⟩)
theorem Ds {f:PD->List Str} {ps:List PD} {l:Str} (h:l∉ps.flatMap f):bZ (cH f ps) (Sum.inr l)=none:=ir (by
 rw [wJ]
 intro z
 obtain⟨b,hb,e⟩:=List.mem_map.mp z
 cases e
 exact h hb)
theorem Oe (f:PD->List Str) (ps:List PD):(cH f ps).length=(ps.flatMap f).length:=by
 have:=congrArg List.length (wJ f ps)
 simpa using this
theorem Cj (f:PD->List Str) (ps:List PD) (p:PD):cH f (ps ++ [p])=cH f ps ++ (f p).map fun l=>((Sum.inr l:Key),V.str p.name):=by
 unfold cH
 rw [List.flatMap_append]
 simp
theorem Nz {α:Type} {f g:α->Bool}:∀{l:List α},(∀a∈l,g a=true->f a=true)->(∃a∈l,f a=true/\g a=false)->(l.filter g).length <(l.filter f).length
 | [],_,h=>by obtain⟨a,ha,_⟩:=h;cases ha
 | x:: r,h,h2=>by
  have le:∀r:List α,(∀a∈r,g a=true->f a=true)->(r.filter g).length<=(r.filter f).length:=fun r=>by
   induction r with
   | nil=>intro _;exact Nat.le_refl _
   | cons y t ih=>
    intro q
    have:=ih fun a ha=>q a (List.mem_cons_of_mem _ ha)
    have q0:=q y List.mem_cons_self
    rw [List.filter_cons,List.filter_cons]
    cases hg:g y
    ·simp only [Bool.false_eq_true,if_false]
     split
     ·rw [List.length_cons];omega
     ·exact this
    ·rw [q0 hg]
     simp only [if_true,List.length_cons]
     omega
  obtain⟨a,ha,hf,hg⟩:=h2
  have hr:=fun a ha=>h a (List.mem_cons_of_mem x ha)
  rw [List.filter_cons,List.filter_cons]
  rcases List.mem_cons.mp ha with rfl | ha
  ·rw [hf,hg]
   have:=le r hr
   simp
   omega
  ·have ih:=Nz hr ⟨a,ha,hf,hg⟩
   have q0:=h x List.mem_cons_self
   cases hx:g x
   ·simp only [Bool.false_eq_true,if_false]
    split
    ·rw [List.length_cons];omega
    ·exact ih
   ·rw [q0 hx]
    simp only [if_true,List.length_cons]
    omega
noncomputable def gA (jk:List (Key×V)) (x:Str):Bool:=(bZ jk (Sum.inr x)).isSome
noncomputable def n6 (ps:List PD) (jk:List (Key×V)):Nat:=(ps.filter fun p=>!gA jk p.name).length
theorem Kd (jk:List (Key×V)) (x y:Str) (v:V):gA (putK jk (Sum.inr x) v) y=(decide (y=x) || gA jk y):=by
 unfold gA
 rw [SM]
 by_cases h:y=x
 ·subst h;simp
 ·have:¬(Sum.inr y:Key)=Sum.inr x:=fun z=>h (Sum.inr.inj z)
  rw [if_neg this]
  simp [h]
theorem Kh {ps:List PD} {jk jk':List (Key×V)} (h:∀x,gA jk x=true->gA jk' x=true) {p:PD} (hp:p∈ps) (h1:gA jk p.name=false) (h2:gA jk' p.name=true):n6 ps jk' <n6 ps jk:=by
 refine Nz (fun a _ q=>?_) ⟨p,hp,by simp [h1],by simp [h2]⟩
 cases hj:gA jk a.name
 ·rfl
 ·rw [h _ hj] at q;cases q
theorem N7 {ps:List PD} (pm:(ps.flatMap (·.outs)).Perm (ps.flatMap (·.ins))) {l:Str} (h:l∈ps.flatMap (·.outs)):∃a∈ps,∃b∈ps,l∈a.outs/\l∈b.ins:=by
 obtain⟨a,ha,hl⟩:=List.mem_flatMap.mp h
 obtain⟨b,hb,hl2⟩:=List.mem_flatMap.mp (pm.mem_iff.mp h)
 exact⟨a,ha,b,hb,hl,hl2⟩
theorem Wu {ps:List PD} (no:(ps.flatMap (·.outs)).Nodup) (ni:(ps.flatMap (·.ins)).Nodup) (pm:(ps.flatMap (·.outs)).Perm (ps.flatMap (·.ins))) {jk:List (Key×V)} (hang:∃y,∀q∈ps,∃x∈q.ins ++ q.outs,Drawn.jd ps x y)
  (cl:∀a∈ps,∀b∈ps,∀l,l∈a.outs->l∈b.ins->gA jk a.name=gA jk b.name) {p0:PD} (hp0:p0∈ps) (h0:gA jk p0.name=true):∀q∈ps,gA jk q.name=true:=by
 obtain⟨y,hy⟩:=hang
 refine Drawn.Mr (J:=fun p=>gA jk p.name=true) (fun l p q hp hq hlp hlq hJ=>?_) hy hp0 h0
 have same:∀{f:PD->List Str},(ps.flatMap f).Nodup->∀{a b:PD},a∈ps->b∈ps->l∈f a->l∈f b->a.name=b.name:=fun {f} nd {a b} ha hb h1 h2=>by
  obtain⟨i,hi,ei⟩:=List.mem_iff_getElem.mp ha
  obtain⟨j,hj,ej⟩:=List.mem_iff_getElem.mp hb
  have:=Drawn.Ph f nd (i:=i) (j:=j) (p:=a) (q:=b) (l:=l) (by rw [List.getElem?_eq_getElem hi,ei]) (by rw [List.getElem?_eq_getElem hj,ej]) h1 h2
  subst this
  rw [<-ei,<-ej]
 have hl:l∈ps.flatMap (·.outs):=by
  rcases List.mem_append.mp hlp with h | h
  ·exact pm.mem_iff.mpr (List.mem_flatMap.mpr ⟨p,hp,h⟩)
  ·exact List.mem_flatMap.mpr ⟨p,hp,h⟩
 obtain⟨a,ha,b,hb,la,lb⟩:=N7 pm hl
 have e:=cl a ha b hb l la lb
 have np:p.name=a.name∨p.name=b.name:=(List.mem_append.mp hlp).elim (fun h=>.inr (same ni hp hb h lb)) fun h=>.inl (same no hp ha h la)
 have nq:q.name=a.name∨q.name=b.name:=(List.mem_append.mp hlq).elim (fun h=>.inr (same ni hq hb h lb)) fun h=>.inl (same no hq ha h la)
 show gA jk q.name=true
 change gA jk p.name=true at hJ
 rcases np with np | np <;> rcases nq with nq | nq <;> rw [np] at hJ <;> rw [nq]
 ·exact hJ
 ·rw [<-e];exact hJ
 ·rw [e];exact hJ
 ·exact hJ
theorem GK {z:Str} (h:nameB z=true):z.length<=100:=by
 unfold nameB at h
 rw [<-m9]
 split at h
 ·simp_all
 ·rename_i e
  rw [e]
  simp only [Bool.and_eq_true,decide_eq_true_eq] at h
  rw [List.length_cons]
  omega
structure yN (ls:List aH) (ps:List PD):Prop where
 lok:∀l∈ls,1<=l.room/\l.room<=199/\(l.first.length:Int)<=l.room/\∀v∈l.first,0<=v/\v <1000000000
 pok:∀p∈ps,oX p
 lnm:∀l∈ls,nameB l.name=true
 pnm:∀p∈ps,nameB p.name=true
 pnd:(ps.map (·.name)).Nodup
 whole:Ga (ls.map (·.name)) ps
 l1:1<=ls.length
 l24:ls.length<=24
 p1:1<=ps.length
 p16:ps.length<=16
theorem Jd {c:Int} {n:Nat} (hn:n<=26) {x:Str} (h:x∈(List.range n).map (cG c)):∃k,k <n/\x=cG c k:=by
 obtain⟨k,hk,rfl⟩:=List.mem_map.mp h
 exact⟨k,List.mem_range.mp hk,rfl⟩
theorem Q9.fit {c3 c4:Int} {ls:List aH} {ps:List PD} (h:Q9 c3 c4 ls ps):yN ls ps:=by
 have a:=h.l17
 have b:=h.p16
 refine⟨fun l hl=>?_,h.pok,fun l hl=>?_,fun p hp=>?_,?_,h.whole,h.l1,by omega,h.p1,h.p16⟩
 ·obtain⟨x1,x2,x3,x4⟩:=h.lok l hl
  exact⟨x1,by omega,x3,x4⟩
 ·obtain⟨k,hk,e⟩:=Jd (c:=c3) (n:=ls.length) (by omega) (by rw [<-h.ln];exact List.mem_map.mpr ⟨l,hl,rfl⟩)
  rw [e]
  exact Nr _ (by omega)
 ·obtain⟨k,hk,e⟩:=Jd (c:=c4) (n:=ps.length) (by omega) (h.pn.mem_iff.mpr (List.mem_map.mpr ⟨p,hp,rfl⟩))
  rw [e]
  exact Nr _ (by omega)
 ·exact h.pn.nodup_iff.mp (z8 _ (by omega))
theorem Q9.lane20 {c3 c4:Int} {ls:List aH} {ps:List PD} (h:Q9 c3 c4 ls ps):cG c3 20∉ls.map (·.name):=fun z=>by
 have a:=h.l17
 rw [h.ln] at z
 obtain⟨k,hk,e⟩:=Jd (by omega) z
 have:=Ke _ (by omega) (by omega) e
 omega
noncomputable def eY (ls:List aH):List (Key×V):=ls.map fun l=>((Sum.inr l.name:Key),V.int l.room)
noncomputable def bK (FL:List (aH×Addr)):List (Key×V):=FL.map fun q=>((Sum.inr q.1.name:Key),V.ref q.2)
noncomputable def cL (PL:List (PD×Addr)):List (Key×V):=PL.map fun q=>((Sum.inr q.1.name:Key),V.ref q.2)
theorem uD (ls:List aH):(eY ls).map (·.1)=(ls.map (·.name)).map (fun x=>(Sum.inr x:Key)):=by unfold eY;rw [List.map_map,List.map_map];rfl
theorem rF (FL:List (aH×Addr)):(bK FL).map (·.1)=((FL.map (·.1)).map (·.name)).map (fun x=>(Sum.inr x:Key)):=by unfold bK;rw [List.map_map,List.map_map,List.map_map];rfl
theorem zZ (PL:List (PD×Addr)):(cL PL).map (·.1)=((PL.map (·.1)).map (·.name)).map (fun x=>(Sum.inr x:Key)):=by unfold cL;rw [List.map_map,List.map_map,List.map_map];rfl
structure rD (K:PySem.W.Frag) (t:jw) (H:Hp) (n:Addr) (ls:List aH) (ps:List PD) (dx:Addr) (fs:List (Str×V)) (R F Pd G Tk:Addr) (FL:List (aH×Addr)) (PL:List (PD×Addr)):Prop where
 obj:H n=some (.ins t.dD dx fs)
 fl:TX ["lane_names", "part_names", "odd", "names_of_kind", "gives", "takes", "need_lane_name", "room_of", "first_of", "giver_of", "taker_of", "part_of", "__init__"] [("rooms",.ref R),("firsts",.ref F),("parts",.ref Pd),("givers",.ref G),("takers",.ref Tk)] fs
 rooms:H R=some (.dK (eY ls))
 firsts:H F=some (.dK (bK FL))
 parts:H Pd=some (.dK (cL PL))
 givers:H G=some (.dK (cH (·.outs) ps))
 takers:H Tk=some (.dK (cH (·.ins) ps))
 fls:FL.map (·.1)=ls
 pls:PL.map (·.1)=ps
 tups:∀q∈FL,fu K H q.2 (q.1.first.map V.int)
 pats:∀q∈PL,dX K t H q.2 q.1.kind (.str q.1.name) (q.1.nums.map V.int) (q.1.ins.map V.str) (q.1.outs.map V.str)
 fit:yN ls ps
 neRF:R≠F
inductive gH (K:PySem.W.Frag) (t:jw) (H:Hp) (n:Addr) (ls:List aH) (ps:List PD):Prop where
 | mk:∀dx fs R F Pd G Tk FL PL,rD K t H n ls ps dx fs R F Pd G Tk FL PL->gH K t H n ls ps
section
variable {H H':Hp} {n dx R F Pd G Tk:Addr} {ls:List aH} {ps:List PD} {fs:List (Str×V)} {FL:List (aH×Addr)} {PL:List (PD×Addr)}
theorem rD.same (N:rD K t H n ls ps dx fs R F Pd G Tk FL PL) (s:aM H H'):rD K t H' n ls ps dx fs R F Pd G Tk FL PL:=
 ⟨s _ _ N.obj,N.fl,s _ _ N.rooms,s _ _ N.firsts,s _ _ N.parts,s _ _ N.givers,s _ _ N.takers,N.fls,N.pls,fun q hq=>s.seqT (N.tups q hq),fun q hq=>(N.pats q hq).same s,N.fit,N.neRF⟩
theorem gH.same (N:gH K t H n ls ps) (s:aM H H'):gH K t H' n ls ps:=by
 obtain⟨dx,fs,R,F,Pd,G,Tk,FL,PL,N⟩:=N
 exact⟨dx,fs,R,F,Pd,G,Tk,FL,PL,N.same s⟩
theorem rD.s (N:rD K t H n ls ps dx fs R F Pd G Tk FL PL):gH K t H n ls ps:=⟨dx,fs,R,F,Pd,G,Tk,FL,PL,N⟩
theorem rD.room (N:rD K t H n ls ps dx fs R F Pd G Tk FL PL) {l:aH} (hl:l∈ls):bZ (eY ls) (Sum.inr l.name)=some (.int l.room):=
 iK (by rw [uD];exact gh N.fit.whole.nod) (List.mem_map.mpr ⟨l,hl,rfl⟩)
theorem rD.firstV (N:rD K t H n ls ps dx fs R F Pd G Tk FL PL) {q:aH×Addr} (hq:q∈FL):bZ (bK FL) (Sum.inr q.1.name)=some (.ref q.2):=
 iK (by rw [rF,N.fls];exact gh N.fit.whole.nod) (List.mem_map.mpr ⟨q,hq,rfl⟩)
theorem rD.partV (N:rD K t H n ls ps dx fs R F Pd G Tk FL PL) {q:PD×Addr} (hq:q∈PL):bZ (cL PL) (Sum.inr q.1.name)=some (.ref q.2):=
 iK (by rw [zZ,N.pls];exact gh N.fit.pnd) (List.mem_map.mpr ⟨q,hq,rfl⟩)
theorem rD.ono (N:rD K t H n ls ps dx fs R F Pd G Tk FL PL):(ps.flatMap (·.outs)).Nodup:=N.fit.whole.outs.nodup_iff.mpr N.fit.whole.nod
theorem rD.ini (N:rD K t H n ls ps dx fs R F Pd G Tk FL PL):(ps.flatMap (·.ins)).Nodup:=N.fit.whole.ins.nodup_iff.mpr N.fit.whole.nod
end
theorem DR {α:Type} {f:α->Str} {xs:List α} {x:Str}:inV (.str x) (xs.map fun p=>V.str (f p))=decide (x∈xs.map f):=by
 rw [Bool.eq_iff_iff]
 unfold inV
 rw [List.any_eq_true,decide_eq_true_eq]
 constructor
 ·rintro⟨v,hv,e⟩
  obtain⟨p,hp,rfl⟩:=List.mem_map.mp hv
  exact List.mem_map.mpr ⟨p,hp,by simpa [Ew] using e⟩
 ·intro h
  obtain⟨p,hp,rfl⟩:=List.mem_map.mp h
  exact⟨.str (f p),List.mem_map.mpr ⟨p,hp,rfl⟩,by simp [Ew]⟩
noncomputable def dN (ps:List PD) (x:Str):List V:=(ps.filter fun p=>decide (dh p.kind=x)).map fun p=>V.str p.name
theorem N8 (ps:List PD) (x:Str) (p:PD):dN (ps ++ [p]) x=if dh p.kind=x then dN ps x ++ [V.str p.name] else dN ps x:=by
 unfold dN
 rw [List.filter_append,List.map_append]
 by_cases h:dh p.kind=x
 ·rw [if_pos h];simp [h]
 ·rw [if_neg h];simp [h]
theorem xW (ps:List PD) (x:Str):(dN ps x).length<=ps.length:=by
 unfold dN
 rw [lM]
 exact List.length_filter_le _ _
noncomputable def Ia (p:PD):Bool:=decide (dh p.kind= "choose") || decide (dh p.kind= "split")
noncomputable def Hg (ps:List PD):V:=match ps.find? Ia with
 | some p=>.str p.name
 | none=>.non
theorem Ve (p:PD):inV (.str (dh p.kind)) [.str "choose",.str "split"]=Ia p:=by
 have n1:¬("choose" :Str)= "split" :=by decide +kernel
 by_cases h1:dh p.kind= "choose"
 ·simp [inV,Ew,Ia,h1]
 ·by_cases h2:dh p.kind= "split"
  ·simp [inV,Ew,Ia,h2]
  ·simp [inV,Ew,Ia,h1,h2,Ne.symm h1,Ne.symm h2]
inductive Jv (K:PySem.W.Frag) (H:Hp) (v:V) (l:aH):Prop where
 | mk:∀q f,v=.ref q->H q=some (.tup [.str l.name,.int l.room,.ref f])->fu K H f (l.first.map V.int)->Jv K H v l
inductive RZ (K:PySem.W.Frag) (H:Hp) (v:V) (p:PD):Prop where
 | mk:∀q a1 a2 a3,v=.ref q->H q=some (.tup [.str (dh p.kind),.str p.name,.ref a1,.ref a2,.ref a3])->fu K H a1 (p.nums.map V.int)->fu K H a2 (p.ins.map V.str)->fu K H a3 (p.outs.map V.str)->RZ K H v p
theorem Jv.same {H H':Hp} {v:V} {l:aH} (h:Jv K H v l) (s:aM H H'):Jv K H' v l:=by
 obtain⟨q,f,e,h1,h2⟩:=h
 exact⟨q,f,e,s _ _ h1,s.seqT h2⟩
theorem RZ.same {H H':Hp} {v:V} {p:PD} (h:RZ K H v p) (s:aM H H'):RZ K H' v p:=by
 obtain⟨q,a1,a2,a3,e,h1,h2,h3,h4⟩:=h
 exact⟨q,a1,a2,a3,e,s _ _ h1,s.seqT h2,s.seqT h3,s.seqT h4⟩
structure Ly (K:PySem.W.Frag) (H:Hp) (T a b:Addr) (ls:List aH) (ps:List PD):Prop where
 tup:H T=some (.tup [.ref a,.ref b])
 lanes:∃xs,H a=some (.lst xs)/\jJ (Jv K H) xs ls
 parts:∃xs,H b=some (.lst xs)/\jJ (RZ K H) xs ps
theorem Ly.same {H H':Hp} {T a b:Addr} {ls:List aH} {ps:List PD} (h:Ly K H T a b ls ps) (s:aM H H'):Ly K H' T a b ls ps:=by
 obtain⟨h1,⟨xs,e1,a1⟩,⟨ys,e2,a2⟩⟩:=h
 exact⟨s _ _ h1,⟨xs,s _ _ e1,a1.imp fun _ _ h=>h.same s⟩,⟨ys,s _ _ e2,a2.imp fun _ _ h=>h.same s⟩⟩
structure Tr (H:Hp) (f:Addr) (L:List (Addr×HO)) (Hk:Hp):Prop where
 but:jK f H Hk
 all:∀p∈L,Hk p.1=some p.2
 fre:∀p∈L,p.1=f∨H p.1=none
 nod:(L.map Prod.fst).Nodup
 obj:∃o,(f,o)∈L
theorem Tr.free {H Hk:Hp} {f x:Addr} {L:List (Addr×HO)} (T:Tr H f L Hk) (nx:Hk x=none):H x=none:=by
 cases e:H x with
 | none=>rfl
 | some o=>
  by_cases h:x=f
  ·obtain⟨u,hu⟩:=T.obj
   have:=T.all _ hu
   rw [h] at nx
   rw [nx] at this
   cases this
  ·rw [T.but x o h e] at nx
   cases nx
theorem Tr.new {H Hk:Hp} {f x:Addr} {L:List (Addr×HO)} {o:HO} (T:Tr H f L Hk) (nx:Hk x=none):Tr H f (L ++ [(x,o)]) (upd Hk x o):=by
 have hne:∀p∈L,p.1≠x:=fun p hp z=>by have:=T.all p hp;rw [z,nx] at this;cases this
 have hx:=T.free nx
 refine⟨fun b u n e=>by rw [aK (aD e hx)];exact T.but b u n e,fun p hp=>?_,fun p hp=>?_,?_,?_⟩
 ·rcases List.mem_append.mp hp with h | h
  ·rw [aK (hne p h)];exact T.all p h
  ·rw [List.mem_singleton] at h;subst h;exact aq
 ·rcases List.mem_append.mp hp with h | h
  ·exact T.fre p h
  ·rw [List.mem_singleton] at h;subst h;exact .inr hx
 ·rw [List.map_append,List.nodup_append]
  refine⟨T.nod,by simp,fun a ha b hb=>?_⟩
  obtain⟨p,hp,rfl⟩:=List.mem_map.mp ha
  simp at hb
  subst hb
  exact hne p hp
 ·obtain⟨u,hu⟩:=T.obj
  exact⟨u,List.mem_append.mpr (.inl hu)⟩
theorem Tr.same {H Hk Hk':Hp} {f:Addr} {L:List (Addr×HO)} (T:Tr H f L Hk) (s:aM Hk Hk'):Tr H f L Hk':=
 ⟨fun b u n e=>s _ _ (T.but b u n e),fun p hp=>s _ _ (T.all p hp),T.fre,T.nod,T.obj⟩
theorem Tr.put {H Hk:Hp} {f x:Addr} {o o':HO} {L1 L2:List (Addr×HO)} (T:Tr H f (L1 ++ (x,o):: L2) Hk):Tr H f (L1 ++ (x,o'):: L2) (upd Hk x o'):=by
 have hx:x=f∨H x=none:=T.fre (x,o) (by simp)
 have nd:=T.nod
 rw [List.map_append,List.map_cons,List.nodup_append] at nd
 obtain⟨n1,n2,n3⟩:=nd
 rw [List.nodup_cons] at n2
 refine⟨fun b u n e=>?_,fun p hp=>?_,fun p hp=>?_,?_,?_⟩
 ·have:b≠x:=by
   rcases hx with rfl | hx
   ·exact n
   ·exact aD e hx
  rw [aK this];exact T.but b u n e
 ·rcases List.mem_append.mp hp with h | h
  ·have:p.1≠x:=n3 p.1 (List.mem_map.mpr ⟨p,h,rfl⟩) x (by simp)
   rw [aK this];exact T.all p (by simp [h])
  ·rcases List.mem_cons.mp h with rfl | h
   ·exact aq
   ·have:p.1≠x:=fun z=>n2.1 (by rw [<-z];exact List.mem_map.mpr ⟨p,h,rfl⟩)
    rw [aK this];exact T.all p (by simp [h])
 ·rcases List.mem_append.mp hp with h | h
  ·exact T.fre p (by simp [h])
  ·rcases List.mem_cons.mp h with rfl | h
   ·exact hx
   ·exact T.fre p (by simp [h])
 ·have:=T.nod
  rw [List.map_append,List.map_cons] at this ⊢
  exact this
 ·obtain⟨u,hu⟩:=T.obj
  rcases List.mem_append.mp hu with h | h
  ·exact⟨u,by simp [h]⟩
  ·rcases List.mem_cons.mp h with h | h
   ·cases h;exact⟨o',by simp⟩
   ·exact⟨u,by simp [h]⟩
theorem Tr.start {H:Hp} {f:Addr} {o:HO} (e:H f=some o):Tr H f [(f,o)] H:=⟨jK.refl _,fun p hp=>by rw [List.mem_singleton] at hp;subst hp;exact e,fun p hp=>by rw [List.mem_singleton] at hp;subst hp;exact .inl rfl,by simp,o,by simp⟩
inductive Vx (K:PySem.W.Frag) (H:Hp) (v:V) (l:aH):Prop where
 | mk:∀q f,v=.ref q->H q=some (.tup [.str l.name,.int l.room,.ref f])->yt K H f (l.first.map V.int)->Vx K H v l
inductive Yn (K:PySem.W.Frag) (H:Hp) (v:V) (p:PD):Prop where
 | mk:∀q a1 a2 a3,v=.ref q->H q=some (.tup [.str (dh p.kind),.str p.name,.ref a1,.ref a2,.ref a3])->yt K H a1 (p.nums.map V.int)->yt K H a2 (p.ins.map V.str)->yt K H a3 (p.outs.map V.str)->Yn K H v p
structure Hand (K:PySem.W.Frag) (H:Hp) (Ll Lp:Addr) (ls:List aH) (ps:List PD):Prop where
 ll:∃xs,bJ K H Ll xs/\jJ (Vx K H) xs ls
 lp:∃xs,bJ K H Lp xs/\jJ (Yn K H) xs ps
theorem lJ {α:Type} {f:α->Str} {xs:List α} (nd:(xs.map f).Nodup) {j:Nat} {x:α} (h:xs[j]?=some x):f x∉(xs.take j).map f:=fun hm=>by
 have hj:=(List.getElem?_eq_some_iff.mp h).1
 have e:xs[j]=x:=(List.getElem?_eq_some_iff.mp h).2
 rw [List.map_take] at hm
 obtain⟨i,hi,ei⟩:=List.mem_iff_getElem.mp hm
 rw [List.length_take,lM] at hi
 rw [List.getElem_take] at ei
 have e2:(xs.map f)[j]'(by rw [lM];exact hj)=f x:=by rw [List.getElem_map,e]
 have:=(List.getElem_inj nd).mp (ei.trans e2.symm)
 omega
theorem Nu {f:PD->List Str} {ps:List PD} (nd:(ps.flatMap f).Nodup) {j:Nat} {p:PD} (h:ps[j]?=some p):(f p).Nodup/\∀z∈f p,z∉(ps.take j).flatMap f:=by
 have hj:=(List.getElem?_eq_some_iff.mp h).1
 have e:ps[j]=p:=(List.getElem?_eq_some_iff.mp h).2
 have e2:ps=ps.take j ++ p:: ps.drop (j+1):=by rw [<-e,<-List.drop_eq_getElem_cons hj,List.take_append_drop]
 rw [e2,List.flatMap_append,List.flatMap_cons,List.nodup_append] at nd
 obtain⟨n1,n2,n3⟩:=nd
 rw [List.nodup_append] at n2
 exact⟨n2.1,fun z hz hm=>n3 z hm z (List.mem_append.mpr (.inl hz)) rfl⟩
theorem xj {H:Hp} {d:Addr} {kvs:List (Key×V)} (e:H d=some (.dK kvs)) {b:Addr} {u:HO} (h:H b=some u) (hu:∀ks,u≠.dK ks):bf [d] H b=some u:=cQ h (by
 rw [List.mem_singleton]
 rintro rfl
 rw [e] at h
 exact hu _ (Option.some.inj h).symm)
theorem yf {H:Hp} {d a:Addr} {kvs:List (Key×V)} {xs:List V} (e:H d=some (.dK kvs)) (h:fu K H a xs):fu K (bf [d] H) a xs:=by
 rcases h with (h | ⟨o,h⟩) | h
 ·exact .inl (.inl (xj e h (by intro _ z;cases z)))
 ·exact .inl (.inr ⟨o,xj e h (by intro _ z;cases z)⟩)
 ·exact .inr h
theorem dX.off {H:Hp} {d p:Addr} {kvs:List (Key×V)} {i:Nat} {nm:V} {ns is os:List V} (e:H d=some (.dK kvs)) (h:dX K t H p i nm ns is os):dX K t (bf [d] H) p i nm ns is os:=by
 obtain⟨dx,tn,ti,to,h1,h2,h3,h4⟩:=h
 exact⟨dx,tn,ti,to,xj e h1 (by intro _ z;cases z),yf e h2,yf e h3,yf e h4⟩
theorem rD.off {H:Hp} {n dx R F Pd G Tk d:Addr} {ls:List aH} {ps:List PD} {fs:List (Str×V)} {FL:List (aH×Addr)} {PL:List (PD×Addr)} {kvs:List (Key×V)} (N:rD K t H n ls ps dx fs R F Pd G Tk FL PL) (e:H d=some (.dK kvs)) (ne:d≠R/\d≠F/\d≠Pd/\d≠G/\d≠Tk):rD K t (bf [d] H) n ls ps dx fs R F Pd G Tk FL PL:=by
 obtain⟨n1,n2,n3,n4,n5⟩:=ne
 have c:∀{x:Addr} {o:HO},d≠x->H x=some o->bf [d] H x=some o:=fun hx h=>cQ h (by rw [List.mem_singleton];exact Ne.symm hx)
 exact⟨xj e N.obj (by intro _ z;cases z),N.fl,c n1 N.rooms,c n2 N.firsts,c n3 N.parts,c n4 N.givers,c n5 N.takers,N.fls,N.pls,fun q hq=>yf e (N.tups q hq),fun q hq=>(N.pats q hq).off e,N.fit,N.neRF⟩
theorem DQ.off {H:Hp} {L P d:Addr} {ls:List aH} {ps:List PD} {kvs:List (Key×V)} (e:H d=some (.dK kvs)) (h:DQ H L P ls ps):DQ (bf [d] H) L P ls ps:=by
 obtain⟨⟨xs,e1,a1⟩,⟨ys,e2,a2⟩⟩:=h
 have g:∀{b:Addr} {u:HO},H b=some u->(∀ks,u≠.dK ks)->bf [d] H b=some u:=fun h hu=>xj e h hu
 refine⟨⟨xs,g e1 (by intro _ z;cases z),a1.imp fun _ _ h=>?_⟩,⟨ys,g e2 (by intro _ z;cases z),a2.imp fun _ _ h=>?_⟩⟩
 ·obtain⟨q,f,e0,h1,h2⟩:=h
  exact⟨q,f,e0,g h1 (by intro _ z;cases z),g h2 (by intro _ z;cases z)⟩
 ·obtain⟨q,b1,b2,b3,e0,h1,h2,h3,h4⟩:=h
  exact⟨q,b1,b2,b3,e0,g h1 (by intro _ z;cases z),g h2 (by intro _ z;cases z),g h3 (by intro _ z;cases z),g h4 (by intro _ z;cases z)⟩
theorem Hb {H H':Hp} {d:Addr} (s:aM H H') (n:H d=none):aM H (bf [d] H'):=fun b o e=>cQ (s _ _ e) (by
 rw [List.mem_singleton]
 exact aD e n)
theorem xq {H H':Hp} {d:Addr} {o:HO} (s:aM H H') (h:H d=some o):aM (bf [d] H) (bf [d] H'):=Ce s (fun a ha=>by rw [List.mem_singleton] at ha;subst ha;exact⟨o,h⟩)
noncomputable def qR {β:Type} (g:β->V) (m:List (Str×β)):List (Key×V):=m.map fun q=>((Sum.inr q.1:Key),g q.2)
noncomputable def iT {β:Type} (m:List (Str×β)) (x:Str):Option β:=(m.find? fun q=>decide (q.1=x)).map (·.2)
noncomputable def Be {β:Type} (m:List (Str×β)) (x:Str) (b:β):List (Str×β):=if (m.any fun q=>decide (q.1=x))=true then m.map (fun q=>if q.1=x then(q.1,b) else q) else m ++ [(x,b)]
section
variable {β:Type} {g:β->V}
theorem Bt (g:β->V) (m:List (Str×β)):(qR g m).length=m.length:=by unfold qR;rw [lM]
theorem Xa {m:List (Str×β)} {j:Nat} {k:Key} {v:V} (h:(qR g m)[j]?=some (k,v)):∃q,m[j]?=some q/\k=Sum.inr q.1/\v=g q.2:=by
 unfold qR at h
 rw [List.getElem?_map] at h
 obtain⟨q,hq,e⟩:=Option.map_eq_some_iff.mp h
 cases e
 exact⟨q,hq,rfl,rfl⟩
theorem Iu (g:β->V) (x:Str):∀m:List (Str×β),bZ (qR g m) (Sum.inr x)=(iT m x).map g
 | []=>rfl
 | q:: r=>by
  unfold qR iT
  rw [List.map_cons]
  by_cases h:q.1=x
  ·rw [f9 (by rw [h]),List.find?_cons_of_pos (by simp [h])]
   rfl
  ·rw [fG (fun z=>h (Sum.inr.inj z)),List.find?_cons_of_neg (by simp [h])]
   exact Iu g x r
theorem u5 {H:Hp} {d:Addr} {m:List (Str×β)} (h:H d=some (.dK (qR g m))) (x:Str):dZ H d (.str x) ((iT m x).map g):=by
 rw [<-Iu]
 exact dZ.k (k:=Sum.inr x) h
theorem Kq {H:Hp} {d:Addr} {o:Obj} {m:List (Str×β)} (h:H d=some (.frz o (.dK (qR g m)))) (x:Str):dZ H d (.str x) ((iT m x).map g):=.inl ⟨_,Sum.inr x,.inr ⟨o,h⟩,rfl,(Iu g x m).symm⟩
theorem Jj (m:List (Str×β)) (x:Str):(m.any fun q=>decide (q.1=x))=(iT m x).isSome:=by
 unfold iT
 induction m with
 | nil=>rfl
 | cons q r ih=>
  rw [List.any_cons,ih]
  by_cases h:q.1=x
  ·rw [List.find?_cons_of_pos (by simp [h])];simp [h]
  ·rw [List.find?_cons_of_neg (by simp [h])];simp [h]
theorem Ji (g:β->V) (m:List (Str×β)) (x:Str) (b:β):putK (qR g m) (Sum.inr x) (g b)=qR g (Be m x b):=by
 have e:(qR g m).any (fun kv=>decide (kv.1=(Sum.inr x:Key)))=m.any (fun q=>decide (q.1=x)):=by
  unfold qR
  rw [List.any_map]
  congr 1
  funext q
  simp
 unfold putK Be
 rw [e]
 split
 ·unfold qR
  rw [List.map_map,List.map_map]
  refine List.map_congr_left fun q _=>?_
  by_cases hq:q.1=x
  ·simp [hq]
  ·simp [hq]
 ·unfold qR
  rw [List.map_append]
  rfl
theorem DN (q:Str×β) (r:List (Str×β)) (y:Str):iT (q:: r) y=if q.1=y then some q.2 else iT r y:=by
 unfold iT
 by_cases h:q.1=y
 ·rw [List.find?_cons_of_pos (by simp [h]),if_pos h];rfl
 ·rw [List.find?_cons_of_neg (by simp [h]),if_neg h]
theorem HY {m:List (Str×β)} {x:Str} {b:β} (h:iT m x=some b):(x,b)∈m:=by
 unfold iT at h
 obtain⟨q,hq,rfl⟩:=Option.map_eq_some_iff.mp h
 have h1:=List.mem_of_find?_eq_some hq
 have h2:=List.find?_some hq
 simp only [decide_eq_true_eq] at h2
 rw [<-h2]
 exact h1
theorem Qk {m:List (Str×β)} {x:Str} (h:x∉m.map (·.1)):iT m x=none:=by
 cases e:iT m x with
 | none=>rfl
 | some b=>exact absurd (List.mem_map.mpr ⟨_,HY e,rfl⟩) h
theorem xm {m:List (Str×β)} {x:Str}:(iT m x).isSome=true↔x∈m.map (·.1):=by
 constructor
 ·intro h
  obtain⟨b,e⟩:=Option.isSome_iff_exists.mp h
  exact List.mem_map.mpr ⟨_,HY e,rfl⟩
 ·intro h
  rw [<-Jj]
  obtain⟨q,hq,rfl⟩:=List.mem_map.mp h
  exact List.any_eq_true.mpr ⟨q,hq,by simp⟩
theorem Qy:∀{m:List (Str×β)} (_:(m.map (·.1)).Nodup) {q:Str×β} (_:q∈m),iT m q.1=some q.2
 | p:: r,nd,q,hq=>by
  rw [List.map_cons,List.nodup_cons] at nd
  rw [DN]
  rcases List.mem_cons.mp hq with rfl | h
  ·rw [if_pos rfl]
  ·rw [if_neg (fun z=>nd.1 (by rw [z];exact List.mem_map.mpr ⟨q,h,rfl⟩))]
   exact Qy nd.2 h
theorem Ri {m:List (Str×β)} {x:Str} {b:β} {q:Str×β} (h:q∈Be m x b):q∈m∨q=(x,b):=by
 unfold Be at h
 split at h
 ·obtain⟨p,hp,rfl⟩:=List.mem_map.mp h
  split
  ·rename_i e;exact .inr (by rw [e])
  ·exact .inl hp
 ·rcases List.mem_append.mp h with h | h
  ·exact .inl h
  ·rw [List.mem_singleton] at h;exact .inr h
theorem Ef {m:List (Str×β)} {x:Str} (b:β) (h:x∉m.map (·.1)):Be m x b=m ++ [(x,b)]:=by
 unfold Be
 rw [Jj,Qk h]
 exact if_neg (by simp)
theorem Om {m:List (Str×β)} {x:Str} {b:β} (h:x∈m.map (·.1)):(Be m x b).map (·.1)=m.map (·.1):=by
 unfold Be
 rw [if_pos (by rw [Jj];exact xm.mpr h),List.map_map]
 refine List.map_congr_left fun q _=>?_
 dsimp only [Function.comp]
 split <;> rfl
theorem Tn {m:List (Str×β)} {x:Str} {b:β} (nd:(m.map (·.1)).Nodup):((Be m x b).map (·.1)).Nodup:=by
 by_cases h:x∈m.map (·.1)
 ·rw [Om h];exact nd
 ·rw [Ef b h,List.map_append,List.nodup_append]
  refine⟨nd,by simp,fun a ha c hc e=>h ?_⟩
  rw [List.map_singleton,List.mem_singleton] at hc
  have hc:c=x:=hc
  rw [<-hc,<-e]
  exact ha
end
theorem Za {α:Type} {p:α->Bool} {x:α} (h:p x=true):[x].filter p=[x]:=by simp [h]
theorem YL {α:Type} {p:α->Bool} {x:α} (h:p x=false):[x].filter p=[]:=by simp [h]
theorem rA (x:Str) (xs:List Str):inV (.str x) (xs.map V.str)=decide (x∈xs):=by
 have:=DR (f:=fun y:Str=>y) (xs:=xs) (x:=x)
 simpa using this
theorem jY (xs:List Str):(xs.map V.str).all jO=true:=by simp [jO]
structure Q5 where
 fr:Str
 to:Str
 tk:Int
 ln:Str
 wy:Str
noncomputable def Rh (a:Q5):List V:=[.str a.fr,.str a.to,.int a.tk,.str a.ln,.str a.wy]
noncomputable abbrev AA:=Q5×Addr
structure qQ (H:Hp) (L:Addr) (ra:List AA):Prop where
 lst:H L=some (.lst (ra.map fun q=>V.ref q.2))
 at_:∀q∈ra,H q.2=some (.tup (Rh q.1))
theorem qQ.same {H H':Hp} {L:Addr} {ra:List AA} (h:qQ H L ra) (s:aM H H'):qQ H' L ra:=⟨s _ _ h.lst,fun q hq=>s _ _ (h.at_ q hq)⟩
theorem qQ.get {H:Hp} {L:Addr} {ra:List AA} (h:qQ H L ra) {j:Nat} {x:V} (hx:(ra.map fun q=>V.ref q.2)[j]?=some x):∃q,ra[j]?=some q/\x=.ref q.2/\H q.2=some (.tup (Rh q.1)):=by
 rw [List.getElem?_map] at hx
 obtain⟨q,hq,e⟩:=Option.map_eq_some_iff.mp hx
 exact⟨q,hq,e.symm,h.at_ q (List.mem_of_getElem? hq)⟩
noncomputable def zP (f:PD->List Str) (ps:List PD) (x:Str):Str:=match ps.find? (fun p=>decide (x∈f p)) with
 | some p=>p.name
 | none=> ""
theorem Bs {f:PD->List Str} {ps:List PD} (nd:(ps.flatMap f).Nodup) {p:PD} (hp:p∈ps) {x:Str} (hx:x∈f p):zP f ps x=p.name:=by
 obtain⟨q,hq⟩:∃q,ps.find? (fun p=>decide (x∈f p))=some q:=Option.isSome_iff_exists.mp (by
  rw [List.find?_isSome]
  exact⟨p,hp,by simpa using hx⟩)
 unfold zP
 rw [hq]
 have h1:=List.mem_of_find?_eq_some hq
 have h2:=List.find?_some hq
 simp only [decide_eq_true_eq] at h2
 have e1:=eQ nd h1 h2
 rw [eQ nd hp hx] at e1
 simp only [Option.some.injEq,V.str.injEq] at e1
 exact e1.symm
noncomputable def wA (ps:List PD) (l:aH):List Q5:=[⟨zP (·.outs) ps l.name,zP (·.ins) ps l.name,(l.first.length:Nat),l.name, "along"⟩,⟨zP (·.ins) ps l.name,zP (·.outs) ps l.name,l.room - (l.first.length:Nat),l.name, "against"⟩]
noncomputable def Nj (p:PD):Q5:=⟨p.name,p.name,1, "", "again"⟩
noncomputable def gQ (ls:List aH) (ps:List PD):List Q5:=ls.flatMap (wA ps) ++ ps.map Nj
theorem yP (ps:List PD) (ls:List aH):(ls.flatMap (wA ps)).length=2 * ls.length:=by
 induction ls with
 | nil=>rfl
 | cons l r ih=>rw [List.flatMap_cons,lP,ih,List.length_cons];show 2+_=_;omega
theorem Tc {H:Hp} {A b:Addr} {xs:List V} {o:HO} (e:H A=some (.lst xs)) (h:H b=some o) (hu:∀ys,o≠.lst ys):bf [A] H b=some o:=cQ h (by
 rw [List.mem_singleton]
 rintro rfl
 rw [e] at h
 exact hu _ (Option.some.inj h).symm)
namespace Rg
section
variable {α:Type} [DecidableEq α]
theorem uV:∀{l m:List α},l.Nodup->(∀x∈l,x∈m)->l.length<=m.length
 | [],_,_,_=>Nat.zero_le _
 | a:: r,m,nd,h=>by
  rw [List.nodup_cons] at nd
  have ha:=h a List.mem_cons_self
  have:=uV (l:=r) (m:=m.erase a) nd.2 fun x hx=>(List.mem_erase_of_ne (fun z=>nd.1 (by rw [<-z];exact hx))).mpr (h x (List.mem_cons_of_mem _ hx))
  rw [List.length_erase_of_mem ha] at this
  have h1:=List.length_pos_of_mem ha
  rw [List.length_cons]
  omega
noncomputable def Way (f:α->Option α):List α->Prop
 | a:: b:: r=>f a=some b/\Way f (b:: r)
 | _=>True
theorem Way.tail {f:α->Option α} {a:α} {r:List α} (h:Way f (a:: r)):Way f r:=by
 cases r with
 | nil=>exact True.intro
 | cons b r=>exact h.2
theorem Way.drop {f:α->Option α}:∀{l:List α} (n:Nat),Way f l->Way f (l.drop n)
 | _,0,h=>h
 | [],n+1,_=>by simp [Way]
 | _:: _,n+1,h=>by rw [List.drop_succ_cons];exact Way.drop n h.tail
theorem Way.init {f:α->Option α}:∀{l:List α} {x:α},Way f (l ++ [x])->Way f l
 | [],_,_=>True.intro
 | [_],_,_=>True.intro
 | a:: b:: r,x,h=>⟨h.1,Way.init (l:=b:: r) h.2⟩
theorem Way.last {f:α->Option α}:∀{l:List α} {y x:α},Way f (l ++ [y] ++ [x])->f y=some x
 | [],_,_,h=>h.1
 | [_],_,_,h=>h.2.1
 | a:: b:: r,y,x,h=>Way.last (l:=b:: r) h.2
theorem Way.snoc {f:α->Option α}:∀{l:List α} {y x:α},Way f (l ++ [y])->f y=some x->Way f (l ++ [y] ++ [x])
 | [],_,_,_,h=>⟨h,True.intro⟩
 | [a],_,_,w,h=>⟨w.1,h,True.intro⟩
 | a:: b:: r,y,x,w,h=>⟨w.1,Way.snoc (l:=b:: r) w.2 h⟩
theorem Way.congr {f g:α->Option α}:∀{l:List α},(∀x∈l,f x=g x)->Way f l->Way g l
 | [],_,_=>True.intro
 | [_],_,_=>True.intro
 | a:: b:: r,h,w=>⟨by rw [<-h a List.mem_cons_self];exact w.1,Way.congr (fun x hx=>h x (List.mem_cons_of_mem _ hx)) w.2⟩
theorem Way.app {f:α->Option α}:∀{l m:List α},Way f l->Way f m->(∀a b,l.getLast?=some a->m.head?=some b->f a=some b)->Way f (l ++ m)
 | [],_,_,w,_=>w
 | [a],[],_,_,_=>True.intro
 | [a],b:: m,_,w,h=>⟨h a b rfl rfl,w⟩
 | a:: b:: r,m,w,w2,h=>⟨w.1,Way.app (l:=b:: r) w.2 w2 fun x y e e2=>h x y (by rw [List.getLast?_cons_cons];exact e) e2⟩
theorem Way.takeL {f:α->Option α}:∀{l m:List α},Way f (l ++ m)->Way f l
 | [],_,_=>True.intro
 | [_],_,_=>True.intro
 | a:: b:: r,m,h=>⟨h.1,Way.takeL (l:=b:: r) h.2⟩
theorem Way.dropL {f:α->Option α}:∀{l m:List α},Way f (l ++ m)->Way f m
 | [],_,h=>h
 | a:: r,m,h=>Way.dropL (l:=r) (Way.tail h)
theorem Way.joint {f:α->Option α}:∀{l m:List α} {a b:α},Way f (l ++ m)->l.getLast?=some a->m.head?=some b->f a=some b
 | [],_,_,_,_,e,_=>by cases e
 | [x],[],_,_,_,_,e=>by cases e
 | [x],y:: m,a,b,w,e,e2=>by
  cases e
  cases e2
  exact w.1
 | x:: y:: r,m,a,b,w,e,e2=>Way.joint (l:=y:: r) w.2 (by rw [List.getLast?_cons_cons] at e;exact e) e2
structure Round (f:α->Option α) (r:List α):Prop where
 way:Way f r
 shut:∀a b,r.getLast?=some a->r.head?=some b->f a=some b
 nd:r.Nodup
theorem Round.rot {f:α->Option α} {l m:List α} (h:Round f (l ++ m)):Round f (m ++ l):=by
 by_cases hl:l=[]
 ·subst hl;simpa using h
 by_cases hm:m=[]
 ·subst hm;simpa using h
 refine⟨h.way.dropL.app h.way.takeL fun a b e e2=>?_,fun a b e e2=>?_,?_⟩
 ·exact h.shut a b (by rw [List.getLast?_append,e];rfl) (by rw [List.head?_append,e2];rfl)
 ·obtain⟨x,hx⟩:∃x,l.getLast?=some x:=⟨l.getLast hl,List.getLast?_eq_some_getLast hl⟩
  obtain⟨y,hy⟩:∃y,m.head?=some y:=⟨m.head hm,List.head?_eq_some_head hm⟩
  rw [List.getLast?_append,hx] at e
  rw [List.head?_append,hy] at e2
  cases e
  cases e2
  exact h.way.joint hx hy
 ·have:=h.nd
  rw [List.nodup_append] at this ⊢
  exact⟨this.2.1,this.1,fun a ha b hb e=>this.2.2 b hb a ha e.symm⟩
structure Good (T:α->Int) (f:α->Option α) (w:α->Int):Prop where
 slack:∀x y,f x=some y->T x<=T y+w x
 pos:∀r,r≠[]->Round f r->0 <(r.map w).sum
theorem X8 {T:α->Int} {f:α->Option α} {w:α->Int}:∀{l:List α} {a e:α},Way f (a:: l ++ [e])->(∀x∈a:: l,∀y,f x=some y->T x<=T y+w x)->T a<=T e+((a:: l).map w).sum
 | [],a,e,h,s=>by
  have:=s a List.mem_cons_self e h.1
  simpa using this
 | b:: r,a,e,h,s=>by
  have h1:=s a List.mem_cons_self b h.1
  have h2:=X8 (l:=r) (a:=b) (e:=e) h.2 fun x hx=>s x (List.mem_cons_of_mem _ hx)
  rw [List.map_cons,List.sum_cons]
  omega
theorem Good.grow {T:α->Int} {f:α->Option α} {w:α->Int} (g:Good T f w) {u v:α} {c:Int} (h:T v <T u+c):
  Good (fun x=>if x=v then T u+c else T x) (fun x=>if x=v then some u else f x) (fun x=>if x=v then c else w x):=by
 have up:∀x,T x<=if x=v then T u+c else T x:=fun x=>by
  split
  ·rename_i e;subst e;omega
  ·exact Int.le_refl _
 refine⟨fun x y e=>?_,fun r hr R=>?_⟩
 ·by_cases hx:x=v
  ·subst hx
   rw [if_pos rfl] at e
   cases e
   rw [if_pos rfl,if_pos rfl]
   split
   ·rename_i e;subst e;omega
   ·exact Int.le_refl _
  ·rw [if_neg hx] at e
   rw [if_neg hx,if_neg hx]
   have:=g.slack x y e
   have:=up y
   omega
 ·by_cases hv:v∈r
  ·obtain⟨l,m,rfl⟩:=List.append_of_mem hv
   have R2:=R.rot
   have es:((l ++ v:: m).map fun x=>if x=v then c else w x).sum=(((v:: m) ++ l).map fun x=>if x=v then c else w x).sum:=by
    rw [List.map_append,List.map_append,List.sum_append,List.sum_append]
    omega
   rw [es]
   have nd:=R2.nd
   rw [List.cons_append,List.nodup_cons] at nd
   rw [List.cons_append,List.map_cons,List.sum_cons,if_pos rfl]
   have ew:((m ++ l).map fun x=>if x=v then c else w x)=(m ++ l).map w:=List.map_congr_left fun x hx=>if_neg fun z=>nd.1 (by rw [<-z];exact hx)
   rw [ew]
   have way:=R2.way
   have shut:=R2.shut
   rw [List.cons_append] at way shut
   generalize m ++ l=q at nd way shut
   cases q with
   | nil=>
    have:=shut v v rfl rfl
    rw [if_pos rfl] at this
    cases this
    simp
    omega
   | cons b t=>
    have e1:(if v=v then some u else f v)=some b:=way.1
    rw [if_pos rfl] at e1
    cases e1
    have eq:∀x∈u:: t,(if x=v then some u else f x)=f x:=fun x hx=>if_neg fun z=>nd.1 (by rw [<-z];exact hx)
    have w2:Way f (u:: t):=(Way.tail way).congr eq
    have w3:Way f ((u:: t) ++ [v]):=w2.app True.intro fun a b ea eb=>by
     have hb:b=v:=by simpa using eb.symm
     subst hb
     have:=shut a b (by rw [List.getLast?_cons_cons];exact ea) rfl
     rw [eq a (List.mem_of_getLast? ea)] at this
     exact this
    have:=X8 (T:=T) (w:=w) (l:=t) (a:=u) (e:=v) w3 fun x _ y e=>g.slack x y e
    omega
  ·have eq:∀x∈r,(if x=v then some u else f x)=f x:=fun x hx=>if_neg fun z=>hv (by rw [<-z];exact hx)
   have ew:(r.map fun x=>if x=v then c else w x)=r.map w:=List.map_congr_left fun x hx=>if_neg fun z=>hv (by rw [<-z];exact hx)
   rw [ew]
   refine g.pos r hr ⟨R.way.congr eq,fun a b ea eb=>?_,R.nd⟩
   rw [<-eq a (List.mem_of_getLast? ea)]
   exact R.shut a b ea eb
theorem Good.start (T:α->Int) (w:α->Int):Good T (fun _=>none) w:=by
 refine⟨fun _ _ e=>(by cases e),fun r hr R=>?_⟩
 cases r with
 | nil=>exact absurd rfl hr
 | cons a r=>
  obtain⟨b,hb⟩:∃b,(a:: r).getLast?=some b:=⟨(a:: r).getLast (by simp),List.getLast?_eq_some_getLast (by simp)⟩
  have:=R.shut b a hb rfl
  cases this
structure SJ {A:Type} (fr to:A->α) (c:A->Int) (arcs:List A) (N:List α) (k j:Nat) (T:α->Int) (f:α->Option α) (w:α->Int) (R:α->Nat):Prop where
 good:Good T f w
 dom:∀v u,f v=some u->v∈N/\u∈N
 src:∀v,1<=R v->∃u,f v=some u/\R v<=R u+1
 le:∀v,R v<=k
 sat1:∀i a,i <j->arcs[i]?=some a->R (fr a) <k->T (fr a)+c a<=T (to a)
 sat2:2<=k->∀i a,j<=i->arcs[i]?=some a->R (fr a)+1 <k->T (fr a)+c a<=T (to a)
section
variable {A:Type} {fr to:A->α} {c:A->Int} {arcs:List A} {N:List α} {k j:Nat} {T:α->Int} {f:α->Option α} {w:α->Int} {R:α->Nat}
theorem SJ.stay (r:SJ fr to c arcs N k j T f w R) {a:A} (ha:arcs[j]?=some a) (h:T (fr a)+c a<=T (to a)):SJ fr to c arcs N k (j+1) T f w R:=by
 refine⟨r.good,r.dom,r.src,r.le,fun i b hi hb hr=>?_,fun hk i b hi hb hr=>r.sat2 hk i b (by omega) hb hr⟩
 by_cases e:i=j
 ·subst e
  rw [ha] at hb
  cases hb
  exact h
 ·exact r.sat1 i b (by omega) hb hr
theorem SJ.grow (r:SJ fr to c arcs N k j T f w R) (hk:1<=k) {a:A} (ha:arcs[j]?=some a) (h:T (to a) <T (fr a)+c a) (h1:fr a∈N) (h2:to a∈N):
  SJ fr to c arcs N k (j+1) (fun x=>if x=to a then T (fr a)+c a else T x) (fun x=>if x=to a then some (fr a) else f x) (fun x=>if x=to a then c a else w x) (fun x=>if x=to a then k else R x):=by
 have up:∀x,T x<=if x=to a then T (fr a)+c a else T x:=fun x=>by
  split
  ·rename_i e;rw [e];omega
  ·exact Int.le_refl _
 have rup:∀x,R x<=if x=to a then k else R x:=fun x=>by
  split
  ·exact r.le x
  ·exact Nat.le_refl _
 refine⟨r.good.grow h,fun v u e=>?_,fun v hv=>?_,fun v=>?_,fun i b hi hb hr=>?_,fun k2 i b hi hb hr=>?_⟩
 ·by_cases hx:v=to a
  ·subst hx
   rw [if_pos rfl] at e
   cases e
   exact⟨h2,h1⟩
  ·rw [if_neg hx] at e
   exact r.dom v u e
 ·by_cases hx:v=to a
  ·subst hx
   refine⟨fr a,if_pos rfl,?_⟩
   rw [if_pos rfl]
   split
   ·omega
   ·rcases Nat.lt_or_ge (R (fr a)+1) k with z | z
    ·have:=r.sat2 (by omega) j a (Nat.le_refl _) ha z
     omega
    ·exact z
  ·rw [if_neg hx] at hv
   obtain⟨u,e,hu⟩:=r.src v hv
   refine⟨u,by rw [if_neg hx];exact e,?_⟩
   rw [if_neg hx]
   have:=rup u
   omega
 ·split
  ·exact Nat.le_refl _
  ·exact r.le v
 ·have hne:fr b≠to a:=fun z=>by rw [if_pos z] at hr;omega
  rw [if_neg hne] at hr ⊢
  by_cases e:i=j
  ·subst e
   rw [ha] at hb
   cases hb
   rw [if_pos rfl]
   exact Int.le_refl _
  ·have:=r.sat1 i b (by omega) hb hr
   have:=up (to b)
   omega
 ·have hne:fr b≠to a:=fun z=>by rw [if_pos z] at hr;omega
  rw [if_neg hne] at hr ⊢
  have:=r.sat2 k2 i b (by omega) hb hr
  have:=up (to b)
  omega
theorem SJ.next (r:SJ fr to c arcs N k arcs.length T f w R):SJ fr to c arcs N (k+1) 0 T f w R:=
 ⟨r.good,r.dom,r.src,fun v=>Nat.le_succ_of_le (r.le v),fun i a hi=>absurd hi (Nat.not_lt_zero _),fun _ i a _ ha hr=>r.sat1 i a (List.getElem?_eq_some_iff.mp ha).1 ha (by omega)⟩
theorem SJ.start:SJ fr to c arcs N 1 0 (fun _=>0) (fun _=>none) (fun _=>0) (fun _=>0):=
 ⟨.start _ _,fun _ _ e=>(by cases e),fun _ h=>absurd h (by omega),fun _=>Nat.zero_le _,fun i a hi=>absurd hi (Nat.not_lt_zero _),fun h=>absurd h (by omega)⟩
end
structure wL (f:α->Option α) (x:α) (seen:List α) (a:α):Prop where
 way:Way f (seen ++ [a])
 nd:seen.Nodup
 hd:(seen ++ [a]).head?=some x
theorem wL.start (f:α->Option α) (x:α):wL f x [] x:=⟨True.intro,List.nodup_nil,rfl⟩
theorem wL.step {f:α->Option α} {x a b:α} {seen:List α} (g:wL f x seen a) (e:f a=some b) (h:a∉seen):wL f x (seen ++ [a]) b:=by
 refine⟨g.way.snoc e,?_,?_⟩
 ·rw [List.nodup_append]
  exact⟨g.nd,by simp,fun y hy z hz q=>h (by rw [List.mem_singleton] at hz;rw [<-hz,<-q];exact hy)⟩
 ·have:=g.hd
  cases seen <;> simpa using this
theorem wL.mem {f:α->Option α} {x a:α} {seen:List α} (g:wL f x seen a):∀y∈seen,∃z,f y=some z:=fun y hy=>by
 obtain⟨l,m,rfl⟩:=List.append_of_mem hy
 have w:=g.way
 rw [List.append_assoc] at w
 have w:=w.dropL
 cases m with
 | nil=>exact⟨_,w.1⟩
 | cons b m=>exact⟨_,w.1⟩
theorem wL.round {f:α->Option α} {x a:α} {seen:List α} (g:wL f x seen a) {j:Nat} (h:seen[j]?=some a):Round f (seen.drop j)/\seen.drop j≠[]:=by
 have hj:=(List.getElem?_eq_some_iff.mp h).1
 have hne:seen.drop j≠[]:=fun z=>by have:=congrArg List.length z;rw [List.length_drop,List.length_nil] at this;omega
 have w:=g.way.drop j
 rw [List.drop_append_of_le_length (by omega)] at w
 refine⟨⟨w.init,fun y b ey eb=>?_,g.nd.sublist (List.drop_sublist _ _)⟩,hne⟩
 have hb:b=a:=by
  rw [List.head?_drop,h] at eb
  exact(Option.some.inj eb).symm
 subst hb
 exact w.joint ey rfl
theorem wL.deep {f:α->Option α} {x a:α} {seen N:List α} {R:α->Nat} (g:wL f x seen a) (src:∀v,1<=R v->∃u,f v=some u/\R v<=R u+1) (dom:∀v u,f v=some u->v∈N/\u∈N) (hx:x∈N) (hR:N.length<=R x) (stop:a∈seen∨f a=none):a∈seen:=by
 rcases stop with h | h
 ·exact h
 refine Classical.byContradiction fun hn=>?_
 have ra:R a=0:=by
  cases e:R a with
  | zero=>rfl
  | succ n=>
   obtain⟨u,eu,_⟩:=src a (by omega)
   rw [h] at eu
   cases eu
 have key:∀(l:List α) (y:α),Way f (l ++ [a])->(l ++ [a]).head?=some y->R y<=R a+l.length:=by
  intro l
  induction l with
  | nil=>
   intro y _ e
   have:a=y:=by simpa using e
   subst this
   exact Nat.le_refl _
  | cons b r ih=>
   intro y w e
   have:b=y:=by simpa using e
   subst this
   rcases Nat.eq_zero_or_pos (R b) with z | z
   ·omega
   ·obtain⟨u,eu,hu⟩:=src b z
    have w2:Way f (r ++ [a]):=Way.tail w
    have:(r ++ [a]).head?=some u:=by
     cases r with
     | nil=>have:=w.1;rw [eu] at this;simpa using this.symm
     | cons d r=>have:=w.1;rw [eu] at this;simpa using this.symm
    have:=ih u w2 this
    rw [List.length_cons]
    omega
 have h1:=key seen x g.way g.hd
 have hin:∀y∈seen ++ [a],y∈N:=fun y hy=>by
  rcases List.mem_append.mp hy with hs | hs
  ·obtain⟨z,ez⟩:=g.mem y hs
   exact(dom y z ez).1
  ·rw [List.mem_singleton] at hs
   subst hs
   cases hq:seen.getLast? with
   | none=>
    have:seen=[]:=by simpa using hq
    subst this
    have:=g.hd
    have:y=x:=by simpa using this
    subst this
    exact hx
   | some l=>exact(dom _ _ (g.way.joint hq rfl)).2
 have nd:(seen ++ [a]).Nodup:=by
  rw [List.nodup_append]
  exact⟨g.nd,by simp,fun y hy z hz q=>hn (by rw [List.mem_singleton] at hz;rw [<-hz,<-q];exact hy)⟩
 have:=uV nd hin
 rw [lP,List.length_singleton] at this
 omega
end
end Rg
structure sr (K:PySem.W.Frag) (t:jw) (H:Hp) (f n E G Kp D Rw:Addr):Prop where
 ex:∃dx fs,H f=some (.ins t.bU dx fs)/\TX ["holds", "held_now", "gone_by", "row_left", "head", "heads", "lacking", "row_ended", "deed", "do"] [("net",.ref n),("ever",.ref E),("gone",.ref G),("kept",.ref Kp),("done",.ref D),("rows",.ref Rw)] fs
theorem sr.same {H H':Hp} {f n E G Kp D Rw:Addr} (h:sr K t H f n E G Kp D Rw) (s:aM H H'):sr K t H' f n E G Kp D Rw:=by
 obtain⟨dx,fs,h1,h2⟩:=h
 exact⟨dx,fs,s _ _ h1,h2⟩
noncomputable def fM (i:Nat) (xs:List Str) (hs:List V):V:=match (places i hs).find? (tZ hs) with
 | some q=>((xs[q]?).map V.str).getD .non
 | none=>.non
theorem xO {H:Hp}:∀{rs:List Addr} {vss:List (List V)} {j:Nat} {r:Addr},iZ H rs vss->rs[j]?=some r->∃vs,vss[j]?=some vs/\H r=some (.tup vs)
 | _,_,_,_,.nil,e=>by simp at e
 | _,_,0,_,.cons h _,e=>by simp at e;subst e;exact⟨_,rfl,h⟩
 | _,_,j+1,_,.cons _ t,e=>by
  obtain⟨vs,h1,h2⟩:=xO (j:=j) t (by simpa using e)
  exact⟨vs,by simpa using h1,h2⟩
theorem places_len {i:Nat} {hs:List V} (h:yd i hs):(places i hs).length<=3:=by
 have h3:=Gm i
 have h1:=h.1
 unfold places
 by_cases hi:i=9
 ·rw [if_pos hi]
  split <;> simp
 ·rw [if_neg hi,List.length_range]
  omega
theorem Tr.got {H Hk Hk':Hp} {f x:Addr} {L:List (Addr×HO)} {o:HO} (T:Tr H f L Hk) (s:aM Hk Hk') (nx:Hk x=none) (ex:Hk' x=some o):Tr H f (L ++ [(x,o)]) Hk':=by
 have T':=T.same s
 have hx:=T.free nx
 refine⟨T'.but,fun p hp=>?_,fun p hp=>?_,?_,?_⟩
 ·rcases List.mem_append.mp hp with h | h
  ·exact T'.all p h
  ·rw [List.mem_singleton] at h;subst h;exact ex
 ·rcases List.mem_append.mp hp with h | h
  ·exact T.fre p h
  ·rw [List.mem_singleton] at h;subst h;exact .inr hx
 ·rw [List.map_append,List.nodup_append]
  refine⟨T.nod,by simp,fun a ha b hb z=>?_⟩
  obtain⟨p,hp,rfl⟩:=List.mem_map.mp ha
  simp at hb
  have:=T.all p hp
  rw [z,hb,nx] at this
  cases this
 ·obtain⟨u,hu⟩:=T.obj
  exact⟨u,List.mem_append.mpr (.inl hu)⟩
theorem Gw {α:Type} {a b c d e f g x:α} {M:List α} (h:x∈M):x∈a:: b:: c:: d:: e:: f:: g:: M:=by simp [h]
theorem Tr.perm {H Hk:Hp} {f:Addr} {L L':List (Addr×HO)} (T:Tr H f L Hk) (h:L.Perm L'):Tr H f L' Hk:=
 ⟨T.but,fun p hp=>T.all p (h.mem_iff.mpr hp),fun p hp=>T.fre p (h.mem_iff.mpr hp),(h.map _).nodup_iff.mp T.nod,by obtain⟨o,ho⟩:=T.obj;exact⟨o,h.mem_iff.mp ho⟩⟩
theorem Tr.sub {H Hk:Hp} {f:Addr} {L L':List (Addr×HO)} (T:Tr H f L Hk) (h:L'.Sublist L) (hf:∃o,(f,o)∈L'):Tr H f L' Hk:=
 ⟨T.but,fun p hp=>T.all p (h.subset hp),fun p hp=>T.fre p (h.subset hp),T.nod.sublist (h.map _),hf⟩
noncomputable def jM (EL:List (aH×Addr)):List (Addr×HO):=EL.map fun q=>(q.2,HO.lst (q.1.first.map V.int))
noncomputable def cW (g:Str->Nat) (ls:List aH):List (Key×V):=ls.map fun l=>((Sum.inr l.name:Key),V.int (g l.name:Nat))
noncomputable def bV (k:Str->Int) (ps:List PD):List (Key×V):=ps.map fun p=>((Sum.inr p.name:Key),V.int (k p.name))
theorem Ep (g:Str->Nat) (ls:List aH):(cW g ls).map (·.1)=(ls.map (·.name)).map (fun x=>(Sum.inr x:Key)):=by unfold cW;rw [List.map_map,List.map_map];rfl
theorem Du (k:Str->Int) (ps:List PD):(bV k ps).map (·.1)=(ps.map (·.name)).map (fun x=>(Sum.inr x:Key)):=by unfold bV;rw [List.map_map,List.map_map];rfl
noncomputable def fW (ps:List PD) (x:Str):Int:=((ps.find? fun p=>decide (p.name=x)).map fun p=>if p.kind=5 then p.nums.headD 0 else 0).getD 0
noncomputable def Ir (p:PD):Int:=if p.kind=5 then p.nums.headD 0 else 0
theorem find_name {α:Type} {f:α->Str}:∀{ls:List α} (_:(ls.map f).Nodup) {l:α} (_:l∈ls),ls.find? (fun x=>decide (f x=f l))=some l
 | a:: r,nd,l,hl=>by
  rw [List.map_cons,List.nodup_cons] at nd
  rcases List.mem_cons.mp hl with rfl | h
  ·rw [List.find?_cons_of_pos (by simp)]
  ·have:¬f a=f l:=fun z=>nd.1 (by rw [z];exact List.mem_map.mpr ⟨l,h,rfl⟩)
   rw [List.find?_cons_of_neg (by simp [this])]
   exact find_name nd.2 h
theorem yN.inL {ls:List aH} {ps:List PD} (F:yN ls ps) {p:PD} (hp:p∈ps) {x:Str} (hx:x∈p.ins ++ p.outs):∃l∈ls,l.name=x:=by
 rcases List.mem_append.mp hx with h | h
 ·exact List.mem_map.mp (F.whole.ins.mem_iff.mp (List.mem_flatMap.mpr ⟨p,hp,h⟩))
 ·exact List.mem_map.mp (F.whole.outs.mem_iff.mp (List.mem_flatMap.mpr ⟨p,hp,h⟩))
theorem DX {α β:Type} {f:α->β}:∀{l:List α},(l.map f).Nodup->∀{a b:α},a∈l->b∈l->f a=f b->a=b
 | x:: r,nd,a,b,ha,hb,e=>by
  rw [List.map_cons,List.nodup_cons] at nd
  rcases List.mem_cons.mp ha with h1 | h1
  ·rcases List.mem_cons.mp hb with h2 | h2
   ·rw [h1,h2]
   ·exact absurd (List.mem_map.mpr ⟨b,h2,by rw [<-e,h1]⟩) nd.1
  ·rcases List.mem_cons.mp hb with h2 | h2
   ·exact absurd (List.mem_map.mpr ⟨a,h1,by rw [e,h2]⟩) nd.1
   ·exact DX nd.2 h1 h2 e
noncomputable def Xo:V->Int
 | .int n=>n
 | _=>0
structure FS where
 ev:Str->List Int
 g:Str->Nat
 k:Str->Int
 d:Str->Nat
 r:Str->List Int
structure qF where
 (f n E G Kp D Rw:Addr)
 (ea ra:Str->Addr)
noncomputable def qt (ps:List PD):List PD:=ps.filter fun p=>decide (p.kind=0)
noncomputable def S8 (ea:Str->Addr) (ls:List aH):List (Key×V):=ls.map fun l=>((Sum.inr l.name:Key),V.ref (ea l.name))
noncomputable def KY (ra:Str->Addr) (ps:List PD):List (Key×V):=(qt ps).map fun p=>((Sum.inr p.name:Key),V.ref (ra p.name))
noncomputable def qF.cells (A:qF) (ls:List aH) (ps:List PD):List Addr:=A.E:: A.G:: A.Kp:: A.D:: A.Rw:: (ls.map (fun l=>A.ea l.name) ++ (qt ps).map (fun p=>A.ra p.name))
structure fD (K:PySem.W.Frag) (t:jw) (H:Hp) (A:qF) (ls:List aH) (ps:List PD) (S:FS):Prop where
 at':sr K t H A.f A.n A.E A.G A.Kp A.D A.Rw
 ever:H A.E=some (.dK (S8 A.ea ls))
 lists:∀l∈ls,H (A.ea l.name)=some (.lst ((S.ev l.name).map V.int))
 gone:H A.G=some (.dK (cW S.g ls))
 kept:H A.Kp=some (.dK (bV S.k ps))
 done:H A.D=some (.dK (bV (fun x=>(S.d x:Int)) ps))
 rows:H A.Rw=some (.dK (KY A.ra ps))
 rlst:∀p∈ps,p.kind=0->H (A.ra p.name)=some (.lst ((S.r p.name).map V.int))
 nod:(A.cells ls ps).Nodup
theorem fD.same {H H':Hp} {A:qF} {ls:List aH} {ps:List PD} {S:FS} (h:fD K t H A ls ps S) (s:aM H H'):fD K t H' A ls ps S:=
 ⟨h.at'.same s,s _ _ h.ever,fun l hl=>s _ _ (h.lists l hl),s _ _ h.gone,s _ _ h.kept,s _ _ h.done,s _ _ h.rows,fun p hp h0=>s _ _ (h.rlst p hp h0),h.nod⟩
structure PX (b:Nat) (ls:List aH) (ps:List PD) (S:FS):Prop where
 vb:∀l∈ls,∀v∈S.ev l.name,0<=v/\v <1000000000
 rb:∀p∈ps,p.kind=0->∀v∈S.r p.name,0<=v/\v <1000000000
 dl:∀p∈ps,p.kind=0->S.d p.name<=(S.r p.name).length
 len:∀l∈ls,(S.ev l.name).length<=b
 rl:∀p∈ps,p.kind=0->(S.r p.name).length<=300
theorem RV (ea:Str->Addr) (ls:List aH):(S8 ea ls).map (·.1)=(ls.map (·.name)).map (fun x=>(Sum.inr x:Key)):=by unfold S8;rw [List.map_map,List.map_map];rfl
theorem By {ea:Str->Addr} {ls:List aH} (nd:(ls.map (·.name)).Nodup) {l:aH} (hl:l∈ls):bZ (S8 ea ls) (Sum.inr l.name)=some (.ref (ea l.name)):=
 iK (by rw [RV];exact gh nd) (List.mem_map.mpr ⟨l,hl,rfl⟩)
theorem vh {g:Str->Nat} {ls:List aH} (nd:(ls.map (·.name)).Nodup) {l:aH} (hl:l∈ls):bZ (cW g ls) (Sum.inr l.name)=some (.int (g l.name:Nat)):=
 iK (by rw [Ep];exact gh nd) (List.mem_map.mpr ⟨l,hl,rfl⟩)
theorem yQ {k:Str->Int} {ps:List PD} (nd:(ps.map (·.name)).Nodup) {p:PD} (hp:p∈ps):bZ (bV k ps) (Sum.inr p.name)=some (.int (k p.name)):=
 iK (by rw [Du];exact gh nd) (List.mem_map.mpr ⟨p,hp,rfl⟩)
theorem Ge (ra:Str->Addr) (ps:List PD):(KY ra ps).map (·.1)=((qt ps).map (·.name)).map (fun x=>(Sum.inr x:Key)):=by unfold KY;rw [List.map_map,List.map_map];rfl
theorem Vc {ps:List PD} (nd:(ps.map (·.name)).Nodup):((qt ps).map (·.name)).Nodup:=nd.sublist (List.filter_sublist.map _)
theorem Eh {ra:Str->Addr} {ps:List PD} (nd:(ps.map (·.name)).Nodup) {p:PD} (hp:p∈ps) (h0:p.kind=0):bZ (KY ra ps) (Sum.inr p.name)=some (.ref (ra p.name)):=
 iK (by rw [Ge];exact gh (Vc nd)) (List.mem_map.mpr ⟨p,List.mem_filter.mpr ⟨hp,by simp [h0]⟩,rfl⟩)
theorem Nt {ra:Str->Addr} {ps:List PD} (nd:(ps.map (·.name)).Nodup) {p:PD} (hp:p∈ps) (h0:p.kind≠0):bZ (KY ra ps) (Sum.inr p.name)=none:=by
 refine ir ?_
 rw [Ge]
 intro z
 obtain⟨b,hb,e⟩:=List.mem_map.mp z
 cases e
 obtain⟨p',hp',en⟩:=List.mem_map.mp hb
 have hf:=List.mem_filter.mp hp'
 have a1:=find_name nd hf.1
 have a2:=find_name nd hp
 rw [en] at a1
 rw [a1] at a2
 cases a2
 exact h0 (by simpa using hf.2)
noncomputable def lL (S:FS) (x:Str):V:=(((S.ev x)[S.g x]?).map V.int).getD .non
noncomputable def bh (S:FS) (p:PD):List V:=p.ins.map (lL S)
structure ju where
 tk:List Str
 gv:List (Str×Int)
 kv:Int
noncomputable def strAt (xs:List Str) (q:Nat):Str:=(xs[q]?).getD Str.empty
noncomputable def Ei (S:FS) (p:PD):List Int:=if p.kind=0 then((S.r p.name)[S.d p.name]?).toList else(places p.kind (bh S p)).map fun q=>Xo (((bh S p)[q]?).getD .non)
noncomputable def zu (S:FS) (p:PD):Bool:=decide (p.kind=0) && decide (S.d p.name=(S.r p.name).length)
noncomputable def lu (S:FS) (p:PD):Option ju:=if fM p.kind p.ins (bh S p)≠.non then none else if zu S p=true then none else
 some ⟨(places p.kind (bh S p)).map (strAt p.ins),(cz p.kind p.nums (Ei S p) (S.k p.name)).map fun pv=>(strAt p.outs pv.1.toNat,pv.2),gJ p.kind (Ei S p) (S.k p.name)⟩
inductive mC (M:List Addr) (H:Hp) (U:Addr) (dd:ju):Prop where
 | mk:∀La Lg rs,H U=some (.tup [.ref La,.ref Lg,.int dd.kv])->H La=some (.lst (dd.tk.map V.str))->H Lg=some (.lst (rs.map V.ref))->(iZ H rs (dd.gv.map fun q=>[.str q.1,.int q.2]))->La∉M->Lg∉M->mC M H U dd
theorem mC.same {M:List Addr} {H H':Hp} {U:Addr} {dd:ju} (h:mC M H U dd) (s:aM H H'):mC M H' U dd:=by
 obtain⟨La,Lg,rs,a,b,c,d,e,f⟩:=h
 exact⟨La,Lg,rs,s _ _ a,s _ _ b,s _ _ c,iZ.same s d,e,f⟩
theorem qH (S:FS) (p:PD) (h:oX p):yd p.kind (bh S p):=by
 refine⟨by unfold bh;rw [lM];exact h.2.2.1,fun v hv=>?_⟩
 obtain⟨x,_,rfl⟩:=List.mem_map.mp hv
 unfold lL
 cases (S.ev x)[S.g x]? with
 | none=>exact .inl rfl
 | some n=>exact .inr ⟨n,rfl⟩
theorem fD.cell {H:Hp} {A:qF} {ls:List aH} {ps:List PD} {S:FS} (h:fD K t H A ls ps S) {a:Addr} (ha:H a=none):a∉A.cells ls ps:=by
 intro z
 have no:∀{b:Addr} {u:HO},H b=some u->a=b->False:=fun e q=>by rw [<-q,ha] at e;cases e
 unfold qF.cells at z
 simp only [List.mem_cons,List.mem_append,List.mem_map] at z
 rcases z with z | z | z | z | z | ⟨l,hl,z⟩ | ⟨p,hp,z⟩
 ·exact no h.ever z
 ·exact no h.gone z
 ·exact no h.kept z
 ·exact no h.done z
 ·exact no h.rows z
 ·exact no (h.lists l hl) z.symm
 ·have hf:=List.mem_filter.mp hp
  exact no (h.rlst p hf.1 (by simpa using hf.2)) z.symm
noncomputable def vA (t:jw) (H:Hp) (r n f:Addr) (k:Nat):Prop:=∃dx fs,(H r=some (.ins t.oO dx fs)/\fs.length<=k+3)/\TX ["step", "need_doors", "next_deed", "full_lane", "can_work", "works", "lane_now", "turn"] [("net",.ref n),("flow",.ref f),("turns",.int (k:Nat))] fs
theorem vA.same {H H':Hp} {r n f:Addr} {k:Nat} (h:vA t H r n f k) (s:aM H H'):vA t H' r n f k:=by
 obtain⟨dx,fs,h1,h2⟩:=h
 exact⟨dx,fs,⟨s _ _ h1.1,h1.2⟩,h2⟩
structure Gd (n:Nat) (d:PyData):Prop where
 eq:PyData.eqv d d=true
 lay:PyData.canLay0 d=true
 dep:PyData.depth d<=n
theorem Gd.all {n:Nat}:∀{ds:List PyData},(∀d∈ds,Gd n d)->PyData.eqvAll ds ds=true/\PyData.canLayAll0 ds=true/\PyData.depthAll ds<=n
 | [],_=>⟨by simp [PyData.eqvAll],by simp [PyData.canLayAll0],by simp [PyData.depthAll]⟩
 | d:: r,h=>by
  obtain⟨h1,h2,h3⟩:=Gd.all (ds:=r) fun x hx=>h x (List.mem_cons_of_mem _ hx)
  have g:=h d List.mem_cons_self
  have g3:=g.dep
  refine⟨by simp [PyData.eqvAll,g.eq,h1],by simp [PyData.canLayAll0,g.lay,h2],?_⟩
  simp only [PyData.depthAll]
  omega
theorem Gd.list {n:Nat} {ds:List PyData} (h:∀d∈ds,Gd n d):Gd (n+1) (.list ds):=by
 obtain⟨h1,h2,h3⟩:=Gd.all h
 exact⟨by simp [PyData.eqv,h1],by simp [PyData.canLay0,h2],by simp only [PyData.depth];omega⟩
theorem Gd.tuple {n:Nat} {ds:List PyData} (h:∀d∈ds,Gd n d):Gd (n+1) (.tuple ds):=by
 obtain⟨h1,h2,h3⟩:=Gd.all h
 exact⟨by simp [PyData.eqv,h1],by simp [PyData.canLay0,h2],by simp only [PyData.depth];omega⟩
theorem Gd.int (n:Nat) (i:Int):Gd n (.int i):=⟨by simp [PyData.eqv],by simp [PyData.canLay0],by simp [PyData.depth]⟩
theorem Gd.str (n:Nat) {x:Str} (h:PyData.strOk x=true):Gd n (.str x):=⟨by simp [PyData.eqv],by simp [PyData.canLay0,h],by simp [PyData.depth]⟩
theorem Gd.strs (n:Nat) {xs:List Str} (h:∀x∈xs,PyData.strOk x=true):∀d∈xs.map PyData.str,Gd n d:=fun d hd=>by
 obtain⟨x,hx,rfl⟩:=List.mem_map.mp hd
 exact .str n (h x hx)
theorem Gd.shaped {n:Nat} {d:PyData} (h:Gd n d) (hn:n<=64):SeqAt.shaped d=true:=by
 have:=h.dep
 unfold SeqAt.shaped
 rw [h.lay,decide_eq_true (show d.depth<=64 by omega)]
 rfl
theorem Ul {z:Str} (h:nameB z=true):PyData.strOk z=true:=by
 have e:∀c∈z.cps.toList,c <0x110000:=fun c hc=>by
  unfold nameB at h
  split at h
  ·cases h
  ·rename_i c0 r e
   rw [e] at hc
   simp only [Bool.and_eq_true,List.all_eq_true,Bool.or_eq_true] at h
   have:=h.2.2 c hc
   unfold low Lk at this
   simp only [Bool.and_eq_true,decide_eq_true_eq] at this
   omega
 unfold PyData.strOk
 rw [Array.all_eq_true']
 intro c hc
 exact decide_eq_true (e c (by simpa using hc))
theorem Np {H:Hp}:∀xs:List Str,Py K H (xs.map V.str) (xs.map PyData.str)
 | []=>.nil
 | x:: r=>.cons (.str x) (Np r)
theorem rW {H:Hp} {p:Addr} {xs:List Str} (h:bJ K H p (xs.map V.str)):Dt K H (.ref p) (.list (xs.map PyData.str)):=.list h (Np xs)
theorem PB (xs:List V) (a b:Nat):xR xs (some (a:Int)) (some (b:Int))=(xs.drop (min a xs.length)).take (min b xs.length - min a xs.length):=by
 unfold xR
 rw [HT.xQ,HT.xQ]
theorem Ra {X:Cx} {K:PySem.W.Frag} {tg l:Expr} {tl:TE} (hK:X.K=K) (hl:PE X l tl):PI X tg l (Sw K tl):=by subst hK;exact bM hl
theorem TV {X:Cx} {K:PySem.W.Frag} (hK:X.K=K) (hu:X.A.units+64 <cLine):sY X (compareOp .NotEq) (Yl K):=by subst hK;exact Xc hu
inductive An (K:PySem.W.Frag) (vs:List V) (H:Hp) (Q:VK) (E:XK):Prop where
 | mk:∀x Tx b,vs=[x]->Zc K H x Tx->Tx∈pL->decide (Tx= "int")=b->Q (.bl b) H->An K vs H Q E
theorem Af (T:Txt w K mg t):FO P w K mg base 1 t.BZ ["thing"] (An K):=by
 have sc:=T.rC.sc ["thing"]
 refine T.rC.F.ok sc ln (fun _ _ _ _ H vs Q E hr h=>?_)
 obtain⟨x,Tx,b,rfl,ty,hm,rfl,k⟩:=h
 refine⟨_,(aA (aO (zE (bz xU (by rfl) T.mJ j8 (aa (pv 0) (aa (Bq (by rfl) T.YK Xj) ak aj) aj)) (yU (Xf (bz xU (by rfl) T.mJ j8 (aa (pv 0) (aa (Bq (by rfl) T.Xg Vb) ak aj) aj))))))),?_⟩
 have hm':Tx= "int" ∨Tx= "bool" ∨(J1 Tx "int" =false/\Tx≠ "int"):=by
  simp only [pL,List.mem_cons,List.not_mem_nil,or_false] at hm
  rcases hm with rfl | rfl | rfl | rfl | rfl | rfl | rfl
  ·exact .inr (.inr (by decide))
  ·exact .inr (.inl rfl)
  ·exact .inl rfl
  ·exact .inr (.inr (by decide))
  ·exact .inr (.inr (by decide))
  ·exact .inr (.inr (by decide))
  ·exact .inr (.inr (by decide))
 rcases hm' with rfl | rfl | ⟨h1,h2⟩
 ·exact⟨_,rfl,x, "int", "int",true,rfl,ty,by decide,by decide,true,rfl,iW ⟨_,rfl,x, "int", "bool",false,rfl,ty,by decide,by decide,_,rfl,k⟩⟩
 ·exact⟨_,rfl,x, "bool", "int",true,rfl,ty,by decide,by decide,true,rfl,iW ⟨_,rfl,x, "bool", "bool",true,rfl,ty,by decide,by decide,_,rfl,k⟩⟩
 ·rw [decide_eq_false h2] at k
  exact⟨_,rfl,x,Tx, "int",false,rfl,ty,by decide,h1,false,rfl,cZ k⟩
inductive zW (K:PySem.W.Frag) (vs:List V) (H:Hp) (Q:VK) (E:XK):Prop where
 | mk:∀x,vs=[x]->(((∃i:Int,x=.int i/\Q (.bl (decide (0<=i) && decide (i <1000000000))) H)∨∃Tx,Zc K H x Tx/\Tx∈pL/\Tx≠ "int" /\Q (.bl false) H))->zW K vs H Q E
theorem uC (T:Txt w K mg t):FO P w K mg base 2 t.DK ["thing"] (zW K):=by
 have sc:=T.oZ.sc ["thing"]
 refine T.oZ.F.ok sc ln (fun _ _ _ _ H vs Q E hr h=>?_)
 obtain⟨x,rfl,h⟩:=h
 refine⟨_,(aA (aO (zE (d7 (Af T) T.rC hr (aa (pv 0) ak aj)) (yU (Rk vB tX az (pv 0) (jc (by rfl) T.Jt)))))),?_⟩
 rcases h with ⟨i,rfl,k⟩ | ⟨Tx,ty,hm,hne,k⟩
 ·refine⟨_,rfl,.int i, "int",true,rfl,rfl,by decide,by decide,true,rfl,iW ⟨_,rfl,_,_,rfl,rfl,_,rfl,jH (fun h=>?_) (fun h=>?_)⟩⟩
  ·have h':0<=i:=of_decide_eq_true h
   rw [decide_eq_true h',Bool.true_and] at k
   exact⟨_,_,rfl,rfl,k⟩
  ·have h':¬0<=i:=fun z=>h (decide_eq_true z)
   rw [decide_eq_false h',Bool.false_and] at k
   exact k
 ·exact⟨_,rfl,x,Tx,false,rfl,ty,hm,decide_eq_false hne,false,rfl,cZ k⟩
inductive qI (K:PySem.W.Frag) (t:jw) (vs:List V) (H:Hp) (Q:VK) (E:XK):Prop where
 | mk:∀(i:Nat) (p dx a1 a2 a3:Addr) (nm:V) (ns is os:List V),vs=[.ref p,nm,.ref a1,.ref a2,.ref a3]->H p=some (.ins (cls t i) dx [])->yt K H a1 ns->yt K H a2 is->yt K H a3 os->(∀H',jK p H H'->dX K t H' p i nm ns is os->Q .non H')->qI K t vs H Q E
noncomputable abbrev lY:List Str:=["self", "name", "numbers", "ins", "outs"]
theorem bR (T:Txt w K mg t):FO P w K mg base 1 t.bN lY (qI K t):=by
 have sc:fV lY lY (aR (inClass (top 36) 0)):=Nq
 refine T.aW.F.ok sc ln (fun _ _ _ _ H vs Q E hr h=>?_)
 obtain⟨i,p,dx,a1,a2,a3,nm,ns,is,os,rfl,hp,q1,q2,q3,k⟩:=h
 refine⟨_,(au (gU (pv 0) (pv 1) rfl)
  (au (gU (pv 0) (fj uY (by rfl) T.Br yw (aa (pv 2) ak aj)) rfl)
  (au (gU (pv 0) (fj uY (by rfl) T.Br yw (aa (pv 3) ak aj)) rfl)
  (aA (gU (pv 0) (fj uY (by rfl) T.Br yw (aa (pv 4) ak aj)) rfl))))),?_⟩
 refine⟨_,rfl,_,rfl,p,cls t i,dx,[],rfl,hp,ie T i,Bx T i,by show 0 <1000;decide,?_⟩
 have b1:jK p H (upd H p (.ins (cls t i) dx (aJ "name" nm []))):=jK.write
 have e1:(upd H p (.ins (cls t i) dx (aJ "name" nm []))) p=some (.ins (cls t i) dx (aJ "name" nm [])):=aq
 generalize upd H p (.ins (cls t i) dx (aJ "name" nm []))=H1 at b1 e1 ⊢
 have r2:=b1.seqA hp q2
 have r3:=b1.seqA hp q3
 refine⟨_,rfl,a1,ns,rfl,b1.seqA hp q1,fun H2 u2 s2 t2=>⟨_,rfl,p,cls t i,dx,_,rfl,s2 _ _ e1,ie T i,qT T i,Nat.lt_of_le_of_lt (gO (Nat.zero_le 0)) (by decide),?_⟩⟩
 have e2:=s2 _ _ e1
 have b2:jK p H2 (upd H2 p (.ins (cls t i) dx (aJ "numbers" (.ref u2) (aJ "name" nm [])))):=jK.write
 have e3:(upd H2 p (.ins (cls t i) dx (aJ "numbers" (.ref u2) (aJ "name" nm [])))) p=some (.ins (cls t i) dx (aJ "numbers" (.ref u2) (aJ "name" nm []))):=aq
 generalize upd H2 p (.ins (cls t i) dx (aJ "numbers" (.ref u2) (aJ "name" nm [])))=H3 at b2 e3 ⊢
 have r2':=b2.seqA e2 (s2.seqA r2)
 have r3':=b2.seqA e2 (s2.seqA r3)
 have t2':=b2.seqT e2 t2
 refine⟨_,rfl,a2,is,rfl,r2',fun H4 u4 s4 t4=>⟨_,rfl,p,cls t i,dx,_,rfl,s4 _ _ e3,ie T i,yZ T i,Nat.lt_of_le_of_lt (gO (gO (Nat.zero_le 0))) (by decide),?_⟩⟩
 have e4:=s4 _ _ e3
 have b4:jK p H4 (upd H4 p (.ins (cls t i) dx (aJ "ins" (.ref u4) (aJ "numbers" (.ref u2) (aJ "name" nm []))))):=jK.write
 have e5:(upd H4 p (.ins (cls t i) dx (aJ "ins" (.ref u4) (aJ "numbers" (.ref u2) (aJ "name" nm []))))) p=some (.ins (cls t i) dx (aJ "ins" (.ref u4) (aJ "numbers" (.ref u2) (aJ "name" nm [])))):=aq
 generalize upd H4 p (.ins (cls t i) dx (aJ "ins" (.ref u4) (aJ "numbers" (.ref u2) (aJ "name" nm []))))=H5 at b4 e5 ⊢
 have r3'':=b4.seqA e4 (s4.seqA r3')
 have t2'':=b4.seqT e4 (s4.seqT t2')
 have t4':=b4.seqT e4 t4
 refine⟨_,rfl,a3,os,rfl,r3'',fun H6 u6 s6 t6=>⟨_,rfl,p,cls t i,dx,_,rfl,s6 _ _ e5,ie T i,Iw T i,Nat.lt_of_le_of_lt (gO (gO (gO (Nat.zero_le 0)))) (by decide),?_⟩⟩
 have e6:=s6 _ _ e5
 refine k _ (b1.trans ((jK.of_same s2).trans (b2.trans ((jK.of_same s4).trans (b4.trans ((jK.of_same s6).trans jK.write)))))) ⟨dx,u2,u4,u6,aq,?_,?_,?_⟩
 ·exact jK.write.seqT e6 (s6.seqT t2'')
 ·exact jK.write.seqT e6 (s6.seqT t4')
 ·exact jK.write.seqT e6 t6
theorem Ik (T:Txt w K mg t):FO P w K mg base 1 t.uU ["self"] (gZ 0):=by
 have sc:=T.pW.sc ["self"]
 refine T.pW.F.ok sc ln (fun _ _ _ _ H vs Q E hr h=>?_)
 obtain⟨x,rfl,k⟩:=h
 refine⟨_,(aA (aO bI)),?_⟩
 exact k
theorem IW (T:Txt w K mg t):FO P w K mg base 1 t.sZ ["self"] (gZ 1):=by
 have sc:=T.pH.sc ["self"]
 refine T.pH.F.ok sc ln (fun _ _ _ _ H vs Q E hr h=>?_)
 obtain⟨x,rfl,k⟩:=h
 refine⟨_,(aA (aO bI)),?_⟩
 exact k
theorem Hw (T:Txt w K mg t):FO P w K mg base 1 t.uN ["self"] (gZ 2):=by
 have sc:=T.pU.sc ["self"]
 refine T.pU.F.ok sc ln (fun _ _ _ _ H vs Q E hr h=>?_)
 obtain⟨x,rfl,k⟩:=h
 refine⟨_,(aA (aO bI)),?_⟩
 exact k
theorem IK (T:Txt w K mg t):FO P w K mg base 1 t.um ["self"] (gZ 3):=by
 have sc:=T.pA.sc ["self"]
 refine T.pA.F.ok sc ln (fun _ _ _ _ H vs Q E hr h=>?_)
 obtain⟨x,rfl,k⟩:=h
 refine⟨_,(aA (aO bI)),?_⟩
 exact k
theorem G8 (T:Txt w K mg t):FO P w K mg base 1 t.ug ["self"] (gZ 4):=by
 have sc:=T.pK.sc ["self"]
 refine T.pK.F.ok sc ln (fun _ _ _ _ H vs Q E hr h=>?_)
 obtain⟨x,rfl,k⟩:=h
 refine⟨_,(aA (aO bI)),?_⟩
 exact k
theorem Hz (T:Txt w K mg t):FO P w K mg base 1 t.uO ["self"] (gZ 5):=by
 have sc:=T.pF.sc ["self"]
 refine T.pF.F.ok sc ln (fun _ _ _ _ H vs Q E hr h=>?_)
 obtain⟨x,rfl,k⟩:=h
 refine⟨_,(aA (aO bI)),?_⟩
 exact k
theorem JT (T:Txt w K mg t):FO P w K mg base 1 t.wQ ["self"] (gZ 6):=by
 have sc:=T.rM.sc ["self"]
 refine T.rM.F.ok sc ln (fun _ _ _ _ H vs Q E hr h=>?_)
 obtain⟨x,rfl,k⟩:=h
 refine⟨_,(aA (aO bI)),?_⟩
 exact k
theorem G6 (T:Txt w K mg t):FO P w K mg base 1 t.uz ["self"] (gZ 7):=by
 have sc:=T.pZ.sc ["self"]
 refine T.pZ.F.ok sc ln (fun _ _ _ _ H vs Q E hr h=>?_)
 obtain⟨x,rfl,k⟩:=h
 refine⟨_,(aA (aO bI)),?_⟩
 exact k
theorem EY (T:Txt w K mg t):FO P w K mg base 1 t.rT ["self"] (gZ 8):=by
 have sc:=T.mX.sc ["self"]
 refine T.mX.F.ok sc ln (fun _ _ _ _ H vs Q E hr h=>?_)
 obtain⟨x,rfl,k⟩:=h
 refine⟨_,(aA (aO bI)),?_⟩
 exact k
theorem Ci (T:Txt w K mg t):FO P w K mg base 1 t.qy ["self"] (gZ 9):=by
 have sc:=T.j6.sc ["self"]
 refine T.j6.F.ok sc ln (fun _ _ _ _ H vs Q E hr h=>?_)
 obtain⟨x,rfl,k⟩:=h
 refine⟨_,(aA (aO bI)),?_⟩
 exact k
theorem Fi (T:Txt w K mg t):FO P w K mg base 1 t.rP ["self"] (gZ 10):=by
 have sc:=T.mZ.sc ["self"]
 refine T.mZ.F.ok sc ln (fun _ _ _ _ H vs Q E hr h=>?_)
 obtain⟨x,rfl,k⟩:=h
 refine⟨_,(aA (aO bI)),?_⟩
 exact k
inductive Dq (vs:List V) (H:Hp) (Q:VK) (E:XK):Prop where
 | mk:∀z:Str,vs=[.str z]->Q (.bl (rowOf ROWS z).isSome) H->Dq vs H Q E
theorem CV (T:Txt w K mg t):FO P w K mg base 1 t.Fp ["word"] (Dq):=by
 have sc:=T.vm.sc ["word"]
 refine T.vm.F.ok sc ln (fun _ _ _ _ H vs Q E hr h=>?_)
 obtain⟨z,rfl,k⟩:=h
 refine⟨_,(aA (aO (Il (WX (pv 0) (Hr (v:=.ref _) (by rfl) T.Fo rfl)) (by with_unfolding_all rfl)))),?_⟩
 exact⟨_,rfl,t.xH,ROWS,z,rfl,T.JV,rfl,k⟩
inductive z9 (K:PySem.W.Frag) (vs:List V) (H:Hp) (Q:VK) (E:XK):Prop where
 | mk:∀(i:Nat) (nm:V) (a1 a2 a3:Addr) (ns is os:List V),vs=[.str (dh i),nm,.ref a1,.ref a2,.ref a3]->yt K H a1 ns->yt K H a2 is->yt K H a3 os->ns.length=cN i->is.length=cI i->os.length=cO i->((∀v∈ns,Val v))->(∀H',aM H H'->Q .non H')->z9 K vs H Q E
noncomputable abbrev CJ:List Str:=["kind", "name", "numbers", "ins", "outs", "counts"]
theorem J3 (T:Txt w K mg t):FO P w K mg base 3 t.DY ["kind", "name", "numbers", "ins", "outs"] (z9 K):=by
 have sc:=T.wZ.sc CJ
 refine T.wZ.F.ok sc ln (fun _ _ _ _ H vs Q E hr h=>?_)
 obtain⟨i,nm,a1,a2,a3,ns,is,os,rfl,h1,h2,h3,l1,l2,l3,hv,k⟩:=h
 refine⟨_,(au (bQ (mq (jX (d7 (CV T) T.vm hr (aa (pv 0) ak aj))))
   (aA dz)
   bD)
  (au (sN sc 5 (Uv (Hr (v:=.ref _) (by rfl) T.Fo rfl) (pv 0) (fun _ _=>rfl)))
  (au (bQ (PW.pt (xn (bc JS (bz bO (by rfl) T.fH dB (aa (pv 2) ak aj)) (aV cP (pv 5) az (fun _ _=>rfl)) (bL _)) (qY (mq (jX (bz (xg rfl) (by rfl) T.Mu HW (aa (eU [] CJ (aR (top 49)) rfl (V4 (bM (pv 2)) (Ho (pv 2))) (fun _ _ _ _ _=>iM) (fun _ _ _ _ _=>(d7 (uC T) T.oZ hr (aa (pv 0) ak aj)))) ak gP)))))))
   (aA dz)
   bD)
  (aA (bQ (PW.pt (xn (bc JS (bz bO (by rfl) T.fH dB (aa (pv 3) ak aj)) (aV cP (pv 5) az (fun _ _=>rfl)) (bL _)) (qY (bc JS (bz bO (by rfl) T.fH dB (aa (pv 4) ak aj)) (aV cP (pv 5) az (fun _ _=>rfl)) (bL _)))))
   (aA dz)
   bD))))),?_⟩
 have hl:sizeLine=16777216:=sizeLine_eq
 have hN:=X5 i
 have hI:=Gm i
 have hO:=RC i
 refine⟨_,rfl,dh i,rfl,true,by rw [row_of];rfl,cZ ?_⟩
 refine⟨_,rfl,t.xH,ROWS,dh i,_,rfl,T.JV,rfl,row_of i,fun ad had=>?_⟩
 refine⟨_,rfl,.ref a1,ns.length,rfl,h1.len,_,rfl,ad,_,0,_,rfl,rfl,had,aN (j:=0) rfl,rfl,_,rfl,?_⟩
 rw [show(!decide (V.int ((ns.length:Nat):Int)=V.int ((cN i:Nat):Int)))=false by rw [l1];simp]
 refine cZ ?_
 refine Ql (a:=a1) (xs:=ns) ?_ h1 (fun j ys=>ys=(List.replicate j true).map V.bl) (by omega) rfl (fun j ys e=>by rw [e];simp) (fun j x ys hx e=>?_) (fun ys e D hD=>?_)
 ·exact fun R r=>⟨_,rfl,r⟩
 ·subst e
  obtain⟨n,rfl,n0,n1⟩:=hv x (List.mem_of_getElem? hx)
  refine yes ⟨_,rfl,.int n,rfl,.inl ⟨n,rfl,rfl,?_⟩⟩
  rw [decide_eq_true n0,decide_eq_true n1,List.replicate_succ']
  simp
 ·subst e
  refine⟨D,_,rfl,bJ.of aq,_,rfl,?_⟩
  rw [show((List.replicate ns.length true).all id)=true by simp]
  refine cZ ?_
  have s1:aM H (upd H D (.lst ((List.replicate ns.length true).map V.bl))):=aB hD
  refine⟨_,rfl,.ref a2,is.length,rfl,(s1.seqA h2).len,_,rfl,ad,_,1,_,rfl,rfl,s1.seqT had,aN (j:=1) rfl,rfl,_,rfl,?_⟩
  rw [show(!decide (V.int ((is.length:Nat):Int)=V.int ((cI i:Nat):Int)))=false by rw [l2];simp]
  refine cZ ?_
  refine⟨_,rfl,.ref a3,os.length,rfl,(s1.seqA h3).len,_,rfl,ad,_,2,_,rfl,rfl,s1.seqT had,aN (j:=2) rfl,rfl,_,rfl,?_⟩
  rw [show(!decide (V.int ((os.length:Nat):Int)=V.int ((cO i:Nat):Int)))=false by rw [l3];simp]
  exact cZ (k _ s1)
inductive Eg (K:PySem.W.Frag) (t:jw) (vs:List V) (H:Hp) (Q:VK) (E:XK):Prop where
 | mk:∀(i:Nat) (nm:V) (a1 a2 a3:Addr) (ns is os:List V),vs=[.str (dh i),nm,.ref a1,.ref a2,.ref a3]->i<=10->yt K H a1 ns->yt K H a2 is->yt K H a3 os->(∀H' p,aM H H'->H p=none->dX K t H' p i nm ns is os->Q (.ref p) H')->Eg K t vs H Q E
noncomputable abbrev zp:List Str:=["kind", "name", "numbers", "ins", "outs"]
theorem LC (T:Txt w K mg t):FO P w K mg base 3 t.Gu zp (Eg K t):=by
 have sc:fV zp zp (aR (top 50)):=Nq
 refine T.FW.F.ok sc ln (fun _ _ _ _ H vs Q E hr h=>?_)
 obtain⟨i,nm,a1,a2,a3,ns,is,os,rfl,hi,h1,h2,h3,k⟩:=h
 refine⟨_,(au (bQ (bc iG (pv 0) bI (bL _))
   (aA (aO (gY (T.iz.M T.aW) (bR T) (hr.mono (by decide)) (by rfl) T.iz.m T.aW.b .nil gK (aa (pv 1) (aa (pv 2) (aa (pv 3) (aa (pv 4) ak aj) aj) aj) aj))))
   bD)
  (au (bQ (bc iG (pv 0) bI (bL _))
   (aA (aO (gY (T.iJ.M T.aW) (bR T) (hr.mono (by decide)) (by rfl) T.iJ.m T.aW.b .nil gK (aa (pv 1) (aa (pv 2) (aa (pv 3) (aa (pv 4) ak aj) aj) aj) aj))))
   bD)
  (au (bQ (bc iG (pv 0) bI (bL _))
   (aA (aO (gY (T.iu.M T.aW) (bR T) (hr.mono (by decide)) (by rfl) T.iu.m T.aW.b .nil gK (aa (pv 1) (aa (pv 2) (aa (pv 3) (aa (pv 4) ak aj) aj) aj) aj))))
   bD)
  (au (bQ (bc iG (pv 0) bI (bL _))
   (aA (aO (gY (T.iH.M T.aW) (bR T) (hr.mono (by decide)) (by rfl) T.iH.m T.aW.b .nil gK (aa (pv 1) (aa (pv 2) (aa (pv 3) (aa (pv 4) ak aj) aj) aj) aj))))
   bD)
  (au (bQ (bc iG (pv 0) bI (bL _))
   (aA (aO (gY (T.iC.M T.aW) (bR T) (hr.mono (by decide)) (by rfl) T.iC.m T.aW.b .nil gK (aa (pv 1) (aa (pv 2) (aa (pv 3) (aa (pv 4) ak aj) aj) aj) aj))))
   bD)
  (au (bQ (bc iG (pv 0) bI (bL _))
   (aA (aO (gY (T.iy.M T.aW) (bR T) (hr.mono (by decide)) (by rfl) T.iy.m T.aW.b .nil gK (aa (pv 1) (aa (pv 2) (aa (pv 3) (aa (pv 4) ak aj) aj) aj) aj))))
   bD)
  (au (bQ (bc iG (pv 0) bI (bL _))
   (aA (aO (gY (T.lE.M T.aW) (bR T) (hr.mono (by decide)) (by rfl) T.lE.m T.aW.b .nil gK (aa (pv 1) (aa (pv 2) (aa (pv 3) (aa (pv 4) ak aj) aj) aj) aj))))
   bD)
  (au (bQ (bc iG (pv 0) bI (bL _))
   (aA (aO (gY (T.iB.M T.aW) (bR T) (hr.mono (by decide)) (by rfl) T.iB.m T.aW.b .nil gK (aa (pv 1) (aa (pv 2) (aa (pv 3) (aa (pv 4) ak aj) aj) aj) aj))))
   bD)
  (au (bQ (bc iG (pv 0) bI (bL _))
   (aA (aO (gY (T.fK.M T.aW) (bR T) (hr.mono (by decide)) (by rfl) T.fK.m T.aW.b .nil gK (aa (pv 1) (aa (pv 2) (aa (pv 3) (aa (pv 4) ak aj) aj) aj) aj))))
   bD)
  (au (bQ (bc iG (pv 0) bI (bL _))
   (aA (aO (gY (T.dO.M T.aW) (bR T) (hr.mono (by decide)) (by rfl) T.dO.m T.aW.b .nil gK (aa (pv 1) (aa (pv 2) (aa (pv 3) (aa (pv 4) ak aj) aj) aj) aj))))
   bD)
  (aA (aO (gY (T.fB.M T.aW) (bR T) (hr.mono (by decide)) (by rfl) T.fB.m T.aW.b .nil gK (aa (pv 1) (aa (pv 2) (aa (pv 3) (aa (pv 4) ak aj) aj) aj) aj)))))))))))))),?_⟩
 match i,hi with
 | 0,_=>
  refine⟨_,rfl,rfl,_,rfl,vz rfl ?_⟩
  refine⟨_,rfl,_,rfl,_,rfl,_,rfl,fun x dx nx ndx nex=>?_⟩
  have s0:aM H (upd (upd H dx (.own x)) x (.ins t.Ma dx [])):=fun b o e=>by rw [aK (aD e nx),aK (aD e ndx)];exact e
  exact⟨0,x,dx,a1,a2,a3,nm,ns,is,os,rfl,aq,s0.seqA h1,s0.seqA h2,s0.seqA h3,fun H' b P=>⟨rfl,k H' x (fun c o e=>b c o (aD e nx) (s0 c o e)) nx P⟩⟩
 | 1,_=>
  refine⟨_,rfl,rfl,_,rfl,dF (by decide +kernel) ?_⟩
  refine⟨_,rfl,rfl,_,rfl,vz rfl ?_⟩
  refine⟨_,rfl,_,rfl,_,rfl,_,rfl,fun x dx nx ndx nex=>?_⟩
  have s0:aM H (upd (upd H dx (.own x)) x (.ins t.Li dx [])):=fun b o e=>by rw [aK (aD e nx),aK (aD e ndx)];exact e
  exact⟨1,x,dx,a1,a2,a3,nm,ns,is,os,rfl,aq,s0.seqA h1,s0.seqA h2,s0.seqA h3,fun H' b P=>⟨rfl,k H' x (fun c o e=>b c o (aD e nx) (s0 c o e)) nx P⟩⟩
 | 2,_=>
  refine⟨_,rfl,rfl,_,rfl,dF (by decide +kernel) ?_⟩
  refine⟨_,rfl,rfl,_,rfl,dF (by decide +kernel) ?_⟩
  refine⟨_,rfl,rfl,_,rfl,vz rfl ?_⟩
  refine⟨_,rfl,_,rfl,_,rfl,_,rfl,fun x dx nx ndx nex=>?_⟩
  have s0:aM H (upd (upd H dx (.own x)) x (.ins t.KQ dx [])):=fun b o e=>by rw [aK (aD e nx),aK (aD e ndx)];exact e
  exact⟨2,x,dx,a1,a2,a3,nm,ns,is,os,rfl,aq,s0.seqA h1,s0.seqA h2,s0.seqA h3,fun H' b P=>⟨rfl,k H' x (fun c o e=>b c o (aD e nx) (s0 c o e)) nx P⟩⟩
 | 3,_=>
  refine⟨_,rfl,rfl,_,rfl,dF (by decide +kernel) ?_⟩
  refine⟨_,rfl,rfl,_,rfl,dF (by decide +kernel) ?_⟩
  refine⟨_,rfl,rfl,_,rfl,dF (by decide +kernel) ?_⟩
  refine⟨_,rfl,rfl,_,rfl,vz rfl ?_⟩
  refine⟨_,rfl,_,rfl,_,rfl,_,rfl,fun x dx nx ndx nex=>?_⟩
  have s0:aM H (upd (upd H dx (.own x)) x (.ins t.KZ dx [])):=fun b o e=>by rw [aK (aD e nx),aK (aD e ndx)];exact e
  exact⟨3,x,dx,a1,a2,a3,nm,ns,is,os,rfl,aq,s0.seqA h1,s0.seqA h2,s0.seqA h3,fun H' b P=>⟨rfl,k H' x (fun c o e=>b c o (aD e nx) (s0 c o e)) nx P⟩⟩
 | 4,_=>
  refine⟨_,rfl,rfl,_,rfl,dF (by decide +kernel) ?_⟩
  refine⟨_,rfl,rfl,_,rfl,dF (by decide +kernel) ?_⟩
  refine⟨_,rfl,rfl,_,rfl,dF (by decide +kernel) ?_⟩
  refine⟨_,rfl,rfl,_,rfl,dF (by decide +kernel) ?_⟩
  refine⟨_,rfl,rfl,_,rfl,vz rfl ?_⟩
  refine⟨_,rfl,_,rfl,_,rfl,_,rfl,fun x dx nx ndx nex=>?_⟩
  have s0:aM H (upd (upd H dx (.own x)) x (.ins t.Ky dx [])):=fun b o e=>by rw [aK (aD e nx),aK (aD e ndx)];exact e
  exact⟨4,x,dx,a1,a2,a3,nm,ns,is,os,rfl,aq,s0.seqA h1,s0.seqA h2,s0.seqA h3,fun H' b P=>⟨rfl,k H' x (fun c o e=>b c o (aD e nx) (s0 c o e)) nx P⟩⟩
 | 5,_=>
  refine⟨_,rfl,rfl,_,rfl,dF (by decide +kernel) ?_⟩
  refine⟨_,rfl,rfl,_,rfl,dF (by decide +kernel) ?_⟩
  refine⟨_,rfl,rfl,_,rfl,dF (by decide +kernel) ?_⟩
  refine⟨_,rfl,rfl,_,rfl,dF (by decide +kernel) ?_⟩
  refine⟨_,rfl,rfl,_,rfl,dF (by decide +kernel) ?_⟩
  refine⟨_,rfl,rfl,_,rfl,vz rfl ?_⟩
  refine⟨_,rfl,_,rfl,_,rfl,_,rfl,fun x dx nx ndx nex=>?_⟩
  have s0:aM H (upd (upd H dx (.own x)) x (.ins t.Lw dx [])):=fun b o e=>by rw [aK (aD e nx),aK (aD e ndx)];exact e
  exact⟨5,x,dx,a1,a2,a3,nm,ns,is,os,rfl,aq,s0.seqA h1,s0.seqA h2,s0.seqA h3,fun H' b P=>⟨rfl,k H' x (fun c o e=>b c o (aD e nx) (s0 c o e)) nx P⟩⟩
 | 6,_=>
  refine⟨_,rfl,rfl,_,rfl,dF (by decide +kernel) ?_⟩
  refine⟨_,rfl,rfl,_,rfl,dF (by decide +kernel) ?_⟩
  refine⟨_,rfl,rfl,_,rfl,dF (by decide +kernel) ?_⟩
  refine⟨_,rfl,rfl,_,rfl,dF (by decide +kernel) ?_⟩
  refine⟨_,rfl,rfl,_,rfl,dF (by decide +kernel) ?_⟩
  refine⟨_,rfl,rfl,_,rfl,dF (by decide +kernel) ?_⟩
  refine⟨_,rfl,rfl,_,rfl,vz rfl ?_⟩
  refine⟨_,rfl,_,rfl,_,rfl,_,rfl,fun x dx nx ndx nex=>?_⟩
  have s0:aM H (upd (upd H dx (.own x)) x (.ins t.Ro dx [])):=fun b o e=>by rw [aK (aD e nx),aK (aD e ndx)];exact e
  exact⟨6,x,dx,a1,a2,a3,nm,ns,is,os,rfl,aq,s0.seqA h1,s0.seqA h2,s0.seqA h3,fun H' b P=>⟨rfl,k H' x (fun c o e=>b c o (aD e nx) (s0 c o e)) nx P⟩⟩
 | 7,_=>
  refine⟨_,rfl,rfl,_,rfl,dF (by decide +kernel) ?_⟩
  refine⟨_,rfl,rfl,_,rfl,dF (by decide +kernel) ?_⟩
  refine⟨_,rfl,rfl,_,rfl,dF (by decide +kernel) ?_⟩
  refine⟨_,rfl,rfl,_,rfl,dF (by decide +kernel) ?_⟩
  refine⟨_,rfl,rfl,_,rfl,dF (by decide +kernel) ?_⟩
  refine⟨_,rfl,rfl,_,rfl,dF (by decide +kernel) ?_⟩
  refine⟨_,rfl,rfl,_,rfl,dF (by decide +kernel) ?_⟩
  refine⟨_,rfl,rfl,_,rfl,vz rfl ?_⟩
  refine⟨_,rfl,_,rfl,_,rfl,_,rfl,fun x dx nx ndx nex=>?_⟩
  have s0:aM H (upd (upd H dx (.own x)) x (.ins t.Lq dx [])):=fun b o e=>by rw [aK (aD e nx),aK (aD e ndx)];exact e
  exact⟨7,x,dx,a1,a2,a3,nm,ns,is,os,rfl,aq,s0.seqA h1,s0.seqA h2,s0.seqA h3,fun H' b P=>⟨rfl,k H' x (fun c o e=>b c o (aD e nx) (s0 c o e)) nx P⟩⟩
 | 8,_=>
  refine⟨_,rfl,rfl,_,rfl,dF (by decide +kernel) ?_⟩
  refine⟨_,rfl,rfl,_,rfl,dF (by decide +kernel) ?_⟩
  refine⟨_,rfl,rfl,_,rfl,dF (by decide +kernel) ?_⟩
  refine⟨_,rfl,rfl,_,rfl,dF (by decide +kernel) ?_⟩
  refine⟨_,rfl,rfl,_,rfl,dF (by decide +kernel) ?_⟩
  refine⟨_,rfl,rfl,_,rfl,dF (by decide +kernel) ?_⟩
  refine⟨_,rfl,rfl,_,rfl,dF (by decide +kernel) ?_⟩
  refine⟨_,rfl,rfl,_,rfl,dF (by decide +kernel) ?_⟩
  refine⟨_,rfl,rfl,_,rfl,vz rfl ?_⟩
  refine⟨_,rfl,_,rfl,_,rfl,_,rfl,fun x dx nx ndx nex=>?_⟩
  have s0:aM H (upd (upd H dx (.own x)) x (.ins t.Ij dx [])):=fun b o e=>by rw [aK (aD e nx),aK (aD e ndx)];exact e
  exact⟨8,x,dx,a1,a2,a3,nm,ns,is,os,rfl,aq,s0.seqA h1,s0.seqA h2,s0.seqA h3,fun H' b P=>⟨rfl,k H' x (fun c o e=>b c o (aD e nx) (s0 c o e)) nx P⟩⟩
 | 9,_=>
  refine⟨_,rfl,rfl,_,rfl,dF (by decide +kernel) ?_⟩
  refine⟨_,rfl,rfl,_,rfl,dF (by decide +kernel) ?_⟩
  refine⟨_,rfl,rfl,_,rfl,dF (by decide +kernel) ?_⟩
  refine⟨_,rfl,rfl,_,rfl,dF (by decide +kernel) ?_⟩
  refine⟨_,rfl,rfl,_,rfl,dF (by decide +kernel) ?_⟩
  refine⟨_,rfl,rfl,_,rfl,dF (by decide +kernel) ?_⟩
  refine⟨_,rfl,rfl,_,rfl,dF (by decide +kernel) ?_⟩
  refine⟨_,rfl,rfl,_,rfl,dF (by decide +kernel) ?_⟩
  refine⟨_,rfl,rfl,_,rfl,dF (by decide +kernel) ?_⟩
  refine⟨_,rfl,rfl,_,rfl,vz rfl ?_⟩
  refine⟨_,rfl,_,rfl,_,rfl,_,rfl,fun x dx nx ndx nex=>?_⟩
  have s0:aM H (upd (upd H dx (.own x)) x (.ins t.CW dx [])):=fun b o e=>by rw [aK (aD e nx),aK (aD e ndx)];exact e
  exact⟨9,x,dx,a1,a2,a3,nm,ns,is,os,rfl,aq,s0.seqA h1,s0.seqA h2,s0.seqA h3,fun H' b P=>⟨rfl,k H' x (fun c o e=>b c o (aD e nx) (s0 c o e)) nx P⟩⟩
 | 10,_=>
  refine⟨_,rfl,rfl,_,rfl,dF (by decide +kernel) ?_⟩
  refine⟨_,rfl,rfl,_,rfl,dF (by decide +kernel) ?_⟩
  refine⟨_,rfl,rfl,_,rfl,dF (by decide +kernel) ?_⟩
  refine⟨_,rfl,rfl,_,rfl,dF (by decide +kernel) ?_⟩
  refine⟨_,rfl,rfl,_,rfl,dF (by decide +kernel) ?_⟩
  refine⟨_,rfl,rfl,_,rfl,dF (by decide +kernel) ?_⟩
  refine⟨_,rfl,rfl,_,rfl,dF (by decide +kernel) ?_⟩
  refine⟨_,rfl,rfl,_,rfl,dF (by decide +kernel) ?_⟩
  refine⟨_,rfl,rfl,_,rfl,dF (by decide +kernel) ?_⟩
  refine⟨_,rfl,rfl,_,rfl,dF (by decide +kernel) ?_⟩
  refine⟨_,rfl,_,rfl,_,rfl,_,rfl,fun x dx nx ndx nex=>?_⟩
  have s0:aM H (upd (upd H dx (.own x)) x (.ins t.Hf dx [])):=fun b o e=>by rw [aK (aD e nx),aK (aD e ndx)];exact e
  exact⟨10,x,dx,a1,a2,a3,nm,ns,is,os,rfl,aq,s0.seqA h1,s0.seqA h2,s0.seqA h3,fun H' b P=>⟨rfl,k H' x (fun c o e=>b c o (aD e nx) (s0 c o e)) nx P⟩⟩
 | (n+11),h=>exact absurd h (by omega)
inductive xG (K:PySem.W.Frag) (t:jw) (vs:List V) (H:Hp) (Q:VK) (E:XK):Prop where
 | mk:∀(i:Nat) (nm:V) (a1 a2 a3:Addr) (ns is os:List V),vs=[.str (dh i),nm,.ref a1,.ref a2,.ref a3]->i<=10->yt K H a1 ns->yt K H a2 is->yt K H a3 os->ns.length=cN i->is.length=cI i->os.length=cO i->((∀v∈ns,Val v))->(∀H' p,aM H H'->H p=none->dX K t H' p i nm ns is os->Q (.ref p) H')->xG K t vs H Q E
noncomputable abbrev uR:List Str:=["kind", "name", "numbers", "ins", "outs"]
theorem Hc (T:Txt w K mg t):FO P w K mg base 4 t.Ba uR (xG K t):=by
 have sc:fV uR uR (aR (top 51)):=Nq
 refine T.Ao.F.ok sc ln (fun _ _ _ _ H vs Q E hr h=>?_)
 obtain⟨i,nm,a1,a2,a3,ns,is,os,rfl,hi,h1,h2,h3,l1,l2,l3,hv,k⟩:=h
 refine⟨_,(au (bH (d7 (J3 T) T.wZ hr (aa (pv 0) (aa (pv 1) (aa (pv 2) (aa (pv 3) (aa (pv 4) ak aj) aj) aj) aj) aj)))
  (aA (aO (d7 (LC T) T.FW hr (aa (pv 0) (aa (pv 1) (aa (pv 2) (aa (pv 3) (aa (pv 4) ak aj) aj) aj) aj) aj))))),?_⟩
 refine⟨_,rfl,_,rfl,_,rfl,_,rfl,_,rfl,i,nm,a1,a2,a3,ns,is,os,rfl,h1,h2,h3,l1,l2,l3,hv,fun H1 s1=>?_⟩
 exact⟨_,rfl,_,rfl,_,rfl,_,rfl,_,rfl,i,nm,a1,a2,a3,ns,is,os,rfl,hi,s1.seqA h1,s1.seqA h2,s1.seqA h3,fun H2 p s2 np P=>k H2 p (s1.trans s2) (s1.free np) P⟩
inductive NZ (vs:List V) (H:Hp) (Q:VK) (E:XK):Prop where
 | mk:∀a:Int,vs=[.int a]->Q (.int (a % 1000000000)) H->NZ vs H Q E
theorem Ih (T:Txt w K mg t):FO P w K mg base 1 t.QW ["number"] (NZ):=by
 have sc:=T.Dy.sc ["number"]
 refine T.Dy.F.ok sc ln (fun _ _ _ _ H vs Q E hr h=>?_)
 obtain⟨a,rfl,k⟩:=h
 refine⟨_,(aA (aO (bC cX (pv 0) (jc (by rfl) T.Jt)))),?_⟩
 exact⟨_,rfl,_,_,rfl,rfl,by show(0:Int) <1000000000;decide,k⟩
inductive uh (K:PySem.W.Frag) (t:jw) (vs:List V) (H:Hp) (Q:VK) (E:XK):Prop where
 | mk:∀i,i≠9->nC K t i vs H Q E->uh K t vs H Q E
theorem cT (T:Txt w K mg t):FO P w K mg base 1 t.cj ["self", "heads"] (uh K t):=by
 have sc:=T.bx.sc ["self", "heads"]
 refine T.bx.F.ok sc ln (fun _ _ _ _ H vs Q E hr h=>?_)
 obtain⟨i,hi,p,a,nm,ns,is,os,hs,rfl,hP,hI,hS,hH,k⟩:=h
 refine⟨_,(aA (aO (fj (Ez rfl) (by rfl) T.wG rN (aa (fj Ko (by rfl) T.mU Ru (aa (bz bO (by rfl) T.fH dB (aa (bj (pv 0) rfl) ak bF)) ak aZ)) ak aZ)))),?_⟩
 obtain⟨dx,tn,ti,to,hp,h2,h3,h4⟩:=id hP.ex
 have h3':=Gm i
 refine⟨_,rfl,p,cls t i,dx,_,.ref ti,rfl,hp,ie T i,yZ T i,uB _ _ _ _,.ref ti,is.length,rfl,.inr ⟨is,h3,rfl⟩,_,rfl,fun r hr=>⟨r,is.length,rfl,aq,by omega,fun l hl=>?_⟩⟩
 have e:(places i hs).map nV=S9 is.length:=by
  unfold places S9
  rw [if_neg hi,hH.1,hI]
  rfl
 refine k _ l ((aB hr).trans (aB hl)) ((aB hr).free hl) ?_
 rw [e]
 exact aq
theorem yW (T:Txt w K mg t):FO P w K mg base 1 t.lU ["self", "heads"] (nC K t 9):=by
 have sc:=T.jl.sc ["self", "heads"]
 refine T.jl.F.ok sc ln (fun _ _ _ _ H vs Q E hr h=>?_)
 obtain⟨p,a,nm,ns,is,os,hs,rfl,hP,hI,hS,hH,k⟩:=h
 refine⟨_,(au (bQ (fY (Dn (aV aX (pv 1) az (fun _ _=>rfl))))
   (aA (aO (bu (aa az ak ao))))
   bD)
  (aA (aO (bu (aa az (aa (bC d9 az (bC cX (aV aX (pv 1) az (fun _ _=>rfl)) az)) ak bT) ao))))),?_⟩
 have hl:sizeLine=16777216:=sizeLine_eq
 have hlen:hs.length=3:=hH.1
 match hs,hlen,hH with
 | h0:: r,hlen,hH=>
  have ea:JZ (h0:: r) 0=some h0:=aN (xs:=h0:: r) (j:=0) rfl
  rcases hH.2 h0 List.mem_cons_self with e | ⟨n,e⟩
  ·subst e
   refine⟨_,rfl,a,_,0,_,rfl,rfl,hS,ea,_,rfl,vz rfl ?_⟩
   exact⟨je,fun L hL=>k _ L (aB hL) hL aq⟩
  ·subst e
   refine⟨_,rfl,a,_,0,_,rfl,rfl,hS,ea,_,rfl,dF (by intro z;cases z) ?_⟩
   refine⟨_,rfl,a,_,0,_,rfl,rfl,hS,ea,_,_,rfl,rfl,by show(0:Int) <2;decide,_,_,rfl,rfl,je,fun L hL=>k _ L (aB hL) hL ?_⟩
   have h0:=Int.emod_nonneg n (show(2:Int)≠0 by decide)
   have e1:(1:Int)+n % 2=((1+(n % 2).toNat:Nat):Int):=by omega
   rw [aq]
   show some (HO.lst [.int 0,.int (1+n % 2)])=some (HO.lst [.int ((0:Nat):Int),.int ((1+(n % 2).toNat:Nat):Int)])
   rw [e1]
   rfl
theorem GD (T:Txt w K mg t) (i:Nat):MethAt P w K mg base Bp 1 (cls t i) "taking" (nC K t i):=match i with
 | 0=>⟨_,_,_,T.iz.c,(T.bx.me T.iz.me.2.2.1),T.bx.b,(cT T).imp fun _ _ _ _ h=>⟨_,by omega,h⟩⟩
 | 1=>⟨_,_,_,T.iJ.c,(T.bx.me T.iJ.me.2.2.1),T.bx.b,(cT T).imp fun _ _ _ _ h=>⟨_,by omega,h⟩⟩
 | 2=>⟨_,_,_,T.iu.c,(T.bx.me T.iu.me.2.2.1),T.bx.b,(cT T).imp fun _ _ _ _ h=>⟨_,by omega,h⟩⟩
 | 3=>⟨_,_,_,T.iH.c,(T.bx.me T.iH.me.2.2.1),T.bx.b,(cT T).imp fun _ _ _ _ h=>⟨_,by omega,h⟩⟩
 | 4=>⟨_,_,_,T.iC.c,(T.bx.me T.iC.me.2.2.1),T.bx.b,(cT T).imp fun _ _ _ _ h=>⟨_,by omega,h⟩⟩
 | 5=>⟨_,_,_,T.iy.c,(T.bx.me T.iy.me.2.2.1),T.bx.b,(cT T).imp fun _ _ _ _ h=>⟨_,by omega,h⟩⟩
 | 6=>⟨_,_,_,T.lE.c,(T.bx.me T.lE.me.2.2.1),T.bx.b,(cT T).imp fun _ _ _ _ h=>⟨_,by omega,h⟩⟩
 | 7=>⟨_,_,_,T.iB.c,(T.bx.me T.iB.me.2.2.1),T.bx.b,(cT T).imp fun _ _ _ _ h=>⟨_,by omega,h⟩⟩
 | 8=>⟨_,_,_,T.fK.c,(T.bx.me T.fK.me.2.2.1),T.bx.b,(cT T).imp fun _ _ _ _ h=>⟨_,by omega,h⟩⟩
 | 9=>⟨_,_,_,T.dO.c,(T.jl.me T.dO.me.2.2.1),T.jl.b,yW T⟩
 | n+10=>⟨_,_,_,T.fB.c,(T.bx.me T.fB.me.2.2.1),T.bx.b,(cT T).imp fun _ _ _ _ h=>⟨_,by omega,h⟩⟩
inductive v9 (K:PySem.W.Frag) (t:jw) (vs:List V) (H:Hp) (Q:VK) (E:XK):Prop where
 | mk:∀i,yc K t i vs H Q E->v9 K t vs H Q E
theorem cM (T:Txt w K mg t):FO P w K mg base 2 t.cu ["self", "heads"] (v9 K t):=by
 have sc:=T.bA.sc ["self", "heads", "place"]
 refine T.bA.F.ok sc ln (fun _ _ _ _ H vs Q E hr h=>?_)
 obtain⟨i,p,a,nm,ns,is,os,hs,rfl,hP,hI,hS,hH,k⟩:=h
 refine⟨_,(au (dw PassesOwn.never rfl (bM (xP (CX:=Bp) (k:=1) (E:=E0) (pv 0) (hr.mono (by decide)) gK (aa (pv 1) ak aj))) (gN sc 2)
   (aA (bQ (fY (Dn (aV aX (pv 1) (pv 2) (fun _ _=>rfl))))
    (aA (aO (pv 2)))
    bD)))
  (aA (aO wY))),?_⟩
 obtain⟨dx,tn,ti,to,hp,h2,h3,h4⟩:=id hP.ex
 refine⟨_,rfl,p,cls t i,dx,_,nC K t i,rfl,hp,rG _ _ _ _ (by decide +kernel) (by decide +kernel) (by decide +kernel) (by decide +kernel),GD T i,_,rfl,p,a,nm,ns,is,os,hs,rfl,hP,hI,hS,hH,fun H1 L s1 nL eL=>⟨L,rfl,⟨_,bJ.of eL⟩,?_⟩⟩
 refine dH (K:=K) (a:=L) (xs:=(places i hs).map nV) (fun j σ H2=>H2=H1/\∃v,σ=[some (.ref p),some (.ref a),v]/\∀q∈(places i hs).take j,tZ hs q=false)
  ⟨rfl,none,rfl,by simp⟩ (fun j σ H2 _ ⟨e,_⟩=>by rw [e];exact bJ.of eL) ?_ ?_
 ·rintro j x σ H2 hx ⟨rfl,v,rfl,hno⟩
  rw [List.getElem?_map] at hx
  obtain⟨q,hq,rfl⟩:=Option.map_eq_some_iff.mp hx
  have hlt:=jr hH q (List.mem_of_getElem? hq)
  obtain⟨hv,ev⟩:∃hv,hs[q]?=some hv:=⟨hs[q],List.getElem?_eq_getElem hlt⟩
  refine⟨_,rfl,_,rfl,a,hs,_,hv,rfl,rfl,s1.seq hS,aN ev,_,rfl,jH (fun hn=>?_) (fun hn=>?_)⟩
  ·have hn':hv=.non:=of_decide_eq_true hn
   refine⟨_,rfl,?_⟩
   have:=k H2 s1
   unfold MF at this
   rw [Nv hq hno (by unfold tZ;rw [ev,hn'];simp)] at this
   exact this
  ·have hn':¬hv=.non:=fun z=>hn (decide_eq_true z)
   refine⟨rfl,_,rfl,fun y hy=>?_⟩
   rw [List.take_add_one,hq] at hy
   rcases List.mem_append.mp hy with hy | hy
   ·exact hno y hy
   ·have e:y=q:=by simpa using hy
    subst e
    unfold tZ
    rw [ev]
    simpa using hn'
 ·rintro σ H2 ⟨rfl,v,rfl,hno⟩
  have:=k H2 s1
  unfold MF at this
  rw [lM,List.take_of_length_le (Nat.le_refl _)] at hno
  rw [U4 hno] at this
  exact this
inductive vO (K:PySem.W.Frag) (t:jw) (vs:List V) (H:Hp) (Q:VK) (E:XK):Prop where
 | mk:∀i,i≠5->uf K t i vs H Q E->vO K t vs H Q E
theorem du (T:Txt w K mg t):FO P w K mg base 1 t.cU ["self"] (vO K t):=by
 have sc:=T.bG.sc ["self"]
 refine T.bG.F.ok sc ln (fun _ _ _ _ H vs Q E hr h=>?_)
 obtain⟨i,hi,p,nm,ns,is,os,rfl,hP,hn,k⟩:=h
 refine⟨_,(aA (aO az)),?_⟩
 unfold Ie at k
 rw [if_neg hi] at k
 exact k
theorem Ey (T:Txt w K mg t):FO P w K mg base 1 t.rO ["self"] (uf K t 5):=by
 have sc:=T.mY.sc ["self"]
 refine T.mY.F.ok sc ln (fun _ _ _ _ H vs Q E hr h=>?_)
 obtain⟨p,nm,ns,is,os,rfl,hP,hn,k⟩:=h
 refine⟨_,(aA (aO (aV Mj (bj (pv 0) rfl) az (fun _ _=>rfl)))),?_⟩
 obtain⟨dx,tn,ti,to,hp,h2,h3,h4⟩:=id hP.ex
 match ns,hn with
 | v:: r,hn=>
  exact⟨_,rfl,p,cls t 5,dx,_,.ref tn,rfl,hp,ie T 5,qT T 5,qW _ _ _ _,.inr (.inl ⟨tn,_,0,v,rfl,rfl,h2,aN (xs:=v:: r) (j:=0) rfl,k⟩)⟩
theorem CT (T:Txt w K mg t):FO P w K mg base 1 t.qj ["self", "values", "kept"] (dU K t 2):=by
 have sc:=T.j4.sc ["self", "values", "kept"]
 refine T.j4.F.ok sc ln (fun _ _ _ _ H vs Q E hr h=>?_)
 obtain⟨p,a,nm,ns,is,os,ws,kp,rfl,hP,ln,hS,lw,hB,k⟩:=h
 refine⟨_,(aA (aO (bW (aa (bu (aa (bW (aa az (aa (aV aX (pv 1) az (fun _ _=>rfl)) ak aF) ao)) ak b7)) (aa (pv 2) ak aj) aU)))),?_⟩
 obtain⟨dx,tn,ti,to,hp,h2,h3,h4⟩:=id hP.ex
 match ws,lw with
 | [v],_=>
  have fin:∀H' L rs,aM H H'->H L=none->H' L=some (.lst (rs.map V.ref))->iZ H' rs (Jo (cz 2 ns [v] kp))->∀U,H' U=none->Q (.ref U) (upd H' U (.tup [.ref L,.int (gJ 2 [v] kp)])):=Di k
  exact⟨_,rfl,a,_,0,_,rfl,rfl,hS,rfl,dM,fun t0 n0=>⟨one_le,fun L nL=>⟨_,rfl,dM,fun U nU=>yJ (Q:=fun x H'=>∀U,H' U=none->Q (.ref U) (upd H' U (.tup [x,.int (gJ 2 [v] kp)]))) rfl rfl fin n0 nL U nU⟩⟩⟩
theorem Dg (T:Txt w K mg t):FO P w K mg base 1 t.qe ["self", "values", "kept"] (dU K t 3):=by
 have sc:=T.kh.sc ["self", "values", "kept"]
 refine T.kh.F.ok sc ln (fun _ _ _ _ H vs Q E hr h=>?_)
 obtain⟨p,a,nm,ns,is,os,ws,kp,rfl,hP,ln,hS,lw,hB,k⟩:=h
 refine⟨_,(aA (aO (bW (aa (bu (aa (bW (aa az (aa (aV aX (pv 1) az (fun _ _=>rfl)) ak aF) ao)) (aa (bW (aa az (aa (aV aX (pv 1) az (fun _ _=>rfl)) ak aF) ao)) ak b7) b7)) (aa (pv 2) ak aj) aU)))),?_⟩
 obtain⟨dx,tn,ti,to,hp,h2,h3,h4⟩:=id hP.ex
 match ws,lw with
 | [v],_=>
  have fin:∀H' L rs,aM H H'->H L=none->H' L=some (.lst (rs.map V.ref))->iZ H' rs (Jo (cz 3 ns [v] kp))->∀U,H' U=none->Q (.ref U) (upd H' U (.tup [.ref L,.int (gJ 3 [v] kp)])):=Di k
  exact⟨_,rfl,a,_,0,_,rfl,rfl,hS,rfl,dM,fun t0 n0=>⟨_,rfl,a,_,0,_,rfl,rfl,((aB n0).seq hS),rfl,dM,fun t1 n1=>⟨dM,fun L nL=>⟨_,rfl,dM,fun U nU=>Vh (Q:=fun x H'=>∀U,H' U=none->Q (.ref U) (upd H' U (.tup [x,.int (gJ 3 [v] kp)]))) rfl rfl rfl rfl fin n0 n1 nL U nU⟩⟩⟩⟩
theorem Dj (T:Txt w K mg t):FO P w K mg base 2 t.qz ["self", "values", "kept"] (dU K t 4):=by
 have sc:=T.j5.sc ["self", "values", "kept"]
 refine T.j5.F.ok sc ln (fun _ _ _ _ H vs Q E hr h=>?_)
 obtain⟨p,a,nm,ns,is,os,ws,kp,rfl,hP,ln,hS,lw,hB,k⟩:=h
 refine⟨_,(aA (aO (bW (aa (bu (aa (bW (aa az (aa (d7 (Ih T) T.Dy hr (aa (bC d9 (bC mO (aV Mj (bj (pv 0) rfl) az (fun _ _=>rfl)) (aV aX (pv 1) az (fun _ _=>rfl))) (aV Mj (bj (pv 0) rfl) az (fun _ _=>rfl))) ak bT)) ak aZ) ao)) ak b7)) (aa (pv 2) ak aj) aU)))),?_⟩
 obtain⟨dx,tn,ti,to,hp,h2,h3,h4⟩:=id hP.ex
 match ws,lw,ns,ln with
 | [v],_,[m,m1],_=>
  have fin:∀H' L rs,aM H H'->H L=none->H' L=some (.lst (rs.map V.ref))->iZ H' rs (Jo (cz 4 [m,m1] [v] kp))->∀U,H' U=none->Q (.ref U) (upd H' U (.tup [.ref L,.int (gJ 4 [v] kp)])):=Di k
  exact⟨_,rfl,p,cls t 4,dx,_,.ref tn,rfl,hp,ie T 4,qT T 4,qW _ _ _ _,.inr (.inl ⟨tn,_,0,_,rfl,rfl,h2,rfl,_,rfl,a,_,0,_,rfl,rfl,hS,rfl,_,_,rfl,rfl,ZK hB (by simp),_,rfl,p,cls t 4,dx,_,.ref tn,rfl,hp,ie T 4,qT T 4,qW _ _ _ _,.inr (.inl ⟨tn,_,1,_,rfl,rfl,h2,rfl,_,_,rfl,rfl,_,rfl,dM,fun t0 n0=>⟨one_le,fun L nL=>⟨_,rfl,dM,fun U nU=>yJ (Q:=fun x H'=>∀U,H' U=none->Q (.ref U) (upd H' U (.tup [x,.int (gJ 4 [v] kp)]))) rfl rfl fin n0 nL U nU⟩⟩⟩)⟩)⟩
theorem Er (T:Txt w K mg t):FO P w K mg base 2 t.qC ["self", "values", "kept"] (dU K t 5):=by
 have sc:=T.kj.sc ["self", "values", "kept", "together"]
 refine T.kj.F.ok sc ln (fun _ _ _ _ H vs Q E hr h=>?_)
 obtain⟨p,a,nm,ns,is,os,ws,kp,rfl,hP,ln,hS,lw,hB,k⟩:=h
 refine⟨_,(au (sN sc 3 (d7 (Ih T) T.Dy hr (aa (bC d9 (pv 2) (aV aX (pv 1) az (fun _ _=>rfl))) ak bT)))
  (aA (aO (bW (aa (bu (aa (bW (aa az (aa (pv 3) ak aj) ao)) ak b7)) (aa (pv 3) ak aj) aU))))),?_⟩
 obtain⟨dx,tn,ti,to,hp,h2,h3,h4⟩:=id hP.ex
 match ws,lw with
 | [v],_=>
  have fin:∀H' L rs,aM H H'->H L=none->H' L=some (.lst (rs.map V.ref))->iZ H' rs (Jo (cz 5 ns [v] kp))->∀U,H' U=none->Q (.ref U) (upd H' U (.tup [.ref L,.int (gJ 5 [v] kp)])):=Di k
  exact⟨_,rfl,_,rfl,a,_,0,_,rfl,rfl,hS,rfl,_,_,rfl,rfl,_,rfl,_,rfl,dM,fun t0 n0=>⟨one_le,fun L nL=>⟨_,rfl,dM,fun U nU=>yJ (Q:=fun x H'=>∀U,H' U=none->Q (.ref U) (upd H' U (.tup [x,.int (gJ 5 [v] kp)]))) rfl rfl fin n0 nL U nU⟩⟩⟩
theorem Eu (T:Txt w K mg t):FO P w K mg base 2 t.rm ["self", "values", "kept"] (dU K t 6):=by
 have sc:=T.mV.sc ["self", "values", "kept"]
 refine T.mV.F.ok sc ln (fun _ _ _ _ H vs Q E hr h=>?_)
 obtain⟨p,a,nm,ns,is,os,ws,kp,rfl,hP,ln,hS,lw,hB,k⟩:=h
 refine⟨_,(aA (aO (bW (aa (bu (aa (bW (aa az (aa (d7 (Ih T) T.Dy hr (aa (bC d9 (aV aX (pv 1) az (fun _ _=>rfl)) (aV aX (pv 1) az (fun _ _=>rfl))) ak bT)) ak aZ) ao)) ak b7)) (aa (pv 2) ak aj) aU)))),?_⟩
 obtain⟨dx,tn,ti,to,hp,h2,h3,h4⟩:=id hP.ex
 match ws,lw with
 | [v,v1],_=>
  have fin:∀H' L rs,aM H H'->H L=none->H' L=some (.lst (rs.map V.ref))->iZ H' rs (Jo (cz 6 ns [v,v1] kp))->∀U,H' U=none->Q (.ref U) (upd H' U (.tup [.ref L,.int (gJ 6 [v,v1] kp)])):=Di k
  exact⟨_,rfl,a,_,0,_,rfl,rfl,hS,rfl,_,rfl,a,_,1,_,rfl,rfl,hS,rfl,_,_,rfl,rfl,_,rfl,dM,fun t0 n0=>⟨one_le,fun L nL=>⟨_,rfl,dM,fun U nU=>yJ (Q:=fun x H'=>∀U,H' U=none->Q (.ref U) (upd H' U (.tup [x,.int (gJ 6 [v,v1] kp)]))) rfl rfl fin n0 nL U nU⟩⟩⟩
theorem Ck (T:Txt w K mg t):FO P w K mg base 1 t.qD ["self", "values", "kept"] (dU K t 7):=by
 have sc:=T.jZ.sc ["self", "values", "kept"]
 refine T.jZ.F.ok sc ln (fun _ _ _ _ H vs Q E hr h=>?_)
 obtain⟨p,a,nm,ns,is,os,ws,kp,rfl,hP,ln,hS,lw,hB,k⟩:=h
 refine⟨_,(aA (aO (bW (aa (bu (aa (bW (aa az (aa (oH (bc tX (aV aX (pv 1) az (fun _ _=>rfl)) (aV aX (pv 1) az (fun _ _=>rfl)) (bL _)) az az) ak Ml) ao)) ak b7)) (aa (pv 2) ak aj) aU)))),?_⟩
 obtain⟨dx,tn,ti,to,hp,h2,h3,h4⟩:=id hP.ex
 match ws,lw with
 | [v,v1],_=>
  have fin:∀H' L rs,aM H H'->H L=none->H' L=some (.lst (rs.map V.ref))->iZ H' rs (Jo (cz 7 ns [v,v1] kp))->∀U,H' U=none->Q (.ref U) (upd H' U (.tup [.ref L,.int (gJ 7 [v,v1] kp)])):=Di k
  refine⟨_,rfl,a,_,0,_,rfl,rfl,hS,rfl,_,rfl,a,_,1,_,rfl,rfl,hS,rfl,_,_,rfl,rfl,_,rfl,jH (fun h=>?_) (fun h=>?_)⟩
  ·have h':v <v1:=of_decide_eq_true h
   exact⟨dM,fun t0 n0=>⟨one_le,fun L nL=>⟨_,rfl,dM,fun U nU=>yJ (Q:=fun x H'=>∀U,H' U=none->Q (.ref U) (upd H' U (.tup [x,.int (gJ 7 [v,v1] kp)]))) rfl (by show(1:Int)=if v <v1 then 1 else 0;rw [if_pos h']) fin n0 nL U nU⟩⟩⟩
  ·have h':¬v <v1:=fun z=>h (decide_eq_true z)
   exact⟨dM,fun t0 n0=>⟨one_le,fun L nL=>⟨_,rfl,dM,fun U nU=>yJ (Q:=fun x H'=>∀U,H' U=none->Q (.ref U) (upd H' U (.tup [x,.int (gJ 7 [v,v1] kp)]))) rfl (by show(0:Int)=if v <v1 then 1 else 0;rw [if_neg h']) fin n0 nL U nU⟩⟩⟩
theorem Bf (T:Txt w K mg t):FO P w K mg base 1 t.oA ["self", "values", "kept"] (dU K t 8):=by
 have sc:=T.jy.sc ["self", "values", "kept"]
 refine T.jy.F.ok sc ln (fun _ _ _ _ H vs Q E hr h=>?_)
 obtain⟨p,a,nm,ns,is,os,ws,kp,rfl,hP,ln,hS,lw,hB,k⟩:=h
 refine⟨_,(aA (aO (bW (aa (bu (aa (bW (aa az (aa (bz (O2 rfl) (by rfl) T.YS Xm (aa (pv 1) ak aj)) ak aZ) ao)) (aa (bW (aa az (aa (bz (Oz rfl) (by rfl) T.Qm K7 (aa (pv 1) ak aj)) ak aZ) ao)) ak b7) b7)) (aa (pv 2) ak aj) aU)))),?_⟩
 obtain⟨dx,tn,ti,to,hp,h2,h3,h4⟩:=id hP.ex
 match ws,lw with
 | [v,v1],_=>
  have fin:∀H' L rs,aM H H'->H L=none->H' L=some (.lst (rs.map V.ref))->iZ H' rs (Jo (cz 8 ns [v,v1] kp))->∀U,H' U=none->Q (.ref U) (upd H' U (.tup [.ref L,.int (gJ 8 [v,v1] kp)])):=Di k
  exact⟨_,rfl,a,v,v1,rfl,hS,dM,fun t0 n0=>⟨_,rfl,a,v,v1,rfl,(aB n0).seq hS,dM,fun t1 n1=>⟨dM,fun L nL=>⟨_,rfl,dM,fun U nU=>Vh (Q:=fun x H'=>∀U,H' U=none->Q (.ref U) (upd H' U (.tup [x,.int (gJ 8 [v,v1] kp)]))) rfl rfl rfl rfl fin n0 n1 nL U nU⟩⟩⟩⟩
theorem zN (T:Txt w K mg t):FO P w K mg base 1 t.lN ["self", "values", "kept"] (dU K t 9):=by
 have sc:=T.jh.sc ["self", "values", "kept"]
 refine T.jh.F.ok sc ln (fun _ _ _ _ H vs Q E hr h=>?_)
 obtain⟨p,a,nm,ns,is,os,ws,kp,rfl,hP,ln,hS,lw,hB,k⟩:=h
 refine⟨_,(aA (aO (bW (aa (bu (aa (bW (aa az (aa (aV aX (pv 1) az (fun _ _=>rfl)) ak aF) ao)) ak b7)) (aa (pv 2) ak aj) aU)))),?_⟩
 obtain⟨dx,tn,ti,to,hp,h2,h3,h4⟩:=id hP.ex
 match ws,lw with
 | [v,v1],_=>
  have fin:∀H' L rs,aM H H'->H L=none->H' L=some (.lst (rs.map V.ref))->iZ H' rs (Jo (cz 9 ns [v,v1] kp))->∀U,H' U=none->Q (.ref U) (upd H' U (.tup [.ref L,.int (gJ 9 [v,v1] kp)])):=Di k
  exact⟨_,rfl,a,_,1,_,rfl,rfl,hS,rfl,dM,fun t0 n0=>⟨one_le,fun L nL=>⟨_,rfl,dM,fun U nU=>yJ (Q:=fun x H'=>∀U,H' U=none->Q (.ref U) (upd H' U (.tup [x,.int (gJ 9 [v,v1] kp)]))) rfl rfl fin n0 nL U nU⟩⟩⟩
theorem Bl (T:Txt w K mg t):FO P w K mg base 1 t.nH ["self", "values", "kept"] (dU K t 10):=by
 have sc:=T.jx.sc ["self", "values", "kept"]
 refine T.jx.F.ok sc ln (fun _ _ _ _ H vs Q E hr h=>?_)
 obtain⟨p,a,nm,ns,is,os,ws,kp,rfl,hP,ln,hS,lw,hB,k⟩:=h
 refine⟨_,(aA (aO (bW (aa (bu (aa (bW (aa (bC cX (aV aX (pv 1) az (fun _ _=>rfl)) az) (aa (aV aX (pv 1) az (fun _ _=>rfl)) ak aF) bT)) ak b7)) (aa (pv 2) ak aj) aU)))),?_⟩
 obtain⟨dx,tn,ti,to,hp,h2,h3,h4⟩:=id hP.ex
 match ws,lw with
 | [v,v1],_=>
  have fin:∀H' L rs,aM H H'->H L=none->H' L=some (.lst (rs.map V.ref))->iZ H' rs (Jo (cz 10 ns [v,v1] kp))->∀U,H' U=none->Q (.ref U) (upd H' U (.tup [.ref L,.int (gJ 10 [v,v1] kp)])):=Di k
  exact⟨_,rfl,a,_,0,_,rfl,rfl,hS,rfl,_,_,rfl,rfl,by show(0:Int) <2;decide,_,rfl,a,_,1,_,rfl,rfl,hS,rfl,dM,fun t0 n0=>⟨one_le,fun L nL=>⟨_,rfl,dM,fun U nU=>yJ (Q:=fun x H'=>∀U,H' U=none->Q (.ref U) (upd H' U (.tup [x,.int (gJ 10 [v,v1] kp)]))) rfl rfl fin n0 nL U nU⟩⟩⟩
theorem CP (T:Txt w K mg t):FO P w K mg base 1 t.ql ["self", "values", "kept"] (dU K t 0):=by
 have sc:=T.kI.sc ["self", "values", "kept"]
 refine T.kI.F.ok sc ln (fun _ _ _ _ H vs Q E hr h=>?_)
 obtain⟨p,a,nm,ns,is,os,ws,kp,rfl,hP,ln,hS,lw,hB,k⟩:=h
 refine⟨_,(aA (aO (bW (aa (bu (aa (bW (aa az (aa (aV aX (pv 1) az (fun _ _=>rfl)) ak aF) ao)) ak b7)) (aa (pv 2) ak aj) aU)))),?_⟩
 obtain⟨dx,tn,ti,to,hp,h2,h3,h4⟩:=id hP.ex
 match ws,lw with
 | [v],_=>
  have fin:∀H' L rs,aM H H'->H L=none->H' L=some (.lst (rs.map V.ref))->iZ H' rs (Jo (cz 0 ns [v] kp))->∀U,H' U=none->Q (.ref U) (upd H' U (.tup [.ref L,.int (gJ 0 [v] kp)])):=Di k
  exact⟨_,rfl,a,_,0,_,rfl,rfl,hS,rfl,dM,fun t0 n0=>⟨one_le,fun L nL=>⟨_,rfl,dM,fun U nU=>yJ (Q:=fun x H'=>∀U,H' U=none->Q (.ref U) (upd H' U (.tup [x,.int (gJ 0 [v] kp)]))) rfl rfl fin n0 nL U nU⟩⟩⟩
theorem CK (T:Txt w K mg t):FO P w K mg base 1 t.qi ["self", "values", "kept"] (dU K t 1):=by
 have sc:=T.kO.sc ["self", "values", "kept"]
 refine T.kO.F.ok sc ln (fun _ _ _ _ H vs Q E hr h=>?_)
 obtain⟨p,a,nm,ns,is,os,ws,kp,rfl,hP,ln,hS,lw,hB,k⟩:=h
 refine⟨_,(aA (aO (bW (aa (bu ak) (aa (pv 2) ak aj) aU)))),?_⟩
 obtain⟨dx,tn,ti,to,hp,h2,h3,h4⟩:=id hP.ex
 match ws,lw with
 | [v],_=>
  have fin:∀H' L rs,aM H H'->H L=none->H' L=some (.lst (rs.map V.ref))->iZ H' rs (Jo (cz 1 ns [v] kp))->∀U,H' U=none->Q (.ref U) (upd H' U (.tup [.ref L,.int (gJ 1 [v] kp)])):=Di k
  exact⟨by show 0<=sizeLine;decide,fun L nL=>⟨_,rfl,dM,fun U nU=>fin _ L [] (aB nL) nL aq .nil U nU⟩⟩
inductive Ag (vs:List V) (H:Hp) (Q:VK) (E:XK):Prop where
 | mk:∀a b:Int,vs=[.int a,.int b]->Q (.int (b8 a b)) H->Ag vs H Q E
theorem bw (T:Txt w K mg t):FO P w K mg base 1 t.Ek ["_law_cell_here", "_law_k"] (Ag):=by
 have sc:=T.bB.sc ["_law_cell_here", "_law_k", "_law_number"]
 refine T.bB.F.ok sc ln (fun _ _ _ _ H vs Q E hr h=>?_)
 obtain⟨a,b,rfl,k⟩:=h
 refine⟨_,(au (sN sc 2 (bC cX (bC d9 (bC d9 (bC mO (bC cX (pv 0) az) az) (bC mO az (pv 1))) az) az))
  (au (sN sc 2 (bC cX (bC mO (pv 2) (pv 2)) az))
  (aA (aO (bC cX (bC mO (bC d9 (pv 2) (bC mO az (pv 1))) (pv 2)) az))))),?_⟩
 refine⟨_,rfl,_,_,rfl,rfl,by show(0:Int) <2147483647;decide,_,_,rfl,rfl,Ip,_,rfl,_,_,rfl,rfl,lC,_,_,rfl,rfl,_,_,rfl,rfl,_,_,rfl,rfl,by show(0:Int) <2147483647;decide,?_⟩
 unfold b8 at k
 have y0:0<=(a % 2147483647 * 48271+7919 * b+11) % 2147483647:=Int.emod_nonneg _ (by decide)
 have y1:(a % 2147483647 * 48271+7919 * b+11) % 2147483647 <2147483647:=Int.emod_lt_of_pos _ (by decide)
 refine⟨_,rfl,_,rfl,_,_,rfl,rfl,.of_right (intBits_le_64 (Int.lt_of_lt_of_le (show -(2 ^ 64) <(0:Int) by decide) y0) (Int.lt_trans y1 (by decide))),_,_,rfl,rfl,by show(0:Int) <2147483629;decide,?_⟩
 have z0:0<=((a % 2147483647 * 48271+7919 * b+11) % 2147483647) * ((a % 2147483647 * 48271+7919 * b+11) % 2147483647) % 2147483629:=Int.emod_nonneg _ (by decide)
 have z1:((a % 2147483647 * 48271+7919 * b+11) % 2147483647) * ((a % 2147483647 * 48271+7919 * b+11) % 2147483647) % 2147483629 <2147483629:=Int.emod_lt_of_pos _ (by decide)
 exact⟨_,rfl,_,rfl,_,_,rfl,rfl,lC,_,_,rfl,rfl,_,rfl,_,_,rfl,rfl,.of_right (intBits_le_64 (Int.lt_of_lt_of_le (show -(2 ^ 64) <(0:Int) by decide) z0) (Int.lt_trans z1 (by decide))),_,_,rfl,rfl,by show(0:Int) <2147483587;decide,k⟩
inductive xN (K:PySem.W.Frag) (vs:List V) (H:Hp) (Q:VK) (E:XK):Prop where
 | mk:∀(a:Addr) (ns:List Int) (j:Nat),vs=[.ref a,.int (j:Nat)]->bJ K H a (ns.map V.int)->Q (.int (lD ns j)) H->xN K vs H Q E
theorem mW (T:Txt w K mg t):FO P w K mg base 1 t.Ae ["_law_script", "_law_k"] (xN K):=by
 have sc:=T.jn.sc ["_law_script", "_law_k"]
 refine T.jn.F.ok sc ln (fun _ _ _ _ H vs Q E hr h=>?_)
 obtain⟨a,ns,j,rfl,hS,k⟩:=h
 refine⟨_,(au (bQ (bc tX (pv 1) (bz bO (by rfl) T.fH dB (aa (pv 0) ak aj)) (bL _))
   (aA (aO (aV aX (pv 0) (pv 1) (fun _ _=>rfl))))
   bD)
  (aA (aO (bC d9 (bC mO az (pv 1)) az)))),?_⟩
 unfold lD at k
 refine⟨_,rfl,_,rfl,.ref a,ns.length,rfl,.inl ⟨_,hS,by simp⟩,_,_,rfl,rfl,_,rfl,jH (fun h=>?_) (fun h=>?_)⟩
 ·have h':j <ns.length:=by have:=of_decide_eq_true h;omega
  rw [List.getElem?_eq_getElem h'] at k
  exact⟨_,rfl,_,rfl,a,_,j,_,rfl,rfl,hS,aN (by rw [List.getElem?_map,List.getElem?_eq_getElem h'];rfl),k⟩
 ·have h':¬j <ns.length:=fun z=>h (decide_eq_true (by omega))
  rw [List.getElem?_eq_none (by omega)] at k
  exact⟨_,rfl,_,_,rfl,rfl,lC,_,_,rfl,rfl,k⟩
inductive wg (vs:List V) (H:Hp) (Q:VK) (E:XK):Prop where
 | mk:∀a b:Int,vs=[.int a,.int b]->Q (.int (qd a b)) H->wg vs H Q E
theorem jf (T:Txt w K mg t):FO P w K mg base 2 t.xF ["_law_cell_here", "_law_k"] (wg):=by
 have sc:=T.gB.sc ["_law_cell_here", "_law_k", "_law_number", "_law_way"]
 refine T.gB.F.ok sc ln (fun _ _ _ _ H vs Q E hr h=>?_)
 obtain⟨a,b,rfl,k⟩:=h
 refine⟨_,(au (sN sc 2 (d7 (bw T) T.bB hr (aa (pv 0) (aa (pv 1) ak aj) aj)))
  (au (sN sc 3 (bC cX (bC PQ (pv 2) az) az))
  (au (bQ (bc iG (pv 3) az (bL _))
   (aA (aO (bC cX (pv 2) az)))
   bD)
  (au (bQ (bc iG (pv 3) az (bL _))
   (aA (aO (bC cX (pv 2) (bC Sv az az))))
   bD)
  (aA (aO (bC Ib (bC Ib (bC Sv az az) az) (bC cX (pv 2) az)))))))),?_⟩
 refine⟨_,rfl,_,rfl,a,b,rfl,?_⟩
 unfold qd at k
 have n0:=Ad a b
 generalize b8 a b=n at n0 k ⊢
 refine⟨_,rfl,_,_,rfl,rfl,YX (by decide) (by decide),_,_,rfl,rfl,by show(0:Int) <3;decide,?_⟩
 refine⟨_,rfl,rfl,_,rfl,jH (fun h=>?_) (fun h=>?_)⟩
 ·have h':n / 7 % 3=0:=by simpa using of_decide_eq_true h
  rw [if_pos h'] at k
  exact⟨_,rfl,_,_,rfl,rfl,by show(0:Int) <5;decide,k⟩
 have h':¬n / 7 % 3=0:=fun z=>h (decide_eq_true (by show V.int (n / 7 % 3)=V.int 0;rw [z]))
 rw [if_neg h'] at k
 refine⟨_,rfl,rfl,_,rfl,jH (fun h2=>?_) (fun h2=>?_)⟩
 ·have h2':n / 7 % 3=1:=by simpa using of_decide_eq_true h2
  rw [if_pos h2'] at k
  exact⟨_,rfl,_,_,rfl,rfl,⟨by decide,by decide,by decide⟩,_,_,rfl,rfl,by show(0:Int) <10 ^ 9;decide,k⟩
 have h2':¬n / 7 % 3=1:=fun z=>h2 (decide_eq_true (by show V.int (n / 7 % 3)=V.int 1;rw [z]))
 rw [if_neg h2'] at k
 exact⟨_,_,rfl,rfl,⟨by decide,by decide,by decide⟩,_,_,rfl,rfl,_,rfl,_,_,rfl,rfl,by show(0:Int) <3;decide,_,_,rfl,rfl,k⟩
theorem NT {x y:Str} (h:x.cps.toList=y.cps.toList):x=y:=PyProof.Rows.ext_toList h
theorem O7 {n:Int} (h0:0<=n) (h1:n <2000):n.natAbs.log2 <1920:=by
 by_cases z:n.natAbs=0
 ·rw [z]
  decide
 ·have:n.natAbs.log2 <11:=(Nat.log2_lt z).mpr (by omega)
  omega
theorem join_ones (cs:List Nat):(Txt.join Str.empty (cs.map fun c=>(⟨#[c]⟩:Str))).cps.toList=cs:=by
 unfold Txt.join
 rw [StrLaws.glued_eq_join,Dr]
 induction cs with
 | nil=>rfl
 | cons c r ih=>simpa using ih
theorem Ws {x:Str} {n:Nat} (h:n<=x.length):(Txt.slice x none (some (n:Int))).cps.toList=x.cps.toList.take n:=by
 have e:=beq_iff_eq.mp (PyProof.Rows.slice_closes_toL (x:=x) (j:=(n:Int)) (by omega) (by omega))
 rw [e]
 simp
theorem RG {x:Str} {n:Nat} (h:n<=x.length):(Txt.slice x (some (n:Int)) none).cps.toList=x.cps.toList.drop n:=by
 have e:=PyProof.Rows.slice_from_eq (x:=x) (i:=(n:Int)) (b:=(x.length:Int)) (by omega) (by omega) rfl
 rw [e]
 show List.take ((x.length:Int) - n).toNat (List.drop ((n:Int)).toNat x.cps.toList)=_
 rw [Int.toNat_natCast,List.take_of_length_le (by rw [List.length_drop,m9];omega)]
inductive yL (vs:List V) (H:Hp) (Q:VK) (E:XK):Prop where
 | mk:∀(a:Int) (b:Nat),vs=[.int a,.int (b:Nat)]->b<=25->(∀H':Hp,aM H H'->Q (.str (cG a b)) H')->yL vs H Q E
noncomputable abbrev z7:List Str:=["_law_cell_here", "_law_k", "_law_letters", "_law_many", "_law_base", "_law_at"]
theorem mF (T:Txt w K mg t):FO P w K mg base 2 t.z6 ["_law_cell_here", "_law_k"] (yL):=by
 have sc:=T.jq.sc z7
 refine T.jq.F.ok sc ln (fun _ _ _ _ H vs Q E hr h=>?_)
 obtain⟨a,b,rfl,b1,k⟩:=h
 refine⟨_,(au (sN sc 2 bI)
  (au (bQ (bc iG (bC cX (d7 (bw T) T.bB hr (aa (pv 0) (aa az ak ao) aj)) az) az (bL _))
   (aA (aO (bC wK (aV DG (pv 2) (bC cX (d7 (bw T) T.bB hr (aa (pv 0) (aa az ak ao) aj)) az) (fun _ _=>rfl)) (fj Hy (by rfl) T.VG Q3 (aa (bC d9 (bC cX (d7 (bw T) T.bB hr (aa (pv 0) (aa az ak ao) aj)) az) (bC mO az (pv 1))) ak bT)))))
   bD)
  (au (sN sc 3 (bC cX (d7 (bw T) T.bB hr (aa (pv 0) (aa az ak ao) aj)) az))
  (au (sN sc 4 (yz PySem.F.plainAttrs_str PySem.F.slot_str_join PySem.F.type_str_join Up bI (aa (eU [0,2] z7 (aR (top 77)) rfl (jm rfl T.mU (aa (pv 3) ak aj)) (fun _ _ _ _ _=>iM) (fun _ _ _ _ _=>(aV DG (pv 2) (bC cX (d7 (bw T) T.bB hr (aa (pv 1) (aa (bC d9 az (pv 0)) ak bT) aj)) az) (fun _ _=>rfl)))) ak gP)))
  (au (sN sc 5 (bC cX (d7 (bw T) T.bB hr (aa (pv 0) (aa az ak ao) aj)) (bC d9 (pv 3) az)))
  (aA (aO (bC wK (bC wK (lK Qa (pv 4) vy (kJ (pv 5))) (aV DG (pv 2) (bC cX (bC d9 (d7 (bw T) T.bB hr (aa (pv 0) (aa az ak ao) aj)) (pv 1)) az) (fun _ _=>rfl))) (lK Qa (pv 4) (kJ (pv 5)) vy))))))))),?_⟩
 have hl:sizeLine=16777216:=sizeLine_eq
 have hF:(cG a b).cps.toList=Ar a b:=El a b
 unfold Ar at hF
 refine⟨_,rfl,_,_,rfl,⟨_,_,rfl,rfl,by show(0:Int) <3;decide,rfl,_,rfl,jH (fun hw=>?_) (fun hw=>?_)⟩⟩
 ·have hw':b8 a 52 % 3=0:=by simpa using of_decide_eq_true hw
  rw [if_pos hw'] at hF
  refine⟨_,rfl,_,rfl,_,_,rfl,?_⟩
  refine⟨_,_,rfl,rfl,by show(0:Int) <26;decide,LT,_,_,rfl,rfl,by rw [Lx];omega,QL _,?_⟩
  refine⟨_,rfl,_,_,rfl,⟨_,_,rfl,rfl,by show(0:Int) <1000;decide,_,rfl,_,_,rfl,rfl,lC,_,_,rfl,rfl,?_⟩⟩
  have q0:=Int.emod_nonneg (b8 a 54) (show(1000:Int)≠0 by decide)
  have q1:=Int.emod_lt_of_pos (b8 a 54) (show(0:Int) <1000 by decide)
  obtain⟨m,hm⟩:∃m:Nat,b8 a 54 % 1000+37 * (b:Int)=(m:Int):=⟨(b8 a 54 % 1000+37 * (b:Int)).toNat,by omega⟩
  obtain⟨_,g2,_⟩:=uZ (n:=m) (by omega)
  have g3:(toString (m:Int):Str).length<=4:=by rw [<-m9];exact g2
  have e:(⟨#[JP (b8 a 53)]⟩:Str) ++ (toString (m:Int):Str)=cG a b:=NT (by
   rw [hF,Str.cps_append,hm,Int.toNat_natCast]
   simp only [Array.toList_append]
   rfl)
  have k':=k H (aM.refl _)
  rw [<-e] at k'
  dsimp only
  rw [hm]
  exact⟨_,rfl,O7 (by omega) (by omega),_,_,rfl,rfl,by show 1+_<=sizeLine;omega,k'⟩
 have hw':¬b8 a 52 % 3=0:=fun z=>hw (decide_eq_true (by show V.int (b8 a 52 % 3)=V.int 0;rw [z]))
 rw [if_neg hw'] at hF
 refine⟨_,rfl,_,_,rfl,⟨_,_,rfl,rfl,by show(0:Int) <7;decide,?_⟩⟩
 have z0:=Int.emod_nonneg (b8 a 50) (show(7:Int)≠0 by decide)
 have z1:=Int.emod_lt_of_pos (b8 a 50) (show(0:Int) <7 by decide)
 refine⟨rfl,_,rfl,b8 a 50 % 7,rfl,by omega,by omega,?_⟩
 refine nZ (fun i ys H'=>H'=H/\ys=((List.range i).map fun j=>JP (b8 a (60+(j:Nat)))).map fun c=>V.str ⟨#[c]⟩) (by omega) ⟨rfl,rfl⟩ (fun i ys H' ⟨_,e⟩=>by rw [e,lM,lM,List.length_range];omega) ?_ ?_
 ·rintro i ys H' hi ⟨rfl,rfl⟩
  refine yes ?_
  refine⟨_,rfl,_,rfl,_,rfl,_,_,rfl,rfl,_,_,rfl,?_⟩
  refine⟨_,_,rfl,rfl,by show(0:Int) <26;decide,LT,_,_,rfl,rfl,by rw [Lx];omega,QL _,rfl,?_⟩
  rw [List.range_succ,List.map_append,List.map_append]
  simp
 rintro ys H' ⟨rfl,rfl⟩ D hD
 have eb:((List.range (b8 a 50 % 7).toNat).map fun j=>JP (b8 a (60+(j:Nat))))=gj a:=rfl
 rw [eb]
 have s1:aM H' (upd H' D (.lst ((gj a).map fun c=>V.str ⟨#[c]⟩))):=aB hD
 have bl:=(BJ a).1
 have es:((gj a).map fun c=>V.str ⟨#[c]⟩)=((gj a).map fun c=>(⟨#[c]⟩:Str)).map V.str:=by rw [List.map_map];rfl
 refine⟨Str.empty,D,(gj a).map fun c=>(⟨#[c]⟩:Str),rfl,rfl,bJ.of (by rw [<-es];exact aq),?_,?_⟩
 ·have:=RQ (n:=1) ((gj a).map fun c=>(⟨#[c]⟩:Str)) fun w h=>by
   obtain⟨c,_,rfl⟩:=List.mem_map.mp h
   exact Nat.le_refl 1
  have he:Str.empty.length=0:=rfl
  rw [he]
  rw [lM] at this
  omega
 have ej:=join_ones (gj a)
 generalize upd H' D (.lst ((gj a).map fun c=>V.str ⟨#[c]⟩))=H1 at s1 ⊢
 generalize Txt.join Str.empty ((gj a).map fun c=>(⟨#[c]⟩:Str))=x0 at ej ⊢
 have hx0:x0.length=(gj a).length:=by rw [<-m9,ej]
 refine⟨_,rfl,_,_,rfl,⟨_,rfl,_,_,rfl,rfl,_,_,rfl,rfl,by show(0:Int) <b8 a 50 % 7+1;omega,?_⟩⟩
 have hsp:=Mv a
 obtain⟨n,hn,hn2⟩:∃n:Nat,b8 a 51 % (b8 a 50 % 7+1)=(n:Int)/\n=pC a:=⟨pC a,(Int.toNat_of_nonneg (Int.emod_nonneg _ (by omega))).symm,rfl⟩
 rw [<-hn2] at hsp hF
 dsimp only
 rw [hn]
 have s0:=Txt.slice_le x0 none (some (n:Int))
 have s2:=Txt.slice_le x0 (some (n:Int)) none
 refine⟨_,rfl,_,rfl,_,rfl,x0,rfl,by omega,_,rfl,_,rfl,_,_,rfl,⟨_,rfl,_,_,rfl,rfl,?_⟩⟩
 have h1:(⟨#[JP (b8 a 55+(b:Int))]⟩:Str).length=1:=rfl
 refine⟨_,_,rfl,rfl,by show(0:Int) <26;decide,LT,_,_,rfl,rfl,by rw [Lx];omega,QL _,_,_,rfl,rfl,by rw [h1];omega,?_⟩
 refine⟨_,rfl,_,rfl,_,rfl,x0,rfl,by omega,_,_,rfl,rfl,by rw [Str.length_append,h1];omega,?_⟩
 have e:Txt.slice x0 none (some (n:Int)) ++ (⟨#[JP (b8 a 55+(b:Int))]⟩:Str) ++ Txt.slice x0 (some (n:Int)) none=cG a b:=NT (by
  rw [hF,Str.cps_append,Str.cps_append]
  simp only [Array.toList_append]
  rw [Ws (by omega),RG (by omega),ej]
  simp)
 rw [e]
 exact k H1 s1
theorem YZ (m:Int):∃c:Nat,JZ [V.int 0,.int 0,.int 0,.int 1,.int 2] (m % 5)=some (.int (c:Nat))/\c<=2:=by
 have key:∀j,j <5->JZ [V.int 0,.int 0,.int 0,.int 1,.int 2] ((j:Nat):Int)=some (.int (([0,0,0,1,2]:List Nat).getD j 0:Nat))/\([0,0,0,1,2]:List Nat).getD j 0<=2:=by decide +kernel
 obtain⟨j,e,hj⟩:=Mf m (n:=5) (k:=5) (by decide) rfl
 rw [e]
 exact⟨_,key j hj⟩
theorem XX (m:Int):∃c:Nat,JZ [V.int 0,.int 0,.int 1,.int 1,.int 2,.int 7] (m % 6)=some (.int (c:Nat))/\c<=7:=by
 have key:∀j,j <6->JZ [V.int 0,.int 0,.int 1,.int 1,.int 2,.int 7] ((j:Nat):Int)=some (.int (([0,0,1,1,2,7]:List Nat).getD j 0:Nat))/\([0,0,1,1,2,7]:List Nat).getD j 0<=7:=by decide +kernel
 obtain⟨j,e,hj⟩:=Mf m (n:=6) (k:=6) (by decide) rfl
 rw [e]
 exact⟨_,key j hj⟩
inductive xM (vs:List V) (H:Hp) (Q:VK) (E:XK):Prop where
 | mk:∀(d:Dw) (ls:List aH) (ps:List PD) (os:List Str) (c:Int) (b:Bool),vs=[.ref d.S,.int c,.bl b]->mL d H ls ps os->ls.length<=24->(∀(l:aH) (H':Hp),l.name=cG d.c3 ls.length->aM (bf d.E H) (bf d.E H')->mL d H' (ls ++ [l]) ps os->Q (.str l.name) H')->xM vs H Q E
noncomputable abbrev Aj:List Str:=["_law_state", "_law_cell_here", "_law_back", "_law_many", "_law_first", "_law_room", "_law_name"]
theorem jF (T:Txt w K mg t):FO P w K mg base 3 t.Av ["_law_state", "_law_cell_here", "_law_back"] (xM):=by
 have sc:=T.iI.sc Aj
 refine T.iI.F.ok sc ln (fun _ _ _ _ H vs Q E hr h=>?_)
 obtain⟨d,ls,ps,os,c,b,rfl,D,hn,k⟩:=h
 refine⟨_,(au (sN sc 3 (aV aX (bu (aa az (aa az (aa az (aa az (aa az ak ao) ao) ao) ao) ao)) (bC cX (d7 (bw T) T.bB hr (aa (pv 1) (aa az ak ao) aj)) az) (fun _ _=>rfl)))
  (au (gW (bQ (jX (pv 2))
   (aA (sN sc 3 (bC cX (d7 (bw T) T.bB hr (aa (pv 1) (aa az ak ao) aj)) az)))
   bD))
  (au (iD (i:=4) [1] Aj (aR (top 78)) rfl sc.nd rfl (jm rfl T.mU (aa (pv 3) ak aj)) (fun _ _ _ _ _=>iM) (fun _ _ _ _ _=>(d7 (jf T) T.gB hr (aa (pv 1) (aa (bC d9 az (pv 0)) ak bT) aj))))
  (au (sN sc 5 (bC d9 (bz (Gj rfl) (by rfl) T.Qm K7 (aa az (aa (pv 3) ak aj) ao)) (aV aX (bu (aa az (aa az (aa az (aa az (aa az (aa az ak ao) ao) ao) ao) ao) ao)) (bC cX (d7 (bw T) T.bB hr (aa (pv 1) (aa az ak ao) aj)) az) (fun _ _=>rfl))))
  (au (sN sc 6 (d7 (mF T) T.jq hr (aa (aV aX (pv 0) az (fun _ _=>rfl)) (aa (bz bO (by rfl) T.fH dB (aa (aV aX (pv 0) az (fun _ _=>rfl)) ak aF)) ak aZ) aF)))
  (au (bH (IV (aV aX (pv 0) az (fun _ _=>rfl)) (aa (bW (aa (pv 6) (aa (pv 5) (aa (pv 4) ak aj) aj) aj)) ak b7)))
  (aA (aO (pv 6))))))))),?_⟩
 have hl:sizeLine=16777216:=sizeLine_eq
 refine⟨je,fun l0 n0=>?_⟩
 have s0:=aB (o:=.lst [.int 0,.int 0,.int 0,.int 1,.int 2]) n0
 obtain⟨c0,e0,h0⟩:=YZ (b8 c 1)
 refine⟨_,rfl,_,_,rfl,_,_,rfl,rfl,by show(0:Int) <5;decide,l0,_,_,_,rfl,rfl,bJ.of aq,e0,?_⟩
 generalize upd H l0 (.lst [.int 0,.int 0,.int 0,.int 1,.int 2])=H0 at s0 ⊢
 refine⟨fun σ H1=>∃m:Nat,m<=3/\H1=H0/\σ=[some (.ref d.S),some (.int c),some (.bl b),some (.int (m:Nat)),none,none,none],?_,?_⟩
 ·cases b
  ·exact⟨_,rfl,false,rfl,cZ ⟨c0,by omega,rfl,rfl⟩⟩
  ·refine⟨_,rfl,true,rfl,iW ⟨_,rfl,_,_,rfl,_,_,rfl,rfl,by show(0:Int) <4;decide,?_⟩⟩
   have h1:=Int.emod_nonneg (b8 c 1) (show(4:Int)≠0 by decide)
   have h2:=Int.emod_lt_of_pos (b8 c 1) (show(0:Int) <4 by decide)
   refine⟨(b8 c 1 % 4).toNat,by omega,rfl,?_⟩
   rw [Int.toNat_of_nonneg h1]
   rfl
 rintro σ H1 ⟨m,hm,rfl,rfl⟩
 refine⟨_,rfl,(m:Int),rfl,by omega,by omega,?_⟩
 rw [Int.toNat_natCast]
 refine nZ (fun i ys H'=>H'=H1/\∃ws:List Int,ys=ws.map V.int/\ws.length=i/\∀v∈ws,0<=v/\v <1000000000) (by omega) ⟨rfl,[],rfl,rfl,by simp⟩ (fun i ys H' ⟨_,ws,e,e2,_⟩=>by rw [e,lM];omega) ?_ ?_
 ·rintro i ys H' hi ⟨rfl,ws,rfl,hw,hB⟩
  refine yes ⟨_,rfl,_,rfl,_,_,rfl,rfl,c,10+(0+(i:Int)),rfl,rfl,ws ++ [qd c (10+(0+(i:Int)))],by simp,by simp [hw],fun v hv=>?_⟩
  rcases List.mem_append.mp hv with hv | hv
  ·exact hB v hv
  ·rw [List.mem_singleton] at hv
   subst hv
   exact qP _ _
 rintro ys H' ⟨rfl,ws,rfl,hw,hB⟩ F nF
 have t1:=aB (o:=.lst (ws.map V.int)) nF
 have sF:=s0.trans t1
 have eF:upd H' F (.lst (ws.map V.int)) F=some (.lst (ws.map V.int)):=aq
 have oF:F∉d.E:=D.out (s0.free nF)
 generalize upd H' F (.lst (ws.map V.int))=H2 at t1 sF eF ⊢
 refine⟨_,rfl,_,_,rfl,je,fun l1 n1=>?_⟩
 have t2:=aB (o:=.lst [.int 0,.int 0,.int 1,.int 1,.int 2,.int 7]) n1
 obtain⟨c1,e1,h1⟩:=XX (b8 c 2)
 refine⟨_,rfl,_,_,rfl,_,_,rfl,rfl,by show(0:Int) <6;decide,l1,_,_,_,rfl,rfl,bJ.of aq,e1,_,_,rfl,rfl,?_⟩
 have s2:=sF.trans t2
 have eF2:=t2 _ _ eF
 generalize upd H2 l1 (.lst [.int 0,.int 0,.int 1,.int 1,.int 2,.int 7])=H3 at t2 s2 eF2 ⊢
 have D3:=D.keep s2
 obtain⟨xs,eL,aL⟩:=D3.lanes
 have xl:=aL.length
 refine⟨_,rfl,d.S,_,3,_,rfl,rfl,D3.seqS,aN (j:=3) rfl,?_⟩
 refine⟨_,rfl,d.S,_,0,_,rfl,rfl,D3.seqS,aN (j:=0) rfl,.ref d.L,ls.length,rfl,.inl ⟨_,bJ.of eL,xl.symm⟩,?_⟩
 refine⟨d.c3,ls.length,rfl,by omega,fun H4 s4=>?_⟩
 have D4:=D3.keep s4
 have eL4:=s4 _ _ eL
 have eF4:=s4 _ _ eF2
 have s04:=s2.trans s4
 refine⟨_,rfl,d.S,_,0,_,rfl,rfl,D4.seqS,aN (j:=0) rfl,?_⟩
 refine⟨.inl ⟨rfl,_,bJ.of eL4⟩,_,rfl,_,rfl,_,rfl,je,fun q nq=>?_⟩
 have t5:=aB (o:=.tup [.str (cG d.c3 ls.length),.int ((if (m:Int) >1 then(m:Int) else 1)+(c1:Int)),.ref F]) nq
 have s5:=s04.trans t5
 have D5:=D4.keep t5
 have oq:q∉d.E:=D4.out nq
 have eq:upd H4 q (.tup [.str (cG d.c3 ls.length),.int ((if (m:Int) >1 then(m:Int) else 1)+(c1:Int)),.ref F]) q=some (.tup [.str (cG d.c3 ls.length),.int ((if (m:Int) >1 then(m:Int) else 1)+(c1:Int)),.ref F]):=aq
 have eL5:=t5 _ _ eL4
 have eF5:=t5 _ _ eF4
 refine⟨d.L,xs,_,rfl,rfl,eL5,by omega,_,rfl,?_⟩
 refine k ⟨cG d.c3 ls.length,(if (m:Int) >1 then(m:Int) else 1)+(c1:Int),ws⟩ _ rfl ?_ (D5.lane ⟨q,F,rfl,cQ eq oq,cQ eF5 oF⟩ ⟨by dsimp only;split <;> omega,by dsimp only;split <;> omega,by dsimp only;split <;> omega,hB⟩ rfl eL5)
 rw [dm (by simp)]
 exact D.cut s5
theorem pop_at:∀{os:List Str} {j:Nat} (h:j <os.length),os.Perm (os[j]:: os.eraseIdx j)
 | [],_,h=>absurd h (by simp)
 | a:: l,0,_=>.refl _
 | a:: l,j+1,h=>by
  have h':j <l.length:=by simpa using h
  show(a:: l).Perm (l[j]:: a:: l.eraseIdx j)
  exact((pop_at (os:=l) (j:=j) (by simpa using h)).cons a).trans (.swap _ _ _)
theorem Gi {α β:Type} {f:α->β}:∀(l:List α) (j:Nat),(l.map f).eraseIdx j=(l.eraseIdx j).map f
 | [],_=>rfl
 | a:: l,0=>rfl
 | a:: l,j+1=>by
  show f a:: (l.map f).eraseIdx j=f a:: (l.eraseIdx j).map f
  rw [Gi l j]
theorem LK {j n:Nat} (h:j <n):seqIndex? (j:Int) n=some j:=by
 unfold seqIndex?
 have z:¬(j:Int) <0:=by omega
 simp [h,z]
inductive yH (vs:List V) (H:Hp) (Q:VK) (E:XK):Prop where
 | mk:∀(d:Dw) (ls:List aH) (ps:List PD) (os:List Str) (n:Int),vs=[.ref d.S,.int n]->mL d H ls ps os->os≠[]->os.length<=100->(∀(x:Str) (os':List Str) (H':Hp),os.Perm (x:: os')->aM (bf d.E H) (bf d.E H')->mL d H' ls ps os'->Q (.str x) H')->yH vs H Q E
theorem rH (T:Txt w K mg t):FO P w K mg base 1 t.Az ["_law_state", "_law_number"] (yH):=by
 have sc:=T.lB.sc ["_law_state", "_law_number"]
 refine T.lB.F.ok sc ln (fun _ _ _ _ H vs Q E hr h=>?_)
 obtain⟨d,ls,ps,os,n,rfl,D,hne,hs,k⟩:=h
 refine⟨_,(aA (aO (yz PySem.F.plainAttrs_list PySem.F.slot_list_pop PySem.F.type_list_pop Dk (aV aX (pv 0) az (fun _ _=>rfl)) (aa (bC cX (pv 1) (bz bO (by rfl) T.fH dB (aa (aV aX (pv 0) az (fun _ _=>rfl)) ak aF))) ak bT)))),?_⟩
 have hpos:0 <os.length:=List.length_pos_iff.mpr hne
 refine⟨_,rfl,d.S,_,2,_,rfl,rfl,D.seqS,aN (j:=2) rfl,.inl ⟨rfl,_,bJ.of D.opens⟩,?_⟩
 refine⟨_,rfl,_,rfl,d.S,_,2,_,rfl,rfl,D.seqS,aN (j:=2) rfl,.ref d.O,os.length,rfl,.inl ⟨_,bJ.of D.opens,by simp⟩,n,(os.length:Int),rfl,rfl,by omega,?_⟩
 have h0:=Int.emod_nonneg n (show(os.length:Int)≠0 by omega)
 have h1:=Int.emod_lt_of_pos n (show(0:Int) <(os.length:Int) by omega)
 obtain⟨j,hj⟩:∃j:Nat,n % (os.length:Int)=(j:Int):=⟨(n % (os.length:Int)).toNat,by omega⟩
 have hj':j <os.length:=by omega
 refine⟨d.O,_,(j:Int),j,.str os[j],rfl,by show [V.int (n % (os.length:Int))]=_;rw [hj],D.opens,by omega,by omega,by rw [lM];exact LK hj',by rw [List.getElem?_map,List.getElem?_eq_getElem hj'];rfl,?_⟩
 rw [Gi]
 exact k os[j] (os.eraseIdx j) _ (pop_at hj') (by rw [dm (by simp)];exact aM.refl _) D.open
inductive yG (vs:List V) (H:Hp) (Q:VK) (E:XK):Prop where
 | mk:∀(d:Dw) (ls:List aH) (ps:List PD) (os:List Str) (c:Int) (i:Nat) (a1 a2:Addr) (nums:List Int) (ins:List Str) (many:Nat),vs=[.ref d.S,.int c,.str (dh i),.ref a1,.ref a2,.int (many:Nat)]->mL d H ls ps os->bf d.E H a1=some (.lst (nums.map V.int))->bf d.E H a2=some (.lst (ins.map V.str))->i <11->nums.length=cN i->((∀v∈nums,0<=v/\v <1000000000))->ins.length=cI i->many=cO i->ls.length<=22->ps.length<=25->os.length<=100->(∀(newl:List aH) (H':Hp),newl.length=many->aM (bf d.E H) (bf d.E H')->mL d H' (ls ++ newl) (ps ++ [⟨i,cG d.c4 ps.length,nums,ins,newl.map (·.name)⟩]) (os ++ newl.map (·.name))->Q .non H')->yG vs H Q E
noncomputable abbrev Ai:List Str:=["_law_state", "_law_cell_here", "_law_kind", "_law_numbers", "_law_ins", "_law_many", "_law_outs"]
theorem cD (T:Txt w K mg t):FO P w K mg base 4 t.Aw ["_law_state", "_law_cell_here", "_law_kind", "_law_numbers", "_law_ins", "_law_many"] (yG):=by
 have sc:=T.cg.sc Ai
 refine T.cg.F.ok sc ln (fun _ _ _ _ H vs Q E hr h=>?_)
 obtain⟨d,ls,ps,os,c,i,a1,a2,nums,ins,many,rfl,D,e1,e2,hi,hN,hB,hI,hO,hls,hps,hos,k⟩:=h
 refine⟨_,(au (iD (i:=6) [0,1] Ai (aR (top 79)) rfl sc.nd rfl (jm rfl T.mU (aa (pv 5) ak aj)) (fun _ _ _ _ _=>iM) (fun _ _ _ _ _=>(d7 (jF T) T.iI hr (aa (pv 1) (aa (d7 (bw T) T.bB hr (aa (pv 2) (aa (bC d9 az (pv 0)) ak bT) aj)) (aa mD ak ao) aZ) aj))))
  (au (bH (IV (aV aX (pv 0) az (fun _ _=>rfl)) (aa (bW (aa (pv 2) (aa (d7 (mF T) T.jq hr (aa (aV aX (pv 0) az (fun _ _=>rfl)) (aa (bz bO (by rfl) T.fH dB (aa (aV aX (pv 0) az (fun _ _=>rfl)) ak aF)) ak aZ) aF)) (aa (pv 3) (aa (pv 4) (aa (pv 6) ak aj) aj) aj) aZ) aj)) ak b7)))
  (aA (bH (yz PySem.F.plainAttrs_list PySem.F.slot_list_extend PySem.F.type_list_extend zO (aV aX (pv 0) az (fun _ _=>rfl)) (aa (pv 6) ak aj)))))),?_⟩
 have hl:sizeLine=16777216:=sizeLine_eq
 have hm2:many<=2:=by rw [hO];exact RC i
 refine⟨_,rfl,(many:Int),rfl,by omega,by omega,?_⟩
 rw [Int.toNat_natCast]
 refine nZ (fun i ys H'=>∃newl:List aH,newl.length=i/\ys=newl.map (fun l=>V.str l.name)/\aM (bf d.E H) (bf d.E H')/\mL d H' (ls ++ newl) ps os) (by omega) ⟨[],rfl,rfl,aM.refl _,by rw [List.append_nil];exact D⟩ (fun i ys H' ⟨newl,e,e2,_⟩=>by rw [e2,lM];omega) ?_ ?_
 ·rintro j ys H' hj ⟨newl,hn,rfl,s,D'⟩
  refine yes ⟨_,rfl,_,rfl,_,rfl,_,_,rfl,rfl,c,20+(0+(j:Int)),rfl,?_⟩
  refine⟨d,ls ++ newl,ps,os,_,false,rfl,D',by rw [lP];omega,fun l H1 _ s1 D1=>?_⟩
  exact⟨newl ++ [l],by simp [hn],by simp,s.trans s1,by rw [<-List.append_assoc];exact D1⟩
 rintro ys H1 ⟨newl,hn,rfl,s1,D1⟩ F nF
 have t1:=aB (o:=.lst (newl.map fun l=>V.str l.name)) nF
 have eF:upd H1 F (.lst (newl.map fun l=>V.str l.name)) F=some (.lst ((newl.map (·.name)).map V.str)):=by rw [List.map_map];exact aq
 have oF:=D1.out nF
 have D2:=D1.keep t1
 have s2:=s1.trans (D1.cut t1)
 generalize upd H1 F (.lst (newl.map fun l=>V.str l.name))=H2 at t1 eF D2 s2 ⊢
 obtain⟨xs,eP,aP⟩:=D2.parts
 have xl:=aP.length
 refine⟨_,rfl,d.S,_,1,_,rfl,rfl,D2.seqS,aN (j:=1) rfl,.inl ⟨rfl,_,bJ.of eP⟩,?_⟩
 refine⟨_,rfl,_,rfl,d.S,_,4,_,rfl,rfl,D2.seqS,aN (j:=4) rfl,?_⟩
 refine⟨_,rfl,d.S,_,1,_,rfl,rfl,D2.seqS,aN (j:=1) rfl,.ref d.P,ps.length,rfl,.inl ⟨_,bJ.of eP,xl.symm⟩,?_⟩
 refine⟨d.c4,ps.length,rfl,by omega,fun H3 s3=>?_⟩
 have D3:=D2.keep s3
 have t3:=s2.trans (D2.cut s3)
 have eP3:=s3 _ _ eP
 have eF3:=s3 _ _ eF
 refine⟨_,rfl,_,rfl,_,rfl,je,fun q nq=>?_⟩
 have s4:=aB (o:=.tup [.str (dh i),.str (cG d.c4 ps.length),.ref a1,.ref a2,.ref F]) nq
 have D4:=D3.keep s4
 have t4:=t3.trans (D3.cut s4)
 have eP4:=s4 _ _ eP3
 have eF4:=s4 _ _ eF3
 have oq:=D3.out nq
 have eq:upd H3 q (.tup [.str (dh i),.str (cG d.c4 ps.length),.ref a1,.ref a2,.ref F]) q=some (.tup [.str (dh i),.str (cG d.c4 ps.length),.ref a1,.ref a2,.ref F]):=aq
 refine⟨d.P,xs,_,rfl,rfl,eP4,by omega,?_⟩
 generalize upd H3 q (.tup [.str (dh i),.str (cG d.c4 ps.length),.ref a1,.ref a2,.ref F])=H4 at s4 D4 t4 eP4 eF4 eq ⊢
 have D5:=D4.part (p:=⟨i,cG d.c4 ps.length,nums,ins,newl.map (·.name)⟩) ⟨q,a1,a2,F,rfl,cQ eq oq,t4 _ _ e1,t4 _ _ e2,cQ eF4 oF⟩ ⟨hi,hN,hI,by show(newl.map _).length=_;rw [lM,hn];exact hO,hB⟩ rfl eP4
 have hcu:bf d.E (upd H4 d.P (.lst (xs ++ [.ref q])))=bf d.E H4:=dm (by simp)
 have eF5:upd H4 d.P (.lst (xs ++ [.ref q])) F=some (.lst ((newl.map (·.name)).map V.str)):=by rw [aK (fun z=>oF (by rw [z];simp))];exact eF4
 generalize upd H4 d.P (.lst (xs ++ [.ref q]))=H5 at D5 hcu eF5 ⊢
 refine⟨_,rfl,d.S,_,2,_,rfl,rfl,D5.seqS,aN (j:=2) rfl,.inl ⟨rfl,_,bJ.of D5.opens⟩,?_⟩
 refine⟨_,rfl,d.O,F,_,_,rfl,rfl,D5.opens,eF5,by rw [lM,lM,lM];omega,?_⟩
 rw [<-List.map_append]
 exact k newl _ hn (by rw [dm (by simp),hcu];exact t4) D5.open
theorem Yq (m:Int):∃i:Nat,JZ [V.str "add",V.str "less"] (m % 2)=some (.str (dh i))/\(i=6∨i=7):=by
 have h0:=Int.emod_nonneg m (show(2:Int)≠0 by decide)
 have h1:=Int.emod_lt_of_pos m (show(0:Int) <2 by decide)
 have:m % 2=0∨m % 2=1:=by omega
 rcases this with e | e <;> rw [e]
 ·exact⟨6,rfl,.inl rfl⟩
 ·exact⟨7,rfl,.inr rfl⟩
theorem VJ {one other:Str} {os os1:List Str} (h:os.Perm (other:: os1)):(one:: os).Perm ([one,other] ++ os1):=h.cons one
inductive zV (vs:List V) (H:Hp) (Q:VK) (E:XK):Prop where
 | mk:∀(d:Dw) (ls:List aH) (ps:List PD) (os:List Str) (c:Int) (one:Str) (back:List Str),vs=[.ref d.S,.int c,.str one,.bl false]->mL d H ls ps os->Drawn.WF (uQ ls ps (one:: os) back)->os≠[]->os.length<=3->ls.length<=20->ps.length<=22->(∀ls' ps' os' H',Zv d H H' ls ps back ls' ps' os'->Q .non H')->zV vs H Q E
theorem JG (T:Txt w K mg t):FO P w K mg base 5 t.DW ["_law_state", "_law_cell_here", "_law_one", "_law_odd"] (zV):=by
 have sc:=T.wU.sc ["_law_state", "_law_cell_here", "_law_one", "_law_odd", "_law_other", "_law_way", "_law_third"]
 refine T.wU.F.ok sc ln (fun _ _ _ _ H vs Q E hr h=>?_)
 obtain⟨d,ls,ps,os,c,one,back,rfl,D,w,hne,ho,hls,hps,k⟩:=h
 refine⟨_,(au (sN sc 4 (d7 (rH T) T.lB hr (aa (pv 0) (aa (d7 (bw T) T.bB hr (aa (pv 1) (aa az ak ao) aj)) ak aZ) aj)))
  (au (sN sc 5 (bC cX (d7 (bw T) T.bB hr (aa (pv 1) (aa az ak ao) aj)) az))
  (aA (gW (bQ (PW.pt (uF (jX (pv 3)) (uF (bc tX (pv 5) az (bL _)) (rR (bc Mz (bz bO (by rfl) T.fH dB (aa (aV aX (pv 0) az (fun _ _=>rfl)) ak aF)) az (bL _))))))
   (au (sN sc 6 (d7 (rH T) T.lB hr (aa (pv 0) (aa (d7 (bw T) T.bB hr (aa (pv 1) (aa az ak ao) aj)) ak aZ) aj)))
   (aA (bH (d7 (cD T) T.cg hr (aa (pv 0) (aa (pv 1) (aa bI (aa (bu ak) (aa (bu (aa (pv 2) (aa (pv 4) (aa (pv 6) ak aj) aj) aj)) (aa az ak ao) aU) aU) ao) aj) aj)))))
   (aA (gW (bQ (PW.pt (uF (jX (pv 3)) (rR (bc tX (pv 5) az (bL _)))))
    (aA (bH (d7 (cD T) T.cg hr (aa (pv 0) (aa (pv 1) (aa bI (aa (bu ak) (aa (bu (aa (pv 2) (aa (pv 4) ak aj) aj)) (aa az ak ao) aU) aU) ao) aj) aj))))
    (aA (gW (bQ (bc iG (bC cX (pv 5) az) az (bL _))
     (aA (bH (d7 (cD T) T.cg hr (aa (pv 0) (aa (pv 1) (aa bI (aa (bu ak) (aa (bu (aa (pv 2) (aa (pv 4) ak aj) aj)) (aa az ak ao) aU) aU) ao) aj) aj))))
     (aA (bH (d7 (cD T) T.cg hr (aa (pv 0) (aa (pv 1) (aa (aV aX (bu (aa bI (aa bI ak ao) ao)) (bC cX (pv 5) az) (fun _ _=>rfl)) (aa (bu ak) (aa (bu (aa (pv 2) (aa (pv 4) ak aj) aj)) (aa az ak ao) aU) aU) aF) aj) aj))))))))))))))),?_⟩
 have hl:sizeLine=16777216:=sizeLine_eq
 refine⟨_,rfl,_,rfl,_,_,rfl,d,ls,ps,os,_,rfl,D,hne,by omega,fun other os1 H1 p1 s1 D1=>?_⟩
 have l1:=p1.length_eq
 rw [List.length_cons] at l1
 refine⟨_,rfl,_,_,rfl,_,_,rfl,rfl,by show(0:Int) <6;decide,?_⟩
 refine⟨fun _ H'=>Q .non H',?_,fun _ _ h=>h⟩
 have fin:∀{i:Nat} {nm:Str} {newl:List aH} {ins os2:List Str} {H':Hp},aM (bf d.E H) (bf d.E H')->mL d H' (ls ++ newl) (ps ++ [⟨i,nm,[],ins,newl.map (·.name)⟩]) (os2 ++ newl.map (·.name))->(one:: os).Perm (ins ++ os2)->newl.length≠0->newl.length<=2->os2.length+newl.length<=4->i <9->Q .non H':=fun s DD hp h1 h2 h4 h9=>
  k _ _ _ _ ⟨s,DD,qL w rfl DD hp h1 (by rw [lP];omega),by rw [lP,lM];omega,by rw [lP,lM];omega,by rw [lP];omega,by rw [lP,List.length_singleton];omega,fun c=>c.app h9⟩
 refine⟨_,rfl,false,rfl,cZ (cZ ?_)⟩
 refine⟨fun _ H'=>Q .non H',?_,fun _ _ h=>h⟩
 refine⟨_,rfl,false,rfl,cZ (cZ ?_)⟩
 refine⟨fun _ H'=>Q .non H',?_,fun _ _ h=>h⟩
 refine⟨_,rfl,_,_,rfl,rfl,by show(0:Int) <3;decide,rfl,_,rfl,jH (fun _=>?_) (fun _=>?_)⟩
 ·refine⟨_,rfl,_,rfl,je,fun a1 n1=>⟨_,rfl,_,rfl,je,fun a2 n2=>?_⟩⟩
  obtain⟨D9,z1,z2,z3⟩:=D1.two n1 n2 (y:=.lst [.str one,.str other])
  refine⟨d,_,_,os1,_,8,a1,a2,[],[one,other],2,rfl,D9,z1,z2,by omega,rfl,by simp,rfl,rfl,by omega,by omega,by omega,fun newl H8 hn s8 D8=>?_⟩
  exact fin (s1.trans (z3.trans s8)) D8 (VJ p1) (by omega) (by omega) (by omega) (by omega)
 ·refine⟨_,rfl,_,rfl,je,fun a0 n0=>?_⟩
  have s0:=aB (o:=.lst [.str "add",.str "less"]) n0
  have D0:=D1.keep s0
  have c0:=D1.cut s0
  refine⟨_,rfl,_,_,rfl,rfl,by show(0:Int) <2;decide,?_⟩
  obtain⟨i,ei,hi⟩:=Yq (b8 c 6 % 6)
  refine⟨a0,_,_,_,rfl,rfl,bJ.of aq,ei,?_⟩
  generalize upd H1 a0 (.lst [.str "add",.str "less"])=H0 at s0 D0 c0 ⊢
  have hN:([]:List Int).length=cN i:=by rcases hi with rfl | rfl <;> rfl
  have hI:[one,other].length=cI i:=by rcases hi with rfl | rfl <;> rfl
  have hO:1=cO i:=by rcases hi with rfl | rfl <;> rfl
  refine⟨je,fun a1 n1=>⟨_,rfl,_,rfl,je,fun a2 n2=>?_⟩⟩
  obtain⟨D9,z1,z2,z3⟩:=D0.two n1 n2 (y:=.lst [.str one,.str other])
  refine⟨d,_,_,os1,_,i,a1,a2,[],[one,other],1,rfl,D9,z1,z2,by omega,hN,by simp,hI,hO,by omega,by omega,by omega,fun newl H8 hn s8 D8=>?_⟩
  exact fin (s1.trans (c0.trans (z3.trans s8))) D8 (VJ p1) (by omega) (by omega) (by omega) (by omega)
inductive xV (vs:List V) (H:Hp) (Q:VK) (E:XK):Prop where
 | mk:∀(d:Dw) (ls:List aH) (ps:List PD) (os:List Str) (c:Int) (one:Str) (back:List Str),vs=[.ref d.S,.int c,.str one]->mL d H ls ps os->Drawn.WF (uQ ls ps (one:: os) back)->os.length<=3->ls.length<=20->ps.length<=22->(∀ls' ps' os' H',Zv d H H' ls ps back ls' ps' os'->Q .non H')->xV vs H Q E
theorem Ht (T:Txt w K mg t):FO P w K mg base 4 t.zR ["_law_state", "_law_cell_here", "_law_one"] (xV):=by
 have sc:=T.uc.sc ["_law_state", "_law_cell_here", "_law_one", "_law_own", "_law_fresh"]
 refine T.uc.F.ok sc ln (fun _ _ _ _ H vs Q E hr h=>?_)
 obtain⟨d,ls,ps,os,c,one,back,rfl,D,w,ho,hls,hps,k⟩:=h
 refine⟨_,(au (sN sc 3 (d7 (jF T) T.iI hr (aa (pv 0) (aa (d7 (bw T) T.bB hr (aa (pv 1) (aa az ak ao) aj)) (aa mD ak ao) aZ) aj)))
  (au (sN sc 4 (d7 (jF T) T.iI hr (aa (pv 0) (aa (d7 (bw T) T.bB hr (aa (pv 1) (aa az ak ao) aj)) (aa mD ak ao) aZ) aj)))
  (au (bH (IV (aV aX (pv 0) az (fun _ _=>rfl)) (aa (bW (aa bI (aa (d7 (mF T) T.jq hr (aa (aV aX (pv 0) az (fun _ _=>rfl)) (aa (bz bO (by rfl) T.fH dB (aa (aV aX (pv 0) az (fun _ _=>rfl)) ak aF)) ak aZ) aF)) (aa (bu ak) (aa (bu (aa (pv 2) (aa (pv 3) ak aj) aj)) (aa (bu (aa (pv 3) (aa (pv 4) ak aj) aj)) ak aU) aU) aU) aZ) ao)) ak b7)))
  (aA (bH (IV (aV aX (pv 0) az (fun _ _=>rfl)) (aa (pv 4) ak aj))))))),?_⟩
 have hl:sizeLine=16777216:=sizeLine_eq
 refine⟨_,rfl,_,rfl,_,_,rfl,d,ls,ps,os,_,true,rfl,D,by omega,fun l1 H1 e1 s1 D1=>?_⟩
 refine⟨_,rfl,_,rfl,_,_,rfl,d,ls ++ [l1],ps,os,_,false,rfl,D1,by rw [lP,List.length_singleton];omega,fun l2 H2 e2 s2 D2=>?_⟩
 have s12:=s1.trans s2
 obtain⟨xs,eP,aP⟩:=D2.parts
 have xl:=aP.length
 refine⟨_,rfl,d.S,_,1,_,rfl,rfl,D2.seqS,aN (j:=1) rfl,.inl ⟨rfl,_,bJ.of eP⟩,?_⟩
 refine⟨_,rfl,d.S,_,4,_,rfl,rfl,D2.seqS,aN (j:=4) rfl,?_⟩
 refine⟨_,rfl,d.S,_,1,_,rfl,rfl,D2.seqS,aN (j:=1) rfl,.ref d.P,ps.length,rfl,.inl ⟨_,bJ.of eP,xl.symm⟩,?_⟩
 refine⟨d.c4,ps.length,rfl,by omega,fun H3 s3=>?_⟩
 have D3:=D2.keep s3
 have c3:=s12.trans (D2.cut s3)
 have eP3:=s3 _ _ eP
 refine⟨je,fun a1 n1=>⟨_,rfl,_,rfl,je,fun a2 n2=>⟨_,rfl,_,rfl,je,fun a3 n3=>⟨je,fun q nq=>?_⟩⟩⟩⟩
 obtain⟨D4,z1,z2,z3⟩:=D3.two n1 n2 (y:=.lst [.str one,.str l1.name])
 have t4:aM H3 (upd (upd H3 a1 (.lst [])) a2 (.lst [.str one,.str l1.name])):=(aB n1).trans (aB n2)
 have eP4:=t4 _ _ eP3
 generalize upd (upd H3 a1 (.lst [])) a2 (.lst [.str one,.str l1.name])=H4 at D4 z1 z2 z3 t4 eP4 n3 nq ⊢
 obtain⟨D5,y1,y2,y3⟩:=D4.two n3 nq (y:=.tup [.str "order",.str (cG d.c4 ps.length),.ref a1,.ref a2,.ref a3])
 have t5:aM H4 (upd (upd H4 a3 (.lst [.str l1.name,.str l2.name])) q (.tup [.str "order",.str (cG d.c4 ps.length),.ref a1,.ref a2,.ref a3])):=(aB n3).trans (aB nq)
 have eP5:=t5 _ _ eP4
 generalize upd (upd H4 a3 (.lst [.str l1.name,.str l2.name])) q (.tup [.str "order",.str (cG d.c4 ps.length),.ref a1,.ref a2,.ref a3])=H5 at D5 y1 y2 y3 t5 eP5 ⊢
 have c5:=c3.trans (z3.trans y3)
 refine⟨d.P,xs,_,rfl,rfl,eP5,by omega,?_⟩
 have D6:=D5.part (p:=⟨8,cG d.c4 ps.length,[],[one,l1.name],[l1.name,l2.name]⟩) ⟨q,a1,a2,a3,rfl,y2,y3 _ _ z1,y3 _ _ z2,y1⟩ ⟨by show 8 <11;omega,rfl,rfl,rfl,by simp⟩ rfl eP5
 have c6:bf d.E (upd H5 d.P (.lst (xs ++ [.ref q])))=bf d.E H5:=dm (by simp)
 generalize upd H5 d.P (.lst (xs ++ [.ref q]))=H6 at D6 c6 ⊢
 refine⟨_,rfl,d.S,_,2,_,rfl,rfl,D6.seqS,aN (j:=2) rfl,.inl ⟨rfl,_,bJ.of D6.opens⟩,_,rfl,d.O,_,_,rfl,rfl,D6.opens,by rw [lM];omega,?_⟩
 have D7:=D6.open (os':=os ++ [l2.name])
 rw [List.map_append] at D7
 have nd:=D7.nod (by rw [lP,lP,List.length_singleton,List.length_singleton];omega)
 have wl:=w.loop (p:=⟨8,cG d.c4 ps.length,[],[one,l1.name],[l1.name,l2.name]⟩) (rest:=os) (one:=one) (own:=l1.name) (fresh:=l2.name) rfl rfl (.refl _) (by simpa using nd)
 refine k _ _ _ _ ⟨by rw [dm (by simp),c6];exact c5,D7,by simpa [uQ] using wl,by rw [lP,List.length_singleton];omega,by rw [lP,List.length_singleton];omega,by simp,by simp,fun c=>c.app (by show 8 <9;omega)⟩
inductive yF (vs:List V) (H:Hp) (Q:VK) (E:XK):Prop where
 | mk:∀(d:Dw) (ls:List aH) (ps:List PD) (os:List Str) (c:Int) (back:List Str),vs=[.ref d.S,.int c,.bl false]->mL d H ls ps os->Drawn.WF (uQ ls ps os back)->os≠[]->os.length<=4->ls.length<=20->ps.length<=22->(∀ls' ps' os' H',Zv d H H' ls ps back ls' ps' os'->Q .non H')->yF vs H Q E
theorem HJ (T:Txt w K mg t):FO P w K mg base 6 t.Aa ["_law_state", "_law_cell_here", "_law_odd"] (yF):=by
 have sc:=T.tY.sc ["_law_state", "_law_cell_here", "_law_odd", "_law_way", "_law_one"]
 refine T.tY.F.ok sc ln (fun _ _ _ _ H vs Q E hr h=>?_)
 obtain⟨d,ls,ps,os,c,back,rfl,D,w,hne,ho,hls,hps,k⟩:=h
 refine⟨_,(au (sN sc 3 (bC cX (d7 (bw T) T.bB hr (aa (pv 1) (aa az ak ao) aj)) az))
  (au (sN sc 4 (d7 (rH T) T.lB hr (aa (pv 0) (aa (d7 (bw T) T.bB hr (aa (pv 1) (aa az ak ao) aj)) ak aZ) aj)))
  (aA (gW (bQ (PW.pt (uF (bc tX (pv 3) az (bL _)) (rR (bc tX (bz bO (by rfl) T.fH dB (aa (aV aX (pv 0) az (fun _ _=>rfl)) ak aF)) az (bL _)))))
   (aA (bH (d7 (cD T) T.cg hr (aa (pv 0) (aa (pv 1) (aa bI (aa (bu ak) (aa (bu (aa (pv 4) ak aj)) (aa az ak ao) aU) aU) ao) aj) aj))))
   (aA (gW (bQ (bc iG (pv 3) az (bL _))
    (au (bH (d7 (cD T) T.cg hr (aa (pv 0) (aa (pv 1) (aa bI (aa (bu ak) (aa (bu (aa (pv 4) ak aj)) (aa az ak ao) aU) aU) ao) aj) aj)))
    (aA (bH (d7 (cD T) T.cg hr (aa (pv 0) (aa (pv 1) (aa bI (aa (bu ak) (aa (bu (aa (Kz PySem.F.plainAttrs_list PySem.F.slot_list_pop PySem.F.type_list_pop Lz (aV aX (pv 0) az (fun _ _=>rfl))) ak aZ)) (aa az ak ao) aU) aU) ao) aj) aj)))))
    (aA (gW (bQ (PW.pt (uF (bc tX (pv 3) az (bL _)) (rR (bc Mz (bz bO (by rfl) T.fH dB (aa (aV aX (pv 0) az (fun _ _=>rfl)) ak aF)) az (bL _)))))
     (aA (bH (d7 (JG T) T.wU hr (aa (pv 0) (aa (pv 1) (aa (pv 4) (aa (pv 2) ak aj) aj) aj) aj))))
     (aA (gW (bQ (bc tX (pv 3) az (bL _))
      (aA (bH (d7 (cD T) T.cg hr (aa (pv 0) (aa (pv 1) (aa bI (aa (bu (aa (d7 (jf T) T.gB hr (aa (pv 1) (aa az ak ao) aj)) (aa (d7 (jf T) T.gB hr (aa (pv 1) (aa az ak ao) aj)) ak aZ) aZ)) (aa (bu (aa (pv 4) ak aj)) (aa az ak ao) aU) aU) ao) aj) aj))))
      (aA (gW (bQ (bc iG (pv 3) az (bL _))
       (aA (bH (d7 (cD T) T.cg hr (aa (pv 0) (aa (pv 1) (aa bI (aa (bu (aa (d7 (jf T) T.gB hr (aa (pv 1) (aa az ak ao) aj)) ak aZ)) (aa (bu (aa (pv 4) ak aj)) (aa az ak ao) aU) aU) ao) aj) aj))))
       (aA (gW (bQ (bc iG (bC cX (d7 (bw T) T.bB hr (aa (pv 1) (aa az ak ao) aj)) az) az (bL _))
        (aA (bH (d7 (Ht T) T.uc hr (aa (pv 0) (aa (pv 1) (aa (pv 4) ak aj) aj) aj))))
        (aA (bH (d7 (cD T) T.cg hr (aa (pv 0) (aa (pv 1) (aa bI (aa (bu ak) (aa (bu (aa (pv 4) ak aj)) (aa az ak ao) aU) aU) ao) aj) aj)))))))))))))))))))))))),?_⟩
 have hl:sizeLine=16777216:=sizeLine_eq
 refine⟨_,rfl,_,_,rfl,_,_,rfl,rfl,by show(0:Int) <9;decide,?_⟩
 refine⟨_,rfl,_,rfl,_,_,rfl,d,ls,ps,os,_,rfl,D,hne,by omega,fun one os1 H1 p1 s1 D1=>?_⟩
 have w1:Drawn.WF (uQ ls ps (one:: os1) back):=Xl w p1
 have lo:=p1.length_eq
 rw [List.length_cons] at lo
 have fin:∀{i:Nat} {nm:Str} {nums:List Int} {newl:List aH} {ins os2:List Str} {H':Hp},aM (bf d.E H) (bf d.E H')->mL d H' (ls ++ newl) (ps ++ [⟨i,nm,nums,ins,newl.map (·.name)⟩]) (os2 ++ newl.map (·.name))->(one:: os1).Perm (ins ++ os2)->newl.length≠0->newl.length<=2->os2.length+newl.length<=4->i <9->Q .non H':=fun s DD hp h1 h2 h4 h9=>
  k _ _ _ _ ⟨s,DD,qL w1 rfl DD hp h1 (by rw [lP];omega),by rw [lP,lM];omega,by rw [lP,lM];omega,by rw [lP];omega,by rw [lP,List.length_singleton];omega,fun c=>c.app h9⟩
 refine⟨fun _ H'=>Q .non H',?_,fun _ _ h=>h⟩
 refine⟨_,rfl,_,_,rfl,rfl,_,rfl,Ju ?_ (fun h2 b=>?_) (fun b=>b)⟩
 ·refine⟨fun _ H'=>Q .non H',?_,fun _ _ h=>h⟩
  refine⟨_,rfl,rfl,_,rfl,jH (fun _=>?_) (fun _=>?_)⟩
  ·refine⟨_,rfl,_,rfl,je,fun a1 n1=>⟨_,rfl,je,fun a2 n2=>?_⟩⟩
   obtain⟨D9,z1,z2,z3⟩:=D1.two n1 n2 (y:=.lst [.str one])
   refine⟨d,_,_,os1,_,3,a1,a2,[],[one],2,rfl,D9,z1,z2,by omega,rfl,by simp,rfl,rfl,by omega,by omega,by omega,fun newl H8 hn s8 D8=>?_⟩
   obtain⟨l1,l2,rfl⟩:∃l1 l2,newl=[l1,l2]:=by
    match newl,hn with
    | [x,y],_=>exact⟨x,y,rfl⟩
   have w8:=qL w1 rfl D8 (.refl _) (by simp) (by simp;omega)
   have s18:=s1.trans (z3.trans s8)
   clear D9 z1 z2 z3 n1 n2 s8
   refine⟨_,rfl,_,rfl,je,fun a3 n3=>?_⟩
   have s3:=aB (o:=.lst []) n3
   have D3:=D8.keep s3
   have c3:=s18.trans (D8.cut s3)
   have o3:=D8.out n3
   have e3:upd H8 a3 (.lst []) a3=some (.lst ([]:List V)):=aq
   generalize upd H8 a3 (.lst [])=H3 at s3 D3 c3 e3 ⊢
   have eo:((os1 ++ [l1,l2].map (·.name)).map V.str)=((os1 ++ [l1.name]).map V.str) ++ [.str l2.name]:=by simp
   have hop:=D3.opens
   rw [eo] at hop
   refine⟨_,rfl,d.S,_,2,_,rfl,rfl,D3.seqS,aN (j:=2) rfl,.inl ⟨rfl,_,bJ.of D3.opens⟩,d.O,_,.str l2.name,rfl,rfl,hop,by rw [lP,List.length_singleton,Nat.add_sub_cancel];exact List.getElem?_concat_length,?_⟩
   rw [List.dropLast_concat]
   have D4:=D3.open (os':=os1 ++ [l1.name])
   have c4:bf d.E (upd H3 d.O (.lst ((os1 ++ [l1.name]).map V.str)))=bf d.E H3:=dm (by simp)
   have e4:=cQ e3 o3
   generalize upd H3 d.O (.lst ((os1 ++ [l1.name]).map V.str))=H4 at D4 c4 ⊢
   refine⟨je,fun a4 n4=>?_⟩
   have s5:=aB (o:=.lst [.str l2.name]) n4
   have D5:=D4.keep s5
   have c5:=D4.cut s5
   rw [c4] at c5
   have e5:=cQ (E:=d.E) (H:=upd H4 a4 (.lst [.str l2.name])) aq (D4.out n4)
   refine⟨d,ls ++ [l1,l2],_,os1 ++ [l1.name],_,1,a3,a4,[],[l2.name],0,rfl,D5,c5 _ _ e4,e5,by omega,rfl,by simp,rfl,rfl,by simp;omega,by simp;omega,by simp;omega,fun newl2 H9 hn2 s9 D9=>?_⟩
   have hz:newl2=[]:=List.length_eq_zero_iff.mp hn2
   subst hz
   have wt:=w8.take (p:=⟨1,cG d.c4 (ps ++ [(⟨3,cG d.c4 ps.length,[],[one],[l1,l2].map (·.name)⟩:PD)]).length,[],[l2.name],[]⟩) (rest:=os1 ++ [l1.name]) (y:=l2.name) (x:=l1.name) rfl rfl (by
     show(os1 ++ [l1.name,l2.name]).Perm (l2.name:: (os1 ++ [l1.name]))
     rw [show os1 ++ [l1.name,l2.name]=(os1 ++ [l1.name]) ++ [l2.name] by simp]
     exact List.perm_append_comm) (by simp) (Drawn.jd.part (p:=⟨3,cG d.c4 ps.length,[],[one],[l1,l2].map (·.name)⟩) (by simp) (by simp) (by simp))
   rw [List.map_nil,List.append_nil,List.append_nil] at D9
   exact k _ _ _ _ ⟨c3.trans (c5.trans s9),D9,wt,by simp,by simp;omega,by simp,by simp,fun c=>(c.app (by show 3 <9;omega)).app (by show 1 <9;omega)⟩
  ·refine⟨fun _ H'=>Q .non H',?_,fun _ _ h=>h⟩
   refine⟨_,rfl,_,_,rfl,rfl,_,rfl,Ju ?_ (fun h2 b=>?_) (fun b=>b)⟩
   ·refine⟨fun _ H'=>Q .non H',?_,fun _ _ h=>h⟩
    refine⟨_,rfl,_,_,rfl,rfl,_,rfl,jH (fun _=>?_) (fun _=>?_)⟩
    ·refine⟨_,rfl,_,rfl,_,rfl,c,8,rfl,_,rfl,c,9,rfl,je,fun a1 n1=>⟨_,rfl,je,fun a2 n2=>?_⟩⟩
     obtain⟨D9,z1,z2,z3⟩:=D1.two n1 n2 (y:=.lst [.str one])
     refine⟨d,_,_,os1,_,4,a1,a2,[qd c 8,qd c 9],[one],1,rfl,D9,z1,z2,by omega,rfl,?_,rfl,rfl,by omega,by omega,by omega,fun newl H8 hn s8 D8=>?_⟩
     ·intro v hv
      rcases List.mem_cons.mp hv with rfl | hv
      ·exact qP _ _
      ·rw [List.mem_singleton] at hv
       subst hv
       exact qP _ _
     exact fin (s1.trans (z3.trans s8)) D8 (.refl _) (by omega) (by omega) (by omega) (by omega)
    ·refine⟨fun _ H'=>Q .non H',?_,fun _ _ h=>h⟩
     refine⟨_,rfl,rfl,_,rfl,jH (fun _=>?_) (fun _=>?_)⟩
     ·refine⟨_,rfl,_,rfl,_,rfl,c,8,rfl,je,fun a1 n1=>⟨_,rfl,je,fun a2 n2=>?_⟩⟩
      obtain⟨D9,z1,z2,z3⟩:=D1.two n1 n2 (y:=.lst [.str one])
      refine⟨d,_,_,os1,_,5,a1,a2,[qd c 8],[one],1,rfl,D9,z1,z2,by omega,rfl,?_,rfl,rfl,by omega,by omega,by omega,fun newl H8 hn s8 D8=>?_⟩
      ·intro v hv
       rw [List.mem_singleton] at hv
       subst hv
       exact qP _ _
      exact fin (s1.trans (z3.trans s8)) D8 (.refl _) (by omega) (by omega) (by omega) (by omega)
     ·refine⟨fun _ H'=>Q .non H',?_,fun _ _ h=>h⟩
      refine⟨_,rfl,_,_,rfl,_,_,rfl,rfl,by show(0:Int) <2;decide,rfl,_,rfl,jH (fun _=>?_) (fun _=>?_)⟩
      ·exact⟨_,rfl,_,rfl,_,rfl,d,ls,ps,os1,c,one,back,rfl,D1,w1,by omega,hls,hps,fun ls' ps' os' H' X=>k ls' ps' os' H' ⟨s1.trans X.cut,X.at',X.wf,X.o1,X.o4,X.l2,X.p2,X.cm⟩⟩
      ·refine⟨_,rfl,_,rfl,je,fun a1 n1=>⟨_,rfl,je,fun a2 n2=>?_⟩⟩
       obtain⟨D9,z1,z2,z3⟩:=D1.two n1 n2 (y:=.lst [.str one])
       refine⟨d,_,_,os1,_,2,a1,a2,[],[one],1,rfl,D9,z1,z2,by omega,rfl,by simp,rfl,rfl,by omega,by omega,by omega,fun newl H8 hn s8 D8=>?_⟩
       exact fin (s1.trans (z3.trans s8)) D8 (.refl _) (by omega) (by omega) (by omega) (by omega)
   ·refine⟨_,rfl,d.S,_,2,_,rfl,rfl,D1.seqS,aN (j:=2) rfl,.ref d.O,os1.length,rfl,.inl ⟨_,bJ.of D1.opens,by simp⟩,_,_,rfl,rfl,_,rfl,jH (fun h3=>?_) (fun _=>b)⟩
    have hne1:os1≠[]:=fun z=>by rw [z] at h3;exact absurd (of_decide_eq_true h3) (by decide)
    exact⟨_,rfl,_,rfl,_,rfl,_,rfl,d,ls,ps,os1,c,one,back,rfl,D1,w1,hne1,by omega,hls,hps,fun ls' ps' os' H' X=>k ls' ps' os' H' ⟨s1.trans X.cut,X.at',X.wf,X.o1,X.o4,X.l2,X.p2,X.cm⟩⟩
 ·refine⟨_,rfl,d.S,_,2,_,rfl,rfl,D1.seqS,aN (j:=2) rfl,.ref d.O,os1.length,rfl,.inl ⟨_,bJ.of D1.opens,by simp⟩,_,_,rfl,rfl,_,rfl,jH (fun h3=>?_) (fun _=>b)⟩
  have h3:os1.length <3:=by have:=of_decide_eq_true h3;omega
  refine⟨_,rfl,_,rfl,je,fun a1 n1=>⟨_,rfl,je,fun a2 n2=>?_⟩⟩
  obtain⟨D9,z1,z2,z3⟩:=D1.two n1 n2 (y:=.lst [.str one])
  refine⟨d,_,_,os1,_,3,a1,a2,[],[one],2,rfl,D9,z1,z2,by omega,rfl,by simp,rfl,rfl,by omega,by omega,by omega,fun newl H8 hn s8 D8=>?_⟩
  exact fin (s1.trans (z3.trans s8)) D8 (.refl _) (by omega) (by omega) (by omega) (by omega)
inductive uP (vs:List V) (H:Hp) (Q:VK) (E:XK):Prop where
 | mk:∀(d:Dw) (ls:List aH) (ps:List PD) (os:List Str) (c:Int) (B:Addr) (back:List Str),vs=[.ref d.S,.int c,.ref B]->mL d H ls ps os->Drawn.WF (uQ ls ps os back)->bf d.E H B=some (.lst (back.map V.str))->os≠[]->os.length<=4->back.length<=2->ls.length<=12->ps.length<=10->Calm ps->(∀ls' ps' H',aM (bf d.E H) (bf d.E H')->mL d H' ls' ps' []->Ga (ls'.map (·.name)) ps'->ls'.length<=17->ls.length<=ls'.length->ps'.length<=16->1<=ps'.length->Calm ps'->Q .non H')->uP vs H Q E
theorem Cu (T:Txt w K mg t):FO P w K mg base 5 t.vI ["_law_state", "_law_cell_here", "_law_back"] (uP):=by
 have sc:=T.qx.sc ["_law_state", "_law_cell_here", "_law_back", "_law_one", "_law_other", "_law_kind", "_law_lane_here", "_law_fresh"]
 refine T.qx.F.ok sc ln (fun _ _ _ _ H vs Q E hr h=>?_)
 obtain⟨d,ls,ps,os,c,B,back,rfl,D,w,eB,hne,ho,hb,hls,hps,hC,k⟩:=h
 refine⟨_,(au (Dz PassesOwn.never (bc Mz (bz bO (by rfl) T.fH dB (aa (aV aX (pv 0) az (fun _ _=>rfl)) ak aF)) az (bL _))
   (au (sN sc 3 (yz PySem.F.plainAttrs_list PySem.F.slot_list_pop PySem.F.type_list_pop Dk (aV aX (pv 0) az (fun _ _=>rfl)) (aa az ak ao)))
   (au (sN sc 4 (yz PySem.F.plainAttrs_list PySem.F.slot_list_pop PySem.F.type_list_pop Dk (aV aX (pv 0) az (fun _ _=>rfl)) (aa az ak ao)))
   (au (sN sc 5 (aV aX (bu (aa bI (aa bI (aa bI ak ao) ao) ao)) (bC cX (d7 (bw T) T.bB hr (aa (pv 1) (aa (bz bO (by rfl) T.fH dB (aa (aV aX (pv 0) az (fun _ _=>rfl)) ak aF)) ak aZ) aj)) az) (fun _ _=>rfl)))
   (aA (bH (d7 (cD T) T.cg hr (aa (pv 0) (aa (d7 (bw T) T.bB hr (aa (pv 1) (aa (bC d9 az (bz bO (by rfl) T.fH dB (aa (aV aX (pv 0) az (fun _ _=>rfl)) ak aF))) ak bT) aj)) (aa (pv 5) (aa (bu ak) (aa (bu (aa (pv 3) (aa (pv 4) ak aj) aj)) (aa az ak ao) aU) aU) aj) aZ) aj))))))))
  (au (dw PassesOwn.never rfl (bM (pv 2)) (gN sc 6)
   (au (sN sc 3 (Kz PySem.F.plainAttrs_list PySem.F.slot_list_pop PySem.F.type_list_pop Lz (aV aX (pv 0) az (fun _ _=>rfl))))
   (au (sN sc 7 (d7 (jF T) T.iI hr (aa (pv 0) (aa (d7 (bw T) T.bB hr (aa (pv 1) (aa (bC d9 az (bz bO (by rfl) T.fH dB (aa (aV aX (pv 0) az (fun _ _=>rfl)) ak aF))) ak bT) aj)) (aa mD ak ao) aZ) aj)))
   (au (bH (IV (aV aX (pv 0) az (fun _ _=>rfl)) (aa (bW (aa bI (aa (d7 (mF T) T.jq hr (aa (aV aX (pv 0) az (fun _ _=>rfl)) (aa (bz bO (by rfl) T.fH dB (aa (aV aX (pv 0) az (fun _ _=>rfl)) ak aF)) ak aZ) aF)) (aa (bu ak) (aa (bu (aa (pv 3) ak aj)) (aa (bu (aa (pv 6) (aa (pv 7) ak aj) aj)) ak aU) aU) aU) aZ) ao)) ak b7)))
   (aA (bH (IV (aV aX (pv 0) az (fun _ _=>rfl)) (aa (pv 7) ak aj))))))))
  (aA (bH (d7 (cD T) T.cg hr (aa (pv 0) (aa (pv 1) (aa bI (aa (bu ak) (aa (bu (aa (Kz PySem.F.plainAttrs_list PySem.F.slot_list_pop PySem.F.type_list_pop Lz (aV aX (pv 0) az (fun _ _=>rfl))) ak aZ)) (aa az ak ao) aU) aU) ao) aj) aj)))))),?_⟩
 have hl:sizeLine=16777216:=sizeLine_eq
 have hpos:0 <os.length:=List.length_pos_iff.mpr hne
 refine hide fun u hu=>?_
 refine Dp (fun σ H1=>∃(ls1:List aH) (ps1:List PD) (os1:List Str) (v3 v4 v5:Option V),σ=[some (.ref d.S),some (.int c),some (.ref B),v3,v4,v5,none,none]/\aM (bf d.E H) (bf d.E H1)/\mL d H1 ls1 ps1 os1/\Drawn.WF (uQ ls1 ps1 os1 back)/\1<=os1.length/\os1.length<=4/\ls.length<=ls1.length/\ls1.length+os1.length<=16/\ps1.length+os1.length<=14/\Calm ps1)
  (fun _ H1=>Fy H1 d.O) ⟨ls,ps,os,none,none,none,rfl,aM.refl _,D,w,by omega,ho,Nat.le_refl _,by omega,by omega,hC⟩ ?_ ?_
 ·rintro σ H1 ⟨ls1,ps1,os1,v3,v4,v5,rfl,s1,D1,w1,o1,o4,hl1,hl2,hp2,hC1⟩
  refine⟨_,rfl,d.S,_,2,_,rfl,rfl,D1.seqS,aN (j:=2) rfl,.ref d.O,os1.length,rfl,.inl ⟨_,bJ.of D1.opens,by simp⟩,_,_,rfl,rfl,_,rfl,jH (fun h3=>?_) (fun h3=>?_)⟩
  ·have h3:1 <os1.length:=by have:=of_decide_eq_true h3;omega
   obtain⟨one,other,os2,rfl⟩:∃one other os2,os1=one:: other:: os2:=by
    match os1,h3 with
    | x:: y:: r,_=>exact⟨x,y,r,rfl⟩
   rw [List.length_cons,List.length_cons] at h3 o1 o4 hl2 hp2
   have lm:=xZ D1.opens
   refine Yr fun De hD u hu=>?_
   refine⟨_,rfl,d.S,_,2,_,rfl,rfl,D1.seqS,aN (j:=2) rfl,.inl ⟨rfl,_,bJ.of D1.opens⟩,d.O,_,0,0,.str one,rfl,rfl,D1.opens,by decide,by decide,LK (by simp),rfl,?_⟩
   have D2:=D1.open (os':=other:: os2)
   have c2:bf d.E (upd H1 d.O (.lst ((other:: os2).map V.str)))=bf d.E H1:=dm (by simp)
   refine dj (v:=u) hu fun u hu=>?_
   change yD _ _ _ _ (upd H1 d.O (.lst ((other:: os2).map V.str)))
   generalize upd H1 d.O (.lst ((other:: os2).map V.str))=H2 at D2 c2 ⊢
   refine⟨_,rfl,d.S,_,2,_,rfl,rfl,D2.seqS,aN (j:=2) rfl,.inl ⟨rfl,_,bJ.of D2.opens⟩,d.O,_,0,0,.str other,rfl,rfl,D2.opens,by decide,by decide,LK (by simp),rfl,?_⟩
   have D3:=D2.open (os':=os2)
   have c3:bf d.E (upd H2 d.O (.lst (os2.map V.str)))=bf d.E H2:=dm (by simp)
   refine dj (v:=u) hu fun u hu=>?_
   change yD _ _ _ _ (upd H2 d.O (.lst (os2.map V.str)))
   generalize upd H2 d.O (.lst (os2.map V.str))=H3 at D3 c3 ⊢
   have s3:aM (bf d.E H) (bf d.E H3):=by rw [c3,c2];exact s1
   refine⟨je,fun a0 n0=>?_⟩
   have s0:=aB (o:=.lst [.str "add",.str "less",.str "add"]) n0
   have D0:=D3.keep s0
   have c0:=s3.trans (D3.cut s0)
   refine⟨_,rfl,_,rfl,d.S,_,2,_,rfl,rfl,D0.seqS,aN (j:=2) rfl,.ref d.O,os2.length,rfl,.inl ⟨_,bJ.of D0.opens,by simp⟩,c,(os2.length:Int),rfl,_,_,rfl,rfl,by show(0:Int) <3;decide,?_⟩
   obtain⟨i,ei,hi⟩:=Yj (b8 c (os2.length:Int))
   refine⟨a0,_,_,_,rfl,rfl,bJ.of aq,ei,?_⟩
   generalize upd H3 a0 (.lst [.str "add",.str "less",.str "add"])=H0 at s0 D0 c0 ⊢
   obtain⟨xs,eP,aP⟩:=D0.parts
   have xl:=aP.length
   have hN:([]:List Int).length=cN i:=by rcases hi with rfl | rfl <;> rfl
   have hI:[one,other].length=cI i:=by rcases hi with rfl | rfl <;> rfl
   have hO:1=cO i:=by rcases hi with rfl | rfl <;> rfl
   subst hu
   refine⟨_,rfl,_,rfl,_,rfl,d.S,_,1,_,rfl,rfl,D0.seqS,aN (j:=1) rfl,.ref d.P,ps1.length,rfl,.inl ⟨_,bJ.of eP,xl.symm⟩,_,_,rfl,rfl,_,_,rfl,?_⟩
   refine⟨_,rfl,je,fun a1 n1=>⟨_,rfl,_,rfl,je,fun a2 n2=>?_⟩⟩
   obtain⟨D9,z1,z2,z3⟩:=D0.two n1 n2 (y:=.lst [.str one,.str other])
   refine⟨d,_,_,os2,_,i,a1,a2,[],[one,other],1,rfl,D9,z1,z2,by omega,hN,by simp,hI,hO,by omega,by omega,by omega,fun newl H8 hn s8 D8=>?_⟩
   have w8:=qL w1 rfl D8 (.refl _) (by omega) (by rw [lP];omega)
   subst hD
   refine⟨⟨_,_,_,_,_,_,rfl,c0.trans (z3.trans s8),D8,w8,?_,?_,?_,?_,?_,hC1.app (by show i <9;omega)⟩,?_⟩
   ·rw [lP,lM];omega
   ·rw [lP,lM];omega
   ·rw [lP];omega
   ·rw [lP,lP,lM];omega
   ·rw [lP,lP,lM,List.length_singleton];omega
   ·rw [xZ D8.opens,lm,lM,lM,lP,lM,List.length_cons,List.length_cons]
    omega
  ·have h3:os1.length=1:=by
    have:¬(1:Int) <(os1.length:Int):=fun z=>h3 (decide_eq_true z)
    omega
   obtain⟨y,rfl⟩:=List.length_eq_one_iff.mp h3
   refine dj (v:=u) hu fun u hu=>?_
   refine⟨_,rfl,B,rfl,⟨_,bJ.of (bY _ _ (s1 _ _ eB))⟩,?_⟩
   refine dH (K:=K) (a:=B) (xs:=back.map V.str) (fun j σ H2=>∃(ls2:List aH) (ps2:List PD) (y:Str) (u3 u6 u7:Option V),σ=[some (.ref d.S),some (.int c),some (.ref B),u3,v4,v5,u6,u7]/\aM (bf d.E H) (bf d.E H2)/\mL d H2 ls2 ps2 [y]/\Drawn.WF (uQ ls2 ps2 [y] (back.drop j))/\ls.length<=ls2.length/\ls2.length<=15+j/\ps2.length<=13+j/\Calm ps2) ⟨ls1,ps1,y,v3,none,none,rfl,s1,D1,w1,hl1,by have z:=hl2;rw [List.length_singleton] at z;omega,by have z:=hp2;rw [List.length_singleton] at z;omega,hC1⟩ (fun j σ H2 _ ⟨ls2,ps2,y,u3,u6,u7,e,s2,h⟩=>bJ.of (bY _ _ (s2 _ _ eB))) ?_ ?_
   ·rintro j x σ H2 hx ⟨ls2,ps2,y2,u3,u6,u7,rfl,s2,D2,w2,hl2',hl3,hp3,hC2⟩
    rw [List.getElem?_map] at hx
    obtain⟨bn,hbn,rfl⟩:=Option.map_eq_some_iff.mp hx
    have hj:j <back.length:=by
     rcases Nat.lt_or_ge j back.length with h | h
     ·exact h
     ·rw [List.getElem?_eq_none h] at hbn;cases hbn
    have hdr:back.drop j=bn:: back.drop (j+1):=by
     rw [List.drop_eq_getElem_cons hj]
     rw [List.getElem?_eq_getElem hj,Option.some.injEq] at hbn
     rw [hbn]
    refine Qg fun De hD u hu=>?_
    refine⟨_,rfl,d.S,_,2,_,rfl,rfl,D2.seqS,aN (j:=2) rfl,.inl ⟨rfl,_,bJ.of D2.opens⟩,d.O,_,.str y2,rfl,rfl,D2.opens,rfl,?_⟩
    have D3:=D2.open (os':=[])
    have c3:bf d.E (upd H2 d.O (.lst (([]:List Str).map V.str)))=bf d.E H2:=dm (by simp)
    refine dj (v:=u) hu fun u hu=>?_
    change yD _ _ _ _ (upd H2 d.O (.lst (([]:List Str).map V.str)))
    generalize upd H2 d.O (.lst (([]:List Str).map V.str))=H3 at D3 c3 ⊢
    obtain⟨xs,eP,aP⟩:=D3.parts
    have xl:=aP.length
    refine⟨_,rfl,_,rfl,_,rfl,d.S,_,1,_,rfl,rfl,D3.seqS,aN (j:=1) rfl,.ref d.P,ps2.length,rfl,.inl ⟨_,bJ.of eP,xl.symm⟩,_,_,rfl,rfl,_,_,rfl,d,ls2,ps2,[],_,false,rfl,D3,by omega,fun l H4 _ s4 D4=>?_⟩
    rw [c3] at s4
    have s24:=s2.trans s4
    obtain⟨xs4,eP4,aP4⟩:=D4.parts
    have xl4:=aP4.length
    refine dj (v:=u) hu fun u hu=>?_
    refine⟨_,rfl,d.S,_,1,_,rfl,rfl,D4.seqS,aN (j:=1) rfl,.inl ⟨rfl,_,bJ.of eP4⟩,?_⟩
    refine⟨_,rfl,d.S,_,4,_,rfl,rfl,D4.seqS,aN (j:=4) rfl,?_⟩
    refine⟨_,rfl,d.S,_,1,_,rfl,rfl,D4.seqS,aN (j:=1) rfl,.ref d.P,ps2.length,rfl,.inl ⟨_,bJ.of eP4,xl4.symm⟩,?_⟩
    refine⟨d.c4,ps2.length,rfl,by omega,fun H5 s5=>?_⟩
    have D5:=D4.keep s5
    have c5:=s24.trans (D4.cut s5)
    have eP5:=s5 _ _ eP4
    refine⟨je,fun a1 n1=>⟨_,rfl,je,fun a2 n2=>⟨_,rfl,_,rfl,je,fun a3 n3=>⟨je,fun q nq=>?_⟩⟩⟩⟩
    obtain⟨D6,z1,z2,z3⟩:=D5.two n1 n2 (y:=.lst [.str y2])
    have t6:aM H5 (upd (upd H5 a1 (.lst [])) a2 (.lst [.str y2])):=(aB n1).trans (aB n2)
    have eP6:=t6 _ _ eP5
    generalize upd (upd H5 a1 (.lst [])) a2 (.lst [.str y2])=H6 at D6 z1 z2 z3 t6 eP6 n3 nq ⊢
    obtain⟨D7,y1,y2',y3⟩:=D6.two n3 nq (y:=.tup [.str "copy",.str (cG d.c4 ps2.length),.ref a1,.ref a2,.ref a3])
    have t7:aM H6 (upd (upd H6 a3 (.lst [.str bn,.str l.name])) q (.tup [.str "copy",.str (cG d.c4 ps2.length),.ref a1,.ref a2,.ref a3])):=(aB n3).trans (aB nq)
    have eP7:=t7 _ _ eP6
    generalize upd (upd H6 a3 (.lst [.str bn,.str l.name])) q (.tup [.str "copy",.str (cG d.c4 ps2.length),.ref a1,.ref a2,.ref a3])=H7 at D7 y1 y2' y3 t7 eP7 ⊢
    have c7:=c5.trans (z3.trans y3)
    refine⟨d.P,xs4,_,rfl,rfl,eP7,by omega,?_⟩
    have D8:=D7.part (p:=⟨3,cG d.c4 ps2.length,[],[y2],[bn,l.name]⟩) ⟨q,a1,a2,a3,rfl,y2',y3 _ _ z1,y3 _ _ z2,y1⟩ ⟨by show 3 <11;omega,rfl,rfl,rfl,by simp⟩ rfl eP7
    have c8:bf d.E (upd H7 d.P (.lst (xs4 ++ [.ref q])))=bf d.E H7:=dm (by simp)
    generalize upd H7 d.P (.lst (xs4 ++ [.ref q]))=H8 at D8 c8 ⊢
    subst hu
    refine⟨_,rfl,d.S,_,2,_,rfl,rfl,D8.seqS,aN (j:=2) rfl,.inl ⟨rfl,_,bJ.of D8.opens⟩,_,rfl,d.O,_,_,rfl,rfl,D8.opens,by simp;omega,?_⟩
    have D9:=D8.open (os':=[l.name])
    have nd:=D9.nod (by rw [lP,List.length_singleton];omega)
    rw [hdr] at w2
    have wc:=w2.closeBack (p:=⟨3,cG d.c4 ps2.length,[],[y2],[bn,l.name]⟩) (rest:=back.drop (j+1)) (one:=y2) (b:=bn) (fresh:=l.name) rfl rfl (.refl _) rfl (by simpa using nd)
    subst hD
    exact⟨ls2 ++ [l],_,l.name,_,_,_,rfl,by rw [dm (by simp),c8];exact c7,D9,by simpa [uQ] using wc,by rw [lP];omega,by rw [lP,List.length_singleton];omega,by rw [lP,List.length_singleton];omega,hC2.app (by show 3 <9;omega)⟩
   rintro σ H2 ⟨ls2,ps2,y2,u3,u6,u7,rfl,s2,D2,w2,hl2',hl3,hp3,hC2⟩
   rw [lM] at w2 hl3 hp3
   rw [List.drop_length] at w2
   subst hu
   refine⟨_,rfl,_,rfl,je,fun a3 n3=>?_⟩
   have t3:=aB (o:=.lst []) n3
   have D3:=D2.keep t3
   have c3:=s2.trans (D2.cut t3)
   have o3:=D2.out n3
   have e3:=cQ (aq (H:=H2) (a:=a3) (o:=.lst ([]:List V))) o3
   generalize upd H2 a3 (.lst [])=H3 at t3 D3 c3 e3 ⊢
   refine⟨_,rfl,d.S,_,2,_,rfl,rfl,D3.seqS,aN (j:=2) rfl,.inl ⟨rfl,_,bJ.of D3.opens⟩,d.O,_,.str y2,rfl,rfl,D3.opens,rfl,?_⟩
   have D4:=D3.open (os':=[])
   have c4:bf d.E (upd H3 d.O (.lst (([]:List Str).map V.str)))=bf d.E H3:=dm (by simp)
   rw [show([y2].map V.str).dropLast=([]:List Str).map V.str from rfl]
   refine⟨je,fun a4 n4=>?_⟩
   generalize upd H3 d.O (.lst (([]:List Str).map V.str))=H4 at D4 c4 n4 ⊢
   have s5:=aB (o:=.lst [.str y2]) n4
   have D5:=D4.keep s5
   have c5:=D4.cut s5
   rw [c4] at c5
   have e5:=cQ (E:=d.E) (H:=upd H4 a4 (.lst [.str y2])) aq (D4.out n4)
   refine⟨d,ls2,ps2,[],_,1,a3,a4,[],[y2],0,rfl,D5,c5 _ _ e3,e5,by omega,rfl,by simp,rfl,rfl,by omega,by omega,by simp,fun newl2 H9 hn2 s9 D9=>?_⟩
   have hz:newl2=[]:=List.length_eq_zero_iff.mp hn2
   subst hz
   rw [List.map_nil,List.append_nil,List.append_nil] at D9
   obtain⟨x1,x2,x3⟩:=w2.last (p:=⟨1,cG d.c4 ps2.length,[],[y2],[]⟩) (y:=y2) rfl rfl rfl rfl
   exact k ls2 _ H9 (c3.trans (c5.trans s9)) D9 ⟨w2.nod,x1,x2,y2,x3⟩ (by omega) hl2' (by rw [lP,List.length_singleton];omega) (by rw [lP,List.length_singleton];omega) (hC2.app (by show 1 <9;omega))
 ·intro σ H' Q' Q'' hm hq
  obtain⟨x1,x2,x3,x4,x5,x6,x7,x8,x9,x10,x11,x12,x13,x14,x15,x16,x17,x18,x19,x20,q⟩:=hq
  exact⟨x1,x2,x3,x4,x5,x6,x7,x8,x9,x10,x11,x12,x13,x14,x15,x16,x17,x18,x19,x20,hm _ _ q⟩
inductive zT (K:PySem.W.Frag) (vs:List V) (H:Hp) (Q:VK) (E:XK):Prop where
 | mk:∀(a:Addr) (ns:List Int) (start steps:Nat),vs=[.ref a,.int (start:Nat),.int (steps:Nat),.bl false]->bJ K H a (ns.map V.int)->steps<=4->(∀(T L P:Addr) (ls:List aH) (ps:List PD) (H':Hp),aM H H'->H L=none->H P=none->L≠P->H' T=some (.tup [.ref L,.ref P])->DQ H' L P ls ps->Q9 (lD ns start) (lD ns (start+1)) ls ps->Q (.ref T) H')->zT K vs H Q E
noncomputable abbrev CN:List Str:=["_law_script", "_law_start", "_law_steps", "_law_odd", "_law_one", "_law_other", "_law_state", "_law_k", "_law_back", "_law_at"]
theorem Jq (T:Txt w K mg t):FO P w K mg base 7 t.Cz ["_law_script", "_law_start", "_law_steps", "_law_odd"] (zT K):=by
 have sc:=T.wW.sc CN
 refine T.wW.F.ok sc ln (fun _ _ _ _ H vs Q E hr h=>?_)
 obtain⟨a,ns,start,steps,rfl,hS,hst,k⟩:=h
 refine⟨_,(au (sN sc 4 (d7 (mW T) T.jn hr (aa (pv 0) (aa (pv 1) ak aj) aj)))
  (au (sN sc 5 (d7 (mW T) T.jn hr (aa (pv 0) (aa (bC d9 (pv 1) az) ak bT) aj)))
  (au (sN sc 6 (bu (aa (bu ak) (aa (bu ak) (aa (bu ak) (aa (pv 4) (aa (pv 5) ak aj) aj) aU) aU) aU)))
  (au (dw PassesOwn.never rfl (jm rfl T.mU (aa (bC d9 az (bC cX (d7 (bw T) T.bB hr (aa (pv 4) (aa az ak ao) aj)) az)) ak bT)) (gN sc 7)
   (aA (bH (d7 (cD T) T.cg hr (aa (pv 6) (aa (d7 (bw T) T.bB hr (aa (pv 5) (aa (pv 7) ak aj) aj)) (aa bI (aa (bu ak) (aa (bu ak) (aa az ak ao) aU) aU) ao) aZ) aj)))))
  (au (iD (i:=8) [5,6] CN (aR (top 85)) rfl sc.nd rfl (jm rfl T.mU (aa (bC cX (d7 (bw T) T.bB hr (aa (pv 4) (aa az ak ao) aj)) az) ak bT)) (fun _ _ _ _ _=>iM) (fun _ _ _ _ _=>(d7 (jF T) T.iI hr (aa (pv 2) (aa (d7 (bw T) T.bB hr (aa (pv 1) (aa (bC d9 az (pv 0)) ak bT) aj)) (aa mD ak ao) aZ) aj))))
  (au (bH (yz PySem.F.plainAttrs_list PySem.F.slot_list_extend PySem.F.type_list_extend zO (aV aX (pv 6) az (fun _ _=>rfl)) (aa (pv 8) ak aj)))
  (au (dw PassesOwn.never rfl (jm rfl T.mU (aa (pv 2) ak aj)) (gN sc 7)
   (aA (bH (d7 (HJ T) T.tY hr (aa (pv 6) (aa (d7 (mW T) T.jn hr (aa (pv 0) (aa (bC d9 (bC d9 (pv 1) az) (pv 7)) ak bT) aj)) (aa (pv 3) ak aj) aZ) aj)))))
  (au (bH (d7 (Cu T) T.qx hr (aa (pv 6) (aa (pv 5) (aa (pv 8) ak aj) aj) aj)))
  (au (sN sc 9 (bC cX (d7 (bw T) T.bB hr (aa (pv 4) (aa az ak ao) aj)) (bz bO (by rfl) T.fH dB (aa (aV aX (pv 6) az (fun _ _=>rfl)) ak aF))))
  (aA (aO (bW (aa (aV aX (pv 6) az (fun _ _=>rfl)) (aa (bC Jf (lK uW (aV aX (pv 6) az (fun _ _=>rfl)) (kJ (pv 9)) vy) (lK uW (aV aX (pv 6) az (fun _ _=>rfl)) vy (kJ (pv 9)))) ak bT) aF))))))))))))),?_⟩
 have hl:sizeLine=16777216:=sizeLine_eq
 refine hide fun u hu=>?_
 refine⟨_,rfl,_,rfl,a,ns,start,rfl,hS,?_⟩
 refine dj (v:=u) hu fun u hu=>?_
 refine⟨_,rfl,_,rfl,_,_,rfl,rfl,a,ns,start+1,rfl,hS,?_⟩
 refine dj (v:=u) hu fun u hu=>?_
 refine⟨je,fun L nL=>⟨je,fun P' nP=>⟨je,fun O nO=>⟨_,rfl,_,rfl,je,fun S nS=>?_⟩⟩⟩⟩
 obtain⟨D1,s1,nP0⟩:=mL.init (lD ns start) (lD ns (start+1)) nL nP nO nS
 have nLP:L≠P':=D1.ne.1
 refine dj (v:=u) hu fun u hu=>?_
 change yD _ _ _ [some (.ref a),some (.int (start:Nat)),some (.int (steps:Nat)),some (.bl false),some (.int (lD ns start)),some (.int (lD ns (start+1))),some (.ref S),none,none,none] (upd (upd (upd (upd H L (.lst [])) P' (.lst [])) O (.lst [])) S (.lst [.ref L,.ref P',.ref O,.int (lD ns start),.int (lD ns (start+1))]))
 generalize upd (upd (upd (upd H L (.lst [])) P' (.lst [])) O (.lst [])) S (.lst [.ref L,.ref P',.ref O,.int (lD ns start),.int (lD ns (start+1))])=H1 at D1 s1 ⊢
 obtain⟨d,hd⟩:∃d:Dw,d=⟨S,L,P',O,lD ns start,lD ns (start+1)⟩:=⟨_,rfl⟩
 rw [<-hd] at D1
 have hE:[L,P',O]=d.E:=by rw [hd]
 have hSd:S=d.S:=by rw [hd]
 have hLd:L=d.L:=by rw [hd]
 have hc3:lD ns start=d.c3:=by rw [hd]
 have hc4:lD ns (start+1)=d.c4:=by rw [hd]
 rw [hE] at s1
 rw [hLd] at nL nLP
 rw [hc3,hc4] at k
 rw [hSd,hc3,hc4]
 clear hd hE nP nO nS
 have g0:=Int.emod_nonneg (b8 d.c3 5) (show(2:Int)≠0 by decide)
 have g1:=Int.emod_lt_of_pos (b8 d.c3 5) (show(0:Int) <2 by decide)
 refine⟨_,rfl,_,_,rfl,_,_,rfl,rfl,by show(0:Int) <2;decide,_,_,rfl,rfl,1+b8 d.c3 5 % 2,rfl,by omega,by omega,?_⟩
 obtain⟨g,hg,hg1,hg2⟩:∃g:Nat,(1+b8 d.c3 5 % 2).toNat=g/\1<=g/\g<=2:=⟨_,rfl,by omega,by omega⟩
 rw [hg]
 refine yR (fun j σ H2=>∃(ls:List aH) (ps:List PD) (os:List Str) (v7:Option V),σ=[some (.ref a),some (.int (start:Nat)),some (.int (steps:Nat)),some (.bl false),some (.int d.c3),some (.int d.c4),some (.ref d.S),v7,none,none]/\aM (bf d.E H1) (bf d.E H2)/\mL d H2 ls ps os/\Drawn.WF (uQ ls ps os [])/\ls.length=j/\ps.length=j/\os.length=j/\Calm ps) ⟨[],[],[],none,rfl,aM.refl _,D1,Drawn.WF.start,rfl,rfl,rfl,fun _ h=>by cases h⟩ ?_ ?_
 ·rintro j σ H2 hj ⟨ls,ps,os,v7,rfl,s2,D2,w2,h1,h2,h3,hC⟩
  refine VH fun De hD=>?_
  refine⟨_,rfl,_,rfl,_,rfl,_,_,rfl,je,fun a1 n1=>⟨je,fun a2 n2=>?_⟩⟩
  obtain⟨D9,z1,z2,z3⟩:=D2.two n1 n2 (y:=.lst [])
  refine⟨d,ls,ps,os,_,0,a1,a2,[],[],1,rfl,D9,z1,z2,by omega,rfl,by simp,rfl,rfl,by omega,by omega,by omega,fun newl H8 hn s8 D8=>?_⟩
  have w8:=qL w2 rfl D8 (.refl _) (by omega) (by rw [lP];omega)
  subst hD
  exact⟨_,_,_,_,rfl,s2.trans (z3.trans s8),D8,w8,by rw [lP];omega,by rw [lP,List.length_singleton];omega,by rw [lP,lM];omega,hC.app (by show 0 <9;omega)⟩
 rintro σ H2 ⟨ls,ps,os,v7,rfl,s2,D2,w2,h1,h2,h3,hC⟩
 have b0:=Int.emod_nonneg (b8 d.c3 6) (show(3:Int)≠0 by decide)
 have b1:=Int.emod_lt_of_pos (b8 d.c3 6) (show(0:Int) <3 by decide)
 refine dj (v:=u) hu fun u hu=>?_
 refine⟨_,rfl,_,_,rfl,_,_,rfl,rfl,by show(0:Int) <3;decide,b8 d.c3 6 % 3,rfl,by omega,by omega,?_⟩
 obtain⟨nb,hnb,hnb2⟩:∃nb:Nat,(b8 d.c3 6 % 3).toNat=nb/\nb<=2:=⟨_,rfl,by omega⟩
 rw [hnb]
 refine nZ (fun j ys H3=>∃(ls3:List aH) (bl:List Str),ys=bl.map V.str/\bl.length=j/\aM (bf d.E H1) (bf d.E H3)/\mL d H3 ls3 ps os/\Drawn.WF (uQ ls3 ps (os ++ bl) bl)/\ls3.length=g+j) (by omega) ⟨ls,[],rfl,rfl,s2,D2,by rw [List.append_nil];exact w2,by omega⟩ (fun j ys H3 ⟨_,bl,e,e2,_⟩=>by rw [e,lM];omega) ?_ ?_
 ·rintro j ys H3 hj ⟨ls3,bl,rfl,hb,s3,D3,w3,h4⟩
  refine yes ⟨_,rfl,_,rfl,_,rfl,_,_,rfl,rfl,_,_,rfl,d,ls3,ps,os,_,true,rfl,D3,by omega,fun l H4 _ s4 D4=>?_⟩
  have nd:=D4.nod (by rw [lP,List.length_singleton];omega)
  have wb:=w3.backLane (b:=l.name) (by simpa using nd)
  exact⟨ls3 ++ [l],bl ++ [l.name],by simp,by simp [hb],s3.trans s4,D4,by simpa [uQ] using wb,by rw [lP,List.length_singleton];omega⟩
 rintro ys H3 ⟨ls3,bl,rfl,hbl,s3,D3,w3,h4⟩ B nB
 have t4:=aB (o:=.lst (bl.map V.str)) nB
 have D4:=D3.keep t4
 have s4:=s3.trans (D3.cut t4)
 have eB:=cQ (aq (H:=H3) (a:=B) (o:=.lst (bl.map V.str))) (D3.out nB)
 generalize upd H3 B (.lst (bl.map V.str))=H4 at t4 D4 s4 eB ⊢
 refine dj (v:=u) hu fun u hu=>?_
 refine⟨_,rfl,d.S,_,2,_,rfl,rfl,D4.seqS,aN (j:=2) rfl,.inl ⟨rfl,_,bJ.of D4.opens⟩,_,rfl,d.O,B,_,_,rfl,rfl,D4.opens,bY _ _ eB,by rw [lM,lM];omega,?_⟩
 rw [<-List.map_append]
 have D5:=D4.open (os':=os ++ bl)
 have c5:bf d.E (upd H4 d.O (.lst ((os ++ bl).map V.str)))=bf d.E H4:=dm (by simp)
 generalize upd H4 d.O (.lst ((os ++ bl).map V.str))=H5 at D5 c5 ⊢
 rw [<-c5] at s4 eB
 refine dj (v:=u) hu fun u hu=>?_
 refine⟨_,rfl,(steps:Int),rfl,by omega,by omega,?_⟩
 rw [Int.toNat_natCast]
 refine yR (fun j σ H6=>∃(ls6:List aH) (ps6:List PD) (os6:List Str) (v7:Option V),σ=[some (.ref a),some (.int (start:Nat)),some (.int (steps:Nat)),some (.bl false),some (.int d.c3),some (.int d.c4),some (.ref d.S),v7,some (.ref B),none]/\aM (bf d.E H5) (bf d.E H6)/\mL d H6 ls6 ps6 os6/\Drawn.WF (uQ ls6 ps6 os6 bl)/\1<=ls6.length/\ls6.length<=4+2 * j/\ps6.length<=2+2 * j/\os6≠[]/\os6.length<=4/\Calm ps6) ⟨ls3,ps,os ++ bl,v7,rfl,aM.refl _,D5,w3,by omega,by omega,by omega,by intro z;have:=congrArg List.length z;rw [lP,List.length_nil] at this;omega,by rw [lP];omega,hC⟩ ?_ ?_
 ·rintro j σ H6 hj ⟨ls6,ps6,os6,u7,rfl,s6,D6,w6,l0,l6,p6,o0,o6,hC6⟩
  have hS6:bJ K H6 a (ns.map V.int):=bY.seq ((s1.trans (s4.trans s6)).seq hS)
  refine VH fun De hD=>?_
  refine⟨_,rfl,_,rfl,_,rfl,_,_,rfl,rfl,_,rfl,_,_,rfl,rfl,a,ns,start+2+(0+j),rfl,hS6,_,rfl,d,ls6,ps6,os6,_,bl,rfl,D6,w6,o0,o6,by omega,by omega,fun ls' ps' os' H' X=>?_⟩
  subst hD
  exact⟨ls',ps',os',_,rfl,s6.trans X.cut,X.at',X.wf,by have h1:=X.wf.ins.length_eq;have h2:=X.o1;rw [lP,lM] at h1;change _+os'.length=_ at h1;omega,by have:=X.l2;omega,by have:=X.p2;omega,by intro z;have:=X.o1;rw [z] at this;simp at this,X.o4,X.cm hC6⟩
 rintro σ H6 ⟨ls6,ps6,os6,u7,rfl,s6,D6,w6,l0,l6,p6,o0,o6,hC6⟩
 refine dj (v:=u) hu fun u hu=>?_
 refine⟨_,rfl,_,rfl,_,rfl,d,ls6,ps6,os6,_,B,bl,rfl,D6,w6,s6 _ _ eB,o0,o6,by omega,by omega,by omega,hC6,fun ls7 ps7 H7 s7 D7 W7 l17 l7 p16 p1 hC7=>?_⟩
 obtain⟨xsL,eL,aL⟩:=D7.lanes
 obtain⟨xsP,eP,aP⟩:=D7.parts
 have xl:=aP.length
 refine dj (v:=u) hu fun u hu=>?_
 refine⟨_,rfl,_,_,rfl,_,rfl,d.S,_,1,_,rfl,rfl,D7.seqS,aN (j:=1) rfl,.ref d.P,ps7.length,rfl,.inl ⟨_,bJ.of eP,xl.symm⟩,b8 d.c3 7,(ps7.length:Int),rfl,rfl,by omega,?_⟩
 have r0:=Int.emod_nonneg (b8 d.c3 7) (show(ps7.length:Int)≠0 by omega)
 obtain⟨r,hr'⟩:∃r:Nat,b8 d.c3 7 % (ps7.length:Int)=(r:Int):=⟨_,(Int.toNat_of_nonneg r0).symm⟩
 dsimp only
 rw [hr']
 subst hu
 refine⟨_,rfl,d.S,_,0,_,rfl,rfl,D7.seqS,aN (j:=0) rfl,?_⟩
 refine⟨_,rfl,d.S,_,1,_,rfl,rfl,D7.seqS,aN (j:=1) rfl,?_⟩
 refine⟨_,rfl,_,rfl,d.P,_,rfl,bJ.of eP,fun q1 m1=>?_⟩
 rw [GZ]
 have t1:=aB (o:=.lst (xsP.drop r)) m1
 have f1:upd H7 q1 (.lst (xsP.drop r)) q1=some (.lst (xsP.drop r)):=aq
 have D8:=D7.keep t1
 have eP8:=t1 _ _ eP
 have eL8:=t1 _ _ eL
 generalize upd H7 q1 (.lst (xsP.drop r))=H8 at t1 f1 D8 eP8 eL8 ⊢
 refine⟨_,rfl,d.S,_,1,_,rfl,rfl,D8.seqS,aN (j:=1) rfl,_,rfl,_,rfl,d.P,_,rfl,bJ.of eP8,fun q2 m2=>?_⟩
 rw [Uy]
 have t2:=aB (o:=.lst (xsP.take r)) m2
 have f2:upd H8 q2 (.lst (xsP.take r)) q2=some (.lst (xsP.take r)):=aq
 have f12:=t2 _ _ f1
 have eL9:=t2 _ _ eL8
 generalize upd H8 q2 (.lst (xsP.take r))=H9 at t2 f2 f12 eL9 ⊢
 refine⟨q1,q2,_,_,rfl,rfl,f12,f2,by rw [List.length_drop,List.length_take];omega,fun q3 m3=>?_⟩
 have t3:=aB (o:=.lst (xsP.drop r ++ xsP.take r)) m3
 have f3:upd H9 q3 (.lst (xsP.drop r ++ xsP.take r)) q3=some (.lst (xsP.drop r ++ xsP.take r)):=aq
 have eLA:=t3 _ _ eL9
 generalize upd H9 q3 (.lst (xsP.drop r ++ xsP.take r))=HA at t3 f3 eLA ⊢
 refine⟨je,fun T' nT=>?_⟩
 have t4:=aB (o:=.tup [.ref d.L,.ref q3]) nT
 have sA:aM H7 (upd HA T' (.tup [.ref d.L,.ref q3])):=t1.trans (t2.trans (t3.trans t4))
 have s17:aM H (bf d.E H7):=s1.trans (s4.trans (s6.trans s7))
 have s07:aM H H7:=s17.trans bY
 have free3:H q3=none:=s07.free (t1.free (t2.free m3))
 have cA:aM (bf d.E H7) (upd HA T' (.tup [.ref d.L,.ref q3])):=bY.trans sA
 have nq:d.L≠q3:=aD eL9 m3
 have rp:=Rq ps7 r
 refine k T' d.L q3 ls7 (ps7.drop r ++ ps7.take r) _ (s07.trans sA) nL free3 nq aq ⟨⟨xsL,t4 _ _ eLA,aL.imp fun _ _ h=>h.same cA⟩,⟨_,t4 _ _ f3,((aP.drop r).app (aP.take r)).imp fun _ _ h=>h.same cA⟩⟩ ⟨D7.lok,fun p hp=>D7.pok p (rp.mem_iff.mpr hp),D7.ln,?_,W7.perm rp,by omega,l17,by rw [<-rp.length_eq];exact p1,by rw [<-rp.length_eq];exact p16,fun p hp=>hC7 p (rp.mem_iff.mpr hp)⟩
 rw [<-rp.length_eq,<-D7.pn]
 exact rp.map _
inductive En (K:PySem.W.Frag) (vs:List V) (H:Hp) (Q:VK) (E:XK):Prop where
 | mk:∀x,vs=[x]->(((∃z:Str,x=.str z/\z.length<=100/\∀H',aM H H'->Q (.bl (nameB z)) H')∨∃Tx,Zc K H x Tx/\Tx∈pL/\Tx≠ "str" /\Q (.bl false) H))->En K vs H Q E
theorem Kv (T:Txt w K mg t):FO P w K mg base 1 t.Gy ["thing"] (En K):=by
 have sc:=T.zm.sc ["thing"]
 refine T.zm.F.ok sc ln (fun _ _ _ _ H vs Q E hr h=>?_)
 obtain⟨x,rfl,h⟩:=h
 refine⟨_,(au (bQ (PW.pt (xn (mq (jX (bz xU (by rfl) T.mJ j8 (aa (pv 0) (aa (Bq (by rfl) T.VG Q3) ak aj) aj)))) (qY (mq (yC vB vB az (bz bO (by rfl) T.fH dB (aa (pv 0) ak aj)) (jc (by rfl) T.Ej))))))
   (aA (aO mD))
   bD)
  (aA (aO (zE (u9 yV (aV DG (pv 0) az (fun _ _=>rfl)) (jc (by rfl) T.FZ) (by with_unfolding_all rfl)) (yU (bz (xg rfl) (by rfl) T.Mu HW (aa (eU [] ["thing"] (aR (top 32)) rfl (Wh (pv 0)) (fun _ _ _ _ _=>iM) (fun _ _ _ _ _=>(Yx (u9 yV (pv 0) (jc (by rfl) T.FZ) (by with_unfolding_all rfl)) (yU (u9 yV (pv 0) (jc (by rfl) T.Ox) (by with_unfolding_all rfl)))))) ak gP))))))),?_⟩
 have hl:sizeLine=16777216:=sizeLine_eq
 rcases h with ⟨z,rfl,hz,k⟩ | ⟨Tx,ty,hm,hne,k⟩
 ·refine⟨_,rfl,.str z, "str", "str",true,rfl,rfl,by decide,by decide,_,rfl,cZ ?_⟩
  refine⟨_,rfl,.str z,z.length,rfl,⟨by omega,rfl⟩,_,_,rfl,rfl,_,rfl,?_⟩
  cases e:z.cps.toList with
  | nil=>
   have h0:z.length=0:=by rw [<-m9,e];rfl
   rw [h0]
   refine cZ ⟨_,rfl,iW ?_⟩
   have:=k H (aM.refl _)
   unfold nameB at this
   rw [e] at this
   exact this
  | cons c r=>
   have hlen:z.length=r.length+1:=by rw [<-m9,e];rfl
   refine vz (by omega) ⟨_,_,rfl,rfl,_,rfl,jH (fun h=>?_) (fun h=>?_)⟩
   ·have h8:¬(z.length:Int)<=8:=by simpa using h
    have:=k H (aM.refl _)
    unfold nameB at this
    rw [e] at this
    simp only [show ¬r.length<=7 by omega,decide_false,Bool.false_and] at this
    exact this
   ·have h8:(z.length:Int)<=8:=by simpa using h
    have hc0:JZ z.cps.toList 0=some c:=by rw [e];exact aN (xs:=c:: r) (j:=0) rfl
    refine⟨_,rfl,z,_,c,rfl,rfl,by omega,hc0,_,_,rfl,rfl,_,rfl,?_⟩
    have kk:∀H',aM H H'->Q (.bl (low c && z.cps.toList.all fun d=>low d || Lk d)) H':=fun H' s'=>by
     have:=k H' s'
     unfold nameB at this
     rw [e] at this ⊢
     simp only [show r.length<=7 by omega,decide_true,Bool.true_and] at this
     exact this
    rw [QG]
    refine jH (fun hc=>?_) (fun hc=>?_)
    ·rw [hc,Bool.true_and] at kk
     refine⟨_,rfl,z,rfl,QF (fun i ys H'=>H'=H/\ys=((z.cps.toList.take i).map fun d=>low d || Lk d).map V.bl) (by simp only [Str.length] at hz;omega) ⟨rfl,by simp⟩ (fun i ys H' ⟨_,e⟩=>by rw [e];simp only [lM,List.length_take];omega) ?_ ?_⟩
     ·rintro i d ys H' hd ⟨rfl,rfl⟩
      refine yes ⟨_,rfl,_,_,rfl,rfl,_,rfl,?_⟩
      have hd':z.cps.toList[i]?=some d:=by simpa using hd
      have next:∀b,b=(low d || Lk d)->(((z.cps.toList.take i).map fun d=>low d || Lk d).map V.bl) ++ [V.bl b]=((z.cps.toList.take (i+1)).map fun d=>low d || Lk d).map V.bl:=fun b hb=>by
       rw [List.take_add_one,hd',hb]
       simp
      rw [QG]
      refine jH (fun hl'=>?_) (fun hl'=>?_)
      ·exact⟨rfl,next true (by rw [hl'];rfl)⟩
      ·have hl2:low d=false:=by simpa using hl'
       refine⟨_,rfl,_,_,rfl,rfl,rfl,next _ ?_⟩
       rw [Xn,hl2,Bool.false_or]
     ·rintro ys H' ⟨rfl,rfl⟩ D hD
      refine⟨D,(z.cps.toList.take z.cps.size).map fun d=>low d || Lk d,rfl,bJ.of aq,?_⟩
      have hall:((z.cps.toList.take z.cps.size).map fun d=>low d || Lk d).all id=z.cps.toList.all fun d=>low d || Lk d:=by
       rw [List.take_of_length_le (by simp),List.all_map]
       rfl
      rw [hall]
      exact kk _ (aB hD)
    ·have hc':low c=false:=by simpa using hc
     rw [hc',Bool.false_and] at kk
     exact kk H (aM.refl _)
 ·have hb:J1 Tx "str" =false:=by
   simp only [pL,List.mem_cons,List.not_mem_nil,or_false] at hm
   rcases hm with rfl | rfl | rfl | rfl | rfl | rfl | rfl <;> first | decide | exact absurd rfl hne
  exact⟨_,rfl,x,Tx, "str",false,rfl,ty,by decide,hb,_,rfl,iW (iW k)⟩
inductive ur (K:PySem.W.Frag) (vs:List V) (H:Hp) (Q:VK) (E:XK):Prop where
 | mk:∀(a b:Addr) (xs ys:List V),vs=[.ref a,.ref b]->bJ K H a xs->bJ K H b ys->1<=xs.length->xs.length<=24->1<=ys.length->ys.length<=16->Q .non H->ur K vs H Q E
theorem Df (T:Txt w K mg t):FO P w K mg base 1 t.vV ["lanes", "parts"] (ur K):=by
 have sc:=T.qm.sc ["lanes", "parts"]
 refine T.qm.F.ok sc ln (fun _ _ _ _ H vs Q E hr h=>?_)
 obtain⟨a,b,xs,ys,rfl,h1,h2,c1,c2,c3,c4,k⟩:=h
 refine⟨_,(au (bQ (mq (yC vB vB az (bz bO (by rfl) T.fH dB (aa (pv 0) ak aj)) (jc (by rfl) T.G5)))
   (aA dz)
   bD)
  (aA (bQ (mq (yC vB vB az (bz bO (by rfl) T.fH dB (aa (pv 1) ak aj)) (jc (by rfl) T.HN)))
   (aA dz)
   bD))),?_⟩
 have hl:sizeLine=16777216:=sizeLine_eq
 refine⟨_,rfl,.ref a,xs.length,rfl,.inl ⟨_,h1,rfl⟩,_,_,rfl,rfl,_,rfl,vz (by omega) ⟨_,_,rfl,rfl,_,rfl,?_⟩⟩
 rw [show decide ((xs.length:Int)<=24)=true from decide_eq_true (by omega)]
 refine cZ ?_
 refine⟨_,rfl,.ref b,ys.length,rfl,.inl ⟨_,h2,rfl⟩,_,_,rfl,rfl,_,rfl,vz (by omega) ⟨_,_,rfl,rfl,_,rfl,?_⟩⟩
 rw [show decide ((ys.length:Int)<=16)=true from decide_eq_true (by omega)]
 exact cZ k
inductive wk (K:PySem.W.Frag) (vs:List V) (H:Hp) (Q:VK) (E:XK):Prop where
 | mk:∀(z:Str) (d:Addr) (kvs:List (Key×V)),vs=[.str z,.ref d]->H d=some (.dK kvs)->nameB z=true->z.length<=100->bZ kvs (Sum.inr z)=none->(∀H',aM H H'->Q .non H')->wk K vs H Q E
theorem wz (T:Txt w K mg t):FO P w K mg base 2 t.xr ["name", "known"] (wk K):=by
 have sc:=T.mK.sc ["name", "known"]
 refine T.mK.F.ok sc ln (fun _ _ _ _ H vs Q E hr h=>?_)
 obtain⟨z,d,kvs,rfl,hd,hz,hl,hv,k⟩:=h
 refine⟨_,(au (bQ (mq (jX (d7 (Kv T) T.zm hr (aa (pv 0) ak aj))))
   (aA dz)
   bD)
  (aA (bQ (fY (wB hr.u1 (pv 0) (pv 1)))
   (aA dz)
   bD))),?_⟩
 refine⟨_,rfl,.str z,rfl,.inl ⟨z,rfl,hl,fun H1 s1=>?_⟩⟩
 rw [hz]
 refine⟨_,rfl,cZ ?_⟩
 refine⟨_,rfl,_,rfl,d,_,rfl,dZ.k (k:=Sum.inr z) (s1 _ _ hd),?_⟩
 rw [hv]
 exact⟨_,rfl,cZ (k _ s1)⟩
inductive yq (K:PySem.W.Frag) (vs:List V) (H:Hp) (Q:VK) (E:XK):Prop where
 | mk:∀(nm:V) (room:Int) (L:Addr) (ws:List Int),vs=[nm,.int room,.ref L]->yt K H L (ws.map V.int)->ws.length<=1000->((∀v∈ws,0<=v/\v <1000000000))->1<=room->(ws.length:Int)<=room->room<=199->(∀H',aM H H'->Q .non H')->yq K vs H Q E
theorem HQ (T:Txt w K mg t):FO P w K mg base 3 t.Ay ["name", "room", "first"] (yq K):=by
 have sc:=T.ud.sc ["name", "room", "first"]
 refine T.ud.F.ok sc ln (fun _ _ _ _ H vs Q E hr h=>?_)
 obtain⟨nm,room,L,ws,rfl,hL,hw,hB,c1,c2,c3,k⟩:=h
 refine⟨_,(au (bQ (PW.pt (xn (mq (jX (d7 (Af T) T.rC hr (aa (pv 1) ak aj)))) (qY (mq (yC vB vB (bz (Gj rfl) (by rfl) T.Qm K7 (aa az (aa (bz bO (by rfl) T.fH dB (aa (pv 2) ak aj)) ak aZ) ao)) (pv 1) (jc (by rfl) T.Kl))))))
   (aA dz)
   bD)
  (aA (bQ (mq (jX (bz (xg rfl) (by rfl) T.Mu HW (aa (eU [] ["name", "room", "first"] (aR (top 58)) rfl (V4 (bM (pv 2)) (Ho (pv 2))) (fun _ _ _ _ _=>iM) (fun _ _ _ _ _=>(d7 (uC T) T.oZ hr (aa (pv 0) ak aj)))) ak gP))))
   (aA dz)
   bD))),?_⟩
 have hl:sizeLine=16777216:=sizeLine_eq
 have hlw:(ws.map V.int).length=ws.length:=lM ..
 refine⟨_,rfl,.int room, "int",true,rfl,rfl,by decide,by decide,true,rfl,cZ ?_⟩
 refine⟨_,rfl,.ref L,(ws.map V.int).length,rfl,hL.len,_,_,rfl,_,rfl,_,_,rfl,rfl,_,rfl,vz ?_ ⟨_,_,rfl,rfl,_,rfl,?_⟩⟩
 ·split <;> omega
 rw [show decide (room<=199)=true from decide_eq_true c3]
 refine cZ ?_
 refine Ql (a:=L) (xs:=ws.map V.int) ?_ hL (fun j ys=>ys=(List.replicate j true).map V.bl) (by rw [lM];omega) rfl (fun j ys e=>by rw [e];simp) (fun j x ys hx e=>?_) (fun ys e D hD=>?_)
 ·exact fun R r=>⟨_,rfl,r⟩
 ·subst e
  rw [List.getElem?_map] at hx
  obtain⟨n,hn,rfl⟩:=Option.map_eq_some_iff.mp hx
  obtain⟨n0,n1⟩:=hB n (List.mem_of_getElem? hn)
  refine yes ⟨_,rfl,.int n,rfl,.inl ⟨n,rfl,rfl,?_⟩⟩
  rw [decide_eq_true n0,decide_eq_true n1,List.replicate_succ']
  simp
 ·subst e
  refine⟨D,_,rfl,bJ.of aq,_,rfl,?_⟩
  rw [show((List.replicate (ws.map V.int).length true).all id)=true by simp]
  exact cZ (k _ (aB hD))
inductive vL (K:PySem.W.Frag) (t:jw) (vs:List V) (H:Hp) (Q:VK) (E:XK):Prop where
 | mk:∀(i:Nat) (nm:Str) (r d a1 a2 a3:Addr) (ns is os:List V) (kvs:List (Key×V)),vs=[.ref r,.ref d]->H r=some (.tup [.str (dh i),.str nm,.ref a1,.ref a2,.ref a3])->i<=10->H d=some (.dK kvs)->nameB nm=true->nm.length<=100->bZ kvs (Sum.inr nm)=none->yt K H a1 ns->yt K H a2 is->yt K H a3 os->ns.length=cN i->is.length=cI i->os.length=cO i->((∀v∈ns,Val v))->(∀H' p,aM H H'->H p=none->dX K t H' p i (.str nm) ns is os->Q (.ref p) H')->vL K t vs H Q E
theorem Et (T:Txt w K mg t):FO P w K mg base 5 t.yE ["row", "known"] (vL K t):=by
 have sc:=T.rY.sc ["row", "known"]
 refine T.rY.F.ok sc ln (fun _ _ _ _ H vs Q E hr h=>?_)
 obtain⟨i,nm,r,d,a1,a2,a3,ns,is,os,kvs,rfl,hr1,hi,hd,hz,hl,hv,q1,q2,q3,l1,l2,l3,hV,k⟩:=h
 refine⟨_,(au (bQ (mq (jX (d7 (CV T) T.vm hr (aa (aV cP (pv 0) az (fun _ _=>rfl)) ak aF))))
   (aA dz)
   bD)
  (au (bH (d7 (wz T) T.mK hr (aa (aV cP (pv 0) az (fun _ _=>rfl)) (aa (pv 1) ak aj) aF)))
  (aA (aO (d7 (Hc T) T.Ao hr (aa (aV cP (pv 0) az (fun _ _=>rfl)) (aa (aV cP (pv 0) az (fun _ _=>rfl)) (aa (aV cP (pv 0) az (fun _ _=>rfl)) (aa (aV cP (pv 0) az (fun _ _=>rfl)) (aa (aV cP (pv 0) az (fun _ _=>rfl)) ak aF) aF) aF) aF) aF)))))),?_⟩
 refine⟨_,rfl,r,_,0,_,rfl,rfl,fu.of hr1,aN (j:=0) rfl,dh i,rfl,?_⟩
 rw [row_of]
 refine⟨_,rfl,cZ ?_⟩
 refine⟨_,rfl,r,_,1,_,rfl,rfl,fu.of hr1,aN (j:=1) rfl,_,rfl,nm,d,kvs,rfl,hd,hz,hl,hv,fun H1 s1=>?_⟩
 have e1:=fu.of (K:=K) (s1 _ _ hr1)
 exact⟨_,rfl,r,_,0,_,rfl,rfl,e1,aN (j:=0) rfl,_,rfl,r,_,1,_,rfl,rfl,e1,aN (j:=1) rfl,_,rfl,r,_,2,_,rfl,rfl,e1,aN (j:=2) rfl,_,rfl,r,_,3,_,rfl,rfl,e1,aN (j:=3) rfl,_,rfl,r,_,4,_,rfl,rfl,e1,aN (j:=4) rfl,i,.str nm,a1,a2,a3,ns,is,os,rfl,hi,s1.seqA q1,s1.seqA q2,s1.seqA q3,l1,l2,l3,hV,fun H2 p s2 np P=>k _ p (s1.trans s2) (s1.free np) P⟩
inductive yr (K:PySem.W.Frag) (vs:List V) (H:Hp) (Q:VK) (E:XK):Prop where
 | mk:∀(y:Str) (a rd d:Addr) (zs:List Str) (rk kvs:List (Key×V)),vs=[.str y,.ref a,.ref rd,.ref d]->fu K H a (zs.map V.str)->H rd=some (.dK rk)->rd≠d->H d=some (.dK kvs)->zs.Nodup->((∀z∈zs,(bZ rk (Sum.inr z)).isSome=true/\bZ kvs (Sum.inr z)=none))->kvs.length+zs.length<=1000->(Q .non (upd H d (.dK (kvs ++ zs.map fun l=>((Sum.inr l:Key),V.str y)))))->yr K vs H Q E
theorem yM (T:Txt w K mg t):FO P w K mg base 1 t.Ak ["part", "lanes", "rooms", "ends"] (yr K):=by
 have sc:=T.pY.sc ["part", "lanes", "rooms", "ends", "lane"]
 refine T.pY.F.ok sc ln (fun _ _ _ _ H vs Q E hr h=>?_)
 obtain⟨y,a,rd,d,zs,rk,kvs,rfl,hT,hrd,hne,hd,nd,hz,hlen,k⟩:=h
 refine⟨_,(aA (dw PassesOwn.never rfl (Ho (pv 1)) (gN sc 4)
   (au (bQ (PW.pt (xn (fY (jT hr.u1 (pv 4) (pv 2))) (qY (fY (wB hr.u1 (pv 4) (pv 3))))))
    (aA dz)
    bD)
   (aA (fU hr.u1 (pv 3) (pv 4) (pv 0) rfl))))),?_⟩
 have hl:sizeLine=16777216:=sizeLine_eq
 refine⟨_,rfl,a,rfl,⟨_,hT⟩,Tp (K:=K) (a:=a) (xs:=zs.map V.str) (fun j σ H'=>H'=upd H d (.dK (kvs ++ (zs.take j).map fun l=>((Sum.inr l:Key),V.str y)))/\∃v4,σ=[some (.str y),some (.ref a),some (.ref rd),some (.ref d),v4]) ⟨by rw [List.take_zero,List.map_nil,List.append_nil,Ha hd],none,rfl⟩ (fun j σ H' _ ⟨e,_⟩=>by rw [e];exact fO hd hT) ?_ ?_⟩
 ·rintro j x σ H' hx ⟨rfl,v4,rfl⟩
  rw [List.getElem?_map] at hx
  obtain⟨z,hzj,rfl⟩:=Option.map_eq_some_iff.mp hx
  have hj:j <zs.length:=(List.getElem?_eq_some_iff.mp hzj).1
  obtain⟨r1,r2⟩:=hz z (List.mem_of_getElem? hzj)
  obtain⟨rv,hrv⟩:=Option.isSome_iff_exists.mp r1
  have erd:upd H d (.dK (kvs ++ (zs.take j).map fun l=>((Sum.inr l:Key),V.str y))) rd=some (.dK rk):=by rw [aK hne];exact hrd
  have nin:z∉zs.take j:=fun hm=>by
   obtain⟨i,hi,ei⟩:=List.mem_iff_getElem.mp hm
   rw [List.length_take] at hi
   rw [List.getElem_take] at ei
   have e2:zs[j]=z:=by rw [List.getElem?_eq_getElem hj] at hzj;exact Option.some.inj hzj
   have:=(List.getElem_inj nd).mp (ei.trans e2.symm)
   omega
  have none':bZ (kvs ++ (zs.take j).map fun l=>((Sum.inr l:Key),V.str y)) (Sum.inr z)=none:=ir (by
   rw [List.map_append,List.mem_append,not_or]
   refine⟨fun hm=>?_,fun hm=>?_⟩
   ·have:(bZ kvs (Sum.inr z)).isSome=true:=by rw [<-qG];obtain⟨p,hp,e⟩:=List.mem_map.mp hm;exact List.any_eq_true.mpr ⟨p,hp,decide_eq_true e⟩
    rw [r2] at this
    cases this
   ·rw [List.map_map] at hm
    obtain⟨b,hb,e⟩:=List.mem_map.mp hm
    cases e
    exact nin hb)
  refine⟨_,rfl,_,rfl,rd,some rv,rfl,(by rw [<-hrv];exact dZ.k (k:=Sum.inr z) erd),_,rfl,cZ ?_⟩
  refine⟨_,rfl,_,rfl,d,none,rfl,(by rw [<-none'];exact dZ.k (k:=Sum.inr z) aq),_,rfl,cZ ?_⟩
  refine⟨_,rfl,_,rfl,_,rfl,d,_,rfl,pq.k (k:=Sum.inr z) aq (by rw [lP,lM,List.length_take];omega),?_,_,rfl⟩
  rw [pQ,lg _ none',List.append_assoc,List.take_succ,hzj,Option.toList_some,List.map_append]
  rfl
 ·rintro σ H' ⟨rfl,v4,rfl⟩
  rw [lM,List.take_length]
  exact k
inductive xX (K:PySem.W.Frag) (vs:List V) (H:Hp) (Q:VK) (E:XK):Prop where
 | mk:∀(r g d:Addr) (rk gk tk:List (Key×V)),vs=[.ref r,.ref g,.ref d]->H r=some (.dK rk)->H g=some (.dK gk)->H d=some (.dK tk)->r≠g->r≠d->((∀q∈rk,(bZ gk q.1).isSome=true/\(bZ tk q.1).isSome=true))->Q .non H->xX K vs H Q E
theorem Hm (T:Txt w K mg t):FO P w K mg base 1 t.zY ["rooms", "givers", "takers"] (xX K):=by
 have sc:=T.uA.sc ["rooms", "givers", "takers", "lane"]
 refine T.uA.F.ok sc ln (fun _ _ _ _ H vs Q E hr h=>?_)
 obtain⟨r,g,d,rk,gk,tk,rfl,h1,h2,h3,n1,n2,hA,k⟩:=h
 refine⟨_,(aA (nW (H0:=H) rfl (dw PassesOwn.never rfl (pM (pv 0)) (gN sc 3)
   (aA (bQ (PW.pt (xn (fY (jT hr.u1 (pv 3) (pv 1))) (qY (fY (jT hr.u1 (pv 3) (pv 2))))))
    (aA dz)
    bD))))),?_⟩
 refine⟨_,rfl,r,_,rfl,h1,fun o=>oK (fun j σ H'=>H'=upd H r (.frz o (.dK rk))/\∃v3,σ=[some (.ref r),some (.ref g),some (.ref d),v3]) ⟨rfl,none,rfl⟩ (fun j σ H' _ ⟨e,_⟩=>by rw [e];exact aq) ?_ ?_⟩
 ·rintro j kk w σ H' hj ⟨rfl,v3,rfl⟩
  obtain⟨a1,a2⟩:=hA _ (List.mem_of_getElem? hj)
  obtain⟨u1,b1⟩:=Option.isSome_iff_exists.mp a1
  obtain⟨u2,b2⟩:=Option.isSome_iff_exists.mp a2
  have e2:upd H r (.frz o (.dK rk)) g=some (.dK gk):=by rw [aK (Ne.symm n1)];exact h2
  have e3:upd H r (.frz o (.dK rk)) d=some (.dK tk):=by rw [aK (Ne.symm n2)];exact h3
  exact⟨_,rfl,_,rfl,g,some u1,rfl,(by rw [<-b1];exact dZ.k e2),_,rfl,cZ ⟨_,rfl,_,rfl,d,some u2,rfl,(by rw [<-b2];exact dZ.k e3),_,rfl,cZ ⟨rfl,_,rfl⟩⟩⟩
 ·rintro σ H' ⟨rfl,v3,rfl⟩
  refine⟨_,⟨r,o,_,aq,?_,rfl⟩,?_⟩
  ·intro o' u' z
   rw [show H r=_ from h1] at z
   cases z
  ·rw [pQ,Ha h1]
   exact k
noncomputable def Ss (H:Hp) (J:Addr):List (Key×V):=match H J with
 | some (.dK jk)=>jk
 | _=>[]
theorem NK {H:Hp} {J:Addr} {jk:List (Key×V)} (h:H J=some (.dK jk)):Ss H J=jk:=by
 unfold Ss
 rw [h]
theorem PP {f:PD->List Str} {ps:List PD} {j:Nat} {k:Key} {v:V} (h:(cH f ps)[j]?=some (k,v)):∃p∈ps,∃l∈f p,k=Sum.inr l/\v=.str p.name:=by
 have:=List.mem_of_getElem? h
 unfold cH at this
 obtain⟨p,hp,hm⟩:=List.mem_flatMap.mp this
 obtain⟨l,hl,e⟩:=List.mem_map.mp hm
 cases e
 exact⟨p,hp,l,hl,rfl,rfl⟩
noncomputable def RK (ps:List PD) (jk:List (Key×V)) (j:Nat):Prop:=∀i k v,i <j->(cH (·.outs) ps)[i]?=some (k,v)->∀a∈ps,∀b∈ps,∀l,k=Sum.inr l->l∈a.outs->l∈b.ins->gA jk a.name=gA jk b.name
theorem RK.all {ps:List PD} {jk:List (Key×V)} (h:RK ps jk (cH (·.outs) ps).length):∀a∈ps,∀b∈ps,∀l,l∈a.outs->l∈b.ins->gA jk a.name=gA jk b.name:=fun a ha b hb l la lb=>by
 have hm:((Sum.inr l:Key),V.str a.name)∈cH (·.outs) ps:=List.mem_flatMap.mpr ⟨a,ha,List.mem_map.mpr ⟨l,la,rfl⟩⟩
 obtain⟨i,hi,ei⟩:=List.mem_iff_getElem.mp hm
 exact h i _ _ hi (by rw [List.getElem?_eq_getElem hi,ei]) a ha b hb l rfl la lb
inductive uw (K:PySem.W.Frag) (vs:List V) (H:Hp) (Q:VK) (E:XK):Prop where
 | mk:∀(p0:PD) (g d:Addr) (ps:List PD),vs=[.str p0.name,.ref g,.ref d]->p0∈ps->ps.length<=16->H g=some (.dK (cH (·.outs) ps))->H d=some (.dK (cH (·.ins) ps))->g≠d->(ps.flatMap (·.outs)).Nodup->(ps.flatMap (·.ins)).Nodup->(ps.flatMap (·.outs)).Perm (ps.flatMap (·.ins))->((∃y,∀q∈ps,∃x∈q.ins ++ q.outs,Drawn.jd ps x y))->(∀H' J jk,aM H H'->H' J=some (.dK jk)->(∀p∈ps,gA jk p.name=true)->Q (.ref J) H')->uw K vs H Q E
theorem Es (T:Txt w K mg t):FO P w K mg base 1 t.wj ["part", "givers", "takers"] (uw K):=by
 have sc:=T.qp.sc ["part", "givers", "takers", "joined", "grown", "lane"]
 refine T.qp.F.ok sc ln (fun _ _ _ _ H vs Q E hr h=>?_)
 obtain⟨p0,g,d,ps,rfl,hp0,hps,h1,h2,n1,no,ni,pm,hang,k⟩:=h
 refine⟨_,(au (sN sc 3 (Vd (SN (pv 0) mD UJ) rfl rfl (by simp) (by decide)))
  (au (sN sc 4 mD)
  (au (Dz PassesOwn.never (jX (pv 4))
   (au (sN sc 4 mD)
   (aA (nW (H0:=H) rfl (dw PassesOwn.never rfl (pM (pv 1)) (gN sc 5)
    (aA (gW (bQ (bc JS (Il (wB hr.u1 (cB hr.u1 (pv 1) (pv 5) (fun _ _=>rfl)) (pv 3))) (Il (wB hr.u1 (cB hr.u1 (pv 2) (pv 5) (fun _ _=>rfl)) (pv 3))) (bL _))
     (au (fU hr.u1 (pv 3) (cB hr.u1 (pv 1) (pv 5) (fun _ _=>rfl)) mD rfl)
     (au (fU hr.u1 (pv 3) (cB hr.u1 (pv 2) (pv 5) (fun _ _=>rfl)) mD rfl)
     (aA (sN sc 4 mD))))
     bD))))))))
  (aA (aO (pv 3)))))),?_⟩
 have hl:sizeLine=16777216:=sizeLine_eq
 refine fun J nJ=>⟨_,rfl,aq,[((Sum.inr p0.name:Key),V.bl true)],rfl,by show 1<=15;decide,?_⟩
 rw [pQ]
 have s0:aM H (upd H J (.dK (uv [] [((Sum.inr p0.name:Key),V.bl true)]))):=aB nJ
 have e0:(upd H J (.dK (uv [] [((Sum.inr p0.name:Key),V.bl true)]))) J=some (.dK [((Sum.inr p0.name:Key),V.bl true)]):=aq
 generalize upd H J (.dK (uv [] [((Sum.inr p0.name:Key),V.bl true)]))=H0 at s0 e0 ⊢
 have ngJ:J≠g:=Ne.symm (aD h1 nJ)
 have ndJ:J≠d:=Ne.symm (aD h2 nJ)
 have melt:∀{H':Hp} {o:Obj},jK g H H'->H' g=some (.frz o (.dK (cH (·.outs) ps)))->aM H (upd H' g (.dK (cH (·.outs) ps))):=fun hb hg b u e=>by
  by_cases h:b=g
  ·subst h;rw [aq];rw [h1] at e;exact e
  ·rw [aK h];exact hb b u h e
 have m0:n6 ps [((Sum.inr p0.name:Key),V.bl true)]<=16:=Nat.le_trans (List.length_filter_le _ _) hps
 refine Dp (fun σ H'=>aM H H'/\∃b v5 jk,σ=[some (.str p0.name),some (.ref g),some (.ref d),some (.ref J),some (.bl b),v5]/\H' J=some (.dK jk)/\gA jk p0.name=true/\jk.length+2 * n6 ps jk<=40/\(b=false->RK ps jk (cH (·.outs) ps).length))
  (fun σ H'=>match σ with | [_,_,_,_,some (.bl b),_]=>(if b then 1 else 0)+2 * n6 ps (Ss H' J) | _=>0) ⟨s0,true,none,_,rfl,e0,by simp [gA,bZ],by rw [List.length_singleton];omega,by intro z;cases z⟩ ?_ ?_
 ·rintro σ H1 ⟨s1,b,v5,jk,rfl,hJ,hp,hlen,hev⟩
  cases b with
  | false=>exact⟨_,rfl,_,rfl,cZ ⟨_,rfl,k _ J jk s1 hJ (Wu no ni pm hang (hev rfl).all hp0 hp)⟩⟩
  | true=>
   refine⟨_,rfl,_,rfl,iW ?_⟩
   refine⟨_,rfl,g,_,rfl,s1 _ _ h1,fun o=>?_⟩
   have gD:∀{H':Hp},jK g H H'->H' d=some (.dK (cH (·.ins) ps)):=fun hb=>hb d _ (Ne.symm n1) h2
   refine oK (fun j σ H'=>jK g H H'/\H' g=some (.frz o (.dK (cH (·.outs) ps)))/\∃b v5 jk',σ=[some (.str p0.name),some (.ref g),some (.ref d),some (.ref J),some (.bl b),v5]/\H' J=some (.dK jk')/\gA jk' p0.name=true/\jk'.length+2 * n6 ps jk'<=40/\((b=false/\jk'=jk/\RK ps jk j)∨(b=true/\n6 ps jk' <n6 ps jk)))
    ⟨fun b u hn e=>by rw [aK hn];exact s1 b u e,aq,false,v5,jk,rfl,by rw [aK ngJ];exact hJ,hp,hlen,.inl ⟨rfl,rfl,fun i _ _ hi=>absurd hi (by omega)⟩⟩ (fun j σ H' _ h=>h.2.1) ?_ ?_
   ·rintro j kk w σ H' hj ⟨hb,hg,b,v5,jk',rfl,hJ',hp',hlen',hv⟩
    obtain⟨a,ha,l,la,rfl,rfl⟩:=PP hj
    obtain⟨b',hb',lb⟩:=List.mem_flatMap.mp (pm.mem_iff.mp (List.mem_flatMap.mpr ⟨a,ha,la⟩))
    have ga:dZ H' g (.str l) (some (.str a.name)):=.inl ⟨_,Sum.inr l,.inr ⟨o,hg⟩,rfl,(eQ no ha la).symm⟩
    have gb:dZ H' d (.str l) (some (.str b'.name)):=by rw [<-eQ ni hb' lb];exact dZ.k (k:=Sum.inr l) (gD hb)
    have ja:dZ H' J (.str a.name) (bZ jk' (Sum.inr a.name)):=dZ.k (k:=Sum.inr a.name) hJ'
    have jb:dZ H' J (.str b'.name) (bZ jk' (Sum.inr b'.name)):=dZ.k (k:=Sum.inr b'.name) hJ'
    have nm:∀a2∈ps,∀b2∈ps,l∈a2.outs->l∈b2.ins->a2.name=a.name/\b2.name=b'.name:=fun a2 ha2 b2 hb2 q1 q2=>by
     have e1:=eQ no ha2 q1
     rw [eQ no ha la] at e1
     have e2:=eQ ni hb2 q2
     rw [eQ ni hb' lb] at e2
     simp only [Option.some.injEq,V.str.injEq] at e1 e2
     exact⟨e1.symm,e2.symm⟩
    refine⟨fun σ H''=>jK g H H''/\H'' g=some (.frz o (.dK (cH (·.outs) ps)))/\∃b jk'',σ=[some (.str p0.name),some (.ref g),some (.ref d),some (.ref J),some (.bl b),some (.str l)]/\H'' J=some (.dK jk'')/\gA jk'' p0.name=true/\jk''.length+2 * n6 ps jk''<=40/\((b=false/\jk''=jk/\RK ps jk (j+1))∨(b=true/\n6 ps jk'' <n6 ps jk)),?_,?_⟩
    ·refine⟨_,rfl,_,rfl,g,_,rfl,ga,_,rfl,J,_,rfl,ja,?_⟩
     refine⟨_,rfl,_,rfl,d,_,rfl,gb,_,rfl,J,_,rfl,jb,rfl,_,rfl,?_⟩
     change if (!decide (V.bl (gA jk' a.name)=V.bl (gA jk' b'.name)))=true then _ else _
     refine jH (fun hne=>?_) (fun heq=>?_)
     ·have hne':gA jk' a.name≠gA jk' b'.name:=fun z=>by rw [z] at hne;simp at hne
      refine⟨_,rfl,_,rfl,_,rfl,g,_,rfl,ga,J,_,rfl,pq.k (k:=Sum.inr a.name) hJ' (by omega),?_⟩
      have b2:jK g H (upd H' J (.dK (putK jk' (Sum.inr a.name) (.bl true)))):=fun x u hn e=>by rw [aK (aD e nJ)];exact hb x u hn e
      have g2:(upd H' J (.dK (putK jk' (Sum.inr a.name) (.bl true)))) g=some (.frz o (.dK (cH (·.outs) ps))):=by rw [aK (Ne.symm ngJ)];exact hg
      have gb2:dZ (upd H' J (.dK (putK jk' (Sum.inr a.name) (.bl true)))) d (.str l) (some (.str b'.name)):=by rw [<-eQ ni hb' lb];exact dZ.k (k:=Sum.inr l) (gD b2)
      have len1:=lz jk' (Sum.inr a.name:Key) (.bl true)
      have len2:=lz (putK jk' (Sum.inr a.name) (.bl true)) (Sum.inr b'.name:Key) (.bl true)
      refine⟨_,rfl,_,rfl,_,rfl,d,_,rfl,gb2,J,_,rfl,pq.k (k:=Sum.inr b'.name) aq (by omega),?_⟩
      rw [pQ]
      have has2:∀x,gA (putK (putK jk' (Sum.inr a.name) (.bl true)) (Sum.inr b'.name) (.bl true)) x=(decide (x=b'.name) || (decide (x=a.name) || gA jk' x)):=fun x=>by rw [Kd,Kd]
      have mono:∀x,gA jk' x=true->gA (putK (putK jk' (Sum.inr a.name) (.bl true)) (Sum.inr b'.name) (.bl true)) x=true:=fun x hx=>by rw [has2,hx];simp
      have lt:n6 ps (putK (putK jk' (Sum.inr a.name) (.bl true)) (Sum.inr b'.name) (.bl true)) <n6 ps jk':=by
       cases hA:gA jk' a.name
       ·exact Kh mono ha hA (by rw [has2];simp)
       ·cases hB:gA jk' b'.name
        ·exact Kh mono hb' hB (by rw [has2];simp)
        ·rw [hA,hB] at hne';exact absurd rfl hne'
      refine⟨fun x u hn e=>by rw [aK (aD e nJ)];exact hb x u hn e,by rw [aK (Ne.symm ngJ)];exact hg,true,_,rfl,aq,mono _ hp',by omega,.inr ⟨rfl,?_⟩⟩
      rcases hv with ⟨_,rfl,_⟩ | ⟨_,hv⟩
      ·exact lt
      ·omega
     ·have heq':gA jk' a.name=gA jk' b'.name:=by
       cases hA:gA jk' a.name <;> cases hB:gA jk' b'.name <;> rw [hA,hB] at heq <;> simp_all
      refine⟨hb,hg,b,jk',rfl,hJ',hp',hlen',?_⟩
      rcases hv with ⟨rfl,rfl,hE⟩ | hv
      ·refine .inl ⟨rfl,rfl,fun i k2 v2 hi e2 a2 ha2 b2 hb2 l2 ek q1 q2=>?_⟩
       rcases Nat.lt_or_ge i j with h | h
       ·exact hE i k2 v2 h e2 a2 ha2 b2 hb2 l2 ek q1 q2
       ·have:i=j:=by omega
        subst this
        rw [hj] at e2
        cases e2
        cases ek
        obtain⟨x1,x2⟩:=nm a2 ha2 b2 hb2 q1 q2
        rw [x1,x2]
        exact heq'
      ·exact .inr hv
    ·rintro σ H'' ⟨hb,hg,b,jk'',rfl,r⟩
     exact⟨hb,hg,b,_,jk'',rfl,r⟩
   ·rintro σ H' ⟨hb,hg,b,v5',jk',rfl,hJ',hp',hlen',hv⟩
    refine⟨_,⟨g,o,_,hg,(fun o' u' z=>by rw [show H g=_ from h1] at z;cases z),rfl⟩,?_⟩
    have eJ:(upd H' g (.dK (cH (·.outs) ps))) J=some (.dK jk'):=by rw [aK ngJ];exact hJ'
    refine⟨⟨melt hb hg,b,v5',jk',rfl,eJ,hp',hlen',fun z=>?_⟩,?_⟩
    ·rcases hv with ⟨_,rfl,hE⟩ | ⟨h,_⟩
     ·exact hE
     ·rw [h] at z;cases z
    ·show(if b=true then 1 else 0)+2 * n6 ps (Ss _ J) <(if true=true then 1 else 0)+2 * n6 ps (Ss _ J)
     rw [NK eJ,NK hJ]
     rcases hv with ⟨rfl,rfl,_⟩ | ⟨rfl,h⟩
     ·simp
     ·simp;omega
 ·intro σ H' Q' Q'' hm hq
  obtain⟨v,e,b,e2,q⟩:=hq
  exact⟨v,e,b,e2,hm _ _ q⟩
inductive uy (K:PySem.W.Frag) (vs:List V) (H:Hp) (Q:VK) (E:XK):Prop where
 | mk:∀(L g d:Addr) (ps:List PD),vs=[.ref L,.ref g,.ref d]->(bJ K H L (ps.map fun p=>V.str p.name))->1<=ps.length->ps.length<=16->H g=some (.dK (cH (·.outs) ps))->H d=some (.dK (cH (·.ins) ps))->g≠d->(ps.flatMap (·.outs)).Nodup->(ps.flatMap (·.ins)).Nodup->(ps.flatMap (·.outs)).Perm (ps.flatMap (·.ins))->((∃y,∀q∈ps,∃x∈q.ins ++ q.outs,Drawn.jd ps x y))->(∀H',aM H H'->Q .non H')->uy K vs H Q E
theorem Eb (T:Txt w K mg t):FO P w K mg base 2 t.vQ ["names", "givers", "takers"] (uy K):=by
 have sc:=T.qb.sc ["names", "givers", "takers", "joined", "name"]
 refine T.qb.F.ok sc ln (fun _ _ _ _ H vs Q E hr h=>?_)
 obtain⟨L,g,d,ps,rfl,hL,hp1,hps,h1,h2,n1,no,ni,pm,hang,k⟩:=h
 refine⟨_,(au (sN sc 3 (d7 (Es T) T.qp hr (aa (aV aX (pv 0) az (fun _ _=>rfl)) (aa (pv 1) (aa (pv 2) ak aj) aj) aF)))
  (aA (dw PassesOwn.never rfl (bM (pv 0)) (gN sc 4)
   (aA (bQ (fY (jT hr.u1 (pv 4) (pv 3)))
    (aA dz)
    bD))))),?_⟩
 obtain⟨p0,pr,rfl⟩:∃p0 pr,ps=p0:: pr:=by
  cases ps with
  | nil=>simp at hp1
  | cons a r=>exact⟨a,r,rfl⟩
 refine⟨_,rfl,L,_,0,_,rfl,rfl,hL,aN (j:=0) rfl,_,rfl,_,rfl,p0,g,d,_,rfl,List.mem_cons_self,hps,h1,h2,n1,no,ni,pm,hang,fun H1 J jk s1 eJ hA=>?_⟩
 refine⟨_,rfl,L,rfl,⟨_,s1.seq hL⟩,dH (K:=K) (a:=L) (xs:=(p0:: pr).map fun p=>V.str p.name) (fun j σ H'=>H'=H1/\∃v4,σ=[some (.ref L),some (.ref g),some (.ref d),some (.ref J),v4]) ⟨rfl,none,rfl⟩ (fun j σ H' _ ⟨e,_⟩=>by rw [e];exact s1.seq hL) ?_ ?_⟩
 ·rintro j x σ H' hx ⟨rfl,v4,rfl⟩
  rw [List.getElem?_map] at hx
  obtain⟨p,hp,rfl⟩:=Option.map_eq_some_iff.mp hx
  obtain⟨u,hu⟩:=Option.isSome_iff_exists.mp (hA p (List.mem_of_getElem? hp))
  exact⟨_,rfl,_,rfl,J,some u,rfl,(by rw [<-hu];exact dZ.k (k:=Sum.inr p.name) eJ),_,rfl,cZ ⟨rfl,_,rfl⟩⟩
 ·rintro σ H' ⟨rfl,v4,rfl⟩
  exact k _ s1
inductive pX (K:PySem.W.Frag) (t:jw) (vs:List V) (H:Hp) (Q:VK) (E:XK):Prop where
 | mk:∀(n:Addr) (ls:List aH) (ps:List PD),vs=[.ref n]->gH K t H n ls ps->(∀l,H l=none->Q (.ref l) (upd H l (.lst (ls.map fun x=>V.str x.name))))->pX K t vs H Q E
theorem jz (T:Txt w K mg t):FO P w K mg base 1 t.jP ["self"] (pX K t):=by
 have sc:=T.fZ.sc ["self"]
 refine T.fZ.F.ok sc ln (fun _ _ _ _ H vs Q E hr h=>?_)
 obtain⟨n,ls,ps,rfl,N,k⟩:=h
 refine⟨_,(aA (aO (fj (oR rfl) (by rfl) T.wG rN (aa (bj (pv 0) rfl) ak bF)))),?_⟩
 obtain⟨dx,fs,R,F,Pd,G,Tk,FL,PL,W⟩:=id N
 refine⟨_,rfl,n,_,dx,fs,_,rfl,W.obj,T.aQ.c,T.aQ.na.1,W.fl.has ("rooms",.ref R) (by simp),R,_,rfl,.inl W.rooms,fun l hl=>?_⟩
 unfold eY
 rw [List.map_map]
 exact k l hl
inductive pG (K:PySem.W.Frag) (t:jw) (vs:List V) (H:Hp) (Q:VK) (E:XK):Prop where
 | mk:∀(n:Addr) (ls:List aH) (ps:List PD),vs=[.ref n]->gH K t H n ls ps->(∀l,H l=none->Q (.ref l) (upd H l (.lst (ps.map fun x=>V.str x.name))))->pG K t vs H Q E
theorem fC (T:Txt w K mg t):FO P w K mg base 1 t.jU ["self"] (pG K t):=by
 have sc:=T.dJ.sc ["self"]
 refine T.dJ.F.ok sc ln (fun _ _ _ _ H vs Q E hr h=>?_)
 obtain⟨n,ls,ps,rfl,N,k⟩:=h
 refine⟨_,(aA (aO (fj (oR rfl) (by rfl) T.wG rN (aa (bj (pv 0) rfl) ak bF)))),?_⟩
 obtain⟨dx,fs,R,F,Pd,G,Tk,FL,PL,W⟩:=id N
 refine⟨_,rfl,n,_,dx,fs,_,rfl,W.obj,T.aQ.c,T.aQ.na.2.2.1,W.fl.has ("parts",.ref Pd) (by simp),Pd,_,rfl,.inl W.parts,fun l hl=>?_⟩
 unfold cL
 rw [List.map_map]
 have e:ps.map (fun x=>V.str x.name)=PL.map (fun q=>V.str q.1.name):=by rw [<-W.pls,List.map_map];rfl
 rw [e] at k
 exact k l hl
theorem Nx (T:Txt w K mg t) (i:Nat):MethAt P w K mg base Bp 1 (cls t i) "kind" (gZ i):=match i with
 | 0=>⟨_,_,_,T.iz.c,(T.pW.me T.iz.me.2.1),T.pW.b,Ik T⟩
 | 1=>⟨_,_,_,T.iJ.c,(T.pH.me T.iJ.me.2.1),T.pH.b,IW T⟩
 | 2=>⟨_,_,_,T.iu.c,(T.pU.me T.iu.me.2.1),T.pU.b,Hw T⟩
 | 3=>⟨_,_,_,T.iH.c,(T.pA.me T.iH.me.2.1),T.pA.b,IK T⟩
 | 4=>⟨_,_,_,T.iC.c,(T.pK.me T.iC.me.2.1),T.pK.b,G8 T⟩
 | 5=>⟨_,_,_,T.iy.c,(T.pF.me T.iy.me.2.1),T.pF.b,Hz T⟩
 | 6=>⟨_,_,_,T.lE.c,(T.rM.me T.lE.me.2.1),T.rM.b,JT T⟩
 | 7=>⟨_,_,_,T.iB.c,(T.pZ.me T.iB.me.2.1),T.pZ.b,G6 T⟩
 | 8=>⟨_,_,_,T.fK.c,(T.mX.me T.fK.me.2.1),T.mX.b,EY T⟩
 | 9=>⟨_,_,_,T.dO.c,(T.j6.me T.dO.me.2.1),T.j6.b,Ci T⟩
 | n+10=>⟨_,_,_,T.fB.c,(T.mZ.me T.fB.me.2.1),T.mZ.b,Fi T⟩
inductive lH (K:PySem.W.Frag) (t:jw) (vs:List V) (H:Hp) (Q:VK) (E:XK):Prop where
 | mk:∀(n:Addr) (ls:List aH) (ps:List PD) (x:Str),vs=[.ref n,.str x]->gH K t H n ls ps->(∀p,H p=none->Q (.ref p) (upd H p (.lst (dN ps x))))->lH K t vs H Q E
theorem lA (T:Txt w K mg t):FO P w K mg base 2 t.iY ["self", "kind"] (lH K t):=by
 have sc:=T.fQ.sc ["self", "kind"]
 refine T.fQ.F.ok sc ln (fun _ _ _ _ H vs Q E hr h=>?_)
 obtain⟨n,ls,ps,x,rfl,N,k⟩:=h
 refine⟨_,(aA (aO (UG (H0:=H) rfl (eU [0,1] ["self", "kind"] (aR (inClass (top 64) 5)) rfl (pM (bj (pv 0) rfl)) (fun _ _ _ _ _=>(lX (bc iG (KR (P:=P) (w:=w) (K:=K) (mg:=mg) (base:=base) (CX:=Bp) (k:=1) (E:=E0) rfl rfl rfl rfl rfl (cB hr.u1 (Jh (K:=K) rfl (pv 1) rfl) (pv 0) (fun _ _=>rfl)) (hr.mono (by decide)) gK) (pv 2) (bL _)))) (fun _ _ _ _ _=>(pv 0)))))),?_⟩
 obtain⟨dx,fs,R,F,Pd,G,Tk,FL,PL,W⟩:=id N
 have hz:sizeLine=16777216:=sizeLine_eq
 have hp:=W.fit.p16
 have h5:=W.parts
 have lpl:PL.length=ps.length:=by rw [<-W.pls,lM]
 refine⟨_,rfl,n,_,dx,fs,_,rfl,W.obj,T.aQ.c,T.aQ.na.2.2.1,W.fl.has ("parts",.ref Pd) (by simp),Pd,_,rfl,h5,fun o=>?_⟩
 refine Oa (fun j ys H'=>H'=upd H Pd (.frz o (.dK (cL PL)))/\ys=dN ((PL.take j).map (·.1)) x) (by unfold cL;rw [lM];omega) ⟨rfl,by simp [dN]⟩ ?_ ?_ ?_ ?_
 ·rintro j ys H' ⟨_,rfl⟩
  have:=xW ((PL.take j).map (·.1)) x
  rw [lM,List.length_take] at this
  omega
 ·rintro j ys H' _ ⟨rfl,_⟩
  exact aq
 ·rintro j kk v ys H' hj ⟨rfl,rfl⟩
  unfold cL at hj
  rw [List.getElem?_map] at hj
  obtain⟨q,hq,e⟩:=Option.map_eq_some_iff.mp hj
  cases e
  have hm:=List.mem_of_getElem? hq
  obtain⟨dxp,tn,ti,to,p1,p2,p3,p4⟩:=((W.pats q hm).chill (v:=.frz o (.dK (cL PL))) h5).ex
  refine⟨_,rfl,n,_,dx,fs,_,rfl,jo h5 W.obj (by intro _ z;cases z),T.aQ.c,T.aQ.na.2.2.1,W.fl.has ("parts",.ref Pd) (by simp),_,rfl,Pd,_,rfl,(by rw [<-W.partV hm];exact .inl ⟨_,Sum.inr q.1.name,.inr ⟨o,aq⟩,rfl,rfl⟩),?_⟩
  refine⟨q.2,cls t q.1.kind,dxp,_,gZ q.1.kind,rfl,p1,rG _ _ _ _ (by decide +kernel) (by decide +kernel) (by decide +kernel) (by decide +kernel),Nx T q.1.kind,_,rfl,_,rfl,rfl,_,rfl,?_⟩
  rw [List.take_succ,hq,Option.toList_some,List.map_append,List.map_singleton,N8]
  refine jH (fun e=>?_) (fun e=>?_)
  ·have e':dh q.1.kind=x:=by simpa using e
   rw [if_pos e']
   exact⟨_,rfl,rfl,rfl⟩
  ·have e':¬dh q.1.kind=x:=by simpa using e
   rw [if_neg e']
   exact⟨rfl,rfl⟩
 ·rintro ys H' ⟨rfl,rfl⟩ D hD
  refine⟨_,⟨Pd,o,cL PL,?_,?_,rfl⟩,?_⟩
  ·rw [aK (by rintro rfl;rw [aq] at hD;cases hD)]
   exact aq
  ·intro o' u z
   rw [show H Pd=_ from h5] at z
   cases z
  ·rw [Pa h5 hD]
   have:=k D (Ls hD)
   rw [show(cL PL).length=PL.length by unfold cL;rw [lM],List.take_length,W.pls]
   exact this
inductive yK (K:PySem.W.Frag) (t:jw) (vs:List V) (H:Hp) (Q:VK) (E:XK):Prop where
 | mk:∀(n:Addr) (ls:List aH) (ps:List PD),vs=[.ref n]->gH K t H n ls ps->(∀p,H p=none->Q (.ref p) (upd H p (.lst (dN ps "give"))))->yK K t vs H Q E
theorem rU (T:Txt w K mg t):FO P w K mg base 3 t.ul ["self"] (yK K t):=by
 have sc:=T.kW.sc ["self"]
 refine T.kW.F.ok sc ln (fun _ _ _ _ H vs Q E hr h=>?_)
 obtain⟨n,ls,ps,rfl,N,k⟩:=h
 refine⟨_,(aA (aO (zb (pv 0) T.aQ T.aQ.me.2.2.2.2.1 (lA T) T.fQ hr (aa bI ak ao)))),?_⟩
 obtain⟨dx,fs,R,F,Pd,G,Tk,FL,PL,W⟩:=id N
 exact⟨_,rfl,n,dx,fs,rfl,W.obj,W.fl.no _ (by decide +kernel),n,ls,ps,_,rfl,N,k⟩
inductive xf (K:PySem.W.Frag) (t:jw) (vs:List V) (H:Hp) (Q:VK) (E:XK):Prop where
 | mk:∀(n:Addr) (ls:List aH) (ps:List PD),vs=[.ref n]->gH K t H n ls ps->(∀p,H p=none->Q (.ref p) (upd H p (.lst (dN ps "take"))))->xf K t vs H Q E
theorem Je (T:Txt w K mg t):FO P w K mg base 3 t.tG ["self"] (xf K t):=by
 have sc:=T.uL.sc ["self"]
 refine T.uL.F.ok sc ln (fun _ _ _ _ H vs Q E hr h=>?_)
 obtain⟨n,ls,ps,rfl,N,k⟩:=h
 refine⟨_,(aA (aO (zb (pv 0) T.aQ T.aQ.me.2.2.2.2.1 (lA T) T.fQ hr (aa bI ak ao)))),?_⟩
 obtain⟨dx,fs,R,F,Pd,G,Tk,FL,PL,W⟩:=id N
 exact⟨_,rfl,n,dx,fs,rfl,W.obj,W.fl.no _ (by decide +kernel),n,ls,ps,_,rfl,N,k⟩
inductive jL (K:PySem.W.Frag) (t:jw) (vs:List V) (H:Hp) (Q:VK) (E:XK):Prop where
 | mk:∀(n:Addr) (ls:List aH) (ps:List PD) (x:Str),vs=[.ref n,.str x]->gH K t H n ls ps->(((x∈ls.map (·.name)/\∀H',aM H H'->Q .non H')∨False))->jL K t vs H Q E
theorem fc (T:Txt w K mg t):FO P w K mg base 2 t.iw ["self", "name"] (jL K t):=by
 have sc:=T.dg.sc ["self", "name"]
 refine T.dg.F.ok sc ln (fun _ _ _ _ H vs Q E hr h=>?_)
 obtain⟨n,ls,ps,x,rfl,N,h⟩:=h
 refine⟨_,(aA (bQ (bc iU (pv 1) (Pj (pv 0) T.aQ T.aQ.me.2.1 (jz T) T.fZ hr) (by with_unfolding_all rfl))
   (aA dz)
   bD)),?_⟩
 obtain⟨dx,fs,R,F,Pd,G,Tk,FL,PL,W⟩:=id N
 refine⟨_,rfl,_,rfl,n,dx,fs,rfl,W.obj,W.fl.no _ (by decide +kernel),n,ls,ps,rfl,N,fun l hl=>?_⟩
 have s1:=aB (o:=.lst (ls.map fun x=>V.str x.name)) hl
 refine⟨l,_,rfl,.inl (bJ.of aq),rfl,by simp [jO],_,rfl,?_⟩
 rw [DR (f:=fun x:aH=>x.name)]
 rcases h with ⟨hx,k⟩ | h
 ·rw [decide_eq_true hx]
  exact cZ (k _ s1)
 ·exact h.elim
inductive uT (K:PySem.W.Frag) (t:jw) (vs:List V) (H:Hp) (Q:VK) (E:XK):Prop where
 | mk:∀(n:Addr) (ls:List aH) (ps:List PD) (x:Str),vs=[.ref n,.str x]->gH K t H n ls ps->(((∃l∈ls,l.name=x/\∀H',aM H H'->Q (.int l.room) H')∨False))->uT K t vs H Q E
theorem ux (T:Txt w K mg t):FO P w K mg base 3 t.qw ["self", "name"] (uT K t):=by
 have sc:=T.km.sc ["self", "name"]
 refine T.km.F.ok sc ln (fun _ _ _ _ H vs Q E hr h=>?_)
 obtain⟨n,ls,ps,x,rfl,N,h⟩:=h
 refine⟨_,(au (bH (zb (pv 0) T.aQ T.aQ.me.2.2.2.2.2.2.2.1 (fc T) T.dg hr (aa (pv 1) ak aj)))
  (aA (aO (cB hr.u1 (bj (pv 0) rfl) (pv 1) (fun _ _=>rfl))))),?_⟩
 obtain⟨dx,fs,R,F,Pd,G,Tk,FL,PL,W⟩:=id N
 refine⟨_,rfl,n,dx,fs,rfl,W.obj,W.fl.no _ (by decide +kernel),_,rfl,n,ls,ps,x,rfl,N,?_⟩
 rcases h with ⟨l,hl,rfl,k⟩ | h
 ·refine .inl ⟨List.mem_map.mpr ⟨l,hl,rfl⟩,fun H1 s1=>?_⟩
  have W1:=W.same s1
  have hv:=W1.room hl
  refine⟨_,rfl,n,_,dx,fs,_,rfl,W1.obj,T.aQ.c,T.aQ.na.1,W1.fl.has ("rooms",.ref R) (by simp),_,rfl,R,_,rfl,(by rw [<-hv];exact dZ.k (k:=Sum.inr l.name) W1.rooms),?_⟩
  exact k _ s1
 ·exact .inr h
inductive sU (K:PySem.W.Frag) (t:jw) (vs:List V) (H:Hp) (Q:VK) (E:XK):Prop where
 | mk:∀(n:Addr) (ls:List aH) (ps:List PD) (x:Str),vs=[.ref n,.str x]->gH K t H n ls ps->(((∃l∈ls,l.name=x/\∀H' p,aM H H'->H p=none->H' p=some (.lst (l.first.map V.int))->Q (.ref p) H')∨False))->sU K t vs H Q E
theorem sO (T:Txt w K mg t):FO P w K mg base 3 t.ou ["self", "name"] (sU K t):=by
 have sc:=T.jG.sc ["self", "name"]
 refine T.jG.F.ok sc ln (fun _ _ _ _ H vs Q E hr h=>?_)
 obtain⟨n,ls,ps,x,rfl,N,h⟩:=h
 refine⟨_,(au (bH (zb (pv 0) T.aQ T.aQ.me.2.2.2.2.2.2.2.1 (fc T) T.dg hr (aa (pv 1) ak aj)))
  (aA (aO (fj yx (by rfl) T.wG rN (aa (cB hr.u1 (bj (pv 0) rfl) (pv 1) (fun _ _=>rfl)) ak aF))))),?_⟩
 obtain⟨dx,fs,R,F,Pd,G,Tk,FL,PL,W⟩:=id N
 refine⟨_,rfl,n,dx,fs,rfl,W.obj,W.fl.no _ (by decide +kernel),_,rfl,n,ls,ps,x,rfl,N,?_⟩
 rcases h with ⟨l,hl,rfl,k⟩ | h
 ·refine .inl ⟨List.mem_map.mpr ⟨l,hl,rfl⟩,fun H1 s1=>?_⟩
  have W1:=W.same s1
  obtain⟨q,hq,eq⟩:∃q∈FL,q.1=l:=by
   rw [<-W.fls] at hl
   obtain⟨q,hq,e⟩:=List.mem_map.mp hl
   exact⟨q,hq,e⟩
  subst eq
  have hv:=W1.firstV hq
  refine⟨_,rfl,n,_,dx,fs,_,rfl,W1.obj,T.aQ.c,T.aQ.na.2.1,W1.fl.has ("firsts",.ref F) (by simp),_,rfl,F,_,rfl,(by rw [<-hv];exact dZ.k (k:=Sum.inr q.1.name) W1.firsts),?_⟩
  exact⟨q.2,_,rfl,.inr (W1.tups q hq),fun p hp=>k _ p (s1.trans (aB hp)) (s1.free hp) aq⟩
 ·exact .inr h
inductive sy (K:PySem.W.Frag) (t:jw) (vs:List V) (H:Hp) (Q:VK) (E:XK):Prop where
 | mk:∀(n:Addr) (ls:List aH) (ps:List PD) (x:Str),vs=[.ref n,.str x]->gH K t H n ls ps->(((∃l∈ls,l.name=x/\∀p∈ps,l.name∈p.outs->∀H',aM H H'->Q (.str p.name) H')∨False))->sy K t vs H Q E
theorem Bh (T:Txt w K mg t):FO P w K mg base 3 t.ph ["self", "name"] (sy K t):=by
 have sc:=T.o7.sc ["self", "name"]
 refine T.o7.F.ok sc ln (fun _ _ _ _ H vs Q E hr h=>?_)
 obtain⟨n,ls,ps,x,rfl,N,h⟩:=h
 refine⟨_,(au (bH (zb (pv 0) T.aQ T.aQ.me.2.2.2.2.2.2.2.1 (fc T) T.dg hr (aa (pv 1) ak aj)))
  (aA (aO (cB hr.u1 (bj (pv 0) rfl) (pv 1) (fun _ _=>rfl))))),?_⟩
 obtain⟨dx,fs,R,F,Pd,G,Tk,FL,PL,W⟩:=id N
 refine⟨_,rfl,n,dx,fs,rfl,W.obj,W.fl.no _ (by decide +kernel),_,rfl,n,ls,ps,x,rfl,N,?_⟩
 rcases h with ⟨l,hl,rfl,k⟩ | h
 ·refine .inl ⟨List.mem_map.mpr ⟨l,hl,rfl⟩,fun H1 s1=>?_⟩
  have W1:=W.same s1
  obtain⟨p,hp,hlp⟩:∃p∈ps,l.name∈p.outs:=List.mem_flatMap.mp (W.fit.whole.outs.mem_iff.mpr (List.mem_map.mpr ⟨l,hl,rfl⟩))
  have hv:=eQ (f:=(·.outs)) W.ono hp hlp
  refine⟨_,rfl,n,_,dx,fs,_,rfl,W1.obj,T.aQ.c,T.aQ.na.2.2.2.1,W1.fl.has ("givers",.ref G) (by simp),_,rfl,G,_,rfl,(by rw [<-hv];exact dZ.k (k:=Sum.inr l.name) W1.givers),?_⟩
  exact k p hp hlp _ s1
 ·exact .inr h
inductive sI (K:PySem.W.Frag) (t:jw) (vs:List V) (H:Hp) (Q:VK) (E:XK):Prop where
 | mk:∀(n:Addr) (ls:List aH) (ps:List PD) (x:Str),vs=[.ref n,.str x]->gH K t H n ls ps->(((∃l∈ls,l.name=x/\∀p∈ps,l.name∈p.ins->∀H',aM H H'->Q (.str p.name) H')∨False))->sI K t vs H Q E
theorem Bg (T:Txt w K mg t):FO P w K mg base 3 t.nQ ["self", "name"] (sI K t):=by
 have sc:=T.oE.sc ["self", "name"]
 refine T.oE.F.ok sc ln (fun _ _ _ _ H vs Q E hr h=>?_)
 obtain⟨n,ls,ps,x,rfl,N,h⟩:=h
 refine⟨_,(au (bH (zb (pv 0) T.aQ T.aQ.me.2.2.2.2.2.2.2.1 (fc T) T.dg hr (aa (pv 1) ak aj)))
  (aA (aO (cB hr.u1 (bj (pv 0) rfl) (pv 1) (fun _ _=>rfl))))),?_⟩
 obtain⟨dx,fs,R,F,Pd,G,Tk,FL,PL,W⟩:=id N
 refine⟨_,rfl,n,dx,fs,rfl,W.obj,W.fl.no _ (by decide +kernel),_,rfl,n,ls,ps,x,rfl,N,?_⟩
 rcases h with ⟨l,hl,rfl,k⟩ | h
 ·refine .inl ⟨List.mem_map.mpr ⟨l,hl,rfl⟩,fun H1 s1=>?_⟩
  have W1:=W.same s1
  obtain⟨p,hp,hlp⟩:∃p∈ps,l.name∈p.ins:=List.mem_flatMap.mp (W.fit.whole.ins.mem_iff.mpr (List.mem_map.mpr ⟨l,hl,rfl⟩))
  have hv:=eQ (f:=(·.ins)) W.ini hp hlp
  refine⟨_,rfl,n,_,dx,fs,_,rfl,W1.obj,T.aQ.c,T.aQ.na.2.2.2.2.1,W1.fl.has ("takers",.ref Tk) (by simp),_,rfl,Tk,_,rfl,(by rw [<-hv];exact dZ.k (k:=Sum.inr l.name) W1.takers),?_⟩
  exact k p hp hlp _ s1
 ·exact .inr h
inductive uM (K:PySem.W.Frag) (t:jw) (vs:List V) (H:Hp) (Q:VK) (E:XK):Prop where
 | mk:∀(n:Addr) (ls:List aH) (ps:List PD) (x:Str),vs=[.ref n,.str x]->gH K t H n ls ps->(((∃p∈ps,p.name=x/\∀H' q,aM H H'->dX K t H' q p.kind (.str p.name) (p.nums.map V.int) (p.ins.map V.str) (p.outs.map V.str)->Q (.ref q) H')∨False))->uM K t vs H Q E
theorem n8 (T:Txt w K mg t):FO P w K mg base 2 t.qg ["self", "name"] (uM K t):=by
 have sc:=T.jg.sc ["self", "name"]
 refine T.jg.F.ok sc ln (fun _ _ _ _ H vs Q E hr h=>?_)
 obtain⟨n,ls,ps,x,rfl,N,h⟩:=h
 refine⟨_,(au (bQ (bc iU (pv 1) (Pj (pv 0) T.aQ T.aQ.me.2.2.1 (fC T) T.dJ hr) (by with_unfolding_all rfl))
   (aA dz)
   bD)
  (aA (aO (cB hr.u1 (bj (pv 0) rfl) (pv 1) (fun _ _=>rfl))))),?_⟩
 obtain⟨dx,fs,R,F,Pd,G,Tk,FL,PL,W⟩:=id N
 refine⟨_,rfl,_,rfl,n,dx,fs,rfl,W.obj,W.fl.no _ (by decide +kernel),n,ls,ps,rfl,N,fun l hl=>?_⟩
 have s1:=aB (o:=.lst (ps.map fun x=>V.str x.name)) hl
 refine⟨l,_,rfl,.inl (bJ.of aq),rfl,by simp [jO],_,rfl,?_⟩
 rw [DR (f:=fun x:PD=>x.name)]
 rcases h with ⟨p,hp,rfl,k⟩ | h
 ·rw [decide_eq_true (List.mem_map.mpr ⟨p,hp,rfl⟩)]
  refine cZ ?_
  obtain⟨q,hq,eq⟩:∃q∈PL,q.1=p:=by
   rw [<-W.pls] at hp
   obtain⟨q,hq,e⟩:=List.mem_map.mp hp
   exact⟨q,hq,e⟩
  subst eq
  have W1:=W.same s1
  have hv:=W1.partV hq
  exact⟨_,rfl,n,_,dx,fs,_,rfl,W1.obj,T.aQ.c,T.aQ.na.2.2.1,W1.fl.has ("parts",.ref Pd) (by simp),_,rfl,Pd,_,rfl,(by rw [<-hv];exact dZ.k (k:=Sum.inr q.1.name) W1.parts),k _ q.2 s1 (W1.pats q hq)⟩
 ·exact h.elim
inductive BR (K:PySem.W.Frag) (t:jw) (vs:List V) (H:Hp) (Q:VK) (E:XK):Prop where
 | mk:∀(n:Addr) (ls:List aH) (ps:List PD),vs=[.ref n]->gH K t H n ls ps->(∀H',aM H H'->Q (Hg ps) H')->BR K t vs H Q E
theorem Kw (T:Txt w K mg t):FO P w K mg base 2 t.zg ["self"] (BR K t):=by
 have sc:=T.yO.sc ["self", "name"]
 refine T.yO.F.ok sc ln (fun _ _ _ _ H vs Q E hr h=>?_)
 obtain⟨n,ls,ps,rfl,N,k⟩:=h
 refine⟨_,(au (nW (H0:=H) rfl (dw PassesOwn.never rfl (pM (bj (pv 0) rfl)) (gN sc 1)
   (aA (bQ (bc vf (zH (CX:=Bp) (k:=1) (E:=E0) (cB hr.u1 (bj (pv 0) rfl) (pv 1) (fun _ _=>rfl)) (hr.mono (by decide)) gK) (bW (aa bI (aa bI ak ao) ao)) (by with_unfolding_all rfl))
    (aA (MK (H0:=H) rfl (aO (pv 1))))
    bD))))
  (aA (aO wY))),?_⟩
 obtain⟨dx,fs,R,F,Pd,G,Tk,FL,PL,W⟩:=id N
 have hz:sizeLine=16777216:=sizeLine_eq
 have h5:=W.parts
 have melt:∀{H':Hp} {o:Obj},jK Pd H H'->H' Pd=some (.frz o (.dK (cL PL)))->aM H (upd H' Pd (.dK (cL PL))):=fun hb hg b u e=>by
  by_cases h:b=Pd
  ·subst h;rw [aq];rw [h5] at e;exact e
  ·rw [aK h];exact hb b u h e
 refine⟨_,rfl,n,_,dx,fs,_,rfl,W.obj,T.aQ.c,T.aQ.na.2.2.1,W.fl.has ("parts",.ref Pd) (by simp),Pd,_,rfl,h5,fun o=>?_⟩
 refine oK (fun j σ H'=>jK Pd H H'/\H' Pd=some (.frz o (.dK (cL PL)))/\(∃v1,σ=[some (.ref n),v1])/\((PL.take j).map (·.1)).find? Ia=none) ⟨fun b u hn e=>by rw [aK hn];exact e,aq,⟨none,rfl⟩,rfl⟩ (fun j σ H' _ h=>h.2.1) ?_ ?_
 ·rintro j kk w σ H' hj ⟨hb,hg,⟨v1,rfl⟩,hf⟩
  unfold cL at hj
  rw [List.getElem?_map] at hj
  obtain⟨q,hq,e⟩:=Option.map_eq_some_iff.mp hj
  cases e
  have hm:=List.mem_of_getElem? hq
  have nPd:n≠Pd:=qM W.obj h5 (by intro z;cases z)
  obtain⟨dxp,tn,ti,to,p1,p2,p3,p4⟩:=id (W.pats q hm).ex
  have nq:q.2≠Pd:=qM p1 h5 (by intro z;cases z)
  refine⟨_,rfl,n,_,dx,fs,_,rfl,hb _ _ nPd W.obj,T.aQ.c,T.aQ.na.2.2.1,W.fl.has ("parts",.ref Pd) (by simp),_,rfl,Pd,_,rfl,(by rw [<-W.partV hm];exact .inl ⟨_,Sum.inr q.1.name,.inr ⟨o,hg⟩,rfl,rfl⟩),?_⟩
  refine⟨q.2,cls t q.1.kind,dxp,_,gZ q.1.kind,rfl,hb _ _ nq p1,rG _ _ _ _ (by decide +kernel) (by decide +kernel) (by decide +kernel) (by decide +kernel),Nx T q.1.kind,_,rfl,je,fun u nu=>?_⟩
  have nuP:Pd≠u:=aD hg nu
  have b2:jK Pd H (upd H' u (.tup [.str "choose",.str "split"])):=fun b x hn e=>aB nu _ _ (hb b x hn e)
  have g2:upd H' u (.tup [.str "choose",.str "split"]) Pd=some (.frz o (.dK (cL PL))):=aB nu _ _ hg
  refine⟨u,_,rfl,.inr (fu.of aq),rfl,by simp [jO],_,rfl,?_⟩
  rw [Ve]
  refine jH (fun e=>?_) (fun e=>?_)
  ·have e:Ia q.1=true:=by simpa using e
   refine⟨_,⟨Pd,o,_,g2,(fun o' u' z=>by rw [show H Pd=_ from h5] at z;cases z),rfl⟩,_,rfl,?_⟩
   have:Hg ps=.str q.1.name:=by
    unfold Hg
    have e2:ps=((PL.take j).map (·.1)) ++ q.1:: ((PL.drop (j+1)).map (·.1)):=by
     have hj':=(List.getElem?_eq_some_iff.mp hq).1
     have e3:PL[j]=q:=by rw [List.getElem?_eq_getElem hj'] at hq;exact Option.some.inj hq
     rw [<-W.pls,<-List.map_cons,<-List.map_append,<-e3,<-List.drop_eq_getElem_cons hj',List.take_append_drop]
    rw [e2,List.find?_append,hf,List.find?_cons,e]
    rfl
   have kk:=k _ (melt b2 g2)
   rw [this] at kk
   exact kk
  ·have e:Ia q.1=false:=by simpa using e
   refine⟨b2,g2,⟨_,rfl⟩,?_⟩
   rw [List.take_succ,hq,Option.toList_some,List.map_append,List.find?_append,hf]
   simp [e]
 ·rintro σ H' ⟨hb,hg,⟨v1,rfl⟩,hf⟩
  refine⟨_,⟨Pd,o,_,hg,(fun o' u' z=>by rw [show H Pd=_ from h5] at z;cases z),rfl⟩,?_⟩
  have:Hg ps=.non:=by
   unfold Hg
   rw [show(cL PL).length=PL.length by unfold cL;rw [lM],List.take_length,W.pls] at hf
   rw [hf]
  have kk:=k _ (melt hb hg)
  rw [this] at kk
  exact kk
inductive sH (K:PySem.W.Frag) (t:jw) (vs:List V) (H:Hp) (Q:VK) (E:XK):Prop where
 | mk:∀(n dx Ll Lp:Addr) (ls:List aH) (ps:List PD),vs=[.ref n,.ref Ll,.ref Lp]->H n=some (.ins t.dD dx [])->Hand K H Ll Lp ls ps->yN ls ps->(∀H',jK n H H'->gH K t H' n ls ps->Q .non H')->sH K t vs H Q E
theorem Bj (T:Txt w K mg t):FO P w K mg base 6 t.o9 ["self", "lanes", "parts"] (sH K t):=by
 have sc:=T.jC.sc ["self", "lanes", "parts", "lane", "row", "part"]
 refine T.jC.F.ok sc ln (fun _ _ _ _ H vs Q E hr h=>?_)
 obtain⟨n,dx,Ll,Lp,ls,ps,rfl,hn,hH,hF,k⟩:=h
 refine⟨_,(au (bH (d7 (Df T) T.qm hr (aa (pv 1) (aa (pv 2) ak aj) aj)))
  (au (gU (pv 0) fJ rfl)
  (au (gU (pv 0) fJ rfl)
  (au (dw PassesOwn.never rfl (bM (pv 1)) (gN sc 3)
   (au (bH (d7 (wz T) T.mK hr (aa (aV cP (pv 3) az (fun _ _=>rfl)) (aa (bj (pv 0) rfl) ak bF) aF)))
   (au (bH (d7 (HQ T) T.ud hr (aa (aV cP (pv 3) az (fun _ _=>rfl)) (aa (aV cP (pv 3) az (fun _ _=>rfl)) (aa (aV cP (pv 3) az (fun _ _=>rfl)) ak aF) aF) aF)))
   (au (fU hr.u1 (bj (pv 0) rfl) (aV cP (pv 3) az (fun _ _=>rfl)) (aV cP (pv 3) az (fun _ _=>rfl)) rfl)
   (aA (fU hr.u1 (bj (pv 0) rfl) (aV cP (pv 3) az (fun _ _=>rfl)) (fj uY (by rfl) T.Br yw (aa (aV cP (pv 3) az (fun _ _=>rfl)) ak aF)) rfl))))))
  (au (gU (pv 0) fJ rfl)
  (au (gU (pv 0) fJ rfl)
  (au (gU (pv 0) fJ rfl)
  (au (dw PassesOwn.never rfl (bM (pv 2)) (gN sc 4)
   (au (sN sc 5 (d7 (Et T) T.rY hr (aa (pv 4) (aa (bj (pv 0) rfl) ak bF) aj)))
   (au (bH (d7 (yM T) T.pY hr (aa (bj (pv 5) rfl) (aa (bj (pv 5) rfl) (aa (bj (pv 0) rfl) (aa (bj (pv 0) rfl) ak bF) bF) bF) bF)))
   (au (bH (d7 (yM T) T.pY hr (aa (bj (pv 5) rfl) (aa (bj (pv 5) rfl) (aa (bj (pv 0) rfl) (aa (bj (pv 0) rfl) ak bF) bF) bF) bF)))
   (aA (fU hr.u1 (bj (pv 0) rfl) (bj (pv 5) rfl) (pv 5) rfl))))))
  (au (bH (d7 (Hm T) T.uA hr (aa (bj (pv 0) rfl) (aa (bj (pv 0) rfl) (aa (bj (pv 0) rfl) ak bF) bF) bF)))
  (aA (bH (d7 (Eb T) T.qb hr (aa (fj (oR rfl) (by rfl) T.wG rN (aa (bj (pv 0) rfl) ak bF)) (aa (bj (pv 0) rfl) (aa (bj (pv 0) rfl) ak bF) bF) aZ))))))))))))),?_⟩
 have hl:sizeLine=16777216:=sizeLine_eq
 obtain⟨xs,hLl,aL⟩:=hH.ll
 obtain⟨ys,hLp,aP⟩:=hH.lp
 have lx:=aL.length
 have ly:=aP.length
 have l1:=hF.l1
 have l24:=hF.l24
 have p1:=hF.p1
 have p16:=hF.p16
 refine⟨_,rfl,_,rfl,Ll,Lp,_,_,rfl,hLl,hLp,by omega,by omega,by omega,by omega,?_⟩
 have T0:=Tr.start hn
 refine fun R nR=>?_
 have T1:=T0.new (o:=.dK []) nR
 have gR:=aB (o:=.dK []) nR
 generalize upd H R (.dK [])=H1 at T1 gR ⊢
 have cR:=T1.all (n,.ins t.dD dx []) (.head _)
 refine⟨_,rfl,n,_,dx,_,rfl,cR,T.aQ.c,T.aQ.na.1,Nat.lt_of_le_of_lt (show 0<=0 from Nat.le_refl 0) (by decide),?_⟩
 have T2:=T1.put (L1:=[]) (o':=.ins t.dD dx (aJ "rooms" (.ref R) []))
 have wR:jK n H1 (upd H1 n (.ins t.dD dx (aJ "rooms" (.ref R) []))):=jK.write
 generalize upd H1 n (.ins t.dD dx (aJ "rooms" (.ref R) []))=H2 at T2 wR ⊢
 refine fun F nF=>?_
 have T3:=T2.new (o:=.dK []) nF
 have gF:=aB (o:=.dK []) nF
 generalize upd H2 F (.dK [])=H3 at T3 gF ⊢
 have cF:=T3.all (n,.ins t.dD dx (aJ "rooms" (.ref R) [])) (.head _)
 refine⟨_,rfl,n,_,dx,_,rfl,cF,T.aQ.c,T.aQ.na.2.1,Nat.lt_of_le_of_lt (gO (Nat.zero_le 0)) (by decide),?_⟩
 have T4:=T3.put (L1:=[]) (o':=.ins t.dD dx (aJ "firsts" (.ref F) (aJ "rooms" (.ref R) [])))
 have wF:jK n H3 (upd H3 n (.ins t.dD dx (aJ "firsts" (.ref F) (aJ "rooms" (.ref R) [])))):=jK.write
 generalize upd H3 n (.ins t.dD dx (aJ "firsts" (.ref F) (aJ "rooms" (.ref R) [])))=H4 at T4 wF ⊢
 have kb:∀{Hk:Hp} {q:Addr} {u:HO},jK n H Hk->H q=some u->(∀C d f,u≠.ins C d f)->Hk q=some u:=fun b h hu=>b _ _ (qM h hn (by intro z;exact hu _ _ _ z)) h
 refine⟨_,rfl,Ll,rfl,⟨_,T4.but.seqL hn hLl⟩,dH (K:=K) (a:=Ll) (xs:=xs) (fun j σ H'=>(∃x3,σ=[some (.ref n),some (.ref Ll),some (.ref Lp),x3,none,none])/\∃FL:List (aH×Addr),FL.map (·.1)=ls.take j/\Tr H n [(n,.ins t.dD dx (aJ "firsts" (.ref F) (aJ "rooms" (.ref R) []))),(R,.dK (eY (ls.take j))),(F,.dK (bK FL))] H'/\∀q∈FL,fu K H' q.2 (q.1.first.map V.int)) ⟨⟨none,rfl⟩,[],rfl,T4,by simp⟩ (fun j σ H' _ ⟨_,_,_,T',_⟩=>T'.but.seqL hn hLl) ?_ ?_⟩
 ·rintro j x σ H' hx ⟨⟨x3,rfl⟩,FL,eFL,T4,hS⟩
  obtain⟨l,hlj,q,f,rfl,hq,hf⟩:=aL.get hx
  have hm:=List.mem_of_getElem? hlj
  obtain⟨v1,v2,v3,v4⟩:=hF.lok l hm
  have hnm:=hF.lnm l hm
  have hj:=(List.getElem?_eq_some_iff.mp hlj).1
  have kq:∀{Hk:Hp},jK n H Hk->Hk q=some (.tup [.str l.name,.int l.room,.ref f]):=fun b=>kb b hq (by intro _ _ _ z;cases z)
  have nin:=lJ hF.whole.nod hlj
  have vR:bZ (eY (ls.take j)) (Sum.inr l.name)=none:=ir (by rw [uD];intro z;obtain⟨b,hb,e⟩:=List.mem_map.mp z;cases e;exact nin hb)
  have vF:bZ (bK FL) (Sum.inr l.name)=none:=ir (by rw [rF,eFL];intro z;obtain⟨b,hb,e⟩:=List.mem_map.mp z;cases e;exact nin hb)
  have tk:ls.take (j+1)=ls.take j ++ [l]:=by rw [List.take_succ,hlj];rfl
  have e4:=T4.all (n,.ins t.dD dx (aJ "firsts" (.ref F) (aJ "rooms" (.ref R) []))) (.head _)
  refine Qg fun De hD u hu=>?_
  refine⟨_,rfl,q,_,0,_,rfl,rfl,fu.of (kq T4.but),aN (j:=0) rfl,_,rfl,n,_,dx,_,_,rfl,e4,T.aQ.c,T.aQ.na.1,(by (repeat first | (rw [aC,if_pos rfl];done) | rw [aC,if_neg (by decide +kernel)])),l.name,R,_,rfl,T4.all (R,.dK (eY (ls.take j))) (by simp),hnm,GK hnm,vR,fun H5 s5=>?_⟩
  have T5:=T4.same s5
  refine dj (v:=u) hu fun u hu=>?_
  refine⟨_,rfl,q,_,0,_,rfl,rfl,fu.of (kq T5.but),aN (j:=0) rfl,_,rfl,q,_,1,_,rfl,rfl,fu.of (kq T5.but),aN (j:=1) rfl,_,rfl,q,_,2,_,rfl,rfl,fu.of (kq T5.but),aN (j:=2) rfl,.str l.name,l.room,f,l.first,rfl,T5.but.seqA hn hf,by omega,v4,v1,v3,v2,fun H6 s6=>?_⟩
  have T6:=T5.same s6
  have e6:=T6.all (n,.ins t.dD dx (aJ "firsts" (.ref F) (aJ "rooms" (.ref R) []))) (.head _)
  have eR6:=T6.all (R,.dK (eY (ls.take j))) (by simp)
  refine dj (v:=u) hu fun u hu=>?_
  refine⟨_,rfl,q,_,1,_,rfl,rfl,fu.of (kq T6.but),aN (j:=1) rfl,_,rfl,n,_,dx,_,_,rfl,e6,T.aQ.c,T.aQ.na.1,(by (repeat first | (rw [aC,if_pos rfl];done) | rw [aC,if_neg (by decide +kernel)])),_,rfl,q,_,0,_,rfl,rfl,fu.of (kq T6.but),aN (j:=0) rfl,R,_,rfl,pq.k (k:=Sum.inr l.name) eR6 (by unfold eY;rw [lM,List.length_take];omega),?_⟩
  have e7:putK (eY (ls.take j)) (Sum.inr l.name) (.int l.room)=eY (ls.take (j+1)):=by rw [lg _ vR,tk];unfold eY;rw [List.map_append];rfl
  have T7:=T6.put (L1:=[_]) (o':=.dK (eY (ls.take (j+1))))
  rw [e7]
  have hS7:∀q∈FL,fu K (upd H6 R (.dK (eY (ls.take (j+1))))) q.2 (q.1.first.map V.int):=fun q hq=>fO eR6 (s6.seqT (s5.seqT (hS q hq)))
  generalize upd H6 R (.dK (eY (ls.take (j+1))))=H7 at T7 hS7 ⊢
  subst hu
  refine⟨_,rfl,q,_,2,_,rfl,rfl,fu.of (kq T7.but),aN (j:=2) rfl,f,_,rfl,T7.but.seqA hn hf,fun H8 F0 s8 t8=>?_⟩
  have T8:=T7.same s8
  have e8:=T8.all (n,.ins t.dD dx (aJ "firsts" (.ref F) (aJ "rooms" (.ref R) []))) (.head _)
  have eF8:=T8.all (F,.dK (bK FL)) (by simp)
  have lFL:FL.length<=24:=by have:=congrArg List.length eFL;rw [lM,List.length_take] at this;omega
  refine⟨_,rfl,n,_,dx,_,_,rfl,e8,T.aQ.c,T.aQ.na.2.1,(by (repeat first | (rw [aC,if_pos rfl];done) | rw [aC,if_neg (by decide +kernel)])),_,rfl,q,_,0,_,rfl,rfl,fu.of (kq T8.but),aN (j:=0) rfl,F,_,rfl,pq.k (k:=Sum.inr l.name) eF8 (by unfold bK;rw [lM];omega),?_⟩
  have e9:putK (bK FL) (Sum.inr l.name) (.ref F0)=bK (FL ++ [(l,F0)]):=by rw [lg _ vF];unfold bK;rw [List.map_append];rfl
  have T9:=T8.put (L1:=[_,_]) (o':=.dK (bK (FL ++ [(l,F0)])))
  rw [e9]
  subst hD
  refine⟨⟨_,rfl⟩,FL ++ [(l,F0)],by rw [List.map_append,eFL,tk];rfl,T9,fun q hq=>?_⟩
  rcases List.mem_append.mp hq with h | h
  ·exact fO eF8 (s8.seqT (hS7 q h))
  ·rw [List.mem_singleton] at h
   subst h
   exact fO eF8 t8
 rintro σ H9 ⟨⟨x3,rfl⟩,FL,eFL,T9,t9⟩
 rw [lx,List.take_length] at eFL T9
 clear T0 T1 T2 T3 T4
 refine fun Pd nPd=>?_
 have T10:=T9.new (o:=.dK []) nPd
 have gPd:=aB (o:=.dK []) nPd
 generalize upd H9 Pd (.dK [])=H10 at T10 gPd ⊢
 have cPd:=T10.all (n,.ins t.dD dx (aJ "firsts" (.ref F) (aJ "rooms" (.ref R) []))) (.head _)
 refine⟨_,rfl,n,_,dx,_,rfl,cPd,T.aQ.c,T.aQ.na.2.2.1,Nat.lt_of_le_of_lt (gO (gO (Nat.zero_le 0))) (by decide),?_⟩
 have T11:=T10.put (L1:=[]) (o':=.ins t.dD dx (aJ "parts" (.ref Pd) (aJ "firsts" (.ref F) (aJ "rooms" (.ref R) []))))
 have wPd:jK n H10 (upd H10 n (.ins t.dD dx (aJ "parts" (.ref Pd) (aJ "firsts" (.ref F) (aJ "rooms" (.ref R) []))))):=jK.write
 generalize upd H10 n (.ins t.dD dx (aJ "parts" (.ref Pd) (aJ "firsts" (.ref F) (aJ "rooms" (.ref R) []))))=H11 at T11 wPd ⊢
 refine fun Gv nGv=>?_
 have T12:=T11.new (o:=.dK []) nGv
 have gGv:=aB (o:=.dK []) nGv
 generalize upd H11 Gv (.dK [])=H12 at T12 gGv ⊢
 have cGv:=T12.all (n,.ins t.dD dx (aJ "parts" (.ref Pd) (aJ "firsts" (.ref F) (aJ "rooms" (.ref R) [])))) (.head _)
 refine⟨_,rfl,n,_,dx,_,rfl,cGv,T.aQ.c,T.aQ.na.2.2.2.1,Nat.lt_of_le_of_lt (gO (gO (gO (Nat.zero_le 0)))) (by decide),?_⟩
 have T13:=T12.put (L1:=[]) (o':=.ins t.dD dx (aJ "givers" (.ref Gv) (aJ "parts" (.ref Pd) (aJ "firsts" (.ref F) (aJ "rooms" (.ref R) [])))))
 have wGv:jK n H12 (upd H12 n (.ins t.dD dx (aJ "givers" (.ref Gv) (aJ "parts" (.ref Pd) (aJ "firsts" (.ref F) (aJ "rooms" (.ref R) [])))))):=jK.write
 generalize upd H12 n (.ins t.dD dx (aJ "givers" (.ref Gv) (aJ "parts" (.ref Pd) (aJ "firsts" (.ref F) (aJ "rooms" (.ref R) [])))))=H13 at T13 wGv ⊢
 refine fun Tk nTk=>?_
 have T14:=T13.new (o:=.dK []) nTk
 have gTk:=aB (o:=.dK []) nTk
 generalize upd H13 Tk (.dK [])=H14 at T14 gTk ⊢
 have cTk:=T14.all (n,.ins t.dD dx (aJ "givers" (.ref Gv) (aJ "parts" (.ref Pd) (aJ "firsts" (.ref F) (aJ "rooms" (.ref R) []))))) (.head _)
 refine⟨_,rfl,n,_,dx,_,rfl,cTk,T.aQ.c,T.aQ.na.2.2.2.2.1,Nat.lt_of_le_of_lt (gO (gO (gO (gO (Nat.zero_le 0))))) (by decide),?_⟩
 have T15:=T14.put (L1:=[]) (o':=.ins t.dD dx (aJ "takers" (.ref Tk) (aJ "givers" (.ref Gv) (aJ "parts" (.ref Pd) (aJ "firsts" (.ref F) (aJ "rooms" (.ref R) []))))))
 have wTk:jK n H14 (upd H14 n (.ins t.dD dx (aJ "takers" (.ref Tk) (aJ "givers" (.ref Gv) (aJ "parts" (.ref Pd) (aJ "firsts" (.ref F) (aJ "rooms" (.ref R) []))))))):=jK.write
 generalize upd H14 n (.ins t.dD dx (aJ "takers" (.ref Tk) (aJ "givers" (.ref Gv) (aJ "parts" (.ref Pd) (aJ "firsts" (.ref F) (aJ "rooms" (.ref R) []))))))=H15 at T15 wTk ⊢
 have T15:Tr H n [(n,.ins t.dD dx (aJ "takers" (.ref Tk) (aJ "givers" (.ref Gv) (aJ "parts" (.ref Pd) (aJ "firsts" (.ref F) (aJ "rooms" (.ref R) [])))))),(R,.dK (eY ls)),(F,.dK (bK FL)),(Pd,.dK []),(Gv,.dK []),(Tk,.dK [])] H15:=T15
 have t15:∀q∈FL,fu K H15 q.2 (q.1.first.map V.int):=fun q hq=>wTk.seqT cTk (gTk.seqT (wGv.seqT cGv (gGv.seqT (wPd.seqT cPd (gPd.seqT (t9 q hq))))))
 have nod:=T15.nod
 simp only [List.map_append,List.map_cons,List.map_nil,List.nil_append,List.cons_append,List.nodup_cons,List.mem_cons,List.not_mem_nil,or_false,not_or] at nod
 have nRF:R≠F:=nod.2.1.1
 have nRT:R≠Tk:=nod.2.1.2.2.2
 have nRG:R≠Gv:=nod.2.1.2.2.1
 have nGT:Gv≠Tk:=nod.2.2.2.2.1
 clear nod
 have ono:(ps.flatMap (·.outs)).Nodup:=hF.whole.outs.nodup_iff.mpr hF.whole.nod
 have ini:(ps.flatMap (·.ins)).Nodup:=hF.whole.ins.nodup_iff.mpr hF.whole.nod
 have inR:∀z∈ls.map (·.name),(bZ (eY ls) (Sum.inr z)).isSome=true:=fun z hz=>by
  obtain⟨l,hl,rfl⟩:=List.mem_map.mp hz
  have e:bZ (eY ls) (Sum.inr l.name)=some (.int l.room):=iK (by rw [uD];exact gh hF.whole.nod) (List.mem_map.mpr ⟨l,hl,rfl⟩)
  rw [e]
  rfl
 have lenE:∀(f:PD->List Str) (j:Nat),(ps.flatMap f).Perm (ls.map (·.name))->(cH f (ps.take j)).length<=24:=fun f j pm=>by
  rw [Oe]
  have e1:((ps.take j).flatMap f).length+((ps.drop j).flatMap f).length=(ps.flatMap f).length:=by rw [<-lP,<-List.flatMap_append,List.take_append_drop]
  have e2:=pm.length_eq
  rw [lM] at e2
  omega
 refine⟨_,rfl,Lp,rfl,⟨_,T15.but.seqL hn hLp⟩,dH (K:=K) (a:=Lp) (xs:=ys) (fun j σ H'=>(∃x3 x4 x5,σ=[some (.ref n),some (.ref Ll),some (.ref Lp),x3,x4,x5])/\∃PL:List (PD×Addr),PL.map (·.1)=ps.take j/\Tr H n [(n,.ins t.dD dx (aJ "takers" (.ref Tk) (aJ "givers" (.ref Gv) (aJ "parts" (.ref Pd) (aJ "firsts" (.ref F) (aJ "rooms" (.ref R) [])))))),(R,.dK (eY ls)),(F,.dK (bK FL)),(Pd,.dK (cL PL)),(Gv,.dK (cH (·.outs) (ps.take j))),(Tk,.dK (cH (·.ins) (ps.take j)))] H'/\(∀q∈FL,fu K H' q.2 (q.1.first.map V.int))/\∀q∈PL,dX K t H' q.2 q.1.kind (.str q.1.name) (q.1.nums.map V.int) (q.1.ins.map V.str) (q.1.outs.map V.str)) ⟨⟨x3,none,none,rfl⟩,[],rfl,T15,t15,by simp⟩ (fun j σ H' _ ⟨_,_,_,T',_⟩=>T'.but.seqL hn hLp) ?_ ?_⟩
 ·rintro j x σ H' hx ⟨⟨x3,x4,x5,rfl⟩,PL,ePL,T15,hS,hP⟩
  obtain⟨p,hpj,r,a1,a2,a3,rfl,hr,q1,q2,q3⟩:=aP.get hx
  have hm:=List.mem_of_getElem? hpj
  have hj:=(List.getElem?_eq_some_iff.mp hpj).1
  obtain⟨o1,o2,o3,o4,o5⟩:=hF.pok p hm
  have hnm:=hF.pnm p hm
  have nin:=lJ hF.pnd hpj
  have tk:ps.take (j+1)=ps.take j ++ [p]:=by rw [List.take_succ,hpj];rfl
  have vP:bZ (cL PL) (Sum.inr p.name)=none:=ir (by rw [zZ,ePL];intro z;obtain⟨b,hb,e⟩:=List.mem_map.mp z;cases e;exact nin hb)
  obtain⟨di,fi⟩:=Nu ini hpj
  obtain⟨do',fo⟩:=Nu ono hpj
  have e15:=T15.all (n,.ins t.dD dx (aJ "takers" (.ref Tk) (aJ "givers" (.ref Gv) (aJ "parts" (.ref Pd) (aJ "firsts" (.ref F) (aJ "rooms" (.ref R) [])))))) (.head _)
  refine Qg fun De hD u hu=>?_
  refine⟨_,rfl,_,rfl,n,_,dx,_,_,rfl,e15,T.aQ.c,T.aQ.na.2.2.1,(by (repeat first | (rw [aC,if_pos rfl];done) | rw [aC,if_neg (by decide +kernel)])),p.kind,p.name,r,Pd,a1,a2,a3,_,_,_,_,rfl,kb T15.but hr (by intro _ _ _ z;cases z),by omega,T15.all (Pd,.dK (cL PL)) (by simp),hnm,GK hnm,vP,T15.but.seqA hn q1,T15.but.seqA hn q2,T15.but.seqA hn q3,by rw [lM];exact o2,by rw [lM];exact o3,by rw [lM];exact o4,?_,fun H16 pp s16 npp Pp=>?_⟩
  ·intro v hv
   obtain⟨i,hi,rfl⟩:=List.mem_map.mp hv
   exact⟨i,rfl,(o5 i hi).1,(o5 i hi).2⟩
  have T16:=T15.same s16
  obtain⟨dxp,tn,ti,to,z1,z2,z3,z4⟩:=id Pp.ex
  have e16:=T16.all (n,.ins t.dD dx (aJ "takers" (.ref Tk) (aJ "givers" (.ref Gv) (aJ "parts" (.ref Pd) (aJ "firsts" (.ref F) (aJ "rooms" (.ref R) [])))))) (.head _)
  have eTk:=T16.all (Tk,.dK (cH (·.ins) (ps.take j))) (by simp)
  have li:=lenE (·.ins) j hF.whole.ins
  have lo:=lenE (·.outs) j hF.whole.outs
  have h3I:p.ins.length<=3:=by rw [o3];exact Gm _
  have h3O:p.outs.length<=2:=by rw [o4];exact RC _
  refine dj (v:=u) hu fun u hu=>?_
  refine⟨_,rfl,pp,_,dxp,_,_,rfl,z1,ie T p.kind,Bx T p.kind,zq _ _ _ _,_,rfl,pp,_,dxp,_,_,rfl,z1,ie T p.kind,yZ T p.kind,uB _ _ _ _,_,rfl,n,_,dx,_,_,rfl,e16,T.aQ.c,T.aQ.na.1,(by (repeat first | (rw [aC,if_pos rfl];done) | rw [aC,if_neg (by decide +kernel)])),_,rfl,n,_,dx,_,_,rfl,e16,T.aQ.c,T.aQ.na.2.2.2.2.1,(by (repeat first | (rw [aC,if_pos rfl];done) | rw [aC,if_neg (by decide +kernel)])),p.name,ti,R,Tk,p.ins,_,_,rfl,z3,T16.all (R,.dK (eY ls)) (by simp),nRT,eTk,di,fun z hz=>⟨inR z (hF.whole.ins.mem_iff.mp (List.mem_flatMap.mpr ⟨p,hm,hz⟩)),Ds (fi z hz)⟩,by omega,?_⟩
  rw [<-Cj (·.ins) (ps.take j) p,<-tk]
  have T17:=T16.put (L1:=[_,_,_,_,_]) (o':=.dK (cH (·.ins) (ps.take (j+1))))
  have Pp17:=Pp.chill (v:=.dK (cH (·.ins) (ps.take (j+1)))) eTk
  have hS17:∀q∈FL,fu K (upd H16 Tk (.dK (cH (·.ins) (ps.take (j+1))))) q.2 (q.1.first.map V.int):=fun q hq=>fO eTk (s16.seqT (hS q hq))
  have hP17:∀q∈PL,dX K t (upd H16 Tk (.dK (cH (·.ins) (ps.take (j+1))))) q.2 q.1.kind (.str q.1.name) (q.1.nums.map V.int) (q.1.ins.map V.str) (q.1.outs.map V.str):=fun q hq=>((hP q hq).same s16).chill eTk
  generalize upd H16 Tk (.dK (cH (·.ins) (ps.take (j+1))))=H17 at T17 Pp17 hS17 hP17 ⊢
  clear z1 z2 z3 z4 e16
  obtain⟨dxp,tn,ti,to,z1,z2,z3,z4⟩:=id Pp17.ex
  have e17:=T17.all (n,.ins t.dD dx (aJ "takers" (.ref Tk) (aJ "givers" (.ref Gv) (aJ "parts" (.ref Pd) (aJ "firsts" (.ref F) (aJ "rooms" (.ref R) [])))))) (.head _)
  have eGv:=T17.all (Gv,.dK (cH (·.outs) (ps.take j))) (by simp)
  refine dj (v:=u) hu fun u hu=>?_
  refine⟨_,rfl,pp,_,dxp,_,_,rfl,z1,ie T p.kind,Bx T p.kind,zq _ _ _ _,_,rfl,pp,_,dxp,_,_,rfl,z1,ie T p.kind,Iw T p.kind,FN _ _ _ _,_,rfl,n,_,dx,_,_,rfl,e17,T.aQ.c,T.aQ.na.1,(by (repeat first | (rw [aC,if_pos rfl];done) | rw [aC,if_neg (by decide +kernel)])),_,rfl,n,_,dx,_,_,rfl,e17,T.aQ.c,T.aQ.na.2.2.2.1,(by (repeat first | (rw [aC,if_pos rfl];done) | rw [aC,if_neg (by decide +kernel)])),p.name,to,R,Gv,p.outs,_,_,rfl,z4,T17.all (R,.dK (eY ls)) (by simp),nRG,eGv,do',fun z hz=>⟨inR z (hF.whole.outs.mem_iff.mp (List.mem_flatMap.mpr ⟨p,hm,hz⟩)),Ds (fo z hz)⟩,by omega,?_⟩
  rw [<-Cj (·.outs) (ps.take j) p,<-tk]
  have T18:=T17.put (L1:=[_,_,_,_]) (o':=.dK (cH (·.outs) (ps.take (j+1))))
  have Pp18:=Pp17.chill (v:=.dK (cH (·.outs) (ps.take (j+1)))) eGv
  have hS18:∀q∈FL,fu K (upd H17 Gv (.dK (cH (·.outs) (ps.take (j+1))))) q.2 (q.1.first.map V.int):=fun q hq=>fO eGv (hS17 q hq)
  have hP18:∀q∈PL,dX K t (upd H17 Gv (.dK (cH (·.outs) (ps.take (j+1))))) q.2 q.1.kind (.str q.1.name) (q.1.nums.map V.int) (q.1.ins.map V.str) (q.1.outs.map V.str):=fun q hq=>(hP17 q hq).chill eGv
  generalize upd H17 Gv (.dK (cH (·.outs) (ps.take (j+1))))=H18 at T18 Pp18 hS18 hP18 ⊢
  clear z1 z2 z3 z4 e17
  obtain⟨dxp,tn,ti,to,z1,z2,z3,z4⟩:=id Pp18.ex
  have e18:=T18.all (n,.ins t.dD dx (aJ "takers" (.ref Tk) (aJ "givers" (.ref Gv) (aJ "parts" (.ref Pd) (aJ "firsts" (.ref F) (aJ "rooms" (.ref R) [])))))) (.head _)
  have ePd:=T18.all (Pd,.dK (cL PL)) (by simp)
  have lPL:PL.length<=16:=by have:=congrArg List.length ePL;rw [lM,List.length_take] at this;omega
  subst hu
  refine⟨_,rfl,_,rfl,n,_,dx,_,_,rfl,e18,T.aQ.c,T.aQ.na.2.2.1,(by (repeat first | (rw [aC,if_pos rfl];done) | rw [aC,if_neg (by decide +kernel)])),_,rfl,pp,_,dxp,_,_,rfl,z1,ie T p.kind,Bx T p.kind,zq _ _ _ _,Pd,_,rfl,pq.k (k:=Sum.inr p.name) ePd (by unfold cL;rw [lM];omega),?_⟩
  have e19:putK (cL PL) (Sum.inr p.name) (.ref pp)=cL (PL ++ [(p,pp)]):=by rw [lg _ vP];unfold cL;rw [List.map_append];rfl
  have T19:=T18.put (L1:=[_,_,_]) (o':=.dK (cL (PL ++ [(p,pp)])))
  rw [e19]
  subst hD
  refine⟨⟨_,_,_,rfl⟩,PL ++ [(p,pp)],by rw [List.map_append,ePL,tk];rfl,T19,fun q hq=>fO ePd (hS18 q hq),fun q hq=>?_⟩
  rcases List.mem_append.mp hq with h | h
  ·exact(hP18 q h).chill ePd
  ·rw [List.mem_singleton] at h
   subst h
   exact Pp18.chill ePd
 rintro σ H18 ⟨⟨x3,x4,x5,rfl⟩,PL,ePL,T18,hS,hP⟩
 rw [ly,List.take_length] at ePL T18
 have e18:=T18.all (n,.ins t.dD dx (aJ "takers" (.ref Tk) (aJ "givers" (.ref Gv) (aJ "parts" (.ref Pd) (aJ "firsts" (.ref F) (aJ "rooms" (.ref R) [])))))) (.head _)
 have eR:=T18.all (R,.dK (eY ls)) (by simp)
 have eF:=T18.all (F,.dK (bK FL)) (by simp)
 have ePd:=T18.all (Pd,.dK (cL PL)) (by simp)
 have eGv:=T18.all (Gv,.dK (cH (·.outs) ps)) (by simp)
 have eTk:=T18.all (Tk,.dK (cH (·.ins) ps)) (by simp)
 refine⟨_,rfl,n,_,dx,_,_,rfl,e18,T.aQ.c,T.aQ.na.1,(by (repeat first | (rw [aC,if_pos rfl];done) | rw [aC,if_neg (by decide +kernel)])),_,rfl,n,_,dx,_,_,rfl,e18,T.aQ.c,T.aQ.na.2.2.2.1,(by (repeat first | (rw [aC,if_pos rfl];done) | rw [aC,if_neg (by decide +kernel)])),_,rfl,n,_,dx,_,_,rfl,e18,T.aQ.c,T.aQ.na.2.2.2.2.1,(by (repeat first | (rw [aC,if_pos rfl];done) | rw [aC,if_neg (by decide +kernel)])),R,Gv,Tk,_,_,_,rfl,eR,eGv,eTk,nRG,nRT,?_,?_⟩
 ·intro q hq
  obtain⟨l,hl,rfl⟩:=List.mem_map.mp hq
  have hln:l.name∈ls.map (·.name):=List.mem_map.mpr ⟨l,hl,rfl⟩
  obtain⟨pa,ha,la⟩:=List.mem_flatMap.mp (hF.whole.outs.mem_iff.mpr hln)
  obtain⟨pb,hb,lb⟩:=List.mem_flatMap.mp (hF.whole.ins.mem_iff.mpr hln)
  exact⟨by rw [eQ ono ha la];rfl,by rw [eQ ini hb lb];rfl⟩
 refine⟨_,rfl,n,_,dx,_,_,rfl,e18,T.aQ.c,T.aQ.na.2.2.1,(by (repeat first | (rw [aC,if_pos rfl];done) | rw [aC,if_neg (by decide +kernel)])),Pd,_,rfl,.inl ePd,fun l nl=>?_⟩
 have s19:=aB (o:=.lst ((cL PL).map fun p=>kV p.1)) nl
 have eL:(cL PL).map (fun p=>kV p.1)=ps.map fun p=>V.str p.name:=by unfold cL;rw [List.map_map,<-ePL,List.map_map];rfl
 refine⟨_,rfl,n,_,dx,_,_,rfl,(s19 _ _ e18),T.aQ.c,T.aQ.na.2.2.2.1,(by (repeat first | (rw [aC,if_pos rfl];done) | rw [aC,if_neg (by decide +kernel)])),_,rfl,n,_,dx,_,_,rfl,(s19 _ _ e18),T.aQ.c,T.aQ.na.2.2.2.2.1,(by (repeat first | (rw [aC,if_pos rfl];done) | rw [aC,if_neg (by decide +kernel)])),l,Gv,Tk,ps,rfl,bJ.of (by rw [<-eL];exact aq),by omega,by omega,s19 _ _ eGv,s19 _ _ eTk,nGT,ono,ini,hF.whole.outs.trans hF.whole.ins.symm,hF.whole.hang,fun H20 s20=>?_⟩
 have s:=s19.trans s20
 refine k _ (fun b u hb e=>s _ _ (T18.but b u hb e)) ⟨dx,_,R,F,Pd,Gv,Tk,FL,PL,s _ _ e18,⟨?_,?_⟩,s _ _ eR,s _ _ eF,s _ _ ePd,s _ _ eGv,s _ _ eTk,eFL,ePL,fun q hq=>s.seqT (hS q hq),fun q hq=>(hP q hq).same s,hF,nRF⟩
 ·intro q hq
  simp only [List.mem_cons,List.not_mem_nil,or_false] at hq
  rcases hq with rfl | rfl | rfl | rfl | rfl <;> (dsimp only;(repeat first | (rw [aC,if_pos rfl];done) | rw [aC,if_neg (by decide +kernel)]))
 ·intro m hm
  have hne:∀m∈(["lane_names", "part_names", "odd", "names_of_kind", "gives", "takes", "need_lane_name", "room_of", "first_of", "giver_of", "taker_of", "part_of", "__init__"]:List Str),∀g∈(["takers", "givers", "parts", "firsts", "rooms"]:List Str),¬m=g:=by decide +kernel
  have h:=hne m hm
  rw [aC,if_neg (h _ (by simp)),aC,if_neg (h _ (by simp)),aC,if_neg (h _ (by simp)),aC,if_neg (h _ (by simp)),aC,if_neg (h _ (by simp))]
  rfl
inductive sJ (K:PySem.W.Frag) (t:jw) (vs:List V) (H:Hp) (Q:VK) (E:XK):Prop where
 | mk:∀(n:Addr) (ls:List aH) (ps:List PD) (l:aH),vs=[.ref n,.str l.name]->gH K t H n ls ps->l∈ls->(∀H' L ra,aM H H'->H L=none->qQ H' L ra->ra.map (·.1)=wA ps l->Q (.ref L) H')->sJ K t vs H Q E
theorem Bk (T:Txt w K mg t):FO P w K mg base 4 t.uo ["net", "lane"] (sJ K t):=by
 have sc:=T.oN.sc ["net", "lane", "giver", "taker", "many"]
 refine T.oN.F.ok sc ln (fun _ _ _ _ H vs Q E hr h=>?_)
 obtain⟨n,ls,ps,l,rfl,N,hl,k⟩:=h
 refine⟨_,(au (sN sc 2 (zb (pv 0) T.aQ T.aQ.me.2.2.2.2.2.2.2.2.2.2.1 (Bh T) T.o7 hr (aa (pv 1) ak aj)))
  (au (sN sc 3 (zb (pv 0) T.aQ T.aQ.me.2.2.2.2.2.2.2.2.2.2.2.1 (Bg T) T.oE hr (aa (pv 1) ak aj)))
  (au (sN sc 4 (bz bO (by rfl) T.fH dB (aa (zb (pv 0) T.aQ T.aQ.me.2.2.2.2.2.2.2.2.2.1 (sO T) T.jG hr (aa (pv 1) ak aj)) ak aZ)))
  (aA (aO (bu (aa (bW (aa (pv 2) (aa (pv 3) (aa (pv 4) (aa (pv 1) (aa bI ak ao) aj) aj) aj) aj)) (aa (bW (aa (pv 3) (aa (pv 2) (aa (bC Ib (zb (pv 0) T.aQ T.aQ.me.2.2.2.2.2.2.2.2.1 (ux T) T.km hr (aa (pv 1) ak aj)) (pv 4)) (aa (pv 1) (aa bI ak ao) aj) bT) aj) aj)) ak b7) b7))))))),?_⟩
 obtain⟨dx,fs,R,F,Pd,G,Tk,FL,PL,W⟩:=id N
 have hz:sizeLine=16777216:=sizeLine_eq
 refine⟨_,rfl,n,dx,fs,rfl,W.obj,W.fl.no _ (by decide +kernel),_,rfl,n,ls,ps,l.name,rfl,N,.inl ⟨l,hl,rfl,fun p1 hp1 lp1 H1 s1=>?_⟩⟩
 have W1:=W.same s1
 refine⟨_,rfl,n,dx,fs,rfl,W1.obj,W1.fl.no _ (by decide +kernel),_,rfl,n,ls,ps,l.name,rfl,W1.s,.inl ⟨l,hl,rfl,fun p2 hp2 lp2 H2 s2=>?_⟩⟩
 have W2:=W1.same s2
 refine⟨_,rfl,n,dx,fs,rfl,W2.obj,W2.fl.no _ (by decide +kernel),_,rfl,n,ls,ps,l.name,rfl,W2.s,.inl ⟨l,hl,rfl,fun H3 u s3 nu eu=>?_⟩⟩
 have W3:=W2.same s3
 refine⟨.ref u,l.first.length,rfl,.inl ⟨_,bJ.of eu,by simp⟩,?_⟩
 refine⟨_,rfl,_,rfl,_,rfl,_,rfl,je,fun q1 n1=>?_⟩
 have t1:=aB (o:=.tup [.str p1.name,.str p2.name,.int (l.first.length:Nat),.str l.name,.str "along"]) n1
 have e1:upd H3 q1 (.tup [.str p1.name,.str p2.name,.int (l.first.length:Nat),.str l.name,.str "along"]) q1=some (.tup [.str p1.name,.str p2.name,.int (l.first.length:Nat),.str l.name,.str "along"]):=aq
 have s4:=s1.trans (s2.trans (s3.trans t1))
 have W4:=W3.same t1
 generalize upd H3 q1 (.tup [.str p1.name,.str p2.name,.int (l.first.length:Nat),.str l.name,.str "along"])=H4 at t1 e1 s4 W4 ⊢
 refine⟨_,rfl,_,rfl,_,rfl,n,dx,fs,rfl,W4.obj,W4.fl.no _ (by decide +kernel),_,rfl,n,ls,ps,l.name,rfl,W4.s,.inl ⟨l,hl,rfl,fun H5 s5=>?_⟩⟩
 refine⟨_,rfl,_,_,rfl,rfl,_,rfl,je,fun q2 n2=>?_⟩
 have t2:=aB (o:=.tup [.str p2.name,.str p1.name,.int (l.room - (l.first.length:Nat)),.str l.name,.str "against"]) n2
 have e2:upd H5 q2 (.tup [.str p2.name,.str p1.name,.int (l.room - (l.first.length:Nat)),.str l.name,.str "against"]) q2=some (.tup [.str p2.name,.str p1.name,.int (l.room - (l.first.length:Nat)),.str l.name,.str "against"]):=aq
 have s6:=s4.trans (s5.trans t2)
 have e1':=t2 _ _ (s5 _ _ e1)
 refine⟨je,fun L nL=>?_⟩
 have nL0:=s6.free nL
 have t3:=aB (o:=.lst [.ref q1,.ref q2]) nL
 have g1:=Bs W.ono hp1 lp1
 have g2:=Bs W.ini hp2 lp2
 refine k _ L [(⟨p1.name,p2.name,(l.first.length:Nat),l.name, "along"⟩,q1),(⟨p2.name,p1.name,l.room - (l.first.length:Nat),l.name, "against"⟩,q2)] (s6.trans t3) nL0 ⟨aq,fun q hq=>?_⟩ ?_
 ·simp only [List.mem_cons,List.not_mem_nil,or_false] at hq
  rcases hq with rfl | rfl
  ·exact t3 _ _ e1'
  ·exact t3 _ _ e2
 ·unfold wA
  rw [g1,g2]
  rfl
inductive Dh (K:PySem.W.Frag) (t:jw) (vs:List V) (H:Hp) (Q:VK) (E:XK):Prop where
 | mk:∀(n:Addr) (ls:List aH) (ps:List PD),vs=[.ref n]->gH K t H n ls ps->(((Hg ps=.non/\∀H' L ra,aM H H'->H L=none->qQ H' L ra->ra.map (·.1)=gQ ls ps->Q (.ref L) H')∨False))->Dh K t vs H Q E
theorem KD (T:Txt w K mg t):FO P w K mg base 5 t.GJ ["net"] (Dh K t):=by
 have sc:=T.yX.sc ["net", "arcs", "lane"]
 refine T.yX.F.ok sc ln (fun _ _ _ _ H vs Q E hr h=>?_)
 obtain⟨n,ls,ps,rfl,N,h⟩:=h
 refine⟨_,(au (bQ (fY (Bu (Pj (pv 0) T.aQ T.aQ.me.2.2.2.1 (Kw T) T.yO hr)))
   (aA dz)
   bD)
  (au (sN sc 1 (bu ak))
  (au (dw PassesOwn.never rfl (bM (Pj (pv 0) T.aQ T.aQ.me.2.1 (jz T) T.fZ hr)) (gN sc 2)
   (aA (bH (yz PySem.F.plainAttrs_list PySem.F.slot_list_extend PySem.F.type_list_extend zO (pv 1) (aa (d7 (Bk T) T.oN hr (aa (pv 0) (aa (pv 2) ak aj) aj)) ak aZ)))))
  (aA (aO (bC Jf (pv 1) (eU [] ["net", "arcs", "lane"] (aR (top 16)) rfl (bM (Pj (pv 0) T.aQ T.aQ.me.2.2.1 (fC T) T.dJ hr)) (fun _ _ _ _ _=>iM) (fun _ _ _ _ _=>(bW (aa (pv 0) (aa (pv 0) (aa az (aa bI (aa bI ak ao) ao) ao) aj) aj)))))))))),?_⟩
 obtain⟨dx,fs,R,F,Pd,G,Tk,FL,PL,W⟩:=id N
 have hz:sizeLine=16777216:=sizeLine_eq
 have l24:=W.fit.l24
 have p16:=W.fit.p16
 refine⟨_,rfl,n,dx,fs,rfl,W.obj,W.fl.no _ (by decide +kernel),n,ls,ps,rfl,N,fun H1 s1=>?_⟩
 have W1:=W.same s1
 rcases h with ⟨ho,k⟩ | h
 ·rw [ho]
  refine⟨_,rfl,cZ ?_⟩
  refine⟨je,fun A nA=>?_⟩
  have tA:=aB (o:=.lst []) nA
  have eA:upd H1 A (.lst []) A=some (.lst []):=aq
  have W2:=W1.same tA
  have nA0:=s1.free nA
  generalize upd H1 A (.lst [])=H2 at tA eA W2 ⊢
  refine⟨_,rfl,n,dx,fs,rfl,W2.obj,W2.fl.no _ (by decide +kernel),n,ls,ps,rfl,W2.s,fun Ln nLn=>⟨Ln,rfl,⟨_,bJ.of aq⟩,?_⟩⟩
  have tN:=aB (o:=.lst (ls.map fun x=>V.str x.name)) nLn
  have eN:upd H2 Ln (.lst (ls.map fun x=>V.str x.name)) Ln=some (.lst (ls.map fun x=>V.str x.name)):=aq
  have eA2:=tN _ _ eA
  have nLA:Ln≠A:=Ne.symm (aD eA nLn)
  have s3:=Hb (tA.trans tN) nA
  generalize upd H2 Ln (.lst (ls.map fun x=>V.str x.name))=B at tN eN eA2 s3 ⊢
  have eNB:bf [A] B Ln=some (.lst (ls.map fun x=>V.str x.name)):=cQ eN (by rw [List.mem_singleton];exact nLA)
  have WB:=W1.same s3
  refine dH (K:=K) (a:=Ln) (xs:=ls.map fun x=>V.str x.name) (fun j σ H'=>(∃v2,σ=[some (.ref n),some (.ref A),v2])/\aM (bf [A] B) (bf [A] H')/\∃ra:List AA,H' A=some (.lst (ra.map fun q=>V.ref q.2))/\(∀q∈ra,bf [A] H' q.2=some (.tup (Rh q.1)))/\ra.map (·.1)=(ls.take j).flatMap (wA ps)) ⟨⟨_,rfl⟩,aM.refl _,[],eA2,by simp,rfl⟩ (fun j σ H' _ h=>bJ.of (bY _ _ (h.2.1 _ _ eNB))) ?_ ?_
  ·rintro j x σ H' hx ⟨⟨v2,rfl⟩,s',ra,eA',hra,era⟩
   rw [List.getElem?_map] at hx
   obtain⟨l,hlj,rfl⟩:=Option.map_eq_some_iff.mp hx
   have hj:=(List.getElem?_eq_some_iff.mp hlj).1
   have lra:ra.length<=48:=by
    have:=congrArg List.length era
    rw [lM,yP,List.length_take] at this
    omega
   refine⟨_,rfl,.inl ⟨rfl,_,bJ.of eA'⟩,_,rfl,_,rfl,n,ls,ps,l,rfl,(WB.same s').same bY |>.s,List.mem_of_getElem? hlj,fun H3 L3 r3 t3 n3 A3 e3=>?_⟩
   have l3:r3.length=2:=by have:=congrArg List.length e3;rw [lM] at this;exact this
   have eA3:=t3 _ _ eA'
   refine⟨A,L3,_,_,rfl,rfl,eA3,A3.lst,by rw [lM,lM];omega,⟨_,rfl⟩,?_,ra ++ r3,by rw [<-List.map_append];exact aq,fun q hq=>?_,?_⟩
   ·rw [dm (by simp)]
    exact s'.trans (xq t3 eA')
   ·rw [dm (by simp)]
    rcases List.mem_append.mp hq with h | h
    ·exact xq t3 eA' _ _ (hra q h)
    ·exact Tc eA3 (A3.at_ q h) (by intro _ z;cases z)
   ·rw [List.map_append,era,e3,List.take_succ,hlj,Option.toList_some,List.flatMap_append]
    simp
  rintro σ H3 ⟨⟨v2,rfl⟩,s',ra,eA',hra,era⟩
  rw [lM,List.take_length] at era
  have lra:ra.length<=48:=by
   have:=congrArg List.length era
   rw [lM,yP] at this
   omega
  have W3:=(WB.same s').same bY
  refine⟨_,rfl,_,rfl,n,dx,fs,rfl,W3.obj,W3.fl.no _ (by decide +kernel),n,ls,ps,rfl,W3.s,fun Lp nLp=>⟨Lp,rfl,⟨_,bJ.of aq⟩,?_⟩⟩
  have tP:=aB (o:=.lst (ps.map fun x=>V.str x.name)) nLp
  have eP:upd H3 Lp (.lst (ps.map fun x=>V.str x.name)) Lp=some (.lst (ps.map fun x=>V.str x.name)):=aq
  generalize upd H3 Lp (.lst (ps.map fun x=>V.str x.name))=H4 at tP eP ⊢
  refine dC (K:=K) (a:=Lp) (xs:=ps.map fun x=>V.str x.name) (fun j zs H'=>aM H4 H'/\∃rb:List AA,zs=rb.map (fun q=>V.ref q.2)/\rb.length=j/\(∀q∈rb,H' q.2=some (.tup (Rh q.1)))/\rb.map (·.1)=(ps.take j).map Nj) (by rw [lM];omega) ⟨aM.refl _,[],rfl,rfl,by simp,rfl⟩ (fun j zs H' ⟨_,rb,e,e2,_⟩=>by rw [e,lM];omega) (fun j zs H' _ h=>h.1.seq (bJ.of eP)) ?_ ?_
  ·rintro j x zs H' hx ⟨s5,rb,rfl,hlen,hrb,erb⟩
   rw [List.getElem?_map] at hx
   obtain⟨p,hpj,rfl⟩:=Option.map_eq_some_iff.mp hx
   refine yes ⟨_,rfl,_,rfl,je,fun q nq=>?_⟩
   have tq:=aB (o:=.tup [.str p.name,.str p.name,.int 1,.str "",.str "again"]) nq
   refine⟨s5.trans tq,rb ++ [(Nj p,q)],by rw [List.map_append];rfl,by rw [lP,List.length_singleton];omega,fun z hz'=>?_,?_⟩
   ·rcases List.mem_append.mp hz' with h | h
    ·exact tq _ _ (hrb z h)
    ·rw [List.mem_singleton] at h;subst h;exact aq
   ·rw [List.map_append,erb,List.take_succ,hpj,Option.toList_some,List.map_append]
    rfl
  rintro zs H5 ⟨s5,rb,rfl,hlen,hrb,erb⟩ D nD
  rw [lM,List.take_length] at erb
  rw [lM] at hlen
  have tD:=aB (o:=.lst (rb.map fun q=>V.ref q.2)) nD
  have s35:=tP.trans (s5.trans tD)
  refine⟨A,D,_,_,rfl,rfl,s35 _ _ eA',aq,by rw [lM,lM];omega,fun L nL=>?_⟩
  rw [<-List.map_append]
  have tL:=aB (o:=.lst ((ra ++ rb).map fun q=>V.ref q.2)) nL
  have sAll:aM H1 H3:=fun b o e=>bY _ _ (s' _ _ (s3 _ _ e))
  refine k _ L (ra ++ rb) (s1.trans (sAll.trans (s35.trans tL))) ?_ ⟨aq,fun q hq=>?_⟩ ?_
  ·exact(s1.trans (sAll.trans s35)).free nL
  ·rcases List.mem_append.mp hq with h | h
   ·exact tL _ _ (s35 _ _ (bY _ _ (hra q h)))
   ·exact tL _ _ (tD _ _ (hrb q h))
  ·rw [List.map_append,era,erb]
   rfl
 ·exact h.elim
inductive vH (K:PySem.W.Frag) (vs:List V) (H:Hp) (Q:VK) (E:XK):Prop where
 | mk:∀(x:Str) (d:Addr) (m:List (Str×Str)),vs=[.str x,.ref d]->H d=some (.dK (qR V.str m))->m.length<=1000->(∀H' L r a seen,aM H H'->H' L=some (.lst (r.map V.str))->Rg.wL (iT m) x seen a->(∀y∈r,y∈seen)->((a∈seen/\Rg.Round (iT m) r/\r≠[])∨(a∉seen/\iT m a=none/\r=[]))->Q (.ref L) H')->vH K vs H Q E
theorem Fj (T:Txt w K mg t):FO P w K mg base 1 t.ym ["start", "leads"] (vH K):=by
 have sc:=T.rZ.sc ["start", "leads", "seen", "at"]
 refine T.rZ.F.ok sc ln (fun _ _ _ _ H vs Q E hr h=>?_)
 obtain⟨x,d,m,rfl,hd,hlen,k⟩:=h
 refine⟨_,(au (sN sc 2 (bu ak))
  (au (sN sc 3 (pv 0))
  (au (Dz PassesOwn.never (PW.pt (uF (fY (wB hr.u1 (pv 3) (pv 1))) (rR (bc iU (pv 3) (pv 2) (by with_unfolding_all rfl)))))
   (au (bH (IV (pv 2) (aa (pv 3) ak aj)))
   (aA (sN sc 3 (cB hr.u1 (pv 1) (pv 3) (fun _ _=>rfl))))))
  (aA (aO (oH (bc vf (pv 3) (pv 2) (by with_unfolding_all rfl)) (lK uW (pv 2) (kJ (yz PySem.F.plainAttrs_list PySem.F.slot_list_index PySem.F.type_list_index Oh (pv 2) (aa (pv 3) ak aj))) vy) (bu ak))))))),?_⟩
 have hz:sizeLine=16777216:=sizeLine_eq
 refine⟨je,fun S nS=>⟨_,rfl,?_⟩⟩
 refine Dp (fun σ H'=>∃seen a,σ=[some (.str x),some (.ref d),some (.ref S),some (.str a)]/\H'=upd H S (.lst (seen.map V.str))/\Rg.wL (iT m) x seen a) (fun σ H'=>m.length+1 - Fy H' S) ⟨[],x,rfl,rfl,.start _ _⟩ ?_ ?_
 ·rintro σ H' ⟨seen,a,rfl,rfl,g⟩
  have ed:upd H S (.lst (seen.map V.str)) d=some (.dK (qR V.str m)):=by rw [aK (aD hd nS)];exact hd
  have eS:upd H S (.lst (seen.map V.str)) S=some (.lst (seen.map V.str)):=aq
  have sS:aM H (upd H S (.lst (seen.map V.str))):=aB nS
  have sl:seen.length<=m.length:=by
   have:=Rg.uV g.nd (m:=m.map (·.1)) fun y hy=>by
    obtain⟨z,ez⟩:=g.mem y hy
    exact xm.mp (by rw [ez];rfl)
   rwa [lM] at this
  refine⟨_,rfl,_,rfl,d,_,rfl,u5 ed a,?_⟩
  cases e:iT m a with
  | none=>
   have hm:a∉seen:=fun z=>by
    obtain⟨b,eb⟩:=g.mem a z
    rw [e] at eb
    cases eb
   refine⟨_,rfl,cZ (cZ ?_)⟩
   refine⟨_,rfl,_,rfl,S,_,rfl,.inl (bJ.of eS),rfl,jY _,_,rfl,?_⟩
   rw [rA,decide_eq_false hm]
   refine cZ ⟨je,fun L nL=>?_⟩
   exact k _ L [] a seen (sS.trans (aB nL)) aq g (by simp) (.inr ⟨hm,e,rfl⟩)
  | some b=>
   refine⟨_,rfl,iW ?_⟩
   refine⟨_,rfl,_,rfl,S,_,rfl,.inl (bJ.of eS),rfl,jY _,_,rfl,?_⟩
   rw [rA]
   by_cases hm:a∈seen
   ·rw [decide_eq_true hm]
    refine cZ ?_
    refine⟨_,rfl,_,rfl,S,_,rfl,.inl (bJ.of eS),rfl,jY _,_,rfl,?_⟩
    rw [rA,decide_eq_true hm]
    refine iW ?_
    obtain⟨j,hj,ej⟩:=List.mem_iff_getElem.mp hm
    have hja:seen[j]?=some a:=by rw [List.getElem?_eq_getElem hj,ej]
    refine⟨_,rfl,_,rfl,.inl ⟨rfl,_,bJ.of eS⟩,_,rfl,S,seen,a,j,rfl,rfl,eS,hja,fun i y hi ey z=>?_,_,rfl,S,_,rfl,bJ.of eS,fun L nL=>?_⟩
    ·subst z
     have h1:=(List.getElem?_eq_some_iff.mp ey)
     have:=(List.getElem_inj g.nd).mp (h1.2.trans ej.symm)
     omega
    ·rw [GZ,<-List.map_drop]
     have R:=g.round hja
     exact k _ L (seen.drop j) a seen (sS.trans (aB nL)) aq g (fun y hy=>List.mem_of_mem_drop hy) (.inl ⟨hm,R.1,R.2⟩)
   ·rw [decide_eq_false hm]
    refine iW ?_
    refine⟨_,rfl,.inl ⟨rfl,_,bJ.of eS⟩,_,rfl,S,_,_,rfl,rfl,eS,by rw [lM];omega,?_⟩
    rw [pQ]
    have ed2:upd H S (.lst (seen.map V.str ++ [.str a])) d=some (.dK (qR V.str m)):=by rw [aK (aD hd nS)];exact hd
    have g2:=u5 ed2 a
    rw [e] at g2
    refine⟨_,rfl,_,rfl,d,_,rfl,g2,?_⟩
    have G:=g.step e hm
    have es:seen.map V.str ++ [V.str a]=(seen ++ [a]).map V.str:=by rw [List.map_append];rfl
    rw [es]
    refine⟨⟨seen ++ [a],b,rfl,rfl,G⟩,?_⟩
    show m.length+1 - Fy _ S <m.length+1 - Fy _ S
    rw [xZ (aq (H:=H) (a:=S) (o:=.lst ((seen ++ [a]).map V.str))),xZ eS,lM,lM,lP,List.length_singleton]
    omega
 ·intro σ H' Q' Q'' hm hq
  obtain⟨v,e,u,e2,d',o',e3,g,b,e4,hq⟩:=hq
  refine⟨v,e,u,e2,d',o',e3,g,b,e4,?_⟩
  split at hq
  ·rename_i hb
   rw [if_pos hb]
   obtain⟨v,e,u,e2,p',xs,e3,h1,h2,h3,b',e5,hq⟩:=hq
   exact⟨v,e,u,e2,p',xs,e3,h1,h2,h3,b',e5,hm _ _ hq⟩
  ·rename_i hb
   rw [if_neg hb]
   exact hm _ _ hq
noncomputable def aG (q:AA):V:=.ref q.2
noncomputable def fI (ik:List (Str×AA)) (x:Str):Option Str:=(iT ik x).map fun q=>q.1.fr
noncomputable def pI (ik:List (Str×AA)):List (Str×Str):=ik.map fun q=>(q.1,q.2.1.fr)
theorem U3 (ik:List (Str×AA)):iT (pI ik)=fI ik:=by
 funext x
 unfold fI
 induction ik with
 | nil=>rfl
 | cons q r ih=>
  show iT ((q.1,q.2.1.fr):: pI r) x=_
  rw [DN,DN]
  by_cases h:q.1=x
  ·rw [if_pos h,if_pos h];rfl
  ·rw [if_neg h,if_neg h];exact ih
theorem O8 (ik:List (Str×AA)):(pI ik).map (·.1)=ik.map (·.1):=by unfold pI;rw [List.map_map];rfl
inductive yo (K:PySem.W.Frag) (vs:List V) (H:Hp) (Q:VK) (E:XK):Prop where
 | mk:∀(x:Str) (d:Addr) (ik:List (Str×AA)),vs=[.str x,.ref d]->H d=some (.dK (qR aG ik))->(ik.map (·.1)).Nodup->ik.length<=100->((∀q∈ik,H q.2.2=some (.tup (Rh q.2.1))))->(∀H' L r a seen,aM H H'->H L=none->qQ H' L (r.reverse.filterMap (iT ik))->Rg.wL (fI ik) x seen a->(∀y∈r,∃q,iT ik y=some q)->((a∈seen/\Rg.Round (fI ik) r/\r≠[])∨(a∉seen/\fI ik a=none/\r=[]))->Q (.ref L) H')->yo K vs H Q E
theorem G7 (T:Txt w K mg t):FO P w K mg base 2 t.Al ["start", "into"] (yo K):=by
 have sc:=T.tV.sc ["start", "into", "leads", "name"]
 refine T.tV.F.ok sc ln (fun _ _ _ _ H vs Q E hr h=>?_)
 obtain⟨x,d,ik,rfl,hd,nd,hlen,hat,k⟩:=h
 refine⟨_,(au (sN sc 2 fJ)
  (au (nW (H0:=H) rfl (dw PassesOwn.never rfl (pM (pv 1)) (gN sc 3)
   (aA (fU hr.u1 (pv 2) (pv 3) (aV cP (cB hr.u1 (pv 1) (pv 3) (fun _ _=>rfl)) az (fun _ _=>rfl)) rfl))))
  (aA (aO (eU [1] ["start", "into", "leads", "name"] (aR (top 20)) rfl (Wy rfl T.KJ (aa (d7 (Fj T) T.rZ hr (aa (pv 0) (aa (pv 2) ak aj) aj)) ak aZ)) (fun _ _ _ _ _=>iM) (fun _ _ _ _ _=>(cB hr.u1 (pv 1) (pv 0) (fun _ _=>rfl)))))))),?_⟩
 have hz:sizeLine=16777216:=sizeLine_eq
 refine fun D nD=>?_
 have tD:=aB (o:=.dK []) nD
 have eD:upd H D (.dK []) D=some (.dK (qR V.str (pI (ik.take 0)))):=aq
 generalize upd H D (.dK [])=H0 at tD eD ⊢
 have hd0:=tD _ _ hd
 have nDd:D≠d:=Ne.symm (aD hd nD)
 refine⟨_,rfl,d,_,rfl,hd0,fun o=>oK (fun j σ H'=>(∃v3,σ=[some (.str x),some (.ref d),some (.ref D),v3])/\jK d H H'/\H' d=some (.frz o (.dK (qR aG ik)))/\H' D=some (.dK (qR V.str (pI (ik.take j))))) ⟨⟨_,rfl⟩,fun b u hn e=>by rw [aK hn];exact tD _ _ e,aq,by rw [aK nDd];exact eD⟩ (fun j σ H' _ h=>h.2.2.1) ?_ ?_⟩
 ·rintro j kk v σ H' hj ⟨⟨v3,rfl⟩,hb,hg,eD'⟩
  obtain⟨q,hq,rfl,rfl⟩:=Xa hj
  have hqm:=List.mem_of_getElem? hq
  have g1:=Kq hg q.1
  rw [Qy nd hqm] at g1
  have nin:q.1∉(pI (ik.take j)).map (·.1):=by rw [O8];exact lJ nd hq
  have ne:q.2.2≠d:=qM (hat q hqm) hd (by intro z;cases z)
  refine⟨_,rfl,_,rfl,d,_,rfl,g1,q.2.2,_,0,_,rfl,rfl,fu.of (hb _ _ ne (hat q hqm)),aN (j:=0) rfl,_,rfl,_,rfl,D,_,rfl,pq.k (k:=Sum.inr q.1) eD' (by rw [Bt];unfold pI;rw [lM,List.length_take];omega),⟨_,rfl⟩,fun b u hn e=>?_,?_,?_⟩
  ·rw [aK (aD e nD)];exact hb b u hn e
  ·rw [aK (Ne.symm nDd)];exact hg
  ·rw [aq]
   have:putK (qR V.str (pI (ik.take j))) (Sum.inr q.1) (.str q.2.1.fr)=qR V.str (Be (pI (ik.take j)) q.1 q.2.1.fr):=Ji _ _ _ _
   rw [this,Ef _ nin,List.take_succ,hq,Option.toList_some]
   unfold pI
   rw [List.map_append]
   rfl
 rintro σ H' ⟨⟨v3,rfl⟩,hb,hg,eD'⟩
 rw [Bt,List.take_length] at eD'
 refine⟨_,⟨d,o,_,hg,(fun o' u' z=>by rw [show H d=_ from hd] at z;cases z),rfl⟩,?_⟩
 have s1:aM H (upd H' d (.dK (qR aG ik))):=fun b u e=>by
  by_cases h:b=d
  ·subst h;rw [aq];rw [hd] at e;exact e
  ·rw [aK h];exact hb b u h e
 have eD1:upd H' d (.dK (qR aG ik)) D=some (.dK (qR V.str (pI ik))):=by rw [aK nDd];exact eD'
 generalize upd H' d (.dK (qR aG ik))=H1 at s1 eD1 ⊢
 refine⟨_,rfl,_,rfl,x,D,pI ik,rfl,eD1,by unfold pI;rw [lM];omega,fun H2 L r a seen s2 eL g hr hc=>⟨L,r.map V.str,rfl,bJ.of eL,?_⟩⟩
 rw [U3] at g hc
 have s12:=s1.trans s2
 have hd2:=s12 _ _ hd
 have get:∀y∈r,∃q,iT ik y=some q:=fun y hy=>by
  obtain⟨z,ez⟩:=g.mem y (hr y hy)
  obtain⟨q,hq,_⟩:=Option.map_eq_some_iff.mp ez
  exact⟨q,hq⟩
 have lr:r.length<=100:=by
  have h1:=Rg.uV g.nd (m:=ik.map (·.1)) fun y hy=>by
   obtain⟨z,ez⟩:=g.mem y hy
   obtain⟨q,hq,_⟩:=Option.map_eq_some_iff.mp ez
   exact xm.mp (by rw [hq];rfl)
  rw [lM] at h1
  rcases hc with ⟨_,R,_⟩ | ⟨_,_,rfl⟩
  ·have:=Rg.uV R.nd hr
   omega
  ·exact Nat.zero_le _
 refine QC (K:=K) (a:=L) (xs:=r.map V.str) (fun i ys H'=>H'=H2/\ys=((r.reverse.take i).filterMap (iT ik)).map (fun q=>V.ref q.2)) (by rw [lM];omega) ⟨rfl,rfl⟩ (fun i ys H' ⟨_,e⟩=>by rw [e,lM];exact Nat.le_trans (List.length_filterMap_le _ _) (by rw [List.length_take];omega)) (fun i ys H' _ ⟨e,_⟩=>by rw [e];exact bJ.of eL) ?_ ?_
 ·rintro i y ys H' hy ⟨rfl,rfl⟩
  rw [<-List.map_reverse,List.getElem?_map] at hy
  obtain⟨z,hz',rfl⟩:=Option.map_eq_some_iff.mp hy
  obtain⟨q,hq⟩:=get z (List.mem_reverse.mp (List.mem_of_getElem? hz'))
  have g2:=u5 hd2 z
  rw [hq] at g2
  refine yes ⟨_,rfl,_,rfl,d,_,rfl,g2,rfl,?_⟩
  rw [List.take_succ,hz',Option.toList_some,List.filterMap_append,List.map_append]
  simp [hq,aG]
 rintro ys H9 ⟨rfl,rfl⟩ D2 nD2
 have t3:=aB (o:=.lst (((r.reverse.take (r.map V.str).length).filterMap (iT ik)).map (fun q=>V.ref q.2))) nD2
 rw [show r.reverse.take (r.map V.str).length=r.reverse from List.take_of_length_le (by rw [lM,List.length_reverse];exact Nat.le_refl _)] at t3 ⊢
 refine k _ D2 r a seen (s12.trans t3) (s12.free nD2) ⟨aq,fun q hq=>?_⟩ g get hc
 obtain⟨y,_,e⟩:=List.mem_filterMap.mp hq
 exact t3 _ _ (s12 _ _ (hat _ (HY e)))
noncomputable def JM (names:List Str) (bare:List Q5) (r:List (Str×Nat)):List Str:=names.filter fun x=>!(iT r x).isSome && !(bare.any fun a=>!(iT r a.fr).isSome && decide (a.to=x))
noncomputable def dY (names:List Str) (bare:List Q5):Nat->List (Str×Nat)
 | 0=>[]
 | k+1=>dY names bare k ++ (JM names bare (dY names bare k)).map fun x=>(x,k)
theorem zj {names:List Str} (nd:names.Nodup) (bare:List Q5):∀k,((dY names bare k).map (·.1)).Nodup/\∀x∈(dY names bare k).map (·.1),x∈names
 | 0=>⟨List.nodup_nil,by simp [dY]⟩
 | k+1=>by
  obtain⟨h1,h2⟩:=zj nd bare k
  have e:(dY names bare (k+1)).map (·.1)=(dY names bare k).map (·.1) ++ JM names bare (dY names bare k):=by
   show((dY names bare k) ++ _).map _=_
   rw [List.map_append,List.map_map]
   congr 1
   exact List.map_id _
  rw [e]
  refine⟨?_,fun x hx=>?_⟩
  ·rw [List.nodup_append]
   refine⟨h1,nd.sublist List.filter_sublist,fun a ha b hb z=>?_⟩
   subst z
   have:=(List.mem_filter.mp hb).2
   rw [xm.mpr ha] at this
   simp at this
  ·rcases List.mem_append.mp hx with h | h
   ·exact h2 x h
   ·exact(List.mem_filter.mp h).1
theorem Mt {names:List Str} (nd:names.Nodup) (bare:List Q5) (k:Nat):(dY names bare k).length<=names.length:=by
 obtain⟨h1,h2⟩:=zj nd bare k
 have:=Rg.uV h1 h2
 rwa [lM] at this
noncomputable def nG (k:Nat):V:=.int (k:Nat)
inductive zU (K:PySem.W.Frag) (vs:List V) (H:Hp) (Q:VK) (E:XK):Prop where
 | mk:∀(Ln Lb:Addr) (names:List Str) (ra:List AA),vs=[.ref Ln,.ref Lb]->H Ln=some (.lst (names.map V.str))->qQ H Lb ra->names.Nodup->names.length<=16->ra.length<=100->(∀H' D,aM H H'->H D=none->H' D=some (.dK (qR nG (dY names (ra.map (·.1)) names.length)))->Q (.ref D) H')->zU K vs H Q E
noncomputable abbrev wN:List Str:=["names", "bare", "ranks", "rank", "bound", "free", "name"]
theorem J4 (T:Txt w K mg t):FO P w K mg base 1 t.Cp ["names", "bare"] (zU K):=by
 have sc:=T.wI.sc wN
 refine T.wI.F.ok sc ln (fun _ _ _ _ H vs Q E hr h=>?_)
 obtain⟨Ln,Lb,names,ra,rfl,eLn,A,nd,hn,hra,k⟩:=h
 refine⟨_,(au (sN sc 2 fJ)
  (au (dw PassesOwn.never rfl (jm rfl T.mU (aa (bz bO (by rfl) T.fH dB (aa (pv 0) ak aj)) ak aZ)) (gN sc 3)
   (au (sN sc 4 (eU [2] wN (aR (top 23)) rfl (bM (pv 1)) (fun _ _ _ _ _=>(lX (fY (jT hr.u1 (aV (m5 (K:=K) rfl) (pv 0) az (fun _ _=>rfl)) (pv 1))))) (fun _ _ _ _ _=>(aV (m5 (K:=K) rfl) (pv 0) az (fun _ _=>rfl)))))
   (au (iD (i:=5) [2,4] wN (aR (top 23)) rfl sc.nd rfl (bM (pv 0)) (fun _ _ _ _ _=>(lX (PW.pt (uF (fY (jT hr.u1 (pv 0) (pv 1))) (rR (bc (vY (K:=K) rfl) (pv 0) (pv 2) (by with_unfolding_all rfl))))))) (fun _ _ _ _ _=>(pv 0)))
   (aA (dw PassesOwn.never rfl (bM (pv 5)) (gN sc 6)
    (aA (fU hr.u1 (pv 2) (pv 6) (pv 3) rfl)))))))
  (aA (aO (pv 2))))),?_⟩
 have hz:sizeLine=16777216:=sizeLine_eq
 obtain⟨bare,hbare⟩:∃bare,ra.map (·.1)=bare:=⟨_,rfl⟩
 rw [hbare] at k
 refine fun D nD=>?_
 have tD:=aB (o:=.dK []) nD
 have eD:upd H D (.dK []) D=some (.dK (qR nG (dY names bare 0))):=aq
 have s0:=Hb tD nD
 generalize upd H D (.dK [])=H0 at tD eD s0 ⊢
 refine⟨_,rfl,.ref Ln,names.length,rfl,.inl ⟨_,bJ.of (tD _ _ eLn),by simp⟩,(names.length:Int),rfl,by omega,by omega,?_⟩
 rw [Int.toNat_natCast]
 refine yR (n:=names.length) (fun j σ H'=>(∃v3 v4 v5 v6,σ=[some (.ref Ln),some (.ref Lb),some (.ref D),v3,v4,v5,v6])/\aM H (bf [D] H')/\H' D=some (.dK (qR nG (dY names bare j)))) ⟨⟨_,_,_,_,rfl⟩,s0,eD⟩ ?_ ?_
 ·rintro j σ H' hj ⟨⟨v3,v4,v5,v6,rfl⟩,s',eD'⟩
  obtain⟨rk,hrk⟩:∃rk,dY names bare j=rk:=⟨_,rfl⟩
  have lrk:=Mt nd bare j
  rw [hrk] at eD' lrk
  have s1:aM H H':=s'.trans bY
  have A1:=A.same s1
  refine⟨_,rfl,Lb,rfl,⟨_,bJ.of A1.lst⟩,?_⟩
  refine dC (K:=K) (a:=Lb) (xs:=ra.map fun q=>V.ref q.2) (fun i ys H2=>H2=H'/\ys=(((ra.take i).filter fun q=>!(iT rk q.1.fr).isSome).map fun q=>q.1.to).map V.str) (by rw [lM];omega) ⟨rfl,rfl⟩ (fun i ys H2 ⟨_,e⟩=>by rw [e,lM,lM];exact Nat.le_trans (List.length_filter_le _ _) (by rw [List.length_take];omega)) (fun i ys H2 _ ⟨e,_⟩=>by rw [e];exact bJ.of A1.lst) ?_ ?_
  ·rintro i x ys H2 hx ⟨rfl,rfl⟩
   obtain⟨q,hq,rfl,eq⟩:=A1.get hx
   refine⟨_,rfl,q.2,_,0,_,rfl,rfl,fu.of eq,aN (j:=0) rfl,_,rfl,D,_,rfl,u5 eD' q.1.fr,_,rfl,?_⟩
   rw [List.take_succ,hq,Option.toList_some,List.filter_append,Option.isSome_map]
   cases hc:(iT rk q.1.fr).isSome
   ·refine iW ⟨_,rfl,q.2,_,1,_,rfl,rfl,fu.of eq,aN (j:=1) rfl,rfl,?_⟩
    rw [Za (by show(!(iT rk q.1.fr).isSome)=true;rw [hc];rfl),List.map_append,List.map_append]
    rfl
   ·refine cZ ⟨rfl,?_⟩
    rw [YL (by show(!(iT rk q.1.fr).isSome)=false;rw [hc];rfl),List.append_nil]
  rintro ys H2 ⟨rfl,rfl⟩ Bd nBd
  rw [lM,List.take_length]
  obtain⟨bs,hbs⟩:∃bs,(ra.filter fun q=>!(iT rk q.1.fr).isSome).map (fun q=>q.1.to)=bs:=⟨_,rfl⟩
  have hin:∀x,x∈bs↔bare.any (fun a=>!(iT rk a.fr).isSome && decide (a.to=x))=true:=fun x=>by
   rw [<-hbs,<-hbare,List.any_map,List.any_eq_true]
   constructor
   ·intro h
    obtain⟨q,hq,rfl⟩:=List.mem_map.mp h
    obtain⟨h1,h2⟩:=List.mem_filter.mp hq
    exact⟨q,h1,by simp only [Function.comp];rw [h2];simp⟩
   ·rintro⟨q,hq,e⟩
    simp only [Function.comp,Bool.and_eq_true,decide_eq_true_eq] at e
    exact List.mem_map.mpr ⟨q,List.mem_filter.mpr ⟨hq,e.1⟩,e.2⟩
  rw [hbs]
  have tB:=aB (o:=.lst (bs.map V.str)) nBd
  have eB:upd H2 Bd (.lst (bs.map V.str)) Bd=some (.lst (bs.map V.str)):=aq
  have eDB:=tB _ _ eD'
  have s2:=s1.trans tB
  have nBD:Bd≠D:=Ne.symm (aD eD' nBd)
  have c2:aM H (bf [D] (upd H2 Bd (.lst (bs.map V.str)))):=s'.trans (xq tB eD')
  generalize upd H2 Bd (.lst (bs.map V.str))=H3 at tB eB eDB s2 c2 ⊢
  refine⟨_,rfl,Ln,rfl,⟨_,bJ.of (s2 _ _ eLn)⟩,?_⟩
  refine dC (K:=K) (a:=Ln) (xs:=names.map V.str) (fun i ys H2=>H2=H3/\ys=((names.take i).filter fun x=>!(iT rk x).isSome && !(bare.any fun a=>!(iT rk a.fr).isSome && decide (a.to=x))).map V.str) (by rw [lM];omega) ⟨rfl,rfl⟩ (fun i ys H2 ⟨_,e⟩=>by rw [e,lM];exact Nat.le_trans (List.length_filter_le _ _) (by rw [List.length_take];omega)) (fun i ys H2 _ ⟨e,_⟩=>by rw [e];exact bJ.of (s2 _ _ eLn)) ?_ ?_
  ·rintro i x ys H2 hx ⟨rfl,rfl⟩
   rw [List.getElem?_map] at hx
   obtain⟨y,hy,rfl⟩:=Option.map_eq_some_iff.mp hx
   refine⟨_,rfl,_,rfl,D,_,rfl,u5 eDB y,_,rfl,?_⟩
   rw [List.take_succ,hy,Option.toList_some,List.filter_append,Option.isSome_map]
   cases hc:(iT rk y).isSome
   ·refine iW ?_
    refine⟨_,rfl,_,rfl,Bd,_,rfl,.inl (bJ.of eB),rfl,jY _,_,rfl,?_⟩
    rw [rA]
    by_cases hb:y∈bs
    ·rw [decide_eq_true hb]
     refine cZ ⟨rfl,?_⟩
     rw [YL (by show(!(iT rk y).isSome && !(bare.any fun a=>!(iT rk a.fr).isSome && decide (a.to=y)))=false;rw [(hin y).mp hb];simp),List.append_nil]
    ·rw [decide_eq_false hb]
     refine iW ⟨_,rfl,rfl,?_⟩
     have:bare.any (fun a=>!(iT rk a.fr).isSome && decide (a.to=y))=false:=by
      cases e:bare.any (fun a=>!(iT rk a.fr).isSome && decide (a.to=y)) with
      | false=>rfl
      | true=>exact absurd ((hin y).mpr e) hb
     rw [Za (by show(!(iT rk y).isSome && !(bare.any fun a=>!(iT rk a.fr).isSome && decide (a.to=y)))=true;rw [hc,this];rfl),List.map_append]
     rfl
   ·refine cZ (cZ ⟨rfl,?_⟩)
    rw [YL (by show(!(iT rk y).isSome && !(bare.any fun a=>!(iT rk a.fr).isSome && decide (a.to=y)))=false;rw [hc];rfl),List.append_nil]
  rintro ys H2 ⟨rfl,rfl⟩ Fr nFr
  rw [lM,List.take_length]
  obtain⟨fs,hfs⟩:∃fs,JM names bare rk=fs:=⟨_,rfl⟩
  rw [show(names.filter fun x=>!(iT rk x).isSome && !(bare.any fun a=>!(iT rk a.fr).isSome && decide (a.to=x)))=fs from hfs]
  have nfs:fs.Nodup/\(∀x∈fs,iT rk x=none)/\fs.length<=16:=by
   rw [<-hfs]
   refine⟨nd.sublist List.filter_sublist,fun x hx=>?_,Nat.le_trans (List.length_filter_le _ _) hn⟩
   have:=(List.mem_filter.mp hx).2
   simp only [Bool.and_eq_true,Bool.not_eq_true'] at this
   cases e:iT rk x with
   | none=>rfl
   | some b=>rw [e] at this;cases this.1
  have tF:=aB (o:=.lst (fs.map V.str)) nFr
  have eF:upd H2 Fr (.lst (fs.map V.str)) Fr=some (.lst (fs.map V.str)):=aq
  have eDF:=tF _ _ eDB
  have nFD:Fr≠D:=Ne.symm (aD eDB nFr)
  have c3:aM H (bf [D] (upd H2 Fr (.lst (fs.map V.str)))):=c2.trans (xq tF eDB)
  generalize upd H2 Fr (.lst (fs.map V.str))=H4 at tF eF eDF c3 ⊢
  have eFc:bf [D] H4 Fr=some (.lst (fs.map V.str)):=cQ eF (by rw [List.mem_singleton];exact nFD)
  refine⟨_,rfl,Fr,rfl,⟨_,bJ.of eF⟩,?_⟩
  refine dH (K:=K) (a:=Fr) (xs:=fs.map V.str) (fun i σ H5=>(∃v6,σ=[some (.ref Ln),some (.ref Lb),some (.ref D),some (.int (0+(j:Int))),some (.ref Bd),some (.ref Fr),v6])/\aM (bf [D] H4) (bf [D] H5)/\H5 D=some (.dK (qR nG (rk ++ (fs.take i).map fun x=>(x,j))))) ⟨⟨_,rfl⟩,aM.refl _,by simpa using eDF⟩ (fun i σ H5 _ h=>bJ.of (bY _ _ (h.2.1 _ _ eFc))) ?_ ?_
  ·rintro i x σ H5 hx ⟨⟨v6,rfl⟩,s5,e5⟩
   rw [List.getElem?_map] at hx
   obtain⟨y,hy,rfl⟩:=Option.map_eq_some_iff.mp hx
   have hyf:=List.mem_of_getElem? hy
   have nin:y∉(rk ++ (fs.take i).map fun x=>(x,j)).map (·.1):=by
    rw [List.map_append,List.mem_append,not_or,List.map_map]
    refine⟨fun h=>?_,fun h=>?_⟩
    ·have:=xm.mpr h
     rw [nfs.2.1 y hyf] at this
     cases this
    ·have h2:=lJ (f:=id) (xs:=fs) (by rw [List.map_id];exact nfs.1) hy
     rw [List.map_id] at h2
     obtain⟨z,hz',e⟩:=List.mem_map.mp h
     exact h2 (by rw [<-show z=y from e];exact hz')
   refine⟨_,rfl,_,rfl,_,rfl,D,_,rfl,pq.k (k:=Sum.inr y) e5 (by rw [Bt,lP,lM,List.length_take];omega),⟨_,rfl⟩,by rw [dm (by simp)];exact s5,?_⟩
   rw [aq,show V.int (0+(j:Int))=nG j by unfold nG;rw [Int.zero_add],Ji,Ef _ nin,List.append_assoc,List.take_succ,hy,Option.toList_some,List.map_append]
   rfl
  rintro σ H5 ⟨⟨v6,rfl⟩,s5,e5⟩
  rw [lM,List.take_length] at e5
  refine⟨⟨_,_,_,_,rfl⟩,c3.trans s5,?_⟩
  show _=some (HO.dK (qR nG (dY names bare j ++ (JM names bare (dY names bare j)).map fun x=>(x,j))))
  rw [hrk,hfs]
  exact e5
 rintro σ H' ⟨⟨v3,v4,v5,v6,rfl⟩,s',eD'⟩
 exact⟨_,rfl,k _ D (s'.trans bY) nD eD'⟩
noncomputable def Gg (ns:List Str) (ik:List (Str×AA)) (q:AA):List (Str×AA):=if q.1.fr∈ns then Be ik q.1.to q else ik
noncomputable def kY (ns:List Str) (ra:List AA):List (Str×AA):=ra.foldl (Gg ns) []
theorem Mm (ns:List Str) (ra:List AA) (q:AA):kY ns (ra ++ [q])=Gg ns (kY ns ra) q:=by unfold kY;rw [List.foldl_append];rfl
structure tW (ra:List AA) (ik:List (Str×AA)):Prop where
 nd:(ik.map (·.1)).Nodup
 ok:∀e∈ik,e.2∈ra/\e.2.1.to=e.1
theorem tW.put {ra:List AA} {ik:List (Str×AA)} (h:tW ra ik) {q:AA} (hq:q∈ra):tW ra (Be ik q.1.to q):=⟨Tn h.nd,fun e he=>by
 rcases Ri he with h1 | h1
 ·exact h.ok e h1
 ·subst h1;exact⟨hq,rfl⟩⟩
theorem tW.len {ra:List AA} {ik:List (Str×AA)} (h:tW ra ik):ik.length<=ra.length:=by
 have:=Rg.uV h.nd (m:=ra.map fun q=>q.1.to) fun x hx=>by
  obtain⟨e,he,rfl⟩:=List.mem_map.mp hx
  obtain⟨h1,h2⟩:=h.ok e he
  exact List.mem_map.mpr ⟨e.2,h1,h2⟩
 rwa [lM,lM] at this
theorem BK (ns:List Str) (ra:List AA):tW ra (kY ns ra)/\(kY ns ra).length<=ra.length:=by
 have:∀m l:List AA,(∀q∈l,q∈ra)->∀ik,tW ra ik->tW ra (l.foldl (Gg ns) ik):=fun _ l=>by
  induction l with
  | nil=>intro _ ik h;exact h
  | cons q r ih=>
   intro hl ik h
   rw [List.foldl_cons]
   refine ih (fun x hx=>hl x (List.mem_cons_of_mem _ hx)) _ ?_
   unfold Gg
   split
   ·exact h.put (hl q List.mem_cons_self)
   ·exact h
 have ok:=this [] ra (fun _ h=>h) [] ⟨by simp,by simp⟩
 exact⟨ok,ok.len⟩
inductive QR (H H':Hp) (L:Addr) (ik:List (Str×AA)) (x:Str):Prop where
 | mk:∀(r:List Str) (a:Str) (seen:List Str),H L=none->qQ H' L (r.reverse.filterMap (iT ik))->Rg.wL (fI ik) x seen a->((∀y∈r,∃q,iT ik y=some q))->(((a∈seen/\Rg.Round (fI ik) r/\r≠[])∨(a∉seen/\fI ik a=none/\r=[])))->QR H H' L ik x
inductive vC (K:PySem.W.Frag) (vs:List V) (H:Hp) (Q:VK) (E:XK):Prop where
 | mk:∀(Ln Lb:Addr) (x0:Str) (rest:List Str) (ra:List AA),vs=[.ref Ln,.ref Lb]->H Ln=some (.lst ((x0:: rest).map V.str))->qQ H Lb ra->ra.length<=100->(∀H' L,aM H H'->QR H H' L (kY (x0:: rest) ra) x0->Q (.ref L) H')->vC K vs H Q E
theorem Ff (T:Txt w K mg t):FO P w K mg base 3 t.yg ["names", "bare"] (vC K):=by
 have sc:=T.rJ.sc ["names", "bare", "into", "arc"]
 refine T.rJ.F.ok sc ln (fun _ _ _ _ H vs Q E hr h=>?_)
 obtain⟨Ln,Lb,x0,rest,ra,rfl,eLn,A,hra,k⟩:=h
 refine⟨_,(au (sN sc 2 fJ)
  (au (dw PassesOwn.never rfl (bM (pv 1)) (gN sc 3)
   (aA (gW (bQ (bc vf (aV cP (pv 3) az (fun _ _=>rfl)) (pv 0) (by with_unfolding_all rfl))
    (aA (fU hr.u1 (pv 2) (aV cP (pv 3) az (fun _ _=>rfl)) (pv 3) rfl))
    bD))))
  (aA (aO (d7 (G7 T) T.tV hr (aa (aV aX (pv 0) az (fun _ _=>rfl)) (aa (pv 2) ak aj) aF)))))),?_⟩
 have hz:sizeLine=16777216:=sizeLine_eq
 obtain⟨ns,hns⟩:∃ns,x0:: rest=ns:=⟨_,rfl⟩
 rw [hns] at eLn k
 refine fun D nD=>?_
 have tD:=aB (o:=.dK []) nD
 have eD:upd H D (.dK []) D=some (.dK (qR aG (kY ns (ra.take 0)))):=aq
 have s0:=Hb tD nD
 generalize upd H D (.dK [])=H0 at tD eD s0 ⊢
 refine⟨_,rfl,Lb,rfl,⟨_,bJ.of (tD _ _ A.lst)⟩,?_⟩
 refine dH (K:=K) (a:=Lb) (xs:=ra.map fun q=>V.ref q.2) (fun j σ H'=>(∃v3,σ=[some (.ref Ln),some (.ref Lb),some (.ref D),v3])/\aM H (bf [D] H')/\H' D=some (.dK (qR aG (kY ns (ra.take j))))) ⟨⟨_,rfl⟩,s0,eD⟩ (fun j σ H' _ h=>bJ.of (bY _ _ (h.2.1 _ _ A.lst))) ?_ ?_
 ·rintro j x σ H' hx ⟨⟨v3,rfl⟩,s',eD'⟩
  have s1:=s'.trans bY
  obtain⟨q,hq,rfl,eq⟩:=(A.same s1).get hx
  have tk:kY ns (ra.take (j+1))=Gg ns (kY ns (ra.take j)) q:=by rw [List.take_succ,hq];exact Mm _ _ _
  refine⟨fun σ2 H2=>(∃v3,σ2=[some (.ref Ln),some (.ref Lb),some (.ref D),v3])/\aM H (bf [D] H2)/\H2 D=some (.dK (qR aG (kY ns (ra.take (j+1))))),?_,fun _ _ h=>h⟩
  refine⟨_,rfl,q.2,_,0,_,rfl,rfl,fu.of eq,aN (j:=0) rfl,_,rfl,Ln,_,rfl,.inl (bJ.of (s1 _ _ eLn)),rfl,jY _,_,rfl,?_⟩
  rw [rA,tk]
  unfold Gg
  by_cases hf:q.1.fr∈ns
  ·rw [decide_eq_true hf,if_pos hf]
   refine iW ⟨_,rfl,_,rfl,_,rfl,q.2,_,1,_,rfl,rfl,fu.of eq,aN (j:=1) rfl,D,_,rfl,pq.k (k:=Sum.inr q.1.to) eD' ?_,⟨_,rfl⟩,?_,?_⟩
   ·have:=(BK ns (ra.take j)).2
    rw [Bt]
    rw [List.length_take] at this
    omega
   ·rw [dm (by simp)];exact s'
   ·rw [aq,show V.ref q.2=aG q from rfl,Ji]
  ·rw [decide_eq_false hf,if_neg hf]
   exact cZ ⟨⟨_,rfl⟩,s',eD'⟩
 rintro σ H1 ⟨⟨v3,rfl⟩,s',eD'⟩
 rw [lM,List.take_length] at eD'
 have s1:=s'.trans bY
 have A1:=A.same s1
 obtain⟨ok,hl⟩:=BK ns ra
 refine⟨_,rfl,Ln,_,0,_,rfl,rfl,bJ.of (s1 _ _ eLn),by rw [<-hns];exact aN (j:=0) rfl,_,rfl,x0,D,kY ns ra,rfl,eD',ok.nd,by omega,fun q hq=>A1.at_ _ (ok.ok q hq).1,fun H2 L r a seen s2 nL A2 g get hc=>?_⟩
 exact k _ L (s1.trans s2) ⟨r,a,seen,s1.free nL,A2,g,get,hc⟩
noncomputable def jA (ra:List AA):List AA:=ra.filter fun q=>decide (V.int q.1.tk=V.int 0)
noncomputable def Fx (names:List Str) (rk:List (Str×Nat)):List Str:=names.filter fun x=>!(iT rk x).isSome
inductive Z7 (H H':Hp) (ls:List aH) (ps:List PD) (T:Addr):Prop where
 | mk:∀(ra:List AA) (rk:List (Str×Nat)) (left:List Str),ra.map (·.1)=gQ ls ps->rk=dY (ps.map (·.name)) ((jA ra).map (·.1)) (ps.map (·.name)).length->left=Fx (ps.map (·.name)) rk->(((left=[]/\∃D,H' T=some (.tup [.str "ranks",.ref D])/\H D=none/\H' D=some (.dK (qR nG rk)))∨∃x0 rest L H1,left=x0:: rest/\H' T=some (.tup [.str "ring",.ref L])/\aM H H1/\QR H1 H' L (kY left (jA ra)) x0))->Z7 H H' ls ps T
theorem BV (ls:List aH) (ps:List PD) (hl:ls.length<=24) (hp:ps.length<=16):(gQ ls ps).length<=64:=by
 unfold gQ
 rw [lP,yP,lM]
 omega
inductive qO (K:PySem.W.Frag) (t:jw) (vs:List V) (H:Hp) (Q:VK) (E:XK):Prop where
 | mk:∀(n:Addr) (ls:List aH) (ps:List PD),vs=[.ref n]->gH K t H n ls ps->(((Hg ps=.non/\∀H' T,aM H H'->Z7 H H' ls ps T->Q (.ref T) H')∨False))->qO K t vs H Q E
noncomputable abbrev lV:List Str:=["net", "bare", "names", "ranks", "left"]
theorem zf (T:Txt w K mg t):FO P w K mg base 6 t.su ["net"] (qO K t):=by
 have sc:=T.lZ.sc lV
 refine T.lZ.F.ok sc ln (fun _ _ _ _ H vs Q E hr h=>?_)
 obtain⟨n,ls,ps,rfl,N,h⟩:=h
 refine⟨_,(au (iD (i:=1) [] lV (aR (top 22)) rfl sc.nd rfl (bM (d7 (KD T) T.yX hr (aa (pv 0) ak aj))) (fun _ _ _ _ _=>(lX (bc iG (aV (m5 (K:=K) rfl) (pv 0) az (fun _ _=>rfl)) az (bL _)))) (fun _ _ _ _ _=>(pv 0)))
  (au (sN sc 2 (Pj (pv 0) T.aQ T.aQ.me.2.2.1 (fC T) T.dJ hr))
  (au (sN sc 3 (d7 (J4 T) T.wI hr (aa (pv 2) (aa (pv 1) ak aj) aj)))
  (au (iD (i:=4) [3] lV (aR (top 22)) rfl sc.nd rfl (bM (pv 2)) (fun _ _ _ _ _=>(lX (fY (jT hr.u1 (pv 0) (pv 1))))) (fun _ _ _ _ _=>(pv 0)))
  (aA (aO (oH (bc iG (bz bO (by rfl) T.fH dB (aa (pv 4) ak aj)) az (bL _)) (bW (aa bI (aa (pv 3) ak aj) ao)) (bW (aa bI (aa (d7 (Ff T) T.rJ hr (aa (pv 4) (aa (pv 1) ak aj) aj)) ak aZ) ao))))))))),?_⟩
 obtain⟨dx,fs,R,F,Pd,G,Tk,FL,PL,W⟩:=id N
 have hz:sizeLine=16777216:=sizeLine_eq
 have p16:=W.fit.p16
 rcases h with ⟨ho,k⟩ | h
 ·refine⟨_,rfl,n,ls,ps,rfl,N,.inl ⟨ho,fun H1 L ra s1 nL A era=>⟨L,rfl,⟨_,bJ.of A.lst⟩,?_⟩⟩⟩
  have lra:ra.length<=64:=by
   have:=congrArg List.length era
   rw [lM] at this
   rw [this]
   exact BV _ _ W.fit.l24 p16
  refine dC (K:=K) (a:=L) (xs:=ra.map fun q=>V.ref q.2) (fun i ys H2=>H2=H1/\ys=(jA (ra.take i)).map fun q=>V.ref q.2) (by rw [lM];omega) ⟨rfl,rfl⟩ (fun i ys H2 ⟨_,e⟩=>by rw [e,lM];exact Nat.le_trans (List.length_filter_le _ _) (by rw [List.length_take];omega)) (fun i ys H2 _ ⟨e,_⟩=>by rw [e];exact bJ.of A.lst) ?_ ?_
  ·rintro i x ys H2 hx ⟨rfl,rfl⟩
   obtain⟨q,hq,rfl,eq⟩:=A.get hx
   refine⟨_,rfl,q.2,_,2,_,rfl,rfl,fu.of eq,aN (j:=2) rfl,rfl,_,rfl,?_⟩
   rw [List.take_succ,hq,Option.toList_some]
   unfold jA
   rw [List.filter_append]
   refine jH (fun e=>?_) (fun e=>?_)
   ·rw [Za (p:=fun q:AA=>decide (V.int q.1.tk=V.int 0)) (x:=q) e,List.map_append]
    exact⟨_,rfl,rfl,rfl⟩
   ·rw [YL (p:=fun q:AA=>decide (V.int q.1.tk=V.int 0)) (x:=q) (Bool.eq_false_iff.mpr e),List.append_nil]
    exact⟨rfl,rfl⟩
  rintro ys H2 ⟨rfl,rfl⟩ Lb nLb
  rw [lM,List.take_length]
  have tb:=aB (o:=.lst ((jA ra).map fun q=>V.ref q.2)) nLb
  have Ab:qQ (upd H2 Lb (.lst ((jA ra).map fun q=>V.ref q.2))) Lb (jA ra):=⟨aq,fun q hq=>tb _ _ (A.at_ q (List.mem_filter.mp hq).1)⟩
  have lb:(jA ra).length<=64:=Nat.le_trans (List.length_filter_le _ _) lra
  have s3:=s1.trans tb
  generalize upd H2 Lb (.lst ((jA ra).map fun q=>V.ref q.2))=H3 at tb Ab s3 ⊢
  have W3:=W.same s3
  refine⟨_,rfl,n,dx,fs,rfl,W3.obj,W3.fl.no _ (by decide +kernel),n,ls,ps,rfl,W3.s,fun Ln nLn=>?_⟩
  have en:ps.map (fun x=>V.str x.name)=(ps.map (·.name)).map V.str:=by rw [List.map_map];rfl
  rw [en]
  obtain⟨ns,hns⟩:∃ns,ps.map (·.name)=ns:=⟨_,rfl⟩
  have lns:ns.length<=16:=by rw [<-hns,lM];exact p16
  have nnd:ns.Nodup:=by rw [<-hns];exact W.fit.pnd
  rw [hns]
  have tn:=aB (o:=.lst (ns.map V.str)) nLn
  have eLn:upd H3 Ln (.lst (ns.map V.str)) Ln=some (.lst (ns.map V.str)):=aq
  have Ab4:=Ab.same tn
  have s4:=s3.trans tn
  generalize upd H3 Ln (.lst (ns.map V.str))=H4 at tn eLn Ab4 s4 ⊢
  refine⟨_,rfl,_,rfl,Ln,Lb,ns,jA ra,rfl,eLn,Ab4,nnd,lns,by omega,fun H5 D s5 nD eD=>?_⟩
  obtain⟨rk,hrk⟩:∃rk,dY ns ((jA ra).map (·.1)) ns.length=rk:=⟨_,rfl⟩
  rw [hrk] at eD
  refine⟨_,rfl,Ln,rfl,⟨_,bJ.of (s5 _ _ eLn)⟩,?_⟩
  refine dC (K:=K) (a:=Ln) (xs:=ns.map V.str) (fun i ys H2=>H2=H5/\ys=(Fx (ns.take i) rk).map V.str) (by rw [lM];omega) ⟨rfl,rfl⟩ (fun i ys H2 ⟨_,e⟩=>by rw [e,lM];exact Nat.le_trans (List.length_filter_le _ _) (by rw [List.length_take];omega)) (fun i ys H2 _ ⟨e,_⟩=>by rw [e];exact bJ.of (s5 _ _ eLn)) ?_ ?_
  ·rintro i x ys H2 hx ⟨rfl,rfl⟩
   rw [List.getElem?_map] at hx
   obtain⟨y,hy,rfl⟩:=Option.map_eq_some_iff.mp hx
   refine⟨_,rfl,_,rfl,D,_,rfl,u5 eD y,_,rfl,?_⟩
   rw [List.take_succ,hy,Option.toList_some,Option.isSome_map]
   unfold Fx
   rw [List.filter_append]
   cases hc:(iT rk y).isSome
   ·rw [Za (by show(!(iT rk y).isSome)=true;rw [hc];rfl),List.map_append]
    exact iW ⟨_,rfl,rfl,rfl⟩
   ·rw [YL (by show(!(iT rk y).isSome)=false;rw [hc];rfl),List.append_nil]
    exact cZ ⟨rfl,rfl⟩
  rintro ys H6 ⟨rfl,rfl⟩ Lf nLf
  rw [lM,List.take_length]
  obtain⟨lf,hlf⟩:∃lf,Fx ns rk=lf:=⟨_,rfl⟩
  rw [hlf]
  have tf:=aB (o:=.lst (lf.map V.str)) nLf
  have eLf:upd H6 Lf (.lst (lf.map V.str)) Lf=some (.lst (lf.map V.str)):=aq
  have s6:=s4.trans (s5.trans tf)
  have s56:=s5.trans tf
  have eD6:=tf _ _ eD
  have nD0:H D=none:=s4.free nD
  generalize upd H6 Lf (.lst (lf.map V.str))=H7 at tf eLf s6 s56 eD6 ⊢
  refine⟨_,rfl,.ref Lf,lf.length,rfl,.inl ⟨_,bJ.of eLf,by simp⟩,rfl,_,rfl,?_⟩
  cases lf with
  | nil=>
   refine vz rfl ?_
   refine⟨_,rfl,je,fun T' nT=>?_⟩
   have tT:=aB (o:=.tup [.str "ranks",.ref D]) nT
   exact k _ T' (s6.trans tT) ⟨ra,rk,[],era,by rw [hns];exact hrk.symm,by rw [hns];exact hlf.symm,.inl ⟨rfl,D,aq,nD0,tT _ _ eD6⟩⟩
  | cons x0 rest=>
   refine dF (by show ¬V.int (((rest.length+1:Nat):Int))=V.int 0;intro z;cases z) ?_
   refine⟨_,rfl,_,rfl,Lf,Lb,x0,rest,jA ra,rfl,eLf,Ab4.same s56,by omega,fun H8 L8 s8 R8=>⟨je,fun T' nT=>?_⟩⟩
   have tT:=aB (o:=.tup [.str "ring",.ref L8]) nT
   obtain⟨r,a,seen,nL8,A8,g,get,hc⟩:=R8
   exact k _ T' (s6.trans (s8.trans tT)) ⟨ra,rk,x0:: rest,era,by rw [hns];exact hrk.symm,by rw [hns];exact hlf.symm,.inr ⟨x0,rest,L8,H7,rfl,aq,s6,r,a,seen,nL8,A8.same tT,g,get,hc⟩⟩
 ·exact h.elim
inductive ww (K:PySem.W.Frag) (t:jw) (vs:List V) (H:Hp) (Q:VK) (E_:XK):Prop where
 | mk:∀(f n E G Kp D Rw l:Addr) (ed gd:List (Key×V)) (x:Str) (vs':List V) (g:Nat),vs=[.ref f,.str x]->sr K t H f n E G Kp D Rw->H E=some (.dK ed)->H G=some (.dK gd)->bZ ed (Sum.inr x)=some (.ref l)->bZ gd (Sum.inr x)=some (.int g)->bJ K H l vs'->Q (.int (vs'.length - g)) H->ww K t vs H Q E_
theorem vN (T:Txt w K mg t):FO P w K mg base 1 t.qZ ["self", "lane"] (ww K t):=by
 have sc:=T.mH.sc ["self", "lane"]
 refine T.mH.F.ok sc ln (fun _ _ _ _ H vs Q E hr h=>?_)
 obtain⟨f,n,E,G,Kp,D,Rw,l,ed,gd,x,vs',g,rfl,N,hE,hG,h3,h4,h5,k⟩:=h
 refine⟨_,(aA (aO (bC Ib (bz bO (by rfl) T.fH dB (aa (cB hr.u1 (bj (pv 0) rfl) (pv 1) (fun _ _=>rfl)) ak aF)) (cB hr.u1 (bj (pv 0) rfl) (pv 1) (fun _ _=>rfl))))),?_⟩
 obtain⟨dx,fs,h1,h2⟩:=id N.ex
 refine⟨_,rfl,f,_,dx,fs,_,rfl,h1,T.aY.c,T.aY.na.2.1,h2.has ("ever",.ref E) (by simp),_,rfl,E,_,rfl,(by rw [<-h3];exact dZ.k (k:=Sum.inr x) hE),?_⟩
 refine⟨.ref l,vs'.length,rfl,.inl ⟨vs',h5,rfl⟩,_,rfl,f,_,dx,fs,_,rfl,h1,T.aY.c,T.aY.na.2.2.1,h2.has ("gone",.ref G) (by simp),_,rfl,G,_,rfl,(by rw [<-h4];exact dZ.k (k:=Sum.inr x) hG),?_⟩
 refine⟨_,_,rfl,rfl,?_⟩
 exact k
inductive ye (K:PySem.W.Frag) (t:jw) (vs:List V) (H:Hp) (Q:VK) (E_:XK):Prop where
 | mk:∀(f n E G Kp D Rw l:Addr) (ed gd:List (Key×V)) (x:Str) (vs':List V) (g:Nat),vs=[.ref f,.str x]->sr K t H f n E G Kp D Rw->H E=some (.dK ed)->H G=some (.dK gd)->bZ ed (Sum.inr x)=some (.ref l)->bZ gd (Sum.inr x)=some (.int g)->bJ K H l vs'->Q ((vs'[g]?).getD .non) H->ye K t vs H Q E_
theorem Jl (T:Txt w K mg t):FO P w K mg base 2 t.uI ["self", "lane"] (ye K t):=by
 have sc:=T.uK.sc ["self", "lane"]
 refine T.uK.F.ok sc ln (fun _ _ _ _ H vs Q E hr h=>?_)
 obtain⟨f,n,E,G,Kp,D,Rw,l,ed,gd,x,vs',g,rfl,N,hE,hG,h3,h4,h5,k⟩:=h
 refine⟨_,(aA (aO (oH (bc Mz (zb (pv 0) T.aY T.aY.me.2.1 (vN T) T.mH hr (aa (pv 1) ak aj)) az (bL _)) (aV aX (cB hr.u1 (bj (pv 0) rfl) (pv 1) (fun _ _=>rfl)) (cB hr.u1 (bj (pv 0) rfl) (pv 1) (fun _ _=>rfl)) (fun _ _=>rfl)) wY))),?_⟩
 obtain⟨dx,fs,h1,h2⟩:=id N.ex
 refine⟨_,rfl,f,dx,fs,rfl,h1,h2.no _ (by decide +kernel),_,rfl,f,n,E,G,Kp,D,Rw,l,ed,gd,x,vs',g,rfl,N,hE,hG,h3,h4,h5,?_⟩
 refine⟨_,_,rfl,rfl,_,rfl,jH (fun e=>?_) (fun e=>?_)⟩
 ·have e':g <vs'.length:=by have:=of_decide_eq_true e;omega
  refine⟨_,rfl,f,_,dx,fs,_,rfl,h1,T.aY.c,T.aY.na.2.1,h2.has ("ever",.ref E) (by simp),_,rfl,E,_,rfl,(by rw [<-h3];exact dZ.k (k:=Sum.inr x) hE),?_⟩
  refine⟨_,rfl,f,_,dx,fs,_,rfl,h1,T.aY.c,T.aY.na.2.2.1,h2.has ("gone",.ref G) (by simp),_,rfl,G,_,rfl,(by rw [<-h4];exact dZ.k (k:=Sum.inr x) hG),?_⟩
  rw [List.getElem?_eq_getElem e'] at k
  exact⟨l,vs',g,_,rfl,rfl,h5,aN (List.getElem?_eq_getElem e'),k⟩
 ·have e':¬g <vs'.length:=fun z=>e (decide_eq_true (by omega))
  rw [List.getElem?_eq_none (by omega)] at k
  exact k
inductive nY (K:PySem.W.Frag) (t:jw) (vs:List V) (H:Hp) (Q:VK):Prop where
 | mk:∀(f n E G Kp D Rw:Addr) (rd dd:List (Key×V)) (x:Str),vs=[.ref f,.str x]->sr K t H f n E G Kp D Rw->H Rw=some (.dK rd)->H D=some (.dK dd)->(((bZ rd (Sum.inr x)=none/\Q (.bl false) H)∨∃(l:Addr) (vs':List V) (g:Nat),bZ rd (Sum.inr x)=some (.ref l)/\bZ dd (Sum.inr x)=some (.int g)/\bJ K H l vs'/\Q (.bl (decide (g=vs'.length))) H))->nY K t vs H Q
@[irreducible] noncomputable def dR (K:PySem.W.Frag) (t:jw):Sp:=fun vs H Q _=>nY K t vs H Q
theorem xT (T:Txt w K mg t):FO P w K mg base 1 t.jQ ["self", "name"] (dR K t):=by
 have sc:=T.jR.sc ["self", "name"]
 refine T.jR.F.ok sc (fun vs H Q E h=>?_) (fun cdv A outer s H vs Q E hr h=>?_)
 ·unfold dR at h
  obtain⟨f,n,E,G,Kp,D,Rw,rd,dd,x,rfl,_⟩:=h
  rfl
 ·unfold dR at h
  obtain⟨f,n,E,G,Kp,D,Rw,rd,dd,x,rfl,N,hR,hD,k⟩:=h
  refine⟨_,(aA (aO (zE (Il (wB hr.u1 (pv 1) (bj (pv 0) rfl))) (yU (u9 iG (cB hr.u1 (bj (pv 0) rfl) (pv 1) (fun _ _=>rfl)) (bz bO (by rfl) T.fH dB (aa (cB hr.u1 (bj (pv 0) rfl) (pv 1) (fun _ _=>rfl)) ak aF)) (bL _)))))),?_⟩
  obtain⟨dx,fs,h1,h2⟩:=id N.ex
  refine⟨_,rfl,_,rfl,f,_,dx,fs,_,rfl,h1,T.aY.c,T.aY.na.2.2.2.2.2.1,h2.has ("rows",.ref Rw) (by simp),Rw,_,rfl,dZ.k (k:=Sum.inr x) hR,?_⟩
  rcases k with ⟨k1,k⟩ | ⟨l,vs',g,k1,k2,k3,k⟩
  ·rw [k1]
   exact⟨_,rfl,cZ k⟩
  ·rw [k1]
   refine⟨_,rfl,iW ?_⟩
   refine⟨_,rfl,f,_,dx,fs,_,rfl,h1,T.aY.c,T.aY.na.2.2.2.2.1,h2.has ("done",.ref D) (by simp),_,rfl,D,_,rfl,(by rw [<-k2];exact dZ.k (k:=Sum.inr x) hD),?_⟩
   refine⟨_,rfl,f,_,dx,fs,_,rfl,h1,T.aY.c,T.aY.na.2.2.2.2.2.1,h2.has ("rows",.ref Rw) (by simp),_,rfl,Rw,_,rfl,(by rw [<-k1];exact dZ.k (k:=Sum.inr x) hR),?_⟩
   refine⟨.ref l,vs'.length,rfl,.inl ⟨vs',k3,rfl⟩,rfl,?_⟩
   rw [show decide (V.int (g:Int)=V.int (vs'.length:Int))=decide (g=vs'.length) by rw [decide_eq_decide,V.int.injEq];omega]
   exact k
inductive vM (K:PySem.W.Frag) (t:jw) (vs:List V) (H:Hp) (Q:VK) (E_:XK):Prop where
 | mk:∀(f n E G Kp D Rw p:Addr) (ed gd:List (Key×V)) (i:Nat) (nm:V) (ns os:List V) (xs:List Str) (hv:Str->V),vs=[.ref f,.ref p]->sr K t H f n E G Kp D Rw->H E=some (.dK ed)->H G=some (.dK gd)->dX K t H p i nm ns (xs.map V.str) os->xs.length<=3->((∀x∈xs,∃(l:Addr) (vs':List V) (g:Nat),bZ ed (Sum.inr x)=some (.ref l)/\bZ gd (Sum.inr x)=some (.int g)/\bJ K H l vs'/\hv x=(vs'[g]?).getD .non))->(∀d,H d=none->Q (.ref d) (upd H d (.lst (xs.map hv))))->vM K t vs H Q E_
theorem vX (T:Txt w K mg t):FO P w K mg base 3 t.rn ["self", "part"] (vM K t):=by
 have sc:=T.mG.sc ["self", "part"]
 refine T.mG.F.ok sc ln (fun _ _ _ _ H vs Q E hr h=>?_)
 obtain⟨f,n,E,G,Kp,D,Rw,p,ed,gd,i,nm,ns,os,xs,hv,rfl,N,hE,hG,hP,hx,hh,k⟩:=h
 refine⟨_,(aA (aO (eU [0] ["self", "part"] (aR (inClass (top 66) 6)) rfl (Ho (bj (pv 1) rfl)) (fun _ _ _ _ _=>iM) (fun _ _ _ _ _=>(zb (pv 1) T.aY T.aY.me.2.2.1 (Jl T) T.uK hr (aa (pv 0) ak aj)))))),?_⟩
 obtain⟨dx,fs,h1,h2⟩:=id N.ex
 obtain⟨dxp,tn,ti,to,p1,p2,p3,p4⟩:=id hP.ex
 have hz:sizeLine=16777216:=sizeLine_eq
 refine⟨_,rfl,p,_,dxp,_,_,rfl,p1,ie T i,yZ T i,uB _ _ _ _,ti,rfl,⟨_,p3⟩,?_⟩
 refine JQ (K:=K) (a:=ti) (xs:=xs.map V.str) (fun j ys H'=>H'=H/\ys=(xs.take j).map hv) (by simp;omega) ⟨rfl,rfl⟩ (fun j ys H' ⟨_,e⟩=>by rw [e];simp;omega) (fun j ys H' _ ⟨e,_⟩=>by rw [e];exact p3) ?_ ?_
 ·rintro j y ys H' hy ⟨rfl,rfl⟩
  rw [List.getElem?_map] at hy
  obtain⟨x,hq,rfl⟩:=Option.map_eq_some_iff.mp hy
  obtain⟨l,vs',g,g1,g2,g3,g4⟩:=hh x (List.mem_of_getElem? hq)
  refine yes ⟨_,rfl,f,dx,fs,rfl,h1,h2.no _ (by decide +kernel),_,rfl,f,n,E,G,Kp,D,Rw,l,ed,gd,x,vs',g,rfl,N,hE,hG,g1,g2,g3,rfl,?_⟩
  rw [List.take_succ,hq,Option.toList_some,List.map_append,<-g4]
  rfl
 ·rintro ys H' ⟨rfl,rfl⟩ d hd
  rw [lM,List.take_length]
  exact k d hd
theorem Q6 (T:Txt w K mg t) (i:Nat):MethAt P w K mg base Bp 2 (cls t i) "lacks" (yc K t i):=match i with
 | 0=>⟨_,_,_,T.iz.c,(T.bA.me T.iz.me.2.2.2.1),T.bA.b,(cM T).imp fun _ _ _ _ h=>⟨_,h⟩⟩
 | 1=>⟨_,_,_,T.iJ.c,(T.bA.me T.iJ.me.2.2.2.1),T.bA.b,(cM T).imp fun _ _ _ _ h=>⟨_,h⟩⟩
 | 2=>⟨_,_,_,T.iu.c,(T.bA.me T.iu.me.2.2.2.1),T.bA.b,(cM T).imp fun _ _ _ _ h=>⟨_,h⟩⟩
 | 3=>⟨_,_,_,T.iH.c,(T.bA.me T.iH.me.2.2.2.1),T.bA.b,(cM T).imp fun _ _ _ _ h=>⟨_,h⟩⟩
 | 4=>⟨_,_,_,T.iC.c,(T.bA.me T.iC.me.2.2.2.1),T.bA.b,(cM T).imp fun _ _ _ _ h=>⟨_,h⟩⟩
 | 5=>⟨_,_,_,T.iy.c,(T.bA.me T.iy.me.2.2.2.1),T.bA.b,(cM T).imp fun _ _ _ _ h=>⟨_,h⟩⟩
 | 6=>⟨_,_,_,T.lE.c,(T.bA.me T.lE.me.2.2.2.1),T.bA.b,(cM T).imp fun _ _ _ _ h=>⟨_,h⟩⟩
 | 7=>⟨_,_,_,T.iB.c,(T.bA.me T.iB.me.2.2.2.1),T.bA.b,(cM T).imp fun _ _ _ _ h=>⟨_,h⟩⟩
 | 8=>⟨_,_,_,T.fK.c,(T.bA.me T.fK.me.2.2.2.1),T.bA.b,(cM T).imp fun _ _ _ _ h=>⟨_,h⟩⟩
 | 9=>⟨_,_,_,T.dO.c,(T.bA.me T.dO.me.2.2.2.1),T.bA.b,(cM T).imp fun _ _ _ _ h=>⟨_,h⟩⟩
 | n+10=>⟨_,_,_,T.fB.c,(T.bA.me T.fB.me.2.2.2.1),T.bA.b,(cM T).imp fun _ _ _ _ h=>⟨_,h⟩⟩
inductive sG (K:PySem.W.Frag) (t:jw) (vs:List V) (H:Hp) (Q:VK) (E:XK):Prop where
 | mk:∀(A:qF) (ls:List aH) (ps:List PD) (S:FS) (p:PD),vs=[.ref A.f,.str p.name]->gH K t H A.n ls ps->fD K t H A ls ps S->p∈ps->(∀H',aM H H'->Q (fM p.kind p.ins (bh S p)) H')->sG K t vs H Q E
theorem Bc (T:Txt w K mg t):FO P w K mg base 4 t.o8 ["self", "name"] (sG K t):=by
 have sc:=T.oU.sc ["self", "name", "part", "place"]
 refine T.oU.F.ok sc ln (fun _ _ _ _ H vs Q E hr h=>?_)
 obtain⟨A,ls,ps,S,p,rfl,N,W,hp,k⟩:=h
 refine⟨_,(au (sN sc 2 (zb (bj (pv 0) rfl) T.aQ T.aQ.me.2.2.2.2.2.2.2.2.2.2.2.2.1 (n8 T) T.jg hr (aa (pv 1) ak aj)))
  (au (sN sc 3 (xP (CX:=Bp) (k:=2) (E:=E0) (pv 2) (hr.mono (by decide)) gK (aa (zb (pv 0) T.aY T.aY.me.2.2.2.2.1 (vX T) T.mG hr (aa (pv 2) ak aj)) ak aZ)))
  (aA (aO (oH (fY (Dn (pv 3))) wY (aV cP (bj (pv 2) rfl) (pv 3) (fun _ _=>rfl))))))),?_⟩
 obtain⟨dxn,fsn,R,F,Pd,Gn,Tk,FL,PL,Wn⟩:=id N
 have F:=Wn.fit
 obtain⟨dx,fs,h1,h2⟩:=id W.at'.ex
 have hh1:∀{H':Hp},aM H H'->(∀x∈p.ins,∃(l:Addr) (vs':List V) (g:Nat),bZ (S8 A.ea ls) (Sum.inr x)=some (.ref l)/\bZ (cW S.g ls) (Sum.inr x)=some (.int g)/\bJ K H' l vs'/\lL S x=(vs'[g]?).getD .non):=fun s x hx=>by
  obtain⟨l,hl,rfl⟩:=F.inL hp (List.mem_append.mpr (.inl hx))
  exact⟨A.ea l.name,_,S.g l.name,By F.whole.nod hl,vh F.whole.nod hl,bJ.of (s _ _ (W.lists l hl)),by unfold lL;rw [List.getElem?_map]⟩
 refine⟨_,rfl,A.f,_,dx,fs,_,rfl,h1,T.aY.c,T.aY.na.1,h2.has ("net",.ref A.n) (by simp),A.n,dxn,fsn,rfl,Wn.obj,Wn.fl.no _ (by decide +kernel),_,rfl,A.n,ls,ps,p.name,rfl,N,.inl ⟨p,hp,rfl,fun H1 q s1 P1=>?_⟩⟩
 obtain⟨dxp,tn,ti,to,p1,p2,p3,p4⟩:=id P1.ex
 have W1:=W.same s1
 have hI:=(F.pok p hp).2.2.1
 have hO:=qH S p (F.pok p hp)
 refine⟨_,rfl,q,cls t p.kind,dxp,_,yc K t p.kind,rfl,p1,rG _ _ _ _ (by decide +kernel) (by decide +kernel) (by decide +kernel) (by decide +kernel),Q6 T p.kind,?_⟩
 refine⟨_,rfl,A.f,dx,fs,rfl,s1 _ _ h1,h2.no _ (by decide +kernel),_,rfl,A.f,A.n,A.E,A.G,A.Kp,A.D,A.Rw,q,_,_,p.kind,_,_,_,p.ins,lL S,rfl,W1.at',W1.ever,W1.gone,P1,(by have:=Gm p.kind;omega),hh1 s1,fun d hd=>?_⟩
 have s2:aM H1 (upd H1 d (.lst (p.ins.map (lL S)))):=aB hd
 refine⟨q,d,_,_,_,_,bh S p,rfl,P1.same s2,by rw [lM];exact hI,bJ.of aq,hO,fun H3 s3=>?_⟩
 have s23:=s2.trans s3
 have k':=k H3 (s1.trans s23)
 have hlt:=jr hO
 unfold fM at k'
 unfold MF
 cases hf:(places p.kind (bh S p)).find? (tZ (bh S p)) with
 | none=>
  rw [hf] at k'
  exact⟨_,rfl,_,rfl,iW k'⟩
 | some j=>
  rw [hf] at k'
  have hq:j <p.ins.length:=by have:=hlt j (List.mem_of_find?_eq_some hf);unfold bh at this;rwa [lM] at this
  have k':Q (V.str p.ins[j]) H3:=by simpa only [List.getElem?_eq_getElem hq,Option.map_some,Option.getD_some] using k'
  exact⟨_,rfl,_,rfl,cZ ⟨_,rfl,q,_,dxp,_,_,rfl,s23 _ _ p1,ie T p.kind,yZ T p.kind,uB _ _ _ _,_,rfl,ti,p.ins.map V.str,j,_,rfl,rfl,s23.seqT p3,aN (j:=j) (by rw [List.getElem?_map,List.getElem?_eq_getElem hq];rfl),k'⟩⟩
theorem Ov (T:Txt w K mg t) {i:Nat} (hi:i <11):MethAt P w K mg base Bp 2 (cls t i) "worked" (dU K t i):=match i,hi with
 | 0,_=>⟨_,_,_,T.iz.c,(T.kI.me T.iz.me.2.2.2.2.1),T.kI.b,iR.mono (k:=2) (CP T) (by decide)⟩
 | 1,_=>⟨_,_,_,T.iJ.c,(T.kO.me T.iJ.me.2.2.2.2.1),T.kO.b,iR.mono (k:=2) (CK T) (by decide)⟩
 | 2,_=>⟨_,_,_,T.iu.c,(T.j4.me T.iu.me.2.2.2.2.1),T.j4.b,iR.mono (k:=2) (CT T) (by decide)⟩
 | 3,_=>⟨_,_,_,T.iH.c,(T.kh.me T.iH.me.2.2.2.2.1),T.kh.b,iR.mono (k:=2) (Dg T) (by decide)⟩
 | 4,_=>⟨_,_,_,T.iC.c,(T.j5.me T.iC.me.2.2.2.2.1),T.j5.b,iR.mono (k:=2) (Dj T) (by decide)⟩
 | 5,_=>⟨_,_,_,T.iy.c,(T.kj.me T.iy.me.2.2.2.2.1),T.kj.b,iR.mono (k:=2) (Er T) (by decide)⟩
 | 6,_=>⟨_,_,_,T.lE.c,(T.mV.me T.lE.me.2.2.2.2.1),T.mV.b,iR.mono (k:=2) (Eu T) (by decide)⟩
 | 7,_=>⟨_,_,_,T.iB.c,(T.jZ.me T.iB.me.2.2.2.2.1),T.jZ.b,iR.mono (k:=2) (Ck T) (by decide)⟩
 | 8,_=>⟨_,_,_,T.fK.c,(T.jy.me T.fK.me.2.2.2.2.1),T.jy.b,iR.mono (k:=2) (Bf T) (by decide)⟩
 | 9,_=>⟨_,_,_,T.dO.c,(T.jh.me T.dO.me.2.2.2.2.1),T.jh.b,iR.mono (k:=2) (zN T) (by decide)⟩
 | 10,_=>⟨_,_,_,T.fB.c,(T.jx.me T.fB.me.2.2.2.2.1),T.jx.b,iR.mono (k:=2) (Bl T) (by decide)⟩
theorem YQ (ns ws:List Int) (kp:Int):∀pv∈cz 0 ns ws kp,∃q:Nat,pv.1=(q:Int)/\q <cO 0:=by
 intro pv h
 simp [cz] at h
 subst h
 exact⟨0,rfl,by decide⟩
theorem Yz (ns ws:List Int) (kp:Int):∀pv∈cz 1 ns ws kp,∃q:Nat,pv.1=(q:Int)/\q <cO 1:=by
 intro pv h
 simp [cz] at h
theorem Xy (ns ws:List Int) (kp:Int):∀pv∈cz 2 ns ws kp,∃q:Nat,pv.1=(q:Int)/\q <cO 2:=by
 intro pv h
 simp [cz] at h
 subst h
 exact⟨0,rfl,by decide⟩
theorem YD (ns ws:List Int) (kp:Int):∀pv∈cz 3 ns ws kp,∃q:Nat,pv.1=(q:Int)/\q <cO 3:=by
 intro pv h
 simp [cz] at h
 rcases h with rfl | rfl
 ·exact⟨0,rfl,by decide⟩
 ·exact⟨1,rfl,by decide⟩
theorem Yk (ns ws:List Int) (kp:Int):∀pv∈cz 4 ns ws kp,∃q:Nat,pv.1=(q:Int)/\q <cO 4:=by
 intro pv h
 simp [cz] at h
 subst h
 exact⟨0,rfl,by decide⟩
theorem XD (ns ws:List Int) (kp:Int):∀pv∈cz 5 ns ws kp,∃q:Nat,pv.1=(q:Int)/\q <cO 5:=by
 intro pv h
 simp [cz] at h
 subst h
 exact⟨0,rfl,by decide⟩
theorem XJ (ns ws:List Int) (kp:Int):∀pv∈cz 6 ns ws kp,∃q:Nat,pv.1=(q:Int)/\q <cO 6:=by
 intro pv h
 simp [cz] at h
 subst h
 exact⟨0,rfl,by decide⟩
theorem XF (ns ws:List Int) (kp:Int):∀pv∈cz 7 ns ws kp,∃q:Nat,pv.1=(q:Int)/\q <cO 7:=by
 intro pv h
 simp [cz] at h
 subst h
 exact⟨0,rfl,by decide⟩
theorem Y6 (ns ws:List Int) (kp:Int):∀pv∈cz 8 ns ws kp,∃q:Nat,pv.1=(q:Int)/\q <cO 8:=by
 intro pv h
 simp [cz] at h
 rcases h with rfl | rfl
 ·exact⟨0,rfl,by decide⟩
 ·exact⟨1,rfl,by decide⟩
theorem Yg (ns ws:List Int) (kp:Int):∀pv∈cz 9 ns ws kp,∃q:Nat,pv.1=(q:Int)/\q <cO 9:=by
 intro pv h
 simp [cz] at h
 subst h
 exact⟨0,rfl,by decide⟩
theorem W9 (ns ws:List Int) (kp:Int):∀pv∈cz 10 ns ws kp,∃q:Nat,pv.1=(q:Int)/\q <cO 10:=by
 intro pv h
 simp [cz] at h
 subst h
 have h0:=Int.emod_nonneg (g0 ws) (show(2:Int)≠0 by decide)
 have h1:=Int.emod_lt_of_pos (g0 ws) (show(0:Int) <2 by decide)
 exact⟨(g0 ws % 2).toNat,by show g0 ws % 2=_;omega,by show(g0 ws % 2).toNat <2;omega⟩
theorem NP {i:Nat} (hi:i<=10) (ns ws:List Int) (kp:Int):∀pv∈cz i ns ws kp,∃q:Nat,pv.1=(q:Int)/\q <cO i:=by
 match i,hi with
 | 0,_=>exact YQ ns ws kp
 | 1,_=>exact Yz ns ws kp
 | 2,_=>exact Xy ns ws kp
 | 3,_=>exact YD ns ws kp
 | 4,_=>exact Yk ns ws kp
 | 5,_=>exact XD ns ws kp
 | 6,_=>exact XJ ns ws kp
 | 7,_=>exact XF ns ws kp
 | 8,_=>exact Y6 ns ws kp
 | 9,_=>exact Yg ns ws kp
 | 10,_=>exact W9 ns ws kp
 | (n+11),z=>exact absurd z (by omega)
theorem JK (i:Nat) (ns ws:List Int) (kp:Int):(cz i ns ws kp).length<=2:=match i with
 | 0=>by simp [cz]
 | 1=>by simp [cz]
 | 2=>by simp [cz]
 | 3=>by simp [cz]
 | 4=>by simp [cz]
 | 5=>by simp [cz]
 | 6=>by simp [cz]
 | 7=>by simp [cz]
 | 8=>by simp [cz]
 | 9=>by simp [cz]
 | n+10=>by simp [cz]
noncomputable def nameAt (xs:List Str) (q:Nat):V:=V.str ((xs[q]?).getD Str.empty)
theorem VF {H:Hp} {Q:VK} {Ex:XK} {f n E G Kp D Rw:Addr} {rd dd:List (Key×V)} {y:Str} (N:sr K t H f n E G Kp D Rw) (hR:H Rw=some (.dK rd)) (hD:H D=some (.dK dd))
  (k:(bZ rd (Sum.inr y)=none/\Q (.bl false) H)∨∃(l:Addr) (vs':List V) (g:Nat),bZ rd (Sum.inr y)=some (.ref l)/\bZ dd (Sum.inr y)=some (.int g)/\bJ K H l vs'/\Q (.bl (decide (g=vs'.length))) H):dR K t [.ref f,.str y] H Q Ex:=by
 unfold dR
 exact⟨f,n,E,G,Kp,D,Rw,rd,dd,y,rfl,N,hR,hD,k⟩
theorem Yh {i:Nat} (h0:i≠0) (hi:i <11) (h9:i≠9):cV i=cI i:=by
 match i,h0,hi with
 | 1,_,_=>rfl
 | 2,_,_=>rfl
 | 3,_,_=>rfl
 | 4,_,_=>rfl
 | 5,_,_=>rfl
 | 6,_,_=>rfl
 | 7,_,_=>rfl
 | 8,_,_=>rfl
 | 9,_,_=>exact absurd rfl h9
 | 10,_,_=>rfl
theorem TQ {S:FS} {p:PD} (ok:oX p) (hl:fM p.kind p.ins (bh S p)=.non):∀q∈places p.kind (bh S p),∃x n,p.ins[q]?=some x/\(bh S p)[q]?=some (.int n)/\(S.ev x)[S.g x]?=some n:=by
 have hO:=qH S p ok
 have hf:(places p.kind (bh S p)).find? (tZ (bh S p))=none:=by
  cases hf:(places p.kind (bh S p)).find? (tZ (bh S p)) with
  | none=>rfl
  | some j=>
   unfold fM at hl
   rw [hf] at hl
   have hq:j <p.ins.length:=by have:=jr hO j (List.mem_of_find?_eq_some hf);unfold bh at this;rwa [lM] at this
   simp only [List.getElem?_eq_getElem hq,Option.map_some,Option.getD_some] at hl
   cases hl
 intro q hq
 have h1:=List.find?_eq_none.mp hf q hq
 have hlt:=jr hO q hq
 have hlt':q <p.ins.length:=by unfold bh at hlt;rwa [lM] at hlt
 have e:(bh S p)[q]?=some (lL S p.ins[q]):=by unfold bh;rw [List.getElem?_map,List.getElem?_eq_getElem hlt'];rfl
 refine⟨p.ins[q],?_⟩
 unfold tZ at h1
 rw [e] at h1 ⊢
 unfold lL at h1 ⊢
 cases h0:(S.ev p.ins[q])[S.g p.ins[q]]? with
 | none=>rw [h0] at h1;exact absurd (by simp) h1
 | some n=>exact⟨n,List.getElem?_eq_getElem hlt',by simp,rfl⟩
theorem V3 {b:Nat} {ls:List aH} {ps:List PD} {S:FS} (F:yN ls ps) (O:PX b ls ps S) {p:PD} (hp:p∈ps) (hl:fM p.kind p.ins (bh S p)=.non) (he:zu S p=false):(Ei S p).length=cV p.kind/\Xu (Ei S p)/\
  (p.kind≠0->(places p.kind (bh S p)).map (fun q=>((bh S p)[q]?).getD .non)=(Ei S p).map V.int)/\(p.kind=0->∃w,(S.r p.name)[S.d p.name]?=some w/\Ei S p=[w]):=by
 have ok:=F.pok p hp
 have hn:=TQ ok hl
 by_cases h0:p.kind=0
 ·have hd:=O.dl p hp h0
  have hlt:S.d p.name <(S.r p.name).length:=by
   unfold zu at he
   simp [h0] at he
   omega
  have e:=List.getElem?_eq_getElem hlt
  have ew:Ei S p=[(S.r p.name)[S.d p.name]]:=by unfold Ei;rw [if_pos h0,e];rfl
  refine⟨by rw [ew,h0];rfl,fun w hw=>?_,fun z=>absurd h0 z,fun _=>⟨_,e,ew⟩⟩
  rw [ew,List.mem_singleton] at hw
  subst hw
  exact O.rb p hp h0 _ (List.getElem_mem hlt)
 ·have ew:Ei S p=(places p.kind (bh S p)).map fun q=>Xo (((bh S p)[q]?).getD .non):=by unfold Ei;rw [if_neg h0]
  refine⟨?_,fun w hw=>?_,fun _=>?_,fun z=>absurd z h0⟩
  ·rw [ew,lM]
   by_cases h9:p.kind=9
   ·have h3:=hn
    unfold places at h3 ⊢
    rw [if_pos h9] at h3 ⊢
    split
    ·rw [h9];rfl
    ·rename_i hno
     obtain⟨x,n,_,h3,_⟩:=h3 0 (by split <;> simp)
     cases hs:bh S p with
     | nil=>rw [hs] at h3;cases h3
     | cons a r=>
      rw [hs] at h3
      have:a=.int n:=by simpa using h3
      exact absurd (by rw [hs,this]) (hno n r)
   ·unfold places
    rw [if_neg h9,List.length_range,(qH S p ok).1,Yh h0 ok.1 h9]
  ·rw [ew] at hw
   obtain⟨q,hq,rfl⟩:=List.mem_map.mp hw
   obtain⟨x,n,hx,h3,h4⟩:=hn q hq
   rw [h3]
   show 0<=n/\n <1000000000
   obtain⟨l,hll,rfl⟩:=F.inL hp (List.mem_append.mpr (.inl (List.mem_of_getElem? hx)))
   exact O.vb l hll n (List.mem_of_getElem? h4)
  ·rw [ew,List.map_map]
   refine List.map_congr_left fun q hq=>?_
   obtain⟨x,n,_,h3,_⟩:=hn q hq
   show _=V.int (Xo _)
   rw [h3]
   rfl
theorem K9 {S:FS} {p:PD} (h:fM p.kind p.ins (bh S p)≠.non):lu S p=none:=by unfold lu;rw [if_pos h]
theorem OJ {S:FS} {p:PD} (h:zu S p=true):lu S p=none:=by unfold lu;split <;> simp [h]
inductive vW (K:PySem.W.Frag) (t:jw) (vs:List V) (H:Hp) (Q:VK):Prop where
 | mk:∀(b:Nat) (A:qF) (ls:List aH) (ps:List PD) (S:FS) (p:PD),vs=[.ref A.f,.str p.name]->gH K t H A.n ls ps->fD K t H A ls ps S->p∈ps->PX b ls ps S->((lu S p=none->∀H',aM H H'->Q .non H'))->(∀dd,lu S p=some dd->∀H' U,aM H H'->H U=none->mC (A.cells ls ps) H' U dd->Q (.ref U) H')->vW K t vs H Q
@[irreducible] noncomputable def jB (K:PySem.W.Frag) (t:jw):Sp:=fun vs H Q _=>vW K t vs H Q
noncomputable abbrev pJ:List Str:=["self", "name", "part", "heads", "places", "values", "answer", "given"]
theorem Hs (T:Txt w K mg t):FO P w K mg base 5 t.uH ["self", "name"] (jB K t):=by
 have sc:=T.ut.sc pJ
 refine T.ut.F.ok sc (fun vs H Q E h=>?_) (fun cdv A outer s H vs Q E hr h=>?_)
 ·unfold jB at h
  obtain⟨b,A,ls,ps,S,p,rfl,_⟩:=h
  rfl
 ·unfold jB at h
  obtain⟨b,A,ls,ps,S,p,rfl,N,W,hp,O,kn,k⟩:=h
  refine⟨_,(au (bQ (PW.pt (xn (fY (Bu (zb (pv 0) T.aY T.aY.me.2.2.2.2.2.1 (Bc T) T.oU hr (aa (pv 1) ak aj)))) (qY (jX (zb (pv 0) T.aY T.aY.me.2.2.2.1 (xT T) T.jR hr (aa (pv 1) ak aj))))))
    (aA (aO wY))
    bD)
   (au (sN sc 2 (zb (bj (pv 0) rfl) T.aQ T.aQ.me.2.2.2.2.2.2.2.2.2.2.2.2.1 (n8 T) T.jg hr (aa (pv 1) ak aj)))
   (au (sN sc 3 (zb (pv 0) T.aY T.aY.me.2.2.2.2.1 (vX T) T.mG hr (aa (pv 2) ak aj)))
   (au (sN sc 4 (xP (CX:=Bp) (k:=1) (E:=E0) (pv 2) (hr.mono (by decide)) gK (aa (pv 3) ak aj)))
   (au (iD (i:=5) [3] pJ (aR (inClass (top 66) 9)) rfl sc.nd rfl (bM (pv 4)) (fun _ _ _ _ _=>iM) (fun _ _ _ _ _=>(aV (Q8 (K:=K) rfl) (pv 1) (pv 0) (fun _ _=>rfl))))
   (au (gW (bQ (fY (wB hr.u1 (pv 1) (bj (pv 0) rfl)))
    (aA (sN sc 5 (bu (aa (aV aX (cB hr.u1 (bj (pv 0) rfl) (pv 1) (fun _ _=>rfl)) (cB hr.u1 (bj (pv 0) rfl) (pv 1) (fun _ _=>rfl)) (fun _ _=>rfl)) ak aF))))
    bD))
   (au (sN sc 6 (xP (CX:=Bp) (k:=2) (E:=E0) (pv 2) (hr.mono (by decide)) gK (aa (pv 5) (aa (cB hr.u1 (bj (pv 0) rfl) (pv 1) (fun _ _=>rfl)) ak aF) aj)))
   (au (Jy (i:=7) ["place", "value"] [2] pJ (aR (inClass (top 66) 9)) rfl sc.nd rfl (bM (aV cP (pv 6) az (fun _ _=>rfl))) (fun _ _ _ _ _=>Iv (K:=K) (n:=2) rfl rfl (d8 (pB (i:=0) (show(["place", "value", "part"]:List Str).Nodup by decide +kernel) rfl (Or.inl rfl) (.inr rfl)) (d8 (pB (i:=1) (show(["place", "value", "part"]:List Str).Nodup by decide +kernel) rfl (Or.inl rfl) (.inr rfl)) pR))) (fun _ _ _ _ _=>iM) (fun _ _ _ _ _=>(bW (aa (aV (m5 (K:=K) rfl) (Jh (K:=K) rfl (pv 2) rfl) (pv 0) (fun _ _=>rfl)) (aa (pv 1) ak aj) aF))))
   (aA (aO (bW (aa (eU [2] pJ (aR (inClass (top 66) 9)) rfl (bM (pv 4)) (fun _ _ _ _ _=>iM) (fun _ _ _ _ _=>(aV (m5 (K:=K) rfl) (Jh (K:=K) rfl (pv 1) rfl) (pv 0) (fun _ _=>rfl)))) (aa (pv 7) (aa (aV cP (pv 6) az (fun _ _=>rfl)) ak aF) aj) gP)))))))))))),?_⟩
  obtain⟨dxn,fsn,R,F,Pd,Gn,Tk,FL,PL,Wn⟩:=id N
  have F:=Wn.fit
  obtain⟨dx,fs,h1,h2⟩:=id W.at'.ex
  have ok:=F.pok p hp
  have hO:=qH S p ok
  have hI:=ok.2.2.1
  have hh1:∀{H':Hp},aM H H'->(∀x∈p.ins,∃(l:Addr) (vs':List V) (g:Nat),bZ (S8 A.ea ls) (Sum.inr x)=some (.ref l)/\bZ (cW S.g ls) (Sum.inr x)=some (.int g)/\bJ K H' l vs'/\lL S x=(vs'[g]?).getD .non):=fun s x hx=>by
   obtain⟨l,hl,rfl⟩:=F.inL hp (List.mem_append.mpr (.inl hx))
   exact⟨A.ea l.name,_,S.g l.name,By F.whole.nod hl,vh F.whole.nod hl,bJ.of (s _ _ (W.lists l hl)),by unfold lL;rw [List.getElem?_map]⟩
  have hz:sizeLine=16777216:=sizeLine_eq
  have hpl:(places p.kind (bh S p)).length<=3:=places_len hO
  refine⟨_,rfl,A.f,dx,fs,rfl,h1,h2.no _ (by decide +kernel),_,rfl,A,ls,ps,S,p,rfl,N,W,hp,fun H1 s1=>?_⟩
  by_cases hlk:fM p.kind p.ins (bh S p)≠.non
  ·have e:(!decide (fM p.kind p.ins (bh S p)=V.non))=true:=by simp [hlk]
   refine⟨_,rfl,?_⟩
   rw [e]
   exact iW (iW (kn (K9 hlk) H1 s1))
  have hlk:=Classical.not_not.mp hlk
  rw [hlk]
  have W1:=W.same s1
  refine⟨_,rfl,cZ ⟨_,rfl,A.f,dx,fs,rfl,s1 _ _ h1,h2.no _ (by decide +kernel),_,rfl,?_⟩⟩
  have vd:=yQ (k:=fun x=>(S.d x:Int)) F.pnd hp
  cases he:zu S p with
  | true=>
   have h0:p.kind=0/\S.d p.name=(S.r p.name).length:=by unfold zu at he;simpa using he
   refine VF W1.at' W1.rows W1.done (.inr ⟨_,_,S.d p.name,Eh F.pnd hp h0.1,vd,bJ.of (W1.rlst p hp h0.1),?_⟩)
   rw [decide_eq_true (by rw [lM];exact h0.2)]
   exact⟨_,rfl,iW (kn (OJ he) H1 s1)⟩
  | false=>
  obtain⟨lw,hB,hv,hw0⟩:=V3 F O hp hlk he
  have k':=k _ (show lu S p=some _ by unfold lu;rw [if_neg (by simp [hlk]),if_neg (by simp [he])])
  have hwl:=NP (show p.kind<=10 by have:=ok.1;omega) p.nums (Ei S p) (S.k p.name)
  have hw2:=JK p.kind p.nums (Ei S p) (S.k p.name)
  have pick:∀(Q':VK) (E':XK),Q' (.bl false) H1->dR K t [.ref A.f,.str p.name] H1 Q' E':=by
   intro Q' E' z
   refine VF W1.at' W1.rows W1.done ?_
   by_cases h0:p.kind=0
   ·refine .inr ⟨_,_,S.d p.name,Eh F.pnd hp h0,vd,bJ.of (W1.rlst p hp h0),?_⟩
    obtain⟨w,ew,_⟩:=hw0 h0
    have:=(List.getElem?_eq_some_iff.mp ew).1
    rw [decide_eq_false (by rw [lM];omega)]
    exact z
   ·exact .inl ⟨Nt F.pnd hp h0,z⟩
  refine pick _ _ ?_
  clear pick
  refine⟨_,rfl,cZ ?_⟩
  have Wn1:=Wn.same s1
  refine⟨_,rfl,A.f,_,dx,fs,_,rfl,s1 _ _ h1,T.aY.c,T.aY.na.1,h2.has ("net",.ref A.n) (by simp),A.n,dxn,fsn,rfl,Wn1.obj,Wn1.fl.no _ (by decide +kernel),_,rfl,A.n,ls,ps,p.name,rfl,Wn1.s,.inl ⟨p,hp,rfl,fun H2 q s2' hP=>?_⟩⟩
  have s2:=s1.trans s2'
  have W2:=W.same s2
  obtain⟨dxp,tn,ti,to,p1,p2,p3,p4⟩:=id hP.ex
  clear s2' W1 Wn1
  refine⟨_,rfl,A.f,dx,fs,rfl,s2 _ _ h1,h2.no _ (by decide +kernel),_,rfl,A.f,A.n,A.E,A.G,A.Kp,A.D,A.Rw,q,_,_,p.kind,_,_,_,p.ins,lL S,rfl,W2.at',W2.ever,W2.gone,hP,(by have:=Gm p.kind;omega),hh1 s2,fun d hd=>?_⟩
  have s3':=aB (o:=.lst (bh S p)) hd
  have ed3:(upd H2 d (.lst (p.ins.map (lL S)))) d=some (.lst (bh S p)):=aq
  change aM H2 (upd H2 d (.lst (p.ins.map (lL S)))) at s3'
  generalize upd H2 d (.lst (p.ins.map (lL S)))=H3 at s3' ed3 ⊢
  have s3:=s2.trans s3'
  refine⟨_,rfl,q,cls t p.kind,dxp,_,nC K t p.kind,rfl,s3' _ _ p1,rG _ _ _ _ (by decide +kernel) (by decide +kernel) (by decide +kernel) (by decide +kernel),GD T p.kind,_,rfl,q,d,_,_,_,_,bh S p,rfl,hP.same s3',by rw [lM];exact hI,bJ.of ed3,hO,fun H4 L s4' nL eL=>?_⟩
  have s24:=s3'.trans s4'
  have s4:=s3.trans s4'
  have ed4:=s4' _ _ ed3
  refine⟨_,rfl,L,rfl,⟨_,bJ.of eL⟩,dC (K:=K) (a:=L) (xs:=(places p.kind (bh S p)).map nV) (fun j ys H'=>H'=H4/\ys=((places p.kind (bh S p)).take j).map (fun q=>((bh S p)[q]?).getD .non)) (by rw [lM];omega) ⟨rfl,rfl⟩ (fun j ys H' ⟨_,e⟩=>by rw [e,lM,List.length_take];omega) (fun j ys H' _ ⟨e,_⟩=>by rw [e];exact bJ.of eL) ?_ ?_⟩
  ·rintro j v ys H' hv' ⟨e',rfl⟩
   subst e'
   rw [List.getElem?_map] at hv'
   obtain⟨r,hr',rfl⟩:=Option.map_eq_some_iff.mp hv'
   have hql:r <(bh S p).length:=jr hO r (List.mem_of_getElem? hr')
   refine yes ⟨_,rfl,_,rfl,d,bh S p,r,_,rfl,rfl,bJ.of ed4,aN (j:=r) (List.getElem?_eq_getElem hql),rfl,?_⟩
   rw [List.take_succ,hr',Option.toList_some,List.map_append,List.map_cons,List.map_nil,List.getElem?_eq_getElem hql]
   rfl
  rintro ys H' ⟨e',rfl⟩ V1 hV1
  subst e'
  rw [lM,List.take_length]
  have s5':=aB (o:=.lst ((places p.kind (bh S p)).map fun q=>((bh S p)[q]?).getD .non)) hV1
  have eV:(upd H' V1 (.lst ((places p.kind (bh S p)).map fun q=>((bh S p)[q]?).getD .non))) V1=some (.lst ((places p.kind (bh S p)).map fun q=>((bh S p)[q]?).getD .non)):=aq
  generalize upd H' V1 (.lst ((places p.kind (bh S p)).map fun q=>((bh S p)[q]?).getD .non))=H5 at s5' eV ⊢
  have s25:=s24.trans s5'
  have s5:=s4.trans s5'
  have W5:=W.same s5
  refine⟨fun σ' H6=>∃V2,aM H H6/\aM H2 H6/\aM H' H6/\σ'=[some (.ref A.f),some (.str p.name),some (.ref q),some (.ref d),some (.ref L),some (.ref V2),none,none]/\H6 V2=some (.lst ((Ei S p).map V.int)),?_,?_⟩
  ·refine⟨_,rfl,_,rfl,A.f,_,dx,fs,_,rfl,s5 _ _ h1,T.aY.c,T.aY.na.2.2.2.2.2.1,h2.has ("rows",.ref A.Rw) (by simp),A.Rw,_,rfl,dZ.k (k:=Sum.inr p.name) W5.rows,?_⟩
   by_cases h0:p.kind=0
   ·obtain⟨w,ew,eW⟩:=hw0 h0
    have v1:=Eh (ra:=A.ra) F.pnd hp h0
    rw [v1,eW]
    refine⟨_,rfl,iW ?_⟩
    refine⟨_,rfl,A.f,_,dx,fs,_,rfl,s5 _ _ h1,T.aY.c,T.aY.na.2.2.2.2.2.1,h2.has ("rows",.ref A.Rw) (by simp),_,rfl,A.Rw,_,rfl,(by rw [<-v1];exact dZ.k (k:=Sum.inr p.name) W5.rows),?_⟩
    refine⟨_,rfl,A.f,_,dx,fs,_,rfl,s5 _ _ h1,T.aY.c,T.aY.na.2.2.2.2.1,h2.has ("done",.ref A.D) (by simp),_,rfl,A.D,_,rfl,(by rw [<-vd];exact dZ.k (k:=Sum.inr p.name) W5.done),?_⟩
    refine⟨A.ra p.name,_,S.d p.name,_,rfl,rfl,bJ.of (W5.rlst p hp h0),aN (j:=S.d p.name) (by rw [List.getElem?_map,ew];rfl),je,fun V2 hV2=>?_⟩
    exact⟨V2,s5.trans (aB hV2),s25.trans (aB hV2),s5'.trans (aB hV2),rfl,aq⟩
   ·rw [Nt F.pnd hp h0]
    exact⟨_,rfl,cZ ⟨V1,s5,s25,s5',rfl,by rw [<-hv h0];exact eV⟩⟩
  rintro σ' H6 ⟨V2,s6,s26,s46,rfl,eV2⟩
  clear W5 W2 s25 s24 s5 s5' s4 s3 s3' eV ed4 ed3
  have W6:=W.same s6
  have hkp:=yQ (k:=S.k) F.pnd hp
  refine⟨_,rfl,q,cls t p.kind,dxp,_,dU K t p.kind,rfl,s26 _ _ p1,rG _ _ _ _ (by decide +kernel) (by decide +kernel) (by decide +kernel) (by decide +kernel),Ov T ok.1,_,rfl,_,rfl,A.f,_,dx,fs,_,rfl,s6 _ _ h1,T.aY.c,T.aY.na.2.2.2.1,h2.has ("kept",.ref A.Kp) (by simp),_,rfl,A.Kp,_,rfl,(by rw [<-hkp];exact dZ.k (k:=Sum.inr p.name) W6.kept),?_⟩
  refine⟨q,V2,_,p.nums,_,_,Ei S p,S.k p.name,rfl,hP.same s26,ok.2.1,bJ.of eV2,lw,hB,fun H7 U0 L0 rs s7 nL0 eU0 eL0 tU=>?_⟩
  have s57:=s6.trans s7
  have s27:=s26.trans s7
  have eL7:=s7 _ _ (s46 _ _ eL)
  have hlr:rs.length=(cz p.kind p.nums (Ei S p) (S.k p.name)).length:=by have:=Paired.length tU;unfold Jo at this;rw [lM] at this;exact this
  clear W6
  refine⟨_,rfl,U0,_,0,_,rfl,rfl,fu.of eU0,aN (j:=0) rfl,L0,rfl,⟨_,bJ.of eL0⟩,?_⟩
  refine BW (K:=K) (a:=L0) (xs:=rs.map V.ref) (fun j ys H8=>aM H7 H8/\∃qs:List Addr,ys=qs.map V.ref/\iZ H8 qs (((cz p.kind p.nums (Ei S p) (S.k p.name)).take j).map fun pv=>[.str (strAt p.outs pv.1.toNat),.int pv.2])) (by rw [lM];omega) ⟨aM.refl _,[],rfl,.nil⟩ ?_ (fun j ys H8 _ ⟨e,_⟩=>e.seq (bJ.of eL0)) ?_ ?_
  ·rintro j ys H8 ⟨_,qs,rfl,tq⟩
   have:=Paired.length tq
   rw [lM,List.length_take] at this
   rw [lM]
   omega
  ·rintro j v ys H8 hj ⟨s8,qs,rfl,tq⟩
   rw [List.getElem?_map] at hj
   obtain⟨r,hr',rfl⟩:=Option.map_eq_some_iff.mp hj
   have hjl:j <(cz p.kind p.nums (Ei S p) (S.k p.name)).length:=by have:=(List.getElem?_eq_some_iff.mp hr').1;omega
   obtain⟨pv,hpv⟩:∃pv,(cz p.kind p.nums (Ei S p) (S.k p.name))[j]?=some pv:=⟨_,List.getElem?_eq_getElem hjl⟩
   have hr2:H7 r=some (.tup [.int pv.1,.int pv.2]):=by
    obtain⟨vs2,z1,z2⟩:=xO tU hr'
    unfold Jo at z1
    rw [List.getElem?_map,hpv] at z1
    cases z1
    exact z2
   obtain⟨o,ho1,ho2⟩:=hwl _ (List.mem_of_getElem? hpv)
   have ho3:o <p.outs.length:=by rw [ok.2.2.2.1];exact ho2
   have hn:strAt p.outs o=p.outs[o]:=by unfold strAt;rw [List.getElem?_eq_getElem ho3];rfl
   refine⟨r,_,rfl,fu.of (s8 _ _ hr2),rfl,_,_,rfl,_,_,rfl,rfl,rfl,?_⟩
   refine yes ⟨_,rfl,q,_,dxp,_,_,rfl,s8 _ _ (s27 _ _ p1),ie T p.kind,Iw T p.kind,FN _ _ _ _,_,rfl,to,p.outs.map V.str,_,.str (strAt p.outs o),rfl,rfl,s8.seqT (s27.seqT p4),?_,_,rfl,je,fun u hu=>⟨s8.trans (aB hu),qs ++ [u],by simp,?_⟩⟩
   ·rw [ho1,hn]
    exact aN (j:=o) (by rw [List.getElem?_map,List.getElem?_eq_getElem ho3];rfl)
   ·rw [List.take_succ,hpv,Option.toList_some,List.map_append]
    refine(iZ.same (aB hu) tq).append (.cons ?_ .nil)
    show upd H8 u _ u=some (HO.tup [V.str (strAt p.outs pv.1.toNat),V.int pv.2])
    rw [ho1,Int.toNat_natCast]
    exact aq
  rintro ys H8 ⟨s8,qs,rfl,tq⟩ Lg hLg
  rw [lM,hlr,List.take_length] at tq
  have t9:=aB (o:=.lst (qs.map V.ref)) hLg
  have s9':=s8.trans t9
  have tq9:=iZ.same t9 tq
  have eLg:(upd H8 Lg (.lst (qs.map V.ref))) Lg=some (.lst (qs.map V.ref)):=aq
  generalize upd H8 Lg (.lst (qs.map V.ref))=H9 at t9 s9' tq9 eLg ⊢
  have s9:=s57.trans s9'
  have s29:=s27.trans s9'
  have eL9:=s9' _ _ eL7
  have eU9:=s9' _ _ eU0
  refine⟨_,rfl,L,rfl,⟨_,bJ.of eL9⟩,dC (K:=K) (a:=L) (xs:=(places p.kind (bh S p)).map nV) (fun j ys H'=>H'=H9/\ys=((places p.kind (bh S p)).take j).map (fun q=>V.str (strAt p.ins q))) (by rw [lM];omega) ⟨rfl,rfl⟩ (fun j ys H' ⟨_,e⟩=>by rw [e,lM,List.length_take];omega) (fun j ys H' _ ⟨e,_⟩=>by rw [e];exact bJ.of eL9) ?_ ?_⟩
  ·rintro j v ys HX hv' ⟨e',rfl⟩
   subst e'
   rw [List.getElem?_map] at hv'
   obtain⟨r,hr',rfl⟩:=Option.map_eq_some_iff.mp hv'
   have hql:r <p.ins.length:=by have:=jr hO r (List.mem_of_getElem? hr');unfold bh at this;rwa [lM] at this
   have hn:strAt p.ins r=p.ins[r]:=by unfold strAt;rw [List.getElem?_eq_getElem hql];rfl
   refine yes ⟨_,rfl,q,_,dxp,_,_,rfl,s29 _ _ p1,ie T p.kind,yZ T p.kind,uB _ _ _ _,_,rfl,ti,p.ins.map V.str,r,.str (strAt p.ins r),rfl,rfl,s29.seqT p3,by rw [hn];exact aN (j:=r) (by rw [List.getElem?_map,List.getElem?_eq_getElem hql];rfl),rfl,?_⟩
   rw [List.take_succ,hr',Option.toList_some,List.map_append]
   rfl
  rintro ys H10 ⟨e',rfl⟩ La hLa
  subst e'
  rw [lM,List.take_length]
  have s10':=aB (o:=.lst ((places p.kind (bh S p)).map fun q=>V.str (strAt p.ins q))) hLa
  refine⟨_,rfl,_,rfl,U0,_,1,_,rfl,rfl,fu.of (s10' _ _ eU9),aN (j:=1) rfl,je,fun U hU=>?_⟩
  refine k' _ U ((s9.trans s10').trans (aB hU)) ((s9.trans s10').free hU) ⟨La,Lg,qs,aq,?_,aB hU _ _ (s10' _ _ eLg),?_,W.cell (s9.free hLa),W.cell ((s57.trans s8).free hLg)⟩
  ·rw [List.map_map]
   exact aB hU _ _ aq
  ·rw [List.map_map]
   exact iZ.same (s10'.trans (aB hU)) tq9
theorem OD (g:Str->Nat) {ls:List aH} {x:Str} (hx:x∈ls.map (·.name)) (v:Nat):putK (cW g ls) (Sum.inr x) (.int (v:Nat))=cW (fun y=>if y=x then v else g y) ls:=by
 unfold putK
 rw [if_pos (by
  obtain⟨l,hl,rfl⟩:=List.mem_map.mp hx
  exact List.any_eq_true.mpr ⟨_,List.mem_map.mpr ⟨l,hl,rfl⟩,by simp⟩)]
 unfold cW
 rw [List.map_map]
 refine List.map_congr_left fun l _=>?_
 by_cases h:l.name=x
 ·simp [h]
 ·simp [h]
theorem GC (g:Str->Int) {ps:List PD} {x:Str} (hx:x∈ps.map (·.name)) (v:Int):putK (bV g ps) (Sum.inr x) (.int v)=bV (fun y=>if y=x then v else g y) ps:=by
 unfold putK
 rw [if_pos (by
  obtain⟨l,hl,rfl⟩:=List.mem_map.mp hx
  exact List.any_eq_true.mpr ⟨_,List.mem_map.mpr ⟨l,hl,rfl⟩,by simp⟩)]
 unfold bV
 rw [List.map_map]
 refine List.map_congr_left fun l _=>?_
 by_cases h:l.name=x
 ·simp [h]
 ·simp [h]
noncomputable def Bv (S:FS) (x:Str) (dd:ju):FS:=⟨fun y=>S.ev y ++ (dd.gv.filter fun q=>decide (q.1=y)).map (·.2),fun y=>if y∈dd.tk then S.g y+1 else S.g y,fun y=>if y=x then dd.kv else S.k y,fun y=>if y=x then S.d y+1 else S.d y,S.r⟩
noncomputable def Fb (M:List Addr) (H H':Hp):Prop:=∀b,b∉M->H' b=H b
structure Hx (ls:List aH) (dd:ju):Prop where
 ntk:dd.tk.Nodup
 tin:∀x∈dd.tk,x∈ls.map (·.name)
 gin:∀q∈dd.gv,q.1∈ls.map (·.name)
 g2:dd.gv.length<=2
inductive Ah (K:PySem.W.Frag) (t:jw) (vs:List V) (H:Hp) (Q:VK):Prop where
 | mk:∀(b:Nat) (A:qF) (ls:List aH) (ps:List PD) (S:FS) (p:PD) (U:Addr) (dd:ju),vs=[.ref A.f,.str p.name,.ref U]->yN ls ps->fD K t H A ls ps S->p∈ps->((∀l∈ls,(S.ev l.name).length<=b))->b<=100000->mC (A.cells ls ps) H U dd->Hx ls dd->(∀H',Fb (A.cells ls ps) H H'->fD K t H' A ls ps (Bv S p.name dd)->Q .non H')->Ah K t vs H Q
@[irreducible] noncomputable def oV (K:PySem.W.Frag) (t:jw):Sp:=fun vs H Q _=>Ah K t vs H Q
theorem Mg (T:Txt w K mg t):FO P w K mg base 1 t.zx ["self", "name", "deed"] (oV K t):=by
 have sc:=T.zG.sc ["self", "name", "deed", "lane", "value"]
 refine T.zG.F.ok sc (fun vs H Q E h=>?_) (fun cdv A outer s H vs Q E hr h=>?_)
 ·unfold oV at h
  obtain⟨b,A,ls,ps,S,p,U,dd,rfl,_⟩:=h
  rfl
 ·unfold oV at h
  obtain⟨b,A,ls,ps,S,p,U,dd,rfl,F,W,hp,O,hb,⟨La,Lg,rs,hU,hLa,hLg,hT,na,ng⟩,⟨ntk,hin,hout,hg2⟩,k⟩:=h
  refine⟨_,(au (dw PassesOwn.never rfl (bM (aV cP (pv 2) az (fun _ _=>rfl))) (gN sc 3)
    (aA (M5 hr.u1 (bj (pv 0) rfl) (pv 3) az HS (fun _ _ _=>rfl))))
   (au (dw PassesOwn.never rfl (bM (aV cP (pv 2) az (fun _ _=>rfl))) (zJ rfl (d8 (gN sc 3) (d8 (gN sc 4) pR)))
    (aA (bH (IV (cB hr.u1 (bj (pv 0) rfl) (pv 3) (fun _ _=>rfl)) (aa (pv 4) ak aj)))))
   (au (fU hr.u1 (bj (pv 0) rfl) (pv 1) (aV cP (pv 2) az (fun _ _=>rfl)) rfl)
   (aA (M5 hr.u1 (bj (pv 0) rfl) (pv 1) az HS (fun _ _ _=>rfl)))))),?_⟩
  have hl:sizeLine=16777216:=sizeLine_eq
  have l24:=F.l24
  have p16:=F.p16
  obtain⟨dx,fs,h1,h2⟩:=id W.at'.ex
  have hG:=W.gone
  have hn:=W.nod
  unfold qF.cells at hn na ng
  simp only [List.nodup_cons,List.mem_cons,List.mem_append,not_or] at hn na ng
  obtain⟨⟨nEG,nEK,nED,nER,nEE,nE2⟩,⟨nGK,nGD,nGR,nGE,nG2⟩,⟨nKD,nKR,nKE,nK2⟩,⟨nDR,nDE,nD2⟩,⟨nRE,nR2⟩,nA⟩:=hn
  obtain⟨nE1,nR1,nER1⟩:=List.nodup_append.mp nA
  refine⟨_,rfl,U,_,0,_,rfl,rfl,fu.of hU,aN (j:=0) rfl,La,rfl,⟨_,bJ.of hLa⟩,dH (K:=K) (a:=La) (xs:=dd.tk.map V.str) (fun j σ H'=>H'=upd H A.G (.dK (cW (fun x=>if x∈dd.tk.take j then S.g x+1 else S.g x) ls))/\∃v3,σ=[some (.ref A.f),some (.str p.name),some (.ref U),v3,none]) ⟨?_,none,rfl⟩ ?_ ?_ ?_⟩
  ·have:cW (fun x=>if x∈dd.tk.take 0 then S.g x+1 else S.g x) ls=cW S.g ls:=by simp
   rw [this,Ha hG]
  ·rintro j σ H' _ ⟨rfl,_⟩
   exact bJ.of (jo hG hLa (by intro _ z;cases z))
  ·rintro j x σ H' hx ⟨rfl,v3,rfl⟩
   rw [List.getElem?_map] at hx
   obtain⟨y,hy,rfl⟩:=Option.map_eq_some_iff.mp hx
   have hym:=hin y (List.mem_of_getElem? hy)
   have nin:y∉dd.tk.take j:=by
    have:=lJ (f:=id) (xs:=dd.tk) (by rw [List.map_id];exact ntk) hy
    rwa [List.map_id] at this
   have vg:bZ (cW (fun x=>if x∈dd.tk.take j then S.g x+1 else S.g x) ls) (Sum.inr y)=some (.int ((S.g y:Nat):Int)):=by
    obtain⟨l,hl',rfl⟩:=List.mem_map.mp hym
    rw [vh F.whole.nod hl',if_neg nin]
   refine⟨_,rfl,A.f,_,dx,fs,_,rfl,jo hG h1 (by intro _ z;cases z),T.aY.c,T.aY.na.2.2.1,h2.has ("gone",.ref A.G) (by simp),_,rfl,A.G,.int ((S.g y:Nat):Int),rfl,(by rw [<-vg];exact dZ.k (k:=Sum.inr y) aq),_,_,rfl,rfl,_,pq.k (k:=Sum.inr y) aq (by unfold cW;rw [lM];omega),?_,_,rfl⟩
   rw [pQ]
   show upd H A.G (.dK (putK _ (Sum.inr y) (.int ((S.g y+1:Nat):Int))))=_
   rw [OD _ hym (S.g y+1)]
   have:(fun z=>if z=y then S.g y+1 else if z∈dd.tk.take j then S.g z+1 else S.g z)=fun z=>if z∈dd.tk.take (j+1) then S.g z+1 else S.g z:=by
    funext z
    simp only [List.take_succ,hy,Option.toList_some,List.mem_append,List.mem_singleton]
    by_cases h3:z=y <;> by_cases h4:z∈dd.tk.take j <;> simp [h3,h4]
   rw [this]
  rintro σ H' ⟨rfl,v3,rfl⟩
  rw [lM,List.take_length]
  have m1:Fb [A.G] H (upd H A.G (.dK (cW (Bv S p.name dd).g ls))):=fun b hb=>aK (by simpa using hb)
  have gG:upd H A.G (.dK (cW (Bv S p.name dd).g ls)) A.G=some (.dK (cW (Bv S p.name dd).g ls)):=aq
  change yD _ _ _ _ (upd H A.G (.dK (cW (Bv S p.name dd).g ls)))
  generalize upd H A.G (.dK (cW (Bv S p.name dd).g ls))=H1 at m1 gG ⊢
  have g1:∀{b:Addr} {u:HO},H b=some u->(∀ks,u≠.dK ks)->H1 b=some u:=fun {b u} h hu=>by
   rw [m1 b (by rw [List.mem_singleton];rintro rfl;rw [hG] at h;exact hu _ (Option.some.inj h).symm)]
   exact h
  have hlr:rs.length=dd.gv.length:=by have:=Paired.length hT;rw [lM] at this;exact this
  have eE1:H1 A.E=some (.dK (S8 A.ea ls)):=by rw [m1 A.E (by simpa using nEG)];exact W.ever
  have lists1:∀l∈ls,H1 (A.ea l.name)=some (.lst ((S.ev l.name).map V.int)):=fun l hl=>g1 (W.lists l hl) (by intro _ z;cases z)
  have nM:∀{b:Addr} {u:HO},H1 b=some u->(∀ks,u≠.lst ks)->b∉ls.map (fun l=>A.ea l.name):=fun {b u} h hu hm=>by
   obtain⟨l,hl,rfl⟩:=List.mem_map.mp hm
   rw [lists1 l hl] at h
   exact hu _ (Option.some.inj h).symm
  refine⟨_,rfl,U,_,1,_,rfl,rfl,fu.of (g1 hU (by intro _ z;cases z)),aN (j:=1) rfl,Lg,rfl,⟨_,bJ.of (g1 hLg (by intro _ z;cases z))⟩,dH (K:=K) (a:=Lg) (xs:=rs.map V.ref) (fun j σ H'=>(Fb (ls.map (fun l=>A.ea l.name)) H1 H'/\∀l∈ls,H' (A.ea l.name)=some (.lst ((S.ev l.name ++ ((dd.gv.take j).filter fun q=>decide (q.1=l.name)).map (·.2)).map V.int)))/\∃v3 v4,σ=[some (.ref A.f),some (.str p.name),some (.ref U),v3,v4]) ⟨⟨fun _ _=>rfl,fun l hl=>?_⟩,v3,none,rfl⟩ ?_ ?_ ?_⟩
  ·rw [lists1 l hl]
   simp
  ·rintro j σ H' _ ⟨⟨m2,_⟩,_⟩
   exact bJ.of (by rw [m2 Lg ng.2.2.2.2.2.1];exact g1 hLg (by intro _ z;cases z))
  ·rintro j x σ H' hx ⟨⟨m2,l2⟩,v3,v4,rfl⟩
   rw [List.getElem?_map] at hx
   obtain⟨r,hr',rfl⟩:=Option.map_eq_some_iff.mp hx
   obtain⟨vs2,z1,z2⟩:=xO hT hr'
   rw [List.getElem?_map] at z1
   obtain⟨w,ew,rfl⟩:=Option.map_eq_some_iff.mp z1
   have hj:=(List.getElem?_eq_some_iff.mp ew).1
   have er:=g1 z2 (by intro _ z;cases z)
   have er':H' r=some (.tup [.str w.1,.int w.2]):=by rw [m2 r (nM er (by intro _ z;cases z))];exact er
   have fe:H' A.f=some (.ins t.bU dx fs):=by
    have e1:=g1 h1 (by intro _ z;cases z)
    rw [m2 A.f (nM e1 (by intro _ z;cases z))]
    exact e1
   have ee:H' A.E=some (.dK (S8 A.ea ls)):=by rw [m2 A.E nEE];exact eE1
   obtain⟨l,hl',hln⟩:=List.mem_map.mp (hout w (List.mem_of_getElem? ew))
   have va:=By (ea:=A.ea) F.whole.nod hl'
   have ea:=l2 _ hl'
   rw [hln] at va
   refine⟨r,_,rfl,fu.of er',rfl,_,_,rfl,_,_,rfl,rfl,?_⟩
   refine⟨_,rfl,A.f,_,dx,fs,_,rfl,fe,T.aY.c,T.aY.na.2.1,h2.has ("ever",.ref A.E) (by simp),_,rfl,A.E,.ref (A.ea w.1),rfl,(by rw [<-va];exact dZ.k (k:=Sum.inr w.1) ee),.inl ⟨rfl,_,bJ.of (by rw [<-hln];exact ea)⟩,?_⟩
   refine⟨_,rfl,A.ea w.1,_,.int w.2,rfl,rfl,by rw [<-hln];exact ea,?_,⟨fun b hb=>?_,fun l1 hl1=>?_⟩,some (.str w.1),some (.int w.2),rfl⟩
   ·have h3:=O l hl'
    have h4:=List.length_filter_le (fun q:Str×Int=>decide (q.1=l.name)) (dd.gv.take j)
    rw [List.length_take] at h4
    rw [lM,lP,lM]
    omega
   ·rw [aK (fun z=>hb (by rw [z,<-hln];exact List.mem_map.mpr ⟨l,hl',rfl⟩))]
    exact m2 b hb
   ·rw [List.take_succ,ew,Option.toList_some,List.filter_append,List.map_append]
    by_cases h:w.1=l1.name
    ·have e:l1=l:=by
      have a1:=find_name F.whole.nod hl1
      have a2:=find_name F.whole.nod hl'
      rw [<-h,<-hln,a2] at a1
      exact(Option.some.inj a1).symm
     subst e
     rw [<-hln,aq]
     simp [h]
    ·have hne:A.ea l1.name≠A.ea w.1:=fun z=>by
      rw [<-hln] at z
      have:=DX nE1 hl1 hl' z
      exact h (by rw [this,hln])
     rw [aK hne,l2 l1 hl1]
     simp [h]
  rintro σ H2 ⟨⟨m2,l2⟩,v5,v6,rfl⟩
  rw [lM,hlr,List.take_length] at l2
  have fe:H2 A.f=some (.ins t.bU dx fs):=by
   have e1:=g1 h1 (by intro _ z;cases z)
   rw [m2 A.f (nM e1 (by intro _ z;cases z))]
   exact e1
  have uE:H2 U=some (.tup [.ref La,.ref Lg,.int dd.kv]):=by
   have e1:=g1 hU (by intro _ z;cases z)
   rw [m2 U (nM e1 (by intro _ z;cases z))]
   exact e1
  have kE:H2 A.Kp=some (.dK (bV S.k ps)):=by rw [m2 A.Kp nKE,m1 A.Kp (by simpa using Ne.symm nGK)];exact W.kept
  have dE:H2 A.D=some (.dK (bV (fun x=>(S.d x:Int)) ps)):=by rw [m2 A.D nDE,m1 A.D (by simpa using Ne.symm nGD)];exact W.done
  have lk:∀k1:Str->Int,(bV k1 ps).length <sizeLine:=fun k1=>by unfold bV;rw [lM];omega
  have hpn:p.name∈ps.map (·.name):=List.mem_map.mpr ⟨p,hp,rfl⟩
  refine⟨_,rfl,U,_,2,_,rfl,rfl,fu.of uE,aN (j:=2) rfl,_,rfl,A.f,_,dx,fs,_,rfl,fe,T.aY.c,T.aY.na.2.2.2.1,h2.has ("kept",.ref A.Kp) (by simp),_,rfl,A.Kp,_,rfl,pq.k (k:=Sum.inr p.name) kE (lk _),?_⟩
  rw [GC S.k hpn]
  have m3:Fb [A.Kp] H2 (upd H2 A.Kp (.dK (bV (fun y=>if y=p.name then dd.kv else S.k y) ps))):=fun b hb=>aK (by simpa using hb)
  have kE3:upd H2 A.Kp (.dK (bV (fun y=>if y=p.name then dd.kv else S.k y) ps)) A.Kp=some (.dK (bV (fun y=>if y=p.name then dd.kv else S.k y) ps)):=aq
  generalize upd H2 A.Kp (.dK (bV (fun y=>if y=p.name then dd.kv else S.k y) ps))=H3 at m3 kE3 ⊢
  have fe3:H3 A.f=some (.ins t.bU dx fs):=by rw [m3 A.f (by simpa using qM fe kE (by intro z;cases z))];exact fe
  have dE3:H3 A.D=some (.dK (bV (fun x=>(S.d x:Int)) ps)):=by rw [m3 A.D (by simpa using Ne.symm nKD)];exact dE
  have vd:=yQ (k:=fun x=>(S.d x:Int)) F.pnd hp
  refine⟨_,rfl,A.f,_,dx,fs,_,rfl,fe3,T.aY.c,T.aY.na.2.2.2.2.1,h2.has ("done",.ref A.D) (by simp),_,rfl,A.D,.int (S.d p.name:Int),rfl,(by rw [<-vd];exact dZ.k (k:=Sum.inr p.name) dE3),_,_,rfl,rfl,_,pq.k (k:=Sum.inr p.name) dE3 (lk _),?_⟩
  rw [GC (fun x=>(S.d x:Int)) hpn]
  have eD:(fun y=>if y=p.name then(S.d p.name:Int)+1 else(S.d y:Int))=fun x=>(((Bv S p.name dd).d x:Nat):Int):=by
   funext y
   unfold Bv
   by_cases h:y=p.name
   ·subst h;simp
   ·simp [h]
  change Q .non (upd H3 A.D (.dK (bV (fun y=>if y=p.name then(S.d p.name:Int)+1 else(S.d y:Int)) ps)))
  rw [eD]
  have m4:Fb [A.D] H3 (upd H3 A.D (.dK (bV (fun x=>(((Bv S p.name dd).d x:Nat):Int)) ps))):=fun b hb=>aK (by simpa using hb)
  have dE4:upd H3 A.D (.dK (bV (fun x=>(((Bv S p.name dd).d x:Nat):Int)) ps)) A.D=some (.dK (bV (fun x=>(((Bv S p.name dd).d x:Nat):Int)) ps)):=aq
  generalize upd H3 A.D (.dK (bV (fun x=>(((Bv S p.name dd).d x:Nat):Int)) ps))=H4 at m4 dE4 ⊢
  have mv:∀b,b≠A.D->b≠A.Kp->H4 b=H2 b:=fun b a1 a2=>by rw [m4 b (by simpa using a1),m3 b (by simpa using a2)]
  have fe4:H4 A.f=some (.ins t.bU dx fs):=by rw [m4 A.f (by simpa using qM fe3 dE3 (by intro z;cases z))];exact fe3
  refine k H4 (fun b hb=>?_) ⟨⟨dx,fs,fe4,h2⟩,?_,?_,?_,?_,dE4,?_,?_,W.nod⟩
  ·unfold qF.cells at hb
   simp only [List.mem_cons,List.mem_append,not_or] at hb
   rw [mv b hb.2.2.2.1 hb.2.2.1,m2 b hb.2.2.2.2.2.1,m1 b (by simpa using hb.2.1)]
  ·rw [mv A.E nED nEK,m2 A.E nEE,eE1]
  ·intro l hl
   have a2:=l2 l hl
   rw [mv _ (qM a2 dE (by intro z;cases z)) (qM a2 kE (by intro z;cases z))]
   exact a2
  ·rw [mv A.G nGD nGK,m2 A.G nGE,gG]
  ·rw [m4 A.Kp (by simpa using nKD)]
   exact kE3
  ·rw [mv A.Rw (Ne.symm nDR) (Ne.symm nKR),m2 A.Rw nRE,m1 A.Rw (by simpa using Ne.symm nGR)]
   exact W.rows
  ·intro p' hp' h0
   have hm:A.ra p'.name∈(qt ps).map (fun p=>A.ra p.name):=List.mem_map.mpr ⟨p',List.mem_filter.mpr ⟨hp',by simp [h0]⟩,rfl⟩
   rw [mv _ (fun z=>nD2 (by rw [<-z];exact hm)) (fun z=>nK2 (by rw [<-z];exact hm)),m2 _ (fun z=>nER1 _ z _ hm rfl),m1 _ (by simpa using fun z=>nG2 (by rw [<-z];exact hm))]
   exact W.rlst p' hp' h0
theorem Rp (T:Txt w K mg t) (i:Nat):MethAt P w K mg base Bp 1 (cls t i) "start" (uf K t i):=match i with
 | 0=>⟨_,_,_,T.iz.c,(T.bG.me T.iz.me.2.2.2.2.2.1),T.bG.b,(du T).imp fun _ _ _ _ h=>⟨_,by omega,h⟩⟩
 | 1=>⟨_,_,_,T.iJ.c,(T.bG.me T.iJ.me.2.2.2.2.2.1),T.bG.b,(du T).imp fun _ _ _ _ h=>⟨_,by omega,h⟩⟩
 | 2=>⟨_,_,_,T.iu.c,(T.bG.me T.iu.me.2.2.2.2.2.1),T.bG.b,(du T).imp fun _ _ _ _ h=>⟨_,by omega,h⟩⟩
 | 3=>⟨_,_,_,T.iH.c,(T.bG.me T.iH.me.2.2.2.2.2.1),T.bG.b,(du T).imp fun _ _ _ _ h=>⟨_,by omega,h⟩⟩
 | 4=>⟨_,_,_,T.iC.c,(T.bG.me T.iC.me.2.2.2.2.2.1),T.bG.b,(du T).imp fun _ _ _ _ h=>⟨_,by omega,h⟩⟩
 | 5=>⟨_,_,_,T.iy.c,(T.mY.me T.iy.me.2.2.2.2.2.1),T.mY.b,Ey T⟩
 | 6=>⟨_,_,_,T.lE.c,(T.bG.me T.lE.me.2.2.2.2.2.1),T.bG.b,(du T).imp fun _ _ _ _ h=>⟨_,by omega,h⟩⟩
 | 7=>⟨_,_,_,T.iB.c,(T.bG.me T.iB.me.2.2.2.2.2.1),T.bG.b,(du T).imp fun _ _ _ _ h=>⟨_,by omega,h⟩⟩
 | 8=>⟨_,_,_,T.fK.c,(T.bG.me T.fK.me.2.2.2.2.2.1),T.bG.b,(du T).imp fun _ _ _ _ h=>⟨_,by omega,h⟩⟩
 | 9=>⟨_,_,_,T.dO.c,(T.bG.me T.dO.me.2.2.2.2.2.1),T.bG.b,(du T).imp fun _ _ _ _ h=>⟨_,by omega,h⟩⟩
 | n+10=>⟨_,_,_,T.fB.c,(T.bG.me T.fB.me.2.2.2.2.2.1),T.bG.b,(du T).imp fun _ _ _ _ h=>⟨_,by omega,h⟩⟩
theorem Uc:∀i,i <11->dh i= "give" ->i=0:=by decide +kernel
theorem O1 (p:PD) (h:oX p):Ie p.kind (p.nums.map V.int)=.int (Ir p):=by
 unfold Ie Ir
 by_cases h5:p.kind=5
 ·rw [if_pos h5,if_pos h5]
  have hl:p.nums.length=1:=by rw [h.2.1,h5];rfl
  match p.nums,hl with
  | [m],_=>rfl
 ·rw [if_neg h5,if_neg h5]
noncomputable def JR (ls:List aH) (x:Str):List Int:=((ls.find? fun l=>decide (l.name=x)).map (·.first)).getD []
theorem yp {ls:List aH} (nd:(ls.map (·.name)).Nodup) {l:aH} (hl:l∈ls):JR ls l.name=l.first:=by
 unfold JR
 rw [find_name nd hl]
 rfl
noncomputable def kZ (RW:List (Str×Addr×List Int)):List (Key×V):=RW.map fun q=>((Sum.inr q.1:Key),V.ref q.2.1)
noncomputable def sW (RW:List (Str×Addr×List Int)) (x:Str):List Int:=((RW.find? fun q=>decide (q.1=x)).map (·.2.2)).getD []
structure mz (H:Hp) (rw:Addr) (RW:List (Str×Addr×List Int)):Prop where
 dict:H rw=some (.dK (kZ RW))
 lists:∀q∈RW,H q.2.1=some (.lst (q.2.2.map V.int))
 nd:(RW.map (·.1)).Nodup
 len:∀q∈RW,q.2.2.length<=300
theorem mz.same {H H':Hp} {rw:Addr} {RW:List (Str×Addr×List Int)} (h:mz H rw RW) (s:aM H H'):mz H' rw RW:=⟨s _ _ h.dict,fun q hq=>s _ _ (h.lists q hq),h.nd,h.len⟩
theorem wM (RW:List (Str×Addr×List Int)):(kZ RW).map (·.1)=(RW.map (·.1)).map (fun x=>(Sum.inr x:Key)):=by unfold kZ;rw [List.map_map,List.map_map];rfl
theorem mz.get {H:Hp} {rw:Addr} {RW:List (Str×Addr×List Int)} (h:mz H rw RW) (x:Str):(bZ (kZ RW) (Sum.inr x)=none/\sW RW x=[])∨∃a,bZ (kZ RW) (Sum.inr x)=some (.ref a)/\H a=some (.lst ((sW RW x).map V.int))/\(sW RW x).length<=300:=by
 by_cases hx:x∈RW.map (·.1)
 ·obtain⟨q,hq,rfl⟩:=List.mem_map.mp hx
  have e:sW RW q.1=q.2.2:=by unfold sW;rw [find_name (f:=fun q:Str×Addr×List Int=>q.1) h.nd hq];rfl
  refine .inr ⟨q.2.1,iK (by rw [wM];exact gh h.nd) (List.mem_map.mpr ⟨q,hq,rfl⟩),?_,?_⟩
  ·rw [e];exact h.lists q hq
  ·rw [e];exact h.len q hq
 ·refine .inl ⟨ir (by rw [wM];intro z;obtain⟨b,hb,e⟩:=List.mem_map.mp z;cases e;exact hx hb),?_⟩
  unfold sW
  rw [List.find?_eq_none.mpr fun q hq=>by simpa using fun e=>hx (List.mem_map.mpr ⟨q,hq,e⟩)]
  rfl
noncomputable def il (ls:List aH) (ps:List PD) (RW:List (Str×Addr×List Int)):FS:=⟨JR ls,fun _=>0,fW ps,fun _=>0,sW RW⟩
noncomputable def Jr (RW:List (Str×Addr×List Int)) (RL:List (PD×Addr)):List (Addr×HO):=RL.map fun q=>(q.2,HO.lst ((sW RW q.1.name).map V.int))
theorem PN {ps:List PD} (h:∀p∈ps,oX p):(ps.filter fun p=>decide (dh p.kind= "give"))=qt ps:=by
 unfold qt
 refine List.filter_congr fun p hp=>?_
 by_cases h0:p.kind=0
 ·rw [h0];rfl
 ·have:¬dh p.kind= "give" :=fun z=>h0 (Uc _ (h p hp).1 z)
  simp [h0,this]
noncomputable def Jp {α:Type} (f:α->Str) (L:List (α×Addr)) (x:Str):Addr:=((L.find? fun q=>decide (f q.1=x)).map (·.2)).getD 0
theorem tK {α:Type} {f:α->Str} {L:List (α×Addr)} (nd:(L.map fun q=>f q.1).Nodup) {q:α×Addr} (hq:q∈L):Jp f L (f q.1)=q.2:=by
 unfold Jp
 rw [find_name (f:=fun q:α×Addr=>f q.1) nd hq]
 rfl
theorem Gx {α:Type} {f:α->Str} {L:List (α×Addr)} (nd:(L.map fun q=>f q.1).Nodup):(L.map (·.1)).map (fun a=>Jp f L (f a))=L.map (·.2):=by
 rw [List.map_map]
 exact List.map_congr_left fun q hq=>tK nd hq
inductive pP (K:PySem.W.Frag) (t:jw) (vs:List V) (H:Hp) (Q:VK):Prop where
 | mk:∀(H0:Hp) (f dx n rw:Addr) (ls:List aH) (ps:List PD) (RW:List (Str×Addr×List Int)),vs=[.ref f,.ref n,.ref rw]->H f=some (.ins t.bU dx [])->aM H0 H->H0 f=none->gH K t H0 n ls ps->mz H0 rw RW->(∀H' A,A.f=f->A.n=n->jK f H H'->fD K t H' A ls ps (il ls ps RW)->(∀a∈A.cells ls ps,H a=none)->Q .non H')->pP K t vs H Q
@[irreducible] noncomputable def gf (K:PySem.W.Frag) (t:jw):Sp:=fun vs H Q _=>pP K t vs H Q
theorem zL (T:Txt w K mg t):FO P w K mg base 4 t.lO ["self", "net", "rows"] (gf K t):=by
 have sc:=T.ji.sc ["self", "net", "rows", "lane", "name", "door"]
 refine T.ji.F.ok sc (fun vs H Q E h=>?_) (fun cdv A outer s H vs Q E hr h=>?_)
 ·unfold gf at h
  obtain⟨H0,f,dx,n,rw,ls,ps,RW,rfl,_⟩:=h
  rfl
 ·unfold gf at h
  obtain⟨H0,f,dx,n,rw,ls,ps,RW,rfl,hf,s0,nf0,N,hrw,k⟩:=h
  refine⟨_,(au (gU (pv 0) (pv 1) rfl)
   (au (gU (pv 0) fJ rfl)
   (au (gU (pv 0) fJ rfl)
   (au (dw PassesOwn.never rfl (bM (Pj (pv 1) T.aQ T.aQ.me.2.1 (jz T) T.fZ hr)) (gN sc 3)
    (au (fU hr.u1 (bj (pv 0) rfl) (pv 3) (zb (pv 1) T.aQ T.aQ.me.2.2.2.2.2.2.2.2.2.1 (sO T) T.jG hr (aa (pv 3) ak aj)) rfl)
    (aA (fU hr.u1 (bj (pv 0) rfl) (pv 3) az rfl))))
   (au (gU (pv 0) fJ rfl)
   (au (gU (pv 0) fJ rfl)
   (au (dw PassesOwn.never rfl (bM (Pj (pv 1) T.aQ T.aQ.me.2.2.1 (fC T) T.dJ hr)) (gN sc 4)
    (au (fU hr.u1 (bj (pv 0) rfl) (pv 4) (zH (CX:=Bp) (k:=1) (E:=E0) (zb (pv 1) T.aQ T.aQ.me.2.2.2.2.2.2.2.2.2.2.2.2.1 (n8 T) T.jg hr (aa (pv 4) ak aj)) (hr.mono (by decide)) gK) rfl)
    (aA (fU hr.u1 (bj (pv 0) rfl) (pv 4) az rfl))))
   (au (gU (pv 0) fJ rfl)
   (aA (dw PassesOwn.never rfl (bM (Pj (pv 1) T.aQ T.aQ.me.2.2.2.2.2.1 (rU T) T.kW hr)) (gN sc 5)
    (aA (fU hr.u1 (bj (pv 0) rfl) (pv 5) (fj yx (by rfl) T.wG rN (aa (Qj hr.u1 (pv 2) (pv 5) (bu ak) ⟨rfl,rfl,rfl,rfl⟩) ak aZ)) rfl)))))))))))),?_⟩
  obtain⟨dxn,fsn,R,F,Pd,Gn,Tk,FL,PL,W⟩:=id N
  have hl:sizeLine=16777216:=sizeLine_eq
  have l24:=W.fit.l24
  have p16:=W.fit.p16
  have sk:∀{Hk:Hp},jK f H Hk->aM H0 Hk:=fun b x o e=>b x o (aD e nf0) (s0 x o e)
  have T0:=Tr.start hf
  refine⟨_,rfl,_,rfl,f,_,dx,[],rfl,hf,T.aY.c,T.aY.na.1,by show 0 <1000;decide,?_⟩
  have T1:=T0.put (L1:=[]) (L2:=[]) (o':=.ins t.bU dx (aJ "net" (.ref n) []))
  generalize upd H f (.ins t.bU dx (aJ "net" (.ref n) []))=H1 at T1 ⊢
  refine fun E nE=>?_
  have T2:=T1.new (o:=.dK []) nE
  generalize upd H1 E (.dK [])=H2 at T2 ⊢
  refine⟨_,rfl,f,_,dx,_,rfl,T2.all (f,_) (.head _),T.aY.c,T.aY.na.2.1,Nat.lt_of_le_of_lt (gO (Nat.zero_le 0)) (by decide),?_⟩
  have T3:=T2.put (L1:=[]) (o':=.ins t.bU dx (aJ "ever" (.ref E) (aJ "net" (.ref n) [])))
  generalize upd H2 f (.ins t.bU dx (aJ "ever" (.ref E) (aJ "net" (.ref n) [])))=H3 at T3 ⊢
  refine fun G nG=>?_
  have T4:=T3.new (o:=.dK []) nG
  generalize upd H3 G (.dK [])=H4 at T4 ⊢
  refine⟨_,rfl,f,_,dx,_,rfl,T4.all (f,_) (.head _),T.aY.c,T.aY.na.2.2.1,Nat.lt_of_le_of_lt (gO (gO (Nat.zero_le 0))) (by decide),?_⟩
  have T5:=T4.put (L1:=[]) (o':=.ins t.bU dx (aJ "gone" (.ref G) (aJ "ever" (.ref E) (aJ "net" (.ref n) []))))
  generalize upd H4 f (.ins t.bU dx (aJ "gone" (.ref G) (aJ "ever" (.ref E) (aJ "net" (.ref n) []))))=H5 at T5 ⊢
  have W5:=W.same (sk T5.but)
  refine⟨_,rfl,n,dxn,fsn,rfl,W5.obj,W5.fl.no _ (by decide +kernel),n,ls,ps,rfl,W5.s,fun l nl=>?_⟩
  have T6:Tr H f ((f,.ins t.bU dx (aJ "gone" (.ref G) (aJ "ever" (.ref E) (aJ "net" (.ref n) [])))):: (E,.dK (bK [])):: (G,.dK (cW (fun _=>0) [])):: (l,.lst (ls.map fun x:aH=>V.str x.name)):: jM []) (upd H5 l (.lst (ls.map fun x:aH=>V.str x.name))):=T5.new nl
  generalize upd H5 l (.lst (ls.map fun x:aH=>V.str x.name))=H6 at T6 ⊢
  clear T0 T1 T2 T3 T4 T5 W5
  refine⟨l,rfl,⟨_,bJ.of (T6.all (l,.lst (ls.map fun x:aH=>V.str x.name)) (by simp))⟩,dH (K:=K) (a:=l) (xs:=ls.map fun x:aH=>V.str x.name) (fun j σ H'=>(∃v3,σ=[some (.ref f),some (.ref n),some (.ref rw),v3,none,none])/\∃EL:List (aH×Addr),EL.map (·.1)=ls.take j/\Tr H f ((f,.ins t.bU dx (aJ "gone" (.ref G) (aJ "ever" (.ref E) (aJ "net" (.ref n) [])))):: (E,.dK (bK EL)):: (G,.dK (cW (fun _=>0) (ls.take j))):: (l,.lst (ls.map fun x:aH=>V.str x.name)):: jM EL) H') ⟨⟨none,rfl⟩,[],rfl,T6⟩ (fun j σ H' _ ⟨_,_,_,T'⟩=>bJ.of (T'.all (l,.lst (ls.map fun x:aH=>V.str x.name)) (by simp))) ?_ ?_⟩
  ·rintro j x σ H' hx ⟨⟨v3,rfl⟩,EL,eEL,T7⟩
   rw [List.getElem?_map] at hx
   obtain⟨ln,hlj,rfl⟩:=Option.map_eq_some_iff.mp hx
   have hm:=List.mem_of_getElem? hlj
   have hj:=(List.getElem?_eq_some_iff.mp hlj).1
   have nin:=lJ W.fit.whole.nod hlj
   have vE:bZ (bK EL) (Sum.inr ln.name)=none:=ir (by rw [rF,eEL];intro z;obtain⟨b,hb,e⟩:=List.mem_map.mp z;cases e;exact nin hb)
   have vG:bZ (cW (fun _=>0) (ls.take j)) (Sum.inr ln.name)=none:=ir (by rw [Ep];intro z;obtain⟨b,hb,e⟩:=List.mem_map.mp z;cases e;exact nin hb)
   have tk:ls.take (j+1)=ls.take j ++ [ln]:=by rw [List.take_succ,hlj];rfl
   have lEL:EL.length<=24:=by have:=congrArg List.length eEL;rw [lM,List.length_take] at this;omega
   have W7:=W.same (sk T7.but)
   refine⟨_,rfl,n,dxn,fsn,rfl,W7.obj,W7.fl.no _ (by decide +kernel),_,rfl,n,ls,ps,ln.name,rfl,W7.s,.inl ⟨ln,hm,rfl,fun H8 le s8 nle ele=>?_⟩⟩
   have T8:Tr H f ((f,.ins t.bU dx (aJ "gone" (.ref G) (aJ "ever" (.ref E) (aJ "net" (.ref n) [])))):: (E,.dK (bK EL)):: (G,.dK (cW (fun _=>0) (ls.take j))):: (l,.lst (ls.map fun x:aH=>V.str x.name)):: jM (EL ++ [(ln,le)])) H8:=by
    unfold jM
    rw [List.map_append]
    exact T7.got s8 nle ele
   refine⟨_,rfl,f,_,dx,_,_,rfl,T8.all (f,_) (.head _),T.aY.c,T.aY.na.2.1,(by (repeat first | (rw [aC,if_pos rfl];done) | rw [aC,if_neg (by decide +kernel)])),_,rfl,E,_,rfl,pq.k (k:=Sum.inr ln.name) (T8.all (E,.dK (bK EL)) (by simp)) (by unfold bK;rw [lM];omega),?_⟩
   have e8:putK (bK EL) (Sum.inr ln.name) (.ref le)=bK (EL ++ [(ln,le)]):=by rw [lg _ vE];unfold bK;rw [List.map_append];rfl
   rw [e8]
   have T9:=T8.put (L1:=[_]) (o':=.dK (bK (EL ++ [(ln,le)])))
   generalize upd H8 E (.dK (bK (EL ++ [(ln,le)])))=H9 at T9 ⊢
   refine⟨_,rfl,f,_,dx,_,_,rfl,T9.all (f,_) (.head _),T.aY.c,T.aY.na.2.2.1,(by (repeat first | (rw [aC,if_pos rfl];done) | rw [aC,if_neg (by decide +kernel)])),_,rfl,G,_,rfl,pq.k (k:=Sum.inr ln.name) (T9.all (G,.dK (cW (fun _=>0) (ls.take j))) (by simp)) (by unfold cW;rw [lM,List.length_take];omega),?_⟩
   have e9:putK (cW (fun _=>0) (ls.take j)) (Sum.inr ln.name) (.int 0)=cW (fun _=>0) (ls.take (j+1)):=by rw [lg _ vG,tk];unfold cW;rw [List.map_append];rfl
   rw [e9]
   have TA:=T9.put (L1:=[_,_]) (o':=.dK (cW (fun _=>0) (ls.take (j+1))))
   exact⟨⟨_,rfl⟩,EL ++ [(ln,le)],by rw [List.map_append,eEL,tk];rfl,TA⟩
  rintro σ H7 ⟨⟨v3,rfl⟩,EL,eEL,T7⟩
  rw [lM,List.take_length] at eEL T7
  have T7:Tr H f ((f,.ins t.bU dx (aJ "gone" (.ref G) (aJ "ever" (.ref E) (aJ "net" (.ref n) [])))):: (E,.dK (bK EL)):: (G,.dK (cW (fun _=>0) ls)):: jM EL) H7:=T7.sub (.cons₂ _ (.cons₂ _ (.cons₂ _ (.cons _ (List.Sublist.refl _))))) ⟨_,.head _⟩
  clear T6
  refine fun Kp nKp=>?_
  have T8:Tr H f ((f,.ins t.bU dx (aJ "gone" (.ref G) (aJ "ever" (.ref E) (aJ "net" (.ref n) [])))):: (E,.dK (bK EL)):: (G,.dK (cW (fun _=>0) ls)):: (Kp,.dK []):: jM EL) (upd H7 Kp (.dK [])):=(T7.new nKp).perm (.cons _ (.cons _ (.cons _ (List.perm_append_singleton _ _))))
  generalize upd H7 Kp (.dK [])=H8 at T8 ⊢
  refine⟨_,rfl,f,_,dx,_,rfl,T8.all (f,_) (.head _),T.aY.c,T.aY.na.2.2.2.1,Nat.lt_of_le_of_lt (gO (gO (gO (Nat.zero_le 0)))) (by decide),?_⟩
  have T9:=T8.put (L1:=[]) (o':=.ins t.bU dx (aJ "kept" (.ref Kp) (aJ "gone" (.ref G) (aJ "ever" (.ref E) (aJ "net" (.ref n) [])))))
  generalize upd H8 f (.ins t.bU dx (aJ "kept" (.ref Kp) (aJ "gone" (.ref G) (aJ "ever" (.ref E) (aJ "net" (.ref n) [])))))=H9 at T9 ⊢
  refine fun D nD=>?_
  have TA:Tr H f ((f,.ins t.bU dx (aJ "kept" (.ref Kp) (aJ "gone" (.ref G) (aJ "ever" (.ref E) (aJ "net" (.ref n) []))))):: (E,.dK (bK EL)):: (G,.dK (cW (fun _=>0) ls)):: (Kp,.dK []):: (D,.dK []):: jM EL) (upd H9 D (.dK [])):=(T9.new nD).perm (.cons _ (.cons _ (.cons _ (.cons _ (List.perm_append_singleton _ _)))))
  generalize upd H9 D (.dK [])=HA at TA ⊢
  refine⟨_,rfl,f,_,dx,_,rfl,TA.all (f,_) (.head _),T.aY.c,T.aY.na.2.2.2.2.1,Nat.lt_of_le_of_lt (gO (gO (gO (gO (Nat.zero_le 0))))) (by decide),?_⟩
  have TB:=TA.put (L1:=[]) (o':=.ins t.bU dx (aJ "done" (.ref D) (aJ "kept" (.ref Kp) (aJ "gone" (.ref G) (aJ "ever" (.ref E) (aJ "net" (.ref n) []))))))
  generalize upd HA f (.ins t.bU dx (aJ "done" (.ref D) (aJ "kept" (.ref Kp) (aJ "gone" (.ref G) (aJ "ever" (.ref E) (aJ "net" (.ref n) []))))))=HB at TB ⊢
  have WB:=W.same (sk TB.but)
  refine⟨_,rfl,n,dxn,fsn,rfl,WB.obj,WB.fl.no _ (by decide +kernel),n,ls,ps,rfl,WB.s,fun m nm=>?_⟩
  have TC:Tr H f ((f,.ins t.bU dx (aJ "done" (.ref D) (aJ "kept" (.ref Kp) (aJ "gone" (.ref G) (aJ "ever" (.ref E) (aJ "net" (.ref n) [])))))):: (E,.dK (bK EL)):: (G,.dK (cW (fun _=>0) ls)):: (Kp,.dK (bV (fW ps) [])):: (D,.dK (bV (fun _=>0) [])):: (m,.lst (ps.map fun x:PD=>V.str x.name)):: jM EL) (upd HB m (.lst (ps.map fun x:PD=>V.str x.name))):=(TB.new nm).perm (.cons _ (.cons _ (.cons _ (.cons _ (.cons _ (List.perm_append_singleton _ _))))))
  generalize upd HB m (.lst (ps.map fun x:PD=>V.str x.name))=HC at TC ⊢
  clear T7 T8 T9 TA TB WB
  refine⟨m,rfl,⟨_,bJ.of (TC.all (m,.lst (ps.map fun x:PD=>V.str x.name)) (by simp))⟩,dH (K:=K) (a:=m) (xs:=ps.map fun x:PD=>V.str x.name) (fun j σ H'=>(∃v4,σ=[some (.ref f),some (.ref n),some (.ref rw),v3,v4,none])/\Tr H f ((f,.ins t.bU dx (aJ "done" (.ref D) (aJ "kept" (.ref Kp) (aJ "gone" (.ref G) (aJ "ever" (.ref E) (aJ "net" (.ref n) [])))))):: (E,.dK (bK EL)):: (G,.dK (cW (fun _=>0) ls)):: (Kp,.dK (bV (fW ps) (ps.take j))):: (D,.dK (bV (fun _=>0) (ps.take j))):: (m,.lst (ps.map fun x:PD=>V.str x.name)):: jM EL) H') ⟨⟨none,rfl⟩,TC⟩ (fun j σ H' _ ⟨_,T'⟩=>bJ.of (T'.all (m,.lst (ps.map fun x:PD=>V.str x.name)) (by simp))) ?_ ?_⟩
  ·rintro j x σ H' hx ⟨⟨v4,rfl⟩,T7⟩
   rw [List.getElem?_map] at hx
   obtain⟨p,hpj,rfl⟩:=Option.map_eq_some_iff.mp hx
   have hm:=List.mem_of_getElem? hpj
   have hj:=(List.getElem?_eq_some_iff.mp hpj).1
   have nin:=lJ W.fit.pnd hpj
   have vK:∀k0:Str->Int,bZ (bV k0 (ps.take j)) (Sum.inr p.name)=none:=fun k0=>ir (by rw [Du];intro z;obtain⟨b,hb,e⟩:=List.mem_map.mp z;cases e;exact nin hb)
   have tk:ps.take (j+1)=ps.take j ++ [p]:=by rw [List.take_succ,hpj];rfl
   have so:fW ps p.name=Ir p:=by unfold fW Ir;rw [find_name W.fit.pnd hm];rfl
   have W7:=W.same (sk T7.but)
   refine⟨_,rfl,n,dxn,fsn,rfl,W7.obj,W7.fl.no _ (by decide +kernel),_,rfl,n,ls,ps,p.name,rfl,W7.s,.inl ⟨p,hm,rfl,fun H8 q s8 P8=>?_⟩⟩
   have T8:=T7.same s8
   obtain⟨dxp,tn,ti,to,p1,p2,p3,p4⟩:=id P8.ex
   refine⟨q,cls t p.kind,dxp,_,uf K t p.kind,rfl,p1,rG _ _ _ _ (by decide +kernel) (by decide +kernel) (by decide +kernel) (by decide +kernel),Rp T p.kind,q,_,_,_,_,rfl,P8,by rw [lM];exact(W.fit.pok p hm).2.1,?_⟩
   rw [O1 p (W.fit.pok p hm),<-so]
   refine⟨_,rfl,f,_,dx,_,_,rfl,T8.all (f,_) (.head _),T.aY.c,T.aY.na.2.2.2.1,(by (repeat first | (rw [aC,if_pos rfl];done) | rw [aC,if_neg (by decide +kernel)])),_,rfl,Kp,_,rfl,pq.k (k:=Sum.inr p.name) (T8.all (Kp,.dK (bV (fW ps) (ps.take j))) (by simp)) (by unfold bV;rw [lM,List.length_take];omega),?_⟩
   have e8:∀k0:Str->Int,putK (bV k0 (ps.take j)) (Sum.inr p.name) (.int (k0 p.name))=bV k0 (ps.take (j+1)):=fun k0=>by rw [lg _ (vK k0),tk];unfold bV;rw [List.map_append];rfl
   rw [e8]
   have T9:=T8.put (L1:=[_,_,_]) (o':=.dK (bV (fW ps) (ps.take (j+1))))
   generalize upd H8 Kp (.dK (bV (fW ps) (ps.take (j+1))))=H9 at T9 ⊢
   refine⟨_,rfl,f,_,dx,_,_,rfl,T9.all (f,_) (.head _),T.aY.c,T.aY.na.2.2.2.2.1,(by (repeat first | (rw [aC,if_pos rfl];done) | rw [aC,if_neg (by decide +kernel)])),_,rfl,D,_,rfl,pq.k (k:=Sum.inr p.name) (T9.all (D,.dK (bV (fun _=>0) (ps.take j))) (by simp)) (by unfold bV;rw [lM,List.length_take];omega),?_⟩
   rw [e8 fun _=>0]
   exact⟨⟨_,rfl⟩,T9.put (L1:=[_,_,_,_])⟩
  rintro σ HD ⟨⟨v4,rfl⟩,TD⟩
  rw [lM,List.take_length] at TD
  have TD:Tr H f ((f,.ins t.bU dx (aJ "done" (.ref D) (aJ "kept" (.ref Kp) (aJ "gone" (.ref G) (aJ "ever" (.ref E) (aJ "net" (.ref n) [])))))):: (E,.dK (bK EL)):: (G,.dK (cW (fun _=>0) ls)):: (Kp,.dK (bV (fW ps) ps)):: (D,.dK (bV (fun _=>0) ps)):: jM EL) HD:=TD.sub (.cons₂ _ (.cons₂ _ (.cons₂ _ (.cons₂ _ (.cons₂ _ (.cons _ (List.Sublist.refl _))))))) ⟨_,.head _⟩
  clear TC
  refine fun Rw nRw=>?_
  have TE:Tr H f ((f,.ins t.bU dx (aJ "done" (.ref D) (aJ "kept" (.ref Kp) (aJ "gone" (.ref G) (aJ "ever" (.ref E) (aJ "net" (.ref n) [])))))):: (E,.dK (bK EL)):: (G,.dK (cW (fun _=>0) ls)):: (Kp,.dK (bV (fW ps) ps)):: (D,.dK (bV (fun _=>0) ps)):: (Rw,.dK []):: jM EL) (upd HD Rw (.dK [])):=(TD.new nRw).perm (.cons _ (.cons _ (.cons _ (.cons _ (.cons _ (List.perm_append_singleton _ _))))))
  generalize upd HD Rw (.dK [])=HE at TE ⊢
  refine⟨_,rfl,f,_,dx,_,rfl,TE.all (f,_) (.head _),T.aY.c,T.aY.na.2.2.2.2.2.1,Nat.lt_of_le_of_lt (gO (gO (gO (gO (gO (Nat.zero_le 0)))))) (by decide),?_⟩
  have TF:=TE.put (L1:=[]) (o':=.ins t.bU dx (aJ "rows" (.ref Rw) (aJ "done" (.ref D) (aJ "kept" (.ref Kp) (aJ "gone" (.ref G) (aJ "ever" (.ref E) (aJ "net" (.ref n) [])))))))
  generalize upd HE f (.ins t.bU dx (aJ "rows" (.ref Rw) (aJ "done" (.ref D) (aJ "kept" (.ref Kp) (aJ "gone" (.ref G) (aJ "ever" (.ref E) (aJ "net" (.ref n) [])))))))=HF at TF ⊢
  have WF:=W.same (sk TF.but)
  refine⟨_,rfl,n,dxn,fsn,rfl,WF.obj,WF.fl.no _ (by decide +kernel),n,ls,ps,rfl,WF.s,fun d nd=>?_⟩
  have TG:Tr H f ((f,.ins t.bU dx (aJ "rows" (.ref Rw) (aJ "done" (.ref D) (aJ "kept" (.ref Kp) (aJ "gone" (.ref G) (aJ "ever" (.ref E) (aJ "net" (.ref n) []))))))):: (E,.dK (bK EL)):: (G,.dK (cW (fun _=>0) ls)):: (Kp,.dK (bV (fW ps) ps)):: (D,.dK (bV (fun _=>0) ps)):: (Rw,.dK []):: (d,.lst (dN ps "give")):: jM EL) (upd HF d (.lst (dN ps "give"))):=(TF.new nd).perm (.cons _ (.cons _ (.cons _ (.cons _ (.cons _ (.cons _ (List.perm_append_singleton _ _)))))))
  generalize upd HF d (.lst (dN ps "give"))=HG at TG ⊢
  clear TD TE TF WF
  have lgv:=xW ps "give"
  have ndg:((ps.filter fun p=>decide (dh p.kind= "give")).map (·.name)).Nodup:=W.fit.pnd.sublist ((List.filter_sublist).map _)
  rw [PN W.fit.pok] at ndg
  have ePg:dN ps "give" =(qt ps).map fun p=>V.str p.name:=by unfold dN;rw [PN W.fit.pok]
  rw [ePg] at TG
  have lgP:(qt ps).length<=16:=by have:=List.length_filter_le (fun p:PD=>decide (p.kind=0)) ps;unfold qt;omega
  have TG:Tr H f ((f,.ins t.bU dx (aJ "rows" (.ref Rw) (aJ "done" (.ref D) (aJ "kept" (.ref Kp) (aJ "gone" (.ref G) (aJ "ever" (.ref E) (aJ "net" (.ref n) []))))))):: (E,.dK (bK EL)):: (G,.dK (cW (fun _=>0) ls)):: (Kp,.dK (bV (fW ps) ps)):: (D,.dK (bV (fun _=>0) ps)):: (Rw,.dK []):: (d,.lst ((qt ps).map fun p=>V.str p.name)):: (jM EL ++ Jr RW [])) HG:=by
   unfold Jr
   rw [List.map_nil,List.append_nil]
   exact TG
  refine⟨d,rfl,⟨_,bJ.of (TG.all (d,.lst ((qt ps).map fun p=>V.str p.name)) (by simp))⟩,dH (K:=K) (a:=d) (xs:=(qt ps).map fun p=>V.str p.name) (fun j σ H'=>(∃v5,σ=[some (.ref f),some (.ref n),some (.ref rw),v3,v4,v5])/\∃RL:List (PD×Addr),RL.map (·.1)=(qt ps).take j/\Tr H f ((f,.ins t.bU dx (aJ "rows" (.ref Rw) (aJ "done" (.ref D) (aJ "kept" (.ref Kp) (aJ "gone" (.ref G) (aJ "ever" (.ref E) (aJ "net" (.ref n) []))))))):: (E,.dK (bK EL)):: (G,.dK (cW (fun _=>0) ls)):: (Kp,.dK (bV (fW ps) ps)):: (D,.dK (bV (fun _=>0) ps)):: (Rw,.dK (RL.map fun q=>((Sum.inr q.1.name:Key),V.ref q.2))):: (d,.lst ((qt ps).map fun p=>V.str p.name)):: (jM EL ++ Jr RW RL)) H') ⟨⟨none,rfl⟩,[],rfl,TG⟩ (fun j σ H' _ ⟨_,_,_,T7⟩=>bJ.of (T7.all (d,.lst ((qt ps).map fun p=>V.str p.name)) (by simp))) ?_ ?_⟩
  ·rintro j x σ H' hx ⟨⟨v5,rfl⟩,RL,eRL,T7⟩
   rw [List.getElem?_map] at hx
   obtain⟨p,hpj,rfl⟩:=Option.map_eq_some_iff.mp hx
   have nin:=lJ ndg hpj
   have tk:(qt ps).take (j+1)=(qt ps).take j ++ [p]:=by rw [List.take_succ,hpj];rfl
   have vR:bZ (RL.map fun q=>((Sum.inr q.1.name:Key),V.ref q.2)) (Sum.inr p.name)=none:=ir (by
    rw [List.map_map]
    intro z
    obtain⟨q,hq,e⟩:=List.mem_map.mp z
    have hm:q.1∈RL.map (·.1):=List.mem_map.mpr ⟨q,hq,rfl⟩
    rw [eRL] at hm
    exact nin (List.mem_map.mpr ⟨q.1,hm,by injection e⟩))
   have lRL:RL.length<=16:=by
    have:=congrArg List.length eRL
    rw [lM,List.length_take] at this
    omega
   have rw7:=hrw.same (sk T7.but)
   refine⟨_,rfl,rw,rfl,.inl ⟨_,.inl rw7.dict⟩,_,rfl,je,fun u nu=>?_⟩
   have tu:=aB (o:=.lst []) nu
   have xu:upd H' u (.lst []) u=some (.lst []):=aq
   generalize upd H' u (.lst [])=H8 at tu xu ⊢
   have rw8:=rw7.same tu
   refine⟨_,dZ.k (k:=Sum.inr p.name) rw8.dict,?_⟩
   obtain⟨y,ey,hy⟩:∃y:Addr,(bZ (kZ RW) (Sum.inr p.name)).getD (V.ref u)=.ref y/\H8 y=some (.lst ((sW RW p.name).map V.int)):=by
    rcases rw8.get p.name with ⟨e1,e2⟩ | ⟨a,e1,e2,_⟩
    ·rw [e1,e2]
     exact⟨u,rfl,xu⟩
    ·rw [e1]
     exact⟨a,rfl,e2⟩
   refine⟨y,(sW RW p.name).map V.int,by rw [ey],.inl (bJ.of hy),fun r nr=>?_⟩
   have T9:Tr H f ((f,.ins t.bU dx (aJ "rows" (.ref Rw) (aJ "done" (.ref D) (aJ "kept" (.ref Kp) (aJ "gone" (.ref G) (aJ "ever" (.ref E) (aJ "net" (.ref n) []))))))):: (E,.dK (bK EL)):: (G,.dK (cW (fun _=>0) ls)):: (Kp,.dK (bV (fW ps) ps)):: (D,.dK (bV (fun _=>0) ps)):: (Rw,.dK (RL.map fun q=>((Sum.inr q.1.name:Key),V.ref q.2))):: (d,.lst ((qt ps).map fun p=>V.str p.name)):: (jM EL ++ Jr RW (RL ++ [(p,r)]))) (upd H8 r (.lst ((sW RW p.name).map V.int))):=by
    unfold Jr
    rw [List.map_append,<-List.append_assoc]
    exact(T7.same tu).new nr
   generalize upd H8 r (.lst ((sW RW p.name).map V.int))=H9 at T9 ⊢
   refine⟨_,rfl,f,_,dx,_,_,rfl,T9.all (f,_) (.head _),T.aY.c,T.aY.na.2.2.2.2.2.1,(by (repeat first | (rw [aC,if_pos rfl];done) | rw [aC,if_neg (by decide +kernel)])),_,rfl,Rw,_,rfl,pq.k (k:=Sum.inr p.name) (T9.all (Rw,.dK (RL.map fun q=>((Sum.inr q.1.name:Key),V.ref q.2))) (by simp)) (by rw [lM];omega),?_⟩
   rw [lg _ vR]
   refine⟨⟨_,rfl⟩,RL ++ [(p,r)],by rw [List.map_append,eRL,tk];rfl,?_⟩
   rw [List.map_append]
   exact T9.put (L1:=[_,_,_,_,_])
  rintro σ HH ⟨⟨v5,rfl⟩,RL,eRL,TH⟩
  rw [lM,List.take_length] at eRL
  have eo:=TH.all (f,.ins t.bU dx (aJ "rows" (.ref Rw) (aJ "done" (.ref D) (aJ "kept" (.ref Kp) (aJ "gone" (.ref G) (aJ "ever" (.ref E) (aJ "net" (.ref n) []))))))) (.head _)
  have nod:=TH.nod
  have fre:=TH.fre
  have nE:(EL.map fun q=>q.1.name).Nodup:=by
   have:(EL.map (·.1)).map (·.name)=EL.map fun q=>q.1.name:=by rw [List.map_map];rfl
   rw [<-this,eEL]
   exact W.fit.whole.nod
  have nR:(RL.map fun q=>q.1.name).Nodup:=by
   have:(RL.map (·.1)).map (·.name)=RL.map fun q=>q.1.name:=by rw [List.map_map];rfl
   rw [<-this,eRL]
   exact ndg
  let A:qF:=⟨f,n,E,G,Kp,D,Rw,Jp (·.name) EL,Jp (·.name) RL⟩
  have mE:ls.map (fun l=>A.ea l.name)=EL.map (·.2):=by rw [<-eEL];exact Gx nE
  have mR:(qt ps).map (fun p=>A.ra p.name)=RL.map (·.2):=by rw [<-eRL];exact Gx nR
  have eC:A.cells ls ps=E:: G:: Kp:: D:: Rw:: (EL.map (·.2) ++ RL.map (·.2)):=by unfold qF.cells;rw [mE,mR]
  have e2:(jM EL ++ Jr RW RL).map Prod.fst=EL.map (·.2) ++ RL.map (·.2):=by unfold jM Jr;rw [List.map_append,List.map_map,List.map_map];rfl
  refine k HH A rfl rfl TH.but ⟨⟨dx,_,eo,⟨?_,?_⟩⟩,?_,fun l hl=>?_,TH.all (G,.dK (cW (fun _=>0) ls)) (by simp),TH.all (Kp,.dK (bV (fW ps) ps)) (by simp),TH.all (D,.dK (bV (fun _=>0) ps)) (by simp),?_,fun p hp h0=>?_,?_⟩ ?_
  ·intro q hq
   simp only [List.mem_cons,List.not_mem_nil,or_false] at hq
   rcases hq with rfl | rfl | rfl | rfl | rfl | rfl <;> (dsimp only;(repeat first | (rw [aC,if_pos rfl];done) | rw [aC,if_neg (by decide +kernel)]))
  ·intro m hm
   have hne:∀m∈(["holds", "held_now", "gone_by", "row_left", "head", "heads", "lacking", "row_ended", "deed", "do"]:List Str),∀g∈(["rows", "done", "kept", "gone", "ever", "net"]:List Str),¬m=g:=by decide +kernel
   have h:=hne m hm
   rw [aC,if_neg (h _ (by simp)),aC,if_neg (h _ (by simp)),aC,if_neg (h _ (by simp)),aC,if_neg (h _ (by simp)),aC,if_neg (h _ (by simp)),aC,if_neg (h _ (by simp))]
   rfl
  ·have:S8 A.ea ls=bK EL:=by
    unfold S8 bK
    rw [<-eEL,List.map_map]
    refine List.map_congr_left fun q hq=>?_
    show((Sum.inr q.1.name:Key),V.ref (A.ea q.1.name))=_
    rw [show A.ea q.1.name=q.2 from tK nE hq]
   rw [this]
   exact TH.all (E,.dK (bK EL)) (by simp)
  ·rw [<-eEL] at hl
   obtain⟨q,hq,rfl⟩:=List.mem_map.mp hl
   rw [show A.ea q.1.name=q.2 from tK nE hq]
   have hm:q.1∈ls:=by rw [<-eEL];exact List.mem_map.mpr ⟨q,hq,rfl⟩
   show HH q.2=some (.lst ((JR ls q.1.name).map V.int))
   rw [yp W.fit.whole.nod hm]
   exact TH.all (q.2,.lst (q.1.first.map V.int)) (Gw (List.mem_append.mpr (.inl (List.mem_map.mpr ⟨q,hq,rfl⟩))))
  ·have:KY A.ra ps=RL.map fun q=>((Sum.inr q.1.name:Key),V.ref q.2):=by
    unfold KY
    rw [<-eRL,List.map_map]
    refine List.map_congr_left fun q hq=>?_
    show((Sum.inr q.1.name:Key),V.ref (A.ra q.1.name))=_
    rw [show A.ra q.1.name=q.2 from tK nR hq]
   rw [this]
   exact TH.all (Rw,.dK (RL.map fun q=>((Sum.inr q.1.name:Key),V.ref q.2))) (by simp)
  ·have hm:p∈RL.map (·.1):=by rw [eRL];exact List.mem_filter.mpr ⟨hp,by simp [h0]⟩
   obtain⟨q,hq,rfl⟩:=List.mem_map.mp hm
   rw [show A.ra q.1.name=q.2 from tK nR hq]
   exact TH.all (q.2,.lst ((sW RW q.1.name).map V.int)) (Gw (List.mem_append.mpr (.inr (List.mem_map.mpr ⟨q,hq,rfl⟩))))
  ·rw [eC,<-e2]
   exact nod.sublist (List.Sublist.cons _ (.cons₂ _ (.cons₂ _ (.cons₂ _ (.cons₂ _ (.cons₂ _ (.cons _ (List.Sublist.refl _))))))))
  ·intro a ha
   rw [eC,<-e2] at ha
   have h2:a∈(((E,.dK (bK EL)):: (G,.dK (cW (fun _=>0) ls)):: (Kp,.dK (bV (fW ps) ps)):: (D,.dK (bV (fun _=>0) ps)):: (Rw,.dK (RL.map fun q=>((Sum.inr q.1.name:Key),V.ref q.2))):: (d,.lst ((qt ps).map fun p=>V.str p.name)):: (jM EL ++ Jr RW RL):List (Addr×HO))).map Prod.fst:=
    (List.Sublist.cons₂ E (.cons₂ G (.cons₂ Kp (.cons₂ D (.cons₂ Rw (.cons d (List.Sublist.refl _))))))).subset ha
   have hne:a≠f:=fun z=>by
    rw [List.map_cons,List.nodup_cons] at nod
    exact nod.1 (by rw [<-z];exact h2)
   obtain⟨q,hq,hqa⟩:=List.mem_map.mp h2
   have:=fre q (List.mem_cons_of_mem _ hq)
   rw [hqa] at this
   exact this.resolve_left hne
theorem Pk {α:Type} {p:α->Bool} {xs:List α} {j:Nat} {x:α} (h:(xs.take j).find? p=none) (hx:xs[j]?=some x):if p x=true then xs.find? p=some x else(xs.take (j+1)).find? p=none:=by
 split
 ·rename_i e
  have hj:=(List.getElem?_eq_some_iff.mp hx)
  have e2:xs=xs.take j ++ x:: xs.drop (j+1):=by
   rw [<-hj.2,<-List.drop_eq_getElem_cons hj.1,List.take_append_drop]
  rw [e2,List.find?_append,h,List.find?_cons_of_pos e]
  rfl
 ·rename_i e
  rw [List.take_succ,hx,Option.toList_some,List.find?_append,h,List.find?_cons_of_neg e]
  rfl
noncomputable def roomF (ls:List aH) (x:Str):Int:=((ls.find? fun l=>decide (l.name=x)).map (·.room)).getD 0
theorem Cy {ls:List aH} (nd:(ls.map (·.name)).Nodup) {l:aH} (hl:l∈ls):roomF ls l.name=l.room:=by
 unfold roomF
 rw [find_name nd hl]
 rfl
noncomputable def yh (ls:List aH) (S:FS) (q:Str×Int):Bool:=decide (roomF ls q.1<=((S.ev q.1).length:Int) - (S.g q.1:Int))
noncomputable def xx (ls:List aH) (S:FS) (dd:ju):V:=match dd.gv.find? (yh ls S) with
 | some q=>.str q.1
 | none=>.non
inductive qJ (K:PySem.W.Frag) (t:jw) (vs:List V) (H:Hp) (Q:VK) (E:XK):Prop where
 | mk:∀(r:Addr) (n:Nat) (A:qF) (ls:List aH) (ps:List PD) (S:FS) (M:List Addr) (U:Addr) (dd:ju),vs=[.ref r,.ref U]->vA t H r A.n A.f n->gH K t H A.n ls ps->fD K t H A ls ps S->mC M H U dd->((∀q∈dd.gv,q.1∈ls.map (·.name)))->(∀H',aM H H'->Q (xx ls S dd) H')->qJ K t vs H Q E
theorem zM (T:Txt w K mg t):FO P w K mg base 4 t.lQ ["self", "deed"] (qJ K t):=by
 have sc:=T.lW.sc ["self", "deed", "lane", "value"]
 refine T.lW.F.ok sc ln (fun _ _ _ _ H vs Q E hr h=>?_)
 obtain⟨r,n,A,ls,ps,S,M,U,dd,rfl,hR,N,W,⟨La,Lg,rs,hU,_,hLg,hT,_,_⟩,hout,k⟩:=h
 refine⟨_,(au (dw PassesOwn.never rfl (bM (aV cP (pv 1) az (fun _ _=>rfl))) (zJ rfl (d8 (gN sc 2) (d8 (gN sc 3) pR)))
   (aA (bQ (bc X7 (zb (bj (pv 0) rfl) T.aY T.aY.me.2.1 (vN T) T.mH hr (aa (pv 2) ak aj)) (zb (bj (pv 0) rfl) T.aQ T.aQ.me.2.2.2.2.2.2.2.2.1 (ux T) T.km hr (aa (pv 2) ak aj)) (bL _))
    (aA (aO (pv 2)))
    bD)))
  (aA (aO wY))),?_⟩
 have hl:sizeLine=16777216:=sizeLine_eq
 have hlr:rs.length=dd.gv.length:=by have:=Paired.length hT;rw [lM] at this;exact this
 refine⟨_,rfl,U,_,1,_,rfl,rfl,fu.of hU,aN (j:=1) rfl,Lg,rfl,⟨_,bJ.of hLg⟩,dH (K:=K) (a:=Lg) (xs:=rs.map V.ref) (fun j σ H'=>aM H H'/\(∃v2 v3,σ=[some (.ref r),some (.ref U),v2,v3])/\(dd.gv.take j).find? (yh ls S)=none) ⟨aM.refl _,⟨_,_,rfl⟩,rfl⟩ (fun j σ H' _ h=>bJ.of (h.1 _ _ hLg)) ?_ ?_⟩
 ·rintro j x σ H1 hx ⟨s1,⟨v2,v3,rfl⟩,hf⟩
  rw [List.getElem?_map] at hx
  obtain⟨u,hu,rfl⟩:=Option.map_eq_some_iff.mp hx
  obtain⟨vs2,z1,z2⟩:=xO hT hu
  rw [List.getElem?_map] at z1
  obtain⟨w,ew,rfl⟩:=Option.map_eq_some_iff.mp z1
  have ft:=Pk hf ew
  obtain⟨dxn,fsn,R,F0,Pd,Gn,Tk,FL,PL,Wn⟩:=N.same s1
  have F:=Wn.fit
  obtain⟨dxr,fsr,R1⟩:=hR.same s1
  have W1:=W.same s1
  obtain⟨dx,fs,h1,h2⟩:=id W1.at'.ex
  obtain⟨l,hl',hln⟩:=List.mem_map.mp (hout w (List.mem_of_getElem? ew))
  have va:=By (ea:=A.ea) F.whole.nod hl'
  have vg:=vh (g:=S.g) F.whole.nod hl'
  have fb:yh ls S w=decide (l.room<=((S.ev l.name).length:Int) - (S.g l.name:Int)):=by unfold yh;rw [<-hln,Cy F.whole.nod hl']
  rw [hln] at va vg
  refine⟨u,_,rfl,fu.of (s1 _ _ z2),rfl,_,_,rfl,_,_,rfl,rfl,?_⟩
  refine⟨_,rfl,r,_,dxr,fsr,_,rfl,R1.1.1,T.eG.c,T.eG.na.2.1,R1.2.has ("flow",.ref A.f) (by simp),A.f,dx,fs,rfl,h1,h2.no _ (by decide +kernel),_,rfl,A.f,A.n,A.E,A.G,A.Kp,A.D,A.Rw,A.ea w.1,_,_,w.1,_,S.g w.1,rfl,W1.at',W1.ever,W1.gone,va,vg,bJ.of (by rw [<-hln];exact W1.lists l hl'),?_⟩
  refine⟨_,rfl,r,_,dxr,fsr,_,rfl,R1.1.1,T.eG.c,T.eG.na.1,R1.2.has ("net",.ref A.n) (by simp),A.n,dxn,fsn,rfl,Wn.obj,Wn.fl.no _ (by decide +kernel),_,rfl,A.n,ls,ps,w.1,rfl,Wn.s,.inl ⟨l,hl',hln,fun H2 s2=>?_⟩⟩
  refine⟨_,_,rfl,rfl,_,rfl,?_⟩
  have e2:decide (l.room<=((((S.ev l.name).map V.int).length:Nat):Int) - ((S.g w.1:Nat):Int))=yh ls S w:=by rw [fb,lM,hln]
  rw [e2]
  cases hb:yh ls S w with
  | true=>
   rw [if_pos hb] at ft
   refine iW ⟨_,rfl,?_⟩
   have k':=k H2 (s1.trans s2)
   unfold xx at k'
   rw [ft] at k'
   exact k'
  | false=>
   rw [if_neg (by simp [hb])] at ft
   exact cZ ⟨s1.trans s2,⟨_,_,rfl⟩,ft⟩
 rintro σ H1 ⟨s1,⟨v2,v3,rfl⟩,hf⟩
 rw [lM,hlr,List.take_length] at hf
 have k':=k H1 s1
 unfold xx at k'
 rw [hf] at k'
 exact k'
theorem Uw {H:Hp} {Q:VK} {Ex:XK} {b:Nat} {A:qF} {ls:List aH} {ps:List PD} {S:FS} {p:PD} (N:gH K t H A.n ls ps) (W:fD K t H A ls ps S) (hp:p∈ps) (O:PX b ls ps S) (kn:lu S p=none->∀H',aM H H'->Q .non H')
  (k:∀dd,lu S p=some dd->∀H' U,aM H H'->H U=none->mC (A.cells ls ps) H' U dd->Q (.ref U) H'):jB K t [.ref A.f,.str p.name] H Q Ex:=by
 unfold jB
 exact⟨b,A,ls,ps,S,p,rfl,N,W,hp,O,kn,k⟩
noncomputable def gm (ls:List aH) (S:FS) (p:PD):Option ju:=match lu S p with
 | none=>none
 | some dd=>if xx ls S dd=.non then some dd else none
theorem rB {S:FS} {p:PD} {dd:ju} (h:lu S p=some dd):fM p.kind p.ins (bh S p)=.non/\zu S p=false/\dd=⟨(places p.kind (bh S p)).map (strAt p.ins),(cz p.kind p.nums (Ei S p) (S.k p.name)).map fun pv=>(strAt p.outs pv.1.toNat,pv.2),gJ p.kind (Ei S p) (S.k p.name)⟩:=by
 unfold lu at h
 split at h
 ·cases h
 ·rename_i h1
  split at h
  ·cases h
  ·rename_i h2
   exact⟨Classical.not_not.mp h1,by simpa using h2,(Option.some.inj h).symm⟩
theorem GX {xs:List Str} {q:Nat} (h:q <xs.length):strAt xs q∈xs:=by unfold strAt;rw [List.getElem?_eq_getElem h];exact List.getElem_mem h
theorem qN {xs:List Str} {q:Nat} (h:q <xs.length):strAt xs q=xs[q]:=by unfold strAt;rw [List.getElem?_eq_getElem h];rfl
theorem Oj {i:Nat} {hs:List V}:(places i hs).Nodup:=by
 unfold places
 split
 ·split
  ·rename_i n _
   have h0:=Int.emod_nonneg n (show(2:Int)≠0 by decide)
   simp
   omega
  ·simp
 ·exact List.nodup_range
theorem Uj {xs:List Str} (nd:xs.Nodup) {l:List Nat} (hl:l.Nodup) (h:∀q∈l,q <xs.length):(l.map (strAt xs)).Nodup:=by
 unfold List.Nodup at hl ⊢
 rw [List.pairwise_map]
 refine hl.imp_of_mem fun {a b} ha hb hne e=>hne ?_
 rw [qN (h a ha),qN (h b hb)] at e
 exact(List.getElem_inj nd).mp e
theorem Hh {f:PD->List Str}:∀{ps:List PD},(ps.flatMap f).Nodup->∀{p:PD},p∈ps->(f p).Nodup
 | q:: r,nd,p,hp=>by
  rw [List.flatMap_cons,List.nodup_append] at nd
  rcases List.mem_cons.mp hp with h | h
  ·rw [h];exact nd.1
  ·exact Hh nd.2.1 h
theorem Bw {ls:List aH} {ps:List PD} {S:FS} (F:yN ls ps) {p:PD} (hp:p∈ps) {dd:ju} (h:lu S p=some dd):Hx ls dd:=by
 obtain⟨hl,he,rfl⟩:=rB h
 have ok:=F.pok p hp
 have hO:=qH S p ok
 have hlt:∀q∈places p.kind (bh S p),q <p.ins.length:=fun q hq=>by
  have:=jr hO q hq
  unfold bh at this
  rwa [lM] at this
 have inL:∀x∈p.ins ++ p.outs,x∈ls.map (·.name):=fun x hx=>by
  obtain⟨l,hl,rfl⟩:=F.inL hp hx
  exact List.mem_map.mpr ⟨l,hl,rfl⟩
 refine⟨?_,fun x hx=>?_,fun q hq=>?_,?_⟩
 ·exact Uj (Hh (F.whole.ins.nodup_iff.mpr F.whole.nod) hp) Oj hlt
 ·obtain⟨q,hq,rfl⟩:=List.mem_map.mp hx
  exact inL _ (List.mem_append.mpr (.inl (GX (hlt q hq))))
 ·obtain⟨pv,hpv,rfl⟩:=List.mem_map.mp hq
  obtain⟨o,ho1,ho2⟩:=NP (show p.kind<=10 by have:=ok.1;omega) _ _ _ _ hpv
  refine inL _ (List.mem_append.mpr (.inr (GX ?_)))
  rw [ho1,Int.toNat_natCast,ok.2.2.2.1]
  exact ho2
 ·show(List.map _ _).length<=2
  rw [lM]
  exact JK ..
inductive pO (K:PySem.W.Frag) (t:jw) (vs:List V) (H:Hp) (Q:VK):Prop where
 | mk:∀(b:Nat) (r:Addr) (n:Nat) (A:qF) (ls:List aH) (ps:List PD) (S:FS) (p:PD),vs=[.ref r,.str p.name]->vA t H r A.n A.f n->gH K t H A.n ls ps->fD K t H A ls ps S->PX b ls ps S->p∈ps->((gm ls S p=none->∀H',aM H H'->Q .non H'))->(∀dd,gm ls S p=some dd->∀H' U,aM H H'->H U=none->mC (A.cells ls ps) H' U dd->Q (.ref U) H')->pO K t vs H Q
@[irreducible] noncomputable def fX (K:PySem.W.Frag) (t:jw):Sp:=fun vs H Q _=>pO K t vs H Q
theorem zy (T:Txt w K mg t):FO P w K mg base 6 t.my ["self", "name"] (fX K t):=by
 have sc:=T.mj.sc ["self", "name", "deed"]
 refine T.mj.F.ok sc (fun vs H Q E h=>?_) (fun cdv A outer s H vs Q E hr h=>?_)
 ·unfold fX at h
  obtain⟨b,r,n,A,ls,ps,S,p,rfl,_⟩:=h
  rfl
 ·unfold fX at h
  obtain⟨b,r,n,A,ls,ps,S,p,rfl,hR,N,W,O,hp,kn,k⟩:=h
  refine⟨_,(au (sN sc 2 (zb (bj (pv 0) rfl) T.aY T.aY.me.2.2.2.2.2.2.1 (Hs T) T.ut hr (aa (pv 1) ak aj)))
   (aA (aO (oH (PW.pt (xn (fY (Dn (pv 2))) (qY (fY (Bu (zb (pv 0) T.eG T.eG.me.2.1 (zM T) T.lW hr (aa (pv 2) ak aj))))))) wY (pv 2))))),?_⟩
  obtain⟨dxr,fsr,R0⟩:=id hR
  obtain⟨dx,fs,h1,h2⟩:=id W.at'.ex
  have F:yN ls ps:=by obtain⟨_,_,_,_,_,_,_,_,_,Wn⟩:=N;exact Wn.fit
  refine⟨_,rfl,r,_,dxr,fsr,_,rfl,R0.1.1,T.eG.c,T.eG.na.2.1,R0.2.has ("flow",.ref A.f) (by simp),A.f,dx,fs,rfl,h1,h2.no _ (by decide +kernel),_,rfl,?_⟩
  refine Uw N W hp O (fun hd H1 s1=>?_) (fun dd hd H1 U s1 nU DA=>?_)
  ·exact⟨_,rfl,_,rfl,iW (iW (kn (by unfold gm;rw [hd]) _ s1))⟩
  ·obtain⟨dxr,fsr,R1⟩:=hR.same s1
   have nx:gm ls S p=if xx ls S dd=.non then some dd else none:=by unfold gm;rw [hd]
   refine⟨_,rfl,_,rfl,cZ ?_⟩
   refine⟨_,rfl,r,dxr,fsr,rfl,R1.1.1,R1.2.no _ (by decide +kernel),_,rfl,r,n,A,ls,ps,S,_,U,dd,rfl,⟨dxr,fsr,R1⟩,N.same s1,W.same s1,DA,(Bw F hp hd).gin,fun H2 s2=>?_⟩
   by_cases hf:xx ls S dd=.non
   ·rw [hf]
    exact⟨_,rfl,cZ ⟨_,rfl,k dd (by rw [nx,if_pos hf]) H2 U (s1.trans s2) nU (DA.same s2)⟩⟩
   ·rw [decide_eq_false hf]
    exact⟨_,rfl,iW (kn (by rw [nx,if_neg hf]) H2 (s1.trans s2))⟩
theorem Uo {H:Hp} {Q:VK} {Ex:XK} {b:Nat} {r:Addr} {n:Nat} {A:qF} {ls:List aH} {ps:List PD} {S:FS} {p:PD} (hR:vA t H r A.n A.f n) (N:gH K t H A.n ls ps) (W:fD K t H A ls ps S) (O:PX b ls ps S) (hp:p∈ps) (kn:gm ls S p=none->∀H',aM H H'->Q .non H')
  (k:∀dd,gm ls S p=some dd->∀H' U,aM H H'->H U=none->mC (A.cells ls ps) H' U dd->Q (.ref U) H'):fX K t [.ref r,.str p.name] H Q Ex:=by
 unfold fX
 exact⟨b,r,n,A,ls,ps,S,p,rfl,hR,N,W,O,hp,kn,k⟩
theorem QD {x:V} {xs:List V} (h:x∈xs) (f:Ew x x=true):inV x xs=true:=List.any_eq_true.mpr ⟨x,h,f⟩
inductive pN (K:PySem.W.Frag) (t:jw) (vs:List V) (H:Hp) (Q:VK) (E:XK):Prop where
 | mk:∀(r:Addr) (n:Nat) (A:qF) (ls:List aH) (ps:List PD) (S:FS) (L:Addr) (xs:List Str),vs=[.ref r,.ref L]->vA t H r A.n A.f n->gH K t H A.n ls ps->fD K t H A ls ps S->bJ K H L (xs.map V.str)->((∀x∈xs,V.str x∈dN ps "give" ++ dN ps "take"))->(∀H',aM H H'->Q .non H')->pN K t vs H Q E
theorem xK (T:Txt w K mg t):FO P w K mg base 4 t.jW ["self", "names"] (pN K t):=by
 have sc:=T.jV.sc ["self", "names", "doors", "name"]
 refine T.jV.F.ok sc ln (fun _ _ _ _ H vs Q E hr h=>?_)
 obtain⟨r,n,A,ls,ps,S,L,xs,rfl,hR,N,W,hL,hx,k⟩:=h
 refine⟨_,(au (sN sc 2 (bC Jf (Pj (bj (pv 0) rfl) T.aQ T.aQ.me.2.2.2.2.2.1 (rU T) T.kW hr) (Pj (bj (pv 0) rfl) T.aQ T.aQ.me.2.2.2.2.2.2.1 (Je T) T.uL hr)))
  (aA (dw PassesOwn.never rfl (bM (pv 1)) (gN sc 3)
   (aA (bQ (bc iU (pv 3) (pv 2) (by with_unfolding_all rfl))
    (aA dz)
    bD))))),?_⟩
 have hz:sizeLine=16777216:=sizeLine_eq
 obtain⟨dxn,fsn,R,F0,Pd,Gn,Tk,FL,PL,Wn⟩:=id N
 have p16:=Wn.fit.p16
 obtain⟨dxr,fsr,R0⟩:=id hR
 have g1:=xW ps "give"
 have g2:=xW ps "take"
 refine⟨_,rfl,r,_,dxr,fsr,_,rfl,R0.1.1,T.eG.c,T.eG.na.1,R0.2.has ("net",.ref A.n) (by simp),A.n,dxn,fsn,rfl,Wn.obj,Wn.fl.no _ (by decide +kernel),A.n,ls,ps,rfl,N,fun l nl=>?_⟩
 have s1:=aB (o:=.lst (dN ps "give")) nl
 obtain⟨dxr,fsr,R1⟩:=hR.same s1
 have Wn1:=Wn.same s1
 refine⟨_,rfl,r,_,dxr,fsr,_,rfl,R1.1.1,T.eG.c,T.eG.na.1,R1.2.has ("net",.ref A.n) (by simp),A.n,dxn,fsn,rfl,Wn1.obj,Wn1.fl.no _ (by decide +kernel),A.n,ls,ps,rfl,Wn1.s,fun l2 nl2=>?_⟩
 have s2:=aB (o:=.lst (dN ps "take")) nl2
 have e1:=s2 _ _ (aq (H:=H) (a:=l) (o:=.lst (dN ps "give")))
 refine⟨l,l2,_,_,rfl,rfl,e1,aq,by omega,fun l3 nl3=>?_⟩
 have s13:=s1.trans (s2.trans (aB (o:=.lst (dN ps "give" ++ dN ps "take")) nl3))
 have e3:upd (upd (upd H l (.lst (dN ps "give"))) l2 (.lst (dN ps "take"))) l3 (.lst (dN ps "give" ++ dN ps "take")) l3=some (.lst (dN ps "give" ++ dN ps "take")):=aq
 generalize upd (upd (upd H l (.lst (dN ps "give"))) l2 (.lst (dN ps "take"))) l3 (.lst (dN ps "give" ++ dN ps "take"))=H3 at s13 e3 ⊢
 have fl:(dN ps "give" ++ dN ps "take").all jO=true:=by
  rw [List.all_eq_true]
  intro v hv
  rcases List.mem_append.mp hv with h | h <;> (obtain⟨p,_,rfl⟩:=List.mem_map.mp h;rfl)
 refine⟨_,rfl,L,rfl,⟨_,s13.seq hL⟩,dH (K:=K) (a:=L) (xs:=xs.map V.str) (fun j σ H'=>H'=H3/\∃v3,σ=[some (.ref r),some (.ref L),some (.ref l3),v3]) ⟨rfl,none,rfl⟩ (fun j σ H' _ ⟨e,_⟩=>by rw [e];exact s13.seq hL) ?_ ?_⟩
 ·rintro j x σ H' hx' ⟨rfl,v3,rfl⟩
  rw [List.getElem?_map] at hx'
  obtain⟨y,hy,rfl⟩:=Option.map_eq_some_iff.mp hx'
  refine⟨_,rfl,_,rfl,l3,_,rfl,.inl (bJ.of e3),rfl,fl,_,rfl,?_⟩
  rw [QD (hx y (List.mem_of_getElem? hy)) (by simp [Ew])]
  exact cZ ⟨rfl,_,rfl⟩
 ·rintro σ H' ⟨rfl,v3,rfl⟩
  exact k _ s13
theorem Ug (y:Str) (xs:List Str):inV (.str y) (xs.map V.str)=decide (y∈xs):=by
 rw [Bool.eq_iff_iff,decide_eq_true_iff]
 unfold inV
 rw [List.any_eq_true]
 constructor
 ·rintro⟨v,hv,e⟩
  obtain⟨z,hz,rfl⟩:=List.mem_map.mp hv
  have:z=y:=by simpa [Ew] using e
  rw [<-this];exact hz
 ·intro h
  exact⟨.str y,List.mem_map.mpr ⟨y,h,rfl⟩,by simp [Ew]⟩
noncomputable def oM (xs:List Str) (p:PD):Bool:=!decide (p.name∈xs)
noncomputable def mQ (ls:List aH) (ps:List PD) (S:FS) (xs:List Str):List (PD×ju):=(ps.filter (oM xs)).filterMap fun p=>(gm ls S p).map fun dd=>(p,dd)
noncomputable def jN (S:FS) (ws:List (PD×ju)):FS:=ws.foldl (fun S w=>Bv S w.1.name w.2) S
noncomputable def jD (ls:List aH) (ps:List PD) (S:FS) (xs:List Str):FS:=jN S (mQ ls ps S xs)
theorem Mh (S:FS) (ws:List (PD×ju)) (w:PD×ju):jN S (ws ++ [w])=Bv (jN S ws) w.1.name w.2:=by unfold jN;rw [List.foldl_append];rfl
theorem zr {S:FS} {b:Nat} {x:Str}:∀{ws:List (PD×ju)},(S.ev x).length<=b->(∀w∈ws,w.2.gv.length<=2)->((jN S ws).ev x).length<=b+2 * ws.length
 | [],h,_=>by simpa [jN] using h
 | w:: r,h,g=>by
  have h1:=g w List.mem_cons_self
  have h2:((Bv S w.1.name w.2).ev x).length<=b+2:=by
   unfold Bv
   rw [lP,lM]
   have:=List.length_filter_le (fun q:Str×Int=>decide (q.1=x)) w.2.gv
   omega
  have h3:=zr (S:=Bv S w.1.name w.2) (ws:=r) h2 (fun w' hw=>g w' (List.mem_cons_of_mem _ hw))
  show((jN (Bv S w.1.name w.2) r).ev x).length<=_
  rw [List.length_cons]
  omega
theorem Ca {α β:Type} {F:α->β->Prop}:∀{xs:List α} {ys:List β} {j:Nat} {x:α},Paired F xs ys->xs[j]?=some x->∃y,ys[j]?=some y/\F x y
 | _,_,_,_,.nil,e=>by simp at e
 | _,_,0,_,.cons h _,e=>by simp at e;subst e;exact⟨_,rfl,h⟩
 | _,_,j+1,_,.cons _ r,e=>by
  obtain⟨y,h1,h2⟩:=Ca (j:=j) r (by simpa using e)
  exact⟨y,by simpa using h1,h2⟩
theorem GP {α β:Type} {F:α->β->Prop}:∀{xs:List α} {ys:List β} {y:β},Paired F xs ys->y∈ys->∃x,F x y
 | _,_,_,.nil,e=>by simp at e
 | _,_,_,.cons h r,e=>by
  rcases List.mem_cons.mp e with rfl | e
  ·exact⟨_,h⟩
  ·exact GP r e
theorem fD.ncell {H:Hp} {A:qF} {ls:List aH} {ps:List PD} {S:FS} (W:fD K t H A ls ps S) {a:Addr} {u:HO} (h:H a=some u) (h1:∀ks,u≠.dK ks) (h2:∀ks,u≠.lst ks):a∉A.cells ls ps:=by
 intro z
 have no:∀{b:Addr} {v:HO},H b=some v->a=b->u=v:=fun e q=>by rw [<-q,h] at e;exact Option.some.inj e
 unfold qF.cells at z
 simp only [List.mem_cons,List.mem_append,List.mem_map] at z
 rcases z with z | z | z | z | z | ⟨l,hl,z⟩ | ⟨p,hp,z⟩
 ·exact h1 _ (no W.ever z)
 ·exact h1 _ (no W.gone z)
 ·exact h1 _ (no W.kept z)
 ·exact h1 _ (no W.done z)
 ·exact h1 _ (no W.rows z)
 ·exact h2 _ (no (W.lists l hl) z.symm)
 ·have hf:=List.mem_filter.mp hp
  exact h2 _ (no (W.rlst p hf.1 (by simpa using hf.2)) z.symm)
theorem fD.tupMov {H H':Hp} {A:qF} {ls:List aH} {ps:List PD} {S:FS} (W:fD K t H A ls ps S) (m:Fb (A.cells ls ps) H H') {a:Addr} {xs:List V} (h:H a=some (.tup xs)):H' a=some (.tup xs):=by
 rw [m a (W.ncell h (by intro _ z;cases z) (by intro _ z;cases z))]
 exact h
theorem mC.mov {H H':Hp} {A:qF} {ls:List aH} {ps:List PD} {S:FS} {U:Addr} {dd:ju} (h:mC (A.cells ls ps) H U dd) (W:fD K t H A ls ps S) (m:Fb (A.cells ls ps) H H'):mC (A.cells ls ps) H' U dd:=by
 obtain⟨La,Lg,rs,a,b,c,d,e,f⟩:=h
 exact⟨La,Lg,rs,W.tupMov m a,by rw [m La e];exact b,by rw [m Lg f];exact c,Paired.mapP d fun _ _ z=>W.tupMov m z,e,f⟩
theorem vA.mov {H H':Hp} {r a f:Addr} {n:Nat} {M:List Addr} (h:vA t H r a f n) (nr:r∉M) (m:Fb M H H'):vA t H' r a f n:=by
 obtain⟨dx,fs,h1,h2⟩:=h
 exact⟨dx,fs,⟨by rw [m r nr];exact h1.1,h1.2⟩,h2⟩
theorem YJ {H:Hp} {Q:VK} {Ex:XK} {b:Nat} {A:qF} {ls:List aH} {ps:List PD} {S:FS} {p:PD} {U:Addr} {dd:ju} (F:yN ls ps) (W:fD K t H A ls ps S) (hp:p∈ps) (hl:∀l∈ls,(S.ev l.name).length<=b) (hb:b<=100000) (d:mC (A.cells ls ps) H U dd) (o:Hx ls dd)
  (k:∀H',Fb (A.cells ls ps) H H'->fD K t H' A ls ps (Bv S p.name dd)->Q .non H'):oV K t [.ref A.f,.str p.name,.ref U] H Q Ex:=by
 unfold oV
 exact⟨b,A,ls,ps,S,p,U,dd,rfl,F,W,hp,hl,hb,d,o,k⟩
theorem vA.turned {H:Hp} {r a f:Addr} {n:Nat} {dx:Addr} {fs:List (Str×V)} (h:(H r=some (.ins t.oO dx fs)/\fs.length<=n+3)/\TX ["step", "need_doors", "next_deed", "full_lane", "can_work", "works", "lane_now", "turn"] [("net",.ref a),("flow",.ref f),("turns",.int (n:Nat))] fs):
  vA t (upd H r (.ins t.oO dx (aJ "turns" (.int ((n:Int)+1)) fs))) r a f (n+1):=by
 refine⟨dx,_,⟨aq,?_⟩,⟨?_,?_⟩⟩
 ·exact Nat.le_trans (gO h.1.2) (by omega)
 ·intro q hq
  simp only [List.mem_cons,List.not_mem_nil,or_false] at hq
  rcases hq with rfl | rfl | rfl
  ·dsimp only
   rw [aC,if_neg (by decide +kernel)]
   exact h.2.has ("net",.ref a) (by simp)
  ·dsimp only
   rw [aC,if_neg (by decide +kernel)]
   exact h.2.has ("flow",.ref f) (by simp)
  ·dsimp only
   rw [aC,if_pos rfl]
   rfl
 ·intro m hm
  have hne:∀m∈(["step", "need_doors", "next_deed", "full_lane", "can_work", "works", "lane_now", "turn"]:List Str),¬m= "turns" :=by decide +kernel
  rw [aC,if_neg (hne m hm)]
  exact h.2.no m hm
theorem fD.ins {H:Hp} {A:qF} {ls:List aH} {ps:List PD} {S:FS} (W:fD K t H A ls ps S) {x:Addr} (nx:x∉A.cells ls ps) {o:HO} (nf:x≠A.f):fD K t (upd H x o) A ls ps S:=by
 have st:∀a,a∈A.cells ls ps->upd H x o a=H a:=fun a ha=>aK fun z=>nx (by rw [<-z];exact ha)
 obtain⟨dx,fs,h1,h2⟩:=W.at'.ex
 refine⟨⟨dx,fs,by rw [aK (Ne.symm nf)];exact h1,h2⟩,?_,fun l hl=>?_,?_,?_,?_,?_,fun p hp h0=>?_,W.nod⟩
 ·rw [st _ (by simp [qF.cells])];exact W.ever
 ·rw [st _ (by unfold qF.cells;simp only [List.mem_cons,List.mem_append,List.mem_map];exact .inr (.inr (.inr (.inr (.inr (.inl ⟨l,hl,rfl⟩))))))];exact W.lists l hl
 ·rw [st _ (by simp [qF.cells])];exact W.gone
 ·rw [st _ (by simp [qF.cells])];exact W.kept
 ·rw [st _ (by simp [qF.cells])];exact W.done
 ·rw [st _ (by simp [qF.cells])];exact W.rows
 ·rw [st _ (by unfold qF.cells;simp only [List.mem_cons,List.mem_append,List.mem_map];exact .inr (.inr (.inr (.inr (.inr (.inr ⟨p,List.mem_filter.mpr ⟨hp,by simp [h0]⟩,rfl⟩))))))];exact W.rlst p hp h0
inductive GR (M:List Addr) (ls:List aH) (S:FS) (H:Hp) (q:PD×Addr):Prop where
 | mk:∀u,H q.2=some (.tup [.str q.1.name,u])->(((gm ls S q.1=none/\u=.non)∨∃dd U,gm ls S q.1=some dd/\u=.ref U/\mC M H U dd))->GR M ls S H q
theorem GR.same {M:List Addr} {ls:List aH} {S:FS} {H H':Hp} {q:PD×Addr} (h:GR M ls S H q) (s:aM H H'):GR M ls S H' q:=by
 obtain⟨u,h1,h2⟩:=h
 refine⟨u,s _ _ h1,?_⟩
 rcases h2 with h2 | ⟨dd,U,a,b,c⟩
 ·exact .inl h2
 ·exact .inr ⟨dd,U,a,b,c.same s⟩
theorem RT {ls:List aH} {S:FS}:∀{qs:List (PD×Addr)},(qs.map (·.1)).filterMap (fun p=>(gm ls S p).map fun dd=>(p,dd))=(qs.filter fun q=>(gm ls S q.1).isSome).filterMap (fun q=>(gm ls S q.1).map fun dd=>(q.1,dd))
 | []=>rfl
 | q:: r=>by
  rw [List.map_cons,List.filterMap_cons,List.filter_cons,RT (qs:=r)]
  cases h:gm ls S q.1 with
  | none=>simp
  | some dd=>simp [List.filterMap_cons,h]
theorem nj {ls:List aH} {S:FS} {p:PD} {dd:ju} (h:gm ls S p=some dd):lu S p=some dd/\xx ls S dd=.non:=by
 unfold gm at h
 split at h
 ·cases h
 ·rename_i d hd
  split at h
  ·rename_i hf
   cases h
   exact⟨hd,hf⟩
  ·cases h
structure qX (K:PySem.W.Frag) (t:jw) (H:Hp) (r:Addr) (n:Nat) (A:qF) (ls:List aH) (ps:List PD) (S:FS):Prop where
 run:vA t H r A.n A.f n
 net:gH K t (bf (r:: A.cells ls ps) H) A.n ls ps
 flow:fD K t H A ls ps S
 ne:r≠A.f
theorem vA.cell {H:Hp} {r:Addr} {n:Nat} {A:qF} {ls:List aH} {ps:List PD} {S:FS} {a f:Addr} (hR:vA t H r a f n) (W:fD K t H A ls ps S):r∉A.cells ls ps:=by
 obtain⟨dx,fs,⟨h1,_⟩,_⟩:=hR
 intro z
 have no:∀{b:Addr} {u:HO},H b=some u->(∀C dx fs,u≠.ins C dx fs)->r=b->False:=fun e h q=>by rw [<-q,h1] at e;exact h _ _ _ (Option.some.inj e).symm
 unfold qF.cells at z
 simp only [List.mem_cons,List.mem_append,List.mem_map] at z
 rcases z with z | z | z | z | z | ⟨l,hl,z⟩ | ⟨p,hp,z⟩
 ·exact no W.ever (by intro _ _ _ z;cases z) z
 ·exact no W.gone (by intro _ _ _ z;cases z) z
 ·exact no W.kept (by intro _ _ _ z;cases z) z
 ·exact no W.done (by intro _ _ _ z;cases z) z
 ·exact no W.rows (by intro _ _ _ z;cases z) z
 ·exact no (W.lists l hl) (by intro _ _ _ z;cases z) z.symm
 ·have hf:=List.mem_filter.mp hp
  exact no (W.rlst p hf.1 (by simpa using hf.2)) (by intro _ _ _ z;cases z) z.symm
theorem Wr {ws:List Int} (h:Xu ws):0<=g0 ws/\g0 ws <1000000000:=by
 unfold g0
 match ws,h with
 | [],_=>exact⟨by decide,by decide⟩
 | w:: r,h=>exact h w List.mem_cons_self
theorem W8 {ws:List Int} (h:Xu ws):0<=g1 ws/\g1 ws <1000000000:=by
 unfold g1
 match ws,h with
 | [],_=>exact⟨by decide,by decide⟩
 | [w],_=>exact⟨Int.le_refl 0,by show(0:Int) <1000000000;decide⟩
 | w:: v:: r,h=>exact h v (by simp)
theorem Io (n:Int):0<=n % 1000000000/\n % 1000000000 <1000000000:=⟨Int.emod_nonneg _ (by decide),Int.emod_lt_of_pos _ (by decide)⟩
theorem Q4 {i:Nat} (hi:i <11) (ns:List Int) {ws:List Int} (kp:Int) (h:Xu ws):∀pv∈cz i ns ws kp,0<=pv.2/\pv.2 <1000000000:=by
 have a0:=Wr h
 have a1:=W8 h
 match i,hi with
 | 0,_=>simp [cz];exact a0
 | 1,_=>simp [cz]
 | 2,_=>simp [cz];exact a0
 | 3,_=>simp [cz];exact a0
 | 4,_=>simp [cz];exact Io _
 | 5,_=>simp [cz];exact Io _
 | 6,_=>simp [cz];exact Io _
 | 7,_=>simp [cz];split <;> decide
 | 8,_=>simp [cz];constructor <;> split <;> omega
 | 9,_=>simp [cz];exact a1
 | 10,_=>simp [cz];exact a1
theorem JX (x:Str):∀(ws:List (PD×ju)) (S:FS),(jN S ws).ev x=S.ev x ++ ws.flatMap fun w=>(w.2.gv.filter fun q=>decide (q.1=x)).map (·.2)
 | [],S=>by simp [jN]
 | w:: r,S=>by
  show(jN (Bv S w.1.name w.2) r).ev x=_
  rw [JX x r,List.flatMap_cons,<-List.append_assoc]
  rfl
theorem vo:∀(ws:List (PD×ju)) (S:FS),(jN S ws).r=S.r
 | [],_=>rfl
 | w:: r,S=>by show(jN (Bv S w.1.name w.2) r).r=_;rw [vo r];rfl
theorem Hv (x:Str):∀(ws:List (PD×ju)) (S:FS),(jN S ws).d x=S.d x+(ws.filter fun w=>decide (w.1.name=x)).length
 | [],S=>by simp [jN]
 | w:: r,S=>by
  show(jN (Bv S w.1.name w.2) r).d x=_
  rw [Hv x r,List.filter_cons]
  show(if x=w.1.name then S.d x+1 else S.d x)+_=_
  by_cases h:x=w.1.name
  ·rw [if_pos h,if_pos (by simp [h])]
   simp
   omega
  ·rw [if_neg h,if_neg (by simpa using fun e=>h e.symm)]
theorem p7 {ls:List aH} {ps:List PD} {S:FS} {xs:List Str} {w:PD×ju} (h:w∈mQ ls ps S xs):w.1∈ps/\oM xs w.1=true/\gm ls S w.1=some w.2:=by
 obtain⟨p,hp,e⟩:=List.mem_filterMap.mp h
 obtain⟨dd,hd,rfl⟩:=Option.map_eq_some_iff.mp e
 obtain⟨h1,h2⟩:=List.mem_filter.mp hp
 exact⟨h1,h2,hd⟩
theorem vp {ls:List aH} {S:FS}:∀{qs:List PD},((qs.filterMap fun p=>(gm ls S p).map fun dd=>(p,dd)).map (·.1)).Sublist qs
 | []=>by simp
 | q:: r=>by
  rw [List.filterMap_cons]
  cases gm ls S q with
  | none=>exact vp.cons _
  | some dd=>exact vp.cons₂ _
theorem Rx {ls:List aH} {ps:List PD} {S:FS} {xs:List Str} (nd:(ps.map (·.name)).Nodup):((mQ ls ps S xs).map fun w=>w.1.name).Nodup:=by
 have h:((mQ ls ps S xs).map (·.1)).Sublist ps:=(vp (qs:=ps.filter (oM xs))).trans List.filter_sublist
 have e:(mQ ls ps S xs).map (fun w=>w.1.name)=((mQ ls ps S xs).map (·.1)).map (·.name):=by rw [List.map_map];rfl
 rw [e]
 exact nd.sublist (h.map _)
theorem Ui {ls:List aH} {ps:List PD} {S:FS} {xs:List Str}:(mQ ls ps S xs).length<=ps.length:=by
 have h:((mQ ls ps S xs).map (·.1)).Sublist ps:=(vp (qs:=ps.filter (oM xs))).trans List.filter_sublist
 have:=h.length_le
 rwa [lM] at this
theorem RD {α:Type} {f:α->Str} {x:Str}:∀{l:List α},(l.map f).Nodup->(l.filter fun a=>decide (f a=x)).length<=1
 | [],_=>by simp
 | a:: r,nd=>by
  rw [List.map_cons,List.nodup_cons] at nd
  rw [List.filter_cons]
  by_cases h:f a=x
  ·rw [if_pos (by simp [h]),List.filter_eq_nil_iff.mpr fun b hb=>by simpa using fun e=>nd.1 (List.mem_map.mpr ⟨b,hb,by rw [e,h]⟩)]
   simp
  ·rw [if_neg (by simp [h])]
   exact RD nd.2
theorem UT {b:Nat} {ls:List aH} {ps:List PD} {S:FS} (F:yN ls ps) (O:PX b ls ps S) (xs:List Str):PX (b+32) ls ps (jD ls ps S xs):=by
 have dk:∀w∈mQ ls ps S xs,Hx ls w.2:=fun w hw=>Bw F (p7 hw).1 (nj (p7 hw).2.2).1
 refine⟨fun l hl v hv=>?_,fun p hp h0=>?_,fun p hp h0=>?_,fun l hl=>?_,fun p hp h0=>?_⟩
 ·unfold jD at hv
  rw [JX] at hv
  rcases List.mem_append.mp hv with h | h
  ·exact O.vb l hl v h
  ·obtain⟨w,hw,hv⟩:=List.mem_flatMap.mp h
   obtain⟨q,hq,rfl⟩:=List.mem_map.mp hv
   obtain⟨h1,_,h3⟩:=p7 hw
   obtain⟨e1,e2,e3⟩:=rB (nj h3).1
   have hq':=(List.mem_filter.mp hq).1
   rw [e3] at hq'
   obtain⟨pv,hpv,rfl⟩:=List.mem_map.mp hq'
   exact Q4 (F.pok _ h1).1 _ _ (V3 F O h1 e1 e2).2.1 pv hpv
 ·unfold jD
  rw [vo]
  exact O.rb p hp h0
 ·unfold jD
  rw [vo,Hv]
  have h1:=RD (x:=p.name) (Rx (ls:=ls) (S:=S) (xs:=xs) F.pnd)
  have h2:=O.dl p hp h0
  by_cases hm:∃w∈mQ ls ps S xs,w.1.name=p.name
  ·obtain⟨w,hw,e⟩:=hm
   obtain⟨a1,_,a3⟩:=p7 hw
   have ew:w.1=p:=DX F.pnd a1 hp e
   obtain⟨_,e2,_⟩:=rB (nj a3).1
   rw [ew] at e2
   unfold zu at e2
   simp [h0] at e2
   omega
  ·rw [List.filter_eq_nil_iff.mpr fun w hw=>by simpa using fun e=>hm ⟨w,hw,e⟩]
   simpa using h2
 ·have h1:=zr (O.len l hl) fun w hw=>(dk w hw).g2
  have h2:=Ui (ls:=ls) (ps:=ps) (S:=S) (xs:=xs)
  have:=F.p16
  unfold jD
  omega
 ·unfold jD
  rw [vo]
  exact O.rl p hp h0
inductive yj (K:PySem.W.Frag) (t:jw) (vs:List V) (H:Hp) (Q:VK):Prop where
 | mk:∀(b:Nat) (r:Addr) (n:Nat) (A:qF) (ls:List aH) (ps:List PD) (S:FS) (L:Addr) (xs:List Str),vs=[.ref r,.ref L]->qX K t H r n A ls ps S->PX b ls ps S->b<=90000->n<=900->bJ K H L (xs.map V.str)->L∉A.cells ls ps->((∀x∈xs,V.str x∈dN ps "give" ++ dN ps "take"))->(∀H' p,aM (bf (r:: A.cells ls ps) H) (bf (r:: A.cells ls ps) H')->qX K t H' r (n+1) A ls ps (jD ls ps S xs)->H p=none->H' p=some (.lst ((mQ ls ps S xs).map fun w=>V.str w.1.name))->Q (.ref p) H')->yj K t vs H Q
@[irreducible] noncomputable def lF (K:PySem.W.Frag) (t:jw):Sp:=fun vs H Q _=>yj K t vs H Q
noncomputable abbrev qU:List Str:=["self", "held", "back", "deeds", "due", "name", "deed"]
theorem Js (T:Txt w K mg t):FO P w K mg base 7 t.wX ["self", "held"] (lF K t):=by
 have sc:fV qU ["self", "held"] (aR (inClass (top 72) 1)):=Nq
 refine T.wC.F.ok sc (fun vs H Q E h=>?_) (fun cdv A outer s H vs Q E hr h=>?_)
 ·unfold lF at h
  obtain⟨b,r,n,A,ls,ps,S,L,xs,rfl,_⟩:=h
  rfl
 ·unfold lF at h
  obtain⟨b,r,n,A,ls,ps,S,L,xs,rfl,⟨hR,Nc,W,nrf⟩,O,hb,hn,hL,nL,hx,k⟩:=h
  refine⟨_,(au (sN sc 2 (oH (fY (Dn (pv 1))) (bu ak) (pv 1)))
   (au (bH (zb (pv 0) T.eG T.eG.me.2.2.2.1 (xK T) T.jV hr (aa (pv 2) ak aj)))
   (au (iD (i:=3) [0,2] qU (aR (inClass (top 72) 1)) rfl sc.nd rfl (bM (Pj (bj (pv 0) rfl) T.aQ T.aQ.me.2.2.1 (fC T) T.dJ hr)) (fun _ _ _ _ _=>(lX (bc (vY (K:=K) rfl) (pv 0) (pv 2) (by with_unfolding_all rfl)))) (fun _ _ _ _ _=>(bW (aa (pv 0) (aa (zb (pv 1) T.eG T.eG.me.2.2.1 (zy T) T.mj hr (aa (pv 0) ak aj)) ak aZ) aj))))
   (au (iD (i:=4) [] qU (aR (inClass (top 72) 1)) rfl sc.nd rfl (bM (pv 3)) (fun _ _ _ _ _=>(lX (fY (Bu (aV (m5 (K:=K) rfl) (pv 0) az (fun _ _=>rfl)))))) (fun _ _ _ _ _=>(pv 0)))
   (au (dw PassesOwn.never rfl (bM (pv 4)) (zJ rfl (d8 (gN sc 5) (d8 (gN sc 6) pR)))
    (aA (bH (zb (bj (pv 0) rfl) T.aY T.aY.me.2.2.2.2.2.2.2.1 (Mg T) T.zG hr (aa (pv 5) (aa (pv 6) ak aj) aj)))))
   (au (O9 (pv 0) az HS)
   (aA (aO (Ry ["name", "deed"] [] qU (aR (inClass (top 72) 1)) rfl (bM (pv 4)) (fun _ _ _ _ _=>Iv (K:=K) (n:=2) rfl rfl (d8 (pB (i:=0) (show(["name", "deed"]:List Str).Nodup by decide +kernel) rfl (Or.inl rfl) (.inr rfl)) (d8 (pB (i:=1) (show(["name", "deed"]:List Str).Nodup by decide +kernel) rfl (Or.inl rfl) (.inr rfl)) pR))) (fun _ _ _ _ _=>iM) (fun _ _ _ _ _=>(pv 0))))))))))),?_⟩
  have hz:sizeLine=16777216:=sizeLine_eq
  have N:gH K t H A.n ls ps:=Nc.same bY
  obtain⟨dxn,fsn,R,F0,Pd,Gn,Tk,FL,PL,Wn⟩:=id N
  have F:=Wn.fit
  have p16:=F.p16
  obtain⟨dxr,fsr,R0⟩:=id hR
  refine⟨_,rfl,_,rfl,cZ ⟨_,rfl,?_⟩⟩
  refine⟨_,rfl,r,dxr,fsr,rfl,R0.1.1,R0.2.no _ (by decide +kernel),_,rfl,r,n,A,ls,ps,S,L,xs,rfl,hR,N,W,hL,hx,fun H1 s1=>?_⟩
  obtain⟨dxr,fsr,R1⟩:=hR.same s1
  have Wn1:=Wn.same s1
  refine⟨_,rfl,r,_,dxr,fsr,_,rfl,R1.1.1,T.eG.c,T.eG.na.1,R1.2.has ("net",.ref A.n) (by simp),A.n,dxn,fsn,rfl,Wn1.obj,Wn1.fl.no _ (by decide +kernel),A.n,ls,ps,rfl,Wn1.s,fun l nl=>?_⟩
  have s2:=s1.trans (aB (o:=.lst (ps.map fun x=>V.str x.name)) nl)
  have el:(upd H1 l (.lst (ps.map fun x=>V.str x.name))) l=some (.lst (ps.map fun x=>V.str x.name)):=aq
  generalize upd H1 l (.lst (ps.map fun x=>V.str x.name))=H2 at s2 el ⊢
  have hflat:(xs.map V.str).all jO=true:=by simp [jO]
  refine⟨l,rfl,⟨_,bJ.of el⟩,dC (K:=K) (a:=l) (xs:=ps.map fun x=>V.str x.name) (fun j ys H'=>aM H2 H'/\∃qs:List (PD×Addr),ys=qs.map (fun q=>V.ref q.2)/\qs.map (·.1)=(ps.take j).filter (oM xs)/\∀q∈qs,GR (A.cells ls ps) ls S H' q) (by rw [lM];omega) ⟨aM.refl _,[],rfl,rfl,by simp⟩ ?_ (fun j ys H' _ h=>h.1.seq (bJ.of el)) ?_ ?_⟩
  ·rintro j ys H' ⟨_,qs,rfl,e,_⟩
   have h1:=congrArg List.length e
   have h2:=List.length_filter_le (oM xs) (ps.take j)
   rw [lM] at h1
   rw [List.length_take] at h2
   rw [lM]
   omega
  ·rintro j x ys H' hj ⟨s3',qs,rfl,eq,hq⟩
   rw [List.getElem?_map] at hj
   obtain⟨p,hp,rfl⟩:=Option.map_eq_some_iff.mp hj
   have hpm:=List.mem_of_getElem? hp
   have s3:=s2.trans s3'
   obtain⟨dxr,fsr,R2⟩:=hR.same s3
   refine⟨_,rfl,_,rfl,L,_,rfl,.inl (s3.seq hL),rfl,hflat,_,rfl,?_⟩
   rw [Ug]
   have tk:(ps.take (j+1)).filter (oM xs)=(ps.take j).filter (oM xs) ++ if oM xs p=true then [p] else []:=by
    rw [List.take_succ,hp,Option.toList_some,List.filter_append,List.filter_cons]
    rfl
   refine jH (fun e=>?_) (fun e=>?_)
   ·have e':oM xs p=true:=e
    rw [e',if_pos rfl] at tk
    refine⟨_,rfl,_,rfl,r,dxr,fsr,rfl,R2.1.1,R2.2.no _ (by decide +kernel),_,rfl,?_⟩
    refine Uo (hR.same s3) (N.same s3) (W.same s3) O hpm (fun hd H4 s4=>?_) (fun dd hd H4 U s4 nU DA=>?_)
    ·refine⟨je,fun q nq=>⟨s3'.trans (s4.trans (aB nq)),qs ++ [(p,q)],by simp,by rw [List.map_append,eq,tk];rfl,fun q' hq'=>?_⟩⟩
     rcases List.mem_append.mp hq' with h | h
     ·exact(hq q' h).same (s4.trans (aB nq))
     ·rw [List.mem_singleton] at h
      subst h
      exact⟨.non,aq,.inl ⟨hd,rfl⟩⟩
    ·refine⟨je,fun q nq=>⟨s3'.trans (s4.trans (aB nq)),qs ++ [(p,q)],by simp,by rw [List.map_append,eq,tk];rfl,fun q' hq'=>?_⟩⟩
     rcases List.mem_append.mp hq' with h | h
     ·exact(hq q' h).same (s4.trans (aB nq))
     ·rw [List.mem_singleton] at h
      subst h
      exact⟨.ref U,aq,.inr ⟨dd,U,hd,rfl,DA.same (aB nq)⟩⟩
   ·have e':¬oM xs p=true:=e
    rw [if_neg e',List.append_nil] at tk
    exact⟨s3',qs,rfl,by rw [eq,tk],hq⟩
  rintro ys H3 ⟨s3',qs,rfl,eq,hq⟩ D1 nD1
  rw [lM,List.take_length] at eq
  have s4':=aB (o:=.lst (qs.map fun q=>V.ref q.2)) nD1
  have s4:=(s2.trans s3').trans s4'
  have eD1:(upd H3 D1 (.lst (qs.map fun q=>V.ref q.2))) D1=some (.lst (qs.map fun q=>V.ref q.2)):=aq
  replace hq:=fun q h=>(hq q h).same s4'
  generalize upd H3 D1 (.lst (qs.map fun q=>V.ref q.2))=H4 at s4 s4' eD1 hq ⊢
  clear s4' nD1 s3' nl el
  have lq:qs.length<=16:=by
   have h1:=congrArg List.length eq
   have h2:=List.length_filter_le (oM xs) ps
   rw [lM] at h1
   omega
  let fS:PD×Addr->Bool:=fun q=>(gm ls S q.1).isSome
  refine⟨_,rfl,D1,rfl,⟨_,bJ.of eD1⟩,dC (K:=K) (a:=D1) (xs:=qs.map fun q=>V.ref q.2) (fun j ys H'=>H'=H4/\ys=((qs.take j).filter fS).map fun q=>V.ref q.2) (by rw [lM];omega) ⟨rfl,rfl⟩ (fun j ys H' ⟨_,e⟩=>by rw [e,lM];exact Nat.le_trans (List.length_filter_le _ _) (by rw [List.length_take];omega)) (fun j ys H' _ ⟨e,_⟩=>by rw [e];exact bJ.of eD1) ?_ ?_⟩
  ·rintro j x ys H' hj ⟨rfl,rfl⟩
   rw [List.getElem?_map] at hj
   obtain⟨q,hqj,rfl⟩:=Option.map_eq_some_iff.mp hj
   obtain⟨u,h1,h2⟩:=hq q (List.mem_of_getElem? hqj)
   refine⟨_,rfl,q.2,_,1,_,rfl,rfl,fu.of h1,aN (j:=1) rfl,?_⟩
   rw [List.take_succ,hqj,Option.toList_some,List.filter_append,List.filter_cons,List.map_append]
   rcases h2 with ⟨h2,rfl⟩ | ⟨dd,U,h2,rfl,_⟩
   ·exact⟨_,rfl,cZ ⟨rfl,by simp [fS,h2]⟩⟩
   ·exact⟨_,rfl,iW ⟨_,rfl,rfl,by simp [fS,h2]⟩⟩
  rintro ys H' ⟨rfl,rfl⟩ D2 nD2
  rw [lM,List.take_length]
  obtain⟨ws,hws⟩:∃ws:List (PD×ju),ws=mQ ls ps S xs:=⟨_,rfl⟩
  have ewq:ws=(qs.filter fS).filterMap (fun q=>(gm ls S q.1).map fun dd=>(q.1,dd)):=by rw [hws];unfold mQ;rw [<-eq,RT]
  have hW:Paired (fun(q:PD×Addr) (w:PD×ju)=>q.1=w.1/\gm ls S w.1=some w.2/\w.1∈ps/\∃U,H' q.2=some (.tup [.str w.1.name,.ref U])/\mC (A.cells ls ps) H' U w.2) (qs.filter fS) ws:=by
   rw [ewq]
   have hall:∀q∈qs.filter fS,GR (A.cells ls ps) ls S H' q/\q.1∈ps/\fS q=true:=fun q h=>by
    have h':=List.mem_filter.mp h
    refine⟨hq q h'.1,?_,h'.2⟩
    have:q.1∈qs.map (·.1):=List.mem_map.mpr ⟨q,h'.1,rfl⟩
    rw [eq] at this
    exact(List.mem_filter.mp this).1
   generalize qs.filter fS=rs at hall
   clear ewq
   induction rs with
   | nil=>exact .nil
   | cons q r ih=>
    obtain⟨⟨u,h1,h2⟩,hp,hf⟩:=hall q List.mem_cons_self
    rcases h2 with ⟨h2,_⟩ | ⟨dd,U,h2,rfl,h3⟩
    ·simp only [fS,h2] at hf
     cases hf
    ·rw [List.filterMap_cons,h2]
     exact .cons ⟨rfl,h2,hp,U,h1,h3⟩ (ih fun q' hq'=>hall q' (List.mem_cons_of_mem _ hq'))
  have lw:(qs.filter fS).length=ws.length:=Paired.length hW
  have lw16:ws.length<=16:=by have:=List.length_filter_le fS qs;omega
  have s5':=aB (o:=.lst ((qs.filter fS).map fun q=>V.ref q.2)) nD2
  have s5:=s4.trans s5'
  have nD2':=(W.same s4).cell nD2
  have eD2:(upd H' D2 (.lst ((qs.filter fS).map fun q=>V.ref q.2))) D2=some (.lst ((qs.filter fS).map fun q=>V.ref q.2)):=aq
  generalize upd H' D2 (.lst ((qs.filter fS).map fun q=>V.ref q.2))=H5 at s5 s5' eD2 ⊢
  generalize qs.filter fS=rs at hW lw eD2 ⊢
  have g2:∀w∈ws,w.2.gv.length<=2:=fun w hw=>by
   obtain⟨q,_,h2,h3,_⟩:=GP hW hw
   exact(Bw F h3 (nj h2).1).g2
  have W5:=W.same s5
  have R5:=hR.same s5
  have nr:=R5.cell W5
  refine⟨_,rfl,D2,rfl,⟨_,bJ.of eD2⟩,dH (K:=K) (a:=D2) (xs:=rs.map fun q=>V.ref q.2) (fun j σ H6=>Fb (A.cells ls ps) H5 H6/\fD K t H6 A ls ps (jN S (ws.take j))/\∃v5 v6,σ=[some (.ref r),some (.ref L),some (.ref L),some (.ref D1),some (.ref D2),v5,v6]) ⟨fun _ _=>rfl,by simpa [jN] using W5,none,none,rfl⟩ (fun j σ H6 _ h=>bJ.of (by rw [h.1 D2 nD2'];exact eD2)) ?_ ?_⟩
  ·rintro j x σ H6 hj ⟨m6,W6,v5,v6,rfl⟩
   rw [List.getElem?_map] at hj
   obtain⟨q,hqj,rfl⟩:=Option.map_eq_some_iff.mp hj
   obtain⟨w,hwj,_,h2,hp,U,t1,d1⟩:=Ca hW hqj
   have t6:=W5.tupMov m6 (s5' _ _ t1)
   have d6:=(d1.same s5').mov W5 m6
   obtain⟨dxr,fsr,R3⟩:=R5.mov nr m6
   obtain⟨dxg,fsg,y1,y2⟩:=id W6.at'.ex
   refine⟨q.2,_,rfl,fu.of t6,rfl,_,_,rfl,_,_,rfl,rfl,?_⟩
   refine⟨_,rfl,r,_,dxr,fsr,_,rfl,R3.1.1,T.eG.c,T.eG.na.2.1,R3.2.has ("flow",.ref A.f) (by simp),A.f,dxg,fsg,rfl,y1,y2.no _ (by decide +kernel),_,rfl,_,rfl,?_⟩
   refine YJ F W6 hp (b:=b+2 * (ws.take j).length) (fun l hl=>zr (O.len l hl) fun w' hw'=>g2 w' (List.mem_of_mem_take hw')) (by rw [List.length_take];omega) d6 (Bw F hp (nj h2).1) fun H7 m7 W7=>⟨fun a ha=>by rw [m7 a ha,m6 a ha],?_,_,_,rfl⟩
   rw [List.take_succ,hwj,Option.toList_some,Mh]
   exact W7
  rintro σ H6 ⟨m6,W6,v5,v6,rfl⟩
  rw [lM,lw,List.take_length] at W6
  obtain⟨dxr,fsr,R3⟩:=R5.mov nr m6
  refine⟨_,rfl,r,_,dxr,fsr,.int (n:Nat),rfl,R3.1.1,T.eG.c,T.eG.na.2.2.1,R3.2.has ("turns",.int (n:Nat)) (by simp),_,_,rfl,rfl,dxr,fsr,R3.1.1,by have:=R3.1.2;omega,?_⟩
  have R7:=vA.turned R3
  have W7:=W6.ins (x:=r) nr (o:=.ins t.oO dxr (aJ "turns" (.int ((n:Int)+1)) fsr)) nrf
  have m7:∀a,a≠r->a∉A.cells ls ps->upd H6 r (.ins t.oO dxr (aJ "turns" (.int ((n:Int)+1)) fsr)) a=H5 a:=fun a h1 h2=>by rw [aK h1,m6 a h2]
  generalize upd H6 r (.ins t.oO dxr (aJ "turns" (.int ((n:Int)+1)) fsr))=H7 at R7 W7 m7 ⊢
  have nD2r:D2≠r:=fun z=>by
   obtain⟨_,_,y1,_⟩:=R5
   rw [<-z,eD2] at y1
   cases y1.1
  have eD7:H7 D2=some (.lst (rs.map fun q=>V.ref q.2)):=by rw [m7 D2 nD2r nD2'];exact eD2
  have t7:∀{a:Addr} {vs:List V},H5 a=some (.tup vs)->H7 a=some (.tup vs):=fun {a vs} h=>by
   rw [m7 a (fun z=>by obtain⟨_,_,y1,_⟩:=R5;rw [<-z,h] at y1;cases y1.1) (W5.ncell h (by intro _ z;cases z) (by intro _ z;cases z))]
   exact h
  have c7:aM (bf (r:: A.cells ls ps) H) (bf (r:: A.cells ls ps) H7):=fun a o e=>by
   have hn:a∉r:: A.cells ls ps:=fun z=>by unfold bf at e;rw [if_pos z] at e;cases e
   have e':=s5 _ _ (bY a o e)
   unfold bf
   rw [if_neg hn,m7 a (fun z=>hn (by rw [z];exact List.mem_cons_self)) (fun z=>hn (List.mem_cons_of_mem _ z))]
   exact e'
  refine⟨_,rfl,D2,rfl,⟨_,bJ.of eD7⟩,?_⟩
  refine BW (K:=K) (a:=D2) (xs:=rs.map fun q=>V.ref q.2) (fun j ys H8=>H8=H7/\ys=(ws.take j).map fun w=>V.str w.1.name) (by rw [lM];omega) ⟨rfl,rfl⟩ ?_ (fun j ys H8 _ ⟨e,_⟩=>by rw [e];exact bJ.of eD7) ?_ ?_
  ·rintro j ys H8 ⟨_,rfl⟩
   rw [lM,List.length_take]
   omega
  ·rintro j v ys H8 hj ⟨rfl,rfl⟩
   rw [List.getElem?_map] at hj
   obtain⟨q,hqj,rfl⟩:=Option.map_eq_some_iff.mp hj
   obtain⟨w,hwj,_,_,_,U,t1,_⟩:=Ca hW hqj
   refine⟨q.2,_,rfl,fu.of (t7 (s5' _ _ t1)),rfl,_,_,rfl,_,_,rfl,rfl,rfl,?_⟩
   refine yes ⟨_,rfl,rfl,?_⟩
   rw [List.take_succ,hwj,Option.toList_some,List.map_append]
   rfl
  rintro ys H8 ⟨rfl,rfl⟩ p np
  rw [lM,lw,List.take_length]
  have s8:=aB (o:=.lst (ws.map fun w=>V.str w.1.name)) np
  have np5:H5 p=none:=by
   cases e:H5 p with
   | none=>rfl
   | some o=>
    have h1:p≠r:=fun z=>by
     obtain⟨_,_,y1,_⟩:=R7
     rw [<-z,np] at y1
     cases y1.1
    rw [<-m7 p h1 (W7.cell np),np] at e
    cases e
  have c8:aM (bf (r:: A.cells ls ps) H) (bf (r:: A.cells ls ps) (upd H8 p (.lst (ws.map fun w=>V.str w.1.name)))):=c7.trans (Ux np)
  refine k _ p c8 ⟨R7.same s8,Nc.same c8,?_,nrf⟩ (s5.free np5) (by rw [aq,hws])
  unfold jD
  rw [<-hws]
  exact W7.same s8
inductive G4 (K:PySem.W.Frag) (vs:List V) (H:Hp) (Q:VK) (E:XK):Prop where
 | mk:∀(a:Addr) (ws:List Int),vs=[.ref a]->bJ K H a (ws.map V.int)->ws.length<=300->((∀v∈ws,0<=v/\v <1000000000))->(∀H',aM H H'->Q (.bl true) H')->G4 K vs H Q E
theorem Oo (T:Txt w K mg t):FO P w K mg base 3 t.Ks ["thing"] (G4 K):=by
 have sc:=T.Cd.sc ["thing"]
 refine T.Cd.F.ok sc ln (fun _ _ _ _ H vs Q E hr h=>?_)
 obtain⟨a,ws,rfl,hS,hl,hB,k⟩:=h
 refine⟨_,(aA (aO (zE (bz xU (by rfl) T.mJ j8 (aa (pv 0) (aa (Bq (by rfl) T.wG rN) ak aj) aj)) (zE (u9 vB (bz bO (by rfl) T.fH dB (aa (pv 0) ak aj)) (jc (by rfl) T.Fg) (bL _)) (yU (bz (xg rfl) (by rfl) T.Mu HW (aa (eU [] ["thing"] (aR (top 69)) rfl (bM (pv 0)) (fun _ _ _ _ _=>iM) (fun _ _ _ _ _=>(d7 (uC T) T.oZ hr (aa (pv 0) ak aj)))) ak gP))))))),?_⟩
 have hz:sizeLine=16777216:=sizeLine_eq
 refine⟨_,rfl,_,_,_,_,rfl,.inl ⟨rfl,_,hS⟩,by decide,rfl,_,rfl,iW ?_⟩
 refine⟨_,rfl,_,(ws.map V.int).length,rfl,.inl ⟨_,hS,by simp⟩,_,_,rfl,rfl,_,rfl,?_⟩
 rw [lM,decide_eq_true (show(ws.length:Int)<=300 by omega)]
 refine iW ?_
 refine⟨_,rfl,a,rfl,⟨_,hS⟩,dC (K:=K) (a:=a) (xs:=ws.map V.int) (fun j ys H'=>H'=H/\ys=(List.replicate j true).map V.bl) (by rw [lM];omega) ⟨rfl,rfl⟩ (fun j ys H' ⟨_,e⟩=>by rw [e];simp) (fun j ys H' _ ⟨e,_⟩=>by rw [e];exact hS) ?_ ?_⟩
 ·rintro j x ys H' hx ⟨rfl,rfl⟩
  rw [List.getElem?_map] at hx
  obtain⟨n,hn,rfl⟩:=Option.map_eq_some_iff.mp hx
  obtain⟨n0,n1⟩:=hB n (List.mem_of_getElem? hn)
  refine yes ⟨_,rfl,.int n,rfl,.inl ⟨n,rfl,rfl,?_⟩⟩
  rw [decide_eq_true n0,decide_eq_true n1,List.replicate_succ']
  simp
 rintro ys H' ⟨rfl,rfl⟩ D hD
 refine⟨D,List.replicate (ws.map V.int).length true,rfl,bJ.of aq,?_⟩
 rw [show(List.replicate (ws.map V.int).length true).all id=true by simp]
 exact k _ (aB hD)
structure Im (ps:List PD) (RW:List (Str×Addr×List Int)):Prop where
 door:∀q∈RW,V.str q.1∈dN ps "give"
 bnd:∀q∈RW,∀v∈q.2.2,0<=v/\v <1000000000
theorem Pn {ls:List aH} {ps:List PD} {RW:List (Str×Addr×List Int)} (F:yN ls ps) (hl:∀q∈RW,q.2.2.length<=300) (hb:∀q∈RW,∀v∈q.2.2,0<=v/\v <1000000000):PX 199 ls ps (il ls ps RW):=by
 have rq:∀x,sW RW x=[]∨∃q∈RW,sW RW x=q.2.2:=fun x=>by
  unfold sW
  cases e:RW.find? fun q=>decide (q.1=x) with
  | none=>exact .inl rfl
  | some q=>exact .inr ⟨q,List.mem_of_find?_eq_some e,rfl⟩
 refine⟨fun l h v hv=>?_,fun p hp h0 v hv=>?_,fun p hp h0=>Nat.zero_le _,fun l h=>?_,fun p hp h0=>?_⟩
 ·have e:(il ls ps RW).ev l.name=l.first:=yp F.whole.nod h
  rw [e] at hv
  exact(F.lok l h).2.2.2 v hv
 ·rcases rq p.name with e | ⟨q,hq,e⟩
  ·rw [show(il ls ps RW).r p.name=[] from e] at hv
   cases hv
  ·rw [show(il ls ps RW).r p.name=q.2.2 from e] at hv
   exact hb q hq v hv
 ·have e:(il ls ps RW).ev l.name=l.first:=yp F.whole.nod h
  rw [e]
  have:=F.lok l h
  omega
 ·rcases rq p.name with e | ⟨q,hq,e⟩
  ·rw [show(il ls ps RW).r p.name=[] from e]
   exact Nat.zero_le _
  ·rw [show(il ls ps RW).r p.name=q.2.2 from e]
   exact hl q hq
inductive yI (K:PySem.W.Frag) (t:jw) (vs:List V) (H:Hp) (Q:VK) (E:XK):Prop where
 | mk:∀(n rw:Addr) (ls:List aH) (ps:List PD) (RW:List (Str×Addr×List Int)),vs=[.ref n,.ref rw]->gH K t H n ls ps->mz H rw RW->Im ps RW->(∀H',aM H H'->Q .non H')->yI K t vs H Q E
theorem Jg (T:Txt w K mg t):FO P w K mg base 4 t.zX ["net", "rows"] (yI K t):=by
 have sc:=T.uG.sc ["net", "rows", "doors", "door"]
 refine T.uG.F.ok sc ln (fun _ _ _ _ H vs Q E hr h=>?_)
 obtain⟨n,rw,ls,ps,RW,rfl,N,hrw,hO,k⟩:=h
 refine⟨_,(au (sN sc 2 (Pj (pv 0) T.aQ T.aQ.me.2.2.2.2.2.1 (rU T) T.kW hr))
  (au (nW (H0:=H) rfl (dw PassesOwn.never rfl (pM (pv 1)) (gN sc 3)
   (aA (bQ (bc iU (pv 3) (pv 2) (by with_unfolding_all rfl))
    (aA dz)
    bD))))
  (aA (nW (H0:=H) rfl (dw PassesOwn.never rfl (pM (pv 1)) (gN sc 3)
   (aA (bQ (mq (jX (d7 (Oo T) T.Cd hr (aa (cB hr.u1 (pv 1) (pv 3) (fun _ _=>rfl)) ak aF))))
    (aA dz)
    bD))))))),?_⟩
 have hz:sizeLine=16777216:=sizeLine_eq
 obtain⟨dxn,fsn,R,F,Pd,Gn,Tk,FL,PL,Wn⟩:=id N
 refine⟨_,rfl,n,dxn,fsn,rfl,Wn.obj,Wn.fl.no _ (by decide +kernel),n,ls,ps,rfl,N,fun l nl=>?_⟩
 have s1:=aB (o:=.lst (dN ps "give")) nl
 have el:upd H l (.lst (dN ps "give")) l=some (.lst (dN ps "give")):=aq
 generalize upd H l (.lst (dN ps "give"))=H1 at s1 el ⊢
 have fl:(dN ps "give").all jO=true:=by
  rw [List.all_eq_true]
  intro v hv
  obtain⟨p,_,rfl⟩:=List.mem_map.mp hv
  rfl
 have w1:=hrw.same s1
 have nf:∀(o':Obj) (u':HO),H rw≠some (.frz o' u'):=fun o' u' z=>by rw [hrw.dict] at z;cases z
 refine⟨_,rfl,rw,_,rfl,w1.dict,fun o=>oK (fun j σ H'=>H'=upd H1 rw (.frz o (.dK (kZ RW)))/\∃v3,σ=[some (.ref n),some (.ref rw),some (.ref l),v3]) ⟨rfl,none,rfl⟩ (fun j σ H' _ ⟨e,_⟩=>by rw [e];exact aq) ?_ ?_⟩
 ·rintro j kk v σ H' hj ⟨rfl,v3,rfl⟩
  unfold kZ at hj
  rw [List.getElem?_map] at hj
  obtain⟨q,hq,e⟩:=Option.map_eq_some_iff.mp hj
  cases e
  refine⟨_,rfl,_,rfl,l,_,rfl,.inl (bJ.of (jo w1.dict el (by intro _ z;cases z))),rfl,fl,_,rfl,?_⟩
  have hin:inV (kV (Sum.inr q.1)) (dN ps "give")=true:=QD (hO.door q (List.mem_of_getElem? hq)) (by simp [Ew,kV])
  rw [hin]
  exact cZ ⟨rfl,_,rfl⟩
 rintro σ H' ⟨rfl,v3,rfl⟩
 refine⟨_,⟨rw,o,_,aq,nf,rfl⟩,?_⟩
 rw [pQ,Ha w1.dict]
 refine⟨_,rfl,rw,_,rfl,w1.dict,fun o=>oK (fun j σ H'=>aM (upd H1 rw (.frz o (.dK (kZ RW)))) H'/\∃v3,σ=[some (.ref n),some (.ref rw),some (.ref l),v3]) ⟨aM.refl _,v3,rfl⟩ (fun j σ H' _ ⟨e,_⟩=>e _ _ aq) ?_ ?_⟩
 ·rintro j kk v σ H' hj ⟨s2,v3,rfl⟩
  unfold kZ at hj
  rw [List.getElem?_map] at hj
  obtain⟨q,hq,e⟩:=Option.map_eq_some_iff.mp hj
  cases e
  have hm:=List.mem_of_getElem? hq
  have vq:bZ (kZ RW) (Sum.inr q.1)=some (.ref q.2.1):=iK (by rw [wM];exact gh hrw.nd) (List.mem_map.mpr ⟨q,hm,rfl⟩)
  have eq2:=s2 _ _ (jo w1.dict (w1.lists q hm) (by intro _ z;cases z))
  refine⟨_,rfl,_,rfl,rw,_,rfl,(by rw [<-vq];exact .inl ⟨_,Sum.inr q.1,.inr ⟨o,s2 _ _ aq⟩,rfl,rfl⟩),q.2.1,q.2.2,rfl,bJ.of eq2,hrw.len q hm,hO.bnd q hm,fun H3 s3=>⟨_,rfl,cZ ⟨s2.trans s3,_,rfl⟩⟩⟩
 rintro σ H' ⟨s2,v3,rfl⟩
 refine⟨_,⟨rw,o,_,s2 _ _ aq,nf,rfl⟩,?_⟩
 refine k _ fun b u e=>?_
 by_cases hb:b=rw
 ·subst hb
  rw [aq]
  rw [hrw.dict] at e
  exact e
 ·rw [aK hb]
  exact s2 _ _ (by rw [aK hb];exact s1 _ _ e)
theorem QB {H:Hp} {Q:VK} {Ex:XK} {H0:Hp} {f dx n rw:Addr} {ls:List aH} {ps:List PD} {RW:List (Str×Addr×List Int)} (hf:H f=some (.ins t.bU dx [])) (s0:aM H0 H) (nf:H0 f=none) (N:gH K t H0 n ls ps) (hrw:mz H0 rw RW)
  (k:∀(H':Hp) (A:qF),A.f=f->A.n=n->jK f H H'->fD K t H' A ls ps (il ls ps RW)->(∀a∈A.cells ls ps,H a=none)->Q .non H'):gf K t [.ref f,.ref n,.ref rw] H Q Ex:=by
 unfold gf
 exact⟨H0,f,dx,n,rw,ls,ps,RW,rfl,hf,s0,nf,N,hrw,k⟩
inductive qK (K:PySem.W.Frag) (t:jw) (vs:List V) (H:Hp) (Q:VK):Prop where
 | mk:∀(H0:Hp) (r dx n rw:Addr) (ls:List aH) (ps:List PD) (RW:List (Str×Addr×List Int)),vs=[.ref r,.ref n,.ref rw]->H r=some (.ins t.oO dx [])->aM H0 H->H0 r=none->gH K t H0 n ls ps->mz H0 rw RW->Im ps RW->(∀H' A,A.n=n->aM H0 H'->qX K t H' r 0 A ls ps (il ls ps RW)->(∀a∈A.cells ls ps,H0 a=none)->Q .non H')->qK K t vs H Q
@[irreducible] noncomputable def gM (K:PySem.W.Frag) (t:jw):Sp:=fun vs H Q _=>qK K t vs H Q
theorem Bb (T:Txt w K mg t):FO P w K mg base 6 t.oJ ["self", "net", "rows"] (gM K t):=by
 have sc:=T.jE.sc ["self", "net", "rows"]
 refine T.jE.F.ok sc (fun vs H Q E h=>?_) (fun cdv A outer s H vs Q E hr h=>?_)
 ·unfold gM at h
  obtain⟨H0,r,dx,n,rw,ls,ps,RW,rfl,_⟩:=h
  rfl
 ·unfold gM at h
  obtain⟨H0,r,dx,n,rw,ls,ps,RW,rfl,hr1,s0,nr0,N,hrw,hO,k⟩:=h
  refine⟨_,(au (bH (d7 (Jg T) T.uG hr (aa (pv 1) (aa (pv 2) ak aj) aj)))
   (au (gU (pv 0) (pv 1) rfl)
   (au (gU (pv 0) (gY (T.aY.M T.ji) (zL T) (hr.mono (by decide)) (by rfl) T.aY.m T.ji.b .nil gK (aa (pv 1) (aa (pv 2) ak aj) aj)) rfl)
   (aA (gU (pv 0) az rfl))))),?_⟩
  refine⟨_,rfl,_,rfl,n,rw,ls,ps,RW,rfl,N.same s0,hrw.same s0,hO,fun H1 s1=>?_⟩
  have T0:=(Tr.start hr1).same s1
  refine⟨_,rfl,_,rfl,r,_,dx,[],rfl,s1 _ _ hr1,T.eG.c,T.eG.na.1,by show 0 <1000;decide,?_⟩
  have T1:=T0.put (L1:=[]) (L2:=[]) (o':=.ins t.oO dx (aJ "net" (.ref n) []))
  generalize upd H1 r (.ins t.oO dx (aJ "net" (.ref n) []))=H2 at T1 ⊢
  have s02:aM H0 H2:=fun x o e=>T1.but x o (aD e nr0) (s0 x o e)
  have er2:=T1.all (r,.ins t.oO dx (aJ "net" (.ref n) [])) (.head _)
  refine⟨_,rfl,_,rfl,fun f dxf nf ndf nef=>?_⟩
  have s3:aM H2 (upd (upd H2 dxf (.own f)) f (.ins t.bU dxf [])):=fun b o e=>by rw [aK (aD e nf),aK (aD e ndf)];exact e
  have ef:(upd (upd H2 dxf (.own f)) f (.ins t.bU dxf [])) f=some (.ins t.bU dxf []):=aq
  generalize upd (upd H2 dxf (.own f)) f (.ins t.bU dxf [])=H3 at s3 ef ⊢
  have s03:=s02.trans s3
  have nfr:r≠f:=aD er2 nf
  refine QB ef s03 (s02.free nf) N hrw fun H4 A eAf eAn b4 W4 fr4=>⟨rfl,?_⟩
  subst eAf
  subst eAn
  have er4:=b4 r _ nfr (s3 _ _ er2)
  have nrc:r∉A.cells ls ps:=W4.ncell er4 (by intro _ z;cases z) (by intro _ z;cases z)
  refine⟨_,rfl,r,_,dx,_,rfl,er4,T.eG.c,T.eG.na.2.1,Nat.lt_of_le_of_lt (gO (Nat.zero_le 0)) (by decide),?_⟩
  have er5:upd H4 r (.ins t.oO dx (aJ "flow" (.ref A.f) (aJ "net" (.ref A.n) []))) r=some (.ins t.oO dx (aJ "flow" (.ref A.f) (aJ "net" (.ref A.n) []))):=aq
  refine⟨_,rfl,r,_,dx,_,rfl,er5,T.eG.c,T.eG.na.2.2.1,Nat.lt_of_le_of_lt (gO (gO (Nat.zero_le 0))) (by decide),?_⟩
  rw [pQ]
  have s05:∀o:HO,aM H0 (upd H4 r o):=fun o b u e=>by
   rw [aK (aD e nr0)]
   exact b4 b u (aD e (s02.free nf)) (s03 b u e)
  have fr0:∀a∈A.cells ls ps,H0 a=none:=fun a ha=>s03.free (fr4 a ha)
  refine k _ A rfl (s05 _) ⟨⟨dx,_,⟨aq,gO (gO (gO (Nat.zero_le 0)))⟩,⟨?_,?_⟩⟩,N.same fun b u e=>?_,W4.ins nrc nfr,nfr⟩ fr0
  ·intro q hq
   simp only [List.mem_cons,List.not_mem_nil,or_false] at hq
   rcases hq with rfl | rfl | rfl
   ·dsimp only;(repeat first | (rw [aC,if_pos rfl];done) | rw [aC,if_neg (by decide +kernel)])
   ·dsimp only;(repeat first | (rw [aC,if_pos rfl];done) | rw [aC,if_neg (by decide +kernel)])
   ·dsimp only
    rw [aC,if_pos rfl]
    rfl
  ·intro m hm
   have hne:∀m∈(["step", "need_doors", "next_deed", "full_lane", "can_work", "works", "lane_now", "turn"]:List Str),∀g∈(["turns", "flow", "net"]:List Str),¬m=g:=by decide +kernel
   have h:=hne m hm
   rw [aC,if_neg (h _ (by simp)),aC,if_neg (h _ (by simp)),aC,if_neg (h _ (by simp))]
   rfl
  ·have hn:b∉r:: A.cells ls ps:=fun z=>by
    rcases List.mem_cons.mp z with z | z
    ·rw [z,nr0] at e;cases e
    ·rw [fr0 b z] at e;cases e
   unfold bf
   rw [if_neg hn]
   exact s05 _ b u e
noncomputable def Xv (S:FS) (p:PD):List (Str×Int):=(cz p.kind p.nums (Ei S p) (S.k p.name)).map fun pv=>(strAt p.outs pv.1.toNat,pv.2)
theorem Ed {α:Type} {p q:α->Bool}:∀{l:List α},(∀a∈l,p a=q a)->l.find? p=l.find? q
 | [],_=>rfl
 | a:: r,h=>by
  rw [List.find?_cons,List.find?_cons,h a List.mem_cons_self,Ed fun b hb=>h b (List.mem_cons_of_mem _ hb)]
noncomputable def rQ (S:FS) (x:Str):Bool:=decide (lL S x=.non)
noncomputable def Kg (ls:List aH) (S:FS) (x:Str):Bool:=decide (roomF ls x<=((S.ev x).length:Int) - (S.g x:Int))
noncomputable def Va (S:FS) (p:PD):List Str:=(places p.kind (bh S p)).map (strAt p.ins)
noncomputable def TJ (S:FS) (p:PD):List Str:=(Xv S p).map (·.1)
theorem RM {S:FS} {p:PD} (ok:oX p):fM p.kind p.ins (bh S p)=match (Va S p).find? (rQ S) with
  | some x=>.str x
  | none=>.non:=by
 have hO:=qH S p ok
 have hlt:∀q∈places p.kind (bh S p),q <p.ins.length:=fun q hq=>by
  have:=jr hO q hq
  unfold bh at this
  rwa [lM] at this
 unfold Va fM
 rw [List.find?_map]
 have e:(places p.kind (bh S p)).find? (tZ (bh S p))=(places p.kind (bh S p)).find? (rQ S∘strAt p.ins):=Ed fun q hq=>by
  have h:=hlt q hq
  unfold tZ rQ bh
  rw [List.getElem?_map,List.getElem?_eq_getElem h]
  show _=decide (lL S (strAt p.ins q)=.non)
  rw [qN h]
  simp
 rw [e]
 cases hf:(places p.kind (bh S p)).find? (rQ S∘strAt p.ins) with
 | none=>rfl
 | some q=>
  have h:=hlt q (List.mem_of_find?_eq_some hf)
  simp only [List.getElem?_eq_getElem h,Option.map_some,Option.getD_some]
  rw [qN h]
theorem Qc (ls:List aH) (S:FS) (p:PD):(TJ S p).find? (Kg ls S)=((Xv S p).find? (yh ls S)).map (·.1):=by
 unfold TJ
 rw [List.find?_map]
 rfl
theorem My {S:FS} {p:PD} (ok:oX p) (h9:p.kind≠9):Va S p=p.ins:=by
 unfold Va places bh
 rw [if_neg h9,lM]
 refine List.ext_getElem? fun i=>?_
 rw [List.getElem?_map]
 by_cases h:i <p.ins.length
 ·rw [List.getElem?_range h,List.getElem?_eq_getElem h,Option.map_some,qN h]
 ·rw [List.getElem?_eq_none (by rw [List.length_range];omega),List.getElem?_eq_none (by omega)]
  rfl
theorem Ny {S:FS} {p:PD} (ok:oX p) (hA:p.kind≠10):TJ S p=p.outs:=by
 have h:=ok.1
 have hO:=ok.2.2.2.1
 unfold TJ Xv
 rw [List.map_map]
 have key:∀i,i <11->i≠10->∀(ns ws:List Int) (k:Int),(cz i ns ws k).map (fun pv=>pv.1.toNat)=List.range (cO i):=by
  intro i hi hn ns ws k
  match i,hi,hn with
  | 0,_,_=>rfl
  | 1,_,_=>rfl
  | 2,_,_=>rfl
  | 3,_,_=>rfl
  | 4,_,_=>rfl
  | 5,_,_=>rfl
  | 6,_,_=>rfl
  | 7,_,_=>rfl
  | 8,_,_=>rfl
  | 9,_,_=>rfl
  | 10,_,hn=>exact absurd rfl hn
 have e:(cz p.kind p.nums (Ei S p) (S.k p.name)).map ((fun q:Str×Int=>q.1)∘fun pv=>(strAt p.outs pv.1.toNat,pv.2))=((cz p.kind p.nums (Ei S p) (S.k p.name)).map (fun pv=>pv.1.toNat)).map (strAt p.outs):=by rw [List.map_map];rfl
 rw [e,key _ h hA,<-hO]
 refine List.ext_getElem? fun i=>?_
 rw [List.getElem?_map]
 by_cases h:i <p.outs.length
 ·rw [List.getElem?_range h,List.getElem?_eq_getElem h,Option.map_some,qN h]
 ·rw [List.getElem?_eq_none (by rw [List.length_range];omega),List.getElem?_eq_none (by omega)]
  rfl
structure sX (ls:List aH) (ps:List PD) (S:FS):Prop where
 ev:∀l∈ls,(S.ev l.name).length=l.first.length+S.d (zP (·.outs) ps l.name)
 g:∀l∈ls,S.g l.name=S.d (zP (·.ins) ps l.name)
theorem U7 {gv:List (Str×Int)} {os:List Str} (e:gv.map (·.1)=os) (nd:os.Nodup) (x:Str):((gv.filter fun q=>decide (q.1=x)).map (·.2)).length=if x∈os then 1 else 0:=by
 subst e
 rw [lM]
 induction gv with
 | nil=>rfl
 | cons q r ih=>
  rw [List.map_cons,List.nodup_cons] at nd
  rw [List.filter_cons]
  by_cases h:q.1=x
  ·rw [if_pos (decide_eq_true h),List.length_cons,ih nd.2,if_neg (by rw [<-h];exact nd.1),if_pos (by rw [List.map_cons,h];exact List.mem_cons_self)]
  ·rw [if_neg (by simpa using h),ih nd.2,List.map_cons]
   have:(x∈q.1:: r.map (·.1))↔x∈r.map (·.1):=by
    rw [List.mem_cons]
    exact⟨fun z=>z.resolve_left fun e=>h e.symm,.inr⟩
   by_cases hm:x∈r.map (·.1)
   ·rw [if_pos hm,if_pos (this.mpr hm)]
   ·rw [if_neg hm,if_neg fun z=>hm (this.mp z)]
theorem jj {f:PD->List Str} {ls:List aH} {ps:List PD} (F:yN ls ps) (pm:(ps.flatMap f).Perm (ls.map (·.name))) {p:PD} (hp:p∈ps) {l:aH} (hl:l∈ls):l.name∈f p↔zP f ps l.name=p.name:=by
 have nd:=pm.nodup_iff.mpr F.whole.nod
 constructor
 ·exact fun h=>Bs nd hp h
 ·intro h
  obtain⟨q,hq,hx⟩:=List.mem_flatMap.mp (pm.mem_iff.mpr (List.mem_map.mpr ⟨l,hl,rfl⟩))
  rw [Bs nd hq hx] at h
  rw [<-DX F.pnd hq hp h]
  exact hx
noncomputable def ZP (w:PD×ju):Prop:=w.2.tk=w.1.ins/\w.2.gv.map (·.1)=w.1.outs
theorem Wi {ls:List aH} {ps:List PD} {S:FS} (F:yN ls ps) (C:Calm ps) {p:PD} (hp:p∈ps) {dd:ju} (h:lu S p=some dd):ZP (p,dd):=by
 obtain⟨_,_,rfl⟩:=rB h
 have ok:=F.pok p hp
 have k9:=C p hp
 exact⟨My (S:=S) ok (by omega),Ny (S:=S) ok (by omega)⟩
theorem sX.do {ls:List aH} {ps:List PD} {S:FS} (F:yN ls ps) (c:sX ls ps S) {w:PD×ju} (hp:w.1∈ps) (hw:ZP w):sX ls ps (Bv S w.1.name w.2):=by
 refine⟨fun l hl=>?_,fun l hl=>?_⟩
 ·show(S.ev l.name ++ _).length=_+if _ then _ else _
  rw [lP,U7 hw.2 (Hh (F.whole.outs.nodup_iff.mpr F.whole.nod) hp),c.ev l hl]
  by_cases h:l.name∈w.1.outs
  ·rw [if_pos h,if_pos ((jj F F.whole.outs hp hl).mp h)];omega
  ·rw [if_neg h,if_neg fun z=>h ((jj F F.whole.outs hp hl).mpr z)];omega
 ·show(if _ then _ else _)=if _ then _ else _
  rw [hw.1,c.g l hl]
  by_cases h:l.name∈w.1.ins
  ·rw [if_pos h,if_pos ((jj F F.whole.ins hp hl).mp h)]
  ·rw [if_neg h,if_neg fun z=>h ((jj F F.whole.ins hp hl).mpr z)]
theorem sX.all {ls:List aH} {ps:List PD} (F:yN ls ps):∀{ws:List (PD×ju)} {S:FS},sX ls ps S->(∀w∈ws,w.1∈ps/\ZP w)->sX ls ps (jN S ws)
 | [],_,c,_=>c
 | w:: r,S,c,h=>by
  obtain⟨h1,h2⟩:=h w List.mem_cons_self
  exact sX.all F (ws:=r) (S:=Bv S w.1.name w.2) (c.do F h1 h2) fun v hv=>h v (List.mem_cons_of_mem _ hv)
theorem sX.turn {ls:List aH} {ps:List PD} {S:FS} (F:yN ls ps) (C:Calm ps) (c:sX ls ps S) (xs:List Str):sX ls ps (jD ls ps S xs):=c.all F fun w hw=>by
 obtain⟨h1,_,h3⟩:=p7 hw
 exact⟨h1,Wi F C h1 (nj h3).1⟩
theorem sX.start {ls:List aH} {ps:List PD} (F:yN ls ps) (RW:List (Str×Addr×List Int)):sX ls ps (il ls ps RW):=⟨fun l hl=>by
 show(JR ls l.name).length=l.first.length+0
 rw [yp F.whole.nod hl,Nat.add_zero],fun l hl=>rfl⟩
theorem Ft (S:FS) (x:Str):rQ S x=decide ((S.ev x).length<=S.g x):=by
 unfold rQ lL
 cases h:(S.ev x)[S.g x]? with
 | none=>rw [decide_eq_true (List.getElem?_eq_none_iff.mp h)];rfl
 | some n=>
  have:=(List.getElem?_eq_some_iff.mp h).1
  have e:decide ((S.ev x).length<=S.g x)=false:=decide_eq_false (by omega)
  rw [e]
  rfl
noncomputable def CQ (S:FS) (a:Q5):Int:=a.tk+(S.d a.fr:Int) - (S.d a.to:Int)
theorem vD {α:Type} {p:α->Bool} {l:List α}:l.find? p=none↔∀x∈l,p x=false:=by
 rw [List.find?_eq_none]
 exact⟨fun h x hx=>Bool.eq_false_iff.mpr (h x hx),fun h x hx=>by rw [h x hx];simp⟩
theorem Cm {ls:List aH} {ps:List PD} {S:FS} (F:yN ls ps) (C:Calm ps) (c:sX ls ps S) {p:PD} (hp:p∈ps):(gm ls S p).isSome=true↔(∀a∈gQ ls ps,a.to=p.name->1<=CQ S a)/\zu S p=false:=by
 have ok:=F.pok p hp
 have k9:=C p hp
 have hi:∀x∈p.ins,∃l∈ls,l.name=x:=fun x hx=>by
  obtain⟨l,hl,e⟩:=List.mem_map.mp (F.whole.ins.mem_iff.mp (List.mem_flatMap.mpr ⟨p,hp,hx⟩))
  exact⟨l,hl,e⟩
 have ho:∀x∈p.outs,∃l∈ls,l.name=x:=fun x hx=>by
  obtain⟨l,hl,e⟩:=List.mem_map.mp (F.whole.outs.mem_iff.mp (List.mem_flatMap.mpr ⟨p,hp,hx⟩))
  exact⟨l,hl,e⟩
 have arcs:(∀a∈gQ ls ps,a.to=p.name->1<=CQ S a)↔(∀x∈p.ins,rQ S x=false)/\∀x∈p.outs,Kg ls S x=false:=by
  constructor
  ·refine fun h=>⟨fun x hx=>?_,fun x hx=>?_⟩
   ·obtain⟨l,hl,rfl⟩:=hi x hx
    have e:=(jj F F.whole.ins hp hl).mp hx
    have:=h ⟨zP (·.outs) ps l.name,zP (·.ins) ps l.name,(l.first.length:Nat),l.name, "along"⟩ (List.mem_append.mpr (.inl (List.mem_flatMap.mpr ⟨l,hl,by unfold wA;exact List.mem_cons_self⟩))) e
    unfold CQ at this
    dsimp only at this
    rw [Ft,c.ev l hl,c.g l hl]
    exact decide_eq_false (by omega)
   ·obtain⟨l,hl,rfl⟩:=ho x hx
    have e:=(jj F F.whole.outs hp hl).mp hx
    have:=h ⟨zP (·.ins) ps l.name,zP (·.outs) ps l.name,l.room - (l.first.length:Nat),l.name, "against"⟩ (List.mem_append.mpr (.inl (List.mem_flatMap.mpr ⟨l,hl,by unfold wA;exact List.mem_cons_of_mem _ List.mem_cons_self⟩))) e
    unfold CQ at this
    dsimp only at this
    unfold Kg
    rw [Cy F.whole.nod hl,c.ev l hl,c.g l hl]
    exact decide_eq_false (by omega)
  ·rintro⟨h1,h2⟩ a ha e
   unfold gQ at ha
   rcases List.mem_append.mp ha with h | h
   ·obtain⟨l,hl,h⟩:=List.mem_flatMap.mp h
    unfold wA at h
    simp only [List.mem_cons,List.not_mem_nil,or_false] at h
    rcases h with h | h
    ·rw [h] at e ⊢
     have:=h1 l.name ((jj F F.whole.ins hp hl).mpr e)
     rw [Ft,c.ev l hl,c.g l hl] at this
     have:=of_decide_eq_false this
     unfold CQ
     dsimp only
     omega
    ·rw [h] at e ⊢
     have:=h2 l.name ((jj F F.whole.outs hp hl).mpr e)
     unfold Kg at this
     rw [Cy F.whole.nod hl,c.ev l hl,c.g l hl] at this
     have:=of_decide_eq_false this
     unfold CQ
     dsimp only
     omega
   ·obtain⟨q,_,rfl⟩:=List.mem_map.mp h
    unfold CQ Nj
    dsimp only
    omega
 rw [arcs]
 have hl:fM p.kind p.ins (bh S p)=.non↔∀x∈p.ins,rQ S x=false:=by
  rw [RM ok,My ok (by omega),<-vD]
  cases p.ins.find? (rQ S) with
  | none=>simp
  | some x=>simp
 have hf:(Xv S p).find? (yh ls S)=none↔∀x∈p.outs,Kg ls S x=false:=by
  have:=Qc ls S p
  rw [Ny ok (by omega)] at this
  rw [<-vD,this,Option.map_eq_none_iff]
 rw [<-hl,<-hf]
 unfold gm lu
 by_cases h1:fM p.kind p.ins (bh S p)=.non
 ·rw [if_neg (by simpa using h1)]
  cases h2:zu S p with
  | true=>simp
  | false=>
   rw [if_neg (by simp)]
   show((if xx ls S ⟨_,Xv S p,_⟩=.non then _ else none):Option ju).isSome=true↔_
   unfold xx
   cases h3:(Xv S p).find? (yh ls S) with
   | none=>simp [h1]
   | some q=>simp
 ·rw [if_pos h1]
  simp [h1]
theorem CZ {ls:List aH} {ps:List PD} {S:FS} {xs:List Str} (F:yN ls ps) {p:PD} (hp:p∈ps):p.name∈(mQ ls ps S xs).map (fun w=>w.1.name)↔oM xs p=true/\(gm ls S p).isSome=true:=by
 constructor
 ·intro h
  obtain⟨w,hw,e⟩:=List.mem_map.mp h
  obtain⟨h1,h2,h3⟩:=p7 hw
  rw [DX F.pnd h1 hp e] at h2 h3
  exact⟨h2,by rw [h3];rfl⟩
 ·rintro⟨h1,h2⟩
  obtain⟨dd,hd⟩:=Option.isSome_iff_exists.mp h2
  exact List.mem_map.mpr ⟨(p,dd),List.mem_filterMap.mpr ⟨p,List.mem_filter.mpr ⟨hp,h1⟩,by rw [hd];rfl⟩,rfl⟩
theorem CG {ls:List aH} {ps:List PD} {S:FS} {xs:List Str} (F:yN ls ps) (x:Str):(jD ls ps S xs).d x=S.d x+if x∈(mQ ls ps S xs).map (fun w=>w.1.name) then 1 else 0:=by
 unfold jD
 rw [Hv]
 have nd:=Rx (ls:=ls) (S:=S) (xs:=xs) F.pnd
 generalize mQ ls ps S xs=ws at nd
 congr 1
 induction ws with
 | nil=>rfl
 | cons w r ih=>
  rw [List.map_cons,List.nodup_cons] at nd
  rw [List.filter_cons,List.map_cons]
  by_cases h:w.1.name=x
  ·rw [if_pos (decide_eq_true h),List.length_cons,ih nd.2,if_neg (by rw [<-h];exact nd.1),if_pos (by rw [h];exact List.mem_cons_self)]
  ·rw [if_neg (by simpa using h),ih nd.2]
   have:(x∈w.1.name:: r.map fun w=>w.1.name)↔x∈r.map fun w=>w.1.name:=by
    rw [List.mem_cons]
    exact⟨fun z=>z.resolve_left fun e=>h e.symm,.inr⟩
   by_cases hm:x∈r.map fun w=>w.1.name
   ·rw [if_pos hm,if_pos (this.mpr hm)]
   ·rw [if_neg hm,if_neg fun z=>hm (this.mp z)]
noncomputable def oY (ls:List aH) (ps:List PD):FS->List (List Str)->List (List Str)
 | _,[]=>[]
 | S,xs:: r=>(mQ ls ps S xs).map (fun w=>w.1.name):: oY ls ps (jD ls ps S xs) r
theorem uJ {ls:List aH} {ps:List PD}:∀(xss:List (List Str)) (S:FS),(oY ls ps S xss).length=xss.length
 | [],_=>rfl
 | _:: r,_=>by show _+1=_+1;rw [uJ r]
theorem zz {ls:List aH} {ps:List PD} (F:yN ls ps) (C:Calm ps) {R:List Str} (hR:∀x∈R,∃a∈gQ ls ps,a.tk=0/\a.to=x/\a.fr∈R):∀(xss:List (List Str)) (S:FS),sX ls ps S->(∀x∈R,S.d x=0)->∀t∈oY ls ps S xss,∀x∈t,x∉R
 | [],_,_,_,t,ht=>by cases ht
 | xs:: r,S,c,d0,t,ht=>by
  have no:∀x∈(mQ ls ps S xs).map (fun w=>w.1.name),x∉R:=fun x hx hr=>by
   obtain⟨w,hw,rfl⟩:=List.mem_map.mp hx
   have hp:=(p7 hw).1
   obtain⟨_,h2⟩:=(CZ F hp).mp hx
   obtain⟨a,ha,a0,at',af⟩:=hR _ hr
   have:=((Cm F C c hp).mp h2).1 a ha at'
   unfold CQ at this
   rw [a0,d0 _ af,at',d0 _ hr] at this
   omega
  rcases List.mem_cons.mp ht with h | h
  ·rw [h];exact no
  ·refine zz F C hR r _ (c.turn F C xs) (fun x hx=>?_) t h
   rw [CG F,d0 x hx,if_neg fun z=>no x z hx]
structure Vg (ls:List aH) (ps:List PD) (rk:Str->Nat):Prop where
 up:∀a∈gQ ls ps,a.tk=0->rk a.fr <rk a.to
theorem Qu {ls:List aH} {ps:List PD} (F:yN ls ps):∀a∈gQ ls ps,0<=a.tk/\∃p∈ps,p.name=a.fr:=fun a ha=>by
 unfold gQ at ha
 rcases List.mem_append.mp ha with h | h
 ·obtain⟨l,hl,h⟩:=List.mem_flatMap.mp h
  have lk:=F.lok l hl
  obtain⟨q1,hq1,hx1⟩:=List.mem_flatMap.mp (F.whole.outs.mem_iff.mpr (List.mem_map.mpr ⟨l,hl,rfl⟩))
  obtain⟨q2,hq2,hx2⟩:=List.mem_flatMap.mp (F.whole.ins.mem_iff.mpr (List.mem_map.mpr ⟨l,hl,rfl⟩))
  unfold wA at h
  simp only [List.mem_cons,List.not_mem_nil,or_false] at h
  rcases h with h | h <;> rw [h]
  ·exact⟨by dsimp only;omega,q1,hq1,((jj F F.whole.outs hq1 hl).mp hx1).symm⟩
  ·exact⟨by dsimp only;omega,q2,hq2,((jj F F.whole.ins hq2 hl).mp hx2).symm⟩
 ·obtain⟨p,hp,rfl⟩:=List.mem_map.mp h
  exact⟨by show(0:Int)<=1;decide,p,hp,rfl⟩
theorem live {ls:List aH} {ps:List PD} {S:FS} {rk:Str->Nat} (F:yN ls ps) (C:Calm ps) (c:sX ls ps S) (hk:Vg ls ps rk) (he:∀p∈ps,zu S p=false):mQ ls ps S []≠[]:=by
 intro h0
 have no:∀p∈ps,∃a∈gQ ls ps,a.to=p.name/\CQ S a <1:=fun p hp=>Classical.byContradiction fun z=>by
  have h1:(gm ls S p).isSome=true:=(Cm F C c hp).mpr ⟨fun a ha e=>Classical.byContradiction fun z2=>z ⟨a,ha,e,by omega⟩,he p hp⟩
  have:=(CZ F (xs:=[]) hp).mpr ⟨by simp [oM],h1⟩
  rw [h0] at this
  cases this
 have key:∀n m,∀p∈ps,S.d p.name=n->rk p.name=m->False:=by
  intro n
  induction n using Nat.strongRecOn with
  | ind n ihn=>
   intro m
   induction m using Nat.strongRecOn with
   | ind m ihm=>
    intro p hp hd hm
    obtain⟨a,ha,e,ht⟩:=no p hp
    obtain⟨k0,q,hq,eq⟩:=Qu F a ha
    unfold CQ at ht
    rw [e,hd,<-eq] at ht
    by_cases hz:a.tk=0
    ·have:=hk.up a ha hz
     rw [<-eq,e,hm] at this
     by_cases hl:S.d q.name <n
     ·exact ihn _ hl _ q hq rfl rfl
     ·exact ihm _ this q hq (by omega) rfl
    ·exact ihn (S.d q.name) (by omega) _ q hq rfl rfl
 obtain⟨p,hp⟩:=List.exists_mem_of_ne_nil ps (fun z=>by have:=F.p1;rw [z] at this;simp at this)
 exact key _ _ p hp rfl rfl
theorem MT {ps:List PD} {S:FS} {m:Nat} (hr:∀p∈ps,p.kind=0->(S.r p.name).length=m) (hd:∀p∈ps,S.d p.name <m):∀p∈ps,zu S p=false:=fun p hp=>by
 unfold zu
 by_cases h0:p.kind=0
 ·have:=hd p hp
  rw [hr p hp h0,decide_eq_false (by omega:¬S.d p.name=m),Bool.and_false]
 ·rw [decide_eq_false h0,Bool.false_and]
theorem Gf {ls:List aH} {ps:List PD} {rk:Str->Nat} (F:yN ls ps) (C:Calm ps) (hk:Vg ls ps rk) {m:Nat}:∀(n i:Nat) (S:FS),sX ls ps S->(∀p∈ps,p.kind=0->(S.r p.name).length=m)->(∀p∈ps,S.d p.name<=i)->i+n<=m->∀t∈oY ls ps S (List.replicate n []),t≠[]
 | 0,_,_,_,_,_,_,t,ht=>by cases ht
 | n+1,i,S,c,hr,hd,hm,t,ht=>by
  rcases List.mem_cons.mp ht with h | h
  ·rw [h]
   intro z
   exact live F C c hk (MT hr fun p hp=>by have:=hd p hp;omega) (List.map_eq_nil_iff.mp z)
  ·refine Gf F C hk (m:=m) n (i+1) _ (c.turn F C []) (fun p hp h0=>?_) (fun p hp=>?_) (by omega) t h
   ·unfold jD;rw [vo];exact hr p hp h0
   ·have:=hd p hp
    rw [CG F]
    split <;> omega
theorem Eo {ls:List aH} {ps:List PD} {rk:Str->Nat} (F:yN ls ps) (C:Calm ps) (hk:Vg ls ps rk) {m:Nat} {q:PD} (hq:q∈ps):∀(n i:Nat) (S:FS),sX ls ps S->(∀p∈ps,p.kind=0->(S.r p.name).length=m)->(∀p∈ps,S.d p.name<=i)->i+n<=m->(∀p∈ps,rk p.name <i->1<=S.d p.name)->S.d q.name=0->rk q.name <i+n->∃t∈(oY ls ps S (List.replicate n [])).take (rk q.name+1 - i),q.name∈t
 | 0,i,S,c,hr,hd,hm,hw,h0,hn=>by have:=hw q hq hn;omega
 | n+1,i,S,c,hr,hd,hm,hw,h0,hn=>by
  have hi:i<=rk q.name:=Classical.byContradiction fun z=>by have:=hw q hq (by omega);omega
  have e:rk q.name+1 - i=(rk q.name+1 - (i+1))+1:=by omega
  rw [e]
  show ∃t∈(_:: oY ls ps (jD ls ps S []) (List.replicate n [])).take _,_
  rw [List.take_succ_cons]
  have ne:=MT hr fun p hp=>(by have:=hd p hp;omega:S.d p.name <m)
  by_cases hx:q.name∈(mQ ls ps S []).map (fun w=>w.1.name)
  ·exact⟨_,List.mem_cons_self,hx⟩
  ·obtain⟨t,ht,hqt⟩:=Eo F C hk (m:=m) hq n (i+1) _ (c.turn F C []) (fun p hp h0=>by unfold jD;rw [vo];exact hr p hp h0) (fun p hp=>by
    have:=hd p hp
    rw [CG F]
    split <;> omega) (by omega) (fun p hp hlt=>by
    rw [CG F]
    by_cases hl:rk p.name <i
    ·have:=hw p hp hl;omega
    ·by_cases hd0:S.d p.name=0
     ·rw [if_pos ((CZ F hp).mpr ⟨by simp [oM],(Cm F C c hp).mpr ⟨fun a ha e=>?_,ne p hp⟩⟩)]
      ·omega
      ·obtain⟨k0,q',hq',eq⟩:=Qu F a ha
       unfold CQ
       rw [e,hd0,<-eq]
       by_cases hz:a.tk=0
       ·have h1:=hk.up a ha hz
        rw [<-eq,e] at h1
        have:=hw q' hq' (by omega)
        omega
       ·omega
     ·omega) (by rw [CG F,h0,if_neg hx]) (by omega)
   exact⟨t,List.mem_cons_of_mem _ ht,hqt⟩
theorem zQ {names:List Str} {bare:List Q5}:∀{n:Nat} {x:Str} {k:Nat},(x,k)∈dY names bare n->k <n/\∀a∈bare,a.to=x->∃k',k' <k/\(a.fr,k')∈dY names bare n
 | 0,_,_,h=>by cases h
 | n+1,x,k,h=>by
  have h:(x,k)∈dY names bare n ++ (JM names bare (dY names bare n)).map fun x=>(x,n):=h
  have sub:∀{q:Str×Nat},q∈dY names bare n->q∈dY names bare (n+1):=fun h=>List.mem_append.mpr (.inl h)
  rcases List.mem_append.mp h with h | h
  ·obtain⟨h1,h2⟩:=zQ h
   exact⟨by omega,fun a ha e=>by obtain⟨k',h3,h4⟩:=h2 a ha e;exact⟨k',h3,sub h4⟩⟩
  ·obtain⟨y,hy,e⟩:=List.mem_map.mp h
   cases e
   have:=(List.mem_filter.mp hy).2
   rw [Bool.and_eq_true] at this
   have hb:=this.2
   rw [Bool.not_eq_true',List.any_eq_false] at hb
   refine⟨by omega,fun a ha e=>?_⟩
   have:=hb a ha
   rw [decide_eq_true e,Bool.and_true,Bool.not_eq_true',Bool.not_eq_false] at this
   obtain⟨k',hk'⟩:=Option.isSome_iff_exists.mp this
   unfold iT at hk'
   obtain⟨q,hq,rfl⟩:=Option.map_eq_some_iff.mp hk'
   have hm:=List.mem_of_find?_eq_some hq
   have hn:q.1=a.fr:=by simpa using List.find?_some hq
   refine⟨q.2,(zQ (x:=q.1) hm).1,sub ?_⟩
   rw [<-hn]
   exact hm
theorem RJ {ls:List aH} {ps:List PD} {ra:List AA} {rk:List (Str×Nat)} (F:yN ls ps) (era:ra.map (·.1)=gQ ls ps) (erk:rk=dY (ps.map (·.name)) ((jA ra).map (·.1)) (ps.map (·.name)).length) (hl:Fx (ps.map (·.name)) rk=[]):Vg ls ps (fun x=>(iT rk x).getD 0)/\(rk.map (·.1)).Nodup/\∀q∈rk,(∃p∈ps,p.name=q.1)/\iT rk q.1=some q.2:=by
 obtain⟨nd,hin⟩:=zj F.pnd ((jA ra).map (·.1)) (ps.map (·.name)).length
 rw [<-erk] at nd hin
 have get:∀q∈rk,iT rk q.1=some q.2:=fun q hq=>by
  unfold iT
  cases e:rk.find? fun z=>decide (z.1=q.1) with
  | none=>exact absurd (decide_eq_true rfl) (List.find?_eq_none.mp e q hq)
  | some z=>
   have h1:=List.mem_of_find?_eq_some e
   have h2:z.1=q.1:=by simpa using List.find?_some e
   have:∀{l:List (Str×Nat)},(l.map (·.1)).Nodup->∀{a b:Str×Nat},a∈l->b∈l->a.1=b.1->a=b:=fun {l}=>by
    induction l with
    | nil=>intro _ a b ha;cases ha
    | cons c r ih=>
     intro nd a b ha hb e
     rw [List.map_cons,List.nodup_cons] at nd
     rcases List.mem_cons.mp ha with h1 | h1
     ·rcases List.mem_cons.mp hb with h2 | h2
      ·rw [h1,h2]
      ·exact absurd (List.mem_map.mpr ⟨b,h2,by rw [<-e,h1]⟩) nd.1
     ·rcases List.mem_cons.mp hb with h2 | h2
      ·exact absurd (List.mem_map.mpr ⟨a,h1,by rw [e,h2]⟩) nd.1
      ·exact ih nd.2 h1 h2 e
   rw [this nd h1 hq h2]
   rfl
 refine⟨⟨fun a ha h0=>?_⟩,nd,fun q hq=>⟨?_,get q hq⟩⟩
 ·have hto:∃p∈ps,p.name=a.to:=by
   unfold gQ at ha
   rcases List.mem_append.mp ha with h | h
   ·obtain⟨l,hl,h⟩:=List.mem_flatMap.mp h
    obtain⟨q1,hq1,hx1⟩:=List.mem_flatMap.mp (F.whole.outs.mem_iff.mpr (List.mem_map.mpr ⟨l,hl,rfl⟩))
    obtain⟨q2,hq2,hx2⟩:=List.mem_flatMap.mp (F.whole.ins.mem_iff.mpr (List.mem_map.mpr ⟨l,hl,rfl⟩))
    unfold wA at h
    simp only [List.mem_cons,List.not_mem_nil,or_false] at h
    rcases h with h | h <;> rw [h]
    ·exact⟨q2,hq2,((jj F F.whole.ins hq2 hl).mp hx2).symm⟩
    ·exact⟨q1,hq1,((jj F F.whole.outs hq1 hl).mp hx1).symm⟩
   ·obtain⟨p,hp,rfl⟩:=List.mem_map.mp h
    exact⟨p,hp,rfl⟩
  obtain⟨p,hp,ep⟩:=hto
  have hs:(iT rk a.to).isSome=true:=by
   cases e:(iT rk a.to).isSome with
   | true=>rfl
   | false=>
    have:a.to∈Fx (ps.map (·.name)) rk:=List.mem_filter.mpr ⟨List.mem_map.mpr ⟨p,hp,ep⟩,by rw [e];rfl⟩
    rw [hl] at this
    cases this
  obtain⟨k,hk⟩:=Option.isSome_iff_exists.mp hs
  have hm:(a.to,k)∈rk:=by
   have:=hk
   unfold iT at this
   obtain⟨q,hq,rfl⟩:=Option.map_eq_some_iff.mp this
   have hn:q.1=a.to:=by simpa using List.find?_some hq
   rw [<-hn]
   exact List.mem_of_find?_eq_some hq
  rw [erk] at hm
  obtain⟨q,hq,eq⟩:=List.mem_map.mp (show a∈ra.map (·.1) by rw [era];exact ha)
  obtain⟨k',h1,h2⟩:=(zQ hm).2 a (List.mem_map.mpr ⟨q,List.mem_filter.mpr ⟨hq,by rw [eq,h0];exact decide_eq_true rfl⟩,eq⟩) rfl
  rw [<-erk] at h2
  rw [hk,get _ h2]
  exact h1
 ·obtain⟨p,hp,e⟩:=List.mem_map.mp (hin q.1 (List.mem_map.mpr ⟨q,hq,rfl⟩))
  exact⟨p,hp,e⟩
theorem J6 {f:Str->Option Str}:∀{r:List Str} {z:Str},Rg.Way f r->(∀a,r.getLast?=some a->f a=some z)->∀y∈r,f y=some z∨∃x∈r,f y=some x
 | [a],z,_,h,y,hy=>by rw [List.mem_singleton.mp hy];exact .inl (h a rfl)
 | a:: b:: r,z,w,h,y,hy=>by
  rcases List.mem_cons.mp hy with e | e
  ·rw [e];exact .inr ⟨b,List.mem_cons_of_mem _ List.mem_cons_self,w.1⟩
  ·rcases J6 (r:=b:: r) w.2 (fun a' e'=>h a' (by rw [List.getLast?_cons_cons];exact e')) y e with h1 | ⟨x,hx,h1⟩
   ·exact .inl h1
   ·exact .inr ⟨x,List.mem_cons_of_mem _ hx,h1⟩
theorem Pq {ls:List aH} {ps:List PD} {ra:List AA} {ns:List Str} {r:List Str} (era:ra.map (·.1)=gQ ls ps) (hr:Rg.Round (fI (kY ns (jA ra))) r):(∀x∈r,∃a∈gQ ls ps,a.tk=0/\a.to=x/\a.fr∈r)/\∀q∈r.reverse.filterMap (iT (kY ns (jA ra))),q.1.fr∈r:=by
 have inn:∀y∈r,∃x∈r,fI (kY ns (jA ra)) y=some x:=fun y hy=>by
  cases r with
  | nil=>cases hy
  | cons z r'=>
   rcases J6 hr.way (fun a e=>hr.shut a z e rfl) y hy with h | h
   ·exact⟨z,List.mem_cons_self,h⟩
   ·exact h
 have ok:=(BK ns (jA ra)).1
 refine⟨fun x hx=>?_,fun q hq=>?_⟩
 ·obtain⟨y,hy,e⟩:=inn x hx
  unfold fI at e
  obtain⟨q,hq,eq⟩:=Option.map_eq_some_iff.mp e
  unfold iT at hq
  obtain⟨e1,he1,rfl⟩:=Option.map_eq_some_iff.mp hq
  have hn:e1.1=x:=by simpa using List.find?_some he1
  obtain⟨o1,o2⟩:=ok.ok e1 (List.mem_of_find?_eq_some he1)
  obtain⟨o3,o4⟩:=List.mem_filter.mp o1
  refine⟨e1.2.1,by rw [<-era];exact List.mem_map.mpr ⟨_,o3,rfl⟩,?_,by rw [o2,hn],by rw [eq];exact hy⟩
  have:=of_decide_eq_true o4
  injection this
 ·obtain⟨y,hy,e⟩:=List.mem_filterMap.mp hq
  obtain⟨x,hx,e2⟩:=inn y (List.mem_reverse.mp hy)
  unfold fI at e2
  rw [e] at e2
  rw [show q.1.fr=x from Option.some.inj e2]
  exact hx
theorem u0 {E:List Addr} {H H':Hp} (s:aM H H'):aM (bf E H) (bf E H'):=fun b o e=>by
 have hb:b∉E:=fun z=>by unfold bf at e;rw [if_pos z] at e;cases e
 exact cQ (s _ _ (bY _ _ e)) hb
theorem qX.same {H H':Hp} {r:Addr} {n:Nat} {A:qF} {ls:List aH} {ps:List PD} {S:FS} (h:qX K t H r n A ls ps S) (s:aM H H'):qX K t H' r n A ls ps S:=⟨h.run.same s,h.net.same (u0 s),h.flow.same s,h.ne⟩
theorem qX.out {H:Hp} {r:Addr} {n:Nat} {A:qF} {ls:List aH} {ps:List PD} {S:FS} (h:qX K t H r n A ls ps S) {a:Addr} (ha:H a=none):a∉r:: A.cells ls ps:=fun z=>by
 rcases List.mem_cons.mp z with rfl | z
 ·obtain⟨_,_,h1,_⟩:=h.run
  rw [ha] at h1
  cases h1.1
 ·exact h.flow.cell ha z
theorem QQ {H:Hp} {Q:VK} {Ex:XK} {H0:Hp} {r dx n rw:Addr} {ls:List aH} {ps:List PD} {RW:List (Str×Addr×List Int)} (hr:H r=some (.ins t.oO dx [])) (s0:aM H0 H) (nr:H0 r=none) (N:gH K t H0 n ls ps) (hrw:mz H0 rw RW) (hO:Im ps RW)
  (k:∀(H':Hp) (A:qF),A.n=n->aM H0 H'->qX K t H' r 0 A ls ps (il ls ps RW)->(∀a∈A.cells ls ps,H0 a=none)->Q .non H'):gM K t [.ref r,.ref n,.ref rw] H Q Ex:=by
 unfold gM
 exact⟨H0,r,dx,n,rw,ls,ps,RW,rfl,hr,s0,nr,N,hrw,hO,k⟩
theorem Tj {H:Hp} {Q:VK} {Ex:XK} {b n:Nat} {r L:Addr} {A:qF} {ls:List aH} {ps:List PD} {S:FS} {xs:List Str} (R:qX K t H r n A ls ps S) (O:PX b ls ps S) (hb:b<=90000) (hn:n<=900) (hL:bJ K H L (xs.map V.str)) (nL:L∉A.cells ls ps) (hx:∀x∈xs,V.str x∈dN ps "give" ++ dN ps "take")
  (k:∀H' p,aM (bf (r:: A.cells ls ps) H) (bf (r:: A.cells ls ps) H')->qX K t H' r (n+1) A ls ps (jD ls ps S xs)->H p=none->H' p=some (.lst ((mQ ls ps S xs).map fun w=>V.str w.1.name))->Q (.ref p) H'):lF K t [.ref r,.ref L] H Q Ex:=by
 unfold lF
 exact⟨b,r,n,A,ls,ps,S,L,xs,rfl,R,O,hb,hn,hL,nL,hx,k⟩
theorem qX.cut {H:Hp} {r:Addr} {n:Nat} {A:qF} {ls:List aH} {ps:List PD} {S:FS} {E:List Addr} (h:qX K t H r n A ls ps S) (hr:r∉E) (hf:A.f∉E) (hc:∀a∈A.cells ls ps,a∉E) (hn:gH K t (bf (r:: A.cells ls ps) (bf E H)) A.n ls ps):qX K t (bf E H) r n A ls ps S:=by
 obtain⟨⟨dx,fs,⟨h1,h2⟩,h3⟩,_,W,ne⟩:=h
 have me:=W.nod
 have c:=fun a ha=>hc a ha
 refine⟨⟨dx,fs,⟨cQ h1 hr,h2⟩,h3⟩,hn,⟨?_,cQ W.ever (hc _ ?_),fun l hl=>cQ (W.lists l hl) (hc _ ?_),cQ W.gone (hc _ ?_),cQ W.kept (hc _ ?_),cQ W.done (hc _ ?_),cQ W.rows (hc _ ?_),fun p hp h0=>cQ (W.rlst p hp h0) (hc _ ?_),W.nod⟩,ne⟩
 ·obtain⟨dx,fs,e1,e2⟩:=W.at'
  exact⟨dx,fs,cQ e1 hf,e2⟩
 all_goals unfold qF.cells;simp only [List.mem_cons,List.mem_append,List.mem_map,true_or,or_true]
 ·exact .inr (.inr (.inr (.inr (.inr (.inl ⟨l,hl,rfl⟩)))))
 ·exact .inr (.inr (.inr (.inr (.inr (.inr ⟨p,List.mem_filter.mpr ⟨hp,by simp [h0]⟩,rfl⟩)))))
theorem Qv {E E':List Addr} {H:Hp}:bf E (bf E' H)=bf E' (bf E H):=by
 funext b
 unfold bf
 by_cases h1:b∈E <;> by_cases h2:b∈E' <;> simp [h1,h2]
theorem Fz {ls:List aH} {ps:List PD}:∀(xss:List (List Str)) (S:FS) (xs:List Str),oY ls ps S (xss ++ [xs])=oY ls ps S xss ++ [(mQ ls ps (xss.foldl (jD ls ps) S) xs).map fun w=>w.1.name]
 | [],_,_=>rfl
 | y:: r,S,xs=>by
  show _:: oY ls ps _ (r ++ [xs])=_:: (_ ++ _)
  rw [Fz r]
  rfl
theorem Dm {a:Addr} {E:List Addr} {H:Hp}:bf (a:: E) H=bf [a] (bf E H):=by
 funext b
 unfold bf
 by_cases h1:b=a <;> by_cases h2:b∈E <;> simp [h1,h2]
theorem qX.put {H:Hp} {r L:Addr} {n:Nat} {A:qF} {ls:List aH} {ps:List PD} {S:FS} {o:HO} (h:qX K t H r n A ls ps S) (hL:L∉r:: A.cells ls ps) (hf:A.f≠L) (hn:gH K t (bf (L:: r:: A.cells ls ps) H) A.n ls ps):qX K t (upd H L o) r n A ls ps S:=by
 have hc:∀a∈r:: A.cells ls ps,a∉[L]:=fun a ha z=>hL (by rw [<-List.mem_singleton.mp z];exact ha)
 have s:aM (bf [L] H) (upd H L o):=by
  have:=bY (E:=[L]) (H:=upd H L o)
  rwa [dm (by simp)] at this
 refine qX.same (H:=bf [L] H) (h.cut (hc r List.mem_cons_self) (by simpa using hf) (fun a ha=>hc a (List.mem_cons_of_mem _ ha)) ?_) s
 rw [Qv,<-Dm]
 exact hn
theorem uq {α β:Type} {R:α->β->Prop}:∀{l:List α} {m:List β} {a:α} {b:β},Paired R l m->R a b->Paired R (l ++ [a]) (m ++ [b])
 | _,_,_,_,.nil,h=>.cons h .nil
 | _,_,_,_,.cons h t,h2=>.cons h (uq t h2)
theorem dI {α β:Type} {R R':α->β->Prop} (h:∀a b,R a b->R' a b):∀{l:List α} {m:List β},Paired R l m->Paired R' l m
 | _,_,.nil=>.nil
 | _,_,.cons h1 t=>.cons (h _ _ h1) (dI h t)
theorem Tq (x:Int):0<=Builtin.bitAnd x 3:=by
 unfold Builtin.bitAnd
 rw [show decide ((0:Int)<=3)=true from rfl]
 cases h:decide (0<=x)
 ·show(0:Int)<=3 - ((3:Int).toNat &&& (Builtin.bitNot x).toNat:Nat)
  have:=Nat.and_le_left (n:=(3:Int).toNat) (m:=(Builtin.bitNot x).toNat)
  have e:(3:Int).toNat=3:=rfl
  omega
 ·exact Int.natCast_nonneg _
inductive ue (K:PySem.W.Frag) (t:jw) (vs:List V) (H:Hp) (Q:VK) (E:XK):Prop where
 | mk:∀(n D Ld Lc:Addr) (ls:List aH) (ps:List PD) (RW:List (Str×Addr×List Int)) (ds:List Str) (cs:List Int) (b:Nat),vs=[.ref n,.ref D,.ref Ld,.ref Lc,.int (b:Nat)]->gH K t H n ls ps->mz H D RW->Im ps RW->bJ K H Ld (ds.map V.str)->ds.length<=16->((∀x∈ds,V.str x∈dN ps "give" ++ dN ps "take"))->bJ K H Lc (cs.map V.int)->cs.length<=57->(∀(H':Hp) (L:Addr) (us:List Addr) (xss:List (List Str)),aM H H'->H L=none->H' L=some (.lst (us.map V.ref))->Paired (fun u w=>H' u=some (.lst (w.map V.str))) us (oY ls ps (il ls ps RW) xss)->xss.length=cs.length->(b=0->∀xs∈xss,xs=[])->Q (.ref L) H')->ue K t vs H Q E
noncomputable abbrev vU:List Str:=["_law_net_here", "_law_rows", "_law_doors", "_law_cells", "_law_often", "_law_run", "_law_told", "_law_cell_here", "_law_held"]
theorem tQ (T:Txt w K mg t):FO P w K mg base 8 t.vJ ["_law_net_here", "_law_rows", "_law_doors", "_law_cells", "_law_often"] (ue K t):=by
 have sc:=T.j0.sc vU
 refine T.j0.F.ok sc ln (fun _ _ _ _ H vs Q E hr h=>?_)
 obtain⟨n,D,Ld,Lc,ls,ps,RW,ds,cs,b,rfl,N,hR,hO,hLd,ld,hds,hLc,lc,k⟩:=h
 refine⟨_,(au (sN sc 5 (gY (T.eG.M T.jE) (Bb T) (hr.mono (by decide)) (by rfl) T.eG.m T.jE.b .nil gK (aa (pv 0) (aa (pv 1) ak aj) aj)))
  (au (sN sc 6 (bu ak))
  (au (dw PassesOwn.never rfl (bM (pv 3)) (gN sc 7)
   (au (Jy (i:=8) ["_law_k", "_law_name"] [4,7] vU (aR (top 86)) rfl sc.nd rfl (Ua rfl T.Kc (aa (pv 2) ak aj)) (fun _ _ _ _ _=>Iv (K:=K) (n:=2) rfl rfl (d8 (pB (i:=0) (show(["_law_k", "_law_name", "_law_often", "_law_cell_here"]:List Str).Nodup by decide +kernel) rfl (Or.inl rfl) (.inr rfl)) (d8 (pB (i:=1) (show(["_law_k", "_law_name", "_law_often", "_law_cell_here"]:List Str).Nodup by decide +kernel) rfl (Or.inl rfl) (.inr rfl)) pR))) (fun _ _ _ _ _=>(lX (bc tX (bC WR (bC Wt (pv 3) (bC mO az (pv 0))) az) (pv 2) (bL _)))) (fun _ _ _ _ _=>(pv 1)))
   (aA (bH (IV (pv 6) (aa (MJ (pv 5) T.eG.c (T.wC.me T.eG.me.2.2.2.2.1) (Js T) (hr.mono (by decide)) T.wC.b .nil gK (aa (pv 8) ak aj)) ak aZ))))))
  (aA (aO (pv 6)))))),?_⟩
 have hz:sizeLine=16777216:=sizeLine_eq
 have F:yN ls ps:=by obtain⟨_,_,_,_,_,_,_,_,_,Wn⟩:=N;exact Wn.fit
 refine⟨_,rfl,_,rfl,fun r dxr nr ndr ner=>?_⟩
 have gr:aM H (upd (upd H dxr (.own r)) r (.ins t.oO dxr [])):=fun b o e=>by rw [aK (aD e nr),aK (aD e ndr)];exact e
 refine QQ aq gr nr N hR hO fun H6 Z eZ s6 R6 fr6=>⟨rfl,?_⟩
 subst eZ
 refine⟨je,fun L nL=>?_⟩
 have O6:=Pn F hR.len hO.bnd
 obtain⟨S0,hS0⟩:∃S0,S0=il ls ps RW:=⟨_,rfl⟩
 rw [<-hS0] at R6 O6 k
 obtain⟨E,hE⟩:∃E,E=r:: Z.cells ls ps:=⟨_,rfl⟩
 have LE:L∉E:=by rw [hE];exact R6.out nL
 have fL:Z.f≠L:=fun z=>by obtain⟨dx,fs,e1,_⟩:=R6.flow.at';rw [z,nL] at e1;cases e1
 have eE:∀a∈L:: E,H a=none:=fun a ha=>by
  rw [hE] at ha
  rcases List.mem_cons.mp ha with rfl | ha
  ·exact s6.free nL
  rcases List.mem_cons.mp ha with rfl | h
  ·exact nr
  ·exact fr6 a h
 have t7:=aB (o:=.lst []) nL
 have sE:∀{H':Hp},aM H H'->aM H (bf (L:: E) H'):=fun s b o e=>cQ (s _ _ e) fun z=>by rw [eE b z] at e;cases e
 have R7:=R6.same t7
 have eL7:upd H6 L (.lst []) L=some (.lst []):=aq
 have s07:=sE (s6.trans t7)
 have nL0:=s6.free nL
 generalize upd H6 L (.lst [])=H7 at R7 eL7 s07 ⊢
 clear t7 nL R6 s6 fr6 gr ner ndr
 refine⟨_,rfl,Lc,rfl,⟨_,(s07.trans bY).seq hLc⟩,dH (K:=K) (a:=Lc) (xs:=cs.map V.int) (fun j σ H'=>∃S xss us,(∃v7 v8,σ=[some (.ref Z.n),some (.ref D),some (.ref Ld),some (.ref Lc),some (.int (b:Nat)),some (.ref r),some (.ref L),v7,v8])/\qX K t H' r j Z ls ps S/\aM H (bf (L:: E) H')/\H' L=some (.lst (us.map V.ref))/\Paired (fun u (w:List Str)=>bf (L:: E) H' u=some (.lst (w.map V.str))) us (oY ls ps S0 xss)/\xss.length=j/\S=xss.foldl (jD ls ps) S0/\PX (199+32 * j) ls ps S/\(b=0->∀xs∈xss,xs=[])) ⟨S0,[],[],⟨none,none,rfl⟩,R7,s07,eL7,.nil,rfl,rfl,O6,by simp⟩ (fun j σ H' _ ⟨_,_,_,_,_,s,_⟩=>(s.trans bY).seq hLc) ?_ ?_⟩
 ·rintro j x σ H8 hx ⟨S,xss,us,⟨v7,v8,rfl⟩,R8,s8,eL8,pu,lx,eS,O,hb⟩
  rw [List.getElem?_map] at hx
  obtain⟨c,hc,rfl⟩:=Option.map_eq_some_iff.mp hx
  have hj:j <cs.length:=(List.getElem?_eq_some_iff.mp hc).1
  have hLd8:=(s8.trans bY).seq hLd
  refine⟨_,rfl,Ld,rfl,⟨_,hLd8⟩,KN (K:=K) (a:=Ld) (xs:=ds.map V.str) (fun i ys H'=>aM H8 H'/\ys.length<=i/\∃xs:List Str,ys=xs.map V.str/\(∀x∈xs,x∈ds)/\(b=0->xs=[])) (by rw [lM];omega) ⟨aM.refl _,Nat.le_refl _,[],rfl,by simp,fun _=>rfl⟩ (fun i ys H' h=>h.2.1) (fun i ys H' _ h=>h.1.seq hLd8) ?_ ?_⟩
  ·rintro i x ys H' p hx ⟨s1,ly,xs,rfl,hx2,hx0⟩ np
   rw [List.getElem?_map] at hx
   obtain⟨y,hy,rfl⟩:=Option.map_eq_some_iff.mp hx
   have t1:=aB (o:=.tup [.int (i:Nat),.str y]) np
   refine⟨p,_,rfl,fu.of aq,rfl,_,_,rfl,_,_,rfl,rfl,rfl,?_⟩
   refine⟨_,rfl,_,rfl,_,_,rfl,rfl,lC,_,_,rfl,rfl,by show(0:Int)<=2 * (i:Int);omega,_,_,rfl,rfl,_,rfl,_,_,rfl,rfl,_,rfl,jH (fun hlt=>⟨_,rfl,s1.trans t1,by rw [lP];simp;simpa using ly,xs ++ [y],by simp,fun x hx=>?_,fun b0=>?_⟩) (fun _=>⟨s1.trans t1,Nat.le_succ_of_le ly,xs,rfl,hx2,hx0⟩)⟩
   ·rcases List.mem_append.mp hx with h | h
    ·exact hx2 x h
    ·rw [List.mem_singleton] at h
     rw [h]
     exact List.mem_of_getElem? hy
   ·have h1:=of_decide_eq_true hlt
    have h2:=Tq (c / 2 ^ (2 * (i:Int)).toNat)
    rw [b0] at h1
    exact absurd h1 (by show ¬_ <((0:Nat):Int);omega)
  rintro ys H9 ⟨s9,_,xs,rfl,hxs,hx0⟩ p9 np9
  have t9:=aB (o:=.lst (xs.map V.str)) np9
  have s89:=s9.trans t9
  have e9:upd H9 p9 (.lst (xs.map V.str)) p9=some (.lst (xs.map V.str)):=aq
  have n9:p9∉Z.cells ls ps:=fun z=>(R8.same s9).out np9 (.tail _ z)
  generalize upd H9 p9 (.lst (xs.map V.str))=H10 at s89 e9 ⊢
  have R10:=R8.same s89
  obtain⟨dxr',fsr,Rr⟩:=id R10.run
  have eL10:=s89 _ _ eL8
  have lus:us.length=j:=by have:us.length=_:=Paired.length pu;rw [this,uJ,lx]
  refine⟨_,rfl,.inl ⟨rfl,_,bJ.of eL10⟩,_,rfl,r,dxr',fsr,rfl,Rr.1.1,Rr.2.no _ (by decide +kernel),_,rfl,Tj R10 O (by omega) (by omega) (bJ.of e9) n9 (fun x hx=>hds x (hxs x hx)) fun H11 p11 c11 R11 np11 ep11=>?_⟩
  have c11':aM (bf (L:: E) H10) (bf (L:: E) H11):=by
   rw [Dm,Dm (H:=H11),hE]
   exact u0 c11
  have eL11:H11 L=some (.lst (us.map V.ref)):=bY _ _ (c11 _ _ (cQ eL10 (by rw [<-hE];exact LE)))
  have s11:=(s8.trans (u0 s89)).trans c11'
  have p11E:p11∉L:: E:=fun z=>by
   rcases List.mem_cons.mp z with rfl | z
   ·rw [eL10] at np11;cases np11
   ·rw [hE] at z;exact R10.out np11 z
  have em:((mQ ls ps S xs).map fun w=>V.str w.1.name)=((mQ ls ps S xs).map fun w=>w.1.name).map V.str:=by rw [List.map_map];rfl
  rw [em] at ep11
  refine⟨L,_,.ref p11,rfl,rfl,eL11,by rw [lM];omega,jD ls ps S xs,xss ++ [xs],us ++ [p11],⟨_,_,rfl⟩,R11.put (by rw [<-hE];exact LE) fL (N.same (by rw [<-hE];exact s11)),by rw [dm (by simp)];exact s11,by rw [aq,List.map_append];rfl,?_,by rw [lP,lx];rfl,by rw [List.foldl_append,<-eS];rfl,by rw [show 199+32 * (j+1)=199+32 * j+32 by omega];exact UT F O xs,fun b0 ys hy=>?_⟩
  ·rw [Fz,<-eS,dm (by simp)]
   exact uq (dI (fun _ _ h=>c11' _ _ (u0 s89 _ _ h)) pu) (cQ ep11 p11E)
  ·rcases List.mem_append.mp hy with h | h
   ·exact hb b0 ys h
   ·rw [List.mem_singleton.mp h];exact hx0 b0
 rintro σ H8 ⟨S,xss,us,⟨v7,v8,rfl⟩,R8,s8,eL8,pu,lx,eS,O,hb⟩
 rw [lM] at lx
 exact⟨_,rfl,k _ L us xss (s8.trans bY) nL0 eL8 (dI (fun _ _ h=>bY _ _ h) pu) lx hb⟩
noncomputable def Bm (RW:List (Str×Addr×List Int)) (x:Str) (a:Addr) (ws:List Int):List (Str×Addr×List Int):=if x∈RW.map (·.1) then RW.map (fun q=>if q.1=x then(x,a,ws) else q) else RW ++ [(x,a,ws)]
theorem Wz (RW:List (Str×Addr×List Int)) (x:Str) (a:Addr) (ws:List Int):kZ (Bm RW x a ws)=putK (kZ RW) (Sum.inr x) (.ref a):=by
 unfold Bm putK
 by_cases h:x∈RW.map (·.1)
 ·rw [if_pos h,if_pos (by
   obtain⟨q,hq,rfl⟩:=List.mem_map.mp h
   exact List.any_eq_true.mpr ⟨_,List.mem_map.mpr ⟨q,hq,rfl⟩,by simp⟩)]
  unfold kZ
  rw [List.map_map,List.map_map]
  refine List.map_congr_left fun q _=>?_
  by_cases e:q.1=x
  ·simp [e]
  ·simp [e]
 ·rw [if_neg h,if_neg (by
   intro z
   obtain⟨kv,hk,e⟩:=List.any_eq_true.mp z
   obtain⟨q,hq,rfl⟩:=List.mem_map.mp hk
   exact h (List.mem_map.mpr ⟨q,hq,by simpa using e⟩))]
  unfold kZ
  rw [List.map_append]
  rfl
theorem J9 {RW:List (Str×Addr×List Int)} {x:Str} {a:Addr} {ws:List Int} {q:Str×Addr×List Int} (h:q∈Bm RW x a ws):q∈RW∨q=(x,a,ws):=by
 unfold Bm at h
 split at h
 ·obtain⟨q',hq,e⟩:=List.mem_map.mp h
  split at e
  ·exact .inr e.symm
  ·exact .inl (by rw [<-e];exact hq)
 ·rcases List.mem_append.mp h with h | h
  ·exact .inl h
  ·exact .inr (List.mem_singleton.mp h)
theorem UW {RW:List (Str×Addr×List Int)} {x:Str} {a:Addr} {ws:List Int} (nd:(RW.map (·.1)).Nodup):((Bm RW x a ws).map (·.1)).Nodup:=by
 unfold Bm
 split
 ·have e:(RW.map (fun q=>if q.1=x then(x,a,ws) else q)).map (·.1)=RW.map (·.1):=by
   rw [List.map_map]
   refine List.map_congr_left fun q _=>?_
   by_cases h:q.1=x
   ·simp [h]
   ·simp [h]
  rw [e]
  exact nd
 ·rename_i h
  rw [List.map_append,List.nodup_append]
  exact⟨nd,by simp,fun b hb c hc z=>h (by simp at hc;rw [<-hc,<-z];exact hb)⟩
theorem Rn (RW:List (Str×Addr×List Int)) (x:Str) (a:Addr) (ws:List Int):(Bm RW x a ws).length<=RW.length+1:=by
 unfold Bm
 split
 ·rw [lM];omega
 ·simp
structure Ac (B H:Hp) (d:Addr) (m:Nat) (G:List V) (RW:List (Str×Addr×List Int)):Prop where
 at':mz H d RW
 bnd:∀q∈RW,∀v∈q.2.2,0<=v/\v <1000000000
 door:∀q∈RW,V.str q.1∈G
 new:∀q∈RW,B q.2.1=none/\q.2.1≠d
 len:∀q∈RW,q.2.2.length<=m
theorem Ac.same {B H H':Hp} {d:Addr} {m:Nat} {G:List V} {RW:List (Str×Addr×List Int)} (h:Ac B H d m G RW) (s:aM H H'):Ac B H' d m G RW:=⟨h.at'.same s,h.bnd,h.door,h.new,h.len⟩
theorem Ac.put {B H:Hp} {d:Addr} {m:Nat} {G:List V} {RW:List (Str×Addr×List Int)} (h:Ac B H d m G RW) {x:Str} {a:Addr} {ws:List Int} (ea:H a=some (.lst (ws.map V.int))) (na:B a=none) (nd:a≠d) (hx:V.str x∈G) (hb:∀v∈ws,0<=v/\v <1000000000) (hl:ws.length<=m) (hm:m<=299):
  Ac B (upd H d (.dK (putK (kZ RW) (Sum.inr x) (.ref a)))) d m G (Bm RW x a ws):=by
 refine⟨⟨by rw [Wz];exact aq,fun q hq=>?_,UW h.at'.nd,fun q hq=>?_⟩,fun q hq=>?_,fun q hq=>?_,fun q hq=>?_,fun q hq=>?_⟩ <;> rcases J9 hq with hq | rfl
 ·rw [aK (h.new q hq).2];exact h.at'.lists q hq
 ·rw [aK nd];exact ea
 ·exact h.at'.len q hq
 ·show ws.length<=300;omega
 ·exact h.bnd q hq
 ·exact hb
 ·exact h.door q hq
 ·exact hx
 ·exact h.new q hq
 ·exact⟨na,nd⟩
 ·exact h.len q hq
 ·exact hl
theorem UL (p:PD) (h:p.kind <11):inV (.str (dh p.kind)) [.str "give",.str "take"]=decide (p.kind <2):=by
 have:∀i,i <11->(decide (dh i= "give") || decide (dh i= "take"))=decide (i <2):=by decide +kernel
 rw [<-this _ h]
 have n1:¬("give" :Str)= "take" :=by decide +kernel
 by_cases h1:dh p.kind= "give"
 ·simp [inV,Ew,h1]
 ·by_cases h2:dh p.kind= "take"
  ·simp [inV,Ew,h2]
  ·simp [inV,Ew,h1,h2,Ne.symm h1,Ne.symm h2]
theorem Calm.odd {ps:List PD} (h:Calm ps):Hg ps=.non:=by
 have key:∀i,i <9->(decide (dh i= "choose") || decide (dh i= "split"))=false:=by decide +kernel
 unfold Hg
 rw [List.find?_eq_none.mpr fun p hp=>by unfold Ia;rw [key _ (h p hp)];exact Bool.false_ne_true]
theorem RN (xs:List V) (g:Nat):xR xs none (some (g:Int))=xs.take g:=by
 unfold xR
 rw [HT.BL,HT.xQ,List.drop_zero,Nat.sub_zero]
 rcases Nat.le_total g xs.length with h | h
 ·rw [Nat.min_eq_left h]
 ·rw [Nat.min_eq_right h,List.take_of_length_le h,List.take_of_length_le (Nat.le_refl _)]
theorem Ue {RW:List (Str×Addr×List Int)} {x:Str} {a:Addr} {ws:List Int} {y:Str} (h:y∈RW.map (·.1)∨y=x):y∈(Bm RW x a ws).map (·.1):=by
 unfold Bm
 by_cases hx:x∈RW.map (·.1)
 ·have hy:y∈RW.map (·.1):=h.elim id fun e=>by rw [e];exact hx
  rw [if_pos hx]
  obtain⟨q,hq,e⟩:=List.mem_map.mp hy
  refine List.mem_map.mpr ⟨_,List.mem_map.mpr ⟨q,hq,rfl⟩,?_⟩
  by_cases hz:q.1=x
  ·rw [if_pos hz,<-e,hz]
  ·rw [if_neg hz,e]
 ·rw [if_neg hx,List.map_append,List.mem_append]
  exact h.imp id fun e=>by rw [e];exact List.mem_singleton.mpr rfl
theorem WN {RW:List (Str×Addr×List Int)} {x:Str} (h:∀q∈RW,q.2.2.length=57) (hx:x∈RW.map (·.1)):(sW RW x).length=57:=by
 unfold sW
 cases e:RW.find? fun q=>decide (q.1=x) with
 | none=>
  obtain⟨q,hq,rfl⟩:=List.mem_map.mp hx
  exact absurd (decide_eq_true rfl) (List.find?_eq_none.mp e q hq)
 | some q=>exact h q (List.mem_of_find?_eq_some e)
theorem Nm {ls:List aH} {ps:List PD}:∀(xss:List (List Str)) (S:FS),∀t∈oY ls ps S xss,∀x∈t,x∈ps.map (·.name)
 | [],_,t,ht=>by cases ht
 | xs:: r,S,t,ht=>by
  rcases List.mem_cons.mp ht with h | h
  ·intro x hx
   rw [h] at hx
   obtain⟨w,hw,rfl⟩:=List.mem_map.mp hx
   exact List.mem_map.mpr ⟨w.1,(p7 hw).1,rfl⟩
  ·exact Nm r _ t h
theorem wV {ls:List aH} {ps:List PD}:∀(xss:List (List Str)) (S:FS),∀t∈oY ls ps S xss,t.length<=ps.length
 | [],_,t,ht=>by cases ht
 | xs:: r,S,t,ht=>by
  rcases List.mem_cons.mp ht with h | h
  ·rw [h,lM]
   exact Nat.le_trans (List.length_filterMap_le _ _) (List.length_filter_le _ _)
  ·exact wV r _ t h
theorem Ku {H:Hp}:∀{us:List Addr} {ws:List (List Str)},Paired (fun u (w:List Str)=>H u=some (.lst (w.map V.str))) us ws->Py K H (us.map V.ref) (ws.map fun w=>.list (w.map PyData.str))
 | _,_,.nil=>.nil
 | _,_,.cons h t=>.cons (rW (bJ.of h)) (Ku t)
theorem Vm {ws:List (List Str)} (h:∀w∈ws,∀x∈w,PyData.strOk x=true):Gd 2 (.list (ws.map fun w=>.list (w.map PyData.str))):=.list fun d hd=>by
 obtain⟨w,hw,rfl⟩:=List.mem_map.mp hd
 exact .list (.strs 0 (h w hw))
theorem wO {α β:Type} {R:α->β->Prop}:∀{l:List α} {m:List β},Paired R l m->∀{i:Nat} {a:α},l[i]?=some a->∃b,m[i]?=some b/\R a b
 | _,_,.cons h _,0,_,e=>by cases e;exact⟨_,rfl,h⟩
 | _,_,.cons _ t,i+1,a,e=>by rw [List.getElem?_cons_succ] at e ⊢;exact wO t e
theorem DP {α β:Type} {R:α->β->Prop}:∀{l l':List α} {m m':List β},Paired R l m->Paired R l' m'->Paired R (l ++ l') (m ++ m')
 | _,_,_,_,.nil,h=>h
 | _,_,_,_,.cons h t,h2=>.cons h (DP t h2)
theorem M4:∀{xss:List (List Str)},(∀xs∈xss,xs=[])->xss=List.replicate xss.length []
 | [],_=>rfl
 | x:: r,h=>by rw [h x List.mem_cons_self];show _:: r=_:: List.replicate r.length [];rw [<-M4 fun y hy=>h y (List.mem_cons_of_mem _ hy)]
inductive Dl (K:PySem.W.Frag) (vs:List V) (H:Hp) (Q:VK) (E:XK):Prop where
 | mk:∀(a:Addr) (ns:List Int),vs=[.ref a]->bJ K H a (ns.map V.int)->ns.length<=63->(∀H',Q (.bl true) H')->Dl K vs H Q E
noncomputable abbrev Gh:List Str:=["_law_script", "_law_lanes", "_law_parts", "_law_rows", "_law_one", "_law_doors", "_law_net_here", "_law_word_here", "_law_told", "_law_free", "_law_held", "_law_resting", "_law_name", "_law_early"]
theorem Wg (T:Txt w K mg t):FO P w K mg base 9 t.Vn ["_law_script"] (Dl K):=by
 have sc:=T.Nh.sc Gh
 refine T.Nh.F.ok sc ln (fun _ _ _ _ H vs Q E hr h=>?_)
 obtain⟨a,ns,rfl,hS,hl,k⟩:=h
 refine⟨_,(au (Qw (d7 (Jq T) T.wW hr (aa (pv 0) (aa az (aa az (aa mD ak ao) ao) ao) aj)) (zJ rfl (d8 (gN sc 1) (d8 (gN sc 2) pR))))
  (au (sN sc 3 fJ)
  (au (dw PassesOwn.never rfl (bM (pv 2)) (gN sc 4)
   (aA (gW (bQ (bc iG (aV cP (pv 4) az (fun _ _=>rfl)) bI (bL _))
    (aA (fU hr.u1 (pv 3) (aV cP (pv 4) az (fun _ _=>rfl)) (eU [0] Gh (aR (top 87)) rfl (jm rfl T.mU (aa az ak ao)) (fun _ _ _ _ _=>iM) (fun _ _ _ _ _=>(d7 (jf T) T.gB hr (aa (d7 (mW T) T.jn hr (aa (pv 1) (aa az ak ao) aj)) (aa (bC d9 az (pv 0)) ak bT) aZ)))) rfl))
    bD))))
  (au (iD (i:=5) [] Gh (aR (top 87)) rfl sc.nd rfl (bM (pv 2)) (fun _ _ _ _ _=>(lX (bc (wH (K:=K) rfl) (aV (m5 (K:=K) rfl) (pv 0) az (fun _ _=>rfl)) (bW (aa bI (aa bI ak ao) ao)) (by with_unfolding_all rfl)))) (fun _ _ _ _ _=>(aV (m5 (K:=K) rfl) (pv 0) az (fun _ _=>rfl))))
  (au (sN sc 6 (gY (T.aQ.M T.jC) (Bj T) (hr.mono (by decide)) (by rfl) T.aQ.m T.jC.b .nil gK (aa (pv 1) (aa (pv 2) ak aj) aj)))
  (au (Qw (d7 (zf T) T.lZ hr (aa (pv 6) ak aj)) (zJ rfl (d8 (gN sc 7) (d8 (gN sc 8) pR))))
  (au (sN sc 9 (d7 (tQ T) T.j0 hr (aa (pv 6) (aa (pv 3) (aa (pv 5) (aa (lK uW (pv 0) (kJ az) (kJ az)) (aa az ak ao) aF) aj) aj) aj)))
  (au (sN sc 10 (d7 (tQ T) T.j0 hr (aa (pv 6) (aa (pv 3) (aa (pv 5) (aa (lK uW (pv 0) (kJ az) (kJ az)) (aa az ak ao) aF) aj) aj) aj)))
  (au (bQ (bc iG (pv 7) bI (bL _))
   (au (sN sc 11 (eU [] Gh (aR (top 87)) rfl (bM (pv 8)) (fun _ _ _ _ _=>iM) (fun _ _ _ _ _=>(aV (m5 (K:=K) rfl) (pv 0) az (fun _ _=>rfl)))))
   (aA (aO (u9 (QS hr.units) (eU [11] Gh (aR (top 87)) rfl (bM (bC Jf (pv 9) (pv 10))) (fun _ _ _ _ _=>(lX (bc (TV (K:=K) rfl hr.units) (eU [1] ["_law_turn", "_law_resting"] ⟨.function,[(".0",.local),("_law_turn",.local),("_law_resting",.cell)],false,false,[]⟩ rfl (Ra (K:=K) rfl (pv 0)) (fun _ _ _ _ _=>(lX (bc (wH (K:=K) rfl) (pv 0) (pv 1) (by with_unfolding_all rfl)))) (fun _ _ _ _ _=>(pv 0))) (bu ak) (bL _)))) (fun _ _ _ _ _=>(pv 0))) (bu ak) (bL _)))))
   bD)
  (au (bQ (PW.pt (xn (bc JS (pv 7) bI (bL _)) (qY (bc (Wo hr.u100) (bu ak) (pv 9) (by with_unfolding_all rfl)))))
   (aA (aO mD))
   bD)
  (au (nW (H0:=H) rfl (dw PassesOwn.never rfl (pM (pv 8)) (gN sc 12)
   (au (iD (i:=13) [12] Gh (aR (top 87)) rfl sc.nd rfl (bM (lK uW (pv 9) vy (kJ (bC d9 (cB hr.u1 (pv 8) (pv 12) (fun _ _=>rfl)) az)))) (fun _ _ _ _ _=>(lX (bc (wH (K:=K) rfl) (pv 1) (pv 0) (by with_unfolding_all rfl)))) (fun _ _ _ _ _=>(pv 0)))
   (aA (bQ (PW.pt (uF (bc tX (cB hr.u1 (pv 8) (pv 12) (fun _ _=>rfl)) (bz bO (by rfl) T.fH dB (aa (pv 9) ak aj)) (bL _)) (rR (bc (QS hr.units) (pv 13) (bu ak) (bL _)))))
    (aA (MK (H0:=H) rfl (aO mD)))
    bD)))))
  (aA (aO mD))))))))))))),?_⟩
 have hz:sizeLine=16777216:=sizeLine_eq
 refine⟨_,rfl,a,ns,0,4,rfl,hS,by omega,fun T' L P ls ps H1 s1 nL nP nLP eT A D=>?_⟩
 refine⟨T',_,rfl,fu.of eT,rfl,_,_,rfl,_,_,rfl,rfl,?_⟩
 have F:=D.fit
 have C:=D.calm
 have ho:=C.odd
 have p16:=F.p16
 clear eT nL nP nLP D
 obtain⟨_,⟨ys,eP,aP⟩⟩:=id A
 have yl:=aP.length
 have hS1:=s1.seq hS
 clear hS
 refine fun d nd=>?_
 have t1:=aB (o:=.dK []) nd
 have ed:upd H1 d (.dK []) d=some (.dK []):=aq
 generalize upd H1 d (.dK [])=H2 at t1 ed ⊢
 have upB:∀{H':Hp} {o:HO},aM H1 H'->aM H1 (upd H' d o):=fun s b o e=>by rw [aK (aD e nd)];exact s b o e
 refine⟨_,rfl,P,rfl,⟨_,bJ.of (t1 _ _ eP)⟩,dH (K:=K) (a:=P) (xs:=ys) (fun j σ H'=>(∃v4,σ=[some (.ref a),some (.ref L),some (.ref P),some (.ref d),v4,none,none,none,none,none,none,none,none,none])/\aM H1 H'/\∃RW,Ac H1 H' d 57 (dN ps "give") RW/\(∀q∈RW,q.2.2.length=57)/\(∀p∈ps.take j,p.kind=0->p.name∈RW.map (·.1))/\RW.length<=j) ⟨⟨none,rfl⟩,t1,[],⟨⟨ed,by simp,by simp,by simp⟩,by simp,by simp,by simp,by simp⟩,by simp,by simp,Nat.le_refl _⟩ (fun j σ H' _ h=>bJ.of (h.2.1 _ _ eP)) ?_ ?_⟩
 ·rintro j x σ H3 hx ⟨⟨w4,rfl⟩,s3,RW,hR,h57,hin,lR⟩
  obtain⟨p,hpj,q,a1,a2,a3,rfl,hq,_⟩:=aP.get hx
  have hj:=(List.getElem?_eq_some_iff.mp hx).1
  have hq3:=s3 _ _ hq
  refine⟨fun σ H'=>(∃v4,σ=[some (.ref a),some (.ref L),some (.ref P),some (.ref d),v4,none,none,none,none,none,none,none,none,none])/\aM H1 H'/\∃RW,Ac H1 H' d 57 (dN ps "give") RW/\(∀q∈RW,q.2.2.length=57)/\(∀p∈ps.take (j+1),p.kind=0->p.name∈RW.map (·.1))/\RW.length<=j+1,?_,fun _ _ h=>h⟩
  have tk:∀p'∈ps.take (j+1),p'∈ps.take j∨p'=p:=fun p' hp'=>by
   rw [List.take_succ,hpj,Option.toList_some] at hp'
   exact(List.mem_append.mp hp').imp id List.mem_singleton.mp
  refine⟨_,rfl,q,_,0,_,rfl,rfl,fu.of hq3,aN (j:=0) rfl,rfl,_,rfl,jH (fun hg=>?_) (fun hng=>⟨⟨_,rfl⟩,s3,RW,hR,h57,fun p' hp' h0=>(tk p' hp').elim (fun h=>hin p' h h0) fun h=>absurd (decide_eq_true (by rw [<-h,h0];rfl)) hng,by omega⟩)⟩
  have hG:V.str p.name∈dN ps "give" :=List.mem_map.mpr ⟨p,List.mem_filter.mpr ⟨List.mem_of_getElem? hpj,by simpa using of_decide_eq_true hg⟩,rfl⟩
  refine⟨_,rfl,by decide,by decide,?_⟩
  refine nZ (fun i ys H'=>H'=H3/\∃ws:List Int,ys=ws.map V.int/\ws.length=i/\∀v∈ws,0<=v/\v <1000000000) (by omega) ⟨rfl,[],rfl,rfl,by simp⟩ (fun i ys H' ⟨_,ws,e,e2,_⟩=>by rw [e,lM];omega) ?_ ?_
  ·rintro i ys H' hi ⟨rfl,ws,rfl,hw,hB⟩
   refine yes ⟨_,rfl,a,ns,0,rfl,s3.seq hS1,_,rfl,_,_,rfl,rfl,_,_,rfl,rfl,ws ++ [qd (lD ns 0) (200+(0+(i:Int)))],by simp,by simp [hw],fun v hv=>?_⟩
   rcases List.mem_append.mp hv with hv | hv
   ·exact hB v hv
   ·rw [List.mem_singleton] at hv
    subst hv
    exact qP _ _
  rintro ys H' ⟨rfl,ws,rfl,hw,hB⟩ u nu
  have t3:=aB (o:=.lst (ws.map V.int)) nu
  have eu:upd H' u (.lst (ws.map V.int)) u=some (.lst (ws.map V.int)):=aq
  have nud:u≠d:=fun z=>by rw [z,hR.at'.dict] at nu;cases nu
  have nuH:=s3.free nu
  have hR5:=hR.same t3
  have hw:ws.length=57:=hw
  refine⟨_,rfl,_,rfl,q,_,1,_,rfl,rfl,fu.of (t3 _ _ hq3),aN (j:=1) rfl,d,_,rfl,pq.k (k:=Sum.inr p.name) hR5.at'.dict (by unfold kZ;rw [lM];omega),⟨_,rfl⟩,upB (s3.trans t3),Bm RW p.name u ws,hR5.put eu nuH nud hG hB (by omega) (by decide),fun z hz=>?_,fun p' hp' h0=>Ue ((tk p' hp').imp (fun h=>hin p' h h0) fun h=>by rw [h]),?_⟩
  ·rcases J9 hz with h | rfl
   ·exact h57 z h
   ·exact hw
  ·have:=Rn RW p.name u ws
   omega
 rintro σ H3 ⟨⟨w4,rfl⟩,s3,RW,hR,h57,hin,_⟩
 rw [yl,List.take_length] at hin
 have r57:∀p∈ps,p.kind=0->((il ls ps RW).r p.name).length=57:=fun p hp h0=>WN h57 (hin p hp h0)
 have eP3:=s3 _ _ eP
 refine⟨_,rfl,P,rfl,⟨_,bJ.of eP3⟩,dC (K:=K) (a:=P) (xs:=ys) (fun j ys H'=>aM H3 H'/\ys=((ps.take j).filter fun p=>decide (p.kind <2)).map fun p=>V.str p.name) (by omega) ⟨aM.refl _,rfl⟩ (fun j ys H' h=>by rw [h.2,lM];exact Nat.le_trans (List.length_filter_le _ _) (by rw [List.length_take];omega)) (fun j ys H' _ h=>h.1.seq (bJ.of eP3)) ?_ ?_⟩
 ·rintro j x ys H9 hx ⟨s9,rfl⟩
  obtain⟨p,hpj,q,a1,a2,a3,rfl,hq,_⟩:=aP.get hx
  have hq9:=s9 _ _ (s3 _ _ hq)
  refine⟨_,rfl,q,_,0,_,rfl,rfl,fu.of hq9,aN (j:=0) rfl,je,fun u nu=>⟨u,_,rfl,.inr (fu.of aq),rfl,by simp [jO],_,rfl,?_⟩⟩
  have t9:=aB (o:=.tup [.str "give",.str "take"]) nu
  rw [UL p (F.pok p (List.mem_of_getElem? hpj)).1,List.take_succ,hpj,Option.toList_some,List.filter_append,List.map_append,List.filter_cons]
  by_cases h2:p.kind <2
  ·rw [decide_eq_true h2]
   exact iW ⟨_,rfl,q,_,1,_,rfl,rfl,fu.of (t9 _ _ hq9),aN (j:=1) rfl,s9.trans t9,rfl⟩
  ·rw [decide_eq_false h2]
   exact cZ ⟨s9.trans t9,by simp⟩
 rintro zs H4 ⟨s4,rfl⟩ Ld nLd
 rw [yl,List.take_length]
 obtain⟨ds,hds⟩:∃ds:List Str,ds=(ps.filter fun p=>decide (p.kind <2)).map fun p=>p.name:=⟨_,rfl⟩
 have lds:ds.length<=16:=by rw [hds,lM];exact Nat.le_trans (List.length_filter_le _ _) p16
 have dds:∀x∈ds,V.str x∈dN ps "give" ++ dN ps "take" :=fun x hx=>by
  rw [hds] at hx
  obtain⟨p,hp,rfl⟩:=List.mem_map.mp hx
  obtain⟨hp,h2⟩:=List.mem_filter.mp hp
  have h2:=of_decide_eq_true h2
  refine List.mem_append.mpr ?_
  have:p.kind=0∨p.kind=1:=by omega
  rcases this with h | h
  ·exact .inl (List.mem_map.mpr ⟨p,List.mem_filter.mpr ⟨hp,by rw [h];rfl⟩,rfl⟩)
  ·exact .inr (List.mem_map.mpr ⟨p,List.mem_filter.mpr ⟨hp,by rw [h];rfl⟩,rfl⟩)
 have mds:((ps.filter fun p=>decide (p.kind <2)).map fun p=>V.str p.name)=ds.map V.str:=by rw [hds,List.map_map];rfl
 rw [mds]
 clear mds hds
 have t5:=aB (o:=.lst (ds.map V.str)) nLd
 have s5:=(s3.trans s4).trans t5
 have eLd:upd H4 Ld (.lst (ds.map V.str)) Ld=some (.lst (ds.map V.str)):=aq
 have hR5:=(hR.same s4).same t5
 generalize upd H4 Ld (.lst (ds.map V.str))=H5 at s5 eLd hR5 ⊢
 clear t5 s4 nLd hR hin h57 eP3 nd ed upB s3 t1
 refine⟨_,rfl,_,rfl,fun n dxn nn ndn nen=>?_⟩
 have gn:aM H5 (upd (upd H5 dxn (.own n)) n (.ins t.dD dxn [])):=fun b o e=>by rw [aK (aD e nn),aK (aD e ndn)];exact e
 have en:upd (upd H5 dxn (.own n)) n (.ins t.dD dxn []) n=some (.ins t.dD dxn []):=aq
 generalize upd (upd H5 dxn (.own n)) n (.ins t.dD dxn [])=Hn at gn en ⊢
 have hH:Hand K Hn L P ls ps:=by
  obtain⟨⟨x1,x2,x3⟩,⟨y1,y2,y3⟩⟩:=(A.same s5).same gn
  refine⟨⟨x1,bJ.of x2,x3.imp fun _ _ h=>?_⟩,⟨y1,bJ.of y2,y3.imp fun _ _ h=>?_⟩⟩
  ·obtain⟨q,f,e,h1,h2⟩:=h
   exact⟨q,f,e,h1,.inl (bJ.of h2)⟩
  ·obtain⟨q,a1,a2,a3,e,h1,h2,h3,h4⟩:=h
   exact⟨q,a1,a2,a3,e,h1,.inl (bJ.of h2),.inl (bJ.of h3),.inl (bJ.of h4)⟩
 refine⟨n,dxn,L,P,ls,ps,rfl,en,hH,F,fun H6 b6 N6=>⟨rfl,?_⟩⟩
 have s56:aM H5 H6:=fun b o e=>b6 b o (aD e nn) (gn b o e)
 have s16:=s5.trans s56
 have hS6:=s16.seq hS1
 have hR6:=hR5.same s56
 have eLd6:=s56 _ _ eLd
 clear hH gn en b6 s56 nn ndn nen s5 hR5 eLd A hS1
 refine⟨_,rfl,n,ls,ps,rfl,N6,.inl ⟨ho,fun H7 T7 s7 R7=>?_⟩⟩
 obtain⟨ra,rk,lf,era,erk,elf,hc⟩:=R7
 obtain⟨wd,X,eT7,hc⟩:∃wd X,H7 T7=some (.tup [.str wd,.ref X])/\((wd= "ranks" /\lf=[]/\H X=none/\H7 X=some (.dK (qR nG rk)))∨(wd= "ring" /\∃(as:List AA) (R:List Str),qQ H7 X as/\as.length<=64/\(∀q∈as,q.1.fr∈R)/\∀x∈R,∃a∈gQ ls ps,a.tk=0/\a.to=x/\a.fr∈R)):=by
  rcases hc with ⟨h1,D,h2,h3,h4⟩ | ⟨x0,rest,L',H',h1,h2,h3,r,a0,seen,h4,h5,h6,h7,h8⟩
  ·exact⟨_,D,h2,.inl ⟨rfl,h1,(s1.trans s16).free h3,h4⟩⟩
  ·rcases h8 with ⟨_,hr,_⟩ | ⟨_,_,rfl⟩
   ·obtain⟨b1,b2⟩:=Pq era hr
    refine⟨_,L',h2,.inr ⟨rfl,_,r,h5,?_,b2,b1⟩⟩
    have l1:=Rg.uV hr.nd (m:=(gQ ls ps).map (·.to)) fun x hx=>(by obtain⟨a,ha,_,e,_⟩:=b1 x hx;exact List.mem_map.mpr ⟨a,ha,e⟩)
    rw [lM] at l1
    have l2:=BV ls ps F.l24 p16
    have l3:=List.length_filterMap_le (iT (kY lf (jA ra))) r.reverse
    rw [List.length_reverse] at l3
    omega
   ·exact⟨_,L',h2,.inr ⟨rfl,_,[],h5,by simp,by simp,by simp⟩⟩
 refine⟨T7,_,rfl,fu.of eT7,rfl,_,_,rfl,_,_,rfl,rfl,?_⟩
 obtain⟨cs,ecs,lcs⟩:∃cs:List Int,xR (ns.map V.int) (some 6) (some 63)=cs.map V.int/\cs.length<=57:=by
  refine⟨(ns.drop (min 6 ns.length)).take (min 63 ns.length - min 6 ns.length),(PB (ns.map V.int) 6 63).trans ?_,?_⟩
  ·rw [List.map_take,List.map_drop,lM]
  ·rw [List.length_take];omega
 refine⟨_,rfl,_,rfl,_,rfl,_,rfl,_,rfl,_,rfl,a,_,rfl,s7.seq hS6,fun p8 np8=>?_⟩
 rw [ecs]
 have t8:=aB (o:=.lst (cs.map V.int)) np8
 have s78:=s7.trans t8
 refine⟨n,d,Ld,p8,ls,ps,RW,ds,cs,0,rfl,N6.same s78,hR6.at'.same s78,⟨hR6.door,hR6.bnd⟩,bJ.of (s78 _ _ eLd6),lds,dds,bJ.of aq,lcs,fun H9 L9 us9 xs9 s9 nL9 eL9 pu9 lx9 hb9=>?_⟩
 have s79:=t8.trans s9
 have s69:=s7.trans s79
 refine⟨_,rfl,_,rfl,_,rfl,_,rfl,_,rfl,_,rfl,a,_,rfl,s69.seq hS6,fun p10 np10=>?_⟩
 rw [ecs]
 have t10:=aB (o:=.lst (cs.map V.int)) np10
 have s610:=s69.trans t10
 refine⟨n,d,Ld,p10,ls,ps,RW,ds,cs,1,rfl,N6.same s610,hR6.at'.same s610,⟨hR6.door,hR6.bnd⟩,bJ.of (s610 _ _ eLd6),lds,dds,bJ.of aq,lcs,fun H11 L11 us11 xs11 s11 nL11 eL11 pu11 lx11 _=>?_⟩
 have s911:=t10.trans s11
 have s711:=s79.trans s911
 have eL9':=s911 _ _ eL9
 have pu9':Paired (fun u (w:List Str)=>H11 u=some (.lst (w.map V.str))) us9 (oY ls ps (il ls ps RW) xs9):=dI (fun _ _ h=>s911 _ _ h) pu9
 clear eL9 pu9 s911 s610 t10 s69 s79 t8 s78 s9 s11 nL9 nL11 np8 np10
 have lu9:us9.length=cs.length:=by have:us9.length=_:=Paired.length pu9';rw [this,uJ,lx9]
 have lu11:us11.length=cs.length:=by have:us11.length=_:=Paired.length pu11;rw [this,uJ,lx11]
 have c0:=sX.start F RW
 obtain⟨S0,hS0⟩:∃S0,S0=il ls ps RW:=⟨_,rfl⟩
 have d0:∀x,S0.d x=0:=fun x=>by rw [hS0];rfl
 rw [<-hS0] at c0 pu9' pu11 r57
 have nok:∀x∈ps.map (·.name),PyData.strOk x=true:=fun x hx=>by
  obtain⟨p,hp,rfl⟩:=List.mem_map.mp hx
  exact Ul (F.pnm p hp)
 have g0:Gd 1 (.list (([]:List Str).map PyData.str)):=.list (.strs 0 (by simp))
 rcases hc with ⟨rfl,hlf,nX,eX⟩ | ⟨rfl,as,R,AX,la,haR,hRR⟩
 ·refine⟨_,rfl,rfl,_,rfl,jH (fun h=>absurd (of_decide_eq_true h) (by intro z;injection z with z;exact absurd z (by decide))) (fun _=>?_)⟩
  obtain⟨hk,rnd,rin⟩:=RJ F era erk (elf.symm.trans hlf)
  have e9:=M4 (hb9 rfl)
  obtain⟨told,htold⟩:∃told,told=oY ls ps S0 xs9:=⟨_,rfl⟩
  rw [<-htold] at pu9'
  have lt9:told.length=cs.length:=by rw [htold,uJ,lx9]
  have live:∀t∈told,t≠[]:=by
   rw [htold,e9,lx9]
   exact Gf F C hk _ 0 S0 c0 r57 (fun p _=>by rw [d0];exact Nat.le_refl _) (by omega)
  have tok:∀w∈told,∀x∈w,PyData.strOk x=true:=fun w hw x hx=>nok x (Nm xs9 S0 w (by rw [<-htold];exact hw) x hx)
  refine⟨_,rfl,rfl,_,rfl,?_⟩
  rw [decide_eq_true rfl]
  refine cZ ⟨je,fun e ne=>?_⟩
  have te:=aB (o:=.lst []) ne
  have gt:=Vm tok
  refine⟨_,rfl,_,_,rW (xs:=[]) (bJ.of aq),.list (bJ.of (te _ _ eL9')) (Ku (dI (fun _ _ h=>te _ _ h) pu9')),g0.shaped (by decide),gt.shaped (by decide),_,rfl,?_⟩
  have na:((told.map fun w=>PyData.list (w.map PyData.str)).any fun z=>PyData.eqv z (.list (([]:List Str).map PyData.str)))=false:=by
   rw [List.any_eq_false]
   intro z hz
   obtain⟨w,hw,rfl⟩:=List.mem_map.mp hz
   cases w with
   | nil=>exact absurd rfl (live _ hw)
   | cons y r=>simp [PyData.eqv,PyData.eqvAll]
  rw [na]
  refine cZ ?_
  have eX12:=te _ _ (s711 _ _ eX)
  have eL12:=te _ _ eL9'
  have pu12:=dI (fun _ _ h=>te _ _ h) pu9'
  generalize upd H11 e (.lst [])=H12 at eX12 eL12 pu12 ⊢
  have nLX:L9≠X:=fun z=>by rw [z,eX12] at eL12;cases eL12
  refine⟨_,rfl,X,_,rfl,eX12,fun o=>oK (fun j σ H'=>aM (upd H12 X (.frz o (.dK (qR nG rk)))) H'/\∃v12 v13,σ=[some (.ref a),some (.ref L),some (.ref P),some (.ref d),w4,some (.ref Ld),some (.ref n),some (.str "ranks"),some (.ref X),some (.ref L9),some (.ref L11),none,v12,v13]) ⟨aM.refl _,none,none,rfl⟩ (fun j σ H' _ h=>h.1 _ _ aq) ?_ ?_⟩
  ·rintro j ky v σ H13 hj ⟨s13,v12,v13,rfl⟩
   unfold qR at hj
   rw [List.getElem?_map] at hj
   obtain⟨q,hq,e⟩:=Option.map_eq_some_iff.mp hj
   cases e
   have hqm:=List.mem_of_getElem? hq
   obtain⟨⟨p,hp,ep⟩,lq⟩:=rin q hqm
   have up13:∀{b:Addr} {u:HO},H12 b=some u->(∀ks,u≠.dK ks)->H13 b=some u:=fun {b u} h hn=>s13 _ _ (by
    rw [aK (fun z=>by rw [z,eX12] at h;exact hn _ (Option.some.inj h).symm)]
    exact h)
   have gX:∀{H':Hp},aM (upd H12 X (.frz o (.dK (qR nG rk)))) H'->dZ H' X (.str q.1) (some (nG q.2)):=fun s=>by
    have:=Kq (g:=nG) (s _ _ aq) q.1
    rw [lq] at this
    exact this
   have eL13:=up13 eL12 (by intro _ z;cases z)
   have pu13:Paired (fun u (w:List Str)=>H13 u=some (.lst (w.map V.str))) us9 told:=dI (fun _ _ h=>up13 h (by intro _ z;cases z)) pu12
   refine⟨_,rfl,_,rfl,_,rfl,X,_,rfl,gX s13,_,_,rfl,rfl,_,rfl,L9,_,rfl,bJ.of eL13,fun v nv=>⟨v,rfl,⟨_,bJ.of aq⟩,?_⟩⟩
   have ec:xR (us9.map V.ref) none (some ((q.2:Int)+1))=(us9.take (q.2+1)).map V.ref:=by
    rw [show(q.2:Int)+1=((q.2+1:Nat):Int) by omega,RN,List.map_take]
   rw [ec]
   have tv:=aB (o:=.lst ((us9.take (q.2+1)).map V.ref)) nv
   have ev:upd H13 v (.lst ((us9.take (q.2+1)).map V.ref)) v=some (.lst ((us9.take (q.2+1)).map V.ref)):=aq
   have s14:=s13.trans tv
   have eL14:=tv _ _ eL13
   have pu14:=dI (fun _ _ h=>tv _ _ h) pu13
   generalize upd H13 v (.lst ((us9.take (q.2+1)).map V.ref))=H14 at ev s14 eL14 pu14 ⊢
   refine dC (K:=K) (a:=v) (xs:=(us9.take (q.2+1)).map V.ref) (fun i zs H'=>H'=H14/\∃vs ws,zs=vs.map V.ref/\vs.length<=i/\Paired (fun u (w:List Str)=>H14 u=some (.lst (w.map V.str))) vs ws/\(∀w∈ws,w∈told)/\((∃t∈(told.take (q.2+1)).take i,q.1∈t)->vs≠[])) (by rw [lM,List.length_take];omega) ⟨rfl,[],[],rfl,Nat.le_refl _,.nil,by simp,by simp⟩ (fun i zs H' ⟨_,vs,_,e,l,_⟩=>by rw [e,lM];exact l) (fun i zs H' _ h=>by rw [h.1];exact bJ.of ev) ?_ ?_
   ·rintro i x zs H' hx ⟨rfl,vs,ws,rfl,lv,pv,hws,hne⟩
    rw [List.getElem?_map] at hx
    obtain⟨u,hu,rfl⟩:=Option.map_eq_some_iff.mp hx
    rw [List.getElem?_take] at hu
    split at hu
    ·rename_i hi
     obtain⟨w,hw,eu⟩:=wO pu14 hu
     have hwt:(told.take (q.2+1))[i]?=some w:=by rw [List.getElem?_take,if_pos hi];exact hw
     refine⟨_,rfl,_,rfl,u,_,rfl,.inl (bJ.of eu),rfl,jY _,_,rfl,?_⟩
     rw [show inV (kV (Sum.inr q.1)) (w.map V.str)=decide (q.1∈w) from rA q.1 w]
     by_cases hm:q.1∈w
     ·rw [decide_eq_true hm]
      exact iW ⟨_,rfl,rfl,vs ++ [u],ws ++ [w],by rw [List.map_append];rfl,by rw [lP,List.length_singleton];omega,uq pv eu,fun z hz=>(List.mem_append.mp hz).elim (hws z) fun h=>by rw [List.mem_singleton.mp h];exact List.mem_of_getElem? hw,fun _=>by simp⟩
     ·rw [decide_eq_false hm]
      refine cZ ⟨rfl,vs,ws,rfl,by omega,pv,hws,fun⟨t,ht,hqt⟩=>hne ⟨t,?_,hqt⟩⟩
      rw [List.take_succ,hwt,Option.toList_some] at ht
      rcases List.mem_append.mp ht with h | h
      ·exact h
      ·rw [List.mem_singleton.mp h] at hqt
       exact absurd hqt hm
    ·cases hu
   rintro zs H' ⟨rfl,vs,ws,rfl,lv,pv,hws,hne⟩ Le nLe
   rw [lM,List.length_take] at lv hne
   have tE:=aB (o:=.lst (vs.map V.ref)) nLe
   have eLe:upd H' Le (.lst (vs.map V.ref)) Le=some (.lst (vs.map V.ref)):=aq
   have s15:=s14.trans tE
   have eL15:=tE _ _ eL14
   have pv15:=dI (fun _ _ h=>tE _ _ h) pv
   generalize upd H' Le (.lst (vs.map V.ref))=H15 at eLe s15 eL15 pv15 ⊢
   refine⟨_,rfl,_,rfl,X,_,rfl,gX s15,_,rfl,.ref L9,us9.length,rfl,.inl ⟨_,bJ.of eL15,by rw [lM]⟩,_,_,rfl,rfl,_,rfl,jH (fun hlt=>?_) (fun _=>cZ ⟨s15,_,_,rfl⟩)⟩
   have hlt:(q.2:Int) <(us9.length:Int):=of_decide_eq_true hlt
   refine⟨_,rfl,je,fun e ne=>?_⟩
   have te:=aB (o:=.lst []) ne
   have gw:=Vm fun w hw=>tok w (hws w hw)
   refine⟨_,_,.list (bJ.of (te _ _ eLe)) (Ku (dI (fun _ _ h=>te _ _ h) pv15)),rW (xs:=[]) (bJ.of aq),gw.shaped (by decide),g0.shaped (by decide),_,rfl,?_⟩
   obtain⟨t0,ht0,hqt⟩:=Eo F C hk hp cs.length 0 S0 c0 r57 (fun p _=>by rw [d0];exact Nat.le_refl _) (by omega) (fun p _ h=>by omega) (d0 _) (by rw [ep];show(iT rk q.1).getD 0 <_;rw [lq];show q.2 <_;omega)
   have hv:=hne ⟨t0,by
    rw [List.take_take,show min (min (q.2+1) us9.length) (q.2+1)=q.2+1 by omega,htold,e9,lx9]
    have:(iT rk p.name).getD 0+1 - 0=q.2+1:=by rw [ep,lq];rfl
    rw [<-this]
    exact ht0,by rw [<-ep];exact hqt⟩
   cases ws with
   | nil=>
    have:vs.length=_:=Paired.length pv
    exact absurd (List.length_eq_zero_iff.mp this) hv
   | cons w0 wr=>
    rw [show PyData.eqv (.list ((w0:: wr).map fun w=>PyData.list (w.map PyData.str))) (.list (([]:List Str).map PyData.str))=false by simp [PyData.eqv,PyData.eqvAll]]
    exact cZ ⟨s15.trans te,_,_,rfl⟩
  rintro σ H13 ⟨s13,v12,v13,rfl⟩
  exact⟨_,⟨X,o,_,s13 _ _ aq,(fun o' u' z=>by rw [nX] at z;cases z),rfl⟩,k _⟩
 ·have no9:=zz F C hRR xs9 S0 c0 fun x _=>d0 x
  have no11:=zz F C hRR xs11 S0 c0 fun x _=>d0 x
  refine⟨_,rfl,rfl,_,rfl,jH (fun _=>?_) (fun h=>absurd (decide_eq_true rfl) h)⟩
  have AX11:=AX.same s711
  refine⟨_,rfl,X,rfl,⟨_,bJ.of AX11.lst⟩,dC (K:=K) (a:=X) (xs:=as.map fun q=>V.ref q.2) (fun j zs H'=>H'=H11/\zs=((as.map fun q=>q.1.fr).take j).map V.str) (by rw [lM];omega) ⟨rfl,rfl⟩ (fun j zs H' ⟨_,e⟩=>by rw [e,lM,List.length_take];omega) (fun j zs H' _ ⟨e,_⟩=>by rw [e];exact bJ.of AX11.lst) ?_ ?_⟩
  ·rintro j x zs H' hx ⟨rfl,rfl⟩
   obtain⟨q,hq,rfl,eq⟩:=AX11.get hx
   refine yes ⟨_,rfl,q.2,_,0,_,rfl,rfl,fu.of eq,aN (j:=0) rfl,rfl,?_⟩
   rw [List.take_succ,List.getElem?_map,hq,Option.map_some,Option.toList_some,List.map_append]
   rfl
  rintro zs H' ⟨rfl,rfl⟩ Lr nLr
  rw [lM,<-lM (f:=fun q:AA=>q.1.fr),List.take_length]
  have tr:=aB (o:=.lst ((as.map fun q=>q.1.fr).map V.str)) nLr
  have eLr:upd H' Lr (.lst ((as.map fun q=>q.1.fr).map V.str)) Lr=some (.lst ((as.map fun q=>q.1.fr).map V.str)):=aq
  have eL12:=tr _ _ eL9'
  have eL12b:=tr _ _ eL11
  have pu12:=DP (dI (fun _ _ h=>tr _ _ h) pu9') (dI (fun _ _ h=>tr _ _ h) pu11)
  generalize upd H' Lr (.lst ((as.map fun q=>q.1.fr).map V.str))=H12 at eLr eL12 eL12b pu12 ⊢
  refine⟨_,rfl,_,rfl,L9,L11,_,_,rfl,rfl,eL12,eL12b,by rw [lM,lM];omega,fun Lc nLc=>⟨Lc,rfl,⟨_,bJ.of aq⟩,?_⟩⟩
  rw [<-List.map_append]
  have tc:=aB (o:=.lst ((us9 ++ us11).map V.ref)) nLc
  have eLc:upd H12 Lc (.lst ((us9 ++ us11).map V.ref)) Lc=some (.lst ((us9 ++ us11).map V.ref)):=aq
  have eLr13:=tc _ _ eLr
  have pu13:=dI (fun _ _ h=>tc _ _ h) pu12
  generalize upd H12 Lc (.lst ((us9 ++ us11).map V.ref))=H13 at eLc eLr13 pu13 ⊢
  refine dC (K:=K) (a:=Lc) (xs:=(us9 ++ us11).map V.ref) (fun j zs H'=>aM H13 H'/\zs=[]) (by rw [lM,lP];omega) ⟨aM.refl _,rfl⟩ (fun j zs H' h=>by rw [h.2];exact Nat.zero_le _) (fun j zs H' _ h=>bJ.of (h.1 _ _ eLc)) ?_ ?_
  ·rintro j x zs H14 hx ⟨s14,rfl⟩
   rw [List.getElem?_map] at hx
   obtain⟨u,hu,rfl⟩:=Option.map_eq_some_iff.mp hx
   obtain⟨w,hw,eu⟩:=wO pu13 hu
   have eu:=s14 _ _ eu
   have hwm:=List.mem_append.mp (List.mem_of_getElem? hw)
   have now:∀y∈w,y∉as.map fun q=>q.1.fr:=fun y hy z=>by
    obtain⟨q,hq,rfl⟩:=List.mem_map.mp z
    exact hwm.elim (fun h=>no9 w h _ hy (haR q hq)) fun h=>no11 w h _ hy (haR q hq)
   have lw:w.length<=16:=Nat.le_trans (hwm.elim (wV xs9 S0 w) (wV xs11 S0 w)) p16
   refine⟨_,rfl,u,rfl,⟨_,bJ.of eu⟩,dC (K:=K) (a:=u) (xs:=w.map V.str) (fun i zs H'=>H'=H14/\zs=[]) (by rw [lM];omega) ⟨rfl,rfl⟩ (fun i zs H' h=>by rw [h.2];exact Nat.zero_le _) (fun i zs H' _ h=>by rw [h.1];exact bJ.of eu) ?_ ?_⟩
   ·rintro i x zs H' hx ⟨rfl,rfl⟩
    rw [List.getElem?_map] at hx
    obtain⟨y,hy,rfl⟩:=Option.map_eq_some_iff.mp hx
    refine⟨_,rfl,_,rfl,Lr,_,rfl,.inl (bJ.of (s14 _ _ eLr13)),rfl,jY _,_,rfl,?_⟩
    rw [rA,decide_eq_false (now y (List.mem_of_getElem? hy))]
    exact cZ ⟨rfl,rfl⟩
   rintro zs H' ⟨rfl,rfl⟩ p15 np15
   have t15:=aB (o:=.lst []) np15
   refine⟨je,fun e ne=>?_⟩
   have te:=aB (o:=.lst []) ne
   refine⟨_,_,rW (xs:=[]) (bJ.of (te _ _ aq)),rW (xs:=[]) (bJ.of aq),g0.shaped (by decide),g0.shaped (by decide),_,rfl,?_⟩
   rw [g0.eq]
   exact cZ ⟨s14.trans (t15.trans te),rfl⟩
  rintro zs H' ⟨_,rfl⟩ p15 np15
  refine⟨je,fun e ne=>?_⟩
  have te:=aB (o:=.lst []) ne
  refine⟨_,_,rW (xs:=[]) (bJ.of (te _ _ aq)),rW (xs:=[]) (bJ.of aq),g0.shaped (by decide),g0.shaped (by decide),?_⟩
  rw [g0.eq]
  exact k _
end
theorem fin {l:PySem.W.OpenLaw} {w:World} {K:PySem.W.Frag} {mg:Str->Option Value} {fa r0 r1 r2 r3 r4 r5 r6 r7 r8 r9 r10 r11 r12 r13 r14 r15 r16 r17 r18 r19 r20 r21 r22 r23 r24 r25 r26 r27 r28 r29 r30 r31 r32 r33 r34 r35 r36 r37 r38 r39 r40 r41 r42 r43 r44 r45 r46 r47 r48 r49 r50 r51 r52 r53 r54 r55 r56 r57 r58 r59 r60 r61 r62 r63 r64 r65 r66 r67 r68 r69 r70 r71 r72 r73 r74 r75 r76 r77 r78 r79 r80 r81 r82 r83 r84 r85 r86 r87 r88 r89 r90 r91 r92 r93 r94 r95 r96 r97 r98 r99 r100 r101 r102 r103 r104 r105 r106 r107:Addr} (hfa:mg "law" =some (.ref fa)) (T:Txt w K mg ⟨r0,r1,r2,r3,r4,r5,r6,r7,r8,r9,r10,r11,r12,r13,r14,r15,r16,r17,r18,r19,r20,r21,r22,r23,r24,r25,r26,r27,r28,r29,r30,r31,r32,r33,r34,r35,r36,r37,r38,r39,r40,r41,r42,r43,r44,r45,r46,r47,r48,r49,r50,r51,r52,r53,r54,r55,r56,r57,r58,r59,r60,r61,r62,r63,r64,r65,r66,r67,r68,r69,r70,r71,r72,r73,r74,r75,r76,r77,r78,r79,r80,r81,r82,r83,r84,r85,r86,r87,r88,r89,r90,r91,r92,r93,r94,r95,r96,r97,r98,r99,r100,r101,r102,r103,r104,r105,r106,r107⟩):∃fd:FuncData,(∀(s:Shared) (v:Value),BindsTo s fd ⟨[v],[]⟩ [("_law_script",v)])/\∀base:Heap,K.In base->base.Ns mainGlobals mg->iR l.prog w K mg base Bp 9 fa fd ["_law_script"] (Dl K):=by
 have e:=hfa.symm.trans T.Nh.m
 cases e
 exact⟨_,Xi T.Nh.F fun _ _ _ _ _ _ _=>rfl,fun base _ _=>Wg T⟩
theorem walk {l:PySem.W.OpenLaw} {q:Program} {loose:List Str} {XP:(Str->Option Value)->Heap->Prop} {YP:World->Heap->Prop} {d:DefRec} {K:Params->PySem.W.Frag} (hn:l.most=some 63) (hdf:d.params.defaults=[])
  (hY:∀(w:World) (h:Heap),YP w h->(K w.params).In h)
  (F:∀(w:World) (mg:Str->Option Value) (fa:Addr) (h:Heap),(K w.params).In h->h.Ns mainGlobals mg->mg d.name=some (.ref fa)->
   ∃fd:FuncData,(∀(s:Shared) (u:Value),BindsTo s fd ⟨[u],[]⟩ [("_law_script",u)])/\∀base:Heap,(K w.params).In base->base.Ns mainGlobals mg->iR l.prog w (K w.params) mg base Bp 9 fa fd ["_law_script"] (Dl (K w.params))):
  PySem.W.WalkO q loose XP YP l.row.toRowW d [] (fun f vs=>PySem.call f vs):=
 L2.Tu (n:=63) (k:=9) (x:= "_law_script") (CX:=fun _=>Bp) (sp:=fun w=>Dl (K w.params)) hn (by decide) hdf ⟨rfl,by decide,by decide⟩ hY F (fun _ _ a ns hl _ hS=>⟨a,ns,rfl,hS,hl,fun _=>rfl⟩) fun _ _ _ _ _ z=>z
end K63
open PySem PySem.W PyProof.Rows L2
set_option maxRecDepth 100000 in
set_option maxHeartbeats 0 in
theorem PySem.Challenge.cw_holdlane_k63_whole_a_ring_stops_ranks_go_holds : PySem.Challenge.rw_holdlane_k63_whole_a_ring_stops_ranks_go.Holds := by
 w_on;o_law
 refine HD.head (by rfl) (by rfl) (by rfl) (by rfl) (by first | assumption | decide +kernel) (by decide +kernel) ⟨rfl,rfl,rfl,rfl,rfl,by decide +kernel⟩ rfl (fun _=>rfl) ?_ ?_
 ·w_witness2
 k_fill
 refine K63.walk (l:=PySem.Challenge.rw_holdlane_k63_whole_a_ring_stops_ranks_go) rfl rfl (fun w h Y=>PySem.W.kIn_of Y) ?F
 case F=>
  intro w mg fa h KX G hmg
  refine' K63.fin hmg ⟨?q0,?q1,?q2,?q3,?q4,?q5,?q6,?q7,?q8,?q9,?q10,?q11,?q12,?q13,?q14,?q15,?q16,?q17,?q18,?q19,?q20,?q21,?q22,?q23,?q24,?q25,?q26,?q27,?q28,?q29,?q30,?q31,?q32,?q33,?q34,?q35,?q36,?q37,?q38,?q39,?q40,?q41,?q42,?q43,?q44,?q45,?q46,?q47,?q48,?q49,?q50,?q51,?q52,?q53,?q54,?q55,?q56,?q57,?q58,?q59,?q60,?q61,?q62,?q63,?q64,?q65,?q66,?q67,?q68,?q69,?q70,?q71,?q72,?q73,?q74,?q75,?q76,?q77,?q78,?q79,?q80,?q81,?q82,?q83,?q84,?q85,?q86,?q87,?q88,?q89,?q90,?q91,?q92,?q93,?q94,?q95,?q96,?q97,?q98,?q99,?q100,?q101,?q102,?q103,?q104,?q105,?q106,?q107,?q108,?q109,?q110,?q111,?q112,?q113,?q114,?q115,?q116,?q117,?q118,?q119,?q120,?q121,?q122,?q123,?q124,?q125,?q126,?q127,?q128,?q129⟩
  all_goals try dsimp only
  (case q0 | q1 | q2 | q3 | q4 | q5 | q6 | q7 | q8 | q9 | q10=>refine' ⟨mg_of KX G ?_,⟨?_,?_,?_,?_⟩,?_,?_,⟨?_,?_,?_,?_,?_,?_,trivial⟩,⟨?_,?_,?_,?_,trivial⟩⟩ <;> (try dsimp only) <;> k_is)
  (case q11=>refine' ⟨mg_of KX G ?_,⟨?_,?_,?_,?_⟩,?_,?_,⟨?_,?_,?_,?_,?_,?_,?_,?_,?_,?_,?_,?_,?_,trivial⟩,⟨?_,?_,?_,?_,?_,trivial⟩⟩ <;> (try dsimp only) <;> k_is)
  (case q12=>refine' ⟨mg_of KX G ?_,⟨?_,?_,?_,?_⟩,?_,?_,⟨?_,?_,?_,?_,?_,?_,?_,?_,trivial⟩,⟨?_,?_,?_,?_,?_,?_,trivial⟩⟩ <;> (try dsimp only) <;> k_is)
  (case q13=>refine' ⟨mg_of KX G ?_,⟨?_,?_,?_,?_⟩,?_,?_,⟨?_,?_,?_,?_,?_,trivial⟩,⟨?_,?_,?_,trivial⟩⟩ <;> (try dsimp only) <;> k_is)
  (case q14 | q15=>refine' .of (mg_of KX G ?_) (dW.of ?_ ?_ ?_ ?_ (fun _ _ _ _ _ _=>zc fun _=>rfl)) <;> (try k_is);all_goals try k_is)
  (case q16=>refine' dW.of ?_ ?_ ?_ ?_ (fun _ _ _ _ _ _=>WP fun _ _ _ _ _=>rfl) <;> try k_is)
  (case q17 | q18 | q19 | q20 | q21 | q22 | q23 | q24 | q25 | q26 | q27=>refine' dW.of ?_ ?_ ?_ ?_ (fun _ _ _ _ _ _=>zc fun _=>rfl) <;> try k_is)
  (case q28=>refine' .of (mg_of KX G ?_) (dW.of ?_ ?_ ?_ ?_ (fun _ _ _ _ _ _=>zc fun _=>rfl)) <;> (try k_is);all_goals try k_is)
  (case q29 | q30 | q31=>refine' .of (mg_of KX G ?_) (dW.of ?_ ?_ ?_ ?_ (fun _ _ _ _ _ _=>WP fun _ _ _ _ _=>rfl)) <;> (try k_is);all_goals try k_is)
  (case q32=>refine' .of (mg_of KX G ?_) (dW.of ?_ ?_ ?_ ?_ (fun _ _ _ _ _ _=>zc fun _=>rfl)) <;> (try k_is);all_goals try k_is)
  (case q33 | q34 | q35=>refine' dW.of ?_ ?_ ?_ ?_ (fun _ _ _ _ _ _=>zF fun _ _=>rfl) <;> try k_is)
  (case q36 | q37=>refine' dW.of ?_ ?_ ?_ ?_ (fun _ _ _ _ _ _=>zc fun _=>rfl) <;> try k_is)
  (case q38 | q39 | q40 | q41 | q42 | q43 | q44 | q45 | q46 | q47 | q48=>refine' dW.of ?_ ?_ ?_ ?_ (fun _ _ _ _ _ _=>JF fun _ _ _=>rfl) <;> try k_is)
  (case q49 | q50 | q51 | q52=>refine' .of (mg_of KX G ?_) (dW.of ?_ ?_ ?_ ?_ (fun _ _ _ _ _ _=>zF fun _ _=>rfl)) <;> (try k_is);all_goals try k_is)
  (case q53=>refine' .of (mg_of KX G ?_) (dW.of ?_ ?_ ?_ ?_ (fun _ _ _ _ _ _=>JF fun _ _ _=>rfl)) <;> (try k_is);all_goals try k_is)
  (case q54=>refine' .of (mg_of KX G ?_) (dW.of ?_ ?_ ?_ ?_ (fun _ _ _ _ _ _=>zF fun _ _=>rfl)) <;> (try k_is);all_goals try k_is)
  (case q55=>refine' .of (mg_of KX G ?_) (dW.of ?_ ?_ ?_ ?_ (fun _ _ _ _ _ _=>Zn fun _ _ _ _ _ _=>rfl)) <;> (try k_is);all_goals try k_is)
  (case q56=>refine' .of (mg_of KX G ?_) (dW.of ?_ ?_ ?_ ?_ (fun _ _ _ _ _ _=>Wk fun _ _ _ _=>rfl)) <;> (try k_is);all_goals try k_is)
  (case q57 | q58 | q59=>refine' .of (mg_of KX G ?_) (dW.of ?_ ?_ ?_ ?_ (fun _ _ _ _ _ _=>JF fun _ _ _=>rfl)) <;> (try k_is);all_goals try k_is)
  (case q60=>refine' .of (mg_of KX G ?_) (dW.of ?_ ?_ ?_ ?_ (fun _ _ _ _ _ _=>Wk fun _ _ _ _=>rfl)) <;> (try k_is);all_goals try k_is)
  (case q61=>refine' .of (mg_of KX G ?_) (dW.of ?_ ?_ ?_ ?_ (fun _ _ _ _ _ _=>zc fun _=>rfl)) <;> (try k_is);all_goals try k_is)
  (case q62 | q63=>refine' .of (mg_of KX G ?_) (dW.of ?_ ?_ ?_ ?_ (fun _ _ _ _ _ _=>zF fun _ _=>rfl)) <;> (try k_is);all_goals try k_is)
  (case q64=>refine' .of (mg_of KX G ?_) (dW.of ?_ ?_ ?_ ?_ (fun _ _ _ _ _ _=>JF fun _ _ _=>rfl)) <;> (try k_is);all_goals try k_is)
  (case q65=>refine' .of (mg_of KX G ?_) (dW.of ?_ ?_ ?_ ?_ (fun _ _ _ _ _ _=>zF fun _ _=>rfl)) <;> (try k_is);all_goals try k_is)
  (case q66=>refine' .of (mg_of KX G ?_) (dW.of ?_ ?_ ?_ ?_ (fun _ _ _ _ _ _=>Wk fun _ _ _ _=>rfl)) <;> (try k_is);all_goals try k_is)
  (case q67 | q68 | q69=>refine' .of (mg_of KX G ?_) (dW.of ?_ ?_ ?_ ?_ (fun _ _ _ _ _ _=>JF fun _ _ _=>rfl)) <;> (try k_is);all_goals try k_is)
  (case q70 | q71=>refine' dW.of ?_ ?_ ?_ ?_ (fun _ _ _ _ _ _=>zc fun _=>rfl) <;> try k_is)
  (case q72=>refine' dW.of ?_ ?_ ?_ ?_ (fun _ _ _ _ _ _=>zF fun _ _=>rfl) <;> try k_is)
  (case q73 | q74=>refine' dW.of ?_ ?_ ?_ ?_ (fun _ _ _ _ _ _=>zc fun _=>rfl) <;> try k_is)
  (case q75 | q76 | q77 | q78 | q79 | q80=>refine' dW.of ?_ ?_ ?_ ?_ (fun _ _ _ _ _ _=>zF fun _ _=>rfl) <;> try k_is)
  (case q81=>refine' dW.of ?_ ?_ ?_ ?_ (fun _ _ _ _ _ _=>zc fun _=>rfl) <;> try k_is)
  (case q82=>refine' dW.of ?_ ?_ ?_ ?_ (fun _ _ _ _ _ _=>JF fun _ _ _=>rfl) <;> try k_is)
  (case q83=>refine' .of (mg_of KX G ?_) (dW.of ?_ ?_ ?_ ?_ (fun _ _ _ _ _ _=>zF fun _ _=>rfl)) <;> (try k_is);all_goals try k_is)
  (case q84=>refine' .of (mg_of KX G ?_) (dW.of ?_ ?_ ?_ ?_ (fun _ _ _ _ _ _=>zc fun _=>rfl)) <;> (try k_is);all_goals try k_is)
  (case q85 | q86 | q87 | q88=>refine' .of (mg_of KX G ?_) (dW.of ?_ ?_ ?_ ?_ (fun _ _ _ _ _ _=>zF fun _ _=>rfl)) <;> (try k_is);all_goals try k_is)
  (case q89=>refine' .of (mg_of KX G ?_) (dW.of ?_ ?_ ?_ ?_ (fun _ _ _ _ _ _=>zc fun _=>rfl)) <;> (try k_is);all_goals try k_is)
  (case q90 | q91 | q92 | q93 | q94 | q95=>refine' dW.of ?_ ?_ ?_ ?_ (fun _ _ _ _ _ _=>zF fun _ _=>rfl) <;> try k_is)
  (case q96 | q97=>refine' dW.of ?_ ?_ ?_ ?_ (fun _ _ _ _ _ _=>JF fun _ _ _=>rfl) <;> try k_is)
  (case q98 | q99 | q100=>refine' dW.of ?_ ?_ ?_ ?_ (fun _ _ _ _ _ _=>zF fun _ _=>rfl) <;> try k_is)
  (case q101=>refine' Xq.of ?_ ?_ ?_ ?_ ?_ (fun _ F=>F.binds fun _ _ _ _ _ _ _=>zF fun _ _=>⟨_,rfl,rfl⟩) <;> (try k_is);all_goals try k_is)
  (case q102=>refine' .of (mg_of KX G ?_) (dW.of ?_ ?_ ?_ ?_ (fun _ _ _ _ _ _=>zc fun _=>rfl)) <;> (try k_is);all_goals try k_is)
  (case q103=>refine' .of (mg_of KX G ?_) (dW.of ?_ ?_ ?_ ?_ (fun _ _ _ _ _ _=>zF fun _ _=>rfl)) <;> (try k_is);all_goals try k_is)
  (case q104=>refine' dW.of ?_ ?_ ?_ ?_ (fun _ _ _ _ _ _=>JF fun _ _ _=>rfl) <;> try k_is)
  (case q105=>refine' .of (mg_of KX G ?_) (dW.of ?_ ?_ ?_ ?_ (fun _ _ _ _ _ _=>WP fun _ _ _ _ _=>rfl)) <;> (try k_is);all_goals try k_is)
  (case q106=>refine' .of (mg_of KX G ?_) (dW.of ?_ ?_ ?_ ?_ (fun _ _ _ _ _ _=>zc fun _=>rfl)) <;> (try k_is);all_goals try k_is)
  (case q107=>refine' mg_of KX G ?_;k_is)
  (case q108=>
   refine' L2.KTab.mk' ?lk ?c1 ?c2 ?c3 ?c4 ?sm ?rows ?nd
   (case lk=>k_is)
   (case c1=>exact rfl)
   (case c2=>exact rfl)
   (case c3=>exact rfl)
   (case c4=>exact rfl)
   (case sm=>exact rfl)
   (case nd=>decide +kernel)
   (case rows=>
    refine' L2.jt.cons ?hh0 ?lk0 ?cc0 ?dd0 ?vv0 ?zz0 ?rest0
    (case hh0=>exact rfl)
    (case lk0=>k_is)
    (case cc0=>exact rfl)
    (case dd0=>exact rfl)
    (case vv0=>exact .cons ⟨_,rfl⟩ (.cons ⟨_,rfl⟩ (.cons ⟨_,rfl⟩ .nil)))
    (case zz0=>decide)
    refine' L2.jt.cons ?hh1 ?lk1 ?cc1 ?dd1 ?vv1 ?zz1 ?rest1
    (case hh1=>exact rfl)
    (case lk1=>k_is)
    (case cc1=>exact rfl)
    (case dd1=>exact rfl)
    (case vv1=>exact .cons ⟨_,rfl⟩ (.cons ⟨_,rfl⟩ (.cons ⟨_,rfl⟩ .nil)))
    (case zz1=>decide)
    refine' L2.jt.cons ?hh2 ?lk2 ?cc2 ?dd2 ?vv2 ?zz2 ?rest2
    (case hh2=>exact rfl)
    (case lk2=>k_is)
    (case cc2=>exact rfl)
    (case dd2=>exact rfl)
    (case vv2=>exact .cons ⟨_,rfl⟩ (.cons ⟨_,rfl⟩ (.cons ⟨_,rfl⟩ .nil)))
    (case zz2=>decide)
    refine' L2.jt.cons ?hh3 ?lk3 ?cc3 ?dd3 ?vv3 ?zz3 ?rest3
    (case hh3=>exact rfl)
    (case lk3=>k_is)
    (case cc3=>exact rfl)
    (case dd3=>exact rfl)
    (case vv3=>exact .cons ⟨_,rfl⟩ (.cons ⟨_,rfl⟩ (.cons ⟨_,rfl⟩ .nil)))
    (case zz3=>decide)
    refine' L2.jt.cons ?hh4 ?lk4 ?cc4 ?dd4 ?vv4 ?zz4 ?rest4
    (case hh4=>exact rfl)
    (case lk4=>k_is)
    (case cc4=>exact rfl)
    (case dd4=>exact rfl)
    (case vv4=>exact .cons ⟨_,rfl⟩ (.cons ⟨_,rfl⟩ (.cons ⟨_,rfl⟩ .nil)))
    (case zz4=>decide)
    refine' L2.jt.cons ?hh5 ?lk5 ?cc5 ?dd5 ?vv5 ?zz5 ?rest5
    (case hh5=>exact rfl)
    (case lk5=>k_is)
    (case cc5=>exact rfl)
    (case dd5=>exact rfl)
    (case vv5=>exact .cons ⟨_,rfl⟩ (.cons ⟨_,rfl⟩ (.cons ⟨_,rfl⟩ .nil)))
    (case zz5=>decide)
    refine' L2.jt.cons ?hh6 ?lk6 ?cc6 ?dd6 ?vv6 ?zz6 ?rest6
    (case hh6=>exact rfl)
    (case lk6=>k_is)
    (case cc6=>exact rfl)
    (case dd6=>exact rfl)
    (case vv6=>exact .cons ⟨_,rfl⟩ (.cons ⟨_,rfl⟩ (.cons ⟨_,rfl⟩ .nil)))
    (case zz6=>decide)
    refine' L2.jt.cons ?hh7 ?lk7 ?cc7 ?dd7 ?vv7 ?zz7 ?rest7
    (case hh7=>exact rfl)
    (case lk7=>k_is)
    (case cc7=>exact rfl)
    (case dd7=>exact rfl)
    (case vv7=>exact .cons ⟨_,rfl⟩ (.cons ⟨_,rfl⟩ (.cons ⟨_,rfl⟩ .nil)))
    (case zz7=>decide)
    refine' L2.jt.cons ?hh8 ?lk8 ?cc8 ?dd8 ?vv8 ?zz8 ?rest8
    (case hh8=>exact rfl)
    (case lk8=>k_is)
    (case cc8=>exact rfl)
    (case dd8=>exact rfl)
    (case vv8=>exact .cons ⟨_,rfl⟩ (.cons ⟨_,rfl⟩ (.cons ⟨_,rfl⟩ .nil)))
    (case zz8=>decide)
    refine' L2.jt.cons ?hh9 ?lk9 ?cc9 ?dd9 ?vv9 ?zz9 ?rest9
    (case hh9=>exact rfl)
    (case lk9=>k_is)
    (case cc9=>exact rfl)
    (case dd9=>exact rfl)
    (case vv9=>exact .cons ⟨_,rfl⟩ (.cons ⟨_,rfl⟩ (.cons ⟨_,rfl⟩ .nil)))
    (case zz9=>decide)
    refine' L2.jt.cons ?hh10 ?lk10 ?cc10 ?dd10 ?vv10 ?zz10 ?rest10
    (case hh10=>exact rfl)
    (case lk10=>k_is)
    (case cc10=>exact rfl)
    (case dd10=>exact rfl)
    (case vv10=>exact .cons ⟨_,rfl⟩ (.cons ⟨_,rfl⟩ (.cons ⟨_,rfl⟩ .nil)))
    (case zz10=>decide)
    exact .nil))
  (case q109 | q110 | q111 | q112 | q113 | q114 | q115 | q116 | q117 | q118 | q119 | q120 | q121=>refine' mg_none_of KX G ?_;k_is)
  (case q122 | q123 | q124 | q125 | q126 | q127 | q128 | q129=>refine' gC (mg_of KX G ?_) ?_ <;> (try k_is);all_goals exact⟨_,rfl⟩)
