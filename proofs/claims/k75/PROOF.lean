import PyProof.Rows.All
import Wide.All
import OpenK.AllK
import Wide.FinOn
import Lean
import PyProof.EqAt
import PyProof.EqKinds
import PyProof.TupleCall
import PyProof.StrLawsChain
import PyProof.StrLawsOccR
import PyProof.StrLawsReplace
import PyProof.NeKinds
import PyProof.EnumStmt
import PyProof.EnumMake
import PyProof.ListRange
import PyProof.StationsW
import PyProof.ExcClass2
import PyProof.ExcInit
import PyProof.InstStoreFacts
import OpenK.KRaise
import PyProof.NsDelKeeps
import PyProof.RulesAs
import PyProof.Rows.Catch
import OpenK.KOwn
import PyProof.ExcArgsOwn
import PyProof.ExcAttrAll.ValueError
import PyProof.IsiBase
import PyProof.MaxThree
import PyProof.SeqI3
import KE.KIsAll
import KE.IntTextLaws
import PyProof.StrLawsIdx
import PyProof.FitsInt
import PySem.Challenge.RW_holdlane_k75_stages_work_ahead
set_option Elab.async false
set_option linter.all false
set_option maxRecDepth 100000
namespace L2
open PySem PySem.Spec PyProof.Rows
noncomputable abbrev Key:=Sum Int Str
noncomputable def GZ:Key->Value->Bool
 | .inl k,v=>Value.isInt k v
 | .inr x,v=>Value.isStrOf x v
noncomputable def Zz (w:World):Key->Int
 | .inl k=>hashInt k
 | .inr x=>hashStr w x
theorem fM:∀{k:Key} {v:Value},GZ k v=true->(∃i t,k=Sum.inl i/\v=Value.int i t)∨(∃x t,k=Sum.inr x/\v=Value.str x t)
 | .inl i,v,h=>by
  obtain⟨t,e⟩:=Value.isInt_shape (k:=i) (v:=v) h
  exact .inl ⟨i,t,rfl,e⟩
 | .inr x,v,h=>by
  obtain⟨t,e⟩:=Value.isStrOf_shape (x:=x) (v:=v) h
  exact .inr ⟨x,t,rfl,e⟩
theorem PB (i:Int) (t:Tok):GZ (.inl i) (.int i t)=true:=by simp [GZ,Value.isInt]
theorem Pu (x:Str) (t:Tok):GZ (.inr x) (.str x t)=true:=by simp [GZ,Value.isStrOf]
theorem Wa (a b:Int):decide ((Sum.inl a:Key)=Sum.inl b)=(a == b):=by
 by_cases e:a=b
 ·subst e;simp
 ·have h:¬(Sum.inl a:Key)=Sum.inl b:=fun q=>e (Sum.inl.inj q)
  rw [decide_eq_false h]
  exact(beq_eq_false_iff_ne.mpr e).symm
theorem WP (a b:Str):decide ((Sum.inr a:Key)=Sum.inr b)=decide (a=b):=by
 by_cases e:a=b
 ·subst e;simp
 ·have h:¬(Sum.inr a:Key)=Sum.inr b:=fun q=>e (Sum.inr.inj q)
  rw [decide_eq_false h,decide_eq_false e]
theorem W9 (a:Int) (b:Str):decide ((Sum.inl a:Key)=Sum.inr b)=false:=decide_eq_false (fun q=>nomatch q)
theorem WK (a:Str) (b:Int):decide ((Sum.inr a:Key)=Sum.inl b)=false:=decide_eq_false (fun q=>nomatch q)
noncomputable def dB (prog:Program) (w:World):PySem.KeyKind prog w Key where
 is:=GZ
 hash:=Zz w
 inj:=fun v a b ha hb=>by
  rcases fM ha with ⟨i,t,rfl,rfl⟩ | ⟨x,t,rfl,rfl⟩
  ·rcases fM hb with ⟨j,u,rfl,e⟩ | ⟨y,u,rfl,e⟩
   ·injection e with e1 _;rw [e1]
   ·exact nomatch e
  ·rcases fM hb with ⟨j,u,rfl,e⟩ | ⟨y,u,rfl,e⟩
   ·exact nomatch e
   ·injection e with e1 _;rw [e1]
 byValue:=fun k v h=>by
  rcases fM h with ⟨i,t,rfl,rfl⟩ | ⟨x,t,rfl,rfl⟩ <;> rfl
 pyHash:=fun hv h=>by
  rcases fM hv with ⟨i,t,rfl,rfl⟩ | ⟨x,t,rfl,rfl⟩
  ·exact wpAny_pyHash_int h
  ·exact wpAny_pyHash_str h
 eqBool:=fun hu hv h=>by
  rcases fM hu with ⟨i,t,rfl,rfl⟩ | ⟨x,t,rfl,rfl⟩
  ·rcases fM hv with ⟨j,u,rfl,rfl⟩ | ⟨y,u,rfl,rfl⟩
   ·rw [Wa] at h;exact wpAny_eqBool_int h
   ·rw [W9] at h;exact SeqAt.EqAt.int_str i t y u _ _ _ _ h
  ·rcases fM hv with ⟨j,u,rfl,rfl⟩ | ⟨y,u,rfl,rfl⟩
   ·rw [WK] at h;exact SeqAt.EqAt.str_int x t j u _ _ _ _ h
   ·rw [WP] at h;exact wpAny_eqBool_str h
 «strs» :=fun k x t v h=>by
  rcases fM h with ⟨i,u,rfl,e⟩ | ⟨y,u,rfl,e⟩
  ·exact nomatch e
  ·injection e with e1 _
   subst e1
   cases v <;> rfl
theorem Ks (prog:Program) (w:World) (i:Int) (t:Tok):(dB prog w).is (.inl i) (.int i t)=true:=PB i t
theorem mL (prog:Program) (w:World) (x:Str) (t:Tok):(dB prog w).is (.inr x) (.str x t)=true:=Pu x t
inductive V where
 | non | bl (b:Bool) | int (i:Int) | str (x:Str) | byt (b:Array UInt8) | flt (b:UInt64) | ref (a:Addr) | ty (n:String)
 deriving DecidableEq
noncomputable def RelV:V->Value->Prop
 | .non,u=>u=Value.none
 | .bl b,u=>u=Value.bool b
 | .int i,u=>∃t,u=Value.int i t
 | .str x,u=>∃t,u=Value.str x t
 | .byt b,u=>∃t,u=Value.bytes b t
 | .flt b,u=>∃t,u=Value.float b t
 | .ref a,u=>u=Value.ref a
 | .ty n,u=>u=Value.type n
noncomputable abbrev Vals:List V->List Value->Prop:=Paired RelV
theorem Vals.length {xs:List V} {us:List Value} (r:Vals xs us):xs.length=us.length:=Paired.length r
theorem Vals.get:∀{xs:List V} {us:List Value} {i:Nat} {x:V},Vals xs us->xs[i]?=some x->∃u,us[i]?=some u/\RelV x u
 | _,_,_,_,.nil,e=>by simp at e
 | _,_,0,_,.cons r _,e=>by simp at e;subst e;exact⟨_,rfl,r⟩
 | _,_,i+1,x,.cons _ t,e=>by
  obtain⟨u,h1,h2⟩:=Vals.get (i:=i) (x:=x) t (by simpa using e)
  exact⟨u,by simpa using h1,h2⟩
theorem Vals.append:∀{xs ys:List V} {us ws:List Value},Vals xs us->Vals ys ws->Vals (xs ++ ys) (us ++ ws)
 | _,_,_,_,.nil,s=>s
 | _,_,_,_,.cons r t,s=>.cons r (Vals.append t s)
theorem Vals.take:∀{xs:List V} {us:List Value} (n:Nat),Vals xs us->Vals (xs.take n) (us.take n)
 | _,_,0,_=>.nil
 | _,_,_+1,.nil=>.nil
 | _,_,n+1,.cons r t=>.cons r (Vals.take n t)
theorem Vals.drop:∀{xs:List V} {us:List Value} (n:Nat),Vals xs us->Vals (xs.drop n) (us.drop n)
 | _,_,0,r=>r
 | _,_,_+1,.nil=>.nil
 | _,_,n+1,.cons _ t=>Vals.drop n t
noncomputable def qM:Option V->Option Value->Prop
 | some v,some u=>RelV v u
 | none,none=>True
 | _,_=>False
noncomputable def KV {κ:Type}:List (κ×V)->List (κ×Value)->Prop:=Paired fun(p:κ×V) (q:κ×Value)=>p.1=q.1/\RelV p.2 q.2
noncomputable def kV:Key->V
 | .inl i=>.int i
 | .inr x=>.str x
inductive HO where
  | lst (xs:List V)
  | tup (xs:List V)
  | dK (kvs:List (Key×V)) | dT (kvs:List (List Key×V))
  | set (S:Int->Bool) (n:Nat)
  | ins (C dx:Addr) (fs:List (Str×V))
  | own (x:Addr)
  | xd (fs:List (Str×V))
  | met (f x:Addr)
  | rng (lo hi:Int)
  | frz (o:Obj) (u:HO)
  | tbl (ps:Array Value)
  | ext (φ:Heap->Prop)
noncomputable abbrev Hp:=Addr->Option HO
noncomputable def upd (H:Hp) (a:Addr) (o:HO):Hp:=fun b=>if b=a then some o else H b
theorem aq {H:Hp} {a:Addr} {o:HO}:upd H a o a=some o:=by unfold upd;rw [if_pos rfl]
theorem aG {H:Hp} {a b:Addr} {o:HO} (h:b≠a):upd H a o b=H b:=by unfold upd;rw [if_neg h]
theorem oE {H:Hp} {a:Addr} {o u:HO}:upd (upd H a o) a u=upd H a u:=by
 funext b;unfold upd;split <;> rfl
theorem mK {H:Hp} {a b:Addr} {o u:HO} (h:H a=some o) (h':H b=some u) (d:o≠u):a≠b:=by
 intro e;subst e;rw [h] at h';exact d (Option.some.inj h')
theorem aC {H:Hp} {a b:Addr} {o:HO} (h:H a=some o) (h':H b=none):a≠b:=by
 intro e;subst e;rw [h] at h';cases h'
section
variable (P:Program) (w:World)
noncomputable def dX (H:Hp) (h:Heap) (a:Addr):HO->Prop
 | .lst xs=>xs.length<=sizeLine/\∃(its:List Value) (n:Nat),Vals xs its/\h.get? a=some { cls:=.type "list",data:=.seq its.toArray n }
 | .tup xs=>xs.length<=sizeLine/\∃its:List Value,Vals xs its/\IsTup h a its.toArray
 | .dK kvs=>kvs.length<=sizeLine/\(a == sysModules)=false/\∃vs,KV kvs vs/\h.DictOf (dB P w) a vs
 | .dT kvs=>kvs.length<=sizeLine/\(a == sysModules)=false/\∃xs:List (List Key×Addr×Value),
   Paired (fun(p:List Key×V) (q:List Key×Addr×Value)=>p.1=q.1/\H q.2.1=some (.tup (p.1.map kV))/\RelV p.2 q.2.2) kvs xs/\
   ∃o es ep,h.get? a=some o/\o.ExactDict/\o.data=.dict es ep/\es.toList=xs.map (entryOfKey (tupleKind (dB P w)))/\(xs.map (·.1)).Nodup
 | .set S n=>h.SetOf (intKind P w) a S n
 | .ins C dx fs=>H dx=some (.own a)/\fs.length<=1000/\dx≠a/\h.get? a=some (PySem.W.instObj C dx)/\
   ∃mA,h.Ns1 dx mA/\(∀f,qM (fs.lookup f) (mA f))/\PySem.Within mA (fs.map (·.1))
 | .own _=>∃o,h.get? a=some o
 | .xd fs=>∃mA,h.Ns1 a mA/\∀f,qM (fs.lookup f) (mA f)
 | .rng lo hi=>∃t u v,h.get? a=some { cls:=.type "range",data:=.fields #[.int lo t,.int hi u,.int 1 v] }
 | .frz o u=>h.get? a=some o/\dX H h a u
 | .tbl ps=>h.get? a=some { cls:=.none,data:=.fields ps }
 | .met f x=>h.get? a=some (PySem.W.methodObj (.ref f) (.ref x))
 | .ext φ=>φ h/\(∃o,h.get? a=some o)/\∀h1 h2:Heap,φ h1->(∀o,h1.get? a=some o->h2.get? a=some o)->φ h2
noncomputable def uz (H:Hp) (h:Heap):Prop:=∀a o,H a=some o->dX P w H h a o
end
section
variable {P:Program} {w:World} {H H':Hp} {h h':Heap} {a:Addr} {o:HO}
theorem dX.lt (x:dX P w H h a o):a <h.objs.size:=by
 cases o with
 | lst xs=>obtain⟨_,_,_,_,e⟩:=x;exact Heap.lt_size e
 | tup xs=>obtain⟨_,_,_,p⟩:=x;exact p.lt
 | dK kvs=>obtain⟨_,_,_,_,o,_,_,e,_⟩:=x;exact Heap.lt_size e
 | dT kvs=>obtain⟨_,_,_,_,o,_,_,e,_⟩:=x;exact Heap.lt_size e
 | set S n=>obtain⟨o,_,_,_,e,_⟩:=x;exact Heap.lt_size e
 | ins C dx fs=>obtain⟨_,_,_,e,_⟩:=x;exact Heap.lt_size e
 | own y=>obtain⟨_,e⟩:=x;exact Heap.lt_size e
 | xd fs=>obtain⟨_,⟨_,_,_,e,_⟩,_⟩:=x;exact Heap.lt_size e
 | rng lo hi=>obtain⟨_,_,_,e⟩:=x;exact Heap.lt_size e
 | frz ob u=>obtain⟨e,_⟩:=x;exact Heap.lt_size e
 | tbl ps=>exact Heap.lt_size (show h.get? a=some _ from x)
 | met f y=>exact Heap.lt_size (show h.get? a=some _ from x)
 | ext φ=>obtain⟨_,⟨_,e⟩,_⟩:=x;exact Heap.lt_size e
theorem Paired.mapP {α β:Type} {F G:α->β->Prop}:∀{l₁:List α} {l₂:List β},Paired F l₁ l₂->(∀a b,F a b->G a b)->Paired G l₁ l₂
 | _,_,.nil,_=>.nil
 | _,_,.cons r t,f=>.cons (f _ _ r) (Paired.mapP t f)
theorem dX.stay (x:dX P w H h a o) (k:∀b u,(b=a∨H b=some (.own a))->h.get? b=some u->h'.get? b=some u)
  (ho:∀b,H b=some (.own a)->H' b=some (.own a)) (ht:∀b xs,H b=some (.tup xs)->H' b=some (.tup xs)):dX P w H' h' a o:=by
 induction o with
 | lst xs=>obtain⟨z,its,n,r,e⟩:=x;exact⟨z,its,n,r,k _ _ (.inl rfl) e⟩
 | tup xs=>obtain⟨z,its,r,ob,e,c⟩:=x;exact⟨z,its,r,ob,k _ _ (.inl rfl) e,c⟩
 | dK kvs=>obtain⟨z,y,vs,r,ob,es,ep,e,c⟩:=x;exact⟨z,y,vs,r,ob,es,ep,k _ _ (.inl rfl) e,c⟩
 | dT kvs=>
  obtain⟨z,y,xs,r,ob,es,ep,e,c⟩:=x
  exact⟨z,y,xs,Paired.mapP r fun p q z=>⟨z.1,ht _ _ z.2.1,z.2.2⟩,ob,es,ep,k _ _ (.inl rfl) e,c⟩
 | set S n=>obtain⟨ob,es,ep,t,e,c⟩:=x;exact⟨ob,es,ep,t,k _ _ (.inl rfl) e,c⟩
 | ins C dx fs=>
  obtain⟨d,z,ne,e,mA,⟨od,es,ep,e2,c⟩,r⟩:=x
  exact⟨ho _ d,z,ne,k _ _ (.inl rfl) e,mA,⟨od,es,ep,k _ _ (.inr d) e2,c⟩,r⟩
 | own y=>obtain⟨ob,e⟩:=x;exact⟨ob,k _ _ (.inl rfl) e⟩
 | xd fs=>obtain⟨mA,⟨od,es,ep,e,c⟩,r⟩:=x;exact⟨mA,⟨od,es,ep,k _ _ (.inl rfl) e,c⟩,r⟩
 | rng lo hi=>obtain⟨t,u,v,e⟩:=x;exact⟨t,u,v,k _ _ (.inl rfl) e⟩
 | frz ob u ih=>obtain⟨e,q⟩:=x;exact⟨k _ _ (.inl rfl) e,ih q⟩
 | tbl ps=>
  have e:h.get? a=some { cls:=.none,data:=.fields ps }:=x
  show h'.get? a=some { cls:=.none,data:=.fields ps }
  exact k a _ (.inl rfl) e
 | met f y=>
  have e:h.get? a=some (PySem.W.methodObj (.ref f) (.ref y)):=x
  show h'.get? a=some (PySem.W.methodObj (.ref f) (.ref y))
  exact k a _ (.inl rfl) e
 | ext φ=>obtain⟨p,⟨o,e⟩,st⟩:=x;exact⟨st _ _ p fun o q=>k _ _ (.inl rfl) q,⟨o,k _ _ (.inl rfl) e⟩,st⟩
theorem uz.lt (x:uz P w H h) (e:H a=some o):a <h.objs.size:=(x a o e).lt
theorem uz.fresh (x:uz P w H h) (e:h.objs.size<=a):H a=none:=by
 cases q:H a with
 | none=>rfl
 | some u=>exact absurd (Nat.lt_of_lt_of_le (x.lt q) e) (Nat.lt_irrefl _)
theorem uz.kept (x:uz P w H h) (k:∀b u,h.get? b=some u->h'.get? b=some u):uz P w H h':=fun a o e=>
 (x a o e).stay (fun b u _ q=>k b u q) (fun _ q=>q) fun _ _ q=>q
theorem uz.laid (x:uz P w H h) (k:∀b u,h.get? b=some u->h'.get? b=some u) (hp:h.objs.size<=a) (new:dX P w (upd H a o) h' a o):uz P w (upd H a o) h':=fun b u e=>by
 have hn:=x.fresh hp
 by_cases hb:b=a
 ·subst hb;rw [aq] at e;cases e;exact new
 ·rw [aG hb] at e
  exact(x b u e).stay (fun c v _ q=>k c v q) (fun c q=>by rw [aG (aC q hn)];exact q) fun c xs q=>by rw [aG (aC q hn)];exact q
end
noncomputable def Rd (H:Hp) (a:Addr) (u:HO):Prop:=H a=some u∨∃o,H a=some (.frz o u)
theorem Rd.ok {P:Program} {w:World} {H:Hp} {h:Heap} {a:Addr} {u:HO} (r:Rd H a u) (x:uz P w H h):dX P w H h a u:=by
 rcases r with r | ⟨o,r⟩
 ·exact x a u r
 ·obtain⟨_,q⟩:=x a _ r
  exact q
noncomputable def YJ:Option HO->Prop
 | some (.lst _)=>True
 | some (.dK _)=>True
 | some (.dT _)=>True
 | some (.set _ _)=>True
 | some (.ins _ _ _)=>True
 | some (.ext _)=>True
 | _=>False
section
variable {P:Program} {w:World} {H:Hp} {h h':Heap} {x e:Addr} {o':HO}
theorem uz.write (ok:uz P w H h) (mu:YJ (H x)) (he:e=x∨H e=some (.own x)) (k:∀b u,b≠e->h.get? b=some u->h'.get? b=some u) (heo:∃u,h'.get? e=some u)
  (new:dX P w (upd H x o') h' x o'):uz P w (upd H x o') h':=fun b u q=>by
 have nown:∀c y,H c=some (.own y)->c≠x:=fun c y r z=>by subst z;rw [r] at mu;exact mu
 have ntup:∀c xs,H c=some (.tup xs)->c≠x:=fun c xs r z=>by subst z;rw [r] at mu;exact mu
 by_cases hb:b=x
 ·subst hb;rw [aq] at q;cases q;exact new
 ·rw [aG hb] at q
  by_cases hbe:b=e
  ·have q':H b=some (.own x):=by
    rcases he with z | z
    ·exact absurd (hbe.trans z) hb
    ·rw [hbe];exact z
   rw [q] at q';cases q'
   obtain⟨v,hv⟩:=heo
   exact⟨v,by rw [hbe];exact hv⟩
  ·refine(ok b u q).stay (fun c v hc r=>k c v ?_ r) (fun c r=>by rw [aG (nown c b r)];exact r) fun c xs r=>by rw [aG (ntup c xs r)];exact r
   rcases hc with rfl | hc
   ·exact hbe
   ·rintro rfl
    rcases he with z | z
    ·exact nown c b hc z
    ·rw [hc] at z;cases z;exact hb rfl
end
structure Un (fs ex:List Addr) (H H':Hp) (h h':Heap):Prop where
 keep:∀b o,h.get? b=some o->H b=none->b∉fs->b∉ex->h'.get? b=some o
 slot:∀b o,h.get? b=some o->H b=none->b∈fs->b∉ex->∃sl,h'.get? b=some { o with slots:=sl }
 free:∀b o,h.get? b=some o->H b=none->b∉ex->H' b=none
 there:∀b o,h.get? b=some o->b∉ex->∃o',h'.get? b=some o'
 tups:∀b xs,H b=some (.tup xs)->H' b=some (.tup xs)
 frzs:∀b o u,H b=some (.frz o u)->H' b=some (.frz o u)
 tbls:∀b ps,H b=some (.tbl ps)->∃more,H' b=some (.tbl (ps ++ more))
section
variable {fs fs' ex ex':List Addr} {H H1 H2:Hp} {h h1 h2 h':Heap} {a x e:Addr} {o:HO}
theorem Un.any (u:Un fs ex H H1 h h1) {b:Addr} {ob:Obj} (q:h.get? b=some ob) (n:H b=none) (hx:b∉ex):∃sl,h1.get? b=some { ob with slots:=sl }:=by
 by_cases hb:b∈fs
 ·exact u.slot b ob q n hb hx
 ·exact⟨ob.slots,u.keep b ob q n hb hx⟩
theorem Un.kept (k:∀b u,h.get? b=some u->h'.get? b=some u):Un fs ex H H h h':=
 ⟨fun b ob q _ _ _=>k b ob q,fun b ob q _ _ _=>⟨ob.slots,k b ob q⟩,fun _ _ _ n _=>n,fun b ob q _=>⟨ob,k b ob q⟩,fun _ _ q=>q,fun _ _ _ q=>q,fun _ ps q=>⟨#[],by rw [q];simp⟩⟩
theorem Un.refl:Un fs ex H H h h:=Un.kept fun _ _ q=>q
theorem Un.laid (k:∀b u,h.get? b=some u->h'.get? b=some u) (hp:h.objs.size<=a) (hn:H a=none):Un fs ex H (upd H a o) h h' where
 keep:=fun b u q _ _ _=>k b u q
 slot:=fun b u q _ _ _=>⟨u.slots,k b u q⟩
 free:=fun b u q n _=>by rw [aG (Nat.ne_of_lt (Nat.lt_of_lt_of_le (Heap.lt_size q) hp))];exact n
 there:=fun b u q _=>⟨u,k b u q⟩
 tups:=fun b xs q=>by rw [aG (aC q hn)];exact q
 frzs:=fun b u xs q=>by rw [aG (aC q hn)];exact q
 tbls:=fun b ps q=>⟨#[],by rw [aG (aC q hn),q];simp⟩
theorem Un.write (mu:YJ (H x)) (he:e=x∨H e=some (.own x)) (k:∀b u,b≠e->h.get? b=some u->h'.get? b=some u) (heo:∃u,h'.get? e=some u):Un fs ex H (upd H x o) h h':=by
 have hx:∀b,H b=none->b≠x:=fun b n z=>by subst z;rw [n] at mu;exact mu
 have hb:∀b,H b=none->b≠e:=fun b n z=>by
  subst z
  rcases he with r | r
  ·exact hx b n r
  ·rw [n] at r;cases r
 have hm:∀b u,H b=some u->¬YJ (some u)->b≠x:=fun b u q nm z=>by subst z;rw [q] at mu;exact nm mu
 refine⟨fun b u q n _ _=>k b u (hb b n) q,fun b u q n _ _=>⟨u.slots,k b u (hb b n) q⟩,fun b u q n _=>by rw [aG (hx b n)];exact n,fun b u q _=>?_,
  fun b xs q=>by rw [aG (hm b _ q fun z=>z)];exact q,fun b u xs q=>by rw [aG (hm b _ q fun z=>z)];exact q,fun b ps q=>⟨#[],by rw [aG (hm b _ q fun z=>z),q];simp⟩⟩
 by_cases hbe:b=e
 ·subst hbe;exact heo
 ·exact⟨u,k b u hbe q⟩
end
noncomputable def YS (h:Heap) (H:Hp):List Addr:=(List.range h.objs.size).filter fun a=>(H a).isSome
noncomputable def Js (h:Heap) (H:Hp):Heap:=PySem.W.hideAll h (YS h H)
theorem P0 (h:Heap) (H:Hp):(Js h H).objs.size=h.objs.size:=PySem.W.hideAll_size _ _
theorem Q3 {h:Heap} {H:Hp} {b:Addr} {o:Obj} (e:h.get? b=some o) (n:H b=none):(Js h H).get? b=some o:=
 PySem.W.hideAll_get _ e fun hm=>by
  have q:(H b).isSome=true:=(List.mem_filter.mp hm).2
  rw [n] at q;simp at q
theorem Ul {h:Heap} {H:Hp} {b:Addr} {o:Obj} (e:(Js h H).get? b=some o):h.get? b=some o/\H b=none:=by
 have e':h.get? b=some o:=PySem.W.of_hideAll (YS h H) e
 refine⟨e',?_⟩
 cases q:H b with
 | none=>rfl
 | some x=>
  have hm:b∈YS h H:=List.mem_filter.mpr ⟨List.mem_range.mpr (Heap.lt_size e'),by simp [q]⟩
  have z:(Js h H).get? b=none:=PySem.W.hideAll_none (YS h H) hm
  rw [z] at e;cases e
structure Mod (K:PySem.W.Frag) (mg:Str->Option Value) (base:Heap):Prop where
 kin:K.In base
 glob:base.Ns mainGlobals mg
 blt:∃mb,base.Ns builtinsNs mb/\∀x:Str,x≠ "__name__" ->mb x=bootBuiltins x
 nolimit:base.NoLimit
structure Cx where
 prog:Program
 w:World
 K:PySem.W.Frag
 mg:Str->Option Value
 base:Heap
 A:Around
 N:List Str
 s₀:Shared
 H₀:Hp
 env:Env
 outer:List Env
 stack:List Env
 ex:List Addr
 fn:Str->Bool
 calm:Bool
 pn:List (Addr×Obj)
 xe:Value->Shared->Prop
noncomputable def frs (l:List Env):List Addr:=l.filterMap (·.frame)
noncomputable abbrev Cx.fs (X:Cx):List Addr:=frs X.outer
noncomputable def YT (sc:Scope) (x:Str):Prop:=sc.names.lookup x=some .local∨sc.names.lookup x=some .cell∨sc.names.lookup x=some .free
noncomputable def Loc (sc:Scope) (x:Str):Prop:=sc.names.lookup x=some .local∨sc.names.lookup x=some .cell
noncomputable def Look (env:Env) (h:Heap) (m:Str->Option Value) (x:Str) (u:Value):Prop:=
 (env.kindOf x=some .local/\m x=some u)∨((env.kindOf x=some .cell∨env.kindOf x=some .free)/\∃c,env.cells.lookup x=some c/\h.IsCell c (some u))
structure Cx.Ok (X:Cx):Prop where
 mod:Mod X.K X.mg X.base
 kind:X.env.scope.kind=.function
 glob:X.env.globals=mainGlobals
 blt:X.env.builtins=builtinsNs
 above:X.s₀.heap.objs.size<=X.env.locals
 inj:∀x y c,X.env.cells.lookup x=some c->X.env.cells.lookup y=some c->x=y
 has:∀x,(X.env.kindOf x=some .cell∨X.env.kindOf x=some .free)->∃c,X.env.cells.lookup x=some c
 cab:∀x c,X.fn x=true->X.env.cells.lookup x=some c->X.s₀.heap.objs.size<=c
 hd:X.calm=true->X.A.handled=none
 frames:X.A.frames=some X.stack
 stk:X.stack=X.outer∨(X.stack=X.env:: X.outer/\X.env.frame=some X.env.locals)
 exf:∀b∈X.ex,b≠X.env.locals/\∀x c,X.env.cells.lookup x=some c->c≠b
 bs:∀b o,X.base.get? b=some o->X.s₀.heap.get? b=some o/\X.H₀ b=none
 bsz:X.base.objs.size<=X.s₀.heap.objs.size
 noex:∀b o,X.base.get? b=some o->b∉X.ex
 exfs:∀b∈X.ex,b∉X.fs
 funs:X.s₀.heap.FunFrames X.base X.outer
 frf:∀b∈X.fs,X.H₀ b=none
structure Inv (X:Cx) (pins:List (Addr×Obj)) (σ:List (Option V)) (H:Hp) (s:Shared):Prop where
 ok:X.Ok
 os:s.os=X.s₀.os
 bare:AllBare s.gens
 base:Un X.fs X.ex X.H₀ H X.s₀.heap s.heap
 loc:∃m,s.heap.Ns X.env.locals m/\∀(i:Nat) (x:Str) (v:V),X.N[i]?=some x->σ[i]?=some (some v)->YT X.env.scope x->∃u,RelV v u/\Look X.env s.heap m x u
 cell:∀x c,X.env.cells.lookup x=some c->∃v,s.heap.IsCell c v
 free:H X.env.locals=none
 freeC:∀x c,X.env.cells.lookup x=some c->H c=none
 pin:∀p∈X.pn ++ pins,s.heap.get? p.1=some p.2/\H p.1=none/\p.1≠X.env.locals/\p.1∉X.fs/\∀v,p.2.data≠.cell v
 hok:uz X.prog X.w H s.heap
 len:σ.length=X.N.length
section
variable {X:Cx} {pins:List (Addr×Obj)} {σ:List (Option V)} {H H':Hp} {s:Shared} {h':Heap}
theorem Cx.Ok.nofr (ok:X.Ok) {b:Addr} {o:Obj} (e:X.base.get? b=some o):b∉X.fs:=fun hb=>by
 have:=(ok.funs.mem hb).1
 rw [e] at this;cases this
theorem Inv.bs (I:Inv X pins σ H s):∀b o,X.base.get? b=some o->s.heap.get? b=some o/\H b=none:=fun b o e=>
 ⟨I.base.keep b o (I.ok.bs b o e).1 (I.ok.bs b o e).2 (I.ok.nofr e) (I.ok.noex b o e),I.base.free b o (I.ok.bs b o e).1 (I.ok.bs b o e).2 (I.ok.noex b o e)⟩
theorem Inv.bk (I:Inv X pins σ H s):∀b o,X.base.get? b=some o->s.heap.get? b=some o:=fun b o e=>(I.bs b o e).1
theorem Inv.mod (I:Inv X pins σ H s):Mod X.K X.mg X.base:=I.ok.mod
theorem Inv.kIn (I:Inv X pins σ H s):X.K.In s.heap:=I.ok.mod.kin.keeps I.bk
theorem Inv.lt (I:Inv X pins σ H s):X.env.locals <s.heap.objs.size:=let ⟨_,hn,_⟩:=I.loc;hn.lt
theorem Inv.sz (I:Inv X pins σ H s):X.s₀.heap.objs.size<=s.heap.objs.size:=Nat.le_trans I.ok.above (Nat.le_of_lt I.lt)
theorem Inv.nofs (I:Inv X pins σ H s) {a:Addr} (h:s.heap.objs.size<=a):a∉X.fs:=fun hb=>by
 obtain⟨_,o,ho,_⟩:=I.ok.funs.mem hb
 exact absurd (Nat.lt_of_lt_of_le (Heap.lt_size ho) (Nat.le_trans I.sz h)) (Nat.lt_irrefl _)
theorem Inv.cne (I:Inv X pins σ H s):∀x c,X.env.cells.lookup x=some c->c≠X.env.locals:=fun x c e z=>by
 obtain⟨v,o,ho,hd⟩:=I.cell x c e
 obtain⟨m,⟨o',es,ep,ho',hd',_⟩,_⟩:=I.loc
 rw [z,ho'] at ho;cases ho;rw [hd'] at hd;cases hd
theorem Inv.funs (I:Inv X pins σ H s):s.heap.FunFrames X.base X.outer:=by
 have all:∀(l:List Env),(∀b∈frs l,b∈X.fs)->X.s₀.heap.FunFrames X.base l->s.heap.FunFrames X.base l:=by
  intro l
  induction l with
  | nil=>intro _ _;trivial
  | cons env r ih=>
   intro hs hl
   obtain⟨hk,⟨L,o,hf,hn,ho,hd⟩,hr⟩:=hl
   have hL:L∈X.fs:=hs L (by unfold frs;rw [List.filterMap_cons,hf];exact List.mem_cons_self)
   obtain⟨sl,e⟩:=I.base.slot L o ho (I.ok.frf L hL) hL fun z=>I.ok.exfs L z hL
   exact⟨hk,⟨L,_,hf,hn,e,hd⟩,ih (fun b hb=>hs b (by unfold frs;rw [List.filterMap_cons,hf];exact List.mem_cons_of_mem _ hb)) hr⟩
 exact all X.outer (fun _ hb=>hb) I.ok.funs
theorem Inv.stack (I:Inv X pins σ H s):s.heap.FunFrames X.base X.stack:=by
 rcases I.ok.stk with e | ⟨e,hf⟩
 ·rw [e];exact I.funs
 ·rw [e]
  obtain⟨m,hn,_⟩:=I.loc
  refine .cons (by rw [I.ok.kind];decide) hf hn ?_ I.funs
  exact Heap.get?_none_of_le (Nat.le_trans I.ok.bsz I.ok.above)
theorem Inv.stkSub (I:Inv X pins σ H s):∀b∈frs X.stack,b∈X.env.locals:: X.fs:=fun b hb=>by
 rcases I.ok.stk with e | ⟨e,hf⟩
 ·rw [e] at hb;exact List.mem_cons_of_mem _ hb
 ·rw [e] at hb
  unfold frs at hb
  rw [List.filterMap_cons,hf] at hb
  exact hb
theorem Inv.stkFree (I:Inv X pins σ H s):∀b∈frs X.stack,H b=none:=fun b hb=>by
 rcases List.mem_cons.mp (I.stkSub b hb) with e | hb
 ·rw [e];exact I.free
 ·obtain⟨_,o,ho,_⟩:=I.ok.funs.mem hb
  exact I.base.free b o ho (I.ok.frf b hb) fun z=>I.ok.exfs b z hb
theorem Inv.step {g':Array GenState} {t':Nat} {d':Drawn} {ch:List Addr} (I:Inv X pins σ H s)
  (hch:∀b∈ch,(b∈X.ex∨X.s₀.heap.objs.size<=b)/\b≠X.env.locals/\(∀x c,X.env.cells.lookup x=some c->c≠b)/\∀p∈X.pn ++ pins,p.1≠b)
  (keep:∀b o,b≠X.env.locals->b∉X.fs->b∉ch->s.heap.get? b=some o->H b=none->h'.get? b=some o)
  (slot:∀b o,b≠X.env.locals->b∈X.fs->b∉ch->s.heap.get? b=some o->H b=none->∃sl,h'.get? b=some { o with slots:=sl }) (free:∀b o,b∉ch->s.heap.get? b=some o->H b=none->H' b=none)
  (there:∀b o,b∉ch->s.heap.get? b=some o->∃o',h'.get? b=some o')
  (tups:∀b xs,H b=some (.tup xs)->H' b=some (.tup xs)) (frzs:∀b o u,H b=some (.frz o u)->H' b=some (.frz o u)) (tbls:∀b ps,H b=some (.tbl ps)->∃more,H' b=some (.tbl (ps ++ more)))
  (ns:∀m,s.heap.Ns X.env.locals m->h'.Ns X.env.locals m) (hok:uz X.prog X.w H' h') (hg:AllBare g'):
  Inv X pins σ H' { s with heap:=h',gens:=g',drawn:=d',toks:=t' }:=by
 have neL:∀b o,X.s₀.heap.get? b=some o->b≠X.env.locals:=fun b o e=>Nat.ne_of_lt (Nat.lt_of_lt_of_le (Heap.lt_size e) I.ok.above)
 have neC:∀b o,X.s₀.heap.get? b=some o->b∉X.ex->b∉ch:=fun b o e hx hb=>by
  rcases(hch b hb).1 with z | z
  ·exact hx z
  ·exact absurd (Nat.lt_of_lt_of_le (Heap.lt_size e) z) (Nat.lt_irrefl _)
 have cellK:∀x c,X.env.cells.lookup x=some c->∀v,s.heap.IsCell c v->h'.IsCell c v:=fun x c e v ⟨o,ho,hd⟩=>by
  have nch:c∉ch:=fun z=>(hch c z).2.2.1 x c e rfl
  by_cases hc:c∈X.fs
  ·obtain⟨sl,q⟩:=slot c o (I.cne x c e) hc nch ho (I.freeC x c e)
   exact⟨_,q,hd⟩
  ·exact⟨o,keep c o (I.cne x c e) hc nch ho (I.freeC x c e),hd⟩
 refine⟨I.ok,I.os,hg,⟨fun b o e n hb hx=>?_,fun b o e n hb hx=>?_,fun b o e n hx=>?_,fun b o e hx=>?_,fun b xs e=>tups b xs (I.base.tups b xs e),fun b o xs e=>frzs b o xs (I.base.frzs b o xs e),fun b ps e=>?_⟩,?_,fun x c e=>?_,?_,fun x c e=>?_,fun p hp=>?_,hok,I.len⟩
 ·exact keep b o (neL b o e) hb (neC b o e hx) (I.base.keep b o e n hb hx) (I.base.free b o e n hx)
 ·obtain⟨sl,e1⟩:=I.base.slot b o e n hb hx
  obtain⟨sl',e2⟩:=slot b _ (neL b o e) hb (neC b o e hx) e1 (I.base.free b o e n hx)
  exact⟨sl',e2⟩
 ·obtain⟨o',e1⟩:=I.base.there b o e hx
  exact free b o' (neC b o e hx) e1 (I.base.free b o e n hx)
 ·obtain⟨o',e1⟩:=I.base.there b o e hx
  exact there b o' (neC b o e hx) e1
 ·obtain⟨m1,e1⟩:=I.base.tbls b ps e
  obtain⟨m2,e2⟩:=tbls b _ e1
  exact⟨m1 ++ m2,by rw [e2,Array.append_assoc]⟩
 ·obtain⟨m,hn,hl⟩:=I.loc
  refine⟨m,ns m hn,fun i x v e1 e2 e3=>?_⟩
  obtain⟨u,r,l⟩:=hl i x v e1 e2 e3
  refine⟨u,r,?_⟩
  rcases l with l | ⟨k,c,e,z⟩
  ·exact .inl l
  ·exact .inr ⟨k,c,e,cellK x c e _ z⟩
 ·obtain⟨v,z⟩:=I.cell x c e
  exact⟨v,cellK x c e v z⟩
 ·obtain⟨m,⟨o,_,_,ho,_⟩,_⟩:=I.loc
  exact free _ o (fun z=>(hch _ z).2.1 rfl) ho I.free
 ·obtain⟨v,o,ho,hd⟩:=I.cell x c e
  exact free c o (fun z=>(hch c z).2.2.1 x c e rfl) ho (I.freeC x c e)
 ·obtain⟨e,n,ne,nf,d⟩:=I.pin p hp
  have nch:p.1∉ch:=fun z=>(hch p.1 z).2.2.2 p hp rfl
  exact⟨keep p.1 p.2 ne nf nch e n,free p.1 p.2 nch e n,ne,nf,d⟩
theorem Inv.un {t':Nat} (I:Inv X pins σ H s) (u:Un X.fs [] H H' s.heap h') (hok:uz X.prog X.w H' h'):Inv X pins σ H' { s with heap:=h',toks:=t' }:=by
 obtain⟨m,⟨o,es,ep,ho,r⟩,_⟩:=id I.loc
 obtain⟨sl,hL⟩:=u.any ho I.free (by simp)
 exact I.step (g':=s.gens) (d':=s.drawn) (ch:=[]) (fun _ z=>nomatch z) (fun b o _ hb _ e n=>u.keep b o e n hb (by simp)) (fun b o _ hb _ e n=>u.slot b o e n hb (by simp)) (fun b o _ e n=>u.free b o e n (by simp)) (fun b o _ e=>u.there b o e (by simp)) u.tups u.frzs u.tbls (fun m' hm=>by
  obtain⟨o',es',ep',ho',r'⟩:=hm
  rw [ho] at ho';cases ho'
  exact⟨_,es',ep',hL,r'⟩) hok I.bare
theorem Inv.call {g':Array GenState} {t':Nat} {d':Drawn} {ch:List Addr} (I:Inv X pins σ H s) (u:Un (frs X.stack) ch H H' s.heap h') (hok:uz X.prog X.w H' h') (hg:AllBare g')
  (hch:∀b∈ch,(b∈X.ex∨X.s₀.heap.objs.size<=b)/\b≠X.env.locals/\(∀x c,X.env.cells.lookup x=some c->c≠b)/\∀p∈X.pn ++ pins,p.1≠b):
  Inv X pins σ H' { s with heap:=h',gens:=g',drawn:=d',toks:=t' }:=by
 obtain⟨m,⟨o,es,ep,ho,r⟩,_⟩:=id I.loc
 obtain⟨sl,hL⟩:=u.any ho I.free fun z=>(hch _ z).2.1 rfl
 exact I.step (ch:=ch) hch (fun b o hL hb hc e n=>u.keep b o e n (fun z=>(List.mem_cons.mp (I.stkSub b z)).elim hL hb) hc) (fun b o _ _ hc e n=>u.any e n hc) (fun b o hc e n=>u.free b o e n hc) (fun b o hc e=>u.there b o e hc) u.tups u.frzs u.tbls (fun m' hm=>by
  obtain⟨o',es',ep',ho',r'⟩:=hm
  rw [ho] at ho';cases ho'
  exact⟨_,es',ep',hL,r'⟩) hok hg
theorem Inv.turned {t':Nat} {it:Addr} (I:Inv X pins σ H s) (k:∀b o,b≠it->s.heap.get? b=some o->h'.get? b=some o) (hn:H it=none) (hL:it≠X.env.locals)
  (h1:it∈X.ex∨X.s₀.heap.objs.size<=it) (h2:∀x c,X.env.cells.lookup x=some c->c≠it) (h3:∀p∈X.pn ++ pins,p.1≠it):Inv X pins σ H { s with heap:=h',toks:=t' }:=by
 have nit:∀b u,H b=some u->b≠it:=fun b u e z=>by rw [z,hn] at e;cases e
 refine I.step (g':=s.gens) (d':=s.drawn) (ch:=[it]) (fun b hb=>?_) (fun b o _ _ hc e _=>k b o (fun z=>hc (by simp [z])) e) (fun b o _ _ hc e _=>⟨o.slots,k b o (fun z=>hc (by simp [z])) e⟩) (fun _ _ _ _ n=>n)
  (fun b o hc e=>⟨o,k b o (fun z=>hc (by simp [z])) e⟩) (fun _ _ e=>e) (fun _ _ _ e=>e) (fun b ps e=>⟨#[],by rw [e];simp⟩) (fun m hm=>?_) (fun b u e=>?_) I.bare
 ·have e:b=it:=by simpa using hb
  subst e
  exact⟨h1,hL,h2,h3⟩
 ·obtain⟨o,es,ep,ho,r⟩:=hm
  exact⟨o,es,ep,k _ o (Ne.symm hL) ho,r⟩
 ·refine(I.hok b u e).stay (fun c v hc q=>k c v ?_ q) (fun _ q=>q) fun _ _ q=>q
  rcases hc with z | z
  ·rw [z];exact nit b u e
  ·exact nit c _ z
theorem Inv.tok (I:Inv X pins σ H s) (t:Nat):Inv X pins σ H { s with toks:=t }:=I.un (h':=s.heap) (t':=t) Un.refl I.hok
theorem Inv.kept {t':Nat} (I:Inv X pins σ H s) (k:∀b u,s.heap.get? b=some u->h'.get? b=some u):Inv X pins σ H { s with heap:=h',toks:=t' }:=I.un (Un.kept k) (I.hok.kept k)
theorem Inv.laid {a:Addr} {o:HO} {t':Nat} (I:Inv X pins σ H s) (k:∀b u,s.heap.get? b=some u->h'.get? b=some u) (hp:s.heap.objs.size<=a) (new:dX X.prog X.w (upd H a o) h' a o):
  Inv X pins σ (upd H a o) { s with heap:=h',toks:=t' }:=I.un (Un.laid k hp (I.hok.fresh hp)) (I.hok.laid k hp new)
theorem Inv.write {x e:Addr} {o:HO} {t':Nat} (I:Inv X pins σ H s) (mu:YJ (H x)) (he:e=x∨H e=some (.own x)) (k:∀b u,b≠e->s.heap.get? b=some u->h'.get? b=some u) (heo:∃u,h'.get? e=some u)
  (new:dX X.prog X.w (upd H x o) h' x o):Inv X pins σ (upd H x o) { s with heap:=h',toks:=t' }:=I.un (Un.write mu he k heo) (I.hok.write mu he k heo new)
theorem Inv.weak {σ':List (Option V)} (I:Inv X pins σ H s) (hl:σ'.length=σ.length) (w:∀(i:Nat) v,σ'[i]?=some (some v)->σ[i]?=some (some v)):Inv X pins σ' H s:=
 ⟨I.ok,I.os,I.bare,I.base,let ⟨m,hn,hl'⟩:=I.loc;⟨m,hn,fun i x v e1 e2 e3=>hl' i x v e1 (w i v e2) e3⟩,I.cell,I.free,I.freeC,I.pin,I.hok,hl.trans I.len⟩
theorem Inv.pins_of {pins':List (Addr×Obj)} (I:Inv X pins σ H s) (h:∀p∈pins',s.heap.get? p.1=some p.2/\H p.1=none/\p.1≠X.env.locals/\p.1∉X.fs/\∀v,p.2.data≠.cell v):Inv X pins' σ H s:=
 ⟨I.ok,I.os,I.bare,I.base,I.loc,I.cell,I.free,I.freeC,fun p hp=>(List.mem_append.mp hp).elim (fun z=>I.pin p (List.mem_append_left _ z)) (h p),I.hok,I.len⟩
theorem Dl {N:List Str} (hN:N.Nodup) {i j:Nat} {x:Str} (a:N[i]?=some x) (b:N[j]?=some x):i=j:=by
 obtain⟨h1,e1⟩:=List.getElem?_eq_some_iff.mp a
 obtain⟨h2,e2⟩:=List.getElem?_eq_some_iff.mp b
 exact(List.getElem_inj hN).mp (e1.trans e2.symm)
theorem zW {M:Model} {A:Around} {E:Value->Shared->Prop} {i:Nat} {x:Str} {v:V} {u:Value} {Q:Unit->Shared->Prop} (I:Inv X pins σ H s) (hN:X.N.Nodup) (hi:X.N[i]?=some x) (hx:Loc X.env.scope x) (r:RelV v u)
  (h:∀s',Inv X pins (σ.set i (some v)) H s'->(∃a,Heap.SameBut a s.heap s'.heap/\(a=X.env.locals∨X.env.cells.lookup x=some a))->Q () s') (hf:X.fn x=true∨X.env.scope.names.lookup x=some .local:=by first | exact .inl rfl | exact .inr rfl | assumption):wpAny M A (storeName X.env x u) Q E s:=by
 obtain⟨m,hn,hl⟩:=id I.loc
 have hcls:(X.env.scope.kind == .class || (X.env.scope.kind == .module && X.env.locals != X.env.globals))=false:=by rw [I.ok.kind];rfl
 have hiσ:i <σ.length:=by rw [I.len];exact(List.getElem?_eq_some_iff.mp hi).1
 have cne:=I.cne
 have tracked:∀{a:Addr} {h':Heap},(∃o,s.heap.get? a=some o/\H a=none)->Heap.SameBut a s.heap h'->uz X.prog X.w H h':=fun {a h'} ha hs b ob e=>by
  obtain⟨_,_,hfree⟩:=ha
  refine(I.hok b ob e).stay (fun c w' hc q=>(hs.2 c ?_).trans q) (fun _ q=>q) fun _ _ q=>q
  rintro rfl
  rcases hc with rfl | hc
  ·rw [hfree] at e;cases e
  ·rw [hfree] at hc;cases hc
 rcases hx with hk | hk
 ·refine wpAny_storeName_local hk hn (fun h' hn' hs=>?_) hcls
  obtain⟨oL,_,_,hoL,_⟩:=id hn
  refine h _ ⟨I.ok,I.os,I.bare,⟨fun b o e n hb hx=>?_,fun b o e n hb hx=>?_,I.base.free,fun b o e hx=>?_,I.base.tups,I.base.frzs,I.base.tbls⟩,⟨_,hn',fun j y v' e1 e2 e3=>?_⟩,fun y c e=>?_,I.free,I.freeC,fun p hp=>?_,tracked ⟨oL,hoL,I.free⟩ hs,by simpa using I.len⟩ ⟨_,hs,.inl rfl⟩
  ·exact(hs.2 b (Nat.ne_of_lt (Nat.lt_of_lt_of_le (Heap.lt_size e) I.ok.above))).trans (I.base.keep b o e n hb hx)
  ·obtain⟨sl,e1⟩:=I.base.slot b o e n hb hx
   exact⟨sl,(hs.2 b (Nat.ne_of_lt (Nat.lt_of_lt_of_le (Heap.lt_size e) I.ok.above))).trans e1⟩
  ·obtain⟨o',e1⟩:=I.base.there b o e hx
   exact⟨o',(hs.2 b (Nat.ne_of_lt (Nat.lt_of_lt_of_le (Heap.lt_size e) I.ok.above))).trans e1⟩
  ·by_cases hj:j=i
   ·subst hj
    rw [hi] at e1;cases e1
    rw [List.getElem?_set_self hiσ] at e2
    cases e2
    exact⟨u,r,.inl ⟨hk,by simp⟩⟩
   ·rw [List.getElem?_set_ne (Ne.symm hj)] at e2
    obtain⟨u',r',q⟩:=hl j y v' e1 e2 e3
    refine⟨u',r',?_⟩
    rcases q with ⟨k,e⟩ | ⟨k,c,e,z⟩
    ·refine .inl ⟨k,?_⟩
     have:y≠x:=fun e=>hj (Dl hN e1 (e ▸ hi))
     simp [this,e]
    ·exact .inr ⟨k,c,e,z.sameBut hs (cne y c e)⟩
  ·obtain⟨w',z⟩:=I.cell y c e
   exact⟨w',z.sameBut hs (cne y c e)⟩
  ·obtain⟨e,n,ne,nf,d⟩:=I.pin p hp
   exact⟨(hs.2 p.1 ne).trans e,n,ne,nf,d⟩
 ·have hfn:X.fn x=true:=by
   rcases hf with z | z
   ·exact z
   ·rw [z] at hk;cases hk
  obtain⟨c,hc⟩:=I.ok.has x (.inl hk)
  obtain⟨w',z⟩:=I.cell x c hc
  refine wpAny_storeName_cell I.ok.kind hk hc z (fun h' hc' hs=>?_)
  obtain⟨oc,hoc,hocd⟩:=id z
  refine h { s with heap:=h' } ⟨I.ok,I.os,I.bare,⟨fun b o e n hb hx=>?_,fun b o e n hb hx=>?_,I.base.free,fun b o e hx=>?_,I.base.tups,I.base.frzs,I.base.tbls⟩,⟨m,hn.sameBut hs (Ne.symm (cne x c hc)),fun j y v' e1 e2 e3=>?_⟩,fun y c' e=>?_,I.free,I.freeC,fun p hp=>?_,tracked ⟨oc,hoc,I.freeC x c hc⟩ hs,by simpa using I.len⟩ ⟨c,hs,.inr hc⟩
  ·exact(hs.2 b (Nat.ne_of_lt (Nat.lt_of_lt_of_le (Heap.lt_size e) (I.ok.cab x c hfn hc)))).trans (I.base.keep b o e n hb hx)
  ·obtain⟨sl,e1⟩:=I.base.slot b o e n hb hx
   exact⟨sl,(hs.2 b (Nat.ne_of_lt (Nat.lt_of_lt_of_le (Heap.lt_size e) (I.ok.cab x c hfn hc)))).trans e1⟩
  ·obtain⟨o',e1⟩:=I.base.there b o e hx
   exact⟨o',(hs.2 b (Nat.ne_of_lt (Nat.lt_of_lt_of_le (Heap.lt_size e) (I.ok.cab x c hfn hc)))).trans e1⟩
  ·by_cases hj:j=i
   ·subst hj
    rw [hi] at e1;cases e1
    rw [List.getElem?_set_self hiσ] at e2
    cases e2
    exact⟨u,r,.inr ⟨.inl hk,c,hc,hc'⟩⟩
   ·rw [List.getElem?_set_ne (Ne.symm hj)] at e2
    obtain⟨u',r',q⟩:=hl j y v' e1 e2 e3
    refine⟨u',r',?_⟩
    rcases q with q | ⟨k,c',e,z'⟩
    ·exact .inl q
    ·refine .inr ⟨k,c',e,z'.sameBut hs ?_⟩
     rintro rfl
     exact hj (Dl hN e1 (I.ok.inj _ _ _ e hc ▸ hi))
  ·by_cases hcc:c'=c
   ·subst hcc;exact⟨_,hc'⟩
   ·obtain⟨w2,z2⟩:=I.cell y c' e
    exact⟨w2,z2.sameBut hs hcc⟩
  ·obtain⟨e,n,ne,nf,d⟩:=I.pin p hp
   refine⟨(hs.2 p.1 ?_).trans e,n,ne,nf,d⟩
   intro q
   rw [q,hoc] at e
   have q':oc=p.2:=Option.some.inj e
   exact d w' (by rw [<-q'];exact hocd)
theorem Ez {M:Model} {A:Around} {E:Value->Shared->Prop} {i:Nat} {x:Str} {v:V} {u:Value} {Q:Unit->Shared->Prop} (I:Inv X pins σ H s) (hN:X.N.Nodup) (hi:X.N[i]?=some x) (hx:Loc X.env.scope x) (r:RelV v u)
  (h:∀s',Inv X pins (σ.set i (some v)) H s'->Q () s') (hf:X.fn x=true∨X.env.scope.names.lookup x=some .local:=by first | exact .inl rfl | exact .inr rfl | assumption):wpAny M A (storeName X.env x u) Q E s:=
 zW I hN hi hx r (fun s' I' _=>h s' I') hf
theorem Inv.call' {s':Shared} {ch:List Addr} (I:Inv X pins σ H s) (ho:s'.os=s.os) (u:Un (frs X.stack) ch H H' s.heap s'.heap) (hok:uz X.prog X.w H' s'.heap) (hg:AllBare s'.gens)
  (hch:∀b∈ch,(b∈X.ex∨X.s₀.heap.objs.size<=b)/\b≠X.env.locals/\(∀x c,X.env.cells.lookup x=some c->c≠b)/\∀p∈X.pn ++ pins,p.1≠b):Inv X pins σ H' s':=by
 obtain⟨h',g',d',t',o'⟩:=s'
 have e:o'=s.os:=ho
 subst e
 exact I.call (g':=g') (t':=t') (d':=d') u hok hg hch
end
noncomputable abbrev XK:=Value->Option Addr->Hp->Prop
noncomputable abbrev St:=List (Option V)
noncomputable abbrev VK:=V->Hp->Prop
noncomputable abbrev TE:=St->Hp->VK->Prop
noncomputable abbrev TT:=St->Hp->(Bool->Hp->Prop)->Prop
noncomputable abbrev TA:=St->Hp->(List V->Hp->Prop)->Prop
structure Ends where
 nx:St->Hp->Prop
 rt:VK
 bk:St->Hp->Prop:=fun _ _=>False
 ct:St->Hp->Prop:=fun _ _=>False
noncomputable abbrev TS:=Ends->St->Hp->Prop
noncomputable def EP (X:Cx) (pins:List (Addr×Obj)) (σ:St) (Q:VK) (u:Value) (s':Shared):Prop:=∃v H',Inv X pins σ H' s'/\RelV v u/\Q v H'
noncomputable def TP (X:Cx) (pins:List (Addr×Obj)) (σ:St) (Q:Bool->Hp->Prop) (b:Bool) (s':Shared):Prop:=∃H',Inv X pins σ H' s'/\Q b H'
noncomputable def AP (X:Cx) (pins:List (Addr×Obj)) (σ:St) (Q:List V->Hp->Prop) (us:List Value) (s':Shared):Prop:=∃vs H',Inv X pins σ H' s'/\Vals vs us/\Q vs H'
noncomputable def SP (X:Cx) (pins:List (Addr×Obj)) (D:Ends) (f:Flow) (s':Shared):Prop:=
 match f with
 | .next=>∃σ' H',Inv X pins σ' H' s'/\D.nx σ' H'
 | .brk=>∃σ' H',Inv X pins σ' H' s'/\D.bk σ' H'
 | .cont=>∃σ' H',Inv X pins σ' H' s'/\D.ct σ' H'
 | .ret u=>∃v σ' H',Inv X pins σ' H' s'/\RelV v u/\D.rt v H'
noncomputable def PE (X:Cx) (e:Expr) (t:TE):Prop:=
 ∀(pins:List (Addr×Obj)) (s:Shared) (σ:St) (H:Hp) (Q:VK),Inv X pins σ H s->t σ H Q->wpAny (model X.prog X.w) X.A (eval e X.env) (EP X pins σ Q) X.xe s
noncomputable def PT (X:Cx) (e:Expr) (t:TT):Prop:=
 ∀(pins:List (Addr×Obj)) (s:Shared) (σ:St) (H:Hp) (Q:Bool->Hp->Prop),Inv X pins σ H s->t σ H Q->wpAny (model X.prog X.w) X.A (isTrue e X.env (eval e X.env)) (TP X pins σ Q) X.xe s
noncomputable def PW (X:Cx) (e:Expr) (t:TT):Prop:=
 ∀(whole:Sem Value) (pins:List (Addr×Obj)) (s:Shared) (σ:St) (H:Hp) (Q:Bool->Hp->Prop),Inv X pins σ H s->t σ H Q->wpAny (model X.prog X.w) X.A (isTrue e X.env whole) (TP X pins σ Q) X.xe s
theorem PW.pt {X:Cx} {e:Expr} {t:TT} (h:PW X e t):PT X e t:=h _
noncomputable def PA (X:Cx) (es:List Expr) (t:TA):Prop:=
 ∀(pos:Pos) (pins:List (Addr×Obj)) (s:Shared) (σ:St) (H:Hp) (Q:List V->Hp->Prop),Inv X pins σ H s->t σ H Q->wpAny (model X.prog X.w) X.A (spliced (backTo pos (starEach es X.env))) (AP X pins σ Q) X.xe s
noncomputable def PS (X:Cx) (st:Stmt) (t:TS):Prop:=
 ∀(pins:List (Addr×Obj)) (s:Shared) (σ:St) (H:Hp) (D:Ends),Inv X pins σ H s->t D σ H->wpAny (model X.prog X.w) X.A (exec st X.env) (SP X pins D) X.xe s
noncomputable def KZ (X:Cx) (st:List Stmt) (t:TS):Prop:=
 ∀(pins:List (Addr×Obj)) (s:Shared) (σ:St) (H:Hp) (D:Ends),Inv X pins σ H s->t D σ H->wpAny (model X.prog X.w) X.A (execs st X.env) (SP X pins D) X.xe s
theorem dZ {α:Type} {t:Sem α} {Q Q':α->Shared->Prop} {M:Model} {A:Around} {E:Value->Shared->Prop} {s:Shared} (h:wpAny M A t Q E s) (hQ:∀a s,Q a s->Q' a s):wpAny M A t Q' E s:=wpAny_mono h hQ fun _ _ x=>x
section
variable {X:Cx}
inductive VB (i:Nat) (σ:St) (H:Hp) (Q:VK):Prop where
 | mk:∀v,σ[i]?=some (some v)->Q v H->VB i σ H Q
noncomputable def Xk (i:Nat):TE:=fun σ H Q=>VB i σ H Q
noncomputable def tC (v:V):TE:=fun _ H Q=>Q v H
theorem V9 {i:Nat} {x:Str} {pos:Pos} (hN:X.N[i]?=some x) (hv:YT X.env.scope x) (hd:(x == ("__debug__" :Str))=false:=by decide) (hcd:(x == ("__classdict__" :Str))=false:=by decide):PE X (.Name x pos) (Xk i):=by
 intro pins s σ H Q I h
 obtain⟨v,e,h⟩:=h
 obtain⟨m,hn,hl⟩:=I.loc
 obtain⟨u,r,l⟩:=hl i x v hN e hv
 have fin:EP X pins σ Q u s:=⟨v,H,I,r,h⟩
 rcases l with ⟨hk,hm⟩ | ⟨hk,c,hc,hcell⟩
 ·exact wpAny_Name (wpAny_loadName_local I.ok.kind hk hn hm fin) hd
 ·rcases hk with hk | hk
  ·exact wpAny_Name (wpAny_loadName_cell I.ok.kind hk hc hcell fin) hd
  ·exact wpAny_Name (wpAny_loadName_free I.ok.kind hk hc hcell fin hcd) hd
theorem az {i j pos}:PE X (.Constant (.int i) j pos) (tC (.int i)):=fun _ _ _ H _ I h=>wpAny_Constant_int ⟨.int i,H,I.tok _,⟨_,rfl⟩,h⟩
theorem nM {b j pos}:PE X (.Constant (.bool b) j pos) (tC (.bl b)):=fun _ _ _ H _ I h=>Constant_bool ⟨.bl b,H,I,rfl,h⟩
theorem pC {j pos}:PE X (.Constant .none j pos) (tC .non):=fun _ _ _ H _ I h=>Constant_none ⟨.non,H,I,rfl,h⟩
theorem bF {x j pos}:PE X (.Constant (.str x) j pos) (tC (.str x)):=fun _ _ _ H _ I h=>Calls.Constant_str ⟨.str x,H,I.tok _,⟨_,rfl⟩,h⟩
noncomputable def Gl (X:Cx) (x:Str):Prop:=X.env.kindOf x=some .globalImplicit
theorem vW {E:Value->Shared->Prop} {pins:List (Addr×Obj)} {s:Shared} {σ:St} {H:Hp} {x:Str} {u:Value} {pos:Pos} {Q:Value->Shared->Prop} (I:Inv X pins σ H s) (hg:Gl X x) (hm:X.mg x=some u) (h:Q u s)
  (hd:(x == ("__debug__" :Str))=false:=by decide):wpAny (model X.prog X.w) X.A (eval (.Name x pos) X.env) Q E s:=
 Calls.Name_function_global I.ok.kind hg (Calls.loadGlobal_global (by rw [I.ok.glob];exact I.mod.glob.keeps I.bk) hm h) hd
theorem Fv {E:Value->Shared->Prop} {pins:List (Addr×Obj)} {s:Shared} {σ:St} {H:Hp} {x:Str} {u:Value} {pos:Pos} {Q:Value->Shared->Prop} (I:Inv X pins σ H s) (hg:Gl X x) (hm:X.mg x=none) (hv:bootBuiltins x=some u) (h:Q u s)
  (hn:x≠ "__name__" :=by decide) (hd:(x == ("__debug__" :Str))=false:=by decide):wpAny (model X.prog X.w) X.A (eval (.Name x pos) X.env) Q E s:=by
 obtain⟨mb,h1,h2⟩:=I.mod.blt
 exact Calls.Name_function_global I.ok.kind hg (Calls.loadGlobal_builtin (by rw [I.ok.glob];exact I.mod.glob.keeps I.bk) hm (by rw [I.ok.blt];exact h1.keeps I.bk) ((h2 x hn).trans hv) h) hd
theorem Cz {x:Str} {v:V} {u:Value} {pos:Pos} (hg:Gl X x) (hm:X.mg x=some u) (r:RelV v u) (hd:(x == ("__debug__" :Str))=false:=by decide):PE X (.Name x pos) (tC v):=
 fun _ _ _ H _ I h=>vW I hg hm ⟨v,H,I,r,h⟩ hd
theorem Tj {x:Str} {v:V} {u:Value} {pos:Pos} (hg:Gl X x) (hm:X.mg x=none) (hv:bootBuiltins x=some u) (r:RelV v u) (hn:x≠ "__name__" :=by decide) (hd:(x == ("__debug__" :Str))=false:=by decide):PE X (.Name x pos) (tC v):=
 fun _ _ _ H _ I h=>Fv I hg hm hv ⟨v,H,I,r,h⟩ hn hd
variable {a b:Expr} {ta tb:TE} {pos:Pos}
noncomputable def PC (X:Cx) (op:CmpOp) (a b:Expr) (t:TE):Prop:=
 ∀(pins:List (Addr×Obj)) (s:Shared) (σ:St) (H:Hp) (Q:VK),Inv X pins σ H s->t σ H Q->
  wpAny (model X.prog X.w) X.A (eval a X.env) (fun v s₁=>wpAny (model X.prog X.w) X.A (eval b X.env) (fun u s₂=>wpAny (model X.prog X.w) X.A (compareOp op v u) (EP X pins σ Q) X.xe s₂) X.xe s₁) X.xe s
theorem JR (b:Expr) {op:CmpOp} (h:op≠.In) (h2:op≠.NotIn):behindInMarks op b=false:=by
 have e1:(op == CmpOp.In)=false:=by cases op <;> first | rfl | exact absurd rfl h
 have e2:(op == CmpOp.NotIn)=false:=by cases op <;> first | rfl | exact absurd rfl h2
 cases b <;> simp [behindInMarks,e1,e2]
noncomputable def ZG (ta:TE):TE:=fun σ H Q=>ta σ H fun x H1=>Q (.bl (decide (x=.non))) H1
noncomputable def XJ (ta:TE):TE:=fun σ H Q=>ta σ H fun x H1=>Q (.bl (!decide (x=.non))) H1
theorem RelV.none_iff {x:V} {v:Value} (r:RelV x v):(v == Value.none)=decide (x=.non):=by
 cases x with
 | non=>cases r;rfl
 | bl _=>cases r;rfl
 | int _=>obtain⟨t,rfl⟩:=r;rfl
 | str _=>obtain⟨t,rfl⟩:=r;rfl
 | byt _=>obtain⟨t,rfl⟩:=r;rfl
 | flt _=>obtain⟨t,rfl⟩:=r;rfl
 | ref _=>cases r;rfl
 | ty _=>cases r;rfl
theorem xO {j pos'} (ha:PE X a ta):PC X .Is a (.Constant .none j pos') (ZG ta):=by
 intro pins s σ H Q I h
 refine dZ (ha pins s σ H _ I h) fun v s1 hpt=>?_
 obtain⟨x,H1,I1,r1,q1⟩:=hpt
 exact Constant_none (is_none_gen ⟨.bl _,H1,I1,by rw [r1.none_iff];rfl,q1⟩)
theorem Ck {j pos'} (ha:PE X a ta):PC X .IsNot a (.Constant .none j pos') (XJ ta):=by
 intro pins s σ H Q I h
 refine dZ (ha pins s σ H _ I h) fun v s1 hpt=>?_
 obtain⟨x,H1,I1,r1,q1⟩:=hpt
 exact Constant_none (isnot_none_gen ⟨.bl _,H1,I1,by rw [r1.none_iff];rfl,q1⟩)
inductive ZW (Q:Bool->Hp->Prop) (x:V) (H1:Hp):Prop where
 | mk:∀c,x=.bl c->Q c H1->ZW Q x H1
noncomputable def tB (t:TE):TT:=fun σ H Q=>t σ H fun x H1=>ZW Q x H1
theorem Je {op:CmpOp} {t:TE} (h:PC X op a b t) (h1:behindInMarks op b=false:=by first | exact JR _ (by decide) (by decide) | rfl):PE X (.Compare a [op] [b] pos) t:=fun pins s σ H Q I hw=>wpAny_Compare1 (h pins s σ H Q I hw) h1
theorem iH {op:CmpOp} {t:TE} (h:PC X op a b t) (h1:behindInMarks op b=false:=by first | exact JR _ (by decide) (by decide) | rfl):PT X (.Compare a [op] [b] pos) (tB t):=by
 intro pins s σ H Q I hw
 refine wpAny_isTrue_Compare1 (dZ (h pins s σ H _ I hw) fun v s1 h1=>dZ h1 fun u s2 h2=>dZ h2 fun c s3 hpt=>?_) h1
 obtain⟨x,H1,I1,r1,q1⟩:=hpt
 obtain⟨d,rfl,q⟩:=q1
 cases r1
 exact wpAny_truthy_bool ⟨H1,I1,q⟩
theorem jL {e:Expr} {t:TE} (h:PE X e t) (he:∀whole,isTrue e X.env whole=(do let v <-whole;standAt e.pos;holding [v] (truthy v)):=by intro _;rfl):PT X e (tB t):=by
 intro pins s σ H Q I hw
 refine isTrue_plain (dZ (h pins s σ H _ I hw) fun v s1 ⟨x,H1,I1,r1,q1⟩=>?_) (he _)
 obtain⟨d,rfl,q⟩:=q1
 cases r1
 exact wpAny_truthy_bool ⟨H1,I1,q⟩
variable {tA tB':TT} {rest:List Expr}
noncomputable def Y6 (t u:TT):TT:=fun σ H Q=>t σ H fun c H1=>if c=true then u σ H1 Q else Q false H1
noncomputable def tOr (t u:TT):TT:=fun σ H Q=>t σ H fun c H1=>if c=true then Q true H1 else u σ H1 Q
noncomputable def Zr (t:TT):TT:=fun σ H Q=>t σ H fun c H1=>Q (!c) H1
theorem yj (ha:PT X a tA):PW X (.BoolOp .And [a] pos) tA:=by
 intro wh pins s σ H Q I h
 refine isTrue_and (dZ (ha pins s σ H Q I h) fun c s1 e=>?_)
 cases c with
 | true=>exact isTrue_and_nil e
 | false=>exact e
theorem vI (ha:PT X a tA):PW X (.BoolOp .Or [a] pos) tA:=by
 intro wh pins s σ H Q I h
 refine isTrue_or (dZ (ha pins s σ H Q I h) fun c s1 e=>?_)
 cases c with
 | false=>exact isTrue_or_nil e
 | true=>exact e
theorem zN (ha:PT X a tA) (hb:PW X (.BoolOp .And (b:: rest) pos) tB'):PW X (.BoolOp .And (a:: b:: rest) pos) (Y6 tA tB'):=by
 intro wh pins s σ H Q I h
 refine isTrue_and (dZ (ha pins s σ H _ I h) fun c s1 hpt=>?_)
 obtain⟨H1,I1,q1⟩:=hpt
 cases c with
 | true=>exact hb wh pins s1 σ H1 Q I1 q1
 | false=>exact⟨H1,I1,q1⟩
theorem Aq (ha:PT X a tA) (hb:PW X (.BoolOp .Or (b:: rest) pos) tB'):PW X (.BoolOp .Or (a:: b:: rest) pos) (tOr tA tB'):=by
 intro wh pins s σ H Q I h
 refine isTrue_or (dZ (ha pins s σ H _ I h) fun c s1 hpt=>?_)
 obtain⟨H1,I1,q1⟩:=hpt
 cases c with
 | true=>exact⟨H1,I1,q1⟩
 | false=>exact hb wh pins s1 σ H1 Q I1 q1
theorem lL (ha:PT X a tA):PT X (.UnaryOp .Not a pos) (Zr tA):=by
 intro pins s σ H Q I h
 exact isTrue_not (ha pins s σ H (fun c H1=>Q (!c) H1) I h)
inductive QW (tb:TE) (σ:St) (Q:VK) (x:V) (H1:Hp):Prop where
 | mk:∀c,x=.bl c->(if c=true then tb σ H1 Q else Q (.bl false) H1)->QW tb σ Q x H1
noncomputable def Ye (ta tb:TE):TE:=fun σ H Q=>ta σ H fun x H1=>QW tb σ Q x H1
inductive Vq (tb:TE) (σ:St) (Q:VK) (x:V) (H1:Hp):Prop where
 | mk:∀c,x=.bl c->(if c=true then Q (.bl true) H1 else tb σ H1 Q)->Vq tb σ Q x H1
noncomputable def ZM (ta tb:TE):TE:=fun σ H Q=>ta σ H fun x H1=>Vq tb σ Q x H1
inductive SN (Q:VK) (x:V) (H1:Hp):Prop where
 | mk:∀c,x=.bl c->Q (.bl (!c)) H1->SN Q x H1
noncomputable def Yd (ta:TE):TE:=fun σ H Q=>ta σ H fun x H1=>SN Q x H1
theorem zP {op} {t:TE} (h:PE X a t):PE X (.BoolOp op [a] pos) t:=fun pins s σ H Q I hw=>BoolOp_one (h pins s σ H Q I hw)
theorem zJ (ha:PE X a ta) (hb:PE X (.BoolOp .And (b:: rest) pos) tb):PE X (.BoolOp .And (a:: b:: rest) pos) (Ye ta tb):=by
 intro pins s σ H Q I h
 refine BoolOp_and (dZ (ha pins s σ H _ I h) fun v s1 hpt=>?_)
 obtain⟨x,H1,I1,r1,q1⟩:=hpt
 obtain⟨c,rfl,q1⟩:=q1
 cases r1
 refine wpAny_truthy_bool ?_
 cases c with
 | true=>exact hb pins s1 σ H1 Q I1 q1
 | false=>exact⟨.bl false,H1,I1,rfl,q1⟩
theorem Xn (ha:PE X a ta) (hb:PE X (.BoolOp .Or (b:: rest) pos) tb):PE X (.BoolOp .Or (a:: b:: rest) pos) (ZM ta tb):=by
 intro pins s σ H Q I h
 refine BoolOp_or (dZ (ha pins s σ H _ I h) fun v s1 hpt=>?_)
 obtain⟨x,H1,I1,r1,q1⟩:=hpt
 obtain⟨c,rfl,q1⟩:=q1
 cases r1
 refine wpAny_truthy_bool ?_
 cases c with
 | false=>exact hb pins s1 σ H1 Q I1 q1
 | true=>exact⟨.bl true,H1,I1,rfl,q1⟩
theorem Wz (ha:PE X a ta):PE X (.UnaryOp .Not a pos) (Yd ta):=by
 intro pins s σ H Q I h
 refine UnaryOp_ (dZ (ha pins s σ H _ I h) fun v s1 hpt=>?_)
 obtain⟨x,H1,I1,r1,q1⟩:=hpt
 obtain⟨c,rfl,q1⟩:=q1
 cases r1
 exact not_of (wpAny_truthy_bool ⟨.bl (!c),H1,I1,rfl,q1⟩)
noncomputable def tIf (t:TT) (ta tb:TE):TE:=fun σ H Q=>t σ H fun c H1=>if c=true then ta σ H1 Q else tb σ H1 Q
theorem yN {c:Expr} (hc:PT X c tA) (ha:PE X a ta) (hb:PE X b tb):PE X (.IfExp c a b pos) (tIf tA ta tb):=by
 intro pins s σ H Q I h
 refine wpAny_IfExp (dZ (hc pins s σ H _ I h) fun d s1 hpt=>?_)
 obtain⟨H1,I1,q1⟩:=hpt
 cases d with
 | true=>exact ha pins s1 σ H1 Q I1 q1
 | false=>exact hb pins s1 σ H1 Q I1 q1
end
noncomputable def bR (K:PySem.W.Frag) (H:Hp) (a:Addr) (xs:List V):Prop:=
 Rd H a (.lst xs)∨
  ∃(o:Obj) (its:Array Value) (n:Nat),K.lookup a=some o/\o.cls=.type "list" /\o.dict=none/\o.data=.seq its n/\its.size<=sizeLine/\Vals xs its.toList
noncomputable def fG (K:PySem.W.Frag) (H:Hp) (a:Addr) (xs:List V):Prop:=
 Rd H a (.tup xs)∨
  ∃(o:Obj) (its:Array Value) (n:Nat),K.lookup a=some o/\o.cls=.type "tuple" /\o.data=.seq its n/\its.size<=sizeLine/\Vals xs its.toList
noncomputable def Ze:Value->Option V
 | .none=>some .non
 | .bool b=>some (.bl b)
 | .int i _=>some (.int i)
 | .str x _=>some (.str x)
 | .bytes b _=>some (.byt b)
 | .float b _=>some (.flt b)
 | .ref a=>some (.ref a)
 | .type n=>some (.ty n)
 | _=>none
theorem RelV.abs {x:V} {u:Value} (r:RelV x u):Ze u=some x:=by
 cases x with
 | non=>cases r;rfl
 | bl _=>cases r;rfl
 | int _=>obtain⟨t,rfl⟩:=r;rfl
 | str _=>obtain⟨t,rfl⟩:=r;rfl
 | byt _=>obtain⟨t,rfl⟩:=r;rfl
 | flt _=>obtain⟨t,rfl⟩:=r;rfl
 | ref _=>cases r;rfl
 | ty _=>cases r;rfl
theorem RelV.inj {x y:V} {u:Value} (r:RelV x u) (q:RelV y u):x=y:=Option.some.inj (r.abs.symm.trans q.abs)
theorem Vals.inj:∀{xs ys:List V} {us:List Value},Vals xs us->Vals ys us->xs=ys
 | _,_,_,.nil,.nil=>rfl
 | _,_,_,.cons r t,.cons r' t'=>by rw [r.inj r',Vals.inj t t']
section
variable {X:Cx} {pins:List (Addr×Obj)} {σ:St} {H:Hp} {s:Shared} {a:Addr} {xs ys:List V}
theorem bR.of {K:PySem.W.Frag} (h:H a=some (.lst xs)):bR K H a xs:=.inl (.inl h)
theorem fG.of {K:PySem.W.Frag} (h:H a=some (.tup xs)):fG K H a xs:=.inl (.inl h)
theorem Inv.list (I:Inv X pins σ H s) (h:bR X.K H a xs):∃its:List Value,Vals xs its/\PlainL s.heap a its.toArray/\xs.length<=sizeLine:=by
 rcases h with h | ⟨o,its,n,hk,hc,hd,hs,hz,r⟩
 ·obtain⟨z,its,n,r,e⟩:=h.ok I.hok
  exact⟨its,r,⟨_,n,e,rfl,rfl,rfl⟩,z⟩
 ·refine⟨its.toList,r,⟨o,n,I.kIn a o hk,hc,hd,by simpa using hs⟩,?_⟩
  have e:=r.length
  simp only [Array.length_toList] at e
  omega
theorem Inv.tuple (I:Inv X pins σ H s) (h:fG X.K H a xs):∃its:List Value,Vals xs its/\IsTup s.heap a its.toArray/\xs.length<=sizeLine:=by
 rcases h with h | ⟨o,its,n,hk,hc,hs,hz,r⟩
 ·obtain⟨z,its,r,p⟩:=h.ok I.hok
  exact⟨its,r,p,z⟩
 ·refine⟨its.toList,r,⟨o,I.kIn a o hk,hc,n,by simpa using hs⟩,?_⟩
  have e:=r.length
  simp only [Array.length_toList] at e
  omega
theorem Inv.list_inj (I:Inv X pins σ H s) (h:bR X.K H a xs) (h':bR X.K H a ys):xs=ys:=by
 obtain⟨its,r,⟨o,n,e,_,_,d⟩,_⟩:=I.list h
 obtain⟨its',r',⟨o',n',e',_,_,d'⟩,_⟩:=I.list h'
 rw [e] at e';cases e'
 rw [d] at d'
 injection d' with d1 _
 have:its=its':=by simpa using congrArg Array.toList d1
 subst this
 exact r.inj r'
theorem Inv.tuple_inj (I:Inv X pins σ H s) (h:fG X.K H a xs) (h':fG X.K H a ys):xs=ys:=by
 obtain⟨its,r,⟨o,e,_,n,d⟩,_⟩:=I.tuple h
 obtain⟨its',r',⟨o',e',_,n',d'⟩,_⟩:=I.tuple h'
 rw [e] at e';cases e'
 rw [d] at d'
 injection d' with d1 _
 have:its=its':=by simpa using congrArg Array.toList d1
 subst this
 exact r.inj r'
end
noncomputable abbrev Cx.wish (X:Cx) (E:Value->Shared->Prop):Cx:={ X with xe:=E }
noncomputable abbrev Cx.nox (X:Cx):Cx:=X.wish fun _ _=>False
theorem Cx.Ok.wish {X:Cx} (ok:X.Ok) (E:Value->Shared->Prop):(X.wish E).Ok:=
 ⟨ok.mod,ok.kind,ok.glob,ok.blt,ok.above,ok.inj,ok.has,ok.cab,ok.hd,ok.frames,ok.stk,ok.exf,ok.bs,ok.bsz,ok.noex,ok.exfs,ok.funs,ok.frf⟩
theorem Cx.Ok.unwish {X:Cx} {E:Value->Shared->Prop} (ok:(X.wish E).Ok):X.Ok:=
 ⟨ok.mod,ok.kind,ok.glob,ok.blt,ok.above,ok.inj,ok.has,ok.cab,ok.hd,ok.frames,ok.stk,ok.exf,ok.bs,ok.bsz,ok.noex,ok.exfs,ok.funs,ok.frf⟩
section
variable {X:Cx} {pins:List (Addr×Obj)} {σ:St} {H:Hp} {s:Shared} {E:Value->Shared->Prop}
theorem Inv.wish (I:Inv X pins σ H s) (E:Value->Shared->Prop):Inv (X.wish E) pins σ H s:=⟨I.ok.wish E,I.os,I.bare,I.base,I.loc,I.cell,I.free,I.freeC,I.pin,I.hok,I.len⟩
theorem Inv.unwish (I:Inv (X.wish E) pins σ H s):Inv X pins σ H s:=⟨I.ok.unwish,I.os,I.bare,I.base,I.loc,I.cell,I.free,I.freeC,I.pin,I.hok,I.len⟩
theorem SP.unwish {D:Ends} {f:Flow} {s':Shared} (h:SP (X.wish E) pins D f s'):SP X pins D f s':=by
 cases f with
 | next=>obtain⟨σ',H',I,q⟩:=h;exact⟨σ',H',I.unwish,q⟩
 | brk=>obtain⟨σ',H',I,q⟩:=h;exact⟨σ',H',I.unwish,q⟩
 | cont=>obtain⟨σ',H',I,q⟩:=h;exact⟨σ',H',I.unwish,q⟩
 | ret u=>obtain⟨v,σ',H',I,r,q⟩:=h;exact⟨v,σ',H',I.unwish,r,q⟩
theorem KZ.nox {st:List Stmt} {t:TS} (h:KZ X.nox st t):KZ X st t:=fun pins s σ H D I hw=>
 wpAny_mono (h pins s σ H D (I.wish _) hw) (fun _ _ q=>q.unwish) fun _ _ z=>False.elim z
end
section
variable {X:Cx} {st:Stmt} {rest:List Stmt} {t u:TS} {e:Expr} {te:TE} {pos:Pos}
noncomputable def YF:TS:=fun D σ H=>D.nx σ H
noncomputable def Ab (t u:TS):TS:=fun D σ H=>t { D with nx:=u D } σ H
theorem bu:KZ X [] YF:=fun _ _ σ H _ I h=>wpAny_execs_nil ⟨σ,H,I,h⟩
theorem au (h1:PS X st t) (h2:KZ X rest u):KZ X (st:: rest) (Ab t u):=by
 intro pins s σ H D I h
 refine wpAny_execs_cons (dZ (h1 pins s σ H { D with nx:=u D } I h) fun f s1 q=>?_)
 cases f with
 | next=>
  obtain⟨σ',H',I',q⟩:=q
  exact h2 pins s1 σ' H' D I' q
 | ret v=>exact q
 | brk=>exact q
 | cont=>exact q
theorem aA (h1:PS X st t):KZ X [st] t:=by
 intro pins s σ H D I h
 refine wpAny_execs_cons (dZ (h1 pins s σ H D I h) fun f s1 q=>?_)
 cases f with
 | next=>exact wpAny_execs_nil q
 | ret v=>exact q
 | brk=>exact q
 | cont=>exact q
theorem Inv.quiet {pins:List (Addr×Obj)} {σ:St} {H:Hp} {s:Shared} (I:Inv X pins σ H s):interactive X.env=false:=by simp [interactive,I.ok.kind]
noncomputable def XS (te:TE):TS:=fun D σ H=>te σ H fun _ H1=>D.nx σ H1
theorem bO (he:PE X e te) (hs:swapsWith e none pos.line X.env=pure false:=by rfl):PS X (.Expr e pos) (XS te):=by
 intro pins s σ H D I h
 exact wpAny_Expr_any (dZ (he pins s σ H _ I h) fun v s1 ⟨x,H1,I1,r1,q1⟩=>⟨σ,H1,I1,q1⟩) I.quiet hs
noncomputable def Zy (te:TE):TS:=fun D σ H=>te σ H D.rt
theorem aN (he:PE X e te):PS X (.Return (some e) pos) (Zy te):=by
 intro pins s σ H D I h
 exact wpAny_Return_some (dZ (he pins s σ H _ I h) fun v s1 ⟨x,H1,I1,r1,q1⟩=>⟨x,σ,H1,I1,r1,q1⟩)
noncomputable def Zd (c:TT) (t u:TS):TS:=fun D σ H=>c σ H fun b H1=>if b=true then t D σ H1 else u D σ H1
theorem bU {c:Expr} {a b:List Stmt} {tc:TT} (hc:PT X c tc) (ha:KZ X a t) (hb:KZ X b u):PS X (.If c a b pos) (Zd tc t u):=by
 intro pins s σ H D I h
 refine wpAny_If (dZ (hc pins s σ H _ I h) fun d s1 hpt=>?_)
 obtain⟨H1,I1,q1⟩:=hpt
 cases d with
 | true=>exact ha pins s1 σ H1 D I1 q1
 | false=>exact hb pins s1 σ H1 D I1 q1
noncomputable def WT:TS:=fun _ _ _=>False
theorem fP:PS X st WT:=fun _ _ _ _ _ _ h=>h.elim
end
noncomputable abbrev TG:=V->St->Hp->(St->Hp->Prop)->Prop
noncomputable abbrev Pa:=List V->St->Hp->(St->Hp->Prop)->Prop
noncomputable def PG (X:Cx) (target:Expr) (t:TG):Prop:=
 ∀(pins:List (Addr×Obj)) (s:Shared) (σ:St) (H:Hp) (v:V) (u:Value) (Q:St->Hp->Prop),Inv X pins σ H s->RelV v u->t v σ H Q->
  wpAny (model X.prog X.w) X.A (assign target X.env u) (fun _ s'=>∃σ' H',Inv X pins σ' H' s'/\Q σ' H') X.xe s
noncomputable def Xc (X:Cx) (ts:List Expr) (t:Pa):Prop:=
 ∀(pins:List (Addr×Obj)) (s:Shared) (σ:St) (H:Hp) (vs:List V) (us:List Value) (Q:St->Hp->Prop),Inv X pins σ H s->Vals vs us->t vs σ H Q->
  wpAny (model X.prog X.w) X.A (assignInOrder ((assignEach ts X.env).map (·.2)) us) (fun _ s'=>∃σ' H',Inv X pins σ' H' s'/\Q σ' H') X.xe s
section
variable {X:Cx} {pos:Pos}
noncomputable def ym (i:Nat):TG:=fun v σ H Q=>Q (σ.set i (some v)) H
theorem iu {i:Nat} {x:Str} (hN:X.N.Nodup) (hi:X.N[i]?=some x) (hx:Loc X.env.scope x) (hf:X.fn x=true∨X.env.scope.names.lookup x=some .local:=by first | exact .inl rfl | exact .inr rfl | assumption):PG X (.Name x pos) (ym i):=by
 intro pins s σ H v u Q I r h
 exact wpAny_assign_Name (Ez I hN hi hx r (fun s' I'=>⟨_,H,I',h⟩) hf)
noncomputable def ZF:Pa:=fun vs σ H Q=>vs=[]/\Q σ H
inductive Tc (t:TG) (u:Pa) (vs:List V) (σ:St) (H:Hp) (Q:St->Hp->Prop):Prop where
 | mk:∀v r,vs=v:: r->(t v σ H fun σ' H'=>u r σ' H' Q)->Tc t u vs σ H Q
noncomputable def YB (t:TG) (u:Pa):Pa:=fun vs σ H Q=>Tc t u vs σ H Q
theorem gO:Xc X [] ZF:=by
 intro pins s σ H vs us Q I r h
 obtain⟨e,h⟩:=h
 subst e
 cases r
 exact assignInOrder_nil ⟨σ,H,I,h⟩
theorem bH {e:Expr} {es:List Expr} {t:TG} {u:Pa} (h1:PG X e t) (h2:Xc X es u)
  (hs:(assignEach (e:: es) X.env).map (·.2)=assign e X.env:: (assignEach es X.env).map (·.2):=by rfl):Xc X (e:: es) (YB t u):=by
 intro pins s σ H vs us Q I r h
 obtain⟨v,vr,e1,h⟩:=h
 subst e1
 cases r with
 | cons r rr=>
  rw [hs]
  refine assignInOrder_cons (dZ (h1 pins s σ H _ _ _ I r h) fun _ s1 hpt=>?_)
  obtain⟨σ1,H1,I1,q1⟩:=hpt
  exact h2 pins s1 σ1 H1 _ _ Q I1 rr q1
inductive Vw (K:PySem.W.Frag) (n:Nat) (t:Pa) (v:V) (σ:St) (H:Hp) (Q:St->Hp->Prop):Prop where
 | mk:∀a xs,v=.ref a->fG K H a xs->xs.length=n->t xs σ H Q->Vw K n t v σ H Q
noncomputable def YK (K:PySem.W.Frag) (n:Nat) (t:Pa):TG:=fun v σ H Q=>Vw K n t v σ H Q
theorem m6 {es:List Expr} {k:Nat} {t:Pa} {n:Nat} (hc:X.calm=true) (h:Xc X es t)
  (hn:(assignEach es X.env).length=n:=by rfl) (hst:(assignEach es X.env).findIdx? (·.1)=none:=by rfl):PG X (.Tuple es k pos) (YK X.K n t):=by
 intro pins s σ H v u Q I r hw
 obtain⟨a,xs,e1,hq,hl,hw⟩:=hw
 subst e1
 cases r
 obtain⟨its,rv,ht,hz⟩:=I.tuple hq
 refine assign_Tuple_tuple (I.ok.hd hc) ht (by simp [hn,<-hl,rv.length]) hst fun h' hx=>?_
 have I1:Inv X pins σ H { s with heap:=h' }:=I.kept (t':=s.toks) fun b o e=>hx b o (Nat.ne_of_lt (Heap.lt_size e)) e
 exact h pins _ σ H xs _ Q I1 (by simpa using rv) hw
noncomputable def QX (te:TE) (g:TG):TS:=fun D σ H=>te σ H fun x H1=>g x σ H1 D.nx
theorem CZ {tg e:Expr} {te:TE} {g:TG} (he:PE X e te) (hg:PG X tg g) (hs:swapsWithSole [tg] e pos.line X.env=pure false:=by rfl) (hw:swappedStores [tg] e X.env=pure none:=by rfl)
  (h1:(assignEach [tg] X.env).map (·.2)=[assign tg X.env]:=by rfl):PS X (.Assign [tg] e pos) (QX te g):=by
 intro pins s σ H D I h
 refine wpAny_Assign_stores (dZ (he pins s σ H _ I h) fun v s1 hpt=>?_) hs hw
 obtain⟨x,H1,I1,r1,q1⟩:=hpt
 rw [h1]
 exact dZ (hg pins s1 σ H1 x v _ I1 r1 q1) fun _ s2 q=>q
theorem Wl {i:Nat} {x:Str} {e:Expr} {te:TE} {pos':Pos} (hN:X.N.Nodup) (hi:X.N[i]?=some x) (hx:Loc X.env.scope x) (he:PE X e te) (hs:swapsWith e (some (.Name x pos')) pos.line X.env=pure false:=by rfl) (hf:X.fn x=true∨X.env.scope.names.lookup x=some .local:=by first | exact .inl rfl | exact .inr rfl | assumption):
  PS X (.Assign [.Name x pos'] e pos) (QX te (ym i)):=by
 intro pins s σ H D I h
 refine wpAny_Assign_Name (dZ (he pins s σ H _ I h) fun v s1 hpt=>?_) hs
 obtain⟨y,H1,I1,r1,q1⟩:=hpt
 exact Ez I1 hN hi hx r1 (fun s2 I2=>⟨_,H1,I2,q1⟩) hf
end
section
variable {X:Cx} {pos:Pos}
inductive M4 (c:TT) (tb:TS) (D:Ends) (σ:St) (H:Hp):Prop where
 | mk:∀W:Nat->St->Hp->Prop,((∃m,W m σ H))->(∀m σ H,W m σ H->
 c σ H fun b H1=>if b=true then ∃N:St->Hp->Prop,(∀σ' H',N σ' H'->∃m',m' <m/\W m' σ' H')/\tb { D with nx:=N,ct:=N,bk:=D.nx } σ H1 else D.nx σ H1)->M4 c tb D σ H
noncomputable def Qo (c:TT) (tb:TS):TS:=fun D σ H=>M4 c tb D σ H
theorem JN {c:Expr} {body:List Stmt} {tc:TT} {tb:TS} (hp:PassesOwn (model X.prog X.w) X.A X.env X.xe) (hc:PT X c tc) (hb:KZ X body tb):PS X (.While c body [] pos) (Qo tc tb):=by
 intro pins s σ H D I h
 obtain⟨W,⟨m0,w0⟩,turn⟩:=h
 refine wpAny_While (codeAny_whileLoop (fun n s'=>∃σ' H',Inv X pins σ' H' s'/\W n σ' H') ?_ m0 ⟨σ,H,I,w0⟩)
 rintro n s1 ⟨σ1,H1,I1,w1⟩
 refine wpAny_passesOwn hp (dZ (hc pins s1 σ1 H1 _ I1 (turn n σ1 H1 w1)) fun b s2 hpt=>?_)
 obtain⟨H2,I2,q2⟩:=hpt
 cases b with
 | true=>
  obtain⟨N,hN,q2⟩:=q2
  rw [if_pos rfl]
  refine wpAny_passesOwn hp (dZ (hb pins s2 σ1 H2 _ I2 q2) fun f s3 q3=>?_)
  cases f with
  | next=>
   obtain⟨σ3,H3,I3,n3⟩:=q3
   obtain⟨m',hm,w3⟩:=hN σ3 H3 n3
   exact⟨m',hm,σ3,H3,I3,w3⟩
  | cont=>
   obtain⟨σ3,H3,I3,n3⟩:=q3
   obtain⟨m',hm,w3⟩:=hN σ3 H3 n3
   exact⟨m',hm,σ3,H3,I3,w3⟩
  | brk=>exact q3
  | ret v=>exact q3
 | false=>
  rw [if_neg Bool.false_ne_true]
  exact wpAny_execs_nil ⟨σ1,H2,I2,q2⟩
end
structure It where
 go:Nat->Hp->Prop
 yld:Nat->Hp->V->Hp->Prop
 stop:Nat->Hp->Prop
noncomputable def Hv (X:Cx) (pins:List (Addr×Obj)) (H:Hp) (b:Addr):Prop:=
 H b=none/\b≠X.env.locals/\b∉X.fs/\(b∈X.ex∨X.s₀.heap.objs.size<=b)/\(∀x c,X.env.cells.lookup x=some c->c≠b)/\∀p∈X.pn ++ pins,p.1≠b
theorem Inv.fpOk {X:Cx} {pins:List (Addr×Obj)} {σ:St} {H H':Hp} {s:Shared} {b:Addr} (I:Inv X pins σ H s) (hb:s.heap.objs.size<=b) (hn:H' b=none):Hv X pins H' b:=by
 refine⟨hn,Nat.ne_of_gt (Nat.lt_of_lt_of_le I.lt hb),I.nofs hb,.inr (Nat.le_trans I.sz hb),fun x c e z=>?_,fun p hp z=>?_⟩
 ·obtain⟨v,q⟩:=I.cell x c e
  exact absurd (Nat.lt_of_lt_of_le q.lt (by rw [z];exact hb)) (Nat.lt_irrefl _)
 ·exact absurd (Nat.lt_of_lt_of_le (Heap.lt_size (I.pin p hp).1) (by rw [z];exact hb)) (Nat.lt_irrefl _)
structure Turn (P:Program) (w:World) (K:PySem.W.Frag) (tg:Expr) (J:It) (fp:List Addr) (it:Addr) (tn:Nat->Heap->Prop):Prop where
 mem:it∈fp
 obj:∀i h,tn i h->∀b∈fp,∃o,h.get? b=some o/\∀v,o.data≠.cell v
 keep:∀i h h',tn i h->(∀b∈fp,∀o,h.get? b=some o->h'.get? b=some o)->tn i h'
 item:∀(X:Cx),X.prog=P->X.w=w->X.K=K->X.calm=true->∀(i:Nat) (pins:List (Addr×Obj)) (s:Shared) (σ:St) (H:Hp) (E:Value->Shared->Prop),Inv X pins σ H s->(∀b∈fp,Hv X pins H b)->tn i s.heap->J.go i H->
  wpAny (model P w) X.A (pyNext (.ref it)) (fun r s1=>∃u,r=some u/\
   wpAny (model P w) X.A (letOwnedTupleGo tg (.ref it) u) (fun _ s2=>∃x H',Inv X pins σ H' s2/\RelV x u/\J.yld i H x H'/\tn (i+1) s2.heap/\∀b∈fp,H' b=none) E s1) E s
 done:∀(X:Cx),X.prog=P->X.w=w->X.K=K->X.calm=true->∀(i:Nat) (pins:List (Addr×Obj)) (s:Shared) (σ:St) (H:Hp) (E:Value->Shared->Prop),Inv X pins σ H s->(∀b∈fp,Hv X pins H b)->tn i s.heap->J.stop i H->
  wpAny (model P w) X.A (pyNext (.ref it)) (fun r s1=>r=none/\Inv X pins σ H s1) E s
 self:∀(A:Around) (i:Nat) (s:Shared) (Q:Value->Shared->Prop) (E:Value->Shared->Prop),tn i s.heap->Q (.ref it) s->wpAny (model P w) A (pyIter (.ref it)) Q E s
noncomputable abbrev TI:=St->Hp->(It->Hp->Prop)->Prop
noncomputable def PIE (X:Cx) (pins:List (Addr×Obj)) (σ:St) (tg:Expr) (R:It->Hp->Prop) (itv:Value) (s2:Shared):Prop:=
 ∃(it:Addr) (fp:List Addr) (tn:Nat->Heap->Prop) (J:It) (H':Hp),itv=.ref it/\Inv X pins σ H' s2/\Turn X.prog X.w X.K tg J fp it tn/\tn 0 s2.heap/\(∀b∈fp,Hv X pins H' b)/\R J H'
noncomputable def PI (X:Cx) (tg iter:Expr) (wi:TI):Prop:=
 ∀(pins:List (Addr×Obj)) (s:Shared) (σ:St) (H:Hp) (R:It->Hp->Prop),Inv X pins σ H s->wi σ H R->
  wpAny (model X.prog X.w) X.A (eval iter X.env) (fun v s1=>wpAny (model X.prog X.w) X.A (pyIter v) (PIE X pins σ tg R) X.xe s1) X.xe s
theorem KD {M:Model} {A:Around} {E:Value->Shared->Prop} {s:Shared} {tg:Expr} {it:Addr} {u:Value} {o:Obj} {n:String} {vs:Array Value} {Q:Unit->Shared->Prop} (ho:s.heap.get? it=some o) (hc:o.cls=.type n) (hd:o.data=.fields vs)
  (hn:["enumerate", "zip", "dict_itemiterator", "dict_reverseitemiterator", "odict_iterator", "itertools.zip_longest", "itertools.pairwise"].contains n=false) (hQ:Q () s):wpAny M A (letOwnedTupleGo tg (.ref it) u) Q E s:=by
 unfold letOwnedTupleGo
 cases tg <;> first
  | exact wpAny_pure hQ
  | (cases u <;> first
    | exact wpAny_pure hQ
    | (refine wpAny_bind (wpAny_load ho ?_)
       rw [hc,hd]
       show wpAny M A (if (["enumerate", "zip", "dict_itemiterator", "dict_reverseitemiterator", "odict_iterator", "itertools.zip_longest", "itertools.pairwise"].contains n && vs[0]? == some (rawInt _))=true then _ else _) Q E s
       rw [if_neg (by intro h;rw [hn,Bool.false_and] at h;cases h)]
       exact wpAny_pure hQ))
noncomputable def Wj (K:PySem.W.Frag) (a:Addr):It:=
 ⟨fun i H=>∃xs x,bR K H a xs/\xs[i]?=some x,fun i H x H'=>H'=H/\∀xs,bR K H a xs->xs[i]?=some x,fun i H=>∃xs,bR K H a xs/\xs.length<=i⟩
noncomputable def Xg (K:PySem.W.Frag) (a:Addr):It:=
 ⟨fun i H=>∃xs x,fG K H a xs/\xs[i]?=some x,fun i H x H'=>H'=H/\∀xs,fG K H a xs->xs[i]?=some x,fun i H=>∃xs,fG K H a xs/\xs.length<=i⟩
noncomputable def Wc (lo:Int) (n:Nat):It:=⟨fun i _=>i <n,fun i H x H'=>H'=H/\x=.int (lo+i),fun i _=>n<=i⟩
theorem Oq {P:Program} {w:World} {K:PySem.W.Frag} {tg:Expr} (a it:Addr):Turn P w K tg (Wj K a) [it] it (fun i h=>h.IsListIter it a i) where
 mem:=by simp
 obj:=fun i h st b hb=>by
  have e:b=it:=by simpa using hb
  subst e
  obtain⟨o,e,c,d⟩:=st
  exact⟨o,e,fun v z=>by rw [d] at z;cases z⟩
 keep:=fun i h h' st k=>st.at fun o e=>k it (by simp) o e
 item:=by
  intro X hP hw hK hc i pins s σ H E I hf st hg
  subst hP hw hK
  obtain⟨xs,x,hq,hx⟩:=hg
  obtain⟨its,rv,p,hz⟩:=I.list hq
  obtain⟨u,hu,ru⟩:=rv.get hx
  obtain⟨f0,f1,f2,f3,f4,f5⟩:=hf it (by simp)
  refine wpAny_pyNext_list_item st p.isList (x:=u) (by simpa using hu) fun h' st' sb=>?_
  have I1:Inv X pins σ H { s with heap:=h' }:=I.turned (t':=s.toks) (fun b o hb e=>(sb.2 b hb).trans e) f0 f1 f3 f4 f5
  obtain⟨o,e,c,d⟩:=id st'
  exact⟨u,rfl,KD (s:={ s with heap:=h' }) e c d (by decide) ⟨x,H,I1,ru,⟨rfl,fun ys hy=>by rw [I.list_inj hy hq];exact hx⟩,st',fun b hb=>(hf b hb).1⟩⟩
 done:=by
  intro X hP hw hK hc i pins s σ H E I hf st hg
  subst hP hw hK
  obtain⟨xs,hq,hx⟩:=hg
  obtain⟨its,rv,p,hz⟩:=I.list hq
  obtain⟨f0,f1,f2,f3,f4,f5⟩:=hf it (by simp)
  have hl:=rv.length
  exact wpAny_pyNext_list_end (I.ok.hd hc) st p.isList (by simp;omega) fun h' eb=>⟨rfl,I.turned (t':=s.toks) (fun b o hb e=>eb b o hb e) f0 f1 f3 f4 f5⟩
 self:=fun _ _ _ _ _ st h=>wpAny_pyIter_listiter st h
theorem Mu {P:Program} {w:World} {K:PySem.W.Frag} {tg:Expr} (a it:Addr):Turn P w K tg (Xg K a) [it] it (fun i h=>h.IsTupleIter it a i) where
 mem:=by simp
 obj:=fun i h st b hb=>by
  have e:b=it:=by simpa using hb
  subst e
  obtain⟨o,e,c,d⟩:=st
  exact⟨o,e,fun v z=>by rw [d] at z;cases z⟩
 keep:=fun i h h' st k=>st.at fun o e=>k it (by simp) o e
 item:=by
  intro X hP hw hK hc i pins s σ H E I hf st hg
  subst hP hw hK
  obtain⟨xs,x,hq,hx⟩:=hg
  obtain⟨its,rv,p,hz⟩:=I.tuple hq
  obtain⟨u,hu,ru⟩:=rv.get hx
  obtain⟨f0,f1,f2,f3,f4,f5⟩:=hf it (by simp)
  refine wpAny_pyNext_tuple_item st (show s.heap.IsTuple a its.toArray from p) (x:=u) (by simpa using hu) fun h' st' sb=>?_
  have I1:Inv X pins σ H { s with heap:=h' }:=I.turned (t':=s.toks) (fun b o hb e=>(sb.2 b hb).trans e) f0 f1 f3 f4 f5
  obtain⟨o,e,c,d⟩:=id st'
  exact⟨u,rfl,KD (s:={ s with heap:=h' }) e c d (by decide) ⟨x,H,I1,ru,⟨rfl,fun ys hy=>by rw [I.tuple_inj hy hq];exact hx⟩,st',fun b hb=>(hf b hb).1⟩⟩
 done:=by
  intro X hP hw hK hc i pins s σ H E I hf st hg
  subst hP hw hK
  obtain⟨xs,hq,hx⟩:=hg
  obtain⟨its,rv,p,hz⟩:=I.tuple hq
  obtain⟨f0,f1,f2,f3,f4,f5⟩:=hf it (by simp)
  have hl:=rv.length
  exact wpAny_pyNext_tuple_end (I.ok.hd hc) st (show s.heap.IsTuple a its.toArray from p) (by simp;omega) fun h' eb=>⟨rfl,I.turned (t':=s.toks) (fun b o hb e=>eb b o hb e) f0 f1 f3 f4 f5⟩
 self:=fun _ _ _ _ _ st h=>wpAny_pyIter_tupleiter st h
theorem Ly {P:Program} {w:World} {K:PySem.W.Frag} {tg:Expr} (it:Addr) (lo:Int) (n:Nat):Turn P w K tg (Wc lo n) [it] it (fun i h=>IsRangeIter h it (lo+(i:Nat) * 1) ((n:Int) - (i:Nat)) 1) where
 mem:=by simp
 obj:=fun i h st b hb=>by
  have e:b=it:=by simpa using hb
  subst e
  exact⟨_,st,fun v z=>by
   have z':Data.fields _=Data.cell v:=z
   cases z'⟩
 keep:=fun i h h' st k=>k it (by simp) _ st
 item:=by
  intro X hP hw hK hc i pins s σ H E I hf st hg
  subst hP hw hK
  obtain⟨f0,f1,f2,f3,f4,f5⟩:=hf it (by simp)
  have W:=Walks.range (prog:=X.prog) (w:=X.w) (I.ok.hd hc) it lo 1 n
  refine W.item i s _ _ hg st fun v h' tk hv st' kk=>?_
  obtain⟨t,rfl⟩:=hv
  have I1:Inv X pins σ H { s with heap:=h',toks:=tk }:=I.turned (fun b o hb e=>kk b o (by simpa using hb) e) f0 f1 f3 f4 f5
  refine⟨_,rfl,KD (s:={ s with heap:=h',toks:=tk }) (n:= "range_iterator") st' rfl rfl (by decide) ⟨.int (lo+i),H,I1,⟨t,?_⟩,⟨rfl,rfl⟩,st',fun b hb=>(hf b hb).1⟩⟩
  rw [Int.mul_one]
 done:=by
  intro X hP hw hK hc i pins s σ H E I hf st hg
  subst hP hw hK
  obtain⟨f0,f1,f2,f3,f4,f5⟩:=hf it (by simp)
  exact wpAny_pyNext_range_end (I.ok.hd hc) st (by have:n<=i:=hg;omega) fun h' eb=>⟨rfl,I.turned (t':=s.toks) (fun b o hb e=>eb b o hb e) f0 f1 f3 f4 f5⟩
 self:=fun _ _ _ _ _ st h=>wpAny_pyIter_rangeiter st h
section
variable {X:Cx} {tg:Expr}
inductive Qv (K:PySem.W.Frag) (R:It->Hp->Prop) (x:V) (H1:Hp):Prop where
 | mk:∀a,x=.ref a->((∃xs,bR K H1 a xs))->R (Wj K a) H1->Qv K R x H1
noncomputable def Vj (K:PySem.W.Frag) (tl:TE):TI:=fun σ H R=>tl σ H fun x H1=>Qv K R x H1
inductive Vo (K:PySem.W.Frag) (R:It->Hp->Prop) (x:V) (H1:Hp):Prop where
 | mk:∀a,x=.ref a->((∃xs,fG K H1 a xs))->R (Xg K a) H1->Vo K R x H1
noncomputable def Xi (K:PySem.W.Frag) (tl:TE):TI:=fun σ H R=>tl σ H fun x H1=>Vo K R x H1
theorem cz {l:Expr} {tl:TE} (hl:PE X l tl):PI X tg l (Vj X.K tl):=by
 intro pins s σ H R I h
 refine dZ (hl pins s σ H _ I h) fun v s1 hpt=>?_
 obtain⟨x,H1,I1,r1,q1⟩:=hpt
 obtain⟨a,e,⟨xs,hq⟩,q⟩:=q1
 subst e
 cases r1
 obtain⟨its,rv,p,hz⟩:=I1.list hq
 refine wpAny_pyIter_list p.isList ?_
 refine⟨s1.heap.objs.size,[s1.heap.objs.size],_,_,H1,rfl,I1.kept (t':=s1.toks) fun b o e=>Heap.get?_push_of_some _ e,Oq a _,⟨_,Heap.get?_push_size _ rfl,rfl,rfl⟩,fun b hb=>?_,q⟩
 have e:b=s1.heap.objs.size:=by simpa using hb
 subst e
 exact I1.fpOk (Nat.le_refl _) (I1.hok.fresh (Nat.le_refl _))
theorem Ii {l:Expr} {tl:TE} (hl:PE X l tl):PI X tg l (Xi X.K tl):=by
 intro pins s σ H R I h
 refine dZ (hl pins s σ H _ I h) fun v s1 hpt=>?_
 obtain⟨x,H1,I1,r1,q1⟩:=hpt
 obtain⟨a,e,⟨xs,hq⟩,q⟩:=q1
 subst e
 cases r1
 obtain⟨its,rv,p,hz⟩:=I1.tuple hq
 refine wpAny_pyIter_tuple (show s1.heap.IsTuple a its.toArray from p) ?_
 refine⟨s1.heap.objs.size,[s1.heap.objs.size],_,_,H1,rfl,I1.kept (t':=s1.toks) fun b o e=>Heap.get?_push_of_some _ e,Mu a _,⟨_,Heap.get?_push_size _ rfl,rfl,rfl⟩,fun b hb=>?_,q⟩
 have e:b=s1.heap.objs.size:=by simpa using hb
 subst e
 exact I1.fpOk (Nat.le_refl _) (I1.hok.fresh (Nat.le_refl _))
theorem Qn {pins:List (Addr×Obj)} {σ:St} {H:Hp} {s:Shared} {R:It->Hp->Prop} {E:Value->Shared->Prop} {lo hi:Int} {t u v:Tok} {tk:Nat} (I:Inv X pins σ H s) (h1: -(2 ^ 62)<=lo) (h2:lo <2 ^ 62) (h3: -(2 ^ 62)<=hi) (h4:hi <2 ^ 62)
  (q:R (Wc lo (hi - lo).toNat) H):wpAny (model X.prog X.w) X.A (pyIter (.ref s.heap.objs.size)) (PIE X pins σ tg R) E { s with heap:=s.heap.push { cls:=.type "range",data:=.fields #[.int lo t,.int hi u,.int 1 v] },toks:=tk }:=by
 refine wpAny_pyIter_range (IsRange.new ..) (small_one h1 h2 h3 h4) ?_
 have I1:Inv X pins σ H { s with heap:=s.heap.push { cls:=.type "range",data:=.fields #[.int lo t,.int hi u,.int 1 v] },toks:=tk }:=I.kept fun b o e=>Heap.get?_push_of_some _ e
 refine⟨(s.heap.push { cls:=.type "range",data:=.fields #[.int lo t,.int hi u,.int 1 v] }).objs.size,[(s.heap.push { cls:=.type "range",data:=.fields #[.int lo t,.int hi u,.int 1 v] }).objs.size],_,_,H,rfl,
  I1.kept (t':=tk) fun b o e=>Heap.get?_push_of_some _ e,Ly _ lo (hi - lo).toNat,?_,fun b hb=>?_,q⟩
 ·have e1:lo+((0:Nat):Int) * 1=lo:=by simp
  have e2:(((hi - lo).toNat:Nat):Int) - ((0:Nat):Int)=Builtin.Range.rangeSize lo hi 1:=by rw [rangeSize_one];split <;> omega
  show IsRangeIter _ _ (lo+((0:Nat):Int) * 1) ((((hi - lo).toNat:Nat):Int) - ((0:Nat):Int)) 1
  rw [e1,e2]
  exact Heap.get?_push_size _ rfl
 ·have e:b=(s.heap.push { cls:=.type "range",data:=.fields #[.int lo t,.int hi u,.int 1 v] }).objs.size:=by simpa using hb
  subst e
  exact I1.fpOk (Nat.le_refl _) (I1.hok.fresh (Nat.le_refl _))
inductive Qw (R:It->Hp->Prop) (vs:List V) (H1:Hp):Prop where
 | mk:∀j:Int,vs=[.int j]-> -(2 ^ 62)<=j->j <2 ^ 62->R (Wc 0 j.toNat) H1->Qw R vs H1
noncomputable def XC (ta:TA):TI:=fun σ H R=>ta σ H fun vs H1=>Qw R vs H1
theorem oV {a:Expr} {ta:TA} {p pos:Pos} (hg:Gl X "range") (hm:X.mg "range" =none) (ha:PA X [a] ta) (hs:starEach [a] X.env=[(false,eval a X.env)]:=by rfl):PI X tg (.Call (.Name "range" p) [a] [] pos) (XC ta):=by
 intro pins s σ H R I h
 refine Call_ (Fv I hg hm boot_range (PyProof.Rows.callWith_type1 (dZ (ha pos pins s σ H _ I h) fun us s1 ⟨vs,H1,I1,r1,q1⟩=>?_) hs rfl))
 obtain⟨j,e,q1,q2,q⟩:=q1
 subst e
 cases r1 with
 | cons r rr=>
  cases rr
  obtain⟨t,rfl⟩:=r
  exact call_range_1 (Qn I1 (by omega) (by omega) q1 q2 (by simpa using q))
noncomputable def Zi (wi:TI) (g:TG) (tb:TS):TS:=fun D σ H=>wi σ H fun J H1=>∃W:Nat->Nat->St->Hp->Prop,(∃m,W 0 m σ H1)/\∀i m σ H,W i m σ H->
 (J.stop i H/\D.nx σ H)∨(J.go i H/\∃N:St->Hp->Prop,(∀σ' H',N σ' H'->∃m',m' <m/\W (i+1) m' σ' H')/\∀x H',J.yld i H x H'->g x σ H' fun σ2 H2=>tb { D with nx:=N,ct:=N,bk:=D.nx } σ2 H2)
noncomputable def Jl (fp:List Addr) (h:Heap):List (Addr×Obj):=fp.filterMap fun b=>(h.get? b).map fun o=>(b,o)
theorem tR {fp:List Addr} {h:Heap} {b:Addr} {o:Obj} (hb:b∈fp) (e:h.get? b=some o):(b,o)∈Jl fp h:=List.mem_filterMap.mpr ⟨b,hb,by rw [e];rfl⟩
theorem O4 {fp:List Addr} {h:Heap} {p:Addr×Obj} (hp:p∈Jl fp h):p.1∈fp/\h.get? p.1=some p.2:=by
 obtain⟨b,hb,e⟩:=List.mem_filterMap.mp hp
 cases q:h.get? b with
 | none=>rw [q] at e;cases e
 | some o=>
  rw [q] at e
  have e':(b,o)=p:=Option.some.inj e
  subst e'
  exact⟨hb,q⟩
theorem Inv.pinned {pins:List (Addr×Obj)} {σ:St} {H:Hp} {s:Shared} {fp:List Addr} (I:Inv X pins σ H s) (hf:∀b∈fp,Hv X pins H b) (ho:∀b∈fp,∃o,s.heap.get? b=some o/\∀v,o.data≠.cell v):Inv X (pins ++ Jl fp s.heap) σ H s:=
 I.pins_of fun p hp=>(List.mem_append.mp hp).elim (fun z=>I.pin p (List.mem_append_right _ z)) fun z=>by
  obtain⟨hb,e⟩:=O4 z
  obtain⟨f0,f1,f2,_⟩:=hf p.1 hb
  obtain⟨o,e',d⟩:=ho p.1 hb
  rw [e] at e';cases e'
  exact⟨e,f0,f1,f2,d⟩
theorem Inv.unpinned {pins pl:List (Addr×Obj)} {σ:St} {H:Hp} {s:Shared} (I:Inv X (pins ++ pl) σ H s):Inv X pins σ H s:=I.pins_of fun p hp=>I.pin p (List.mem_append_right _ (List.mem_append_left _ hp))
theorem fB {iter:Expr} {body:List Stmt} {wi:TI} {g:TG} {tb:TS} {pos:Pos} (hp:PassesOwn (model X.prog X.w) X.A X.env X.xe) (hc:X.calm=true) (hi:PI X tg iter wi) (hg:PG X tg g) (hb:KZ X body tb)
  (hs:∀x,foldedSetIterable iter X.env x=pure x:=by intro _;rfl):PS X (.For tg iter body [] pos) (Zi wi g tb):=by
 intro pins s σ H D I h
 refine wpAny_For (dZ (hi pins s σ H _ I h) fun v s1 h1=>dZ h1 fun itv s2 h2=>?_) hs
 obtain⟨it,fp,tn,J,H2,e,I2,T,st2,f2,W,⟨m0,w0⟩,turn⟩:=h2
 subst e
 have stat:∀{H':Hp},(∀b∈fp,H' b=none)->∀b∈fp,Hv X pins H' b:=fun hn b hb=>⟨hn b hb,(f2 b hb).2⟩
 refine codeAny_forLoop_any (fun n s'=>∃i σ' H',Inv X pins σ' H' s'/\tn i s'.heap/\(∀b∈fp,H' b=none)/\W i n σ' H') ?_ m0 ⟨0,σ,H2,I2,st2,fun b hb=>(f2 b hb).1,w0⟩
 rintro n s3 ⟨i,σ3,H3,I3,st3,fr3,w3⟩
 rcases turn i n σ3 H3 w3 with ⟨stop,qn⟩ | ⟨go,N,hN,step⟩
 ·refine wpAny_passesOwn hp (dZ (T.done X rfl rfl rfl hc i pins s3 σ3 H3 X.xe I3 (stat fr3) st3 stop) fun r s4 hpt=>?_)
  obtain⟨hr,I4⟩:=hpt
  subst hr
  exact wpAny_execs_nil ⟨σ3,H3,I4,qn⟩
 ·refine wpAny_passesOwn hp (dZ (T.item X rfl rfl rfl hc i pins s3 σ3 H3 X.xe I3 (stat fr3) st3 go) fun r s4 hpt=>?_)
  obtain⟨u,hr,h4⟩:=hpt
  subst hr
  refine wpAny_passesOwn hp (dZ h4 fun _ s5 hpt=>?_)
  obtain⟨x,H5,I5,r5,y5,st5,fr5⟩:=hpt
  have I5':=I5.pinned (stat fr5) (T.obj _ _ st5)
  refine wpAny_passesOwn hp (dZ (hg _ s5 σ3 H5 x u _ I5' r5 (step x H5 y5)) fun _ s6 hpt=>?_)
  obtain⟨σ6,H6,I6,q6⟩:=hpt
  refine wpAny_passesOwn hp (dZ (hb _ s6 σ6 H6 _ I6 q6) fun f s7 q7=>?_)
  have again:∀{σ7:St} {H7:Hp},Inv X (pins ++ Jl fp s5.heap) σ7 H7 s7->N σ7 H7->∃m,m <n/\∃i σ' H',Inv X pins σ' H' s7/\tn i s7.heap/\(∀b∈fp,H' b=none)/\W i m σ' H':=fun {σ7 H7} I7 n7=>by
   obtain⟨m',hm,w7⟩:=hN σ7 H7 n7
   refine⟨m',hm,i+1,σ7,H7,I7.unpinned,T.keep _ _ _ st5 fun b hb o e=>(I7.pin (b,o) (List.mem_append_right _ (List.mem_append_right _ (tR hb e)))).1,fun b hb=>?_,w7⟩
   obtain⟨o,e,d⟩:=T.obj _ _ st5 b hb
   exact(I7.pin (b,o) (List.mem_append_right _ (List.mem_append_right _ (tR hb e)))).2.1
  cases f with
  | next=>obtain⟨σ7,H7,I7,n7⟩:=q7;exact again I7 n7
  | cont=>obtain⟨σ7,H7,I7,n7⟩:=q7;exact again I7 n7
  | brk=>obtain⟨σ7,H7,I7,q7⟩:=q7;exact⟨σ7,H7,I7.unpinned,q7⟩
  | ret v=>obtain⟨x7,σ7,H7,I7,r7,q7⟩:=q7;exact⟨x7,σ7,H7,I7.unpinned,r7,q7⟩
end
theorem eZ {K:PySem.W.Frag} {a:Addr} {xs:List V} {g:TG} {tb:TS} {D:Ends} {σ:St} {H:Hp} (Pv:Nat->St->Hp->Prop) (h0:Pv 0 σ H) (hl:∀i σ H,i<=xs.length->Pv i σ H->bR K H a xs)
  (hs:∀i x σ H,xs[i]?=some x->Pv i σ H->g x σ H fun σ2 H2=>tb { D with nx:=Pv (i+1),ct:=Pv (i+1),bk:=D.nx } σ2 H2) (hd:∀σ H,Pv xs.length σ H->D.nx σ H):
  ∃W:Nat->Nat->St->Hp->Prop,(∃m,W 0 m σ H)/\∀i m σ H,W i m σ H->
   ((Wj K a).stop i H/\D.nx σ H)∨((Wj K a).go i H/\∃N:St->Hp->Prop,(∀σ' H',N σ' H'->∃m',m' <m/\W (i+1) m' σ' H')/\∀x H',(Wj K a).yld i H x H'->g x σ H' fun σ2 H2=>tb { D with nx:=N,ct:=N,bk:=D.nx } σ2 H2):=by
 refine⟨fun i m σ H=>m=xs.length - i/\i<=xs.length/\Pv i σ H,⟨xs.length,by simp,Nat.zero_le _,h0⟩,?_⟩
 rintro i m σ H ⟨rfl,hi,p⟩
 have q:=hl i σ H hi p
 by_cases hlt:i <xs.length
 ·refine .inr ⟨⟨xs,xs[i],q,by simp [hlt]⟩,Pv (i+1),fun σ' H' p'=>⟨xs.length - (i+1),by omega,rfl,hlt,p'⟩,fun x H' y=>?_⟩
  obtain⟨e,y⟩:=y
  subst e
  exact hs i x σ _ (y xs q) p
 ·have e:i=xs.length:=by omega
  subst e
  exact .inl ⟨⟨xs,q,Nat.le_refl _⟩,hd σ H p⟩
theorem Uo {K:PySem.W.Frag} {a:Addr} {xs:List V} {g:TG} {tb:TS} {D:Ends} {σ:St} {H:Hp} (Pv:Nat->St->Hp->Prop) (h0:Pv 0 σ H) (hl:∀i σ H,i<=xs.length->Pv i σ H->fG K H a xs)
  (hs:∀i x σ H,xs[i]?=some x->Pv i σ H->g x σ H fun σ2 H2=>tb { D with nx:=Pv (i+1),ct:=Pv (i+1),bk:=D.nx } σ2 H2) (hd:∀σ H,Pv xs.length σ H->D.nx σ H):
  ∃W:Nat->Nat->St->Hp->Prop,(∃m,W 0 m σ H)/\∀i m σ H,W i m σ H->
   ((Xg K a).stop i H/\D.nx σ H)∨((Xg K a).go i H/\∃N:St->Hp->Prop,(∀σ' H',N σ' H'->∃m',m' <m/\W (i+1) m' σ' H')/\∀x H',(Xg K a).yld i H x H'->g x σ H' fun σ2 H2=>tb { D with nx:=N,ct:=N,bk:=D.nx } σ2 H2):=by
 refine⟨fun i m σ H=>m=xs.length - i/\i<=xs.length/\Pv i σ H,⟨xs.length,by simp,Nat.zero_le _,h0⟩,?_⟩
 rintro i m σ H ⟨rfl,hi,p⟩
 have q:=hl i σ H hi p
 by_cases hlt:i <xs.length
 ·refine .inr ⟨⟨xs,xs[i],q,by simp [hlt]⟩,Pv (i+1),fun σ' H' p'=>⟨xs.length - (i+1),by omega,rfl,hlt,p'⟩,fun x H' y=>?_⟩
  obtain⟨e,y⟩:=y
  subst e
  exact hs i x σ _ (y xs q) p
 ·have e:i=xs.length:=by omega
  subst e
  exact .inl ⟨⟨xs,q,Nat.le_refl _⟩,hd σ H p⟩
theorem Gi {lo:Int} {n:Nat} {g:TG} {tb:TS} {D:Ends} {σ:St} {H:Hp} (Pv:Nat->St->Hp->Prop) (h0:Pv 0 σ H)
  (hs:∀i σ H,i <n->Pv i σ H->g (.int (lo+i)) σ H fun σ2 H2=>tb { D with nx:=Pv (i+1),ct:=Pv (i+1),bk:=D.nx } σ2 H2) (hd:∀σ H,Pv n σ H->D.nx σ H):
  ∃W:Nat->Nat->St->Hp->Prop,(∃m,W 0 m σ H)/\∀i m σ H,W i m σ H->
   ((Wc lo n).stop i H/\D.nx σ H)∨((Wc lo n).go i H/\∃N:St->Hp->Prop,(∀σ' H',N σ' H'->∃m',m' <m/\W (i+1) m' σ' H')/\∀x H',(Wc lo n).yld i H x H'->g x σ H' fun σ2 H2=>tb { D with nx:=N,ct:=N,bk:=D.nx } σ2 H2):=by
 refine⟨fun i m σ H=>m=n - i/\i<=n/\Pv i σ H,⟨n,by simp,Nat.zero_le _,h0⟩,?_⟩
 rintro i m σ H ⟨rfl,hi,p⟩
 by_cases hlt:i <n
 ·refine .inr ⟨hlt,Pv (i+1),fun σ' H' p'=>⟨n - (i+1),by omega,rfl,hlt,p'⟩,fun x H' y=>?_⟩
  obtain⟨e,y⟩:=y
  subst e y
  exact hs i σ _ hlt p
 ·have e:i=n:=by omega
  subst e
  exact .inl ⟨Nat.le_refl _,hd σ H p⟩
theorem J3 {c:TT} {tb:TS} {D:Ends} {σ:St} {H:Hp} (Pv:St->Hp->Prop) (μ:St->Hp->Nat) (h0:Pv σ H)
  (hs:∀σ H,Pv σ H->c σ H fun b H1=>if b=true then tb { D with nx:=fun σ' H'=>Pv σ' H'/\μ σ' H' <μ σ H,ct:=fun σ' H'=>Pv σ' H'/\μ σ' H' <μ σ H,bk:=D.nx } σ H1 else D.nx σ H1)
  (mono:∀σ H Q Q',(∀b H1,Q b H1->Q' b H1)->c σ H Q->c σ H Q'):Qo c tb D σ H:=by
 refine⟨fun m σ H=>m=μ σ H/\Pv σ H,⟨_,rfl,h0⟩,?_⟩
 rintro m σ H ⟨rfl,p⟩
 refine mono σ H _ _ (fun b H1 q=>?_) (hs σ H p)
 cases b with
 | true=>exact⟨_,fun σ' H' ⟨p',l⟩=>⟨_,l,rfl,p'⟩,q⟩
 | false=>exact q
noncomputable abbrev R2:=V->V->Hp->VK->Prop
noncomputable def yH (X:Cx) (f:Value->Value->Sem Value) (r:R2):Prop:=
 ∀(pins:List (Addr×Obj)) (s:Shared) (σ:St) (H:Hp) (x y:V) (v u:Value) (Q:VK),Inv X pins σ H s->RelV x v->RelV y u->r x y H Q->
  wpAny (model X.prog X.w) X.A (f v u) (EP X pins σ Q) X.xe s
noncomputable def j5 (X:Cx) (f:Value) (r:List V->Hp->VK->Prop):Prop:=
 ∀(pins:List (Addr×Obj)) (s:Shared) (σ:St) (H:Hp) (xs:List V) (us:List Value) (Q:VK),Inv X pins σ H s->Vals xs us->r xs H Q->
  wpAny (model X.prog X.w) X.A (call f us) (EP X pins σ Q) X.xe s
noncomputable def X3 (r:R2) (ta tb:TE):TE:=fun σ H Q=>ta σ H fun x H1=>tb σ H1 fun y H2=>r x y H2 Q
inductive Z1 (C:Int->Int->Prop) (g:Int->Int->V) (x:V) (y:V) (H:Hp) (Q:VK):Prop where
 | mk:∀i j,x=.int i->y=.int j->C i j->Q (g i j) H->Z1 C g x y H Q
noncomputable def rI (C:Int->Int->Prop) (g:Int->Int->V):R2:=fun x y H Q=>Z1 C g x y H Q
inductive X7 (g:Int->Int->V) (x:V) (y:V) (H:Hp) (Q:VK):Prop where
 | mk:∀i j,x=.int i->y=.int j->Q (g i j) H->X7 g x y H Q
noncomputable def Tw (g:Int->Int->V):R2:=fun x y H Q=>X7 g x y H Q
section
variable {X:Cx} {a b c:Expr} {ta tb tc:TE} {pos:Pos}
theorem Wi (ha:PE X a ta) (hb:PE X b tb) {pins:List (Addr×Obj)} {s:Shared} {σ:St} {H:Hp} {R:V->V->Hp->Prop} (I:Inv X pins σ H s)
  (h:ta σ H fun x H1=>tb σ H1 fun y H2=>R x y H2) {Q:Value->Shared->Prop} {f:Value->Value->Sem Value}
  (hf:∀v u s2 x y H2,Inv X pins σ H2 s2->RelV x v->RelV y u->R x y H2->wpAny (model X.prog X.w) X.A (f v u) Q X.xe s2):
  wpAny (model X.prog X.w) X.A (eval a X.env) (fun v s₁=>wpAny (model X.prog X.w) X.A (eval b X.env) (fun u s₂=>wpAny (model X.prog X.w) X.A (f v u) Q X.xe s₂) X.xe s₁) X.xe s:=by
 refine dZ (ha pins s σ H _ I h) fun v s1 hpt=>?_
 obtain⟨x,H1,I1,r1,q1⟩:=hpt
 refine dZ (hb pins s1 σ H1 _ I1 q1) fun u s2 hpt=>?_
 obtain⟨y,H2,I2,r2,q2⟩:=hpt
 exact hf v u s2 x y H2 I2 r1 r2 q2
theorem bD {op:Operator} {r:R2} (ho:yH X (binaryOp op) r) (ha:PE X a ta) (hb:PE X b tb):PE X (.BinOp a op b pos) (X3 r ta tb):=by
 intro pins s σ H Q I h
 exact wpAny_BinOp (Wi ha hb I h fun v u s2 x y H2 I2 rx ry q=>ho pins s2 σ H2 x y v u Q I2 rx ry q)
theorem YX {f:Value->Value->Sem Value} {C:Int->Int->Prop} {g:Int->Int->Int}
  (rule:∀(i j:Int) (t u:Tok) (s:Shared) (Q:Value->Shared->Prop) (E:Value->Shared->Prop),C i j->Q (.int (g i j) s.toks) { s with toks:=s.toks+1 }->wpAny (model X.prog X.w) X.A (f (.int i t) (.int j u)) Q E s):
  yH X f (rI C fun i j=>.int (g i j)):=by
 intro pins s σ H x y v u Q I rx ry h
 obtain⟨i,j,rfl,rfl,hc,q⟩:=h
 obtain⟨t,rfl⟩:=rx
 obtain⟨t',rfl⟩:=ry
 exact rule i j t t' s _ _ hc ⟨.int (g i j),H,I.tok _,⟨_,rfl⟩,q⟩
theorem Ws {f:Value->Value->Sem Value} {g:Int->Int->Int}
  (rule:∀(i j:Int) (t u:Tok) (s:Shared) (Q:Value->Shared->Prop) (E:Value->Shared->Prop),Q (.int (g i j) s.toks) { s with toks:=s.toks+1 }->wpAny (model X.prog X.w) X.A (f (.int i t) (.int j u)) Q E s):
  yH X f (Tw fun i j=>.int (g i j)):=by
 intro pins s σ H x y v u Q I rx ry h
 obtain⟨i,j,rfl,rfl,q⟩:=h
 obtain⟨t,rfl⟩:=rx
 obtain⟨t',rfl⟩:=ry
 exact rule i j t t' s _ _ ⟨.int (g i j),H,I.tok _,⟨_,rfl⟩,q⟩
theorem Ux {f:Value->Value->Sem Value} {g:Int->Int->Bool}
  (rule:∀(i j:Int) (t u:Tok) (s:Shared) (Q:Value->Shared->Prop) (E:Value->Shared->Prop),Q (.bool (g i j)) s->wpAny (model X.prog X.w) X.A (f (.int i t) (.int j u)) Q E s):
  yH X f (Tw fun i j=>.bl (g i j)):=by
 intro pins s σ H x y v u Q I rx ry h
 obtain⟨i,j,rfl,rfl,q⟩:=h
 obtain⟨t,rfl⟩:=rx
 obtain⟨t',rfl⟩:=ry
 exact rule i j t t' s _ _ ⟨.bl (g i j),H,I,rfl,q⟩
noncomputable def Zm (i j:Int):Prop:=0<=j/\j<=1000000/\i.natAbs <2 ^ 64
theorem eG:yH X (binaryOp .Add) (Tw fun i j=>.int (i+j)):=Ws fun _ _ _ _ _ _ _ q=>add_int q
theorem Ld:yH X (binaryOp .Sub) (Tw fun i j=>.int (i - j)):=Ws fun _ _ _ _ _ _ _ q=>sub_int q
theorem cL:yH X (binaryOp .Mod) (rI (fun _ j=>0 <j) fun i j=>.int (i % j)):=YX fun i j _ _ _ _ _ hc q=>by
 have h1:(0:Int) <j:=hc
 exact mod_int' (by omega) (by rw [Int.fmod_eq_emod_of_nonneg i (by omega)];exact q)
theorem CK:yH X (binaryOp .Pow) (rI Zm fun i j=>.int (i ^ j.toNat)):=YX fun _ _ _ _ _ _ _ hc q=>pow_int_small hc.1 hc.2.1 hc.2.2 q
theorem NQ:yH X (inplaceOp .Add) (Tw fun i j=>.int (i+j)):=Ws fun _ _ _ _ _ _ _ q=>iadd_int q
end
noncomputable def X8:V->V->Bool
 | .non,.non=>true | .non,.int _=>true | .int _,.non=>true | .non,.bl _=>true | .bl _,.non=>true | .non,.str _=>true | .str _,.non=>true
 | .int _,.int _=>true | .bl _,.bl _=>true | .str _,.str _=>true | .byt _,.byt _=>true
 | .int _,.str _=>true | .str _,.int _=>true | .bl _,.str _=>true | .str _,.bl _=>true
 | _,_=>false
noncomputable def rEq:R2:=fun x y H Q=>X8 x y=true/\Q (.bl (decide (x=y))) H
noncomputable def rNe:R2:=fun x y H Q=>X8 x y=true/\Q (.bl (!decide (x=y))) H
theorem Mv {i j:Int}:decide (V.int i=V.int j)=(i == j):=by
 rw [Bool.eq_iff_iff]
 simp
theorem QG {i j:Bool}:decide (V.bl i=V.bl j)=(i == j):=by
 rw [Bool.eq_iff_iff]
 simp
theorem NK {i j:Str}:decide (V.str i=V.str j)=(i == j):=by
 rw [Bool.eq_iff_iff]
 simp
theorem Od {i j:Array UInt8}:decide (V.byt i=V.byt j)=(i.toList == j.toList):=by
 rw [Bool.eq_iff_iff]
 cases i
 cases j
 simp
section
variable {X:Cx} {a b c:Expr} {ta tb tc:TE} {pos:Pos}
theorem dF {pins:List (Addr×Obj)} {σ:St} {H:Hp} {s:Shared} {Q:VK} {k k':Bool} (I:Inv X pins σ H s) (q:Q (.bl k) H) (e:k=k'):EP X pins σ Q (.bool k') s:=by
 subst e
 exact⟨.bl k,H,I,rfl,q⟩
theorem fQ:yH X (compareOp .Eq) rEq:=by
 intro pins s σ H x y v u Q I rx ry h
 obtain⟨hs,q⟩:=h
 cases x with
 | non=>
  cases rx
  cases y with
  | non=>cases ry;exact PySem.EqNone.eq_none_none (dF I q (by simp))
  | bl j=>cases ry;exact PySem.EqNone.eq_none_bool (dF I q (by simp))
  | int j=>obtain⟨t',rfl⟩:=ry;exact PySem.EqNone.eq_none_int (dF I q (by simp))
  | str j=>obtain⟨t',rfl⟩:=ry;exact PySem.EqNone.eq_none_str (dF I q (by simp))
  | _=>exact absurd (show false=true from hs) Bool.false_ne_true
 | bl i=>
  cases rx
  cases y with
  | non=>cases ry;exact PySem.EqNone.eq_bool_none (dF I q (by simp))
  | bl j=>cases ry;exact eq_bool (dF I q QG)
  | str j=>obtain⟨t',rfl⟩:=ry;exact PySem.EqMixed.eq_bool_str (dF I q (by simp))
  | _=>exact absurd (show false=true from hs) Bool.false_ne_true
 | int i=>
  obtain⟨t,rfl⟩:=rx
  cases y with
  | non=>cases ry;exact PySem.EqNone.eq_int_none (dF I q (by simp))
  | int j=>obtain⟨t',rfl⟩:=ry;exact eq_int (dF I q Mv)
  | str j=>obtain⟨t',rfl⟩:=ry;exact PySem.EqMixed.eq_int_str (dF I q (by simp))
  | _=>exact absurd (show false=true from hs) Bool.false_ne_true
 | str i=>
  obtain⟨t,rfl⟩:=rx
  cases y with
  | non=>cases ry;exact PySem.EqNone.eq_str_none (dF I q (by simp))
  | bl j=>cases ry;exact PySem.EqMixed.eq_str_bool (dF I q (by simp))
  | int j=>obtain⟨t',rfl⟩:=ry;exact PySem.EqMixed.eq_str_int (dF I q (by simp))
  | str j=>obtain⟨t',rfl⟩:=ry;exact eq_str (dF I q NK)
  | _=>exact absurd (show false=true from hs) Bool.false_ne_true
 | byt i=>
  obtain⟨t,rfl⟩:=rx
  cases y with
  | byt j=>obtain⟨t',rfl⟩:=ry;exact PySem.W.eq_bytes (dF I q Od)
  | _=>exact absurd (show false=true from hs) Bool.false_ne_true
 | _=>cases y <;> exact absurd (show false=true from hs) Bool.false_ne_true
theorem JQ:yH X (compareOp .NotEq) rNe:=by
 intro pins s σ H x y v u Q I rx ry h
 obtain⟨hs,q⟩:=h
 cases x with
 | non=>
  cases rx
  cases y with
  | non=>cases ry;exact PySem.EqNone.ne_none_none (dF I q (by simp))
  | bl j=>cases ry;exact PySem.EqNone.ne_none_bool (dF I q (by simp))
  | int j=>obtain⟨t',rfl⟩:=ry;exact PySem.EqNone.ne_none_int (dF I q (by simp))
  | str j=>obtain⟨t',rfl⟩:=ry;exact PySem.EqNone.ne_none_str (dF I q (by simp))
  | _=>exact absurd (show false=true from hs) Bool.false_ne_true
 | bl i=>
  cases rx
  cases y with
  | non=>cases ry;exact PySem.EqNone.ne_bool_none (dF I q (by simp))
  | bl j=>cases ry;exact ne_bool (dF I q (congrArg not QG))
  | str j=>obtain⟨t',rfl⟩:=ry;exact PySem.EqMixed.ne_bool_str (dF I q (by simp))
  | _=>exact absurd (show false=true from hs) Bool.false_ne_true
 | int i=>
  obtain⟨t,rfl⟩:=rx
  cases y with
  | non=>cases ry;exact PySem.EqNone.ne_int_none (dF I q (by simp))
  | int j=>obtain⟨t',rfl⟩:=ry;exact ne_int (dF I q (congrArg not Mv))
  | str j=>obtain⟨t',rfl⟩:=ry;exact PySem.EqMixed.ne_int_str (dF I q (by simp))
  | _=>exact absurd (show false=true from hs) Bool.false_ne_true
 | str i=>
  obtain⟨t,rfl⟩:=rx
  cases y with
  | non=>cases ry;exact PySem.EqNone.ne_str_none (dF I q (by simp))
  | bl j=>cases ry;exact PySem.EqMixed.ne_str_bool (dF I q (by simp))
  | int j=>obtain⟨t',rfl⟩:=ry;exact PySem.EqMixed.ne_str_int (dF I q (by simp))
  | str j=>obtain⟨t',rfl⟩:=ry;exact ne_str (dF I q (congrArg not NK))
  | _=>exact absurd (show false=true from hs) Bool.false_ne_true
 | byt i=>
  obtain⟨t,rfl⟩:=rx
  cases y with
  | byt j=>obtain⟨t',rfl⟩:=ry;exact PySem.W.ne_bytes (dF I q (congrArg not Od))
  | _=>exact absurd (show false=true from hs) Bool.false_ne_true
 | _=>cases y <;> exact absurd (show false=true from hs) Bool.false_ne_true
theorem xq:yH X (compareOp .Lt) (Tw fun i j=>.bl (decide (i <j))):=Ux fun _ _ _ _ _ _ _ q=>lt_int q
theorem wN:yH X (compareOp .LtE) (Tw fun i j=>.bl (decide (i<=j))):=Ux fun _ _ _ _ _ _ _ q=>le_int q
theorem Nk:yH X (compareOp .Gt) (Tw fun i j=>.bl (decide (j <i))):=Ux fun _ _ _ _ _ _ _ q=>gt_int q
theorem VG:yH X (compareOp .GtE) (Tw fun i j=>.bl (decide (j<=i))):=Ux fun _ _ _ _ _ _ _ q=>ge_int q
theorem zz:yH X (compareOp .In) (fun x y H Q=>∃i j,x=.str i/\y=.str j/\Q (.bl (!(Builtin.Str.occurrences j i 0 j.length 1).isEmpty)) H):=by
 intro pins s σ H x y v u Q I rx ry h
 obtain⟨i,j,rfl,rfl,q⟩:=h
 obtain⟨t,rfl⟩:=rx
 obtain⟨t',rfl⟩:=ry
 exact in_str (dF I q rfl)
theorem bT (b:Expr) {op:CmpOp} (h:op≠.In:=by decide) (h2:op≠.NotIn:=by decide):behindInMarks op b=false:=by
 have e1:(op == CmpOp.In)=false:=by cases op <;> first | rfl | exact absurd rfl h
 have e2:(op == CmpOp.NotIn)=false:=by cases op <;> first | rfl | exact absurd rfl h2
 cases b <;> simp [behindInMarks,e1,e2]
theorem wg {op:CmpOp} {r:R2} (ho:yH X (compareOp op) r) (ha:PE X a ta) (hb:PE X b tb) (hm:behindInMarks op b=false):PE X (.Compare a [op] [b] pos) (X3 r ta tb):=by
 intro pins s σ H Q I h
 exact wpAny_Compare1 (Wi ha hb I h fun v u s2 x y H2 I2 rx ry q=>ho pins s2 σ H2 x y v u Q I2 rx ry q) hm
inductive Rj (Q:Bool->Hp->Prop) (x:V) (H':Hp):Prop where
 | mk:∀k,x=.bl k->Q k H'->Rj Q x H'
noncomputable def Vn (t:TE):TT:=fun σ H Q=>t σ H fun x H'=>Rj Q x H'
theorem bz {op:CmpOp} {r:R2} (ho:yH X (compareOp op) r) (ha:PE X a ta) (hb:PE X b tb) (hm:behindInMarks op b=false):PT X (.Compare a [op] [b] pos) (Vn (X3 r ta tb)):=by
 intro pins s σ H Q I h
 refine wpAny_isTrue_Compare1 (dZ (ha pins s σ H _ I h) fun v s1 ⟨x,H1,I1,r1,q1⟩=>dZ (hb pins s1 σ H1 _ I1 q1) fun u s2 ⟨y,H2,I2,r2,q2⟩=>
  dZ (ho pins s2 σ H2 x y v u _ I2 r1 r2 q2) fun c s3 ⟨z,H3,I3,r3,k,e,q3⟩=>?_) hm
 subst e
 cases r3
 exact wpAny_truthy_bool ⟨H3,I3,q3⟩
inductive Mw (r':R2) (tc:TE) (σ:St) (Q:VK) (y:V) (z:V) (H3:Hp):Prop where
 | mk:∀k,z=.bl k->((if k=true then tc σ H3 fun w' H4=>r' y w' H4 Q else Q (.bl false) H3))->Mw r' tc σ Q y z H3
noncomputable def RW (r r':R2) (ta tb tc:TE):TE:=fun σ H Q=>ta σ H fun x H1=>tb σ H1 fun y H2=>r x y H2 fun z H3=>Mw r' tc σ Q y z H3
theorem RB {op op':CmpOp} {r r':R2} (ho:yH X (compareOp op) r) (ho':yH X (compareOp op') r') (ha:PE X a ta) (hb:PE X b tb) (hc:PE X c tc)
  (hm:lastMarks [op,op'] [b,c]=false:=by with_unfolding_all rfl):PE X (.Compare a [op,op'] [b,c] pos) (RW r r' ta tb tc):=by
 intro pins s σ H Q I h
 refine Compare_chain (dZ (ha pins s σ H _ I h) fun v s1 ⟨x,H1,I1,r1,q1⟩=>chain_link (dZ (hb pins s1 σ H1 _ I1 q1) fun u s2 ⟨y,H2,I2,r2,q2⟩=>
  dZ (ho pins s2 σ H2 x y v u _ I2 r1 r2 q2) fun d s3 ⟨z,H3,I3,r3,k,e,q3⟩=>?_)) hm
 subst e
 cases r3
 refine wpAny_truthy_bool ?_
 cases k with
 | false=>exact ite_ff ⟨.bl false,H3,I3,rfl,q3⟩
 | true=>exact ite_tt (chain_last (dZ (hc pins s3 σ H3 _ I3 q3) fun w' s4 ⟨z',H4,I4,r4,q4⟩=>ho' pins s4 σ H4 y z' u w' Q I4 r2 r4 q4))
theorem yS {op op':CmpOp} {r r':R2} (ho:yH X (compareOp op) r) (ho':yH X (compareOp op') r') (ha:PE X a ta) (hb:PE X b tb) (hc:PE X c tc)
  (hm:lastMarks [op,op'] [b,c]=false:=by with_unfolding_all rfl):PT X (.Compare a [op,op'] [b,c] pos) (Vn (RW r r' ta tb tc)):=by
 intro pins s σ H Q I h
 refine isTrue_chain (dZ (ha pins s σ H _ I h) fun v s1 ⟨x,H1,I1,r1,q1⟩=>test_link (dZ (hb pins s1 σ H1 _ I1 q1) fun u s2 ⟨y,H2,I2,r2,q2⟩=>
  dZ (ho pins s2 σ H2 x y v u _ I2 r1 r2 q2) fun d s3 ⟨z,H3,I3,r3,k,e,q3⟩=>?_)) hm
 subst e
 cases r3
 refine wpAny_truthy_bool ?_
 cases k with
 | false=>
  obtain⟨k',e',q'⟩:=q3
  cases e'
  exact ite_ff ⟨H3,I3,q'⟩
 | true=>
  refine ite_tt (test_last (dZ (hc pins s3 σ H3 _ I3 q3) fun w' s4 ⟨z',H4,I4,r4,q4⟩=>dZ (ho' pins s4 σ H4 y z' u w' _ I4 r2 r4 q4) fun d' s5 hpt=>?_))
  obtain⟨z2,H5,I5,r5,k2,e2,q5⟩:=hpt
  subst e2
  cases r5
  exact wpAny_truthy_bool ⟨H5,I5,q5⟩
theorem Ju:(sizeLine:Nat) <2 ^ 63:=by rw [sizeLine_eq];decide
theorem xT:yH X (binaryOp .Add) (fun x y H Q=>∃i j,x=.str i/\y=.str j/\i.length+j.length<=sizeLine/\Q (.str (i ++ j)) H):=by
 intro pins s σ H x y v u Q I rx ry h
 obtain⟨i,j,rfl,rfl,hz,q⟩:=h
 obtain⟨t,rfl⟩:=rx
 obtain⟨t',rfl⟩:=ry
 exact add_str (fun t' tk=>⟨.str (i ++ j),H,I.tok _,⟨_,rfl⟩,q⟩) hz
theorem vals1 {x:V} {us:List Value} (r:Vals [x] us):∃u,us=[u]/\RelV x u:=by
 cases r with
 | cons r1 r2=>cases r2;exact⟨_,rfl,r1⟩
theorem vals2 {x y:V} {us:List Value} (r:Vals [x,y] us):∃u w',us=[u,w']/\RelV x u/\RelV y w':=by
 cases r with
 | cons r1 r2=>
  cases r2 with
  | cons r3 r4=>cases r4;exact⟨_,_,rfl,r1,r3⟩
theorem Gm (hc:X.calm=true):j5 X (.builtin "max") (fun xs H Q=>∃i j,xs=[.int i,.int j]/\Q (.int (if j >i then j else i)) H):=by
 intro pins s σ H xs us Q I r h
 obtain⟨i,j,rfl,q⟩:=h
 obtain⟨u,w',rfl,⟨t,rfl⟩,⟨t',rfl⟩⟩:=vals2 r
 refine max_two_ints (I.ok.hd hc) fun h' tk k=>⟨_,H,I.kept k,?_,q⟩
 by_cases hj:j >i
 ·rw [if_pos hj,if_pos hj];exact⟨_,rfl⟩
 ·rw [if_neg hj,if_neg hj];exact⟨_,rfl⟩
theorem Oo:j5 X (.type "int") (fun xs H Q=>(∃i,xs=[.int i]/\Q (.int i) H)∨∃k,xs=[.bl k]/\Q (.int (if k then 1 else 0)) H):=by
 intro pins s σ H xs us Q I r h
 rcases h with ⟨i,rfl,q⟩ | ⟨k,rfl,q⟩
 ·obtain⟨u,rfl,t,rfl⟩:=vals1 r
  exact call_int_int ⟨.int i,H,I,⟨_,rfl⟩,q⟩
 ·obtain⟨u,rfl,r1⟩:=vals1 r
  cases r1
  exact call_int_bool ⟨.int (if k then 1 else 0),H,I.tok _,⟨_,rfl⟩,q⟩
theorem HR:j5 X (.type "str") (fun xs H Q=>∃i,xs=[.int i]/\i.natAbs.log2 <1920/\Q (.str (toString i)) H):=by
 intro pins s σ H xs us Q I r h
 obtain⟨i,rfl,hz,q⟩:=h
 obtain⟨u,rfl,t,rfl⟩:=vals1 r
 exact PySem.P.str_of_int hz ⟨.str _,H,I.tok _,⟨_,rfl⟩,q⟩
noncomputable def Yc (K:PySem.W.Frag) (x:V) (H:Hp) (n:Nat):Prop:=
 match x with
 | .str y=>y.length<=sizeLine/\n=y.length
 | .byt y=>y.size<=sizeLine/\n=y.size
 | .ref p=>(∃xs,bR K H p xs/\n=xs.length)∨∃xs,fG K H p xs/\n=xs.length
 | _=>False
theorem cC:j5 X (.builtin "len") (fun xs H Q=>∃x n,xs=[x]/\Yc X.K x H n/\Q (.int n) H):=by
 intro pins s σ H xs us Q I r h
 obtain⟨x,n,rfl,e,q⟩:=h
 obtain⟨u,rfl,rx⟩:=vals1 r
 have hl:=Ju
 have hs:sizeLine=16777216:=sizeLine_eq
 cases x with
 | str y=>
  obtain⟨t,rfl⟩:=rx
  obtain⟨hy,e'⟩:y.length<=sizeLine/\n=y.length:=e
  subst e'
  exact len_str (by omega) ⟨.int _,H,I.tok _,⟨_,rfl⟩,q⟩
 | byt y=>
  obtain⟨t,rfl⟩:=rx
  obtain⟨hy,e'⟩:y.size<=sizeLine/\n=y.size:=e
  subst e'
  exact PySem.W.len_bytes (by omega) ⟨.int _,H,I.tok _,⟨_,rfl⟩,q⟩
 | ref p=>
  cases rx
  have e':(∃xs,bR X.K H p xs/\n=xs.length)∨∃xs,fG X.K H p xs/\n=xs.length:=e
  rcases e' with ⟨xs,hx,e'⟩ | ⟨xs,hx,e'⟩
  ·subst e'
   obtain⟨its,r',pl,hz⟩:=I.list hx
   have hlen:=r'.length
   exact Calls.call_len_list pl.isList (by simp only [List.size_toArray];omega) ⟨.int xs.length,H,I.tok _,⟨_,by simp only [List.size_toArray];rw [hlen]⟩,q⟩
  ·subst e'
   obtain⟨its,r',pl,hz⟩:=I.tuple hx
   have hlen:=r'.length
   exact len_tuple pl (by simp only [List.size_toArray];omega) ⟨.int xs.length,H,I.tok _,⟨_,by simp only [List.size_toArray];rw [hlen]⟩,q⟩
 | _=>exact(show False from e).elim
end
structure Ma (h:Heap) (x dx C:Addr) (mA:Str->Option Value):Prop where
 obj:h.get? x=some (PySem.W.instObj C dx)
 ns:h.Ns1 dx mA
 ne:dx≠x
theorem Aa {h:Heap} {dx:Addr} {mA:Str->Option Value} (n:h.Ns1 dx mA):∃od,h.get? dx=some od/\∀name,PySem.W.lookIn name od=some (mA name):=by
 obtain⟨o,es,ep,ho,hd,hk,_,hm⟩:=n
 refine⟨o,ho,fun name=>?_⟩
 have e:=hm name
 unfold nsFind findBy at e
 rw [<-Array.find?_toList] at e
 unfold PySem.W.lookIn
 rw [hd]
 dsimp only
 split
 ·rename_i y q
  rw [q] at e
  exact congrArg some e
 ·rename_i q
  rw [q] at e
  have a:es.toList.any (·.refKey)=false:=by
   rw [List.any_eq_false]
   intro y hy
   obtain⟨z,t,hkey⟩:=hk y (Array.mem_toList_iff.mp hy)
   simp [DictEntry.refKey,hkey]
  have a':¬es.toList.any (·.refKey)=true:=by rw [a];exact Bool.false_ne_true
  rw [if_neg a']
  exact congrArg some e
theorem Ma.look {h:Heap} {x dx C:Addr} {mA:Str->Option Value} (I:Ma h x dx C mA):∃od,PySem.W.InstAt h x (PySem.W.instObj C dx) C (some od)/\∀name,PySem.W.lookIn name od=some (mA name):=
 let ⟨od,ho,hl⟩:=Aa I.ns
 ⟨od,⟨I.obj,rfl,rfl,ho⟩,hl⟩
section
variable {prog:Program} {w:World} {A:Around} {E:Value->Shared->Prop} {s:Shared} {K:PySem.W.Frag} {x dx C f:Addr} {mA:Str->Option Value} {name:Str} {v:Value}
theorem UG {expr:Bool} {Q:Value->Shared->Prop} (X:K.In s.heap) (I:Ma s.heap x dx C mA) (hg:PySem.W.plainGet K C name=true) (hh:PySem.W.hasDictIn K C=true)
  (ha:PySem.W.findIn K (.ref C) name=some none) (hv:mA name=some v) (hv':PySem.W.handedIn v=true) (h:Q v { s with toks:=s.toks+1 }):
  wpAny (model prog w) A (getAttr (.ref x) name expr) Q E s:=by
 obtain⟨od,J,hl⟩:=I.look
 exact PySem.W.get_value X J (PySem.W.plainGet_of hg).1 (PySem.W.findObj_own hh ha rfl (by rw [hl,hv])) hv' h
theorem Ql {pl:Sem Bool} {Q:Value×List Value->Shared->Prop} (X:K.In s.heap) (I:Ma s.heap x dx C mA) (hg:PySem.W.plainGet K C name=true)
  (hf:PySem.W.findIn K (.ref C) name=some (some (.ref f))) (ht:PySem.W.isFn K (.ref f)=true) (hv:mA name=none) (h:Q (.ref f,[.ref x]) s):
  wpAny (model prog w) A (getMethod (.ref x) name pl) Q E s:=by
 obtain⟨od,J,hl⟩:=I.look
 exact PySem.W.method_fn X J (PySem.W.plainGet_of hg).1 (PySem.W.plainGet_of hg).2 hf (beq_iff_eq.mp ht) (by show(PySem.W.lookIn name od).map (·.isSome)=some false;rw [hl,hv];rfl) h
theorem Uy {ns:List Str} {Q:Unit->Shared->Prop} (X:K.In s.heap) (I:Ma s.heap x dx C mA)
  (hs:PySem.W.findIn K (.ref C) "__setattr__" =some (some (.builtin "object.__setattr__"))) (hp:PySem.W.plainOver K C=true) (ht:PySem.W.takerIn K C name=some none) (hh:PySem.W.hasDictIn K C=true)
  (hw:PySem.Within mA ns) (hsz:ns.length<=sizeLine)
  (h:∀h',Ma h' x dx C (fun y=>if y=name then some v else mA y)->Heap.SameBut dx s.heap h'->Q () { s with heap:=h',toks:=s.toks+2 }):
  wpAny (model prog w) A (setAttr (.ref x) name v) Q E s:=by
 obtain⟨od,J,hl⟩:=I.look
 refine PySem.W.set_plain X J hs (PySem.W.osa_open (s:={ s with toks:=s.toks+1 }) (r:=none) X J hp ht fun b=>?_)
 obtain⟨cd,hc,hd'⟩:=PySem.W.any_some hh
 have hx:s.heap.get? x=some ⟨.ref C,some dx,.plain,#[]⟩:=I.obj
 refine wpAny_bind (wpAny_pure (wpAny_bind (wpAny_bind (wpAny_loadPart hx (wpAny_bind (PySem.W.Looks.here (s:={ s with toks:=s.toks+1 }) (PySem.W.looks_clsIn X hc) ?_))))))
 rw [hd']
 refine wpAny_pure (a:=some dx) (wpAny_bind (wpAny_pure (wpAny_bind ?_)))
 refine wpAny_nsSet1 (s:={ s with toks:=s.toks+1 }) I.ns fun h' hn2 hs2=>?_
 obtain⟨oD,esD,epD,hoD,hdD,hcD⟩:=hn2.count (PySem.Within.cons name v hw)
 refine wpAny_bind (wpAny_lookBehind hoD (by rw [hdD];exact pastItsLine_dict (Nat.le_trans hcD (by rw [List.length_cons];omega))) ?_)
 exact wpAny_pure (h _ ⟨(hs2.2 _ (Ne.symm I.ne)).trans I.obj,hn2,I.ne⟩ hs2)
theorem RN {R:Result->Shared->Prop} {vs:List Value} {kw:List (Str×Value)} (X:K.In s.heap) (hm:PySem.W.makesIn K C=true)
  (hi:PySem.W.findIn K (.ref C) "__init__" =some (some (.ref f))) (hf:PySem.W.typeIn K (.ref f)=some (.type "function"))
  (h:codeAny (model prog w) (A.under (.builtin "type.__call__" ⟨.ref C:: vs,kw⟩)) (.call (.ref f) ⟨.ref (s.heap.objs.size+1):: vs,kw⟩) (PySem.W.InitBack (s.heap.objs.size+1) R)
   { s with heap:=(s.heap.push PySem.W.emptyDict).push (PySem.W.instObj C s.heap.objs.size) }):
  codeAny (model prog w) A (.call (.ref C) ⟨vs,kw⟩) R s:=by
 obtain⟨hh,g,d,t,os⟩:=s
 exact PySem.W.make_core (PySem.W.makes_of X hm) (PySem.W.looks_findIn X hi) (fun self=>PySem.W.bind_fn X self hf) (.inl rfl) h
end
noncomputable def aJ (f:Str) (v:V):List (Str×V)->List (Str×V)
 | []=>[(f,v)]
 | (g,x):: r=>if g=f then(g,v):: r else(g,x):: aJ f v r
theorem aF (f g:Str) (v:V):∀fs:List (Str×V),(aJ f v fs).lookup g=if g=f then some v else fs.lookup g
 | []=>by
  show List.lookup g [(f,v)]=_
  by_cases h:g=f
  ·have hb:(g == f)=true:=beq_iff_eq.mpr h
   simp only [List.lookup,hb,if_pos h]
  ·have hb:(g == f)=false:=beq_eq_false_iff_ne.mpr h
   simp only [List.lookup,hb,if_neg h]
 | (k,x):: r=>by
  have ih:=aF f g v r
  rw [show aJ f v ((k,x):: r)=(if k=f then(k,v):: r else(k,x):: aJ f v r) from rfl]
  by_cases hk:k=f
  ·rw [if_pos hk]
   by_cases h:g=k
   ·have hb:(g == k)=true:=beq_iff_eq.mpr h
    simp only [List.lookup,hb,if_pos (h.trans hk)]
   ·have hb:(g == k)=false:=beq_eq_false_iff_ne.mpr h
    simp only [List.lookup,hb,if_neg (fun e:g=f=>h (e.trans hk.symm))]
  ·rw [if_neg hk]
   by_cases h:g=k
   ·have hb:(g == k)=true:=beq_iff_eq.mpr h
    simp only [List.lookup,hb,if_neg (fun e:g=f=>hk (h.symm.trans e))]
   ·have hb:(g == k)=false:=beq_eq_false_iff_ne.mpr h
    simp only [List.lookup,hb]
    exact ih
theorem zH (f:Str) (v:V):∀fs:List (Str×V),f∈(aJ f v fs).map (·.1)/\∀g,g∈fs.map (·.1)->g∈(aJ f v fs).map (·.1)
 | []=>⟨by simp [aJ],fun g h=>by simp at h⟩
 | (k,x):: r=>by
  obtain⟨i1,i2⟩:=zH f v r
  rw [show aJ f v ((k,x):: r)=(if k=f then(k,v):: r else(k,x):: aJ f v r) from rfl]
  by_cases hk:k=f
  ·rw [if_pos hk]
   subst hk
   exact⟨by simp,fun g h=>by simpa using h⟩
  ·rw [if_neg hk]
   refine⟨?_,fun g h=>?_⟩
   ·rw [List.map_cons]
    exact List.mem_cons_of_mem _ i1
   ·rw [List.map_cons] at h ⊢
    rcases List.mem_cons.mp h with e | e
    ·exact List.mem_cons.mpr (.inl e)
    ·exact List.mem_cons_of_mem _ (i2 g e)
theorem uM (f:Str) (v:V):∀fs:List (Str×V),(aJ f v fs).length<=fs.length+1
 | []=>by simp [aJ]
 | (k,x):: r=>by
  have ih:=uM f v r
  rw [show aJ f v ((k,x):: r)=(if k=f then(k,v):: r else(k,x):: aJ f v r) from rfl]
  by_cases hk:k=f
  ·rw [if_pos hk,List.length_cons,List.length_cons];omega
  ·rw [if_neg hk,List.length_cons,List.length_cons];omega
theorem qM.some_of {v:V} {o:Option Value} (r:qM (some v) o):∃u,o=some u/\RelV v u:=by
 cases o with
 | none=>exact(show False from r).elim
 | some u=>exact⟨u,rfl,r⟩
theorem qM.none_of {o:Option Value} (r:qM none o):o=none:=by
 cases o with
 | none=>rfl
 | some u=>exact(show False from r).elim
theorem GK {v:V} {u:Value} (r:RelV v u):PySem.W.handedIn u=true:=by
 cases v with
 | non=>cases (show u=Value.none from r);rfl
 | bl b=>cases (show u=Value.bool b from r);rfl
 | int i=>obtain⟨t,e⟩:=(show ∃t,u=Value.int i t from r);cases e;rfl
 | str x=>obtain⟨t,e⟩:=(show ∃t,u=Value.str x t from r);cases e;rfl
 | byt b=>obtain⟨t,e⟩:=(show ∃t,u=Value.bytes b t from r);cases e;rfl
 | flt b=>obtain⟨t,e⟩:=(show ∃t,u=Value.float b t from r);cases e;rfl
 | ref a=>cases (show u=Value.ref a from r);rfl
 | ty n=>cases (show u=Value.type n from r);rfl
section
variable {P:Program} {w:World} {H H':Hp} {h h':Heap} {a C dx:Addr} {fs fs':List (Str×V)}
theorem Iv (hok:uz P w H h) (e:H a=some (.ins C dx fs)):∃mA,Ma h a dx C mA/\(∀f,qM (fs.lookup f) (mA f))/\PySem.Within mA (fs.map (·.1))/\fs.length<=1000/\H dx=some (.own a):=by
 obtain⟨d,z,ne,ob,mA,n,r,q⟩:=(show dX P w H h a (.ins C dx fs) from hok a _ e)
 exact⟨mA,⟨ob,n,ne⟩,r,q,z,d⟩
end
structure Qa (K:PySem.W.Frag) (C:Addr):Prop where
 pg:PySem.W.plainGet K C Str.empty=true
 hd:PySem.W.hasDictIn K C=true
 po:PySem.W.plainOver K C=true
 sa:PySem.W.findIn K (.ref C) "__setattr__" =some (some (.builtin "object.__setattr__"))
theorem Qa.get {K:PySem.W.Frag} {C:Addr} (c:Qa K C) (f:Str):PySem.W.plainGet K C f=true:=c.pg
noncomputable def fX (K:PySem.W.Frag) (C:Addr) (f:Str):Prop:=PySem.W.findIn K (.ref C) f=some none
theorem fX.taker {K:PySem.W.Frag} {C:Addr} {f:Str} (n:fX K C f):PySem.W.takerIn K C f=some none:=by
 unfold PySem.W.takerIn
 rw [show PySem.W.findIn K (.ref C) f=some none from n]
 rfl
structure Meth (K:PySem.W.Frag) (C:Addr) (m:Str) (f:Addr):Prop where
 at_:PySem.W.findIn K (.ref C) m=some (some (.ref f))
 fn:PySem.W.isFn K (.ref f)=true
 kp:PySem.W.keepIn K (.ref f)=true
section
variable {X:Cx} {pins:List (Addr×Obj)} {σ:St} {H:Hp} {s:Shared} {a C dx:Addr} {fs:List (Str×V)} {f:Str} {v:V} {A:Around} {E:Value->Shared->Prop}
theorem Ml {b:Bool} {Q:Value->Shared->Prop} (I:Inv X pins σ H s) (e:H a=some (.ins C dx fs)) (c:Qa X.K C) (n:fX X.K C f) (l:fs.lookup f=some v)
  (h:∀u s',Inv X pins σ H s'->RelV v u->Q u s'):wpAny (model X.prog X.w) A (getAttr (.ref a) f b) Q E s:=by
 obtain⟨mA,O,r,_,_,_⟩:=Iv I.hok e
 obtain⟨u,hu,ru⟩:=qM.some_of (v:=v) (o:=mA f) (by rw [<-l];exact r f)
 exact UG I.kIn O (c.get f) c.hd n hu (GK ru) (h u _ (I.tok _) ru)
theorem sW {m:Str} {g:Addr} {pl:Sem Bool} {Q:Value×List Value->Shared->Prop} (I:Inv X pins σ H s) (e:H a=some (.ins C dx fs)) (c:Qa X.K C) (k:Meth X.K C m g) (l:fs.lookup m=none)
  (h:Q (.ref g,[.ref a]) s):wpAny (model X.prog X.w) A (getMethod (.ref a) m pl) Q E s:=by
 obtain⟨mA,O,r,_,_,_⟩:=Iv I.hok e
 have hn:mA m=none:=qM.none_of (by rw [<-l];exact r m)
 exact Ql I.kIn O (c.get m) k.at_ k.fn hn h
theorem K4 {y:V} {u:Value} {Q:Unit->Shared->Prop} (I:Inv X pins σ H s) (e:H a=some (.ins C dx fs)) (c:Qa X.K C) (n:fX X.K C f) (hl:fs.length <1000) (ry:RelV y u)
  (h:∀s',Inv X pins σ (upd H a (.ins C dx (aJ f y fs))) s'->Q () s'):wpAny (model X.prog X.w) A (setAttr (.ref a) f u) Q E s:=by
 obtain⟨mA,O,r,wi,_,ho⟩:=Iv I.hok e
 have hz:(fs.map (·.1)).length<=sizeLine:=by rw [List.length_map,sizeLine_eq];omega
 refine Uy I.kIn O c.sa c.po n.taker c.hd wi hz fun h' O' sb=>h _ ?_
 have hd:∃o,h'.get? dx=some o:=let ⟨o,_,_,e',_⟩:=O'.ns;⟨o,e'⟩
 refine I.write (x:=a) (e:=dx) (by rw [e];exact True.intro) (.inr ho) (fun b q hb z=>(sb.2 b hb).trans z) hd ?_
 refine⟨by rw [aG O.ne];exact ho,?_,O.ne,O'.obj,_,O'.ns,fun g=>?_,fun g hg=>?_⟩
 ·have:=uM f y fs;omega
 ·show qM ((aJ f y fs).lookup g) (if g=f then some u else mA g)
  rw [aF]
  by_cases q:g=f
  ·rw [if_pos q,if_pos q];exact ry
  ·rw [if_neg q,if_neg q];exact r g
 ·by_cases q:g=f
  ·rw [q];exact(zH f y fs).1
  ·refine(zH f y fs).2 g (wi g fun z=>hg ?_)
   show(if g=f then some u else mA g)=none
   rw [if_neg q];exact z
theorem Inv.made (I:Inv X pins σ H s):Inv X pins σ (upd (upd H s.heap.objs.size (.own (s.heap.objs.size+1))) (s.heap.objs.size+1) (.ins C s.heap.objs.size []))
  { s with heap:=(s.heap.push PySem.W.emptyDict).push (PySem.W.instObj C s.heap.objs.size) }:=by
 have e1:(s.heap.push PySem.W.emptyDict).get? s.heap.objs.size=some PySem.W.emptyDict:=Heap.get?_push_size s.heap rfl
 have e2:((s.heap.push PySem.W.emptyDict).push (PySem.W.instObj C s.heap.objs.size)).get? (s.heap.objs.size+1)=some (PySem.W.instObj C s.heap.objs.size):=by
  have:=Heap.get?_push_size (s.heap.push PySem.W.emptyDict) (o:=PySem.W.instObj C s.heap.objs.size) rfl
  rwa [Heap.size_push] at this
 have e3:(s.heap.push PySem.W.emptyDict).Ns s.heap.objs.size (fun _=>none):=⟨PySem.W.emptyDict,#[],_,e1,rfl,(fun e he=>absurd he (by simp)),fun _=>rfl⟩
 have I1:=I.laid (a:=s.heap.objs.size) (o:=.own (s.heap.objs.size+1)) (h':=s.heap.push PySem.W.emptyDict) (t':=s.toks) (fun b u q=>Heap.get?_push_of_some _ q) (Nat.le_refl _) ⟨_,e1⟩
 refine I1.laid (a:=s.heap.objs.size+1) (o:=.ins C s.heap.objs.size []) (t':=s.toks) (fun b u q=>Heap.get?_push_of_some _ q) (Nat.le_of_eq (Heap.size_push _ _)) ?_
 have ne:s.heap.objs.size≠s.heap.objs.size+1:=Nat.ne_of_lt (Nat.lt_succ_self _)
 refine⟨by rw [aG ne,aq],Nat.zero_le _,ne,e2,fun _=>none,(Heap.Ns1.of_empty e3).at fun o q=>Heap.get?_push_of_some _ q,fun _=>True.intro,fun y hy=>absurd rfl hy⟩
theorem M8 {prog:Program} {w:World} {env:Env} {e:Expr} {f:Str} {pos:Pos} {s:Shared} {Q:Value->Shared->Prop} (hb:attributeBase e f env (eval e env)=eval e env)
  (h:wpAny (model prog w) A (eval e env) (fun o s₁=>wpAny (model prog w) A (getAttr o f true) Q E s₁) E s):wpAny (model prog w) A (eval (.Attribute e f pos) env) Q E s:=
 Attribute_any_ h (by rw [arm_eval_Attribute,hb])
end
inductive Vi (K:PySem.W.Frag) (f:Str) (Q:VK) (x:V) (H1:Hp):Prop where
 | mk:∀a C dx fs v,x=.ref a->H1 a=some (.ins C dx fs)->Qa K C->fX K C f->fs.lookup f=some v->Q v H1->Vi K f Q x H1
noncomputable def YD (K:PySem.W.Frag) (ta:TE) (f:Str):TE:=fun σ H Q=>ta σ H fun x H1=>Vi K f Q x H1
inductive Vg (K:PySem.W.Frag) (f:Str) (D:Ends) (σ:St) (y:V) (x:V) (H2:Hp):Prop where
 | mk:∀a C dx fs,x=.ref a->H2 a=some (.ins C dx fs)->Qa K C->fX K C f->fs.length <1000->D.nx σ (upd H2 a (.ins C dx (aJ f y fs)))->Vg K f D σ y x H2
noncomputable def ZJ (K:PySem.W.Frag) (ta tv:TE) (f:Str):TS:=fun D σ H=>tv σ H fun y H1=>ta σ H1 fun x H2=>Vg K f D σ y x H2
noncomputable def Y5 (X:Cx) (op:Operator) (rd:V->V->Hp->VK->Prop):Prop:=
 ∀(pins:List (Addr×Obj)) (s:Shared) (σ:St) (H:Hp) (x y:V) (u v:Value) (Q:VK),Inv X pins σ H s->RelV x u->RelV y v->rd x y H Q->wpAny (model X.prog X.w) X.A (inplaceOp op u v) (EP X pins σ Q) X.xe s
section
variable {X:Cx} {o e value:Expr} {f:Str} {pos pos' tpos:Pos} {ta tv:TE}
theorem aZ (he:PE X e ta) (hb:attributeBase e f X.env (eval e X.env)=eval e X.env):PE X (.Attribute e f pos) (YD X.K ta f):=by
 intro pins s σ H Q I h
 refine M8 hb (dZ (he pins s σ H _ I h) fun u s1 hpt=>?_)
 obtain⟨x,H1,I1,rx,a,C,dx,fs,v,ex,ea,c,n,l,q⟩:=hpt
 subst ex
 obtain rfl:u=Value.ref a:=rx
 exact Ml I1 ea c n l fun u' s2 I2 ru=>⟨v,H1,I2,ru,q⟩
theorem iI (ha:PE X o ta) (hv:PE X value tv) (hs:swapsWith value (some (.Attribute o f pos')) pos.line X.env=pure false):PS X (.Assign [.Attribute o f pos'] value pos) (ZJ X.K ta tv f):=by
 intro pins s σ H D I h
 refine plainObj_wpAny_Assign_Attribute (dZ (hv pins s σ H _ I h) fun u s1 ⟨y,H1,I1,ry,q⟩=>dZ (ha pins s1 σ H1 _ I1 q) fun ov s2 hpt=>?_) hs
 obtain⟨x,H2,I2,rx,a,C,dx,fs,ex,ea,c,n,l,q2⟩:=hpt
 subst ex
 obtain rfl:ov=Value.ref a:=rx
 exact K4 I2 ea c n l ry fun s3 I3=>⟨σ,_,I3,q2⟩
end
section
variable {X:Cx} {pins:List (Addr×Obj)} {σ:St} {H:Hp} {s:Shared} {A:Around} {E:Value->Shared->Prop} {Q:Value->Shared->Prop} {c:Value} {b:Bool}
end
structure iV (k:Nat) (A:Around):Prop where
 hd:A.handled=none
 dp:A.depth+3 * k+5 <recursionLimit
 un:A.units+16 * k+200 <cLine
theorem iV.mono {j k:Nat} {A:Around} (r:iV k A) (h:j<=k):iV j A:=⟨r.hd,by have:=r.dp;omega,by have:=r.un;omega⟩
theorem iV.deeper {k:Nat} {A:Around} (r:iV (k+1) A) (env:Env):iV k (A.deeper env):=
 ⟨r.hd,by have:=r.dp;show A.depth+1+3 * k+5 <_;omega,by have:=r.un;show A.units+3+16 * k+200 <_;omega⟩
theorem LR {A:Around} {C:Addr} {us:List Value} {kw:List (Str×Value)}:(A.under (.builtin "type.__call__" ⟨.ref C:: us,kw⟩)).depth=A.depth+1:=by
 first | rfl | simp [Around.under,Code.weight,Code.isCreation,Code.isGuard,Code.isCaller,Code.frames,Code.isFrame,guardIds]
theorem Lh {A:Around} {C:Addr} {us:List Value} {kw:List (Str×Value)}:(A.under (.builtin "type.__call__" ⟨.ref C:: us,kw⟩)).units=A.units+1:=by
 first | rfl | simp [Around.under,Code.cUnits,Code.frames,Code.isFrame]
theorem iV.make {k:Nat} {A:Around} (r:iV (k+1) A) (C:Addr) (us:List Value) (kw:List (Str×Value)):iV k (A.under (.builtin "type.__call__" ⟨.ref C:: us,kw⟩)):=
 ⟨r.hd,by have:=r.dp;rw [LR];omega,by have:=r.un;rw [Lh];omega⟩
theorem iV.depth {k:Nat} {A:Around} (r:iV k A):A.depth <recursionLimit:=by have:=r.dp;omega
theorem iV.units {k:Nat} {A:Around} (r:iV k A):A.units+64 <cLine:=by have:=r.un;omega
noncomputable def Ru:TA:=fun _ H Q=>Q [] H
noncomputable def X6 (ta:TE) (tr:TA):TA:=fun σ H Q=>ta σ H fun x H1=>tr σ H1 fun xs H2=>Q (x:: xs) H2
section
variable {X:Cx} {e:Expr} {es:List Expr} {te:TE} {t:TA} {pos:Pos}
theorem ak:PA X [] Ru:=fun _ _ _ _ H Q I h=>Calls.spliced_nil ⟨[],H,I,.nil,h⟩
theorem aa (ha:PE X e te) (hr:PA X es t) (hs:starEach (e:: es) X.env=(false,eval e X.env):: starEach es X.env:=by rfl):PA X (e:: es) (X6 te t):=by
 intro pos pins s σ H Q I h
 rw [hs]
 show wpAny _ _ (spliced ((false,eval e X.env):: backTo pos (starEach es X.env))) _ _ s
 refine Calls.spliced_cons (dZ (ha pins s σ H _ I h) fun u s1 hpt=>?_)
 obtain⟨x,H1,I1,r1,q1⟩:=hpt
 exact dZ (hr pos pins s1 σ H1 _ I1 q1) fun us s2 ⟨xs,H2,I2,r2,q2⟩=>⟨x:: xs,H2,I2,.cons r1 r2,q2⟩
noncomputable def Zu (t:TA):TE:=fun σ H Q=>t σ H fun xs H1=>xs.length<=sizeLine/\∀p,H1 p=none->Q (.ref p) (upd H1 p (.tup xs))
noncomputable def Zq (t:TA):TE:=fun σ H Q=>t σ H fun xs H1=>xs.length<=sizeLine/\∀p,H1 p=none->Q (.ref p) (upd H1 p (.lst xs))
theorem bV {x1} (h:PA X es t):PE X (.Tuple es x1 pos) (Zu t):=by
 intro pins s σ H Q I hq
 refine wpAny_Tuple_spliced (dZ (h pos pins s σ H _ I hq) fun us s1 ⟨xs,H1,I1,r,z,q⟩=>⟨by rw [<-r.length];exact z,?_⟩)
 have hf:H1 s1.heap.objs.size=none:=I1.hok.fresh (Nat.le_refl _)
 refine⟨.ref s1.heap.objs.size,upd H1 s1.heap.objs.size (.tup xs),I1.laid (t':=s1.toks) (fun b u e=>Heap.get?_push_of_some _ e) (Nat.le_refl _) ?_,rfl,q _ hf⟩
 exact⟨z,us,r,⟨_,Heap.get?_push_size _ rfl,rfl,_,rfl⟩⟩
theorem bj (h:PA X es t):PE X (.List es pos) (Zq t):=by
 intro pins s σ H Q I hq
 refine wpAny_List_spliced (dZ (h pos pins s σ H _ I hq) fun us s1 ⟨xs,H1,I1,r,z,q⟩=>⟨by rw [<-r.length];exact z,?_⟩)
 have hf:H1 s1.heap.objs.size=none:=I1.hok.fresh (Nat.le_refl _)
 refine⟨.ref s1.heap.objs.size,upd H1 s1.heap.objs.size (.lst xs),I1.laid (t':=s1.toks) (fun b u e=>Heap.get?_push_of_some _ e) (Nat.le_refl _) ?_,rfl,q _ hf⟩
 exact⟨z,us,0,r,Heap.get?_push_size _ rfl⟩
end
noncomputable abbrev Sp:=List V->Hp->VK->XK->Prop
noncomputable abbrev Dh:=List Env->Hp->Shared->XK->Value->Shared->Prop
structure Ms (P:Program) (w:World) (K:PySem.W.Frag) (mg:Str->Option Value) (base:Heap) (A:Around) (outer:List Env) (s:Shared) (H:Hp):Prop where
 frames:A.frames=some outer
 mod:Mod K mg base
 bs:∀b o,base.get? b=some o->s.heap.get? b=some o/\H b=none
 bsz:base.objs.size<=s.heap.objs.size
 funs:s.heap.FunFrames base outer
 frf:∀b∈frs outer,H b=none
 hok:uz P w H s.heap
 bare:AllBare s.gens
noncomputable def CE (outer:List Env) (P:Program) (w:World) (H:Hp) (s:Shared) (Q:VK) (u:Value) (s':Shared):Prop:=
 ∃v H',s'.os=s.os/\AllBare s'.gens/\Un (frs outer) [] H H' s.heap s'.heap/\uz P w H' s'.heap/\RelV v u/\Q v H'
noncomputable def CR (CX:Dh) (outer:List Env) (P:Program) (w:World) (H:Hp) (s:Shared) (Q:VK) (E:XK) (r:Result) (s':Shared):Prop:=
 match r with
 | .ok (.ret u)=>CE outer P w H s Q u s'
 | .ok _=>False
 | .error e=>CX outer H s E e s'
structure gH (P:Program) (w:World) (K:PySem.W.Frag) (mg:Str->Option Value) (base:Heap) (CX:Dh) (k:Nat) (f:Addr) (fd:FuncData) (ps:List Str) (sp:Sp):Prop where
 len:∀vs H Q E,sp vs H Q E->vs.length=ps.length
 run:∀(A:Around) (outer:List Env) (s:Shared) (H:Hp) (args:Args) (us:List Value) (vs:List V) (Q:VK) (E:XK),iV k A->Ms P w K mg base A outer s H->BindsTo s fd args (ps.zip us)->Vals vs us->sp vs H Q E->
  codeAny (model P w) A (.call (.ref f) args) (CR CX outer P w H s Q E) s
theorem gH.mono {P:Program} {w:World} {K:PySem.W.Frag} {mg:Str->Option Value} {base:Heap} {CX:Dh} {j k:Nat} {f:Addr} {fd:FuncData} {ps:List Str} {sp:Sp} (F:gH P w K mg base CX j f fd ps sp) (h:j<=k):
  gH P w K mg base CX k f fd ps sp:=⟨F.len,fun A outer s H args us vs Q E hr=>F.run A outer s H args us vs Q E (hr.mono h)⟩
theorem gH.imp {P:Program} {w:World} {K:PySem.W.Frag} {mg:Str->Option Value} {base:Heap} {CX:Dh} {k:Nat} {f:Addr} {fd:FuncData} {ps:List Str} {sp sp':Sp} (F:gH P w K mg base CX k f fd ps sp)
  (h:∀vs H Q E,sp' vs H Q E->sp vs H Q E):gH P w K mg base CX k f fd ps sp':=
 ⟨fun vs H Q E q=>F.len vs H Q E (h _ _ _ _ q),fun A outer s H args us vs Q E hr he hb hv hs=>F.run A outer s H args us vs Q E hr he hb hv (h _ _ _ _ hs)⟩
theorem Ms.make {P:Program} {w:World} {K:PySem.W.Frag} {mg:Str->Option Value} {base:Heap} {A:Around} {outer:List Env} {s:Shared} {H:Hp} (e:Ms P w K mg base A outer s H) (C:Addr) (us:List Value) (kw:List (Str×Value)):
  Ms P w K mg base (A.under (.builtin "type.__call__" ⟨.ref C:: us,kw⟩)) outer s H:=⟨by first | exact e.frames | (simpa [Around.under,Code.envs,Code.isFrame,pushEnvs] using e.frames),e.mod,e.bs,e.bsz,e.funs,e.frf,e.hok,e.bare⟩
section
variable {X:Cx} {pins:List (Addr×Obj)} {σ:St} {H:Hp} {s s':Shared}
theorem Inv.env0 (I:Inv X pins σ H s):Ms X.prog X.w X.K X.mg X.base X.A X.stack s H:=
 ⟨I.ok.frames,I.ok.mod,I.bs,Nat.le_trans I.ok.bsz I.sz,I.stack,I.stkFree,I.hok,I.bare⟩
theorem Inv.after {Q:VK} {u:Value} (I:Inv X pins σ H s) (h:CE X.stack X.prog X.w H s Q u s'):EP X pins σ Q u s':=by
 obtain⟨v,H',os,bare,un,hok,r,q⟩:=h
 obtain⟨hh,g,d,t,os'⟩:=s'
 obtain rfl:os'=s.os:=os
 exact⟨v,H',I.call (h':=hh) (g':=g) (d':=d) (t':=t) (ch:=[]) un hok bare (fun b z=>absurd z (by simp)),r,q⟩
end
noncomputable def Vu (sp:Sp) (dvs:List V) (E:XK) (t:TA):TE:=fun σ H Q=>t σ H fun vs H1=>sp (vs ++ dvs) H1 Q E
inductive QJ (C:Addr) (m:Str) (sp:Sp) (dvs:List V) (E:XK) (t:TA) (σ:St) (Q:VK) (x:V) (H1:Hp):Prop where
 | mk:∀a dx fs,x=.ref a->H1 a=some (.ins C dx fs)->fs.lookup m=none->(t σ H1 fun vs H2=>sp (x:: (vs ++ dvs)) H2 Q E)->QJ C m sp dvs E t σ Q x H1
noncomputable def Mz (C:Addr) (m:Str) (sp:Sp) (dvs:List V) (E:XK) (ta:TE) (t:TA):TE:=fun σ H Q=>ta σ H fun x H1=>QJ C m sp dvs E t σ Q x H1
noncomputable def Xv (C:Addr) (sp:Sp) (dvs:List V) (E:XK) (t:TA):TE:=fun σ H Q=>t σ H fun vs H1=>∀x dx,H1 x=none->H1 dx=none->dx≠x->
 sp (.ref x:: (vs ++ dvs)) (upd (upd H1 dx (.own x)) x (.ins C dx [])) (fun v H2=>v=.non/\Q (.ref x) H2) E
noncomputable def Binds (K:PySem.W.Frag) (fd:FuncData) (ps:List Str) (ds:List Value):Prop:=
 ∀(s:Shared) (us:List Value),K.In s.heap->(us ++ ds).length=ps.length->BindsTo s fd ⟨us,[]⟩ (ps.zip (us ++ ds))
theorem Binds.all {K:PySem.W.Frag} {fd:FuncData} {ps:List Str} (h:∀us:List Value,us.length=ps.length->bindArgs fd ⟨us,[]⟩=pure (ps.zip us)):Binds K fd ps []:=fun s us _ hl=>by
 rw [List.append_nil] at hl ⊢
 exact .of_eq (h us hl)
noncomputable def kW (CX:Dh) (X:Cx) (E:XK):Prop:=∀(pins:List (Addr×Obj)) (σ:St) (H:Hp) (s:Shared) (e:Value) (s':Shared),Inv X pins σ H s->CX X.stack H s E e s'->X.xe e s'
section
variable {X:Cx} {CX:Dh} {k:Nat} {f C:Addr} {fd:FuncData} {ps:List Str} {sp:Sp} {dvs:List V} {ds:List Value} {E:XK} {x m:Str} {p pos apos:Pos} {e o:Expr} {es:List Expr} {ta:TE} {t:TA}
theorem Fg {pins:List (Addr×Obj)} {σ:St} {H:Hp} {s:Shared} {Q:VK} {us:List Value} {vs:List V} (F:gH X.prog X.w X.K X.mg X.base CX k f fd ps sp) (hr:iV k X.A) (hb:Binds X.K fd ps ds) (hd:Vals dvs ds) (hx:kW CX X E)
  (I:Inv X pins σ H s) (r:Vals vs us) (h:sp (vs ++ dvs) H Q E):wpAny (model X.prog X.w) X.A (call (.ref f) us) (EP X pins σ Q) X.xe s:=by
 have r2:Vals (vs ++ dvs) (us ++ ds):=r.append hd
 have hl:(us ++ ds).length=ps.length:=by rw [<-r2.length];exact F.len _ _ _ _ h
 refine wpAny_call (codeAny_mono (F.run X.A X.stack s H ⟨us,[]⟩ (us ++ ds) (vs ++ dvs) Q E hr I.env0 (hb s us I.kIn hl) r2 h) fun r s' hq=>?_)
 cases r with
 | error e=>exact hx pins σ H s e s' I hq
 | ok fl=>
  cases fl with
  | ret u=>exact I.after hq
  | next=>exact False.elim hq
  | brk=>exact False.elim hq
  | cont=>exact False.elim hq
theorem Ob (F:gH X.prog X.w X.K X.mg X.base CX k f fd ps sp) (hr:iV k X.A) (hg:Gl X x) (hm:X.mg x=some (.ref f)) (hk:PySem.W.keepIn X.K (.ref f)=true) (hb:Binds X.K fd ps ds) (hd:Vals dvs ds) (hx:kW CX X E)
  (ha:PA X (e:: es) t) (hdb:(x == ("__debug__" :Str))=false:=by decide) (he:starEach (e:: es) X.env=(false,eval e X.env):: starEach es X.env:=by rfl) (hpl:(backTo pos (starEach es X.env)).any (·.1)=false:=by rfl):
  PE X (.Call (.Name x p) (e:: es) [] pos) (Vu sp dvs E t):=by
 intro pins s σ H Q I h
 refine wpAny_Call_Name_kw (vW I hg hm ?_ hdb)
 refine PySem.W.callWith_K (h₀:=X.base) I.ok.mod.kin hk (dZ (ha pos pins s σ H _ I h) fun us s1 ⟨vs,H1,I1,r,q⟩=>⟨I1.kIn,?_⟩) he hpl
 exact Fg F hr hb hd hx I1 r q
theorem jG {pl:Sem Bool} (he:PE X o ta) (c:Qa X.K C) (hm:Meth X.K C m f) (F:gH X.prog X.w X.K X.mg X.base CX k f fd ps sp) (hr:iV k X.A) (hb:Binds X.K fd ps ds) (hd:Vals dvs ds) (hx:kW CX X E) (ha:PA X (e:: es) t)
  (hst:starEach (e:: es) X.env=(false,eval e X.env):: starEach es X.env:=by rfl) (hpl:(backTo pos (starEach es X.env)).any (·.1)=false:=by rfl)
  (ht:eval (.Call (.Attribute o m apos) (e:: es) [] pos) X.env=(do
   let ov <-eval o X.env
   standAt apos.atName
   let (f,first) <-holding [ov] (getMethod ov m pl)
   callWith pos f first (backTo pos (starEach (e:: es) X.env)) (backToKw pos (keywordEach [] X.env))):=by rfl):
  PE X (.Call (.Attribute o m apos) (e:: es) [] pos) (Mz C m sp dvs E ta t):=by
 intro pins s σ H Q I h
 refine PySem.W.methodCall_KW (pl:=pl) (dZ (he pins s σ H _ I h) fun u s1 hpt=>?_) ht
 obtain⟨x,H1,I1,rx,a,dx,fs,ex,ea,l,q⟩:=hpt
 subst ex
 obtain rfl:u=Value.ref a:=rx
 refine sW I1 ea c hm l ?_
 refine PySem.W.callWith_K (first:=[.ref a]) (h₀:=X.base) I.ok.mod.kin hm.kp (dZ (ha pos pins s1 σ H1 _ I1 q) fun us s2 ⟨vs,H2,I2,r,q2⟩=>⟨I2.kIn,?_⟩) hst hpl
 exact Fg (us:=.ref a:: us) (vs:=.ref a:: vs) F hr hb hd hx I2 (.cons rfl r) q2
theorem Rb {pl:Sem Bool} (he:PE X o ta) (c:Qa X.K C) (hm:Meth X.K C m f) (F:gH X.prog X.w X.K X.mg X.base CX k f fd ps sp) (hr:iV k X.A) (hb:Binds X.K fd ps ds) (hd:Vals dvs ds) (hx:kW CX X E)
  (ht:eval (.Call (.Attribute o m apos) [] [] pos) X.env=(do
   let ov <-eval o X.env
   standAt apos.atName
   let (f,first) <-holding [ov] (getMethod ov m pl)
   callWith pos f first (backTo pos (starEach [] X.env)) (backToKw pos (keywordEach [] X.env))):=by rfl):
  PE X (.Call (.Attribute o m apos) [] [] pos) (Mz C m sp dvs E ta Ru):=by
 intro pins s σ H Q I h
 refine PySem.W.methodCall_KW (pl:=pl) (dZ (he pins s σ H _ I h) fun u s1 hpt=>?_) ht
 obtain⟨x,H1,I1,rx,a,dx,fs,ex,ea,l,q⟩:=hpt
 subst ex
 obtain rfl:u=Value.ref a:=rx
 refine sW I1 ea c hm l ?_
 exact PySem.W.callWith_K0 (first:=[.ref a]) I1.kIn hm.kp (Fg (us:=[.ref a]) (vs:=[.ref a]) F hr hb hd hx I1 (.cons rfl .nil) q)
structure Mk (K:PySem.W.Frag) (C f:Addr):Prop where
 makes:PySem.W.makesIn K C=true
 init:PySem.W.findIn K (.ref C) "__init__" =some (some (.ref f))
 fn:PySem.W.isFn K (.ref f)=true
 kp:PySem.W.keepIn K (.ref C)=true
theorem Tf {pins:List (Addr×Obj)} {σ:St} {H:Hp} {s:Shared} {Q:VK} {us:List Value} {vs:List V} (M:Mk X.K C f) (F:gH X.prog X.w X.K X.mg X.base CX k f fd ps sp) (hr:iV (k+1) X.A) (hb:Binds X.K fd ps ds) (hd:Vals dvs ds)
  (hx:kW CX X E) (I:Inv X pins σ H s) (r:Vals vs us)
  (h:∀x dx,H x=none->H dx=none->dx≠x->sp (.ref x:: (vs ++ dvs)) (upd (upd H dx (.own x)) x (.ins C dx [])) (fun v H2=>v=.non/\Q (.ref x) H2) E):
  wpAny (model X.prog X.w) X.A (call (.ref C) us) (EP X pins σ Q) X.xe s:=by
 have hq:=h (s.heap.objs.size+1) s.heap.objs.size (I.hok.fresh (Nat.le_succ _)) (I.hok.fresh (Nat.le_refl _)) (Nat.ne_of_lt (Nat.lt_succ_self _))
 have I2:=Inv.made (C:=C) I
 have r2:Vals (V.ref (s.heap.objs.size+1):: (vs ++ dvs)) (Value.ref (s.heap.objs.size+1):: (us ++ ds)):=.cons rfl (r.append hd)
 have hl:(Value.ref (s.heap.objs.size+1):: us ++ ds).length=ps.length:=by
  have e:=r2.length
  rw [F.len _ _ _ _ hq] at e
  exact e.symm
 refine wpAny_call (RN (f:=f) I.kIn M.makes M.init (beq_iff_eq.mp M.fn) (codeAny_mono (F.run _ X.stack _ _ ⟨Value.ref (s.heap.objs.size+1):: us,[]⟩ (Value.ref (s.heap.objs.size+1):: (us ++ ds)) _ _ E (hr.make C us [])
  (I2.env0.make C us []) (hb _ (Value.ref (s.heap.objs.size+1):: us) I2.kIn hl) r2 hq) fun r s' hq'=>?_))
 cases r with
 | error e=>exact hx pins σ _ _ e s' I2 hq'
 | ok fl=>
  cases fl with
  | ret u=>
   obtain⟨v,H',I3,rv,ev,q3⟩:=I2.after hq'
   subst ev
   exact⟨rv,⟨V.ref (s.heap.objs.size+1),H',I3,rfl,q3⟩⟩
  | next=>exact False.elim hq'
  | brk=>exact False.elim hq'
  | cont=>exact False.elim hq'
theorem gJ (M:Mk X.K C f) (F:gH X.prog X.w X.K X.mg X.base CX k f fd ps sp) (hr:iV (k+1) X.A) (hg:Gl X x) (hm:X.mg x=some (.ref C)) (hb:Binds X.K fd ps ds) (hd:Vals dvs ds) (hx:kW CX X E)
  (ha:PA X (e:: es) t) (hdb:(x == ("__debug__" :Str))=false:=by decide) (he:starEach (e:: es) X.env=(false,eval e X.env):: starEach es X.env:=by rfl) (hpl:(backTo pos (starEach es X.env)).any (·.1)=false:=by rfl):
  PE X (.Call (.Name x p) (e:: es) [] pos) (Xv C sp dvs E t):=by
 intro pins s σ H Q I h
 refine wpAny_Call_Name_kw (vW I hg hm ?_ hdb)
 refine PySem.W.callWith_K (h₀:=X.base) I.ok.mod.kin M.kp (dZ (ha pos pins s σ H _ I h) fun us s1 ⟨vs,H1,I1,r,q⟩=>⟨I1.kIn,?_⟩) he hpl
 exact Tf M F hr hb hd hx I1 r q
end
section
variable {X:Cx} {CX:Dh} {k:Nat} {f C:Addr} {fd:FuncData} {ps ks:List Str} {sp:Sp} {E:XK} {x m:Str} {p pos apos kpos:Pos} {e o:Expr} {es:List Expr} {kws:List Keyword} {te ta:TE} {t tk:TA} {nm:Option Str}
variable {g:List Value->List Value->List Value} {gV:List V->List V->List V}
end
structure gK (N P:List Str) (sc:Scope):Prop where
 kind:sc.kind=.function
 co:sc.isCoroutine=false
 gen:sc.isGenerator=false
 nd:N.Nodup
 pre:N.take P.length=P
 par:∀x∈P,sc.names.lookup x=some .local∨sc.names.lookup x=some .cell
 nofree:∀y∈sc.names,y.2≠.free
theorem Hi {kindOf:Str->Option NameKind} {x:Str}:∀{binds:List (Str×Value)} {m:Str->Option Value},(∀v,(x,v)∉binds)->bindL kindOf binds m x=m x
 | [],_,_=>rfl
 | (n,v):: r,m,h=>by
  unfold bindL
  rw [Hi fun w hw=>h w (List.mem_cons_of_mem _ hw)]
  split
  ·have:x≠n:=by rintro rfl;exact h v List.mem_cons_self
   simp [this]
  ·rfl
theorem Hg {kindOf:Str->Option NameKind} {x:Str}:∀{binds:List (Str×Value)} {m:Str->Option Value},(∀v,(x,v)∉binds)->bindC kindOf binds m x=m x
 | [],_,_=>rfl
 | (n,v):: r,m,h=>by
  unfold bindC
  rw [Hg fun w hw=>h w (List.mem_cons_of_mem _ hw)]
  split
  ·rfl
  ·have:x≠n:=by rintro rfl;exact h v List.mem_cons_self
   simp [this]
theorem Gf {kindOf:Str->Option NameKind} {x:Str} {v:Value}:∀{P:List Str} {vs:List Value} {i:Nat} {m:Str->Option Value},P.Nodup->P[i]?=some x->vs[i]?=some v->kindOf x=some .local->
  bindL kindOf (P.zip vs) m x=some v
 | [],_,_,_,_,h,_,_=>by simp at h
 | _:: _,[],_,_,_,_,h,_=>by simp at h
 | p:: P,w:: vs,0,m,nd,h1,h2,hk=>by
  simp at h1 h2;subst h1;subst h2
  show bindL kindOf ((p,w):: P.zip vs) m p=_
  unfold bindL
  rw [Hi fun v hv=>(List.nodup_cons.mp nd).1 (List.of_mem_zip hv).1,if_pos hk]
  simp
 | p:: P,w:: vs,i+1,m,nd,h1,h2,hk=>by
  show bindL kindOf ((p,w):: P.zip vs) m x=_
  unfold bindL
  exact Gf (i:=i) (List.nodup_cons.mp nd).2 (by simpa using h1) (by simpa using h2) hk
theorem Hm {kindOf:Str->Option NameKind} {x:Str} {v:Value}:∀{P:List Str} {vs:List Value} {i:Nat} {m:Str->Option Value},P.Nodup->P[i]?=some x->vs[i]?=some v->kindOf x≠some .local->
  bindC kindOf (P.zip vs) m x=some v
 | [],_,_,_,_,h,_,_=>by simp at h
 | _:: _,[],_,_,_,_,h,_=>by simp at h
 | p:: P,w:: vs,0,m,nd,h1,h2,hk=>by
  simp at h1 h2;subst h1;subst h2
  show bindC kindOf ((p,w):: P.zip vs) m p=_
  unfold bindC
  rw [Hg fun v hv=>(List.nodup_cons.mp nd).1 (List.of_mem_zip hv).1,if_neg hk]
  simp
 | p:: P,w:: vs,i+1,m,nd,h1,h2,hk=>by
  show bindC kindOf ((p,w):: P.zip vs) m x=_
  unfold bindC
  exact Hm (i:=i) (List.nodup_cons.mp nd).2 (by simpa using h1) (by simpa using h2) hk
noncomputable def start (N:List Str) (vs:List V):St:=vs.map some ++ List.replicate (N.length - vs.length) none
noncomputable def pW (CX:Dh) (P:Program) (w:World) (K:PySem.W.Frag) (mg:Str->Option Value) (base:Heap) (N:List Str) (qual:Str) (scope:Scope) (f:Addr) (cd:Value) (A:Around) (outer:List Env) (s:Shared) (H:Hp) (E:XK):Cx where
 prog:=P
 w:=w
 K:=K
 mg:=mg
 base:=base
 A:=A.deeper (envOfC qual scope s.heap.objs.size f cd)
 N:=N
 s₀:=s
 H₀:=H
 env:=envOfC qual scope s.heap.objs.size f cd
 outer:=outer
 stack:=envOfC qual scope s.heap.objs.size f cd:: outer
 ex:=[]
 calm:=true
 fn:=fun _=>true
 pn:=[]
 xe:=fun e s'=>wpAny (model P w) (A.deeper (envOfC qual scope s.heap.objs.size f cd)) (leaving (envOfC qual scope s.heap.objs.size f cd) e) (fun _ s''=>CX outer H s E e s'') (fun e' s''=>CX outer H s E e' s'') s'
theorem J7 {sc:Scope} {n:Nat} {x:Str} (h:sc.names.lookup x=some .cell):∃c,(cellsFrom n sc.names []).lookup x=some c:=by
 have q:=PySem.W.cellsFrom_some sc.names n [] (.inl h)
 exact Option.isSome_iff_exists.mp q
theorem PP {CX:Dh} {P:Program} {w:World} {K:PySem.W.Frag} {mg:Str->Option Value} {base:Heap} {N ps:List Str} {qual:Str} {scope:Scope} {f:Addr} {cd:Value} {A:Around} {outer:List Env} {s s1:Shared} {H:Hp} {E:XK} {us:List Value} {vs:List V}
  (S:gK N ps scope) (hd:A.handled=none) (e0:Ms P w K mg base A outer s H) (hl:vs.length=ps.length) (r:Vals vs us)
  (x:InCallC s s.heap.objs.size (bindL (envOfC qual scope s.heap.objs.size f cd).kindOf (ps.zip us) fun _=>none) (cellsFrom (s.heap.objs.size+1) scope.names []) (bindC (envOfC qual scope s.heap.objs.size f cd).kindOf (ps.zip us) fun _=>none) s1):
  Inv (pW CX P w K mg base N qual scope f cd A outer s H E) [] (start N vs) H s1:=by
 have hpl:ps.length<=N.length:=by have:=congrArg List.length S.pre;rw [List.length_take] at this;omega
 obtain⟨h1,tk,rfl,hk⟩:=x.done
 have noA:∀b:Addr,b∉(pW CX P w K mg base N qual scope f cd A outer s H E).ex:=fun b z=>absurd (show b∈([]:List Addr) from z) (by simp)
 refine⟨⟨e0.mod,S.kind,rfl,rfl,Nat.le_refl _,fun y z c h1 h2=>?_,fun y hy=>?_,fun y c _ h=>?_,fun _=>hd,Around.frames_deeper e0.frames,.inr ⟨rfl,rfl⟩,fun b z=>absurd z (noA b),e0.bs,e0.bsz,fun b _ _=>noA b,fun b z=>absurd z (noA b),e0.funs,e0.frf⟩,
  rfl,e0.bare,Un.kept hk,⟨_,x.toInCall.ns,fun i y v h1 h2 h3=>?_⟩,fun y c h=>⟨_,x.cell y c h⟩,e0.hok.fresh (Nat.le_refl _),fun y c h=>?_,fun p hp=>absurd (show p∈([]:List (Addr×Obj)) from hp) (by simp),e0.hok.kept hk,?_⟩
 ·exact name_of_addr x.apart (PySem.mem_of_lookup h1) (PySem.mem_of_lookup h2)
 ·have hy:scope.names.lookup y=some .cell∨scope.names.lookup y=some .free:=hy
  rcases hy with hy | hy
  ·exact J7 hy
  ·exact absurd rfl (S.nofree _ (PySem.mem_of_lookup hy))
 ·exact Nat.le_of_lt (x.above y c (PySem.mem_of_lookup h))
 ·have hi:i <vs.length:=by
   unfold start at h2
   by_cases hi:i <vs.length
   ·exact hi
   ·rw [List.getElem?_append_right (by simpa using hi)] at h2
    rw [List.getElem?_replicate] at h2
    split at h2 <;> cases h2
  have ha:vs[i]?=some v:=by
   unfold start at h2
   rw [List.getElem?_append_left (by simpa using hi),List.getElem?_map] at h2
   cases e:vs[i]? with
   | none=>rw [e] at h2;cases h2
   | some a=>rw [e] at h2;cases h2;rfl
  obtain⟨u,hu,rv⟩:=r.get ha
  have hp:ps[i]?=some y:=by
   rw [<-S.pre,List.getElem?_take_of_lt (by omega)];exact h1
  have ndP:ps.Nodup:=by rw [<-S.pre];exact S.nd.sublist (List.take_sublist _ _)
  refine⟨u,rv,?_⟩
  rcases S.par y (List.mem_of_getElem? hp) with k | k
  ·exact .inl ⟨k,Gf ndP hp hu k⟩
  ·obtain⟨c,e⟩:=J7 (n:=s.heap.objs.size+1) k
   refine .inr ⟨.inl k,c,e,?_⟩
   have q:=x.cell y c e
   rw [Hm ndP hp hu (by show scope.names.lookup y≠_;rw [k];decide)] at q
   exact q
 ·exact e0.hok.fresh (Nat.le_of_lt (x.above y c (PySem.mem_of_lookup h)))
 ·unfold start
  show _=N.length
  rw [List.length_append,List.length_map,List.length_replicate]
  omega
theorem Vx {CX:Dh} {P:Program} {w:World} {K:PySem.W.Frag} {mg:Str->Option Value} {base:Heap} {k:Nat} {f:Addr} {name qual:Str} {params:Arguments} {body:List Stmt} {scope:Scope} {dV kV doc pm cdv ct oc:Value} {an od:Option Addr}
  {osl:Array (Option Value)} {N ps:List Str} {sp:Sp} (lk:K.lookup f=some ⟨oc,od,.func (PySem.W.fnOf name qual params body scope dV kV doc pm an cdv ct),osl⟩) (hcd:PySem.W.codeIn K cdv qual=true) (S:gK N ps scope)
  (len:∀vs H Q E,sp vs H Q E->vs.length=ps.length)
  (hbody:∀(A:Around) (outer:List Env) (s:Shared) (H:Hp) (vs:List V) (Q:VK) (E:XK),iV k (A.deeper (envOfC qual scope s.heap.objs.size f cdv))->sp vs H Q E->
   ∃t,KZ (pW CX P w K mg base N qual scope f cdv A outer s H E) body t/\t { nx:=fun _ H'=>Q .non H',rt:=Q } (start N vs) H):
  gH P w K mg base CX (k+1) f (PySem.W.fnOf name qual params body scope dV kV doc pm an cdv ct) ps sp:=by
 refine⟨len,fun A outer s H args us vs Q E hr e0 hb r hsp=>?_⟩
 have hl:=len _ _ _ _ hsp
 have KX:K.In s.heap:=e0.mod.kin.keeps fun b o e=>(e0.bs b o e).1
 have lim:s.heap.NoLimit:=e0.mod.nolimit.keeps fun b o e=>(e0.bs b o e).1
 have hkind:∀y∈ps.zip us,scope.names.lookup y.1=some .local∨(scope.names.lookup y.1=some .cell/\((cellsFrom (s.heap.objs.size+1) scope.names []).lookup y.1).isSome=true):=fun⟨n,v⟩ hy=>by
  rcases S.par n (List.of_mem_zip hy).1 with q | q
  ·exact .inl q
  ·exact .inr ⟨q,PySem.W.cellsFrom_some _ _ _ (.inl q)⟩
 refine codeAny_call_function hr.depth (KX _ _ lk) rfl S.co S.gen rfl (PySem.W.codeRec_of KX hcd) (hb _ _ _ _ ?_)
 refine wpAny_newFunctionEnv_cells S.kind hkind fun env he s1 x=>?_
 subst he
 refine⟨lim.keeps x.toInCall.keep,codeAny_func ?_⟩
 obtain⟨t,ht,hq⟩:=hbody A outer s H vs Q E (hr.deeper _) hsp
 have I:Inv (pW CX P w K mg base N qual scope f cdv A outer s H E) [] (start N vs) H s1:=PP S hr.hd e0 hl r x
 refine wpAny_mono (ht [] s1 (start N vs) H _ I hq) (fun fl s' hs=>?_) fun e s' hs=>hs
 have fin:∀{σ':St} {H':Hp} {v:V} {u:Value},Inv (pW CX P w K mg base N qual scope f cdv A outer s H E) [] σ' H' s'->RelV v u->Q v H'->CE outer P w H s Q u s':=
  fun {σ' H' v u} J rv q=>⟨v,H',J.os,J.bare,J.base,J.hok,rv,q⟩
 cases fl with
 | ret u=>
  obtain⟨v,σ',H',J,rv,q⟩:=hs
  exact fin J rv q
 | next=>
  obtain⟨σ',H',J,q⟩:=hs
  exact fin (v:=V.non) (u:=Value.none) J rfl q
 | brk=>
  obtain⟨_,_,_,q⟩:=hs
  exact False.elim q
 | cont=>
  obtain⟨_,_,_,q⟩:=hs
  exact False.elim q
section
variable {X:Cx} {x:Str} {p pos:Pos} {e:Expr} {es:List Expr} {t:TA} {id T:String} {r:List V->Hp->VK->Prop}
noncomputable def ZV (r:List V->Hp->VK->Prop) (t:TA):TE:=fun σ H Q=>t σ H fun vs H1=>r vs H1 Q
theorem bJ (hc:j5 X (.builtin id) r) (hg:Gl X x) (hm:X.mg x=none) (hv:bootBuiltins x=some (.builtin id)) (ha:PA X (e:: es) t) (hn:x≠ "__name__" :=by decide) (hdb:(x == ("__debug__" :Str))=false:=by decide)
  (he:starEach (e:: es) X.env=(false,eval e X.env):: starEach es X.env:=by rfl) (hpl:(backTo pos (starEach es X.env)).any (·.1)=false:=by rfl):PE X (.Call (.Name x p) (e:: es) [] pos) (ZV r t):=by
 intro pins s σ H Q I h
 refine wpAny_Call_Name_kw (Fv I hg hm hv ?_ hn hdb)
 exact PyProof.Rows.callWith_builtin1 (dZ (ha pos pins s σ H _ I h) fun us s1 ⟨vs,H1,I1,r1,q1⟩=>hc pins s1 σ H1 vs us Q I1 r1 q1) he hpl
theorem cY (hc:j5 X (.type T) r) (hg:Gl X x) (hm:X.mg x=none) (hv:bootBuiltins x=some (.type T)) (ha:PA X (e:: es) t) (hn:x≠ "__name__" :=by decide) (hdb:(x == ("__debug__" :Str))=false:=by decide)
  (he:starEach (e:: es) X.env=(false,eval e X.env):: starEach es X.env:=by rfl) (hpl:(backTo pos (starEach es X.env)).any (·.1)=false:=by rfl):PE X (.Call (.Name x p) (e:: es) [] pos) (ZV r t):=by
 intro pins s σ H Q I h
 refine wpAny_Call_Name_kw (Fv I hg hm hv ?_ hn hdb)
 exact PyProof.Rows.callWith_type1 (dZ (ha pos pins s σ H _ I h) fun us s1 ⟨vs,H1,I1,r1,q1⟩=>hc pins s1 σ H1 vs us Q I1 r1 q1) he hpl
end
end L2
namespace HT
open PySem PyProof.Rows
section
open PySem.SeqAt
open PySem.AutoSeq1 (wpAny_loadPart')
open PySem.MeetsSeq PySem.MeetsSeq2 PySem.MeetsSeq3
end
section
variable {prog:Program} {w:World} {A:Around} {E:Value->Shared->Prop} {s:Shared}
noncomputable def KC (n d:Nat):Option Int->Nat
 | none=>d
 | some v=>if v <0 then(v+(n:Int)).toNat else min v.toNat n
theorem yr (n d:Nat):KC n d none=d:=rfl
theorem vQ (n d k:Nat):KC n d (some (k:Int))=min k n:=by
 show(if (k:Int) <0 then((k:Int)+(n:Int)).toNat else min (k:Int).toNat n)=min k n
 rw [if_neg (by omega),Int.toNat_natCast]
end
end HT
namespace L2
open PySem PySem.Spec PyProof.Rows
noncomputable abbrev TO:=St->Hp->(Option Int->Hp->Prop)->Prop
noncomputable def PO (X:Cx) (e:Option Expr) (t:TO):Prop:=
 ∀(pins:List (Addr×Obj)) (s:Shared) (σ:St) (H:Hp) (Q:Option Int->Hp->Prop),Inv X pins σ H s->t σ H Q->
  wpAny (model X.prog X.w) X.A (evalPart e X.env) (fun u s'=>∃o H',Inv X pins σ H' s'/\IsPart u o/\Q o H') X.xe s
noncomputable def Ud:TO:=fun _ H Q=>Q none H
inductive RT (Q:Option Int->Hp->Prop) (x:V) (H1:Hp):Prop where
 | mk:∀i,x=.int i->Q (some i) H1->RT Q x H1
noncomputable def YM (t:TE):TO:=fun σ H Q=>t σ H fun x H1=>RT Q x H1
section
variable {X:Cx} {e:Expr} {te:TE} {lo hi:Option Expr} {tl th:TO} {pos p2:Pos}
theorem p8:PO X none Ud:=by
 intro pins s σ H Q I h
 rw [evalPart_none]
 exact wpAny_pure ⟨none,H,I,.none,h⟩
theorem lU (h:PE X e te):PO X (some e) (YM te):=by
 intro pins s σ H Q I hw
 rw [evalPart_some]
 refine dZ (h pins s σ H _ I hw) fun u s1 hpt=>?_
 obtain⟨x,H1,I1,r1,q1⟩:=hpt
 obtain⟨i,rfl,q⟩:=q1
 obtain⟨t,rfl⟩:=r1
 exact⟨some i,H1,I1,.int i t,q⟩
noncomputable def Zn (X:Cx) (r:V->Option Int->Option Int->Hp->VK->Prop):Prop:=
 ∀(pins:List (Addr×Obj)) (s:Shared) (σ:St) (H:Hp) (x:V) (v vl vu:Value) (lo hi:Option Int) (sl:Addr) (Q:VK),Inv X pins σ H s->RelV x v->s.heap.IsSliceOf sl vl vu .none->IsPart vl lo->IsPart vu hi->r x lo hi H Q->
  ∃T id,typeLookup (.type T) "__getitem__" =pure (some (.builtin id))/\s.TypeIs v T/\wpAny (model X.prog X.w) X.A (getItem v (.ref sl)) (EP X pins σ Q) X.xe s
noncomputable def tSl (r:V->Option Int->Option Int->Hp->VK->Prop) (te:TE) (tl th:TO):TE:=fun σ H Q=>te σ H fun x H1=>tl σ H1 fun l H2=>th σ H2 fun u H3=>r x l u H3 Q
theorem lu {r:V->Option Int->Option Int->Hp->VK->Prop} (hr:Zn X r) (he:PE X e te) (hl:PO X lo tl) (hu:PO X hi th):PE X (.Subscript e (.Slice lo hi none p2) pos) (tSl r te tl th):=by
 intro pins s σ H Q I h
 refine Subscript_ (dZ (he pins s σ H _ I h) fun v s1 hpt=>?_)
 obtain⟨x,H1,I1,r1,q1⟩:=hpt
 refine wpAny_Slice (dZ (hl pins s1 σ H1 _ I1 q1) fun vl s2 ⟨l,H2,I2,pl,q2⟩=>dZ (hu pins s2 σ H2 _ I2 q2) fun vu s3 hpt=>?_)
 obtain⟨u,H3,I3,pu,q3⟩:=hpt
 rw [evalPart_none]
 refine wpAny_pure ?_
 have I4:Inv X pins σ H3 { s3 with heap:=s3.heap.push { cls:=.type "slice",data:=.fields #[vl,vu,.none] } }:=I3.kept (t':=s3.toks) fun b ob q=>Heap.get?_push_of_some _ q
 obtain⟨T,id,hT,ht,hg⟩:=hr pins { s3 with heap:=s3.heap.push { cls:=.type "slice",data:=.fields #[vl,vu,.none] } } σ H3 x v vl vu l u s3.heap.objs.size Q I4 r1 (Heap.IsSliceOf.new ..) pl pu q3
 show wpAny (model X.prog X.w) X.A (subscriptTail e (.Slice lo hi none p2) v (.ref s3.heap.objs.size)) (EP X pins σ Q) X.xe { s3 with heap:=s3.heap.push { cls:=.type "slice",data:=.fields #[vl,vu,.none] } }
 exact tail_any (ops:=[.ref s3.heap.objs.size,v]) ht hT hg (by with_unfolding_all rfl)
noncomputable def wk (xs:List V) (lo hi:Option Int):List V:=(xs.drop (HT.KC xs.length 0 lo)).take (HT.KC xs.length xs.length hi - HT.KC xs.length 0 lo)
theorem J6 (xs:List V) (lo hi:Option Int):(wk xs lo hi).length<=xs.length:=by
 unfold wk
 rw [List.length_take,List.length_drop]
 omega
end
noncomputable def Xa (n:Nat) (i:Int):Option Nat:=if 0<=i then(if i <n then some i.toNat else none) else if -(n:Int)<=i then some (i+n).toNat else none
noncomputable def Fx {α:Type} (xs:List α) (i:Int):Option α:=(Xa xs.length i).bind fun j=>xs[j]?
theorem Uz {n:Nat} {i:Int} {j:Nat} (h:Xa n i=some j):seqIndex? i n=some j/\j <n/\ -(n:Int)<=i/\i <n:=by
 unfold Xa at h
 by_cases h0:0<=i
 ·rw [if_pos h0] at h
  by_cases h1:i <n
  ·rw [if_pos h1] at h
   have e:i.toNat=j:=Option.some.inj h
   exact⟨by rw [seqIndex_of h0 h1,e],by omega,by omega,h1⟩
  ·rw [if_neg h1] at h;cases h
 ·rw [if_neg h0] at h
  by_cases h1: -(n:Int)<=i
  ·rw [if_pos h1] at h
   have e:(i+n).toNat=j:=Option.some.inj h
   exact⟨by rw [seqIndex_neg (by omega) h1,e],by omega,h1,by omega⟩
  ·rw [if_neg h1] at h;cases h
theorem Hw {α:Type} {xs:List α} {i:Int} {v:α} (h:Fx xs i=some v):∃j,seqIndex? i xs.length=some j/\xs[j]?=some v/\j <xs.length/\ -(xs.length:Int)<=i/\i <xs.length:=by
 unfold Fx at h
 cases e:Xa xs.length i with
 | none=>rw [e] at h;cases h
 | some j=>
  rw [e] at h
  obtain⟨h1,h2,h3,h4⟩:=Uz e
  exact⟨j,h1,h,h2,h3,h4⟩
theorem aK {α:Type} {xs:List α} {j:Nat} {v:α} (h:xs[j]?=some v):Fx xs (j:Int)=some v:=by
 have hj:j <xs.length:=(List.getElem?_eq_some_iff.mp h).1
 have e:Xa xs.length (j:Int)=some j:=by
  unfold Xa
  rw [if_pos (by omega),if_pos (by omega)];simp
 unfold Fx;rw [e];exact h
noncomputable def Np (b:Expr):Prop:=∀o i,subscripted b false o i=operate [o,i] (getItem o i)
noncomputable def Qe (X:Cx) (r:R2):Prop:=
 ∀(value slice:Expr) (pins:List (Addr×Obj)) (s:Shared) (σ:St) (H:Hp) (x y:V) (v u:Value) (Q:VK),Inv X pins σ H s->RelV x v->RelV y u->r x y H Q->
  subscripted slice false v u=operate [v,u] (getItem v u)->wpAny (model X.prog X.w) X.A (subscriptTail value slice v u) (EP X pins σ Q) X.xe s
noncomputable def ZQ (X:Cx) (id:String) (r:V->List V->Hp->VK->Prop):Prop:=
 ∀(pins:List (Addr×Obj)) (s:Shared) (σ:St) (H:Hp) (x:V) (xs:List V) (v:Value) (us:List Value) (Q:VK),Inv X pins σ H s->RelV x v->Vals xs us->r x xs H Q->
  wpAny (model X.prog X.w) X.A (call (.builtin id) (v:: us)) (EP X pins σ Q) X.xe s
section
variable {X:Cx} {a b:Expr} {ta tb:TE} {pos:Pos}
theorem Qe.or {r r':R2} (h:Qe X r) (h':Qe X r'):Qe X (fun x y H Q=>r x y H Q∨r' x y H Q):=by
 intro value slice pins s σ H x y v u Q I rx ry q hs
 rcases q with q | q
 ·exact h value slice pins s σ H x y v u Q I rx ry q hs
 ·exact h' value slice pins s σ H x y v u Q I rx ry q hs
theorem aU {r:R2} (hr:Qe X r) (ha:PE X a ta) (hb:PE X b tb) (hs:Np b):PE X (.Subscript a b pos) (X3 r ta tb):=by
 intro pins s σ H Q I h
 exact Subscript_ (Wi ha hb I h fun v u s2 x y H2 I2 rx ry q=>hr a b pins s2 σ H2 x y v u Q I2 rx ry q (hs _ _))
inductive VD (K:PySem.W.Frag) (x:V) (y:V) (H:Hp) (Q:VK):Prop where
 | mk:∀p xs i v,x=.ref p->y=.int i->bR K H p xs->Fx xs i=some v->Q v H->VD K x y H Q
noncomputable def V2 (K:PySem.W.Frag):R2:=fun x y H Q=>VD K x y H Q
inductive Vf (K:PySem.W.Frag) (x:V) (y:V) (H:Hp) (Q:VK):Prop where
 | mk:∀p xs i v,x=.ref p->y=.int i->fG K H p xs->Fx xs i=some v->Q v H->Vf K x y H Q
noncomputable def V5 (K:PySem.W.Frag):R2:=fun x y H Q=>Vf K x y H Q
inductive Vl (x:V) (y:V) (H:Hp) (Q:VK):Prop where
 | mk:∀z i c,x=.str z->y=.int i->z.length<=sizeLine->Fx z.cps.toList i=some c->Q (.str ⟨#[c]⟩) H->Vl x y H Q
noncomputable def XH:R2:=fun x y H Q=>Vl x y H Q
theorem aM:Qe X (V2 X.K):=by
 intro value slice pins s σ H x y v u Q I rx ry h hs
 obtain⟨p,xs,i,z,rfl,rfl,hq,he,q⟩:=h
 cases rx
 obtain⟨t,rfl⟩:=ry
 obtain⟨its,r,pl,hz⟩:=I.list hq
 obtain⟨j,h1,h2,h3,h4,h5⟩:=Hw he
 obtain⟨w,ew,rw'⟩:=r.get h2
 have hl:=r.length
 have hn:=Ju
 have fin:EP X pins σ Q w s:=⟨z,H,I,rw',q⟩
 by_cases h0:0<=i
 ·have hj:i.toNat=j:=by
   rw [seqIndex_of h0 h5] at h1
   exact Option.some.inj h1
  exact item_listR pl.isList h0 (by omega) (by rw [hj];simpa using ew) fin hs
 ·have hj:(i+(its.toArray.size:Int)).toNat=j:=by
   rw [seqIndex_neg (by omega) h4] at h1
   rw [List.size_toArray,<-hl]
   exact Option.some.inj h1
  exact subscriptTail_builtinR (x:=w) pl.isList.typeIs slot_list_getitem.lookup
   (wpAny_getItem_list_neg (Q:=fun r s'=>r=w/\EP X pins σ Q r s') pl.isList (by omega) (by rw [List.size_toArray] <;> omega) (by omega) (by rw [hj];simpa using ew) ⟨rfl,fin⟩) hs
theorem dH:Qe X (V5 X.K):=by
 intro value slice pins s σ H x y v u Q I rx ry h hs
 obtain⟨p,xs,i,z,rfl,rfl,hq,he,q⟩:=h
 cases rx
 obtain⟨t,rfl⟩:=ry
 obtain⟨its,r,pl,hz⟩:=I.tuple hq
 obtain⟨j,h1,h2,h3,h4,h5⟩:=Hw he
 obtain⟨w,ew,rw'⟩:=r.get h2
 have hl:=r.length
 have hn:=Ju
 have fin:EP X pins σ Q w s:=⟨z,H,I,rw',q⟩
 exact subscriptTail_builtinR (x:=w) pl.typeIs slot_tuple_getitem.lookup
  (getItem_tuple (j:=j) (Q:=fun r s'=>r=w/\EP X pins σ Q r s') pl (by omega) (by omega) (by rw [List.size_toArray,<-hl];exact h1) (by simpa using ew) ⟨rfl,fin⟩) hs
theorem CT:Qe X XH:=by
 intro value slice pins s σ H x y v u Q I rx ry h hs
 obtain⟨z,i,c,rfl,rfl,hz,he,q⟩:=h
 obtain⟨t,rfl⟩:=rx
 obtain⟨t',rfl⟩:=ry
 obtain⟨j,h1,h2,h3,h4,h5⟩:=Hw he
 have hl:z.cps.toList.length=z.length:=by simp [Str.length]
 rw [hl] at h1 h4 h5
 have hn:=Ju
 exact tail_any (typeIs_str s z t) slot_str_getitem.lookup (getItem_str (c:=c) (by
  have e1:decide (i < -(2 ^ 63:Int))=false:=decide_eq_false (by omega)
  have e2:decide (i≥2 ^ 63)=false:=decide_eq_false (by omega)
  rw [e1,e2,Bool.or_false]) (by rw [h1];simpa using h2) ⟨.str ⟨#[c]⟩,H,I.tok _,⟨_,rfl⟩,q⟩) hs
noncomputable def rIx (K:PySem.W.Frag):R2:=fun x y H Q=>V2 K x y H Q∨V5 K x y H Q∨XH x y H Q
theorem Lx:Qe X (rIx X.K):=aM.or (dH.or CT)
theorem Jg (lo hi:Option Int) (n:Nat):(sliceBounds lo hi none n).1=((HT.KC n 0 lo:Nat):Int)/\(sliceBounds lo hi none n).2.1=((HT.KC n n hi:Nat):Int)/\(sliceBounds lo hi none n).2.2=1:=by
 refine⟨?_,?_,rfl⟩
 ·cases lo with
  | none=>simp [sliceBounds,HT.KC]
  | some i=>
   simp only [sliceBounds,HT.KC,Option.getD_none,show(1:Int) >0 by decide,if_true]
   by_cases h:i <0
   ·simp only [h,if_true] <;> omega
   ·simp only [h,if_false] <;> omega
 ·cases hi with
  | none=>simp [sliceBounds,HT.KC]
  | some i=>
   simp only [sliceBounds,HT.KC,Option.getD_none,show(1:Int) >0 by decide,if_true]
   by_cases h:i <0
   ·simp only [h,if_true] <;> omega
   ·simp only [h,if_false] <;> omega
theorem FN (its:List Value) (lo hi:Option Int):slicePick its.toArray lo hi none=((its.drop (HT.KC its.length 0 lo)).take (HT.KC its.length its.length hi - HT.KC its.length 0 lo)).toArray:=by
 obtain⟨h1,h2,h3⟩:=Jg lo hi its.toArray.size
 unfold slicePick
 rw [h1,h2,h3]
 simp only [sliceRange_one,pick_run,List.size_toArray] <;> rfl
inductive U9 (K:PySem.W.Frag) (x:V) (lo:Option Int) (hi:Option Int) (H:Hp) (Q:VK):Prop where
 | mk:∀a xs,x=.ref a->bR K H a xs->(∀p,H p=none->Q (.ref p) (upd H p (.lst (wk xs lo hi))))->U9 K x lo hi H Q
noncomputable def Zc (K:PySem.W.Frag):V->Option Int->Option Int->Hp->VK->Prop:=fun x lo hi H Q=>U9 K x lo hi H Q
theorem ud:Zn X (Zc X.K):=by
 intro pins s σ H x v vl vu lo hi sl Q I rx hs pl pu h
 obtain⟨a,xs,rfl,hx,q⟩:=h
 cases rx
 obtain⟨its,r,ht,hz⟩:=I.list hx
 have hlen:=r.length
 refine⟨"list",_,slot_list_getitem.lookup,ht.isList.typeIs,?_⟩
 refine wpAny_getItem_list_slice ht.isList hs pl pu .none (by simp) ?_ (by rw [List.size_toArray] <;> omega)
 rw [FN,<-hlen]
 refine⟨.ref s.heap.objs.size,_,I.laid (t':=s.toks) (o:=.lst (wk xs lo hi)) (fun b ob q=>Heap.get?_push_of_some _ q) (Nat.le_refl _) ?_,rfl,q _ (I.hok.fresh (Nat.le_refl _))⟩
 exact⟨Nat.le_trans (J6 xs lo hi) hz,_,0,(r.drop (HT.KC xs.length 0 lo)).take (HT.KC xs.length xs.length hi - HT.KC xs.length 0 lo),Heap.get?_push_size _ rfl⟩
noncomputable def rK:V->Bool
 | .non=>true
 | .bl _=>true
 | .int _=>true
 | .str _=>true
 | _=>false
noncomputable def PK:V->V->Bool
 | .non,.non=>true
 | .bl a,.bl b=>a == b
 | .bl a,.int b=>(if a then 1 else 0) == b
 | .int a,.bl b=>a == (if b then 1 else 0)
 | .int a,.int b=>a == b
 | .str a,.str b=>a == b
 | _,_=>false
theorem WM {A:Around} {s:Shared} {y x:V} {u v:Value} (ry:RelV y u) (rx:RelV x v) (fy:rK y=true) (fx:rK x=true):SeqAt.EqAt A s u v (PK y x):=by
 cases y with
 | non=>
  cases ry
  cases x with
  | non=>cases rx;exact SeqAt.EqAt.same _
  | bl b=>cases rx;exact SeqAt.EqAt.none_bool b
  | int b=>obtain⟨t,rfl⟩:=rx;exact SeqAt.EqAt.none_int b t
  | str b=>obtain⟨t,rfl⟩:=rx;exact SeqAt.EqAt.none_str b t
  | _=>exact absurd (show false=true from fx) Bool.false_ne_true
 | bl a=>
  cases ry
  cases x with
  | non=>cases rx;exact SeqAt.EqAt.bool_none a
  | bl b=>cases rx;exact SeqAt.EqAt.bool_bool a b
  | int b=>obtain⟨t,rfl⟩:=rx;exact SeqAt.EqAt.bool_int a b t
  | str b=>obtain⟨t,rfl⟩:=rx;exact SeqAt.EqAt.bool_str a b t
  | _=>exact absurd (show false=true from fx) Bool.false_ne_true
 | int a=>
  obtain⟨t',rfl⟩:=ry
  cases x with
  | non=>cases rx;exact SeqAt.EqAt.int_none a t'
  | bl b=>cases rx;exact SeqAt.EqAt.int_bool a t' b
  | int b=>obtain⟨t,rfl⟩:=rx;exact SeqAt.EqAt.int_int a t' b t
  | str b=>obtain⟨t,rfl⟩:=rx;exact SeqAt.EqAt.int_str a t' b t
  | _=>exact absurd (show false=true from fx) Bool.false_ne_true
 | str a=>
  obtain⟨t',rfl⟩:=ry
  cases x with
  | non=>cases rx;exact SeqAt.EqAt.str_none a t'
  | bl b=>cases rx;exact SeqAt.EqAt.str_bool a t' b
  | int b=>obtain⟨t,rfl⟩:=rx;exact SeqAt.EqAt.str_int a t' b t
  | str b=>obtain⟨t,rfl⟩:=rx;exact SeqAt.EqAt.str_str a t' b t
  | _=>exact absurd (show false=true from fx) Bool.false_ne_true
 | _=>exact absurd (show false=true from fy) Bool.false_ne_true
noncomputable def K1 (x:V) (u:Value):Bool:=match u with
 | .none=>PK .non x
 | .bool b=>PK (.bl b) x
 | .int i _=>PK (.int i) x
 | .str z _=>PK (.str z) x
 | _=>false
theorem SQ {x y:V} {u:Value} (r:RelV y u) (f:rK y=true):K1 x u=PK y x:=by
 cases y with
 | non=>cases r;rfl
 | bl b=>cases r;rfl
 | int i=>obtain⟨t,rfl⟩:=r;rfl
 | str z=>obtain⟨t,rfl⟩:=r;rfl
 | _=>exact absurd (show false=true from f) Bool.false_ne_true
theorem za {x:V}:∀{xs:List V} {us:List Value},Vals xs us->xs.all rK=true->us.any (K1 x)=xs.any fun y=>PK y x
 | _,_,.nil,_=>rfl
 | y:: xs,u:: us,.cons r t,f=>by
  rw [List.all_cons,Bool.and_eq_true] at f
  rw [List.any_cons,List.any_cons,SQ r f.1,za t f.2]
theorem uQ {A:Around} {s:Shared} {x:V} {v:Value} (rx:RelV x v) (fx:rK x=true):∀{xs:List V} {us:List Value},Vals xs us->xs.all rK=true->∀u∈us,SeqAt.EqAt A s u v (K1 x u)
 | _,_,.nil,_=>fun u hu=>by cases hu
 | y:: xs,u:: us,.cons r t,f=>fun u' hu=>by
  rw [List.all_cons,Bool.and_eq_true] at f
  rcases List.mem_cons.mp hu with rfl | hu
  ·rw [SQ r f.1];exact WM r rx f.1 fx
  ·exact uQ rx fx t f.2 u' hu
noncomputable def inV (x:V) (xs:List V):Bool:=xs.any fun y=>PK y x
inductive XX (K:PySem.W.Frag) (neg:Bool) (x:V) (y:V) (H:Hp) (Q:VK):Prop where
 | mk:∀p xs,y=.ref p->((bR K H p xs∨fG K H p xs))->rK x=true->xs.all rK=true->(Q (.bl (if neg then !inV x xs else inV x xs)) H)->XX K neg x y H Q
noncomputable def ZZ (K:PySem.W.Frag) (neg:Bool):R2:=fun x y H Q=>XX K neg x y H Q
theorem Gp:yH X (compareOp .In) (ZZ X.K false):=by
 intro pins s σ H x y v u Q I rx ry h
 obtain⟨p,xs,rfl,hq,fx,fs,q⟩:=h
 cases ry
 rcases hq with hq | hq
 ·obtain⟨its,r,pl,hz⟩:=I.list hq
  refine SeqAt.in_listAt (K1 x) pl.isList (fun w hw=>uQ rx fx r fs w (by simpa using hw)) ⟨.bl _,H,I,rfl,?_⟩
  rw [show its.toArray.any (K1 x)=its.any (K1 x) by simp,za r fs]
  exact q
 ·obtain⟨its,r,pl,hz⟩:=I.tuple hq
  refine SeqAt.in_tupleAt (K1 x) pl (fun w hw=>uQ rx fx r fs w (by simpa using hw)) ⟨.bl _,H,I,rfl,?_⟩
  rw [show its.toArray.any (K1 x)=its.any (K1 x) by simp,za r fs]
  exact q
theorem oJ:yH X (compareOp .NotIn) (ZZ X.K true):=by
 intro pins s σ H x y v u Q I rx ry h
 obtain⟨p,xs,rfl,hq,fx,fs,q⟩:=h
 cases ry
 rcases hq with hq | hq
 ·obtain⟨its,r,pl,hz⟩:=I.list hq
  refine SeqAt.notIn_listAt (K1 x) pl.isList (fun w hw=>uQ rx fx r fs w (by simpa using hw)) ⟨.bl _,H,I,rfl,?_⟩
  rw [show its.toArray.any (K1 x)=its.any (K1 x) by simp,za r fs]
  exact q
 ·obtain⟨its,r,pl,hz⟩:=I.tuple hq
  refine SeqAt.notIn_tupleAt (K1 x) pl (fun w hw=>uQ rx fx r fs w (by simpa using hw)) ⟨.bl _,H,I,rfl,?_⟩
  rw [show its.toArray.any (K1 x)=its.any (K1 x) by simp,za r fs]
  exact q
theorem rW:j5 X (.type "list") (fun xs H Q=>∃p ys,xs=[.ref p]/\(bR X.K H p ys∨fG X.K H p ys)/\∀l,H l=none->Q (.ref l) (upd H l (.lst ys))):=by
 intro pins s σ H xs us Q I r h
 obtain⟨p,ys,rfl,hq,q⟩:=h
 obtain⟨u,rfl,rx⟩:=vals1 r
 cases rx
 have fin:∀(its:List Value),Vals ys its->ys.length<=sizeLine->∀(h':Heap) (c':Nat),(∀b o',s.heap.get? b=some o'->h'.get? b=some o')->
   h'.get? s.heap.objs.size=some { cls:=.type "list",dict:=none,data:=.seq its.toArray c',slots:=#[] }->EP X pins σ Q (.ref s.heap.objs.size) { s with heap:=h' }:=fun its r' hz h' c' kp e=>
  ⟨.ref s.heap.objs.size,_,I.laid (t':=s.toks) kp (Nat.le_refl _) (show dX X.prog X.w _ h' _ (.lst ys) from⟨hz,its,c',r',e⟩),rfl,q _ (I.hok.fresh (Nat.le_refl _))⟩
 rcases hq with hq | hq
 ·obtain⟨its,r',pl,hz⟩:=I.list hq
  have hlen:=r'.length
  obtain⟨o,ho,hc,n,hd⟩:=pl.isList
  exact call_list_seq p (.inl rfl) ho hc hd (fun h' c' kp e=>fin its r' hz h' c' kp e) (by simp only [List.size_toArray] <;> omega)
 ·obtain⟨its,r',pl,hz⟩:=I.tuple hq
  have hlen:=r'.length
  obtain⟨o,ho,hc,n,hd⟩:=pl
  exact call_list_seq p (.inr rfl) ho hc hd (fun h' c' kp e=>fin its r' hz h' c' kp e) (by simp only [List.size_toArray] <;> omega)
theorem Fy:j5 X (.type "tuple") (fun xs H Q=>∃p ys,xs=[.ref p]/\((bR X.K H p ys/\∀l,H l=none->Q (.ref l) (upd H l (.tup ys)))∨(fG X.K H p ys/\Q (.ref p) H))):=by
 intro pins s σ H xs us Q I r h
 obtain⟨p,ys,rfl,h⟩:=h
 obtain⟨u,rfl,rx⟩:=vals1 r
 cases rx
 rcases h with ⟨hq,q⟩ | ⟨hq,q⟩
 ·obtain⟨its,r',pl,hz⟩:=I.list hq
  have hlen:=r'.length
  refine call_tuple_list pl.isList (fun h' kp=>?_) (by simp only [List.size_toArray] <;> omega)
  have I1:Inv X pins σ H { s with heap:=h' }:=I.kept (t':=s.toks) kp
  have I2:Inv X pins σ (upd H h'.objs.size (.tup ys)) { s with heap:=h'.push { cls:=.type "tuple",data:=.seq its.toArray } }:=
   I1.laid (t':=s.toks) (fun b o e=>Heap.get?_push_of_some _ e) (Nat.le_refl _) (show dX X.prog X.w _ _ _ (.tup ys) from⟨hz,its,r',IsTup.new _ _⟩)
  exact⟨.ref h'.objs.size,_,I2,rfl,q _ (I1.hok.fresh (Nat.le_refl _))⟩
 ·obtain⟨its,r',pl,hz⟩:=I.tuple hq
  exact call_tuple_same pl ⟨.ref p,H,I,rfl,q⟩
noncomputable def Zw (K:PySem.W.Frag) (T:String) (x:V) (H:Hp):Prop:=match x with
 | .str _=>T= "str"
 | .int _=>T= "int"
 | .ref p=>(T= "list" /\∃xs,bR K H p xs)∨(T= "tuple" /\∃o,K.lookup p=some o/\o.cls=.type "tuple" /\o.dict=none)∨
   (T= "dict" /\((∃kvs,H p=some (.dK kvs))∨∃kvs,H p=some (.dT kvs)))∨(T= "set" /\∃S n,H p=some (.set S n))
 | _=>False
theorem Rm {pins:List (Addr×Obj)} {σ:St} {H:Hp} {s:Shared} {T:String} {x:V} {v:Value} (I:Inv X pins σ H s) (r:RelV x v) (ty:Zw X.K T x H):
  s.TypeIs v T/\∀a,v=.ref a->∃ob,s.heap.get? a=some ob/\ob.dict=none:=by
 cases x with
 | str z=>
  obtain⟨t,rfl⟩:=r
  cases (show T= "str" from ty)
  exact⟨typeIs_str s z t,fun _ e=>nomatch e⟩
 | int i=>
  obtain⟨t,rfl⟩:=r
  cases (show T= "int" from ty)
  exact⟨typeIs_int s i t,fun _ e=>nomatch e⟩
 | ref p=>
  cases r
  rcases ty with ⟨rfl,xs,hq⟩ | ⟨rfl,o,hk,hc,hd⟩ | ⟨rfl,hk⟩ | ⟨rfl,S,n,hk⟩
  ·obtain⟨its,_,pl,_⟩:=I.list hq
   refine⟨pl.isList.typeIs,fun a e=>?_⟩
   cases e
   obtain⟨o,n,e,c,hd,_⟩:=pl
   exact⟨o,e,hd⟩
  ·refine⟨⟨o,I.kIn p o hk,hc⟩,fun a e=>?_⟩
   cases e
   exact⟨o,I.kIn _ o hk,hd⟩
  ·have z:∃o,s.heap.get? p=some o/\o.ExactDict:=by
    rcases hk with ⟨kvs,hk⟩ | ⟨kvs,hk⟩
    ·obtain⟨_,_,_,_,o,_,_,e,ex,_⟩:=I.hok p _ hk
     exact⟨o,e,ex⟩
    ·obtain⟨_,_,_,_,o,_,_,e,ex,_⟩:=I.hok p _ hk
     exact⟨o,e,ex⟩
   obtain⟨o,e,ex⟩:=z
   refine⟨⟨o,e,ex.1⟩,fun a e2=>?_⟩
   cases e2
   exact⟨o,e,ex.2.1⟩
  ·obtain⟨o,_,_,_,e,ex,_⟩:=I.hok p _ hk
   refine⟨⟨o,e,ex.1⟩,fun a e2=>?_⟩
   cases e2
   exact⟨o,e,ex.2.1⟩
 | _=>exact False.elim ty
noncomputable def Zg (K:PySem.W.Frag) (T:String) (r:V->List V->Hp->VK->Prop) (to:TE):TE:=fun σ H Q=>to σ H fun x H1=>Zw K T x H1/\r x [] H1 Q
noncomputable def ZX (K:PySem.W.Frag) (T:String) (r:V->List V->Hp->VK->Prop) (to:TE) (t:TA):TE:=fun σ H Q=>to σ H fun x H1=>Zw K T x H1/\t σ H1 fun xs H2=>r x xs H2 Q
variable {o e:Expr} {es:List Expr} {to:TE} {t:TA} {name:Str} {apos cpos:Pos} {T id:String} {r:V->List V->Hp->VK->Prop}
theorem Lq (pa:PlainAttrs T) (slot:Slot T name id) (hty:typeOf (.builtin id)=pure (.type "method_descriptor")) (hm:ZQ X id r) (ho:PE X o to)
  (hbase:attributeBase o name X.env (eval o X.env)=eval o X.env:=by rfl) (hline:(apos.endLine == cpos.line)=true:=by rfl):PE X (.Call (.Attribute o name apos) [] [] cpos) (Zg X.K T r to):=by
 intro pins s σ H Q I h
 refine wpAny_Call_method0_late hbase hline (dZ (ho pins s σ H _ I h) fun v s1 hpt=>?_)
 obtain⟨x,H1,I1,r1,ty,q1⟩:=hpt
 obtain⟨h1,h2⟩:=Rm I1 r1 ty
 exact⟨T,id,pa,slot,hty,h1,h2,Calls.callWith_builtin rfl (PySem.evalArgs_none (hm pins s1 σ H1 x [] v [] Q I1 r1 .nil q1))⟩
theorem Ah (pa:PlainAttrs T) (slot:Slot T name id) (hty:typeOf (.builtin id)=pure (.type "method_descriptor")) (hm:ZQ X id r) (ho:PE X o to) (ha:PA X (e:: es) t)
  (hbase:attributeBase o name X.env (eval o X.env)=eval o X.env:=by rfl)
  (hfew:((backTo cpos (starEach (e:: es) X.env)).all (fun x=>!x.1) && (backToKw cpos (keywordEach [] X.env)).all (fun x=>x.1.isSome)
   && decide ((e:: es).length+([]:List Keyword).length+(if ([]:List Keyword).isEmpty then 0 else 1) <30))=true:=by rfl)
  (hline:(apos.endLine == cpos.line)=true:=by rfl) (hs:starEach (e:: es) X.env=(false,eval e X.env):: starEach es X.env:=by rfl) (hplain:(backTo cpos (starEach es X.env)).any (·.1)=false:=by rfl):
  PE X (.Call (.Attribute o name apos) (e:: es) [] cpos) (ZX X.K T r to t):=by
 intro pins s σ H Q I h
 refine wpAny_Call_method_late hbase hfew hline rfl (dZ (ho pins s σ H _ I h) fun v s1 hpt=>?_)
 obtain⟨x,H1,I1,r1,ty,q1⟩:=hpt
 obtain⟨h1,h2⟩:=Rm I1 r1 ty
 refine⟨T,id,pa,slot,hty,h1,h2,?_⟩
 have hA:=ha cpos pins s1 σ H1 _ I1 q1
 rw [hs] at hA ⊢
 refine Calls.callWith_builtin (by show(false || (backTo cpos (starEach es X.env)).any (·.1))=false;rw [hplain] <;> rfl) (Calls.evalArgs_plain ?_)
 exact dZ hA fun us s2 ⟨vs,H2,I2,r2,q2⟩=>hm pins s2 σ H2 x vs v us Q I2 r1 r2 q2
end
noncomputable def XQ (X:Cx) (id:String) (r:V->List V->Hp->VK->Prop):Prop:=
 ∀(pins:List (Addr×Obj)) (s:Shared) (σ:St) (H:Hp) (x:V) (xs:List V) (v:Value) (us:List Value) (Q:VK),Inv X pins σ H s->RelV x v->Vals xs us->r x xs H Q->
  wpAny (model X.prog X.w) X.A (call (.builtin id) (v:: us)) (EP X pins σ Q) X.xe s
theorem Vals.one:∀{x:V} {us:List Value},Vals [x] us->∃u,us=[u]/\RelV x u
 | _,_,.cons r .nil=>⟨_,rfl,r⟩
theorem Vals.zero:∀{us:List Value},Vals [] us->us=[]
 | _,.nil=>rfl
theorem Vals.dropLast {xs:List V} {us:List Value} (h:Vals xs us):Vals xs.dropLast us.dropLast:=by
 induction h with
 | nil=>exact .nil
 | cons r t ih=>
  cases t with
  | nil=>exact .nil
  | cons q t'=>exact .cons r ih
theorem Vals.eraseIdx:∀{xs:List V} {us:List Value} (i:Nat),Vals xs us->Vals (xs.eraseIdx i) (us.eraseIdx i)
 | _,_,_,.nil=>.nil
 | _,_,0,.cons _ t=>t
 | _,_,i+1,.cons r t=>.cons r (Vals.eraseIdx i t)
theorem Mq {α:Type} (l:List α):l.eraseIdx (l.length - 1)=l.dropLast:=by
 induction l with
 | nil=>rfl
 | cons a r ih=>
  cases r with
  | nil=>rfl
  | cons b r=>
   have e:(a:: b:: r).length - 1=((b:: r).length - 1)+1:=by
    have h1:(a:: b:: r).length=r.length+2:=rfl
    have h2:(b:: r).length=r.length+1:=rfl
    omega
   rw [e,List.eraseIdx_cons_succ,ih]
   all_goals rfl
theorem G8 {α:Type}:∀(l:List α) (i:Nat),(l.eraseIdx i).length<=l.length
 | [],_=>Nat.le_refl _
 | _:: _,0=>Nat.le_succ _
 | _:: r,i+1=>Nat.succ_le_succ (G8 r i)
section
variable {X:Cx} {pins:List (Addr×Obj)} {σ:St} {H:Hp} {s:Shared} {l b:Addr} {xs ys zs:List V}
theorem Inv.lset {its its':List Value} {n:Nat} {f:Array Value->Array Value} {t':Nat} (I:Inv X pins σ H s) (hH:H l=some (.lst xs))
  (e:s.heap.get? l=some { cls:=.type "list",data:=.seq its.toArray n }) (hf:f its.toArray=its'.toArray) (hv:Vals ys its') (hz:ys.length<=sizeLine):
  Inv X pins σ (upd H l (.lst ys)) { s with heap:=s.heap.update l (Obj.mapSeq f),toks:=t' }:=by
 have q:=PySem.IsL.update e f
 rw [hf] at q
 refine I.write (x:=l) (e:=l) (by rw [hH];exact trivial) (.inl rfl) (fun b' u hb hu=>(Heap.get?_update_other s.heap (Obj.mapSeq f) (Ne.symm hb)).trans hu) ⟨_,q⟩ ?_
 exact⟨hz,its',_,hv,q⟩
theorem Inv.lnew {its:List Value} {t':Nat} (I:Inv X pins σ H s) (hv:Vals ys its) (hz:ys.length<=sizeLine):
  Inv X pins σ (upd H s.heap.objs.size (.lst ys)) { s with heap:=s.heap.push { cls:=.type "list",data:=.seq its.toArray },toks:=t' }:=
 I.laid (fun _ _ q=>Heap.get?_push_of_some _ q) (Nat.le_refl _) ⟨hz,its,0,hv,Heap.get?_push_size _ rfl⟩
theorem Inv.fresh (I:Inv X pins σ H s):H s.heap.objs.size=none:=I.hok.fresh (Nat.le_refl _)
theorem Inv.lstM (I:Inv X pins σ H s) (hH:H l=some (.lst xs)):xs.length<=sizeLine/\∃(its:List Value) (n:Nat),Vals xs its/\xs.length=its.length/\s.heap.get? l=some { cls:=.type "list",data:=.seq its.toArray n }:=by
 obtain⟨z,its,n,r,e⟩:=I.hok l _ hH
 exact⟨z,its,n,r,r.length,e⟩
theorem SJ {n:Nat} (h:n<=sizeLine):Builtin.List.listTooLong n=false:=by
 unfold Builtin.List.listTooLong
 exact decide_eq_false (by omega)
end
section
variable {X:Cx}
inductive J0 (x:V) (vs:List V) (H:Hp) (Q:VK):Prop where
 | mk:∀l xs y,x=.ref l->vs=[y]->H l=some (.lst xs)->xs.length <sizeLine->Q .non (upd H l (.lst (xs ++ [y])))->J0 x vs H Q
noncomputable def Nx:V->List V->Hp->VK->Prop:=fun x vs H Q=>J0 x vs H Q
theorem O1:XQ X "list.append" Nx:=by
 intro pins s σ H x vs v us Q I rx rv h
 obtain⟨l,xs,y,rfl,rfl,hH,hz,q⟩:=h
 cases rx
 obtain⟨u,rfl,ru⟩:=rv.one
 obtain⟨z,its,n,r,hl,e⟩:=I.lstM hH
 refine call_meets F.slot_list_append ⟨_,e,rfl⟩ F.entry_list_append (F.args_list_append_2 _ _) (PySem.list_append l its.toArray n u (by rw [List.size_toArray];omega)) ⟨e,?_⟩
 refine⟨.non,_,I.lset (its':=its ++ [u]) hH e (by simp) (r.append (.cons ru .nil)) ?_,rfl,q⟩
 rw [List.length_append,List.length_singleton]
 omega
inductive JH (x:V) (vs:List V) (H:Hp) (Q:VK):Prop where
 | mk:∀l b xs zs,x=.ref l->vs=[.ref b]->H l=some (.lst xs)->H b=some (.lst zs)->xs.length+zs.length<=sizeLine->Q .non (upd H l (.lst (xs ++ zs)))->JH x vs H Q
noncomputable def Ut:V->List V->Hp->VK->Prop:=fun x vs H Q=>JH x vs H Q
theorem G6:XQ X "list.extend" Ut:=by
 intro pins s σ H x vs v us Q I rx rv h
 obtain⟨l,b,xs,zs,rfl,rfl,hH,hB,hz,q⟩:=h
 cases rx
 obtain⟨u,rfl,ru⟩:=rv.one
 cases ru
 obtain⟨z,its,n,r,hl,e⟩:=I.lstM hH
 obtain⟨z2,its2,n2,r2,hl2,e2⟩:=I.lstM hB
 have hsz:its.toArray.size+its2.toArray.size<=sizeLine:=by rw [List.size_toArray,List.size_toArray];omega
 have hlong:¬(!its.toArray.isEmpty && Builtin.List.listTooLong (its.toArray.size+its2.toArray.size))=true:=by
  rw [SJ hsz,Bool.and_false]
  exact Bool.false_ne_true
 refine call_meets F.slot_list_extend ⟨_,e,rfl⟩ F.entry_list_extend (F.args_list_extend_2 _ _)
  (AutoSeq1.list_extend_list_list_0 l its.toArray n b its2.toArray n2 hlong (by rw [List.size_toArray];omega) (by omega)) ⟨e,e2,?_⟩
 refine⟨.non,_,I.lset (its':=its ++ its2) hH e (by simp) (r.append r2) ?_,rfl,q⟩
 rw [List.length_append]
 omega
inductive Vp (x:V) (vs:List V) (H:Hp) (Q:VK):Prop where
 | mk:∀l xs y,x=.ref l->vs=[]->H l=some (.lst xs)->xs[xs.length - 1]?=some y->Q y (upd H l (.lst xs.dropLast))->Vp x vs H Q
noncomputable def Zb:V->List V->Hp->VK->Prop:=fun x vs H Q=>Vp x vs H Q
theorem Lk:XQ X "list.pop" Zb:=by
 intro pins s σ H x vs v us Q I rx rv h
 obtain⟨l,xs,y,rfl,rfl,hH,hy,q⟩:=h
 cases rx
 have hus:=rv.zero
 subst hus
 obtain⟨z,its,n,r,hl,e⟩:=I.lstM hH
 obtain⟨u,hu,ru⟩:=r.get hy
 have hy':its.toArray[its.toArray.size - 1]?=some u:=by
  show its.toArray[its.length - 1]?=some u
  rw [<-Array.getElem?_toList,<-hl]
  exact hu
 refine call_meets F.slot_list_pop ⟨_,e,rfl⟩ F.entry_list_pop (F.args_list_pop_1 _) (MeetsSeq.list_pop_last l its.toArray n u hy' (by rw [List.size_toArray];omega)) ⟨e,?_⟩
 refine⟨y,_,I.lset (its':=its.dropLast) hH e ?_ r.dropLast ?_,ru,q⟩
 ·show its.toArray.eraseIdxIfInBounds (its.toArray.size - 1)=its.dropLast.toArray
  rw [List.size_toArray,List.eraseIdxIfInBounds_toArray,Mq]
 ·rw [List.length_dropLast]
  omega
inductive M6 (x:V) (vs:List V) (H:Hp) (Q:VK):Prop where
 | mk:∀l xs i k y,x=.ref l->vs=[.int i]->H l=some (.lst xs)-> -(2 ^ 63)<=i->i <2 ^ 63->seqIndex? i xs.length=some k->xs[k]?=some y->Q y (upd H l (.lst (xs.eraseIdx k)))->M6 x vs H Q
noncomputable def V3:V->List V->Hp->VK->Prop:=fun x vs H Q=>M6 x vs H Q
theorem Ft:XQ X "list.pop" V3:=by
 intro pins s σ H x vs v us Q I rx rv h
 obtain⟨l,xs,i,k,y,rfl,rfl,hH,h1,h2,hk,hy,q⟩:=h
 cases rx
 obtain⟨u,rfl,ru⟩:=rv.one
 obtain⟨t,rfl⟩:=ru
 obtain⟨z,its,n,r,hl,e⟩:=I.lstM hH
 obtain⟨w,hw,rw'⟩:=r.get hy
 refine call_meets F.slot_list_pop ⟨_,e,rfl⟩ F.entry_list_pop (F.args_list_pop_2 _ _)
  (MeetsSeq.list_pop_at l its.toArray n i t k w (fitsIndex_both h1 h2) (by rw [List.size_toArray,<-hl];exact hk) (by rw [<-Array.getElem?_toList];exact hw) (by rw [List.size_toArray];omega)) ⟨e,?_⟩
 refine⟨y,_,I.lset (its':=its.eraseIdx k) hH e ?_ (r.eraseIdx k) ?_,rw',q⟩
 ·show its.toArray.eraseIdxIfInBounds k=(its.eraseIdx k).toArray
  rw [List.eraseIdxIfInBounds_toArray]
 ·have:=G8 xs k
  omega
inductive VJ (x:V) (y:V) (H:Hp) (Q:VK):Prop where
 | mk:∀l b xs zs,x=.ref l->y=.ref b->H l=some (.lst xs)->H b=some (.lst zs)->xs.length+zs.length<=sizeLine->(∀p,H p=none->Q (.ref p) (upd H p (.lst (xs ++ zs))))->VJ x y H Q
noncomputable def Zx:R2:=fun x y H Q=>VJ x y H Q
theorem Ac:yH X (binaryOp .Add) Zx:=by
 intro pins s σ H x y v u Q I rx ry h
 obtain⟨l,b,xs,zs,rfl,rfl,hH,hB,hz,q⟩:=h
 cases rx
 cases ry
 obtain⟨z,its,n,r,hl,e⟩:=I.lstM hH
 obtain⟨z2,its2,n2,r2,hl2,e2⟩:=I.lstM hB
 refine PySem.P.add_list e e2 ?_ (by rw [List.size_toArray,List.size_toArray];omega)
 have ea:its.toArray ++ its2.toArray=(its ++ its2).toArray:=by simp
 rw [ea]
 exact⟨.ref _,_,I.lnew (t':=s.toks) (r.append r2) (by rw [List.length_append];omega),rfl,q _ I.fresh⟩
end
section
variable {prog:Program} {w:World} {A:Around} {E:Value->Shared->Prop} {s:Shared}
end
section
variable {X:Cx}
end
end L2
namespace Att
open PySem PySem.W PySem.Calls PyProof.Rows
theorem BJ {P:Params} {h:Heap}:∀(ns:List Int) (vs:List Value),WellAll P h vs (ns.map WData.int)->IntsAre vs ns:=by
 intro ns
 induction ns with
 | nil=>
  intro vs w
  rw [List.map_nil] at w
  cases w
  exact .nil
 | cons n ns ih=>
  intro vs w
  rw [List.map_cons] at w
  cases w with
  | cons a b=>
   cases a
   exact .cons _ _ (ih _ b)
theorem O7 {l:OpenLaw} {n:Nat} (hn:l.most=some n) {P:Params} {h:Heap} {args:List WData} {vals:List Value}
  (hpre:l.row.toRowW.claim.pre args=true) (hwl:WellAll P h vals args):
  ∃a vs ns,vals=[Value.ref a]/\args=[WData.list (ns.map WData.int)]/\h.get? a=some { cls:=.type "list",data:=.seq vs.toArray }/\IntsAre vs ns/\ns.length<=n:=by
 have hsh:WShape.hasAll [] args [.list .int]=true:=(pre_splitW hpre).1
 have hc:l.pre.holds [] { args:=args }=true:=(pre_splitW hpre).2
 obtain⟨d,r,rfl,h1,h2⟩:=hasAllW_cons hsh
 obtain rfl:=hasAllW_nil h2
 obtain⟨xs,rfl,h3⟩:=hasW_list h1
 obtain⟨ns,rfl⟩:=items_int h3
 have hlen:ns.length<=n:=by
  unfold OpenLaw.pre at hc
  have h4:(WTm.not (.lt (.lit (.int (n:Int))) (.len (.arg 0)))).holds [] { args:=[.list (ns.map .int)] }=true:=by
   have h4:=(holds_andW hc).1
   rw [hn] at h4
   exact h4
  have h5:=condW_of h4 (w_not (w_lt w_lit (w_len_list (w_arg rfl))))
  rw [List.length_map] at h5
  refine Nat.le_of_not_lt fun q=>?_
  have q':(n:Int) <((ns.length:Nat):Int):=by omega
  first
   | (rw [decide_eq_true q'] at h5;exact absurd h5 (by decide))
   | (simp at h5;omega)
 cases hwl with
 | cons w1 w2=>
  cases w2
  cases w1 with
  | list ho hall=>exact⟨_,_,ns,rfl,rfl,ho,BJ ns _ hall,hlen⟩
theorem O8 (l:OpenLaw) (args:List WData):l.row.toRowW.claim.post args (.bool true) args=true:=
 postW_of (r:=l.row.toRowW) (X:=(true == true))
  (show WShape.has [] (.bool true) .bool=true by first | rfl | decide | simp [WShape.has,WShape.arms,WShape.armsAll])
  (show(WTm.eq .res (.lit (.bool true))).value [] { args:=args,res:=some (.bool true),after:=args }=some (.bool (true == true)) from w_eq_bool (w_res rfl) w_lit) rfl
theorem KH {l:OpenLaw} {n:Nat} {q:Program} {loose:List Str} {XP:(Str->Option Value)->Heap->Prop} {YP:World->Heap->Prop} {d:DefRec}
  (hn:l.most=some n) (hdf:d.params.defaults=[])
  (call:∀(w:World) (s₀ s₁:Shared) (mg mb:Str->Option Value) (fa:Addr) (o:Obj) (pm cd doc:Value) (a:Addr) (vs:List Value) (ns:List Int),
   Ground q loose [] XP w s₀ mg mb s₁.heap->YP w s₁.heap->
   s₁.heap.get? fa=some o->o.data=.func (docDef d.name d.params d.body d.scope pm cd doc)->s₁.heap.CodeRec cd d.name->mg d.name=some (.ref fa)->
   s₁.heap.get? a=some { cls:=.type "list",data:=.seq vs.toArray }->IntsAre vs ns->ns.length<=n->s₁.gens= #[]->
   codeAny (model l.prog w) callerA (.call (.ref fa) ⟨[.ref a],[]⟩) (fun r s'=>r=.ok (.ret (.bool true))/\OldK s₁.heap s'.heap/\s'.os=s₁.os/\AllBare s'.gens) s₁):
  WalkO q loose XP YP l.row.toRowW d [] (fun f vs=>PySem.call f vs):=by
 intro w s₀ s₁ mg mb G Y fa o pm cd doc dV kV ho hd hcd hD hmg hg args vals as hpre hlay hrd hwl hlo
 obtain rfl:dV=.none:=Dflts.none hD hdf
 obtain rfl:kV=.none:=Dflts.noKw hD
 obtain⟨a,vs,ns,rfl,rfl,hobj,hints,hlen⟩:=O7 hn hpre hwl
 refine enter_call (codeAny_mono (call w s₀ s₁ mg mb fa o pm cd doc a vs ns G Y ho (fd_plain hd) hcd hmg hobj hints hlen hg) fun r s' hq=>?_)
 obtain⟨rfl,h2,h3,h4⟩:=hq
 exact⟨.inl ⟨.bool true,.bool true,[],rfl,fun _=>rfl,.bool true,O8 l _,fun _=>⟨List.Pairwise.nil,fun _ hm=>(nomatch hm)⟩⟩,h2,h3,h4⟩
section
variable {prog:Program} {w:World} {A:Around} {E:Value->Shared->Prop} {s:Shared} {K:Frag}
end
end Att
namespace L2
open PySem PySem.Spec PyProof.Rows
theorem GJ:∀{vs:List Value} {ns:List Int},IntsAre vs ns->Vals (ns.map V.int) vs
 | _,_,.nil=>.nil
 | _,_,.cons n t h=>.cons ⟨t,rfl⟩ (GJ h)
noncomputable def Only (H:Hp):Prop:=∀b,H b=none∨∃o xs,H b=some (.frz o (.lst xs))
theorem Rf {P:Program} {w:World} {K:PySem.W.Frag} {mg mb:Str->Option Value} {CX:Dh} {k:Nat} {fa a:Addr} {fd:FuncData} {x:Str} {sp:Sp} {s₁:Shared} {vs:List Value} {ns:List Int}
  (KX:K.In s₁.heap) (hns:s₁.heap.Ns mainGlobals mg) (hb:s₁.heap.Ns builtinsNs mb) (hbb:∀x:Str,x≠ "__name__" ->mb x=bootBuiltins x) (hlim:s₁.heap.NoLimit) (hg:s₁.gens= #[])
  (ha:s₁.heap.get? a=some { cls:=.type "list",data:=.seq vs.toArray }) (hi:IntsAre vs ns) (hl:ns.length<=sizeLine) (hr:iV k callerA)
  (F:∀base:Heap,K.In base->base.Ns mainGlobals mg->gH P w K mg base CX k fa fd [x] sp) (hbind:∀(s:Shared) (u:Value),BindsTo s fd ⟨[u],[]⟩ [(x,u)])
  (hsp:∀H:Hp,Only H->bR K H a (ns.map V.int)->sp [.ref a] H (fun v _=>v=.bl true) fun _ _ _=>False)
  (hCX:∀H e s',CX [] H s₁ (fun _ _ _=>False) e s'->False):
  codeAny (model P w) callerA (.call (.ref fa) ⟨[.ref a],[]⟩) (fun r s'=>r=.ok (.ret (.bool true))/\OldK s₁.heap s'.heap/\s'.os=s₁.os/\AllBare s'.gens) s₁:=by
 have rv:=GJ hi
 have lenV:=hi.length
 have core:∀H:Hp,Only H->bR K H a (ns.map V.int)->uz P w H s₁.heap->(∀b,H b≠none->b=a)->(H a≠none->K.lookup a=none)->
   codeAny (model P w) callerA (.call (.ref fa) ⟨[.ref a],[]⟩) (fun r s'=>r=.ok (.ret (.bool true))/\OldK s₁.heap s'.heap/\s'.os=s₁.os/\AllBare s'.gens) s₁:=by
  intro H hO hS hok hA hK
  have base_of:∀{b:Addr} {o:Obj},s₁.heap.get? b=some o->H b=none->(Js s₁.heap H).get? b=some o:=fun e n=>Q3 e n
  have noA:∀{b:Addr} {o:Obj} {es:Array DictEntry} {ep:Nat},s₁.heap.get? b=some o->o.data=.dict es ep->H b=none:=fun {b o es ep} e d=>by
   cases q:H b with
   | none=>rfl
   | some u=>
    have e':b=a:=hA b (by rw [q];simp)
    subst e'
    rw [ha] at e;cases e
    have d':Data.seq vs.toArray _=Data.dict es ep:=d
    cases d'
  have Qc:∀{b:Addr} {m:Str->Option Value},s₁.heap.Ns b m->(Js s₁.heap H).Ns b m:=fun {b m} ⟨o,es,ep,e,d,r⟩=>⟨o,es,ep,base_of e (noA e d),d,r⟩
  have hKb:K.In (Js s₁.heap H):=fun b o e=>base_of (KX b o e) (by
   cases q:H b with
   | none=>rfl
   | some u=>
    have e':b=a:=hA b (by rw [q];simp)
    subst e'
    rw [hK (by rw [q];simp)] at e;cases e)
  have hM:Mod K mg (Js s₁.heap H):=⟨hKb,Qc hns,⟨mb,Qc hb,hbb⟩,let ⟨mc,h1,h2⟩:=hlim;⟨mc,Qc h1,h2⟩⟩
  have e0:Ms P w K mg (Js s₁.heap H) callerA [] s₁ H:=⟨rfl,hM,fun b o e=>Ul e,Nat.le_of_eq (P0 _ _),trivial,fun b hb=>absurd (show b∈([]:List Addr) from hb) (by simp),hok,.of_eq hg⟩
  refine codeAny_mono ((F _ hKb (Qc hns)).run callerA [] s₁ H ⟨[.ref a],[]⟩ [.ref a] [.ref a] _ _ hr e0 (hbind s₁ (.ref a)) (.cons rfl .nil) (hsp H hO hS)) fun r s' h=>?_
  cases r with
  | error e=>exact(hCX H e s' h).elim
  | ok fl=>
   cases fl with
   | next=>exact False.elim h
   | brk=>exact False.elim h
   | cont=>exact False.elim h
   | ret u=>
    obtain⟨v,H',os,bare,un,hok',r',q⟩:=h
    have q':v=.bl true:=q
    subst q'
    obtain rfl:u=Value.bool true:=r'
    refine⟨rfl,OldK.of_keep fun b o e=>?_,os,bare⟩
    cases q:H b with
    | none=>exact un.keep b o e q (by intro z;exact absurd (show b∈([]:List Addr) from z) (by simp)) (by simp)
    | some u=>
     rcases hO b with z | ⟨ob,xs,z⟩
     ·rw [q] at z;cases z
     ·have z2:=un.frzs b ob _ z
      obtain⟨e1,_⟩:=hok b _ z
      obtain⟨e2,_⟩:=hok' b _ z2
      rw [e] at e1;cases e1
      exact e2
 cases hk:K.lookup a with
 | some o=>
  have e:=KX a o hk
  rw [ha] at e
  cases e
  refine core (fun _=>none) (fun _=>.inl rfl) (.inr ⟨_,vs.toArray,_,hk,rfl,rfl,rfl,by rw [List.size_toArray,lenV];exact hl,by simpa using rv⟩) (fun b u z=>by have z':(none:Option HO)=some u:=z;cases z') (fun b z=>absurd rfl z) fun z=>absurd rfl z
 | none=>
  refine core (fun b=>if b=a then some (.frz { cls:=.type "list",data:=.seq vs.toArray } (.lst (ns.map V.int))) else none) (fun b=>?_) (.inl (.inr ⟨{ cls:=.type "list",data:=.seq vs.toArray },if_pos rfl⟩)) (fun b u z=>?_) (fun b z=>?_) fun _=>hk
  ·by_cases hb:b=a
   ·exact .inr ⟨_,_,if_pos hb⟩
   ·exact .inl (if_neg hb)
  ·by_cases hb:b=a
   ·have z':=(if_pos hb).symm.trans z
    cases z'
    subst hb
    exact⟨ha,by rw [List.length_map];exact hl,vs,_,rv,ha⟩
   ·have z':=(if_neg hb).symm.trans z
    cases z'
  ·by_cases hb:b=a
   ·exact hb
   ·exact absurd (if_neg hb) z
theorem Uw {l:PySem.W.OpenLaw} {n k:Nat} {q:Program} {loose:List Str} {XP:(Str->Option Value)->Heap->Prop} {YP:World->Heap->Prop} {d:DefRec} {K:Params->PySem.W.Frag} {CX:World->Dh} {sp:World->Sp} {x:Str}
  (hn:l.most=some n) (hn2:n<=sizeLine) (hdf:d.params.defaults=[]) (hr:iV k callerA)
  (hY:∀(w:World) (h:Heap),YP w h->(K w.params).In h)
  (F:∀(w:World) (mg:Str->Option Value) (fa:Addr) (h:Heap),(K w.params).In h->h.Ns mainGlobals mg->mg d.name=some (.ref fa)->
   ∃fd:FuncData,(∀(s:Shared) (u:Value),BindsTo s fd ⟨[u],[]⟩ [(x,u)])/\
    ∀base:Heap,(K w.params).In base->base.Ns mainGlobals mg->gH l.prog w (K w.params) mg base (CX w) k fa fd [x] (sp w))
  (hsp:∀(w:World) (H:Hp) (a:Addr) (ns:List Int),ns.length<=n->Only H->bR (K w.params) H a (ns.map V.int)->sp w [.ref a] H (fun v _=>v=.bl true) fun _ _ _=>False)
  (hCX:∀(w:World) (H:Hp) (s:Shared) (e:Value) (s':Shared),CX w [] H s (fun _ _ _=>False) e s'->False):
  PySem.W.WalkO q loose XP YP l.row.toRowW d [] (fun f vs=>PySem.call f vs):=by
 refine Att.KH hn hdf fun w s₀ s₁ mg mb fa o pm cd doc a vs ns G Y ho hd hcd hmg hobj hints hlen hg=>?_
 have KX:=hY w _ Y
 obtain⟨fd,hb,hF⟩:=F w mg fa _ KX G.T.g hmg
 exact Rf KX G.T.g G.T.b G.T.builtins G.T.nolimit hg hobj hints (Nat.le_trans hlen hn2) hr hF hb (fun H hO hS=>hsp w H a ns hlen hO hS) fun H e s'=>hCX w H s₁ e s'
noncomputable def inClass (s:Stmt) (j:Nat):Stmt:=match s with
 | .ClassDef _ _ _ body _ _ _ _ _ _ _=>body.getD j (.Pass ⟨0,0,0,0⟩)
 | _=>.Pass ⟨0,0,0,0⟩
noncomputable def qw (s:Stmt):Arguments:=match s with
 | .FunctionDef _ a _ _ _ _ _ _ _ _=>a
 | _=>{ posonlyargs:=[],args:=[],vararg:=none,kwonlyargs:=[],kw_defaults:=[],kwarg:=none,defaults:=[] }
noncomputable def lV (s:Stmt):List Stmt:=match s with
 | .FunctionDef _ _ b _ _ _ _ _ _ _=>b
 | _=>[]
noncomputable def bx (s:Stmt):Scope:=match s with
 | .FunctionDef _ _ _ _ _ _ sc _ _ _=>sc
 | _=>{ kind:=.function,names:=[],isGenerator:=false,isCoroutine:=false }
noncomputable abbrev Bd:Dh:=fun _ _ _ _ _ _=>False
noncomputable abbrev E0:XK:=fun _ _ _=>False
theorem fj {X:Cx}:kW Bd X E0:=fun _ _ _ _ _ _ _ h=>h.elim
structure Th (K:PySem.W.Frag) (x qual:Str) (st:Stmt) (f:Addr) (fd:FuncData):Prop where
 ex:∃(oc:Value) (od:Option Addr) (kV doc pm:Value) (an:Option Addr) (cdv ct:Value) (osl:Array (Option Value)),
  fd=PySem.W.fnOf x qual (qw st) (lV st) (bx st) .none kV doc pm an cdv ct/\K.lookup f=some ⟨oc,od,.func fd,osl⟩/\PySem.W.codeIn K cdv qual=true
 kp:PySem.W.keepIn K (.ref f)=true
section
variable {P:Program} {w:World} {K:PySem.W.Frag} {mg:Str->Option Value} {base:Heap}
theorem Th.ok {x qual:Str} {st:Stmt} {f:Addr} {fd:FuncData} {N ps:List Str} {k:Nat} {sp:Sp} (F:Th K x qual st f fd) (S:gK N ps (bx st)) (len:∀vs H Q E,sp vs H Q E->vs.length=ps.length)
  (hbody:∀(cdv:Value) (A:Around) (outer:List Env) (s:Shared) (H:Hp) (vs:List V) (Q:VK) (E:XK),iV k (A.deeper (envOfC qual (bx st) s.heap.objs.size f cdv))->sp vs H Q E->
   ∃t,KZ (pW Bd P w K mg base N qual (bx st) f cdv A outer s H E).nox (lV st) t/\t { nx:=fun _ H'=>Q .non H',rt:=Q } (start N vs) H):gH P w K mg base Bd (k+1) f fd ps sp:=by
 obtain⟨oc,od,kV,doc,pm,an,cdv,ct,osl,rfl,lk,hcd⟩:=F.ex
 refine Vx lk hcd S len fun A outer s H vs Q E hr hsp=>?_
 obtain⟨t,h,q⟩:=hbody cdv A outer s H vs Q E hr hsp
 exact⟨t,h.nox,q⟩
theorem Th.binds {x qual:Str} {st:Stmt} {f:Addr} {fd:FuncData} {ps:List Str} (F:Th K x qual st f fd)
  (h:∀(kV doc pm:Value) (an:Option Addr) (cdv ct:Value) (us:List Value),us.length=ps.length->bindArgs (PySem.W.fnOf x qual (qw st) (lV st) (bx st) .none kV doc pm an cdv ct) ⟨us,[]⟩=pure (ps.zip us)):Binds K fd ps []:=by
 obtain⟨oc,od,kV,doc,pm,an,cdv,ct,osl,rfl,lk,hcd⟩:=F.ex
 exact .all (h kV doc pm an cdv ct)
theorem Wr {x qual:Str} {st:Stmt} {f:Addr} {oc:Value} {od an:Option Addr} {osl:Array (Option Value)} {kV doc pm cdv ct:Value} (l:K.lookup f=some ⟨oc,od,.func (PySem.W.fnOf x qual (qw st) (lV st) (bx st) .none kV doc pm an cdv ct),osl⟩)
  (c:PySem.W.codeIn K cdv qual=true) (k:PySem.W.keepIn K (.ref f)=true):Th K x qual st f (PySem.W.fnOf x qual (qw st) (lV st) (bx st) .none kV doc pm an cdv ct):=⟨⟨oc,od,kV,doc,pm,an,cdv,ct,osl,rfl,l,c⟩,k⟩
end
section
variable {X:Cx}
theorem pv (i:Nat) {x:Str} {pos:Pos} (hN:X.N[i]?=some x:=by rfl) (hv:YT X.env.scope x:=by first | exact Or.inl rfl | exact Or.inr (Or.inl rfl) | exact Or.inr (Or.inr rfl)) (hd:(x == ("__debug__" :Str))=false:=by decide)
  (hcd:(x == ("__classdict__" :Str))=false:=by decide):PE X (.Name x pos) (Xk i):=V9 hN hv hd hcd
end
theorem fc {A B:Prop} (h:B):if false=true then A else B:=by
 rw [if_neg Bool.false_ne_true]
 exact h
theorem lE {A B:Prop} (h:A):if true=true then A else B:=by
 rw [if_pos rfl]
 exact h
theorem lz {c A B:Prop} [Decidable c] (h1:c->A) (h2:¬c->B):if c then A else B:=by
 by_cases h:c
 ·rw [if_pos h]
  exact h1 h
 ·rw [if_neg h]
  exact h2 h
noncomputable def aQ (H H':Hp):Prop:=∀b o,H b=some o->H' b=some o
theorem aQ.refl (H:Hp):aQ H H:=fun _ _ h=>h
theorem aQ.trans {H H1 H2:Hp} (a:aQ H H1) (b:aQ H1 H2):aQ H H2:=fun c o h=>b c o (a c o h)
theorem aQ.free {H H':Hp} (e:aQ H H') {l:Addr} (h:H' l=Option.none):H l=Option.none:=by
 cases q:H l with
 | none=>rfl
 | some o=>
  rw [e l o q] at h
  cases h
theorem aQ.seq {K:PySem.W.Frag} {H H':Hp} {a:Addr} {xs:List V} (e:aQ H H') (h:bR K H a xs):bR K H' a xs:=by
 rcases h with (h | ⟨o,h⟩) | h
 ·exact .inl (.inl (e _ _ h))
 ·exact .inl (.inr ⟨o,e _ _ h⟩)
 ·exact .inr h
end L2
set_option maxHeartbeats 4000000
namespace L2
open PySem PySem.Spec PyProof.Rows
theorem G3 {P:Program} {w:World} {H:Hp} {h:Heap} {a:Addr} {o:HO} (x:uz P w H h) (hn:H a=none) (new:dX P w (upd H a o) h a o):uz P w (upd H a o) h:=fun b u e=>by
 by_cases hb:b=a
 ·subst hb;rw [aq] at e;cases e;exact new
 ·rw [aG hb] at e
  exact(x b u e).stay (fun c v _ q=>q) (fun c q=>by rw [aG (aC q hn)];exact q) fun c xs q=>by rw [aG (aC q hn)];exact q
theorem Dm {α β:Type} {f:α->β->Sem (ForInStep β)} (g:α->β->β):∀(l:List α) (c:β),(∀x∈l,∀c,f x c=pure (.yield (g x c)))->forIn l c f=pure (l.foldl (fun c x=>g x c) c)
 | [],_,_=>rfl
 | x:: l,c,h=>by
  rw [List.forIn_cons,h x List.mem_cons_self,pure_bind]
  exact Dm g l (g x c) fun y hy=>h y (List.mem_cons_of_mem _ hy)
noncomputable def wV (env:Env) (x:Str×NameKind) (cs:List (Str×Addr)):List (Str×Addr):=
 if x.2=.free then(match env.cells.lookup x.1 with | some c=>(x.1,c):: cs | none=>cs) else cs
noncomputable def clos (env:Env) (l:List (Str×NameKind)) (c:List (Str×Addr)):List (Str×Addr):=l.foldl (fun c x=>wV env x c) c
theorem lY {env:Env} {scope:Scope} (h:∀y∈scope.names,y.2=.free->∃c,env.cells.lookup y.1=some c):closureFor scope env=pure (clos env scope.names []):=by
 simp only [closureFor]
 rw [Dm (wV env) scope.names [] fun x hx c=>?_]
 ·rfl
 ·obtain⟨n,k⟩:=x
  by_cases hk:k=.free
  ·subst hk
   obtain⟨a,ha⟩:=h _ hx rfl
   have ha':env.cells.lookup n=some a:=ha
   simp [cellOf,ha',wV]
  ·have:(k == NameKind.free)=false:=by simpa using hk
   simp [this,wV,hk]
theorem J5 {env:Env}:∀(l:List (Str×NameKind)) (c:List (Str×Addr)),(∀y a,c.lookup y=some a->env.cells.lookup y=some a)->∀y a,(clos env l c).lookup y=some a->env.cells.lookup y=some a
 | [],_,h=>h
 | x:: l,c,h=>by
  refine J5 l (wV env x c) fun y a e=>?_
  unfold wV at e
  by_cases hk:x.2=.free
  ·rw [if_pos hk] at e
   cases q:env.cells.lookup x.1 with
   | none=>rw [q] at e;exact h y a e
   | some b=>
    rw [q] at e
    by_cases hy:(y == x.1)=true
    ·have:y=x.1:=by simpa using hy
     subst this
     have e':((x.1,b):: c).lookup x.1=some a:=e
     simp [List.lookup_cons] at e'
     rw [q,e']
    ·have hy':(y == x.1)=false:=by simpa using hy
     have e':((x.1,b):: c).lookup y=some a:=e
     rw [List.lookup_cons,hy'] at e'
     exact h y a e'
  ·rw [if_neg hk] at e;exact h y a e
theorem Es {env:Env}:∀(l:List (Str×NameKind)) (c:List (Str×Addr)) (y:Str),((∃a,c.lookup y=some a)∨∃k∈l,k.1=y/\k.2=.free/\∃a,env.cells.lookup y=some a)->∃a,(clos env l c).lookup y=some a
 | [],_,_,h=>by
  rcases h with h | ⟨k,hk,_⟩
  ·exact h
  ·cases hk
 | x:: l,c,y,h=>by
  refine Es l (wV env x c) y ?_
  have up:(∃a,c.lookup y=some a)->∃a,(wV env x c).lookup y=some a:=fun⟨a,e⟩=>by
   unfold wV
   split
   ·split
    ·rename_i b q
     by_cases hy:(y == x.1)=true
     ·exact⟨b,by rw [List.lookup_cons,hy]⟩
     ·have hy':(y == x.1)=false:=by simpa using hy
      exact⟨a,by rw [List.lookup_cons,hy'];exact e⟩
    ·exact⟨a,e⟩
   ·exact⟨a,e⟩
  rcases h with h | ⟨k,hk,h1,h2,a,h3⟩
  ·exact .inl (up h)
  ·rcases List.mem_cons.mp hk with e | hk
   ·subst e
    left
    unfold wV
    rw [if_pos h2,h1,h3]
    exact⟨a,by simp [List.lookup_cons]⟩
   ·exact .inr ⟨k,hk,h1,h2,a,h3⟩
theorem uX (scope:Scope) (env:Env) (y:Str):(relabel scope env).names.lookup y=(scope.names.lookup y).map fun k=>if (k == NameKind.free && env.scope.kind == .function && env.kindOf y == some .cell)=true then .cell else k:=by
 show(scope.names.map _).lookup y=_
 induction scope.names with
 | nil=>rfl
 | cons p l ih=>
  obtain⟨n,k⟩:=p
  rw [List.map_cons]
  show List.lookup y ((if (k == NameKind.free && env.scope.kind == .function && env.kindOf n == some .cell)=true then(n,NameKind.cell) else(n,k)):: _)=_
  by_cases hy:(y == n)=true
  ·have:y=n:=by simpa using hy
   subst this
   by_cases hc:(k == NameKind.free && env.scope.kind == .function && env.kindOf y == some .cell)=true
   ·rw [if_pos hc]
    simp only [List.lookup_cons,beq_self_eq_true,Option.map_some]
    rw [if_pos hc]
   ·rw [if_neg hc]
    simp only [List.lookup_cons,beq_self_eq_true,Option.map_some]
    rw [if_neg hc]
  ·have hy':(y == n)=false:=by simpa using hy
   by_cases hc:(k == NameKind.free && env.scope.kind == .function && env.kindOf n == some .cell)=true
   ·rw [if_pos hc]
    simp only [List.lookup_cons,hy']
    exact ih
   ·rw [if_neg hc]
    simp only [List.lookup_cons,hy']
    exact ih
noncomputable def dO (N:List Str) (js:List Nat):List Str:=js.map fun j=>(N[j]?).getD Str.empty
noncomputable def eO (σ:St) (js:List Nat):St:=js.map fun j=>(σ[j]?).join
noncomputable def z7 (X:Cx) (scope:Scope) (x:Str) (js:List Nat) (cl:List (Str×Addr)) (C:Addr) (s:Shared) (H:Hp) (ex:List Addr):Cx where
 prog:=X.prog
 w:=X.w
 K:=X.K
 mg:=X.mg
 base:=X.base
 A:=X.A
 N:=x:: dO X.N js
 s₀:=s
 H₀:=H
 env:=compEnvC scope cl C X.env
 outer:=X.stack
 stack:=X.stack
 ex:=ex
 fn:=fun _=>false
 calm:=X.calm
 pn:=[]
 xe:=fun _ _=>False
noncomputable def PF (X:Cx) (ifs:List Expr) (t:TT):Prop:=
 ∀(pins:List (Addr×Obj)) (s:Shared) (σ:St) (H:Hp) (Q:Bool->Hp->Prop),Inv X pins σ H s->t σ H Q->
  wpAny (model X.prog X.w) X.A (forIn ifs true fun c r=>if r=true then do let ok <-isTrue c X.env (eval c X.env);pure (ForInStep.yield ok) else pure (ForInStep.yield r)) (TP X pins σ Q) X.xe s
noncomputable def Yk:TT:=fun _ H Q=>Q true H
theorem fC {X:Cx}:PF X [] Yk:=fun _ _ _ H _ I h=>wpAny_pure ⟨H,I,h⟩
theorem RG {X:Cx} {c:Expr} {t:TT} (hc:PT X c t):PF X [c] t:=by
 intro pins s σ H Q I h
 rw [List.forIn_cons,if_pos rfl]
 refine wpAny_bind (wpAny_bind (dZ (hc pins s σ H Q I h) fun b s1 q=>wpAny_pure ?_))
 show wpAny (model X.prog X.w) X.A (pure b) (TP X pins σ Q) X.xe s1
 exact wpAny_pure q
inductive CompEnd (js:List Nat) (tt:TT) (te:TE) (σ:St) (Qd:List V->Hp->Prop) (J:It) (H1:Hp):Prop where
 | mk:∀W:Nat->Nat->List V->Hp->Prop,((∃m,W 0 m [] H1))->(∀i m ys H2,W i m ys H2->
 (J.stop i H2/\ys.length<=sizeLine/\Qd ys H2)∨
 (J.go i H2/\ys.length <sizeLine/\∃N:List V->Hp->Prop,(∀ys' H',N ys' H'->∃m',m' <m/\W (i+1) m' ys' H')/\∀x H3,J.yld i H2 x H3->tt (some x:: eO σ js) H3 fun b H4=>
  if b=true then te (some x:: eO σ js) H4 fun y H5=>N (ys ++ [y]) H5 else N ys H4))->CompEnd js tt te σ Qd J H1
noncomputable def Vs (js:List Nat) (wi:TI) (tt:TT) (te:TE):TE:=fun σ H Q=>wi σ H (CompEnd js tt te σ fun ys H2=>∀D,H2 D=none->Q (.ref D) (upd H2 D (.lst ys)))
section
variable {X:Cx} {x:Str} {px pos:Pos} {iter elt:Expr} {ifs:List Expr} {scope:Scope} {wi:TI} {tt:TT} {te:TE}
end
section
variable {X:Cx}
theorem oH:yH X (binaryOp .Mult) (rI IntMulOk fun i j=>.int (i * j)):=YX fun _ _ _ _ _ _ _ hc q=>mul_int q hc
noncomputable def Ve (_ j:Int):Prop:=0 <j/\j.natAbs.log2 <9000
theorem S7:yH X (binaryOp .FloorDiv) (rI Ve fun i j=>.int (i / j)):=YX fun i j _ _ _ _ _ hc q=>by
 have h1:(0:Int) <j:=hc.1
 exact floordiv_int (by omega) (by rw [Int.fdiv_eq_ediv_of_nonneg i (by omega)];exact q) (.inl (PyProof.noPylong_of_log2 hc.2))
theorem XN {i j:Int} (h0:0 <j) (h:j.natAbs <2 ^ 9000):Ve i j:=⟨h0,(Nat.log2_lt (by omega)).mpr h⟩
noncomputable def YW (K:PySem.W.Frag) (H:Hp) (x:V) (T:String):Prop:=match x with
 | .non=>T= "NoneType"
 | .bl _=>T= "bool"
 | .int _=>T= "int"
 | .str _=>T= "str"
 | .ref p=>(T= "list" /\∃xs,bR K H p xs)∨(T= "tuple" /\∃xs,fG K H p xs)∨(T= "dict" /\∃kvs,H p=some (.dK kvs))
 | _=>False
noncomputable def JS (a b:String):Bool:=a == b || (a == "bool" && b == "int")
noncomputable def Nm:List String:=["int", "bool", "str", "list", "tuple", "dict"]
noncomputable def qj:List String:=["NoneType", "bool", "int", "str", "list", "tuple", "dict"]
theorem Su:∀T∈Nm,PySem.W.kitMeta T=true:=by decide +kernel
theorem UL:∀a∈qj,∀b∈Nm,(PySem.fastBuiltinMro a).map (·.contains (.type b))=some (JS a b):=by decide +kernel
theorem Tv (K:PySem.W.Frag) {a b:String} (ha:a∈qj) (hb:b∈Nm):PySem.W.kitOne K (.type a) (.type b)=some (JS a b):=by
 unfold PySem.W.kitOne
 by_cases h:(Value.type a == Value.type b)=true
 ·rw [if_pos h]
  have e:a=b:=by
   have:=beq_iff_eq.mp h
   injection this
  subst e
  simp [JS]
 ·rw [if_neg h]
  show(if PySem.W.kitMeta b=true then PySem.W.subIn K (.type a) (.type b) else none)=_
  rw [if_pos (Su b hb)]
  exact UL a ha b hb
theorem yq:j5 X (.builtin "isinstance") (fun xs H Q=>∃x Tx T b,xs=[x,.ty T]/\YW X.K H x Tx/\T∈Nm/\JS Tx T=b/\Q (.bl b) H):=by
 intro pins s σ H xs us Q I r h
 obtain⟨x,Tx,T,b,rfl,ty,hT,rfl,q⟩:=h
 obtain⟨u,w',rfl,rx,ry⟩:=vals2 r
 cases ry
 have fin:∀{b:Bool},b=JS Tx T->∀tk,EP X pins σ Q (.bool b) { s with toks:=tk }:=fun e tk=>⟨.bl (JS Tx T),H,I.tok tk,by rw [e];rfl,q⟩
 have go:∀{P:Heap->Prop},PySem.W.KitX X.K u (.type Tx) P->P s.heap->Tx∈qj->u≠.builtin "__main__.__loader__#opaque" ->wpAny (model X.prog X.w) X.A (call (.builtin "isinstance") [u,.type T]) (EP X pins σ Q) X.xe s:=fun Z p hm hx=>
  PySem.W.kia_one Z I.kIn p (Tv X.K hm hT) hx fun tk=>fin rfl tk
 cases x with
 | non=>cases rx;cases (show Tx= "NoneType" from ty);exact go PySem.W.kitx_none trivial (by decide) (by intro e;cases e)
 | bl b=>cases rx;cases (show Tx= "bool" from ty);exact go PySem.W.kitx_bool trivial (by decide) (by intro e;cases e)
 | int i=>obtain⟨t,rfl⟩:=rx;cases (show Tx= "int" from ty);exact go PySem.W.kitx_int trivial (by decide) (by intro e;cases e)
 | str z=>obtain⟨t,rfl⟩:=rx;cases (show Tx= "str" from ty);exact go PySem.W.kitx_str trivial (by decide) (by intro e;cases e)
 | ref p=>
  cases rx
  rcases ty with ⟨rfl,ys,hq⟩ | ⟨rfl,ys,hq⟩ | ⟨rfl,kvs,hq⟩
  ·obtain⟨its,_,pl,_⟩:=I.list hq
   obtain⟨o,n,e,c,_,_⟩:=pl
   exact go PySem.W.kitx_list ⟨o,e,c⟩ (by decide) (by intro e;cases e)
  ·obtain⟨its,_,⟨o,e,c,_⟩,_⟩:=I.tuple hq
   exact go PySem.W.kitx_tuple ⟨o,e,c⟩ (by decide) (by intro e;cases e)
  ·obtain⟨_,_,_,_,o,_,_,e,ex,_⟩:=I.hok p _ hq
   exact go PySem.W.kitx_dict ⟨o,e,ex.1⟩ (by decide) (by intro e;cases e)
 | _=>exact(show False from ty).elim
inductive Q0 (K:PySem.W.Frag) (x:V) (xs:List V) (H:Hp) (Q:VK):Prop where
 | mk:∀z p ys,x=.str z->xs=[.ref p]->bR K H p (ys.map V.str)->(ys.map (·.length)).sum+ys.length * z.length<=16777216->Q (.str (Txt.join z ys)) H->Q0 K x xs H Q
noncomputable def rJoin (K:PySem.W.Frag):V->List V->Hp->VK->Prop:=fun x xs H Q=>Q0 K x xs H Q
theorem DX:∀{ys:List Str} {us:List Value},Vals (ys.map V.str) us->StrsAre us ys
 | [],us,r=>by rw [List.map_nil] at r;cases r;exact .nil
 | y:: ys,us,r=>by
  rw [List.map_cons] at r
  cases r with
  | cons r1 r2=>
   obtain⟨t,e⟩:=r1
   subst e
   exact .cons y t (DX r2)
theorem UV:ZQ X "str.join" (rJoin X.K):=by
 intro pins s σ H x xs v us Q I rx rs h
 obtain⟨z,p,ys,rfl,rfl,hq,hz,q⟩:=h
 obtain⟨t,rfl⟩:=rx
 obtain⟨u,rfl,ru⟩:=vals1 rs
 cases ru
 obtain⟨its,rv,pl,_⟩:=I.list hq
 exact join_list (items:=its.toArray) pl.isList (by simpa using DX rv) hz fun t' k=>⟨.str (Txt.join z ys),H,I.tok k,⟨_,rfl⟩,q⟩
end
theorem Qp:bootBuiltins "int" =some (.type "int"):=by decide +kernel
theorem Us:bootBuiltins "bool" =some (.type "bool"):=by decide +kernel
theorem Ri:bootBuiltins "str" =some (.type "str"):=by decide +kernel
theorem oR:bootBuiltins "list" =some (.type "list"):=by decide +kernel
theorem mU:bootBuiltins "tuple" =some (.type "tuple"):=by decide +kernel
theorem d7:bootBuiltins "len" =some (.builtin "len"):=by decide +kernel
theorem jE:bootBuiltins "isinstance" =some (.builtin "isinstance"):=by decide +kernel
theorem RJ:bootBuiltins "min" =some (.builtin "min"):=by decide +kernel
theorem Ja:bootBuiltins "max" =some (.builtin "max"):=by decide +kernel
theorem Hz:bootBuiltins "all" =some (.builtin "all"):=by decide +kernel
section
variable {X:Cx} {pos:Pos}
theorem jD {x:Str} {v:V} (hg:Gl X x) (hm:∃u,X.mg x=some u/\RelV v u) (hd:(x == ("__debug__" :Str))=false:=by decide):PE X (.Name x pos) (tC v):=by
 obtain⟨u,h1,h2⟩:=hm
 exact Cz hg h1 h2 hd
theorem Cw {x:Str} {T:String} (hg:Gl X x) (hm:X.mg x=none) (hv:bootBuiltins x=some (.type T)) (hn:x≠ "__name__" :=by decide) (hd:(x == ("__debug__" :Str))=false:=by decide):PE X (.Name x pos) (tC (.ty T)):=
 Tj hg hm hv rfl hn hd
end
theorem qL {a b:Int} (h: -(2 ^ 64) <a/\a <2 ^ 64:=by decide):IntMulOk a b:=.of_left (intBits_le_64 h.1 h.2)
theorem Jd {a b:Int} (h: -(2 ^ 64) <b/\b <2 ^ 64:=by decide):IntMulOk a b:=.of_right (intBits_le_64 h.1 h.2)
inductive RM (t:TS) (D:Ends) (σ:St) (H:Hp):Prop where
 | mk:∀J:St->Hp->Prop,t { D with nx:=J } σ H->(∀σ' H',J σ' H'->D.nx σ' H')->RM t D σ H
noncomputable def Xr (t:TS):TS:=fun D σ H=>RM t D σ H
theorem fU {X:Cx} {st:Stmt} {t:TS} (h:PS X st t):PS X st (Xr t):=by
 intro pins s σ H D I hw
 obtain⟨J,h1,h2⟩:=hw
 refine dZ (h pins s σ H { D with nx:=J } I h1) fun f s1 q=>?_
 cases f with
 | next=>obtain⟨σ',H',I',q⟩:=q;exact⟨σ',H',I',h2 _ _ q⟩
 | ret v=>exact q
 | brk=>exact q
 | cont=>exact q
theorem bZ {c A B:Prop} [Decidable c] (hc:¬c) (h:B):if decide c=true then A else B:=by rw [decide_eq_false hc];exact fc h
theorem m5 {c A B:Prop} [Decidable c] (hc:c) (h:A):if decide c=true then A else B:=by rw [decide_eq_true hc];exact lE h
mutual
inductive Dt (K:PySem.W.Frag) (H:Hp):V->PyData->Prop
 | non:Dt K H .non .none
 | bl (b:Bool):Dt K H (.bl b) (.bool b)
 | int (i:Int):Dt K H (.int i) (.int i)
 | str (x:Str):Dt K H (.str x) (.str x)
 | list {p:Addr} {xs:List V} {ds:List PyData}:bR K H p xs->Px K H xs ds->Dt K H (.ref p) (.list ds)
 | tuple {p:Addr} {xs:List V} {ds:List PyData}:fG K H p xs->Px K H xs ds->Dt K H (.ref p) (.tuple ds)
inductive Px (K:PySem.W.Frag) (H:Hp):List V->List PyData->Prop
 | nil:Px K H [] []
 | cons {x:V} {xs:List V} {d:PyData} {ds:List PyData}:Dt K H x d->Px K H xs ds->Px K H (x:: xs) (d:: ds)
end
section
variable {X:Cx} {pins:List (Addr×Obj)} {σ:St} {H:Hp} {s:Shared}
mutual
theorem Dt.reads (I:Inv X pins σ H s):∀{x:V} {d:PyData},Dt X.K H x d->∀{u:Value},RelV x u->∃as,Reads s.heap u d as
 | _,_,.non,_,r=>by cases r;exact⟨_,.none⟩
 | _,_,.bl b,_,r=>by cases r;exact⟨_,.bool b⟩
 | _,_,.int i,_,r=>by obtain⟨t,rfl⟩:=r;exact⟨_,.int i t⟩
 | _,_,.str x,_,r=>by obtain⟨t,rfl⟩:=r;exact⟨_,.str x t⟩
 | _,_,.list hq hd,_,r=>by
  cases r
  obtain⟨its,rv,⟨o,n,e,c,_,d⟩,_⟩:=I.list hq
  obtain⟨as,q⟩:=Px.reads I hd rv
  exact⟨_,.list e c d (by simpa using q)⟩
 | _,_,.tuple hq hd,_,r=>by
  cases r
  obtain⟨its,rv,⟨o,e,c,n,d⟩,_⟩:=I.tuple hq
  obtain⟨as,q⟩:=Px.reads I hd rv
  exact⟨_,.tuple e c d (by simpa using q)⟩
theorem Px.reads (I:Inv X pins σ H s):∀{xs:List V} {ds:List PyData},Px X.K H xs ds->∀{us:List Value},Vals xs us->∃as,ReadsAll s.heap us ds as
 | _,_,.nil,_,r=>by cases r;exact⟨_,.nil⟩
 | _,_,.cons h t,_,r=>by
  cases r with
  | cons r1 r2=>
   obtain⟨as,q⟩:=Dt.reads I h r1
   obtain⟨bs,q'⟩:=Px.reads I t r2
   exact⟨_,.cons q q'⟩
end
inductive Vd (K:PySem.W.Frag) (x:V) (y:V) (H:Hp) (Q:VK):Prop where
 | mk:∀da db,Dt K H x da->Dt K H y db->SeqAt.shaped da=true->SeqAt.shaped db=true->Q (.bl (!PyData.eqv da db)) H->Vd K x y H Q
noncomputable def Zk (K:PySem.W.Frag):R2:=fun x y H Q=>Vd K x y H Q
theorem Mi (hu:X.A.units+64 <cLine):yH X (compareOp .NotEq) (Zk X.K):=by
 intro pins s σ H x y v u Q I rx ry h
 obtain⟨da,db,h1,h2,s1,s2,q⟩:=h
 obtain⟨as,r1⟩:=h1.reads I rx
 obtain⟨bs,r2⟩:=h2.reads I ry
 exact ne_dataH r1 r2 s1 s2 hu (dF I q rfl)
end
noncomputable def YZ (x:Str):It:=⟨fun i _=>i <x.cps.size,fun i H v H'=>H'=H/\∃c,x.cps[i]?=some c/\v=.str ⟨#[c]⟩,fun i _=>x.cps.size<=i⟩
theorem Kg {P:Program} {w:World} {K:PySem.W.Frag} {tg:Expr} (it:Addr) (x:Str) (t:Tok) {ty:String} (hty:ty= "str_ascii_iterator" ∨ty= "str_iterator"):Turn P w K tg (YZ x) [it] it (fun i h=>h.IsStrIter it ty x t i) where
 mem:=by simp
 obj:=fun i h st b hb=>by
  have e:b=it:=by simpa using hb
  subst e
  obtain⟨o,e,c,d⟩:=st
  exact⟨o,e,fun v z=>by rw [d] at z;cases z⟩
 keep:=fun i h h' st k=>by
  obtain⟨o,e,r⟩:=st
  exact⟨o,k it (by simp) o e,r⟩
 item:=by
  intro X hP hw hK hc i pins s σ H E I hf st hg
  subst hP hw hK
  obtain⟨f0,f1,f2,f3,f4,f5⟩:=hf it (by simp)
  have fin:∀(v:Value) (h':Heap) (tk:Nat),SignAt x i v->h'.IsStrIter it ty x t (i+1)->(∀b o,b∉[it]->s.heap.get? b=some o->h'.get? b=some o)->
    ∃u,some v=some u/\wpAny (model X.prog X.w) X.A (letOwnedTupleGo tg (.ref it) u) (fun _ s2=>∃x' H',Inv X pins σ H' s2/\RelV x' u/\(YZ x).yld i H x' H'/\s2.heap.IsStrIter it ty x t (i+1)/\∀b∈[it],H' b=none) E { s with heap:=h',toks:=tk }:=by
   intro v h' tk hv st' kk
   obtain⟨c,u,hcc,rfl⟩:=hv
   have I1:Inv X pins σ H { s with heap:=h',toks:=tk }:=I.turned (fun b o hb e=>kk b o (by simpa using hb) e) f0 f1 f3 f4 f5
   obtain⟨o,e,c',d⟩:=id st'
   refine⟨_,rfl,KD (s:={ s with heap:=h',toks:=tk }) (n:=ty) e c' d (by rcases hty with rfl | rfl <;> decide) ⟨.str ⟨#[c]⟩,H,I1,⟨u,rfl⟩,⟨rfl,c,hcc,rfl⟩,st',fun b hb=>(hf b hb).1⟩⟩
  rcases hty with rfl | rfl
  ·exact(Walks.strAscii (prog:=X.prog) (w:=X.w) (I.ok.hd hc) it x t).item i s _ _ hg st fun v h' tk hv st' kk=>fin v h' tk hv st' kk
  ·exact(Walks.strWide (prog:=X.prog) (w:=X.w) (I.ok.hd hc) it x t).item i s _ _ hg st fun v h' tk hv st' kk=>fin v h' tk hv st' kk
 done:=by
  intro X hP hw hK hc i pins s σ H E I hf st hg
  subst hP hw hK
  obtain⟨f0,f1,f2,f3,f4,f5⟩:=hf it (by simp)
  have hx:x.cps[i]?=none:=by
   have hg':x.cps.size<=i:=hg
   simp;omega
  rcases hty with rfl | rfl
  ·exact wpAny_pyNext_ascii_end (I.ok.hd hc) st hx fun h' eb=>⟨rfl,I.turned (t':=s.toks) (fun b o hb e=>eb b o hb e) f0 f1 f3 f4 f5⟩
  ·exact wpAny_pyNext_wide_end (I.ok.hd hc) st hx fun h' eb=>⟨rfl,I.turned (t':=s.toks) (fun b o hb e=>eb b o hb e) f0 f1 f3 f4 f5⟩
 self:=fun _ _ _ _ _ st h=>by
  rcases hty with rfl | rfl
  ·exact wpAny_pyIter_striter_ascii st h
  ·exact wpAny_pyIter_striter_wide st h
section
variable {X:Cx} {tg:Expr}
inductive U8 (R:It->Hp->Prop) (x:V) (H1:Hp):Prop where
 | mk:∀z,x=.str z->R (YZ z) H1->U8 R x H1
noncomputable def Zj (tl:TE):TI:=fun σ H R=>tl σ H fun x H1=>U8 R x H1
theorem Wu {l:Expr} {tl:TE} (hl:PE X l tl):PI X tg l (Zj tl):=by
 intro pins s σ H R I h
 refine dZ (hl pins s σ H _ I h) fun v s1 hpt=>?_
 obtain⟨x,H1,I1,r1,q1⟩:=hpt
 obtain⟨z,e,q⟩:=q1
 subst e
 obtain⟨t,rfl⟩:=r1
 cases ha:z.cps.all (· <128)
 ·refine wpAny_pyIter_wide ha ?_
  refine⟨s1.heap.objs.size,[s1.heap.objs.size],_,_,H1,rfl,I1.kept (t':=s1.toks) fun b o e=>Heap.get?_push_of_some _ e,Kg _ z t (ty:= "str_iterator") (.inr rfl),⟨_,Heap.get?_push_size _ rfl,rfl,rfl⟩,fun b hb=>?_,q⟩
  have e:b=s1.heap.objs.size:=by simpa using hb
  subst e
  exact I1.fpOk (Nat.le_refl _) (I1.hok.fresh (Nat.le_refl _))
 ·refine wpAny_pyIter_ascii ha ?_
  refine⟨s1.heap.objs.size,[s1.heap.objs.size],_,_,H1,rfl,I1.kept (t':=s1.toks) fun b o e=>Heap.get?_push_of_some _ e,Kg _ z t (ty:= "str_ascii_iterator") (.inl rfl),⟨_,Heap.get?_push_size _ rfl,rfl,rfl⟩,fun b hb=>?_,q⟩
  have e:b=s1.heap.objs.size:=by simpa using hb
  subst e
  exact I1.fpOk (Nat.le_refl _) (I1.hok.fresh (Nat.le_refl _))
end
theorem yes {A B:Hp->Prop} {σ:St} {H:Hp} (h:A H):Yk σ H (fun b H4=>if b=true then A H4 else B H4):=by
 show if true=true then A H else B H
 exact lE h
section
variable {js:List Nat} {tt:TT} {te:TE} {σ:St} {Qd:List V->Hp->Prop}
theorem tX {lo:Int} {n:Nat} {H:Hp} (Pv:Nat->List V->Hp->Prop) (hn:n<=sizeLine) (h0:Pv 0 [] H) (hl:∀i ys H,Pv i ys H->ys.length<=i)
  (hs:∀i ys H,i <n->Pv i ys H->tt (some (.int (lo+i)):: eO σ js) H fun b H4=>if b=true then te (some (.int (lo+i)):: eO σ js) H4 fun y H5=>Pv (i+1) (ys ++ [y]) H5 else Pv (i+1) ys H4)
  (hd:∀ys H,Pv n ys H->Qd ys H):CompEnd js tt te σ Qd (Wc lo n) H:=by
 refine⟨fun i m ys H=>m=n - i/\i<=n/\Pv i ys H,⟨n,by simp,Nat.zero_le _,h0⟩,?_⟩
 rintro i m ys H ⟨rfl,hi,p⟩
 have hlen:=hl i ys H p
 by_cases hlt:i <n
 ·refine .inr ⟨hlt,by omega,Pv (i+1),fun ys' H' p'=>⟨n - (i+1),by omega,rfl,hlt,p'⟩,fun x H' y=>?_⟩
  obtain⟨e,y⟩:=y
  subst e y
  exact hs i ys _ hlt p
 ·have e:i=n:=by omega
  subst e
  exact .inl ⟨Nat.le_refl _,by omega,hd ys H p⟩
theorem fY {K:PySem.W.Frag} {a:Addr} {xs:List V} {H:Hp} (Pv:Nat->List V->Hp->Prop) (hn:xs.length<=sizeLine) (h0:Pv 0 [] H) (hl:∀i ys H,Pv i ys H->ys.length<=i) (hq:∀i ys H,i<=xs.length->Pv i ys H->bR K H a xs)
  (hs:∀i x ys H,xs[i]?=some x->Pv i ys H->tt (some x:: eO σ js) H fun b H4=>if b=true then te (some x:: eO σ js) H4 fun y H5=>Pv (i+1) (ys ++ [y]) H5 else Pv (i+1) ys H4)
  (hd:∀ys H,Pv xs.length ys H->Qd ys H):CompEnd js tt te σ Qd (Wj K a) H:=by
 refine⟨fun i m ys H=>m=xs.length - i/\i<=xs.length/\Pv i ys H,⟨xs.length,by simp,Nat.zero_le _,h0⟩,?_⟩
 rintro i m ys H ⟨rfl,hi,p⟩
 have hlen:=hl i ys H p
 have q:=hq i ys H hi p
 by_cases hlt:i <xs.length
 ·refine .inr ⟨⟨xs,xs[i],q,by simp [hlt]⟩,by omega,Pv (i+1),fun ys' H' p'=>⟨xs.length - (i+1),by omega,rfl,hlt,p'⟩,fun x H' y=>?_⟩
  obtain⟨e,y⟩:=y
  subst e
  exact hs i x ys _ (y xs q) p
 ·have e:i=xs.length:=by omega
  subst e
  exact .inl ⟨⟨xs,q,Nat.le_refl _⟩,by omega,hd ys H p⟩
theorem Qj {z:Str} {H:Hp} (Pv:Nat->List V->Hp->Prop) (hn:z.cps.size<=sizeLine) (h0:Pv 0 [] H) (hl:∀i ys H,Pv i ys H->ys.length<=i)
  (hs:∀i c ys H,z.cps[i]?=some c->Pv i ys H->tt (some (.str ⟨#[c]⟩):: eO σ js) H fun b H4=>if b=true then te (some (.str ⟨#[c]⟩):: eO σ js) H4 fun y H5=>Pv (i+1) (ys ++ [y]) H5 else Pv (i+1) ys H4)
  (hd:∀ys H,Pv z.cps.size ys H->Qd ys H):CompEnd js tt te σ Qd (YZ z) H:=by
 refine⟨fun i m ys H=>m=z.cps.size - i/\i<=z.cps.size/\Pv i ys H,⟨z.cps.size,by simp,Nat.zero_le _,h0⟩,?_⟩
 rintro i m ys H ⟨rfl,hi,p⟩
 have hlen:=hl i ys H p
 by_cases hlt:i <z.cps.size
 ·refine .inr ⟨hlt,by omega,Pv (i+1),fun ys' H' p'=>⟨z.cps.size - (i+1),by omega,rfl,hlt,p'⟩,fun x H' y=>?_⟩
  obtain⟨e,c,hc,y⟩:=y
  subst e y
  exact hs i c ys _ hc p
 ·have e:i=z.cps.size:=by omega
  subst e
  exact .inl ⟨Nat.le_refl _,by omega,hd ys H p⟩
end
section
variable {X:Cx}
inductive Vc (x:V) (lo:Option Int) (hi:Option Int) (H:Hp) (Q:VK):Prop where
 | mk:∀z,x=.str z->z.length<=sizeLine->Q (.str (Txt.slice z lo hi)) H->Vc x lo hi H Q
noncomputable def Y8:V->Option Int->Option Int->Hp->VK->Prop:=fun x lo hi H Q=>Vc x lo hi H Q
theorem RC:Zn X Y8:=by
 intro pins s σ H x v vl vu lo hi sl Q I rx hs pl pu h
 obtain⟨z,rfl,hz,q⟩:=h
 obtain⟨t,rfl⟩:=rx
 refine⟨"str",_,PySem.F.slot_str_getitem.lookup,typeIs_str _ _ _,?_⟩
 have fin:∀t' k,EP X pins σ Q (.str (Txt.slice z lo hi) t') { s with toks:=k }:=fun t' k=>⟨.str _,H,I.tok k,⟨_,rfl⟩,q⟩
 cases pl with
 | none=>
  cases pu with
  | none=>exact wpAny_getItem_str_slice (l:=none) (u:=none) (st:=none) hs rfl (post_val_or_str ⟨Nat.le_trans (Txt.slice_le z _ _) hz,fin⟩)
  | int j tj=>exact wpAny_getItem_str_slice (l:=none) (u:=some (j,tj)) (st:=none) hs rfl (post_val_or_str ⟨Nat.le_trans (Txt.slice_le z _ _) hz,fin⟩)
 | int i ti=>
  cases pu with
  | none=>exact wpAny_getItem_str_slice (l:=some (i,ti)) (u:=none) (st:=none) hs rfl (post_val_or_str ⟨Nat.le_trans (Txt.slice_le z _ _) hz,fin⟩)
  | int j tj=>exact wpAny_getItem_str_slice (l:=some (i,ti)) (u:=some (j,tj)) (st:=none) hs rfl (post_val_or_str ⟨Nat.le_trans (Txt.slice_le z _ _) hz,fin⟩)
theorem yI (hc:X.calm=true):j5 X (.builtin "all") (fun xs H Q=>∃(p:Addr) (bs:List Bool),xs=[.ref p]/\bR X.K H p (bs.map V.bl)/\Q (.bl (bs.all id)) H):=by
 intro pins s σ H xs us Q I r h
 obtain⟨p,bs,rfl,hq,q⟩:=h
 obtain⟨u,rfl,rx⟩:=vals1 r
 cases rx
 obtain⟨its,rv,pl,_⟩:=I.list hq
 have hl:=pl.isList
 have hlt:p <s.heap.objs.size:=by obtain⟨_,e,_⟩:=hl;exact Heap.lt_size e
 have hb:∀i v,its[i]?=some v->∃b,bs[i]?=some b/\v=Value.bool b:=fun i v e=>by
  have hi:i <its.length:=(List.getElem?_eq_some_iff.mp e).1
  have hi':i <bs.length:=by have:=rv.length;rw [List.length_map] at this;omega
  obtain⟨u,e',r'⟩:=rv.get (i:=i) (x:=.bl bs[i]) (by rw [List.getElem?_map,List.getElem?_eq_getElem hi'];rfl)
  rw [e] at e'
  cases e'
  exact⟨bs[i],List.getElem?_eq_getElem hi',r'⟩
 refine call_all_walk (wpAny_pyIter_list hl ?_)
 refine⟨s.heap.objs.size,[s.heap.objs.size,p],[s.heap.objs.size],its.toArray.size,_,_,fun i=>(bs[i]?).getD true,rfl,Walks.list (A:=X.A.in1) (I.ok.hd hc) _ p (Nat.ne_of_lt hlt) its.toArray,
  ⟨⟨_,Heap.get?_push_size _ rfl,rfl,rfl⟩,hl.push _⟩,fun i v s' Q' E' hP hQ=>?_,fun h' tk hk=>?_⟩
 ·obtain⟨b,e,rfl⟩:=hb i v (by simpa using hP)
  simp only [e,Option.getD_some] at hQ
  exact wpAny_truthy_bool hQ
 ·have e:((List.range its.toArray.size).all fun i=>(bs[i]?).getD true)=bs.all id:=by
   have hlen:=rv.length
   rw [List.length_map] at hlen
   rw [List.size_toArray,<-hlen];exact LSm.range_all bs
  rw [e]
  exact⟨.bl _,H,I.kept (LSm.kept_iter hk),rfl,q⟩
end
end L2
namespace L2
open PySem PySem.StrLaws PySem.Builtin PySem.Builtin.Str
end L2
namespace L2
open PySem
theorem aB {H:L2.Hp} {p:Addr} {o:L2.HO} (hp:H p=none):L2.aQ H (L2.upd H p o):=fun b o' e=>by rw [L2.aG (L2.aC e hp)];exact e
end L2
namespace L2
open PySem PySem.SeqAt
open AutoSeq1 (wpAny_loadPart')
open MeetsSeq MeetsSeq2 MeetsSeq3 SeqRoads2
section
variable {A:Around} {s:Shared}
end
open PySem.Spec PyProof.Rows
end L2
namespace L2
open PySem PySem.Spec PyProof.Rows
structure MethAt (P:Program) (w:World) (K:PySem.W.Frag) (mg:Str->Option Value) (base:Heap) (CX:Dh) (k:Nat) (C:Addr) (m:Str) (sp:Sp):Prop where
 ex:∃(f:Addr) (fd:FuncData) (ps:List Str),Qa K C/\Meth K C m f/\Binds K fd ps []/\gH P w K mg base CX k f fd ps sp
inductive Oc (P:Program) (w:World) (K:PySem.W.Frag) (mg:Str->Option Value) (base:Heap) (CX:Dh) (k:Nat) (m:Str) (E:XK) (t:TA) (σ:St) (Q:VK) (x:V) (H1:Hp):Prop where
 | mk:∀a C dx fs sp,x=.ref a->H1 a=some (.ins C dx fs)->fs.lookup m=none->MethAt P w K mg base CX k C m sp->(t σ H1 fun vs H2=>sp (x:: vs) H2 Q E)->Oc P w K mg base CX k m E t σ Q x H1
noncomputable def Mt (P:Program) (w:World) (K:PySem.W.Frag) (mg:Str->Option Value) (base:Heap) (CX:Dh) (k:Nat) (m:Str) (E:XK) (ta:TE) (t:TA):TE:=fun σ H Q=>ta σ H fun x H1=>Oc P w K mg base CX k m E t σ Q x H1
section
variable {X:Cx} {CX:Dh} {k:Nat} {E:XK} {m:Str} {pos apos:Pos} {e o:Expr} {es:List Expr} {ta:TE} {t:TA}
theorem vM {pl:Sem Bool} (he:PE X o ta) (hr:iV k X.A) (hx:kW CX X E) (ha:PA X (e:: es) t)
  (hst:starEach (e:: es) X.env=(false,eval e X.env):: starEach es X.env:=by rfl) (hpl:(backTo pos (starEach es X.env)).any (·.1)=false:=by rfl)
  (ht:eval (.Call (.Attribute o m apos) (e:: es) [] pos) X.env=(do
   let ov <-eval o X.env
   standAt apos.atName
   let (f,first) <-holding [ov] (getMethod ov m pl)
   callWith pos f first (backTo pos (starEach (e:: es) X.env)) (backToKw pos (keywordEach [] X.env))):=by rfl):
  PE X (.Call (.Attribute o m apos) (e:: es) [] pos) (Mt X.prog X.w X.K X.mg X.base CX k m E ta t):=by
 intro pins s σ H Q I h
 refine PySem.W.methodCall_KW (pl:=pl) (dZ (he pins s σ H _ I h) fun u s1 hpt=>?_) ht
 obtain⟨x,H1,I1,rx,a,C,dx,fs,sp,ex,ea,l,⟨f,fd,ps,c,hm,hb,F⟩,q⟩:=hpt
 subst ex
 obtain rfl:u=Value.ref a:=rx
 refine sW I1 ea c hm l ?_
 refine PySem.W.callWith_K (first:=[.ref a]) (h₀:=X.base) I.ok.mod.kin hm.kp (dZ (ha pos pins s1 σ H1 _ I1 q) fun us s2 ⟨vs,H2,I2,r,q2⟩=>⟨I2.kIn,?_⟩) hst hpl
 exact Fg (us:=.ref a:: us) (vs:=.ref a:: vs) (ds:=[]) (dvs:=[]) F hr hb .nil hx I2 (.cons rfl r) (by rw [List.append_nil];exact q2)
theorem rG {pl:Sem Bool} (he:PE X o ta) (hr:iV k X.A) (hx:kW CX X E)
  (ht:eval (.Call (.Attribute o m apos) [] [] pos) X.env=(do
   let ov <-eval o X.env
   standAt apos.atName
   let (f,first) <-holding [ov] (getMethod ov m pl)
   callWith pos f first (backTo pos (starEach [] X.env)) (backToKw pos (keywordEach [] X.env))):=by rfl):
  PE X (.Call (.Attribute o m apos) [] [] pos) (Mt X.prog X.w X.K X.mg X.base CX k m E ta Ru):=by
 intro pins s σ H Q I h
 refine PySem.W.methodCall_KW (pl:=pl) (dZ (he pins s σ H _ I h) fun u s1 hpt=>?_) ht
 obtain⟨x,H1,I1,rx,a,C,dx,fs,sp,ex,ea,l,⟨f,fd,ps,c,hm,hb,F⟩,q⟩:=hpt
 subst ex
 obtain rfl:u=Value.ref a:=rx
 refine sW I1 ea c hm l ?_
 exact PySem.W.callWith_K0 (first:=[.ref a]) I1.kIn hm.kp (Fg (us:=[.ref a]) (vs:=[.ref a]) (ds:=[]) (dvs:=[]) F hr hb .nil hx I1 (.cons rfl .nil) (by rw [List.append_nil];exact q))
end
section
variable {X:Cx}
theorem Kf:bootBuiltins "range" =some (.type "range"):=by decide +kernel
theorem Ax:j5 X (.type "range") (fun xs H Q=>∃j:Int,xs=[.int j]/\∀r,H r=none->Q (.ref r) (upd H r (.rng 0 j))):=by
 intro pins s σ H xs us Q I r h
 obtain⟨j,rfl,q⟩:=h
 obtain⟨u,rfl,t,rfl⟩:=vals1 r
 refine call_range_1 ⟨.ref s.heap.objs.size,upd H s.heap.objs.size (.rng 0 j),I.laid (fun b o e=>Heap.get?_push_of_some _ e) (Nat.le_refl _) ?_,rfl,q _ (I.hok.fresh (Nat.le_refl _))⟩
 exact⟨_,_,_,Heap.get?_push_size _ rfl⟩
noncomputable def Sh (n:Nat):List V:=(List.range n).map fun i=>V.int (i:Nat)
theorem Up (n:Nat):(Sh n).length=n:=by simp [Sh]
theorem Qq:∀(n:Nat) (us:List Value),us.length=n->(∀(j:Nat) (v:Value),us[j]?=some v->∃t,v=.int (j:Nat) t)->Vals (Sh n) us:=by
 intro n
 induction n with
 | zero=>intro us hl _;cases us with | nil=>exact .nil | cons _ _=>cases hl
 | succ n ih=>
  intro us hl h
  have e1:Sh (n+1)=Sh n ++ [V.int (n:Nat)]:=by simp [Sh,List.range_succ]
  have hn:n <us.length:=by omega
  have e2:us=us.take n ++ [us[n]]:=by
   have:=List.take_append_drop n us
   rw [List.drop_eq_getElem_cons hn] at this
   rw [List.drop_eq_nil_of_le (by omega)] at this
   exact this.symm
  rw [e1,e2]
  refine Vals.append (ih _ (by simp;omega) fun j v e=>?_) (.cons ?_ .nil)
  ·rw [List.getElem?_take] at e
   split at e
   ·exact h j v e
   ·cases e
  ·obtain⟨t,e⟩:=h n us[n] (by simp [hn])
   exact⟨t,e⟩
theorem wG (hc:X.calm=true):j5 X (.type "list") (fun xs H Q=>∃(r:Addr) (n:Nat),xs=[.ref r]/\H r=some (.rng 0 n)/\n<=1000000/\∀l,H l=none->Q (.ref l) (upd H l (.lst (Sh n)))):=by
 intro pins s σ H xs us Q I rx h
 obtain⟨r,n,rfl,hr,hn,q⟩:=h
 obtain⟨u,rfl,ru⟩:=vals1 rx
 cases ru
 have hl:sizeLine=16777216:=sizeLine_eq
 obtain⟨t,u,v,e⟩:=(show dX X.prog X.w H s.heap r (.rng 0 n) from I.hok r _ hr)
 refine call_list_range (n:=n) (I.ok.hd hc) e (small_one (by omega) (by omega) (by omega) (by omega)) (by rw [rangeSize_one];split <;> omega) (by omega) fun h' tk acc' c' kp e' hi=>?_
 refine⟨.ref s.heap.objs.size,_,I.laid (t':=tk) kp (Nat.le_refl _) (show dX X.prog X.w _ h' _ (.lst (Sh n)) from⟨by rw [Up];omega,acc'.toList,c',Qq n _ (by simpa using hi.1) fun j v ej=>?_,by simpa using e'⟩),rfl,q _ (I.hok.fresh (Nat.le_refl _))⟩
 obtain⟨t,ev⟩:=hi.2 j v (by simpa using ej)
 exact⟨t,by rw [ev];congr 1;omega⟩
end
inductive jP (w:World) (K:PySem.W.Frag):List DictEntry->List (Str×List Int)->Prop
 | nil:jP w K [] []
 | cons {x:Str} {t:Tok} {ad:Addr} {ns:List Int} {es:List DictEntry} {rows:List (Str×List Int)} {h:Int} {its:Array Value} {n:Nat} {o:Obj}:
   h=hashStr w x->K.lookup ad=some o->o.cls=.type "tuple" ->o.data=.seq its n->Vals (ns.map V.int) its.toList->ns.length<=1000->jP w K es rows->jP w K (⟨h,.str x t,.ref ad⟩:: es) ((x,ns):: rows)
inductive KTab (w:World) (K:PySem.W.Frag) (a:Addr) (rows:List (Str×List Int)):Prop where
 | mk:∀(o:Obj) (es:Array DictEntry) (ep:Nat),K.lookup a=some o->o.cls=.type "dict" ->o.dict=none->o.slots= #[]->o.data=.dict es ep->(a == sysModules)=false->jP w K es.toList rows->(rows.map (·.1)).Nodup->KTab w K a rows
theorem KTab.mk' {w:World} {K:PySem.W.Frag} {a:Addr} {rows:List (Str×List Int)} {o:Obj} {es:Array DictEntry} {ep:Nat} (lk:K.lookup a=some o) (c1:o.cls=.type "dict") (c2:o.dict=none) (c3:o.slots= #[]) (c4:o.data=.dict es ep) (sm:(a == sysModules)=false)
  (rw':jP w K es.toList rows) (nd:(rows.map (·.1)).Nodup):KTab w K a rows:=⟨o,es,ep,lk,c1,c2,c3,c4,sm,rw',nd⟩
noncomputable def rowOf (rows:List (Str×List Int)) (z:Str):Option (List Int):=(rows.find? fun r=>decide (r.1=z)).map (·.2)
section
variable {P:Program} {w:World} {K:PySem.W.Frag}
theorem jP.kvs:∀{es:List DictEntry} {rows:List (Str×List Int)},jP w K es rows->∃kvs:List (Key×Value),Pairs (dB P w) es kvs/\kvs.map (·.1)=rows.map (fun r=>(Sum.inr r.1:Key))/\
  (∀e∈es,∃k,(dB P w).is k e.key=true/\e.hash=(dB P w).hash k)/\
  ∀z,(rowOf rows z=none->valueAt kvs (Sum.inr z)=none)/\∀ns,rowOf rows z=some ns->∃ad,valueAt kvs (Sum.inr z)=some (.ref ad)/\∀H,fG K H ad (ns.map V.int)
 | _,_,.nil=>⟨[],.nil,rfl,fun e he=>(by cases he),fun z=>⟨fun _=>rfl,fun ns e=>by cases e⟩⟩
 | _,_,@jP.cons _ _ x t ad ns es rows h its n o hh hl hc hdt hv hz hr=>by
  obtain⟨kvs,p,hk,ho,hf⟩:=jP.kvs hr
  refine⟨(Sum.inr x,.ref ad):: kvs,.cons (mL P w x t) rfl p,by rw [List.map_cons,List.map_cons,hk],fun e he=>?_,fun z=>?_⟩
  ·rcases List.mem_cons.mp he with e1 | he
   ·subst e1
    exact⟨Sum.inr x,mL P w x t,hh⟩
   ·exact ho e he
  ·by_cases hx:x=z
   ·subst hx
    have e1:rowOf ((x,ns):: rows) x=some ns:=by simp [rowOf]
    have e2:valueAt ((Sum.inr x,Value.ref ad):: kvs) (Sum.inr x:Key)=some (.ref ad):=by simp [valueAt]
    rw [e1,e2]
    refine⟨fun e=>by (cases e),fun ms e=>⟨ad,rfl,fun H=>.inr ⟨_,its,n,hl,hc,hdt,?_,?_⟩⟩⟩
    ·have:=hv.length
     have hs:sizeLine=16777216:=sizeLine_eq
     simp at this
     omega
    ·cases e;exact hv
   ·have e1:rowOf ((x,ns):: rows) z=rowOf rows z:=by simp [rowOf,hx]
    have hx':¬(Sum.inr x:Key)=Sum.inr z:=fun q=>hx (Sum.inr.inj q)
    have e2:valueAt ((Sum.inr x,Value.ref ad):: kvs) (Sum.inr z:Key)=valueAt kvs (Sum.inr z):=by simp [valueAt,hx']
    rw [e1,e2]
    exact hf z
theorem KTab.map {a:Addr} {rows:List (Str×List Int)} {h:Heap} (T:KTab w K a rows) (hk:K.In h):∃f:Key->Option Value,h.MapOf (dB P w) a f/\(a == sysModules)=false/\
  ∀z,(rowOf rows z=none->f (Sum.inr z)=none)/\∀ns,rowOf rows z=some ns->∃ad,f (Sum.inr z)=some (.ref ad)/\∀H,fG K H ad (ns.map V.int):=by
 obtain⟨o,es,ep,hl,c1,c2,c3,c4,hs,hr,nd⟩:=T
 obtain⟨kvs,p,hkk,ho,hf⟩:=hr.kvs (P:=P)
 have D:h.DictOf (dB P w) a kvs:=⟨o,es,ep,hk a _ hl,⟨c1,c2,c3⟩,c4,fun e he=>ho e (by simpa using he),p,?_⟩
 ·exact⟨_,D.mapOf,hs,hf⟩
 ·rw [hkk]
  have:rows.map (fun r=>(Sum.inr r.1:Key))=(rows.map (·.1)).map Sum.inr:=by rw [List.map_map];rfl
  rw [this]
  exact List.Pairwise.map _ (fun a b hab e=>hab (Sum.inr.inj e)) nd
end
section
variable {X:Cx} {i o:Expr} {ty td:TE} {pos:Pos}
inductive VM (w:World) (K:PySem.W.Frag) (Q:VK) (y:V) (x:V) (H2:Hp):Prop where
 | mk:∀a rows z,x=.ref a->KTab w K a rows->y=.str z->Q (.bl (rowOf rows z).isSome) H2->VM w K Q y x H2
noncomputable def Zt (w:World) (K:PySem.W.Frag) (ty td:TE):TE:=fun σ H Q=>ty σ H fun y H1=>td σ H1 fun x H2=>VM w K Q y x H2
theorem Wt (hi:PE X i ty) (ho:PE X o td):PC X .In i o (Zt X.w X.K ty td):=by
 intro pins s σ H Q I h
 refine dZ (hi pins s σ H _ I h) fun iv s1 ⟨y,H1,I1,ry,q1⟩=>dZ (ho pins s1 σ H1 _ I1 q1) fun u s2 hpt=>?_
 obtain⟨x,H2,I2,rx,a,rows,z,ex,T,ey,q2⟩:=hpt
 subst ex
 subst ey
 obtain rfl:u=Value.ref a:=rx
 obtain⟨t,rfl⟩:=ry
 obtain⟨f,M,hs,hf⟩:=T.map (P:=X.prog) I2.kIn
 refine wpAny_in_of (k:=(Sum.inr z:Key)) (mL X.prog X.w z t) hs M ?_
 refine⟨.bl (rowOf rows z).isSome,H2,I2.tok _,?_,q2⟩
 cases e:rowOf rows z with
 | none=>rw [(hf z).1 e];rfl
 | some ns=>obtain⟨ad,e1,_⟩:=(hf z).2 ns e;rw [e1];rfl
inductive Vh (w:World) (K:PySem.W.Frag) (x:V) (y:V) (H:Hp) (Q:VK):Prop where
 | mk:∀a rows z ns,x=.ref a->KTab w K a rows->y=.str z->rowOf rows z=some ns->(∀ad,fG K H ad (ns.map V.int)->Q (.ref ad) H)->Vh w K x y H Q
noncomputable def YH (w:World) (K:PySem.W.Frag):R2:=fun x y H Q=>Vh w K x y H Q
theorem ZR:Qe X (YH X.w X.K):=by
 intro value slice pins s σ H x y v u Q I rx ry h hs
 obtain⟨a,rows,z,ns,rfl,T,rfl,e,q⟩:=h
 cases rx
 obtain⟨t,rfl⟩:=ry
 obtain⟨f,M,hsm,hf⟩:=T.map (P:=X.prog) I.kIn
 obtain⟨ad,e1,e2⟩:=(hf z).2 ns e
 exact tail_any M.typeIs PySem.F.slot_dict_getitem.lookup (wpAny_getItem_of (k:=(Sum.inr z:Key)) (mL X.prog X.w z t) M e1 ⟨.ref ad,H,I.tok _,rfl,q ad (e2 H)⟩) hs
theorem Ub (ho:PE X o td) (hi:PE X i ty) (hs:Np i):PE X (.Subscript o i pos) (X3 (YH X.w X.K) td ty):=aU ZR ho hi hs
end
noncomputable def yc (K:PySem.W.Frag) (H:Hp) (a:Addr) (xs:List V):Prop:=bR K H a xs∨fG K H a xs
theorem aQ.seqT {K:PySem.W.Frag} {H H':Hp} {a:Addr} {xs:List V} (e:aQ H H') (h:fG K H a xs):fG K H' a xs:=by
 rcases h with (h | ⟨o,h⟩) | h
 ·exact .inl (.inl (e _ _ h))
 ·exact .inl (.inr ⟨o,e _ _ h⟩)
 ·exact .inr h
theorem aQ.seqA {K:PySem.W.Frag} {H H':Hp} {a:Addr} {xs:List V} (e:aQ H H') (h:yc K H a xs):yc K H' a xs:=h.elim (fun h=>.inl (e.seq h)) fun h=>.inr (e.seqT h)
noncomputable def jR (p:Addr) (H H':Hp):Prop:=∀b o,b≠p->H b=some o->H' b=some o
theorem jR.refl {p:Addr} (H:Hp):jR p H H:=fun _ _ _ e=>e
theorem jR.trans {p:Addr} {H H1 H2:Hp} (a:jR p H H1) (b:jR p H1 H2):jR p H H2:=fun c o n e=>b c o n (a c o n e)
theorem jR.of_same {p:Addr} {H H1:Hp} (a:aQ H H1):jR p H H1:=fun c o _ e=>a c o e
theorem jR.write {p:Addr} {H:Hp} {o:HO}:jR p H (upd H p o):=fun b u n e=>by rw [aG n];exact e
theorem jR.seqT {K:PySem.W.Frag} {H H':Hp} {p a C dx:Addr} {fs:List (Str×V)} {xs:List V} (e:jR p H H') (hp:H p=some (.ins C dx fs)) (h:fG K H a xs):fG K H' a xs:=by
 rcases h with (h | ⟨o,h⟩) | h
 ·exact .inl (.inl (e _ _ (mK h hp (by intro z;cases z)) h))
 ·exact .inl (.inr ⟨o,e _ _ (mK h hp (by intro z;cases z)) h⟩)
 ·exact .inr h
theorem jR.seqL {K:PySem.W.Frag} {H H':Hp} {p a C dx:Addr} {fs:List (Str×V)} {xs:List V} (e:jR p H H') (hp:H p=some (.ins C dx fs)) (h:bR K H a xs):bR K H' a xs:=by
 rcases h with (h | ⟨o,h⟩) | h
 ·exact .inl (.inl (e _ _ (mK h hp (by intro z;cases z)) h))
 ·exact .inl (.inr ⟨o,e _ _ (mK h hp (by intro z;cases z)) h⟩)
 ·exact .inr h
theorem jR.seqA {K:PySem.W.Frag} {H H':Hp} {p a C dx:Addr} {fs:List (Str×V)} {xs:List V} (e:jR p H H') (hp:H p=some (.ins C dx fs)) (h:yc K H a xs):yc K H' a xs:=h.elim (fun h=>.inl (e.seqL hp h)) fun h=>.inr (e.seqT hp h)
theorem Ro {K:PySem.W.Frag} {H:Hp} {a:Addr} {xs:List V} {Q:VK} (h:yc K H a xs) (k:∀H' u,aQ H H'->fG K H' u xs->Q (.ref u) H'):
  ∃p ys,[V.ref a]=[.ref p]/\((bR K H p ys/\∀l,H l=none->Q (.ref l) (upd H l (.tup ys)))∨(fG K H p ys/\Q (.ref p) H)):=by
 rcases h with h | h
 ·exact⟨a,xs,rfl,.inl ⟨h,fun l hl=>k _ _ (aB hl) (fG.of aq)⟩⟩
 ·exact⟨a,xs,rfl,.inr ⟨h,k _ _ (aQ.refl _) h⟩⟩
theorem rQ {X:Cx}:j5 X (.type "tuple") (fun xs H Q=>∃a ys,xs=[.ref a]/\yc X.K H a ys/\∀H' u,aQ H H'->fG X.K H' u ys->Q (.ref u) H'):=by
 intro pins s σ H xs us Q I r h
 obtain⟨a,ys,rfl,hq,q⟩:=h
 exact Fy pins s σ H _ us Q I r (Ro hq q)
section
variable {es:List Expr} {env:Env}
theorem bN {a b c}:starEach (.Tuple a b c:: es) env=(false,eval (.Tuple a b c) env):: starEach es env:=rfl
theorem bw {a b}:starEach (.List a b:: es) env=(false,eval (.List a b) env):: starEach es env:=rfl
theorem ao {a b c}:starEach (.Constant a b c:: es) env=(false,eval (.Constant a b c) env):: starEach es env:=rfl
theorem aj {a b}:starEach (.Name a b:: es) env=(false,eval (.Name a b) env):: starEach es env:=rfl
theorem aX {a b c d}:starEach (.Call a b c d:: es) env=(false,eval (.Call a b c d) env):: starEach es env:=rfl
theorem bY {a b c d}:starEach (.BinOp a b c d:: es) env=(false,eval (.BinOp a b c d) env):: starEach es env:=rfl
theorem aO {a b c}:starEach (.Attribute a b c:: es) env=(false,eval (.Attribute a b c) env):: starEach es env:=rfl
theorem aD {a b c}:starEach (.Subscript a b c:: es) env=(false,eval (.Subscript a b c) env):: starEach es env:=rfl
theorem dU {a b c d}:starEach (.ListComp a b c d:: es) env=(false,eval (.ListComp a b c d) env):: starEach es env:=rfl
theorem Hx {a b c d}:starEach (.Compare a b c d:: es) env=(false,eval (.Compare a b c d) env):: starEach es env:=rfl
theorem Mf {a b c d}:starEach (.IfExp a b c d:: es) env=(false,eval (.IfExp a b c d) env):: starEach es env:=rfl
end
section
variable {X:Cx} {scope:Scope} {x:Str} {js:List Nat} {cl:List (Str×Addr)} {C:Addr} {s:Shared} {H:Hp} {ex:List Addr}
end
noncomputable def jz (H:Hp):List Addr->List (List V)->Prop:=Paired fun r vs=>H r=some (.tup vs)
theorem jz.same {H H':Hp} (s:aQ H H'):∀{rs:List Addr} {vss:List (List V)},jz H rs vss->jz H' rs vss
 | _,_,.nil=>.nil
 | _,_,.cons h t=>.cons (s _ _ h) (jz.same s t)
theorem jz.append {H:Hp}:∀{rs rs':List Addr} {vss vss':List (List V)},jz H rs vss->jz H rs' vss'->jz H (rs ++ rs') (vss ++ vss')
 | _,_,_,_,.nil,q=>q
 | _,_,_,_,.cons h t,q=>.cons h (jz.append t q)
section
variable {X:Cx}
end
noncomputable def Rx (K:PySem.W.Frag) (a:Addr):It:=
 ⟨fun i H=>∃xs x,bR K H a xs/\xs[i]?=some x,fun i H v H'=>∃u y,H u=none/\v=.ref u/\H'=upd H u (.tup [.int (i:Nat),y])/\∀xs,bR K H a xs->xs[i]?=some y,fun i H=>∃xs,bR K H a xs/\xs.length<=i⟩
theorem Oj {P:Program} {w:World} {K:PySem.W.Frag} {elts:List Expr} {x1:_} {tpos:Pos} (a e it:Addr) (hne:e≠it):
  Turn P w K (.Tuple elts x1 tpos) (Rx K a) [e,it] e (fun i h=>(∃old,IsEnum h e it ((i:Nat):Int) old)/\h.IsListIter it a i) where
 mem:=by simp
 obj:=fun i h st b hb=>by
  obtain⟨⟨old,he⟩,hit⟩:=st
  have hb':b=e∨b=it:=by simpa using hb
  rcases hb' with z | z
  ·subst z
   exact⟨_,he,fun v z=>by cases z⟩
  ·subst z
   obtain⟨o,e1,c,d⟩:=hit
   exact⟨o,e1,fun v z=>by rw [d] at z;cases z⟩
 keep:=fun i h h' st k=>by
  obtain⟨⟨old,he⟩,hit⟩:=st
  exact⟨⟨old,k e (by simp) _ he⟩,hit.at fun o e1=>k it (by simp) o e1⟩
 item:=by
  intro X hP hw hK hc i pins s σ H E I hf st hg
  subst hP hw hK
  obtain⟨⟨old,he⟩,hit⟩:=st
  obtain⟨xs,x,hq,hx⟩:=hg
  obtain⟨its,rv,p,hz⟩:=I.list hq
  obtain⟨u,hu,ru⟩:=rv.get hx
  obtain⟨f0,f1,f2,f3,f4,f5⟩:=hf it (by simp)
  obtain⟨g0,g1,g2,g3,g4,g5⟩:=hf e (by simp)
  refine wpAny_pyNext_enum_item he hit p.isList (x:=u) (by simpa using hu) hne fun h1 heo hit1 ht1 hz1 hk1=>?_
  refine⟨_,rfl,wpAny_letOwnedTupleGo_enum heo fun h2 he2 hs2=>?_⟩
  have hs2':Heap.SameBut e h1 h2:=hs2
  have heS:e <s.heap.objs.size:=Heap.lt_size he
  have hnE:s.heap.objs.size≠e:=Nat.ne_of_gt heS
  have kp:∀b o,b≠e->b≠it->s.heap.get? b=some o->h2.get? b=some o:=fun b o n1 n2 q=>(hs2'.2 b n1).trans (hk1 b o n1 n2 q)
  have nn:∀b o,s.heap.get? b=some o->b≠s.heap.objs.size:=fun b o q=>Nat.ne_of_lt (Heap.lt_size q)
  have hfr:H s.heap.objs.size=none:=I.hok.fresh (Nat.le_refl _)
  have tupN:h2.get? s.heap.objs.size=some { cls:=.type "tuple",data:=.seq #[.int i s.toks,u] }:=(hs2'.2 _ hnE).trans ht1
  have tr:∀b o,H b=some o->b≠e/\b≠it:=fun b o q=>⟨fun z=>(by rw [z,g0] at q;cases q),fun z=>(by rw [z,f0] at q;cases q)⟩
  have ok2:uz X.prog X.w (upd H s.heap.objs.size (.tup [.int (i:Nat),x])) h2:=fun b o q=>by
   by_cases hb:b=s.heap.objs.size
   ·rw [hb,aq] at q
    cases q
    rw [hb]
    exact⟨by show 2<=sizeLine;decide,[.int i s.toks,u],.cons ⟨_,rfl⟩ (.cons ru .nil),⟨_,tupN,rfl,_,rfl⟩⟩
   ·rw [aG hb] at q
    refine(I.hok b o q).stay (fun c v hc q'=>?_) (fun c q'=>by rw [aG (aC q' hfr)];exact q') fun c ys q'=>by rw [aG (aC q' hfr)];exact q'
    rcases hc with z | z
    ·rw [z] at q' ⊢
     exact kp _ _ (tr _ _ q).1 (tr _ _ q).2 q'
    ·exact kp _ _ (tr _ _ z).1 (tr _ _ z).2 q'
  refine⟨.ref s.heap.objs.size,upd H s.heap.objs.size (.tup [.int (i:Nat),x]),?_,rfl,⟨_,x,hfr,rfl,rfl,fun ys hy=>by rw [I.list_inj hy hq];exact hx⟩,⟨⟨_,by simpa using he2⟩,hit1.at fun o e1=>(hs2'.2 _ (Ne.symm hne)).trans e1⟩,fun b hb=>?_⟩
  ·show Inv X pins σ (upd H s.heap.objs.size (.tup [.int (i:Nat),x])) { s with heap:=h2,gens:=s.gens,drawn:=s.drawn,toks:=s.toks+1 }
   refine I.step (g':=s.gens) (d':=s.drawn) (t':=s.toks+1) (ch:=[e,it]) (fun b hb=>?_) (fun b o _ _ hc q _=>kp b o (fun z=>hc (by simp [z])) (fun z=>hc (by simp [z])) q)
    (fun b o _ _ hc q _=>⟨o.slots,kp b o (fun z=>hc (by simp [z])) (fun z=>hc (by simp [z])) q⟩) (fun b o _ q n=>by rw [aG (nn b o q)];exact n)
    (fun b o hc q=>⟨o,kp b o (fun z=>hc (by simp [z])) (fun z=>hc (by simp [z])) q⟩) (fun b ys q=>by rw [aG (aC q hfr)];exact q) (fun b o ys q=>by rw [aG (aC q hfr)];exact q)
    (fun b ps q=>⟨#[],by rw [aG (aC q hfr),q];simp⟩) (fun m hm=>?_) ok2 I.bare
   ·have hb':b=e∨b=it:=by simpa using hb
    rcases hb' with z | z
    ·subst z;exact⟨g3,g1,g4,g5⟩
    ·subst z;exact⟨f3,f1,f4,f5⟩
   ·obtain⟨o,es,ep,ho,r⟩:=hm
    exact⟨o,es,ep,kp _ o (Ne.symm g1) (Ne.symm f1) ho,r⟩
  ·have hb':b=e∨b=it:=by simpa using hb
   rcases hb' with z | z
   ·subst z;rw [aG (Ne.symm hnE)];exact g0
   ·subst z
    obtain⟨o,e1,_⟩:=hit
    rw [aG (nn _ o e1)];exact f0
 done:=by
  intro X hP hw hK hc i pins s σ H E I hf st hg
  subst hP hw hK
  obtain⟨⟨old,he⟩,hit⟩:=st
  obtain⟨xs,hq,hx⟩:=hg
  obtain⟨its,rv,p,hz⟩:=I.list hq
  obtain⟨f0,f1,f2,f3,f4,f5⟩:=hf it (by simp)
  have hl:=rv.length
  exact wpAny_pyNext_enum_end (I.ok.hd hc) he hit p.isList (by simp;omega) fun h' eb=>⟨rfl,I.turned (t':=s.toks) (fun b o hb e=>eb b o hb e) f0 f1 f3 f4 f5⟩
 self:=fun _ _ _ _ _ st h=>by
  obtain⟨⟨old,he⟩,_⟩:=st
  exact wpAny_pyIter_enum he h
section
variable {X:Cx}
theorem Ji:bootBuiltins "enumerate" =some (.type "enumerate"):=by decide +kernel
inductive Q4 (K:PySem.W.Frag) (R:It->Hp->Prop) (vs:List V) (H1:Hp):Prop where
 | mk:∀a,vs=[.ref a]->((∃xs,bR K H1 a xs))->R (Rx K a) H1->Q4 K R vs H1
noncomputable def XR (K:PySem.W.Frag) (ta:TA):TI:=fun σ H R=>ta σ H fun vs H1=>Q4 K R vs H1
theorem TQ {l:Expr} {ta:TA} {p pos tpos:Pos} {elts:List Expr} {x1:_} (hg:Gl X "enumerate") (hm:X.mg "enumerate" =none) (ha:PA X [l] ta) (hs:starEach [l] X.env=[(false,eval l X.env)]:=by rfl):
  PI X (.Tuple elts x1 tpos) (.Call (.Name "enumerate" p) [l] [] pos) (XR X.K ta):=by
 intro pins s σ H R I h
 refine Call_ (Fv I hg hm Ji (PyProof.Rows.callWith_type1 (dZ (ha pos pins s σ H _ I h) fun us s1 ⟨vs,H1,I1,r1,q1⟩=>?_) hs rfl))
 obtain⟨a,e,⟨xs,hq⟩,q⟩:=q1
 subst e
 obtain⟨u,rfl,ru⟩:=vals1 r1
 cases ru
 obtain⟨its,rv,pl,hz⟩:=I1.list hq
 refine call_enumerate_list pl.isList fun h' he hit hz' kp=>wpAny_pyIter_enum he ?_
 have I2:Inv X pins σ H1 { s1 with heap:=h' }:=I1.kept (t':=s1.toks) kp
 refine⟨s1.heap.objs.size+1,[s1.heap.objs.size+1,s1.heap.objs.size],_,_,H1,rfl,I2,Oj a _ _ (Nat.ne_of_gt (Nat.lt_succ_self _)),⟨⟨_,he⟩,hit⟩,fun b hb=>?_,q⟩
 have hb':b=s1.heap.objs.size+1∨b=s1.heap.objs.size:=by simpa using hb
 rcases hb' with z | z <;> subst z
 ·exact I1.fpOk (Nat.le_succ _) (I1.hok.fresh (Nat.le_succ _))
 ·exact I1.fpOk (Nat.le_refl _) (I1.hok.fresh (Nat.le_refl _))
theorem R7 {K:PySem.W.Frag} {a:Addr} {xs:List V} {g:TG} {tb:TS} {D:Ends} {σ:St} {H:Hp} (Pv:Nat->St->Hp->Prop) (h0:Pv 0 σ H) (hl:∀i σ H,i<=xs.length->Pv i σ H->bR K H a xs)
  (hs:∀i x σ H,xs[i]?=some x->Pv i σ H->∀u,H u=none->g (.ref u) σ (upd H u (.tup [.int (i:Nat),x])) fun σ' H'=>tb { D with nx:=Pv (i+1),ct:=Pv (i+1),bk:=D.nx } σ' H') (hd:∀σ H,Pv xs.length σ H->D.nx σ H):
  ∃W:Nat->Nat->St->Hp->Prop,(∃m,W 0 m σ H)/\∀i m σ H,W i m σ H->
   ((Rx K a).stop i H/\D.nx σ H)∨((Rx K a).go i H/\∃N:St->Hp->Prop,(∀σ' H',N σ' H'->∃m',m' <m/\W (i+1) m' σ' H')/\∀x H',(Rx K a).yld i H x H'->g x σ H' fun σ' H2=>tb { D with nx:=N,ct:=N,bk:=D.nx } σ' H2):=by
 refine⟨fun i m σ H=>m=xs.length - i/\i<=xs.length/\Pv i σ H,⟨xs.length,by simp,Nat.zero_le _,h0⟩,?_⟩
 rintro i m σ H ⟨rfl,hi,p⟩
 have q:=hl i σ H hi p
 by_cases hlt:i <xs.length
 ·refine .inr ⟨⟨xs,xs[i],q,by simp [hlt]⟩,Pv (i+1),fun σ' H' p'=>⟨xs.length - (i+1),by omega,rfl,hlt,p'⟩,fun x H' y=>?_⟩
  obtain⟨u,z,hu,ex,eH,hy⟩:=y
  subst ex eH
  exact hs i z σ H (hy xs q) p u hu
 ·have e:i=xs.length:=by omega
  subst e
  exact .inl ⟨⟨xs,q,Nat.le_refl _⟩,hd σ H p⟩
end
section
variable {P:Program} {w:World} {K:PySem.W.Frag} {mg:Str->Option Value} {base:Heap} {N:List Str} {qual:Str} {scope:Scope} {f:Addr} {cd:Value} {A:Around} {outer:List Env} {s:Shared} {H:Hp} {E:XK}
end
structure Rt (K:PySem.W.Frag) (C:Addr):Prop where
 ex:∃(nm q:Str) (Nn:Addr) (bs bm bmB:List Value) (hdct:Bool) (sn:List Str) (sub:List Value) (ab:Bool) (col:Option Bool) (dd:Option Addr) (k0 k1 k2 k3 k5:Option Value) (B newId initId:String) (mN:Str->Option Value),
  ExcBaseFacts B newId initId bmB/\bm.contains (.type "BaseException")=true/\mN "__init__" =none/\
  ∀h:Heap,K.In h->h.get? C=some (excClassObj nm q C Nn bs bm hdct sn sub ab col dd k0 k1 k2 k3 k5 newId)/\h.Ns Nn mN/\OwnTail h bmB bm
section
variable {P:Program} {w:World} {K:PySem.W.Frag} {mg:Str->Option Value} {base:Heap} {N:List Str} {qual:Str} {scope:Scope} {f:Addr} {cd:Value} {A:Around} {outer:List Env} {s:Shared} {H:Hp} {E:XK}
end
theorem Xh {fs:List Addr} {H H2:Hp} {h h2 h3 B:Heap} (u:Un fs [] H H2 h h2) (inB:∀b o,h.get? b=some o->b∉fs->∃o',B.get? b=some o') (st2:B.StaysIn h2) (st3:B.StaysIn h3) (up:h2.UpToSlots h3)
  (fd:∀b o,h2.get? b=some o->b∈fs->∀vs,o.data≠.fields vs):Un fs [] H H2 h h3:=by
 have go:∀b o,h2.get? b=some o->(∃o',B.get? b=some o')->h3.get? b=some o:=fun b o q ⟨o',q'⟩=>by
  have:=st2 b o' q'
  rw [q] at this
  cases this
  exact st3 b _ q'
 refine⟨fun b o q n hb hx=>go b o (u.keep b o q n hb hx) (inB b o q hb),fun b o q n hb hx=>?_,fun b o q n hx=>u.free b o q n hx,fun b o q hx=>?_,u.tups,u.frzs,u.tbls⟩
 ·obtain⟨sl,k1⟩:=u.slot b o q n hb hx
  obtain⟨sl2,k2⟩:=up b _ k1 (fd b _ k1 hb)
  exact⟨sl2,k2⟩
 ·obtain⟨o2,k2⟩:=u.there b o q hx
  by_cases hb:b∈fs
  ·obtain⟨sl3,k3⟩:=up b _ k2 (fd b _ k2 hb)
   exact⟨_,k3⟩
  ·exact⟨o2,go b o2 k2 (inB b o q hb)⟩
theorem dX.some_at {P:Program} {w:World} {H:Hp} {h:Heap} {a:Addr} {o:HO} (x:dX P w H h a o):∃ob,h.get? a=some ob:=by
 cases o with
 | lst xs=>obtain⟨_,_,_,_,e⟩:=x;exact⟨_,e⟩
 | tup xs=>obtain⟨_,_,_,ob,e,_⟩:=x;exact⟨_,e⟩
 | dK kvs=>obtain⟨_,_,_,_,o,_,_,e,_⟩:=x;exact⟨_,e⟩
 | dT kvs=>obtain⟨_,_,_,_,o,_,_,e,_⟩:=x;exact⟨_,e⟩
 | set S n=>obtain⟨o,_,_,_,e,_⟩:=x;exact⟨_,e⟩
 | ins C dx fs=>obtain⟨_,_,_,e,_⟩:=x;exact⟨_,e⟩
 | own y=>exact x
 | xd fs=>obtain⟨_,⟨_,_,_,e,_⟩,_⟩:=x;exact⟨_,e⟩
 | rng lo hi=>obtain⟨_,_,_,e⟩:=x;exact⟨_,e⟩
 | frz ob u=>obtain⟨e,_⟩:=x;exact⟨_,e⟩
 | tbl ps=>exact⟨_,(show h.get? a=some _ from x)⟩
 | met f y=>exact⟨_,(show h.get? a=some _ from x)⟩
 | ext φ=>obtain⟨_,e,_⟩:=x;exact e
noncomputable def Cx.over (X:Cx) (pn:List (Addr×Obj)) (E:Value->Shared->Prop):Cx:={ X with pn:=pn,xe:=E }
noncomputable def Cx.marked (X:Cx) (x:Addr):Cx:={ X with A:=X.A.mark (some (.ref x)),calm:=false,xe:=fun _ _=>False }
section
variable {X:Cx} {pins:List (Addr×Obj)} {σ:St} {H:Hp} {s:Shared} {E:Value->Shared->Prop}
theorem Cx.Ok.over {pn:List (Addr×Obj)} (ok:X.Ok):(X.over pn E).Ok:=
 ⟨ok.mod,ok.kind,ok.glob,ok.blt,ok.above,ok.inj,ok.has,ok.cab,ok.hd,ok.frames,ok.stk,ok.exf,ok.bs,ok.bsz,ok.noex,ok.exfs,ok.funs,ok.frf⟩
theorem Cx.Ok.unover {pn:List (Addr×Obj)} (ok:(X.over pn E).Ok):X.Ok:=
 ⟨ok.mod,ok.kind,ok.glob,ok.blt,ok.above,ok.inj,ok.has,ok.cab,ok.hd,ok.frames,ok.stk,ok.exf,ok.bs,ok.bsz,ok.noex,ok.exfs,ok.funs,ok.frf⟩
theorem Inv.over (I:Inv X pins σ H s):Inv (X.over (X.pn ++ pins) E) [] σ H s:=⟨I.ok.over,I.os,I.bare,I.base,I.loc,I.cell,I.free,I.freeC,fun p hp=>I.pin p (by simpa [Cx.over] using hp),I.hok,I.len⟩
theorem Inv.unover {pins':List (Addr×Obj)} (I:Inv (X.over (X.pn ++ pins) E) pins' σ H s):Inv X pins σ H s:=⟨I.ok.unover,I.os,I.bare,I.base,I.loc,I.cell,I.free,I.freeC,fun p hp=>I.pin p (List.mem_append_left _ hp),I.hok,I.len⟩
theorem Inv.marked {x:Addr} (I:Inv X pins σ H s):Inv (X.marked x) pins σ H s:=
 ⟨⟨I.ok.mod,I.ok.kind,I.ok.glob,I.ok.blt,I.ok.above,I.ok.inj,I.ok.has,I.ok.cab,fun h=>absurd h (by simp [Cx.marked]),I.ok.frames,I.ok.stk,I.ok.exf,I.ok.bs,I.ok.bsz,I.ok.noex,I.ok.exfs,I.ok.funs,I.ok.frf⟩,I.os,I.bare,I.base,I.loc,I.cell,I.free,I.freeC,I.pin,I.hok,I.len⟩
theorem Inv.unmarked {x:Addr} (hc:X.calm=true->X.A.handled=none) (I:Inv (X.marked x) pins σ H s):Inv X pins σ H s:=
 ⟨⟨I.ok.mod,I.ok.kind,I.ok.glob,I.ok.blt,I.ok.above,I.ok.inj,I.ok.has,I.ok.cab,hc,I.ok.frames,I.ok.stk,I.ok.exf,I.ok.bs,I.ok.bsz,I.ok.noex,I.ok.exfs,I.ok.funs,I.ok.frf⟩,I.os,I.bare,I.base,I.loc,I.cell,I.free,I.freeC,I.pin,I.hok,I.len⟩
theorem Inv.track {x:Addr} {o:HO} (I:Inv X pins σ H s) (hn:H x=none) (h0:X.s₀.heap.get? x=none) (hL:x≠X.env.locals) (hc:∀y c,X.env.cells.lookup y=some c->c≠x) (hp:∀p∈X.pn ++ pins,p.1≠x)
  (new:dX X.prog X.w (upd H x o) s.heap x o):Inv X pins σ (upd H x o) s:=by
 have ne:∀b u,H b=some u->b≠x:=fun b u q=>aC q hn
 have ne0:∀b u,X.s₀.heap.get? b=some u->b≠x:=fun b u q z=>by rw [z,h0] at q;cases q
 refine⟨I.ok,I.os,I.bare,⟨I.base.keep,I.base.slot,fun b u q n hx=>?_,I.base.there,fun b xs q=>?_,fun b u xs q=>?_,fun b ps q=>?_⟩,I.loc,I.cell,?_,fun y c e=>?_,fun p h=>?_,G3 I.hok hn new,I.len⟩
 ·rw [aG (ne0 b u q)];exact I.base.free b u q n hx
 ·have:=I.base.tups b xs q;rw [aG (ne b _ this)];exact this
 ·have:=I.base.frzs b u xs q;rw [aG (ne b _ this)];exact this
 ·obtain⟨m,e⟩:=I.base.tbls b ps q;exact⟨m,by rw [aG (ne b _ e)];exact e⟩
 ·rw [aG (Ne.symm hL)];exact I.free
 ·rw [aG (hc y c e)];exact I.freeC y c e
 ·obtain⟨e,n,r⟩:=I.pin p h;exact⟨e,by rw [aG (hp p h)];exact n,r⟩
end
structure Ss (X:Cx) (pins:List (Addr×Obj)) (σ:St) (H':Hp) (x:Addr) (cls:Value) (s:Shared) (B:Heap) (a0:Value):Prop where
 inv:Inv X pins σ H' s
 fly:Heap.FlyingW B X.stack x cls a0 s.heap
 more:∀h6,Heap.FlyingW B X.stack x cls a0 h6->s.heap.UpToSlots h6->Inv X pins σ H' { s with heap:=h6 }
 free:H' x=none
 new:X.s₀.heap.get? x=none
 neL:x≠X.env.locals
 neC:∀y c,X.env.cells.lookup y=some c->c≠x
 neP:∀p∈X.pn ++ pins,p.1≠x
section
variable {X:Cx} {pins:List (Addr×Obj)} {σ:St} {H:Hp} {s:Shared}
theorem Cr {M:Model} {A:Around} {E:Value->Shared->Prop} {i:Nat} {x:Str} {pos:Pos} {Q:Unit->Shared->Prop} (I:Inv X pins σ H s) (hN:X.N.Nodup) (hi:X.N[i]?=some x) (hk:X.env.scope.names.lookup x=some .local)
  (h:∀s',Inv X pins (σ.set i none) H s'->Q () s'):wpAny M A (do bindName X.env x .none;unbindBehindTheSuite X.env x pos) Q E s:=by
 obtain⟨m,hn,hl⟩:=id I.loc
 have hcls:(X.env.scope.kind == .class || (X.env.scope.kind == .module && X.env.locals != X.env.globals))=false:=by rw [I.ok.kind];rfl
 have hiσ:i <σ.length:=by rw [I.len];exact(List.getElem?_eq_some_iff.mp hi).1
 have cne:=I.cne
 refine wpAny_nameGoes_keeps hk hn hcls fun h' v hn' hs=>?_
 refine h _ ⟨I.ok,I.os,I.bare,⟨fun b o e n hb hx=>?_,fun b o e n hb hx=>?_,I.base.free,fun b o e hx=>?_,I.base.tups,I.base.frzs,I.base.tbls⟩,⟨_,hn',fun j y v' e1 e2 e3=>?_⟩,fun y c e=>?_,I.free,I.freeC,fun p hp=>?_,fun b ob e=>?_,by simpa using I.len⟩
 ·exact(hs.2 b (Nat.ne_of_lt (Nat.lt_of_lt_of_le (Heap.lt_size e) I.ok.above))).trans (I.base.keep b o e n hb hx)
 ·obtain⟨sl,e1⟩:=I.base.slot b o e n hb hx
  exact⟨sl,(hs.2 b (Nat.ne_of_lt (Nat.lt_of_lt_of_le (Heap.lt_size e) I.ok.above))).trans e1⟩
 ·obtain⟨o',e1⟩:=I.base.there b o e hx
  exact⟨o',(hs.2 b (Nat.ne_of_lt (Nat.lt_of_lt_of_le (Heap.lt_size e) I.ok.above))).trans e1⟩
 ·by_cases hj:j=i
  ·subst hj
   rw [List.getElem?_set_self hiσ] at e2
   cases e2
  ·rw [List.getElem?_set_ne (Ne.symm hj)] at e2
   obtain⟨u',r',q⟩:=hl j y v' e1 e2 e3
   refine⟨u',r',?_⟩
   rcases q with ⟨k,e⟩ | ⟨k,c,e,z⟩
   ·refine .inl ⟨k,?_⟩
    have:y≠x:=fun e=>hj (Dl hN e1 (e ▸ hi))
    simp [this,e]
   ·exact .inr ⟨k,c,e,z.sameBut hs (cne y c e)⟩
 ·obtain⟨w',z⟩:=I.cell y c e
  exact⟨w',z.sameBut hs (cne y c e)⟩
 ·obtain⟨e,n,ne,nf,d⟩:=I.pin p hp
  exact⟨(hs.2 p.1 ne).trans e,n,ne,nf,d⟩
 ·refine(I.hok b ob e).stay (fun c w' hc q=>(hs.2 c ?_).trans q) (fun _ q=>q) fun _ _ q=>q
  rintro rfl
  rcases hc with rfl | hc
  ·rw [I.free] at e;cases e
  ·rw [I.free] at hc;cases hc
end
noncomputable def Y7 (x:Addr) (cls:Value):HO:=.ext fun h=>∃ob,h.get? x=some ob/\ob.cls=cls
structure ExcAt (K:PySem.W.Frag) (C:Addr):Prop where
 ex:∃(nm q:Str) (Nn:Addr) (bs bm:List Value) (hdct:Bool) (sn:List Str) (sub:List Value) (ab:Bool) (col:Option Bool) (dd:Option Addr) (k0 k1 k2 k3 k5:Option Value) (newId:String),bm.contains (.type "BaseException")=true/\
  ∀h:Heap,K.In h->h.get? C=some (excClassObj nm q C Nn bs bm hdct sn sub ab col dd k0 k1 k2 k3 k5 newId)
noncomputable def Wg (sp:Sp) (R:St->XK) (t:TA):TE:=fun σ H Q=>t σ H fun vs H1=>sp vs H1 Q (R σ)
theorem SM {X:Cx} {CX:Dh} {k:Nat} {f:Addr} {fd:FuncData} {ps:List Str} {sp:Sp} {R:St->XK} {x:Str} {p pos:Pos} {e:Expr} {es:List Expr} {t:TA}
  (F:gH X.prog X.w X.K X.mg X.base CX k f fd ps sp) (hr:iV k X.A) (hg:Gl X x) (hm:X.mg x=some (.ref f)) (hk:PySem.W.keepIn X.K (.ref f)=true) (hb:Binds X.K fd ps [])
  (hx:∀pins σ H s e s',Inv X pins σ H s->CX X.stack H s (R σ) e s'->X.xe e s')
  (ha:PA X (e:: es) t) (hdb:(x == ("__debug__" :Str))=false:=by decide) (he:starEach (e:: es) X.env=(false,eval e X.env):: starEach es X.env:=by rfl) (hpl:(backTo pos (starEach es X.env)).any (·.1)=false:=by rfl):
  PE X (.Call (.Name x p) (e:: es) [] pos) (Wg sp R t):=by
 intro pins s σ H Q I h
 refine wpAny_Call_Name_kw (vW I hg hm ?_ hdb)
 refine PySem.W.callWith_K (h₀:=X.base) I.ok.mod.kin hk (dZ (ha pos pins s σ H _ I h) fun us s1 ⟨vs,H1,I1,r,q⟩=>⟨I1.kIn,?_⟩) he hpl
 have hl:us.length=ps.length:=by rw [<-r.length];exact F.len _ _ _ _ q
 have hb':=hb s1 us I1.kIn (by simpa using hl)
 rw [List.append_nil] at hb'
 refine wpAny_call (codeAny_mono (F.run X.A X.stack s1 H1 ⟨us,[]⟩ us vs Q (R σ) hr I1.env0 hb' r q) fun r s' hq=>?_)
 cases r with
 | error e=>exact hx pins σ H1 s1 e s' I1 hq
 | ok fl=>
  cases fl with
  | ret u=>exact I1.after hq
  | next=>exact False.elim hq
  | brk=>exact False.elim hq
  | cont=>exact False.elim hq
section
variable {prog:Program} {w:World} {A:Around} {E:Value->Shared->Prop} {h:Heap} {g:Array GenState} {d:Drawn} {t:Nat} {os:OsState} {a:Addr} {o:Obj} {C:Addr}
structure G5 (M:Model) (h:Heap) (C:Addr):Prop where
 ga:∀{A:Around} {E:Value->Shared->Prop} {Q:Option Value->Shared->Prop} {g d t os},Q (some (.builtin "BaseException.__getattribute__")) ⟨h,g,d,t,os⟩->wpAny M A (typeLookup (.ref C) "__getattribute__") Q E ⟨h,g,d,t,os⟩
 gn:∀{A:Around} {E:Value->Shared->Prop} {Q:Option Value->Shared->Prop} {g d t os},Q none ⟨h,g,d,t,os⟩->wpAny M A (typeLookup (.ref C) "__getattr__") Q E ⟨h,g,d,t,os⟩
 cl:∀{A:Around} {E:Value->Shared->Prop} {Q:Option Value->Shared->Prop} {g d t os},Q (some (.builtin "object.__class__")) ⟨h,g,d,t,os⟩->wpAny M A (typeLookup (.ref C) "__class__") Q E ⟨h,g,d,t,os⟩
 ob:∀{A:Around} {E:Value->Shared->Prop} {Q:Bool->Shared->Prop} {g d t os},Q true ⟨h,g,d,t,os⟩->wpAny M A (isSubtype (.ref C) (.type "object")) Q E ⟨h,g,d,t,os⟩
 be:∀{A:Around} {E:Value->Shared->Prop} {Q:Bool->Shared->Prop} {g d t os},Q true ⟨h,g,d,t,os⟩->wpAny M A (isSubtype (.ref C) (.type "BaseException")) Q E ⟨h,g,d,t,os⟩
theorem WY {R:Result->Shared->Prop} (L:G5 (model prog w) h C) (hx:h.get? a=some o) (hc:o.cls=.ref C) (hq:R (.ok (.ret (.ref C))) ⟨h,g,d,t,os⟩):
  codeAny (model prog w) A (.call (.builtin "getset_descriptor.__get__") ⟨[.builtin "object.__class__",.ref a,.ref C],[]⟩) R ⟨h,g,d,t,os⟩:=by
 have hT5:(⟨h,g,d,t,os⟩:Shared).TypeIs (.builtin "object.__class__") "getset_descriptor" :=F.typeOf_object_class
 refine codeAny_call_builtin F.slot_gs_get.plain F.entry_gs_get (F.slot_gs_get.check _ _ _ _ _ _ _ _ hT5 (F.args_gs_get _ _ _) ?_)
 repeat (any_goals (first | assumption | (with_reducible refine wpAny_loadPart_at hx ?_;rw [hc]) | (rw [F.owner_object_class];with_reducible refine L.ob ?_) | wp_step))
 refine⟨Code.quiet_builtin _ (by decide +kernel),codeAny_builtin F.entry_object_class ?_⟩
 repeat (any_goals (first | assumption | (with_reducible refine wpAny_loadPart_at hx ?_;rw [hc]) | wp_step))
theorem KN {M:Model} {nameV:Value} {Q:Unit->Shared->Prop} (L:G5 M h C)
  (hx:h.get? a=some o) (hc:o.cls=.ref C) (hq:Q () ⟨h,g,d,t,os⟩):wpAny M A (checkBuiltinCall "BaseException.__getattribute__" ⟨[.ref a,nameV],[]⟩) Q E ⟨h,g,d,t,os⟩:=by
 have hk:builtinKind "BaseException.__getattribute__" =some .slot:=by decide +kernel
 have hsplit:splitId "BaseException.__getattribute__" =some ("BaseException", "__getattribute__"):=by decide +kernel
 have ha:=F.args_bexc_ga (.ref a) nameV
 simp only [checkBuiltinCall,hk,hsplit]
 refine wpAny_bind ?_
 ·unfold isInstance
  repeat (first | (with_reducible refine wpAny_loadPart_at hx ?_;rw [hc]) | with_reducible refine L.be ?_ | wp_step)
  exact hq
theorem RK {tk:Tok} {Q:Fin->Shared->Prop} (L:G5 (model prog w) h C) (hx:h.get? a=some o) (hc:o.cls=.ref C) (hq:Q (.done (.ret (.ref C))) ⟨h,g,d,t,os⟩):
  wpAny (model prog w) A (Builtin.«object.__getattribute__» ⟨[.ref a,.str "__class__" tk],[]⟩) Q E ⟨h,g,d,t,os⟩:=by
 have hT5:(⟨h,g,d,t,os⟩:Shared).TypeIs (.builtin "object.__class__") "getset_descriptor" :=F.typeOf_object_class
 have f5:=F.typeOf_object_class
 have f6:=F.slot_gs_get.lookup
 have f7:=F.slot_gs_set.lookup
 repeat (any_goals (first | assumption | (with_reducible refine wpAny_loadPart_at hx ?_;rw [hc]) | with_reducible refine L.cl ?_ | wp_step))
 refine WY L hx hc ?_
 repeat (any_goals (first | assumption | wp_step))
theorem Xz {tk:Tok} {fill expr:Bool} {Q:Value->Shared->Prop} (L:G5 (model prog w) h C) (FB:ExcAttrFacts "ValueError") (hx:h.get? a=some o) (hc:o.cls=.ref C) (hq:Q (.ref C) ⟨h,g,d,t,os⟩):
  wpAny (model prog w) A (getAttrBy (.ref a) (.str "__class__" tk) fill expr) Q E ⟨h,g,d,t,os⟩:=by
 have f3:=FB.ga.bind (.ref a)
 have hx0:(expr && onTheHeap (Value.builtin "BaseException.__getattribute__"))=false:=by cases expr <;> rfl
 have hx2:(Value.builtin "BaseException.__getattribute__" == Value.builtin "object.__getattribute__")=false:=by decide +kernel
 have hx1:(onTheHeap (Value.ref C) && Value.builtin "BaseException.__getattribute__" == Value.builtin "object.__getattribute__")=false:=by rw [hx2];rfl
 repeat (any_goals (first | assumption | (with_reducible refine wpAny_loadPart_at hx ?_;rw [hc]) | with_reducible refine L.ga ?_ | with_reducible refine L.gn ?_ | wp_step))
 refine codeAny_call_builtin FB.ga.plain F.entry_bexc_ga (KN L hx hc (RK L hx hc ?_))
 repeat (any_goals (first | assumption | wp_step))
theorem TX {Q:Option Value->Shared->Prop} (L:G5 (model prog w) h C) (FB:ExcAttrFacts "ValueError") (hx:h.get? a=some o) (hc:o.cls=.ref C) (hq:Q (some (.ref C)) ⟨h,g,d,t+1,os⟩):
  wpAny (model prog w) A (getAttr? (.ref a) "__class__") Q E ⟨h,g,d,t,os⟩:=by
 unfold getAttr? getAttrBy?
 repeat (any_goals (first | assumption | with_reducible apply Xz L FB hx hc | wp_step))
end
noncomputable abbrev CJ:List Value:=[.type "ValueError",.type "Exception",.type "BaseException",.type "object"]
noncomputable def Qc (K:PySem.W.Frag) (N:Addr) (x:Str):Option Value:=match K.lookup N with
 | some o=>(match o.data with | .dict es _=>nsFind es x | _=>none)
 | none=>none
theorem Qf {K:PySem.W.Frag} {h:Heap} {N:Addr} (X:K.In h) (ok:PySem.W.nsOkIn K N=true):h.nsMap N=Qc K N:=by
 funext x
 unfold PySem.W.nsOkIn at ok
 split at ok
 ·rename_i look
  unfold Heap.nsMap Qc
  rw [X _ _ look,look]
 ·cases ok
theorem RX {K:PySem.W.Frag} {N:Addr} {x:Str} (e:PySem.W.nsIn K N x=some none):Qc K N x=none:=by
 unfold PySem.W.nsIn at e
 split at e
 ·rename_i look
  split at e
  ·cases e
  ·rename_i f
   unfold Qc
   rw [look]
   show nsFind _ _=none
   unfold nsFind findBy
   rw [<-Array.find?_toList,f]
   rfl
 ·cases e
theorem G7 {K:PySem.W.Frag}:∀{l:List Value},PySem.W.tailIn K CJ l=true->l.contains (.type "BaseException")=true
 | [],e=>by simp [PySem.W.tailIn,CJ] at e
 | v:: r,e=>by
  unfold PySem.W.tailIn at e
  rcases Bool.or_eq_true_iff.mp e with z | z
  ·rw [beq_iff_eq.mp z];decide +kernel
  ·split at z
   ·split at z
    ·simp only [Bool.and_eq_true] at z
     rw [List.contains_cons,G7 z.2,Bool.or_true]
    ·cases z
   ·cases z
theorem Rt.ofIn {K:PySem.W.Frag} {C:Addr} (z:PySem.W.excIn K C CJ "ValueError.__new__" =true):Rt K C:=by
 unfold PySem.W.excIn at z
 split at z
 ·rename_i od kd slo look
  split at z
  ·rename_i C1 up a0 a1 a2 a3 nid a5 em es
   simp only [Bool.and_eq_true,beq_iff_eq,Bool.not_eq_true'] at z
   obtain⟨⟨⟨⟨⟨x1,x2⟩,x3⟩,x4⟩,x5⟩,x6⟩:=z
   subst x1 x2
   obtain⟨g1,g2,g3,g4,g5,g6,g7,g8,g9,g10,g11⟩:=kd
   dsimp only at em x3 x5 x6
   subst em x3
   have hs:slo= #[a0,a1,a2,a3,some (.builtin "ValueError.__new__"),a5]:=by
    obtain⟨l⟩:=slo
    simp only at es
    rw [es]
   subst hs
   refine⟨⟨g1,g5,g4,g2,up,CJ,g6,g7,g8,g9,g10,od,a0,a1,a2,a3,a5, "ValueError", "ValueError.__new__", "ValueError.__init__",Qc K g4,PySem.F.excBase_ValueError,G7 x4,RX x6,fun h X=>⟨X _ _ look,?_,PySem.W.tail_of_in X x4⟩⟩⟩
   rw [<-Qf X x5]
   exact .of_isNs (PySem.W.isNs_of_in X x5)
  ·cases z
 ·cases z
structure Ui (K:PySem.W.Frag) (C:Addr):Prop where
 cls:(PySem.W.clsIn K C).isSome=true
 ga:PySem.W.findIn K (.ref C) "__getattribute__" =some (some (.builtin "BaseException.__getattribute__"))
 gn:PySem.W.findIn K (.ref C) "__getattr__" =some none
 cl:PySem.W.findIn K (.ref C) "__class__" =some (some (.builtin "object.__class__"))
 ob:PySem.W.subIn K (.ref C) (.type "object")=some true
 be:PySem.W.subIn K (.ref C) (.type "BaseException")=some true
theorem Ui.lk {K:PySem.W.Frag} {C:Addr} {M:Model} {h:Heap} (x:Ui K C) (X:K.In h):G5 M h C:=
 ⟨fun q=>(PySem.W.looks_findIn X x.ga).at q,fun q=>(PySem.W.looks_findIn X x.gn).at q,fun q=>(PySem.W.looks_findIn X x.cl).at q,fun q=>(PySem.W.looks_subIn X x.ob).at q,fun q=>(PySem.W.looks_subIn X x.be).at q⟩
noncomputable def MP (y C:Addr) (h:Heap):Prop:=∃ob,h.get? y=some ob/\ob.cls=.ref C
theorem Ui.obj {K:PySem.W.Frag} {C:Addr} (x:Ui K C):∃c d cd sl,K.lookup C=some ⟨c,d,.cls cd,sl⟩:=by
 have z:=x.cls
 unfold PySem.W.clsIn at z
 split at z
 ·rename_i look
  exact⟨_,_,_,_,look⟩
 ·cases z
theorem J4 {K:PySem.W.Frag} {y C:Addr} (x:Ui K C):PySem.W.KitX K (.ref y) (.ref C) (MP y C) where
 ty:=fun _ _ _ ⟨_,e1,e2⟩=>e2 ▸ (PySem.W.Looks.ld e1).andThen .now
 it:=fun _ h X _=>by
  obtain⟨c,d,cd,sl,look⟩:=x.obj
  intro A Q E s k q
  unfold isType loadHead
  exact wpAny_bind (wpAny_loadPart (k _ _ (X _ _ look)) (wpAny_pure q))
 ne:=fun h tp dd its n sl X e=>by
  obtain⟨c,d,cd,sl',look⟩:=x.obj
  refine Bool.eq_false_iff.mpr fun q=>?_
  obtain rfl:C=tp:=Value.ref.inj (beq_iff_eq.mp q)
  have z:=(X _ _ look).symm.trans e
  cases z
 ca:=fun {_ _ _ _ _ s} X p k=>by
  obtain⟨h,g,d,t,os⟩:=s
  obtain⟨ob,e1,e2⟩:=p
  exact TX (x.lk X) PySem.F.attr_ValueError e1 e2 k
noncomputable def ZC (K:PySem.W.Frag) (C:Addr):V->Bool->Prop
 | .ref D,b=>PySem.W.kitOne K (.ref C) (.ref D)=some b
 | .ty T,b=>PySem.W.kitOne K (.ref C) (.type T)=some b
 | _,_=>False
section
variable {P:Program} {w:World} {K:PySem.W.Frag} {mg:Str->Option Value} {base:Heap}
end
end L2
namespace L2
open PySem
section
variable {prog:Program} {w:World} {A:Around} {E:Value->Shared->Prop} {h:Heap} {g:Array GenState} {d:Drawn} {t:Nat} {os:OsState}
variable {nm q:Str} {C N:Addr} {bs bm bmB:List Value} {hdct:Bool} {sn:List Str} {sub:List Value} {ab:Bool} {col:Option Bool} {dd:Option Addr} {k0 k1 k2 k3 k5:Option Value} {B newId initId:String}
theorem O2 {mN:Str->Option Value} {name:Str} {v:Value} {Q:Option Value->Shared->Prop} {M:Model} (hC:h.get? C=some (excClassObj nm q C N bs bm hdct sn sub ab col dd k0 k1 k2 k3 k5 newId)) (hn:h.Ns N mN) (hv:mN name=some v)
  (hq:Q (some v) ⟨h,g,d,t,os⟩):wpAny M A (typeLookup (.ref C) name) Q E ⟨h,g,d,t,os⟩:=by
 rw [typeLookup_eq]
 refine wpAny_bind (wpAny_mroOf_exc hC ?_)
 rw [lookupAlong_cons]
 refine wpAny_bind (wpAny_classOwn_exc hC hn ?_)
 rw [hv]
 exact wpAny_pure hq
theorem Iz (F:ExcBaseFacts B newId initId bmB) (T:OwnTail h bmB bm) {mN:Str->Option Value} {us:List Value} {f:Addr} {fo:Obj} {Q:Fin->Shared->Prop}
  (hC:h.get? C=some (excClassObj nm q C N bs bm hdct sn sub ab col dd k0 k1 k2 k3 k5 newId)) (hn:h.Ns N mN) (hi:mN "__init__" =some (.ref f)) (hf:h.get? f=some fo) (hfc:fo.cls=.type "function")
  (go:∀h' e,h.objs.size<=e->Heap.MadeExcOf h h' e (.ref C) us->wpAny (model prog w) A (call (.ref f) (.ref e:: us)) (fun r s'=>r=.none/\Q (.done (.ret (.ref e))) s') E ⟨h',g,d,t,os⟩) (hz:us.length<=sizeLine):
  wpAny (model prog w) A (Builtin.«type.__call__» ⟨.ref C:: us,[]⟩) Q E ⟨h,g,d,t,os⟩:=by
 repeat (first | with_reducible refine wpAny_loadPart_at hC ?_ | with_reducible refine wpAny_madeBy_exc hC ?_ | wp_step)
 refine codeAny_call_builtin_code (Code.quiet_builtin _ F.quiet) (wpAny_check_new_subT F T hC ?_)
 refine codeAny_exc_new_subT F T hC ?_ hz
 show wpAny _ _ _ _ _ _
 generalize ho:({ cls:=.ref C,data:=.fields #[.ref h.objs.size,.none,.none,.none,.bool false,.none] }:Obj)=eo
 generalize hp:h.push { cls:=.type "tuple",data:=.seq us.toArray }=hp1
 have up:∀b o,h.get? b=some o->(hp1.push eo).get? b=some o:=fun b o z=>Heap.get?_push_of_some _ (by rw [<-hp];exact Heap.get?_push_of_some _ z)
 have hC1:=up _ _ hC
 have hn1:(hp1.push eo).Ns N mN:=hn.keeps up
 have sz:hp1.objs.size=h.objs.size+1:=by rw [<-hp,Heap.size_push]
 have he:(hp1.push eo).get? (h.objs.size+1)=some eo:=by rw [<-sz];exact Heap.get?_push_size _ (by rw [<-ho];rfl)
 have hcl:eo.cls=.ref C:=by rw [<-ho]
 have hsub:(Value.ref C:: bm).contains (.ref C)=true:=by simp
 unfold isInstance
 repeat (first | (with_reducible refine wpAny_loadPart_at he ?_;rw [hcl]) | (with_reducible refine wpAny_isSubtype_exc hC1 ?_;rw [hsub]) | wp_step)
 show wpAny _ _ (typeLookup (.ref C) _) _ _ _
 refine O2 hC1 hn1 hi ?_
 refine wpAny_holding (wpAny_bind ?_)
 unfold bindSpecial
 refine wpAny_bind (wpAny_typeOf (T:= "function") ⟨_,up _ _ hf,hfc⟩ ?_)
 rw [if_pos (by decide)]
 have made:Heap.MadeExcOf h (hp1.push eo) (h.objs.size+1) (.ref C) us:=by
  refine⟨up,Heap.get?_none_of_le (Nat.le_succ _),h.objs.size,by rw [he,<-ho],Heap.get?_none_of_le (Nat.le_refl _),?_⟩
  refine Heap.get?_push_of_some _ ?_
  rw [<-hp]
  exact Heap.get?_push_at rfl rfl
 refine wpAny_pure (wpAny_bind (wpAny_mono (go _ _ (Nat.le_succ _) made) (fun r s' hr=>?_) fun _ _ x=>x))
 obtain⟨rfl,hQ⟩:=hr
 wp_walk
 exact hQ
end
section
variable {prog:Program} {w:World} {A:Around} {E:Value->Shared->Prop} {h:Heap} {g:Array GenState} {d:Drawn} {t:Nat} {os:OsState}
variable {nm q:Str} {C N:Addr} {bs bm bmB:List Value} {hdct:Bool} {sn:List Str} {sub:List Value} {ab:Bool} {col:Option Bool} {dd:Option Addr} {k0 k1 k2 k3 k5:Option Value} {B newId initId:String}
theorem Ur (F:ExcBaseFacts B newId initId bmB) (T:OwnTail h bmB bm) {mN:Str->Option Value} {us:List Value} {f:Addr} {fo:Obj} {Q:Value->Shared->Prop}
  (hC:h.get? C=some (excClassObj nm q C N bs bm hdct sn sub ab col dd k0 k1 k2 k3 k5 newId)) (hn:h.Ns N mN) (hi:mN "__init__" =some (.ref f)) (hf:h.get? f=some fo) (hfc:fo.cls=.type "function")
  (go:∀h' e,h.objs.size<=e->Heap.MadeExcOf h h' e (.ref C) us->wpAny (model prog w) (A.under (.builtin "type.__call__" ⟨.ref C:: us,[]⟩)) (call (.ref f) (.ref e:: us)) (fun r s'=>r=.none/\Q (.ref e) s') E ⟨h',g,d,t,os⟩) (hz:us.length<=sizeLine):
  wpAny (model prog w) A (call (.ref C) us) Q E ⟨h,g,d,t,os⟩:=by
 have z1:=tc_lookup
 have z2:=tc_bind (.ref C)
 have z3:(⟨h,g,d,t,os⟩:Shared).TypeIs (.ref C) "type" :=⟨_,hC,rfl⟩
 refine wpAny_call (codeAny_of_tree ?_)
 show wpAny _ _ (callAny (.ref C) _) _ _ _
 repeat (any_goals (first | assumption | with_reducible refine wpAny_loadPart_at hC ?_ | wp_step))
 refine⟨rfl,?_⟩
 exact codeAny_call_builtin_at (Code.quiet_builtin _ (by decide +kernel)) entry_typeCall (wpAny_check_type_call_sub hC (Iz F T hC hn hi hf hfc (fun h' e z m=>go h' e z m) hz))
theorem TJ (F:ExcBaseFacts B newId initId bmB) (T:OwnTail h bmB bm) {e:Addr} {oe:Obj} {a0:Addr} {vr:List Value} {us:List Value} {Q:Value->Shared->Prop}
  (hC:h.get? C=some (excClassObj nm q C N bs bm hdct sn sub ab col dd k0 k1 k2 k3 k5 newId)) (he:h.get? e=some oe) (hcls:oe.cls=.ref C) (hd:oe.data=.fields (.ref a0:: vr).toArray) (hz:us.length<=sizeLine)
  (go:∀h' tp,h.get? tp=none->(∀b o,b≠e->h.get? b=some o->h'.get? b=some o)->h'.get? e=some { oe with data:=.fields (.ref tp:: vr).toArray }->Q .none ⟨h',g,d,t,os⟩):
  wpAny (model prog w) A (call (.builtin initId) (.ref e:: us)) Q E ⟨h,g,d,t,os⟩:=by
 obtain⟨oc,od,dt,osl⟩:=oe
 obtain rfl:oc=.ref C:=hcls
 obtain rfl:dt=.fields (.ref a0:: vr).toArray:=hd
 refine wpAny_call (codeAny_call_builtin F.init.plain F.initEntry (wpAny_check_init_subT F T hC he rfl ?_))
 wp_walk
 refine go _ h.objs.size (Heap.get?_none_of_le (Nat.le_refl _)) (fun b o hb hq=>?_) ?_
 ·rw [Heap.get?_update_other _ _ (Ne.symm hb)]
  exact Heap.get?_push_of_some _ hq
 ·rw [Heap.get?_update_self _ (Heap.get?_push_of_some _ he) rfl]
  rfl
end
end L2
namespace L2
open PySem Builtin Builtin.ObjectAttr
noncomputable def zm:List Value->Bool
 | .ref _:: r=>zm r
 | l=>l == CJ
theorem uO (self:Value):∀{l:List Value},zm l=true->refuseLoop self "__setattr__" l=pure ()
 | [],e=>by cases (beq_iff_eq.mp (show(([]:List Value) == CJ)=true from e))
 | v:: r,e=>by
  cases v with
  | ref c=>rw [refuseLoop_ref];exact uO self (l:=r) e
  | _=>rw [beq_iff_eq.mp (show(_ == CJ)=true from e)];exact PySem.F.store_ValueError.passes self
theorem Ar:∀{l:List Value},zm l=true->l.contains (.type "object")=true
 | [],e=>by cases (beq_iff_eq.mp (show(([]:List Value) == CJ)=true from e))
 | v:: r,e=>by
  cases v with
  | ref c=>rw [List.contains_cons,Ar (l:=r) e,Bool.or_true]
  | _=>rw [beq_iff_eq.mp (show(_ == CJ)=true from e)];decide +kernel
structure Ib (K:PySem.W.Frag) (C:Addr):Prop where
 xc:Ui K C
 sa:PySem.W.findIn K (.ref C) "__setattr__" =some (some (.builtin "object.__setattr__"))
 ov:(PySem.W.clsIn K C).any (fun cd=>zm cd.mro && cd.hasDict)=true
section
variable {prog:Program} {w:World} {A:Around} {E:Value->Shared->Prop} {h:Heap} {g:Array GenState} {d:Drawn} {t:Nat} {os:OsState} {x C:Addr} {K:PySem.W.Frag} {mA:Str->Option Value} {name:Str} {v:Value}
theorem MJ (I:h.Inst x C mA):∃ox od,PySem.W.InstAt h x ox C od/\((ox.dict=none/\od=none/\∀n,mA n=none)∨∃dx o,ox.dict=some dx/\dx≠x/\od=some o/\h.Ns1 dx mA/\∀n,PySem.W.lookIn n o=some (mA n)):=by
 obtain⟨o,hx,hc,hnc,hd⟩:=I
 have no:PySem.W.notCls o=true:=by
  unfold PySem.W.notCls
  split
  ·rename_i c hcd;exact absurd hcd (hnc _)
  ·rfl
 rcases hd with ⟨hdn,hm⟩ | ⟨dx,hdx,hne,hns⟩
 ·exact⟨o,none,⟨hx,hc,no,by rw [hdn];exact True.intro⟩,.inl ⟨hdn,rfl,hm⟩⟩
 ·obtain⟨od,ho,hl⟩:=Aa hns
  exact⟨o,some od,⟨hx,hc,no,by rw [hdx];exact ho⟩,.inr ⟨dx,od,hdx,hne,rfl,hns,hl⟩⟩
theorem QK {tk:Tok} {ns:List Str} {R:Result->Shared->Prop} (X:K.In h) (c:Ib K C) (ht:PySem.W.takerIn K C name=some none) (I:h.Inst x C mA) (hw:PySem.Within mA ns) (hsz:ns.length<=sizeLine)
  (hq:∀h' tk',h'.Inst x C (fun y=>if y=name then some v else mA y)->
   (∀b o,b≠x->(∀o₀ dx,h.get? x=some o₀->o₀.dict=some dx->b≠dx)->h.get? b=some o->h'.get? b=some o)->
   (∀o₀,h.get? x=some o₀->∃o₁,h'.get? x=some o₁/\o₁.cls=o₀.cls/\o₁.data=o₀.data/\o₁.slots=o₀.slots/\(∀dx,o₀.dict=some dx->o₁.dict=some dx)/\(o₀.dict=none->o₁.dict=some h.objs.size))->R (.ok (.ret .none)) ⟨h',g,d,tk',os⟩):
  codeAny (model prog w) A (.call (.builtin "object.__setattr__") ⟨[.ref x,.str name tk,v],[]⟩) R ⟨h,g,d,t,os⟩:=by
 have SF:=PySem.F.store_object
 obtain⟨cd,hc,ho⟩:=PySem.W.any_some c.ov
 simp only [Bool.and_eq_true] at ho
 obtain⟨ho,hd'⟩:=ho
 obtain⟨ox,od,J,_⟩:=MJ I
 have ne:cd.mro.isEmpty=false:=by cases q:cd.mro with | nil=>rw [q] at ho;cases ho | cons _ _=>rfl
 have sub:PySem.W.Looks (model prog w) h (isInstance (.ref x) (.type "object")) true:=J.type.andThen (PySem.W.looks_mroIn X (by unfold PySem.W.mroIn;rw [hc,Option.bind_some,if_neg (by rw [ne];decide),Ar ho]))
 refine codeAny_call_builtin SF.slot.plain SF.entry (@PySem.W.check_slot (model prog w) _ _ ⟨h,g,d,t,os⟩ "object.__setattr__" "object" "__setattr__" (.ref x) [.str name tk,v] [] _ SF.kind SF.split sub (SF.args (.ref x) (.str name tk) v) ?_)
 obtain⟨attr,ha,hr⟩:=Option.bind_eq_some_iff.mp ht
 have hm:PySem.W.Looks (model prog w) h (mroOf (.ref C)) cd.mro:=(PySem.W.looks_clsIn X hc).andThen .now
 have L3:PySem.W.Looks (model prog w) h (storeTaker? attr) none:=by
  cases attr with
  | none=>exact .now
  | some a=>
   obtain⟨b,hb,e⟩:=Option.map_eq_some_iff.mp hr
   refine(PySem.W.looks_takesIn X hb).andThen ?_
   cases b with
   | true=>cases e
   | false=>exact .now
 rw [PySem.W.osa_eq,refuse_eq]
 refine wpAny_bind (wpAny_bind (J.type.at (wpAny_bind (hm.at ?_))))
 rw [uO _ ho]
 refine wpAny_pure (wpAny_bind (J.type.at (wpAny_bind ((PySem.W.looks_findIn X ha).at (wpAny_bind (L3.at ?_))))))
 obtain⟨o,hx,hcl,hnc,hd⟩:=I
 obtain⟨oc,odi,oda,osl⟩:=o
 dsimp only at hcl hnc hd
 subst hcl
 refine wpAny_bind (wpAny_pure (wpAny_bind (wpAny_bind (wpAny_loadPart hx (wpAny_bind ((PySem.W.looks_clsIn X hc).at ?_))))))
 rw [hd']
 rcases hd with ⟨hdn,hmA⟩ | ⟨dx,hdx,hne,hns⟩
 ·subst hdn
  have hxs:x≠h.objs.size:=Nat.ne_of_lt (Heap.lt_size hx)
  have hx₁:(h.push { cls:=.type "dict",data:=.dict #[] }).get? x=some ⟨.ref C,none,oda,osl⟩:=Heap.get?_push_of_some _ hx
  dsimp only
  rw [if_neg (by simp)]
  split
  ·rename_i z;cases z
  split
  ·exact absurd rfl (hnc _)
  refine wpAny_bind (wpAny_alloc' (wpAny_bind (wpAny_update' hx₁ (wpAny_pure ?_))))
  have hgd:((h.push { cls:=.type "dict",data:=.dict #[] }).update x fun o=>{ cls:=o.cls,dict:=some h.objs.size,data:=o.data,slots:=o.slots }).get? h.objs.size
    =some { cls:=.type "dict",data:=.dict #[] }:=(Heap.get?_update_ne _ _ _ _ hxs.symm).trans (Heap.get?_push_at rfl rfl)
  have hnd:((h.push { cls:=.type "dict",data:=.dict #[] }).update x fun o=>{ cls:=o.cls,dict:=some h.objs.size,data:=o.data,slots:=o.slots }).Ns h.objs.size (fun _=>none):=
   ⟨_,#[],_,hgd,rfl,fun e he=>absurd he (by simp),fun _=>rfl⟩
  show wpAny _ _ (storeInDict h.objs.size (.str name tk) name v) _ _ _
  unfold storeInDict newKeyGuard
  refine wpAny_bind (wpAny_pure (wpAny_bind (wpAny_nsSet1 (Heap.Ns1.of_empty hnd) fun h' hn' hs=>?_)))
  obtain⟨oD,esD,epD,hoD,hdD,hcD⟩:=hn'.count (Within.cons name v Within.nil)
  refine wpAny_bind (wpAny_lookBehind hoD (by rw [hdD];exact pastItsLine_dict (Nat.le_trans hcD (by rw [List.length_cons,List.length_nil,sizeLine_eq];omega))) ?_)
  wp_walk
  have hx':h'.get? x=some ⟨.ref C,some h.objs.size,oda,osl⟩:=by
   refine(hs.2 x hxs).trans (Heap.get?_update_self _ hx₁ ?_)
   have hfr:=(Heap.get?_some_iff.mp hx).2
   cases oda <;> first | rfl | exact hfr
  refine hq h' _ ⟨_,hx',rfl,hnc,.inr ⟨h.objs.size,rfl,hxs.symm,?_⟩⟩ (fun b ob hbx _ hb=>?_)
   (fun o₀ h₀=>by obtain rfl:=Option.some.inj (hx.symm.trans h₀);exact⟨_,hx',rfl,rfl,rfl,fun dx e=>(by cases e),fun _=>rfl⟩)
  ·obtain⟨o',es,ep,e1,e2,e3,eu,e4⟩:=hn'
   exact⟨o',es,ep,e1,e2,e3,eu,fun y=>by rw [e4 y];by_cases hy:y=name <;> simp [hy,hmA]⟩
  ·exact(hs.2 b (Nat.ne_of_lt (Heap.lt_size hb))).trans ((Heap.get?_update_ne _ _ _ _ hbx).trans (Heap.get?_push_of_some _ hb))
 ·subst hdx
  refine wpAny_pure (a:=some dx) (wpAny_bind (wpAny_pure (wpAny_bind ?_)))
  refine wpAny_nsSet1 (s:=⟨h,g,d,t,os⟩) hns fun h' hn' hs=>?_
  obtain⟨oD,esD,epD,hoD,hdD,hcD⟩:=hn'.count (PySem.Within.cons name v hw)
  refine wpAny_bind (wpAny_lookBehind hoD (by rw [hdD];exact pastItsLine_dict (Nat.le_trans hcD (by rw [List.length_cons];omega))) ?_)
  refine wpAny_pure (hq h' _ ⟨_,(hs.2 x hne.symm).trans hx,rfl,hnc,.inr ⟨dx,rfl,hne,hn'⟩⟩ (fun b ob _ hbd hb=>?_) (fun o₀ h₀=>⟨o₀,(hs.2 x hne.symm).trans h₀,rfl,rfl,rfl,fun _ e=>e,fun e=>by obtain rfl:=Option.some.inj (hx.symm.trans h₀);cases e⟩))
  exact(hs.2 b (hbd _ dx hx rfl)).trans hb
theorem WQ {ns:List Str} {Q:Unit->Shared->Prop} (X:K.In h) (c:Ib K C) (ht:PySem.W.takerIn K C name=some none) (I:h.Inst x C mA) (hw:PySem.Within mA ns) (hsz:ns.length<=sizeLine)
  (hq:∀h' tk',h'.Inst x C (fun y=>if y=name then some v else mA y)->
   (∀b o,b≠x->(∀o₀ dx,h.get? x=some o₀->o₀.dict=some dx->b≠dx)->h.get? b=some o->h'.get? b=some o)->
   (∀o₀,h.get? x=some o₀->∃o₁,h'.get? x=some o₁/\o₁.cls=o₀.cls/\o₁.data=o₀.data/\o₁.slots=o₀.slots/\(∀dx,o₀.dict=some dx->o₁.dict=some dx)/\(o₀.dict=none->o₁.dict=some h.objs.size))->Q () ⟨h',g,d,tk',os⟩):
  wpAny (model prog w) A (setAttr (.ref x) name v) Q E ⟨h,g,d,t,os⟩:=by
 obtain⟨ox,od,J,_⟩:=MJ I
 exact PySem.W.set_plain X J c.sa (QK X c ht I hw hsz fun h' tk' a b e=>hq h' tk' a b e)
theorem Wy {ox:Obj} {od:Option Obj} {expr:Bool} {Q:Value->Shared->Prop} (X:K.In h) (c:Ib K C) (J:PySem.W.InstAt h x ox C od) (hf:PySem.W.findObj K C od name=some (.value v)) (hh:PySem.W.handedIn v=true)
  (hq:Q v ⟨h,g,d,t+1,os⟩):wpAny (model prog w) A (getAttr (.ref x) name expr) Q E ⟨h,g,d,t,os⟩:=by
 have L:=c.xc.lk (M:=model prog w) X
 have FB:=PySem.F.attr_ValueError
 have hx:=J.at_
 have hc:=J.cls
 have L0:=J.type (M:=model prog w)
 have L1:=PySem.W.looks_find (M:=model prog w) X J hf
 have f3:=FB.ga.bind (.ref x)
 have hx0:(expr && onTheHeap (Value.builtin "BaseException.__getattribute__"))=false:=by cases expr <;> rfl
 have hx2:(Value.builtin "BaseException.__getattribute__" == Value.builtin "object.__getattribute__")=false:=by decide +kernel
 have hx1:(onTheHeap (Value.ref C) && Value.builtin "BaseException.__getattribute__" == Value.builtin "object.__getattribute__")=false:=by rw [hx2];rfl
 unfold getAttr
 repeat (any_goals (first | assumption | (with_reducible refine wpAny_loadPart_at hx ?_;rw [hc]) | with_reducible refine L.ga ?_ | with_reducible refine L.gn ?_ | wp_step))
 refine codeAny_call_builtin FB.ga.plain PySem.F.entry_bexc_ga (KN L hx hc ?_)
 refine wpAny_bind (wpAny_pure (wpAny_bind (wpAny_pure (wpAny_bind (L0.at (wpAny_bind (L1.at (wpAny_pure ?_))))))))
 show wpAny _ _ (handedOut v) _ _ _
 rw [PySem.W.handedOut_of hh]
 exact wpAny_pure hq
end
end L2
namespace L2
open PySem PySem.Spec PyProof.Rows
noncomputable def uy (x C:Addr):HO:=.ext fun h=>∃a0 vr sl,h.get? x=some ⟨.ref C,none,.fields (.ref a0:: .none:: vr).toArray,sl⟩
noncomputable def zu (x C dx:Addr):HO:=.ext fun h=>∃a0 vr sl,h.get? x=some ⟨.ref C,some dx,.fields (.ref a0:: .none:: vr).toArray,sl⟩
section
variable {X:Cx} {pins:List (Addr×Obj)} {σ:St} {H:Hp} {s:Shared} {a C dx:Addr} {fs:List (Str×V)} {f:Str} {v:V} {A:Around} {E:Value->Shared->Prop}
theorem Inv.size (I:Inv X pins σ H s):X.s₀.heap.objs.size<=s.heap.objs.size:=by
 obtain⟨m,⟨o,_,_,ho,_⟩,_⟩:=I.loc
 exact Nat.le_of_lt (Nat.lt_of_le_of_lt I.ok.above (Heap.lt_size ho))
theorem Inv.track_new {s':Shared} {H':Hp} {x:Addr} {o:HO} (I:Inv X pins σ H s) (I':Inv X pins σ H' s') (hx:s.heap.objs.size<=x) (hn:H' x=none) (new:dX X.prog X.w (upd H' x o) s'.heap x o):Inv X pins σ (upd H' x o) s':=by
 have ne:∀b u,s.heap.get? b=some u->b≠x:=fun b u e z=>Nat.lt_irrefl _ (Nat.lt_of_lt_of_le (Heap.lt_size e) (z ▸ hx))
 refine I'.track hn (Heap.get?_none_of_le (Nat.le_trans I.size hx)) ?_ (fun y c e=>?_) (fun p hp=>?_) new
 ·obtain⟨m,⟨o,_,_,ho,_⟩,_⟩:=I.loc
  exact(ne _ _ ho).symm
 ·obtain⟨v,o,ho,_⟩:=I.cell y c e
  exact ne _ _ ho
 ·exact ne _ _ (I.pin p hp).1
theorem Ib.dict {K:PySem.W.Frag} {C:Addr} (c:Ib K C):PySem.W.hasDictIn K C=true:=by
 obtain⟨cd,hc,ho⟩:=PySem.W.any_some c.ov
 simp only [Bool.and_eq_true] at ho
 unfold PySem.W.hasDictIn
 rw [hc]
 exact ho.2
theorem Ti {y:V} {u:Value} {Q:Unit->Shared->Prop} (I:Inv X pins σ H s) (e:H a=some (uy a C)) (c:Ib X.K C) (n:fX X.K C f) (ry:RelV y u)
  (h:∀dx s',H dx=none->dx≠a->Inv X pins σ (upd (upd H a (zu a C dx)) dx (.xd [(f,y)])) s'->Q () s'):wpAny (model X.prog X.w) A (setAttr (.ref a) f u) Q E s:=by
 obtain⟨⟨a0,vr,sl,hx⟩,_,_⟩:=(show dX X.prog X.w H s.heap a (uy a C) from I.hok a _ e)
 obtain⟨hp,g,d,t,os⟩:=s
 dsimp only at hx
 have inst:hp.Inst a C (fun _=>none):=⟨_,hx,rfl,fun _=>Data.noConfusion,.inl ⟨rfl,fun _=>rfl⟩⟩
 refine WQ (ns:=[]) I.kIn c n.taker inst PySem.Within.nil (Nat.zero_le _) fun h' tk' I' kb ks=>?_
 obtain⟨o₁,e1,e2,e3,e4,_,e6⟩:=ks _ hx
 have ed:=e6 rfl
 obtain⟨o1c,o1d,o1t,o1s⟩:=o₁
 dsimp only at e2 e3 e4 ed
 subst e2 e3 e4 ed
 have ne:hp.objs.size≠a:=Nat.ne_of_gt (Heap.lt_size hx)
 have fr:H hp.objs.size=none:=I.hok.fresh (Nat.le_refl _)
 have I1:Inv X pins σ (upd H a (zu a C hp.objs.size)) ⟨h',g,d,tk',os⟩:=by
  refine I.write (x:=a) (e:=a) (o:=zu a C hp.objs.size) (by rw [e];exact True.intro) (.inl rfl) (fun b o hb z=>kb b o hb (fun o₀ dx q r=>?_) z) ⟨_,e1⟩ ?_
  ·obtain rfl:=Option.some.inj (hx.symm.trans q);cases r
  ·exact⟨⟨_,_,_,e1⟩,⟨_,e1⟩,fun h1 h2 ⟨x1,x2,x3,z⟩ k=>⟨x1,x2,x3,k _ z⟩⟩
 refine h _ _ fr ne (I.track_new I1 (Nat.le_refl _) (by rw [aG ne];exact fr) ?_)
 obtain⟨o2,f1,f2,f3,f4⟩:=I'
 obtain rfl:=Option.some.inj (e1.symm.trans f1)
 rcases f4 with ⟨z,_⟩ | ⟨d2,z,_,hn⟩
 ·cases z
 ·obtain rfl:=Option.some.inj (show some hp.objs.size=some d2 from z)
  refine⟨_,hn,fun g=>?_⟩
  by_cases q:g=f
  ·subst q
   rw [if_pos rfl]
   show qM (List.lookup g [(g,y)]) (some u)
   simp only [List.lookup,beq_self_eq_true]
   exact ry
  ·rw [if_neg q]
   have hb:(g == f)=false:=beq_eq_false_iff_ne.mpr q
   show qM (List.lookup g [(f,y)]) none
   simp only [List.lookup,hb]
   exact True.intro
theorem Uc {b:Bool} {Q:Value->Shared->Prop} {fl:Array Value} {sl:Array (Option Value)} (I:Inv X pins σ H s) (hx:s.heap.get? a=some ⟨.ref C,some dx,.fields fl,sl⟩) (ed:H dx=some (.xd fs)) (c:Ib X.K C) (n:fX X.K C f) (l:fs.lookup f=some v)
  (h:∀u s',Inv X pins σ H s'->RelV v u->Q u s'):wpAny (model X.prog X.w) A (getAttr (.ref a) f b) Q E s:=by
 obtain⟨mA,hn,r⟩:=(show dX X.prog X.w H s.heap dx (.xd fs) from I.hok dx _ ed)
 obtain⟨od,ho,hl⟩:=Aa hn
 obtain⟨u,hu,ru⟩:=qM.some_of (v:=v) (o:=mA f) (by rw [<-l];exact r f)
 have J:PySem.W.InstAt s.heap a ⟨.ref C,some dx,.fields fl,sl⟩ C (some od):=⟨hx,rfl,rfl,ho⟩
 obtain⟨hp,g,d,t,os⟩:=s
 exact Wy I.kIn c J (PySem.W.findObj_own c.dict n rfl (by rw [hl,hu])) (GK ru) (h u _ (I.tok _) ru)
end
inductive QM (K:PySem.W.Frag) (f:Str) (D:Ends) (σ:St) (y:V) (x:V) (H2:Hp):Prop where
 | mk:∀a C,x=.ref a->H2 a=some (uy a C)->Ib K C->fX K C f->(∀dx,H2 dx=none->dx≠a->D.nx σ (upd (upd H2 a (zu a C dx)) dx (.xd [(f,y)])))->QM K f D σ y x H2
noncomputable def Ys (K:PySem.W.Frag) (ta tv:TE) (f:Str):TS:=fun D σ H=>tv σ H fun y H1=>ta σ H1 fun x H2=>QM K f D σ y x H2
section
variable {X:Cx} {e o value:Expr} {f:Str} {pos pos':Pos} {ta tv:TE}
theorem Cv (ha:PE X o ta) (hv:PE X value tv) (hs:swapsWith value (some (.Attribute o f pos')) pos.line X.env=pure false):PS X (.Assign [.Attribute o f pos'] value pos) (Ys X.K ta tv f):=by
 intro pins s σ H D I h
 refine plainObj_wpAny_Assign_Attribute (dZ (hv pins s σ H _ I h) fun u s1 ⟨y,H1,I1,ry,q⟩=>dZ (ha pins s1 σ H1 _ I1 q) fun ov s2 hpt=>?_) hs
 obtain⟨x,H2,I2,rx,a,C,ex,ea,c,n,q2⟩:=hpt
 subst ex
 obtain rfl:ov=Value.ref a:=rx
 exact Ti I2 ea c n ry fun dx s3 h1 h2 I3=>⟨σ,_,I3,q2 dx h1 h2⟩
end
noncomputable def QB (K:PySem.W.Frag) (C f:Addr):Bool:=match K.lookup C with
 | some o=>(match o.data with
  | .cls kd=>o.cls == .type "type" && kd.mro.head? == some (.ref C) && PySem.W.tailIn K CJ kd.mro.tail && !kd.hasDel && PySem.W.nsOkIn K kd.ns && Qc K kd.ns "__init__" == some (.ref f) && o.slots.size == 6 && o.slots[4]? == some (some (.builtin "ValueError.__new__"))
  | _=>false)
 | none=>false
structure m8 (K:PySem.W.Frag) (C f:Addr):Prop where
 ex:∃(nm q:Str) (Nn:Addr) (bs bm:List Value) (hdct:Bool) (sn:List Str) (sub:List Value) (ab:Bool) (col:Option Bool) (dd:Option Addr) (k0 k1 k2 k3 k5:Option Value) (mN:Str->Option Value),
  mN "__init__" =some (.ref f)/\∀h:Heap,K.In h->h.get? C=some (excClassObj nm q C Nn bs bm hdct sn sub ab col dd k0 k1 k2 k3 k5 "ValueError.__new__")/\h.Ns Nn mN/\OwnTail h CJ bm
theorem Y9 {α:Type}:∀{l:List α},l.length=6->∃a b c d e f,l=[a,b,c,d,e,f]
 | [a,b,c,d,e,f],_=>⟨a,b,c,d,e,f,rfl⟩
theorem m8.ofIn {K:PySem.W.Frag} {C f:Addr} (z:QB K C f=true):m8 K C f:=by
 unfold QB at z
 split at z
 ·rename_i o look
  obtain⟨oc,od,dt,slo⟩:=o
  dsimp only at z
  split at z
  ·rename_i kd
   simp only [Bool.and_eq_true,beq_iff_eq,Bool.not_eq_true'] at z
   obtain⟨⟨⟨⟨⟨⟨⟨x1,x2⟩,x3⟩,x4⟩,x5⟩,x6⟩,x7⟩,x8⟩:=z
   subst x1
   obtain⟨g1,g2,g3,g4,g5,g6,g7,g8,g9,g10,g11⟩:=kd
   dsimp only at x2 x3 x4 x5 x6
   obtain⟨sl⟩:=slo
   obtain⟨a0,a1,a2,a3,a5,rfl⟩:∃a0 a1 a2 a3 a5,sl=[a0,a1,a2,a3,some (.builtin "ValueError.__new__"),a5]:=by
    obtain⟨a0,a1,a2,a3,a4,a5,rfl⟩:=Y9 (show sl.length=6 from x7)
    have e:a4=some (.builtin "ValueError.__new__"):=Option.some.inj (show some a4=_ from x8)
    subst e
    exact⟨a0,a1,a2,a3,a5,rfl⟩
   obtain⟨up,rfl⟩:∃up,g3=.ref C:: up:=by
    cases g3 with
    | nil=>cases x2
    | cons v r=>cases (show some v=some (Value.ref C) from x2);exact⟨r,rfl⟩
   subst x4
   refine⟨⟨g1,g5,g4,g2,up,g6,g7,g8,g9,g10,od,a0,a1,a2,a3,a5,Qc K g4,x6,fun h X=>⟨X _ _ look,?_,PySem.W.tail_of_in X x3⟩⟩⟩
   rw [<-Qf X x5]
   exact .of_isNs (PySem.W.isNs_of_in X x5)
  ·cases z
 ·cases z
structure Va (K:PySem.W.Frag) (B:Addr):Prop where
 sp:PySem.W.specialIn K (.ref B) "__getattribute__" =some (some (.builtin "type.__getattribute__"))
 rd:PySem.W.readsIn K B (.type "type")=true
 fi:PySem.W.findCls K (.ref B) (.type "type") "__init__" =some (.val (.builtin "ValueError.__init__"))
noncomputable def tBase (K:PySem.W.Frag) (t:TA):TE:=fun σ H Q=>t σ H fun vs H1=>∃a C f us,vs=.ref a:: us/\H1 a=some (uy a C)/\m8 K C f/\us.length<=1000/\Q .non H1
section
variable {X:Cx} {CX:Dh} {k:Nat} {C B f:Addr} {fd:FuncData} {ps:List Str} {sp:Sp} {E:XK} {x:Str} {p pos apos:Pos} {e:Expr} {es:List Expr} {t:TA}
theorem Pj:j5 X (.builtin "ValueError.__init__") (fun xs H Q=>∃a C f us,xs=.ref a:: us/\H a=some (uy a C)/\m8 X.K C f/\us.length<=1000/\Q .non H):=by
 intro pins s σ H xs us Q I r h
 obtain⟨a,C,f,vs,rfl,ea,c,hz,q⟩:=h
 obtain⟨nm,q',Nn,bs,bm,hdct,sn,sub,ab,col,dd,k0,k1,k2,k3,k5,mN,hi,hf⟩:=c.ex
 cases r with
 | cons r1 r=>
  rename_i u us
  obtain rfl:u=Value.ref a:=r1
  obtain⟨⟨a0,vr,sl,hx⟩,_,_⟩:=(show dX X.prog X.w H s.heap a (uy a C) from I.hok a _ ea)
  obtain⟨hC,hn,T⟩:=hf _ I.kIn
  obtain⟨hp,g,d,t,os⟩:=s
  refine TJ PySem.F.excBase_ValueError T hC hx rfl rfl (by rw [<-r.length,sizeLine_eq];omega) fun h' tp _ kb e2=>⟨.non,H,?_,rfl,q⟩
  have I1:=I.write (x:=a) (e:=a) (o:=uy a C) (h':=h') (t':=t) (by rw [ea];exact True.intro) (.inl rfl) kb ⟨_,e2⟩ ⟨⟨_,_,_,e2⟩,⟨_,e2⟩,fun h1 h2 ⟨x1,x2,x3,z⟩ k=>⟨x1,x2,x3,k _ z⟩⟩
  rwa [show upd H a (uy a C)=H from by funext b;by_cases q:b=a <;> simp [upd,q,ea]] at I1
theorem Cq {pl:Sem Bool} (hg:Gl X x) (hm:X.mg x=some (.ref B)) (b:Va X.K B) (ha:PA X (e:: es) t) (hdb:(x == ("__debug__" :Str))=false:=by decide)
  (hst:starEach (e:: es) X.env=(false,eval e X.env):: starEach es X.env:=by rfl) (hpl:(backTo pos (starEach es X.env)).any (·.1)=false:=by rfl)
  (ht:eval (.Call (.Attribute (.Name x p) "__init__" apos) (e:: es) [] pos) X.env=(do
   let ov <-eval (.Name x p) X.env
   standAt apos.atName
   let (f,first) <-holding [ov] (getMethod ov "__init__" pl)
   callWith pos f first (backTo pos (starEach (e:: es) X.env)) (backToKw pos (keywordEach [] X.env))):=by rfl):
  PE X (.Call (.Attribute (.Name x p) "__init__" apos) (e:: es) [] pos) (tBase X.K t):=by
 intro pins s σ H Q I h
 refine PySem.W.methodCall_KW (pl:=pl) (vW I hg hm ?_ hdb) ht
 refine PySem.W.method_cls I.kIn b.sp (PySem.W.cls_value I.kIn b.rd b.fi rfl ?_)
 have hA:=ha pos pins _ σ H _ (I.tok (s.toks+1)) h
 rw [hst] at hA ⊢
 refine Calls.callWith_builtin (by show(false || (backTo pos (starEach es X.env)).any (·.1))=false;rw [hpl] <;> rfl) (Calls.evalArgs_plain ?_)
 exact dZ hA fun us s2 ⟨vs,H2,I2,r2,q2⟩=>Pj pins s2 σ H2 vs us Q I2 r2 q2
end
structure Xb (K:PySem.W.Frag) (C f:Addr):Prop where
 ini:m8 K C f
 fn:PySem.W.isFn K (.ref f)=true
 kp:PySem.W.keepIn K (.ref C)=true
section
variable {X:Cx} {CX:Dh} {k:Nat} {C f:Addr} {fd:FuncData} {ps:List Str} {sp:Sp} {E:XK} {x:Str} {p pos:Pos} {e:Expr} {es:List Expr} {t:TA}
theorem Pr {pins:List (Addr×Obj)} {σ:St} {H:Hp} {s:Shared} {Q:VK} {us:List Value} {vs:List V} (M:Xb X.K C f) (F:gH X.prog X.w X.K X.mg X.base CX k f fd ps sp) (hr:iV (k+1) X.A) (hb:Binds X.K fd ps [])
  (hx:kW CX X E) (I:Inv X pins σ H s) (r:Vals vs us) (hz:vs.length<=1000)
  (h:∀x,H x=none->X.s₀.heap.get? x=none->sp (.ref x:: vs) (upd H x (uy x C)) (fun v H2=>v=.non/\Q (.ref x) H2) E):
  wpAny (model X.prog X.w) X.A (call (.ref C) us) (EP X pins σ Q) X.xe s:=by
 obtain⟨nm,q',Nn,bs,bm,hdct,sn,sub,ab,col,dd,k0,k1,k2,k3,k5,mN,hi,hf⟩:=M.ini.ex
 obtain⟨hC,hn,T⟩:=hf _ I.kIn
 obtain⟨fo,lf,hfc⟩:∃fo,X.K.lookup f=some fo/\fo.cls=.type "function" :=by
  have z:=beq_iff_eq.mp M.fn
  exact Option.map_eq_some_iff.mp z
 obtain⟨hp,g,d,t,os⟩:=s
 refine Ur PySem.F.excBase_ValueError T hC hn hi (I.kIn _ _ lf) hfc (fun h' e hs made=>?_) (by rw [<-r.length,sizeLine_eq];omega)
 obtain⟨tp,e1,_,_⟩:=made.there
 have I2:Inv X pins σ (upd H e (uy e C)) ⟨h',g,d,t,os⟩:=I.laid (t':=t) made.keeps hs ⟨⟨_,_,_,e1⟩,⟨_,e1⟩,fun h1 h2 ⟨x1,x2,x3,z⟩ k=>⟨x1,x2,x3,k _ z⟩⟩
 have hq:=h e (I.hok.fresh hs) (Heap.get?_none_of_le (Nat.le_trans I.size hs))
 have r2:Vals (V.ref e:: vs) (Value.ref e:: us):=.cons rfl r
 have hl:(Value.ref e:: us ++ []).length=ps.length:=by
  have e:=r2.length
  rw [F.len _ _ _ _ hq] at e
  rw [List.append_nil]
  exact e.symm
 have hb2:=hb ⟨h',g,d,t,os⟩ (Value.ref e:: us) I2.kIn hl
 rw [List.append_nil] at hb2
 refine wpAny_call (codeAny_mono (F.run _ X.stack _ _ ⟨Value.ref e:: us,[]⟩ (Value.ref e:: us) _ _ E (hr.make C us []) (I2.env0.make C us []) hb2 r2 hq) fun r s' hq'=>?_)
 cases r with
 | error e=>exact hx pins σ _ _ e s' I2 hq'
 | ok fl=>
  cases fl with
  | ret u=>
   obtain⟨v,H',I3,rv,ev,q3⟩:=I2.after hq'
   subst ev
   exact⟨rv,⟨V.ref e,H',I3,rfl,q3⟩⟩
  | next=>exact False.elim hq'
  | brk=>exact False.elim hq'
  | cont=>exact False.elim hq'
end
section
variable {X:Cx} {C:Addr} {x:Str} {p pos:Pos} {e:Expr} {es:List Expr} {t:TA}
end
end L2
namespace L2
open PySem
noncomputable def V0 (K:PySem.W.Frag) (C:Addr):Bool:=(PySem.W.clsIn K C).isSome && PySem.W.findIn K (.ref C) "__getattribute__" == some (some (.builtin "BaseException.__getattribute__")) && PySem.W.findIn K (.ref C) "__getattr__" == some none &&
 PySem.W.findIn K (.ref C) "__class__" == some (some (.builtin "object.__class__")) && PySem.W.subIn K (.ref C) (.type "object") == some true && PySem.W.subIn K (.ref C) (.type "BaseException") == some true
theorem Ui.ofIn {K:PySem.W.Frag} {C:Addr} (h:V0 K C=true):Ui K C:=by
 simp only [V0,Bool.and_eq_true,beq_iff_eq] at h
 obtain⟨⟨⟨⟨⟨a,b⟩,c⟩,d⟩,e⟩,f⟩:=h
 exact⟨a,b,c,d,e,f⟩
noncomputable def Yq (K:PySem.W.Frag) (C:Addr):Bool:=V0 K C && PySem.W.findIn K (.ref C) "__setattr__" == some (some (.builtin "object.__setattr__")) && (PySem.W.clsIn K C).any (fun cd=>zm cd.mro && cd.hasDict)
theorem Ib.ofIn {K:PySem.W.Frag} {C:Addr} (h:Yq K C=true):Ib K C:=by
 simp only [Yq,Bool.and_eq_true,beq_iff_eq] at h
 obtain⟨⟨a,b⟩,c⟩:=h
 exact⟨.ofIn a,b,c⟩
noncomputable def Still {α:Type}:Sem α->Prop
 | .rule _ k | .at _ k | .point _ k=>Still (k ())
 | .load _ _ k=>∀o,Still (k o)
 | .update _ _ f k=>(∀o,(f o).dict=o.dict)/\Still (k ())
 | .loadIfAlive _ k=>∀o,Still (k o)
 | .alloc _ k=>∀a,Still (k a)
 | .fresh k=>∀t,Still (k t)
 | .ask k=>∀x,Still (k x)
 | .choose _ _ k=>∀n,Still (k n)
 | .os _ _ k=>∀r,Still (k r)
 | .handled _ k=>∀x,Still (k x)
 | .genState _ k=>∀x,Still (k x)
 | .newGen _ k=>∀x,Still (k x)
 | .stack k=>∀x,Still (k x)
 | .thread k=>∀x,Still (k x)
 | .call .. | .resume ..=>False
 | .pure _ | .raise _ | .unsupported _ | .finish _ | .register .. | .yield .. | .fork .. | .await ..=>True
noncomputable def DK (h h':Heap):Prop:=∀(b:Nat) (o:Obj),h.objs[b]?=some o->∃o',h'.objs[b]?=some o'/\o'.dict=o.dict
theorem DK.push {h h':Heap} (x:DK h h') (u:Obj):DK h (h'.push u):=fun b o e=>by
 obtain⟨o',e1,e2⟩:=x b o e
 have hb:b <h'.objs.size:=(Array.getElem?_eq_some_iff.mp e1).1
 exact⟨o',by show(h'.objs.push u)[b]?=some o';rw [Array.getElem?_push_lt hb];exact e1 ▸ (Array.getElem?_eq_getElem hb).symm,e2⟩
theorem DK.update {h h':Heap} (x:DK h h') (a:Addr) {f:Obj->Obj} (hf:∀o,(f o).dict=o.dict):DK h (h'.update a f):=fun b o e=>by
 obtain⟨o',e1,e2⟩:=x b o e
 show ∃u,(h'.objs.modify a f)[b]?=some u/\u.dict=o.dict
 rw [Array.getElem?_modify]
 by_cases q:a=b
 ·rw [if_pos q,e1];exact⟨f o',rfl,(hf o').trans e2⟩
 ·rw [if_neg q];exact⟨o',e1,e2⟩
theorem Rq {α:Type} (M:Model) (Γ:Ctx) {Q:α->Pos->Shared->Prop} {E:Value->Pos->Shared->Prop} (t:Sem α):∀(p:Pos) (s:Shared) (h0:Heap),Still t->DK h0 s.heap->Sem.wp M Γ t Q E p s->Sem.wp M Γ t (fun a p' s'=>Q a p' s'/\DK h0 s'.heap) E p s:=by
 induction t with
 | pure x=>intro p s h0 _ d h;exact⟨h,d⟩
 | raise v=>intro p s h0 _ d h;exact h
 | unsupported | finish | yield | fork | await | register=>intro p s h0 _ d h;exact h
 | rule _ k ih | «at» _ k ih | point _ k ih=>intro p s h0 x d h;exact ih _ _ _ _ x d h
 | loadIfAlive _ k ih | fresh k ih | ask k ih | os _ _ k ih | handled _ k ih | newGen _ k ih | stack k ih | thread k ih=>intro p s h0 x d h;exact ih _ _ _ _ (x _) d h
 | alloc o k ih=>intro p s h0 x d h;exact ih _ _ _ _ (x _) (d.push o) h
 | load a _ k ih | genState a k ih=>intro p s h0 x d h;obtain⟨o,ho,h⟩:=h;exact⟨o,ho,ih _ _ _ _ (x _) d h⟩
 | update a _ f k ih=>intro p s h0 x d h;exact⟨h.1,ih _ _ _ _ x.2 (d.update a x.1) h.2⟩
 | choose _ _ k ih=>intro p s h0 x d h;exact⟨h.1,ih _ _ _ _ (x _) d h.2⟩
 | call c h g l k ih=>intro p s h0 x;exact x.elim
 | resume g r l k ih=>intro p s h0 x;exact x.elim
theorem DK.refl (h:Heap):DK h h:=fun b o e=>⟨o,e,rfl⟩
theorem rN {α:Type} {M:Model} {A:Around} {t:Sem α} {Q:α->Shared->Prop} {E:Value->Shared->Prop} {s:Shared} (x:Still t) (h:wpAny M A t Q E s):wpAny M A t (fun a s'=>Q a s'/\DK s.heap s'.heap) E s:=
 fun Γ p hΓ=>Rq M Γ t p s s.heap x (DK.refl _) (h Γ p hΓ)
theorem bM {α β:Type} {m:Sem α} {f:α->Sem β} (h1:Still m) (h2:∀a,Still (f a)):Still (m >>= f):=by
 show Still (m.bind f)
 induction m with
 | pure x=>exact h2 x
 | raise _ | unsupported _ | finish _ | register _ _ | yield _ _ _ _ | fork _ _ | await _ _ _ _ _=>exact True.intro
 | rule _ k ih | «at» _ k ih | point _ k ih=>exact ih _ h1
 | loadIfAlive _ k ih | fresh k ih | ask k ih | os _ _ k ih | handled _ k ih | newGen _ k ih | stack k ih | thread k ih | alloc _ k ih | load _ _ k ih | genState _ k ih | choose _ _ k ih=>exact fun o=>ih o (h1 o)
 | update a _ f k ih=>exact⟨h1.1,ih _ h1.2⟩
 | call c h g l k ih=>exact h1
 | resume g r l k ih=>exact h1
theorem cU {α:Type} {a:α}:Still (Pure.pure a:Sem α):=True.intro
theorem jx {α:Type} {w:String}:Still (unsupported w:Sem α):=True.intro
theorem xQ {a:Addr}:Still (load a):=fun _=>True.intro
theorem vp:Still stack:=fun _=>True.intro
theorem qI {v:Value} {i:Nat}:Still (field v i):=by
 unfold field fieldsOf
 refine bM ?_ fun x=>?_
 ·split
  ·exact bM xQ fun o=>by split <;> first | exact cU | exact jx
  ·exact jx
 ·split <;> first | exact cU | exact jx
theorem EY (f:Array Value->Array Value) (o:Obj):(Obj.mapFields f o).dict=o.dict:=by
 unfold Obj.mapFields;split <;> rfl
theorem jh {v:Value} {i:Nat} {x:Value}:Still (setField v i x):=by
 unfold setField updateField
 split
 ·refine bM xQ fun o=>?_
  split
  ·split
   ·exact⟨EY _,True.intro⟩
   ·exact jx
  ·exact jx
 ·exact jx
theorem m7 {e:Value} {f:Option Addr}:Still (setFlight e f):=by
 unfold setFlight
 refine bM qI fun tb=>?_
 split
 ·exact jh
 ·exact cU
theorem vz {f:Addr} {b:Bool}:Still (entryPlaceOf f b):=by
 unfold entryPlaceOf
 exact bM vp fun a=>by split <;> exact cU
theorem vN {a b c d e:Value} {l:List Value}:Still (EntryCells.newEntry a b c d e l):=by
 unfold EntryCells.newEntry newFields newObj newObjAsIs
 dsimp only
 split <;> split <;> first | exact True.intro | exact fun _=>True.intro
theorem Mg:Still frameEnvs:=by unfold frameEnvs;exact bM vp fun _=>cU
theorem Jr {e:Env} {l:List Env}:Still (behindIsImport e l):=by
 unfold behindIsImport
 split
 ·exact cU
 ·split
  ·exact cU
  ·exact bM qI fun _=>cU
theorem Lf {e:Env} {b:Bool}:∀{l:List Env},Still (keptBack e b l)
 | []=>by
  rw [keptBack]
  unfold underTheClaimsCaller
  split
  ·exact cU
  ·exact bM (bM vp fun _=>cU) fun _=>cU
 | _:: _=>by rw [keptBack];exact cU
theorem Bo:∀{l:List Env},Still (readyFrames l)
 | []=>by unfold readyFrames;exact cU
 | e:: l=>by
  unfold readyFrames
  split
  ·refine bM xQ fun o=>?_
   split
   ·exact cU
   ·refine bM Jr fun i=>bM Lf fun b=>?_
    exact bM (⟨fun _=>rfl,True.intro⟩) fun _=>Bo
  ·exact jx
theorem vq {e:Env}:Still (frameOf e):=by
 unfold frameOf
 refine bM Mg fun l=>bM ?_ fun o=>?_
 ·unfold frameObject
  split
  ·exact cU
  ·exact bM Bo fun _=>cU
 ·split
  ·exact cU
  ·exact jx
theorem Et {e:Value} {env:Env}:Still (noteFrame e env):=by
 unfold noteFrame
 split
 ·refine bM qI fun hd=>?_
  have tail:∀x:Value,Still (do setField e 1 (<-EntryCells.newEntry hd (<-frameOf env) .none x .none (<-entryPlaceOf (env.frame.getD 0) (hd != .none)))):=fun x=>
   bM vq fun _=>bM vz fun _=>bM vN fun _=>jh
  split
  ·refine bM qI fun x=>?_
   split
   ·exact cU
   ·refine bM jh fun _=>?_
    exact bM vq fun _=>bM vz fun _=>bM vN fun _=>jh
  ·exact bM vq fun _=>bM vz fun _=>bM vN fun _=>jh
 ·exact jx
theorem wA {e:Value} {env:Env}:Still (leaving env e):=by
 unfold leaving
 exact bM Et fun _=>m7
end L2
namespace L2
open PySem PySem.Spec PyProof.Rows
inductive DictAt (h:Heap) (x:Addr) (d:Option Addr):Prop where
 | mk:∀o,h.get? x=some o->o.dict=d->DictAt h x d
theorem Bk {h:Heap} {x:Addr} {o:Obj} (e:h.get? x=some o):h.objs[x]?=some o:=by
 unfold Heap.get? at e
 split at e
 ·cases e
 ·exact e
theorem DictAt.on {h h':Heap} {x:Addr} {d:Option Addr} {o':Obj} (a:DictAt h x d) (k:DK h h') (e:h'.get? x=some o'):DictAt h' x d:=by
 obtain⟨o,e1,e2⟩:=a
 obtain⟨o2,e3,e4⟩:=k x o (Bk e1)
 cases (Bk e).symm.trans e3
 exact⟨_,e,e4.trans e2⟩
noncomputable def del (H:Hp) (x:Addr):Hp:=fun b=>if b=x then none else H b
theorem Eb {H:Hp} {x b:Addr} (h:b≠x):del H x b=H b:=if_neg h
theorem Qs {H:Hp} {x b:Addr} {o:HO} (h:del H x b=some o):b≠x/\H b=some o:=by
 unfold del at h
 split at h
 ·cases h
 ·rename_i n;exact⟨n,h⟩
theorem W0 {fs ex:List Addr} {H H1:Hp} {h h1:Heap} {x:Addr} {φ:Heap->Prop} (u:Un fs ex H H1 h h1) (e:H1 x=some (.ext φ)):Un fs ex H (del H1 x) h h1:=by
 have ne:∀b o,H1 b=some o->(∀φ,o≠.ext φ)->del H1 x b=some o:=fun b o q n=>by
  rw [Eb];exact q
  rintro rfl
  rw [e] at q
  exact n φ (Option.some.inj q).symm
 refine⟨u.keep,u.slot,fun b o q n hx=>?_,u.there,fun b xs q=>ne _ _ (u.tups b xs q) (by intro _ z;cases z),fun b o v q=>ne _ _ (u.frzs b o v q) (by intro _ z;cases z),fun b ps q=>?_⟩
 ·unfold del
  split
  ·rfl
  ·exact u.free b o q n hx
 ·obtain⟨m,z⟩:=u.tbls b ps q
  exact⟨m,ne _ _ z (by intro _ z;cases z)⟩
noncomputable def zy (P:Program) (w:World):Dh:=fun outer H s E e s'=>∃(x:Addr) (cls a0:Value) (H':Hp) (B:Heap) (d:Option Addr),e=.ref x/\s'.os=s.os/\AllBare s'.gens/\Heap.FlyingW B outer x cls a0 s'.heap/\DictAt s'.heap x d/\uz P w H' B/\
 Un (frs outer) [] H H' s.heap s'.heap/\(∀b o,s.heap.get? b=some o->b∉frs outer->∃o',B.get? b=some o')/\E cls d H'
theorem Ng {fs:List Addr} {H H1 H2:Hp} {h h1 h2 h3 B:Heap} {L:Addr} (u1:Un fs [] H H1 h h1) (u2:Un (L:: fs) [] H1 H2 h1 h2) (hL:∀b o,h.get? b=some o->b≠L)
  (inB:∀b o,h.get? b=some o->b∉fs->∃o',B.get? b=some o') (st2:B.StaysIn h2) (st3:B.StaysIn h3) (up:h2.UpToSlots h3)
  (fd:∀b o,h2.get? b=some o->b∈fs->∀vs,o.data≠.fields vs):Un fs [] H H2 h h3:=by
 have out:∀b o,h.get? b=some o->b∉fs->b∉L:: fs:=fun b o q hb z=>(List.mem_cons.mp z).elim (hL b o q) hb
 have go:∀b o,h2.get? b=some o->(∃o',B.get? b=some o')->h3.get? b=some o:=fun b o q ⟨o',q'⟩=>by
  have z:=st2 b o' q'
  rw [q] at z
  cases z
  exact st3 b _ q'
 refine⟨fun b o q n hb hx=>?_,fun b o q n hb hx=>?_,fun b o q n hx=>?_,fun b o q hx=>?_,fun b xs q=>u2.tups b xs (u1.tups b xs q),fun b o xs q=>u2.frzs b o xs (u1.frzs b o xs q),fun b ps q=>?_⟩
 ·have k1:=u1.keep b o q n hb hx
  exact go b o (u2.keep b o k1 (u1.free b o q n hx) (out b o q hb) hx) (inB b o q hb)
 ·obtain⟨sl,k1⟩:=u1.slot b o q n hb hx
  obtain⟨sl2,k2⟩:=u2.slot b _ k1 (u1.free b o q n hx) (List.mem_cons_of_mem _ hb) hx
  obtain⟨sl3,k3⟩:=up b _ k2 (fd b _ k2 hb)
  exact⟨sl3,k3⟩
 ·obtain⟨o',k1⟩:=u1.there b o q hx
  exact u2.free b o' k1 (u1.free b o q n hx) hx
 ·obtain⟨o1,k1⟩:=u1.there b o q hx
  obtain⟨o2,k2⟩:=u2.there b o1 k1 hx
  by_cases hb:b∈fs
  ·obtain⟨sl3,k3⟩:=up b _ k2 (fd b _ k2 hb)
   exact⟨_,k3⟩
  ·exact⟨o2,go b o2 k2 (inB b o q hb)⟩
 ·obtain⟨m1,e1⟩:=u1.tbls b ps q
  obtain⟨m2,e2⟩:=u2.tbls b _ e1
  exact⟨m1 ++ m2,by rw [e2,Array.append_assoc]⟩
section
variable {P:Program} {w:World} {K:PySem.W.Frag} {mg:Str->Option Value} {base:Heap} {N:List Str} {qual:Str} {scope:Scope} {f:Addr} {cd:Value} {A:Around} {outer:List Env} {s:Shared} {H:Hp} {E:XK}
theorem M3 {E':XK} (hE:∀c d H',E' c d H'->E c d H'):kW (zy P w) (pW (zy P w) P w K mg base N qual scope f cd A outer s H E) E':=by
 intro pins σ H1 s1 e s' I c
 obtain⟨x,cls,a0,H',B,d,rfl,hos,hg,fl,da,hok,un,inB,hE'⟩:=c
 have go:=rN wA (wpAny_leaves_onW (M:=model P w) (E:=fun e' s''=>zy P w outer H s E e' s'') (Q:=fun _ s2=>∃h',s2={ s' with heap:=h' }/\Heap.FlyingW B outer x cls a0 h'/\s'.heap.UpToSlots h') I.ok.frames rfl fl fun h' fl' up=>⟨h',rfl,fl',up⟩)
 refine wpAny_mono go (fun _ s2 q=>?_) fun _ _ z=>z
 obtain⟨⟨h',rfl,fl',up⟩,dk⟩:=q
 obtain⟨ob,hob,_⟩:=fl'.there
 have nL:∀b o,s.heap.get? b=some o->b≠s.heap.objs.size:=fun b o q=>Nat.ne_of_lt (Heap.lt_size q)
 have fd:∀b o,s'.heap.get? b=some o->b∈frs outer->∀vs,o.data≠.fields vs:=fun b o q hb=>by
  obtain⟨_,_,ff,_⟩:=fl
  have hb':b∈frs (envOfC qual scope s.heap.objs.size f cd:: outer):=List.mem_cons_of_mem _ hb
  obtain⟨_,o',q',d⟩:=ff.mem hb'
  rw [q] at q'
  cases q'
  exact d
 have inB':∀b o,s.heap.get? b=some o->b∉frs outer->∃o',B.get? b=some o':=fun b o q hb=>by
  obtain⟨o1,k1⟩:=I.base.there b o q (by simp [pW])
  exact inB b o1 k1 fun z=>(List.mem_cons.mp z).elim (nL b o q) hb
 exact⟨x,cls,a0,H',B,d,rfl,hos.trans I.os,hg,fl',da.on dk hob,hok,Ng (L:=s.heap.objs.size) I.base un nL inB' fl.1 fl'.1 up fd,inB',hE _ _ _ hE'⟩
theorem WX {pins:List (Addr×Obj)} {σ:St} {H1:Hp} {s1:Shared} {x C dx:Addr} (I:Inv (pW (zy P w) P w K mg base N qual scope f cd A outer s H E) pins σ H1 s1)
  (ex:H1 x=some (zu x C dx)) (hn:s.heap.get? x=none) (hE:E (.ref C) (some dx) (del H1 x)):(pW (zy P w) P w K mg base N qual scope f cd A outer s H E).xe (.ref x) s1:=by
 obtain⟨⟨a0,vr,sl,hx⟩,_,_⟩:=(show dX P w H1 s1.heap x (zu x C dx) from I.hok x _ ex)
 have nL:∀b o,s.heap.get? b=some o->b≠s.heap.objs.size:=fun b o q=>Nat.ne_of_lt (Heap.lt_size q)
 have hmem:∀env∈(envOfC qual scope s.heap.objs.size f cd:: outer),∀b,env.frame=some b->b∈x:: frs (envOfC qual scope s.heap.objs.size f cd:: outer):=fun env he b hb=>List.mem_cons_of_mem _ (List.mem_filterMap.mpr ⟨env,he,hb⟩)
 have stk:=I.stack
 have xf:x∉frs (envOfC qual scope s.heap.objs.size f cd:: outer):=fun hm=>by
  have z:=I.stkFree x hm
  rw [ex] at z;cases z
 have inB:∀b o,s.heap.get? b=some o->b∉frs outer->∃o',(PySem.W.hideAll s1.heap (x:: frs (envOfC qual scope s.heap.objs.size f cd:: outer))).get? b=some o':=fun b o q hb=>by
  obtain⟨o1,k1⟩:=I.base.there b o q (by simp [pW])
  refine⟨o1,PySem.W.hideAll_get _ k1 fun z=>?_⟩
  rcases List.mem_cons.mp z with rfl | z
  ·rw [hn] at q;cases q
  ·exact(List.mem_cons.mp z).elim (nL b o q) hb
 have hok:uz P w (del H1 x) (PySem.W.hideAll s1.heap (x:: frs (envOfC qual scope s.heap.objs.size f cd:: outer))):=fun b o q=>by
  obtain⟨nb,q⟩:=Qs q
  have nx:∀c o,H1 c=some o->(∀φ,o≠.ext φ)->c≠x:=fun c o q n z=>by
   rw [z,ex] at q
   exact n _ (Option.some.inj q).symm
  refine(I.hok b o q).stay (fun c v hc q'=>PySem.W.hideAll_get _ q' fun hm=>?_) (fun c q'=>?_) fun c xs q'=>?_
  ·rcases List.mem_cons.mp hm with rfl | hm
   ·rcases hc with z | z
    ·exact nb z.symm
    ·exact nx _ _ z (by intro _ z;cases z) rfl
   ·have hn:=I.stkFree c hm
    rcases hc with z | z
    ·rw [z,q] at hn;cases hn
    ·rw [z] at hn;cases hn
  ·rw [Eb (nx _ _ q' (by intro _ z;cases z))];exact q'
  ·rw [Eb (nx _ _ q' (by intro _ z;cases z))];exact q'
 have sB:(PySem.W.hideAll s1.heap (x:: frs (envOfC qual scope s.heap.objs.size f cd:: outer))).StaysIn s1.heap:=fun b o q=>PySem.W.of_hideAll _ q
 have xB:(PySem.W.hideAll s1.heap (x:: frs (envOfC qual scope s.heap.objs.size f cd:: outer))).get? x=none:=PySem.W.hideAll_none _ (List.mem_cons_self ..)
 have go:=rN wA (wpAny_leaving_firstW (M:=model P w) (E:=fun e' s''=>zy P w outer H s E e' s'') (base:=PySem.W.hideAll s1.heap (x:: frs (envOfC qual scope s.heap.objs.size f cd:: outer)))
  (Q:=fun _ s2=>∃h',s2={ s1 with heap:=h' }/\Heap.LeftW (PySem.W.hideAll s1.heap (x:: frs (envOfC qual scope s.heap.objs.size f cd:: outer))) (envOfC qual scope s.heap.objs.size f cd:: outer) x (.ref C) (.ref a0) s1.heap h')
  I.ok.frames (PySem.W.funFrames_hide stk hmem) rfl hx sB xB rfl rfl rfl fun h' z=>⟨h',rfl,z⟩)
 refine wpAny_mono go (fun _ s2 q=>?_) fun _ _ z=>z
 obtain⟨⟨h',rfl,k1,⟨_,_,k2⟩,k3,k4⟩,dk⟩:=q
 have fl:Heap.FlyingW (PySem.W.hideAll s1.heap (x:: frs (envOfC qual scope s.heap.objs.size f cd:: outer))) outer x (.ref C) (.ref a0) h':=⟨k1,xB,k2,k3⟩
 obtain⟨ob,hob,_⟩:=fl.there
 have fd:∀b o,s1.heap.get? b=some o->b∈frs outer->∀vs,o.data≠.fields vs:=fun b o q hb=>by
  have hb':b∈frs (envOfC qual scope s.heap.objs.size f cd:: outer):=List.mem_cons_of_mem _ hb
  obtain⟨_,o',q',d⟩:=stk.mem hb'
  rw [q] at q'
  cases q'
  exact d
 exact⟨x,_,_,del H1 x,_,some dx,rfl,I.os,I.bare,fl,DictAt.on (h:=s1.heap) ⟨_,hx,rfl⟩ dk hob,hok,W0 (Ng (L:=s.heap.objs.size) I.base Un.refl nL inB sB fl.1 k4 fd) ex,inB,hE⟩
end
section
variable {M:Model} {A:Around} {E:Value->Shared->Prop} {s:Shared} {env:Env} {nm q:Str} {C N:Addr} {bs bm:List Value} {hdct:Bool} {sn:List Str} {sub:List Value} {ab:Bool} {col:Option Bool} {dd:Option Addr} {k0 k1 k2 k3 k5:Option Value} {newId:String}
theorem UT {x:Sem Value} {Q:Flow->Shared->Prop} (hb:bm.contains (.type "BaseException")=true) (hh:A.handled=none)
  (h:wpAny M A x (fun v s₁=>∃e od dt sl,v=.ref e/\s₁.heap.get? C=some (excClassObj nm q C N bs bm hdct sn sub ab col dd k0 k1 k2 k3 k5 newId)/\s₁.heap.get? e=some ⟨.ref C,od,.fields dt,sl⟩/\dt[1]?=some .none/\E (.ref e) s₁) E s):wpAny M A (raiseStmt env (some x) none) Q E s:=by
 have hB:(Value.ref C:: bm).contains (.type "BaseException")=true:=by rw [List.contains_cons,hb,Bool.or_true]
 unfold raiseStmt
 refine wpAny_bind (wpAny_mono h (fun v sx hx=>?_) fun _ _ z=>z)
 obtain⟨e,od,dt,sl,rfl,hC,he,hd,hE⟩:=hx
 obtain⟨hs,gs,ds,ts,os⟩:=sx
 repeat (first | with_reducible refine wpAny_loadPart_at he ?_ | with_reducible refine wpAny_loadPart_at hC ?_ | (with_reducible refine wpAny_isSubtype_exc hC ?_;rw [hB]) | wp_step)
 rw [hd]
 refine wpAny_pure ?_
 rw [if_neg (by decide)]
 exact wpAny_pure (PySem.wpAny_raiseNew_none hh hE)
theorem Um {x:Expr} {pos:Pos} {Q:Flow->Shared->Prop} (hb:bm.contains (.type "BaseException")=true) (hh:A.handled=none)
  (h:wpAny M A (eval x env) (fun v s₁=>∃e od dt sl,v=.ref e/\s₁.heap.get? C=some (excClassObj nm q C N bs bm hdct sn sub ab col dd k0 k1 k2 k3 k5 newId)/\s₁.heap.get? e=some ⟨.ref C,od,.fields dt,sl⟩/\dt[1]?=some .none/\E (.ref e) s₁) E s):wpAny M A (exec (.Raise (some x) none pos) env) Q E s:=by
 rw [arm_exec_Raise]
 have go:wpAny M A (do let v <-eval x env;standAt pos;pure v) (fun v s₁=>∃e od dt sl,v=.ref e/\s₁.heap.get? C=some (excClassObj nm q C N bs bm hdct sn sub ab col dd k0 k1 k2 k3 k5 newId)/\s₁.heap.get? e=some ⟨.ref C,od,.fields dt,sl⟩/\dt[1]?=some .none/\E (.ref e) s₁) E s:=
  wpAny_bind (wpAny_mono h (fun v s₁ z=>wpAny_bind (wpAny_standAt (wpAny_pure z))) fun _ _ z=>z)
 exact wpAny_bind (wpAny_standAt (UT hb hh go))
end
section
variable {P:Program} {w:World} {K:PySem.W.Frag} {mg:Str->Option Value} {base:Heap} {N:List Str} {qual:Str} {scope:Scope} {f:Addr} {cd:Value} {A:Around} {outer:List Env} {s:Shared} {H:Hp} {E:XK}
noncomputable def NT (s:Shared) (E:XK) (C:Addr):VK:=fun v H3=>∃y dx,v=.ref y/\s.heap.get? y=none/\H3 y=some (zu y C dx)/\E (.ref C) (some dx) (del H3 y)
noncomputable def Ua (s:Shared) (E:XK) (C:Addr) (sp:Sp) (E1:XK) (ta:TA):TS:=fun _ σ H=>ta σ H fun vs H1=>vs.length<=1000/\∀x,H1 x=none->s.heap.get? x=none->sp (.ref x:: vs) (upd H1 x (uy x C)) (fun v H2=>v=.non/\NT s E C (.ref x) H2) E1
theorem rF {CX:Dh} {k:Nat} {fi:Addr} {fd:FuncData} {ps:List Str} {sp:Sp} {E1:XK} {x:Str} {C:Addr} {np cpos pos:Pos} {e:Expr} {es:List Expr} {ta:TA} (Mk:Xb K C fi) (F:gH P w K mg base CX k fi fd ps sp)
  (hr:iV (k+1) (pW (zy P w) P w K mg base N qual scope f cd A outer s H E).A) (hg:Gl (pW (zy P w) P w K mg base N qual scope f cd A outer s H E) x) (hm:mg x=some (.ref C)) (hb:Binds K fd ps []) (hx:kW CX (pW (zy P w) P w K mg base N qual scope f cd A outer s H E) E1)
  (ha:PA (pW (zy P w) P w K mg base N qual scope f cd A outer s H E) (e:: es) ta) (hdb:(x == ("__debug__" :Str))=false:=by decide)
  (he:starEach (e:: es) (pW (zy P w) P w K mg base N qual scope f cd A outer s H E).env=(false,eval e (pW (zy P w) P w K mg base N qual scope f cd A outer s H E).env):: starEach es (pW (zy P w) P w K mg base N qual scope f cd A outer s H E).env:=by rfl)
  (hpl:(backTo cpos (starEach es (pW (zy P w) P w K mg base N qual scope f cd A outer s H E).env)).any (·.1)=false:=by rfl):
  PS (pW (zy P w) P w K mg base N qual scope f cd A outer s H E) (.Raise (some (.Call (.Name x np) (e:: es) [] cpos)) none pos) (Ua s E C sp E1 ta):=by
 intro pins s1 σ H1 D I h
 obtain⟨nm,q',Nn,bs,bm,hdct,sn,sub,ab,col,dd,k0,k1,k2,k3,k5,mN,hi,hf⟩:=Mk.ini.ex
 have hB:bm.contains (.type "BaseException")=true:=(hf _ I.kIn).2.2.hasType (X:= "BaseException") (b:=true) (by decide +kernel)
 refine Um (C:=C) (nm:=nm) (q:=q') (N:=Nn) (bs:=bs) (bm:=bm) (hdct:=hdct) (sn:=sn) (sub:=sub) (ab:=ab) (col:=col) (dd:=dd) (k0:=k0) (k1:=k1) (k2:=k2) (k3:=k3) (k5:=k5) (newId:= "ValueError.__new__") hB (I.ok.hd rfl) ?_
 refine wpAny_mono (wpAny_Call_Name_kw (vW I hg hm (PySem.W.callWith_K (h₀:=(pW (zy P w) P w K mg base N qual scope f cd A outer s H E).base) I.ok.mod.kin Mk.kp (dZ (ha cpos pins s1 σ H1 _ I h) fun us s2 ⟨vs,H2,I2,r,hz,q⟩=>⟨I2.kIn,
  Pr (X:=pW (zy P w) P w K mg base N qual scope f cd A outer s H E) (Q:=NT s E C) Mk F hr hb hx I2 r hz q⟩) he hpl) hdb)) (fun v s3 z=>?_) fun _ _ z=>z
 obtain⟨v',H3,I3,rv,y,dx,rfl,n0,e1,e2⟩:=z
 obtain rfl:v=Value.ref y:=rv
 obtain⟨⟨a0,vr,sl,hx3⟩,_,_⟩:=(show dX P w H3 s3.heap y (zu y C dx) from I3.hok y _ e1)
 exact⟨y,_,_,_,rfl,(hf _ I3.kIn).1,hx3,rfl,WX I3 e1 n0 e2⟩
end
noncomputable def Wm (x C dx:Addr):HO:=.ext fun h=>∃fl sl,h.get? x=some ⟨.ref C,some dx,.fields fl,sl⟩
theorem YL {X:Cx} {pins:List (Addr×Obj)} {σ:St} {H:Hp} {s1 s':Shared} {Ex:XK} {e:Value} {A:Around} {E:Value->Shared->Prop} {Q:Unit->Shared->Prop} (I:Inv X pins σ H s1) (c:zy X.prog X.w X.stack H s1 Ex e s')
  (hA:A.frames=some X.stack) (hst:X.stack=X.env:: X.outer) (hf:X.env.frame=some X.env.locals) (hex:X.ex=[])
  (k:∀x cls H' s2 B a0 d,e=.ref x->Ss X pins σ H' x cls s2 B a0->DictAt s2.heap x d->Ex cls d H'->Q () s2):
  wpAny (model X.prog X.w) A (noteFrame e X.env) (fun _ s2=>wpAny (model X.prog X.w) A (setFlight e none) Q E s2) E s':=by
 obtain⟨x,cls,a0,H',B,d,rfl,hos,hg,fl,da,hok,un,inB,hE'⟩:=c
 have fd:∀b o,s'.heap.get? b=some o->b∈frs X.stack->∀vs,o.data≠.fields vs:=fun b o q hb=>by
  obtain⟨_,_,ff,_⟩:=id fl
  obtain⟨_,o',q',d⟩:=ff.mem hb
  rw [q] at q'
  cases q'
  exact d
 have nB:B.get? x=none:=fl.2.1
 have hfree:H' x=none:=by
  cases q:H' x with
  | none=>rfl
  | some o=>
   obtain⟨ob,z⟩:=(hok x o q).some_at
   rw [nB] at z;cases z
 have n1:s1.heap.get? x=none:=by
  cases q:s1.heap.get? x with
  | none=>rfl
  | some o=>
   exfalso
   by_cases hb:x∈frs X.stack
   ·obtain⟨oe,vs,he,_,hd,_⟩:=fl.first
    exact fd x oe he hb vs hd
   ·obtain⟨o',z⟩:=inB x o q hb
    rw [nB] at z;cases z
 have here:∀b o,s1.heap.get? b=some o->b≠x:=fun b o q z=>by rw [z,n1] at q;cases q
 have fl0:Heap.FlyingW B (X.env:: X.outer) x cls a0 s'.heap:=by rw [<-hst];exact fl
 have g1:=rN Et (wpAny_looks_onW (M:=model X.prog X.w) (A:=A) (E:=E) (Q:=fun _ s2=>∃h',s2={ s' with heap:=h' }/\Heap.HeldW B (X.env:: X.outer) x cls a0 X.env.locals h'/\s'.heap.UpToSlots h') (by rw [hA,hst]) hf fl0 fun h' hh up=>⟨h',rfl,hh,up⟩)
 refine wpAny_mono g1 (fun _ s2 q=>?_) fun _ _ z=>z
 obtain⟨⟨h2,rfl,hh,up2⟩,dk2⟩:=q
 have g2:=rN m7 (wpAny_landsW (M:=model X.prog X.w) (A:=A) (E:=E) (s:={ s' with heap:=h2 }) (Q:=fun _ s3=>∃h',s3={ s' with heap:=h' }/\Heap.FlyingW B (X.env:: X.outer) x cls a0 h'/\h2.UpToSlots h') hh fun h' f3 up=>⟨h',rfl,f3,up⟩)
 refine wpAny_mono g2 (fun _ s3 q=>?_) fun _ _ z=>z
 obtain⟨⟨h3,rfl,fl3,up3⟩,dk3⟩:=q
 obtain⟨o2,ho2,_⟩:=hh.there
 obtain⟨o3,ho3,_⟩:=fl3.there
 have fl3':Heap.FlyingW B X.stack x cls a0 h3:=by rw [hst];exact fl3
 have go:∀h6,Heap.FlyingW B X.stack x cls a0 h6->s'.heap.UpToSlots h6->Inv X pins σ H' { s' with heap:=h6 }:=fun h6 f6 u6=>
  I.call' (s':={ s' with heap:=h6 }) hos (Xh un inB fl.1 f6.1 u6 fd) (hok.kept fun b o q=>f6.1 b o q) hg fun b hb=>absurd hb (by simp)
 refine k x cls H' _ B a0 d rfl ⟨go h3 fl3' (up2.trans up3),fl3',fun h6 f6 u6=>go h6 f6 ((up2.trans up3).trans u6),hfree,?_,?_,fun y c e=>?_,fun p hp=>here _ _ (I.pin p hp).1⟩ ((da.on dk2 ho2).on dk3 ho3) hE'
 ·cases q:X.s₀.heap.get? x with
  | none=>rfl
  | some o=>
   obtain⟨o',z⟩:=I.base.there x o q (by rw [hex];simp)
   rw [n1] at z;cases z
 ·obtain⟨m,⟨o,_,_,q,_⟩,_⟩:=I.loc
  exact fun z=>here _ _ q z.symm
 ·obtain⟨v,o,q,_⟩:=I.cell y c e
  exact here _ _ q
section
variable {M:Model} {A:Around} {E:Value->Shared->Prop} {nm q:Str} {C N:Addr} {bs bm:List Value} {hdct:Bool} {sn:List Str} {sub:List Value} {ab:Bool} {col:Option Bool} {dd:Option Addr} {k0 k1 k2 k3 k5:Option Value} {newId:String}
theorem R9 {h:Heap} {g:Array GenState} {d:Drawn} {t:Nat} {os:OsState} {e C1:Addr} {oe:Obj} {Q:Bool->Shared->Prop}
  (hC:h.get? C=some (excClassObj nm q C N bs bm hdct sn sub ab col dd k0 k1 k2 k3 k5 newId)) (he:h.get? e=some oe) (hcls:oe.cls=.ref C1) (hbase:bm.contains (.type "BaseException")=true)
  (hs:∀{Q:Bool->Shared->Prop},Q false ⟨h,g,d,t,os⟩->wpAny M A (isSubtype (.ref C1) (.ref C)) Q E ⟨h,g,d,t,os⟩) (hq:Q false ⟨h,g,d,t,os⟩):wpAny M A (excMatches (.ref e) (.ref C)) Q E ⟨h,g,d,t,os⟩:=by
 have hB:(Value.ref C:: bm).contains (.type "BaseException")=true:=by rw [List.contains_cons,hbase,Bool.or_true]
 have f0:=tc_notTuple
 unfold excMatches
 repeat (first | (with_reducible refine wpAny_loadPart_at he ?_;rw [hcls]) | with_reducible refine wpAny_loadPart_at hC ?_ | (with_reducible refine wpAny_isSubtype_exc hC ?_;rw [hB]) | with_reducible refine hs ?_ | wp_step)
 exact hq
end
noncomputable abbrev TH:=Ends->Value->Option Addr->St->Hp->Prop
noncomputable def PH (X:Cx) (hs:List ExceptHandler) (T:TH):Prop:=∀(pins:List (Addr×Obj)) (σ:St) (H':Hp) (y:Addr) (cls:Value) (s:Shared) (B:Heap) (a0:Value) (d:Option Addr) (D:Ends),Ss X pins σ H' y cls s B a0->DictAt s.heap y d->T D cls d σ H'->
 wpAny (model X.prog X.w) X.A (handleBy (.ref y) X.env hs) (SP X pins D) X.xe s
noncomputable def Xx:TH:=fun _ _ _ _ _=>False
theorem WW {X:Cx}:PH X [] Xx:=fun _ _ _ _ _ _ _ _ _ _ _ _ h=>h.elim
inductive Rh (tb:(St->XK)->TS) (th:TH) (D:Ends) (σ:St) (H:Hp):Prop where
 | mk:∀R:St->XK,((∀σ' cls d H',R σ' cls d H'->th D cls d σ' H'))->tb R D σ H->Rh tb th D σ H
noncomputable def Xm (tb:(St->XK)->TS) (th:TH):TS:=fun D σ H=>Rh tb th D σ H
theorem Uu {X:Cx} {body:List Stmt} {h₀:ExceptHandler} {hs:List ExceptHandler} {pos:Pos} {tb:(St->XK)->TS} {th:TH} (hst:X.stack=X.env:: X.outer) (hf:X.env.frame=some X.env.locals) (hex:X.ex=[])
  (hb:∀(pn:List (Addr×Obj)) (Ex:Value->Shared->Prop) (R:St->XK),(∀pins σ H s e s',Inv (X.over pn Ex) pins σ H s->zy X.prog X.w X.stack H s (R σ) e s'->Ex e s')->KZ (X.over pn Ex) body (tb R)) (hh:PH X (h₀:: hs) th):
  PS X (.Try body (h₀:: hs) [] [] pos) (Xm tb th):=by
 intro pins s σ H D I h
 obtain⟨R,hR,hbody⟩:=h
 refine wpAny_Try_except (wpAny_mono (hb (X.pn ++ pins) (fun e s₁=>wpAny (model X.prog X.w) X.A (noteFrame e X.env) (fun _ s₂=>wpAny (model X.prog X.w) X.A (setFlight e none) (fun _ s₃=>
  wpAny (model X.prog X.w) X.A (handleBy e X.env (h₀:: hs)) (SP X pins D) X.xe s₃) X.xe s₂) X.xe s₁) R ?_ [] s σ H D I.over hbody) (fun f s₁ q=>?_) fun e s₁ q=>q)
 ·intro pins' σ' H' s1 e s2 I1 c
  refine YL (I1.unover) c I.ok.frames hst hf hex fun y cls H2 s3 B a0 d he L da hE=>?_
  subst he
  exact hh pins σ' H2 y cls s3 B a0 d D L da (hR _ _ _ _ hE)
 ·cases f with
  | next=>
   obtain⟨σ1,H1,I1,q1⟩:=q
   exact wpAny_execs_nil ⟨σ1,H1,I1.unover,q1⟩
  | brk=>
   obtain⟨σ1,H1,I1,q1⟩:=q
   exact⟨σ1,H1,I1.unover,q1⟩
  | cont=>
   obtain⟨σ1,H1,I1,q1⟩:=q
   exact⟨σ1,H1,I1.unover,q1⟩
  | ret u=>
   obtain⟨v,σ1,H1,I1,rv,q1⟩:=q
   exact⟨v,σ1,H1,I1.unover,rv,q1⟩
inductive Rg (K:PySem.W.Frag) (f:Str) (Q:VK) (x:V) (H1:Hp):Prop where
 | mk:∀a C dx fs v,x=.ref a->H1 a=some (Wm a C dx)->H1 dx=some (.xd fs)->Ib K C->fX K C f->fs.lookup f=some v->Q v H1->Rg K f Q x H1
noncomputable def Yi (K:PySem.W.Frag) (ta:TE) (f:Str):TE:=fun σ H Q=>ta σ H fun x H1=>Rg K f Q x H1
theorem Cu {X:Cx} {K:PySem.W.Frag} {e:Expr} {f:Str} {pos:Pos} {ta:TE} (hK:X.K=K) (he:PE X e ta) (hb:attributeBase e f X.env (eval e X.env)=eval e X.env):PE X (.Attribute e f pos) (Yi K ta f):=by
 subst hK
 intro pins s σ H Q I h
 refine M8 hb (dZ (he pins s σ H _ I h) fun u s1 hpt=>?_)
 obtain⟨x,H1,I1,rx,a,C,dx,fs,v,ex,ea,ed,c,n,l,q⟩:=hpt
 subst ex
 obtain rfl:u=Value.ref a:=rx
 obtain⟨⟨fl,sl,hx⟩,_,_⟩:=(show dX X.prog X.w H1 s1.heap a (Wm a C dx) from I1.hok a _ ea)
 exact Uc I1 hx ed c n l fun u' s2 I2 ru=>⟨v,H1,I2,ru,q⟩
section
variable {P:Program} {w:World} {K:PySem.W.Frag} {mg:Str->Option Value} {base:Heap}
theorem Th.ok2 {x qual:Str} {st:Stmt} {f:Addr} {fd:FuncData} {N ps:List Str} {k:Nat} {sp:Sp} (F:Th K x qual st f fd) (S:gK N ps (bx st)) (len:∀vs H Q E,sp vs H Q E->vs.length=ps.length)
  (go:∀(cdv:Value) (A:Around) (outer:List Env) (s:Shared) (H:Hp) (vs:List V) (Q:VK) (E:XK),iV k (A.deeper (envOfC qual (bx st) s.heap.objs.size f cdv))->sp vs H Q E->
   ∃t,KZ (pW (zy P w) P w K mg base N qual (bx st) f cdv A outer s H E) (lV st) t/\t { nx:=fun _ H'=>Q .non H',rt:=Q } (start N vs) H):gH P w K mg base (zy P w) (k+1) f fd ps sp:=by
 obtain⟨oc,od,kV,doc,pm,an,cdv,ct,osl,e,lk,hcd⟩:=F.ex
 subst e
 exact Vx lk hcd S len fun A outer s H vs Q E hr hsp=>go cdv A outer s H vs Q E hr hsp
end
theorem m8.at {K:PySem.W.Frag} {C f:Addr} (c:m8 K C f) {h:Heap} (X:K.In h):ExcAt K C:=by
 obtain⟨nm,q,Nn,bs,bm,hdct,sn,sub,ab,col,dd,k0,k1,k2,k3,k5,mN,_,hf⟩:=c.ex
 exact⟨⟨nm,q,Nn,bs,bm,hdct,sn,sub,ab,col,dd,k0,k1,k2,k3,k5,_,(hf h X).2.2.hasType (X:= "BaseException") (b:=true) (by decide +kernel),fun h X=>(hf h X).1⟩⟩
noncomputable def ZS (a b:TI):TI:=fun σ H R=>a σ H R∨b σ H R
theorem U6 {X:Cx} {tg it:Expr} {a b:TI} (h1:PI X tg it a) (h2:PI X tg it b):PI X tg it (ZS a b):=fun pins s σ H R I h=>h.elim (h1 pins s σ H R I) (h2 pins s σ H R I)
theorem JC {js:List Nat} {tt:TT} {te:TE} {σ:St} {Qd:List V->Hp->Prop} {K:PySem.W.Frag} {a:Addr} {xs:List V} {H:Hp} (Pv:Nat->List V->Hp->Prop) (hn:xs.length<=sizeLine) (h0:Pv 0 [] H) (hl:∀i ys H,Pv i ys H->ys.length<=i) (hq:∀i ys H,i<=xs.length->Pv i ys H->fG K H a xs)
  (hs:∀i x ys H,xs[i]?=some x->Pv i ys H->tt (some x:: eO σ js) H fun b H4=>if b=true then te (some x:: eO σ js) H4 fun y H5=>Pv (i+1) (ys ++ [y]) H5 else Pv (i+1) ys H4)
  (hd:∀ys H,Pv xs.length ys H->Qd ys H):CompEnd js tt te σ Qd (Xg K a) H:=by
 refine⟨fun i m ys H=>m=xs.length - i/\i<=xs.length/\Pv i ys H,⟨xs.length,by simp,Nat.zero_le _,h0⟩,?_⟩
 rintro i m ys H ⟨rfl,hi,p⟩
 have hlen:=hl i ys H p
 have q:=hq i ys H hi p
 by_cases hlt:i <xs.length
 ·refine .inr ⟨⟨xs,xs[i],q,by simp [hlt]⟩,by omega,Pv (i+1),fun ys' H' p'=>⟨xs.length - (i+1),by omega,rfl,hlt,p'⟩,fun x H' y=>?_⟩
  obtain⟨e,y⟩:=y
  subst e
  exact hs i x ys _ (y xs q) p
 ·have e:i=xs.length:=by omega
  subst e
  exact .inl ⟨⟨xs,q,Nat.le_refl _⟩,by omega,hd ys H p⟩
theorem Qy {js:List Nat} {tt:TT} {te:TE} {σ σ0:St} {Qd:List V->Hp->Prop} {K:PySem.W.Frag} {a:Addr} {xs:List V} {H:Hp} {tl:TE} (ht:∀R:V->Hp->Prop,R (.ref a) H->tl σ0 H R) (ha:yc K H a xs) (Pv:Nat->List V->Prop) (hn:xs.length<=sizeLine) (h0:Pv 0 []) (hl:∀i ys,Pv i ys->ys.length<=i)
  (hs:∀i x ys,xs[i]?=some x->Pv i ys->tt (some x:: eO σ js) H fun b H4=>if b=true then te (some x:: eO σ js) H4 fun y H5=>H5=H/\Pv (i+1) (ys ++ [y]) else H4=H/\Pv (i+1) ys)
  (hd:∀ys,Pv xs.length ys->Qd ys H):ZS (Vj K tl) (Xi K tl) σ0 H (CompEnd js tt te σ Qd):=by
 rcases ha with ha | ha
 ·refine .inl (ht _ ⟨a,rfl,⟨xs,ha⟩,fY (K:=K) (a:=a) (xs:=xs) (fun i ys H'=>H'=H/\Pv i ys) hn ⟨rfl,h0⟩ (fun i ys _ z=>hl i ys z.2) (fun i ys H' _ z=>by rw [z.1];exact ha) (fun i x ys H' hx z=>?_) fun ys H' z=>?_⟩)
  ·obtain⟨rfl,z⟩:=z;exact hs i x ys hx z
  ·obtain⟨rfl,z⟩:=z;exact hd ys z
 ·refine .inr (ht _ ⟨a,rfl,⟨xs,ha⟩,JC (K:=K) (a:=a) (xs:=xs) (fun i ys H'=>H'=H/\Pv i ys) hn ⟨rfl,h0⟩ (fun i ys _ z=>hl i ys z.2) (fun i ys H' _ z=>by rw [z.1];exact ha) (fun i x ys H' hx z=>?_) fun ys H' z=>?_⟩)
  ·obtain⟨rfl,z⟩:=z;exact hs i x ys hx z
  ·obtain⟨rfl,z⟩:=z;exact hd ys z
theorem yc.len {K:PySem.W.Frag} {H:Hp} {a:Addr} {xs:List V} (h:yc K H a xs):Yc K (.ref a) H xs.length:=h.elim (fun h=>.inl ⟨xs,h,rfl⟩) fun h=>.inr ⟨xs,h,rfl⟩
theorem vo {X:Cx} {K:PySem.W.Frag} (hK:X.K=K):Qe X (V2 K):=by subst hK;exact aM
theorem yD {X:Cx} {K:PySem.W.Frag} (hK:X.K=K):Qe X (V5 K):=by subst hK;exact dH
section
variable {P:Program} {w:World} {K:PySem.W.Frag} {mg:Str->Option Value} {base:Heap} {N:List Str} {qual:Str} {scope:Scope} {f:Addr} {cd:Value} {A:Around} {outer:List Env} {s:Shared} {H:Hp} {E:XK}
end
noncomputable def caught (y C:Addr):Option Addr->HO
 | some dx=>Wm y C dx
 | none=>Y7 y (.ref C)
noncomputable def thC (K:PySem.W.Frag) (i:Nat) (C:Addr) (ts:TS) (tr:TH):TH:=fun D cls d σ H=>
 (cls=.ref C/\∀y,H y=none->ts { nx:=fun σ2 H2=>D.nx (σ2.set i none) H2,rt:=D.rt,bk:=fun σ2 H2=>D.bk (σ2.set i none) H2,ct:=fun σ2 H2=>D.ct (σ2.set i none) H2 } (σ.set i (some (.ref y))) (upd H y (caught y C d)))∨
 (∃C1,cls=.ref C1/\PySem.W.subIn K (.ref C1) (.ref C)=some false/\tr D cls d σ H)
theorem Ug {X:Cx} {K:PySem.W.Frag} {i:Nat} {n x:Str} {C:Addr} {b₀:Stmt} {suite:List Stmt} {np hpos:Pos} {rest:List ExceptHandler} {ts:TS} {tr:TH} (hK:X.K=K)
  (hN:X.N.Nodup) (hi:X.N[i]?=some n) (hk:X.env.scope.names.lookup n=some .local) (hg:Gl X x) (hm:X.mg x=some (.ref C)) (cl:ExcAt K C)
  (hs:∀y,KZ (X.marked y) (b₀:: suite) ts) (hr:PH X rest tr) (hdb:(x == ("__debug__" :Str))=false:=by decide):
  PH X (.ExceptHandler (some (.Name x np)) (some n) (b₀:: suite) hpos:: rest) (thC K i C ts tr):=by
 subst hK
 intro pins σ H' y cls s B a0 d D L da h
 obtain⟨nm,q,Nn,bs,bm,hdct,sn,sub,ab,col,dd,k0,k1,k2,k3,k5,newId,hbase,hC⟩:=cl.ex
 obtain⟨ob,hob,hobc⟩:=L.fly.there
 have IL:=L.inv
 have hd:=IL.ok.hd
 refine wpAny_handleBy_cons (codeAny_handlers_test (Calls.Name_function_global IL.ok.kind hg (Calls.loadGlobal_global (by rw [IL.ok.glob];exact IL.mod.glob.keeps IL.bk) hm ?_) hdb)) (by intro q;cases q)
 rcases h with ⟨rfl,hsu⟩ | ⟨C1,rfl,hsub,hrest⟩
 ·refine wpAny_excMatches_sub_self (hC s.heap IL.kIn) hob hobc hbase ?_
  refine codeAny_handlers_suite_as (e:=.ref y) ?_
  have g1:=rN m7 (lands_againW (M:=model X.prog X.w) (A:=X.A.mark (some (.ref y))) (E:=fun _ _=>False) (Q:=fun _ s6=>∃h',s6={ s with heap:=h' }/\Heap.FlyingW B X.stack y (.ref C) a0 h'/\s.heap.UpToSlots h') L.fly fun h' f up=>⟨h',rfl,f,up⟩)
  refine wpAny_mono g1 (fun _ s6 q6=>?_) fun _ _ z=>False.elim z
  obtain⟨⟨h6,rfl,fl6,up6⟩,dk6⟩:=q6
  obtain⟨oe6,vs6,hob6,hobc6,hdat6,_⟩:=fl6.first
  obtain⟨o7,ho7,hd7⟩:=da.on dk6 hob6
  obtain rfl:oe6=o7:=Option.some.inj (hob6.symm.trans ho7)
  obtain⟨oc,od,dt,osl⟩:=oe6
  dsimp only at hobc6 hdat6 hd7
  subst hobc6 hdat6 hd7
  have ok6:dX X.prog X.w (upd H' y (caught y C od)) h6 y (caught y C od):=by
   cases od with
   | some dx=>exact⟨⟨_,_,hob6⟩,⟨_,hob6⟩,fun h1 h2 ⟨x1,x2,z⟩ k=>⟨x1,x2,k _ z⟩⟩
   | none=>exact⟨⟨_,hob6,rfl⟩,⟨_,hob6⟩,fun h1 h2 ⟨o,e1,e2⟩ k=>⟨o,k o e1,e2⟩⟩
  have I6:=(L.more h6 fl6 up6).track (x:=y) (o:=caught y C od) L.free L.new L.neL L.neC L.neP ok6
  refine Ez I6 hN hi (.inl hk) (v:=.ref y) rfl (fun s7 I7=>?_) (.inr hk)
  refine wpAny_mono (hs y pins s7 _ _ _ I7.marked (hsu y L.free)) (fun f s8 q8=>?_) fun _ _ z=>False.elim z
  cases f with
  | next=>
   obtain⟨σ8,H8,I8,q8⟩:=q8
   exact Cr (I8.unmarked hd) hN hi hk fun s9 I9=>⟨_,_,I9,q8⟩
  | brk=>
   obtain⟨σ8,H8,I8,q8⟩:=q8
   exact Cr (I8.unmarked hd) hN hi hk fun s9 I9=>⟨_,_,I9,q8⟩
  | cont=>
   obtain⟨σ8,H8,I8,q8⟩:=q8
   exact Cr (I8.unmarked hd) hN hi hk fun s9 I9=>⟨_,_,I9,q8⟩
  | ret u=>
   obtain⟨v,σ8,H8,I8,rv,q8⟩:=q8
   exact Cr (I8.unmarked hd) hN hi hk fun s9 I9=>⟨v,_,_,I9,rv,q8⟩
 ·obtain⟨hp,g,dr,tk,os⟩:=s
  refine R9 (hC _ IL.kIn) hob hobc hbase (fun q=>(PySem.W.looks_subIn IL.kIn hsub).at q) ?_
  exact hr pins σ H' y _ _ B a0 d D L da hrest
theorem Pq {X:Cx} {K:PySem.W.Frag} (hK:X.K=K):j5 X (.builtin "isinstance") (fun xs H Q=>∃y C d c b,xs=[.ref y,c]/\H y=some (caught y C d)/\Ui K C/\ZC K C c b/\Q (.bl b) H):=by
 subst hK
 intro pins s σ H xs us Q I r h
 obtain⟨y,C,d,c,b,rfl,hy,x,hc,q⟩:=h
 obtain⟨u,w',rfl,rx,ry⟩:=vals2 r
 cases rx
 have p:MP y C s.heap:=by
  have z:=I.hok y _ hy
  cases d with
  | some dx=>obtain⟨⟨_,_,w⟩,_⟩:=z;exact⟨_,w,rfl⟩
  | none=>obtain⟨⟨_,w,e⟩,_⟩:=z;exact⟨_,w,e⟩
 have fin:∀tk,EP X pins σ Q (.bool b) { s with toks:=tk }:=fun tk=>⟨.bl b,H,I.tok tk,rfl,q⟩
 cases c with
 | ref D=>cases ry;exact PySem.W.kia_one (J4 x) I.kIn p hc (by intro e;cases e) fin
 | ty T=>cases ry;exact PySem.W.kia_one (J4 x) I.kIn p hc (by intro e;cases e) fin
 | _=>exact(show False from hc).elim
section
variable {κ:Type} [DecidableEq κ]
noncomputable def cH (kvs:List (κ×V)) (k:κ):Option V:=(kvs.find? fun kv=>decide (kv.1=k)).map (·.2)
noncomputable def putK (kvs:List (κ×V)) (k:κ) (v:V):List (κ×V):=
 if (kvs.any fun kv=>decide (kv.1=k))=true then kvs.map (fun kv=>if kv.1=k then(kv.1,v) else kv) else kvs ++ [(k,v)]
theorem iD {p:κ×V} {r:List (κ×V)} {k:κ} (e:p.1=k):cH (p:: r) k=some p.2:=by simp [cH,List.find?_cons,e]
theorem gZ {p:κ×V} {r:List (κ×V)} {k:κ} (e:¬p.1=k):cH (p:: r) k=cH r k:=by simp [cH,List.find?_cons,e]
theorem rH (k:κ):∀kvs:List (κ×V),(kvs.any fun kv=>decide (kv.1=k))=(cH kvs k).isSome
 | []=>rfl
 | p:: r=>by
  rw [List.any_cons]
  by_cases e:p.1=k
  ·simp only [iD e,decide_eq_true e,Bool.true_or,Option.isSome_some]
  ·rw [gZ e,decide_eq_false e,Bool.false_or];exact rH k r
theorem JL (k j:κ) (y:V):∀kvs:List (κ×V),cH (kvs.map fun kv=>if kv.1=k then(kv.1,y) else kv) j=(cH kvs j).map fun x=>if j=k then y else x
 | []=>rfl
 | p:: r=>by
  have ih:=JL k j y r
  rw [List.map_cons]
  by_cases h:p.1=k
  ·rw [if_pos h]
   by_cases e:p.1=j
   ·rw [iD (p:=(p.1,y)) e,iD e,Option.map_some,if_pos (e.symm.trans h)]
   ·rw [gZ (p:=(p.1,y)) e,gZ e,ih]
  ·rw [if_neg h]
   by_cases e:p.1=j
   ·rw [iD (p:=p) e,iD e,Option.map_some,if_neg (fun z=>h (e.trans z))]
   ·rw [gZ (p:=p) e,gZ e,ih]
theorem Gu (k j:κ) (y:V):∀kvs:List (κ×V),cH kvs k=none->cH (kvs ++ [(k,y)]) j=if j=k then some y else cH kvs j
 | [],_=>by
  by_cases e:k=j
  ·rw [if_pos e.symm];exact iD (p:=(k,y)) e
  ·rw [if_neg (fun z=>e z.symm)];exact gZ (p:=(k,y)) e
 | p:: r,hn=>by
  rw [List.cons_append]
  have hk:¬p.1=k:=fun z=>by rw [iD z] at hn;cases hn
  rw [gZ hk] at hn
  have ih:=Gu k j y r hn
  by_cases e:p.1=j
  ·rw [iD e,iD e,if_neg (fun z=>hk (e.trans z))]
  ·rw [gZ e,gZ e,ih]
theorem RP (kvs:List (κ×V)) (k j:κ) (y:V):cH (putK kvs k y) j=if j=k then some y else cH kvs j:=by
 unfold putK
 by_cases a:(kvs.any fun kv=>decide (kv.1=k))=true
 ·rw [if_pos a,JL]
  rw [rH] at a
  by_cases e:j=k
  ·obtain⟨x,hx⟩:=Option.isSome_iff_exists.mp a
   rw [if_pos e,e,hx,Option.map_some,if_pos rfl]
  ·rw [if_neg e]
   cases cH kvs j with
   | none=>rfl
   | some x=>rw [Option.map_some,if_neg e]
 ·rw [if_neg a]
  refine Gu k j y kvs ?_
  rw [rH] at a
  cases q:cH kvs k with
  | none=>rfl
  | some x=>rw [q] at a;exact(a rfl).elim
theorem mR (kvs:List (κ×V)) (k:κ) (v:V):(putK kvs k v).length<=kvs.length+1:=by
 unfold putK
 split
 ·rw [List.length_map];omega
 ·rw [List.length_append,List.length_cons,List.length_nil];omega
theorem jf {kvs:List (κ×V)} {k:κ} (v:V) (h:cH kvs k=none):putK kvs k v=kvs ++ [(k,v)]:=by
 unfold putK
 rw [rH,h]
 exact if_neg (by decide)
theorem qM.isSome_eq {o:Option V} {u:Option Value} (r:qM o u):o.isSome=u.isSome:=by
 cases o with
 | none=>cases u with
  | none=>rfl
  | some _=>exact(show False from r).elim
 | some _=>cases u with
  | none=>exact(show False from r).elim
  | some _=>rfl
theorem qM.getD {o:Option V} {u:Option Value} {d:V} {d':Value} (r:qM o u) (rd:RelV d d'):RelV (o.getD d) (u.getD d'):=by
 cases o with
 | none=>cases u with
  | none=>exact rd
  | some _=>exact(show False from r).elim
 | some _=>cases u with
  | none=>exact(show False from r).elim
  | some _=>exact r
theorem KV.val {kvs:List (κ×V)} {vs:List (κ×Value)} (r:KV kvs vs) (k:κ):qM (cH kvs k) (valueAt vs k):=by
 unfold KV at r
 induction r with
 | nil=>exact True.intro
 | @cons p q ps qs h t ih=>
  obtain⟨h1,h2⟩:=h
  by_cases e:p.1=k
  ·have e':q.1=k:=h1.symm.trans e
   have b:valueAt (q:: qs) k=some q.2:=by simp [valueAt,List.find?_cons,e']
   rw [iD e,b];exact h2
  ·have e':¬q.1=k:=fun z=>e (h1.trans z)
   have b:valueAt (q:: qs) k=valueAt qs k:=by simp [valueAt,List.find?_cons,e']
   rw [gZ e,b];exact ih
theorem KV.any {kvs:List (κ×V)} {vs:List (κ×Value)} (r:KV kvs vs) (k:κ):(kvs.any fun kv=>decide (kv.1=k))=vs.any fun kv=>decide (kv.1=k):=by
 unfold KV at r
 induction r with
 | nil=>rfl
 | cons h t ih=>rw [List.any_cons,List.any_cons,ih,h.1]
theorem KV.repl {kvs:List (κ×V)} {vs:List (κ×Value)} (r:KV kvs vs) (k:κ) {y:V} {u:Value} (ry:RelV y u):
  KV (kvs.map fun kv=>if kv.1=k then(kv.1,y) else kv) (vs.map fun kv=>if kv.1=k then(kv.1,u) else kv):=by
 unfold KV at r ⊢
 induction r with
 | nil=>exact .nil
 | @cons p q ps qs h t ih=>
  rw [List.map_cons,List.map_cons]
  refine .cons ?_ ih
  obtain⟨h1,h2⟩:=h
  by_cases e:p.1=k
  ·rw [if_pos e,if_pos (h1.symm.trans e)];exact⟨h1,ry⟩
  ·rw [if_neg e,if_neg (fun z=>e (h1.trans z))];exact⟨h1,h2⟩
theorem KV.put {kvs:List (κ×V)} {vs:List (κ×Value)} (r:KV kvs vs) (k:κ) {y:V} {u:Value} (ry:RelV y u):KV (putK kvs k y) (stored vs k u):=by
 unfold putK stored
 rw [r.any k]
 by_cases e:(vs.any fun kv=>decide (kv.1=k))=true
 ·rw [if_pos e,if_pos e];exact r.repl k ry
 ·rw [if_neg e,if_neg e];exact Paired.snoc r ⟨rfl,ry⟩
theorem KV.length {kvs:List (κ×V)} {vs:List (κ×Value)} (r:KV kvs vs):kvs.length=vs.length:=Paired.length r
end
theorem Ec {P:Program} {w:World} {k:Key} {u:Value} (r:RelV (kV k) u):(dB P w).is k u=true:=by
 cases k with
 | inl i=>obtain⟨t,e⟩:=(show ∃t,u=Value.int i t from r);subst e;exact Ks P w i t
 | inr x=>obtain⟨t,e⟩:=(show ∃t,u=Value.str x t from r);subst e;exact mL P w x t
theorem Hc {P:Program} {w:World}:∀{ks:List Key} {us:List Value},Vals (ks.map kV) us->ItemsAre (dB P w) ks us
 | [],_,r=>by rw [List.map_nil] at r;cases r;exact .nil
 | k:: ks,_,r=>by
  rw [List.map_cons] at r
  cases r with
  | cons h t=>exact .cons (Ec h) (Hc t)
noncomputable abbrev KT (H:Hp):List (List Key×V)->List (List Key×Addr×Value)->Prop:=Paired fun p q=>p.1=q.1/\H q.2.1=some (.tup (p.1.map kV))/\RelV p.2 q.2.2
theorem KT.val {H:Hp} {kvs:List (List Key×V)} {xs:List (List Key×Addr×Value)} (r:KT H kvs xs) (k:List Key):qM (cH kvs k) ((atKey xs k).map (·.2)):=by
 induction r with
 | nil=>exact True.intro
 | @cons p q ps qs h t ih=>
  obtain⟨h1,_,h2⟩:=h
  by_cases e:p.1=k
  ·have e':q.1=k:=h1.symm.trans e
   have b:atKey (q:: qs) k=some q.2:=by simp [atKey,List.find?_cons,e']
   rw [iD e,b];exact h2
  ·have e':¬q.1=k:=fun z=>e (h1.trans z)
   have b:atKey (q:: qs) k=atKey qs k:=by simp [atKey,List.find?_cons,e']
   rw [gZ e,b];exact ih
theorem KT.repl {H:Hp} {kvs:List (List Key×V)} {xs:List (List Key×Addr×Value)} (r:KT H kvs xs) (k:List Key) {y:V} {u:Value} (ry:RelV y u):
  KT H (kvs.map fun kv=>if kv.1=k then(kv.1,y) else kv) (xs.map (putAt k u)):=by
 induction r with
 | nil=>exact .nil
 | @cons p q ps qs h t ih=>
  rw [List.map_cons,List.map_cons]
  refine .cons ?_ ih
  obtain⟨h1,h2,h3⟩:=h
  unfold putAt
  by_cases e:p.1=k
  ·rw [if_pos e,if_pos (h1.symm.trans e)];exact⟨h1,h2,ry⟩
  ·rw [if_neg e,if_neg (fun z=>e (h1.trans z))];exact⟨h1,h2,h3⟩
theorem KT.put {H:Hp} {kvs:List (List Key×V)} {xs:List (List Key×Addr×Value)} (r:KT H kvs xs) (k:List Key) {b:Addr} {y:V} {u:Value} (hb:H b=some (.tup (k.map kV))) (ry:RelV y u):
  KT H (putK kvs k y) (storedH xs k b u):=by
 have e:(kvs.any fun kv=>decide (kv.1=k))=(atKey xs k).isSome:=by
  rw [rH,(r.val k).isSome_eq,Option.isSome_map]
 unfold putK storedH
 rw [e]
 by_cases q:(atKey xs k).isSome=true
 ·rw [if_pos q,if_pos q];exact r.repl k ry
 ·rw [if_neg q,if_neg q];exact Paired.snoc r ⟨rfl,hb,ry⟩
theorem KT.keeps {H H':Hp} {kvs:List (List Key×V)} {xs:List (List Key×Addr×Value)} (r:KT H kvs xs) (ht:∀b ys,H b=some (.tup ys)->H' b=some (.tup ys)):KT H' kvs xs:=
 Paired.mapP r fun _ _ z=>⟨z.1,ht _ _ z.2.1,z.2.2⟩
section
variable {P:Program} {w:World} {H:Hp} {h:Heap} {a:Addr}
theorem Vk {u:HO} (ok:uz P w H h) (e:Rd H a u):dX P w H h a u:=e.ok ok
theorem Bc {kvs:List (Key×V)} (ok:uz P w H h) (e:Rd H a (.dK kvs)):kvs.length<=sizeLine/\(a == sysModules)=false/\∃vs,KV kvs vs/\h.DictOf (dB P w) a vs:=
 show dX P w H h a (.dK kvs) from Vk ok e
theorem VL {kvs:List (Key×V)} (ok:uz P w H h) (e:H a=some (.dK kvs)):kvs.length<=sizeLine/\(a == sysModules)=false/\∃vs,KV kvs vs/\h.DictOf (dB P w) a vs:=Bc ok (.inl e)
theorem zB {ks:List Key} (ok:uz P w H h) (e:H a=some (.tup (ks.map kV))):(tupleKind (dB P w)).is h ks a:=by
 obtain⟨_,its,r,o,h1,h2,n,h3⟩:=(show dX P w H h a (.tup (ks.map kV)) from ok a _ e)
 exact⟨o,its.toArray,n,h1,h2,h3,by simpa using Hc r⟩
theorem DP {kvs:List (List Key×V)} (ok:uz P w H h) (e:Rd H a (.dT kvs)):kvs.length<=sizeLine/\(a == sysModules)=false/\
  ∃xs,KT H kvs xs/\h.DictOfH (tupleKind (dB P w)) a xs:=by
 obtain⟨z,y,xs,r,o,es,ep,h1,h2,h3,h4,h5⟩:=(show dX P w H h a (.dT kvs) from Vk ok e)
 refine⟨z,y,xs,r,o,es,ep,h1,h2,h3,h4,fun x hx=>?_,h5⟩
 have all:∀{l:List (List Key×V)} {m:List (List Key×Addr×Value)},KT H l m->∀x∈m,(tupleKind (dB P w)).is h x.1 x.2.1:=by
  intro l m q
  induction q with
  | nil=>intro x hx;exact nomatch hx
  | @cons p q ps qs hq t ih=>
   intro x hx
   rcases List.mem_cons.mp hx with e | hx
   ·subst e
    exact zB ok (by rw [<-hq.1];exact hq.2.1)
   ·exact ih x hx
 exact all r x hx
theorem Yn {kvs:List (List Key×V)} (ok:uz P w H h) (e:H a=some (.dT kvs)):kvs.length<=sizeLine/\(a == sysModules)=false/\
  ∃xs,KT H kvs xs/\h.DictOfH (tupleKind (dB P w)) a xs:=DP ok (.inl e)
end
noncomputable def eX (H:Hp) (a:Addr) (y:V) (r:Option V):Prop:=
 (∃kvs k,Rd H a (.dK kvs)/\y=kV k/\r=cH kvs k)∨∃kvs k b,Rd H a (.dT kvs)/\y=.ref b/\H b=some (.tup (k.map kV))/\r=cH kvs k
noncomputable def oN (H:Hp) (a:Addr) (y v:V) (H':Hp):Prop:=
 (∃kvs k,H a=some (.dK kvs)/\y=kV k/\kvs.length <sizeLine/\H'=upd H a (.dK (putK kvs k v)))∨
 ∃kvs k b,H a=some (.dT kvs)/\y=.ref b/\H b=some (.tup (k.map kV))/\kvs.length <sizeLine/\H'=upd H a (.dT (putK kvs k v))
theorem eX.k {H:Hp} {a:Addr} {kvs:List (Key×V)} {k:Key} (e:H a=some (.dK kvs)):eX H a (kV k) (cH kvs k):=.inl ⟨kvs,k,.inl e,rfl,rfl⟩
theorem oN.k {H:Hp} {a:Addr} {kvs:List (Key×V)} {k:Key} {v:V} (e:H a=some (.dK kvs)) (hl:kvs.length <sizeLine):oN H a (kV k) v (upd H a (.dK (putK kvs k v))):=.inl ⟨kvs,k,e,rfl,hl,rfl⟩
section
variable {X:Cx} {pins:List (Addr×Obj)} {σ:St} {H:Hp} {s:Shared} {a:Addr} {y v:V} {u r:Value} {o:Option V} {A:Around} {E:Value->Shared->Prop}
theorem Inv.big (I:Inv X pins σ H s):sysModules <s.heap.objs.size:=by
 have h:mainGlobals <s.heap.objs.size:=(I.mod.glob.keeps I.bk).lt
 exact Nat.lt_trans (by decide) h
theorem Gx {Q:Value->Shared->Prop} (hu:A.units+1 <cLine) (I:Inv X pins σ H s) (g:eX H a y (some v)) (ry:RelV y u) (h:∀w' s',Inv X pins σ H s'->RelV v w'->Q w' s'):
  wpAny (model X.prog X.w) A (getItem (.ref a) u) Q E s:=by
 rcases g with ⟨kvs,k,e,ey,l⟩ | ⟨kvs,k,b,e,ey,eb,l⟩
 ·subst ey
  obtain⟨z,hd,vs,rel,dd⟩:=Bc I.hok e
  obtain⟨w',hw,rw'⟩:=qM.some_of (v:=v) (o:=valueAt vs k) (by rw [l];exact rel.val k)
  exact wpAny_getItem_of (Ec ry) dd.mapOf hw (h w' _ (I.tok _) rw')
 ·subst ey
  cases (show u=Value.ref b from ry)
  obtain⟨z,hd,xs,rel,dd⟩:=DP I.hok e
  obtain⟨w',hw,rw'⟩:=qM.some_of (v:=v) (o:=(atKey xs k).map (·.2)) (by rw [l];exact rel.val k)
  obtain⟨p,hp,hp2⟩:=Option.map_eq_some_iff.mp hw
  refine wpAny_getItem_heap (tupleKind_room_in1 hu) (zB I.hok eb) dd hp ?_
  rw [hp2]
  exact h w' _ (I.tok _) rw'
theorem ZK {Q:Value->Shared->Prop} (hu:A.units+1 <cLine) (I:Inv X pins σ H s) (g:eX H a y o) (ry:RelV y u) (h:∀s',Inv X pins σ H s'->Q (.bool o.isSome) s'):
  wpAny (model X.prog X.w) A (compareOp .In u (.ref a)) Q E s:=by
 rcases g with ⟨kvs,k,e,ey,l⟩ | ⟨kvs,k,b,e,ey,eb,l⟩
 ·subst ey
  obtain⟨z,hd,vs,rel,dd⟩:=Bc I.hok e
  refine wpAny_in_of (Ec ry) hd dd.mapOf ?_
  rw [<-(rel.val k).isSome_eq,<-l]
  exact h _ (I.tok _)
 ·subst ey
  cases (show u=Value.ref b from ry)
  obtain⟨z,hd,xs,rel,dd⟩:=DP I.hok e
  refine wpAny_in_heap (tupleKind_room_in1 hu) (zB I.hok eb) hd dd ?_
  have q:=(rel.val k).isSome_eq
  rw [Option.isSome_map] at q
  rw [<-q,<-l]
  exact h _ (I.tok _)
theorem Uk {Q:Value->Shared->Prop} (hu:A.units+1 <cLine) (I:Inv X pins σ H s) (g:eX H a y o) (ry:RelV y u) (h:∀s',Inv X pins σ H s'->Q (.bool (!o.isSome)) s'):
  wpAny (model X.prog X.w) A (compareOp .NotIn u (.ref a)) Q E s:=by
 rcases g with ⟨kvs,k,e,ey,l⟩ | ⟨kvs,k,b,e,ey,eb,l⟩
 ·subst ey
  obtain⟨z,hd,vs,rel,dd⟩:=Bc I.hok e
  refine wpAny_notIn_of (Ec ry) hd dd.mapOf ?_
  rw [<-(rel.val k).isSome_eq,<-l]
  exact h _ (I.tok _)
 ·subst ey
  cases (show u=Value.ref b from ry)
  obtain⟨z,hd,xs,rel,dd⟩:=DP I.hok e
  refine wpAny_notIn_heap (tupleKind_room_in1 hu) (zB I.hok eb) hd dd ?_
  have q:=(rel.val k).isSome_eq
  rw [Option.isSome_map] at q
  rw [<-q,<-l]
  exact h _ (I.tok _)
theorem Ik {h':Heap} {t':Nat} {ob:HO} (I:Inv X pins σ H s) (mu:YJ (H a)) (hs:Heap.SameBut a s.heap h') (he:∃q,h'.get? a=some q) (new:dX X.prog X.w (upd H a ob) h' a ob):
  Inv X pins σ (upd H a ob) { s with heap:=h',toks:=t' }:=
 I.write (x:=a) (e:=a) mu (.inl rfl) (fun b q hb z=>(hs.2 b hb).trans z) he new
theorem SX {P:Program} {w:World} {H':Hp} {h':Heap} {kvs:List (Key×V)} {vs:List (Key×Value)} (z:kvs.length<=sizeLine) (hd:(a == sysModules)=false) (rel:KV kvs vs) (dd:h'.DictOf (dB P w) a vs):
  dX P w H' h' a (.dK kvs):=⟨z,hd,vs,rel,dd⟩
theorem GQ {H':Hp} {Q:Unit->Shared->Prop} (hu:A.units+1 <cLine) (I:Inv X pins σ H s) (g:oN H a y v H') (ry:RelV y u) (rv:RelV v r) (h:∀s',Inv X pins σ H' s'->Q () s'):
  wpAny (model X.prog X.w) A (setItem (.ref a) u r) Q E s:=by
 rcases g with ⟨kvs,k,e,ey,l,eH⟩ | ⟨kvs,k,b,e,ey,eb,l,eH⟩
 ·subst ey eH
  obtain⟨z,hd,vs,rel,dd⟩:=VL I.hok e
  have hz:vs.length<=sizeLine:=by rw [<-rel.length];exact z
  have hl:(putK kvs k v).length<=sizeLine:=by have:=mR kvs k v;omega
  refine wpAny_setItem_pairs (hsz:=hz) (Ec ry) dd fun h' dd' hs=>h _ ?_
  have he:∃q,h'.get? a=some q:=let ⟨q,_,_,hq,_⟩:=dd';⟨q,hq⟩
  exact Ik I (by rw [e];exact True.intro) hs he (SX hl hd (rel.put k rv) dd')
 ·subst ey eH
  cases (show u=Value.ref b from ry)
  obtain⟨z,hd,xs,rel,dd⟩:=Yn I.hok e
  have hz:xs.length<=sizeLine:=by rw [<-Paired.length rel];exact z
  have hl:(putK kvs k v).length<=sizeLine:=by have:=mR kvs k v;omega
  refine wpAny_setItem_heap (hsz:=hz) (tupleKind_room_in1 hu) (zB I.hok eb) dd fun h' dd' hs=>h _ ?_
  obtain⟨q,es,ep,hq,h2,h3,h4,_,h5⟩:=dd'
  refine Ik I (by rw [e];exact True.intro) hs ⟨q,hq⟩ ⟨hl,hd,_,(rel.put k eb rv).keeps fun c ys ec=>?_,q,es,ep,hq,h2,h3,h4,h5⟩
  rw [aG (mK ec e (fun z=>nomatch z))]
  exact ec
end
section
variable {X:Cx} {pins:List (Addr×Obj)} {σ:St} {H:Hp} {s:Shared} {a:Addr} {kvs:List (Key×V)} {k:Key} {u:Value} {A:Around} {E:Value->Shared->Prop}
end
noncomputable def Xw (i:Expr):Prop:=∀ov iv,subscripted i false ov iv=operate [ov,iv] (getItem ov iv)
theorem UJ {prog:Program} {w:World} {A:Around} {E:Value->Shared->Prop} {s:Shared} {env:Env} {value slice:Expr} {pos:Pos} {T id:String} {Q:Value->Shared->Prop}
  (hl:typeLookup (.type T) "__getitem__" =pure (some (.builtin id))) (hs:Xw slice)
  (h:wpAny (model prog w) A (eval value env) (fun o s₁=>wpAny (model prog w) A (eval slice env) (fun i s₂=>s₂.TypeIs o T/\wpAny (model prog w) A (getItem o i) Q E s₂) E s₁) E s):
  wpAny (model prog w) A (eval (.Subscript value slice pos) env) Q E s:=by
 refine Subscript_ (wpAny_mono h (fun o s₁ h₁=>wpAny_mono h₁ (fun i s₂ h₂=>?_) fun _ _ x=>x) fun _ _ x=>x)
 obtain⟨hT,h₂⟩:=h₂
 unfold subscriptTail
 refine wpAny_bind ?_
 rw [getitemInPython_of_ne hT.not_modules]
 refine wpAny_bind (wpAny_specialOf hT hl ?_)
 have fin:wpAny (model prog w) A (subscripted slice false o i) (fun r s₃=>wpAny (model prog w) A (letTemporaryGo value o r >>= fun _=>pure r) Q E s₃) E s₂:=by
  rw [hs o i]
  exact wpAny_operating (wpAny_mono h₂ (fun r s₃ h₃=>wpAny_bind (wpAny_letTemporaryGo (wpAny_pure h₃))) fun _ _ x=>x)
 first
  | exact wpAny_pure (wpAny_bind fin)
  | exact wpAny_bind (wpAny_pure (wpAny_bind fin))
  | exact wpAny_bind fin
theorem JV {X:Cx} {pins:List (Addr×Obj)} {σ:St} {H:Hp} {s:Shared} {a:Addr} {y:V} {o:Option V} (I:Inv X pins σ H s) (g:eX H a y o):s.TypeIs (.ref a) "dict" :=by
 rcases g with ⟨kvs,k,e,_,_⟩ | ⟨kvs,k,b,e,_,_,_⟩
 ·obtain⟨_,_,vs,_,dd⟩:=Bc I.hok e
  exact dd.typeIs
 ·obtain⟨_,_,xs,_,dd⟩:=DP I.hok e
  exact dd.typeIs
inductive Ry (Q:VK) (x:V) (y:V) (H2:Hp):Prop where
 | mk:∀a v,x=.ref a->eX H2 a y (some v)->Q v H2->Ry Q x y H2
noncomputable def YQ (td ty:TE):TE:=fun σ H Q=>td σ H fun x H1=>ty σ H1 fun y H2=>Ry Q x y H2
inductive VH (Q:VK) (y:V) (x:V) (H2:Hp):Prop where
 | mk:∀a o,x=.ref a->eX H2 a y o->Q (.bl o.isSome) H2->VH Q y x H2
noncomputable def Zh (ty td:TE):TE:=fun σ H Q=>ty σ H fun y H1=>td σ H1 fun x H2=>VH Q y x H2
inductive J2 (Q:VK) (y:V) (x:V) (H2:Hp):Prop where
 | mk:∀a o,x=.ref a->eX H2 a y o->Q (.bl (!o.isSome)) H2->J2 Q y x H2
noncomputable def U3 (ty td:TE):TE:=fun σ H Q=>ty σ H fun y H1=>td σ H1 fun x H2=>J2 Q y x H2
inductive QV (D:Ends) (σ:St) (v:V) (x:V) (y:V) (H3:Hp):Prop where
 | mk:∀a H4,x=.ref a->oN H3 a y v H4->D.nx σ H4->QV D σ v x y H3
noncomputable def Yt (td ty tv:TE):TS:=fun D σ H=>tv σ H fun v H1=>td σ H1 fun x H2=>ty σ H2 fun y H3=>QV D σ v x y H3
inductive Sx (tv:TE) (rd:V->V->Hp->VK->Prop) (D:Ends) (σ:St) (x:V) (y:V) (H2:Hp):Prop where
 | mk:∀a v,x=.ref a->eX H2 a y (some v)->(tv σ H2 fun y2 H3=>rd v y2 H3 fun z H4=>∃H5,oN H4 a y z H5/\D.nx σ H5)->Sx tv rd D σ x y H2
noncomputable def Yb (td ty tv:TE) (rd:V->V->Hp->VK->Prop):TS:=fun D σ H=>td σ H fun x H1=>ty σ H1 fun y H2=>Sx tv rd D σ x y H2
section
variable {X:Cx} {o i e value:Expr} {pos pos' tpos:Pos} {td ty tv:TE}
theorem cG (hu:X.A.units+1 <cLine) (ho:PE X o td) (hi:PE X i ty) (hs:Xw i):PE X (.Subscript o i pos) (YQ td ty):=by
 intro pins s σ H Q I h
 refine UJ PySem.F.slot_dict_getitem.lookup hs (dZ (ho pins s σ H _ I h) fun u s1 ⟨x,H1,I1,rx,q1⟩=>dZ (hi pins s1 σ H1 _ I1 q1) fun iv s2 hpt=>?_)
 obtain⟨y,H2,I2,ry,a,v,ex,g,q2⟩:=hpt
 subst ex
 obtain rfl:u=Value.ref a:=rx
 exact⟨JV I2 g,Gx hu I2 g ry fun w' s3 I3 rw'=>⟨v,H2,I3,rw',q2⟩⟩
theorem z8 (hu:X.A.units+1 <cLine) (hi:PE X i ty) (ho:PE X o td):PC X .In i o (Zh ty td):=by
 intro pins s σ H Q I h
 refine dZ (hi pins s σ H _ I h) fun iv s1 ⟨y,H1,I1,ry,q1⟩=>dZ (ho pins s1 σ H1 _ I1 q1) fun u s2 hpt=>?_
 obtain⟨x,H2,I2,rx,a,ov,ex,g,q2⟩:=hpt
 subst ex
 obtain rfl:u=Value.ref a:=rx
 exact ZK hu I2 g ry fun s3 I3=>⟨.bl ov.isSome,H2,I3,rfl,q2⟩
theorem vV (hu:X.A.units+1 <cLine) (hi:PE X i ty) (ho:PE X o td):PC X .NotIn i o (U3 ty td):=by
 intro pins s σ H Q I h
 refine dZ (hi pins s σ H _ I h) fun iv s1 ⟨y,H1,I1,ry,q1⟩=>dZ (ho pins s1 σ H1 _ I1 q1) fun u s2 hpt=>?_
 obtain⟨x,H2,I2,rx,a,ov,ex,g,q2⟩:=hpt
 subst ex
 obtain rfl:u=Value.ref a:=rx
 exact Uk hu I2 g ry fun s3 I3=>⟨.bl (!ov.isSome),H2,I3,rfl,q2⟩
theorem f9 (hu:X.A.units+1 <cLine) (ho:PE X o td) (hi:PE X i ty) (hv:PE X value tv) (hs:swapsWith value (some (.Subscript o i pos')) pos.line X.env=pure false):
  PS X (.Assign [.Subscript o i pos'] value pos) (Yt td ty tv):=by
 intro pins s σ H D I h
 refine wpAny_Assign_Subscript (dZ (hv pins s σ H _ I h) fun r s1 ⟨v,H1,I1,rv,q1⟩=>dZ (ho pins s1 σ H1 _ I1 q1) fun u s2 ⟨x,H2,I2,rx,q2⟩=>dZ (hi pins s2 σ H2 _ I2 q2) fun iv s3 hpt=>?_) hs
 obtain⟨y,H3,I3,ry,a,H4,ex,g,q3⟩:=hpt
 subst ex
 obtain rfl:u=Value.ref a:=rx
 exact GQ hu I3 g ry rv fun s4 I4=>⟨σ,H4,I4,q3⟩
theorem Nh {op:Operator} {rd:V->V->Hp->VK->Prop} (hu:X.A.units+1 <cLine) (ho:PE X o td) (hi:PE X i ty) (hv:PE X value tv) (hop:Y5 X op rd)
  (ha:∀ov iv new,augStore i ov iv new=(do holding [new,ov,iv] (setItem ov iv new);release [new,ov,iv] [];pure .next)):PS X (.AugAssign (.Subscript o i tpos) op value pos) (Yb td ty tv rd):=by
 intro pins s σ H D I h
 refine wpAny_AugAssign_SubscriptAny (dZ (ho pins s σ H _ I h) fun u s1 ⟨x,H1,I1,rx,q1⟩=>dZ (hi pins s1 σ H1 _ I1 q1) fun iv s2 hpt=>?_) ha
 obtain⟨y,H2,I2,ry,a,v,ex,g,q2⟩:=hpt
 subst ex
 obtain rfl:u=Value.ref a:=rx
 refine Gx hu I2 g ry fun w' s3 I3 rw'=>dZ (hv pins s3 σ H2 _ I3 q2) fun w2 s4 ⟨y2,H3,I4,ry2,q3⟩=>dZ (hop pins s4 σ H3 v y2 w' w2 _ I4 rw' ry2 q3) fun w3 s5 hpt=>?_
 obtain⟨z,H4,I5,rz,H5,g5,q4⟩:=hpt
 exact GQ hu I5 g5 ry rz fun s6 I6=>⟨σ,H5,I6,q4⟩
end
theorem JT {P:Program} {w:World} {H:Hp} (h:Heap) (hb:sysModules <h.objs.size):dX P w H (h.push { cls:=.type "dict",data:=.dict #[] }) h.objs.size (.dK []):=
 ⟨Nat.zero_le _,beq_eq_false_iff_ne.mpr (Ne.symm (Nat.ne_of_lt hb)),[],.nil,Heap.DictOf.new h⟩
noncomputable def W3:TE:=fun _ H Q=>∀p,H p=none->Q (.ref p) (upd H p (.dK []))
section
variable {X:Cx} {pos:Pos}
theorem gh:PE X (.Dict [] [] pos) W3:=fun pins s σ H Q I h=>
 wpAny_Dict_empty ⟨.ref s.heap.objs.size,_,I.laid (a:=s.heap.objs.size) (o:=.dK []) (t':=s.toks) (fun _ _ q=>Heap.get?_push_of_some _ q) (Nat.le_refl _) (JT s.heap I.big),rfl,h _ (I.hok.fresh (Nat.le_refl _))⟩
end
noncomputable def K8:List (TE×TE)->St->Hp->(List (V×V)->Hp->Prop)->Prop
 | [],_,H,Q=>Q [] H
 | (tk,tv):: r,σ,H,Q=>tk σ H fun x H1=>tv σ H1 fun y H2=>K8 r σ H2 fun ps H3=>Q ((x,y):: ps) H3
noncomputable abbrev VV:List (V×V)->List (Value×Value)->Prop:=Paired fun p q=>RelV p.1 q.1/\RelV p.2 q.2
noncomputable def Y4 (X:Cx) (pos:Pos) (keys:List (Option Expr)) (values:List Expr) (trs:List (TE×TE)):Prop:=
 ∀(pins:List (Addr×Obj)) (s:Shared) (σ:St) (H:Hp) (Q:List (V×V)->Hp->Prop),Inv X pins σ H s->K8 trs σ H Q->
  wpAny (model X.prog X.w) X.A (evalPairs (pairTrees keys values X.env pos)) (fun vs s'=>∃ps H',Inv X pins σ H' s'/\VV ps vs/\Q ps H') X.xe s
theorem TY {X:Cx} {pos:Pos}:Y4 X pos [] [] []:=fun pins s σ H Q I h=>pairTrees_nil_walk ⟨[],H,I,.nil,h⟩
theorem Rk {X:Cx} {pos:Pos} {k v:Expr} {ks:List (Option Expr)} {vs:List Expr} {tk tv:TE} {trs:List (TE×TE)} (hk:PE X k tk) (hv:PE X v tv) (hr:Y4 X pos ks vs trs):
  Y4 X pos (some k:: ks) (v:: vs) ((tk,tv):: trs):=fun pins s σ H Q I h=>
 pairTrees_cons_walk (dZ (hk pins s σ H _ I h) fun u s1 ⟨x,H1,I1,rx,q1⟩=>dZ (hv pins s1 σ H1 _ I1 q1) fun w2 s2 ⟨y,H2,I2,ry,q2⟩=>
  dZ (hr pins s2 σ H2 _ I2 q2) fun ws s3 ⟨ps,H3,I3,rel,q3⟩=>⟨(x,y):: ps,H3,I3,.cons ⟨rx,ry⟩ rel,q3⟩)
noncomputable def vm (kvs more:List (Key×V)):List (Key×V):=more.foldl (fun acc kv=>putK acc kv.1 kv.2) kvs
theorem KV.merge:∀{more:List (Key×V)} {rs:List (Key×Value)} {kvs:List (Key×V)} {vs:List (Key×Value)},KV more rs->KV kvs vs->KV (vm kvs more) (merged vs rs):=by
 intro more rs kvs vs r
 unfold KV at r
 induction r generalizing kvs vs with
 | nil=>intro q;exact q
 | @cons p q ps qs h t ih=>
  intro r0
  have e:KV (putK kvs p.1 p.2) (stored vs q.1 q.2):=by
   have:=r0.put p.1 h.2
   rw [<-h.1];exact this
  exact ih e
theorem xg:∀(more kvs:List (Key×V)),(vm kvs more).length<=kvs.length+more.length
 | [],kvs=>by show kvs.length<=kvs.length+0;omega
 | p:: r,kvs=>by
  have h1:=xg r (putK kvs p.1 p.2)
  have h2:=mR kvs p.1 p.2
  show(vm (putK kvs p.1 p.2) r).length<=_
  rw [List.length_cons];omega
theorem Em {P:Program} {w:World}:∀{kvs:List (Key×V)} {ws:List (Value×Value)},VV (kvs.map fun kv=>(kV kv.1,kv.2)) ws->∃rs,Carries (dB P w) ws rs/\KV kvs rs
 | [],_,r=>by rw [List.map_nil] at r;cases r;exact⟨[],True.intro,.nil⟩
 | p:: kvs,_,r=>by
  rw [List.map_cons] at r
  cases r with
  | @cons a b as bs h t=>
   obtain⟨rs,c,q⟩:=Em (P:=P) (w:=w) t
   obtain⟨b1,b2⟩:=b
   exact⟨(p.1,b2):: rs,⟨Ec h.1,rfl,c⟩,.cons ⟨rfl,h.2⟩ q⟩
noncomputable def XD (trs:List (TE×TE)):TE:=fun σ H Q=>∀p,H p=none->K8 trs σ (upd H p (.dK [])) fun ps H2=>H2 p=some (.dK [])/\∃kvs:List (Key×V),ps=kvs.map (fun kv=>(kV kv.1,kv.2))/\kvs.length<=15/\Q (.ref p) (upd H2 p (.dK (vm [] kvs)))
theorem Ue {X:Cx} {pos:Pos} {keys:List (Option Expr)} {values:List Expr} {trs:List (TE×TE)} (h:Y4 X pos keys values trs) (hall:keys.all (·.isSome)=true) (hl:keys.length=values.length) (h0:keys≠[])
  (h15:keys.length<=15):PE X (.Dict keys values pos) (XD trs):=by
 intro pins s σ H Q I q
 have hn:=I.hok.fresh (Nat.le_refl s.heap.objs.size)
 have I1:=I.laid (a:=s.heap.objs.size) (o:=.dK []) (h':=s.heap.push { cls:=.type "dict",data:=.dict #[] }) (t':=s.toks) (fun _ _ q=>Heap.get?_push_of_some _ q) (Nat.le_refl _) (JT s.heap I.big)
 refine wpAny_Dict_walk (knd:=dB X.prog X.w) hall hl h0 h15 (dZ (h pins _ σ _ _ I1 (q _ hn)) fun ws s2 hpt=>?_)
 obtain⟨ps,H2,I2,rel,e,kvs,ep,lk,q2⟩:=hpt
 subst ep
 obtain⟨rs,c,rk⟩:=Em (P:=X.prog) (w:=X.w) rel
 obtain⟨z,hd,vs0,r0,dd⟩:=VL I2.hok e
 cases r0
 refine⟨rs,c,dd,fun h' dd' hs=>⟨.ref s.heap.objs.size,_,?_,rfl,q2⟩⟩
 have hz:(vm [] kvs).length<=sizeLine:=by
  have h1:=xg kvs []
  rw [List.length_nil] at h1
  rw [sizeLine_eq];omega
 have he:∃q,h'.get? s.heap.objs.size=some q:=let ⟨q,_,_,hq,_⟩:=dd';⟨q,hq⟩
 exact Ik I2 (by rw [e];exact True.intro) hs he (SX hz hd (rk.merge .nil) dd')
structure M2 (X:Cx) (o:Expr) (m:Str) (apos:Pos) (e f:Expr) (cpos:Pos):Prop where
 base:attributeBase o m X.env (eval o X.env)=eval o X.env
 few:((backTo cpos (starEach [e,f] X.env)).all (fun x=>!x.1) && (backToKw cpos (keywordEach [] X.env)).all (fun x=>x.1.isSome)
  && decide (([e,f]:List Expr).length+([]:List Keyword).length+(if ([]:List Keyword).isEmpty then 0 else 1) <30))=true
 line:(apos.endLine == cpos.line)=true
 trees:backTo cpos (starEach [e,f] X.env)=[(false,eval e X.env),(false,eval f X.env)]
noncomputable def Z0 (H:Hp) (a:Addr):Prop:=(∃kvs,Rd H a (.dK kvs))∨∃kvs,Rd H a (.dT kvs)
theorem Wq {X:Cx} {pins:List (Addr×Obj)} {σ:St} {H:Hp} {s:Shared} {a:Addr} (I:Inv X pins σ H s) (d:Z0 H a):
  s.TypeIs (.ref a) "dict" /\(∀b,Value.ref a=.ref b->∃ob,s.heap.get? b=some ob/\ob.dict=none)/\(a == sysModules)=false:=by
 rcases d with ⟨kvs,e⟩ | ⟨kvs,e⟩
 ·obtain⟨_,hd,vs,_,dd⟩:=Bc I.hok e
  refine⟨dd.typeIs,fun b q=>?_,hd⟩
  cases q
  obtain⟨ob,_,_,h1,h2,_⟩:=dd
  exact⟨ob,h1,h2.2.1⟩
 ·obtain⟨_,hd,xs,_,dd⟩:=DP I.hok e
  refine⟨dd.typeIs,fun b q=>?_,hd⟩
  cases q
  obtain⟨ob,_,_,h1,h2,_⟩:=dd
  exact⟨ob,h1,h2.2.1⟩
section
variable {X:Cx} {pins:List (Addr×Obj)} {σ:St} {H:Hp} {s:Shared} {a:Addr} {y d:V} {u r:Value} {o:Option V} {A:Around} {E:Value->Shared->Prop}
theorem Wf {Q:Value->Shared->Prop} (hu:A.units+1 <cLine) (I:Inv X pins σ H s) (g:eX H a y o) (ry:RelV y u) (rd:RelV d r) (h:∀w' s',Inv X pins σ H s'->RelV (o.getD d) w'->Q w' s'):
  wpAny (model X.prog X.w) A (call (.builtin "dict.get") [.ref a,u,r]) Q E s:=by
 rcases g with ⟨kvs,k,e,ey,l⟩ | ⟨kvs,k,b,e,ey,eb,l⟩
 ·subst ey
  obtain⟨z,hd,vs,rel,dd⟩:=Bc I.hok e
  refine call_meetsIn PySem.F.slot_dict_get dd.typeIs PySem.F.entry_dict_get (PySem.F.args_dict_get_3 _ _ _) (meets_dict_get_default (dB X.prog X.w) a (Ec ry) hd r) ⟨_,dd.mapOf,h _ _ (I.tok _) ?_⟩
  rw [l]
  exact(rel.val k).getD rd
 ·subst ey
  cases (show u=Value.ref b from ry)
  obtain⟨z,hd,xs,rel,dd⟩:=DP I.hok e
  refine call_meetsIn PySem.F.slot_dict_get dd.typeIs PySem.F.entry_dict_get (PySem.F.args_dict_get_3 _ _ _) (meetsH_dict_get_default (tupleKind (dB X.prog X.w)) a b hd r) ⟨tupleKind_room_in1 hu,k,xs,zB I.hok eb,dd,h _ _ (I.tok _) ?_⟩
  rw [l]
  exact(rel.val k).getD rd
end
inductive N6 (ty:TE) (tx:TE) (σ:St) (Q:VK) (x:V) (H1:Hp):Prop where
 | mk:∀a,x=.ref a->Z0 H1 a->(ty σ H1 fun y H2=>tx σ H2 fun z H3=>∃o,eX H3 a y o/\Q (o.getD z) H3)->N6 ty tx σ Q x H1
noncomputable def Wb (td ty tx:TE):TE:=fun σ H Q=>td σ H fun x H1=>N6 ty tx σ Q x H1
section
variable {X:Cx} {o e f:Expr} {apos cpos:Pos} {td ty tx:TE}
theorem Ra (hu:X.A.units+1 <cLine) (ho:PE X o td) (he:PE X e ty) (hf:PE X f tx) (m:M2 X o "get" apos e f cpos):PE X (.Call (.Attribute o "get" apos) [e,f] [] cpos) (Wb td ty tx):=by
 intro pins s σ H Q I h
 refine wpAny_Call_method m.base m.few m.line PySem.F.plainAttrs_dict PySem.F.slot_dict_get PySem.F.type_dict_get (dZ (ho pins s σ H _ I h) fun u s1 hpt=>?_)
 obtain⟨x,H1,I1,rx,a,ex,d,q1⟩:=hpt
 subst ex
 obtain rfl:u=Value.ref a:=rx
 obtain⟨t1,t2,_⟩:=Wq I1 d
 refine⟨t1,t2,?_⟩
 rw [m.trees]
 refine Calls.callWith_builtin rfl (Calls.evalArgs_plain (Calls.spliced_cons (dZ (he pins s1 σ H1 _ I1 q1) fun iv s2 ⟨y,H2,I2,ry,q2⟩=>
  Calls.spliced_cons (dZ (hf pins s2 σ H2 _ I2 q2) fun fv s3 ⟨z,H3,I3,rz,ov,g,q3⟩=>Calls.spliced_nil ?_))))
 exact Wf hu I3 g ry rz fun w' s4 I4 rw'=>⟨_,H3,I4,rw',q3⟩
end
section
variable {X:Cx} {pins:List (Addr×Obj)} {σ:St} {H:Hp} {s:Shared} {a:Addr} {kvs:List (Key×V)} {A:Around} {E:Value->Shared->Prop}
end
section
variable {X:Cx} {pins:List (Addr×Obj)} {σ:St} {H:Hp} {s:Shared} {a:Addr} {y:V} {u:Value} {A:Around} {E:Value->Shared->Prop}
end
section
variable {X:Cx} {pins:List (Addr×Obj)} {σ:St} {H:Hp} {s:Shared} {d:Addr} {kvs:List (Key×V)}
theorem Inv.chill (I:Inv X pins σ H s) (e:H d=some (.dK kvs)):∃o,s.heap.get? d=some o/\Inv X pins σ (upd H d (.frz o (.dK kvs))) s:=by
 obtain⟨z,hd,vs,rel,o,es,ep,ho,r⟩:=(show dX X.prog X.w H s.heap d (.dK kvs) from I.hok d _ e)
 refine⟨o,ho,?_⟩
 have:=I.write (x:=d) (e:=d) (o:=.frz o (.dK kvs)) (h':=s.heap) (t':=s.toks) (by rw [e];exact True.intro) (.inl rfl) (fun b u _ q=>q) ⟨o,ho⟩ ⟨ho,z,hd,vs,rel,o,es,ep,ho,r⟩
 exact this
theorem Inv.melt {o:Obj} (I:Inv X pins σ H s) (e:H d=some (.frz o (.dK kvs))) (h0:∀o u,X.H₀ d≠some (.frz o u)):Inv X pins σ (upd H d (.dK kvs)) s:=by
 have ne:∀b u,H b=some u->(∀o v,u≠.frz o v)->b≠d:=fun b u q n z=>by
  rw [z,e] at q
  exact n _ _ (Option.some.inj q).symm
 have no:∀b,H b=none->b≠d:=fun b q z=>by rw [z,e] at q;cases q
 refine⟨I.ok,I.os,I.bare,⟨I.base.keep,I.base.slot,fun b u q n hx=>?_,I.base.there,fun b xs q=>?_,fun b u v q=>?_,fun b ps q=>?_⟩,I.loc,I.cell,?_,fun y c q=>?_,fun p h=>?_,fun b u q=>?_,I.len⟩
 ·have z:=I.base.free b u q n hx
  rw [aG (no b z)];exact z
 ·have z:=I.base.tups b xs q
  rw [aG (ne b _ z (by intro _ _ w;cases w))];exact z
 ·have z:=I.base.frzs b u v q
  rw [aG (fun w=>by rw [w] at q;exact h0 _ _ q)];exact z
 ·obtain⟨m,z⟩:=I.base.tbls b ps q
  exact⟨m,by rw [aG (ne b _ z (by intro _ _ w;cases w))];exact z⟩
 ·rw [aG (no _ I.free)];exact I.free
 ·rw [aG (no _ (I.freeC y c q))];exact I.freeC y c q
 ·obtain⟨z1,z2,r⟩:=I.pin p h
  exact⟨z1,by rw [aG (no _ z2)];exact z2,r⟩
 ·by_cases w:b=d
  ·subst w
   rw [aq] at q
   cases q
   exact(I.hok b _ e).2
  ·rw [aG w] at q
   exact(I.hok b u q).stay (fun _ _ _ z=>z) (fun c z=>by rw [aG (ne c _ z (by intro _ _ w;cases w))];exact z) fun c xs z=>by rw [aG (ne c _ z (by intro _ _ w;cases w))];exact z
end
inductive WR (H0 H H':Hp):Prop where
 | mk:∀d o kvs,H d=some (.frz o (.dK kvs))->((∀o u,H0 d≠some (.frz o u)))->H'=upd H d (.dK kvs)->WR H0 H H'
section
variable {X:Cx} {H0:Hp} {st:Stmt} {sts:List Stmt} {e:Expr} {t:TS} {te:TE}
theorem rD (hH:X.H₀=H0) (h:PS X st t):PS X st (fun D σ H=>t { D with nx:=fun σ' H'=>∃H'',WR H0 H' H''/\D.nx σ' H'' } σ H):=by
 subst hH
 intro pins s σ H D I hh
 refine dZ (h pins s σ H _ I hh) fun f s1 q=>?_
 cases f with
 | next=>obtain⟨σ',H',I',H'',⟨d,o,kvs,e,n,rfl⟩,q⟩:=q;exact⟨σ',_,I'.melt e n,q⟩
 | ret v=>exact q
 | brk=>exact q
 | cont=>exact q
theorem Uq (hH:X.H₀=H0) (h:PE X e te):PE X e (fun σ H Q=>te σ H fun v H1=>∃H2,WR H0 H1 H2/\Q v H2):=by
 subst hH
 intro pins s σ H Q I hh
 refine dZ (h pins s σ H _ I hh) fun u s1 q=>?_
 obtain⟨v,H1,I1,r,H2,⟨d,o,kvs,e,n,rfl⟩,q⟩:=q
 exact⟨v,_,I1.melt e n,r,q⟩
end
noncomputable def Xd (d:Addr) (o:Obj) (kvs:List (Key×V)):It:=
 ⟨fun i H=>H d=some (.frz o (.dK kvs))/\i <kvs.length,fun i H x H'=>H'=H/\∃k v,kvs[i]?=some (k,v)/\x=kV k,fun i H=>H d=some (.frz o (.dK kvs))/\kvs.length<=i⟩
theorem Q6 {P:Program} {w:World} {k:Key} {u:Value} (h:(dB P w).is k u=true):RelV (kV k) u:=by
 rcases fM (k:=k) (v:=u) h with ⟨i,t,rfl,rfl⟩ | ⟨x,t,rfl,rfl⟩
 ·exact⟨t,rfl⟩
 ·exact⟨t,rfl⟩
theorem Lb:∀{kvs:List (Key×V)} {vs:List (Key×Value)} {i:Nat} {k:Key} {v:V},KV kvs vs->kvs[i]?=some (k,v)->∃v',vs[i]?=some (k,v')
 | _,_,0,k,v,.cons h _,e=>by
  cases (Option.some.inj e)
  exact⟨_,by rw [List.getElem?_cons_zero,show k=_ from h.1]⟩
 | _,_,i+1,k,v,.cons _ t,e=>by
  obtain⟨v',z⟩:=Lb (i:=i) (k:=k) (v:=v) t (by simpa using e)
  exact⟨v',by simpa using z⟩
theorem O5 {P:Program} {w:World} {K:PySem.W.Frag} {tg:Expr} {d it:Addr} {o:Obj} {kvs:List (Key×V)} {vs:List (Key×Value)} {ep:Nat} (rel:KV kvs vs) (hD:∀h:Heap,h.get? d=some o->h.DictAt (dB P w) d vs ep):
  Turn P w K tg (Xd d o kvs) [it] it (fun i h=>h.IsKeyIter it d i vs.length ep) where
 mem:=by simp
 obj:=fun i h st b hb=>by
  have e:b=it:=by simpa using hb
  subst e
  obtain⟨o,e,c,d⟩:=st
  exact⟨o,e,fun v z=>by rw [d] at z;cases z⟩
 keep:=fun i h h' st k=>st.at fun o e=>k it (by simp) o e
 item:=by
  intro X hP hw hK hc i pins s σ H E I hf st hg
  subst hP hw hK
  obtain⟨hq,hi⟩:=hg
  obtain⟨f0,f1,f2,f3,f4,f5⟩:=hf it (by simp)
  have ho:s.heap.get? d=some o:=(I.hok d _ hq).1
  have hl:kvs.length=vs.length:=Paired.length rel
  obtain⟨k,v,ek⟩:∃k v,kvs[i]?=some (k,v):=⟨_,_,List.getElem?_eq_getElem hi⟩
  obtain⟨v',ev⟩:=Lb rel ek
  refine wpAny_pyNext_dict_item st (hD _ ho) ev fun key h' hk st' sb=>?_
  have I1:Inv X pins σ H { s with heap:=h' }:=I.turned (t':=s.toks) (fun b o hb e=>(sb.2 b hb).trans e) f0 f1 f3 f4 f5
  obtain⟨o',e,c,dd⟩:=id st'
  exact⟨key,rfl,KD (s:={ s with heap:=h' }) e c dd (by decide) ⟨kV k,H,I1,Q6 hk,⟨rfl,k,v,ek,rfl⟩,st',fun b hb=>(hf b hb).1⟩⟩
 done:=by
  intro X hP hw hK hc i pins s σ H E I hf st hg
  subst hP hw hK
  obtain⟨hq,hi⟩:=hg
  obtain⟨f0,f1,f2,f3,f4,f5⟩:=hf it (by simp)
  have ho:s.heap.get? d=some o:=(I.hok d _ hq).1
  have hl:kvs.length=vs.length:=Paired.length rel
  exact wpAny_pyNext_dict_end (I.ok.hd hc) st (hD _ ho) (List.getElem?_eq_none (by omega)) fun h' eb=>⟨rfl,I.turned (t':=s.toks) (fun b o hb e=>eb b o hb e) f0 f1 f3 f4 f5⟩
 self:=fun _ _ _ _ _ st h=>wpAny_pyIter_keyiter st h
inductive QL (R:It->Hp->Prop) (x:V) (H1:Hp):Prop where
 | mk:∀d kvs,x=.ref d->H1 d=some (.dK kvs)->(∀o,R (Xd d o kvs) (upd H1 d (.frz o (.dK kvs))))->QL R x H1
noncomputable def Yr (td:TE):TI:=fun σ H R=>td σ H fun x H1=>QL R x H1
theorem sJ {X:Cx} {tg l:Expr} {td:TE} (hl:PE X l td):PI X tg l (Yr td):=by
 intro pins s σ H R I h
 refine dZ (hl pins s σ H _ I h) fun v s1 hpt=>?_
 obtain⟨x,H1,I1,r1,q1⟩:=hpt
 obtain⟨d,kvs,e,ed,q⟩:=q1
 subst e
 cases r1
 obtain⟨_,hd,vs,rel,o0,es,ep,ho0,r⟩:=(show dX X.prog X.w H1 s1.heap d (.dK kvs) from I1.hok d _ ed)
 obtain⟨o,ho,I2⟩:=I1.chill ed
 obtain rfl:o0=o:=Option.some.inj (ho0.symm.trans ho)
 have hD:∀h:Heap,h.get? d=some o0->h.DictAt (dB X.prog X.w) d vs ep:=fun h z=>⟨o0,es,z,r⟩
 refine wpAny_pyIter_dict hd (hD _ ho) ?_
 refine⟨s1.heap.objs.size,[s1.heap.objs.size],_,_,_,rfl,I2.kept (t':=s1.toks) fun b o e=>Heap.get?_push_of_some _ e,O5 rel hD,⟨_,Heap.get?_push_size _ rfl,rfl,rfl⟩,fun b hb=>?_,q o0⟩
 have e:b=s1.heap.objs.size:=by simpa using hb
 subst e
 exact I2.fpOk (Nat.le_refl _) (I2.hok.fresh (Nat.le_refl _))
theorem yd {d:Addr} {o:Obj} {kvs:List (Key×V)} {g:TG} {tb:TS} {D:Ends} {σ:St} {H:Hp} (Pv:Nat->St->Hp->Prop) (h0:Pv 0 σ H) (hl:∀i σ H,i<=kvs.length->Pv i σ H->H d=some (.frz o (.dK kvs)))
  (hs:∀i k v σ H,kvs[i]?=some (k,v)->Pv i σ H->g (kV k) σ H fun σ2 H2=>tb { D with nx:=Pv (i+1),ct:=Pv (i+1),bk:=D.nx } σ2 H2) (hd:∀σ H,Pv kvs.length σ H->D.nx σ H):
  ∃W:Nat->Nat->St->Hp->Prop,(∃m,W 0 m σ H)/\∀i m σ H,W i m σ H->
   ((Xd d o kvs).stop i H/\D.nx σ H)∨((Xd d o kvs).go i H/\∃N:St->Hp->Prop,(∀σ' H',N σ' H'->∃m',m' <m/\W (i+1) m' σ' H')/\∀x H',(Xd d o kvs).yld i H x H'->g x σ H' fun σ2 H2=>tb { D with nx:=N,ct:=N,bk:=D.nx } σ2 H2):=by
 refine⟨fun i m σ H=>m=kvs.length - i/\i<=kvs.length/\Pv i σ H,⟨kvs.length,by simp,Nat.zero_le _,h0⟩,?_⟩
 rintro i m σ H ⟨rfl,hi,p⟩
 have q:=hl i σ H hi p
 by_cases hlt:i <kvs.length
 ·refine .inr ⟨⟨q,hlt⟩,Pv (i+1),fun σ' H' p'=>⟨kvs.length - (i+1),by omega,rfl,hlt,p'⟩,fun x H' y=>?_⟩
  obtain⟨rfl,k,v,ek,rfl⟩:=y
  exact hs i k v σ _ ek p
 ·obtain rfl:i=kvs.length:=by omega
  exact .inl ⟨⟨q,Nat.le_refl _⟩,hd σ H p⟩
theorem zE {js:List Nat} {tt:TT} {te:TE} {σ:St} {Qd:List V->Hp->Prop} {d:Addr} {o:Obj} {kvs:List (Key×V)} {H:Hp} (Pv:Nat->List V->Hp->Prop) (hn:kvs.length<=sizeLine) (h0:Pv 0 [] H) (hl:∀i ys H,Pv i ys H->ys.length<=i) (hq:∀i ys H,i<=kvs.length->Pv i ys H->H d=some (.frz o (.dK kvs)))
  (hs:∀i k v ys H,kvs[i]?=some (k,v)->Pv i ys H->tt (some (kV k):: eO σ js) H fun b H4=>if b=true then te (some (kV k):: eO σ js) H4 fun y H5=>Pv (i+1) (ys ++ [y]) H5 else Pv (i+1) ys H4)
  (hd:∀ys H,Pv kvs.length ys H->Qd ys H):CompEnd js tt te σ Qd (Xd d o kvs) H:=by
 refine⟨fun i m ys H=>m=kvs.length - i/\i<=kvs.length/\Pv i ys H,⟨kvs.length,by simp,Nat.zero_le _,h0⟩,?_⟩
 rintro i m ys H ⟨rfl,hi,p⟩
 have hlen:=hl i ys H p
 have q:=hq i ys H hi p
 by_cases hlt:i <kvs.length
 ·refine .inr ⟨⟨q,hlt⟩,by omega,Pv (i+1),fun ys' H' p'=>⟨kvs.length - (i+1),by omega,rfl,hlt,p'⟩,fun x H' y=>?_⟩
  obtain⟨rfl,k,v,ek,rfl⟩:=y
  exact hs i k v ys _ ek p
 ·obtain rfl:i=kvs.length:=by omega
  exact .inl ⟨⟨q,Nat.le_refl _⟩,by omega,hd ys H p⟩
theorem Am:∀{xs:List V} {us:List Value},us.length=xs.length->(∀(j:Nat) x u,xs[j]?=some x->us[j]?=some u->RelV x u)->Vals xs us
 | [],[],_,_=>.nil
 | [],_:: _,h,_=>by simp at h
 | _:: _,[],h,_=>by simp at h
 | x:: xs,u:: us,h,r=>.cons (r 0 x u rfl rfl) (Am (by simpa using h) fun j y v h1 h2=>r (j+1) y v (by simpa using h1) (by simpa using h2))
theorem oZ {X:Cx} (hc:X.calm=true):j5 X (.type "list") (fun xs H Q=>∃d kvs,xs=[.ref d]/\Rd H d (.dK kvs)/\∀l,H l=none->Q (.ref l) (upd H l (.lst (kvs.map fun p=>kV p.1)))):=by
 intro pins s σ H xs us Q I rx h
 obtain⟨d,kvs,rfl,hr,q⟩:=h
 obtain⟨u,rfl,ru⟩:=vals1 rx
 cases ru
 obtain⟨z,hd,vs,rel,dd⟩:=Bc I.hok hr
 obtain⟨ep,da⟩:=dd.dictAt
 have hl:kvs.length=vs.length:=Paired.length rel
 refine PySem.W.kdl_call (PySem.W.kdl_dict (knd:=dB X.prog X.w) (kvs:=vs) (ep:=ep) hd) (I.ok.hd hc) da (by omega) fun h' tk acc' c' kp e' hi=>?_
 refine⟨.ref s.heap.objs.size,_,I.laid (t':=tk) kp (Nat.le_refl _) (show dX X.prog X.w _ h' _ (.lst (kvs.map fun p=>kV p.1)) from⟨by rw [List.length_map];exact z,acc'.toList,c',Am (by rw [Array.length_toList,hi.1,List.length_map,hl]) fun j x u hx hu=>?_,by simpa using e'⟩),rfl,q _ (I.hok.fresh (Nat.le_refl _))⟩
 obtain⟨k,v,hkv,hk⟩:=hi.2 j u (by rw [<-Array.getElem?_toList];exact hu)
 rw [List.getElem?_map] at hx
 obtain⟨p,hp,rfl⟩:=Option.map_eq_some_iff.mp hx
 obtain⟨v',hv'⟩:=Lb rel (k:=p.1) (v:=p.2) hp
 rw [hkv] at hv'
 cases hv'
 exact Q6 hk
section
variable {X:Cx} {pins:List (Addr×Obj)} {σ:St} {H:Hp} {s:Shared}
end
section
variable {X:Cx} {tg:Expr}
end
theorem iV.u1 {k:Nat} {A:Around} (r:iV k A):A.units+1 <cLine:=by have:=r.units;omega
section
variable {prog:Program} {w:World} {A:Around} {E:Value->Shared->Prop} {s:Shared}
end
theorem uG {P:Program} {w:World} {X:Cx}:kW (zy P w) X E0:=by
 intro pins σ H s e s' _ c
 obtain⟨_,_,_,_,_,_,_,_,_,_,_,_,_,_,z⟩:=c
 exact z.elim
theorem tW {X:Cx} {K:PySem.W.Frag} {e:Expr} {f:Str} {pos:Pos} {ta:TE} (hK:X.K=K) (he:PE X e ta) (hb:attributeBase e f X.env (eval e X.env)=eval e X.env):PE X (.Attribute e f pos) (YD K ta f):=by subst hK;exact aZ he hb
section
variable {X:Cx} {P:Program} {w:World} {K:PySem.W.Frag} {mg:Str->Option Value} {base:Heap} {CX:Dh} {k:Nat} {E:XK} {m:Str} {pos apos:Pos} {e o:Expr} {es:List Expr} {ta:TE} {t:TA}
theorem Le {pl:Sem Bool} (hP:X.prog=P) (hw:X.w=w) (hK:X.K=K) (hm:X.mg=mg) (hb:X.base=base) (he:PE X o ta) (hr:iV k X.A) (hx:kW CX X E)
  (ht:eval (.Call (.Attribute o m apos) [] [] pos) X.env=(do
   let ov <-eval o X.env
   standAt apos.atName
   let (f,first) <-holding [ov] (getMethod ov m pl)
   callWith pos f first (backTo pos (starEach [] X.env)) (backToKw pos (keywordEach [] X.env))):=by rfl):
  PE X (.Call (.Attribute o m apos) [] [] pos) (Mt P w K mg base CX k m E ta Ru):=by
 subst hP hw hK hm hb
 exact rG he hr hx ht
end
section
variable {prog:Program} {w:World} {A:Around} {R:Result->Shared->Prop} {s:Shared}
theorem Xo {elt tg iter:Expr} {ifs:List Expr} {scope:Scope} {pos:Pos} {it acc:Value} {env:Env} (J:Nat->Shared->Prop)
  (turn:∀k s1,J k s1->wpAny (model prog w) A (pyNext it) (fun r s2=>match r with
   | none=>R (.ok .next) s2
   | some v=>wpAny (model prog w) A (letOwnedTupleGo tg it v) (fun _ s3=>wpAny (model prog w) A (assign tg env v) (fun _ s4=>
     wpAny (model prog w) A (forIn ifs true fun c r=>if r=true then do let ok <-isTrue c env (eval c env);pure (ForInStep.yield ok) else pure (ForInStep.yield r)) (fun ok s5=>
      if ok=true then wpAny (model prog w) A (eval elt env) (fun y s6=>wpAny (model prog w) A (call (.builtin "list.append") [acc,y]) (fun _ s7=>∃m,m <k/\J m s7) (notedBy (model prog w) A env fun e s'=>R (.error e) s') s6)
       (notedBy (model prog w) A env fun e s'=>R (.error e) s') s5
      else ∃m,m <k/\J m s5) (notedBy (model prog w) A env fun e s'=>R (.error e) s') s4) (notedBy (model prog w) A env fun e s'=>R (.error e) s') s3) (notedBy (model prog w) A env fun e s'=>R (.error e) s') s2)
   (notedBy (model prog w) A env fun e s'=>R (.error e) s') s1)
  (k:Nat) (h:J k s):codeAny (model prog w) A (.compLoop (.ListComp elt [⟨tg,iter,ifs,0⟩] scope pos) 0 it acc env) R s:=by
 refine codeAny_loop rfl J (fun k s1 hJ=>?_) k h
 show wpAny _ A ((compTurn (.ListComp elt [⟨tg,iter,ifs,0⟩] scope pos) 0 it acc env).onRaise (fun e=>do noteFrame e env;theTreesLotGoes e)) _ _ s1
 refine wpAny_noted ?_
 rw [compTurn_list]
 refine wpAny_bind (wpAny_standAt (wpAny_bind (wpAny_mono (turn k s1 hJ) (fun r s2 h2=>?_) fun _ _ z=>z)))
 cases r with
 | none=>exact wpAny_pure h2
 | some v=>
  refine wpAny_bind (wpAny_mono h2 (fun _ s3 h3=>wpAny_bind (wpAny_mono h3 (fun _ s4 h4=>wpAny_bind (wpAny_mono h4 (fun ok s5 h5=>?_) fun _ _ z=>z)) fun _ _ z=>z)) fun _ _ z=>z)
  cases ok with
  | false=>exact wpAny_pure ⟨rfl,h5⟩
  | true=>exact wpAny_bind (wpAny_bind (wpAny_mono h5 (fun y s6 h6=>wpAny_bind (wpAny_mono h6 (fun _ s7 h7=>wpAny_pure (wpAny_pure ⟨rfl,h7⟩)) fun _ _ z=>z)) fun _ _ z=>z))
end
section
variable {X:Cx} {tg:Expr} {g:TG} {pos:Pos} {iter elt:Expr} {ifs:List Expr} {scope:Scope} {wi:TI} {tt:TT} {te:TE}
end
theorem Hn {X:Cx} (hc:X.calm=true):j5 X (.builtin "min") (fun xs H Q=>∃(p:Addr) (a b:Int),xs=[.ref p]/\bR X.K H p [.int a,.int b]/\Q (.int (if b <a then b else a)) H):=by
 intro pins s σ H xs us Q I r h
 obtain⟨p,a,b,rfl,hq,q⟩:=h
 obtain⟨u,rfl,rx⟩:=vals1 r
 cases rx
 obtain⟨its,rv,pl,_⟩:=I.list hq
 obtain⟨v1,v2,rfl,⟨t1,rfl⟩,⟨t2,rfl⟩⟩:=vals2 rv
 have hl:s.heap.IsList p (intItems #[(a,t1),(b,t2)]):=by simpa [intItems] using pl.isList
 refine min_intList (I.ok.hd hc) hl (by simp) fun v h' tk hv hk=>?_
 obtain⟨t,rfl⟩:=intItems_at hv
 obtain⟨h1,h2⟩:=argBest_lt (numAt #[(a,t1),(b,t2)]) (#[(a,t1),(b,t2)].size - 1)
 have h1':argBest (fun i j=>decide (numAt #[(a,t1),(b,t2)] i <numAt #[(a,t1),(b,t2)] j)) (#[(a,t1),(b,t2)].size - 1)<=1:=h1
 have ha:_<=a:=h2 0 (Nat.zero_le _)
 have hb:_<=b:=h2 1 (by simp)
 generalize argBest (fun i j=>decide (numAt #[(a,t1),(b,t2)] i <numAt #[(a,t1),(b,t2)] j)) (#[(a,t1),(b,t2)].size - 1)=k at h1' ha hb ⊢
 refine⟨.int (numAt #[(a,t1),(b,t2)] k),H,I.kept hk,⟨_,rfl⟩,?_⟩
 have e:numAt #[(a,t1),(b,t2)] k=if b <a then b else a:=by
  match k,h1',ha,hb with
  | 0,_,_,hb=>
   have hb':a<=b:=hb
   rw [if_neg (by omega)];rfl
  | 1,_,ha,_=>
   have ha':b<=a:=ha
   show b=_
   by_cases z:b <a
   ·rw [if_pos z]
   ·rw [if_neg z];omega
 rw [e]
 exact q
theorem Gw {X:Cx} (hc:X.calm=true):j5 X (.builtin "max") (fun xs H Q=>∃(p:Addr) (a b:Int),xs=[.ref p]/\bR X.K H p [.int a,.int b]/\Q (.int (if b <a then a else b)) H):=by
 intro pins s σ H xs us Q I r h
 obtain⟨p,a,b,rfl,hq,q⟩:=h
 obtain⟨u,rfl,rx⟩:=vals1 r
 cases rx
 obtain⟨its,rv,pl,_⟩:=I.list hq
 obtain⟨v1,v2,rfl,⟨t1,rfl⟩,⟨t2,rfl⟩⟩:=vals2 rv
 have hl:s.heap.IsList p (intItems #[(a,t1),(b,t2)]):=by simpa [intItems] using pl.isList
 refine max_intList (I.ok.hd hc) hl (by simp) fun v h' tk hv hk=>?_
 obtain⟨t,rfl⟩:=intItems_at hv
 obtain⟨h1,h2⟩:=argBest_gt (numAt #[(a,t1),(b,t2)]) (#[(a,t1),(b,t2)].size - 1)
 have h1':argBest (fun i j=>decide (numAt #[(a,t1),(b,t2)] i >numAt #[(a,t1),(b,t2)] j)) (#[(a,t1),(b,t2)].size - 1)<=1:=h1
 have ha:a<=_:=h2 0 (Nat.zero_le _)
 have hb:b<=_:=h2 1 (by simp)
 generalize argBest (fun i j=>decide (numAt #[(a,t1),(b,t2)] i >numAt #[(a,t1),(b,t2)] j)) (#[(a,t1),(b,t2)].size - 1)=k at h1' ha hb ⊢
 refine⟨.int (numAt #[(a,t1),(b,t2)] k),H,I.kept hk,⟨_,rfl⟩,?_⟩
 have e:numAt #[(a,t1),(b,t2)] k=if b <a then a else b:=by
  match k,h1',ha,hb with
  | 0,_,_,hb=>
   have hb':b<=a:=hb
   show a=_
   by_cases z:b <a
   ·rw [if_pos z]
   ·rw [if_neg z];omega
  | 1,_,ha,_=>
   have ha':a<=b:=ha
   rw [if_neg (by omega)];rfl
 rw [e]
 exact q
theorem Cm {X:Cx} {K:PySem.W.Frag} {es:List Expr} {k:Nat} {pos:Pos} {t:Pa} {n:Nat} (hK:X.K=K) (hc:X.calm=true) (h:Xc X es t)
  (hn:(assignEach es X.env).length=n:=by rfl) (hst:(assignEach es X.env).findIdx? (·.1)=none:=by rfl):PG X (.Tuple es k pos) (YK K n t):=by
 subst hK
 exact m6 hc h hn hst
noncomputable def lW (X:Cx) (scope:Scope) (xs:List Str) (js:List Nat) (cl:List (Str×Addr)) (C:Addr) (s:Shared) (H:Hp) (ex:List Addr):Cx where
 prog:=X.prog
 w:=X.w
 K:=X.K
 mg:=X.mg
 base:=X.base
 A:=X.A
 N:=xs ++ dO X.N js
 s₀:=s
 H₀:=H
 env:=compEnvC scope cl C X.env
 outer:=X.stack
 stack:=X.stack
 ex:=ex
 fn:=fun _=>false
 calm:=X.calm
 pn:=[]
 xe:=fun _ _=>False
noncomputable def Fi (xs:List Str) (js:List Nat) (σ:St) (g:TG) (tt:TT) (te:TE) (Qd:List V->Hp->Prop) (J:It) (H1:Hp):Prop:=∃W:Nat->Nat->List V->Hp->Prop,(∃m,W 0 m [] H1)/\∀i m ys H2,W i m ys H2->
 (J.stop i H2/\ys.length<=sizeLine/\Qd ys H2)∨
 (J.go i H2/\ys.length <sizeLine/\∃N:List V->Hp->Prop,(∀ys' H',N ys' H'->∃m',m' <m/\W (i+1) m' ys' H')/\∀x H3,J.yld i H2 x H3->g x ((xs.map fun _=>none) ++ eO σ js) H3 fun σ2 H4=>σ2.drop xs.length=eO σ js/\tt σ2 H4 fun b H5=>
  if b=true then te σ2 H5 fun y H6=>N (ys ++ [y]) H6 else N ys H5)
noncomputable def Sw (xs:List Str) (js:List Nat) (wi:TI) (g:TG) (tt:TT) (te:TE):TE:=fun σ H Q=>wi σ H (Fi xs js σ g tt te fun ys H2=>∀D,H2 D=none->Q (.ref D) (upd H2 D (.lst ys)))
section
variable {X:Cx} {tg:Expr} {g:TG} {pos:Pos} {iter elt:Expr} {ifs:List Expr} {scope:Scope} {wi:TI} {tt:TT} {te:TE}
theorem uC (xs:List Str) (js:List Nat) {pins:List (Addr×Obj)} {σ:St} {s:Shared} {itv:Value} {Q:List V->Hp->Prop} {RR:Value->Addr->Result->Shared->Prop} {E:Value->Shared->Prop}
  (hc:X.calm=true) (hk:scope.kind=.function) (hcell:∀y∈scope.names,y.2≠.cell)
  (hfree:∀y∈scope.names,y.2=.free->X.env.kindOf y.1=some .cell∨X.env.kindOf y.1=some .free)
  (hg:∀cl C s H ex,PG (lW X scope xs js cl C s H ex) tg g)
  (hif:∀cl C s H ex,PF (lW X scope xs js cl C s H ex) ifs tt) (he:∀cl C s H ex,PE (lW X scope xs js cl C s H ex) elt te)
  (hjs:∀y∈dO X.N js,scope.names.lookup y=some .free) (hit:PIE X pins σ tg (Fi xs js σ g tt te Q) itv s)
  (hR:∀D C s' H2 ys m,Inv X pins σ (upd H2 D (.lst ys)) s'->H2 D=none->s'.heap.Ns C m->(∀h',Heap.SameBut C s'.heap h'->Inv X pins σ (upd H2 D (.lst ys)) { s' with heap:=h' })->Hv X pins (upd H2 D (.lst ys)) C->C≠D->Q ys H2->RR (.ref D) C (.ok .next) s'):
  wpAny (model X.prog X.w) X.A (newList []) (fun acc s₃=>wpAny (model X.prog X.w) X.A (newFunctionEnv scope X.env.globals (clos X.env scope.names []) [] X.env.qual none .none (some X.env)) (fun cenv s₄=>
   codeAny (model X.prog X.w) X.A (.compStart (.ListComp elt [⟨tg,iter,ifs,0⟩] scope pos) 0 itv acc { cenv with scope:=relabel scope X.env }) (RR acc cenv.locals) s₄) E s₃) E s:=by
 obtain⟨it,fp,tn,J,H1,rfl,I1,T,st1,f1,W,⟨m0,w0⟩,turn⟩:=hit
 refine wpAny_newObj_type (wpAny_newFunctionEnv hcell (by intro y hy;simp at hy) (fun h₁ hns₁ hsb₁=>?_) hk)
 dsimp only at hns₁ hsb₁ ⊢
 generalize hH2:s.heap.push { cls:=.type "list",dict:=none,data:=.seq ([]:List Value).toArray }=Hl at hns₁ hsb₁ ⊢
 generalize hDe:s.heap.objs.size=D
 have hCe:Hl.objs.size=D+1:=by rw [<-hH2,Heap.size_push,hDe]
 generalize hC:Hl.objs.size=C at hns₁ hsb₁ hCe ⊢
 subst hCe
 have hDC:D≠D+1:=Nat.ne_of_lt (Nat.lt_succ_self _)
 have lt:∀b o,s.heap.get? b=some o->b <D:=fun b o e=>hDe ▸ Heap.lt_size e
 have old:∀b o,s.heap.get? b=some o->h₁.get? b=some o:=fun b o e=>by
  have hb:=lt b o e
  refine hsb₁.extBut b o (Nat.ne_of_lt (Nat.lt_succ_of_lt hb)) (Heap.get?_push_of_some _ ?_)
  rw [<-hH2];exact Heap.get?_push_of_some _ e
 have accD:h₁.get? D=some { cls:=.type "list",dict:=none,data:=.seq ([]:List Value).toArray }:=by
  refine hsb₁.extBut _ _ hDC (Heap.get?_push_of_some _ ?_)
  rw [<-hH2,<-hDe];exact Heap.get?_push_size _ rfl
 have fresh:∀a,D<=a->H1 a=none:=fun a ha=>I1.hok.fresh (by rw [hDe];exact ha)
 have fpD:∀b∈fp,b <D:=fun b hb=>by
  obtain⟨o,e,_⟩:=T.obj 0 s.heap st1 b hb
  exact lt b o e
 have cellD:∀y c,X.env.cells.lookup y=some c->c <D:=fun y c e=>by
  obtain⟨v,q⟩:=I1.cell y c e
  exact hDe ▸ q.lt
 generalize hcl:clos X.env scope.names []=cl
 have clsub:∀y c,cl.lookup y=some c->X.env.cells.lookup y=some c:=by
  rw [<-hcl];exact J5 scope.names [] fun y a e=>by simp at e
 have frD:∀b∈frs X.stack,b <D:=fun b hb=>by
  obtain⟨_,o,ho,_⟩:=I1.stack.mem hb
  exact lt b o ho
 let Y:Cx:=lW X scope xs js cl (D+1) s H1 fp
 have kinds:∀y,Y.env.kindOf y=some .cell∨Y.env.kindOf y=some .free->∃k∈scope.names,k.1=y/\k.2=.free:=fun y hy=>by
  have hy':(relabel scope X.env).names.lookup y=some .cell∨(relabel scope X.env).names.lookup y=some .free:=hy
  rw [uX] at hy'
  cases q:scope.names.lookup y with
  | none=>rw [q] at hy';simp at hy'
  | some k=>
   have hm:=PySem.mem_of_lookup q
   refine⟨(y,k),hm,rfl,?_⟩
   have h1:k≠.cell:=hcell _ hm
   rw [q] at hy'
   simp only [Option.map_some,Option.some.injEq] at hy'
   by_cases hkf:k=.free
   ·exact hkf
   ·have:(k == NameKind.free)=false:=by simpa using hkf
    simp only [this,Bool.false_and,Bool.false_eq_true,if_false] at hy'
    rcases hy' with e | e
    ·exact absurd e h1
    ·exact absurd e hkf
 have okY:Y.Ok:=by
  refine⟨I1.ok.mod,hk,I1.ok.glob,I1.ok.blt,(by show s.heap.objs.size<=D+1;rw [hDe];exact Nat.le_succ _),fun y z c h1 h2=>I1.ok.inj y z c (clsub y c h1) (clsub z c h2),fun y hy=>?_,fun y c h _=>absurd h (by show ¬(false=true);decide),I1.ok.hd,I1.ok.frames,.inl rfl,fun b hb=>⟨Nat.ne_of_lt (Nat.lt_succ_of_lt (fpD b hb)),fun y c e z=>(f1 b hb).2.2.2.2.1 y c (clsub y c e) z⟩,
   fun b o e=>I1.bs b o e,Nat.le_trans I1.ok.bsz I1.sz,fun b o e hb=>?_,fun b hb hf=>?_,I1.stack,I1.stkFree⟩
  ·obtain⟨k,hm,e1,e2⟩:=kinds y hy
   show ∃c,cl.lookup y=some c
   rw [<-hcl]
   refine Es scope.names [] y (.inr ⟨k,hm,e1,e2,?_⟩)
   have:=hfree k hm e2
   rw [e1] at this
   exact I1.ok.has y this
  ·obtain⟨_,_,_,h4,_,_⟩:=f1 b hb
   rcases h4 with z | z
   ·exact I1.ok.noex b o e z
   ·exact absurd (Nat.lt_of_lt_of_le (Heap.lt_size e) (Nat.le_trans I1.ok.bsz z)) (Nat.lt_irrefl _)
  ·rcases List.mem_cons.mp (I1.stkSub b hf) with z | z
   ·exact(f1 b hb).2.1 z
   ·exact(f1 b hb).2.2.1 z
 let σ0:St:=(xs.map fun _=>none) ++ eO σ js
 have IY:Inv Y [] σ0 H1 { s with heap:=h₁,toks:=s.toks+([]:List (Str×Value)).length }:=by
  refine⟨okY,rfl,I1.bare,Un.kept old,⟨_,hns₁,fun i y v e1 e2 e3=>?_⟩,fun y c e=>?_,fresh _ (Nat.le_succ _),fun y c e=>I1.freeC y c (clsub y c e),fun p hp=>absurd (show p∈([]:List (Addr×Obj)) from hp) (by simp),I1.hok.kept old,?_⟩
  ·by_cases hi:i <xs.length
   ·exfalso
    have e2':((xs.map fun _=>(none:Option V)) ++ eO σ js)[i]?=some (some v):=e2
    rw [List.getElem?_append_left (by rw [List.length_map];exact hi),List.getElem?_map,List.getElem?_eq_getElem hi] at e2'
    cases e2'
   ·have e1':(xs ++ dO X.N js)[i]?=some y:=e1
    have e2':((xs.map fun _=>(none:Option V)) ++ eO σ js)[i]?=some (some v):=e2
    rw [List.getElem?_append_right (by omega)] at e1'
    rw [List.getElem?_append_right (by rw [List.length_map];omega),List.length_map] at e2'
    generalize i - xs.length=i at e1' e2'
    unfold dO at e1'
    unfold eO at e2'
    rw [List.getElem?_map] at e1' e2'
    cases q:js[i]? with
    | none=>rw [q] at e1';cases e1'
    | some j=>
     rw [q] at e1' e2'
     simp only [Option.map_some,Option.some.injEq] at e1' e2'
     have hv:σ[j]?=some (some v):=by
      cases z:σ[j]? with
      | none=>rw [z] at e2';cases e2'
      | some w=>rw [z] at e2';simpa using e2'
     have hj:j <X.N.length:=by
      rw [<-I1.len];exact(List.getElem?_eq_some_iff.mp hv).1
     have hy:X.N[j]?=some y:=by
      rw [List.getElem?_eq_getElem hj] at e1' ⊢
      rw [<-e1'];rfl
     obtain⟨m,hn,hl⟩:=I1.loc
     have hmem:y∈dO X.N js:=List.mem_map.mpr ⟨j,List.mem_of_getElem? q,by rw [hy];rfl⟩
     have hfr:=hjs y hmem
     have hkx:=hfree _ (PySem.mem_of_lookup hfr) rfl
     have hvis:YT X.env.scope y:=hkx.elim (fun z=>.inr (.inl z)) fun z=>.inr (.inr z)
     obtain⟨u,r,l⟩:=hl j y v hy hv hvis
     refine⟨u,r,?_⟩
     rcases l with ⟨kl,_⟩ | ⟨_,c,hc1,z⟩
     ·exfalso
      have kl':X.env.kindOf y=some .local:=kl
      rcases hkx with w | w <;> · rw [show X.env.kindOf y=_ from w] at kl';cases kl'
     ·obtain⟨c',hc'⟩:=Es (env:=X.env) scope.names [] y (.inr ⟨_,PySem.mem_of_lookup hfr,rfl,rfl,c,hc1⟩)
      rw [hcl] at hc'
      have e4:=clsub y c' hc'
      rw [hc1] at e4
      cases e4
      obtain⟨o,ho,hd⟩:=z
      refine .inr ⟨?_,c,hc',o,old c o ho,hd⟩
      rcases e3 with e3 | e3 | e3
      ·exfalso
       have e3':(relabel scope X.env).names.lookup y=some .local:=e3
       rw [uX,hfr] at e3'
       simp only [Option.map_some,Option.some.injEq] at e3'
       split at e3' <;> cases e3'
      ·exact .inl e3
      ·exact .inr e3
  ·obtain⟨v,q⟩:=I1.cell y c (clsub y c e)
   obtain⟨o,ho,hd⟩:=q
   exact⟨v,o,old c o ho,hd⟩
  ·show((xs.map fun _=>(none:Option V)) ++ eO σ js).length=(xs ++ dO X.N js).length
   unfold eO dO
   rw [List.length_append,List.length_append,List.length_map,List.length_map,List.length_map]
 have mkR:∀(s':Shared) (H2:Hp) (ys:List V) (its:List Value) (σ':St),Inv Y [] σ' H2 s'->s'.heap.PlainList D its.toArray->Vals ys its->ys.length<=sizeLine->H2 D=none->Q ys H2->RR (.ref D) (D+1) (.ok .next) s':=by
  intro s' H2 ys its σ' I' pl rv hz hD hq
  obtain⟨m,hn,_⟩:=I'.loc
  have hn':s'.heap.Ns (D+1) m:=hn
  have hCn:H2 (D+1)=none:=I'.free
  have hch:∀b∈fp,(b∈X.ex∨X.s₀.heap.objs.size<=b)/\b≠X.env.locals/\(∀x c,X.env.cells.lookup x=some c->c≠b)/\∀p∈X.pn ++ pins,p.1≠b:=fun b hb=>by
   obtain⟨_,h2,_,h4,h5,h6⟩:=f1 b hb
   exact⟨h4,h2,h5,h6⟩
  have bs:Un (frs X.stack) fp H1 H2 s.heap s'.heap:=I'.base
  have all:∀h',Heap.SameBut (D+1) s'.heap h'->Inv X pins σ (upd H2 D (.lst ys)) { s' with heap:=h' }:=fun h' sb=>by
   have neD:∀b o,s.heap.get? b=some o->b≠D:=fun b o e=>Nat.ne_of_lt (lt b o e)
   have neC:∀b o,s.heap.get? b=some o->b≠D+1:=fun b o e=>Nat.ne_of_lt (Nat.lt_succ_of_lt (lt b o e))
   refine I1.call' (s':={ s' with heap:=h' }) (ch:=fp) I'.os ⟨fun b o e n hb hx=>?_,fun b o e n hb hx=>?_,fun b o e n hx=>?_,fun b o e hx=>?_,fun b xs e=>?_,fun b o u e=>?_,fun b ps e=>?_⟩ ?_ I'.bare hch
   ·exact(sb.2 b (neC b o e)).trans (bs.keep b o e n hb hx)
   ·obtain⟨sl,q⟩:=bs.slot b o e n hb hx
    exact⟨sl,(sb.2 b (neC b o e)).trans q⟩
   ·rw [aG (neD b o e)];exact bs.free b o e n hx
   ·obtain⟨o',q⟩:=bs.there b o e hx
    exact⟨o',(sb.2 b (neC b o e)).trans q⟩
   ·have:=bs.tups b xs e
    rw [aG (aC this hD)];exact this
   ·have:=bs.frzs b o u e
    rw [aG (aC this hD)];exact this
   ·obtain⟨more,q⟩:=bs.tbls b ps e
    exact⟨more,by rw [aG (aC q hD)];exact q⟩
   ·have h0:uz X.prog X.w H2 h':=fun b u e=>(I'.hok b u e).stay (fun c v hc q=>(sb.2 c (by
     rintro rfl
     rcases hc with z | z
     ·rw [z,e] at hCn;cases hCn
     ·rw [z] at hCn;cases hCn)).trans q) (fun _ q=>q) fun _ _ q=>q
    refine G3 h0 hD ?_
    obtain⟨n,e⟩:=pl
    exact⟨hz,its,n,rv,(sb.2 D hDC).trans e⟩
  have hall:=all s'.heap (.refl ..)
  refine hR D (D+1) s' H2 ys m hall hD hn' all ?_ hDC.symm hq
  refine⟨by rw [aG hDC.symm];exact hCn,?_,?_,.inr (Nat.le_trans I1.sz (by rw [hDe];exact Nat.le_succ _)),fun y c e z=>?_,fun p hp z=>?_⟩
  ·exact Nat.ne_of_gt (Nat.lt_trans (hDe ▸ I1.lt) (Nat.lt_succ_self _))
  ·exact I1.nofs (by rw [hDe];exact Nat.le_succ _)
  ·exact absurd z (Nat.ne_of_lt (Nat.lt_succ_of_lt (cellD y c e)))
  ·exact absurd z (Nat.ne_of_lt (Nat.lt_succ_of_lt (lt _ _ (I1.pin p hp).1)))
 have loop:∀s₃:Shared,s₃={ s with heap:=h₁,toks:=s.toks+([]:List (Str×Value)).length }->
   codeAny (model X.prog X.w) X.A (.compLoop (.ListComp elt [⟨tg,iter,ifs,0⟩] scope pos) 0 (.ref it) (.ref D) Y.env) (RR (.ref D) (D+1)) s₃:=by
  rintro s₃ rfl
  have stat:∀{H':Hp} {ob:Obj},(∀b∈fp,H' b=none)->∀b∈fp,Hv Y [(D,ob)] H' b:=fun {H'} {ob} hn b hb=>by
   refine⟨hn b hb,Nat.ne_of_lt (Nat.lt_succ_of_lt (fpD b hb)),fun hf=>okY.exfs b hb hf,.inl hb,fun y c e=>(okY.exf b hb).2 y c e,fun p hp z=>?_⟩
   have hp':p∈[(D,ob)]:=hp
   have e:p=(D,ob):=by simpa using hp'
   rw [e] at z
   exact absurd z (Ne.symm (Nat.ne_of_lt (fpD b hb)))
  refine Xo (fun n s'=>∃i ys its H',∃ob:Obj,Inv Y [(D,ob)] σ0 H' s'/\(∃n,ob={ cls:=.type "list",data:=.seq its.toArray n })/\Vals ys its/\H' D=none/\tn i s'.heap/\(∀b∈fp,H' b=none)/\W i n ys H') ?_ m0
   ⟨0,[],[],H1,{ cls:=.type "list",dict:=none,data:=.seq ([]:List Value).toArray },?_,⟨_,rfl⟩,.nil,fresh _ (Nat.le_refl _),T.keep _ _ _ st1 fun b _ o e=>old b o e,fun b hb=>(f1 b hb).1,w0⟩
  ·rintro n s3 ⟨i,ys,its,H3,ob,I3,⟨cap,rfl⟩,rv,hD,st3,fr3,w3⟩
   rcases turn i n ys H3 w3 with ⟨stop,hz,hq⟩ | ⟨go,hz,N,hN7,step⟩
   ·refine wpAny_mono (T.done Y rfl rfl rfl hc i _ s3 σ0 H3 (fun _ _=>False) I3 (stat fr3) st3 stop) (fun r s4 ⟨hr,I4⟩=>?_) fun _ _ f=>f.elim
    subst hr
    exact mkR s4 H3 ys its σ0 (I4.pins_of fun p hp=>absurd hp (by simp)) ⟨cap,(I4.pin _ (List.mem_append_right _ List.mem_cons_self)).1⟩ rv hz hD hq
   ·refine wpAny_mono (T.item Y rfl rfl rfl hc i _ s3 σ0 H3 (fun _ _=>False) I3 (stat fr3) st3 go) (fun r s4 ⟨u,hr,h4⟩=>?_) fun _ _ f=>f.elim
    subst hr
    refine wpAny_mono h4 (fun _ s4 ⟨xv,H5,I5,r5,y5,st5,fr5⟩=>?_) fun _ _ f=>f.elim
    have I5':=I5.pinned (stat fr5) (T.obj _ _ st5)
    refine wpAny_mono (hg cl (D+1) s H1 fp _ _ σ0 H5 xv u _ I5' r5 (step xv H5 y5)) (fun _ s6 ⟨σ6,H6,I6,hσ6,q6⟩=>?_) fun _ _ f=>False.elim f
    have again:∀{s7:Shared} {H7:Hp} {ys7:List V} {its7:List Value} {cap7:Nat} {pl:List (Addr×Obj)},Inv Y ([(D,{ cls:=.type "list",data:=.seq its7.toArray cap7 })] ++ pl) σ6 H7 s7->(∀b∈fp,∀o,s4.heap.get? b=some o->s7.heap.get? b=some o/\H7 b=none)->Vals ys7 its7->(∃m',m' <n/\W (i+1) m' ys7 H7)->
      ∃m,m <n/\∃i ys its H',∃ob:Obj,Inv Y [(D,ob)] σ0 H' s7/\(∃n,ob={ cls:=.type "list",data:=.seq its.toArray n })/\Vals ys its/\H' D=none/\tn i s7.heap/\(∀b∈fp,H' b=none)/\W i m ys H':=by
     intro s7 H7 ys7 its7 cap7 pl I7 kf rv7 ⟨m',hm,w7⟩
     refine⟨m',hm,i+1,ys7,its7,H7,_,I7.unpinned.weak (by rw [I7.len];show((xs.map fun _=>(none:Option V)) ++ eO σ js).length=(xs ++ dO X.N js).length;unfold eO dO;rw [List.length_append,List.length_append,List.length_map,List.length_map,List.length_map]) fun j v e=>?_,⟨cap7,rfl⟩,rv7,(I7.pin _ (List.mem_append_right _ (List.mem_append_left _ List.mem_cons_self))).2.1,T.keep _ _ _ st5 fun b hb o e=>(kf b hb o e).1,fun b hb=>?_,w7⟩
     ·have e':((xs.map fun _=>(none:Option V)) ++ eO σ js)[j]?=some (some v):=e
      by_cases hj:j <xs.length
      ·exfalso
       rw [List.getElem?_append_left (by rw [List.length_map];exact hj),List.getElem?_map,List.getElem?_eq_getElem hj] at e'
       cases e'
      ·rw [List.getElem?_append_right (by rw [List.length_map];omega),List.length_map,<-hσ6,List.getElem?_drop] at e'
       rw [show xs.length+(j - xs.length)=j by omega] at e'
       exact e'
     ·obtain⟨o,e,_⟩:=T.obj _ _ st5 b hb
      exact(kf b hb o e).2
    refine wpAny_mono (hif cl (D+1) s H1 fp _ s6 _ H6 _ I6 q6) (fun ok s7 ⟨H7,I7,q7⟩=>?_) fun _ _ f=>False.elim f
    have kf7:∀b∈fp,∀o,s4.heap.get? b=some o->s7.heap.get? b=some o/\H7 b=none:=fun b hb o e=>
     have z:=I7.pin (b,o) (List.mem_append_right _ (List.mem_append_right _ (tR hb e)))
     ⟨z.1,z.2.1⟩
    cases ok with
    | false=>
     rw [if_neg Bool.false_ne_true] at q7 ⊢
     exact again I7 kf7 rv (hN7 _ _ q7)
    | true=>
     rw [if_pos rfl] at q7 ⊢
     refine wpAny_mono (he cl (D+1) s H1 fp _ s7 _ H7 _ I7 q7) (fun yv s8 ⟨y,H8,I8,r8,q8⟩=>?_) fun _ _ f=>False.elim f
     have pD:=I8.pin _ (List.mem_append_right _ (List.mem_append_left _ List.mem_cons_self))
     have hlen:=rv.length
     refine wpAny_list_append_plain (items:=its.toArray) ⟨cap,pD.1⟩ (fun h9 pl9 sb9=>?_) (by rw [List.size_toArray];omega)
     obtain⟨cap9,e9⟩:=pl9
     have I9:Inv Y [] σ6 H8 { s8 with heap:=h9 }:=(I8.pins_of (pins':=[]) fun p hp=>absurd hp (by simp)).turned (t':=s8.toks) (it:=D) (fun b o hb e=>(sb9.2 b hb).trans e) pD.2.1 hDC
      (.inr (Nat.le_of_eq hDe)) (fun y c e z=>absurd z (Nat.ne_of_lt (cellD y c (clsub y c e)))) fun p hp=>absurd (show p∈([]:List (Addr×Obj)) from hp) (by simp)
     have kf9:∀b∈fp,∀o,s4.heap.get? b=some o->h9.get? b=some o/\H8 b=none:=fun b hb o e=>by
      have z:=I8.pin (b,o) (List.mem_append_right _ (List.mem_append_right _ (tR hb e)))
      exact⟨(sb9.2 b (Nat.ne_of_lt (fpD b hb))).trans z.1,z.2.1⟩
     refine again (s7:={ s8 with heap:=h9 }) (its7:=its ++ [yv]) (cap7:=cap9) (pl:=[]) (I9.pins_of fun p hp=>?_) kf9 (rv.append (.cons r8 .nil)) (hN7 _ _ q8)
     have hp':p=(D,{ cls:=.type "list",data:=.seq (its ++ [yv]).toArray cap9 }):=by simpa using hp
     subst hp'
     refine⟨?_,pD.2.1,pD.2.2.1,pD.2.2.2.1,fun v z=>by cases z⟩
     rw [e9]
     simp
  ·refine IY.pins_of fun p hp=>?_
   have hp':p=(D,{ cls:=.type "list",dict:=none,data:=.seq ([]:List Value).toArray }):=by simpa using hp
   subst hp'
   exact⟨accD,fresh _ (Nat.le_refl _),hDC,fun hf=>Nat.lt_irrefl _ (frD _ hf),fun v z=>by cases z⟩
 exact codeAny_compStart_list (loop _ rfl) (wpAny_mono (T.self X.A 0 _ (fun v s'=>v=.ref it/\s'={ s with heap:=h₁,toks:=s.toks+([]:List (Str×Value)).length }) (fun _ _=>False) (T.keep _ _ _ st1 fun b _ o e=>old b o e) ⟨rfl,rfl⟩) (fun v s' ⟨e1,e2⟩=>by subst e1 e2;exact loop _ rfl) fun _ _ f=>f.elim)
theorem QZ (xs:List Str) (js:List Nat) (N0:List Str) (sc0:Scope) (hc:X.calm=true) (hi:PI X tg iter wi) (hg:∀cl C s H ex,PG (lW X scope xs js cl C s H ex) tg g)
  (hif:∀cl C s H ex,PF (lW X scope xs js cl C s H ex) ifs tt) (he:∀cl C s H ex,PE (lW X scope xs js cl C s H ex) elt te)
  (hk:scope.kind=.function:=by rfl) (hcell:∀y∈scope.names,y.2≠.cell:=by decide +kernel)
  (hnames:∀y∈scope.names,y.2=.local->scope.names.lookup y.1=some .local:=by decide +kernel)
  (hsc:X.env.scope=sc0:=by rfl) (hfree0:∀y∈scope.names,y.2=.free->sc0.names.lookup y.1=some .cell∨sc0.names.lookup y.1=some .free:=by decide +kernel)
  (hNN:X.N=N0:=by rfl) (hj0:∀y∈dO N0 js,scope.names.lookup y=some .free:=by decide +kernel)
  (hs:∀x,foldedSetIterable iter X.env x=pure x:=by intro _;rfl):
  PE X (.ListComp elt [⟨tg,iter,ifs,0⟩] scope pos) (Sw xs js wi g tt te):=by
 intro pins s σ H Q I h
 have hfree:∀y∈scope.names,y.2=.free->X.env.kindOf y.1=some .cell∨X.env.kindOf y.1=some .free:=fun y hy e=>by
  show X.env.scope.names.lookup y.1=some .cell∨X.env.scope.names.lookup y.1=some .free
  rw [hsc];exact hfree0 y hy e
 rw [eval_ListComp]
 have hcl:closureFor scope X.env=pure (clos X.env scope.names []):=lY fun y hy e=>I.ok.has y.1 (hfree y hy e)
 refine wpAny_comprehension_free (use:=none) rfl hs hcl hk hnames (dZ (hi pins s σ H _ I h) fun xv s1 h1=>dZ h1 fun it s2 h2=>?_)
 have hjs:∀y∈dO X.N js,scope.names.lookup y=some .free:=by rw [hNN];exact hj0
 refine uC xs js (RR:=fun acc C=>compPost (model X.prog X.w) X.A X.xe none (EP X pins σ Q) acc C) (Q:=fun ys H2=>∀D,H2 D=none->Q (.ref D) (upd H2 D (.lst ys))) hc hk hcell hfree hg hif he hjs h2 ?_
 intro D C s' H2 ys m I' hD hn all fpC hCD hq
 exact⟨m,hn,fun h' sb=>⟨.ref D,_,all h' sb,rfl,hq D hD⟩⟩
theorem Dn {i:Nat} {y:Str} {py spos:Pos} (xs:List Str) (js:List Nat) (N0:List Str) (sc0:Scope) (hc:X.calm=true) (hNX:X.N.Nodup) (hiy:X.N[i]?=some y) (hi:PI X tg iter wi) (hg:∀cl C s H ex,PG (lW X scope xs js cl C s H ex) tg g)
  (hif:∀cl C s H ex,PF (lW X scope xs js cl C s H ex) ifs tt) (he:∀cl C s H ex,PE (lW X scope xs js cl C s H ex) elt te)
  (hsw:swapsWith (.ListComp elt [⟨tg,iter,ifs,0⟩] scope pos) (some (.Name y py)) spos.line X.env=pure true:=by rfl) (hy:X.env.scope.names.lookup y=some .local:=by rfl)
  (hk:scope.kind=.function:=by rfl) (hcell:∀y∈scope.names,y.2≠.cell:=by decide +kernel)
  (hnames:∀y∈scope.names,y.2=.local->scope.names.lookup y.1=some .local:=by decide +kernel)
  (hsc:X.env.scope=sc0:=by rfl) (hfree0:∀y∈scope.names,y.2=.free->sc0.names.lookup y.1=some .cell∨sc0.names.lookup y.1=some .free:=by decide +kernel)
  (hNN:X.N=N0:=by rfl) (hj0:∀y∈dO N0 js,scope.names.lookup y=some .free:=by decide +kernel)
  (hs:∀x,foldedSetIterable iter X.env x=pure x:=by intro _;rfl):
  PS X (.Assign [.Name y py] (.ListComp elt [⟨tg,iter,ifs,0⟩] scope pos) spos) (QX (Sw xs js wi g tt te) (ym i)):=by
 intro pins s σ H D I h
 have hfree:∀y∈scope.names,y.2=.free->X.env.kindOf y.1=some .cell∨X.env.kindOf y.1=some .free:=fun y hy e=>by
  show X.env.scope.names.lookup y.1=some .cell∨X.env.scope.names.lookup y.1=some .free
  rw [hsc];exact hfree0 y hy e
 have hjs:∀y∈dO X.N js,scope.names.lookup y=some .free:=by rw [hNN];exact hj0
 rw [exec_Assign_Name_used _ _ _ _ hsw]
 refine wpAny_bind (wpAny_standAt (wpAny_bind ?_))
 show wpAny _ X.A (do let _ <-comprehension (.ListComp elt [⟨tg,iter,ifs,0⟩] scope pos) scope X.env _ (newList []) false (eval iter X.env) (some (assign (.Name y py) X.env))) _ _ s
 have hcl:closureFor scope X.env=pure (clos X.env scope.names []):=lY fun y hy e=>I.ok.has y.1 (hfree y hy e)
 refine wpAny_bind (wpAny_mono (wpAny_comprehension_free (use:=some (assign (.Name y py) X.env)) (Q:=fun _ s'=>SP X pins D .next s') rfl hs hcl hk hnames
  (dZ (hi pins s σ H _ I h) fun xv s1 h1=>dZ h1 fun it s2 h2=>?_)) (fun _ s' hq=>wpAny_pure (wpAny_pure hq)) fun _ _ e=>e)
 refine uC xs js (RR:=fun acc C=>compPost (model X.prog X.w) X.A X.xe (some (assign (.Name y py) X.env)) (fun _ s'=>SP X pins D .next s') acc C) (Q:=fun ys H2=>∀D',H2 D'=none->D.nx (σ.set i (some (.ref D'))) (upd H2 D' (.lst ys))) hc hk hcell hfree hg hif he hjs h2 ?_
 intro D' C s' H2 ys m I' hD hn all fpC hCD hq
 show wpAny _ X.A (assign (.Name y py) X.env (.ref D')) _ _ _
 refine wpAny_assign_Name (zW I' hNX hiy (.inl hy) (v:=.ref D') rfl (fun s'' I'' ⟨a,sb,ha⟩=>?_) (.inr hy))
 obtain⟨f1,f2,f3,f4,f5,f6⟩:=fpC
 have hCa:C≠a:=by
  rcases ha with z | z
  ·rw [z];exact f2
  ·exact fun w=>f5 _ _ z w.symm
 exact⟨m,hn.sameBut sb hCa,fun h' sb'=>⟨_,_,I''.turned (t':=s''.toks) (it:=C) (fun b o hb e=>(sb'.2 b hb).trans e) f1 f2 f4 f5 f6,hq D' hD⟩⟩
end
theorem sy {ts:List Str} {js:List Nat} {σ:St} {g:TG} {tt:TT} {te:TE} {Qd:List V->Hp->Prop} {K:PySem.W.Frag} {a:Addr} {xs:List V} {H:Hp} (Pv:Nat->List V->Hp->Prop) (hn:xs.length<=sizeLine) (h0:Pv 0 [] H) (hl:∀i ys H,Pv i ys H->ys.length<=i) (hq:∀i ys H,i<=xs.length->Pv i ys H->bR K H a xs)
  (hs:∀i x ys H,xs[i]?=some x->Pv i ys H->g x ((ts.map fun _=>none) ++ eO σ js) H fun σ2 H3=>σ2.drop ts.length=eO σ js/\tt σ2 H3 fun b H4=>if b=true then te σ2 H4 fun y H5=>Pv (i+1) (ys ++ [y]) H5 else Pv (i+1) ys H4)
  (hd:∀ys H,Pv xs.length ys H->Qd ys H):Fi ts js σ g tt te Qd (Wj K a) H:=by
 refine⟨fun i m ys H=>m=xs.length - i/\i<=xs.length/\Pv i ys H,⟨xs.length,by simp,Nat.zero_le _,h0⟩,?_⟩
 rintro i m ys H ⟨rfl,hi,p⟩
 have hlen:=hl i ys H p
 have q:=hq i ys H hi p
 by_cases hlt:i <xs.length
 ·refine .inr ⟨⟨xs,xs[i],q,by simp [hlt]⟩,by omega,Pv (i+1),fun ys' H' p'=>⟨xs.length - (i+1),by omega,rfl,hlt,p'⟩,fun x H' y=>?_⟩
  obtain⟨e,y⟩:=y
  subst e
  exact hs i x ys _ (y xs q) p
 ·have e:i=xs.length:=by omega
  subst e
  exact .inl ⟨⟨xs,q,Nat.le_refl _⟩,by omega,hd ys H p⟩
section
variable {P:Program} {w:World} {K:PySem.W.Frag} {mg:Str->Option Value} {base:Heap} {its:Array Value}
end
section
variable {X:Cx} {e:Expr} {es:List Expr} {te:TE} {t:TA} {pos:Pos} {st:Stmt} {rest:List Stmt} {ts us:TS}
end
theorem tM {X:Cx} {K:PySem.W.Frag} (hK:X.K=K):j5 X (.type "tuple") (fun xs H Q=>∃a ys,xs=[.ref a]/\yc K H a ys/\∀(H':Hp) (u:Addr),aQ H H'->fG K H' u ys->Q (.ref u) H'):=by subst hK;exact rQ
section
variable {X:Cx}
noncomputable def Rc (z:Str):Value->Bool
 | .str y _=>y.cps.toList == z.cps.toList
 | _=>false
theorem Gr {z:Str} {t:Tok}:∀{ys:List Str} {us:List Value},Vals (ys.map V.str) us->(∀u∈us,PySem.MeetsSeq.EqGives u (.str z t) (Rc z u))/\us.countP (Rc z)=ys.countP (fun y=>decide (y=z))/\∀(m:Nat) (u:Value),us[m]?=some u->∃y,ys[m]?=some y/\Rc z u=decide (y=z)
 | [],us,r=>by
  rw [List.map_nil] at r
  cases r
  exact⟨(fun _ h=>by cases h),rfl,fun m u h=>by simp at h⟩
 | y:: ys,us,r=>by
  rw [List.map_cons] at r
  cases r with
  | cons r1 r2=>
   obtain⟨t',e⟩:=r1
   subst e
   obtain⟨h1,h2,h3⟩:=Gr (z:=z) (t:=t) r2
   have he:Rc z (.str y t')=decide (y=z):=by
    show(y.cps.toList == z.cps.toList)=decide (y=z)
    rw [Bool.eq_iff_iff,beq_iff_eq,decide_eq_true_eq]
    exact⟨fun h=>ext_toList h,fun h=>by rw [h]⟩
   refine⟨fun u hu=>?_,?_,fun m u hm=>?_⟩
   ·rcases List.mem_cons.mp hu with rfl | hu
    ·exact PySem.SeqRoads2.EqGives.str y z t' t
    ·exact h1 u hu
   ·rw [List.countP_cons,List.countP_cons,h2,he]
   ·cases m with
    | zero=>
     simp only [List.getElem?_cons_zero,Option.some.injEq] at hm
     subst hm
     exact⟨y,rfl,he⟩
    | succ m=>exact h3 m u (by simpa using hm)
inductive J8 (x:V) (vs:List V) (H:Hp) (Q:VK):Prop where
 | mk:∀(l:Addr) (xs:List Str) (z:Str) (j:Nat),x=.ref l->vs=[.str z]->H l=some (.lst (xs.map V.str))->xs[j]?=some z->((∀m y,m <j->xs[m]?=some y->y≠z))->Q (.int (j:Nat)) H->J8 x vs H Q
noncomputable def Tu:V->List V->Hp->VK->Prop:=fun x vs H Q=>J8 x vs H Q
theorem Pb:XQ X "list.index" Tu:=by
 intro pins s σ H x vs v us Q I rx rv h
 obtain⟨l,xs,z,j,rfl,rfl,hH,hj,hno,q⟩:=h
 cases rx
 obtain⟨u,rfl,ru⟩:=rv.one
 obtain⟨t,rfl⟩:=ru
 obtain⟨hz,its,n,r,hl,e⟩:=I.lstM hH
 have hsz:sizeLine=16777216:=sizeLine_eq
 obtain⟨h1,_,h3⟩:=Gr (z:=z) (t:=t) r
 have hjx:=(List.getElem?_eq_some_iff.mp hj).1
 rw [List.length_map] at hl hz
 have hji:j <its.length:=by omega
 refine call_meets F.slot_list_index ⟨_,e,rfl⟩ F.entry_list_index (F.args_list_index_2 _ _) (MeetsSeq.list_index l its.toArray n (.str z t) (Rc z) (fun y hy=>h1 y (by simpa using hy)) j (by simpa using hji) (by omega) ?_ ?_) ⟨e,?_⟩
 ·obtain⟨y,hy,e2⟩:=h3 j its[j] (List.getElem?_eq_getElem hji)
  rw [hj] at hy
  cases hy
  simpa using e2
 ·intro m hm hlt
  have hm':m <its.length:=by simpa using hm
  obtain⟨y,hy,e2⟩:=h3 m its[m] (List.getElem?_eq_getElem hm')
  have:=hno m y hlt hy
  simp only [List.getElem_toArray]
  rw [e2]
  exact decide_eq_false this
 ·exact⟨.int (j:Nat),H,I.tok _,⟨s.toks,rfl⟩,q⟩
end
section
variable {X:Cx}
end
section
variable {prog:Program} {w:World} {A:Around} {E:Value->Shared->Prop}
theorem G4 {it t:Addr} {items:Array Value} (hne:t≠it):∀(n i:Nat) (s:Shared) (Q:List Value->Shared->Prop),s.heap.IsListIter it t i->s.heap.IsList t items->i+n<=items.size->
  (∀h',h'.IsListIter it t (i+n)->Heap.SameBut it s.heap h'->Q ((items.toList.drop i).take n) { s with heap:=h' })->wpAny (model prog w) A (draw (.ref it) n) Q E s
 | 0,i,s,Q,hit,_,_,hQ=>by
  show wpAny _ _ (pure []) Q E s
  exact wpAny_pure (by simpa using hQ s.heap hit (Heap.SameBut.refl ..))
 | n+1,i,s,Q,hit,ht,hle,hQ=>by
  have hlt:i <items.size:=by omega
  show wpAny _ _ (pyNext (.ref it) >>= _) Q E s
  refine wpAny_bind (wpAny_pyNext_list_item hit ht (x:=items[i]) (by simp [hlt]) fun h₁ hit₁ hs₁=>?_)
  refine wpAny_bind (wpAny_holding (G4 hne n (i+1) _ _ hit₁ (ht.extBut hs₁.extBut hne) (by omega) fun h₂ hit₂ hs₂=>wpAny_pure ?_))
  have hd:items.toList.drop i=items[i]:: items.toList.drop (i+1):=by simp [List.drop_eq_getElem_cons,hlt]
  have:=hQ h₂ (by rw [show i+(n+1)=i+1+n by omega];exact hit₂) (hs₁.trans hs₂)
  rw [hd,List.take_succ_cons] at this
  exact this
theorem Kv {s:Shared} {t:Addr} {items:Array Value} {targets:List (Bool×(Value->Sem Unit))} {Q:Unit->Shared->Prop} (hh:A.handled=none) (ht:s.heap.IsList t items)
  (hn:targets.length=items.size) (hstar:targets.findIdx? (·.1)=none)
  (h:∀h',Heap.ExtBut s.heap.objs.size s.heap h'->wpAny (model prog w) A (assignInOrder (targets.map (·.2)) items.toList) Q E { s with heap:=h' }):
  wpAny (model prog w) A (unpack (.ref t) targets) Q E s:=by
 unfold unpack
 rw [hn,hstar]
 refine wpAny_bind (wpAny_holding ?_)
 have hlt:t≠s.heap.objs.size:=by obtain⟨o,ho,_⟩:=ht.typeIs;exact Nat.ne_of_lt (Heap.lt_size ho)
 unfold unpackItems
 refine wpAny_bind ?_
 unfold notIterableAtAll
 refine wpAny_bind (wpAny_specialOf ht.typeIs F.slot_list_iter.lookup ?_)
 refine wpAny_pure ?_
 simp only [Bool.false_eq_true,if_false]
 refine wpAny_bind (wpAny_holding (wpAny_pyIter_list ht ?_))
 refine wpAny_bind (wpAny_holding (G4 hlt items.size 0 _ _ ⟨_,Heap.get?_push_size _ rfl,rfl,rfl⟩ (ht.at fun o e=>Heap.get?_push_of_some _ e) (by omega) fun h₁ hit₁ hs₁=>?_))
 have hall:List.take items.size (List.drop 0 items.toList)=items.toList:=by
  rw [List.drop_zero];exact List.take_of_length_le (by simp)
 rw [hall]
 rw [if_neg (by simp)]
 have ht₁:h₁.IsList t items:=Heap.IsList.extBut (ht.at fun o e=>Heap.get?_push_of_some _ e) hs₁.extBut hlt
 refine wpAny_bind (wpAny_holding (wpAny_pyNext_list_end hh hit₁ ht₁ (by simp) fun h₂ he₂=>?_))
 simp only [Option.isSome_none,Bool.false_eq_true,if_false]
 exact wpAny_pure (h h₂ fun b o hb e=>he₂ b o hb (hs₁.extBut b o hb (Heap.get?_push_of_some _ e)))
end
inductive Vz (K:PySem.W.Frag) (n:Nat) (t:Pa) (v:V) (σ:St) (H:Hp) (Q:St->Hp->Prop):Prop where
 | mk:∀a xs,(v=.ref a)->(bR K H a xs)->(xs.length=n)->(t xs σ H Q)->Vz K n t v σ H Q
noncomputable def ZD (K:PySem.W.Frag) (n:Nat) (t:Pa):TG:=fun v σ H Q=>Vz K n t v σ H Q
theorem WL {X:Cx} {pos:Pos} {es:List Expr} {k:Nat} {t:Pa} {n:Nat} (hc:X.calm=true) (h:Xc X es t)
  (hn:(assignEach es X.env).length=n:=by rfl) (hst:(assignEach es X.env).findIdx? (·.1)=none:=by rfl):PG X (.Tuple es k pos) (ZD X.K n t):=by
 intro pins s σ H v u Q I r hw
 obtain⟨a,xs,e1,hq,hl,hw⟩:=hw
 subst e1
 cases r
 obtain⟨its,rv,ht,hz⟩:=I.list hq
 rw [arm_assign_Tuple]
 refine wpAny_bind (wpAny_standAt (Kv (I.ok.hd hc) ht.isList (by simp [hn,<-hl,rv.length]) hst fun h' hx=>?_))
 have I1:Inv X pins σ H { s with heap:=h' }:=I.kept (t':=s.toks) fun b o e=>hx b o (Nat.ne_of_lt (Heap.lt_size e)) e
 exact h pins _ σ H xs _ Q I1 (by simpa using rv) hw
section
variable {X:Cx} {tg:Expr}
end
section
variable {X:Cx} {e:Expr}
end
section
variable {X:Cx}
end
section
variable {M:Model} {A:Around} {E:Value->Shared->Prop} {nm q:Str} {C N:Addr} {bs bm:List Value} {hdct:Bool} {sn:List Str} {sub:List Value} {ab:Bool} {col:Option Bool} {dd:Option Addr} {k0 k1 k2 k3 k5:Option Value} {newId:String}
end
end L2
namespace L2
open PySem PyProof
theorem Ol {es:List Expr} {env:Env} {a b c}:starEach (.Dict a b c:: es) env=(false,eval (.Dict a b c) env):: starEach es env:=rfl
section
variable {X:Cx} {x:Str} {px pos:Pos} {iter elt:Expr} {ifs:List Expr} {scope:Scope} {wi:TI} {tt:TT} {te:TE}
theorem Bh (js:List Nat) {pins:List (Addr×Obj)} {σ:St} {s:Shared} {itv:Value} {Q:List V->Hp->Prop} {RR:Value->Addr->Result->Shared->Prop} {E:Value->Shared->Prop}
  (hc:X.calm=true) (hk:scope.kind=.function) (hx:scope.names.lookup x=some .local) (hcell:∀y∈scope.names,y.2≠.cell)
  (hfree:∀y∈scope.names,y.2=.free->X.env.kindOf y.1=some .cell∨X.env.kindOf y.1=some .free)
  (hN:(x:: dO X.N js).Nodup) (hjs:∀y∈dO X.N js,scope.names.lookup y=some .free)
  (hif:∀cl C s H ex,PF (z7 X scope x js cl C s H ex) ifs tt) (he:∀cl C s H ex,PE (z7 X scope x js cl C s H ex) elt te)
  (hit:PIE X pins σ (.Name x px) (CompEnd js tt te σ Q) itv s)
  (hR:∀D C s' H2 ys m,Inv X pins σ (upd H2 D (.lst ys)) s'->H2 D=none->s'.heap.Ns C m->(∀h',Heap.SameBut C s'.heap h'->Inv X pins σ (upd H2 D (.lst ys)) { s' with heap:=h' })->Hv X pins (upd H2 D (.lst ys)) C->C≠D->Q ys H2->RR (.ref D) C (.ok .next) s'):
  wpAny (model X.prog X.w) X.A (newList []) (fun acc s₃=>wpAny (model X.prog X.w) X.A (newFunctionEnv scope X.env.globals (clos X.env scope.names []) [] X.env.qual none .none (some X.env)) (fun cenv s₄=>
   codeAny (model X.prog X.w) X.A (.compStart (.ListComp elt [⟨.Name x px,iter,ifs,0⟩] scope pos) 0 itv acc { cenv with scope:=relabel scope X.env }) (RR acc cenv.locals) s₄) E s₃) E s:=
 uC (tg:=.Name x px) (g:=ym 0) [x] js hc hk hcell hfree (fun cl C s H ex=>iu (i:=0) hN rfl (.inl (lookup_relabel_local hx)) (.inr (lookup_relabel_local hx))) hif he hjs
  (by
   obtain⟨it,fp,tn,J,H',e,I,T,t0,hf,W,h0,hW⟩:=hit
   exact⟨it,fp,tn,J,H',e,I,T,t0,hf,W,h0,fun i m ys H2 w=>(hW i m ys H2 w).imp_right fun⟨a,b,N,c,d⟩=>⟨a,b,N,c,fun y H3 z=>⟨rfl,d y H3 z⟩⟩⟩) hR
theorem fD (js:List Nat) (N0:List Str) (sc0:Scope) (hc:X.calm=true) (hi:PI X (.Name x px) iter wi)
  (hif:∀cl C s H ex,PF (z7 X scope x js cl C s H ex) ifs tt) (he:∀cl C s H ex,PE (z7 X scope x js cl C s H ex) elt te)
  (hk:scope.kind=.function:=by rfl) (hx:scope.names.lookup x=some .local:=by rfl) (hcell:∀y∈scope.names,y.2≠.cell:=by decide +kernel)
  (hnames:∀y∈scope.names,y.2=.local->scope.names.lookup y.1=some .local:=by decide +kernel)
  (hsc:X.env.scope=sc0:=by rfl) (hfree0:∀y∈scope.names,y.2=.free->sc0.names.lookup y.1=some .cell∨sc0.names.lookup y.1=some .free:=by decide +kernel)
  (hNN:X.N=N0:=by rfl) (hN0:(x:: dO N0 js).Nodup:=by decide +kernel) (hj0:∀y∈dO N0 js,scope.names.lookup y=some .free:=by decide +kernel)
  (hs:∀x,foldedSetIterable iter X.env x=pure x:=by intro _;rfl):
  PE X (.ListComp elt [⟨.Name x px,iter,ifs,0⟩] scope pos) (Vs js wi tt te):=by
 intro pins s σ H Q I h
 have hN:(x:: dO X.N js).Nodup:=by rw [hNN];exact hN0
 have hfree:∀y∈scope.names,y.2=.free->X.env.kindOf y.1=some .cell∨X.env.kindOf y.1=some .free:=fun y hy e=>by
  show X.env.scope.names.lookup y.1=some .cell∨X.env.scope.names.lookup y.1=some .free
  rw [hsc];exact hfree0 y hy e
 have hjs:∀y∈dO X.N js,scope.names.lookup y=some .free:=by rw [hNN];exact hj0
 rw [eval_ListComp]
 have hcl:closureFor scope X.env=pure (clos X.env scope.names []):=lY fun y hy e=>I.ok.has y.1 (hfree y hy e)
 refine wpAny_comprehension_free (use:=none) rfl hs hcl hk hnames (dZ (hi pins s σ H _ I h) fun xv s1 h1=>dZ h1 fun it s2 h2=>?_)
 refine Bh js (RR:=fun acc C=>compPost (model X.prog X.w) X.A X.xe none (EP X pins σ Q) acc C) (Q:=fun ys H2=>∀D,H2 D=none->Q (.ref D) (upd H2 D (.lst ys))) hc hk hx hcell hfree hN hjs hif he h2 ?_
 intro D C s' H2 ys m I' hD hn all fpC hCD hq
 exact⟨m,hn,fun h' sb=>⟨.ref D,_,all h' sb,rfl,hq D hD⟩⟩
theorem pA {i:Nat} {y:Str} {py spos:Pos} (js:List Nat) (N0:List Str) (sc0:Scope) (hc:X.calm=true) (hNX:X.N.Nodup) (hiy:X.N[i]?=some y) (hi:PI X (.Name x px) iter wi)
  (hif:∀cl C s H ex,PF (z7 X scope x js cl C s H ex) ifs tt) (he:∀cl C s H ex,PE (z7 X scope x js cl C s H ex) elt te)
  (hsw:swapsWith (.ListComp elt [⟨.Name x px,iter,ifs,0⟩] scope pos) (some (.Name y py)) spos.line X.env=pure true:=by rfl) (hy:X.env.scope.names.lookup y=some .local:=by rfl)
  (hk:scope.kind=.function:=by rfl) (hx:scope.names.lookup x=some .local:=by rfl) (hcell:∀y∈scope.names,y.2≠.cell:=by decide +kernel)
  (hnames:∀y∈scope.names,y.2=.local->scope.names.lookup y.1=some .local:=by decide +kernel)
  (hsc:X.env.scope=sc0:=by rfl) (hfree0:∀y∈scope.names,y.2=.free->sc0.names.lookup y.1=some .cell∨sc0.names.lookup y.1=some .free:=by decide +kernel)
  (hNN:X.N=N0:=by rfl) (hN0:(x:: dO N0 js).Nodup:=by decide +kernel) (hj0:∀y∈dO N0 js,scope.names.lookup y=some .free:=by decide +kernel)
  (hs:∀x,foldedSetIterable iter X.env x=pure x:=by intro _;rfl):
  PS X (.Assign [.Name y py] (.ListComp elt [⟨.Name x px,iter,ifs,0⟩] scope pos) spos) (QX (Vs js wi tt te) (ym i)):=by
 intro pins s σ H D I h
 have hN:(x:: dO X.N js).Nodup:=by rw [hNN];exact hN0
 have hfree:∀y∈scope.names,y.2=.free->X.env.kindOf y.1=some .cell∨X.env.kindOf y.1=some .free:=fun y hy e=>by
  show X.env.scope.names.lookup y.1=some .cell∨X.env.scope.names.lookup y.1=some .free
  rw [hsc];exact hfree0 y hy e
 have hjs:∀y∈dO X.N js,scope.names.lookup y=some .free:=by rw [hNN];exact hj0
 rw [exec_Assign_Name_used _ _ _ _ hsw]
 refine wpAny_bind (wpAny_standAt (wpAny_bind ?_))
 show wpAny _ X.A (do let _ <-comprehension (.ListComp elt [⟨.Name x px,iter,ifs,0⟩] scope pos) scope X.env _ (newList []) false (eval iter X.env) (some (assign (.Name y py) X.env))) _ _ s
 have hcl:closureFor scope X.env=pure (clos X.env scope.names []):=lY fun y hy e=>I.ok.has y.1 (hfree y hy e)
 refine wpAny_bind (wpAny_mono (wpAny_comprehension_free (use:=some (assign (.Name y py) X.env)) (Q:=fun _ s'=>SP X pins D .next s') rfl hs hcl hk hnames
  (dZ (hi pins s σ H _ I h) fun xv s1 h1=>dZ h1 fun it s2 h2=>?_)) (fun _ s' hq=>wpAny_pure (wpAny_pure hq)) fun _ _ e=>e)
 refine Bh js (RR:=fun acc C=>compPost (model X.prog X.w) X.A X.xe (some (assign (.Name y py) X.env)) (fun _ s'=>SP X pins D .next s') acc C) (Q:=fun ys H2=>∀D',H2 D'=none->D.nx (σ.set i (some (.ref D'))) (upd H2 D' (.lst ys))) hc hk hx hcell hfree hN hjs hif he h2 ?_
 intro D' C s' H2 ys m I' hD hn all fpC hCD hq
 show wpAny _ X.A (assign (.Name y py) X.env (.ref D')) _ _ _
 refine wpAny_assign_Name (zW I' hNX hiy (.inl hy) (v:=.ref D') rfl (fun s'' I'' ⟨a,sb,ha⟩=>?_) (.inr hy))
 obtain⟨f1,f2,f3,f4,f5,f6⟩:=fpC
 have hCa:C≠a:=by
  rcases ha with z | z
  ·rw [z];exact f2
  ·exact fun w=>f5 _ _ z w.symm
 exact⟨m,hn.sameBut sb hCa,fun h' sb'=>⟨_,_,I''.turned (t':=s''.toks) (it:=C) (fun b o hb e=>(sb'.2 b hb).trans e) f1 f2 f4 f5 f6,hq D' hD⟩⟩
end
end L2
namespace L2
open PySem PySem.Spec PyProof.Rows
noncomputable def fdOf (K:PySem.W.Frag) (f:Addr):FuncData:=match K.lookup f with
 | some ⟨_,_,.func d,_⟩=>d
 | _=>default
structure d8 (K:PySem.W.Frag) (nm qn:Str) (s:Stmt) (f:Addr) (ps:List Str):Prop where
 F:Th K nm qn s f (fdOf K f)
 b:Binds K (fdOf K f) ps []
 i:PySem.W.isFn K (.ref f)=true
theorem d8.me {K:PySem.W.Frag} {nm qn m:Str} {s:Stmt} {f C:Addr} {ps:List Str} (x:d8 K nm qn s f ps) (h:PySem.W.findIn K (.ref C) m=some (some (.ref f))):Meth K C m f:=⟨h,x.i,x.F.kp⟩
theorem d8.of {K:PySem.W.Frag} {nm qn:Str} {s:Stmt} {f:Addr} {ps:List Str} {oc:Value} {od an:Option Addr} {osl:Array (Option Value)} {kV doc pm cdv ct:Value}
  (l:K.lookup f=some ⟨oc,od,.func (PySem.W.fnOf nm qn (qw s) (lV s) (bx s) .none kV doc pm an cdv ct),osl⟩) (c:PySem.W.codeIn K cdv qn=true) (k:PySem.W.keepIn K (.ref f)=true) (i:PySem.W.isFn K (.ref f)=true)
  (h:∀(kV doc pm:Value) (an:Option Addr) (cdv ct:Value) (us:List Value),us.length=ps.length->bindArgs (PySem.W.fnOf nm qn (qw s) (lV s) (bx s) .none kV doc pm an cdv ct) ⟨us,[]⟩=pure (ps.zip us)):d8 K nm qn s f ps:=by
 have e:fdOf K f=PySem.W.fnOf nm qn (qw s) (lV s) (bx s) .none kV doc pm an cdv ct:=by
  unfold fdOf
  rw [l]
 have F:=Wr l c k
 have b:=F.binds h
 rw [<-e] at F b
 exact⟨F,b,i⟩
structure nQ (K:PySem.W.Frag) (mg:Str->Option Value) (nm:Str) (s:Stmt) (f:Addr) (ps:List Str):Prop where
 x:d8 K nm nm s f ps
 m:mg nm=some (.ref f)
theorem nQ.of {K:PySem.W.Frag} {mg:Str->Option Value} {nm:Str} {s:Stmt} {f:Addr} {ps:List Str} (m:mg nm=some (.ref f)) (x:d8 K nm nm s f ps):nQ K mg nm s f ps:=⟨x,m⟩
theorem gC {mg:Str->Option Value} {nm:Str} {u:Value} {v:V} (m:mg nm=some u) (r:RelV v u):∃u,mg nm=some u/\RelV v u:=⟨u,m,r⟩
theorem nQ.F {K:PySem.W.Frag} {mg:Str->Option Value} {nm:Str} {s:Stmt} {f:Addr} {ps:List Str} (h:nQ K mg nm s f ps):Th K nm nm s f (fdOf K f):=h.x.F
theorem nQ.b {K:PySem.W.Frag} {mg:Str->Option Value} {nm:Str} {s:Stmt} {f:Addr} {ps:List Str} (h:nQ K mg nm s f ps):Binds K (fdOf K f) ps []:=h.x.b
noncomputable def MB (K:PySem.W.Frag) (C:Addr):List (Str×Addr)->Prop
 | []=>True
 | (m,f):: r=>PySem.W.findIn K (.ref C) m=some (some (.ref f))/\MB K C r
noncomputable def NB (K:PySem.W.Frag) (C:Addr):List Str->Prop
 | []=>True
 | f:: r=>PySem.W.findIn K (.ref C) f=some none/\NB K C r
structure Jz (K:PySem.W.Frag) (mg:Str->Option Value) (nm:Str) (C:Addr) (ms:List (Str×Addr)) (as:List Str):Prop where
 m:mg nm=some (.ref C)
 c:Qa K C
 mks:PySem.W.makesIn K C=true
 kp:PySem.W.keepIn K (.ref C)=true
 me:MB K C ms
 na:NB K C as
theorem Jz.M {K:PySem.W.Frag} {mg:Str->Option Value} {nm:Str} {C f:Addr} {ms:List (Str×Addr)} {as ps:List Str} {n q:Str} {s:Stmt} (h:Jz K mg nm C (("__init__",f):: ms) as) (x:d8 K n q s f ps):Mk K C f:=⟨h.mks,h.me.1,x.i,h.kp⟩
theorem Wd {K:PySem.W.Frag} {nm qn:Str} {st:Stmt} {f:Addr} {x:Str} (F:Th K nm qn st f (fdOf K f))
  (h:∀(kV doc pm:Value) (an:Option Addr) (cdv ct v:Value),bindArgs (PySem.W.fnOf nm qn (qw st) (lV st) (bx st) .none kV doc pm an cdv ct) ⟨[v],[]⟩=pure [(x,v)]) (s:Shared) (v:Value):BindsTo s (fdOf K f) ⟨[v],[]⟩ [(x,v)]:=by
 obtain⟨oc,od,kV,doc,pm,an,cdv,ct,osl,e,lk,hcd⟩:=F.ex
 rw [e]
 exact .of_eq (h kV doc pm an cdv ct v)
theorem My {K:PySem.W.Frag} {h:Heap} {C f:Addr} (X:K.In h) (_:PySem.W.findIn K (.ref C) "__init__" =some (some (.ref f))) (b:QB K C f=true):ExcAt K C:=(m8.ofIn b).at X
theorem us_0 {α:Type} {P:List α->Prop} (h:P []):∀us:List α,us.length=0->P us
 | [],_=>h
theorem yG {α:Type} {P:List α->Prop} (h:∀a,P [a]):∀us:List α,us.length=1->P us
 | [a],_=>h a
theorem vO {α:Type} {P:List α->Prop} (h:∀a b,P [a,b]):∀us:List α,us.length=2->P us
 | [a,b],_=>h a b
theorem Dy {α:Type} {P:List α->Prop} (h:∀a b c,P [a,b,c]):∀us:List α,us.length=3->P us
 | [a,b,c],_=>h a b c
theorem VP {α:Type} {P:List α->Prop} (h:∀a b c d,P [a,b,c,d]):∀us:List α,us.length=4->P us
 | [a,b,c,d],_=>h a b c d
theorem Xp {α:Type} {P:List α->Prop} (h:∀a b c d e,P [a,b,c,d,e]):∀us:List α,us.length=5->P us
 | [a,b,c,d,e],_=>h a b c d e
theorem ZL {α:Type} {P:List α->Prop} (h:∀a b c d e f,P [a,b,c,d,e,f]):∀us:List α,us.length=6->P us
 | [a,b,c,d,e,f],_=>h a b c d e f
theorem us_7 {α:Type} {P:List α->Prop} (h:∀a b c d e f g,P [a,b,c,d,e,f,g]):∀us:List α,us.length=7->P us
 | [a,b,c,d,e,f,g],_=>h a b c d e f g
theorem d8.sc {K:PySem.W.Frag} {nm qn:Str} {s:Stmt} {f:Addr} {ps:List Str} (_:d8 K nm qn s f ps) (N:List Str) (h:gK N ps (bx s):=by exact⟨rfl,rfl,rfl,by decide +kernel,rfl,by decide +kernel,by decide +kernel⟩):gK N ps (bx s):=h
theorem nQ.sc {K:PySem.W.Frag} {mg:Str->Option Value} {nm:Str} {s:Stmt} {f:Addr} {ps:List Str} (_:nQ K mg nm s f ps) (N:List Str) (h:gK N ps (bx s):=by exact⟨rfl,rfl,rfl,by decide +kernel,rfl,by decide +kernel,by decide +kernel⟩):gK N ps (bx s):=h
noncomputable abbrev FO (P:Program) (w:World) (K:PySem.W.Frag) (mg:Str->Option Value) (base:Heap) (k:Nat) (f:Addr) (ps:List Str) (sp:Sp):Prop:=gH P w K mg base Bd k f (fdOf K f) ps sp
theorem MT {N ps:List Str} {sc:Scope} (h:gK N ps sc:=by exact⟨rfl,rfl,rfl,by decide +kernel,rfl,by decide +kernel,by decide +kernel⟩):gK N ps sc:=h
section
variable {X:Cx} {k k' i:Nat} {f C:Addr} {ps as:List Str} {ms:List (Str×Addr)} {sp:Sp} {x m nm qn n:Str} {p pos apos pos':Pos} {e o:Expr} {es:List Expr} {ta te:TE} {t:TA} {s:Stmt} {N:List Str}
theorem eQ (F:gH X.prog X.w X.K X.mg X.base Bd k f (fdOf X.K f) ps sp) (g:nQ X.K X.mg x s f ps) (hr:iV k' X.A) (ha:PA X (e:: es) t) (hk:k<=k':=by decide) (hg:Gl X x:=by rfl)
  (hdb:(x == ("__debug__" :Str))=false:=by decide) (he:starEach (e:: es) X.env=(false,eval e X.env):: starEach es X.env:=by rfl) (hpl:(backTo pos (starEach es X.env)).any (·.1)=false:=by rfl):
  PE X (.Call (.Name x p) (e:: es) [] pos) (Vu sp [] E0 t):=Ob F (hr.mono hk) hg g.m g.F.kp g.b .nil fj ha hdb he hpl
theorem Kc {pl:Sem Bool} (he:PE X o ta) (c:Jz X.K X.mg n C ms as) (hm:PySem.W.findIn X.K (.ref C) m=some (some (.ref f))) (F:gH X.prog X.w X.K X.mg X.base Bd k f (fdOf X.K f) ps sp) (g:d8 X.K nm qn s f ps) (hr:iV k' X.A) (ha:PA X (e:: es) t)
  (hk:k<=k':=by decide) (hst:starEach (e:: es) X.env=(false,eval e X.env):: starEach es X.env:=by rfl) (hpl:(backTo pos (starEach es X.env)).any (·.1)=false:=by rfl)
  (ht:eval (.Call (.Attribute o m apos) (e:: es) [] pos) X.env=(do
   let ov <-eval o X.env
   standAt apos.atName
   let (f,first) <-holding [ov] (getMethod ov m pl)
   callWith pos f first (backTo pos (starEach (e:: es) X.env)) (backToKw pos (keywordEach [] X.env))):=by rfl):
  PE X (.Call (.Attribute o m apos) (e:: es) [] pos) (Mz C m sp [] E0 ta t):=jG he c.c (g.me hm) F (hr.mono hk) g.b .nil fj ha hst hpl ht
theorem Q5 {pl:Sem Bool} (he:PE X o ta) (c:Jz X.K X.mg n C ms as) (hm:PySem.W.findIn X.K (.ref C) m=some (some (.ref f))) (F:gH X.prog X.w X.K X.mg X.base Bd k f (fdOf X.K f) ps sp) (g:d8 X.K nm qn s f ps) (hr:iV k' X.A)
  (hk:k<=k':=by decide) (ht:eval (.Call (.Attribute o m apos) [] [] pos) X.env=(do
   let ov <-eval o X.env
   standAt apos.atName
   let (f,first) <-holding [ov] (getMethod ov m pl)
   callWith pos f first (backTo pos (starEach [] X.env)) (backToKw pos (keywordEach [] X.env))):=by rfl):
  PE X (.Call (.Attribute o m apos) [] [] pos) (Mz C m sp [] E0 ta Ru):=Rb he c.c (g.me hm) F (hr.mono hk) g.b .nil fj ht
theorem gN {sc:Scope} (S:gK X.N ps sc) (i:Nat) (hi:X.N[i]?=some x:=by rfl) (hx:Loc X.env.scope x:=by first | exact Or.inl rfl | exact Or.inr rfl) (hf:X.fn x=true∨X.env.scope.names.lookup x=some .local:=by first | exact .inl rfl | exact .inr rfl | assumption):PG X (.Name x pos) (ym i):=iu S.nd hi hx hf
theorem sN {sc:Scope} (S:gK X.N ps sc) (i:Nat) (he:PE X e te) (hi:X.N[i]?=some x:=by rfl) (hx:Loc X.env.scope x:=by first | exact Or.inl rfl | exact Or.inr rfl) (hs:swapsWith e (some (.Name x pos')) pos.line X.env=pure false:=by rfl) (hf:X.fn x=true∨X.env.scope.names.lookup x=some .local:=by first | exact .inl rfl | exact .inr rfl | assumption):
  PS X (.Assign [.Name x pos'] e pos) (QX te (ym i)):=Wl S.nd hi hx he hs hf
theorem Ls (h1:PE X o ta) (h2:PA X (e:: es) t) (hbase:attributeBase o "append" X.env (eval o X.env)=eval o X.env:=by rfl)
  (hfew:((backTo pos (starEach (e:: es) X.env)).all (fun x=>!x.1) && (backToKw pos (keywordEach [] X.env)).all (fun x=>x.1.isSome) && decide ((e:: es).length+([]:List Keyword).length+(if ([]:List Keyword).isEmpty then 0 else 1) <30))=true:=by rfl)
  (hline:(apos.endLine == pos.line)=true:=by rfl) (hs:starEach (e:: es) X.env=(false,eval e X.env):: starEach es X.env:=by rfl) (hplain:(backTo pos (starEach es X.env)).any (·.1)=false:=by rfl):
  PE X (.Call (.Attribute o "append" apos) (e:: es) [] pos) (ZX X.K "list" Nx ta t):=Ah PySem.F.plainAttrs_list PySem.F.slot_list_append PySem.F.type_list_append O1 h1 h2 hbase hfew hline hs hplain
end
theorem ln {sp:Sp} {ps:List Str} (h:∀vs H Q E,sp vs H Q E->vs.length=ps.length:=by
 intro _ _ _ _ h
 first
 | (cases h;subst_vars;rfl)
 | (cases h;rename_i h;cases h;subst_vars;rfl)
 | (obtain⟨_,rfl,_⟩:=h;rfl)
 | (obtain⟨_,_,rfl,_⟩:=h;rfl)
 | (obtain⟨_,_,_,rfl,_⟩:=h;rfl)):∀vs H Q E,sp vs H Q E->vs.length=ps.length:=h
end L2
namespace One
open PySem PySem.W PySem.Calls PyProof.Rows
def Hf:Nat->BT->List Obj->BT
 | _,t,[]=>t
 | n,t,o:: r=>Hf (n+1) (t.ins n o) r
def Hy:Nat->BT->List Obj->Bool
 | _,_,[]=>true
 | n,t,o:: r=>((t.ins n o).get n).isSome && Hy (n+1) (t.ins n o) r
theorem Hh {life:Life}:∀(l:List Obj) (n:Nat) (t:BT) (as:List Obj),absHeap t n life=⟨as.toArray,life⟩->Hy n t l=true->absHeap (Hf n t l) (n+l.length) life=⟨(as ++ l).toArray,life⟩
 | [],n,t,as,h,_=>by simpa [Hf] using h
 | o:: r,n,t,as,h,k=>by
  simp only [Hy,Bool.and_eq_true] at k
  have e:=absHeap_ins (life:=life) k.1
  rw [h] at e
  have:=Hh r (n+1) (t.ins n o) (as ++ [o]) (by rw [e];simp [Heap.push]) k.2
  rw [List.append_assoc] at this
  rw [List.length_cons,show n+(r.length+1)=n+1+r.length by omega]
  exact this
def Xy (tb:String->Option Builtin) (p:Program) (w:World) (m:Nat) (an:Option Value):Nat->SharedT->Thread->Option (SharedT×Thread)
 | 0,s,t=>some (s,t)
 | n+1,s,t=>match through t with
  | true=>some (s,t)
  | false=>match stepOk m an t with
   | false=>none
   | true=>match stepT (denote tb) p w s t with
    | some (s',t')=>Xy tb p w m an n s' t'
    | none=>none
theorem Td {tb:String->Option Builtin} {p:Program} {w:World} {m:Nat} {an:Option Value}:∀{n:Nat} {s s':SharedT} {t t':Thread},Xy tb p w m an n s t=some (s',t')->through t'=true->topRun tb p w m an (n+1) s.abs t=some s'.abs
 | 0,s,s',t,t',h,z=>by
  obtain⟨rfl,rfl⟩:=Prod.mk.inj (Option.some.inj h)
  unfold topRun
  rw [z]
 | n+1,s,s',t,t',h,z=>by
  unfold Xy at h
  unfold topRun
  cases e1:through t with
  | true=>
   rw [e1] at h
   obtain⟨rfl,rfl⟩:=Prod.mk.inj (Option.some.inj h)
   rfl
  | false=>
   rw [e1] at h
   cases e2:stepOk m an t with
   | false=>rw [e2] at h;cases h
   | true=>
    rw [e2] at h
    cases e3:stepT (denote tb) p w s t with
    | none=>rw [e3] at h;cases h
    | some r=>
     obtain⟨s2,t2⟩:=r
     rw [e3] at h
     rw [stepT_spec e3]
     exact Td h z
def ends (r:SharedT×Thread):Option SharedT:=match through r.2 with
 | true=>some r.1
 | false=>none
theorem Tq {tb:String->Option Builtin} {p:Program} {w:World} {m:Nat} {an:Option Value} {n:Nat} {s s':SharedT} {t:Thread} (h:(Xy tb p w m an n s t).bind ends=some s'):topRun tb p w m an (n+1) s.abs t=some s'.abs:=by
 obtain⟨⟨s2,t2⟩,e1,e2⟩:=Option.bind_eq_some_iff.mp h
 unfold ends at e2
 cases z:through t2 with
 | false=>simp only [z] at e2;cases e2
 | true=>
  simp only [z] at e2
  cases e2
  exact Td e1 z
noncomputable def Yw (P:Params):Option Value:=(boot_heap P).nsMap mainGlobals "__annotations__"
noncomputable def S0 (w:World) (os:OsState):SharedT:=⟨Hf 0 .nil (boot_heap w.params).objs.toList,11,{},Array.mk [],boot_drawn,boot_toks,os⟩
theorem V8 (w:World) (os:OsState):(S0 w os).abs=⟨boot_heap w.params,Array.mk [],boot_drawn,boot_toks,os⟩:=by
 have e:=Hh (life:={}) (boot_heap w.params).objs.toList 0 .nil [] rfl (by rfl)
 have e2:absHeap (Hf 0 .nil (boot_heap w.params).objs.toList) 11 {}=boot_heap w.params:=e
 show(⟨absHeap (Hf 0 .nil (boot_heap w.params).objs.toList) 11 {},_,_,_,_⟩:Shared)=_
 rw [e2]
 rfl
noncomputable def WN (p:Program) (M:Nat) (w:World) (os:OsState):Option SharedT:=(Xy treeTable p w 11 (Yw w.params) M (S0 w os) (topStub p)).bind ends
noncomputable def Qk (p q:Program) (loose:List Str) (Xt:Shared->Bool) (M:Nat) (w:World) (os:OsState):=
 (WN p M w os).map fun s=>(staticsOk (importedModules p.main.body) (boot_heap w.params) s.abs.heap && namesBound p s.abs.heap && gensDone s.abs && laidKept (boot_heap w.params) s.abs.heap,openSeen q loose (importedModules p.main.body) Xt true s.abs)
theorem Uv {p q:Program} {loose:List Str} {Xt:Shared->Bool} {α:Type} {Yf:Shared->α} {Ya:World->α} {N M:Nat} (e:opening p=plainProg p.main.scope.names) (hN:Nat.ble 600 N=true) (f:∀s,fenceModules? p s=some s) (le:Nat.ble (M+1) N=true)
  (A:∀w os,Qk p q loose Xt M w os=some (true,openGood q loose)) (B:∀w os,(WN p M w os).map (fun s=>Yf s.abs)=some (Ya w)):LeftO p q loose Xt Yf Ya N:=fun w=>by
 obtain⟨⟨h,gs,d,k,os⟩,e1,e2⟩:=Option.map_eq_some_iff.mp (boot_open e hN f w)
 obtain⟨rfl,rfl,rfl,rfl⟩:h=boot_heap w.params/\gs=Array.mk []/\d=boot_drawn/\k=boot_toks:=by simpa using e2
 obtain⟨s1,r1,l1⟩:=Option.map_eq_some_iff.mp (A w os)
 obtain⟨s2,r2,l2⟩:=Option.map_eq_some_iff.mp (B w os)
 rw [r1] at r2
 cases r2
 obtain⟨l3,l4⟩:=Prod.mk.inj l1
 have r3:=Tq r1
 rw [V8] at r3
 have r4:=topRun_mono (N - (M+1)) _ _ _ _ r3
 rw [show M+1+(N - (M+1))=N by have:=Nat.le_of_ble_eq_true le;omega] at r4
 have t:topFrom treeTable p w N ⟨boot_heap w.params,Array.mk [],boot_drawn,boot_toks,os⟩=some s1.abs:=by
  unfold topFrom
  have z1:((boot_heap w.params).isNs mainGlobals && (Array.mk []:Array GenState).size == 0)=true:=by kernel_rfl
  dsimp only
  rw [z1]
  show((topRun treeTable p w 11 (Yw w.params) N _ _).bind _)=_
  rw [r4]
  show(match staticsOk (importedModules p.main.body) (boot_heap w.params) s1.abs.heap && namesBound p s1.abs.heap && gensDone s1.abs && laidKept (boot_heap w.params) s1.abs.heap with | true=>_ | false=>_)=_
  rw [l3]
 unfold openEnds
 rw [e1]
 show(topFrom treeTable p w N _).map _=_
 rw [t]
 exact congrArg some (Prod.ext l4 l2)
def zq (s:SharedT) (a:Addr):Option Obj:=match Nat.blt a s.n with
 | true=>(match s.tree.get a with | some o=>alive o | none=>none)
 | false=>none
theorem R8 {s:SharedT} {a:Addr} {o:Obj} (h:zq s a=some o):s.abs.heap.get? a=some o:=by
 unfold zq at h
 cases e:Nat.blt a s.n with
 | false=>rw [e] at h;cases h
 | true=>
  rw [e] at h
  cases g:s.tree.get a with
  | none=>rw [g] at h;cases h
  | some x=>
   rw [g] at h
   exact(abs_get (Nat.le_of_ble_eq_true e) g).trans h
theorem Nz {s:SharedT}:∀{as:List Addr} {l:List (Addr×Obj)},as.map (zq s)=l.map (fun p=>some p.2)->as.map s.abs.heap.get?=l.map fun p=>some p.2
 | [],[],_=>rfl
 | [],_:: _,h=>by cases h
 | _:: _,[],h=>by cases h
 | a:: as,x:: l,h=>by
  have h1:=List.cons.inj h
  show s.abs.heap.get? a:: as.map _=_
  rw [R8 h1.1,Nz h1.2]
  rfl
theorem chunk {o:Option SharedT} {as:List Addr} {l:List (Addr×Obj)} (n:Nat) (h1:o.map (fun s=>(as.take n).map (zq s))=some ((l.take n).map fun p=>some p.2)) (h2:o.map (fun s=>(as.drop n).map (zq s))=some ((l.drop n).map fun p=>some p.2)):
  o.map (fun s=>as.map (zq s))=some (l.map fun p=>some p.2):=by
 obtain⟨s,e1,e2⟩:=Option.map_eq_some_iff.mp h1
 subst e1
 have e3:=Option.some.inj h2
 show some (as.map (zq s))=_
 rw [<-List.take_append_drop n as,<-List.take_append_drop n l,List.map_append,List.map_append]
 exact congrArg some (congr (congrArg _ e2) e3)
theorem Tp {o:Option SharedT} {w:World} {K:Params->Frag} {as:List Addr} {e:∀P,as=(K P).map (·.1)} (h:o.map (fun s=>as.map (zq s))=some ((K w.params).map fun p=>some p.2)):
  o.map (fun s=>Hook.obs (kHook K as e) s.abs)=some (Hook.val (kHook K as e) w):=by
 obtain⟨s,h1,h2⟩:=Option.map_eq_some_iff.mp h
 rw [h1]
 exact congrArg some (Nz h2)
end One
namespace HD
open PySem PySem.W PySem.Calls PyProof.Rows
abbrev rr:OpenRow:=OpenLaw.row PySem.Challenge.rw_holdlane_k75_stages_work_ahead
def q:Program:=view PySem.Challenge.pw_holdlane_k75_stages_work_ahead [90]
def loose:List PySem.Str:=(["_wall", "LaneError", "TooMany", "NoKind", "BadName", "Doubled", "NoSuch", "BadNumbers", "BadLanes", "BadRoom", "Open", "Loose", "IsDoor", "BadRow", "Lacks", "Full"]:List PySem.Str) ++ (["VALUES", "FIGURES", "LETTERS", "LONGEST_NAME", "is_whole", "is_value", "is_name", "rest", "COUNTS", "Part", "Give", "Take", "Pass", "Copy", "Turn", "Heap"]:List PySem.Str) ++ (["Add", "Less", "Order", "Choose", "Split", "is_kind", "need_fit", "made_of", "part_made", "MOST_LANES", "MOST_PARTS", "MOST_ROOM", "need_counts", "need_fresh", "need_lane", "fresh_part"]:List PySem.Str) ++ (["tie_lanes", "need_ends", "joined_with", "need_joined", "row_of", "Net", "Flow", "LONGEST_ROW", "is_row", "need_rows", "Run", "wait_of", "worked_ahead", "need_no_wait", "_law_cell", "_law_mix"]:List PySem.Str) ++ (["_law_value", "_law_word", "_law_lane", "_law_part", "_law_pick", "_law_two", "_law_loop", "_law_step", "_law_closed", "_law_net", "_law_as_tuples", "_law_needs", "_law_given", "_law_due", "_law_ahead", "_law_asked"]:List PySem.Str)
def Xt (s:Shared):Bool:=xlAt q [] s && recOk (RowW.records (OpenRow.toRowW (OpenLaw.row PySem.Challenge.rw_holdlane_k75_stages_work_ahead))) s
structure KA where
 K:Params->Frag
 as:List Addr
def pickK {r:OpenRow} {K:Params->Frag} {as:List Addr} (_:(∀H:Hook,(∃e,H=kHook K as e)->r.Holds)->r.Holds):KA:=⟨K,as⟩
local macro_rules | `(tactic| o_head $H)=>`(tactic| (rename_i hh;exact hh $H ⟨_,rfl⟩))
noncomputable def ka:KA:=pickK (r:=rr) (fun _=>by k_head)
theorem Uh (P:Params):KA.as ka=(ka.heap_1 P).map (·.1):=by kernel_rfl
noncomputable def runC:World->OsState->Option SharedT:=fun w os=>One.WN PySem.Challenge.pw_holdlane_k75_stages_work_ahead 14060 w os
noncomputable def Im:=fun(w:World) (os:OsState)=>One.Qk PySem.Challenge.pw_holdlane_k75_stages_work_ahead q loose Xt 14060 w os
noncomputable def M9:=some (true,openGood q loose)
theorem VN:runC=runC:=rfl
name_quick runQ for HD.runC by HD.VN
theorem Sd:Im=Im:=rfl
name_quick looksQ for HD.Im by HD.Sd
theorem TV:M9=M9:=rfl
name_quick goodQ for HD.M9 by HD.TV
theorem A0 (w:World) (os:OsState):PySem.W.Fast.looksQ (w.withFollow "special-get-raises" false) os=PySem.W.Fast.goodQ:=by kernel_rfl
theorem Zf (w:World) (os:OsState):(PySem.W.Fast.runQ (w.withFollow "special-get-raises" false) os).map (fun s=>(KA.as ka).map (One.zq s))=some ((ka.heap_1 (w.withFollow "special-get-raises" false).params).map fun p=>some p.2):=by kernel_rfl
theorem B0 (w:World) (os:OsState):(PySem.W.Fast.runQ (w.withFollow "special-get-raises" false) os).map (fun s=>(KA.as ka).map (One.zq s))=some ((ka.heap_1 (w.withFollow "special-get-raises" false).params).map fun p=>some p.2):=Zf w os
theorem A1 (w:World) (os:OsState):PySem.W.Fast.looksQ (w.withFollow "special-get-raises" true) os=PySem.W.Fast.goodQ:=by kernel_rfl
theorem ZP (w:World) (os:OsState):(PySem.W.Fast.runQ (w.withFollow "special-get-raises" true) os).map (fun s=>(KA.as ka).map (One.zq s))=some ((ka.heap_1 (w.withFollow "special-get-raises" true).params).map fun p=>some p.2):=by kernel_rfl
theorem B1 (w:World) (os:OsState):(PySem.W.Fast.runQ (w.withFollow "special-get-raises" true) os).map (fun s=>(KA.as ka).map (One.zq s))=some ((ka.heap_1 (w.withFollow "special-get-raises" true).params).map fun p=>some p.2):=ZP w os
theorem A (w:World):∀os,Im w os=M9:=by
 rw [PySem.W.Fast.looksQ_eq,PySem.W.Fast.goodQ_eq]
 exact byRow2 "special-get-raises" (P:=fun w=>∀os,PySem.W.Fast.looksQ w os=PySem.W.Fast.goodQ) A0 A1 w
theorem B (w:World):∀os,(runC w os).map (fun s=>(KA.as ka).map (One.zq s))=some ((ka.heap_1 w.params).map fun p=>some p.2):=by
 rw [PySem.W.Fast.runQ_eq]
 exact byRow2 "special-get-raises" (P:=fun w=>∀os,(PySem.W.Fast.runQ w os).map (fun s=>(KA.as ka).map (One.zq s))=some ((ka.heap_1 w.params).map fun p=>some p.2)) B0 B1 w
theorem head {d:DefRec} {kwd:List (PySem.Str×Expr)}
  (hdef:defOf q rr.name=some (d,kwd)) (hp:rr.prog.theDef rr.name=some (d.params,d.body,d.scope)) (hk:kwWritten? d.params.kwonlyargs d.params.kw_defaults=some kwd) (hwr:(!rr.writes || rr.records.isEmpty)=true)
  (k1:rr.wellSaid=true) (ok:(chainsOk q && opensWell rr.prog && (frees rr.toRowW && rr.within.isEmpty))=true) (hb:rr.prog.bare) (ho:opening PySem.Challenge.pw_holdlane_k75_stages_work_ahead=plainProg (PySem.Challenge.pw_holdlane_k75_stages_work_ahead).main.scope.names) (f:∀s,fenceModules? PySem.Challenge.pw_holdlane_k75_stages_work_ahead s=some s)
  (hw:rr.toRowW.promised) (hc:WalkO q loose (XL q []) (Hook.says (kHook ka.heap_1 (KA.as ka) Uh)) rr.toRowW d kwd fun f vs=>PySem.call f vs):rr.Holds:=by
 have left:LeftO PySem.Challenge.pw_holdlane_k75_stages_work_ahead q loose Xt (Hook.obs (kHook ka.heap_1 (KA.as ka) Uh)) (Hook.val (kHook ka.heap_1 (KA.as ka) Uh)) 28700:=One.Uv (M:=14060) ho rfl f rfl A fun w os=>One.Tp (B w os)
 exact holds_open (XP:=XL q []) (YP:=Hook.says (kHook ka.heap_1 (KA.as ka) Uh)) left (Hook.of _) (Hook.keeps _) (fun s z=>xl_of s (Bool.and_eq_true_iff.mp z).1) XL.keeps hdef hp hk (fun s z=>recFacts_of (Bool.and_eq_true_iff.mp z).2) hwr k1 ok hb hw hc
end HD
namespace K75
open PySem L2
theorem lM {α β:Type} {f:α->β} {l:List α}:(l.map f).length=l.length:=List.length_map ..
theorem lP {α:Type} {l m:List α}:(l ++ m).length=l.length+m.length:=List.length_append ..
theorem gw {n:Nat} (h:Nat.ble n 16777216=true:=by rfl):n<=sizeLine:=by rw [sizeLine_eq];exact Nat.le_of_ble_eq_true h
noncomputable def top (i:Nat):Stmt:=PySem.Challenge.pw_holdlane_k75_stages_work_ahead.main.body.getD i (.Pass ⟨0,0,0,0⟩)
set_option genInjectivity false in
structure lA where
 (iU iT jw jK DN Dp cj vC uK u9 vA uT uA xK uN sU qO rU GD Ek Ge Ak Sg dg nC du dI sI bW jM qX qZ qW qR tY qQ pO mW pP DR Av yf Bv Az Bg Ba Ei An Bm wI DW Hb wU yX Aj yo Ae Al xF xm lN lG jB vB gj mC j7 my JD xH o9 tQ mV uV lJ ue mZ oY uD zX Km Bt pR m9 o8 pL rB Gk pG pQ rR yu yC Dq yJ yL Vr Mr LC Mj Lj Mh HS Qt K3 Jj Dr Jp dY cW wX yt uZ eY iC jo jC:Addr)
noncomputable abbrev ROWS:List (Str×List Int):=[("give",[0,0,1]),("take",[0,1,0]),("pass",[0,1,1]),("copy",[0,1,2]),("turn",[2,1,1]),("heap",[1,1,1]),("add",[0,2,1]),("less",[0,2,1]),("order",[0,2,2]),("choose",[0,3,1]),("split",[0,2,2])]
structure Txt (w:World) (K:PySem.W.Frag) (mg:Str->Option Value) (t:lA):Prop where
 ji:Jz K mg "Give" t.Mr [("__init__",t.cj),("kind",t.vC),("taking",t.dg),("lacks",t.du),("start",t.dI),("with_memory",t.bW)] ["name", "numbers", "ins", "outs"]
 jc:Jz K mg "Take" t.LC [("__init__",t.cj),("kind",t.uK),("taking",t.dg),("lacks",t.du),("start",t.dI),("with_memory",t.bW)] ["name", "numbers", "ins", "outs"]
 ir:Jz K mg "Pass" t.Mj [("__init__",t.cj),("kind",t.u9),("taking",t.dg),("lacks",t.du),("worked",t.qX),("start",t.dI),("with_memory",t.bW)] ["name", "numbers", "ins", "outs"]
 iw:Jz K mg "Copy" t.Lj [("__init__",t.cj),("kind",t.vA),("taking",t.dg),("lacks",t.du),("worked",t.qZ),("start",t.dI),("with_memory",t.bW)] ["name", "numbers", "ins", "outs"]
 iy:Jz K mg "Turn" t.Mh [("__init__",t.cj),("kind",t.uT),("taking",t.dg),("lacks",t.du),("worked",t.qW),("start",t.dI),("with_memory",t.bW)] ["name", "numbers", "ins", "outs"]
 gq:Jz K mg "Heap" t.HS [("__init__",t.cj),("kind",t.uA),("taking",t.dg),("lacks",t.du),("worked",t.qR),("start",t.sI),("with_memory",t.jM)] ["name", "numbers", "ins", "outs"]
 jU:Jz K mg "Add" t.Qt [("__init__",t.cj),("kind",t.xK),("taking",t.dg),("lacks",t.du),("worked",t.tY),("start",t.dI),("with_memory",t.bW)] ["name", "numbers", "ins", "outs"]
 il:Jz K mg "Less" t.K3 [("__init__",t.cj),("kind",t.uN),("taking",t.dg),("lacks",t.du),("worked",t.qQ),("start",t.dI),("with_memory",t.bW)] ["name", "numbers", "ins", "outs"]
 fL:Jz K mg "Order" t.Jj [("__init__",t.cj),("kind",t.sU),("taking",t.dg),("lacks",t.du),("worked",t.pO),("start",t.dI),("with_memory",t.bW)] ["name", "numbers", "ins", "outs"]
 dW:Jz K mg "Choose" t.Dr [("__init__",t.cj),("kind",t.qO),("taking",t.nC),("lacks",t.du),("worked",t.mW),("start",t.dI),("with_memory",t.bW)] ["name", "numbers", "ins", "outs"]
 fK:Jz K mg "Split" t.Jp [("__init__",t.cj),("kind",t.rU),("taking",t.dg),("lacks",t.du),("worked",t.pP),("start",t.dI),("with_memory",t.bW)] ["name", "numbers", "ins", "outs"]
 bc:Jz K mg "Net" t.dY [("__init__",t.o9),("lane_names",t.lN),("part_names",t.lG),("names_of_kind",t.jB),("gives",t.vB),("need_lane_name",t.gj),("room_of",t.mC),("first_of",t.j7),("part_of",t.my),("told",t.xH)] ["rooms", "firsts", "parts", "givers", "takers"]
 aY:Jz K mg "Flow" t.cW [("__init__",t.mZ),("holds",t.tQ),("held_now",t.mV),("head",t.uV),("row_ended",t.lJ),("heads",t.ue),("lacking",t.oY),("deed",t.uD),("do",t.zX)] ["net", "ever", "gone", "kept", "done", "rows"]
 dz:Jz K mg "Run" t.wX [("__init__",t.pR),("full_lane",t.m9),("lane_now",t.o8),("part_now",t.pL),("net_now",t.rB)] ["net", "flow", "turns"]
 j0:mg "LaneError" =some (.ref t.uZ)
 zO:mg "NoSuch" =some (.ref t.eY)
 Gg:mg "IsDoor" =some (.ref t.iC)
 Ke:mg "Lacks" =some (.ref t.jo)
 Ny:mg "Full" =some (.ref t.jC)
 Xf:PySem.W.findIn K (.ref t.eY) "__init__" =some (some (.ref t.iU))
 Xe:PySem.W.findIn K (.ref t.iC) "__init__" =some (some (.ref t.iT))
 Yj:PySem.W.findIn K (.ref t.jo) "__init__" =some (some (.ref t.jw))
 Y0:PySem.W.findIn K (.ref t.jC) "__init__" =some (some (.ref t.jK))
 oK:Va K t.uZ
 yE:PySem.W.kitOne K (.ref t.jC) (.ref t.uZ)=some true
 zF:PySem.W.subIn K (.ref t.iC) (.ref t.eY)=some false
 BR:PySem.W.subIn K (.ref t.jo) (.ref t.eY)=some false
 BZ:PySem.W.subIn K (.ref t.jo) (.ref t.iC)=some false
 CN:PySem.W.subIn K (.ref t.jC) (.ref t.eY)=some false
 CQ:PySem.W.subIn K (.ref t.jC) (.ref t.iC)=some false
 FZ:PySem.W.subIn K (.ref t.jC) (.ref t.jo)=some false
 Ds:Xb K t.eY t.iU
 GX:Ib K t.eY
 Gq:fX K t.eY "name"
 O6:ExcAt K t.eY
 JF:Xb K t.iC t.iT
 Gj:Ib K t.iC
 Hq:fX K t.iC "name"
 Ph:ExcAt K t.iC
 Nf:Xb K t.jo t.jw
 KY:Ib K t.jo
 KJ:fX K t.jo "lane"
 Qu:ExcAt K t.jo
 Qz:Xb K t.jC t.jK
 Jb:Ib K t.jC
 N5:fX K t.jC "lane"
 U4:ExcAt K t.jC
 iQ:d8 K "__init__" "NoSuch.__init__" (inClass (top 7) 0) t.iU ["self", "name"]
 jW:d8 K "__init__" "IsDoor.__init__" (inClass (top 13) 0) t.iT ["self", "name"]
 lF:d8 K "__init__" "Lacks.__init__" (inClass (top 15) 0) t.jw ["self", "lane"]
 mX:d8 K "__init__" "Full.__init__" (inClass (top 16) 0) t.jK ["self", "lane"]
 sV:nQ K mg "is_whole" (top 22) t.DN ["thing"]
 pN:nQ K mg "is_value" (top 23) t.Dp ["thing"]
 bf:d8 K "__init__" "Part.__init__" (inClass (top 28) 0) t.cj ["self", "name", "numbers", "ins", "outs"]
 qz:d8 K "kind" "Give.kind" (inClass (top 29) 0) t.vC ["self"]
 qK:d8 K "kind" "Take.kind" (inClass (top 30) 0) t.uK ["self"]
 qC:d8 K "kind" "Pass.kind" (inClass (top 31) 0) t.u9 ["self"]
 qy:d8 K "kind" "Copy.kind" (inClass (top 32) 0) t.vA ["self"]
 qd:d8 K "kind" "Turn.kind" (inClass (top 33) 0) t.uT ["self"]
 qD:d8 K "kind" "Heap.kind" (inClass (top 34) 0) t.uA ["self"]
 tO:d8 K "kind" "Add.kind" (inClass (top 35) 0) t.xK ["self"]
 qt:d8 K "kind" "Less.kind" (inClass (top 36) 0) t.uN ["self"]
 oG:d8 K "kind" "Order.kind" (inClass (top 37) 0) t.sU ["self"]
 mD:d8 K "kind" "Choose.kind" (inClass (top 38) 0) t.qO ["self"]
 oO:d8 K "kind" "Split.kind" (inClass (top 39) 0) t.rU ["self"]
 vX:nQ K mg "is_kind" (top 40) t.GD ["word"]
 xR:nQ K mg "need_fit" (top 41) t.Ek ["kind", "name", "numbers", "ins", "outs"]
 zQ:nQ K mg "made_of" (top 42) t.Ge ["kind", "name", "numbers", "ins", "outs"]
 Bq:nQ K mg "part_made" (top 43) t.Ak ["kind", "name", "numbers", "ins", "outs"]
 Fo:nQ K mg "rest" (top 25) t.Sg ["number"]
 bK:d8 K "taking" "Part.taking" (inClass (top 28) 4) t.dg ["self", "heads"]
 jJ:d8 K "taking" "Choose.taking" (inClass (top 38) 1) t.nC ["self", "heads"]
 bL:d8 K "lacks" "Part.lacks" (inClass (top 28) 3) t.du ["self", "heads"]
 bQ:d8 K "start" "Part.start" (inClass (top 28) 2) t.dI ["self"]
 oA:d8 K "start" "Heap.start" (inClass (top 34) 1) t.sI ["self"]
 aV:d8 K "with_memory" "Part.with_memory" (inClass (top 28) 6) t.bW ["self", "kept"]
 iB:d8 K "with_memory" "Heap.with_memory" (inClass (top 34) 3) t.jM ["self", "kept"]
 lZ:d8 K "worked" "Pass.worked" (inClass (top 31) 1) t.qX ["self", "values", "kept"]
 lQ:d8 K "worked" "Copy.worked" (inClass (top 32) 1) t.qZ ["self", "values", "kept"]
 lR:d8 K "worked" "Turn.worked" (inClass (top 33) 1) t.qW ["self", "values", "kept"]
 mz:d8 K "worked" "Heap.worked" (inClass (top 34) 2) t.qR ["self", "values", "kept"]
 n6:d8 K "worked" "Add.worked" (inClass (top 35) 1) t.tY ["self", "values", "kept"]
 mq:d8 K "worked" "Less.worked" (inClass (top 36) 1) t.qQ ["self", "values", "kept"]
 kj:d8 K "worked" "Order.worked" (inClass (top 37) 1) t.pO ["self", "values", "kept"]
 jH:d8 K "worked" "Choose.worked" (inClass (top 38) 2) t.mW ["self", "values", "kept"]
 j6:d8 K "worked" "Split.worked" (inClass (top 39) 1) t.pP ["self", "values", "kept"]
 bI:nQ K mg "_law_mix" (top 73) t.DR ["_law_cell_here", "_law_k"]
 jN:nQ K mg "_law_cell" (top 72) t.Av ["_law_script", "_law_k"]
 jq:nQ K mg "_law_value" (top 74) t.yf ["_law_cell_here", "_law_k"]
 iW:nQ K mg "_law_word" (top 75) t.Bv ["_law_cell_here", "_law_k"]
 jd:nQ K mg "_law_lane" (top 76) t.Az ["_law_state", "_law_cell_here", "_law_back"]
 mO:nQ K mg "_law_pick" (top 78) t.Bg ["_law_state", "_law_number"]
 cZ:nQ K mg "_law_part" (top 77) t.Ba ["_law_state", "_law_cell_here", "_law_kind", "_law_numbers", "_law_ins", "_law_many"]
 xW:nQ K mg "_law_two" (top 79) t.Ei ["_law_state", "_law_cell_here", "_law_one", "_law_odd"]
 vh:nQ K mg "_law_loop" (top 80) t.An ["_law_state", "_law_cell_here", "_law_one"]
 uI:nQ K mg "_law_step" (top 81) t.Bm ["_law_state", "_law_cell_here", "_law_odd"]
 qU:nQ K mg "_law_closed" (top 82) t.wI ["_law_state", "_law_cell_here", "_law_back"]
 xY:nQ K mg "_law_net" (top 83) t.DW ["_law_script", "_law_start", "_law_steps", "_law_odd"]
 zR:nQ K mg "is_name" (top 24) t.Hb ["thing"]
 qP:nQ K mg "need_counts" (top 48) t.wU ["lanes", "parts"]
 ou:nQ K mg "need_fresh" (top 49) t.yX ["name", "known"]
 vJ:nQ K mg "need_lane" (top 50) t.Aj ["name", "room", "first"]
 tG:nQ K mg "fresh_part" (top 51) t.yo ["row", "known"]
 qi:nQ K mg "tie_lanes" (top 52) t.Ae ["part", "lanes", "rooms", "ends"]
 u5:nQ K mg "need_ends" (top 53) t.Al ["rooms", "givers", "takers"]
 rA:nQ K mg "joined_with" (top 54) t.xF ["part", "givers", "takers"]
 rm:nQ K mg "need_joined" (top 55) t.xm ["names", "givers", "takers"]
 ig:d8 K "lane_names" "Net.lane_names" (inClass (top 57) 1) t.lN ["self"]
 gP:d8 K "part_names" "Net.part_names" (inClass (top 57) 2) t.lG ["self"]
 jA:d8 K "names_of_kind" "Net.names_of_kind" (inClass (top 57) 5) t.jB ["self", "kind"]
 pZ:d8 K "gives" "Net.gives" (inClass (top 57) 3) t.vB ["self"]
 cJ:d8 K "need_lane_name" "Net.need_lane_name" (inClass (top 57) 12) t.gj ["self", "name"]
 iG:d8 K "room_of" "Net.room_of" (inClass (top 57) 7) t.mC ["self", "name"]
 jX:d8 K "first_of" "Net.first_of" (inClass (top 57) 8) t.j7 ["self", "name"]
 dh:d8 K "part_of" "Net.part_of" (inClass (top 57) 11) t.my ["self", "name"]
 zc:nQ K mg "row_of" (top 56) t.JD ["part"]
 sH:d8 K "told" "Net.told" (inClass (top 57) 13) t.xH ["self"]
 gQ:d8 K "__init__" "Net.__init__" (inClass (top 57) 0) t.o9 ["self", "lanes", "parts"]
 nY:d8 K "holds" "Flow.holds" (inClass (top 59) 1) t.tQ ["self", "lane"]
 nA:d8 K "held_now" "Flow.held_now" (inClass (top 59) 2) t.mV ["self", "lane"]
 vL:d8 K "head" "Flow.head" (inClass (top 59) 5) t.uV ["self", "lane"]
 jy:d8 K "row_ended" "Flow.row_ended" (inClass (top 59) 8) t.lJ ["self", "name"]
 n8:d8 K "heads" "Flow.heads" (inClass (top 59) 6) t.ue ["self", "part"]
 jF:d8 K "__init__" "Flow.__init__" (inClass (top 59) 0) t.mZ ["self", "net", "rows"]
 kh:d8 K "lacking" "Flow.lacking" (inClass (top 59) 7) t.oY ["self", "name"]
 qe:d8 K "deed" "Flow.deed" (inClass (top 59) 9) t.uD ["self", "name"]
 zA:d8 K "do" "Flow.do" (inClass (top 59) 10) t.zX ["self", "name", "deed"]
 Dc:nQ K mg "is_row" (top 62) t.Km ["thing"]
 uB:nQ K mg "need_rows" (top 63) t.Bt ["net", "rows"]
 j8:d8 K "__init__" "Run.__init__" (inClass (top 65) 0) t.pR ["self", "net", "rows"]
 nj:d8 K "full_lane" "Run.full_lane" (inClass (top 65) 4) t.m9 ["self", "deed"]
 pF:d8 K "lane_now" "Run.lane_now" (inClass (top 65) 8) t.o8 ["self", "name"]
 pq:d8 K "part_now" "Run.part_now" (inClass (top 65) 12) t.pL ["self", "name"]
 qT:d8 K "net_now" "Run.net_now" (inClass (top 65) 11) t.rB ["self"]
 zL:nQ K mg "wait_of" (top 67) t.Gk ["run", "name"]
 iY:nQ K mg "need_no_wait" (top 70) t.pG ["wait"]
 je:nQ K mg "worked_ahead" (top 69) t.pQ ["net", "part"]
 jn:nQ K mg "_law_as_tuples" (top 84) t.rR ["_law_lanes", "_law_parts"]
 oM:nQ K mg "_law_needs" (top 85) t.yu ["_law_kind", "_law_heads"]
 tZ:nQ K mg "_law_given" (top 86) t.yC ["_law_kind", "_law_numbers", "_law_values"]
 tH:nQ K mg "_law_due" (top 87) t.Dq ["_law_lanes", "_law_part_here"]
 sX:nQ K mg "_law_ahead" (top 88) t.yJ ["_law_lanes", "_law_parts", "_law_part_here"]
 tK:nQ K mg "_law_asked" (top 89) t.yL ["_law_net_one", "_law_name"]
 Nj:nQ K mg "law" (top 90) t.Vr ["_law_script"]
 Ho:mg "COUNTS" =some (.ref t.yt)
 Ku:KTab w K t.yt ROWS
 Nt:mg "all" =none
 We:mg "bool" =none
 JM:mg "enumerate" =none
 Vb:mg "int" =none
 jY:mg "isinstance" =none
 gA:mg "len" =none
 tE:mg "list" =none
 M7:mg "max" =none
 Vv:mg "min" =none
 qg:mg "range" =none
 Vt:mg "str" =none
 qb:mg "tuple" =none
 JK:∃u,mg "VALUES" =some u/\RelV (.int 1000000000) u
 GC:∃u,mg "LETTERS" =some u/\RelV (.str "abcdefghijklmnopqrstuvwxyz") u
 CG:∃u,mg "LONGEST_NAME" =some u/\RelV (.int 8) u
 PX:∃u,mg "FIGURES" =some u/\RelV (.str "0123456789") u
 Jm:∃u,mg "MOST_LANES" =some u/\RelV (.int 24) u
 Ij:∃u,mg "MOST_PARTS" =some u/\RelV (.int 16) u
 Kh:∃u,mg "MOST_ROOM" =some u/\RelV (.int 199) u
 FW:∃u,mg "LONGEST_ROW" =some u/\RelV (.int 300) u
section
variable {P:Program} {w:World} {K:PySem.W.Frag} {mg:Str->Option Value} {base:Heap} {t:lA}
noncomputable def cg (i:Nat):Str:=match i with
 | 0=> "give"
 | 1=> "take"
 | 2=> "pass"
 | 3=> "copy"
 | 4=> "turn"
 | 5=> "heap"
 | 6=> "add"
 | 7=> "less"
 | 8=> "order"
 | 9=> "choose"
 | _=> "split"
noncomputable def cN (i:Nat):Nat:=match i with
 | 0=>0
 | 1=>0
 | 2=>0
 | 3=>0
 | 4=>2
 | 5=>1
 | 6=>0
 | 7=>0
 | 8=>0
 | 9=>0
 | _=>0
noncomputable def cI (i:Nat):Nat:=match i with
 | 0=>0
 | 1=>1
 | 2=>1
 | 3=>1
 | 4=>1
 | 5=>1
 | 6=>2
 | 7=>2
 | 8=>2
 | 9=>3
 | _=>2
noncomputable def cO (i:Nat):Nat:=match i with
 | 0=>1
 | 1=>0
 | 2=>1
 | 3=>2
 | 4=>1
 | 5=>1
 | 6=>1
 | 7=>1
 | 8=>2
 | 9=>1
 | _=>2
noncomputable def cls (t:lA) (i:Nat):Addr:=match i with
 | 0=>t.Mr
 | 1=>t.LC
 | 2=>t.Mj
 | 3=>t.Lj
 | 4=>t.Mh
 | 5=>t.HS
 | 6=>t.Qt
 | 7=>t.K3
 | 8=>t.Jj
 | 9=>t.Dr
 | _=>t.Jp
theorem row_of (i:Nat):rowOf ROWS (cg i)=some [((cN i:Nat):Int),((cI i:Nat):Int),((cO i:Nat):Int)]:=match i with
 | 0=>by show rowOf ROWS "give" =some [0,0,1];decide +kernel
 | 1=>by show rowOf ROWS "take" =some [0,1,0];decide +kernel
 | 2=>by show rowOf ROWS "pass" =some [0,1,1];decide +kernel
 | 3=>by show rowOf ROWS "copy" =some [0,1,2];decide +kernel
 | 4=>by show rowOf ROWS "turn" =some [2,1,1];decide +kernel
 | 5=>by show rowOf ROWS "heap" =some [1,1,1];decide +kernel
 | 6=>by show rowOf ROWS "add" =some [0,2,1];decide +kernel
 | 7=>by show rowOf ROWS "less" =some [0,2,1];decide +kernel
 | 8=>by show rowOf ROWS "order" =some [0,2,2];decide +kernel
 | 9=>by show rowOf ROWS "choose" =some [0,3,1];decide +kernel
 | n+10=>by show rowOf ROWS "split" =some [0,2,2];decide +kernel
theorem eE (T:Txt w K mg t) (i:Nat):Qa K (cls t i):=match i with
 | 0=>T.ji.c
 | 1=>T.jc.c
 | 2=>T.ir.c
 | 3=>T.iw.c
 | 4=>T.iy.c
 | 5=>T.gq.c
 | 6=>T.jU.c
 | 7=>T.il.c
 | 8=>T.fL.c
 | 9=>T.dW.c
 | n+10=>T.fK.c
theorem sY (T:Txt w K mg t) (i:Nat):fX K (cls t i) "name" :=match i with
 | 0=>T.ji.na.1
 | 1=>T.jc.na.1
 | 2=>T.ir.na.1
 | 3=>T.iw.na.1
 | 4=>T.iy.na.1
 | 5=>T.gq.na.1
 | 6=>T.jU.na.1
 | 7=>T.il.na.1
 | 8=>T.fL.na.1
 | 9=>T.dW.na.1
 | n+10=>T.fK.na.1
theorem lH (T:Txt w K mg t) (i:Nat):fX K (cls t i) "numbers" :=match i with
 | 0=>T.ji.na.2.1
 | 1=>T.jc.na.2.1
 | 2=>T.ir.na.2.1
 | 3=>T.iw.na.2.1
 | 4=>T.iy.na.2.1
 | 5=>T.gq.na.2.1
 | 6=>T.jU.na.2.1
 | 7=>T.il.na.2.1
 | 8=>T.fL.na.2.1
 | 9=>T.dW.na.2.1
 | n+10=>T.fK.na.2.1
theorem sS (T:Txt w K mg t) (i:Nat):fX K (cls t i) "ins" :=match i with
 | 0=>T.ji.na.2.2.1
 | 1=>T.jc.na.2.2.1
 | 2=>T.ir.na.2.2.1
 | 3=>T.iw.na.2.2.1
 | 4=>T.iy.na.2.2.1
 | 5=>T.gq.na.2.2.1
 | 6=>T.jU.na.2.2.1
 | 7=>T.il.na.2.2.1
 | 8=>T.fL.na.2.2.1
 | 9=>T.dW.na.2.2.1
 | n+10=>T.fK.na.2.2.1
theorem vY (T:Txt w K mg t) (i:Nat):fX K (cls t i) "outs" :=match i with
 | 0=>T.ji.na.2.2.2.1
 | 1=>T.jc.na.2.2.2.1
 | 2=>T.ir.na.2.2.2.1
 | 3=>T.iw.na.2.2.2.1
 | 4=>T.iy.na.2.2.2.1
 | 5=>T.gq.na.2.2.2.1
 | 6=>T.jU.na.2.2.2.1
 | 7=>T.il.na.2.2.2.1
 | 8=>T.fL.na.2.2.2.1
 | 9=>T.dW.na.2.2.2.1
 | n+10=>T.fK.na.2.2.2.1
theorem Yu (i:Nat):cN i<=2:=match i with
 | 0=>by show 0<=2;decide
 | 1=>by show 0<=2;decide
 | 2=>by show 0<=2;decide
 | 3=>by show 0<=2;decide
 | 4=>by show 2<=2;decide
 | 5=>by show 1<=2;decide
 | 6=>by show 0<=2;decide
 | 7=>by show 0<=2;decide
 | 8=>by show 0<=2;decide
 | 9=>by show 0<=2;decide
 | n+10=>by show 0<=2;decide
theorem yl (i:Nat):cI i<=3:=match i with
 | 0=>by show 0<=3;decide
 | 1=>by show 1<=3;decide
 | 2=>by show 1<=3;decide
 | 3=>by show 1<=3;decide
 | 4=>by show 1<=3;decide
 | 5=>by show 1<=3;decide
 | 6=>by show 2<=3;decide
 | 7=>by show 2<=3;decide
 | 8=>by show 2<=3;decide
 | 9=>by show 3<=3;decide
 | n+10=>by show 2<=3;decide
theorem QS (i:Nat):cO i<=2:=match i with
 | 0=>by show 1<=2;decide
 | 1=>by show 0<=2;decide
 | 2=>by show 1<=2;decide
 | 3=>by show 2<=2;decide
 | 4=>by show 1<=2;decide
 | 5=>by show 1<=2;decide
 | 6=>by show 1<=2;decide
 | 7=>by show 1<=2;decide
 | 8=>by show 2<=2;decide
 | 9=>by show 1<=2;decide
 | n+10=>by show 2<=2;decide
theorem jm {f:Str} {y:V} {fs:List (Str×V)} {n:Nat} (h:fs.length<=n):(aJ f y fs).length<=n+1:=Nat.le_trans (uM f y fs) (Nat.succ_le_succ h)
noncomputable def Fp (nm:V) (tn ti to:Addr):List (Str×V):=aJ "outs" (.ref to) (aJ "ins" (.ref ti) (aJ "numbers" (.ref tn) (aJ "name" nm [])))
theorem oX (nm:V) (tn ti to:Addr):(Fp nm tn ti to).lookup ("name" :Str)=some nm:=by
 unfold Fp
 rw [aF,if_neg (by decide +kernel),aF,if_neg (by decide +kernel),aF,if_neg (by decide +kernel),aF,if_pos rfl]
theorem j4 (nm:V) (tn ti to:Addr):(Fp nm tn ti to).lookup ("numbers" :Str)=some (.ref tn):=by
 unfold Fp
 rw [aF,if_neg (by decide +kernel),aF,if_neg (by decide +kernel),aF,if_pos rfl]
theorem mH (nm:V) (tn ti to:Addr):(Fp nm tn ti to).lookup ("ins" :Str)=some (.ref ti):=by
 unfold Fp
 rw [aF,if_neg (by decide +kernel),aF,if_pos rfl]
theorem rC (nm:V) (tn ti to:Addr):(Fp nm tn ti to).lookup ("outs" :Str)=some (.ref to):=by
 unfold Fp
 rw [aF,if_pos rfl]
theorem mj (nm:V) (tn ti to:Addr) {m:Str} (h1:¬m= "outs") (h2:¬m= "ins") (h3:¬m= "numbers") (h4:¬m= "name"):(Fp nm tn ti to).lookup m=none:=by
 unfold Fp
 rw [aF,if_neg h1,aF,if_neg h2,aF,if_neg h3,aF,if_neg h4]
 all_goals rfl
structure fJ (K:PySem.W.Frag) (t:lA) (H:Hp) (p:Addr) (i:Nat) (nm:V) (ns is os:List V):Prop where
 ex:∃dx tn ti to,H p=some (.ins (cls t i) dx (Fp nm tn ti to))/\fG K H tn ns/\fG K H ti is/\fG K H to os
theorem fJ.same {H H':Hp} {p:Addr} {i:Nat} {nm:V} {ns is os:List V} (h:fJ K t H p i nm ns is os) (s:aQ H H'):fJ K t H' p i nm ns is os:=by
 obtain⟨dx,tn,ti,to,h1,h2,h3,h4⟩:=h
 exact⟨dx,tn,ti,to,s _ _ h1,s.seqT h2,s.seqT h3,s.seqT h4⟩
noncomputable def gM (i:Nat):Sp:=fun vs H Q _=>∃x,vs=[x]/\Q (.str (cg i)) H
noncomputable def nV (j:Nat):V:=.int (j:Nat)
inductive Val (v:V):Prop where
 | mk:∀n:Int,v=.int n->0<=n->n <1000000000->Val v
inductive Flat:PyData->Prop
 | non:Flat .none
 | int (i:Int):Flat (.int i)
noncomputable def places (i:Nat) (hs:List V):List Nat:=if i=9 then(match hs with | .int n:: _=>[0,1+(n % 2).toNat] | _=>[0]) else List.range hs.length
noncomputable def vZ (i:Nat) (hs:List V):Prop:=hs.length=cI i/\∀h∈hs,h=.non∨∃n:Int,h=.int n
noncomputable def uw (hs:List V) (q:Nat):Bool:=decide (hs[q]?=some V.non)
noncomputable def Nv (i:Nat) (hs:List V):V:=match (places i hs).find? (uw hs) with
 | some q=>nV q
 | none=>.non
theorem gU {i:Nat} {hs:List V} (h:vZ i hs):∀q∈places i hs,q <hs.length:=by
 intro q hq
 unfold places at hq
 by_cases hi:i=9
 ·rw [if_pos hi] at hq
  have hl:hs.length=3:=by rw [h.1,hi];rfl
  rw [hl]
  split at hq
  ·rename_i n r
   have h0:=Int.emod_nonneg n (show(2:Int)≠0 by decide)
   have h1:=Int.emod_lt_of_pos n (show(0:Int) <2 by decide)
   simp at hq
   omega
  ·simp at hq
   omega
 ·rw [if_neg hi] at hq
  simpa using hq
theorem Hu {f:Nat->Bool}:∀{l:List Nat} {j q:Nat},l[j]?=some q->(∀x∈l.take j,f x=false)->f q=true->l.find? f=some q
 | [],_,_,e,_,_=>by simp at e
 | x:: r,0,q,e,_,hq=>by
  simp at e
  subst e
  rw [List.find?_cons,hq]
 | x:: r,j+1,q,e,h,hq=>by
  have hx:f x=false:=h x (by simp)
  rw [List.find?_cons,hx]
  exact Hu (l:=r) (j:=j) (by simpa using e) (fun y hy=>h y (by simp [hy])) hq
theorem MF {f:Nat->Bool} {l:List Nat} (h:∀x∈l,f x=false):l.find? f=none:=by
 rw [List.find?_eq_none]
 intro x hx
 rw [h x hx]
 decide
inductive oW (K:PySem.W.Frag) (t:lA) (i:Nat) (vs:List V) (H:Hp) (Q:VK) (E:XK):Prop where
 | mk:∀(p a:Addr) (nm:V) (ns is os hs:List V),vs=[.ref p,.ref a]->fJ K t H p i nm ns is os->is.length=cI i->bR K H a hs->vZ i hs->(∀H' L,aQ H H'->H L=none->H' L=some (.lst ((places i hs).map nV))->Q (.ref L) H')->oW K t i vs H Q E
inductive yz (K:PySem.W.Frag) (t:lA) (i:Nat) (vs:List V) (H:Hp) (Q:VK) (E:XK):Prop where
 | mk:∀(p a:Addr) (nm:V) (ns is os hs:List V),vs=[.ref p,.ref a]->fJ K t H p i nm ns is os->is.length=cI i->bR K H a hs->vZ i hs->(∀H',aQ H H'->Q (Nv i hs) H')->yz K t i vs H Q E
theorem Du {i:Nat} (hi:i<=10):cg i= "choose" ↔i=9:=by
 match i,hi with
 | 0,_=>exact⟨fun h=>absurd h (by decide +kernel),fun h=>absurd h (by decide)⟩
 | 1,_=>exact⟨fun h=>absurd h (by decide +kernel),fun h=>absurd h (by decide)⟩
 | 2,_=>exact⟨fun h=>absurd h (by decide +kernel),fun h=>absurd h (by decide)⟩
 | 3,_=>exact⟨fun h=>absurd h (by decide +kernel),fun h=>absurd h (by decide)⟩
 | 4,_=>exact⟨fun h=>absurd h (by decide +kernel),fun h=>absurd h (by decide)⟩
 | 5,_=>exact⟨fun h=>absurd h (by decide +kernel),fun h=>absurd h (by decide)⟩
 | 6,_=>exact⟨fun h=>absurd h (by decide +kernel),fun h=>absurd h (by decide)⟩
 | 7,_=>exact⟨fun h=>absurd h (by decide +kernel),fun h=>absurd h (by decide)⟩
 | 8,_=>exact⟨fun h=>absurd h (by decide +kernel),fun h=>absurd h (by decide)⟩
 | 9,_=>exact⟨fun _=>rfl,fun _=>rfl⟩
 | 10,_=>exact⟨fun h=>absurd h (by decide +kernel),fun h=>absurd h (by decide)⟩
 | (n+11),h=>exact absurd h (by omega)
noncomputable def g0 (l:List Int):Int:=l.getD 0 0
noncomputable def g1 (l:List Int):Int:=l.getD 1 0
noncomputable def cV (i:Nat):Nat:=match i with
 | 0=>1
 | 1=>1
 | 2=>1
 | 3=>1
 | 4=>1
 | 5=>1
 | 6=>2
 | 7=>2
 | 8=>2
 | 9=>2
 | _=>2
noncomputable def dj (i:Nat) (ns ws:List Int) (kp:Int):List (Int×Int):=match i with
 | 0=>[(0,g0 ws)]
 | 1=>[]
 | 2=>[(0,g0 ws)]
 | 3=>[(0,g0 ws),(1,g0 ws)]
 | 4=>[(0,(g0 ns * g0 ws+g1 ns) % 1000000000)]
 | 5=>[(0,(kp+g0 ws) % 1000000000)]
 | 6=>[(0,(g0 ws+g1 ws) % 1000000000)]
 | 7=>[(0,if g0 ws <g1 ws then 1 else 0)]
 | 8=>[(0,if g1 ws <g0 ws then g1 ws else g0 ws),(1,if g1 ws <g0 ws then g0 ws else g1 ws)]
 | 9=>[(0,g1 ws)]
 | _=>[(g0 ws % 2,g1 ws)]
noncomputable def iR (i:Nat) (ws:List Int) (kp:Int):Int:=if i=5 then(kp+g0 ws) % 1000000000 else kp
noncomputable def Fw (ps:List (Int×Int)):List (List V):=ps.map fun p=>[.int p.1,.int p.2]
noncomputable def WD (ws:List Int):Prop:=∀w∈ws,0<=w/\w <1000000000
inductive fZ (K:PySem.W.Frag) (t:lA) (i:Nat) (vs:List V) (H:Hp) (Q:VK) (E:XK):Prop where
 | mk:∀(p a:Addr) (nm:V) (ns:List Int) (is os:List V) (ws:List Int) (kp:Int),vs=[.ref p,.ref a,.int kp]->fJ K t H p i nm (ns.map V.int) is os->ns.length=cN i->bR K H a (ws.map V.int)->ws.length=cV i->WD ws->(∀H' U L rs,aQ H H'->H L=none->H' U=some (.tup [.ref L,.int (iR i ws kp)])->H' L=some (.lst (rs.map V.ref))->jz H' rs (Fw (dj i ns ws kp))->Q (.ref U) H')->fZ K t i vs H Q E
theorem pI {H:Hp} {Q:VK} {a b x y:Int} (hx:x=a) (hy:y=b) (k:∀H' L rs,aQ H H'->H L=none->H' L=some (.lst (rs.map V.ref))->jz H' rs (Fw [(a,b)])->Q (.ref L) H') {t0 L:Addr} (n0:H t0=none)
  (nL:(upd H t0 (.tup [.int x,.int y])) L=none):Q (.ref L) (upd (upd H t0 (.tup [.int x,.int y])) L (.lst [.ref t0])):=by
 subst hx hy
 have s0:=aB (o:=.tup [.int x,.int y]) n0
 have s1:=aB (o:=.lst [.ref t0]) nL
 exact k _ L [t0] (s0.trans s1) (s0.free nL) aq (.cons (s1 _ _ aq) .nil)
theorem NP {H:Hp} {Q:VK} {a b c d x y u v:Int} (hx:x=a) (hy:y=b) (hu:u=c) (hv:v=d) (k:∀H' L rs,aQ H H'->H L=none->H' L=some (.lst (rs.map V.ref))->jz H' rs (Fw [(a,b),(c,d)])->Q (.ref L) H') {t0 t1 L:Addr} (n0:H t0=none)
  (n1:(upd H t0 (.tup [.int x,.int y])) t1=none) (nL:(upd (upd H t0 (.tup [.int x,.int y])) t1 (.tup [.int u,.int v])) L=none):Q (.ref L) (upd (upd (upd H t0 (.tup [.int x,.int y])) t1 (.tup [.int u,.int v])) L (.lst [.ref t0,.ref t1])):=by
 subst hx hy hu hv
 have s0:=aB (o:=.tup [.int x,.int y]) n0
 have s1:=aB (o:=.tup [.int u,.int v]) n1
 have s2:=aB (o:=.lst [.ref t0,.ref t1]) nL
 exact k _ L [t0,t1] (s0.trans (s1.trans s2)) (s0.free (s1.free nL)) aq (.cons (s2 _ _ (s1 _ _ aq)) (.cons (s2 _ _ aq) .nil))
theorem IV {H:Hp} {Q:VK} {c:Int} {ps:List (Int×Int)} (k:∀H' U L rs,aQ H H'->H L=none->H' U=some (.tup [.ref L,.int c])->H' L=some (.lst (rs.map V.ref))->jz H' rs (Fw ps)->Q (.ref U) H'):
  ∀H' L rs,aQ H H'->H L=none->H' L=some (.lst (rs.map V.ref))->jz H' rs (Fw ps)->∀U,H' U=none->Q (.ref U) (upd H' U (.tup [.ref L,.int c])):=fun H' L rs s nL eL tL U nU=>
 have s2:=aB (o:=.tup [.ref L,.int c]) nU
 k _ U L rs (s.trans s2) nL aq (s2 _ _ eL) (tL.same s2)
theorem cT:(2:Nat)<=sizeLine:=by decide
theorem one_le:(1:Nat)<=sizeLine:=by decide
theorem Ym {a b:Int} {ws:List Int} (h:WD ws) (hb:b∈ws):IntMulOk a b:=.of_right (intBits_le_64 (by have:=(h b hb).1;omega) (by have:=(h b hb).2;omega))
noncomputable def Jk (i:Nat) (ns:List V):V:=if i=5 then ns.headD .non else .int 0
inductive u0 (K:PySem.W.Frag) (t:lA) (i:Nat) (vs:List V) (H:Hp) (Q:VK) (E:XK):Prop where
 | mk:∀(p:Addr) (nm:V) (ns is os:List V),vs=[.ref p]->fJ K t H p i nm ns is os->ns.length=cN i->Q (Jk i ns) H->u0 K t i vs H Q E
noncomputable def Jt (i:Nat) (kv:V) (ns:List V):List V:=if i=5 then [kv] else ns
inductive jj (K:PySem.W.Frag) (t:lA) (i:Nat) (vs:List V) (H:Hp) (Q:VK) (E:XK):Prop where
 | mk:∀(p:Addr) (kv nm:V) (ns is os:List V),vs=[.ref p,kv]->i<=10->fJ K t H p i nm ns is os->(∀H' q,aQ H H'->H q=none->fJ K t H' q i nm (Jt i kv ns) is os->Q (.ref q) H')->jj K t i vs H Q E
theorem Rz {i:Nat} (hi:i<=10):cg i= "heap" ↔i=5:=by
 match i,hi with
 | 0,_=>exact⟨fun h=>absurd h (by decide +kernel),fun h=>absurd h (by decide)⟩
 | 1,_=>exact⟨fun h=>absurd h (by decide +kernel),fun h=>absurd h (by decide)⟩
 | 2,_=>exact⟨fun h=>absurd h (by decide +kernel),fun h=>absurd h (by decide)⟩
 | 3,_=>exact⟨fun h=>absurd h (by decide +kernel),fun h=>absurd h (by decide)⟩
 | 4,_=>exact⟨fun h=>absurd h (by decide +kernel),fun h=>absurd h (by decide)⟩
 | 5,_=>exact⟨fun _=>rfl,fun _=>rfl⟩
 | 6,_=>exact⟨fun h=>absurd h (by decide +kernel),fun h=>absurd h (by decide)⟩
 | 7,_=>exact⟨fun h=>absurd h (by decide +kernel),fun h=>absurd h (by decide)⟩
 | 8,_=>exact⟨fun h=>absurd h (by decide +kernel),fun h=>absurd h (by decide)⟩
 | 9,_=>exact⟨fun h=>absurd h (by decide +kernel),fun h=>absurd h (by decide)⟩
 | 10,_=>exact⟨fun h=>absurd h (by decide +kernel),fun h=>absurd h (by decide)⟩
 | (n+11),h=>exact absurd h (by omega)
noncomputable def cP (a b:Int):Int:=((((a % 2147483647 * 48271+7919 * b+11) % 2147483647) * ((a % 2147483647 * 48271+7919 * b+11) % 2147483647) % 2147483629+613 * b) * (((a % 2147483647 * 48271+7919 * b+11) % 2147483647) * ((a % 2147483647 * 48271+7919 * b+11) % 2147483647) % 2147483629)) % 2147483587
theorem By (a b:Int):0<=cP a b:=Int.emod_nonneg _ (by decide)
noncomputable def jQ (ns:List Int) (j:Nat):Int:=(ns[j]?).getD (41 * (j:Int)+3)
noncomputable def uc (a b:Int):Int:=if cP a b / 7 % 3=0 then cP a b % 5 else if cP a b / 7 % 3=1 then cP a b % 10 ^ 9 else 10 ^ 9 - 1 - cP a b % 3
theorem wj (a b:Int):0<=uc a b/\uc a b <1000000000:=by
 unfold uc
 have h0:=By a b
 generalize cP a b=n at h0
 split
 ·omega
 ·split
  ·have h1:=Int.emod_lt_of_pos n (show(0:Int) <10 ^ 9 by decide)
   have h2:=Int.emod_nonneg n (show(10:Int) ^ 9≠0 by decide)
   exact⟨h2,h1⟩
  ·have h1:=Int.emod_lt_of_pos n (show(0:Int) <3 by decide)
   have h2:=Int.emod_nonneg n (show(3:Int)≠0 by decide)
   have e:(10:Int) ^ 9=1000000000:=by decide
   rw [e]
   omega
noncomputable def low (c:Nat):Bool:=decide (97<=c) && decide (c<=122)
noncomputable def Lw (c:Nat):Bool:=decide (48<=c) && decide (c<=57)
noncomputable def nameB (x:Str):Bool:=match x.cps.toList with
 | []=>false
 | c:: r=>decide (r.length<=7) && (low c && (c:: r).all fun d=>low d || Lw d)
theorem oU (x:Str):x.cps.toList.length=x.length:=by simp [Str.length]
theorem DY:∀(ws:List Str),(Str.join Str.empty ws).cps.toList=(ws.map fun w=>w.cps.toList).flatten
 | []=>rfl
 | [w]=>by simp [Str.join]
 | w:: v:: r=>by
  have ih:=DY (v:: r)
  show(w.cps ++ #[] ++ (Str.join Str.empty (v:: r)).cps).toList=_
  rw [Array.toList_append,ih]
  simp
theorem Q9 {n:Nat}:∀(ws:List Str),(∀w∈ws,w.length<=n)->(ws.map (·.length)).sum<=ws.length * n
 | [],_=>by simp
 | w:: r,h=>by
  have h1:=h w (by simp)
  have h2:=Q9 r fun v hv=>h v (by simp [hv])
  simp only [List.map_cons,List.sum_cons,List.length_cons,Nat.add_mul]
  omega
noncomputable def J1 (n:Int):Nat:=97+(n % 26).toNat
theorem Ie (n:Int):low (J1 n)=true:=by
 unfold low J1
 have h0:=Int.emod_nonneg n (show(26:Int)≠0 by decide)
 have h1:=Int.emod_lt_of_pos n (show(0:Int) <26 by decide)
 simp
 omega
noncomputable abbrev LT:Str:= "abcdefghijklmnopqrstuvwxyz"
theorem Lr:LT.length=26:=by decide +kernel
theorem Rn:LT.cps.toList=List.range' 97 26:=by decide +kernel
theorem Tg (n:Int):Fx LT.cps.toList (n % 26)=some (J1 n):=by
 have h0:=Int.emod_nonneg n (show(26:Int)≠0 by decide)
 have h1:=Int.emod_lt_of_pos n (show(0:Int) <26 by decide)
 obtain⟨j,hj⟩:∃j:Nat,n % 26=(j:Int):=⟨(n % 26).toNat,by omega⟩
 unfold J1
 rw [hj,Rn]
 exact aK (by rw [List.getElem?_range' (by omega)];simp)
noncomputable def ik (a:Int):List Nat:=(List.range (cP a 50 % 7).toNat).map fun j=>J1 (cP a (60+(j:Nat)))
noncomputable def qJ (a:Int):Nat:=(cP a 51 % (cP a 50 % 7+1)).toNat
noncomputable def LK (n:Nat):List Nat:=(toString (Int.ofNat n):Str).cps.toList
noncomputable def Af (a:Int) (k:Nat):List Nat:=if cP a 52 % 3=0 then J1 (cP a 53):: LK (cP a 54 % 1000+37 * (k:Int)).toNat else(ik a).take (qJ a) ++ J1 (cP a 55+k):: (ik a).drop (qJ a)
noncomputable def cD (a:Int) (k:Nat):Str:=⟨(Af a k).toArray⟩
noncomputable def Qg (l:List Nat):Nat:=l.foldl (fun r c=>10 * r+(c - 48)) 0
theorem Uj:(List.range 2500).all (fun i=>(LK i).all Lw && decide ((LK i).length<=4) && decide (Qg (LK i)=i))=true:=by decide +kernel
theorem vU {n:Nat} (h:n <2500):(LK n).all Lw=true/\(LK n).length<=4/\Qg (LK n)=n:=by
 have z:=List.all_eq_true.mp Uj n (List.mem_range.mpr h)
 simp only [Bool.and_eq_true,decide_eq_true_eq] at z
 exact⟨z.1.1,z.1.2,z.2⟩
theorem Do (a:Int):(ik a).length<=6/\((ik a).length:Int)=cP a 50 % 7:=by
 unfold ik
 have h0:=Int.emod_nonneg (cP a 50) (show(7:Int)≠0 by decide)
 have h1:=Int.emod_lt_of_pos (cP a 50) (show(0:Int) <7 by decide)
 rw [lM,List.length_range]
 omega
theorem Ni (a:Int):qJ a<=(ik a).length:=by
 have h:=(Do a).2
 unfold qJ
 have h0:=Int.emod_nonneg (cP a 50) (show(7:Int)≠0 by decide)
 have h1:=Int.emod_lt_of_pos (cP a 51) (show(0:Int) <cP a 50 % 7+1 by omega)
 have h2:=Int.emod_nonneg (cP a 51) (show cP a 50 % 7+1≠0 by omega)
 omega
theorem CP {x:Str} {c:Nat} {r:List Nat} (e:x.cps.toList=c:: r) (h:r.length<=7) (hc:low c=true) (ha:∀d∈r,low d=true∨Lw d=true):nameB x=true:=by
 unfold nameB
 rw [e]
 simp only [Bool.and_eq_true,decide_eq_true_eq,List.all_eq_true,Bool.or_eq_true]
 refine⟨h,hc,fun d hd=>?_⟩
 rcases List.mem_cons.mp hd with rfl | hd
 ·exact .inl hc
 ·exact ha d hd
theorem Fb (a:Int) (k:Nat):(cD a k).cps.toList=Af a k:=by simp [cD]
theorem HW (a:Int) {k:Nat} (hk:k <40):nameB (cD a k)=true:=by
 have h0:=Int.emod_nonneg (cP a 54) (show(1000:Int)≠0 by decide)
 have h1:=Int.emod_lt_of_pos (cP a 54) (show(0:Int) <1000 by decide)
 have e:=Fb a k
 unfold Af at e
 split at e
 ·obtain⟨n1,n2,_⟩:=vU (n:=(cP a 54 % 1000+37 * (k:Int)).toNat) (by omega)
  exact CP e (by omega) (Ie _) fun c hc=>.inr (List.all_eq_true.mp n1 c hc)
 ·have b1:=(Do a).1
  have b2:=Ni a
  have all:∀c∈(ik a).take (qJ a) ++ J1 (cP a 55+k):: (ik a).drop (qJ a),low c=true:=fun c hc=>by
   have hb:∀c∈ik a,low c=true:=fun c hc=>by
    unfold ik at hc
    obtain⟨j,_,rfl⟩:=List.mem_map.mp hc
    exact Ie _
   rcases List.mem_append.mp hc with h | h
   ·exact hb c (List.mem_of_mem_take h)
   ·rcases List.mem_cons.mp h with rfl | h
    ·exact Ie _
    ·exact hb c (List.mem_of_mem_drop h)
  have len:((ik a).take (qJ a) ++ J1 (cP a 55+k):: (ik a).drop (qJ a)).length<=7:=by
   rw [lP,List.length_take,List.length_cons,List.length_drop]
   omega
  have ne:(ik a).take (qJ a) ++ J1 (cP a 55+k):: (ik a).drop (qJ a)≠[]:=by simp
  generalize (ik a).take (qJ a) ++ J1 (cP a 55+k):: (ik a).drop (qJ a)=l at all len ne e
  obtain⟨c,r,rfl⟩:=List.exists_cons_of_ne_nil ne
  rw [List.length_cons] at len
  exact CP e (by omega) (all c List.mem_cons_self) fun d hd=>.inl (all d (List.mem_cons_of_mem _ hd))
theorem JP (a:Int) {j k:Nat} (hj:j <26) (hk:k <26) (h:cD a j=cD a k):j=k:=by
 have e:Af a j=Af a k:=by
  have:=congrArg (fun s:Str=>s.cps.toList) h
  simpa [cD] using this
 unfold Af at e
 split at e
 ·have h0:=Int.emod_nonneg (cP a 54) (show(1000:Int)≠0 by decide)
  have h1:=Int.emod_lt_of_pos (cP a 54) (show(0:Int) <1000 by decide)
  have e2:=congrArg Qg (List.cons.inj e).2
  rw [(vU (by omega)).2.2,(vU (by omega)).2.2] at e2
  omega
 ·have e2:=(List.cons.inj (List.append_cancel_left e)).1
  unfold J1 at e2
  omega
namespace Drawn
variable {S:Type}
structure iZ (S:Type) where
 kind:Nat
 name:S
 nums:List Int
 ins:List S
 outs:List S
structure NS (S:Type) where
 lanes:List S
 parts:List (iZ S)
 opens:List S
 back:List S
inductive jr (ps:List (iZ S)):S->S->Prop
 | refl (x:S):jr ps x x
 | step {x y z:S} {p:iZ S}:p∈ps->x∈p.ins ++ p.outs->y∈p.ins ++ p.outs->jr ps y z->jr ps x z
theorem jr.trans {ps:List (iZ S)} {x y z:S} (h:jr ps x y) (k:jr ps y z):jr ps x z:=by
 induction h with
 | refl _=>exact k
 | step hp hx hy _ ih=>exact .step hp hx hy (ih k)
theorem jr.symm {ps:List (iZ S)} {x y:S} (h:jr ps x y):jr ps y x:=by
 induction h with
 | refl _=>exact .refl _
 | step hp hx hy _ ih=>exact ih.trans (.step hp hy hx (.refl _))
theorem jr.mono {ps qs:List (iZ S)} (hs:∀p∈ps,p∈qs) {x y:S} (h:jr ps x y):jr qs x y:=by
 induction h with
 | refl _=>exact .refl _
 | step hp hx hy _ ih=>exact .step (hs _ hp) hx hy ih
theorem jr.part {ps:List (iZ S)} {p:iZ S} (hp:p∈ps) {x y:S} (hx:x∈p.ins ++ p.outs) (hy:y∈p.ins ++ p.outs):jr ps x y:=.step hp hx hy (.refl _)
structure WF (ns:NS S):Prop where
 nod:ns.lanes.Nodup
 outs:((ns.parts.flatMap (·.outs)) ++ ns.back).Perm ns.lanes
 ins:((ns.parts.flatMap (·.ins)) ++ ns.opens).Perm ns.lanes
 hang:∀p∈ns.parts,∃x∈p.ins ++ p.outs,∃o∈ns.opens,jr ns.parts x o
 touch:∀p∈ns.parts,p.ins ++ p.outs≠[]
theorem WF.add {ns:NS S} (w:WF ns) {p:iZ S} {newl opens' back':List S} (hn:(ns.lanes ++ newl).Nodup) (ho:(p.outs ++ back').Perm (ns.back ++ newl)) (hi:(p.ins ++ opens').Perm (ns.opens ++ newl))
  (hg:∀o∈ns.opens,∃o'∈opens',jr (ns.parts ++ [p]) o o') (hp:∃x∈p.ins ++ p.outs,∃o∈opens',jr (ns.parts ++ [p]) x o):
  WF { lanes:=ns.lanes ++ newl,parts:=ns.parts ++ [p],opens:=opens',back:=back' }:=by
 have mono:∀q∈ns.parts,q∈ns.parts ++ [p]:=fun q hq=>List.mem_append.mpr (.inl hq)
 refine⟨hn,?_,?_,?_,?_⟩
 ·have e:(ns.parts ++ [p]).flatMap (·.outs)=ns.parts.flatMap (·.outs) ++ p.outs:=by simp
  show(((ns.parts ++ [p]).flatMap (·.outs)) ++ back').Perm _
  rw [e,List.append_assoc]
  exact(ho.append_left _).trans (by rw [<-List.append_assoc];exact w.outs.append_right _)
 ·have e:(ns.parts ++ [p]).flatMap (·.ins)=ns.parts.flatMap (·.ins) ++ p.ins:=by simp
  show(((ns.parts ++ [p]).flatMap (·.ins)) ++ opens').Perm _
  rw [e,List.append_assoc]
  exact(hi.append_left _).trans (by rw [<-List.append_assoc];exact w.ins.append_right _)
 ·intro q hq
  rcases List.mem_append.mp hq with h | h
  ·obtain⟨x,hx,o,hoq,c⟩:=w.hang q h
   obtain⟨o',ho',c'⟩:=hg o hoq
   exact⟨x,hx,o',ho',(c.mono mono).trans c'⟩
  ·rw [List.mem_singleton] at h
   subst h
   exact hp
 ·intro q hq
  rcases List.mem_append.mp hq with h | h
  ·exact w.touch q h
  ·rw [List.mem_singleton] at h
   subst h
   obtain⟨x,hx,_⟩:=hp
   intro z
   rw [z] at hx
   cases hx
theorem WF.start:WF (⟨[],[],[],[]⟩:NS S):=⟨List.nodup_nil,.refl _,.refl _,fun p hp=>(by cases hp),fun p hp=>(by cases hp)⟩
theorem WF.backLane {ns:NS S} (w:WF ns) {b:S} (hn:(ns.lanes ++ [b]).Nodup):WF { ns with lanes:=ns.lanes ++ [b],opens:=ns.opens ++ [b],back:=ns.back ++ [b] }:=by
 refine⟨hn,?_,?_,fun p hp=>?_,w.touch⟩
 ·show(_ ++ (ns.back ++ [b])).Perm _
  rw [<-List.append_assoc]
  exact w.outs.append_right _
 ·show(_ ++ (ns.opens ++ [b])).Perm _
  rw [<-List.append_assoc]
  exact w.ins.append_right _
 ·obtain⟨x,hx,o,ho,c⟩:=w.hang p hp
  exact⟨x,hx,o,List.mem_append.mpr (.inl ho),c⟩
theorem WF.part {ns:NS S} (w:WF ns) {p:iZ S} {rest:List S} (hi:ns.opens.Perm (p.ins ++ rest)) (hf:(ns.lanes ++ p.outs).Nodup) (ho:p.outs≠[]):
  WF { ns with lanes:=ns.lanes ++ p.outs,parts:=ns.parts ++ [p],opens:=rest ++ p.outs }:=by
 have hp:p∈ns.parts ++ [p]:=by simp
 obtain⟨o1,hoo⟩:∃o1,o1∈p.outs:=List.exists_mem_of_ne_nil _ ho
 have h1:o1∈rest ++ p.outs:=List.mem_append.mpr (.inr hoo)
 refine w.add hf List.perm_append_comm ?_ (fun o h=>?_) ⟨o1,List.mem_append.mpr (.inr hoo),o1,h1,.refl _⟩
 ·rw [<-List.append_assoc]
  exact hi.symm.append_right _
 ·rcases List.mem_append.mp (hi.mem_iff.mp h) with h | h
  ·exact⟨o1,h1,jr.part hp (List.mem_append.mpr (.inl h)) (List.mem_append.mpr (.inr hoo))⟩
  ·exact⟨o,List.mem_append.mpr (.inl h),.refl _⟩
theorem WF.take {ns:NS S} (w:WF ns) {p:iZ S} {rest:List S} {y x:S} (hi:p.ins=[y]) (ho:p.outs=[]) (hr:ns.opens.Perm (y:: rest)) (hx:x∈rest) (c:jr ns.parts y x):
  WF { ns with parts:=ns.parts ++ [p],opens:=rest }:=by
 have mono:∀q∈ns.parts,q∈ns.parts ++ [p]:=fun q hq=>List.mem_append.mpr (.inl hq)
 have:=w.add (p:=p) (newl:=[]) (opens':=rest) (back':=ns.back) (by rw [List.append_nil];exact w.nod) (by rw [ho,List.append_nil];exact .refl _) (by rw [hi,List.append_nil];exact hr.symm)
  (fun o h=>by
   rcases List.mem_cons.mp (hr.mem_iff.mp h) with rfl | h
   ·exact⟨x,hx,c.mono mono⟩
   ·exact⟨o,h,.refl _⟩) ⟨y,by simp [hi],x,hx,c.mono mono⟩
 rw [List.append_nil] at this
 exact this
theorem WF.loop {ns:NS S} (w:WF ns) {p:iZ S} {rest:List S} {one own fresh:S} (hi:p.ins=[one,own]) (ho:p.outs=[own,fresh]) (hr:ns.opens.Perm (one:: rest)) (hn:(ns.lanes ++ [own,fresh]).Nodup):
  WF { ns with lanes:=ns.lanes ++ [own,fresh],parts:=ns.parts ++ [p],opens:=rest ++ [fresh] }:=by
 have hp:p∈ns.parts ++ [p]:=by simp
 have hf:fresh∈rest ++ [fresh]:=by simp
 refine w.add hn (by rw [ho];exact List.perm_append_comm) ?_ (fun o h=>?_) ⟨fresh,by simp [ho],fresh,hf,.refl _⟩
 ·rw [hi]
  show(one:: own:: (rest ++ [fresh])).Perm (ns.opens ++ [own,fresh])
  refine .trans ?_ (hr.symm.append_right _)
  refine .cons _ ?_
  show(own:: (rest ++ [fresh])).Perm (rest ++ ([own] ++ [fresh]))
  rw [<-List.append_assoc]
  exact(List.perm_append_comm (l₁:=[own]) (l₂:=rest)).append_right [fresh]
 ·rcases List.mem_cons.mp (hr.mem_iff.mp h) with rfl | h
  ·exact⟨fresh,hf,jr.part hp (by simp [hi]) (by simp [ho])⟩
  ·exact⟨o,List.mem_append.mpr (.inl h),.refl _⟩
theorem WF.closeBack {ns:NS S} (w:WF ns) {p:iZ S} {rest:List S} {one b fresh:S} (hi:p.ins=[one]) (ho:p.outs=[b,fresh]) (hb:ns.back.Perm (b:: rest)) (h1:ns.opens=[one]) (hn:(ns.lanes ++ [fresh]).Nodup):
  WF { lanes:=ns.lanes ++ [fresh],parts:=ns.parts ++ [p],opens:=[fresh],back:=rest }:=by
 have hp:p∈ns.parts ++ [p]:=by simp
 refine w.add hn ?_ (by rw [hi,h1]) (fun o h=>?_) ⟨fresh,by simp [ho],fresh,by simp,.refl _⟩
 ·rw [ho]
  show(b:: fresh:: rest).Perm (ns.back ++ [fresh])
  refine .trans ?_ (hb.symm.append_right _)
  exact .cons _ (List.perm_append_comm (l₁:=[fresh]) (l₂:=rest))
 ·rw [h1,List.mem_singleton] at h
  subst h
  exact⟨fresh,by simp,jr.part hp (by simp [hi]) (by simp [ho])⟩
theorem WF.last {ns:NS S} (w:WF ns) {p:iZ S} {y:S} (hb:ns.back=[]) (h1:ns.opens=[y]) (hi:p.ins=[y]) (ho:p.outs=[]):
  ((ns.parts ++ [p]).flatMap (·.outs)).Perm ns.lanes/\((ns.parts ++ [p]).flatMap (·.ins)).Perm ns.lanes/\∀q∈ns.parts ++ [p],∃x∈q.ins ++ q.outs,jr (ns.parts ++ [p]) x y:=by
 have mono:∀q∈ns.parts,q∈ns.parts ++ [p]:=fun q hq=>List.mem_append.mpr (.inl hq)
 refine⟨?_,?_,?_⟩
 ·have e:(ns.parts ++ [p]).flatMap (·.outs)=ns.parts.flatMap (·.outs):=by simp [ho]
  rw [e]
  have:=w.outs
  rw [hb,List.append_nil] at this
  exact this
 ·have e:(ns.parts ++ [p]).flatMap (·.ins)=ns.parts.flatMap (·.ins) ++ [y]:=by simp [hi]
  rw [e]
  have:=w.ins
  rw [h1] at this
  exact this
 ·intro q hq
  rcases List.mem_append.mp hq with h | h
  ·obtain⟨x,hx,o,hoq,c⟩:=w.hang q h
   rw [h1,List.mem_singleton] at hoq
   subst hoq
   exact⟨x,hx,c.mono mono⟩
  ·rw [List.mem_singleton] at h
   subst h
   exact⟨y,by simp [hi],.refl _⟩
theorem Mp {ps:List (iZ S)} {J:iZ S->Prop} (closed:∀(l:S) (p q:iZ S),p∈ps->q∈ps->l∈p.ins ++ p.outs->l∈q.ins ++ q.outs->J p->J q) {y:S} (hang:∀q∈ps,∃x∈q.ins ++ q.outs,jr ps x y)
  {p0:iZ S} (hp0:p0∈ps) (h0:J p0):∀q∈ps,J q:=by
 have go:∀{x z:S},jr ps x z->(∃p∈ps,x∈p.ins ++ p.outs/\J p)->∃p∈ps,z∈p.ins ++ p.outs/\J p:=by
  intro x z c
  induction c with
  | refl _=>exact id
  | step hp hx hy _ ih=>
   rintro⟨p',hp',hx',hJ⟩
   exact ih ⟨_,hp,hy,closed _ _ _ hp' hp hx' hx hJ⟩
 obtain⟨x0,hx0,c0⟩:=hang p0 hp0
 have hy:=go c0 ⟨p0,hp0,hx0,h0⟩
 intro q hq
 obtain⟨x,hx,c⟩:=hang q hq
 obtain⟨p',hp',hx',hJ⟩:=go c.symm hy
 exact closed _ _ _ hp' hq hx' hx hJ
theorem Pk {ps:List (iZ S)} (f:iZ S->List S) (h:(ps.flatMap f).Nodup) {i j:Nat} {p q:iZ S} {l:S} (hi:ps[i]?=some p) (hj:ps[j]?=some q) (hp:l∈f p) (hq:l∈f q):i=j:=by
 induction ps generalizing i j with
 | nil=>cases hi
 | cons r rs ih=>
  rw [List.flatMap_cons,List.nodup_append] at h
  obtain⟨h1,h2,h3⟩:=h
  have far:∀{k:Nat} {s:iZ S},rs[k]?=some s->l∈f s->l∈rs.flatMap f:=fun e hs=>List.mem_flatMap.mpr ⟨_,List.mem_of_getElem? e,hs⟩
  match i,j with
  | 0,0=>rfl
  | 0,j+1=>
   simp only [List.getElem?_cons_zero,Option.some.injEq] at hi
   subst hi
   exact absurd rfl (h3 l hp l (far (by simpa using hj) hq))
  | i+1,0=>
   simp only [List.getElem?_cons_zero,Option.some.injEq] at hj
   subst hj
   exact absurd rfl (h3 l hq l (far (by simpa using hi) hp))
  | i+1,j+1=>exact congrArg (· +1) (ih h2 (by simpa using hi) (by simpa using hj))
end Drawn
structure aH where
 name:Str
 room:Int
 first:List Int
noncomputable def aH.ok (l:aH):Prop:=1<=l.room/\l.room<=10/\(l.first.length:Int)<=l.room/\∀v∈l.first,0<=v/\v <1000000000
noncomputable abbrev PD:=Drawn.iZ Str
noncomputable def z9 (p:PD):Prop:=p.kind <11/\p.nums.length=cN p.kind/\p.ins.length=cI p.kind/\p.outs.length=cO p.kind/\∀v∈p.nums,0<=v/\v <1000000000
noncomputable def cM (E:List Addr) (H:Hp):Hp:=fun b=>if b∈E then none else H b
theorem qH {E:List Addr} {H:Hp}:aQ (cM E H) H:=fun b o e=>by
 unfold cM at e
 split at e
 ·cases e
 ·exact e
theorem lK {E:List Addr} {H:Hp} {p:Addr} {o:HO} (h:H p=some o) (n:p∉E):cM E H p=some o:=by
 unfold cM
 rw [if_neg n]
 exact h
theorem gm {E:List Addr} {H:Hp} {a:Addr} {o:HO} (h:a∈E):cM E (upd H a o)=cM E H:=by
 funext b
 unfold cM
 split
 ·rfl
 ·rename_i n
  rw [aG (fun z=>n (by rw [z];exact h))]
theorem Ka {E:List Addr} {H H':Hp} (s:aQ H H') (hE:∀a∈E,∃o,H a=some o):aQ (cM E H) (cM E H'):=fun b o e=>by
 have e':=qH b o e
 unfold cM at e ⊢
 split at e
 ·cases e
 ·rename_i n
  rw [if_neg n]
  exact s _ _ e'
inductive gY {α β:Type} (R:α->β->Prop):List α->List β->Prop
 | nil:gY R [] []
 | cons {a:α} {b:β} {l:List α} {m:List β}:R a b->gY R l m->gY R (a:: l) (b:: m)
theorem gY.imp {α β:Type} {R R':α->β->Prop} (h:∀a b,R a b->R' a b):∀{l:List α} {m:List β},gY R l m->gY R' l m
 | _,_,.nil=>.nil
 | _,_,.cons r t=>.cons (h _ _ r) (t.imp h)
theorem gY.length {α β:Type} {R:α->β->Prop}:∀{l:List α} {m:List β},gY R l m->l.length=m.length
 | _,_,.nil=>rfl
 | _,_,.cons _ t=>by rw [List.length_cons,List.length_cons,t.length]
theorem gY.app {α β:Type} {R:α->β->Prop}:∀{l l':List α} {m m':List β},gY R l m->gY R l' m'->gY R (l ++ l') (m ++ m')
 | _,_,_,_,.nil,h=>h
 | _,_,_,_,.cons r t,h=>.cons r (t.app h)
theorem gY.get {α β:Type} {R:α->β->Prop}:∀{l:List α} {m:List β},gY R l m->∀{i:Nat} {a:α},l[i]?=some a->∃b,m[i]?=some b/\R a b
 | _,_,.nil,_,_,h=>by simp at h
 | _,_,.cons r t,0,_,h=>by
  simp only [List.getElem?_cons_zero,Option.some.injEq] at h
  subst h
  exact⟨_,rfl,r⟩
 | _,_,.cons r t,i+1,_,h=>t.get (i:=i) (by simpa using h)
theorem gY.take {α β:Type} {R:α->β->Prop}:∀{l:List α} {m:List β},gY R l m->∀n:Nat,gY R (l.take n) (m.take n)
 | _,_,.nil,_=>by simp;exact .nil
 | _,_,.cons r t,0=>by simp;exact .nil
 | _,_,.cons r t,n+1=>by simp;exact .cons r (t.take n)
theorem gY.drop {α β:Type} {R:α->β->Prop}:∀{l:List α} {m:List β},gY R l m->∀n:Nat,gY R (l.drop n) (m.drop n)
 | _,_,.nil,_=>by simp;exact .nil
 | _,_,.cons r t,0=>.cons r t
 | _,_,.cons r t,n+1=>by simp;exact t.drop n
inductive nH (G:Hp) (v:V) (l:aH):Prop where
 | mk:∀q f,v=.ref q->G q=some (.tup [.str l.name,.int l.room,.ref f])->G f=some (.lst (l.first.map V.int))->nH G v l
inductive mG (G:Hp) (v:V) (p:PD):Prop where
 | mk:∀q a1 a2 a3,v=.ref q->G q=some (.tup [.str (cg p.kind),.str p.name,.ref a1,.ref a2,.ref a3])->G a1=some (.lst (p.nums.map V.int))->G a2=some (.lst (p.ins.map V.str))->G a3=some (.lst (p.outs.map V.str))->mG G v p
theorem nH.same {G G':Hp} {v:V} {l:aH} (h:nH G v l) (s:aQ G G'):nH G' v l:=by
 obtain⟨q,f,e,h1,h2⟩:=h
 exact⟨q,f,e,s _ _ h1,s _ _ h2⟩
theorem mG.same {G G':Hp} {v:V} {p:PD} (h:mG G v p) (s:aQ G G'):mG G' v p:=by
 obtain⟨q,a1,a2,a3,e,h1,h2,h3,h4⟩:=h
 exact⟨q,a1,a2,a3,e,s _ _ h1,s _ _ h2,s _ _ h3,s _ _ h4⟩
structure Dw where
 S:Addr
 L:Addr
 P:Addr
 O:Addr
 c3:Int
 c4:Int
noncomputable abbrev Dw.E (d:Dw):List Addr:=[d.L,d.P,d.O]
structure oh (d:Dw) (H:Hp) (ls:List aH) (ps:List PD) (os:List Str):Prop where
 top:cM d.E H d.S=some (.lst [.ref d.L,.ref d.P,.ref d.O,.int d.c3,.int d.c4])
 lanes:∃xs,H d.L=some (.lst xs)/\gY (nH (cM d.E H)) xs ls
 parts:∃xs,H d.P=some (.lst xs)/\gY (mG (cM d.E H)) xs ps
 opens:H d.O=some (.lst (os.map V.str))
 ne:d.L≠d.P/\d.L≠d.O/\d.P≠d.O
 lok:∀l∈ls,l.ok
 pok:∀p∈ps,z9 p
 ln:ls.map (·.name)=(List.range ls.length).map (cD d.c3)
 pn:ps.map (·.name)=(List.range ps.length).map (cD d.c4)
theorem oh.seqS {d:Dw} {H:Hp} {ls:List aH} {ps:List PD} {os:List Str} (D:oh d H ls ps os):bR K H d.S [.ref d.L,.ref d.P,.ref d.O,.int d.c3,.int d.c4]:=bR.of (qH _ _ D.top)
theorem oh.has {d:Dw} {H:Hp} {ls:List aH} {ps:List PD} {os:List Str} (D:oh d H ls ps os) {a:Addr} (h:a∈d.E):∃o,H a=some o:=by
 obtain⟨_,e1,_⟩:=D.lanes
 obtain⟨_,e2,_⟩:=D.parts
 rcases List.mem_cons.mp h with rfl | h
 ·exact⟨_,e1⟩
 ·rcases List.mem_cons.mp h with rfl | h
  ·exact⟨_,e2⟩
  ·rw [List.mem_singleton] at h
   subst h
   exact⟨_,D.opens⟩
theorem oh.out {d:Dw} {H:Hp} {ls:List aH} {ps:List PD} {os:List Str} (D:oh d H ls ps os) {p:Addr} (h:H p=none):p∉d.E:=fun z=>by
 obtain⟨o,e⟩:=D.has z
 rw [h] at e
 cases e
theorem oh.keep {d:Dw} {H H':Hp} {ls:List aH} {ps:List PD} {os:List Str} (D:oh d H ls ps os) (s:aQ H H'):oh d H' ls ps os:=by
 obtain⟨xs,e1,a1⟩:=D.lanes
 obtain⟨ys,e2,a2⟩:=D.parts
 have c:=Ka (E:=d.E) s (fun a h=>D.has h)
 exact⟨c _ _ D.top,⟨xs,s _ _ e1,a1.imp fun _ _ h=>h.same c⟩,⟨ys,s _ _ e2,a2.imp fun _ _ h=>h.same c⟩,s _ _ D.opens,D.ne,D.lok,D.pok,D.ln,D.pn⟩
theorem oh.cut {d:Dw} {H H':Hp} {ls:List aH} {ps:List PD} {os:List Str} (D:oh d H ls ps os) (s:aQ H H'):aQ (cM d.E H) (cM d.E H'):=Ka s (fun _ h=>D.has h)
theorem Gy {α:Type} {f:α->Str} {w:Nat->Str} {l:List α} {x:α} (h:l.map f=(List.range l.length).map w) (hx:f x=w l.length):(l ++ [x]).map f=(List.range (l ++ [x]).length).map w:=by
 rw [List.map_append,lP,List.length_singleton,List.range_succ,List.map_append,h,List.map_singleton,List.map_singleton,hx]
theorem oh.lane {d:Dw} {H:Hp} {ls:List aH} {ps:List PD} {os:List Str} (D:oh d H ls ps os) {v:V} {l:aH} (h:nH (cM d.E H) v l) (hl:l.ok) (hn:l.name=cD d.c3 ls.length) {xs:List V} (e:H d.L=some (.lst xs)):
  oh d (upd H d.L (.lst (xs ++ [v]))) (ls ++ [l]) ps os:=by
 obtain⟨xs',e1,a1⟩:=D.lanes
 obtain⟨ys,e2,a2⟩:=D.parts
 rw [e] at e1
 cases e1
 have c:cM d.E (upd H d.L (.lst (xs ++ [v])))=cM d.E H:=gm (by simp)
 refine⟨by rw [c];exact D.top,⟨_,aq,by rw [c];exact a1.app (.cons h .nil)⟩,⟨ys,by rw [aG (Ne.symm D.ne.1)];exact e2,by rw [c];exact a2⟩,by rw [aG (Ne.symm D.ne.2.1)];exact D.opens,D.ne,fun x hx=>?_,D.pok,Gy D.ln hn,D.pn⟩
 rcases List.mem_append.mp hx with hx | hx
 ·exact D.lok x hx
 ·rw [List.mem_singleton] at hx
  subst hx
  exact hl
theorem oh.part {d:Dw} {H:Hp} {ls:List aH} {ps:List PD} {os:List Str} (D:oh d H ls ps os) {v:V} {p:PD} (h:mG (cM d.E H) v p) (hl:z9 p) (hn:p.name=cD d.c4 ps.length) {xs:List V} (e:H d.P=some (.lst xs)):
  oh d (upd H d.P (.lst (xs ++ [v]))) ls (ps ++ [p]) os:=by
 obtain⟨xs',e1,a1⟩:=D.lanes
 obtain⟨ys,e2,a2⟩:=D.parts
 rw [e] at e2
 cases e2
 have c:cM d.E (upd H d.P (.lst (xs ++ [v])))=cM d.E H:=gm (by simp)
 refine⟨by rw [c];exact D.top,⟨_,by rw [aG D.ne.1];exact e1,by rw [c];exact a1⟩,⟨_,aq,by rw [c];exact a2.app (.cons h .nil)⟩,by rw [aG (Ne.symm D.ne.2.2)];exact D.opens,D.ne,D.lok,fun x hx=>?_,D.ln,Gy D.pn hn⟩
 rcases List.mem_append.mp hx with hx | hx
 ·exact D.pok x hx
 ·rw [List.mem_singleton] at hx
  subst hx
  exact hl
theorem oh.open {d:Dw} {H:Hp} {ls:List aH} {ps:List PD} {os os':List Str} (D:oh d H ls ps os):oh d (upd H d.O (.lst (os'.map V.str))) ls ps os':=by
 obtain⟨xs,e1,a1⟩:=D.lanes
 obtain⟨ys,e2,a2⟩:=D.parts
 have c:cM d.E (upd H d.O (.lst (os'.map V.str)))=cM d.E H:=gm (by simp)
 exact⟨by rw [c];exact D.top,⟨xs,by rw [aG D.ne.2.1];exact e1,by rw [c];exact a1⟩,⟨ys,by rw [aG D.ne.2.2];exact e2,by rw [c];exact a2⟩,aq,D.ne,D.lok,D.pok,D.ln,D.pn⟩
theorem Ag (a:Int) {n:Nat} (h:n<=26):((List.range n).map (cD a)).Nodup:=by
 induction n with
 | zero=>exact List.nodup_nil
 | succ n ih=>
  rw [List.range_succ,List.map_append,List.nodup_append]
  refine⟨ih (by omega),by simp,fun x hx y hy=>?_⟩
  obtain⟨j,hj,rfl⟩:=List.mem_map.mp hx
  rw [List.map_singleton,List.mem_singleton] at hy
  subst hy
  have hj':=List.mem_range.mp hj
  intro z
  have:=JP a (by omega) (by omega) z
  omega
noncomputable abbrev uL (ls:List aH) (ps:List PD) (os back:List Str):Drawn.NS Str:=⟨ls.map (·.name),ps,os,back⟩
theorem oh.nod {d:Dw} {H:Hp} {ls:List aH} {ps:List PD} {os:List Str} (D:oh d H ls ps os) (h:ls.length<=26):(ls.map (·.name)).Nodup:=by
 rw [D.ln]
 exact Ag _ h
theorem Wv {ns:Drawn.NS Str} (w:Drawn.WF ns) {os:List Str} (h:ns.opens.Perm os):Drawn.WF { ns with opens:=os }:=
 ⟨w.nod,w.outs,(h.symm.append_left _).trans w.ins,fun p hp=>by
  obtain⟨x,hx,o,ho,c⟩:=w.hang p hp
  exact⟨x,hx,o,h.mem_iff.mp ho,c⟩,w.touch⟩
theorem rM {d:Dw} {H:Hp} {ls newl:List aH} {ps:List PD} {p:PD} {os ops back:List Str} (w:Drawn.WF (uL ls ps ops back)) (ho:p.outs=newl.map (·.name)) (D:oh d H (ls ++ newl) (ps ++ [p]) (os ++ newl.map (·.name))) (hi:ops.Perm (p.ins ++ os)) (hne:newl.length≠0) (hl:(ls ++ newl).length<=26):
  Drawn.WF (uL (ls ++ newl) (ps ++ [p]) (os ++ newl.map (·.name)) back):=by
 have nd:=D.nod hl
 rw [List.map_append] at nd
 have:=w.part (p:=p) hi (by rw [ho];exact nd) (by rw [ho];intro z;exact hne (by rw [<-lM (f:=fun l:aH=>l.name),z];rfl))
 rw [ho] at this
 unfold uL
 rw [List.map_append]
 exact this
structure Zo (d:Dw) (H H':Hp) (ls:List aH) (ps:List PD) (back:List Str) (ls':List aH) (ps':List PD) (os':List Str):Prop where
 cut:aQ (cM d.E H) (cM d.E H')
 at':oh d H' ls' ps' os'
 wf:Drawn.WF (uL ls' ps' os' back)
 o1:1<=os'.length
 o4:os'.length<=4
 l2:ls'.length<=ls.length+2
 p2:ps'.length<=ps.length+2
theorem Ey {c X Y B:Prop} [Decidable c] (k:B) (hx:c->B->X) (hy:B->Y):if c then X else Y:=by
 split
 ·rename_i h;exact hx h k
 ·exact hy k
theorem hide {t u:TS} {D:Ends} {σ:St} {H:Hp} (h:∀v,v=u->Ab t v D σ H):Ab t u D σ H:=h u rfl
theorem QR {i:Nat} {x:V} {t u:TS} {D:Ends} {σ:St} {H:Hp} (h:∀E,E=D->∀v,v=u->Ab t v E (σ.set i (some x)) H):ym i x σ H fun σ2 H2=>Ab t u D σ2 H2:=h D rfl u rfl
theorem Vm {i:Nat} {x:V} {t:TS} {D:Ends} {σ:St} {H:Hp} (h:∀E,E=D->t E (σ.set i (some x)) H):ym i x σ H fun σ2 H2=>t D σ2 H2:=h D rfl
theorem Yy {t u:TS} {D:Ends} {σ:St} {H:Hp} (h:∀E,E=D->∀v,v=u->Ab t v E σ H):Ab t u D σ H:=h D rfl u rfl
theorem dJ {t u v:TS} {D:Ends} {σ:St} {H:Hp} (hv:v=Ab t u) (h:∀w,w=u->Ab t w D σ H):v D σ H:=by
 subst hv
 exact h u rfl
theorem oh.two {d:Dw} {H:Hp} {ls:List aH} {ps:List PD} {os:List Str} (D:oh d H ls ps os) {a1 a2:Addr} {x y:HO} (n1:H a1=none) (n2:upd H a1 x a2=none):
  oh d (upd (upd H a1 x) a2 y) ls ps os/\cM d.E (upd (upd H a1 x) a2 y) a1=some x/\cM d.E (upd (upd H a1 x) a2 y) a2=some y/\aQ (cM d.E H) (cM d.E (upd (upd H a1 x) a2 y)):=by
 have s1:=aB (o:=x) n1
 have s2:=aB (o:=y) n2
 have s:=s1.trans s2
 exact⟨D.keep s,lK (s2 _ _ aq) (D.out n1),lK aq (D.out (s1.free n2)),D.cut s⟩
structure G9 (lanes:List Str) (ps:List PD):Prop where
 nod:lanes.Nodup
 outs:(ps.flatMap (·.outs)).Perm lanes
 ins:(ps.flatMap (·.ins)).Perm lanes
 hang:∃y,∀q∈ps,∃x∈q.ins ++ q.outs,Drawn.jr ps x y
noncomputable def RQ (H:Hp) (a:Addr):Nat:=match H a with
 | some (.lst xs)=>xs.length
 | _=>0
theorem JB {H:Hp} {a:Addr} {xs:List V} (h:H a=some (.lst xs)):RQ H a=xs.length:=by
 unfold RQ
 rw [h]
theorem K9 (m:Int) {n:Int} {k:Nat} (h0:0 <n) (hk:n=k):∃j:Nat,m % n=(j:Int)/\j <k:=by
 have h1:=Int.emod_nonneg m (Int.ne_of_gt h0)
 have h2:=Int.emod_lt_of_pos m h0
 exact⟨(m % n).toNat,(Int.toNat_of_nonneg h1).symm,by omega⟩
theorem XF (m:Int):∃i:Nat,Fx [V.str "add",V.str "less",V.str "add"] (m % 3)=some (.str (cg i))/\(i=6∨i=7):=by
 have key:∀j,j <3->Fx [V.str "add",V.str "less",V.str "add"] ((j:Nat):Int)=some (.str (cg (([6,7,6]:List Nat).getD j 0)))/\(([6,7,6]:List Nat).getD j 0=6∨([6,7,6]:List Nat).getD j 0=7):=by decide +kernel
 obtain⟨j,e,hj⟩:=K9 m (n:=3) (k:=3) (by decide) rfl
 rw [e]
 exact⟨_,key j hj⟩
structure RZ (c3 c4:Int) (ls:List aH) (ps:List PD):Prop where
 lok:∀l∈ls,l.ok
 pok:∀p∈ps,z9 p
 ln:ls.map (·.name)=(List.range ls.length).map (cD c3)
 pn:((List.range ps.length).map (cD c4)).Perm (ps.map (·.name))
 whole:G9 (ls.map (·.name)) ps
 l1:1<=ls.length
 l17:ls.length<=17
 p1:1<=ps.length
 p16:ps.length<=16
structure yh (H:Hp) (L P:Addr) (ls:List aH) (ps:List PD):Prop where
 lanes:∃xs,H L=some (.lst xs)/\gY (nH H) xs ls
 parts:∃xs,H P=some (.lst xs)/\gY (mG H) xs ps
theorem yh.same {H H':Hp} {L P:Addr} {ls:List aH} {ps:List PD} (h:yh H L P ls ps) (s:aQ H H'):yh H' L P ls ps:=by
 obtain⟨⟨xs,e1,a1⟩,⟨ys,e2,a2⟩⟩:=h
 exact⟨⟨xs,s _ _ e1,a1.imp fun _ _ h=>h.same s⟩,⟨ys,s _ _ e2,a2.imp fun _ _ h=>h.same s⟩⟩
theorem PJ {ps qs:List PD} (h:ps.Perm qs) {x y:Str} (c:Drawn.jr ps x y):Drawn.jr qs x y:=c.mono fun _ hp=>h.mem_iff.mp hp
theorem G9.perm {ns:List Str} {ps qs:List PD} (w:G9 ns ps) (h:ps.Perm qs):G9 ns qs:=by
 obtain⟨y,hy⟩:=w.hang
 exact⟨w.nod,(h.symm.flatMap_right _).trans w.outs,(h.symm.flatMap_right _).trans w.ins,y,fun q hq=>by
  obtain⟨x,hx,c⟩:=hy q (h.mem_iff.mpr hq)
  exact⟨x,hx,PJ h c⟩⟩
theorem QD {α:Type} (l:List α) (n:Nat):l.Perm (l.drop n ++ l.take n):=by
 have h:l.Perm (l.take n ++ l.drop n):=by rw [List.take_append_drop]
 exact h.trans List.perm_append_comm
theorem Pg (xs:List V) (g:Nat):wk xs (some (g:Int)) none=xs.drop g:=by
 unfold wk
 rw [HT.yr,HT.vQ,<-List.length_drop,List.take_length]
 rcases Nat.le_total g xs.length with h | h
 ·rw [Nat.min_eq_left h]
 ·rw [Nat.min_eq_right h,List.drop_length,List.drop_eq_nil_of_le h]
theorem Tz (xs:List V) (g:Nat):wk xs none (some (g:Int))=xs.take g:=by
 unfold wk
 rw [HT.yr,HT.vQ,List.drop_zero,Nat.sub_zero]
 rcases Nat.le_total g xs.length with h | h
 ·rw [Nat.min_eq_left h]
 ·rw [Nat.min_eq_right h,List.take_length,List.take_of_length_le h]
theorem oh.init {H:Hp} {S L P O:Addr} (c3 c4:Int) (nL:H L=none) (nP:upd H L (.lst []) P=none) (nO:upd (upd H L (.lst [])) P (.lst []) O=none) (nS:upd (upd (upd H L (.lst [])) P (.lst [])) O (.lst []) S=none):
  oh ⟨S,L,P,O,c3,c4⟩ (upd (upd (upd (upd H L (.lst [])) P (.lst [])) O (.lst [])) S (.lst [.ref L,.ref P,.ref O,.int c3,.int c4])) [] [] []/\aQ H (cM [L,P,O] (upd (upd (upd (upd H L (.lst [])) P (.lst [])) O (.lst [])) S (.lst [.ref L,.ref P,.ref O,.int c3,.int c4])))/\H P=none:=by
 have s1:=aB (o:=.lst []) nL
 have s2:=aB (o:=.lst []) nP
 have s3:=aB (o:=.lst []) nO
 have s4:=aB (o:=.lst [.ref L,.ref P,.ref O,.int c3,.int c4]) nS
 have e1:=s4 _ _ (s3 _ _ (s2 L (.lst []) aq))
 have e2:=s4 _ _ (s3 P (.lst []) aq)
 have e3:=s4 O (.lst []) aq
 have n1:L≠P:=aC (aq (H:=H) (o:=.lst [])) nP
 have n2:L≠O:=aC (s2 L (.lst []) aq) nO
 have n3:P≠O:=aC (aq (H:=upd H L (.lst [])) (o:=.lst [])) nO
 have m1:L≠S:=aC (s3 _ _ (s2 L (.lst []) aq)) nS
 have m2:P≠S:=aC (s3 P (.lst []) aq) nS
 have m3:O≠S:=aC (aq (H:=upd (upd H L (.lst [])) P (.lst [])) (o:=.lst [])) nS
 refine⟨⟨lK aq ?_,⟨[],e1,.nil⟩,⟨[],e2,.nil⟩,e3,⟨n1,n2,n3⟩,(fun _ h=>by cases h),(fun _ h=>by cases h),rfl,rfl⟩,fun b o e=>lK (s4 _ _ (s3 _ _ (s2 _ _ (s1 _ _ e)))) ?_,s1.free nP⟩
 ·show S∉[L,P,O]
  simp [m1.symm,m2.symm,m3.symm]
 ·have q1:=aC e nL
  have q2:=aC (s1 _ _ e) nP
  have q3:=aC (s2 _ _ (s1 _ _ e)) nO
  simp [q1,q2,q3]
noncomputable abbrev LET:Str:= "abcdefghijklmnopqrstuvwxyz"
noncomputable abbrev Zv:Str:= "0123456789"
theorem O9:LET.cps.toList=List.range' 97 26:=by decide +kernel
theorem OD:Zv.cps.toList=List.range' 48 10:=by decide +kernel
theorem QH (c:Nat):(!(Builtin.Str.occurrences LET ⟨#[c]⟩ 0 LET.length 1).isEmpty)=low c:=by
 rw [StrLaws.found_one,O9]
 unfold low
 rw [Bool.eq_iff_iff]
 simp [List.mem_range'_1]
 omega
theorem V7 (c:Nat):(!(Builtin.Str.occurrences Zv ⟨#[c]⟩ 0 Zv.length 1).isEmpty)=Lw c:=by
 rw [StrLaws.found_one,OD]
 unfold Lw
 rw [Bool.eq_iff_iff]
 simp [List.mem_range'_1]
 omega
structure Wx (ms:List Str) (want:List (Str×V)) (fs:List (Str×V)):Prop where
 has:∀p∈want,fs.lookup p.1=some p.2
 no:∀m∈ms,fs.lookup m=none
theorem jO {H:Hp} {d:Addr} {kvs:List (Key×V)} {v:HO} (e:H d=some (.dK kvs)) {b:Addr} {u:HO} (h:H b=some u) (hu:∀ks,u≠.dK ks):upd H d v b=some u:=by
 rw [aG]
 ·exact h
 ·rintro rfl
  rw [e] at h
  exact hu _ (Option.some.inj h).symm
theorem gr {H:Hp} {d a:Addr} {kvs:List (Key×V)} {v:HO} {xs:List V} (e:H d=some (.dK kvs)) (h:fG K H a xs):fG K (upd H d v) a xs:=by
 rcases h with (h | ⟨o,h⟩) | h
 ·exact .inl (.inl (jO e h (by intro _ z;cases z)))
 ·exact .inl (.inr ⟨o,jO e h (by intro _ z;cases z)⟩)
 ·exact .inr h
theorem fJ.chill {H:Hp} {d p:Addr} {kvs:List (Key×V)} {v:HO} {i:Nat} {nm:V} {ns is os:List V} (e:H d=some (.dK kvs)) (h:fJ K t H p i nm ns is os):fJ K t (upd H d v) p i nm ns is os:=by
 obtain⟨dx,tn,ti,to,h1,h2,h3,h4⟩:=h
 exact⟨dx,tn,ti,to,jO e h1 (by intro _ z;cases z),gr e h2,gr e h3,gr e h4⟩
theorem Ou {H:Hp} {d D:Addr} {kvs:List (Key×V)} {o:Obj} {u:HO} (e:H d=some (.dK kvs)) (hD:(upd H d (.frz o (.dK kvs))) D=none):upd (upd (upd H d (.frz o (.dK kvs))) D u) d (.dK kvs)=upd H D u:=by
 have n:D≠d:=by rintro rfl;rw [aq] at hD;cases hD
 funext b
 by_cases h:b=d
 ·subst h
  rw [aq,aG (Ne.symm n)]
  exact e.symm
 ·rw [aG h]
  unfold upd
  rw [if_neg h]
theorem xV {H:Hp} {d D:Addr} {v:HO} (hD:(upd H d v) D=none):H D=none:=by
 by_cases h:D=d
 ·subst h;rw [aq] at hD;cases hD
 ·rw [aG h] at hD;exact hD
theorem Fj {H:Hp} {a:Addr} {o:HO} (e:H a=some o):upd H a o=H:=by
 funext b
 unfold upd
 split
 ·rename_i h;rw [h];exact e.symm
 ·rfl
theorem ie {κ:Type} [DecidableEq κ] {kvs:List (κ×V)} {k:κ} (h:k∉kvs.map (·.1)):cH kvs k=none:=by
 induction kvs with
 | nil=>rfl
 | cons p r ih=>
  simp only [List.map_cons,List.mem_cons,not_or] at h
  rw [gZ (Ne.symm h.1)]
  exact ih h.2
theorem gW {κ:Type} [DecidableEq κ] {kvs:List (κ×V)} {k:κ} {v:V} (nd:(kvs.map (·.1)).Nodup) (h:(k,v)∈kvs):cH kvs k=some v:=by
 induction kvs with
 | nil=>cases h
 | cons p r ih=>
  simp only [List.map_cons,List.nodup_cons] at nd
  rcases List.mem_cons.mp h with h | h
  ·subst h
   exact iD rfl
  ·have:¬p.1=k:=fun z=>nd.1 (List.mem_map.mpr ⟨_,h,z.symm⟩)
   rw [gZ this]
   exact ih nd.2 h
noncomputable def dC (f:PD->List Str) (ps:List PD):List (Key×V):=ps.flatMap fun p=>(f p).map fun l=>((Sum.inr l:Key),V.str p.name)
theorem xX (f:PD->List Str) (ps:List PD):(dC f ps).map (·.1)=(ps.flatMap f).map (fun l=>(Sum.inr l:Key)):=by
 induction ps with
 | nil=>rfl
 | cons p r ih=>
  unfold dC at ih ⊢
  simp only [List.flatMap_cons,List.map_append,ih,List.map_map]
  rfl
theorem fO {l:List Str} (h:l.Nodup):(l.map (fun x=>(Sum.inr x:Key))).Nodup:=by
 induction l with
 | nil=>exact List.nodup_nil
 | cons a r ih=>
  simp only [List.map_cons,List.nodup_cons,List.mem_map] at h ⊢
  refine⟨?_,ih h.2⟩
  rintro⟨b,hb,e⟩
  cases e
  exact h.1 hb
theorem ju {f:PD->List Str} {ps:List PD} (nd:(ps.flatMap f).Nodup) {p:PD} (hp:p∈ps) {l:Str} (hl:l∈f p):cH (dC f ps) (Sum.inr l)=some (.str p.name):=
 gW (by rw [xX];exact fO nd) (List.mem_flatMap.mpr ⟨p,hp,List.mem_map.mpr ⟨l,hl,rfl⟩⟩)
theorem Ef {f:PD->List Str} {ps:List PD} {l:Str} (h:l∉ps.flatMap f):cH (dC f ps) (Sum.inr l)=none:=ie (by
 rw [xX]
 intro z
 obtain⟨b,hb,e⟩:=List.mem_map.mp z
 cases e
 exact h hb)
theorem Ov (f:PD->List Str) (ps:List PD):(dC f ps).length=(ps.flatMap f).length:=by
 have:=congrArg List.length (xX f ps)
 simpa using this
theorem Eo (f:PD->List Str) (ps:List PD) (p:PD):dC f (ps ++ [p])=dC f ps ++ (f p).map fun l=>((Sum.inr l:Key),V.str p.name):=by
 unfold dC
 rw [List.flatMap_append]
 simp
theorem Nr {α:Type} {f g:α->Bool}:∀{l:List α},(∀a∈l,g a=true->f a=true)->(∃a∈l,f a=true/\g a=false)->(l.filter g).length <(l.filter f).length
 | [],_,h=>by obtain⟨a,ha,_⟩:=h;cases ha
 | x:: r,h,h2=>by
  have le:∀r:List α,(∀a∈r,g a=true->f a=true)->(r.filter g).length<=(r.filter f).length:=fun r=>by
   induction r with
   | nil=>intro _;exact Nat.le_refl _
   | cons y t ih=>
    intro q
    have:=ih fun a ha=>q a (List.mem_cons_of_mem _ ha)
    have q0:=q y List.mem_cons_self
    rw [List.filter_cons,List.filter_cons]
    cases hg:g y
    ·simp only [Bool.false_eq_true,if_false]
     split
     ·rw [List.length_cons];omega
     ·exact this
    ·rw [q0 hg]
     simp only [if_true,List.length_cons]
     omega
  obtain⟨a,ha,hf,hg⟩:=h2
  have hr:=fun a ha=>h a (List.mem_cons_of_mem x ha)
  rw [List.filter_cons,List.filter_cons]
  rcases List.mem_cons.mp ha with rfl | ha
  ·rw [hf,hg]
   have:=le r hr
   simp
   omega
  ·have ih:=Nr hr ⟨a,ha,hf,hg⟩
   have q0:=h x List.mem_cons_self
   cases hx:g x
   ·simp only [Bool.false_eq_true,if_false]
    split
    ·rw [List.length_cons];omega
    ·exact ih
   ·rw [q0 hx]
    simp only [if_true,List.length_cons]
    omega
noncomputable def iz (jk:List (Key×V)) (x:Str):Bool:=(cH jk (Sum.inr x)).isSome
noncomputable def ph (ps:List PD) (jk:List (Key×V)):Nat:=(ps.filter fun p=>!iz jk p.name).length
theorem J9 (jk:List (Key×V)) (x y:Str) (v:V):iz (putK jk (Sum.inr x) v) y=(decide (y=x) || iz jk y):=by
 unfold iz
 rw [RP]
 by_cases h:y=x
 ·subst h;simp
 ·have:¬(Sum.inr y:Key)=Sum.inr x:=fun z=>h (Sum.inr.inj z)
  rw [if_neg this]
  simp [h]
theorem JW {ps:List PD} {jk jk':List (Key×V)} (h:∀x,iz jk x=true->iz jk' x=true) {p:PD} (hp:p∈ps) (h1:iz jk p.name=false) (h2:iz jk' p.name=true):ph ps jk' <ph ps jk:=by
 refine Nr (fun a _ q=>?_) ⟨p,hp,by simp [h1],by simp [h2]⟩
 cases hj:iz jk a.name
 ·rfl
 ·rw [h _ hj] at q;cases q
theorem Py {ps:List PD} (pm:(ps.flatMap (·.outs)).Perm (ps.flatMap (·.ins))) {l:Str} (h:l∈ps.flatMap (·.outs)):∃a∈ps,∃b∈ps,l∈a.outs/\l∈b.ins:=by
 obtain⟨a,ha,hl⟩:=List.mem_flatMap.mp h
 obtain⟨b,hb,hl2⟩:=List.mem_flatMap.mp (pm.mem_iff.mp h)
 exact⟨a,ha,b,hb,hl,hl2⟩
theorem Wh {ps:List PD} (no:(ps.flatMap (·.outs)).Nodup) (ni:(ps.flatMap (·.ins)).Nodup) (pm:(ps.flatMap (·.outs)).Perm (ps.flatMap (·.ins))) {jk:List (Key×V)} (hang:∃y,∀q∈ps,∃x∈q.ins ++ q.outs,Drawn.jr ps x y)
  (cl:∀a∈ps,∀b∈ps,∀l,l∈a.outs->l∈b.ins->iz jk a.name=iz jk b.name) {p0:PD} (hp0:p0∈ps) (h0:iz jk p0.name=true):∀q∈ps,iz jk q.name=true:=by
 obtain⟨y,hy⟩:=hang
 refine Drawn.Mp (J:=fun p=>iz jk p.name=true) (fun l p q hp hq hlp hlq hJ=>?_) hy hp0 h0
 have same:∀{f:PD->List Str},(ps.flatMap f).Nodup->∀{a b:PD},a∈ps->b∈ps->l∈f a->l∈f b->a.name=b.name:=fun {f} nd {a b} ha hb h1 h2=>by
  obtain⟨i,hi,ei⟩:=List.mem_iff_getElem.mp ha
  obtain⟨j,hj,ej⟩:=List.mem_iff_getElem.mp hb
  have:=Drawn.Pk f nd (i:=i) (j:=j) (p:=a) (q:=b) (l:=l) (by rw [List.getElem?_eq_getElem hi,ei]) (by rw [List.getElem?_eq_getElem hj,ej]) h1 h2
  subst this
  rw [<-ei,<-ej]
 have hl:l∈ps.flatMap (·.outs):=by
  rcases List.mem_append.mp hlp with h | h
  ·exact pm.mem_iff.mpr (List.mem_flatMap.mpr ⟨p,hp,h⟩)
  ·exact List.mem_flatMap.mpr ⟨p,hp,h⟩
 obtain⟨a,ha,b,hb,la,lb⟩:=Py pm hl
 have e:=cl a ha b hb l la lb
 have np:p.name=a.name∨p.name=b.name:=(List.mem_append.mp hlp).elim (fun h=>.inr (same ni hp hb h lb)) fun h=>.inl (same no hp ha h la)
 have nq:q.name=a.name∨q.name=b.name:=(List.mem_append.mp hlq).elim (fun h=>.inr (same ni hq hb h lb)) fun h=>.inl (same no hq ha h la)
 show iz jk q.name=true
 change iz jk p.name=true at hJ
 rcases np with np | np <;> rcases nq with nq | nq <;> rw [np] at hJ <;> rw [nq]
 ·exact hJ
 ·rw [<-e];exact hJ
 ·rw [e];exact hJ
 ·exact hJ
theorem Gs {z:Str} (h:nameB z=true):z.length<=100:=by
 unfold nameB at h
 rw [<-oU]
 split at h
 ·simp_all
 ·rename_i e
  rw [e]
  simp only [Bool.and_eq_true,decide_eq_true_eq] at h
  rw [List.length_cons]
  omega
structure xZ (ls:List aH) (ps:List PD):Prop where
 lok:∀l∈ls,1<=l.room/\l.room<=199/\(l.first.length:Int)<=l.room/\∀v∈l.first,0<=v/\v <1000000000
 pok:∀p∈ps,z9 p
 lnm:∀l∈ls,nameB l.name=true
 pnm:∀p∈ps,nameB p.name=true
 pnd:(ps.map (·.name)).Nodup
 whole:G9 (ls.map (·.name)) ps
 l1:1<=ls.length
 l24:ls.length<=24
 p1:1<=ps.length
 p16:ps.length<=16
theorem Iw {c:Int} {n:Nat} (hn:n<=26) {x:Str} (h:x∈(List.range n).map (cD c)):∃k,k <n/\x=cD c k:=by
 obtain⟨k,hk,rfl⟩:=List.mem_map.mp h
 exact⟨k,List.mem_range.mp hk,rfl⟩
theorem RZ.fit {c3 c4:Int} {ls:List aH} {ps:List PD} (h:RZ c3 c4 ls ps):xZ ls ps:=by
 have a:=h.l17
 have b:=h.p16
 refine⟨fun l hl=>?_,h.pok,fun l hl=>?_,fun p hp=>?_,?_,h.whole,h.l1,by omega,h.p1,h.p16⟩
 ·obtain⟨x1,x2,x3,x4⟩:=h.lok l hl
  exact⟨x1,by omega,x3,x4⟩
 ·obtain⟨k,hk,e⟩:=Iw (c:=c3) (n:=ls.length) (by omega) (by rw [<-h.ln];exact List.mem_map.mpr ⟨l,hl,rfl⟩)
  rw [e]
  exact HW _ (by omega)
 ·obtain⟨k,hk,e⟩:=Iw (c:=c4) (n:=ps.length) (by omega) (h.pn.mem_iff.mpr (List.mem_map.mpr ⟨p,hp,rfl⟩))
  rw [e]
  exact HW _ (by omega)
 ·exact h.pn.nodup_iff.mp (Ag _ (by omega))
theorem RZ.lane20 {c3 c4:Int} {ls:List aH} {ps:List PD} (h:RZ c3 c4 ls ps):cD c3 20∉ls.map (·.name):=fun z=>by
 have a:=h.l17
 rw [h.ln] at z
 obtain⟨k,hk,e⟩:=Iw (by omega) z
 have:=JP _ (by omega) (by omega) e
 omega
noncomputable def cB (ls:List aH):List (Key×V):=ls.map fun l=>((Sum.inr l.name:Key),V.int l.room)
noncomputable def aW (FL:List (aH×Addr)):List (Key×V):=FL.map fun q=>((Sum.inr q.1.name:Key),V.ref q.2)
noncomputable def dq (PL:List (PD×Addr)):List (Key×V):=PL.map fun q=>((Sum.inr q.1.name:Key),V.ref q.2)
theorem mF (ls:List aH):(cB ls).map (·.1)=(ls.map (·.name)).map (fun x=>(Sum.inr x:Key)):=by unfold cB;rw [List.map_map,List.map_map];rfl
theorem fH (FL:List (aH×Addr)):(aW FL).map (·.1)=((FL.map (·.1)).map (·.name)).map (fun x=>(Sum.inr x:Key)):=by unfold aW;rw [List.map_map,List.map_map,List.map_map];rfl
theorem Bl (PL:List (PD×Addr)):(dq PL).map (·.1)=((PL.map (·.1)).map (·.name)).map (fun x=>(Sum.inr x:Key)):=by unfold dq;rw [List.map_map,List.map_map,List.map_map];rfl
structure wu (K:PySem.W.Frag) (t:lA) (H:Hp) (n:Addr) (ls:List aH) (ps:List PD) (dx:Addr) (fs:List (Str×V)) (R F Pd G Tk:Addr) (FL:List (aH×Addr)) (PL:List (PD×Addr)):Prop where
 obj:H n=some (.ins t.dY dx fs)
 fl:Wx ["lane_names", "part_names", "names_of_kind", "gives", "need_lane_name", "room_of", "first_of", "part_of", "told", "__init__"] [("rooms",.ref R),("firsts",.ref F),("parts",.ref Pd),("givers",.ref G),("takers",.ref Tk)] fs
 rooms:H R=some (.dK (cB ls))
 firsts:H F=some (.dK (aW FL))
 parts:H Pd=some (.dK (dq PL))
 givers:H G=some (.dK (dC (·.outs) ps))
 takers:H Tk=some (.dK (dC (·.ins) ps))
 fls:FL.map (·.1)=ls
 pls:PL.map (·.1)=ps
 tups:∀q∈FL,fG K H q.2 (q.1.first.map V.int)
 pats:∀q∈PL,fJ K t H q.2 q.1.kind (.str q.1.name) (q.1.nums.map V.int) (q.1.ins.map V.str) (q.1.outs.map V.str)
 fit:xZ ls ps
 neRF:R≠F
inductive jt (K:PySem.W.Frag) (t:lA) (H:Hp) (n:Addr) (ls:List aH) (ps:List PD):Prop where
 | mk:∀dx fs R F Pd G Tk FL PL,wu K t H n ls ps dx fs R F Pd G Tk FL PL->jt K t H n ls ps
section
variable {H H':Hp} {n dx R F Pd G Tk:Addr} {ls:List aH} {ps:List PD} {fs:List (Str×V)} {FL:List (aH×Addr)} {PL:List (PD×Addr)}
theorem wu.same (N:wu K t H n ls ps dx fs R F Pd G Tk FL PL) (s:aQ H H'):wu K t H' n ls ps dx fs R F Pd G Tk FL PL:=
 ⟨s _ _ N.obj,N.fl,s _ _ N.rooms,s _ _ N.firsts,s _ _ N.parts,s _ _ N.givers,s _ _ N.takers,N.fls,N.pls,fun q hq=>s.seqT (N.tups q hq),fun q hq=>(N.pats q hq).same s,N.fit,N.neRF⟩
theorem jt.same (N:jt K t H n ls ps) (s:aQ H H'):jt K t H' n ls ps:=by
 obtain⟨dx,fs,R,F,Pd,G,Tk,FL,PL,N⟩:=N
 exact⟨dx,fs,R,F,Pd,G,Tk,FL,PL,N.same s⟩
theorem wu.s (N:wu K t H n ls ps dx fs R F Pd G Tk FL PL):jt K t H n ls ps:=⟨dx,fs,R,F,Pd,G,Tk,FL,PL,N⟩
theorem wu.room (N:wu K t H n ls ps dx fs R F Pd G Tk FL PL) {l:aH} (hl:l∈ls):cH (cB ls) (Sum.inr l.name)=some (.int l.room):=
 gW (by rw [mF];exact fO N.fit.whole.nod) (List.mem_map.mpr ⟨l,hl,rfl⟩)
theorem wu.firstV (N:wu K t H n ls ps dx fs R F Pd G Tk FL PL) {q:aH×Addr} (hq:q∈FL):cH (aW FL) (Sum.inr q.1.name)=some (.ref q.2):=
 gW (by rw [fH,N.fls];exact fO N.fit.whole.nod) (List.mem_map.mpr ⟨q,hq,rfl⟩)
theorem wu.partV (N:wu K t H n ls ps dx fs R F Pd G Tk FL PL) {q:PD×Addr} (hq:q∈PL):cH (dq PL) (Sum.inr q.1.name)=some (.ref q.2):=
 gW (by rw [Bl,N.pls];exact fO N.fit.pnd) (List.mem_map.mpr ⟨q,hq,rfl⟩)
theorem wu.ono (N:wu K t H n ls ps dx fs R F Pd G Tk FL PL):(ps.flatMap (·.outs)).Nodup:=N.fit.whole.outs.nodup_iff.mpr N.fit.whole.nod
theorem wu.ini (N:wu K t H n ls ps dx fs R F Pd G Tk FL PL):(ps.flatMap (·.ins)).Nodup:=N.fit.whole.ins.nodup_iff.mpr N.fit.whole.nod
end
theorem Eu {α:Type} {f:α->Str} {xs:List α} {x:Str}:inV (.str x) (xs.map fun p=>V.str (f p))=decide (x∈xs.map f):=by
 rw [Bool.eq_iff_iff]
 unfold inV
 rw [List.any_eq_true,decide_eq_true_eq]
 constructor
 ·rintro⟨v,hv,e⟩
  obtain⟨p,hp,rfl⟩:=List.mem_map.mp hv
  exact List.mem_map.mpr ⟨p,hp,by simpa [PK] using e⟩
 ·intro h
  obtain⟨p,hp,rfl⟩:=List.mem_map.mp h
  exact⟨.str (f p),List.mem_map.mpr ⟨p,hp,rfl⟩,by simp [PK]⟩
theorem raised {H:Hp} {x C dx:Addr} {fs:List (Str×V)} (nx:H x=none) (nd:(upd H x (uy x C)) dx=none) (ne:dx≠x):
  aQ H (del (upd (upd (upd H x (uy x C)) x (zu x C dx)) dx (.xd fs)) x)/\(del (upd (upd (upd H x (uy x C)) x (zu x C dx)) dx (.xd fs)) x) dx=some (.xd fs):=by
 constructor
 ·intro b o e
  have b1:b≠x:=aC e nx
  have b2:b≠dx:=aC e (by rw [aG ne] at nd;exact nd)
  rw [Eb b1,aG b2,aG b1,aG b1]
  exact e
 ·rw [Eb ne];exact aq
noncomputable def qY (ps:List PD) (x:Str):List V:=(ps.filter fun p=>decide (cg p.kind=x)).map fun p=>V.str p.name
theorem Ox (ps:List PD) (x:Str) (p:PD):qY (ps ++ [p]) x=if cg p.kind=x then qY ps x ++ [V.str p.name] else qY ps x:=by
 unfold qY
 rw [List.filter_append,List.map_append]
 by_cases h:cg p.kind=x
 ·rw [if_pos h];simp [h]
 ·rw [if_neg h];simp [h]
theorem Kz (ps:List PD) (x:Str):(qY ps x).length<=ps.length:=by
 unfold qY
 rw [lM]
 exact List.length_filter_le _ _
noncomputable def Za (p:PD):Bool:=decide (cg p.kind= "choose") || decide (cg p.kind= "split")
noncomputable def oddN (ps:List PD):V:=match ps.find? Za with
 | some p=>.str p.name
 | none=>.non
inductive wM (K:PySem.W.Frag) (H:Hp) (v:V) (l:aH):Prop where
 | mk:∀q f,v=.ref q->H q=some (.tup [.str l.name,.int l.room,.ref f])->fG K H f (l.first.map V.int)->wM K H v l
inductive BP (K:PySem.W.Frag) (H:Hp) (v:V) (p:PD):Prop where
 | mk:∀q a1 a2 a3,v=.ref q->H q=some (.tup [.str (cg p.kind),.str p.name,.ref a1,.ref a2,.ref a3])->fG K H a1 (p.nums.map V.int)->fG K H a2 (p.ins.map V.str)->fG K H a3 (p.outs.map V.str)->BP K H v p
theorem wM.same {H H':Hp} {v:V} {l:aH} (h:wM K H v l) (s:aQ H H'):wM K H' v l:=by
 obtain⟨q,f,e,h1,h2⟩:=h
 exact⟨q,f,e,s _ _ h1,s.seqT h2⟩
theorem BP.same {H H':Hp} {v:V} {p:PD} (h:BP K H v p) (s:aQ H H'):BP K H' v p:=by
 obtain⟨q,a1,a2,a3,e,h1,h2,h3,h4⟩:=h
 exact⟨q,a1,a2,a3,e,s _ _ h1,s.seqT h2,s.seqT h3,s.seqT h4⟩
structure xN (K:PySem.W.Frag) (H:Hp) (T a b:Addr) (ls:List aH) (ps:List PD):Prop where
 tup:H T=some (.tup [.ref a,.ref b])
 lanes:∃xs,H a=some (.lst xs)/\gY (wM K H) xs ls
 parts:∃xs,H b=some (.lst xs)/\gY (BP K H) xs ps
theorem xN.same {H H':Hp} {T a b:Addr} {ls:List aH} {ps:List PD} (h:xN K H T a b ls ps) (s:aQ H H'):xN K H' T a b ls ps:=by
 obtain⟨h1,⟨xs,e1,a1⟩,⟨ys,e2,a2⟩⟩:=h
 exact⟨s _ _ h1,⟨xs,s _ _ e1,a1.imp fun _ _ h=>h.same s⟩,⟨ys,s _ _ e2,a2.imp fun _ _ h=>h.same s⟩⟩
theorem zY {H H':Hp} {d:Addr} {kvs:List (Key×V)} {o:Obj} (e:H d=some (.dK kvs)) (s:aQ (upd H d (.frz o (.dK kvs))) H'):aQ H (upd H' d (.dK kvs)):=fun b u q=>by
 by_cases h:b=d
 ·subst h;rw [aq];rw [e] at q;exact q
 ·rw [aG h];exact s b u (by rw [aG h];exact q)
theorem zg {H H':Hp} {d:Addr} {x:HO} (s:aQ H H'):aQ (upd H d x) (upd H' d x):=fun b u q=>by
 by_cases h:b=d
 ·subst h;rw [aq] at q ⊢;exact q
 ·rw [aG h] at q ⊢;exact s b u q
structure Tr (H:Hp) (f:Addr) (L:List (Addr×HO)) (Hk:Hp):Prop where
 but:jR f H Hk
 all:∀p∈L,Hk p.1=some p.2
 fre:∀p∈L,p.1=f∨H p.1=none
 nod:(L.map Prod.fst).Nodup
 obj:∃o,(f,o)∈L
theorem Tr.free {H Hk:Hp} {f x:Addr} {L:List (Addr×HO)} (T:Tr H f L Hk) (nx:Hk x=none):H x=none:=by
 cases e:H x with
 | none=>rfl
 | some o=>
  by_cases h:x=f
  ·obtain⟨u,hu⟩:=T.obj
   have:=T.all _ hu
   rw [h] at nx
   rw [nx] at this
   cases this
  ·rw [T.but x o h e] at nx
   cases nx
theorem Tr.new {H Hk:Hp} {f x:Addr} {L:List (Addr×HO)} {o:HO} (T:Tr H f L Hk) (nx:Hk x=none):Tr H f (L ++ [(x,o)]) (upd Hk x o):=by
 have hne:∀p∈L,p.1≠x:=fun p hp z=>by have:=T.all p hp;rw [z,nx] at this;cases this
 have hx:=T.free nx
 refine⟨fun b u n e=>by rw [aG (aC e hx)];exact T.but b u n e,fun p hp=>?_,fun p hp=>?_,?_,?_⟩
 ·rcases List.mem_append.mp hp with h | h
  ·rw [aG (hne p h)];exact T.all p h
  ·rw [List.mem_singleton] at h;subst h;exact aq
 ·rcases List.mem_append.mp hp with h | h
  ·exact T.fre p h
  ·rw [List.mem_singleton] at h;subst h;exact .inr hx
 ·rw [List.map_append,List.nodup_append]
  refine⟨T.nod,by simp,fun a ha b hb=>?_⟩
  obtain⟨p,hp,rfl⟩:=List.mem_map.mp ha
  simp at hb
  subst hb
  exact hne p hp
 ·obtain⟨u,hu⟩:=T.obj
  exact⟨u,List.mem_append.mpr (.inl hu)⟩
theorem Tr.same {H Hk Hk':Hp} {f:Addr} {L:List (Addr×HO)} (T:Tr H f L Hk) (s:aQ Hk Hk'):Tr H f L Hk':=
 ⟨fun b u n e=>s _ _ (T.but b u n e),fun p hp=>s _ _ (T.all p hp),T.fre,T.nod,T.obj⟩
theorem Tr.put {H Hk:Hp} {f x:Addr} {o o':HO} {L1 L2:List (Addr×HO)} (T:Tr H f (L1 ++ (x,o):: L2) Hk):Tr H f (L1 ++ (x,o'):: L2) (upd Hk x o'):=by
 have hx:x=f∨H x=none:=T.fre (x,o) (by simp)
 have nd:=T.nod
 rw [List.map_append,List.map_cons,List.nodup_append] at nd
 obtain⟨n1,n2,n3⟩:=nd
 rw [List.nodup_cons] at n2
 refine⟨fun b u n e=>?_,fun p hp=>?_,fun p hp=>?_,?_,?_⟩
 ·have:b≠x:=by
   rcases hx with rfl | hx
   ·exact n
   ·exact aC e hx
  rw [aG this];exact T.but b u n e
 ·rcases List.mem_append.mp hp with h | h
  ·have:p.1≠x:=n3 p.1 (List.mem_map.mpr ⟨p,h,rfl⟩) x (by simp)
   rw [aG this];exact T.all p (by simp [h])
  ·rcases List.mem_cons.mp h with rfl | h
   ·exact aq
   ·have:p.1≠x:=fun z=>n2.1 (by rw [<-z];exact List.mem_map.mpr ⟨p,h,rfl⟩)
    rw [aG this];exact T.all p (by simp [h])
 ·rcases List.mem_append.mp hp with h | h
  ·exact T.fre p (by simp [h])
  ·rcases List.mem_cons.mp h with rfl | h
   ·exact hx
   ·exact T.fre p (by simp [h])
 ·have:=T.nod
  rw [List.map_append,List.map_cons] at this ⊢
  exact this
 ·obtain⟨u,hu⟩:=T.obj
  rcases List.mem_append.mp hu with h | h
  ·exact⟨u,by simp [h]⟩
  ·rcases List.mem_cons.mp h with h | h
   ·cases h;exact⟨o',by simp⟩
   ·exact⟨u,by simp [h]⟩
theorem Tr.start {H:Hp} {f:Addr} {o:HO} (e:H f=some o):Tr H f [(f,o)] H:=⟨jR.refl _,fun p hp=>by rw [List.mem_singleton] at hp;subst hp;exact e,fun p hp=>by rw [List.mem_singleton] at hp;subst hp;exact .inl rfl,by simp,o,by simp⟩
inductive yR (K:PySem.W.Frag) (H:Hp) (v:V) (l:aH):Prop where
 | mk:∀q f,v=.ref q->H q=some (.tup [.str l.name,.int l.room,.ref f])->yc K H f (l.first.map V.int)->yR K H v l
inductive Xj (K:PySem.W.Frag) (H:Hp) (v:V) (p:PD):Prop where
 | mk:∀q a1 a2 a3,v=.ref q->H q=some (.tup [.str (cg p.kind),.str p.name,.ref a1,.ref a2,.ref a3])->yc K H a1 (p.nums.map V.int)->yc K H a2 (p.ins.map V.str)->yc K H a3 (p.outs.map V.str)->Xj K H v p
structure Hand (K:PySem.W.Frag) (H:Hp) (Ll Lp:Addr) (ls:List aH) (ps:List PD):Prop where
 ll:∃xs,bR K H Ll xs/\gY (yR K H) xs ls
 lp:∃xs,bR K H Lp xs/\gY (Xj K H) xs ps
theorem kZ {α:Type} {f:α->Str} {xs:List α} (nd:(xs.map f).Nodup) {j:Nat} {x:α} (h:xs[j]?=some x):f x∉(xs.take j).map f:=fun hm=>by
 have hj:=(List.getElem?_eq_some_iff.mp h).1
 have e:xs[j]=x:=(List.getElem?_eq_some_iff.mp h).2
 rw [List.map_take] at hm
 obtain⟨i,hi,ei⟩:=List.mem_iff_getElem.mp hm
 rw [List.length_take,lM] at hi
 rw [List.getElem_take] at ei
 have e2:(xs.map f)[j]'(by rw [lM];exact hj)=f x:=by rw [List.getElem_map,e]
 have:=(List.getElem_inj nd).mp (ei.trans e2.symm)
 omega
theorem HQ {f:PD->List Str} {ps:List PD} (nd:(ps.flatMap f).Nodup) {j:Nat} {p:PD} (h:ps[j]?=some p):(f p).Nodup/\∀z∈f p,z∉(ps.take j).flatMap f:=by
 have hj:=(List.getElem?_eq_some_iff.mp h).1
 have e:ps[j]=p:=(List.getElem?_eq_some_iff.mp h).2
 have e2:ps=ps.take j ++ p:: ps.drop (j+1):=by rw [<-e,<-List.drop_eq_getElem_cons hj,List.take_append_drop]
 rw [e2,List.flatMap_append,List.flatMap_cons,List.nodup_append] at nd
 obtain⟨n1,n2,n3⟩:=nd
 rw [List.nodup_append] at n2
 exact⟨n2.1,fun z hz hm=>n3 z hm z (List.mem_append.mpr (.inl hz)) rfl⟩
theorem Er (xs:List V) (g:Nat):wk xs (some (g:Int)) none=xs.drop g:=by
 unfold wk
 rw [HT.yr,HT.vQ,<-List.length_drop,List.take_length]
 rcases Nat.le_total g xs.length with h | h
 ·rw [Nat.min_eq_left h]
 ·rw [Nat.min_eq_right h,List.drop_eq_nil_of_le h,List.drop_eq_nil_of_le (Nat.le_refl _)]
structure qN (K:PySem.W.Frag) (t:lA) (H:Hp) (f n E G Kp D Rw:Addr):Prop where
 ex:∃dx fs,H f=some (.ins t.cW dx fs)/\Wx ["holds", "held_now", "gone_by", "row_left", "head", "heads", "lacking", "row_ended", "deed", "do"] [("net",.ref n),("ever",.ref E),("gone",.ref G),("kept",.ref Kp),("done",.ref D),("rows",.ref Rw)] fs
theorem qN.same {H H':Hp} {f n E G Kp D Rw:Addr} (h:qN K t H f n E G Kp D Rw) (s:aQ H H'):qN K t H' f n E G Kp D Rw:=by
 obtain⟨dx,fs,h1,h2⟩:=h
 exact⟨dx,fs,s _ _ h1,h2⟩
noncomputable def dM (i:Nat) (xs:List Str) (hs:List V):V:=match (places i hs).find? (uw hs) with
 | some q=>((xs[q]?).map V.str).getD .non
 | none=>.non
theorem pH {H:Hp}:∀{rs:List Addr} {vss:List (List V)} {j:Nat} {r:Addr},jz H rs vss->rs[j]?=some r->∃vs,vss[j]?=some vs/\H r=some (.tup vs)
 | _,_,_,_,.nil,e=>by simp at e
 | _,_,0,_,.cons h _,e=>by simp at e;subst e;exact⟨_,rfl,h⟩
 | _,_,j+1,_,.cons _ t,e=>by
  obtain⟨vs,h1,h2⟩:=pH (j:=j) t (by simpa using e)
  exact⟨vs,by simpa using h1,h2⟩
theorem places_len {i:Nat} {hs:List V} (h:vZ i hs):(places i hs).length<=3:=by
 have h3:=yl i
 have h1:=h.1
 unfold places
 by_cases hi:i=9
 ·rw [if_pos hi]
  split <;> simp
 ·rw [if_neg hi,List.length_range]
  omega
theorem Tr.got {H Hk Hk':Hp} {f x:Addr} {L:List (Addr×HO)} {o:HO} (T:Tr H f L Hk) (s:aQ Hk Hk') (nx:Hk x=none) (ex:Hk' x=some o):Tr H f (L ++ [(x,o)]) Hk':=by
 have T':=T.same s
 have hx:=T.free nx
 refine⟨T'.but,fun p hp=>?_,fun p hp=>?_,?_,?_⟩
 ·rcases List.mem_append.mp hp with h | h
  ·exact T'.all p h
  ·rw [List.mem_singleton] at h;subst h;exact ex
 ·rcases List.mem_append.mp hp with h | h
  ·exact T.fre p h
  ·rw [List.mem_singleton] at h;subst h;exact .inr hx
 ·rw [List.map_append,List.nodup_append]
  refine⟨T.nod,by simp,fun a ha b hb z=>?_⟩
  obtain⟨p,hp,rfl⟩:=List.mem_map.mp ha
  simp at hb
  have:=T.all p hp
  rw [z,hb,nx] at this
  cases this
 ·obtain⟨u,hu⟩:=T.obj
  exact⟨u,List.mem_append.mpr (.inl hu)⟩
theorem OJ {α:Type} {a b c d e f g x:α} {M:List α} (h:x∈M):x∈a:: b:: c:: d:: e:: f:: g:: M:=by simp [h]
theorem Tr.perm {H Hk:Hp} {f:Addr} {L L':List (Addr×HO)} (T:Tr H f L Hk) (h:L.Perm L'):Tr H f L' Hk:=
 ⟨T.but,fun p hp=>T.all p (h.mem_iff.mpr hp),fun p hp=>T.fre p (h.mem_iff.mpr hp),(h.map _).nodup_iff.mp T.nod,by obtain⟨o,ho⟩:=T.obj;exact⟨o,h.mem_iff.mp ho⟩⟩
theorem Tr.sub {H Hk:Hp} {f:Addr} {L L':List (Addr×HO)} (T:Tr H f L Hk) (h:L'.Sublist L) (hf:∃o,(f,o)∈L'):Tr H f L' Hk:=
 ⟨T.but,fun p hp=>T.all p (h.subset hp),fun p hp=>T.fre p (h.subset hp),T.nod.sublist (h.map _),hf⟩
noncomputable def lC (EL:List (aH×Addr)):List (Addr×HO):=EL.map fun q=>(q.2,HO.lst (q.1.first.map V.int))
noncomputable def dN (g:Str->Nat) (ls:List aH):List (Key×V):=ls.map fun l=>((Sum.inr l.name:Key),V.int (g l.name:Nat))
noncomputable def cX (k:Str->Int) (ps:List PD):List (Key×V):=ps.map fun p=>((Sum.inr p.name:Key),V.int (k p.name))
theorem xM (g:Str->Nat) (ls:List aH):(dN g ls).map (·.1)=(ls.map (·.name)).map (fun x=>(Sum.inr x:Key)):=by unfold dN;rw [List.map_map,List.map_map];rfl
theorem Fl (k:Str->Int) (ps:List PD):(cX k ps).map (·.1)=(ps.map (·.name)).map (fun x=>(Sum.inr x:Key)):=by unfold cX;rw [List.map_map,List.map_map];rfl
noncomputable def fu (ps:List PD) (x:Str):Int:=((ps.find? fun p=>decide (p.name=x)).map fun p=>if p.kind=5 then p.nums.headD 0 else 0).getD 0
noncomputable def dw (p:PD):Int:=if p.kind=5 then p.nums.headD 0 else 0
structure kI (K:PySem.W.Frag) (t:lA) (H:Hp) (f n:Addr) (le:List aH) (ps:List PD) (g:Str->Nat) (k:Str->Int) (E G Kp D Rw:Addr) (EL:List (aH×Addr)) (RL:List (Key×V)):Prop where
 at':qN K t H f n E G Kp D Rw
 ever:H E=some (.dK (aW EL))
 els:EL.map (·.1)=le
 lists:∀q∈EL,H q.2=some (.lst (q.1.first.map V.int))
 gone:H G=some (.dK (dN g le))
 kept:H Kp=some (.dK (cX k ps))
 done:∃dn:Str->Int,H D=some (.dK (cX dn ps))
 rows:H Rw=some (.dK RL)
 rno:∀p∈ps,p.kind≠0->cH RL (Sum.inr p.name)=none
noncomputable def yQ (t:lA) (H:Hp) (r n f:Addr):Prop:=∃dx fs,H r=some (.ins t.wX dx fs)/\Wx ["full_lane", "lane_now", "part_now", "net_now"] [("net",.ref n),("flow",.ref f)] fs
theorem yQ.same {H H':Hp} {r n f:Addr} (h:yQ t H r n f) (s:aQ H H'):yQ t H' r n f:=by
 obtain⟨dx,fs,h1,h2⟩:=h
 exact⟨dx,fs,s _ _ h1,h2⟩
structure Gd (n:Nat) (d:PyData):Prop where
 eq:PyData.eqv d d=true
 lay:PyData.canLay0 d=true
 dep:PyData.depth d<=n
theorem Gd.all {n:Nat}:∀{ds:List PyData},(∀d∈ds,Gd n d)->PyData.eqvAll ds ds=true/\PyData.canLayAll0 ds=true/\PyData.depthAll ds<=n
 | [],_=>⟨by simp [PyData.eqvAll],by simp [PyData.canLayAll0],by simp [PyData.depthAll]⟩
 | d:: r,h=>by
  obtain⟨h1,h2,h3⟩:=Gd.all (ds:=r) fun x hx=>h x (List.mem_cons_of_mem _ hx)
  have g:=h d List.mem_cons_self
  have g3:=g.dep
  refine⟨by simp [PyData.eqvAll,g.eq,h1],by simp [PyData.canLayAll0,g.lay,h2],?_⟩
  simp only [PyData.depthAll]
  omega
theorem Gd.list {n:Nat} {ds:List PyData} (h:∀d∈ds,Gd n d):Gd (n+1) (.list ds):=by
 obtain⟨h1,h2,h3⟩:=Gd.all h
 exact⟨by simp [PyData.eqv,h1],by simp [PyData.canLay0,h2],by simp only [PyData.depth];omega⟩
theorem Gd.tuple {n:Nat} {ds:List PyData} (h:∀d∈ds,Gd n d):Gd (n+1) (.tuple ds):=by
 obtain⟨h1,h2,h3⟩:=Gd.all h
 exact⟨by simp [PyData.eqv,h1],by simp [PyData.canLay0,h2],by simp only [PyData.depth];omega⟩
theorem Gd.int (n:Nat) (i:Int):Gd n (.int i):=⟨by simp [PyData.eqv],by simp [PyData.canLay0],by simp [PyData.depth]⟩
theorem Gd.str (n:Nat) {x:Str} (h:PyData.strOk x=true):Gd n (.str x):=⟨by simp [PyData.eqv],by simp [PyData.canLay0,h],by simp [PyData.depth]⟩
theorem Gd.ints (n:Nat) (ws:List Int):∀d∈ws.map PyData.int,Gd n d:=fun d hd=>by
 obtain⟨i,_,rfl⟩:=List.mem_map.mp hd
 exact .int n i
theorem Gd.strs (n:Nat) {xs:List Str} (h:∀x∈xs,PyData.strOk x=true):∀d∈xs.map PyData.str,Gd n d:=fun d hd=>by
 obtain⟨x,hx,rfl⟩:=List.mem_map.mp hd
 exact .str n (h x hx)
theorem Gd.shaped {n:Nat} {d:PyData} (h:Gd n d) (hn:n<=64):SeqAt.shaped d=true:=by
 have:=h.dep
 unfold SeqAt.shaped
 rw [h.lay,decide_eq_true (show d.depth<=64 by omega)]
 rfl
theorem Ci {z:Str} (h:nameB z=true):PyData.strOk z=true:=by
 have e:∀c∈z.cps.toList,c <0x110000:=fun c hc=>by
  unfold nameB at h
  split at h
  ·cases h
  ·rename_i c0 r e
   rw [e] at hc
   simp only [Bool.and_eq_true,List.all_eq_true,Bool.or_eq_true] at h
   have:=h.2.2 c hc
   unfold low Lw at this
   simp only [Bool.and_eq_true,decide_eq_true_eq] at this
   omega
 unfold PyData.strOk
 rw [Array.all_eq_true']
 intro c hc
 exact decide_eq_true (e c (by simpa using hc))
theorem Te:∀i,i <11->PyData.strOk (cg i)=true:=by decide +kernel
theorem Ip {H:Hp}:∀ws:List Int,Px K H (ws.map V.int) (ws.map PyData.int)
 | []=>.nil
 | i:: r=>.cons (.int i) (Ip r)
theorem Iu {H:Hp}:∀xs:List Str,Px K H (xs.map V.str) (xs.map PyData.str)
 | []=>.nil
 | x:: r=>.cons (.str x) (Iu r)
noncomputable def U7 (l:aH):PyData:=.tuple [.str l.name,.int l.room,.tuple (l.first.map PyData.int)]
noncomputable def Xu (p:PD):PyData:=.tuple [.str (cg p.kind),.str p.name,.tuple (p.nums.map PyData.int),.tuple (p.ins.map PyData.str),.tuple (p.outs.map PyData.str)]
noncomputable def Rv (ls:List aH) (ps:List PD):PyData:=.tuple [.list (ls.map U7),.list (ps.map Xu)]
theorem xZ.inN {ls:List aH} {ps:List PD} (h:xZ ls ps) {p:PD} (hp:p∈ps):(∀x∈p.ins,PyData.strOk x=true)/\∀x∈p.outs,PyData.strOk x=true:=by
 have nm:∀x∈ls.map (·.name),PyData.strOk x=true:=fun x hx=>by
  obtain⟨l,hl,rfl⟩:=List.mem_map.mp hx
  exact Ci (h.lnm l hl)
 exact⟨fun x hx=>nm x (h.whole.ins.mem_iff.mp (List.mem_flatMap.mpr ⟨p,hp,hx⟩)),fun x hx=>nm x (h.whole.outs.mem_iff.mp (List.mem_flatMap.mpr ⟨p,hp,hx⟩))⟩
theorem xZ.told {ls:List aH} {ps:List PD} (h:xZ ls ps):Gd 5 (Rv ls ps):=by
 unfold Rv
 refine .tuple fun d hd=>?_
 simp only [List.mem_cons,List.not_mem_nil,or_false] at hd
 rcases hd with rfl | rfl
 ·refine .list fun d hd=>?_
  obtain⟨l,hl,rfl⟩:=List.mem_map.mp hd
  unfold U7
  refine .tuple fun d hd=>?_
  simp only [List.mem_cons,List.not_mem_nil,or_false] at hd
  rcases hd with rfl | rfl | rfl
  ·exact .str _ (Ci (h.lnm l hl))
  ·exact .int _ _
  ·exact .tuple (.ints _ _)
 ·refine .list fun d hd=>?_
  obtain⟨p,hp,rfl⟩:=List.mem_map.mp hd
  unfold Xu
  refine .tuple fun d hd=>?_
  simp only [List.mem_cons,List.not_mem_nil,or_false] at hd
  rcases hd with rfl | rfl | rfl | rfl | rfl
  ·exact .str _ (Te _ (h.pok p hp).1)
  ·exact .str _ (Ci (h.pnm p hp))
  ·exact .tuple (.ints _ _)
  ·exact .tuple (.strs _ (h.inN hp).1)
  ·exact .tuple (.strs _ (h.inN hp).2)
theorem K7 {α:Type} {H:Hp} {R:V->α->Prop} {f:α->PyData} (h:∀v a,R v a->Dt K H v (f a)):∀{xs:List V} {ys:List α},gY R xs ys->Px K H xs (ys.map f)
 | _,_,.nil=>.nil
 | _,_,.cons r t=>.cons (h _ _ r) (K7 h t)
theorem xN.dt {H:Hp} {T a b:Addr} {ls:List aH} {ps:List PD} (h:xN K H T a b ls ps):Dt K H (.ref T) (Rv ls ps):=by
 obtain⟨h1,⟨xs,e1,a1⟩,⟨ys,e2,a2⟩⟩:=h
 refine .tuple (fG.of h1) (.cons (.list (bR.of e1) (K7 (fun v l h=>?_) a1)) (.cons (.list (bR.of e2) (K7 (fun v p h=>?_) a2)) .nil))
 ·obtain⟨q,f,rfl,h2,h3⟩:=h
  exact .tuple (fG.of h2) (.cons (.str _) (.cons (.int _) (.cons (.tuple h3 (Ip _)) .nil)))
 ·obtain⟨q,b1,b2,b3,rfl,h2,h3,h4,h5⟩:=h
  exact .tuple (fG.of h2) (.cons (.str _) (.cons (.str _) (.cons (.tuple h3 (Ip _)) (.cons (.tuple h4 (Iu _)) (.cons (.tuple h5 (Iu _)) .nil)))))
inductive pY (C:Addr) (vs:List V) (H:Hp) (Q:VK) (E:XK):Prop where
 | mk:∀(a:Addr) (v:V),vs=[.ref a,v]->H a=some (uy a C)->(∀dx,H dx=none->dx≠a->Q .non (upd (upd H a (zu a C dx)) dx (.xd [("name",v)])))->pY C vs H Q E
theorem pU (T:Txt w K mg t):FO P w K mg base 1 t.iU ["self", "name"] (pY t.eY):=by
 have sc:=T.iQ.sc ["self", "name"]
 refine T.iQ.F.ok sc ln (fun _ _ _ _ H vs Q E hr h=>?_)
 obtain⟨a,v,rfl,ea,k⟩:=h
 refine⟨_,(au (bO (Cq (by rfl) T.j0 T.oK (aa (pv 0) (aa (pv 1) ak aj) aj)))
  (aA (Cv (pv 0) (pv 1) rfl))),?_⟩
 refine⟨_,rfl,_,rfl,a,_,_,[v],rfl,ea,T.Ds.ini,by show 1<=1000;decide,?_⟩
 exact⟨_,rfl,_,rfl,a,_,rfl,ea,T.GX,T.Gq,k⟩
inductive pX (C:Addr) (vs:List V) (H:Hp) (Q:VK) (E:XK):Prop where
 | mk:∀(a:Addr) (v:V),vs=[.ref a,v]->H a=some (uy a C)->(∀dx,H dx=none->dx≠a->Q .non (upd (upd H a (zu a C dx)) dx (.xd [("name",v)])))->pX C vs H Q E
theorem xU (T:Txt w K mg t):FO P w K mg base 1 t.iT ["self", "name"] (pX t.iC):=by
 have sc:=T.jW.sc ["self", "name"]
 refine T.jW.F.ok sc ln (fun _ _ _ _ H vs Q E hr h=>?_)
 obtain⟨a,v,rfl,ea,k⟩:=h
 refine⟨_,(au (bO (Cq (by rfl) T.j0 T.oK (aa (pv 0) (aa (pv 1) ak aj) aj)))
  (aA (Cv (pv 0) (pv 1) rfl))),?_⟩
 refine⟨_,rfl,_,rfl,a,_,_,[v],rfl,ea,T.JF.ini,by show 1<=1000;decide,?_⟩
 exact⟨_,rfl,_,rfl,a,_,rfl,ea,T.Gj,T.Hq,k⟩
inductive qp (C:Addr) (vs:List V) (H:Hp) (Q:VK) (E:XK):Prop where
 | mk:∀(a:Addr) (v:V),vs=[.ref a,v]->H a=some (uy a C)->(∀dx,H dx=none->dx≠a->Q .non (upd (upd H a (zu a C dx)) dx (.xd [("lane",v)])))->qp C vs H Q E
theorem yK (T:Txt w K mg t):FO P w K mg base 1 t.jw ["self", "lane"] (qp t.jo):=by
 have sc:=T.lF.sc ["self", "lane"]
 refine T.lF.F.ok sc ln (fun _ _ _ _ H vs Q E hr h=>?_)
 obtain⟨a,v,rfl,ea,k⟩:=h
 refine⟨_,(au (bO (Cq (by rfl) T.j0 T.oK (aa (pv 0) (aa (pv 1) ak aj) aj)))
  (aA (Cv (pv 0) (pv 1) rfl))),?_⟩
 refine⟨_,rfl,_,rfl,a,_,_,[v],rfl,ea,T.Nf.ini,by show 1<=1000;decide,?_⟩
 exact⟨_,rfl,_,rfl,a,_,rfl,ea,T.KY,T.KJ,k⟩
inductive rE (C:Addr) (vs:List V) (H:Hp) (Q:VK) (E:XK):Prop where
 | mk:∀(a:Addr) (v:V),vs=[.ref a,v]->H a=some (uy a C)->(∀dx,H dx=none->dx≠a->Q .non (upd (upd H a (zu a C dx)) dx (.xd [("lane",v)])))->rE C vs H Q E
theorem zZ (T:Txt w K mg t):FO P w K mg base 1 t.jK ["self", "lane"] (rE t.jC):=by
 have sc:=T.mX.sc ["self", "lane"]
 refine T.mX.F.ok sc ln (fun _ _ _ _ H vs Q E hr h=>?_)
 obtain⟨a,v,rfl,ea,k⟩:=h
 refine⟨_,(au (bO (Cq (by rfl) T.j0 T.oK (aa (pv 0) (aa (pv 1) ak aj) aj)))
  (aA (Cv (pv 0) (pv 1) rfl))),?_⟩
 refine⟨_,rfl,_,rfl,a,_,_,[v],rfl,ea,T.Qz.ini,by show 1<=1000;decide,?_⟩
 exact⟨_,rfl,_,rfl,a,_,rfl,ea,T.Jb,T.N5,k⟩
inductive Bj (K:PySem.W.Frag) (vs:List V) (H:Hp) (Q:VK) (E:XK):Prop where
 | mk:∀x Tx b,vs=[x]->YW K H x Tx->Tx∈qj->decide (Tx= "int")=b->Q (.bl b) H->Bj K vs H Q E
theorem Be (T:Txt w K mg t):FO P w K mg base 1 t.DN ["thing"] (Bj K):=by
 have sc:=T.sV.sc ["thing"]
 refine T.sV.F.ok sc ln (fun _ _ _ _ H vs Q E hr h=>?_)
 obtain⟨x,Tx,b,rfl,ty,hm,rfl,k⟩:=h
 refine⟨_,(aA (aN (zJ (bJ yq (by rfl) T.jY jE (aa (pv 0) (aa (Cw (by rfl) T.Vb Qp) ak aj) aj)) (zP (Wz (bJ yq (by rfl) T.jY jE (aa (pv 0) (aa (Cw (by rfl) T.We Us) ak aj) aj))))))),?_⟩
 have hm':Tx= "int" ∨Tx= "bool" ∨(JS Tx "int" =false/\Tx≠ "int"):=by
  simp only [qj,List.mem_cons,List.not_mem_nil,or_false] at hm
  rcases hm with rfl | rfl | rfl | rfl | rfl | rfl | rfl
  ·exact .inr (.inr (by decide))
  ·exact .inr (.inl rfl)
  ·exact .inl rfl
  ·exact .inr (.inr (by decide))
  ·exact .inr (.inr (by decide))
  ·exact .inr (.inr (by decide))
  ·exact .inr (.inr (by decide))
 rcases hm' with rfl | rfl | ⟨h1,h2⟩
 ·exact⟨_,rfl,x, "int", "int",true,rfl,ty,by decide,by decide,true,rfl,lE ⟨_,rfl,x, "int", "bool",false,rfl,ty,by decide,by decide,_,rfl,k⟩⟩
 ·exact⟨_,rfl,x, "bool", "int",true,rfl,ty,by decide,by decide,true,rfl,lE ⟨_,rfl,x, "bool", "bool",true,rfl,ty,by decide,by decide,_,rfl,k⟩⟩
 ·rw [decide_eq_false h2] at k
  exact⟨_,rfl,x,Tx, "int",false,rfl,ty,by decide,h1,false,rfl,fc k⟩
inductive Bu (K:PySem.W.Frag) (vs:List V) (H:Hp) (Q:VK) (E:XK):Prop where
 | mk:∀x,vs=[x]->(((∃i:Int,x=.int i/\Q (.bl (decide (0<=i) && decide (i <1000000000))) H)∨∃Tx,YW K H x Tx/\Tx∈qj/\Tx≠ "int" /\Q (.bl false) H))->Bu K vs H Q E
theorem uF (T:Txt w K mg t):FO P w K mg base 2 t.Dp ["thing"] (Bu K):=by
 have sc:=T.pN.sc ["thing"]
 refine T.pN.F.ok sc ln (fun _ _ _ _ H vs Q E hr h=>?_)
 obtain⟨x,rfl,h⟩:=h
 refine⟨_,(aA (aN (zJ (eQ (Be T) T.sV hr (aa (pv 0) ak aj)) (zP (RB wN xq az (pv 0) (jD (by rfl) T.JK)))))),?_⟩
 rcases h with ⟨i,rfl,k⟩ | ⟨Tx,ty,hm,hne,k⟩
 ·refine⟨_,rfl,.int i, "int",true,rfl,rfl,by decide,by decide,true,rfl,lE ⟨_,rfl,_,_,rfl,rfl,_,rfl,lz (fun h=>?_) (fun h=>?_)⟩⟩
  ·have h':0<=i:=of_decide_eq_true h
   rw [decide_eq_true h',Bool.true_and] at k
   exact⟨_,_,rfl,rfl,k⟩
  ·have h':¬0<=i:=fun z=>h (decide_eq_true z)
   rw [decide_eq_false h',Bool.false_and] at k
   exact k
 ·exact⟨_,rfl,x,Tx,false,rfl,ty,hm,decide_eq_false hne,false,rfl,fc k⟩
inductive rT (K:PySem.W.Frag) (t:lA) (vs:List V) (H:Hp) (Q:VK) (E:XK):Prop where
 | mk:∀(i:Nat) (p dx a1 a2 a3:Addr) (nm:V) (ns is os:List V),vs=[.ref p,nm,.ref a1,.ref a2,.ref a3]->H p=some (.ins (cls t i) dx [])->yc K H a1 ns->yc K H a2 is->yc K H a3 os->(∀H',jR p H H'->fJ K t H' p i nm ns is os->Q .non H')->rT K t vs H Q E
noncomputable abbrev mY:List Str:=["self", "name", "numbers", "ins", "outs"]
theorem cu (T:Txt w K mg t):FO P w K mg base 1 t.cj mY (rT K t):=by
 have sc:gK mY mY (bx (inClass (top 28) 0)):=MT
 refine T.bf.F.ok sc ln (fun _ _ _ _ H vs Q E hr h=>?_)
 obtain⟨i,p,dx,a1,a2,a3,nm,ns,is,os,rfl,hp,q1,q2,q3,k⟩:=h
 refine⟨_,(au (iI (pv 0) (pv 1) rfl)
  (au (iI (pv 0) (cY rQ (by rfl) T.qb mU (aa (pv 2) ak aj)) rfl)
  (au (iI (pv 0) (cY rQ (by rfl) T.qb mU (aa (pv 3) ak aj)) rfl)
  (aA (iI (pv 0) (cY rQ (by rfl) T.qb mU (aa (pv 4) ak aj)) rfl))))),?_⟩
 refine⟨_,rfl,_,rfl,p,cls t i,dx,[],rfl,hp,eE T i,sY T i,by show 0 <1000;decide,?_⟩
 have b1:jR p H (upd H p (.ins (cls t i) dx (aJ "name" nm []))):=jR.write
 have e1:(upd H p (.ins (cls t i) dx (aJ "name" nm []))) p=some (.ins (cls t i) dx (aJ "name" nm [])):=aq
 generalize upd H p (.ins (cls t i) dx (aJ "name" nm []))=H1 at b1 e1 ⊢
 have r2:=b1.seqA hp q2
 have r3:=b1.seqA hp q3
 refine⟨_,rfl,a1,ns,rfl,b1.seqA hp q1,fun H2 u2 s2 t2=>⟨_,rfl,p,cls t i,dx,_,rfl,s2 _ _ e1,eE T i,lH T i,Nat.lt_of_le_of_lt (jm (Nat.zero_le 0)) (by decide),?_⟩⟩
 have e2:=s2 _ _ e1
 have b2:jR p H2 (upd H2 p (.ins (cls t i) dx (aJ "numbers" (.ref u2) (aJ "name" nm [])))):=jR.write
 have e3:(upd H2 p (.ins (cls t i) dx (aJ "numbers" (.ref u2) (aJ "name" nm [])))) p=some (.ins (cls t i) dx (aJ "numbers" (.ref u2) (aJ "name" nm []))):=aq
 generalize upd H2 p (.ins (cls t i) dx (aJ "numbers" (.ref u2) (aJ "name" nm [])))=H3 at b2 e3 ⊢
 have r2':=b2.seqA e2 (s2.seqA r2)
 have r3':=b2.seqA e2 (s2.seqA r3)
 have t2':=b2.seqT e2 t2
 refine⟨_,rfl,a2,is,rfl,r2',fun H4 u4 s4 t4=>⟨_,rfl,p,cls t i,dx,_,rfl,s4 _ _ e3,eE T i,sS T i,Nat.lt_of_le_of_lt (jm (jm (Nat.zero_le 0))) (by decide),?_⟩⟩
 have e4:=s4 _ _ e3
 have b4:jR p H4 (upd H4 p (.ins (cls t i) dx (aJ "ins" (.ref u4) (aJ "numbers" (.ref u2) (aJ "name" nm []))))):=jR.write
 have e5:(upd H4 p (.ins (cls t i) dx (aJ "ins" (.ref u4) (aJ "numbers" (.ref u2) (aJ "name" nm []))))) p=some (.ins (cls t i) dx (aJ "ins" (.ref u4) (aJ "numbers" (.ref u2) (aJ "name" nm [])))):=aq
 generalize upd H4 p (.ins (cls t i) dx (aJ "ins" (.ref u4) (aJ "numbers" (.ref u2) (aJ "name" nm []))))=H5 at b4 e5 ⊢
 have r3'':=b4.seqA e4 (s4.seqA r3')
 have t2'':=b4.seqT e4 (s4.seqT t2')
 have t4':=b4.seqT e4 t4
 refine⟨_,rfl,a3,os,rfl,r3'',fun H6 u6 s6 t6=>⟨_,rfl,p,cls t i,dx,_,rfl,s6 _ _ e5,eE T i,vY T i,Nat.lt_of_le_of_lt (jm (jm (jm (Nat.zero_le 0)))) (by decide),?_⟩⟩
 have e6:=s6 _ _ e5
 refine k _ (b1.trans ((jR.of_same s2).trans (b2.trans ((jR.of_same s4).trans (b4.trans ((jR.of_same s6).trans jR.write)))))) ⟨dx,u2,u4,u6,aq,?_,?_,?_⟩
 ·exact jR.write.seqT e6 (s6.seqT t2'')
 ·exact jR.write.seqT e6 (s6.seqT t4')
 ·exact jR.write.seqT e6 t6
theorem Ig (T:Txt w K mg t):FO P w K mg base 1 t.vC ["self"] (gM 0):=by
 have sc:=T.qz.sc ["self"]
 refine T.qz.F.ok sc ln (fun _ _ _ _ H vs Q E hr h=>?_)
 obtain⟨x,rfl,k⟩:=h
 refine⟨_,(aA (aN bF)),?_⟩
 exact k
theorem Jv (T:Txt w K mg t):FO P w K mg base 1 t.uK ["self"] (gM 1):=by
 have sc:=T.qK.sc ["self"]
 refine T.qK.F.ok sc ln (fun _ _ _ _ H vs Q E hr h=>?_)
 obtain⟨x,rfl,k⟩:=h
 refine⟨_,(aA (aN bF)),?_⟩
 exact k
theorem Il (T:Txt w K mg t):FO P w K mg base 1 t.u9 ["self"] (gM 2):=by
 have sc:=T.qC.sc ["self"]
 refine T.qC.F.ok sc ln (fun _ _ _ _ H vs Q E hr h=>?_)
 obtain⟨x,rfl,k⟩:=h
 refine⟨_,(aA (aN bF)),?_⟩
 exact k
theorem Jh (T:Txt w K mg t):FO P w K mg base 1 t.vA ["self"] (gM 3):=by
 have sc:=T.qy.sc ["self"]
 refine T.qy.F.ok sc ln (fun _ _ _ _ H vs Q E hr h=>?_)
 obtain⟨x,rfl,k⟩:=h
 refine⟨_,(aA (aN bF)),?_⟩
 exact k
theorem IW (T:Txt w K mg t):FO P w K mg base 1 t.uT ["self"] (gM 4):=by
 have sc:=T.qd.sc ["self"]
 refine T.qd.F.ok sc ln (fun _ _ _ _ H vs Q E hr h=>?_)
 obtain⟨x,rfl,k⟩:=h
 refine⟨_,(aA (aN bF)),?_⟩
 exact k
theorem Ht (T:Txt w K mg t):FO P w K mg base 1 t.uA ["self"] (gM 5):=by
 have sc:=T.qD.sc ["self"]
 refine T.qD.F.ok sc ln (fun _ _ _ _ H vs Q E hr h=>?_)
 obtain⟨x,rfl,k⟩:=h
 refine⟨_,(aA (aN bF)),?_⟩
 exact k
theorem Ky (T:Txt w K mg t):FO P w K mg base 1 t.xK ["self"] (gM 6):=by
 have sc:=T.tO.sc ["self"]
 refine T.tO.F.ok sc ln (fun _ _ _ _ H vs Q E hr h=>?_)
 obtain⟨x,rfl,k⟩:=h
 refine⟨_,(aA (aN bF)),?_⟩
 exact k
theorem Io (T:Txt w K mg t):FO P w K mg base 1 t.uN ["self"] (gM 7):=by
 have sc:=T.qt.sc ["self"]
 refine T.qt.F.ok sc ln (fun _ _ _ _ H vs Q E hr h=>?_)
 obtain⟨x,rfl,k⟩:=h
 refine⟨_,(aA (aN bF)),?_⟩
 exact k
theorem Gb (T:Txt w K mg t):FO P w K mg base 1 t.sU ["self"] (gM 8):=by
 have sc:=T.oG.sc ["self"]
 refine T.oG.F.ok sc ln (fun _ _ _ _ H vs Q E hr h=>?_)
 obtain⟨x,rfl,k⟩:=h
 refine⟨_,(aA (aN bF)),?_⟩
 exact k
theorem Ff (T:Txt w K mg t):FO P w K mg base 1 t.qO ["self"] (gM 9):=by
 have sc:=T.mD.sc ["self"]
 refine T.mD.F.ok sc ln (fun _ _ _ _ H vs Q E hr h=>?_)
 obtain⟨x,rfl,k⟩:=h
 refine⟨_,(aA (aN bF)),?_⟩
 exact k
theorem FP (T:Txt w K mg t):FO P w K mg base 1 t.rU ["self"] (gM 10):=by
 have sc:=T.oO.sc ["self"]
 refine T.oO.F.ok sc ln (fun _ _ _ _ H vs Q E hr h=>?_)
 obtain⟨x,rfl,k⟩:=h
 refine⟨_,(aA (aN bF)),?_⟩
 exact k
inductive Fq (vs:List V) (H:Hp) (Q:VK) (E:XK):Prop where
 | mk:∀z:Str,vs=[.str z]->Q (.bl (rowOf ROWS z).isSome) H->Fq vs H Q E
theorem Di (T:Txt w K mg t):FO P w K mg base 1 t.GD ["word"] (Fq):=by
 have sc:=T.vX.sc ["word"]
 refine T.vX.F.ok sc ln (fun _ _ _ _ H vs Q E hr h=>?_)
 obtain⟨z,rfl,k⟩:=h
 refine⟨_,(aA (aN (Je (Wt (pv 0) (Cz (v:=.ref _) (by rfl) T.Ho rfl)) (by with_unfolding_all rfl)))),?_⟩
 exact⟨_,rfl,t.yt,ROWS,z,rfl,T.Ku,rfl,k⟩
inductive Bx (K:PySem.W.Frag) (vs:List V) (H:Hp) (Q:VK) (E:XK):Prop where
 | mk:∀(i:Nat) (nm:V) (a1 a2 a3:Addr) (ns is os:List V),vs=[.str (cg i),nm,.ref a1,.ref a2,.ref a3]->yc K H a1 ns->yc K H a2 is->yc K H a3 os->ns.length=cN i->is.length=cI i->os.length=cO i->((∀v∈ns,Val v))->(∀H',aQ H H'->Q .non H')->Bx K vs H Q E
noncomputable abbrev Fe:List Str:=["kind", "name", "numbers", "ins", "outs", "counts"]
theorem Kl (T:Txt w K mg t):FO P w K mg base 3 t.Ek ["kind", "name", "numbers", "ins", "outs"] (Bx K):=by
 have sc:=T.xR.sc Fe
 refine T.xR.F.ok sc ln (fun _ _ _ _ H vs Q E hr h=>?_)
 obtain⟨i,nm,a1,a2,a3,ns,is,os,rfl,h1,h2,h3,l1,l2,l3,hv,k⟩:=h
 refine⟨_,(au (bU (lL (jL (eQ (Di T) T.vX hr (aa (pv 0) ak aj))))
   (aA fP)
   bu)
  (au (sN sc 5 (Ub (Cz (v:=.ref _) (by rfl) T.Ho rfl) (pv 0) (fun _ _=>rfl)))
  (au (bU (PW.pt (Aq (bz JQ (bJ cC (by rfl) T.gA d7 (aa (pv 2) ak aj)) (aU dH (pv 5) az (fun _ _=>rfl)) (bT _)) (vI (lL (jL (bJ (yI rfl) (by rfl) T.Nt Hz (aa (fD [] Fe (bx (top 41)) rfl (U6 (cz (pv 2)) (Ii (pv 2))) (fun _ _ _ _ _=>fC) (fun _ _ _ _ _=>(eQ (uF T) T.pN hr (aa (pv 0) ak aj)))) ak dU)))))))
   (aA fP)
   bu)
  (aA (bU (PW.pt (Aq (bz JQ (bJ cC (by rfl) T.gA d7 (aa (pv 3) ak aj)) (aU dH (pv 5) az (fun _ _=>rfl)) (bT _)) (vI (bz JQ (bJ cC (by rfl) T.gA d7 (aa (pv 4) ak aj)) (aU dH (pv 5) az (fun _ _=>rfl)) (bT _)))))
   (aA fP)
   bu))))),?_⟩
 have hl:sizeLine=16777216:=sizeLine_eq
 have hN:=Yu i
 have hI:=yl i
 have hO:=QS i
 refine⟨_,rfl,cg i,rfl,true,by rw [row_of];rfl,fc ?_⟩
 refine⟨_,rfl,t.yt,ROWS,cg i,_,rfl,T.Ku,rfl,row_of i,fun ad had=>?_⟩
 refine⟨_,rfl,.ref a1,ns.length,rfl,h1.len,_,rfl,ad,_,0,_,rfl,rfl,had,aK (j:=0) rfl,rfl,_,rfl,?_⟩
 rw [show(!decide (V.int ((ns.length:Nat):Int)=V.int ((cN i:Nat):Int)))=false by rw [l1];simp]
 refine fc ?_
 refine Qy (a:=a1) (xs:=ns) ?_ h1 (fun j ys=>ys=(List.replicate j true).map V.bl) (by omega) rfl (fun j ys e=>by rw [e];simp) (fun j x ys hx e=>?_) (fun ys e D hD=>?_)
 ·exact fun R r=>⟨_,rfl,r⟩
 ·subst e
  obtain⟨n,rfl,n0,n1⟩:=hv x (List.mem_of_getElem? hx)
  refine yes ⟨_,rfl,.int n,rfl,.inl ⟨n,rfl,rfl,?_⟩⟩
  rw [decide_eq_true n0,decide_eq_true n1,List.replicate_succ']
  simp
 ·subst e
  refine⟨D,_,rfl,bR.of aq,_,rfl,?_⟩
  rw [show((List.replicate ns.length true).all id)=true by simp]
  refine fc ?_
  have s1:aQ H (upd H D (.lst ((List.replicate ns.length true).map V.bl))):=aB hD
  refine⟨_,rfl,.ref a2,is.length,rfl,(s1.seqA h2).len,_,rfl,ad,_,1,_,rfl,rfl,s1.seqT had,aK (j:=1) rfl,rfl,_,rfl,?_⟩
  rw [show(!decide (V.int ((is.length:Nat):Int)=V.int ((cI i:Nat):Int)))=false by rw [l2];simp]
  refine fc ?_
  refine⟨_,rfl,.ref a3,os.length,rfl,(s1.seqA h3).len,_,rfl,ad,_,2,_,rfl,rfl,s1.seqT had,aK (j:=2) rfl,rfl,_,rfl,?_⟩
  rw [show(!decide (V.int ((os.length:Nat):Int)=V.int ((cO i:Nat):Int)))=false by rw [l3];simp]
  exact fc (k _ s1)
inductive Dj (K:PySem.W.Frag) (t:lA) (vs:List V) (H:Hp) (Q:VK) (E:XK):Prop where
 | mk:∀(i:Nat) (nm:V) (a1 a2 a3:Addr) (ns is os:List V),vs=[.str (cg i),nm,.ref a1,.ref a2,.ref a3]->i<=10->yc K H a1 ns->yc K H a2 is->yc K H a3 os->(∀H' p,aQ H H'->H p=none->fJ K t H' p i nm ns is os->Q (.ref p) H')->Dj K t vs H Q E
noncomputable abbrev z6:List Str:=["kind", "name", "numbers", "ins", "outs"]
theorem Eg (T:Txt w K mg t):FO P w K mg base 3 t.Ge z6 (Dj K t):=by
 have sc:gK z6 z6 (bx (top 42)):=MT
 refine T.zQ.F.ok sc ln (fun _ _ _ _ H vs Q E hr h=>?_)
 obtain⟨i,nm,a1,a2,a3,ns,is,os,rfl,hi,h1,h2,h3,k⟩:=h
 refine⟨_,(au (bU (bz fQ (pv 0) bF (bT _))
   (aA (aN (gJ (T.ji.M T.bf) (cu T) (hr.mono (by decide)) (by rfl) T.ji.m T.bf.b .nil fj (aa (pv 1) (aa (pv 2) (aa (pv 3) (aa (pv 4) ak aj) aj) aj) aj))))
   bu)
  (au (bU (bz fQ (pv 0) bF (bT _))
   (aA (aN (gJ (T.jc.M T.bf) (cu T) (hr.mono (by decide)) (by rfl) T.jc.m T.bf.b .nil fj (aa (pv 1) (aa (pv 2) (aa (pv 3) (aa (pv 4) ak aj) aj) aj) aj))))
   bu)
  (au (bU (bz fQ (pv 0) bF (bT _))
   (aA (aN (gJ (T.ir.M T.bf) (cu T) (hr.mono (by decide)) (by rfl) T.ir.m T.bf.b .nil fj (aa (pv 1) (aa (pv 2) (aa (pv 3) (aa (pv 4) ak aj) aj) aj) aj))))
   bu)
  (au (bU (bz fQ (pv 0) bF (bT _))
   (aA (aN (gJ (T.iw.M T.bf) (cu T) (hr.mono (by decide)) (by rfl) T.iw.m T.bf.b .nil fj (aa (pv 1) (aa (pv 2) (aa (pv 3) (aa (pv 4) ak aj) aj) aj) aj))))
   bu)
  (au (bU (bz fQ (pv 0) bF (bT _))
   (aA (aN (gJ (T.iy.M T.bf) (cu T) (hr.mono (by decide)) (by rfl) T.iy.m T.bf.b .nil fj (aa (pv 1) (aa (pv 2) (aa (pv 3) (aa (pv 4) ak aj) aj) aj) aj))))
   bu)
  (au (bU (bz fQ (pv 0) bF (bT _))
   (aA (aN (gJ (T.gq.M T.bf) (cu T) (hr.mono (by decide)) (by rfl) T.gq.m T.bf.b .nil fj (aa (pv 1) (aa (pv 2) (aa (pv 3) (aa (pv 4) ak aj) aj) aj) aj))))
   bu)
  (au (bU (bz fQ (pv 0) bF (bT _))
   (aA (aN (gJ (T.jU.M T.bf) (cu T) (hr.mono (by decide)) (by rfl) T.jU.m T.bf.b .nil fj (aa (pv 1) (aa (pv 2) (aa (pv 3) (aa (pv 4) ak aj) aj) aj) aj))))
   bu)
  (au (bU (bz fQ (pv 0) bF (bT _))
   (aA (aN (gJ (T.il.M T.bf) (cu T) (hr.mono (by decide)) (by rfl) T.il.m T.bf.b .nil fj (aa (pv 1) (aa (pv 2) (aa (pv 3) (aa (pv 4) ak aj) aj) aj) aj))))
   bu)
  (au (bU (bz fQ (pv 0) bF (bT _))
   (aA (aN (gJ (T.fL.M T.bf) (cu T) (hr.mono (by decide)) (by rfl) T.fL.m T.bf.b .nil fj (aa (pv 1) (aa (pv 2) (aa (pv 3) (aa (pv 4) ak aj) aj) aj) aj))))
   bu)
  (au (bU (bz fQ (pv 0) bF (bT _))
   (aA (aN (gJ (T.dW.M T.bf) (cu T) (hr.mono (by decide)) (by rfl) T.dW.m T.bf.b .nil fj (aa (pv 1) (aa (pv 2) (aa (pv 3) (aa (pv 4) ak aj) aj) aj) aj))))
   bu)
  (aA (aN (gJ (T.fK.M T.bf) (cu T) (hr.mono (by decide)) (by rfl) T.fK.m T.bf.b .nil fj (aa (pv 1) (aa (pv 2) (aa (pv 3) (aa (pv 4) ak aj) aj) aj) aj)))))))))))))),?_⟩
 match i,hi with
 | 0,_=>
  refine⟨_,rfl,rfl,_,rfl,m5 rfl ?_⟩
  refine⟨_,rfl,_,rfl,_,rfl,_,rfl,fun x dx nx ndx nex=>?_⟩
  have s0:aQ H (upd (upd H dx (.own x)) x (.ins t.Mr dx [])):=fun b o e=>by rw [aG (aC e nx),aG (aC e ndx)];exact e
  exact⟨0,x,dx,a1,a2,a3,nm,ns,is,os,rfl,aq,s0.seqA h1,s0.seqA h2,s0.seqA h3,fun H' b P=>⟨rfl,k H' x (fun c o e=>b c o (aC e nx) (s0 c o e)) nx P⟩⟩
 | 1,_=>
  refine⟨_,rfl,rfl,_,rfl,bZ (by decide +kernel) ?_⟩
  refine⟨_,rfl,rfl,_,rfl,m5 rfl ?_⟩
  refine⟨_,rfl,_,rfl,_,rfl,_,rfl,fun x dx nx ndx nex=>?_⟩
  have s0:aQ H (upd (upd H dx (.own x)) x (.ins t.LC dx [])):=fun b o e=>by rw [aG (aC e nx),aG (aC e ndx)];exact e
  exact⟨1,x,dx,a1,a2,a3,nm,ns,is,os,rfl,aq,s0.seqA h1,s0.seqA h2,s0.seqA h3,fun H' b P=>⟨rfl,k H' x (fun c o e=>b c o (aC e nx) (s0 c o e)) nx P⟩⟩
 | 2,_=>
  refine⟨_,rfl,rfl,_,rfl,bZ (by decide +kernel) ?_⟩
  refine⟨_,rfl,rfl,_,rfl,bZ (by decide +kernel) ?_⟩
  refine⟨_,rfl,rfl,_,rfl,m5 rfl ?_⟩
  refine⟨_,rfl,_,rfl,_,rfl,_,rfl,fun x dx nx ndx nex=>?_⟩
  have s0:aQ H (upd (upd H dx (.own x)) x (.ins t.Mj dx [])):=fun b o e=>by rw [aG (aC e nx),aG (aC e ndx)];exact e
  exact⟨2,x,dx,a1,a2,a3,nm,ns,is,os,rfl,aq,s0.seqA h1,s0.seqA h2,s0.seqA h3,fun H' b P=>⟨rfl,k H' x (fun c o e=>b c o (aC e nx) (s0 c o e)) nx P⟩⟩
 | 3,_=>
  refine⟨_,rfl,rfl,_,rfl,bZ (by decide +kernel) ?_⟩
  refine⟨_,rfl,rfl,_,rfl,bZ (by decide +kernel) ?_⟩
  refine⟨_,rfl,rfl,_,rfl,bZ (by decide +kernel) ?_⟩
  refine⟨_,rfl,rfl,_,rfl,m5 rfl ?_⟩
  refine⟨_,rfl,_,rfl,_,rfl,_,rfl,fun x dx nx ndx nex=>?_⟩
  have s0:aQ H (upd (upd H dx (.own x)) x (.ins t.Lj dx [])):=fun b o e=>by rw [aG (aC e nx),aG (aC e ndx)];exact e
  exact⟨3,x,dx,a1,a2,a3,nm,ns,is,os,rfl,aq,s0.seqA h1,s0.seqA h2,s0.seqA h3,fun H' b P=>⟨rfl,k H' x (fun c o e=>b c o (aC e nx) (s0 c o e)) nx P⟩⟩
 | 4,_=>
  refine⟨_,rfl,rfl,_,rfl,bZ (by decide +kernel) ?_⟩
  refine⟨_,rfl,rfl,_,rfl,bZ (by decide +kernel) ?_⟩
  refine⟨_,rfl,rfl,_,rfl,bZ (by decide +kernel) ?_⟩
  refine⟨_,rfl,rfl,_,rfl,bZ (by decide +kernel) ?_⟩
  refine⟨_,rfl,rfl,_,rfl,m5 rfl ?_⟩
  refine⟨_,rfl,_,rfl,_,rfl,_,rfl,fun x dx nx ndx nex=>?_⟩
  have s0:aQ H (upd (upd H dx (.own x)) x (.ins t.Mh dx [])):=fun b o e=>by rw [aG (aC e nx),aG (aC e ndx)];exact e
  exact⟨4,x,dx,a1,a2,a3,nm,ns,is,os,rfl,aq,s0.seqA h1,s0.seqA h2,s0.seqA h3,fun H' b P=>⟨rfl,k H' x (fun c o e=>b c o (aC e nx) (s0 c o e)) nx P⟩⟩
 | 5,_=>
  refine⟨_,rfl,rfl,_,rfl,bZ (by decide +kernel) ?_⟩
  refine⟨_,rfl,rfl,_,rfl,bZ (by decide +kernel) ?_⟩
  refine⟨_,rfl,rfl,_,rfl,bZ (by decide +kernel) ?_⟩
  refine⟨_,rfl,rfl,_,rfl,bZ (by decide +kernel) ?_⟩
  refine⟨_,rfl,rfl,_,rfl,bZ (by decide +kernel) ?_⟩
  refine⟨_,rfl,rfl,_,rfl,m5 rfl ?_⟩
  refine⟨_,rfl,_,rfl,_,rfl,_,rfl,fun x dx nx ndx nex=>?_⟩
  have s0:aQ H (upd (upd H dx (.own x)) x (.ins t.HS dx [])):=fun b o e=>by rw [aG (aC e nx),aG (aC e ndx)];exact e
  exact⟨5,x,dx,a1,a2,a3,nm,ns,is,os,rfl,aq,s0.seqA h1,s0.seqA h2,s0.seqA h3,fun H' b P=>⟨rfl,k H' x (fun c o e=>b c o (aC e nx) (s0 c o e)) nx P⟩⟩
 | 6,_=>
  refine⟨_,rfl,rfl,_,rfl,bZ (by decide +kernel) ?_⟩
  refine⟨_,rfl,rfl,_,rfl,bZ (by decide +kernel) ?_⟩
  refine⟨_,rfl,rfl,_,rfl,bZ (by decide +kernel) ?_⟩
  refine⟨_,rfl,rfl,_,rfl,bZ (by decide +kernel) ?_⟩
  refine⟨_,rfl,rfl,_,rfl,bZ (by decide +kernel) ?_⟩
  refine⟨_,rfl,rfl,_,rfl,bZ (by decide +kernel) ?_⟩
  refine⟨_,rfl,rfl,_,rfl,m5 rfl ?_⟩
  refine⟨_,rfl,_,rfl,_,rfl,_,rfl,fun x dx nx ndx nex=>?_⟩
  have s0:aQ H (upd (upd H dx (.own x)) x (.ins t.Qt dx [])):=fun b o e=>by rw [aG (aC e nx),aG (aC e ndx)];exact e
  exact⟨6,x,dx,a1,a2,a3,nm,ns,is,os,rfl,aq,s0.seqA h1,s0.seqA h2,s0.seqA h3,fun H' b P=>⟨rfl,k H' x (fun c o e=>b c o (aC e nx) (s0 c o e)) nx P⟩⟩
 | 7,_=>
  refine⟨_,rfl,rfl,_,rfl,bZ (by decide +kernel) ?_⟩
  refine⟨_,rfl,rfl,_,rfl,bZ (by decide +kernel) ?_⟩
  refine⟨_,rfl,rfl,_,rfl,bZ (by decide +kernel) ?_⟩
  refine⟨_,rfl,rfl,_,rfl,bZ (by decide +kernel) ?_⟩
  refine⟨_,rfl,rfl,_,rfl,bZ (by decide +kernel) ?_⟩
  refine⟨_,rfl,rfl,_,rfl,bZ (by decide +kernel) ?_⟩
  refine⟨_,rfl,rfl,_,rfl,bZ (by decide +kernel) ?_⟩
  refine⟨_,rfl,rfl,_,rfl,m5 rfl ?_⟩
  refine⟨_,rfl,_,rfl,_,rfl,_,rfl,fun x dx nx ndx nex=>?_⟩
  have s0:aQ H (upd (upd H dx (.own x)) x (.ins t.K3 dx [])):=fun b o e=>by rw [aG (aC e nx),aG (aC e ndx)];exact e
  exact⟨7,x,dx,a1,a2,a3,nm,ns,is,os,rfl,aq,s0.seqA h1,s0.seqA h2,s0.seqA h3,fun H' b P=>⟨rfl,k H' x (fun c o e=>b c o (aC e nx) (s0 c o e)) nx P⟩⟩
 | 8,_=>
  refine⟨_,rfl,rfl,_,rfl,bZ (by decide +kernel) ?_⟩
  refine⟨_,rfl,rfl,_,rfl,bZ (by decide +kernel) ?_⟩
  refine⟨_,rfl,rfl,_,rfl,bZ (by decide +kernel) ?_⟩
  refine⟨_,rfl,rfl,_,rfl,bZ (by decide +kernel) ?_⟩
  refine⟨_,rfl,rfl,_,rfl,bZ (by decide +kernel) ?_⟩
  refine⟨_,rfl,rfl,_,rfl,bZ (by decide +kernel) ?_⟩
  refine⟨_,rfl,rfl,_,rfl,bZ (by decide +kernel) ?_⟩
  refine⟨_,rfl,rfl,_,rfl,bZ (by decide +kernel) ?_⟩
  refine⟨_,rfl,rfl,_,rfl,m5 rfl ?_⟩
  refine⟨_,rfl,_,rfl,_,rfl,_,rfl,fun x dx nx ndx nex=>?_⟩
  have s0:aQ H (upd (upd H dx (.own x)) x (.ins t.Jj dx [])):=fun b o e=>by rw [aG (aC e nx),aG (aC e ndx)];exact e
  exact⟨8,x,dx,a1,a2,a3,nm,ns,is,os,rfl,aq,s0.seqA h1,s0.seqA h2,s0.seqA h3,fun H' b P=>⟨rfl,k H' x (fun c o e=>b c o (aC e nx) (s0 c o e)) nx P⟩⟩
 | 9,_=>
  refine⟨_,rfl,rfl,_,rfl,bZ (by decide +kernel) ?_⟩
  refine⟨_,rfl,rfl,_,rfl,bZ (by decide +kernel) ?_⟩
  refine⟨_,rfl,rfl,_,rfl,bZ (by decide +kernel) ?_⟩
  refine⟨_,rfl,rfl,_,rfl,bZ (by decide +kernel) ?_⟩
  refine⟨_,rfl,rfl,_,rfl,bZ (by decide +kernel) ?_⟩
  refine⟨_,rfl,rfl,_,rfl,bZ (by decide +kernel) ?_⟩
  refine⟨_,rfl,rfl,_,rfl,bZ (by decide +kernel) ?_⟩
  refine⟨_,rfl,rfl,_,rfl,bZ (by decide +kernel) ?_⟩
  refine⟨_,rfl,rfl,_,rfl,bZ (by decide +kernel) ?_⟩
  refine⟨_,rfl,rfl,_,rfl,m5 rfl ?_⟩
  refine⟨_,rfl,_,rfl,_,rfl,_,rfl,fun x dx nx ndx nex=>?_⟩
  have s0:aQ H (upd (upd H dx (.own x)) x (.ins t.Dr dx [])):=fun b o e=>by rw [aG (aC e nx),aG (aC e ndx)];exact e
  exact⟨9,x,dx,a1,a2,a3,nm,ns,is,os,rfl,aq,s0.seqA h1,s0.seqA h2,s0.seqA h3,fun H' b P=>⟨rfl,k H' x (fun c o e=>b c o (aC e nx) (s0 c o e)) nx P⟩⟩
 | 10,_=>
  refine⟨_,rfl,rfl,_,rfl,bZ (by decide +kernel) ?_⟩
  refine⟨_,rfl,rfl,_,rfl,bZ (by decide +kernel) ?_⟩
  refine⟨_,rfl,rfl,_,rfl,bZ (by decide +kernel) ?_⟩
  refine⟨_,rfl,rfl,_,rfl,bZ (by decide +kernel) ?_⟩
  refine⟨_,rfl,rfl,_,rfl,bZ (by decide +kernel) ?_⟩
  refine⟨_,rfl,rfl,_,rfl,bZ (by decide +kernel) ?_⟩
  refine⟨_,rfl,rfl,_,rfl,bZ (by decide +kernel) ?_⟩
  refine⟨_,rfl,rfl,_,rfl,bZ (by decide +kernel) ?_⟩
  refine⟨_,rfl,rfl,_,rfl,bZ (by decide +kernel) ?_⟩
  refine⟨_,rfl,rfl,_,rfl,bZ (by decide +kernel) ?_⟩
  refine⟨_,rfl,_,rfl,_,rfl,_,rfl,fun x dx nx ndx nex=>?_⟩
  have s0:aQ H (upd (upd H dx (.own x)) x (.ins t.Jp dx [])):=fun b o e=>by rw [aG (aC e nx),aG (aC e ndx)];exact e
  exact⟨10,x,dx,a1,a2,a3,nm,ns,is,os,rfl,aq,s0.seqA h1,s0.seqA h2,s0.seqA h3,fun H' b P=>⟨rfl,k H' x (fun c o e=>b c o (aC e nx) (s0 c o e)) nx P⟩⟩
 | (n+11),h=>exact absurd h (by omega)
inductive yP (K:PySem.W.Frag) (t:lA) (vs:List V) (H:Hp) (Q:VK) (E:XK):Prop where
 | mk:∀(i:Nat) (nm:V) (a1 a2 a3:Addr) (ns is os:List V),vs=[.str (cg i),nm,.ref a1,.ref a2,.ref a3]->i<=10->yc K H a1 ns->yc K H a2 is->yc K H a3 os->ns.length=cN i->is.length=cI i->os.length=cO i->((∀v∈ns,Val v))->(∀H' p,aQ H H'->H p=none->fJ K t H' p i nm ns is os->Q (.ref p) H')->yP K t vs H Q E
noncomputable abbrev vD:List Str:=["kind", "name", "numbers", "ins", "outs"]
theorem Ir (T:Txt w K mg t):FO P w K mg base 4 t.Ak vD (yP K t):=by
 have sc:gK vD vD (bx (top 43)):=MT
 refine T.Bq.F.ok sc ln (fun _ _ _ _ H vs Q E hr h=>?_)
 obtain⟨i,nm,a1,a2,a3,ns,is,os,rfl,hi,h1,h2,h3,l1,l2,l3,hv,k⟩:=h
 refine⟨_,(au (bO (eQ (Kl T) T.xR hr (aa (pv 0) (aa (pv 1) (aa (pv 2) (aa (pv 3) (aa (pv 4) ak aj) aj) aj) aj) aj)))
  (aA (aN (eQ (Eg T) T.zQ hr (aa (pv 0) (aa (pv 1) (aa (pv 2) (aa (pv 3) (aa (pv 4) ak aj) aj) aj) aj) aj))))),?_⟩
 refine⟨_,rfl,_,rfl,_,rfl,_,rfl,_,rfl,i,nm,a1,a2,a3,ns,is,os,rfl,h1,h2,h3,l1,l2,l3,hv,fun H1 s1=>?_⟩
 exact⟨_,rfl,_,rfl,_,rfl,_,rfl,_,rfl,i,nm,a1,a2,a3,ns,is,os,rfl,hi,s1.seqA h1,s1.seqA h2,s1.seqA h3,fun H2 p s2 np P=>k H2 p (s1.trans s2) (s1.free np) P⟩
inductive NZ (vs:List V) (H:Hp) (Q:VK) (E:XK):Prop where
 | mk:∀a:Int,vs=[.int a]->Q (.int (a % 1000000000)) H->NZ vs H Q E
theorem Jq (T:Txt w K mg t):FO P w K mg base 1 t.Sg ["number"] (NZ):=by
 have sc:=T.Fo.sc ["number"]
 refine T.Fo.F.ok sc ln (fun _ _ _ _ H vs Q E hr h=>?_)
 obtain⟨a,rfl,k⟩:=h
 refine⟨_,(aA (aN (bD cL (pv 0) (jD (by rfl) T.JK)))),?_⟩
 exact⟨_,rfl,_,_,rfl,rfl,by show(0:Int) <1000000000;decide,k⟩
inductive vy (K:PySem.W.Frag) (t:lA) (vs:List V) (H:Hp) (Q:VK) (E:XK):Prop where
 | mk:∀i,i≠9->oW K t i vs H Q E->vy K t vs H Q E
theorem dD (T:Txt w K mg t):FO P w K mg base 1 t.dg ["self", "heads"] (vy K t):=by
 have sc:=T.bK.sc ["self", "heads"]
 refine T.bK.F.ok sc ln (fun _ _ _ _ H vs Q E hr h=>?_)
 obtain⟨i,hi,p,a,nm,ns,is,os,hs,rfl,hP,hI,hS,hH,k⟩:=h
 refine⟨_,(aA (aN (cY (wG rfl) (by rfl) T.tE oR (aa (cY Ax (by rfl) T.qg Kf (aa (bJ cC (by rfl) T.gA d7 (aa (aZ (pv 0) rfl) ak aO)) ak aX)) ak aX)))),?_⟩
 obtain⟨dx,tn,ti,to,hp,h2,h3,h4⟩:=id hP.ex
 have h3':=yl i
 refine⟨_,rfl,p,cls t i,dx,_,.ref ti,rfl,hp,eE T i,sS T i,mH _ _ _ _,.ref ti,is.length,rfl,.inr ⟨is,h3,rfl⟩,_,rfl,fun r hr=>⟨r,is.length,rfl,aq,by omega,fun l hl=>?_⟩⟩
 have e:(places i hs).map nV=Sh is.length:=by
  unfold places Sh
  rw [if_neg hi,hH.1,hI]
  rfl
 refine k _ l ((aB hr).trans (aB hl)) ((aB hr).free hl) ?_
 rw [e]
 exact aq
theorem zU (T:Txt w K mg t):FO P w K mg base 1 t.nC ["self", "heads"] (oW K t 9):=by
 have sc:=T.jJ.sc ["self", "heads"]
 refine T.jJ.F.ok sc ln (fun _ _ _ _ H vs Q E hr h=>?_)
 obtain⟨p,a,nm,ns,is,os,hs,rfl,hP,hI,hS,hH,k⟩:=h
 refine⟨_,(au (bU (iH (xO (aU aM (pv 1) az (fun _ _=>rfl))))
   (aA (aN (bj (aa az ak ao))))
   bu)
  (aA (aN (bj (aa az (aa (bD eG az (bD cL (aU aM (pv 1) az (fun _ _=>rfl)) az)) ak bY) ao))))),?_⟩
 have hl:sizeLine=16777216:=sizeLine_eq
 have hlen:hs.length=3:=hH.1
 match hs,hlen,hH with
 | h0:: r,hlen,hH=>
  have ea:Fx (h0:: r) 0=some h0:=aK (xs:=h0:: r) (j:=0) rfl
  rcases hH.2 h0 List.mem_cons_self with e | ⟨n,e⟩
  ·subst e
   refine⟨_,rfl,a,_,0,_,rfl,rfl,hS,ea,_,rfl,m5 rfl ?_⟩
   exact⟨gw,fun L hL=>k _ L (aB hL) hL aq⟩
  ·subst e
   refine⟨_,rfl,a,_,0,_,rfl,rfl,hS,ea,_,rfl,bZ (by intro z;cases z) ?_⟩
   refine⟨_,rfl,a,_,0,_,rfl,rfl,hS,ea,_,_,rfl,rfl,by show(0:Int) <2;decide,_,_,rfl,rfl,gw,fun L hL=>k _ L (aB hL) hL ?_⟩
   have h0:=Int.emod_nonneg n (show(2:Int)≠0 by decide)
   have e1:(1:Int)+n % 2=((1+(n % 2).toNat:Nat):Int):=by omega
   rw [aq]
   show some (HO.lst [.int 0,.int (1+n % 2)])=some (HO.lst [.int ((0:Nat):Int),.int ((1+(n % 2).toNat:Nat):Int)])
   rw [e1]
   rfl
theorem GF (T:Txt w K mg t) (i:Nat):MethAt P w K mg base Bd 1 (cls t i) "taking" (oW K t i):=match i with
 | 0=>⟨_,_,_,T.ji.c,(T.bK.me T.ji.me.2.2.1),T.bK.b,(dD T).imp fun _ _ _ _ h=>⟨_,by omega,h⟩⟩
 | 1=>⟨_,_,_,T.jc.c,(T.bK.me T.jc.me.2.2.1),T.bK.b,(dD T).imp fun _ _ _ _ h=>⟨_,by omega,h⟩⟩
 | 2=>⟨_,_,_,T.ir.c,(T.bK.me T.ir.me.2.2.1),T.bK.b,(dD T).imp fun _ _ _ _ h=>⟨_,by omega,h⟩⟩
 | 3=>⟨_,_,_,T.iw.c,(T.bK.me T.iw.me.2.2.1),T.bK.b,(dD T).imp fun _ _ _ _ h=>⟨_,by omega,h⟩⟩
 | 4=>⟨_,_,_,T.iy.c,(T.bK.me T.iy.me.2.2.1),T.bK.b,(dD T).imp fun _ _ _ _ h=>⟨_,by omega,h⟩⟩
 | 5=>⟨_,_,_,T.gq.c,(T.bK.me T.gq.me.2.2.1),T.bK.b,(dD T).imp fun _ _ _ _ h=>⟨_,by omega,h⟩⟩
 | 6=>⟨_,_,_,T.jU.c,(T.bK.me T.jU.me.2.2.1),T.bK.b,(dD T).imp fun _ _ _ _ h=>⟨_,by omega,h⟩⟩
 | 7=>⟨_,_,_,T.il.c,(T.bK.me T.il.me.2.2.1),T.bK.b,(dD T).imp fun _ _ _ _ h=>⟨_,by omega,h⟩⟩
 | 8=>⟨_,_,_,T.fL.c,(T.bK.me T.fL.me.2.2.1),T.bK.b,(dD T).imp fun _ _ _ _ h=>⟨_,by omega,h⟩⟩
 | 9=>⟨_,_,_,T.dW.c,(T.jJ.me T.dW.me.2.2.1),T.jJ.b,zU T⟩
 | n+10=>⟨_,_,_,T.fK.c,(T.bK.me T.fK.me.2.2.1),T.bK.b,(dD T).imp fun _ _ _ _ h=>⟨_,by omega,h⟩⟩
inductive wZ (K:PySem.W.Frag) (t:lA) (vs:List V) (H:Hp) (Q:VK) (E:XK):Prop where
 | mk:∀i,yz K t i vs H Q E->wZ K t vs H Q E
theorem dG (T:Txt w K mg t):FO P w K mg base 2 t.du ["self", "heads"] (wZ K t):=by
 have sc:=T.bL.sc ["self", "heads", "place"]
 refine T.bL.F.ok sc ln (fun _ _ _ _ H vs Q E hr h=>?_)
 obtain⟨i,p,a,nm,ns,is,os,hs,rfl,hP,hI,hS,hH,k⟩:=h
 refine⟨_,(au (fB PassesOwn.never rfl (cz (vM (CX:=Bd) (k:=1) (E:=E0) (pv 0) (hr.mono (by decide)) fj (aa (pv 1) ak aj))) (gN sc 2)
   (aA (bU (iH (xO (aU aM (pv 1) (pv 2) (fun _ _=>rfl))))
    (aA (aN (pv 2)))
    bu)))
  (aA (aN pC))),?_⟩
 obtain⟨dx,tn,ti,to,hp,h2,h3,h4⟩:=id hP.ex
 refine⟨_,rfl,p,cls t i,dx,_,oW K t i,rfl,hp,mj _ _ _ _ (by decide +kernel) (by decide +kernel) (by decide +kernel) (by decide +kernel),GF T i,_,rfl,p,a,nm,ns,is,os,hs,rfl,hP,hI,hS,hH,fun H1 L s1 nL eL=>⟨L,rfl,⟨_,bR.of eL⟩,?_⟩⟩
 refine eZ (K:=K) (a:=L) (xs:=(places i hs).map nV) (fun j σ H2=>H2=H1/\∃v,σ=[some (.ref p),some (.ref a),v]/\∀q∈(places i hs).take j,uw hs q=false)
  ⟨rfl,none,rfl,by simp⟩ (fun j σ H2 _ ⟨e,_⟩=>by rw [e];exact bR.of eL) ?_ ?_
 ·rintro j x σ H2 hx ⟨rfl,v,rfl,hno⟩
  rw [List.getElem?_map] at hx
  obtain⟨q,hq,rfl⟩:=Option.map_eq_some_iff.mp hx
  have hlt:=gU hH q (List.mem_of_getElem? hq)
  obtain⟨hv,ev⟩:∃hv,hs[q]?=some hv:=⟨hs[q],List.getElem?_eq_getElem hlt⟩
  refine⟨_,rfl,_,rfl,a,hs,_,hv,rfl,rfl,s1.seq hS,aK ev,_,rfl,lz (fun hn=>?_) (fun hn=>?_)⟩
  ·have hn':hv=.non:=of_decide_eq_true hn
   refine⟨_,rfl,?_⟩
   have:=k H2 s1
   unfold Nv at this
   rw [Hu hq hno (by unfold uw;rw [ev,hn'];simp)] at this
   exact this
  ·have hn':¬hv=.non:=fun z=>hn (decide_eq_true z)
   refine⟨rfl,_,rfl,fun y hy=>?_⟩
   rw [List.take_add_one,hq] at hy
   rcases List.mem_append.mp hy with hy | hy
   ·exact hno y hy
   ·have e:y=q:=by simpa using hy
    subst e
    unfold uw
    rw [ev]
    simpa using hn'
 ·rintro σ H2 ⟨rfl,v,rfl,hno⟩
  have:=k H2 s1
  unfold Nv at this
  rw [lM,List.take_of_length_le (Nat.le_refl _)] at hno
  rw [MF hno] at this
  exact this
inductive wH (K:PySem.W.Frag) (t:lA) (vs:List V) (H:Hp) (Q:VK) (E:XK):Prop where
 | mk:∀i,i≠5->u0 K t i vs H Q E->wH K t vs H Q E
theorem dR (T:Txt w K mg t):FO P w K mg base 1 t.dI ["self"] (wH K t):=by
 have sc:=T.bQ.sc ["self"]
 refine T.bQ.F.ok sc ln (fun _ _ _ _ H vs Q E hr h=>?_)
 obtain⟨i,hi,p,nm,ns,is,os,rfl,hP,hn,k⟩:=h
 refine⟨_,(aA (aN az)),?_⟩
 unfold Jk at k
 rw [if_neg hi] at k
 exact k
theorem Fz (T:Txt w K mg t):FO P w K mg base 1 t.sI ["self"] (u0 K t 5):=by
 have sc:=T.oA.sc ["self"]
 refine T.oA.F.ok sc ln (fun _ _ _ _ H vs Q E hr h=>?_)
 obtain⟨p,nm,ns,is,os,rfl,hP,hn,k⟩:=h
 refine⟨_,(aA (aN (aU Lx (aZ (pv 0) rfl) az (fun _ _=>rfl)))),?_⟩
 obtain⟨dx,tn,ti,to,hp,h2,h3,h4⟩:=id hP.ex
 match ns,hn with
 | v:: r,hn=>
  exact⟨_,rfl,p,cls t 5,dx,_,.ref tn,rfl,hp,eE T 5,lH T 5,j4 _ _ _ _,.inr (.inl ⟨tn,_,0,v,rfl,rfl,h2,aK (xs:=v:: r) (j:=0) rfl,k⟩)⟩
theorem Cj (T:Txt w K mg t) (i:Nat):MethAt P w K mg base Bd 1 (cls t i) "kind" (gM i):=match i with
 | 0=>⟨_,_,_,T.ji.c,(T.qz.me T.ji.me.2.1),T.qz.b,Ig T⟩
 | 1=>⟨_,_,_,T.jc.c,(T.qK.me T.jc.me.2.1),T.qK.b,Jv T⟩
 | 2=>⟨_,_,_,T.ir.c,(T.qC.me T.ir.me.2.1),T.qC.b,Il T⟩
 | 3=>⟨_,_,_,T.iw.c,(T.qy.me T.iw.me.2.1),T.qy.b,Jh T⟩
 | 4=>⟨_,_,_,T.iy.c,(T.qd.me T.iy.me.2.1),T.qd.b,IW T⟩
 | 5=>⟨_,_,_,T.gq.c,(T.qD.me T.gq.me.2.1),T.qD.b,Ht T⟩
 | 6=>⟨_,_,_,T.jU.c,(T.tO.me T.jU.me.2.1),T.tO.b,Ky T⟩
 | 7=>⟨_,_,_,T.il.c,(T.qt.me T.il.me.2.1),T.qt.b,Io T⟩
 | 8=>⟨_,_,_,T.fL.c,(T.oG.me T.fL.me.2.1),T.oG.b,Gb T⟩
 | 9=>⟨_,_,_,T.dW.c,(T.mD.me T.dW.me.2.1),T.mD.b,Ff T⟩
 | n+10=>⟨_,_,_,T.fK.c,(T.oO.me T.fK.me.2.1),T.oO.b,FP T⟩
inductive nW (K:PySem.W.Frag) (t:lA) (vs:List V) (H:Hp) (Q:VK) (E:XK):Prop where
 | mk:∀i,i≠5->jj K t i vs H Q E->nW K t vs H Q E
theorem b8 (T:Txt w K mg t):FO P w K mg base 4 t.bW ["self", "kept"] (nW K t):=by
 have sc:=T.aV.sc ["self", "kept"]
 refine T.aV.F.ok sc ln (fun _ _ _ _ H vs Q E hr h=>?_)
 obtain⟨i,hi,p,kv,nm,ns,is,os,rfl,hi10,hP,k⟩:=h
 refine⟨_,(aA (aN (eQ (Eg T) T.zQ hr (aa (rG (CX:=Bd) (k:=1) (E:=E0) (pv 0) (hr.mono (by decide)) fj) (aa (aZ (pv 0) rfl) (aa (aZ (pv 0) rfl) (aa (aZ (pv 0) rfl) (aa (aZ (pv 0) rfl) ak aO) aO) aO) aO) aX)))),?_⟩
 obtain⟨dx,tn,ti,to,hp,h2,h3,h4⟩:=id hP.ex
 unfold Jt at k
 rw [if_neg hi] at k
 refine⟨_,rfl,p,cls t i,dx,_,gM i,rfl,hp,(mj _ _ _ _ (by decide +kernel) (by decide +kernel) (by decide +kernel) (by decide +kernel)),Cj T i,_,rfl,?_⟩
 refine⟨_,rfl,p,cls t i,dx,_,nm,rfl,hp,eE T i,sY T i,oX _ _ _ _,?_⟩
 refine⟨_,rfl,p,cls t i,dx,_,.ref tn,rfl,hp,eE T i,lH T i,j4 _ _ _ _,?_⟩
 refine⟨_,rfl,p,cls t i,dx,_,.ref ti,rfl,hp,eE T i,sS T i,mH _ _ _ _,?_⟩
 refine⟨_,rfl,p,cls t i,dx,_,.ref to,rfl,hp,eE T i,vY T i,rC _ _ _ _,?_⟩
 exact⟨i,nm,tn,ti,to,ns,is,os,rfl,hi10,.inr h2,.inr h3,.inr h4,fun H' q s n P=>k H' q s n P⟩
theorem wy (T:Txt w K mg t):FO P w K mg base 3 t.jM ["self", "kept"] (jj K t 5):=by
 have sc:=T.iB.sc ["self", "kept"]
 refine T.iB.F.ok sc ln (fun _ _ _ _ H vs Q E hr h=>?_)
 obtain⟨p,kv,nm,ns,is,os,rfl,hi10,hP,k⟩:=h
 refine⟨_,(aA (aN (gJ (T.gq.M T.bf) (cu T) (hr.mono (by decide)) (by rfl) T.gq.m T.bf.b .nil fj (aa (aZ (pv 0) rfl) (aa (bV (aa (pv 1) ak aj)) (aa (aZ (pv 0) rfl) (aa (aZ (pv 0) rfl) ak aO) aO) bN) aO)))),?_⟩
 have hl:sizeLine=16777216:=sizeLine_eq
 obtain⟨dx,tn,ti,to,hp,h2,h3,h4⟩:=id hP.ex
 refine⟨_,rfl,p,cls t 5,dx,_,nm,rfl,hp,eE T 5,sY T 5,oX _ _ _ _,?_⟩
 refine⟨_,rfl,gw,fun u nu=>?_⟩
 have s1:=aB (o:=.tup [kv]) nu
 have e1:(upd H u (.tup [kv])) u=some (.tup [kv]):=aq
 generalize upd H u (.tup [kv])=H1 at s1 e1 ⊢
 have hp1:=s1 _ _ hp
 refine⟨_,rfl,p,cls t 5,dx,_,.ref ti,rfl,hp1,eE T 5,sS T 5,mH _ _ _ _,?_⟩
 refine⟨_,rfl,p,cls t 5,dx,_,.ref to,rfl,hp1,eE T 5,vY T 5,rC _ _ _ _,fun x dy nx ndx nex=>?_⟩
 have s0:aQ H1 (upd (upd H1 dy (.own x)) x (.ins t.HS dy [])):=fun b o e=>by rw [aG (aC e nx),aG (aC e ndx)];exact e
 exact⟨5,x,dy,u,ti,to,nm,[kv],is,os,rfl,aq,s0.seqA (.inr (fG.of e1)),s0.seqA (.inr (s1.seqT h3)),s0.seqA (.inr (s1.seqT h4)),fun H' b P=>⟨rfl,k H' x (s1.trans fun c o e=>b c o (aC e nx) (s0 c o e)) (s1.free nx) P⟩⟩
theorem En (T:Txt w K mg t):FO P w K mg base 1 t.qX ["self", "values", "kept"] (fZ K t 2):=by
 have sc:=T.lZ.sc ["self", "values", "kept"]
 refine T.lZ.F.ok sc ln (fun _ _ _ _ H vs Q E hr h=>?_)
 obtain⟨p,a,nm,ns,is,os,ws,kp,rfl,hP,ln,hS,lw,hB,k⟩:=h
 refine⟨_,(aA (aN (bV (aa (bj (aa (bV (aa az (aa (aU aM (pv 1) az (fun _ _=>rfl)) ak aD) ao)) ak bN)) (aa (pv 2) ak aj) bw)))),?_⟩
 obtain⟨dx,tn,ti,to,hp,h2,h3,h4⟩:=id hP.ex
 match ws,lw with
 | [v],_=>
  have fin:∀H' L rs,aQ H H'->H L=none->H' L=some (.lst (rs.map V.ref))->jz H' rs (Fw (dj 2 ns [v] kp))->∀U,H' U=none->Q (.ref U) (upd H' U (.tup [.ref L,.int (iR 2 [v] kp)])):=IV k
  exact⟨_,rfl,a,_,0,_,rfl,rfl,hS,rfl,cT,fun t0 n0=>⟨one_le,fun L nL=>⟨_,rfl,cT,fun U nU=>pI (Q:=fun x H'=>∀U,H' U=none->Q (.ref U) (upd H' U (.tup [x,.int (iR 2 [v] kp)]))) rfl rfl fin n0 nL U nU⟩⟩⟩
theorem Ea (T:Txt w K mg t):FO P w K mg base 1 t.qZ ["self", "values", "kept"] (fZ K t 3):=by
 have sc:=T.lQ.sc ["self", "values", "kept"]
 refine T.lQ.F.ok sc ln (fun _ _ _ _ H vs Q E hr h=>?_)
 obtain⟨p,a,nm,ns,is,os,ws,kp,rfl,hP,ln,hS,lw,hB,k⟩:=h
 refine⟨_,(aA (aN (bV (aa (bj (aa (bV (aa az (aa (aU aM (pv 1) az (fun _ _=>rfl)) ak aD) ao)) (aa (bV (aa az (aa (aU aM (pv 1) az (fun _ _=>rfl)) ak aD) ao)) ak bN) bN)) (aa (pv 2) ak aj) bw)))),?_⟩
 obtain⟨dx,tn,ti,to,hp,h2,h3,h4⟩:=id hP.ex
 match ws,lw with
 | [v],_=>
  have fin:∀H' L rs,aQ H H'->H L=none->H' L=some (.lst (rs.map V.ref))->jz H' rs (Fw (dj 3 ns [v] kp))->∀U,H' U=none->Q (.ref U) (upd H' U (.tup [.ref L,.int (iR 3 [v] kp)])):=IV k
  exact⟨_,rfl,a,_,0,_,rfl,rfl,hS,rfl,cT,fun t0 n0=>⟨_,rfl,a,_,0,_,rfl,rfl,((aB n0).seq hS),rfl,cT,fun t1 n1=>⟨cT,fun L nL=>⟨_,rfl,cT,fun U nU=>NP (Q:=fun x H'=>∀U,H' U=none->Q (.ref U) (upd H' U (.tup [x,.int (iR 3 [v] kp)]))) rfl rfl rfl rfl fin n0 n1 nL U nU⟩⟩⟩⟩
theorem Ej (T:Txt w K mg t):FO P w K mg base 2 t.qW ["self", "values", "kept"] (fZ K t 4):=by
 have sc:=T.lR.sc ["self", "values", "kept"]
 refine T.lR.F.ok sc ln (fun _ _ _ _ H vs Q E hr h=>?_)
 obtain⟨p,a,nm,ns,is,os,ws,kp,rfl,hP,ln,hS,lw,hB,k⟩:=h
 refine⟨_,(aA (aN (bV (aa (bj (aa (bV (aa az (aa (eQ (Jq T) T.Fo hr (aa (bD eG (bD oH (aU Lx (aZ (pv 0) rfl) az (fun _ _=>rfl)) (aU aM (pv 1) az (fun _ _=>rfl))) (aU Lx (aZ (pv 0) rfl) az (fun _ _=>rfl))) ak bY)) ak aX) ao)) ak bN)) (aa (pv 2) ak aj) bw)))),?_⟩
 obtain⟨dx,tn,ti,to,hp,h2,h3,h4⟩:=id hP.ex
 match ws,lw,ns,ln with
 | [v],_,[m,m1],_=>
  have fin:∀H' L rs,aQ H H'->H L=none->H' L=some (.lst (rs.map V.ref))->jz H' rs (Fw (dj 4 [m,m1] [v] kp))->∀U,H' U=none->Q (.ref U) (upd H' U (.tup [.ref L,.int (iR 4 [v] kp)])):=IV k
  exact⟨_,rfl,p,cls t 4,dx,_,.ref tn,rfl,hp,eE T 4,lH T 4,j4 _ _ _ _,.inr (.inl ⟨tn,_,0,_,rfl,rfl,h2,rfl,_,rfl,a,_,0,_,rfl,rfl,hS,rfl,_,_,rfl,rfl,Ym hB (by simp),_,rfl,p,cls t 4,dx,_,.ref tn,rfl,hp,eE T 4,lH T 4,j4 _ _ _ _,.inr (.inl ⟨tn,_,1,_,rfl,rfl,h2,rfl,_,_,rfl,rfl,_,rfl,cT,fun t0 n0=>⟨one_le,fun L nL=>⟨_,rfl,cT,fun U nU=>pI (Q:=fun x H'=>∀U,H' U=none->Q (.ref U) (upd H' U (.tup [x,.int (iR 4 [v] kp)]))) rfl rfl fin n0 nL U nU⟩⟩⟩)⟩)⟩
theorem Dz (T:Txt w K mg t):FO P w K mg base 2 t.qR ["self", "values", "kept"] (fZ K t 5):=by
 have sc:=T.mz.sc ["self", "values", "kept", "together"]
 refine T.mz.F.ok sc ln (fun _ _ _ _ H vs Q E hr h=>?_)
 obtain⟨p,a,nm,ns,is,os,ws,kp,rfl,hP,ln,hS,lw,hB,k⟩:=h
 refine⟨_,(au (sN sc 3 (eQ (Jq T) T.Fo hr (aa (bD eG (pv 2) (aU aM (pv 1) az (fun _ _=>rfl))) ak bY)))
  (aA (aN (bV (aa (bj (aa (bV (aa az (aa (pv 3) ak aj) ao)) ak bN)) (aa (pv 3) ak aj) bw))))),?_⟩
 obtain⟨dx,tn,ti,to,hp,h2,h3,h4⟩:=id hP.ex
 match ws,lw with
 | [v],_=>
  have fin:∀H' L rs,aQ H H'->H L=none->H' L=some (.lst (rs.map V.ref))->jz H' rs (Fw (dj 5 ns [v] kp))->∀U,H' U=none->Q (.ref U) (upd H' U (.tup [.ref L,.int (iR 5 [v] kp)])):=IV k
  exact⟨_,rfl,_,rfl,a,_,0,_,rfl,rfl,hS,rfl,_,_,rfl,rfl,_,rfl,_,rfl,cT,fun t0 n0=>⟨one_le,fun L nL=>⟨_,rfl,cT,fun U nU=>pI (Q:=fun x H'=>∀U,H' U=none->Q (.ref U) (upd H' U (.tup [x,.int (iR 5 [v] kp)]))) rfl rfl fin n0 nL U nU⟩⟩⟩
theorem FJ (T:Txt w K mg t):FO P w K mg base 2 t.tY ["self", "values", "kept"] (fZ K t 6):=by
 have sc:=T.n6.sc ["self", "values", "kept"]
 refine T.n6.F.ok sc ln (fun _ _ _ _ H vs Q E hr h=>?_)
 obtain⟨p,a,nm,ns,is,os,ws,kp,rfl,hP,ln,hS,lw,hB,k⟩:=h
 refine⟨_,(aA (aN (bV (aa (bj (aa (bV (aa az (aa (eQ (Jq T) T.Fo hr (aa (bD eG (aU aM (pv 1) az (fun _ _=>rfl)) (aU aM (pv 1) az (fun _ _=>rfl))) ak bY)) ak aX) ao)) ak bN)) (aa (pv 2) ak aj) bw)))),?_⟩
 obtain⟨dx,tn,ti,to,hp,h2,h3,h4⟩:=id hP.ex
 match ws,lw with
 | [v,v1],_=>
  have fin:∀H' L rs,aQ H H'->H L=none->H' L=some (.lst (rs.map V.ref))->jz H' rs (Fw (dj 6 ns [v,v1] kp))->∀U,H' U=none->Q (.ref U) (upd H' U (.tup [.ref L,.int (iR 6 [v,v1] kp)])):=IV k
  exact⟨_,rfl,a,_,0,_,rfl,rfl,hS,rfl,_,rfl,a,_,1,_,rfl,rfl,hS,rfl,_,_,rfl,rfl,_,rfl,cT,fun t0 n0=>⟨one_le,fun L nL=>⟨_,rfl,cT,fun U nU=>pI (Q:=fun x H'=>∀U,H' U=none->Q (.ref U) (upd H' U (.tup [x,.int (iR 6 [v,v1] kp)]))) rfl rfl fin n0 nL U nU⟩⟩⟩
theorem Df (T:Txt w K mg t):FO P w K mg base 1 t.qQ ["self", "values", "kept"] (fZ K t 7):=by
 have sc:=T.mq.sc ["self", "values", "kept"]
 refine T.mq.F.ok sc ln (fun _ _ _ _ H vs Q E hr h=>?_)
 obtain⟨p,a,nm,ns,is,os,ws,kp,rfl,hP,ln,hS,lw,hB,k⟩:=h
 refine⟨_,(aA (aN (bV (aa (bj (aa (bV (aa az (aa (yN (bz xq (aU aM (pv 1) az (fun _ _=>rfl)) (aU aM (pv 1) az (fun _ _=>rfl)) (bT _)) az az) ak Mf) ao)) ak bN)) (aa (pv 2) ak aj) bw)))),?_⟩
 obtain⟨dx,tn,ti,to,hp,h2,h3,h4⟩:=id hP.ex
 match ws,lw with
 | [v,v1],_=>
  have fin:∀H' L rs,aQ H H'->H L=none->H' L=some (.lst (rs.map V.ref))->jz H' rs (Fw (dj 7 ns [v,v1] kp))->∀U,H' U=none->Q (.ref U) (upd H' U (.tup [.ref L,.int (iR 7 [v,v1] kp)])):=IV k
  refine⟨_,rfl,a,_,0,_,rfl,rfl,hS,rfl,_,rfl,a,_,1,_,rfl,rfl,hS,rfl,_,_,rfl,rfl,_,rfl,lz (fun h=>?_) (fun h=>?_)⟩
  ·have h':v <v1:=of_decide_eq_true h
   exact⟨cT,fun t0 n0=>⟨one_le,fun L nL=>⟨_,rfl,cT,fun U nU=>pI (Q:=fun x H'=>∀U,H' U=none->Q (.ref U) (upd H' U (.tup [x,.int (iR 7 [v,v1] kp)]))) rfl (by show(1:Int)=if v <v1 then 1 else 0;rw [if_pos h']) fin n0 nL U nU⟩⟩⟩
  ·have h':¬v <v1:=fun z=>h (decide_eq_true z)
   exact⟨cT,fun t0 n0=>⟨one_le,fun L nL=>⟨_,rfl,cT,fun U nU=>pI (Q:=fun x H'=>∀U,H' U=none->Q (.ref U) (upd H' U (.tup [x,.int (iR 7 [v,v1] kp)]))) rfl (by show(0:Int)=if v <v1 then 1 else 0;rw [if_neg h']) fin n0 nL U nU⟩⟩⟩
theorem BL (T:Txt w K mg t):FO P w K mg base 1 t.pO ["self", "values", "kept"] (fZ K t 8):=by
 have sc:=T.kj.sc ["self", "values", "kept"]
 refine T.kj.F.ok sc ln (fun _ _ _ _ H vs Q E hr h=>?_)
 obtain⟨p,a,nm,ns,is,os,ws,kp,rfl,hP,ln,hS,lw,hB,k⟩:=h
 refine⟨_,(aA (aN (bV (aa (bj (aa (bV (aa az (aa (bJ (Hn rfl) (by rfl) T.Vv RJ (aa (pv 1) ak aj)) ak aX) ao)) (aa (bV (aa az (aa (bJ (Gw rfl) (by rfl) T.M7 Ja (aa (pv 1) ak aj)) ak aX) ao)) ak bN) bN)) (aa (pv 2) ak aj) bw)))),?_⟩
 obtain⟨dx,tn,ti,to,hp,h2,h3,h4⟩:=id hP.ex
 match ws,lw with
 | [v,v1],_=>
  have fin:∀H' L rs,aQ H H'->H L=none->H' L=some (.lst (rs.map V.ref))->jz H' rs (Fw (dj 8 ns [v,v1] kp))->∀U,H' U=none->Q (.ref U) (upd H' U (.tup [.ref L,.int (iR 8 [v,v1] kp)])):=IV k
  exact⟨_,rfl,a,v,v1,rfl,hS,cT,fun t0 n0=>⟨_,rfl,a,v,v1,rfl,(aB n0).seq hS,cT,fun t1 n1=>⟨cT,fun L nL=>⟨_,rfl,cT,fun U nU=>NP (Q:=fun x H'=>∀U,H' U=none->Q (.ref U) (upd H' U (.tup [x,.int (iR 8 [v,v1] kp)]))) rfl rfl rfl rfl fin n0 n1 nL U nU⟩⟩⟩⟩
theorem zK (T:Txt w K mg t):FO P w K mg base 1 t.mW ["self", "values", "kept"] (fZ K t 9):=by
 have sc:=T.jH.sc ["self", "values", "kept"]
 refine T.jH.F.ok sc ln (fun _ _ _ _ H vs Q E hr h=>?_)
 obtain⟨p,a,nm,ns,is,os,ws,kp,rfl,hP,ln,hS,lw,hB,k⟩:=h
 refine⟨_,(aA (aN (bV (aa (bj (aa (bV (aa az (aa (aU aM (pv 1) az (fun _ _=>rfl)) ak aD) ao)) ak bN)) (aa (pv 2) ak aj) bw)))),?_⟩
 obtain⟨dx,tn,ti,to,hp,h2,h3,h4⟩:=id hP.ex
 match ws,lw with
 | [v,v1],_=>
  have fin:∀H' L rs,aQ H H'->H L=none->H' L=some (.lst (rs.map V.ref))->jz H' rs (Fw (dj 9 ns [v,v1] kp))->∀U,H' U=none->Q (.ref U) (upd H' U (.tup [.ref L,.int (iR 9 [v,v1] kp)])):=IV k
  exact⟨_,rfl,a,_,1,_,rfl,rfl,hS,rfl,cT,fun t0 n0=>⟨one_le,fun L nL=>⟨_,rfl,cT,fun U nU=>pI (Q:=fun x H'=>∀U,H' U=none->Q (.ref U) (upd H' U (.tup [x,.int (iR 9 [v,v1] kp)]))) rfl rfl fin n0 nL U nU⟩⟩⟩
theorem BK (T:Txt w K mg t):FO P w K mg base 1 t.pP ["self", "values", "kept"] (fZ K t 10):=by
 have sc:=T.j6.sc ["self", "values", "kept"]
 refine T.j6.F.ok sc ln (fun _ _ _ _ H vs Q E hr h=>?_)
 obtain⟨p,a,nm,ns,is,os,ws,kp,rfl,hP,ln,hS,lw,hB,k⟩:=h
 refine⟨_,(aA (aN (bV (aa (bj (aa (bV (aa (bD cL (aU aM (pv 1) az (fun _ _=>rfl)) az) (aa (aU aM (pv 1) az (fun _ _=>rfl)) ak aD) bY)) ak bN)) (aa (pv 2) ak aj) bw)))),?_⟩
 obtain⟨dx,tn,ti,to,hp,h2,h3,h4⟩:=id hP.ex
 match ws,lw with
 | [v,v1],_=>
  have fin:∀H' L rs,aQ H H'->H L=none->H' L=some (.lst (rs.map V.ref))->jz H' rs (Fw (dj 10 ns [v,v1] kp))->∀U,H' U=none->Q (.ref U) (upd H' U (.tup [.ref L,.int (iR 10 [v,v1] kp)])):=IV k
  exact⟨_,rfl,a,_,0,_,rfl,rfl,hS,rfl,_,_,rfl,rfl,by show(0:Int) <2;decide,_,rfl,a,_,1,_,rfl,rfl,hS,rfl,cT,fun t0 n0=>⟨one_le,fun L nL=>⟨_,rfl,cT,fun U nU=>pI (Q:=fun x H'=>∀U,H' U=none->Q (.ref U) (upd H' U (.tup [x,.int (iR 10 [v,v1] kp)]))) rfl rfl fin n0 nL U nU⟩⟩⟩
inductive Bf (vs:List V) (H:Hp) (Q:VK) (E:XK):Prop where
 | mk:∀a b:Int,vs=[.int a,.int b]->Q (.int (cP a b)) H->Bf vs H Q E
theorem bG (T:Txt w K mg t):FO P w K mg base 1 t.DR ["_law_cell_here", "_law_k"] (Bf):=by
 have sc:=T.bI.sc ["_law_cell_here", "_law_k", "_law_number"]
 refine T.bI.F.ok sc ln (fun _ _ _ _ H vs Q E hr h=>?_)
 obtain⟨a,b,rfl,k⟩:=h
 refine⟨_,(au (sN sc 2 (bD cL (bD eG (bD eG (bD oH (bD cL (pv 0) az) az) (bD oH az (pv 1))) az) az))
  (au (sN sc 2 (bD cL (bD oH (pv 2) (pv 2)) az))
  (aA (aN (bD cL (bD oH (bD eG (pv 2) (bD oH az (pv 1))) (pv 2)) az))))),?_⟩
 refine⟨_,rfl,_,_,rfl,rfl,by show(0:Int) <2147483647;decide,_,_,rfl,rfl,Jd,_,rfl,_,_,rfl,rfl,qL,_,_,rfl,rfl,_,_,rfl,rfl,_,_,rfl,rfl,by show(0:Int) <2147483647;decide,?_⟩
 unfold cP at k
 have y0:0<=(a % 2147483647 * 48271+7919 * b+11) % 2147483647:=Int.emod_nonneg _ (by decide)
 have y1:(a % 2147483647 * 48271+7919 * b+11) % 2147483647 <2147483647:=Int.emod_lt_of_pos _ (by decide)
 refine⟨_,rfl,_,rfl,_,_,rfl,rfl,.of_right (intBits_le_64 (Int.lt_of_lt_of_le (show -(2 ^ 64) <(0:Int) by decide) y0) (Int.lt_trans y1 (by decide))),_,_,rfl,rfl,by show(0:Int) <2147483629;decide,?_⟩
 have z0:0<=((a % 2147483647 * 48271+7919 * b+11) % 2147483647) * ((a % 2147483647 * 48271+7919 * b+11) % 2147483647) % 2147483629:=Int.emod_nonneg _ (by decide)
 have z1:((a % 2147483647 * 48271+7919 * b+11) % 2147483647) * ((a % 2147483647 * 48271+7919 * b+11) % 2147483647) % 2147483629 <2147483629:=Int.emod_lt_of_pos _ (by decide)
 exact⟨_,rfl,_,rfl,_,_,rfl,rfl,qL,_,_,rfl,rfl,_,rfl,_,_,rfl,rfl,.of_right (intBits_le_64 (Int.lt_of_lt_of_le (show -(2 ^ 64) <(0:Int) by decide) z0) (Int.lt_trans z1 (by decide))),_,_,rfl,rfl,by show(0:Int) <2147483587;decide,k⟩
inductive yF (K:PySem.W.Frag) (vs:List V) (H:Hp) (Q:VK) (E:XK):Prop where
 | mk:∀(a:Addr) (ns:List Int) (j:Nat),vs=[.ref a,.int (j:Nat)]->bR K H a (ns.map V.int)->Q (.int (jQ ns j)) H->yF K vs H Q E
theorem nZ (T:Txt w K mg t):FO P w K mg base 1 t.Av ["_law_script", "_law_k"] (yF K):=by
 have sc:=T.jN.sc ["_law_script", "_law_k"]
 refine T.jN.F.ok sc ln (fun _ _ _ _ H vs Q E hr h=>?_)
 obtain⟨a,ns,j,rfl,hS,k⟩:=h
 refine⟨_,(au (bU (bz xq (pv 1) (bJ cC (by rfl) T.gA d7 (aa (pv 0) ak aj)) (bT _))
   (aA (aN (aU aM (pv 0) (pv 1) (fun _ _=>rfl))))
   bu)
  (aA (aN (bD eG (bD oH az (pv 1)) az)))),?_⟩
 unfold jQ at k
 refine⟨_,rfl,_,rfl,.ref a,ns.length,rfl,.inl ⟨_,hS,by simp⟩,_,_,rfl,rfl,_,rfl,lz (fun h=>?_) (fun h=>?_)⟩
 ·have h':j <ns.length:=by have:=of_decide_eq_true h;omega
  rw [List.getElem?_eq_getElem h'] at k
  exact⟨_,rfl,_,rfl,a,_,j,_,rfl,rfl,hS,aK (by rw [List.getElem?_map,List.getElem?_eq_getElem h'];rfl),k⟩
 ·have h':¬j <ns.length:=fun z=>h (decide_eq_true (by omega))
  rw [List.getElem?_eq_none (by omega)] at k
  exact⟨_,rfl,_,_,rfl,rfl,qL,_,_,rfl,rfl,k⟩
inductive wL (vs:List V) (H:Hp) (Q:VK) (E:XK):Prop where
 | mk:∀a b:Int,vs=[.int a,.int b]->Q (.int (uc a b)) H->wL vs H Q E
theorem lX (T:Txt w K mg t):FO P w K mg base 2 t.yf ["_law_cell_here", "_law_k"] (wL):=by
 have sc:=T.jq.sc ["_law_cell_here", "_law_k", "_law_number", "_law_way"]
 refine T.jq.F.ok sc ln (fun _ _ _ _ H vs Q E hr h=>?_)
 obtain⟨a,b,rfl,k⟩:=h
 refine⟨_,(au (sN sc 2 (eQ (bG T) T.bI hr (aa (pv 0) (aa (pv 1) ak aj) aj)))
  (au (sN sc 3 (bD cL (bD S7 (pv 2) az) az))
  (au (bU (bz fQ (pv 3) az (bT _))
   (aA (aN (bD cL (pv 2) az)))
   bu)
  (au (bU (bz fQ (pv 3) az (bT _))
   (aA (aN (bD cL (pv 2) (bD CK az az))))
   bu)
  (aA (aN (bD Ld (bD Ld (bD CK az az) az) (bD cL (pv 2) az)))))))),?_⟩
 refine⟨_,rfl,_,rfl,a,b,rfl,?_⟩
 unfold uc at k
 have n0:=By a b
 generalize cP a b=n at n0 k ⊢
 refine⟨_,rfl,_,_,rfl,rfl,XN (by decide) (by decide),_,_,rfl,rfl,by show(0:Int) <3;decide,?_⟩
 refine⟨_,rfl,rfl,_,rfl,lz (fun h=>?_) (fun h=>?_)⟩
 ·have h':n / 7 % 3=0:=by simpa using of_decide_eq_true h
  rw [if_pos h'] at k
  exact⟨_,rfl,_,_,rfl,rfl,by show(0:Int) <5;decide,k⟩
 have h':¬n / 7 % 3=0:=fun z=>h (decide_eq_true (by show V.int (n / 7 % 3)=V.int 0;rw [z]))
 rw [if_neg h'] at k
 refine⟨_,rfl,rfl,_,rfl,lz (fun h2=>?_) (fun h2=>?_)⟩
 ·have h2':n / 7 % 3=1:=by simpa using of_decide_eq_true h2
  rw [if_pos h2'] at k
  exact⟨_,rfl,_,_,rfl,rfl,⟨by decide,by decide,by decide⟩,_,_,rfl,rfl,by show(0:Int) <10 ^ 9;decide,k⟩
 have h2':¬n / 7 % 3=1:=fun z=>h2 (decide_eq_true (by show V.int (n / 7 % 3)=V.int 1;rw [z]))
 rw [if_neg h2'] at k
 exact⟨_,_,rfl,rfl,⟨by decide,by decide,by decide⟩,_,_,rfl,rfl,_,rfl,_,_,rfl,rfl,by show(0:Int) <3;decide,_,_,rfl,rfl,k⟩
theorem MN {x y:Str} (h:x.cps.toList=y.cps.toList):x=y:=PyProof.Rows.ext_toList h
theorem Oi {n:Int} (h0:0<=n) (h1:n <2500):n.natAbs.log2 <1920:=by
 by_cases z:n.natAbs=0
 ·rw [z]
  decide
 ·have:n.natAbs.log2 <12:=(Nat.log2_lt z).mpr (by omega)
  omega
theorem join_ones (cs:List Nat):(Txt.join Str.empty (cs.map fun c=>(⟨#[c]⟩:Str))).cps.toList=cs:=by
 unfold Txt.join
 rw [StrLaws.glued_eq_join,DY]
 induction cs with
 | nil=>rfl
 | cons c r ih=>simpa using ih
theorem VR {x:Str} {n:Nat} (h:n<=x.length):(Txt.slice x none (some (n:Int))).cps.toList=x.cps.toList.take n:=by
 have e:=beq_iff_eq.mp (PyProof.Rows.slice_closes_toL (x:=x) (j:=(n:Int)) (by omega) (by omega))
 rw [e]
 simp
theorem Sq {x:Str} {n:Nat} (h:n<=x.length):(Txt.slice x (some (n:Int)) none).cps.toList=x.cps.toList.drop n:=by
 have e:=PyProof.Rows.slice_from_eq (x:=x) (i:=(n:Int)) (b:=(x.length:Int)) (by omega) (by omega) rfl
 rw [e]
 show List.take ((x.length:Int) - n).toNat (List.drop ((n:Int)).toNat x.cps.toList)=_
 rw [Int.toNat_natCast,List.take_of_length_le (by rw [List.length_drop,oU];omega)]
inductive yU (vs:List V) (H:Hp) (Q:VK) (E:XK):Prop where
 | mk:∀(a:Int) (b:Nat),vs=[.int a,.int (b:Nat)]->b<=39->(∀H':Hp,aQ H H'->Q (.str (cD a b)) H')->yU vs H Q E
noncomputable abbrev Ad:List Str:=["_law_cell_here", "_law_k", "_law_letters", "_law_many", "_law_base", "_law_at"]
theorem kY (T:Txt w K mg t):FO P w K mg base 2 t.Bv ["_law_cell_here", "_law_k"] (yU):=by
 have sc:=T.iW.sc Ad
 refine T.iW.F.ok sc ln (fun _ _ _ _ H vs Q E hr h=>?_)
 obtain⟨a,b,rfl,b1,k⟩:=h
 refine⟨_,(au (sN sc 2 bF)
  (au (bU (bz fQ (bD cL (eQ (bG T) T.bI hr (aa (pv 0) (aa az ak ao) aj)) az) az (bT _))
   (aA (aN (bD xT (aU CT (pv 2) (bD cL (eQ (bG T) T.bI hr (aa (pv 0) (aa az ak ao) aj)) az) (fun _ _=>rfl)) (cY HR (by rfl) T.Vt Ri (aa (bD eG (bD cL (eQ (bG T) T.bI hr (aa (pv 0) (aa az ak ao) aj)) az) (bD oH az (pv 1))) ak bY)))))
   bu)
  (au (sN sc 3 (bD cL (eQ (bG T) T.bI hr (aa (pv 0) (aa az ak ao) aj)) az))
  (au (sN sc 4 (Ah PySem.F.plainAttrs_str PySem.F.slot_str_join PySem.F.type_str_join UV bF (aa (fD [0,2] Ad (bx (top 75)) rfl (oV rfl T.qg (aa (pv 3) ak aj)) (fun _ _ _ _ _=>fC) (fun _ _ _ _ _=>(aU CT (pv 2) (bD cL (eQ (bG T) T.bI hr (aa (pv 1) (aa (bD eG az (pv 0)) ak bY) aj)) az) (fun _ _=>rfl)))) ak dU)))
  (au (sN sc 5 (bD cL (eQ (bG T) T.bI hr (aa (pv 0) (aa az ak ao) aj)) (bD eG (pv 3) az)))
  (aA (aN (bD xT (bD xT (lu RC (pv 4) p8 (lU (pv 5))) (aU CT (pv 2) (bD cL (bD eG (eQ (bG T) T.bI hr (aa (pv 0) (aa az ak ao) aj)) (pv 1)) az) (fun _ _=>rfl))) (lu RC (pv 4) (lU (pv 5)) p8))))))))),?_⟩
 have hl:sizeLine=16777216:=sizeLine_eq
 have hF:(cD a b).cps.toList=Af a b:=Fb a b
 unfold Af at hF
 refine⟨_,rfl,_,_,rfl,⟨_,_,rfl,rfl,by show(0:Int) <3;decide,rfl,_,rfl,lz (fun hw=>?_) (fun hw=>?_)⟩⟩
 ·have hw':cP a 52 % 3=0:=by simpa using of_decide_eq_true hw
  rw [if_pos hw'] at hF
  refine⟨_,rfl,_,rfl,_,_,rfl,?_⟩
  refine⟨_,_,rfl,rfl,by show(0:Int) <26;decide,LT,_,_,rfl,rfl,by rw [Lr];omega,Tg _,?_⟩
  refine⟨_,rfl,_,_,rfl,⟨_,_,rfl,rfl,by show(0:Int) <1000;decide,_,rfl,_,_,rfl,rfl,qL,_,_,rfl,rfl,?_⟩⟩
  have q0:=Int.emod_nonneg (cP a 54) (show(1000:Int)≠0 by decide)
  have q1:=Int.emod_lt_of_pos (cP a 54) (show(0:Int) <1000 by decide)
  obtain⟨m,hm⟩:∃m:Nat,cP a 54 % 1000+37 * (b:Int)=(m:Int):=⟨(cP a 54 % 1000+37 * (b:Int)).toNat,by omega⟩
  obtain⟨_,g2,_⟩:=vU (n:=m) (by omega)
  have g3:(toString (m:Int):Str).length<=4:=by rw [<-oU];exact g2
  have e:(⟨#[J1 (cP a 53)]⟩:Str) ++ (toString (m:Int):Str)=cD a b:=MN (by
   rw [hF,Str.cps_append,hm,Int.toNat_natCast]
   simp only [Array.toList_append]
   rfl)
  have k':=k H (aQ.refl _)
  rw [<-e] at k'
  dsimp only
  rw [hm]
  exact⟨_,rfl,Oi (by omega) (by omega),_,_,rfl,rfl,by show 1+_<=sizeLine;omega,k'⟩
 have hw':¬cP a 52 % 3=0:=fun z=>hw (decide_eq_true (by show V.int (cP a 52 % 3)=V.int 0;rw [z]))
 rw [if_neg hw'] at hF
 refine⟨_,rfl,_,_,rfl,⟨_,_,rfl,rfl,by show(0:Int) <7;decide,?_⟩⟩
 have z0:=Int.emod_nonneg (cP a 50) (show(7:Int)≠0 by decide)
 have z1:=Int.emod_lt_of_pos (cP a 50) (show(0:Int) <7 by decide)
 refine⟨rfl,_,rfl,cP a 50 % 7,rfl,by omega,by omega,?_⟩
 refine tX (fun i ys H'=>H'=H/\ys=((List.range i).map fun j=>J1 (cP a (60+(j:Nat)))).map fun c=>V.str ⟨#[c]⟩) (by omega) ⟨rfl,rfl⟩ (fun i ys H' ⟨_,e⟩=>by rw [e,lM,lM,List.length_range];omega) ?_ ?_
 ·rintro i ys H' hi ⟨rfl,rfl⟩
  refine yes ?_
  refine⟨_,rfl,_,rfl,_,rfl,_,_,rfl,rfl,_,_,rfl,?_⟩
  refine⟨_,_,rfl,rfl,by show(0:Int) <26;decide,LT,_,_,rfl,rfl,by rw [Lr];omega,Tg _,rfl,?_⟩
  rw [List.range_succ,List.map_append,List.map_append]
  simp
 rintro ys H' ⟨rfl,rfl⟩ D hD
 have eb:((List.range (cP a 50 % 7).toNat).map fun j=>J1 (cP a (60+(j:Nat))))=ik a:=rfl
 rw [eb]
 have s1:aQ H' (upd H' D (.lst ((ik a).map fun c=>V.str ⟨#[c]⟩))):=aB hD
 have bl:=(Do a).1
 have es:((ik a).map fun c=>V.str ⟨#[c]⟩)=((ik a).map fun c=>(⟨#[c]⟩:Str)).map V.str:=by rw [List.map_map];rfl
 refine⟨Str.empty,D,(ik a).map fun c=>(⟨#[c]⟩:Str),rfl,rfl,bR.of (by rw [<-es];exact aq),?_,?_⟩
 ·have:=Q9 (n:=1) ((ik a).map fun c=>(⟨#[c]⟩:Str)) fun w h=>by
   obtain⟨c,_,rfl⟩:=List.mem_map.mp h
   exact Nat.le_refl 1
  have he:Str.empty.length=0:=rfl
  rw [he]
  rw [lM] at this
  omega
 have ej:=join_ones (ik a)
 generalize upd H' D (.lst ((ik a).map fun c=>V.str ⟨#[c]⟩))=H1 at s1 ⊢
 generalize Txt.join Str.empty ((ik a).map fun c=>(⟨#[c]⟩:Str))=x0 at ej ⊢
 have hx0:x0.length=(ik a).length:=by rw [<-oU,ej]
 refine⟨_,rfl,_,_,rfl,⟨_,rfl,_,_,rfl,rfl,_,_,rfl,rfl,by show(0:Int) <cP a 50 % 7+1;omega,?_⟩⟩
 have hsp:=Ni a
 obtain⟨n,hn,hn2⟩:∃n:Nat,cP a 51 % (cP a 50 % 7+1)=(n:Int)/\n=qJ a:=⟨qJ a,(Int.toNat_of_nonneg (Int.emod_nonneg _ (by omega))).symm,rfl⟩
 rw [<-hn2] at hsp hF
 dsimp only
 rw [hn]
 have s0:=Txt.slice_le x0 none (some (n:Int))
 have s2:=Txt.slice_le x0 (some (n:Int)) none
 refine⟨_,rfl,_,rfl,_,rfl,x0,rfl,by omega,_,rfl,_,rfl,_,_,rfl,⟨_,rfl,_,_,rfl,rfl,?_⟩⟩
 have h1:(⟨#[J1 (cP a 55+(b:Int))]⟩:Str).length=1:=rfl
 refine⟨_,_,rfl,rfl,by show(0:Int) <26;decide,LT,_,_,rfl,rfl,by rw [Lr];omega,Tg _,_,_,rfl,rfl,by rw [h1];omega,?_⟩
 refine⟨_,rfl,_,rfl,_,rfl,x0,rfl,by omega,_,_,rfl,rfl,by rw [Str.length_append,h1];omega,?_⟩
 have e:Txt.slice x0 none (some (n:Int)) ++ (⟨#[J1 (cP a 55+(b:Int))]⟩:Str) ++ Txt.slice x0 (some (n:Int)) none=cD a b:=MN (by
  rw [hF,Str.cps_append,Str.cps_append]
  simp only [Array.toList_append]
  rw [VR (by omega),Sq (by omega),ej]
  simp)
 rw [e]
 exact k H1 s1
theorem Yl (m:Int):∃c:Nat,Fx [V.int 0,.int 0,.int 0,.int 1,.int 2] (m % 5)=some (.int (c:Nat))/\c<=2:=by
 have key:∀j,j <5->Fx [V.int 0,.int 0,.int 0,.int 1,.int 2] ((j:Nat):Int)=some (.int (([0,0,0,1,2]:List Nat).getD j 0:Nat))/\([0,0,0,1,2]:List Nat).getD j 0<=2:=by decide +kernel
 obtain⟨j,e,hj⟩:=K9 m (n:=5) (k:=5) (by decide) rfl
 rw [e]
 exact⟨_,key j hj⟩
theorem Yx (m:Int):∃c:Nat,Fx [V.int 0,.int 0,.int 1,.int 1,.int 2,.int 7] (m % 6)=some (.int (c:Nat))/\c<=7:=by
 have key:∀j,j <6->Fx [V.int 0,.int 0,.int 1,.int 1,.int 2,.int 7] ((j:Nat):Int)=some (.int (([0,0,1,1,2,7]:List Nat).getD j 0:Nat))/\([0,0,1,1,2,7]:List Nat).getD j 0<=7:=by decide +kernel
 obtain⟨j,e,hj⟩:=K9 m (n:=6) (k:=6) (by decide) rfl
 rw [e]
 exact⟨_,key j hj⟩
inductive yM (vs:List V) (H:Hp) (Q:VK) (E:XK):Prop where
 | mk:∀(d:Dw) (ls:List aH) (ps:List PD) (os:List Str) (c:Int) (b:Bool),vs=[.ref d.S,.int c,.bl b]->oh d H ls ps os->ls.length<=24->(∀(l:aH) (H':Hp),l.name=cD d.c3 ls.length->aQ (cM d.E H) (cM d.E H')->oh d H' (ls ++ [l]) ps os->Q (.str l.name) H')->yM vs H Q E
noncomputable abbrev Ay:List Str:=["_law_state", "_law_cell_here", "_law_back", "_law_many", "_law_first", "_law_room", "_law_name"]
theorem jT (T:Txt w K mg t):FO P w K mg base 3 t.Az ["_law_state", "_law_cell_here", "_law_back"] (yM):=by
 have sc:=T.jd.sc Ay
 refine T.jd.F.ok sc ln (fun _ _ _ _ H vs Q E hr h=>?_)
 obtain⟨d,ls,ps,os,c,b,rfl,D,hn,k⟩:=h
 refine⟨_,(au (sN sc 3 (aU aM (bj (aa az (aa az (aa az (aa az (aa az ak ao) ao) ao) ao) ao)) (bD cL (eQ (bG T) T.bI hr (aa (pv 1) (aa az ak ao) aj)) az) (fun _ _=>rfl)))
  (au (fU (bU (jL (pv 2))
   (aA (sN sc 3 (bD cL (eQ (bG T) T.bI hr (aa (pv 1) (aa az ak ao) aj)) az)))
   bu))
  (au (pA (i:=4) [1] Ay (bx (top 76)) rfl sc.nd rfl (oV rfl T.qg (aa (pv 3) ak aj)) (fun _ _ _ _ _=>fC) (fun _ _ _ _ _=>(eQ (lX T) T.jq hr (aa (pv 1) (aa (bD eG az (pv 0)) ak bY) aj))))
  (au (sN sc 5 (bD eG (bJ (Gm rfl) (by rfl) T.M7 Ja (aa az (aa (pv 3) ak aj) ao)) (aU aM (bj (aa az (aa az (aa az (aa az (aa az (aa az ak ao) ao) ao) ao) ao) ao)) (bD cL (eQ (bG T) T.bI hr (aa (pv 1) (aa az ak ao) aj)) az) (fun _ _=>rfl))))
  (au (sN sc 6 (eQ (kY T) T.iW hr (aa (aU aM (pv 0) az (fun _ _=>rfl)) (aa (bJ cC (by rfl) T.gA d7 (aa (aU aM (pv 0) az (fun _ _=>rfl)) ak aD)) ak aX) aD)))
  (au (bO (Ls (aU aM (pv 0) az (fun _ _=>rfl)) (aa (bV (aa (pv 6) (aa (pv 5) (aa (pv 4) ak aj) aj) aj)) ak bN)))
  (aA (aN (pv 6))))))))),?_⟩
 have hl:sizeLine=16777216:=sizeLine_eq
 refine⟨gw,fun l0 n0=>?_⟩
 have s0:=aB (o:=.lst [.int 0,.int 0,.int 0,.int 1,.int 2]) n0
 obtain⟨c0,e0,h0⟩:=Yl (cP c 1)
 refine⟨_,rfl,_,_,rfl,_,_,rfl,rfl,by show(0:Int) <5;decide,l0,_,_,_,rfl,rfl,bR.of aq,e0,?_⟩
 generalize upd H l0 (.lst [.int 0,.int 0,.int 0,.int 1,.int 2])=H0 at s0 ⊢
 refine⟨fun σ H1=>∃m:Nat,m<=3/\H1=H0/\σ=[some (.ref d.S),some (.int c),some (.bl b),some (.int (m:Nat)),none,none,none],?_,?_⟩
 ·cases b
  ·exact⟨_,rfl,false,rfl,fc ⟨c0,by omega,rfl,rfl⟩⟩
  ·refine⟨_,rfl,true,rfl,lE ⟨_,rfl,_,_,rfl,_,_,rfl,rfl,by show(0:Int) <4;decide,?_⟩⟩
   have h1:=Int.emod_nonneg (cP c 1) (show(4:Int)≠0 by decide)
   have h2:=Int.emod_lt_of_pos (cP c 1) (show(0:Int) <4 by decide)
   refine⟨(cP c 1 % 4).toNat,by omega,rfl,?_⟩
   rw [Int.toNat_of_nonneg h1]
   rfl
 rintro σ H1 ⟨m,hm,rfl,rfl⟩
 refine⟨_,rfl,(m:Int),rfl,by omega,by omega,?_⟩
 rw [Int.toNat_natCast]
 refine tX (fun i ys H'=>H'=H1/\∃ws:List Int,ys=ws.map V.int/\ws.length=i/\∀v∈ws,0<=v/\v <1000000000) (by omega) ⟨rfl,[],rfl,rfl,by simp⟩ (fun i ys H' ⟨_,ws,e,e2,_⟩=>by rw [e,lM];omega) ?_ ?_
 ·rintro i ys H' hi ⟨rfl,ws,rfl,hw,hB⟩
  refine yes ⟨_,rfl,_,rfl,_,_,rfl,rfl,c,10+(0+(i:Int)),rfl,rfl,ws ++ [uc c (10+(0+(i:Int)))],by simp,by simp [hw],fun v hv=>?_⟩
  rcases List.mem_append.mp hv with hv | hv
  ·exact hB v hv
  ·rw [List.mem_singleton] at hv
   subst hv
   exact wj _ _
 rintro ys H' ⟨rfl,ws,rfl,hw,hB⟩ F nF
 have t1:=aB (o:=.lst (ws.map V.int)) nF
 have sF:=s0.trans t1
 have eF:upd H' F (.lst (ws.map V.int)) F=some (.lst (ws.map V.int)):=aq
 have oF:F∉d.E:=D.out (s0.free nF)
 generalize upd H' F (.lst (ws.map V.int))=H2 at t1 sF eF ⊢
 refine⟨_,rfl,_,_,rfl,gw,fun l1 n1=>?_⟩
 have t2:=aB (o:=.lst [.int 0,.int 0,.int 1,.int 1,.int 2,.int 7]) n1
 obtain⟨c1,e1,h1⟩:=Yx (cP c 2)
 refine⟨_,rfl,_,_,rfl,_,_,rfl,rfl,by show(0:Int) <6;decide,l1,_,_,_,rfl,rfl,bR.of aq,e1,_,_,rfl,rfl,?_⟩
 have s2:=sF.trans t2
 have eF2:=t2 _ _ eF
 generalize upd H2 l1 (.lst [.int 0,.int 0,.int 1,.int 1,.int 2,.int 7])=H3 at t2 s2 eF2 ⊢
 have D3:=D.keep s2
 obtain⟨xs,eL,aL⟩:=D3.lanes
 have xl:=aL.length
 refine⟨_,rfl,d.S,_,3,_,rfl,rfl,D3.seqS,aK (j:=3) rfl,?_⟩
 refine⟨_,rfl,d.S,_,0,_,rfl,rfl,D3.seqS,aK (j:=0) rfl,.ref d.L,ls.length,rfl,.inl ⟨_,bR.of eL,xl.symm⟩,?_⟩
 refine⟨d.c3,ls.length,rfl,by omega,fun H4 s4=>?_⟩
 have D4:=D3.keep s4
 have eL4:=s4 _ _ eL
 have eF4:=s4 _ _ eF2
 have s04:=s2.trans s4
 refine⟨_,rfl,d.S,_,0,_,rfl,rfl,D4.seqS,aK (j:=0) rfl,?_⟩
 refine⟨.inl ⟨rfl,_,bR.of eL4⟩,_,rfl,_,rfl,_,rfl,gw,fun q nq=>?_⟩
 have t5:=aB (o:=.tup [.str (cD d.c3 ls.length),.int ((if (m:Int) >1 then(m:Int) else 1)+(c1:Int)),.ref F]) nq
 have s5:=s04.trans t5
 have D5:=D4.keep t5
 have oq:q∉d.E:=D4.out nq
 have eq:upd H4 q (.tup [.str (cD d.c3 ls.length),.int ((if (m:Int) >1 then(m:Int) else 1)+(c1:Int)),.ref F]) q=some (.tup [.str (cD d.c3 ls.length),.int ((if (m:Int) >1 then(m:Int) else 1)+(c1:Int)),.ref F]):=aq
 have eL5:=t5 _ _ eL4
 have eF5:=t5 _ _ eF4
 refine⟨d.L,xs,_,rfl,rfl,eL5,by omega,_,rfl,?_⟩
 refine k ⟨cD d.c3 ls.length,(if (m:Int) >1 then(m:Int) else 1)+(c1:Int),ws⟩ _ rfl ?_ (D5.lane ⟨q,F,rfl,lK eq oq,lK eF5 oF⟩ ⟨by dsimp only;split <;> omega,by dsimp only;split <;> omega,by dsimp only;split <;> omega,hB⟩ rfl eL5)
 rw [gm (by simp)]
 exact D.cut s5
theorem pop_at:∀{os:List Str} {j:Nat} (h:j <os.length),os.Perm (os[j]:: os.eraseIdx j)
 | [],_,h=>absurd h (by simp)
 | a:: l,0,_=>.refl _
 | a:: l,j+1,h=>by
  have h':j <l.length:=by simpa using h
  show(a:: l).Perm (l[j]:: a:: l.eraseIdx j)
  exact((pop_at (os:=l) (j:=j) (by simpa using h)).cons a).trans (.swap _ _ _)
theorem Hs {α β:Type} {f:α->β}:∀(l:List α) (j:Nat),(l.map f).eraseIdx j=(l.eraseIdx j).map f
 | [],_=>rfl
 | a:: l,0=>rfl
 | a:: l,j+1=>by
  show f a:: (l.map f).eraseIdx j=f a:: (l.eraseIdx j).map f
  rw [Hs l j]
theorem LQ {j n:Nat} (h:j <n):seqIndex? (j:Int) n=some j:=by
 unfold seqIndex?
 have z:¬(j:Int) <0:=by omega
 simp [h,z]
inductive yg (vs:List V) (H:Hp) (Q:VK) (E:XK):Prop where
 | mk:∀(d:Dw) (ls:List aH) (ps:List PD) (os:List Str) (n:Int),vs=[.ref d.S,.int n]->oh d H ls ps os->os≠[]->os.length<=100->(∀(x:Str) (os':List Str) (H':Hp),os.Perm (x:: os')->aQ (cM d.E H) (cM d.E H')->oh d H' ls ps os'->Q (.str x) H')->yg vs H Q E
theorem rZ (T:Txt w K mg t):FO P w K mg base 1 t.Bg ["_law_state", "_law_number"] (yg):=by
 have sc:=T.mO.sc ["_law_state", "_law_number"]
 refine T.mO.F.ok sc ln (fun _ _ _ _ H vs Q E hr h=>?_)
 obtain⟨d,ls,ps,os,n,rfl,D,hne,hs,k⟩:=h
 refine⟨_,(aA (aN (Ah PySem.F.plainAttrs_list PySem.F.slot_list_pop PySem.F.type_list_pop Ft (aU aM (pv 0) az (fun _ _=>rfl)) (aa (bD cL (pv 1) (bJ cC (by rfl) T.gA d7 (aa (aU aM (pv 0) az (fun _ _=>rfl)) ak aD))) ak bY)))),?_⟩
 have hpos:0 <os.length:=List.length_pos_iff.mpr hne
 refine⟨_,rfl,d.S,_,2,_,rfl,rfl,D.seqS,aK (j:=2) rfl,.inl ⟨rfl,_,bR.of D.opens⟩,?_⟩
 refine⟨_,rfl,_,rfl,d.S,_,2,_,rfl,rfl,D.seqS,aK (j:=2) rfl,.ref d.O,os.length,rfl,.inl ⟨_,bR.of D.opens,by simp⟩,n,(os.length:Int),rfl,rfl,by omega,?_⟩
 have h0:=Int.emod_nonneg n (show(os.length:Int)≠0 by omega)
 have h1:=Int.emod_lt_of_pos n (show(0:Int) <(os.length:Int) by omega)
 obtain⟨j,hj⟩:∃j:Nat,n % (os.length:Int)=(j:Int):=⟨(n % (os.length:Int)).toNat,by omega⟩
 have hj':j <os.length:=by omega
 refine⟨d.O,_,(j:Int),j,.str os[j],rfl,by show [V.int (n % (os.length:Int))]=_;rw [hj],D.opens,by omega,by omega,by rw [lM];exact LQ hj',by rw [List.getElem?_map,List.getElem?_eq_getElem hj'];rfl,?_⟩
 rw [Hs]
 exact k os[j] (os.eraseIdx j) _ (pop_at hj') (by rw [gm (by simp)];exact aQ.refl _) D.open
inductive yV (vs:List V) (H:Hp) (Q:VK) (E:XK):Prop where
 | mk:∀(d:Dw) (ls:List aH) (ps:List PD) (os:List Str) (c:Int) (i:Nat) (a1 a2:Addr) (nums:List Int) (ins:List Str) (many:Nat),vs=[.ref d.S,.int c,.str (cg i),.ref a1,.ref a2,.int (many:Nat)]->oh d H ls ps os->cM d.E H a1=some (.lst (nums.map V.int))->cM d.E H a2=some (.lst (ins.map V.str))->i <11->nums.length=cN i->((∀v∈nums,0<=v/\v <1000000000))->ins.length=cI i->many=cO i->ls.length<=22->ps.length<=25->os.length<=100->(∀(newl:List aH) (H':Hp),newl.length=many->aQ (cM d.E H) (cM d.E H')->oh d H' (ls ++ newl) (ps ++ [⟨i,cD d.c4 ps.length,nums,ins,newl.map (·.name)⟩]) (os ++ newl.map (·.name))->Q .non H')->yV vs H Q E
noncomputable abbrev Br:List Str:=["_law_state", "_law_cell_here", "_law_kind", "_law_numbers", "_law_ins", "_law_many", "_law_outs"]
theorem dm (T:Txt w K mg t):FO P w K mg base 4 t.Ba ["_law_state", "_law_cell_here", "_law_kind", "_law_numbers", "_law_ins", "_law_many"] (yV):=by
 have sc:=T.cZ.sc Br
 refine T.cZ.F.ok sc ln (fun _ _ _ _ H vs Q E hr h=>?_)
 obtain⟨d,ls,ps,os,c,i,a1,a2,nums,ins,many,rfl,D,e1,e2,hi,hN,hB,hI,hO,hls,hps,hos,k⟩:=h
 refine⟨_,(au (pA (i:=6) [0,1] Br (bx (top 77)) rfl sc.nd rfl (oV rfl T.qg (aa (pv 5) ak aj)) (fun _ _ _ _ _=>fC) (fun _ _ _ _ _=>(eQ (jT T) T.jd hr (aa (pv 1) (aa (eQ (bG T) T.bI hr (aa (pv 2) (aa (bD eG az (pv 0)) ak bY) aj)) (aa nM ak ao) aX) aj))))
  (au (bO (Ls (aU aM (pv 0) az (fun _ _=>rfl)) (aa (bV (aa (pv 2) (aa (eQ (kY T) T.iW hr (aa (aU aM (pv 0) az (fun _ _=>rfl)) (aa (bJ cC (by rfl) T.gA d7 (aa (aU aM (pv 0) az (fun _ _=>rfl)) ak aD)) ak aX) aD)) (aa (pv 3) (aa (pv 4) (aa (pv 6) ak aj) aj) aj) aX) aj)) ak bN)))
  (aA (bO (Ah PySem.F.plainAttrs_list PySem.F.slot_list_extend PySem.F.type_list_extend G6 (aU aM (pv 0) az (fun _ _=>rfl)) (aa (pv 6) ak aj)))))),?_⟩
 have hl:sizeLine=16777216:=sizeLine_eq
 have hm2:many<=2:=by rw [hO];exact QS i
 refine⟨_,rfl,(many:Int),rfl,by omega,by omega,?_⟩
 rw [Int.toNat_natCast]
 refine tX (fun i ys H'=>∃newl:List aH,newl.length=i/\ys=newl.map (fun l=>V.str l.name)/\aQ (cM d.E H) (cM d.E H')/\oh d H' (ls ++ newl) ps os) (by omega) ⟨[],rfl,rfl,aQ.refl _,by rw [List.append_nil];exact D⟩ (fun i ys H' ⟨newl,e,e2,_⟩=>by rw [e2,lM];omega) ?_ ?_
 ·rintro j ys H' hj ⟨newl,hn,rfl,s,D'⟩
  refine yes ⟨_,rfl,_,rfl,_,rfl,_,_,rfl,rfl,c,20+(0+(j:Int)),rfl,?_⟩
  refine⟨d,ls ++ newl,ps,os,_,false,rfl,D',by rw [lP];omega,fun l H1 _ s1 D1=>?_⟩
  exact⟨newl ++ [l],by simp [hn],by simp,s.trans s1,by rw [<-List.append_assoc];exact D1⟩
 rintro ys H1 ⟨newl,hn,rfl,s1,D1⟩ F nF
 have t1:=aB (o:=.lst (newl.map fun l=>V.str l.name)) nF
 have eF:upd H1 F (.lst (newl.map fun l=>V.str l.name)) F=some (.lst ((newl.map (·.name)).map V.str)):=by rw [List.map_map];exact aq
 have oF:=D1.out nF
 have D2:=D1.keep t1
 have s2:=s1.trans (D1.cut t1)
 generalize upd H1 F (.lst (newl.map fun l=>V.str l.name))=H2 at t1 eF D2 s2 ⊢
 obtain⟨xs,eP,aP⟩:=D2.parts
 have xl:=aP.length
 refine⟨_,rfl,d.S,_,1,_,rfl,rfl,D2.seqS,aK (j:=1) rfl,.inl ⟨rfl,_,bR.of eP⟩,?_⟩
 refine⟨_,rfl,_,rfl,d.S,_,4,_,rfl,rfl,D2.seqS,aK (j:=4) rfl,?_⟩
 refine⟨_,rfl,d.S,_,1,_,rfl,rfl,D2.seqS,aK (j:=1) rfl,.ref d.P,ps.length,rfl,.inl ⟨_,bR.of eP,xl.symm⟩,?_⟩
 refine⟨d.c4,ps.length,rfl,by omega,fun H3 s3=>?_⟩
 have D3:=D2.keep s3
 have t3:=s2.trans (D2.cut s3)
 have eP3:=s3 _ _ eP
 have eF3:=s3 _ _ eF
 refine⟨_,rfl,_,rfl,_,rfl,gw,fun q nq=>?_⟩
 have s4:=aB (o:=.tup [.str (cg i),.str (cD d.c4 ps.length),.ref a1,.ref a2,.ref F]) nq
 have D4:=D3.keep s4
 have t4:=t3.trans (D3.cut s4)
 have eP4:=s4 _ _ eP3
 have eF4:=s4 _ _ eF3
 have oq:=D3.out nq
 have eq:upd H3 q (.tup [.str (cg i),.str (cD d.c4 ps.length),.ref a1,.ref a2,.ref F]) q=some (.tup [.str (cg i),.str (cD d.c4 ps.length),.ref a1,.ref a2,.ref F]):=aq
 refine⟨d.P,xs,_,rfl,rfl,eP4,by omega,?_⟩
 generalize upd H3 q (.tup [.str (cg i),.str (cD d.c4 ps.length),.ref a1,.ref a2,.ref F])=H4 at s4 D4 t4 eP4 eF4 eq ⊢
 have D5:=D4.part (p:=⟨i,cD d.c4 ps.length,nums,ins,newl.map (·.name)⟩) ⟨q,a1,a2,F,rfl,lK eq oq,t4 _ _ e1,t4 _ _ e2,lK eF4 oF⟩ ⟨hi,hN,hI,by show(newl.map _).length=_;rw [lM,hn];exact hO,hB⟩ rfl eP4
 have hcu:cM d.E (upd H4 d.P (.lst (xs ++ [.ref q])))=cM d.E H4:=gm (by simp)
 have eF5:upd H4 d.P (.lst (xs ++ [.ref q])) F=some (.lst ((newl.map (·.name)).map V.str)):=by rw [aG (fun z=>oF (by rw [z];simp))];exact eF4
 generalize upd H4 d.P (.lst (xs ++ [.ref q]))=H5 at D5 hcu eF5 ⊢
 refine⟨_,rfl,d.S,_,2,_,rfl,rfl,D5.seqS,aK (j:=2) rfl,.inl ⟨rfl,_,bR.of D5.opens⟩,?_⟩
 refine⟨_,rfl,d.O,F,_,_,rfl,rfl,D5.opens,eF5,by rw [lM,lM,lM];omega,?_⟩
 rw [<-List.map_append]
 exact k newl _ hn (by rw [gm (by simp),hcu];exact t4) D5.open
theorem Vy (m:Int):∃i:Nat,Fx [V.str "add",V.str "less"] (m % 2)=some (.str (cg i))/\(i=6∨i=7):=by
 have h0:=Int.emod_nonneg m (show(2:Int)≠0 by decide)
 have h1:=Int.emod_lt_of_pos m (show(0:Int) <2 by decide)
 have:m % 2=0∨m % 2=1:=by omega
 rcases this with e | e <;> rw [e]
 ·exact⟨6,rfl,.inl rfl⟩
 ·exact⟨7,rfl,.inr rfl⟩
theorem Kw {one other:Str} {os os1:List Str} (h:os.Perm (other:: os1)):(one:: os).Perm ([one,other] ++ os1):=h.cons one
theorem X5 {one other third:Str} {os os1 os2:List Str} (h:os.Perm (other:: os1)) (h2:os1.Perm (third:: os2)):(one:: os).Perm ([one,other,third] ++ os2):=(h.trans (h2.cons other)).cons one
inductive Bs (vs:List V) (H:Hp) (Q:VK) (E:XK):Prop where
 | mk:∀(d:Dw) (ls:List aH) (ps:List PD) (os:List Str) (c:Int) (one:Str) (back:List Str) (odd:Bool),vs=[.ref d.S,.int c,.str one,.bl odd]->oh d H ls ps os->Drawn.WF (uL ls ps (one:: os) back)->os≠[]->os.length<=3->ls.length<=20->ps.length<=22->(∀ls' ps' os' H',Zo d H H' ls ps back ls' ps' os'->Q .non H')->Bs vs H Q E
theorem Kr (T:Txt w K mg t):FO P w K mg base 5 t.Ei ["_law_state", "_law_cell_here", "_law_one", "_law_odd"] (Bs):=by
 have sc:=T.xW.sc ["_law_state", "_law_cell_here", "_law_one", "_law_odd", "_law_other", "_law_way", "_law_third"]
 refine T.xW.F.ok sc ln (fun _ _ _ _ H vs Q E hr h=>?_)
 obtain⟨d,ls,ps,os,c,one,back,odd,rfl,D,w,hne,ho,hls,hps,k⟩:=h
 refine⟨_,(au (sN sc 4 (eQ (rZ T) T.mO hr (aa (pv 0) (aa (eQ (bG T) T.bI hr (aa (pv 1) (aa az ak ao) aj)) ak aX) aj)))
  (au (sN sc 5 (bD cL (eQ (bG T) T.bI hr (aa (pv 1) (aa az ak ao) aj)) az))
  (aA (fU (bU (PW.pt (zN (jL (pv 3)) (zN (bz xq (pv 5) az (bT _)) (yj (bz Nk (bJ cC (by rfl) T.gA d7 (aa (aU aM (pv 0) az (fun _ _=>rfl)) ak aD)) az (bT _))))))
   (au (sN sc 6 (eQ (rZ T) T.mO hr (aa (pv 0) (aa (eQ (bG T) T.bI hr (aa (pv 1) (aa az ak ao) aj)) ak aX) aj)))
   (aA (bO (eQ (dm T) T.cZ hr (aa (pv 0) (aa (pv 1) (aa bF (aa (bj ak) (aa (bj (aa (pv 2) (aa (pv 4) (aa (pv 6) ak aj) aj) aj)) (aa az ak ao) bw) bw) ao) aj) aj)))))
   (aA (fU (bU (PW.pt (zN (jL (pv 3)) (yj (bz xq (pv 5) az (bT _)))))
    (aA (bO (eQ (dm T) T.cZ hr (aa (pv 0) (aa (pv 1) (aa bF (aa (bj ak) (aa (bj (aa (pv 2) (aa (pv 4) ak aj) aj)) (aa az ak ao) bw) bw) ao) aj) aj))))
    (aA (fU (bU (bz fQ (bD cL (pv 5) az) az (bT _))
     (aA (bO (eQ (dm T) T.cZ hr (aa (pv 0) (aa (pv 1) (aa bF (aa (bj ak) (aa (bj (aa (pv 2) (aa (pv 4) ak aj) aj)) (aa az ak ao) bw) bw) ao) aj) aj))))
     (aA (bO (eQ (dm T) T.cZ hr (aa (pv 0) (aa (pv 1) (aa (aU aM (bj (aa bF (aa bF ak ao) ao)) (bD cL (pv 5) az) (fun _ _=>rfl)) (aa (bj ak) (aa (bj (aa (pv 2) (aa (pv 4) ak aj) aj)) (aa az ak ao) bw) bw) aD) aj) aj))))))))))))))),?_⟩
 have hl:sizeLine=16777216:=sizeLine_eq
 refine⟨_,rfl,_,rfl,_,_,rfl,d,ls,ps,os,_,rfl,D,hne,by omega,fun other os1 H1 p1 s1 D1=>?_⟩
 have l1:=p1.length_eq
 rw [List.length_cons] at l1
 refine⟨_,rfl,_,_,rfl,_,_,rfl,rfl,by show(0:Int) <6;decide,?_⟩
 refine⟨fun _ H'=>Q .non H',?_,fun _ _ h=>h⟩
 have fin:∀{i:Nat} {nm:Str} {newl:List aH} {ins os2:List Str} {H':Hp},aQ (cM d.E H) (cM d.E H')->oh d H' (ls ++ newl) (ps ++ [⟨i,nm,[],ins,newl.map (·.name)⟩]) (os2 ++ newl.map (·.name))->(one:: os).Perm (ins ++ os2)->newl.length≠0->newl.length<=2->os2.length+newl.length<=4->Q .non H':=fun s DD hp h1 h2 h4=>
  k _ _ _ _ ⟨s,DD,rM w rfl DD hp h1 (by rw [lP];omega),by rw [lP,lM];omega,by rw [lP,lM];omega,by rw [lP];omega,by rw [lP,List.length_singleton];omega⟩
 cases odd
 ·refine⟨_,rfl,false,rfl,fc (fc ?_)⟩
  refine⟨fun _ H'=>Q .non H',?_,fun _ _ h=>h⟩
  refine⟨_,rfl,false,rfl,fc (fc ?_)⟩
  refine⟨fun _ H'=>Q .non H',?_,fun _ _ h=>h⟩
  refine⟨_,rfl,_,_,rfl,rfl,by show(0:Int) <3;decide,rfl,_,rfl,lz (fun _=>?_) (fun _=>?_)⟩
  ·refine⟨_,rfl,_,rfl,gw,fun a1 n1=>⟨_,rfl,_,rfl,gw,fun a2 n2=>?_⟩⟩
   obtain⟨D9,z1,z2,z3⟩:=D1.two n1 n2 (y:=.lst [.str one,.str other])
   refine⟨d,_,_,os1,_,8,a1,a2,[],[one,other],2,rfl,D9,z1,z2,by omega,rfl,by simp,rfl,rfl,by omega,by omega,by omega,fun newl H8 hn s8 D8=>?_⟩
   exact fin (s1.trans (z3.trans s8)) D8 (Kw p1) (by omega) (by omega) (by omega)
  ·refine⟨_,rfl,_,rfl,gw,fun a0 n0=>?_⟩
   have s0:=aB (o:=.lst [.str "add",.str "less"]) n0
   have D0:=D1.keep s0
   have c0:=D1.cut s0
   refine⟨_,rfl,_,_,rfl,rfl,by show(0:Int) <2;decide,?_⟩
   obtain⟨i,ei,hi⟩:=Vy (cP c 6 % 6)
   refine⟨a0,_,_,_,rfl,rfl,bR.of aq,ei,?_⟩
   generalize upd H1 a0 (.lst [.str "add",.str "less"])=H0 at s0 D0 c0 ⊢
   have hN:([]:List Int).length=cN i:=by rcases hi with rfl | rfl <;> rfl
   have hI:[one,other].length=cI i:=by rcases hi with rfl | rfl <;> rfl
   have hO:1=cO i:=by rcases hi with rfl | rfl <;> rfl
   refine⟨gw,fun a1 n1=>⟨_,rfl,_,rfl,gw,fun a2 n2=>?_⟩⟩
   obtain⟨D9,z1,z2,z3⟩:=D0.two n1 n2 (y:=.lst [.str one,.str other])
   refine⟨d,_,_,os1,_,i,a1,a2,[],[one,other],1,rfl,D9,z1,z2,by omega,hN,by simp,hI,hO,by omega,by omega,by omega,fun newl H8 hn s8 D8=>?_⟩
   exact fin (s1.trans (c0.trans (z3.trans s8))) D8 (Kw p1) (by omega) (by omega) (by omega)
 ·refine⟨_,rfl,true,rfl,lE ⟨_,rfl,_,_,rfl,rfl,_,rfl,Ey ?_ (fun h2 b=>?_) (fun b=>b)⟩⟩
  ·refine⟨fun _ H'=>Q .non H',?_,fun _ _ h=>h⟩
   refine⟨_,rfl,true,rfl,lE ?_⟩
   refine⟨_,rfl,_,_,rfl,rfl,_,rfl,lz (fun h5=>?_) (fun h5=>?_)⟩
   ·refine⟨_,rfl,_,rfl,gw,fun a1 n1=>⟨_,rfl,_,rfl,gw,fun a2 n2=>?_⟩⟩
    obtain⟨D9,z1,z2,z3⟩:=D1.two n1 n2 (y:=.lst [.str one,.str other])
    refine⟨d,_,_,os1,_,10,a1,a2,[],[one,other],2,rfl,D9,z1,z2,by omega,rfl,by simp,rfl,rfl,by omega,by omega,by omega,fun newl H8 hn s8 D8=>?_⟩
    exact fin (s1.trans (z3.trans s8)) D8 (Kw p1) (by omega) (by omega) (by omega)
   ·refine⟨fun _ H'=>Q .non H',?_,fun _ _ h=>h⟩
    refine⟨_,rfl,_,_,rfl,rfl,by show(0:Int) <3;decide,rfl,_,rfl,lz (fun _=>?_) (fun _=>?_)⟩
    ·refine⟨_,rfl,_,rfl,gw,fun a1 n1=>⟨_,rfl,_,rfl,gw,fun a2 n2=>?_⟩⟩
     obtain⟨D9,z1,z2,z3⟩:=D1.two n1 n2 (y:=.lst [.str one,.str other])
     refine⟨d,_,_,os1,_,8,a1,a2,[],[one,other],2,rfl,D9,z1,z2,by omega,rfl,by simp,rfl,rfl,by omega,by omega,by omega,fun newl H8 hn s8 D8=>?_⟩
     exact fin (s1.trans (z3.trans s8)) D8 (Kw p1) (by omega) (by omega) (by omega)
    ·refine⟨_,rfl,_,rfl,gw,fun a0 n0=>?_⟩
     have s0:=aB (o:=.lst [.str "add",.str "less"]) n0
     have D0:=D1.keep s0
     have c0:=D1.cut s0
     refine⟨_,rfl,_,_,rfl,rfl,by show(0:Int) <2;decide,?_⟩
     obtain⟨i,ei,hi⟩:=Vy (cP c 6 % 6)
     refine⟨a0,_,_,_,rfl,rfl,bR.of aq,ei,?_⟩
     generalize upd H1 a0 (.lst [.str "add",.str "less"])=H0 at s0 D0 c0 ⊢
     have hN:([]:List Int).length=cN i:=by rcases hi with rfl | rfl <;> rfl
     have hI:[one,other].length=cI i:=by rcases hi with rfl | rfl <;> rfl
     have hO:1=cO i:=by rcases hi with rfl | rfl <;> rfl
     refine⟨gw,fun a1 n1=>⟨_,rfl,_,rfl,gw,fun a2 n2=>?_⟩⟩
     obtain⟨D9,z1,z2,z3⟩:=D0.two n1 n2 (y:=.lst [.str one,.str other])
     refine⟨d,_,_,os1,_,i,a1,a2,[],[one,other],1,rfl,D9,z1,z2,by omega,hN,by simp,hI,hO,by omega,by omega,by omega,fun newl H8 hn s8 D8=>?_⟩
     exact fin (s1.trans (c0.trans (z3.trans s8))) D8 (Kw p1) (by omega) (by omega) (by omega)
  ·refine⟨_,rfl,d.S,_,2,_,rfl,rfl,D1.seqS,aK (j:=2) rfl,.ref d.O,os1.length,rfl,.inl ⟨_,bR.of D1.opens,by simp⟩,_,_,rfl,rfl,_,rfl,lz (fun h3=>?_) (fun _=>b)⟩
   have hne1:os1≠[]:=fun z=>by rw [z] at h3;exact absurd (of_decide_eq_true h3) (by decide)
   refine⟨_,rfl,_,rfl,_,_,rfl,d,ls,ps,os1,_,rfl,D1,hne1,by omega,fun third os2 H2 p2 s2 D2=>?_⟩
   have l2:=p2.length_eq
   rw [List.length_cons] at l2
   refine⟨_,rfl,_,rfl,gw,fun a1 n1=>⟨_,rfl,_,rfl,_,rfl,gw,fun a2 n2=>?_⟩⟩
   obtain⟨D9,z1,z2,z3⟩:=D2.two n1 n2 (y:=.lst [.str one,.str other,.str third])
   refine⟨d,_,_,os2,_,9,a1,a2,[],[one,other,third],1,rfl,D9,z1,z2,by omega,rfl,by simp,rfl,rfl,by omega,by omega,by omega,fun newl H8 hn s8 D8=>?_⟩
   exact fin (s1.trans (s2.trans (z3.trans s8))) D8 (X5 p1 p2) (by omega) (by omega) (by omega)
inductive yw (vs:List V) (H:Hp) (Q:VK) (E:XK):Prop where
 | mk:∀(d:Dw) (ls:List aH) (ps:List PD) (os:List Str) (c:Int) (one:Str) (back:List Str),vs=[.ref d.S,.int c,.str one]->oh d H ls ps os->Drawn.WF (uL ls ps (one:: os) back)->os.length<=3->ls.length<=20->ps.length<=22->(∀ls' ps' os' H',Zo d H H' ls ps back ls' ps' os'->Q .non H')->yw vs H Q E
theorem Jx (T:Txt w K mg t):FO P w K mg base 4 t.An ["_law_state", "_law_cell_here", "_law_one"] (yw):=by
 have sc:=T.vh.sc ["_law_state", "_law_cell_here", "_law_one", "_law_own", "_law_fresh"]
 refine T.vh.F.ok sc ln (fun _ _ _ _ H vs Q E hr h=>?_)
 obtain⟨d,ls,ps,os,c,one,back,rfl,D,w,ho,hls,hps,k⟩:=h
 refine⟨_,(au (sN sc 3 (eQ (jT T) T.jd hr (aa (pv 0) (aa (eQ (bG T) T.bI hr (aa (pv 1) (aa az ak ao) aj)) (aa nM ak ao) aX) aj)))
  (au (sN sc 4 (eQ (jT T) T.jd hr (aa (pv 0) (aa (eQ (bG T) T.bI hr (aa (pv 1) (aa az ak ao) aj)) (aa nM ak ao) aX) aj)))
  (au (bO (Ls (aU aM (pv 0) az (fun _ _=>rfl)) (aa (bV (aa bF (aa (eQ (kY T) T.iW hr (aa (aU aM (pv 0) az (fun _ _=>rfl)) (aa (bJ cC (by rfl) T.gA d7 (aa (aU aM (pv 0) az (fun _ _=>rfl)) ak aD)) ak aX) aD)) (aa (bj ak) (aa (bj (aa (pv 2) (aa (pv 3) ak aj) aj)) (aa (bj (aa (pv 3) (aa (pv 4) ak aj) aj)) ak bw) bw) bw) aX) ao)) ak bN)))
  (aA (bO (Ls (aU aM (pv 0) az (fun _ _=>rfl)) (aa (pv 4) ak aj))))))),?_⟩
 have hl:sizeLine=16777216:=sizeLine_eq
 refine⟨_,rfl,_,rfl,_,_,rfl,d,ls,ps,os,_,true,rfl,D,by omega,fun l1 H1 e1 s1 D1=>?_⟩
 refine⟨_,rfl,_,rfl,_,_,rfl,d,ls ++ [l1],ps,os,_,false,rfl,D1,by rw [lP,List.length_singleton];omega,fun l2 H2 e2 s2 D2=>?_⟩
 have s12:=s1.trans s2
 obtain⟨xs,eP,aP⟩:=D2.parts
 have xl:=aP.length
 refine⟨_,rfl,d.S,_,1,_,rfl,rfl,D2.seqS,aK (j:=1) rfl,.inl ⟨rfl,_,bR.of eP⟩,?_⟩
 refine⟨_,rfl,d.S,_,4,_,rfl,rfl,D2.seqS,aK (j:=4) rfl,?_⟩
 refine⟨_,rfl,d.S,_,1,_,rfl,rfl,D2.seqS,aK (j:=1) rfl,.ref d.P,ps.length,rfl,.inl ⟨_,bR.of eP,xl.symm⟩,?_⟩
 refine⟨d.c4,ps.length,rfl,by omega,fun H3 s3=>?_⟩
 have D3:=D2.keep s3
 have c3:=s12.trans (D2.cut s3)
 have eP3:=s3 _ _ eP
 refine⟨gw,fun a1 n1=>⟨_,rfl,_,rfl,gw,fun a2 n2=>⟨_,rfl,_,rfl,gw,fun a3 n3=>⟨gw,fun q nq=>?_⟩⟩⟩⟩
 obtain⟨D4,z1,z2,z3⟩:=D3.two n1 n2 (y:=.lst [.str one,.str l1.name])
 have t4:aQ H3 (upd (upd H3 a1 (.lst [])) a2 (.lst [.str one,.str l1.name])):=(aB n1).trans (aB n2)
 have eP4:=t4 _ _ eP3
 generalize upd (upd H3 a1 (.lst [])) a2 (.lst [.str one,.str l1.name])=H4 at D4 z1 z2 z3 t4 eP4 n3 nq ⊢
 obtain⟨D5,y1,y2,y3⟩:=D4.two n3 nq (y:=.tup [.str "order",.str (cD d.c4 ps.length),.ref a1,.ref a2,.ref a3])
 have t5:aQ H4 (upd (upd H4 a3 (.lst [.str l1.name,.str l2.name])) q (.tup [.str "order",.str (cD d.c4 ps.length),.ref a1,.ref a2,.ref a3])):=(aB n3).trans (aB nq)
 have eP5:=t5 _ _ eP4
 generalize upd (upd H4 a3 (.lst [.str l1.name,.str l2.name])) q (.tup [.str "order",.str (cD d.c4 ps.length),.ref a1,.ref a2,.ref a3])=H5 at D5 y1 y2 y3 t5 eP5 ⊢
 have c5:=c3.trans (z3.trans y3)
 refine⟨d.P,xs,_,rfl,rfl,eP5,by omega,?_⟩
 have D6:=D5.part (p:=⟨8,cD d.c4 ps.length,[],[one,l1.name],[l1.name,l2.name]⟩) ⟨q,a1,a2,a3,rfl,y2,y3 _ _ z1,y3 _ _ z2,y1⟩ ⟨by show 8 <11;omega,rfl,rfl,rfl,by simp⟩ rfl eP5
 have c6:cM d.E (upd H5 d.P (.lst (xs ++ [.ref q])))=cM d.E H5:=gm (by simp)
 generalize upd H5 d.P (.lst (xs ++ [.ref q]))=H6 at D6 c6 ⊢
 refine⟨_,rfl,d.S,_,2,_,rfl,rfl,D6.seqS,aK (j:=2) rfl,.inl ⟨rfl,_,bR.of D6.opens⟩,_,rfl,d.O,_,_,rfl,rfl,D6.opens,by rw [lM];omega,?_⟩
 have D7:=D6.open (os':=os ++ [l2.name])
 rw [List.map_append] at D7
 have nd:=D7.nod (by rw [lP,lP,List.length_singleton,List.length_singleton];omega)
 have wl:=w.loop (p:=⟨8,cD d.c4 ps.length,[],[one,l1.name],[l1.name,l2.name]⟩) (rest:=os) (one:=one) (own:=l1.name) (fresh:=l2.name) rfl rfl (.refl _) (by simpa using nd)
 refine k _ _ _ _ ⟨by rw [gm (by simp),c6];exact c5,D7,by simpa [uL] using wl,by rw [lP,List.length_singleton];omega,by rw [lP,List.length_singleton];omega,by simp,by simp⟩
inductive yW (vs:List V) (H:Hp) (Q:VK) (E:XK):Prop where
 | mk:∀(d:Dw) (ls:List aH) (ps:List PD) (os:List Str) (c:Int) (back:List Str) (odd:Bool),vs=[.ref d.S,.int c,.bl odd]->oh d H ls ps os->Drawn.WF (uL ls ps os back)->os≠[]->os.length<=4->ls.length<=20->ps.length<=22->(∀ls' ps' os' H',Zo d H H' ls ps back ls' ps' os'->Q .non H')->yW vs H Q E
theorem Jo (T:Txt w K mg t):FO P w K mg base 6 t.Bm ["_law_state", "_law_cell_here", "_law_odd"] (yW):=by
 have sc:=T.uI.sc ["_law_state", "_law_cell_here", "_law_odd", "_law_way", "_law_one"]
 refine T.uI.F.ok sc ln (fun _ _ _ _ H vs Q E hr h=>?_)
 obtain⟨d,ls,ps,os,c,back,odd,rfl,D,w,hne,ho,hls,hps,k⟩:=h
 refine⟨_,(au (sN sc 3 (bD cL (eQ (bG T) T.bI hr (aa (pv 1) (aa az ak ao) aj)) az))
  (au (sN sc 4 (eQ (rZ T) T.mO hr (aa (pv 0) (aa (eQ (bG T) T.bI hr (aa (pv 1) (aa az ak ao) aj)) ak aX) aj)))
  (aA (fU (bU (PW.pt (zN (bz xq (pv 3) az (bT _)) (yj (bz xq (bJ cC (by rfl) T.gA d7 (aa (aU aM (pv 0) az (fun _ _=>rfl)) ak aD)) az (bT _)))))
   (aA (bO (eQ (dm T) T.cZ hr (aa (pv 0) (aa (pv 1) (aa bF (aa (bj ak) (aa (bj (aa (pv 4) ak aj)) (aa az ak ao) bw) bw) ao) aj) aj))))
   (aA (fU (bU (bz fQ (pv 3) az (bT _))
    (au (bO (eQ (dm T) T.cZ hr (aa (pv 0) (aa (pv 1) (aa bF (aa (bj ak) (aa (bj (aa (pv 4) ak aj)) (aa az ak ao) bw) bw) ao) aj) aj)))
    (aA (bO (eQ (dm T) T.cZ hr (aa (pv 0) (aa (pv 1) (aa bF (aa (bj ak) (aa (bj (aa (Lq PySem.F.plainAttrs_list PySem.F.slot_list_pop PySem.F.type_list_pop Lk (aU aM (pv 0) az (fun _ _=>rfl))) ak aX)) (aa az ak ao) bw) bw) ao) aj) aj)))))
    (aA (fU (bU (PW.pt (zN (bz xq (pv 3) az (bT _)) (yj (bz Nk (bJ cC (by rfl) T.gA d7 (aa (aU aM (pv 0) az (fun _ _=>rfl)) ak aD)) az (bT _)))))
     (aA (bO (eQ (Kr T) T.xW hr (aa (pv 0) (aa (pv 1) (aa (pv 4) (aa (pv 2) ak aj) aj) aj) aj))))
     (aA (fU (bU (bz xq (pv 3) az (bT _))
      (aA (bO (eQ (dm T) T.cZ hr (aa (pv 0) (aa (pv 1) (aa bF (aa (bj (aa (eQ (lX T) T.jq hr (aa (pv 1) (aa az ak ao) aj)) (aa (eQ (lX T) T.jq hr (aa (pv 1) (aa az ak ao) aj)) ak aX) aX)) (aa (bj (aa (pv 4) ak aj)) (aa az ak ao) bw) bw) ao) aj) aj))))
      (aA (fU (bU (bz fQ (pv 3) az (bT _))
       (aA (bO (eQ (dm T) T.cZ hr (aa (pv 0) (aa (pv 1) (aa bF (aa (bj (aa (eQ (lX T) T.jq hr (aa (pv 1) (aa az ak ao) aj)) ak aX)) (aa (bj (aa (pv 4) ak aj)) (aa az ak ao) bw) bw) ao) aj) aj))))
       (aA (fU (bU (bz fQ (bD cL (eQ (bG T) T.bI hr (aa (pv 1) (aa az ak ao) aj)) az) az (bT _))
        (aA (bO (eQ (Jx T) T.vh hr (aa (pv 0) (aa (pv 1) (aa (pv 4) ak aj) aj) aj))))
        (aA (bO (eQ (dm T) T.cZ hr (aa (pv 0) (aa (pv 1) (aa bF (aa (bj ak) (aa (bj (aa (pv 4) ak aj)) (aa az ak ao) bw) bw) ao) aj) aj)))))))))))))))))))))))),?_⟩
 have hl:sizeLine=16777216:=sizeLine_eq
 refine⟨_,rfl,_,_,rfl,_,_,rfl,rfl,by show(0:Int) <9;decide,?_⟩
 refine⟨_,rfl,_,rfl,_,_,rfl,d,ls,ps,os,_,rfl,D,hne,by omega,fun one os1 H1 p1 s1 D1=>?_⟩
 have w1:Drawn.WF (uL ls ps (one:: os1) back):=Wv w p1
 have lo:=p1.length_eq
 rw [List.length_cons] at lo
 have fin:∀{i:Nat} {nm:Str} {nums:List Int} {newl:List aH} {ins os2:List Str} {H':Hp},aQ (cM d.E H) (cM d.E H')->oh d H' (ls ++ newl) (ps ++ [⟨i,nm,nums,ins,newl.map (·.name)⟩]) (os2 ++ newl.map (·.name))->(one:: os1).Perm (ins ++ os2)->newl.length≠0->newl.length<=2->os2.length+newl.length<=4->Q .non H':=fun s DD hp h1 h2 h4=>
  k _ _ _ _ ⟨s,DD,rM w1 rfl DD hp h1 (by rw [lP];omega),by rw [lP,lM];omega,by rw [lP,lM];omega,by rw [lP];omega,by rw [lP,List.length_singleton];omega⟩
 refine⟨fun _ H'=>Q .non H',?_,fun _ _ h=>h⟩
 refine⟨_,rfl,_,_,rfl,rfl,_,rfl,Ey ?_ (fun h2 b=>?_) (fun b=>b)⟩
 ·refine⟨fun _ H'=>Q .non H',?_,fun _ _ h=>h⟩
  refine⟨_,rfl,rfl,_,rfl,lz (fun _=>?_) (fun _=>?_)⟩
  ·refine⟨_,rfl,_,rfl,gw,fun a1 n1=>⟨_,rfl,gw,fun a2 n2=>?_⟩⟩
   obtain⟨D9,z1,z2,z3⟩:=D1.two n1 n2 (y:=.lst [.str one])
   refine⟨d,_,_,os1,_,3,a1,a2,[],[one],2,rfl,D9,z1,z2,by omega,rfl,by simp,rfl,rfl,by omega,by omega,by omega,fun newl H8 hn s8 D8=>?_⟩
   obtain⟨l1,l2,rfl⟩:∃l1 l2,newl=[l1,l2]:=by
    match newl,hn with
    | [x,y],_=>exact⟨x,y,rfl⟩
   have w8:=rM w1 rfl D8 (.refl _) (by simp) (by simp;omega)
   have s18:=s1.trans (z3.trans s8)
   clear D9 z1 z2 z3 n1 n2 s8
   refine⟨_,rfl,_,rfl,gw,fun a3 n3=>?_⟩
   have s3:=aB (o:=.lst []) n3
   have D3:=D8.keep s3
   have c3:=s18.trans (D8.cut s3)
   have o3:=D8.out n3
   have e3:upd H8 a3 (.lst []) a3=some (.lst ([]:List V)):=aq
   generalize upd H8 a3 (.lst [])=H3 at s3 D3 c3 e3 ⊢
   have eo:((os1 ++ [l1,l2].map (·.name)).map V.str)=((os1 ++ [l1.name]).map V.str) ++ [.str l2.name]:=by simp
   have hop:=D3.opens
   rw [eo] at hop
   refine⟨_,rfl,d.S,_,2,_,rfl,rfl,D3.seqS,aK (j:=2) rfl,.inl ⟨rfl,_,bR.of D3.opens⟩,d.O,_,.str l2.name,rfl,rfl,hop,by rw [lP,List.length_singleton,Nat.add_sub_cancel];exact List.getElem?_concat_length,?_⟩
   rw [List.dropLast_concat]
   have D4:=D3.open (os':=os1 ++ [l1.name])
   have c4:cM d.E (upd H3 d.O (.lst ((os1 ++ [l1.name]).map V.str)))=cM d.E H3:=gm (by simp)
   have e4:=lK e3 o3
   generalize upd H3 d.O (.lst ((os1 ++ [l1.name]).map V.str))=H4 at D4 c4 ⊢
   refine⟨gw,fun a4 n4=>?_⟩
   have s5:=aB (o:=.lst [.str l2.name]) n4
   have D5:=D4.keep s5
   have c5:=D4.cut s5
   rw [c4] at c5
   have e5:=lK (E:=d.E) (H:=upd H4 a4 (.lst [.str l2.name])) aq (D4.out n4)
   refine⟨d,ls ++ [l1,l2],_,os1 ++ [l1.name],_,1,a3,a4,[],[l2.name],0,rfl,D5,c5 _ _ e4,e5,by omega,rfl,by simp,rfl,rfl,by simp;omega,by simp;omega,by simp;omega,fun newl2 H9 hn2 s9 D9=>?_⟩
   have hz:newl2=[]:=List.length_eq_zero_iff.mp hn2
   subst hz
   have wt:=w8.take (p:=⟨1,cD d.c4 (ps ++ [(⟨3,cD d.c4 ps.length,[],[one],[l1,l2].map (·.name)⟩:PD)]).length,[],[l2.name],[]⟩) (rest:=os1 ++ [l1.name]) (y:=l2.name) (x:=l1.name) rfl rfl (by
     show(os1 ++ [l1.name,l2.name]).Perm (l2.name:: (os1 ++ [l1.name]))
     rw [show os1 ++ [l1.name,l2.name]=(os1 ++ [l1.name]) ++ [l2.name] by simp]
     exact List.perm_append_comm) (by simp) (Drawn.jr.part (p:=⟨3,cD d.c4 ps.length,[],[one],[l1,l2].map (·.name)⟩) (by simp) (by simp) (by simp))
   rw [List.map_nil,List.append_nil,List.append_nil] at D9
   exact k _ _ _ _ ⟨c3.trans (c5.trans s9),D9,wt,by simp,by simp;omega,by simp,by simp⟩
  ·refine⟨fun _ H'=>Q .non H',?_,fun _ _ h=>h⟩
   refine⟨_,rfl,_,_,rfl,rfl,_,rfl,Ey ?_ (fun h2 b=>?_) (fun b=>b)⟩
   ·refine⟨fun _ H'=>Q .non H',?_,fun _ _ h=>h⟩
    refine⟨_,rfl,_,_,rfl,rfl,_,rfl,lz (fun _=>?_) (fun _=>?_)⟩
    ·refine⟨_,rfl,_,rfl,_,rfl,c,8,rfl,_,rfl,c,9,rfl,gw,fun a1 n1=>⟨_,rfl,gw,fun a2 n2=>?_⟩⟩
     obtain⟨D9,z1,z2,z3⟩:=D1.two n1 n2 (y:=.lst [.str one])
     refine⟨d,_,_,os1,_,4,a1,a2,[uc c 8,uc c 9],[one],1,rfl,D9,z1,z2,by omega,rfl,?_,rfl,rfl,by omega,by omega,by omega,fun newl H8 hn s8 D8=>?_⟩
     ·intro v hv
      rcases List.mem_cons.mp hv with rfl | hv
      ·exact wj _ _
      ·rw [List.mem_singleton] at hv
       subst hv
       exact wj _ _
     exact fin (s1.trans (z3.trans s8)) D8 (.refl _) (by omega) (by omega) (by omega)
    ·refine⟨fun _ H'=>Q .non H',?_,fun _ _ h=>h⟩
     refine⟨_,rfl,rfl,_,rfl,lz (fun _=>?_) (fun _=>?_)⟩
     ·refine⟨_,rfl,_,rfl,_,rfl,c,8,rfl,gw,fun a1 n1=>⟨_,rfl,gw,fun a2 n2=>?_⟩⟩
      obtain⟨D9,z1,z2,z3⟩:=D1.two n1 n2 (y:=.lst [.str one])
      refine⟨d,_,_,os1,_,5,a1,a2,[uc c 8],[one],1,rfl,D9,z1,z2,by omega,rfl,?_,rfl,rfl,by omega,by omega,by omega,fun newl H8 hn s8 D8=>?_⟩
      ·intro v hv
       rw [List.mem_singleton] at hv
       subst hv
       exact wj _ _
      exact fin (s1.trans (z3.trans s8)) D8 (.refl _) (by omega) (by omega) (by omega)
     ·refine⟨fun _ H'=>Q .non H',?_,fun _ _ h=>h⟩
      refine⟨_,rfl,_,_,rfl,_,_,rfl,rfl,by show(0:Int) <2;decide,rfl,_,rfl,lz (fun _=>?_) (fun _=>?_)⟩
      ·exact⟨_,rfl,_,rfl,_,rfl,d,ls,ps,os1,c,one,back,rfl,D1,w1,by omega,hls,hps,fun ls' ps' os' H' X=>k ls' ps' os' H' ⟨s1.trans X.cut,X.at',X.wf,X.o1,X.o4,X.l2,X.p2⟩⟩
      ·refine⟨_,rfl,_,rfl,gw,fun a1 n1=>⟨_,rfl,gw,fun a2 n2=>?_⟩⟩
       obtain⟨D9,z1,z2,z3⟩:=D1.two n1 n2 (y:=.lst [.str one])
       refine⟨d,_,_,os1,_,2,a1,a2,[],[one],1,rfl,D9,z1,z2,by omega,rfl,by simp,rfl,rfl,by omega,by omega,by omega,fun newl H8 hn s8 D8=>?_⟩
       exact fin (s1.trans (z3.trans s8)) D8 (.refl _) (by omega) (by omega) (by omega)
   ·refine⟨_,rfl,d.S,_,2,_,rfl,rfl,D1.seqS,aK (j:=2) rfl,.ref d.O,os1.length,rfl,.inl ⟨_,bR.of D1.opens,by simp⟩,_,_,rfl,rfl,_,rfl,lz (fun h3=>?_) (fun _=>b)⟩
    have hne1:os1≠[]:=fun z=>by rw [z] at h3;exact absurd (of_decide_eq_true h3) (by decide)
    exact⟨_,rfl,_,rfl,_,rfl,_,rfl,d,ls,ps,os1,c,one,back,odd,rfl,D1,w1,hne1,by omega,hls,hps,fun ls' ps' os' H' X=>k ls' ps' os' H' ⟨s1.trans X.cut,X.at',X.wf,X.o1,X.o4,X.l2,X.p2⟩⟩
 ·refine⟨_,rfl,d.S,_,2,_,rfl,rfl,D1.seqS,aK (j:=2) rfl,.ref d.O,os1.length,rfl,.inl ⟨_,bR.of D1.opens,by simp⟩,_,_,rfl,rfl,_,rfl,lz (fun h3=>?_) (fun _=>b)⟩
  have h3:os1.length <3:=by have:=of_decide_eq_true h3;omega
  refine⟨_,rfl,_,rfl,gw,fun a1 n1=>⟨_,rfl,gw,fun a2 n2=>?_⟩⟩
  obtain⟨D9,z1,z2,z3⟩:=D1.two n1 n2 (y:=.lst [.str one])
  refine⟨d,_,_,os1,_,3,a1,a2,[],[one],2,rfl,D9,z1,z2,by omega,rfl,by simp,rfl,rfl,by omega,by omega,by omega,fun newl H8 hn s8 D8=>?_⟩
  exact fin (s1.trans (z3.trans s8)) D8 (.refl _) (by omega) (by omega) (by omega)
inductive uP (vs:List V) (H:Hp) (Q:VK) (E:XK):Prop where
 | mk:∀(d:Dw) (ls:List aH) (ps:List PD) (os:List Str) (c:Int) (B:Addr) (back:List Str),vs=[.ref d.S,.int c,.ref B]->oh d H ls ps os->Drawn.WF (uL ls ps os back)->cM d.E H B=some (.lst (back.map V.str))->os≠[]->os.length<=4->back.length<=2->ls.length<=12->ps.length<=10->(∀ls' ps' H',aQ (cM d.E H) (cM d.E H')->oh d H' ls' ps' []->G9 (ls'.map (·.name)) ps'->ls'.length<=17->ls.length<=ls'.length->ps'.length<=16->1<=ps'.length->Q .non H')->uP vs H Q E
theorem Ep (T:Txt w K mg t):FO P w K mg base 5 t.wI ["_law_state", "_law_cell_here", "_law_back"] (uP):=by
 have sc:=T.qU.sc ["_law_state", "_law_cell_here", "_law_back", "_law_one", "_law_other", "_law_kind", "_law_lane_here", "_law_fresh"]
 refine T.qU.F.ok sc ln (fun _ _ _ _ H vs Q E hr h=>?_)
 obtain⟨d,ls,ps,os,c,B,back,rfl,D,w,eB,hne,ho,hb,hls,hps,k⟩:=h
 refine⟨_,(au (JN PassesOwn.never (bz Nk (bJ cC (by rfl) T.gA d7 (aa (aU aM (pv 0) az (fun _ _=>rfl)) ak aD)) az (bT _))
   (au (sN sc 3 (Ah PySem.F.plainAttrs_list PySem.F.slot_list_pop PySem.F.type_list_pop Ft (aU aM (pv 0) az (fun _ _=>rfl)) (aa az ak ao)))
   (au (sN sc 4 (Ah PySem.F.plainAttrs_list PySem.F.slot_list_pop PySem.F.type_list_pop Ft (aU aM (pv 0) az (fun _ _=>rfl)) (aa az ak ao)))
   (au (sN sc 5 (aU aM (bj (aa bF (aa bF (aa bF ak ao) ao) ao)) (bD cL (eQ (bG T) T.bI hr (aa (pv 1) (aa (bJ cC (by rfl) T.gA d7 (aa (aU aM (pv 0) az (fun _ _=>rfl)) ak aD)) ak aX) aj)) az) (fun _ _=>rfl)))
   (aA (bO (eQ (dm T) T.cZ hr (aa (pv 0) (aa (eQ (bG T) T.bI hr (aa (pv 1) (aa (bD eG az (bJ cC (by rfl) T.gA d7 (aa (aU aM (pv 0) az (fun _ _=>rfl)) ak aD))) ak bY) aj)) (aa (pv 5) (aa (bj ak) (aa (bj (aa (pv 3) (aa (pv 4) ak aj) aj)) (aa az ak ao) bw) bw) aj) aX) aj))))))))
  (au (fB PassesOwn.never rfl (cz (pv 2)) (gN sc 6)
   (au (sN sc 3 (Lq PySem.F.plainAttrs_list PySem.F.slot_list_pop PySem.F.type_list_pop Lk (aU aM (pv 0) az (fun _ _=>rfl))))
   (au (sN sc 7 (eQ (jT T) T.jd hr (aa (pv 0) (aa (eQ (bG T) T.bI hr (aa (pv 1) (aa (bD eG az (bJ cC (by rfl) T.gA d7 (aa (aU aM (pv 0) az (fun _ _=>rfl)) ak aD))) ak bY) aj)) (aa nM ak ao) aX) aj)))
   (au (bO (Ls (aU aM (pv 0) az (fun _ _=>rfl)) (aa (bV (aa bF (aa (eQ (kY T) T.iW hr (aa (aU aM (pv 0) az (fun _ _=>rfl)) (aa (bJ cC (by rfl) T.gA d7 (aa (aU aM (pv 0) az (fun _ _=>rfl)) ak aD)) ak aX) aD)) (aa (bj ak) (aa (bj (aa (pv 3) ak aj)) (aa (bj (aa (pv 6) (aa (pv 7) ak aj) aj)) ak bw) bw) bw) aX) ao)) ak bN)))
   (aA (bO (Ls (aU aM (pv 0) az (fun _ _=>rfl)) (aa (pv 7) ak aj))))))))
  (aA (bO (eQ (dm T) T.cZ hr (aa (pv 0) (aa (pv 1) (aa bF (aa (bj ak) (aa (bj (aa (Lq PySem.F.plainAttrs_list PySem.F.slot_list_pop PySem.F.type_list_pop Lk (aU aM (pv 0) az (fun _ _=>rfl))) ak aX)) (aa az ak ao) bw) bw) ao) aj) aj)))))),?_⟩
 have hl:sizeLine=16777216:=sizeLine_eq
 have hpos:0 <os.length:=List.length_pos_iff.mpr hne
 refine hide fun u hu=>?_
 refine J3 (fun σ H1=>∃(ls1:List aH) (ps1:List PD) (os1:List Str) (v3 v4 v5:Option V),σ=[some (.ref d.S),some (.int c),some (.ref B),v3,v4,v5,none,none]/\aQ (cM d.E H) (cM d.E H1)/\oh d H1 ls1 ps1 os1/\Drawn.WF (uL ls1 ps1 os1 back)/\1<=os1.length/\os1.length<=4/\ls.length<=ls1.length/\ls1.length+os1.length<=16/\ps1.length+os1.length<=14)
  (fun _ H1=>RQ H1 d.O) ⟨ls,ps,os,none,none,none,rfl,aQ.refl _,D,w,by omega,ho,Nat.le_refl _,by omega,by omega⟩ ?_ ?_
 ·rintro σ H1 ⟨ls1,ps1,os1,v3,v4,v5,rfl,s1,D1,w1,o1,o4,hl1,hl2,hp2⟩
  refine⟨_,rfl,d.S,_,2,_,rfl,rfl,D1.seqS,aK (j:=2) rfl,.ref d.O,os1.length,rfl,.inl ⟨_,bR.of D1.opens,by simp⟩,_,_,rfl,rfl,_,rfl,lz (fun h3=>?_) (fun h3=>?_)⟩
  ·have h3:1 <os1.length:=by have:=of_decide_eq_true h3;omega
   obtain⟨one,other,os2,rfl⟩:∃one other os2,os1=one:: other:: os2:=by
    match os1,h3 with
    | x:: y:: r,_=>exact⟨x,y,r,rfl⟩
   rw [List.length_cons,List.length_cons] at h3 o1 o4 hl2 hp2
   have lm:=JB D1.opens
   refine Yy fun De hD u hu=>?_
   refine⟨_,rfl,d.S,_,2,_,rfl,rfl,D1.seqS,aK (j:=2) rfl,.inl ⟨rfl,_,bR.of D1.opens⟩,d.O,_,0,0,.str one,rfl,rfl,D1.opens,by decide,by decide,LQ (by simp),rfl,?_⟩
   have D2:=D1.open (os':=other:: os2)
   have c2:cM d.E (upd H1 d.O (.lst ((other:: os2).map V.str)))=cM d.E H1:=gm (by simp)
   refine dJ (v:=u) hu fun u hu=>?_
   change Ab _ _ _ _ (upd H1 d.O (.lst ((other:: os2).map V.str)))
   generalize upd H1 d.O (.lst ((other:: os2).map V.str))=H2 at D2 c2 ⊢
   refine⟨_,rfl,d.S,_,2,_,rfl,rfl,D2.seqS,aK (j:=2) rfl,.inl ⟨rfl,_,bR.of D2.opens⟩,d.O,_,0,0,.str other,rfl,rfl,D2.opens,by decide,by decide,LQ (by simp),rfl,?_⟩
   have D3:=D2.open (os':=os2)
   have c3:cM d.E (upd H2 d.O (.lst (os2.map V.str)))=cM d.E H2:=gm (by simp)
   refine dJ (v:=u) hu fun u hu=>?_
   change Ab _ _ _ _ (upd H2 d.O (.lst (os2.map V.str)))
   generalize upd H2 d.O (.lst (os2.map V.str))=H3 at D3 c3 ⊢
   have s3:aQ (cM d.E H) (cM d.E H3):=by rw [c3,c2];exact s1
   refine⟨gw,fun a0 n0=>?_⟩
   have s0:=aB (o:=.lst [.str "add",.str "less",.str "add"]) n0
   have D0:=D3.keep s0
   have c0:=s3.trans (D3.cut s0)
   refine⟨_,rfl,_,rfl,d.S,_,2,_,rfl,rfl,D0.seqS,aK (j:=2) rfl,.ref d.O,os2.length,rfl,.inl ⟨_,bR.of D0.opens,by simp⟩,c,(os2.length:Int),rfl,_,_,rfl,rfl,by show(0:Int) <3;decide,?_⟩
   obtain⟨i,ei,hi⟩:=XF (cP c (os2.length:Int))
   refine⟨a0,_,_,_,rfl,rfl,bR.of aq,ei,?_⟩
   generalize upd H3 a0 (.lst [.str "add",.str "less",.str "add"])=H0 at s0 D0 c0 ⊢
   obtain⟨xs,eP,aP⟩:=D0.parts
   have xl:=aP.length
   have hN:([]:List Int).length=cN i:=by rcases hi with rfl | rfl <;> rfl
   have hI:[one,other].length=cI i:=by rcases hi with rfl | rfl <;> rfl
   have hO:1=cO i:=by rcases hi with rfl | rfl <;> rfl
   subst hu
   refine⟨_,rfl,_,rfl,_,rfl,d.S,_,1,_,rfl,rfl,D0.seqS,aK (j:=1) rfl,.ref d.P,ps1.length,rfl,.inl ⟨_,bR.of eP,xl.symm⟩,_,_,rfl,rfl,_,_,rfl,?_⟩
   refine⟨_,rfl,gw,fun a1 n1=>⟨_,rfl,_,rfl,gw,fun a2 n2=>?_⟩⟩
   obtain⟨D9,z1,z2,z3⟩:=D0.two n1 n2 (y:=.lst [.str one,.str other])
   refine⟨d,_,_,os2,_,i,a1,a2,[],[one,other],1,rfl,D9,z1,z2,by omega,hN,by simp,hI,hO,by omega,by omega,by omega,fun newl H8 hn s8 D8=>?_⟩
   have w8:=rM w1 rfl D8 (.refl _) (by omega) (by rw [lP];omega)
   subst hD
   refine⟨⟨_,_,_,_,_,_,rfl,c0.trans (z3.trans s8),D8,w8,?_,?_,?_,?_,?_⟩,?_⟩
   ·rw [lP,lM];omega
   ·rw [lP,lM];omega
   ·rw [lP];omega
   ·rw [lP,lP,lM];omega
   ·rw [lP,lP,lM,List.length_singleton];omega
   ·rw [JB D8.opens,lm,lM,lM,lP,lM,List.length_cons,List.length_cons]
    omega
  ·have h3:os1.length=1:=by
    have:¬(1:Int) <(os1.length:Int):=fun z=>h3 (decide_eq_true z)
    omega
   obtain⟨y,rfl⟩:=List.length_eq_one_iff.mp h3
   refine dJ (v:=u) hu fun u hu=>?_
   refine⟨_,rfl,B,rfl,⟨_,bR.of (qH _ _ (s1 _ _ eB))⟩,?_⟩
   refine eZ (K:=K) (a:=B) (xs:=back.map V.str) (fun j σ H2=>∃(ls2:List aH) (ps2:List PD) (y:Str) (u3 u6 u7:Option V),σ=[some (.ref d.S),some (.int c),some (.ref B),u3,v4,v5,u6,u7]/\aQ (cM d.E H) (cM d.E H2)/\oh d H2 ls2 ps2 [y]/\Drawn.WF (uL ls2 ps2 [y] (back.drop j))/\ls.length<=ls2.length/\ls2.length<=15+j/\ps2.length<=13+j) ⟨ls1,ps1,y,v3,none,none,rfl,s1,D1,w1,hl1,by have z:=hl2;rw [List.length_singleton] at z;omega,by have z:=hp2;rw [List.length_singleton] at z;omega⟩ (fun j σ H2 _ ⟨ls2,ps2,y,u3,u6,u7,e,s2,h⟩=>bR.of (qH _ _ (s2 _ _ eB))) ?_ ?_
   ·rintro j x σ H2 hx ⟨ls2,ps2,y2,u3,u6,u7,rfl,s2,D2,w2,hl2',hl3,hp3⟩
    rw [List.getElem?_map] at hx
    obtain⟨bn,hbn,rfl⟩:=Option.map_eq_some_iff.mp hx
    have hj:j <back.length:=by
     rcases Nat.lt_or_ge j back.length with h | h
     ·exact h
     ·rw [List.getElem?_eq_none h] at hbn;cases hbn
    have hdr:back.drop j=bn:: back.drop (j+1):=by
     rw [List.drop_eq_getElem_cons hj]
     rw [List.getElem?_eq_getElem hj,Option.some.injEq] at hbn
     rw [hbn]
    refine QR fun De hD u hu=>?_
    refine⟨_,rfl,d.S,_,2,_,rfl,rfl,D2.seqS,aK (j:=2) rfl,.inl ⟨rfl,_,bR.of D2.opens⟩,d.O,_,.str y2,rfl,rfl,D2.opens,rfl,?_⟩
    have D3:=D2.open (os':=[])
    have c3:cM d.E (upd H2 d.O (.lst (([]:List Str).map V.str)))=cM d.E H2:=gm (by simp)
    refine dJ (v:=u) hu fun u hu=>?_
    change Ab _ _ _ _ (upd H2 d.O (.lst (([]:List Str).map V.str)))
    generalize upd H2 d.O (.lst (([]:List Str).map V.str))=H3 at D3 c3 ⊢
    obtain⟨xs,eP,aP⟩:=D3.parts
    have xl:=aP.length
    refine⟨_,rfl,_,rfl,_,rfl,d.S,_,1,_,rfl,rfl,D3.seqS,aK (j:=1) rfl,.ref d.P,ps2.length,rfl,.inl ⟨_,bR.of eP,xl.symm⟩,_,_,rfl,rfl,_,_,rfl,d,ls2,ps2,[],_,false,rfl,D3,by omega,fun l H4 _ s4 D4=>?_⟩
    rw [c3] at s4
    have s24:=s2.trans s4
    obtain⟨xs4,eP4,aP4⟩:=D4.parts
    have xl4:=aP4.length
    refine dJ (v:=u) hu fun u hu=>?_
    refine⟨_,rfl,d.S,_,1,_,rfl,rfl,D4.seqS,aK (j:=1) rfl,.inl ⟨rfl,_,bR.of eP4⟩,?_⟩
    refine⟨_,rfl,d.S,_,4,_,rfl,rfl,D4.seqS,aK (j:=4) rfl,?_⟩
    refine⟨_,rfl,d.S,_,1,_,rfl,rfl,D4.seqS,aK (j:=1) rfl,.ref d.P,ps2.length,rfl,.inl ⟨_,bR.of eP4,xl4.symm⟩,?_⟩
    refine⟨d.c4,ps2.length,rfl,by omega,fun H5 s5=>?_⟩
    have D5:=D4.keep s5
    have c5:=s24.trans (D4.cut s5)
    have eP5:=s5 _ _ eP4
    refine⟨gw,fun a1 n1=>⟨_,rfl,gw,fun a2 n2=>⟨_,rfl,_,rfl,gw,fun a3 n3=>⟨gw,fun q nq=>?_⟩⟩⟩⟩
    obtain⟨D6,z1,z2,z3⟩:=D5.two n1 n2 (y:=.lst [.str y2])
    have t6:aQ H5 (upd (upd H5 a1 (.lst [])) a2 (.lst [.str y2])):=(aB n1).trans (aB n2)
    have eP6:=t6 _ _ eP5
    generalize upd (upd H5 a1 (.lst [])) a2 (.lst [.str y2])=H6 at D6 z1 z2 z3 t6 eP6 n3 nq ⊢
    obtain⟨D7,y1,y2',y3⟩:=D6.two n3 nq (y:=.tup [.str "copy",.str (cD d.c4 ps2.length),.ref a1,.ref a2,.ref a3])
    have t7:aQ H6 (upd (upd H6 a3 (.lst [.str bn,.str l.name])) q (.tup [.str "copy",.str (cD d.c4 ps2.length),.ref a1,.ref a2,.ref a3])):=(aB n3).trans (aB nq)
    have eP7:=t7 _ _ eP6
    generalize upd (upd H6 a3 (.lst [.str bn,.str l.name])) q (.tup [.str "copy",.str (cD d.c4 ps2.length),.ref a1,.ref a2,.ref a3])=H7 at D7 y1 y2' y3 t7 eP7 ⊢
    have c7:=c5.trans (z3.trans y3)
    refine⟨d.P,xs4,_,rfl,rfl,eP7,by omega,?_⟩
    have D8:=D7.part (p:=⟨3,cD d.c4 ps2.length,[],[y2],[bn,l.name]⟩) ⟨q,a1,a2,a3,rfl,y2',y3 _ _ z1,y3 _ _ z2,y1⟩ ⟨by show 3 <11;omega,rfl,rfl,rfl,by simp⟩ rfl eP7
    have c8:cM d.E (upd H7 d.P (.lst (xs4 ++ [.ref q])))=cM d.E H7:=gm (by simp)
    generalize upd H7 d.P (.lst (xs4 ++ [.ref q]))=H8 at D8 c8 ⊢
    subst hu
    refine⟨_,rfl,d.S,_,2,_,rfl,rfl,D8.seqS,aK (j:=2) rfl,.inl ⟨rfl,_,bR.of D8.opens⟩,_,rfl,d.O,_,_,rfl,rfl,D8.opens,by simp;omega,?_⟩
    have D9:=D8.open (os':=[l.name])
    have nd:=D9.nod (by rw [lP,List.length_singleton];omega)
    rw [hdr] at w2
    have wc:=w2.closeBack (p:=⟨3,cD d.c4 ps2.length,[],[y2],[bn,l.name]⟩) (rest:=back.drop (j+1)) (one:=y2) (b:=bn) (fresh:=l.name) rfl rfl (.refl _) rfl (by simpa using nd)
    subst hD
    exact⟨ls2 ++ [l],_,l.name,_,_,_,rfl,by rw [gm (by simp),c8];exact c7,D9,by simpa [uL] using wc,by rw [lP];omega,by rw [lP,List.length_singleton];omega,by rw [lP,List.length_singleton];omega⟩
   rintro σ H2 ⟨ls2,ps2,y2,u3,u6,u7,rfl,s2,D2,w2,hl2',hl3,hp3⟩
   rw [lM] at w2 hl3 hp3
   rw [List.drop_length] at w2
   subst hu
   refine⟨_,rfl,_,rfl,gw,fun a3 n3=>?_⟩
   have t3:=aB (o:=.lst []) n3
   have D3:=D2.keep t3
   have c3:=s2.trans (D2.cut t3)
   have o3:=D2.out n3
   have e3:=lK (aq (H:=H2) (a:=a3) (o:=.lst ([]:List V))) o3
   generalize upd H2 a3 (.lst [])=H3 at t3 D3 c3 e3 ⊢
   refine⟨_,rfl,d.S,_,2,_,rfl,rfl,D3.seqS,aK (j:=2) rfl,.inl ⟨rfl,_,bR.of D3.opens⟩,d.O,_,.str y2,rfl,rfl,D3.opens,rfl,?_⟩
   have D4:=D3.open (os':=[])
   have c4:cM d.E (upd H3 d.O (.lst (([]:List Str).map V.str)))=cM d.E H3:=gm (by simp)
   rw [show([y2].map V.str).dropLast=([]:List Str).map V.str from rfl]
   refine⟨gw,fun a4 n4=>?_⟩
   generalize upd H3 d.O (.lst (([]:List Str).map V.str))=H4 at D4 c4 n4 ⊢
   have s5:=aB (o:=.lst [.str y2]) n4
   have D5:=D4.keep s5
   have c5:=D4.cut s5
   rw [c4] at c5
   have e5:=lK (E:=d.E) (H:=upd H4 a4 (.lst [.str y2])) aq (D4.out n4)
   refine⟨d,ls2,ps2,[],_,1,a3,a4,[],[y2],0,rfl,D5,c5 _ _ e3,e5,by omega,rfl,by simp,rfl,rfl,by omega,by omega,by simp,fun newl2 H9 hn2 s9 D9=>?_⟩
   have hz:newl2=[]:=List.length_eq_zero_iff.mp hn2
   subst hz
   rw [List.map_nil,List.append_nil,List.append_nil] at D9
   obtain⟨x1,x2,x3⟩:=w2.last (p:=⟨1,cD d.c4 ps2.length,[],[y2],[]⟩) (y:=y2) rfl rfl rfl rfl
   exact k ls2 _ H9 (c3.trans (c5.trans s9)) D9 ⟨w2.nod,x1,x2,y2,x3⟩ (by omega) hl2' (by rw [lP,List.length_singleton];omega) (by rw [lP,List.length_singleton];omega)
 ·intro σ H' Q' Q'' hm hq
  obtain⟨x1,x2,x3,x4,x5,x6,x7,x8,x9,x10,x11,x12,x13,x14,x15,x16,x17,x18,x19,x20,q⟩:=hq
  exact⟨x1,x2,x3,x4,x5,x6,x7,x8,x9,x10,x11,x12,x13,x14,x15,x16,x17,x18,x19,x20,hm _ _ q⟩
inductive Bp (K:PySem.W.Frag) (vs:List V) (H:Hp) (Q:VK) (E:XK):Prop where
 | mk:∀(a:Addr) (ns:List Int) (start steps:Nat) (odd:Bool),vs=[.ref a,.int (start:Nat),.int (steps:Nat),.bl odd]->bR K H a (ns.map V.int)->steps<=4->(∀(T L P:Addr) (ls:List aH) (ps:List PD) (H':Hp),aQ H H'->H L=none->H P=none->L≠P->H' T=some (.tup [.ref L,.ref P])->yh H' L P ls ps->RZ (jQ ns start) (jQ ns (start+1)) ls ps->Q (.ref T) H')->Bp K vs H Q E
noncomputable abbrev Eh:List Str:=["_law_script", "_law_start", "_law_steps", "_law_odd", "_law_one", "_law_other", "_law_state", "_law_k", "_law_back", "_law_at"]
theorem JX (T:Txt w K mg t):FO P w K mg base 7 t.DW ["_law_script", "_law_start", "_law_steps", "_law_odd"] (Bp K):=by
 have sc:=T.xY.sc Eh
 refine T.xY.F.ok sc ln (fun _ _ _ _ H vs Q E hr h=>?_)
 obtain⟨a,ns,start,steps,odd,rfl,hS,hst,k⟩:=h
 refine⟨_,(au (sN sc 4 (eQ (nZ T) T.jN hr (aa (pv 0) (aa (pv 1) ak aj) aj)))
  (au (sN sc 5 (eQ (nZ T) T.jN hr (aa (pv 0) (aa (bD eG (pv 1) az) ak bY) aj)))
  (au (sN sc 6 (bj (aa (bj ak) (aa (bj ak) (aa (bj ak) (aa (pv 4) (aa (pv 5) ak aj) aj) bw) bw) bw)))
  (au (fB PassesOwn.never rfl (oV rfl T.qg (aa (bD eG az (bD cL (eQ (bG T) T.bI hr (aa (pv 4) (aa az ak ao) aj)) az)) ak bY)) (gN sc 7)
   (aA (bO (eQ (dm T) T.cZ hr (aa (pv 6) (aa (eQ (bG T) T.bI hr (aa (pv 5) (aa (pv 7) ak aj) aj)) (aa bF (aa (bj ak) (aa (bj ak) (aa az ak ao) bw) bw) ao) aX) aj)))))
  (au (pA (i:=8) [5,6] Eh (bx (top 83)) rfl sc.nd rfl (oV rfl T.qg (aa (bD cL (eQ (bG T) T.bI hr (aa (pv 4) (aa az ak ao) aj)) az) ak bY)) (fun _ _ _ _ _=>fC) (fun _ _ _ _ _=>(eQ (jT T) T.jd hr (aa (pv 2) (aa (eQ (bG T) T.bI hr (aa (pv 1) (aa (bD eG az (pv 0)) ak bY) aj)) (aa nM ak ao) aX) aj))))
  (au (bO (Ah PySem.F.plainAttrs_list PySem.F.slot_list_extend PySem.F.type_list_extend G6 (aU aM (pv 6) az (fun _ _=>rfl)) (aa (pv 8) ak aj)))
  (au (fB PassesOwn.never rfl (oV rfl T.qg (aa (pv 2) ak aj)) (gN sc 7)
   (aA (bO (eQ (Jo T) T.uI hr (aa (pv 6) (aa (eQ (nZ T) T.jN hr (aa (pv 0) (aa (bD eG (bD eG (pv 1) az) (pv 7)) ak bY) aj)) (aa (pv 3) ak aj) aX) aj)))))
  (au (bO (eQ (Ep T) T.qU hr (aa (pv 6) (aa (pv 5) (aa (pv 8) ak aj) aj) aj)))
  (au (sN sc 9 (bD cL (eQ (bG T) T.bI hr (aa (pv 4) (aa az ak ao) aj)) (bJ cC (by rfl) T.gA d7 (aa (aU aM (pv 6) az (fun _ _=>rfl)) ak aD))))
  (aA (aN (bV (aa (aU aM (pv 6) az (fun _ _=>rfl)) (aa (bD Ac (lu ud (aU aM (pv 6) az (fun _ _=>rfl)) (lU (pv 9)) p8) (lu ud (aU aM (pv 6) az (fun _ _=>rfl)) p8 (lU (pv 9)))) ak bY) aD))))))))))))),?_⟩
 have hl:sizeLine=16777216:=sizeLine_eq
 refine hide fun u hu=>?_
 refine⟨_,rfl,_,rfl,a,ns,start,rfl,hS,?_⟩
 refine dJ (v:=u) hu fun u hu=>?_
 refine⟨_,rfl,_,rfl,_,_,rfl,rfl,a,ns,start+1,rfl,hS,?_⟩
 refine dJ (v:=u) hu fun u hu=>?_
 refine⟨gw,fun L nL=>⟨gw,fun P' nP=>⟨gw,fun O nO=>⟨_,rfl,_,rfl,gw,fun S nS=>?_⟩⟩⟩⟩
 obtain⟨D1,s1,nP0⟩:=oh.init (jQ ns start) (jQ ns (start+1)) nL nP nO nS
 have nLP:L≠P':=D1.ne.1
 refine dJ (v:=u) hu fun u hu=>?_
 change Ab _ _ _ [some (.ref a),some (.int (start:Nat)),some (.int (steps:Nat)),some (.bl odd),some (.int (jQ ns start)),some (.int (jQ ns (start+1))),some (.ref S),none,none,none] (upd (upd (upd (upd H L (.lst [])) P' (.lst [])) O (.lst [])) S (.lst [.ref L,.ref P',.ref O,.int (jQ ns start),.int (jQ ns (start+1))]))
 generalize upd (upd (upd (upd H L (.lst [])) P' (.lst [])) O (.lst [])) S (.lst [.ref L,.ref P',.ref O,.int (jQ ns start),.int (jQ ns (start+1))])=H1 at D1 s1 ⊢
 obtain⟨d,hd⟩:∃d:Dw,d=⟨S,L,P',O,jQ ns start,jQ ns (start+1)⟩:=⟨_,rfl⟩
 rw [<-hd] at D1
 have hE:[L,P',O]=d.E:=by rw [hd]
 have hSd:S=d.S:=by rw [hd]
 have hLd:L=d.L:=by rw [hd]
 have hc3:jQ ns start=d.c3:=by rw [hd]
 have hc4:jQ ns (start+1)=d.c4:=by rw [hd]
 rw [hE] at s1
 rw [hLd] at nL nLP
 rw [hc3,hc4] at k
 rw [hSd,hc3,hc4]
 clear hd hE nP nO nS
 have g0:=Int.emod_nonneg (cP d.c3 5) (show(2:Int)≠0 by decide)
 have g1:=Int.emod_lt_of_pos (cP d.c3 5) (show(0:Int) <2 by decide)
 refine⟨_,rfl,_,_,rfl,_,_,rfl,rfl,by show(0:Int) <2;decide,_,_,rfl,rfl,1+cP d.c3 5 % 2,rfl,by omega,by omega,?_⟩
 obtain⟨g,hg,hg1,hg2⟩:∃g:Nat,(1+cP d.c3 5 % 2).toNat=g/\1<=g/\g<=2:=⟨_,rfl,by omega,by omega⟩
 rw [hg]
 refine Gi (fun j σ H2=>∃(ls:List aH) (ps:List PD) (os:List Str) (v7:Option V),σ=[some (.ref a),some (.int (start:Nat)),some (.int (steps:Nat)),some (.bl odd),some (.int d.c3),some (.int d.c4),some (.ref d.S),v7,none,none]/\aQ (cM d.E H1) (cM d.E H2)/\oh d H2 ls ps os/\Drawn.WF (uL ls ps os [])/\ls.length=j/\ps.length=j/\os.length=j) ⟨[],[],[],none,rfl,aQ.refl _,D1,Drawn.WF.start,rfl,rfl,rfl⟩ ?_ ?_
 ·rintro j σ H2 hj ⟨ls,ps,os,v7,rfl,s2,D2,w2,h1,h2,h3⟩
  refine Vm fun De hD=>?_
  refine⟨_,rfl,_,rfl,_,rfl,_,_,rfl,gw,fun a1 n1=>⟨gw,fun a2 n2=>?_⟩⟩
  obtain⟨D9,z1,z2,z3⟩:=D2.two n1 n2 (y:=.lst [])
  refine⟨d,ls,ps,os,_,0,a1,a2,[],[],1,rfl,D9,z1,z2,by omega,rfl,by simp,rfl,rfl,by omega,by omega,by omega,fun newl H8 hn s8 D8=>?_⟩
  have w8:=rM w2 rfl D8 (.refl _) (by omega) (by rw [lP];omega)
  subst hD
  exact⟨_,_,_,_,rfl,s2.trans (z3.trans s8),D8,w8,by rw [lP];omega,by rw [lP,List.length_singleton];omega,by rw [lP,lM];omega⟩
 rintro σ H2 ⟨ls,ps,os,v7,rfl,s2,D2,w2,h1,h2,h3⟩
 have b0:=Int.emod_nonneg (cP d.c3 6) (show(3:Int)≠0 by decide)
 have b1:=Int.emod_lt_of_pos (cP d.c3 6) (show(0:Int) <3 by decide)
 refine dJ (v:=u) hu fun u hu=>?_
 refine⟨_,rfl,_,_,rfl,_,_,rfl,rfl,by show(0:Int) <3;decide,cP d.c3 6 % 3,rfl,by omega,by omega,?_⟩
 obtain⟨nb,hnb,hnb2⟩:∃nb:Nat,(cP d.c3 6 % 3).toNat=nb/\nb<=2:=⟨_,rfl,by omega⟩
 rw [hnb]
 refine tX (fun j ys H3=>∃(ls3:List aH) (bl:List Str),ys=bl.map V.str/\bl.length=j/\aQ (cM d.E H1) (cM d.E H3)/\oh d H3 ls3 ps os/\Drawn.WF (uL ls3 ps (os ++ bl) bl)/\ls3.length=g+j) (by omega) ⟨ls,[],rfl,rfl,s2,D2,by rw [List.append_nil];exact w2,by omega⟩ (fun j ys H3 ⟨_,bl,e,e2,_⟩=>by rw [e,lM];omega) ?_ ?_
 ·rintro j ys H3 hj ⟨ls3,bl,rfl,hb,s3,D3,w3,h4⟩
  refine yes ⟨_,rfl,_,rfl,_,rfl,_,_,rfl,rfl,_,_,rfl,d,ls3,ps,os,_,true,rfl,D3,by omega,fun l H4 _ s4 D4=>?_⟩
  have nd:=D4.nod (by rw [lP,List.length_singleton];omega)
  have wb:=w3.backLane (b:=l.name) (by simpa using nd)
  exact⟨ls3 ++ [l],bl ++ [l.name],by simp,by simp [hb],s3.trans s4,D4,by simpa [uL] using wb,by rw [lP,List.length_singleton];omega⟩
 rintro ys H3 ⟨ls3,bl,rfl,hbl,s3,D3,w3,h4⟩ B nB
 have t4:=aB (o:=.lst (bl.map V.str)) nB
 have D4:=D3.keep t4
 have s4:=s3.trans (D3.cut t4)
 have eB:=lK (aq (H:=H3) (a:=B) (o:=.lst (bl.map V.str))) (D3.out nB)
 generalize upd H3 B (.lst (bl.map V.str))=H4 at t4 D4 s4 eB ⊢
 refine dJ (v:=u) hu fun u hu=>?_
 refine⟨_,rfl,d.S,_,2,_,rfl,rfl,D4.seqS,aK (j:=2) rfl,.inl ⟨rfl,_,bR.of D4.opens⟩,_,rfl,d.O,B,_,_,rfl,rfl,D4.opens,qH _ _ eB,by rw [lM,lM];omega,?_⟩
 rw [<-List.map_append]
 have D5:=D4.open (os':=os ++ bl)
 have c5:cM d.E (upd H4 d.O (.lst ((os ++ bl).map V.str)))=cM d.E H4:=gm (by simp)
 generalize upd H4 d.O (.lst ((os ++ bl).map V.str))=H5 at D5 c5 ⊢
 rw [<-c5] at s4 eB
 refine dJ (v:=u) hu fun u hu=>?_
 refine⟨_,rfl,(steps:Int),rfl,by omega,by omega,?_⟩
 rw [Int.toNat_natCast]
 refine Gi (fun j σ H6=>∃(ls6:List aH) (ps6:List PD) (os6:List Str) (v7:Option V),σ=[some (.ref a),some (.int (start:Nat)),some (.int (steps:Nat)),some (.bl odd),some (.int d.c3),some (.int d.c4),some (.ref d.S),v7,some (.ref B),none]/\aQ (cM d.E H5) (cM d.E H6)/\oh d H6 ls6 ps6 os6/\Drawn.WF (uL ls6 ps6 os6 bl)/\1<=ls6.length/\ls6.length<=4+2 * j/\ps6.length<=2+2 * j/\os6≠[]/\os6.length<=4) ⟨ls3,ps,os ++ bl,v7,rfl,aQ.refl _,D5,w3,by omega,by omega,by omega,by intro z;have:=congrArg List.length z;rw [lP,List.length_nil] at this;omega,by rw [lP];omega⟩ ?_ ?_
 ·rintro j σ H6 hj ⟨ls6,ps6,os6,u7,rfl,s6,D6,w6,l0,l6,p6,o0,o6⟩
  have hS6:bR K H6 a (ns.map V.int):=qH.seq ((s1.trans (s4.trans s6)).seq hS)
  refine Vm fun De hD=>?_
  refine⟨_,rfl,_,rfl,_,rfl,_,_,rfl,rfl,_,rfl,_,_,rfl,rfl,a,ns,start+2+(0+j),rfl,hS6,_,rfl,d,ls6,ps6,os6,_,bl,odd,rfl,D6,w6,o0,o6,by omega,by omega,fun ls' ps' os' H' X=>?_⟩
  subst hD
  exact⟨ls',ps',os',_,rfl,s6.trans X.cut,X.at',X.wf,by have h1:=X.wf.ins.length_eq;have h2:=X.o1;rw [lP,lM] at h1;change _+os'.length=_ at h1;omega,by have:=X.l2;omega,by have:=X.p2;omega,by intro z;have:=X.o1;rw [z] at this;simp at this,X.o4⟩
 rintro σ H6 ⟨ls6,ps6,os6,u7,rfl,s6,D6,w6,l0,l6,p6,o0,o6⟩
 refine dJ (v:=u) hu fun u hu=>?_
 refine⟨_,rfl,_,rfl,_,rfl,d,ls6,ps6,os6,_,B,bl,rfl,D6,w6,s6 _ _ eB,o0,o6,by omega,by omega,by omega,fun ls7 ps7 H7 s7 D7 W7 l17 l7 p16 p1=>?_⟩
 obtain⟨xsL,eL,aL⟩:=D7.lanes
 obtain⟨xsP,eP,aP⟩:=D7.parts
 have xl:=aP.length
 refine dJ (v:=u) hu fun u hu=>?_
 refine⟨_,rfl,_,_,rfl,_,rfl,d.S,_,1,_,rfl,rfl,D7.seqS,aK (j:=1) rfl,.ref d.P,ps7.length,rfl,.inl ⟨_,bR.of eP,xl.symm⟩,cP d.c3 7,(ps7.length:Int),rfl,rfl,by omega,?_⟩
 have r0:=Int.emod_nonneg (cP d.c3 7) (show(ps7.length:Int)≠0 by omega)
 obtain⟨r,hr'⟩:∃r:Nat,cP d.c3 7 % (ps7.length:Int)=(r:Int):=⟨_,(Int.toNat_of_nonneg r0).symm⟩
 dsimp only
 rw [hr']
 subst hu
 refine⟨_,rfl,d.S,_,0,_,rfl,rfl,D7.seqS,aK (j:=0) rfl,?_⟩
 refine⟨_,rfl,d.S,_,1,_,rfl,rfl,D7.seqS,aK (j:=1) rfl,?_⟩
 refine⟨_,rfl,_,rfl,d.P,_,rfl,bR.of eP,fun q1 m1=>?_⟩
 rw [Pg]
 have t1:=aB (o:=.lst (xsP.drop r)) m1
 have f1:upd H7 q1 (.lst (xsP.drop r)) q1=some (.lst (xsP.drop r)):=aq
 have D8:=D7.keep t1
 have eP8:=t1 _ _ eP
 have eL8:=t1 _ _ eL
 generalize upd H7 q1 (.lst (xsP.drop r))=H8 at t1 f1 D8 eP8 eL8 ⊢
 refine⟨_,rfl,d.S,_,1,_,rfl,rfl,D8.seqS,aK (j:=1) rfl,_,rfl,_,rfl,d.P,_,rfl,bR.of eP8,fun q2 m2=>?_⟩
 rw [Tz]
 have t2:=aB (o:=.lst (xsP.take r)) m2
 have f2:upd H8 q2 (.lst (xsP.take r)) q2=some (.lst (xsP.take r)):=aq
 have f12:=t2 _ _ f1
 have eL9:=t2 _ _ eL8
 generalize upd H8 q2 (.lst (xsP.take r))=H9 at t2 f2 f12 eL9 ⊢
 refine⟨q1,q2,_,_,rfl,rfl,f12,f2,by rw [List.length_drop,List.length_take];omega,fun q3 m3=>?_⟩
 have t3:=aB (o:=.lst (xsP.drop r ++ xsP.take r)) m3
 have f3:upd H9 q3 (.lst (xsP.drop r ++ xsP.take r)) q3=some (.lst (xsP.drop r ++ xsP.take r)):=aq
 have eLA:=t3 _ _ eL9
 generalize upd H9 q3 (.lst (xsP.drop r ++ xsP.take r))=HA at t3 f3 eLA ⊢
 refine⟨gw,fun T' nT=>?_⟩
 have t4:=aB (o:=.tup [.ref d.L,.ref q3]) nT
 have sA:aQ H7 (upd HA T' (.tup [.ref d.L,.ref q3])):=t1.trans (t2.trans (t3.trans t4))
 have s17:aQ H (cM d.E H7):=s1.trans (s4.trans (s6.trans s7))
 have s07:aQ H H7:=s17.trans qH
 have free3:H q3=none:=s07.free (t1.free (t2.free m3))
 have cA:aQ (cM d.E H7) (upd HA T' (.tup [.ref d.L,.ref q3])):=qH.trans sA
 have nq:d.L≠q3:=aC eL9 m3
 have rp:=QD ps7 r
 refine k T' d.L q3 ls7 (ps7.drop r ++ ps7.take r) _ (s07.trans sA) nL free3 nq aq ⟨⟨xsL,t4 _ _ eLA,aL.imp fun _ _ h=>h.same cA⟩,⟨_,t4 _ _ f3,((aP.drop r).app (aP.take r)).imp fun _ _ h=>h.same cA⟩⟩ ⟨D7.lok,fun p hp=>D7.pok p (rp.mem_iff.mpr hp),D7.ln,?_,W7.perm rp,by omega,l17,by rw [<-rp.length_eq];exact p1,by rw [<-rp.length_eq];exact p16⟩
 rw [<-rp.length_eq,<-D7.pn]
 exact rp.map _
inductive DG (K:PySem.W.Frag) (vs:List V) (H:Hp) (Q:VK) (E:XK):Prop where
 | mk:∀x,vs=[x]->(((∃z:Str,x=.str z/\z.length<=100/\∀H',aQ H H'->Q (.bl (nameB z)) H')∨∃Tx,YW K H x Tx/\Tx∈qj/\Tx≠ "str" /\Q (.bl false) H))->DG K vs H Q E
theorem Mm (T:Txt w K mg t):FO P w K mg base 1 t.Hb ["thing"] (DG K):=by
 have sc:=T.zR.sc ["thing"]
 refine T.zR.F.ok sc ln (fun _ _ _ _ H vs Q E hr h=>?_)
 obtain⟨x,rfl,h⟩:=h
 refine⟨_,(au (bU (PW.pt (Aq (lL (jL (bJ yq (by rfl) T.jY jE (aa (pv 0) (aa (Cw (by rfl) T.Vt Ri) ak aj) aj)))) (vI (lL (yS wN wN az (bJ cC (by rfl) T.gA d7 (aa (pv 0) ak aj)) (jD (by rfl) T.CG))))))
   (aA (aN nM))
   bu)
  (aA (aN (zJ (wg zz (aU CT (pv 0) az (fun _ _=>rfl)) (jD (by rfl) T.GC) (by with_unfolding_all rfl)) (zP (bJ (yI rfl) (by rfl) T.Nt Hz (aa (fD [] ["thing"] (bx (top 24)) rfl (Wu (pv 0)) (fun _ _ _ _ _=>fC) (fun _ _ _ _ _=>(Xn (wg zz (pv 0) (jD (by rfl) T.GC) (by with_unfolding_all rfl)) (zP (wg zz (pv 0) (jD (by rfl) T.PX) (by with_unfolding_all rfl)))))) ak dU))))))),?_⟩
 have hl:sizeLine=16777216:=sizeLine_eq
 rcases h with ⟨z,rfl,hz,k⟩ | ⟨Tx,ty,hm,hne,k⟩
 ·refine⟨_,rfl,.str z, "str", "str",true,rfl,rfl,by decide,by decide,_,rfl,fc ?_⟩
  refine⟨_,rfl,.str z,z.length,rfl,⟨by omega,rfl⟩,_,_,rfl,rfl,_,rfl,?_⟩
  cases e:z.cps.toList with
  | nil=>
   have h0:z.length=0:=by rw [<-oU,e];rfl
   rw [h0]
   refine fc ⟨_,rfl,lE ?_⟩
   have:=k H (aQ.refl _)
   unfold nameB at this
   rw [e] at this
   exact this
  | cons c r=>
   have hlen:z.length=r.length+1:=by rw [<-oU,e];rfl
   refine m5 (by omega) ⟨_,_,rfl,rfl,_,rfl,lz (fun h=>?_) (fun h=>?_)⟩
   ·have h8:¬(z.length:Int)<=8:=by simpa using h
    have:=k H (aQ.refl _)
    unfold nameB at this
    rw [e] at this
    simp only [show ¬r.length<=7 by omega,decide_false,Bool.false_and] at this
    exact this
   ·have h8:(z.length:Int)<=8:=by simpa using h
    have hc0:Fx z.cps.toList 0=some c:=by rw [e];exact aK (xs:=c:: r) (j:=0) rfl
    refine⟨_,rfl,z,_,c,rfl,rfl,by omega,hc0,_,_,rfl,rfl,_,rfl,?_⟩
    have kk:∀H',aQ H H'->Q (.bl (low c && z.cps.toList.all fun d=>low d || Lw d)) H':=fun H' s'=>by
     have:=k H' s'
     unfold nameB at this
     rw [e] at this ⊢
     simp only [show r.length<=7 by omega,decide_true,Bool.true_and] at this
     exact this
    rw [QH]
    refine lz (fun hc=>?_) (fun hc=>?_)
    ·rw [hc,Bool.true_and] at kk
     refine⟨_,rfl,z,rfl,Qj (fun i ys H'=>H'=H/\ys=((z.cps.toList.take i).map fun d=>low d || Lw d).map V.bl) (by simp only [Str.length] at hz;omega) ⟨rfl,by simp⟩ (fun i ys H' ⟨_,e⟩=>by rw [e];simp only [lM,List.length_take];omega) ?_ ?_⟩
     ·rintro i d ys H' hd ⟨rfl,rfl⟩
      refine yes ⟨_,rfl,_,_,rfl,rfl,_,rfl,?_⟩
      have hd':z.cps.toList[i]?=some d:=by simpa using hd
      have next:∀b,b=(low d || Lw d)->(((z.cps.toList.take i).map fun d=>low d || Lw d).map V.bl) ++ [V.bl b]=((z.cps.toList.take (i+1)).map fun d=>low d || Lw d).map V.bl:=fun b hb=>by
       rw [List.take_add_one,hd',hb]
       simp
      rw [QH]
      refine lz (fun hl'=>?_) (fun hl'=>?_)
      ·exact⟨rfl,next true (by rw [hl'];rfl)⟩
      ·have hl2:low d=false:=by simpa using hl'
       refine⟨_,rfl,_,_,rfl,rfl,rfl,next _ ?_⟩
       rw [V7,hl2,Bool.false_or]
     ·rintro ys H' ⟨rfl,rfl⟩ D hD
      refine⟨D,(z.cps.toList.take z.cps.size).map fun d=>low d || Lw d,rfl,bR.of aq,?_⟩
      have hall:((z.cps.toList.take z.cps.size).map fun d=>low d || Lw d).all id=z.cps.toList.all fun d=>low d || Lw d:=by
       rw [List.take_of_length_le (by simp),List.all_map]
       rfl
      rw [hall]
      exact kk _ (aB hD)
    ·have hc':low c=false:=by simpa using hc
     rw [hc',Bool.false_and] at kk
     exact kk H (aQ.refl _)
 ·have hb:JS Tx "str" =false:=by
   simp only [qj,List.mem_cons,List.not_mem_nil,or_false] at hm
   rcases hm with rfl | rfl | rfl | rfl | rfl | rfl | rfl <;> first | decide | exact absurd rfl hne
  exact⟨_,rfl,x,Tx, "str",false,rfl,ty,by decide,hb,_,rfl,lE (lE k)⟩
inductive vH (K:PySem.W.Frag) (vs:List V) (H:Hp) (Q:VK) (E:XK):Prop where
 | mk:∀(a b:Addr) (xs ys:List V),vs=[.ref a,.ref b]->bR K H a xs->bR K H b ys->1<=xs.length->xs.length<=24->1<=ys.length->ys.length<=16->Q .non H->vH K vs H Q E
theorem Ew (T:Txt w K mg t):FO P w K mg base 1 t.wU ["lanes", "parts"] (vH K):=by
 have sc:=T.qP.sc ["lanes", "parts"]
 refine T.qP.F.ok sc ln (fun _ _ _ _ H vs Q E hr h=>?_)
 obtain⟨a,b,xs,ys,rfl,h1,h2,c1,c2,c3,c4,k⟩:=h
 refine⟨_,(au (bU (lL (yS wN wN az (bJ cC (by rfl) T.gA d7 (aa (pv 0) ak aj)) (jD (by rfl) T.Jm)))
   (aA fP)
   bu)
  (aA (bU (lL (yS wN wN az (bJ cC (by rfl) T.gA d7 (aa (pv 1) ak aj)) (jD (by rfl) T.Ij)))
   (aA fP)
   bu))),?_⟩
 have hl:sizeLine=16777216:=sizeLine_eq
 refine⟨_,rfl,.ref a,xs.length,rfl,.inl ⟨_,h1,rfl⟩,_,_,rfl,rfl,_,rfl,m5 (by omega) ⟨_,_,rfl,rfl,_,rfl,?_⟩⟩
 rw [show decide ((xs.length:Int)<=24)=true from decide_eq_true (by omega)]
 refine fc ?_
 refine⟨_,rfl,.ref b,ys.length,rfl,.inl ⟨_,h2,rfl⟩,_,_,rfl,rfl,_,rfl,m5 (by omega) ⟨_,_,rfl,rfl,_,rfl,?_⟩⟩
 rw [show decide ((ys.length:Int)<=16)=true from decide_eq_true (by omega)]
 exact fc k
inductive wB (K:PySem.W.Frag) (vs:List V) (H:Hp) (Q:VK) (E:XK):Prop where
 | mk:∀(z:Str) (d:Addr) (kvs:List (Key×V)),vs=[.str z,.ref d]->H d=some (.dK kvs)->nameB z=true->z.length<=100->cH kvs (Sum.inr z)=none->(∀H',aQ H H'->Q .non H')->wB K vs H Q E
theorem wO (T:Txt w K mg t):FO P w K mg base 2 t.yX ["name", "known"] (wB K):=by
 have sc:=T.ou.sc ["name", "known"]
 refine T.ou.F.ok sc ln (fun _ _ _ _ H vs Q E hr h=>?_)
 obtain⟨z,d,kvs,rfl,hd,hz,hl,hv,k⟩:=h
 refine⟨_,(au (bU (lL (jL (eQ (Mm T) T.zR hr (aa (pv 0) ak aj))))
   (aA fP)
   bu)
  (aA (bU (iH (z8 hr.u1 (pv 0) (pv 1)))
   (aA fP)
   bu))),?_⟩
 refine⟨_,rfl,.str z,rfl,.inl ⟨z,rfl,hl,fun H1 s1=>?_⟩⟩
 rw [hz]
 refine⟨_,rfl,fc ?_⟩
 refine⟨_,rfl,_,rfl,d,_,rfl,eX.k (k:=Sum.inr z) (s1 _ _ hd),?_⟩
 rw [hv]
 exact⟨_,rfl,fc (k _ s1)⟩
inductive zb (K:PySem.W.Frag) (vs:List V) (H:Hp) (Q:VK) (E:XK):Prop where
 | mk:∀(nm:V) (room:Int) (L:Addr) (ws:List Int),vs=[nm,.int room,.ref L]->yc K H L (ws.map V.int)->ws.length<=1000->((∀v∈ws,0<=v/\v <1000000000))->1<=room->(ws.length:Int)<=room->room<=199->(∀H',aQ H H'->Q .non H')->zb K vs H Q E
theorem Jc (T:Txt w K mg t):FO P w K mg base 3 t.Aj ["name", "room", "first"] (zb K):=by
 have sc:=T.vJ.sc ["name", "room", "first"]
 refine T.vJ.F.ok sc ln (fun _ _ _ _ H vs Q E hr h=>?_)
 obtain⟨nm,room,L,ws,rfl,hL,hw,hB,c1,c2,c3,k⟩:=h
 refine⟨_,(au (bU (PW.pt (Aq (lL (jL (eQ (Be T) T.sV hr (aa (pv 1) ak aj)))) (vI (lL (yS wN wN (bJ (Gm rfl) (by rfl) T.M7 Ja (aa az (aa (bJ cC (by rfl) T.gA d7 (aa (pv 2) ak aj)) ak aX) ao)) (pv 1) (jD (by rfl) T.Kh))))))
   (aA fP)
   bu)
  (aA (bU (lL (jL (bJ (yI rfl) (by rfl) T.Nt Hz (aa (fD [] ["name", "room", "first"] (bx (top 50)) rfl (U6 (cz (pv 2)) (Ii (pv 2))) (fun _ _ _ _ _=>fC) (fun _ _ _ _ _=>(eQ (uF T) T.pN hr (aa (pv 0) ak aj)))) ak dU))))
   (aA fP)
   bu))),?_⟩
 have hl:sizeLine=16777216:=sizeLine_eq
 have hlw:(ws.map V.int).length=ws.length:=lM ..
 refine⟨_,rfl,.int room, "int",true,rfl,rfl,by decide,by decide,true,rfl,fc ?_⟩
 refine⟨_,rfl,.ref L,(ws.map V.int).length,rfl,hL.len,_,_,rfl,_,rfl,_,_,rfl,rfl,_,rfl,m5 ?_ ⟨_,_,rfl,rfl,_,rfl,?_⟩⟩
 ·split <;> omega
 rw [show decide (room<=199)=true from decide_eq_true c3]
 refine fc ?_
 refine Qy (a:=L) (xs:=ws.map V.int) ?_ hL (fun j ys=>ys=(List.replicate j true).map V.bl) (by rw [lM];omega) rfl (fun j ys e=>by rw [e];simp) (fun j x ys hx e=>?_) (fun ys e D hD=>?_)
 ·exact fun R r=>⟨_,rfl,r⟩
 ·subst e
  rw [List.getElem?_map] at hx
  obtain⟨n,hn,rfl⟩:=Option.map_eq_some_iff.mp hx
  obtain⟨n0,n1⟩:=hB n (List.mem_of_getElem? hn)
  refine yes ⟨_,rfl,.int n,rfl,.inl ⟨n,rfl,rfl,?_⟩⟩
  rw [decide_eq_true n0,decide_eq_true n1,List.replicate_succ']
  simp
 ·subst e
  refine⟨D,_,rfl,bR.of aq,_,rfl,?_⟩
  rw [show((List.replicate (ws.map V.int).length true).all id)=true by simp]
  exact fc (k _ (aB hD))
inductive wJ (K:PySem.W.Frag) (t:lA) (vs:List V) (H:Hp) (Q:VK) (E:XK):Prop where
 | mk:∀(i:Nat) (nm:Str) (r d a1 a2 a3:Addr) (ns is os:List V) (kvs:List (Key×V)),vs=[.ref r,.ref d]->H r=some (.tup [.str (cg i),.str nm,.ref a1,.ref a2,.ref a3])->i<=10->H d=some (.dK kvs)->nameB nm=true->nm.length<=100->cH kvs (Sum.inr nm)=none->yc K H a1 ns->yc K H a2 is->yc K H a3 os->ns.length=cN i->is.length=cI i->os.length=cO i->((∀v∈ns,Val v))->(∀H' p,aQ H H'->H p=none->fJ K t H' p i (.str nm) ns is os->Q (.ref p) H')->wJ K t vs H Q E
theorem Ga (T:Txt w K mg t):FO P w K mg base 5 t.yo ["row", "known"] (wJ K t):=by
 have sc:=T.tG.sc ["row", "known"]
 refine T.tG.F.ok sc ln (fun _ _ _ _ H vs Q E hr h=>?_)
 obtain⟨i,nm,r,d,a1,a2,a3,ns,is,os,kvs,rfl,hr1,hi,hd,hz,hl,hv,q1,q2,q3,l1,l2,l3,hV,k⟩:=h
 refine⟨_,(au (bU (lL (jL (eQ (Di T) T.vX hr (aa (aU dH (pv 0) az (fun _ _=>rfl)) ak aD))))
   (aA fP)
   bu)
  (au (bO (eQ (wO T) T.ou hr (aa (aU dH (pv 0) az (fun _ _=>rfl)) (aa (pv 1) ak aj) aD)))
  (aA (aN (eQ (Ir T) T.Bq hr (aa (aU dH (pv 0) az (fun _ _=>rfl)) (aa (aU dH (pv 0) az (fun _ _=>rfl)) (aa (aU dH (pv 0) az (fun _ _=>rfl)) (aa (aU dH (pv 0) az (fun _ _=>rfl)) (aa (aU dH (pv 0) az (fun _ _=>rfl)) ak aD) aD) aD) aD) aD)))))),?_⟩
 refine⟨_,rfl,r,_,0,_,rfl,rfl,fG.of hr1,aK (j:=0) rfl,cg i,rfl,?_⟩
 rw [row_of]
 refine⟨_,rfl,fc ?_⟩
 refine⟨_,rfl,r,_,1,_,rfl,rfl,fG.of hr1,aK (j:=1) rfl,_,rfl,nm,d,kvs,rfl,hd,hz,hl,hv,fun H1 s1=>?_⟩
 have e1:=fG.of (K:=K) (s1 _ _ hr1)
 exact⟨_,rfl,r,_,0,_,rfl,rfl,e1,aK (j:=0) rfl,_,rfl,r,_,1,_,rfl,rfl,e1,aK (j:=1) rfl,_,rfl,r,_,2,_,rfl,rfl,e1,aK (j:=2) rfl,_,rfl,r,_,3,_,rfl,rfl,e1,aK (j:=3) rfl,_,rfl,r,_,4,_,rfl,rfl,e1,aK (j:=4) rfl,i,.str nm,a1,a2,a3,ns,is,os,rfl,hi,s1.seqA q1,s1.seqA q2,s1.seqA q3,l1,l2,l3,hV,fun H2 p s2 np P=>k _ p (s1.trans s2) (s1.free np) P⟩
inductive zr (K:PySem.W.Frag) (vs:List V) (H:Hp) (Q:VK) (E:XK):Prop where
 | mk:∀(y:Str) (a rd d:Addr) (zs:List Str) (rk kvs:List (Key×V)),vs=[.str y,.ref a,.ref rd,.ref d]->fG K H a (zs.map V.str)->H rd=some (.dK rk)->rd≠d->H d=some (.dK kvs)->zs.Nodup->((∀z∈zs,(cH rk (Sum.inr z)).isSome=true/\cH kvs (Sum.inr z)=none))->kvs.length+zs.length<=1000->(Q .non (upd H d (.dK (kvs ++ zs.map fun l=>((Sum.inr l:Key),V.str y)))))->zr K vs H Q E
theorem yO (T:Txt w K mg t):FO P w K mg base 1 t.Ae ["part", "lanes", "rooms", "ends"] (zr K):=by
 have sc:=T.qi.sc ["part", "lanes", "rooms", "ends", "lane"]
 refine T.qi.F.ok sc ln (fun _ _ _ _ H vs Q E hr h=>?_)
 obtain⟨y,a,rd,d,zs,rk,kvs,rfl,hT,hrd,hne,hd,nd,hz,hlen,k⟩:=h
 refine⟨_,(aA (fB PassesOwn.never rfl (Ii (pv 1)) (gN sc 4)
   (au (bU (PW.pt (Aq (iH (vV hr.u1 (pv 4) (pv 2))) (vI (iH (z8 hr.u1 (pv 4) (pv 3))))))
    (aA fP)
    bu)
   (aA (f9 hr.u1 (pv 3) (pv 4) (pv 0) rfl))))),?_⟩
 have hl:sizeLine=16777216:=sizeLine_eq
 refine⟨_,rfl,a,rfl,⟨_,hT⟩,Uo (K:=K) (a:=a) (xs:=zs.map V.str) (fun j σ H'=>H'=upd H d (.dK (kvs ++ (zs.take j).map fun l=>((Sum.inr l:Key),V.str y)))/\∃v4,σ=[some (.str y),some (.ref a),some (.ref rd),some (.ref d),v4]) ⟨by rw [List.take_zero,List.map_nil,List.append_nil,Fj hd],none,rfl⟩ (fun j σ H' _ ⟨e,_⟩=>by rw [e];exact gr hd hT) ?_ ?_⟩
 ·rintro j x σ H' hx ⟨rfl,v4,rfl⟩
  rw [List.getElem?_map] at hx
  obtain⟨z,hzj,rfl⟩:=Option.map_eq_some_iff.mp hx
  have hj:j <zs.length:=(List.getElem?_eq_some_iff.mp hzj).1
  obtain⟨r1,r2⟩:=hz z (List.mem_of_getElem? hzj)
  obtain⟨rv,hrv⟩:=Option.isSome_iff_exists.mp r1
  have erd:upd H d (.dK (kvs ++ (zs.take j).map fun l=>((Sum.inr l:Key),V.str y))) rd=some (.dK rk):=by rw [aG hne];exact hrd
  have nin:z∉zs.take j:=fun hm=>by
   obtain⟨i,hi,ei⟩:=List.mem_iff_getElem.mp hm
   rw [List.length_take] at hi
   rw [List.getElem_take] at ei
   have e2:zs[j]=z:=by rw [List.getElem?_eq_getElem hj] at hzj;exact Option.some.inj hzj
   have:=(List.getElem_inj nd).mp (ei.trans e2.symm)
   omega
  have none':cH (kvs ++ (zs.take j).map fun l=>((Sum.inr l:Key),V.str y)) (Sum.inr z)=none:=ie (by
   rw [List.map_append,List.mem_append,not_or]
   refine⟨fun hm=>?_,fun hm=>?_⟩
   ·have:(cH kvs (Sum.inr z)).isSome=true:=by rw [<-rH];obtain⟨p,hp,e⟩:=List.mem_map.mp hm;exact List.any_eq_true.mpr ⟨p,hp,decide_eq_true e⟩
    rw [r2] at this
    cases this
   ·rw [List.map_map] at hm
    obtain⟨b,hb,e⟩:=List.mem_map.mp hm
    cases e
    exact nin hb)
  refine⟨_,rfl,_,rfl,rd,some rv,rfl,(by rw [<-hrv];exact eX.k (k:=Sum.inr z) erd),_,rfl,fc ?_⟩
  refine⟨_,rfl,_,rfl,d,none,rfl,(by rw [<-none'];exact eX.k (k:=Sum.inr z) aq),_,rfl,fc ?_⟩
  refine⟨_,rfl,_,rfl,_,rfl,d,_,rfl,oN.k (k:=Sum.inr z) aq (by rw [lP,lM,List.length_take];omega),?_,_,rfl⟩
  rw [oE,jf _ none',List.append_assoc,List.take_succ,hzj,Option.toList_some,List.map_append]
  rfl
 ·rintro σ H' ⟨rfl,v4,rfl⟩
  rw [lM,List.take_length]
  exact k
inductive ye (K:PySem.W.Frag) (vs:List V) (H:Hp) (Q:VK) (E:XK):Prop where
 | mk:∀(r g d:Addr) (rk gk tk:List (Key×V)),vs=[.ref r,.ref g,.ref d]->H r=some (.dK rk)->H g=some (.dK gk)->H d=some (.dK tk)->r≠g->r≠d->((∀q∈rk,(cH gk q.1).isSome=true/\(cH tk q.1).isSome=true))->Q .non H->ye K vs H Q E
theorem Ih (T:Txt w K mg t):FO P w K mg base 1 t.Al ["rooms", "givers", "takers"] (ye K):=by
 have sc:=T.u5.sc ["rooms", "givers", "takers", "lane"]
 refine T.u5.F.ok sc ln (fun _ _ _ _ H vs Q E hr h=>?_)
 obtain⟨r,g,d,rk,gk,tk,rfl,h1,h2,h3,n1,n2,hA,k⟩:=h
 refine⟨_,(aA (rD (H0:=H) rfl (fB PassesOwn.never rfl (sJ (pv 0)) (gN sc 3)
   (aA (bU (PW.pt (Aq (iH (vV hr.u1 (pv 3) (pv 1))) (vI (iH (vV hr.u1 (pv 3) (pv 2))))))
    (aA fP)
    bu))))),?_⟩
 refine⟨_,rfl,r,_,rfl,h1,fun o=>yd (fun j σ H'=>H'=upd H r (.frz o (.dK rk))/\∃v3,σ=[some (.ref r),some (.ref g),some (.ref d),v3]) ⟨rfl,none,rfl⟩ (fun j σ H' _ ⟨e,_⟩=>by rw [e];exact aq) ?_ ?_⟩
 ·rintro j kk w σ H' hj ⟨rfl,v3,rfl⟩
  obtain⟨a1,a2⟩:=hA _ (List.mem_of_getElem? hj)
  obtain⟨u1,b1⟩:=Option.isSome_iff_exists.mp a1
  obtain⟨u2,b2⟩:=Option.isSome_iff_exists.mp a2
  have e2:upd H r (.frz o (.dK rk)) g=some (.dK gk):=by rw [aG (Ne.symm n1)];exact h2
  have e3:upd H r (.frz o (.dK rk)) d=some (.dK tk):=by rw [aG (Ne.symm n2)];exact h3
  exact⟨_,rfl,_,rfl,g,some u1,rfl,(by rw [<-b1];exact eX.k e2),_,rfl,fc ⟨_,rfl,_,rfl,d,some u2,rfl,(by rw [<-b2];exact eX.k e3),_,rfl,fc ⟨rfl,_,rfl⟩⟩⟩
 ·rintro σ H' ⟨rfl,v3,rfl⟩
  refine⟨_,⟨r,o,_,aq,?_,rfl⟩,?_⟩
  ·intro o' u' z
   rw [show H r=_ from h1] at z
   cases z
  ·rw [oE,Fj h1]
   exact k
noncomputable def S6 (H:Hp) (J:Addr):List (Key×V):=match H J with
 | some (.dK jk)=>jk
 | _=>[]
theorem Mx {H:Hp} {J:Addr} {jk:List (Key×V)} (h:H J=some (.dK jk)):S6 H J=jk:=by
 unfold S6
 rw [h]
theorem S5 {f:PD->List Str} {ps:List PD} {j:Nat} {k:Key} {v:V} (h:(dC f ps)[j]?=some (k,v)):∃p∈ps,∃l∈f p,k=Sum.inr l/\v=.str p.name:=by
 have:=List.mem_of_getElem? h
 unfold dC at this
 obtain⟨p,hp,hm⟩:=List.mem_flatMap.mp this
 obtain⟨l,hl,e⟩:=List.mem_map.mp hm
 cases e
 exact⟨p,hp,l,hl,rfl,rfl⟩
noncomputable def Q8 (ps:List PD) (jk:List (Key×V)) (j:Nat):Prop:=∀i k v,i <j->(dC (·.outs) ps)[i]?=some (k,v)->∀a∈ps,∀b∈ps,∀l,k=Sum.inr l->l∈a.outs->l∈b.ins->iz jk a.name=iz jk b.name
theorem Q8.all {ps:List PD} {jk:List (Key×V)} (h:Q8 ps jk (dC (·.outs) ps).length):∀a∈ps,∀b∈ps,∀l,l∈a.outs->l∈b.ins->iz jk a.name=iz jk b.name:=fun a ha b hb l la lb=>by
 have hm:((Sum.inr l:Key),V.str a.name)∈dC (·.outs) ps:=List.mem_flatMap.mpr ⟨a,ha,List.mem_map.mpr ⟨l,la,rfl⟩⟩
 obtain⟨i,hi,ei⟩:=List.mem_iff_getElem.mp hm
 exact h i _ _ hi (by rw [List.getElem?_eq_getElem hi,ei]) a ha b hb l rfl la lb
inductive uJ (K:PySem.W.Frag) (vs:List V) (H:Hp) (Q:VK) (E:XK):Prop where
 | mk:∀(p0:PD) (g d:Addr) (ps:List PD),vs=[.str p0.name,.ref g,.ref d]->p0∈ps->ps.length<=16->H g=some (.dK (dC (·.outs) ps))->H d=some (.dK (dC (·.ins) ps))->g≠d->(ps.flatMap (·.outs)).Nodup->(ps.flatMap (·.ins)).Nodup->(ps.flatMap (·.outs)).Perm (ps.flatMap (·.ins))->((∃y,∀q∈ps,∃x∈q.ins ++ q.outs,Drawn.jr ps x y))->(∀H' J jk,aQ H H'->H' J=some (.dK jk)->(∀p∈ps,iz jk p.name=true)->Q (.ref J) H')->uJ K vs H Q E
theorem CV (T:Txt w K mg t):FO P w K mg base 1 t.xF ["part", "givers", "takers"] (uJ K):=by
 have sc:=T.rA.sc ["part", "givers", "takers", "joined", "grown", "lane"]
 refine T.rA.F.ok sc ln (fun _ _ _ _ H vs Q E hr h=>?_)
 obtain⟨p0,g,d,ps,rfl,hp0,hps,h1,h2,n1,no,ni,pm,hang,k⟩:=h
 refine⟨_,(au (sN sc 3 (Ue (Rk (pv 0) nM TY) rfl rfl (by simp) (by decide)))
  (au (sN sc 4 nM)
  (au (JN PassesOwn.never (jL (pv 4))
   (au (sN sc 4 nM)
   (aA (rD (H0:=H) rfl (fB PassesOwn.never rfl (sJ (pv 1)) (gN sc 5)
    (aA (fU (bU (bz JQ (Je (z8 hr.u1 (cG hr.u1 (pv 1) (pv 5) (fun _ _=>rfl)) (pv 3))) (Je (z8 hr.u1 (cG hr.u1 (pv 2) (pv 5) (fun _ _=>rfl)) (pv 3))) (bT _))
     (au (f9 hr.u1 (pv 3) (cG hr.u1 (pv 1) (pv 5) (fun _ _=>rfl)) nM rfl)
     (au (f9 hr.u1 (pv 3) (cG hr.u1 (pv 2) (pv 5) (fun _ _=>rfl)) nM rfl)
     (aA (sN sc 4 nM))))
     bu))))))))
  (aA (aN (pv 3)))))),?_⟩
 have hl:sizeLine=16777216:=sizeLine_eq
 refine fun J nJ=>⟨_,rfl,aq,[((Sum.inr p0.name:Key),V.bl true)],rfl,by show 1<=15;decide,?_⟩
 rw [oE]
 have s0:aQ H (upd H J (.dK (vm [] [((Sum.inr p0.name:Key),V.bl true)]))):=aB nJ
 have e0:(upd H J (.dK (vm [] [((Sum.inr p0.name:Key),V.bl true)]))) J=some (.dK [((Sum.inr p0.name:Key),V.bl true)]):=aq
 generalize upd H J (.dK (vm [] [((Sum.inr p0.name:Key),V.bl true)]))=H0 at s0 e0 ⊢
 have ngJ:J≠g:=Ne.symm (aC h1 nJ)
 have ndJ:J≠d:=Ne.symm (aC h2 nJ)
 have melt:∀{H':Hp} {o:Obj},jR g H H'->H' g=some (.frz o (.dK (dC (·.outs) ps)))->aQ H (upd H' g (.dK (dC (·.outs) ps))):=fun hb hg b u e=>by
  by_cases h:b=g
  ·subst h;rw [aq];rw [h1] at e;exact e
  ·rw [aG h];exact hb b u h e
 have m0:ph ps [((Sum.inr p0.name:Key),V.bl true)]<=16:=Nat.le_trans (List.length_filter_le _ _) hps
 refine J3 (fun σ H'=>aQ H H'/\∃b v5 jk,σ=[some (.str p0.name),some (.ref g),some (.ref d),some (.ref J),some (.bl b),v5]/\H' J=some (.dK jk)/\iz jk p0.name=true/\jk.length+2 * ph ps jk<=40/\(b=false->Q8 ps jk (dC (·.outs) ps).length))
  (fun σ H'=>match σ with | [_,_,_,_,some (.bl b),_]=>(if b then 1 else 0)+2 * ph ps (S6 H' J) | _=>0) ⟨s0,true,none,_,rfl,e0,by simp [iz,cH],by rw [List.length_singleton];omega,by intro z;cases z⟩ ?_ ?_
 ·rintro σ H1 ⟨s1,b,v5,jk,rfl,hJ,hp,hlen,hev⟩
  cases b with
  | false=>exact⟨_,rfl,_,rfl,fc ⟨_,rfl,k _ J jk s1 hJ (Wh no ni pm hang (hev rfl).all hp0 hp)⟩⟩
  | true=>
   refine⟨_,rfl,_,rfl,lE ?_⟩
   refine⟨_,rfl,g,_,rfl,s1 _ _ h1,fun o=>?_⟩
   have gD:∀{H':Hp},jR g H H'->H' d=some (.dK (dC (·.ins) ps)):=fun hb=>hb d _ (Ne.symm n1) h2
   refine yd (fun j σ H'=>jR g H H'/\H' g=some (.frz o (.dK (dC (·.outs) ps)))/\∃b v5 jk',σ=[some (.str p0.name),some (.ref g),some (.ref d),some (.ref J),some (.bl b),v5]/\H' J=some (.dK jk')/\iz jk' p0.name=true/\jk'.length+2 * ph ps jk'<=40/\((b=false/\jk'=jk/\Q8 ps jk j)∨(b=true/\ph ps jk' <ph ps jk)))
    ⟨fun b u hn e=>by rw [aG hn];exact s1 b u e,aq,false,v5,jk,rfl,by rw [aG ngJ];exact hJ,hp,hlen,.inl ⟨rfl,rfl,fun i _ _ hi=>absurd hi (by omega)⟩⟩ (fun j σ H' _ h=>h.2.1) ?_ ?_
   ·rintro j kk w σ H' hj ⟨hb,hg,b,v5,jk',rfl,hJ',hp',hlen',hv⟩
    obtain⟨a,ha,l,la,rfl,rfl⟩:=S5 hj
    obtain⟨b',hb',lb⟩:=List.mem_flatMap.mp (pm.mem_iff.mp (List.mem_flatMap.mpr ⟨a,ha,la⟩))
    have ga:eX H' g (.str l) (some (.str a.name)):=.inl ⟨_,Sum.inr l,.inr ⟨o,hg⟩,rfl,(ju no ha la).symm⟩
    have gb:eX H' d (.str l) (some (.str b'.name)):=by rw [<-ju ni hb' lb];exact eX.k (k:=Sum.inr l) (gD hb)
    have ja:eX H' J (.str a.name) (cH jk' (Sum.inr a.name)):=eX.k (k:=Sum.inr a.name) hJ'
    have jb:eX H' J (.str b'.name) (cH jk' (Sum.inr b'.name)):=eX.k (k:=Sum.inr b'.name) hJ'
    have nm:∀a2∈ps,∀b2∈ps,l∈a2.outs->l∈b2.ins->a2.name=a.name/\b2.name=b'.name:=fun a2 ha2 b2 hb2 q1 q2=>by
     have e1:=ju no ha2 q1
     rw [ju no ha la] at e1
     have e2:=ju ni hb2 q2
     rw [ju ni hb' lb] at e2
     simp only [Option.some.injEq,V.str.injEq] at e1 e2
     exact⟨e1.symm,e2.symm⟩
    refine⟨fun σ H''=>jR g H H''/\H'' g=some (.frz o (.dK (dC (·.outs) ps)))/\∃b jk'',σ=[some (.str p0.name),some (.ref g),some (.ref d),some (.ref J),some (.bl b),some (.str l)]/\H'' J=some (.dK jk'')/\iz jk'' p0.name=true/\jk''.length+2 * ph ps jk''<=40/\((b=false/\jk''=jk/\Q8 ps jk (j+1))∨(b=true/\ph ps jk'' <ph ps jk)),?_,?_⟩
    ·refine⟨_,rfl,_,rfl,g,_,rfl,ga,_,rfl,J,_,rfl,ja,?_⟩
     refine⟨_,rfl,_,rfl,d,_,rfl,gb,_,rfl,J,_,rfl,jb,rfl,_,rfl,?_⟩
     change if (!decide (V.bl (iz jk' a.name)=V.bl (iz jk' b'.name)))=true then _ else _
     refine lz (fun hne=>?_) (fun heq=>?_)
     ·have hne':iz jk' a.name≠iz jk' b'.name:=fun z=>by rw [z] at hne;simp at hne
      refine⟨_,rfl,_,rfl,_,rfl,g,_,rfl,ga,J,_,rfl,oN.k (k:=Sum.inr a.name) hJ' (by omega),?_⟩
      have b2:jR g H (upd H' J (.dK (putK jk' (Sum.inr a.name) (.bl true)))):=fun x u hn e=>by rw [aG (aC e nJ)];exact hb x u hn e
      have g2:(upd H' J (.dK (putK jk' (Sum.inr a.name) (.bl true)))) g=some (.frz o (.dK (dC (·.outs) ps))):=by rw [aG (Ne.symm ngJ)];exact hg
      have gb2:eX (upd H' J (.dK (putK jk' (Sum.inr a.name) (.bl true)))) d (.str l) (some (.str b'.name)):=by rw [<-ju ni hb' lb];exact eX.k (k:=Sum.inr l) (gD b2)
      have len1:=mR jk' (Sum.inr a.name:Key) (.bl true)
      have len2:=mR (putK jk' (Sum.inr a.name) (.bl true)) (Sum.inr b'.name:Key) (.bl true)
      refine⟨_,rfl,_,rfl,_,rfl,d,_,rfl,gb2,J,_,rfl,oN.k (k:=Sum.inr b'.name) aq (by omega),?_⟩
      rw [oE]
      have has2:∀x,iz (putK (putK jk' (Sum.inr a.name) (.bl true)) (Sum.inr b'.name) (.bl true)) x=(decide (x=b'.name) || (decide (x=a.name) || iz jk' x)):=fun x=>by rw [J9,J9]
      have mono:∀x,iz jk' x=true->iz (putK (putK jk' (Sum.inr a.name) (.bl true)) (Sum.inr b'.name) (.bl true)) x=true:=fun x hx=>by rw [has2,hx];simp
      have lt:ph ps (putK (putK jk' (Sum.inr a.name) (.bl true)) (Sum.inr b'.name) (.bl true)) <ph ps jk':=by
       cases hA:iz jk' a.name
       ·exact JW mono ha hA (by rw [has2];simp)
       ·cases hB:iz jk' b'.name
        ·exact JW mono hb' hB (by rw [has2];simp)
        ·rw [hA,hB] at hne';exact absurd rfl hne'
      refine⟨fun x u hn e=>by rw [aG (aC e nJ)];exact hb x u hn e,by rw [aG (Ne.symm ngJ)];exact hg,true,_,rfl,aq,mono _ hp',by omega,.inr ⟨rfl,?_⟩⟩
      rcases hv with ⟨_,rfl,_⟩ | ⟨_,hv⟩
      ·exact lt
      ·omega
     ·have heq':iz jk' a.name=iz jk' b'.name:=by
       cases hA:iz jk' a.name <;> cases hB:iz jk' b'.name <;> rw [hA,hB] at heq <;> simp_all
      refine⟨hb,hg,b,jk',rfl,hJ',hp',hlen',?_⟩
      rcases hv with ⟨rfl,rfl,hE⟩ | hv
      ·refine .inl ⟨rfl,rfl,fun i k2 v2 hi e2 a2 ha2 b2 hb2 l2 ek q1 q2=>?_⟩
       rcases Nat.lt_or_ge i j with h | h
       ·exact hE i k2 v2 h e2 a2 ha2 b2 hb2 l2 ek q1 q2
       ·have:i=j:=by omega
        subst this
        rw [hj] at e2
        cases e2
        cases ek
        obtain⟨x1,x2⟩:=nm a2 ha2 b2 hb2 q1 q2
        rw [x1,x2]
        exact heq'
      ·exact .inr hv
    ·rintro σ H'' ⟨hb,hg,b,jk'',rfl,r⟩
     exact⟨hb,hg,b,_,jk'',rfl,r⟩
   ·rintro σ H' ⟨hb,hg,b,v5',jk',rfl,hJ',hp',hlen',hv⟩
    refine⟨_,⟨g,o,_,hg,(fun o' u' z=>by rw [show H g=_ from h1] at z;cases z),rfl⟩,?_⟩
    have eJ:(upd H' g (.dK (dC (·.outs) ps))) J=some (.dK jk'):=by rw [aG ngJ];exact hJ'
    refine⟨⟨melt hb hg,b,v5',jk',rfl,eJ,hp',hlen',fun z=>?_⟩,?_⟩
    ·rcases hv with ⟨_,rfl,hE⟩ | ⟨h,_⟩
     ·exact hE
     ·rw [h] at z;cases z
    ·show(if b=true then 1 else 0)+2 * ph ps (S6 _ J) <(if true=true then 1 else 0)+2 * ph ps (S6 _ J)
     rw [Mx eJ,Mx hJ]
     rcases hv with ⟨rfl,rfl,_⟩ | ⟨rfl,h⟩
     ·simp
     ·simp;omega
 ·intro σ H' Q' Q'' hm hq
  obtain⟨v,e,b,e2,q⟩:=hq
  exact⟨v,e,b,e2,hm _ _ q⟩
inductive uH (K:PySem.W.Frag) (vs:List V) (H:Hp) (Q:VK) (E:XK):Prop where
 | mk:∀(L g d:Addr) (ps:List PD),vs=[.ref L,.ref g,.ref d]->(bR K H L (ps.map fun p=>V.str p.name))->1<=ps.length->ps.length<=16->H g=some (.dK (dC (·.outs) ps))->H d=some (.dK (dC (·.ins) ps))->g≠d->(ps.flatMap (·.outs)).Nodup->(ps.flatMap (·.ins)).Nodup->(ps.flatMap (·.outs)).Perm (ps.flatMap (·.ins))->((∃y,∀q∈ps,∃x∈q.ins ++ q.outs,Drawn.jr ps x y))->(∀H',aQ H H'->Q .non H')->uH K vs H Q E
theorem Dd (T:Txt w K mg t):FO P w K mg base 2 t.xm ["names", "givers", "takers"] (uH K):=by
 have sc:=T.rm.sc ["names", "givers", "takers", "joined", "name"]
 refine T.rm.F.ok sc ln (fun _ _ _ _ H vs Q E hr h=>?_)
 obtain⟨L,g,d,ps,rfl,hL,hp1,hps,h1,h2,n1,no,ni,pm,hang,k⟩:=h
 refine⟨_,(au (sN sc 3 (eQ (CV T) T.rA hr (aa (aU aM (pv 0) az (fun _ _=>rfl)) (aa (pv 1) (aa (pv 2) ak aj) aj) aD)))
  (aA (fB PassesOwn.never rfl (cz (pv 0)) (gN sc 4)
   (aA (bU (iH (vV hr.u1 (pv 4) (pv 3)))
    (aA fP)
    bu))))),?_⟩
 obtain⟨p0,pr,rfl⟩:∃p0 pr,ps=p0:: pr:=by
  cases ps with
  | nil=>simp at hp1
  | cons a r=>exact⟨a,r,rfl⟩
 refine⟨_,rfl,L,_,0,_,rfl,rfl,hL,aK (j:=0) rfl,_,rfl,_,rfl,p0,g,d,_,rfl,List.mem_cons_self,hps,h1,h2,n1,no,ni,pm,hang,fun H1 J jk s1 eJ hA=>?_⟩
 refine⟨_,rfl,L,rfl,⟨_,s1.seq hL⟩,eZ (K:=K) (a:=L) (xs:=(p0:: pr).map fun p=>V.str p.name) (fun j σ H'=>H'=H1/\∃v4,σ=[some (.ref L),some (.ref g),some (.ref d),some (.ref J),v4]) ⟨rfl,none,rfl⟩ (fun j σ H' _ ⟨e,_⟩=>by rw [e];exact s1.seq hL) ?_ ?_⟩
 ·rintro j x σ H' hx ⟨rfl,v4,rfl⟩
  rw [List.getElem?_map] at hx
  obtain⟨p,hp,rfl⟩:=Option.map_eq_some_iff.mp hx
  obtain⟨u,hu⟩:=Option.isSome_iff_exists.mp (hA p (List.mem_of_getElem? hp))
  exact⟨_,rfl,_,rfl,J,some u,rfl,(by rw [<-hu];exact eX.k (k:=Sum.inr p.name) eJ),_,rfl,fc ⟨rfl,_,rfl⟩⟩
 ·rintro σ H' ⟨rfl,v4,rfl⟩
  exact k _ s1
inductive qx (K:PySem.W.Frag) (t:lA) (vs:List V) (H:Hp) (Q:VK) (E:XK):Prop where
 | mk:∀(n:Addr) (ls:List aH) (ps:List PD),vs=[.ref n]->jt K t H n ls ps->(∀l,H l=none->Q (.ref l) (upd H l (.lst (ls.map fun x=>V.str x.name))))->qx K t vs H Q E
theorem jZ (T:Txt w K mg t):FO P w K mg base 1 t.lN ["self"] (qx K t):=by
 have sc:=T.ig.sc ["self"]
 refine T.ig.F.ok sc ln (fun _ _ _ _ H vs Q E hr h=>?_)
 obtain⟨n,ls,ps,rfl,N,k⟩:=h
 refine⟨_,(aA (aN (cY (oZ rfl) (by rfl) T.tE oR (aa (aZ (pv 0) rfl) ak aO)))),?_⟩
 obtain⟨dx,fs,R,F,Pd,G,Tk,FL,PL,W⟩:=id N
 refine⟨_,rfl,n,_,dx,fs,_,rfl,W.obj,T.bc.c,T.bc.na.1,W.fl.has ("rooms",.ref R) (by simp),R,_,rfl,.inl W.rooms,fun l hl=>?_⟩
 unfold cB
 rw [List.map_map]
 exact k l hl
inductive ql (K:PySem.W.Frag) (t:lA) (vs:List V) (H:Hp) (Q:VK) (E:XK):Prop where
 | mk:∀(n:Addr) (ls:List aH) (ps:List PD),vs=[.ref n]->jt K t H n ls ps->(∀l,H l=none->Q (.ref l) (upd H l (.lst (ps.map fun x=>V.str x.name))))->ql K t vs H Q E
theorem kJ (T:Txt w K mg t):FO P w K mg base 1 t.lG ["self"] (ql K t):=by
 have sc:=T.gP.sc ["self"]
 refine T.gP.F.ok sc ln (fun _ _ _ _ H vs Q E hr h=>?_)
 obtain⟨n,ls,ps,rfl,N,k⟩:=h
 refine⟨_,(aA (aN (cY (oZ rfl) (by rfl) T.tE oR (aa (aZ (pv 0) rfl) ak aO)))),?_⟩
 obtain⟨dx,fs,R,F,Pd,G,Tk,FL,PL,W⟩:=id N
 refine⟨_,rfl,n,_,dx,fs,_,rfl,W.obj,T.bc.c,T.bc.na.2.2.1,W.fl.has ("parts",.ref Pd) (by simp),Pd,_,rfl,.inl W.parts,fun l hl=>?_⟩
 unfold dq
 rw [List.map_map]
 have e:ps.map (fun x=>V.str x.name)=PL.map (fun q=>V.str q.1.name):=by rw [<-W.pls,List.map_map];rfl
 rw [e] at k
 exact k l hl
inductive mJ (K:PySem.W.Frag) (t:lA) (vs:List V) (H:Hp) (Q:VK) (E:XK):Prop where
 | mk:∀(n:Addr) (ls:List aH) (ps:List PD) (x:Str),vs=[.ref n,.str x]->jt K t H n ls ps->(∀p,H p=none->Q (.ref p) (upd H p (.lst (qY ps x))))->mJ K t vs H Q E
theorem uR (T:Txt w K mg t):FO P w K mg base 2 t.jB ["self", "kind"] (mJ K t):=by
 have sc:=T.jA.sc ["self", "kind"]
 refine T.jA.F.ok sc ln (fun _ _ _ _ H vs Q E hr h=>?_)
 obtain⟨n,ls,ps,x,rfl,N,k⟩:=h
 refine⟨_,(aA (aN (Uq (H0:=H) rfl (fD [0,1] ["self", "kind"] (bx (inClass (top 57) 5)) rfl (sJ (aZ (pv 0) rfl)) (fun _ _ _ _ _=>(RG (bz fQ (Le (P:=P) (w:=w) (K:=K) (mg:=mg) (base:=base) (CX:=Bd) (k:=1) (E:=E0) rfl rfl rfl rfl rfl (cG hr.u1 (tW (K:=K) rfl (pv 1) rfl) (pv 0) (fun _ _=>rfl)) (hr.mono (by decide)) fj) (pv 2) (bT _)))) (fun _ _ _ _ _=>(pv 0)))))),?_⟩
 obtain⟨dx,fs,R,F,Pd,G,Tk,FL,PL,W⟩:=id N
 have hz:sizeLine=16777216:=sizeLine_eq
 have hp:=W.fit.p16
 have h5:=W.parts
 have lpl:PL.length=ps.length:=by rw [<-W.pls,lM]
 refine⟨_,rfl,n,_,dx,fs,_,rfl,W.obj,T.bc.c,T.bc.na.2.2.1,W.fl.has ("parts",.ref Pd) (by simp),Pd,_,rfl,h5,fun o=>?_⟩
 refine zE (fun j ys H'=>H'=upd H Pd (.frz o (.dK (dq PL)))/\ys=qY ((PL.take j).map (·.1)) x) (by unfold dq;rw [lM];omega) ⟨rfl,by simp [qY]⟩ ?_ ?_ ?_ ?_
 ·rintro j ys H' ⟨_,rfl⟩
  have:=Kz ((PL.take j).map (·.1)) x
  rw [lM,List.length_take] at this
  omega
 ·rintro j ys H' _ ⟨rfl,_⟩
  exact aq
 ·rintro j kk v ys H' hj ⟨rfl,rfl⟩
  unfold dq at hj
  rw [List.getElem?_map] at hj
  obtain⟨q,hq,e⟩:=Option.map_eq_some_iff.mp hj
  cases e
  have hm:=List.mem_of_getElem? hq
  obtain⟨dxp,tn,ti,to,p1,p2,p3,p4⟩:=((W.pats q hm).chill (v:=.frz o (.dK (dq PL))) h5).ex
  refine⟨_,rfl,n,_,dx,fs,_,rfl,jO h5 W.obj (by intro _ z;cases z),T.bc.c,T.bc.na.2.2.1,W.fl.has ("parts",.ref Pd) (by simp),_,rfl,Pd,_,rfl,(by rw [<-W.partV hm];exact .inl ⟨_,Sum.inr q.1.name,.inr ⟨o,aq⟩,rfl,rfl⟩),?_⟩
  refine⟨q.2,cls t q.1.kind,dxp,_,gM q.1.kind,rfl,p1,mj _ _ _ _ (by decide +kernel) (by decide +kernel) (by decide +kernel) (by decide +kernel),Cj T q.1.kind,_,rfl,_,rfl,rfl,_,rfl,?_⟩
  rw [List.take_succ,hq,Option.toList_some,List.map_append,List.map_singleton,Ox]
  refine lz (fun e=>?_) (fun e=>?_)
  ·have e':cg q.1.kind=x:=by simpa using e
   rw [if_pos e']
   exact⟨_,rfl,rfl,rfl⟩
  ·have e':¬cg q.1.kind=x:=by simpa using e
   rw [if_neg e']
   exact⟨rfl,rfl⟩
 ·rintro ys H' ⟨rfl,rfl⟩ D hD
  refine⟨_,⟨Pd,o,dq PL,?_,?_,rfl⟩,?_⟩
  ·rw [aG (by rintro rfl;rw [aq] at hD;cases hD)]
   exact aq
  ·intro o' u z
   rw [show H Pd=_ from h5] at z
   cases z
  ·rw [Ou h5 hD]
   have:=k D (xV hD)
   rw [show(dq PL).length=PL.length by unfold dq;rw [lM],List.take_length,W.pls]
   exact this
inductive yZ (K:PySem.W.Frag) (t:lA) (vs:List V) (H:Hp) (Q:VK) (E:XK):Prop where
 | mk:∀(n:Addr) (ls:List aH) (ps:List PD),vs=[.ref n]->jt K t H n ls ps->(∀p,H p=none->Q (.ref p) (upd H p (.lst (qY ps "give"))))->yZ K t vs H Q E
theorem yx (T:Txt w K mg t):FO P w K mg base 3 t.vB ["self"] (yZ K t):=by
 have sc:=T.pZ.sc ["self"]
 refine T.pZ.F.ok sc ln (fun _ _ _ _ H vs Q E hr h=>?_)
 obtain⟨n,ls,ps,rfl,N,k⟩:=h
 refine⟨_,(aA (aN (Kc (pv 0) T.bc T.bc.me.2.2.2.1 (uR T) T.jA hr (aa bF ak ao)))),?_⟩
 obtain⟨dx,fs,R,F,Pd,G,Tk,FL,PL,W⟩:=id N
 exact⟨_,rfl,n,dx,fs,rfl,W.obj,W.fl.no _ (by decide +kernel),n,ls,ps,_,rfl,N,k⟩
inductive lB (K:PySem.W.Frag) (t:lA) (vs:List V) (H:Hp) (Q:VK) (E:XK):Prop where
 | mk:∀(n:Addr) (ls:List aH) (ps:List PD) (x:Str),vs=[.ref n,.str x]->jt K t H n ls ps->(((x∈ls.map (·.name)/\∀H',aQ H H'->Q .non H')∨(x∉ls.map (·.name)/\∀dx H',aQ H H'->H' dx=some (.xd [("name",.str x)])->E (.ref t.eY) (some dx) H')))->lB K t vs H Q E
theorem iJ (T:Txt w K mg t):gH P w K mg base (zy P w) 3 t.gj (fdOf K t.gj) ["self", "name"] (lB K t):=by
 have sc:=T.cJ.sc ["self", "name"]
 refine T.cJ.F.ok2 sc ln (fun _ _ _ _ H vs Q E hr h=>?_)
 obtain⟨n,ls,ps,x,rfl,N,h⟩:=h
 refine⟨_,(aA (bU (bz oJ (pv 1) (Q5 (pv 0) T.bc T.bc.me.2.1 (jZ T) T.ig hr) (by with_unfolding_all rfl))
   (aA (rF T.Ds (pU T) (hr.mono (by decide)) (by rfl) T.zO T.iQ.b fj (aa (pv 1) ak aj)))
   bu)),?_⟩
 obtain⟨dx,fs,R,F,Pd,G,Tk,FL,PL,W⟩:=id N
 refine⟨_,rfl,_,rfl,n,dx,fs,rfl,W.obj,W.fl.no _ (by decide +kernel),n,ls,ps,rfl,N,fun l hl=>?_⟩
 have s1:=aB (o:=.lst (ls.map fun x=>V.str x.name)) hl
 refine⟨l,_,rfl,.inl (bR.of aq),rfl,by simp [rK],_,rfl,?_⟩
 rw [Eu (f:=fun x:aH=>x.name)]
 rcases h with ⟨hx,k⟩ | ⟨hx,kE⟩
 ·rw [decide_eq_true hx]
  exact fc (k _ s1)
 ·rw [decide_eq_false hx]
  refine lE ?_
  refine⟨_,rfl,by show 1<=1000;decide,fun y ny n0=>⟨y,_,rfl,aq,fun dx' nd ne=>⟨rfl,y,dx',rfl,n0,by rw [aG ne.symm];exact aq,?_⟩⟩⟩
  have rz:=raised (fs:=[(("name" :Str),V.str x)]) ny nd ne
  exact kE dx' _ (s1.trans rz.1) rz.2
inductive uW (K:PySem.W.Frag) (t:lA) (vs:List V) (H:Hp) (Q:VK) (E:XK):Prop where
 | mk:∀(n:Addr) (ls:List aH) (ps:List PD) (x:Str),vs=[.ref n,.str x]->jt K t H n ls ps->(((∃l∈ls,l.name=x/\∀H',aQ H H'->Q (.int l.room) H')∨(x∉ls.map (·.name)/\∀dx H',aQ H H'->H' dx=some (.xd [("name",.str x)])->E (.ref t.eY) (some dx) H')))->uW K t vs H Q E
theorem uU (T:Txt w K mg t):gH P w K mg base (zy P w) 4 t.mC (fdOf K t.mC) ["self", "name"] (uW K t):=by
 have sc:=T.iG.sc ["self", "name"]
 refine T.iG.F.ok2 sc ln (fun _ _ _ _ H vs Q E hr h=>?_)
 obtain⟨n,ls,ps,x,rfl,N,h⟩:=h
 refine⟨_,(au (bO (jG (pv 0) T.bc.c (T.cJ.me T.bc.me.2.2.2.2.2.1) (iJ T) (hr.mono (by decide)) T.cJ.b .nil (M3 fun _ _ _ h=>h) (aa (pv 1) ak aj)))
  (aA (aN (cG hr.u1 (aZ (pv 0) rfl) (pv 1) (fun _ _=>rfl))))),?_⟩
 obtain⟨dx,fs,R,F,Pd,G,Tk,FL,PL,W⟩:=id N
 refine⟨_,rfl,n,dx,fs,rfl,W.obj,W.fl.no _ (by decide +kernel),_,rfl,n,ls,ps,x,rfl,N,?_⟩
 rcases h with ⟨l,hl,rfl,k⟩ | h
 ·refine .inl ⟨List.mem_map.mpr ⟨l,hl,rfl⟩,fun H1 s1=>?_⟩
  have W1:=W.same s1
  have hv:=W1.room hl
  refine⟨_,rfl,n,_,dx,fs,_,rfl,W1.obj,T.bc.c,T.bc.na.1,W1.fl.has ("rooms",.ref R) (by simp),_,rfl,R,_,rfl,(by rw [<-hv];exact eX.k (k:=Sum.inr l.name) W1.rooms),?_⟩
  exact k _ s1
 ·exact .inr h
inductive uv (K:PySem.W.Frag) (t:lA) (vs:List V) (H:Hp) (Q:VK) (E:XK):Prop where
 | mk:∀(n:Addr) (ls:List aH) (ps:List PD) (x:Str),vs=[.ref n,.str x]->jt K t H n ls ps->(((∃l∈ls,l.name=x/\∀H' p,aQ H H'->H p=none->H' p=some (.lst (l.first.map V.int))->Q (.ref p) H')∨(x∉ls.map (·.name)/\∀dx H',aQ H H'->H' dx=some (.xd [("name",.str x)])->E (.ref t.eY) (some dx) H')))->uv K t vs H Q E
theorem BV (T:Txt w K mg t):gH P w K mg base (zy P w) 4 t.j7 (fdOf K t.j7) ["self", "name"] (uv K t):=by
 have sc:=T.jX.sc ["self", "name"]
 refine T.jX.F.ok2 sc ln (fun _ _ _ _ H vs Q E hr h=>?_)
 obtain⟨n,ls,ps,x,rfl,N,h⟩:=h
 refine⟨_,(au (bO (jG (pv 0) T.bc.c (T.cJ.me T.bc.me.2.2.2.2.2.1) (iJ T) (hr.mono (by decide)) T.cJ.b .nil (M3 fun _ _ _ h=>h) (aa (pv 1) ak aj)))
  (aA (aN (cY rW (by rfl) T.tE oR (aa (cG hr.u1 (aZ (pv 0) rfl) (pv 1) (fun _ _=>rfl)) ak aD))))),?_⟩
 obtain⟨dx,fs,R,F,Pd,G,Tk,FL,PL,W⟩:=id N
 refine⟨_,rfl,n,dx,fs,rfl,W.obj,W.fl.no _ (by decide +kernel),_,rfl,n,ls,ps,x,rfl,N,?_⟩
 rcases h with ⟨l,hl,rfl,k⟩ | h
 ·refine .inl ⟨List.mem_map.mpr ⟨l,hl,rfl⟩,fun H1 s1=>?_⟩
  have W1:=W.same s1
  obtain⟨q,hq,eq⟩:∃q∈FL,q.1=l:=by
   rw [<-W.fls] at hl
   obtain⟨q,hq,e⟩:=List.mem_map.mp hl
   exact⟨q,hq,e⟩
  subst eq
  have hv:=W1.firstV hq
  refine⟨_,rfl,n,_,dx,fs,_,rfl,W1.obj,T.bc.c,T.bc.na.2.1,W1.fl.has ("firsts",.ref F) (by simp),_,rfl,F,_,rfl,(by rw [<-hv];exact eX.k (k:=Sum.inr q.1.name) W1.firsts),?_⟩
  exact⟨q.2,_,rfl,.inr (W1.tups q hq),fun p hp=>k _ p (s1.trans (aB hp)) (s1.free hp) aq⟩
 ·exact .inr h
inductive vf (K:PySem.W.Frag) (t:lA) (vs:List V) (H:Hp) (Q:VK) (E:XK):Prop where
 | mk:∀(n:Addr) (ls:List aH) (ps:List PD) (x:Str),vs=[.ref n,.str x]->jt K t H n ls ps->(((∃p∈ps,p.name=x/\∀H' q,aQ H H'->fJ K t H' q p.kind (.str p.name) (p.nums.map V.int) (p.ins.map V.str) (p.outs.map V.str)->Q (.ref q) H')∨(x∉ps.map (·.name)/\∀dx H',aQ H H'->H' dx=some (.xd [("name",.str x)])->E (.ref t.eY) (some dx) H')))->vf K t vs H Q E
theorem jg (T:Txt w K mg t):gH P w K mg base (zy P w) 3 t.my (fdOf K t.my) ["self", "name"] (vf K t):=by
 have sc:=T.dh.sc ["self", "name"]
 refine T.dh.F.ok2 sc ln (fun _ _ _ _ H vs Q E hr h=>?_)
 obtain⟨n,ls,ps,x,rfl,N,h⟩:=h
 refine⟨_,(au (bU (bz oJ (pv 1) (Q5 (pv 0) T.bc T.bc.me.2.2.1 (kJ T) T.gP hr) (by with_unfolding_all rfl))
   (aA (rF T.Ds (pU T) (hr.mono (by decide)) (by rfl) T.zO T.iQ.b fj (aa (pv 1) ak aj)))
   bu)
  (aA (aN (cG hr.u1 (aZ (pv 0) rfl) (pv 1) (fun _ _=>rfl))))),?_⟩
 obtain⟨dx,fs,R,F,Pd,G,Tk,FL,PL,W⟩:=id N
 refine⟨_,rfl,_,rfl,n,dx,fs,rfl,W.obj,W.fl.no _ (by decide +kernel),n,ls,ps,rfl,N,fun l hl=>?_⟩
 have s1:=aB (o:=.lst (ps.map fun x=>V.str x.name)) hl
 refine⟨l,_,rfl,.inl (bR.of aq),rfl,by simp [rK],_,rfl,?_⟩
 rw [Eu (f:=fun x:PD=>x.name)]
 rcases h with ⟨p,hp,rfl,k⟩ | ⟨hx,kE⟩
 ·rw [decide_eq_true (List.mem_map.mpr ⟨p,hp,rfl⟩)]
  refine fc ?_
  obtain⟨q,hq,eq⟩:∃q∈PL,q.1=p:=by
   rw [<-W.pls] at hp
   obtain⟨q,hq,e⟩:=List.mem_map.mp hp
   exact⟨q,hq,e⟩
  subst eq
  have W1:=W.same s1
  have hv:=W1.partV hq
  exact⟨_,rfl,n,_,dx,fs,_,rfl,W1.obj,T.bc.c,T.bc.na.2.2.1,W1.fl.has ("parts",.ref Pd) (by simp),_,rfl,Pd,_,rfl,(by rw [<-hv];exact eX.k (k:=Sum.inr q.1.name) W1.parts),k _ q.2 s1 (W1.pats q hq)⟩
 ·rw [decide_eq_false hx]
  refine lE ?_
  refine⟨_,rfl,by show 1<=1000;decide,fun y ny n0=>⟨y,_,rfl,aq,fun dx' nd ne=>⟨rfl,y,dx',rfl,n0,by rw [aG ne.symm];exact aq,?_⟩⟩⟩
  have rz:=raised (fs:=[(("name" :Str),V.str x)]) ny nd ne
  exact kE dx' _ (s1.trans rz.1) rz.2
inductive Gz (K:PySem.W.Frag) (t:lA) (vs:List V) (H:Hp) (Q:VK) (E:XK):Prop where
 | mk:∀(q:Addr) (p:PD),vs=[.ref q]->fJ K t H q p.kind (.str p.name) (p.nums.map V.int) (p.ins.map V.str) (p.outs.map V.str)->(∀r a1 a2 a3,H r=none->fG K H a1 (p.nums.map V.int)->fG K H a2 (p.ins.map V.str)->fG K H a3 (p.outs.map V.str)->Q (.ref r) (upd H r (.tup [.str (cg p.kind),.str p.name,.ref a1,.ref a2,.ref a3])))->Gz K t vs H Q E
theorem GP (T:Txt w K mg t):FO P w K mg base 2 t.JD ["part"] (Gz K t):=by
 have sc:=T.zc.sc ["part"]
 refine T.zc.F.ok sc ln (fun _ _ _ _ H vs Q E hr h=>?_)
 obtain⟨q,p,rfl,P,k⟩:=h
 refine⟨_,(aA (aN (bV (aa (rG (CX:=Bd) (k:=1) (E:=E0) (pv 0) (hr.mono (by decide)) fj) (aa (aZ (pv 0) rfl) (aa (aZ (pv 0) rfl) (aa (aZ (pv 0) rfl) (aa (aZ (pv 0) rfl) ak aO) aO) aO) aO) aX)))),?_⟩
 have hl:sizeLine=16777216:=sizeLine_eq
 obtain⟨dxp,tn,ti,to,p1,p2,p3,p4⟩:=P.ex
 refine⟨_,rfl,q,cls t p.kind,dxp,_,gM p.kind,rfl,p1,mj _ _ _ _ (by decide +kernel) (by decide +kernel) (by decide +kernel) (by decide +kernel),Cj T p.kind,_,rfl,?_⟩
 refine⟨_,rfl,q,_,dxp,_,_,rfl,p1,eE T p.kind,sY T p.kind,oX _ _ _ _,_,rfl,q,_,dxp,_,_,rfl,p1,eE T p.kind,lH T p.kind,j4 _ _ _ _,_,rfl,q,_,dxp,_,_,rfl,p1,eE T p.kind,sS T p.kind,mH _ _ _ _,_,rfl,q,_,dxp,_,_,rfl,p1,eE T p.kind,vY T p.kind,rC _ _ _ _,gw,fun r nr=>?_⟩
 exact k r tn ti to nr p2 p3 p4
inductive Bb (K:PySem.W.Frag) (t:lA) (vs:List V) (H:Hp) (Q:VK) (E:XK):Prop where
 | mk:∀(n:Addr) (ls:List aH) (ps:List PD),vs=[.ref n]->jt K t H n ls ps->(∀T a b H',aQ H H'->H a=none->H b=none->a≠b->xN K H' T a b ls ps->Q (.ref T) H')->Bb K t vs H Q E
theorem Bw (T:Txt w K mg t):FO P w K mg base 3 t.xH ["self"] (Bb K t):=by
 have sc:=T.sH.sc ["self", "lanes", "parts"]
 refine T.sH.F.ok sc ln (fun _ _ _ _ H vs Q E hr h=>?_)
 obtain⟨n,ls,ps,rfl,N,k⟩:=h
 refine⟨_,(au (rD (H0:=H) rfl (pA (i:=1) [0] ["self", "lanes", "parts"] (bx (inClass (top 57) 13)) rfl sc.nd rfl (sJ (aZ (pv 0) rfl)) (fun _ _ _ _ _=>fC) (fun _ _ _ _ _=>(bV (aa (pv 0) (aa (cG hr.u1 (tW (K:=K) rfl (pv 1) rfl) (pv 0) (fun _ _=>rfl)) (aa (cG hr.u1 (tW (K:=K) rfl (pv 1) rfl) (pv 0) (fun _ _=>rfl)) ak aD) aD) aj)))))
  (au (rD (H0:=H) rfl (pA (i:=2) [0] ["self", "lanes", "parts"] (bx (inClass (top 57) 13)) rfl sc.nd rfl (sJ (aZ (pv 0) rfl)) (fun _ _ _ _ _=>fC) (fun _ _ _ _ _=>(eQ (GP T) T.zc hr (aa (cG hr.u1 (tW (K:=K) rfl (pv 1) rfl) (pv 0) (fun _ _=>rfl)) ak aD)))))
  (aA (aN (bV (aa (pv 1) (aa (pv 2) ak aj) aj)))))),?_⟩
 obtain⟨dx,fs,R,F,Pd,G,Tk,FL,PL,W⟩:=id N
 have hz:sizeLine=16777216:=sizeLine_eq
 have hl24:=W.fit.l24
 have hp16:=W.fit.p16
 have h3:=W.rooms
 have lr:(cB ls).length=ls.length:=by unfold cB;rw [lM]
 have lp:PL.length=ps.length:=by rw [<-W.pls,lM]
 refine⟨_,rfl,n,_,dx,fs,_,rfl,W.obj,T.bc.c,T.bc.na.1,W.fl.has ("rooms",.ref R) (by simp),R,_,rfl,h3,fun o=>?_⟩
 refine zE (fun j ys H'=>aQ (upd H R (.frz o (.dK (cB ls)))) H'/\ys.length<=j/\gY (wM K (upd H' R (.dK (cB ls)))) ys (ls.take j)) (by rw [lr];omega) ⟨aQ.refl _,Nat.le_refl _,.nil⟩ ?_ ?_ ?_ ?_
 ·rintro j ys H' ⟨_,hh,_⟩
  exact hh
 ·rintro j ys H' _ h
  exact h.1 _ _ aq
 ·rintro j kk v ys H' hj ⟨hs,hyl,hA⟩
  unfold cB at hj
  rw [List.getElem?_map] at hj
  obtain⟨l,hlj,e⟩:=Option.map_eq_some_iff.mp hj
  cases e
  have hm:=List.mem_of_getElem? hlj
  obtain⟨q,hq,eq⟩:∃q∈FL,q.1=l:=by
   have hm':=hm
   rw [<-W.fls] at hm'
   obtain⟨q,hq,e⟩:=List.mem_map.mp hm'
   exact⟨q,hq,e⟩
  subst eq
  have hg:=hs _ _ aq
  have en:=hs _ _ (jO h3 W.obj (by intro _ z;cases z))
  have eF:H' F=some (.dK (aW FL)):=hs _ _ (by rw [aG (Ne.symm W.neRF)];exact W.firsts)
  refine yes ⟨_,rfl,_,rfl,n,_,dx,fs,_,rfl,en,T.bc.c,T.bc.na.1,W.fl.has ("rooms",.ref R) (by simp),_,rfl,R,_,rfl,(by rw [<-W.room hm];exact .inl ⟨_,Sum.inr q.1.name,.inr ⟨o,hg⟩,rfl,rfl⟩),?_⟩
  refine⟨_,rfl,n,_,dx,fs,_,rfl,en,T.bc.c,T.bc.na.2.1,W.fl.has ("firsts",.ref F) (by simp),_,rfl,F,_,rfl,(by rw [<-W.firstV hq];exact eX.k (k:=Sum.inr q.1.name) eF),gw,fun u nu=>?_⟩
  have su:=aB (o:=.tup [.str q.1.name,.int q.1.room,.ref q.2]) nu
  have nuR:u≠R:=fun z=>by rw [z,hg] at nu;cases nu
  refine⟨hs.trans su,by rw [lP,List.length_singleton];omega,?_⟩
  rw [List.take_succ,hlj,Option.toList_some]
  refine(hA.imp fun _ _ h=>h.same (zg su)).app (.cons ⟨u,q.2,rfl,by rw [aG nuR];exact aq,(zY h3 (hs.trans su)).seqT (W.tups q hq)⟩ .nil)
 rintro ys H' ⟨hs,hyl,hA⟩ D nD
 have hg:=hs _ _ aq
 have nDR:D≠R:=fun z=>by rw [z,hg] at nD;cases nD
 have nDH:H D=none:=xV (hs.free nD)
 have sD:=aB (o:=.lst ys) nD
 refine⟨_,⟨R,o,_,sD _ _ hg,(fun o' u' z=>by rw [show H R=_ from h3] at z;cases z),rfl⟩,?_⟩
 have s1:=zY h3 (hs.trans sD)
 have eD:upd (upd H' D (.lst ys)) R (.dK (cB ls)) D=some (.lst ys):=by rw [aG nDR];exact aq
 have hA1:gY (wM K (upd (upd H' D (.lst ys)) R (.dK (cB ls)))) ys ls:=by
  rw [lr,List.take_length] at hA
  exact hA.imp fun _ _ h=>h.same (zg sD)
 generalize upd (upd H' D (.lst ys)) R (.dK (cB ls))=H1 at s1 eD hA1 ⊢
 clear hA hs hg sD nD hyl
 have W1:=W.same s1
 have h5:=W1.parts
 have lpk:(dq PL).length=PL.length:=by unfold dq;rw [lM]
 refine⟨_,rfl,n,_,dx,fs,_,rfl,W1.obj,T.bc.c,T.bc.na.2.2.1,W1.fl.has ("parts",.ref Pd) (by simp),Pd,_,rfl,h5,fun o2=>?_⟩
 refine zE (fun j zs H'=>aQ (upd H1 Pd (.frz o2 (.dK (dq PL)))) H'/\zs.length<=j/\gY (BP K (upd H' Pd (.dK (dq PL)))) zs ((PL.take j).map (·.1))) (by rw [lpk];omega) ⟨aQ.refl _,Nat.le_refl _,.nil⟩ ?_ ?_ ?_ ?_
 ·rintro j zs H' ⟨_,hh,_⟩
  exact hh
 ·rintro j zs H' _ h
  exact h.1 _ _ aq
 ·rintro j kk v zs H' hj ⟨hs,hyl,hA⟩
  unfold dq at hj
  rw [List.getElem?_map] at hj
  obtain⟨q,hqj,e⟩:=Option.map_eq_some_iff.mp hj
  cases e
  have hm:=List.mem_of_getElem? hqj
  have hg:=hs _ _ aq
  have en:=hs _ _ (jO h5 W1.obj (by intro _ z;cases z))
  refine yes ⟨_,rfl,n,_,dx,fs,_,rfl,en,T.bc.c,T.bc.na.2.2.1,W1.fl.has ("parts",.ref Pd) (by simp),_,rfl,Pd,_,rfl,(by rw [<-W1.partV hm];exact .inl ⟨_,Sum.inr q.1.name,.inr ⟨o2,hg⟩,rfl,rfl⟩),?_⟩
  refine⟨q.2,q.1,rfl,((W1.pats q hm).chill h5).same hs,fun u a1 a2 a3 nu t1 t2 t3=>?_⟩
  have su:=aB (o:=.tup [.str (cg q.1.kind),.str q.1.name,.ref a1,.ref a2,.ref a3]) nu
  have nuP:u≠Pd:=fun z=>by rw [z,hg] at nu;cases nu
  refine⟨hs.trans su,by rw [lP,List.length_singleton];omega,?_⟩
  rw [List.take_succ,hqj,Option.toList_some,List.map_append,List.map_singleton]
  have ft:∀{a:Addr} {xs:List V},fG K H' a xs->fG K (upd (upd H' u (.tup [.str (cg q.1.kind),.str q.1.name,.ref a1,.ref a2,.ref a3])) Pd (.dK (dq PL))) a xs:=fun {a xs} t=>by
   rcases su.seqT t with (h | ⟨o',h⟩) | h
   ·exact .inl (.inl (by rw [aG (mK h (su _ _ hg) (by intro z;cases z))];exact h))
   ·exact .inl (.inr ⟨o',by rw [aG (mK h (su _ _ hg) (by intro z;cases z))];exact h⟩)
   ·exact .inr h
  refine(hA.imp fun _ _ h=>h.same (zg su)).app (.cons ⟨u,a1,a2,a3,rfl,by rw [aG nuP];exact aq,ft t1,ft t2,ft t3⟩ .nil)
 rintro zs H' ⟨hs,hyl,hA⟩ D2 nD2
 have hg:=hs _ _ aq
 have nDP:D2≠Pd:=fun z=>by rw [z,hg] at nD2;cases nD2
 have nD2H:H1 D2=none:=xV (hs.free nD2)
 have sD:=aB (o:=.lst zs) nD2
 refine⟨_,⟨Pd,o2,_,sD _ _ hg,(fun o' u' z=>by rw [show H Pd=_ from W.parts] at z;cases z),rfl⟩,?_⟩
 have s2:=zY h5 (hs.trans sD)
 have eD2:upd (upd H' D2 (.lst zs)) Pd (.dK (dq PL)) D2=some (.lst zs):=by rw [aG nDP];exact aq
 have hA2:gY (BP K (upd (upd H' D2 (.lst zs)) Pd (.dK (dq PL)))) zs ps:=by
  rw [lpk,List.take_length,W.pls] at hA
  exact hA.imp fun _ _ h=>h.same (zg sD)
 generalize upd (upd H' D2 (.lst zs)) Pd (.dK (dq PL))=H2 at s2 eD2 hA2 ⊢
 refine⟨_,rfl,_,rfl,gw,fun T' nT=>?_⟩
 have sT:=aB (o:=.tup [.ref D,.ref D2]) nT
 exact k T' D D2 _ (s1.trans (s2.trans sT)) nDH (s1.free nD2H) (aC eD nD2H) ⟨aq,⟨ys,sT _ _ (s2 _ _ eD),hA1.imp fun _ _ h=>h.same (s2.trans sT)⟩,⟨zs,sT _ _ eD2,hA2.imp fun _ _ h=>h.same sT⟩⟩
inductive uf (K:PySem.W.Frag) (t:lA) (vs:List V) (H:Hp) (Q:VK) (E:XK):Prop where
 | mk:∀(n dx Ll Lp:Addr) (ls:List aH) (ps:List PD),vs=[.ref n,.ref Ll,.ref Lp]->H n=some (.ins t.dY dx [])->Hand K H Ll Lp ls ps->xZ ls ps->(∀H',jR n H H'->jt K t H' n ls ps->Q .non H')->uf K t vs H Q E
theorem uh (T:Txt w K mg t):FO P w K mg base 6 t.o9 ["self", "lanes", "parts"] (uf K t):=by
 have sc:=T.gQ.sc ["self", "lanes", "parts", "lane", "row", "part"]
 refine T.gQ.F.ok sc ln (fun _ _ _ _ H vs Q E hr h=>?_)
 obtain⟨n,dx,Ll,Lp,ls,ps,rfl,hn,hH,hF,k⟩:=h
 refine⟨_,(au (bO (eQ (Ew T) T.qP hr (aa (pv 1) (aa (pv 2) ak aj) aj)))
  (au (iI (pv 0) gh rfl)
  (au (iI (pv 0) gh rfl)
  (au (fB PassesOwn.never rfl (cz (pv 1)) (gN sc 3)
   (au (bO (eQ (wO T) T.ou hr (aa (aU dH (pv 3) az (fun _ _=>rfl)) (aa (aZ (pv 0) rfl) ak aO) aD)))
   (au (bO (eQ (Jc T) T.vJ hr (aa (aU dH (pv 3) az (fun _ _=>rfl)) (aa (aU dH (pv 3) az (fun _ _=>rfl)) (aa (aU dH (pv 3) az (fun _ _=>rfl)) ak aD) aD) aD)))
   (au (f9 hr.u1 (aZ (pv 0) rfl) (aU dH (pv 3) az (fun _ _=>rfl)) (aU dH (pv 3) az (fun _ _=>rfl)) rfl)
   (aA (f9 hr.u1 (aZ (pv 0) rfl) (aU dH (pv 3) az (fun _ _=>rfl)) (cY rQ (by rfl) T.qb mU (aa (aU dH (pv 3) az (fun _ _=>rfl)) ak aD)) rfl))))))
  (au (iI (pv 0) gh rfl)
  (au (iI (pv 0) gh rfl)
  (au (iI (pv 0) gh rfl)
  (au (fB PassesOwn.never rfl (cz (pv 2)) (gN sc 4)
   (au (sN sc 5 (eQ (Ga T) T.tG hr (aa (pv 4) (aa (aZ (pv 0) rfl) ak aO) aj)))
   (au (bO (eQ (yO T) T.qi hr (aa (aZ (pv 5) rfl) (aa (aZ (pv 5) rfl) (aa (aZ (pv 0) rfl) (aa (aZ (pv 0) rfl) ak aO) aO) aO) aO)))
   (au (bO (eQ (yO T) T.qi hr (aa (aZ (pv 5) rfl) (aa (aZ (pv 5) rfl) (aa (aZ (pv 0) rfl) (aa (aZ (pv 0) rfl) ak aO) aO) aO) aO)))
   (aA (f9 hr.u1 (aZ (pv 0) rfl) (aZ (pv 5) rfl) (pv 5) rfl))))))
  (au (bO (eQ (Ih T) T.u5 hr (aa (aZ (pv 0) rfl) (aa (aZ (pv 0) rfl) (aa (aZ (pv 0) rfl) ak aO) aO) aO)))
  (aA (bO (eQ (Dd T) T.rm hr (aa (cY (oZ rfl) (by rfl) T.tE oR (aa (aZ (pv 0) rfl) ak aO)) (aa (aZ (pv 0) rfl) (aa (aZ (pv 0) rfl) ak aO) aO) aX))))))))))))),?_⟩
 have hl:sizeLine=16777216:=sizeLine_eq
 obtain⟨xs,hLl,aL⟩:=hH.ll
 obtain⟨ys,hLp,aP⟩:=hH.lp
 have lx:=aL.length
 have ly:=aP.length
 have l1:=hF.l1
 have l24:=hF.l24
 have p1:=hF.p1
 have p16:=hF.p16
 refine⟨_,rfl,_,rfl,Ll,Lp,_,_,rfl,hLl,hLp,by omega,by omega,by omega,by omega,?_⟩
 have T0:=Tr.start hn
 refine fun R nR=>?_
 have T1:=T0.new (o:=.dK []) nR
 have gR:=aB (o:=.dK []) nR
 generalize upd H R (.dK [])=H1 at T1 gR ⊢
 have cR:=T1.all (n,.ins t.dY dx []) (.head _)
 refine⟨_,rfl,n,_,dx,_,rfl,cR,T.bc.c,T.bc.na.1,Nat.lt_of_le_of_lt (show 0<=0 from Nat.le_refl 0) (by decide),?_⟩
 have T2:=T1.put (L1:=[]) (o':=.ins t.dY dx (aJ "rooms" (.ref R) []))
 have wR:jR n H1 (upd H1 n (.ins t.dY dx (aJ "rooms" (.ref R) []))):=jR.write
 generalize upd H1 n (.ins t.dY dx (aJ "rooms" (.ref R) []))=H2 at T2 wR ⊢
 refine fun F nF=>?_
 have T3:=T2.new (o:=.dK []) nF
 have gF:=aB (o:=.dK []) nF
 generalize upd H2 F (.dK [])=H3 at T3 gF ⊢
 have cF:=T3.all (n,.ins t.dY dx (aJ "rooms" (.ref R) [])) (.head _)
 refine⟨_,rfl,n,_,dx,_,rfl,cF,T.bc.c,T.bc.na.2.1,Nat.lt_of_le_of_lt (jm (Nat.zero_le 0)) (by decide),?_⟩
 have T4:=T3.put (L1:=[]) (o':=.ins t.dY dx (aJ "firsts" (.ref F) (aJ "rooms" (.ref R) [])))
 have wF:jR n H3 (upd H3 n (.ins t.dY dx (aJ "firsts" (.ref F) (aJ "rooms" (.ref R) [])))):=jR.write
 generalize upd H3 n (.ins t.dY dx (aJ "firsts" (.ref F) (aJ "rooms" (.ref R) [])))=H4 at T4 wF ⊢
 have kb:∀{Hk:Hp} {q:Addr} {u:HO},jR n H Hk->H q=some u->(∀C d f,u≠.ins C d f)->Hk q=some u:=fun b h hu=>b _ _ (mK h hn (by intro z;exact hu _ _ _ z)) h
 refine⟨_,rfl,Ll,rfl,⟨_,T4.but.seqL hn hLl⟩,eZ (K:=K) (a:=Ll) (xs:=xs) (fun j σ H'=>(∃x3,σ=[some (.ref n),some (.ref Ll),some (.ref Lp),x3,none,none])/\∃FL:List (aH×Addr),FL.map (·.1)=ls.take j/\Tr H n [(n,.ins t.dY dx (aJ "firsts" (.ref F) (aJ "rooms" (.ref R) []))),(R,.dK (cB (ls.take j))),(F,.dK (aW FL))] H'/\∀q∈FL,fG K H' q.2 (q.1.first.map V.int)) ⟨⟨none,rfl⟩,[],rfl,T4,by simp⟩ (fun j σ H' _ ⟨_,_,_,T',_⟩=>T'.but.seqL hn hLl) ?_ ?_⟩
 ·rintro j x σ H' hx ⟨⟨x3,rfl⟩,FL,eFL,T4,hS⟩
  obtain⟨l,hlj,q,f,rfl,hq,hf⟩:=aL.get hx
  have hm:=List.mem_of_getElem? hlj
  obtain⟨v1,v2,v3,v4⟩:=hF.lok l hm
  have hnm:=hF.lnm l hm
  have hj:=(List.getElem?_eq_some_iff.mp hlj).1
  have kq:∀{Hk:Hp},jR n H Hk->Hk q=some (.tup [.str l.name,.int l.room,.ref f]):=fun b=>kb b hq (by intro _ _ _ z;cases z)
  have nin:=kZ hF.whole.nod hlj
  have vR:cH (cB (ls.take j)) (Sum.inr l.name)=none:=ie (by rw [mF];intro z;obtain⟨b,hb,e⟩:=List.mem_map.mp z;cases e;exact nin hb)
  have vF:cH (aW FL) (Sum.inr l.name)=none:=ie (by rw [fH,eFL];intro z;obtain⟨b,hb,e⟩:=List.mem_map.mp z;cases e;exact nin hb)
  have tk:ls.take (j+1)=ls.take j ++ [l]:=by rw [List.take_succ,hlj];rfl
  have e4:=T4.all (n,.ins t.dY dx (aJ "firsts" (.ref F) (aJ "rooms" (.ref R) []))) (.head _)
  refine QR fun De hD u hu=>?_
  refine⟨_,rfl,q,_,0,_,rfl,rfl,fG.of (kq T4.but),aK (j:=0) rfl,_,rfl,n,_,dx,_,_,rfl,e4,T.bc.c,T.bc.na.1,(by (repeat first | (rw [aF,if_pos rfl];done) | rw [aF,if_neg (by decide +kernel)])),l.name,R,_,rfl,T4.all (R,.dK (cB (ls.take j))) (by simp),hnm,Gs hnm,vR,fun H5 s5=>?_⟩
  have T5:=T4.same s5
  refine dJ (v:=u) hu fun u hu=>?_
  refine⟨_,rfl,q,_,0,_,rfl,rfl,fG.of (kq T5.but),aK (j:=0) rfl,_,rfl,q,_,1,_,rfl,rfl,fG.of (kq T5.but),aK (j:=1) rfl,_,rfl,q,_,2,_,rfl,rfl,fG.of (kq T5.but),aK (j:=2) rfl,.str l.name,l.room,f,l.first,rfl,T5.but.seqA hn hf,by omega,v4,v1,v3,v2,fun H6 s6=>?_⟩
  have T6:=T5.same s6
  have e6:=T6.all (n,.ins t.dY dx (aJ "firsts" (.ref F) (aJ "rooms" (.ref R) []))) (.head _)
  have eR6:=T6.all (R,.dK (cB (ls.take j))) (by simp)
  refine dJ (v:=u) hu fun u hu=>?_
  refine⟨_,rfl,q,_,1,_,rfl,rfl,fG.of (kq T6.but),aK (j:=1) rfl,_,rfl,n,_,dx,_,_,rfl,e6,T.bc.c,T.bc.na.1,(by (repeat first | (rw [aF,if_pos rfl];done) | rw [aF,if_neg (by decide +kernel)])),_,rfl,q,_,0,_,rfl,rfl,fG.of (kq T6.but),aK (j:=0) rfl,R,_,rfl,oN.k (k:=Sum.inr l.name) eR6 (by unfold cB;rw [lM,List.length_take];omega),?_⟩
  have e7:putK (cB (ls.take j)) (Sum.inr l.name) (.int l.room)=cB (ls.take (j+1)):=by rw [jf _ vR,tk];unfold cB;rw [List.map_append];rfl
  have T7:=T6.put (L1:=[_]) (o':=.dK (cB (ls.take (j+1))))
  rw [e7]
  have hS7:∀q∈FL,fG K (upd H6 R (.dK (cB (ls.take (j+1))))) q.2 (q.1.first.map V.int):=fun q hq=>gr eR6 (s6.seqT (s5.seqT (hS q hq)))
  generalize upd H6 R (.dK (cB (ls.take (j+1))))=H7 at T7 hS7 ⊢
  subst hu
  refine⟨_,rfl,q,_,2,_,rfl,rfl,fG.of (kq T7.but),aK (j:=2) rfl,f,_,rfl,T7.but.seqA hn hf,fun H8 F0 s8 t8=>?_⟩
  have T8:=T7.same s8
  have e8:=T8.all (n,.ins t.dY dx (aJ "firsts" (.ref F) (aJ "rooms" (.ref R) []))) (.head _)
  have eF8:=T8.all (F,.dK (aW FL)) (by simp)
  have lFL:FL.length<=24:=by have:=congrArg List.length eFL;rw [lM,List.length_take] at this;omega
  refine⟨_,rfl,n,_,dx,_,_,rfl,e8,T.bc.c,T.bc.na.2.1,(by (repeat first | (rw [aF,if_pos rfl];done) | rw [aF,if_neg (by decide +kernel)])),_,rfl,q,_,0,_,rfl,rfl,fG.of (kq T8.but),aK (j:=0) rfl,F,_,rfl,oN.k (k:=Sum.inr l.name) eF8 (by unfold aW;rw [lM];omega),?_⟩
  have e9:putK (aW FL) (Sum.inr l.name) (.ref F0)=aW (FL ++ [(l,F0)]):=by rw [jf _ vF];unfold aW;rw [List.map_append];rfl
  have T9:=T8.put (L1:=[_,_]) (o':=.dK (aW (FL ++ [(l,F0)])))
  rw [e9]
  subst hD
  refine⟨⟨_,rfl⟩,FL ++ [(l,F0)],by rw [List.map_append,eFL,tk];rfl,T9,fun q hq=>?_⟩
  rcases List.mem_append.mp hq with h | h
  ·exact gr eF8 (s8.seqT (hS7 q h))
  ·rw [List.mem_singleton] at h
   subst h
   exact gr eF8 t8
 rintro σ H9 ⟨⟨x3,rfl⟩,FL,eFL,T9,t9⟩
 rw [lx,List.take_length] at eFL T9
 clear T0 T1 T2 T3 T4
 refine fun Pd nPd=>?_
 have T10:=T9.new (o:=.dK []) nPd
 have gPd:=aB (o:=.dK []) nPd
 generalize upd H9 Pd (.dK [])=H10 at T10 gPd ⊢
 have cPd:=T10.all (n,.ins t.dY dx (aJ "firsts" (.ref F) (aJ "rooms" (.ref R) []))) (.head _)
 refine⟨_,rfl,n,_,dx,_,rfl,cPd,T.bc.c,T.bc.na.2.2.1,Nat.lt_of_le_of_lt (jm (jm (Nat.zero_le 0))) (by decide),?_⟩
 have T11:=T10.put (L1:=[]) (o':=.ins t.dY dx (aJ "parts" (.ref Pd) (aJ "firsts" (.ref F) (aJ "rooms" (.ref R) []))))
 have wPd:jR n H10 (upd H10 n (.ins t.dY dx (aJ "parts" (.ref Pd) (aJ "firsts" (.ref F) (aJ "rooms" (.ref R) []))))):=jR.write
 generalize upd H10 n (.ins t.dY dx (aJ "parts" (.ref Pd) (aJ "firsts" (.ref F) (aJ "rooms" (.ref R) []))))=H11 at T11 wPd ⊢
 refine fun Gv nGv=>?_
 have T12:=T11.new (o:=.dK []) nGv
 have gGv:=aB (o:=.dK []) nGv
 generalize upd H11 Gv (.dK [])=H12 at T12 gGv ⊢
 have cGv:=T12.all (n,.ins t.dY dx (aJ "parts" (.ref Pd) (aJ "firsts" (.ref F) (aJ "rooms" (.ref R) [])))) (.head _)
 refine⟨_,rfl,n,_,dx,_,rfl,cGv,T.bc.c,T.bc.na.2.2.2.1,Nat.lt_of_le_of_lt (jm (jm (jm (Nat.zero_le 0)))) (by decide),?_⟩
 have T13:=T12.put (L1:=[]) (o':=.ins t.dY dx (aJ "givers" (.ref Gv) (aJ "parts" (.ref Pd) (aJ "firsts" (.ref F) (aJ "rooms" (.ref R) [])))))
 have wGv:jR n H12 (upd H12 n (.ins t.dY dx (aJ "givers" (.ref Gv) (aJ "parts" (.ref Pd) (aJ "firsts" (.ref F) (aJ "rooms" (.ref R) [])))))):=jR.write
 generalize upd H12 n (.ins t.dY dx (aJ "givers" (.ref Gv) (aJ "parts" (.ref Pd) (aJ "firsts" (.ref F) (aJ "rooms" (.ref R) [])))))=H13 at T13 wGv ⊢
 refine fun Tk nTk=>?_
 have T14:=T13.new (o:=.dK []) nTk
 have gTk:=aB (o:=.dK []) nTk
 generalize upd H13 Tk (.dK [])=H14 at T14 gTk ⊢
 have cTk:=T14.all (n,.ins t.dY dx (aJ "givers" (.ref Gv) (aJ "parts" (.ref Pd) (aJ "firsts" (.ref F) (aJ "rooms" (.ref R) []))))) (.head _)
 refine⟨_,rfl,n,_,dx,_,rfl,cTk,T.bc.c,T.bc.na.2.2.2.2.1,Nat.lt_of_le_of_lt (jm (jm (jm (jm (Nat.zero_le 0))))) (by decide),?_⟩
 have T15:=T14.put (L1:=[]) (o':=.ins t.dY dx (aJ "takers" (.ref Tk) (aJ "givers" (.ref Gv) (aJ "parts" (.ref Pd) (aJ "firsts" (.ref F) (aJ "rooms" (.ref R) []))))))
 have wTk:jR n H14 (upd H14 n (.ins t.dY dx (aJ "takers" (.ref Tk) (aJ "givers" (.ref Gv) (aJ "parts" (.ref Pd) (aJ "firsts" (.ref F) (aJ "rooms" (.ref R) []))))))):=jR.write
 generalize upd H14 n (.ins t.dY dx (aJ "takers" (.ref Tk) (aJ "givers" (.ref Gv) (aJ "parts" (.ref Pd) (aJ "firsts" (.ref F) (aJ "rooms" (.ref R) []))))))=H15 at T15 wTk ⊢
 have T15:Tr H n [(n,.ins t.dY dx (aJ "takers" (.ref Tk) (aJ "givers" (.ref Gv) (aJ "parts" (.ref Pd) (aJ "firsts" (.ref F) (aJ "rooms" (.ref R) [])))))),(R,.dK (cB ls)),(F,.dK (aW FL)),(Pd,.dK []),(Gv,.dK []),(Tk,.dK [])] H15:=T15
 have t15:∀q∈FL,fG K H15 q.2 (q.1.first.map V.int):=fun q hq=>wTk.seqT cTk (gTk.seqT (wGv.seqT cGv (gGv.seqT (wPd.seqT cPd (gPd.seqT (t9 q hq))))))
 have nod:=T15.nod
 simp only [List.map_append,List.map_cons,List.map_nil,List.nil_append,List.cons_append,List.nodup_cons,List.mem_cons,List.not_mem_nil,or_false,not_or] at nod
 have nRF:R≠F:=nod.2.1.1
 have nRT:R≠Tk:=nod.2.1.2.2.2
 have nRG:R≠Gv:=nod.2.1.2.2.1
 have nGT:Gv≠Tk:=nod.2.2.2.2.1
 clear nod
 have ono:(ps.flatMap (·.outs)).Nodup:=hF.whole.outs.nodup_iff.mpr hF.whole.nod
 have ini:(ps.flatMap (·.ins)).Nodup:=hF.whole.ins.nodup_iff.mpr hF.whole.nod
 have inR:∀z∈ls.map (·.name),(cH (cB ls) (Sum.inr z)).isSome=true:=fun z hz=>by
  obtain⟨l,hl,rfl⟩:=List.mem_map.mp hz
  have e:cH (cB ls) (Sum.inr l.name)=some (.int l.room):=gW (by rw [mF];exact fO hF.whole.nod) (List.mem_map.mpr ⟨l,hl,rfl⟩)
  rw [e]
  rfl
 have lenE:∀(f:PD->List Str) (j:Nat),(ps.flatMap f).Perm (ls.map (·.name))->(dC f (ps.take j)).length<=24:=fun f j pm=>by
  rw [Ov]
  have e1:((ps.take j).flatMap f).length+((ps.drop j).flatMap f).length=(ps.flatMap f).length:=by rw [<-lP,<-List.flatMap_append,List.take_append_drop]
  have e2:=pm.length_eq
  rw [lM] at e2
  omega
 refine⟨_,rfl,Lp,rfl,⟨_,T15.but.seqL hn hLp⟩,eZ (K:=K) (a:=Lp) (xs:=ys) (fun j σ H'=>(∃x3 x4 x5,σ=[some (.ref n),some (.ref Ll),some (.ref Lp),x3,x4,x5])/\∃PL:List (PD×Addr),PL.map (·.1)=ps.take j/\Tr H n [(n,.ins t.dY dx (aJ "takers" (.ref Tk) (aJ "givers" (.ref Gv) (aJ "parts" (.ref Pd) (aJ "firsts" (.ref F) (aJ "rooms" (.ref R) [])))))),(R,.dK (cB ls)),(F,.dK (aW FL)),(Pd,.dK (dq PL)),(Gv,.dK (dC (·.outs) (ps.take j))),(Tk,.dK (dC (·.ins) (ps.take j)))] H'/\(∀q∈FL,fG K H' q.2 (q.1.first.map V.int))/\∀q∈PL,fJ K t H' q.2 q.1.kind (.str q.1.name) (q.1.nums.map V.int) (q.1.ins.map V.str) (q.1.outs.map V.str)) ⟨⟨x3,none,none,rfl⟩,[],rfl,T15,t15,by simp⟩ (fun j σ H' _ ⟨_,_,_,T',_⟩=>T'.but.seqL hn hLp) ?_ ?_⟩
 ·rintro j x σ H' hx ⟨⟨x3,x4,x5,rfl⟩,PL,ePL,T15,hS,hP⟩
  obtain⟨p,hpj,r,a1,a2,a3,rfl,hr,q1,q2,q3⟩:=aP.get hx
  have hm:=List.mem_of_getElem? hpj
  have hj:=(List.getElem?_eq_some_iff.mp hpj).1
  obtain⟨o1,o2,o3,o4,o5⟩:=hF.pok p hm
  have hnm:=hF.pnm p hm
  have nin:=kZ hF.pnd hpj
  have tk:ps.take (j+1)=ps.take j ++ [p]:=by rw [List.take_succ,hpj];rfl
  have vP:cH (dq PL) (Sum.inr p.name)=none:=ie (by rw [Bl,ePL];intro z;obtain⟨b,hb,e⟩:=List.mem_map.mp z;cases e;exact nin hb)
  obtain⟨di,fi⟩:=HQ ini hpj
  obtain⟨do',fo⟩:=HQ ono hpj
  have e15:=T15.all (n,.ins t.dY dx (aJ "takers" (.ref Tk) (aJ "givers" (.ref Gv) (aJ "parts" (.ref Pd) (aJ "firsts" (.ref F) (aJ "rooms" (.ref R) [])))))) (.head _)
  refine QR fun De hD u hu=>?_
  refine⟨_,rfl,_,rfl,n,_,dx,_,_,rfl,e15,T.bc.c,T.bc.na.2.2.1,(by (repeat first | (rw [aF,if_pos rfl];done) | rw [aF,if_neg (by decide +kernel)])),p.kind,p.name,r,Pd,a1,a2,a3,_,_,_,_,rfl,kb T15.but hr (by intro _ _ _ z;cases z),by omega,T15.all (Pd,.dK (dq PL)) (by simp),hnm,Gs hnm,vP,T15.but.seqA hn q1,T15.but.seqA hn q2,T15.but.seqA hn q3,by rw [lM];exact o2,by rw [lM];exact o3,by rw [lM];exact o4,?_,fun H16 pp s16 npp Pp=>?_⟩
  ·intro v hv
   obtain⟨i,hi,rfl⟩:=List.mem_map.mp hv
   exact⟨i,rfl,(o5 i hi).1,(o5 i hi).2⟩
  have T16:=T15.same s16
  obtain⟨dxp,tn,ti,to,z1,z2,z3,z4⟩:=id Pp.ex
  have e16:=T16.all (n,.ins t.dY dx (aJ "takers" (.ref Tk) (aJ "givers" (.ref Gv) (aJ "parts" (.ref Pd) (aJ "firsts" (.ref F) (aJ "rooms" (.ref R) [])))))) (.head _)
  have eTk:=T16.all (Tk,.dK (dC (·.ins) (ps.take j))) (by simp)
  have li:=lenE (·.ins) j hF.whole.ins
  have lo:=lenE (·.outs) j hF.whole.outs
  have h3I:p.ins.length<=3:=by rw [o3];exact yl _
  have h3O:p.outs.length<=2:=by rw [o4];exact QS _
  refine dJ (v:=u) hu fun u hu=>?_
  refine⟨_,rfl,pp,_,dxp,_,_,rfl,z1,eE T p.kind,sY T p.kind,oX _ _ _ _,_,rfl,pp,_,dxp,_,_,rfl,z1,eE T p.kind,sS T p.kind,mH _ _ _ _,_,rfl,n,_,dx,_,_,rfl,e16,T.bc.c,T.bc.na.1,(by (repeat first | (rw [aF,if_pos rfl];done) | rw [aF,if_neg (by decide +kernel)])),_,rfl,n,_,dx,_,_,rfl,e16,T.bc.c,T.bc.na.2.2.2.2.1,(by (repeat first | (rw [aF,if_pos rfl];done) | rw [aF,if_neg (by decide +kernel)])),p.name,ti,R,Tk,p.ins,_,_,rfl,z3,T16.all (R,.dK (cB ls)) (by simp),nRT,eTk,di,fun z hz=>⟨inR z (hF.whole.ins.mem_iff.mp (List.mem_flatMap.mpr ⟨p,hm,hz⟩)),Ef (fi z hz)⟩,by omega,?_⟩
  rw [<-Eo (·.ins) (ps.take j) p,<-tk]
  have T17:=T16.put (L1:=[_,_,_,_,_]) (o':=.dK (dC (·.ins) (ps.take (j+1))))
  have Pp17:=Pp.chill (v:=.dK (dC (·.ins) (ps.take (j+1)))) eTk
  have hS17:∀q∈FL,fG K (upd H16 Tk (.dK (dC (·.ins) (ps.take (j+1))))) q.2 (q.1.first.map V.int):=fun q hq=>gr eTk (s16.seqT (hS q hq))
  have hP17:∀q∈PL,fJ K t (upd H16 Tk (.dK (dC (·.ins) (ps.take (j+1))))) q.2 q.1.kind (.str q.1.name) (q.1.nums.map V.int) (q.1.ins.map V.str) (q.1.outs.map V.str):=fun q hq=>((hP q hq).same s16).chill eTk
  generalize upd H16 Tk (.dK (dC (·.ins) (ps.take (j+1))))=H17 at T17 Pp17 hS17 hP17 ⊢
  clear z1 z2 z3 z4 e16
  obtain⟨dxp,tn,ti,to,z1,z2,z3,z4⟩:=id Pp17.ex
  have e17:=T17.all (n,.ins t.dY dx (aJ "takers" (.ref Tk) (aJ "givers" (.ref Gv) (aJ "parts" (.ref Pd) (aJ "firsts" (.ref F) (aJ "rooms" (.ref R) [])))))) (.head _)
  have eGv:=T17.all (Gv,.dK (dC (·.outs) (ps.take j))) (by simp)
  refine dJ (v:=u) hu fun u hu=>?_
  refine⟨_,rfl,pp,_,dxp,_,_,rfl,z1,eE T p.kind,sY T p.kind,oX _ _ _ _,_,rfl,pp,_,dxp,_,_,rfl,z1,eE T p.kind,vY T p.kind,rC _ _ _ _,_,rfl,n,_,dx,_,_,rfl,e17,T.bc.c,T.bc.na.1,(by (repeat first | (rw [aF,if_pos rfl];done) | rw [aF,if_neg (by decide +kernel)])),_,rfl,n,_,dx,_,_,rfl,e17,T.bc.c,T.bc.na.2.2.2.1,(by (repeat first | (rw [aF,if_pos rfl];done) | rw [aF,if_neg (by decide +kernel)])),p.name,to,R,Gv,p.outs,_,_,rfl,z4,T17.all (R,.dK (cB ls)) (by simp),nRG,eGv,do',fun z hz=>⟨inR z (hF.whole.outs.mem_iff.mp (List.mem_flatMap.mpr ⟨p,hm,hz⟩)),Ef (fo z hz)⟩,by omega,?_⟩
  rw [<-Eo (·.outs) (ps.take j) p,<-tk]
  have T18:=T17.put (L1:=[_,_,_,_]) (o':=.dK (dC (·.outs) (ps.take (j+1))))
  have Pp18:=Pp17.chill (v:=.dK (dC (·.outs) (ps.take (j+1)))) eGv
  have hS18:∀q∈FL,fG K (upd H17 Gv (.dK (dC (·.outs) (ps.take (j+1))))) q.2 (q.1.first.map V.int):=fun q hq=>gr eGv (hS17 q hq)
  have hP18:∀q∈PL,fJ K t (upd H17 Gv (.dK (dC (·.outs) (ps.take (j+1))))) q.2 q.1.kind (.str q.1.name) (q.1.nums.map V.int) (q.1.ins.map V.str) (q.1.outs.map V.str):=fun q hq=>(hP17 q hq).chill eGv
  generalize upd H17 Gv (.dK (dC (·.outs) (ps.take (j+1))))=H18 at T18 Pp18 hS18 hP18 ⊢
  clear z1 z2 z3 z4 e17
  obtain⟨dxp,tn,ti,to,z1,z2,z3,z4⟩:=id Pp18.ex
  have e18:=T18.all (n,.ins t.dY dx (aJ "takers" (.ref Tk) (aJ "givers" (.ref Gv) (aJ "parts" (.ref Pd) (aJ "firsts" (.ref F) (aJ "rooms" (.ref R) [])))))) (.head _)
  have ePd:=T18.all (Pd,.dK (dq PL)) (by simp)
  have lPL:PL.length<=16:=by have:=congrArg List.length ePL;rw [lM,List.length_take] at this;omega
  subst hu
  refine⟨_,rfl,_,rfl,n,_,dx,_,_,rfl,e18,T.bc.c,T.bc.na.2.2.1,(by (repeat first | (rw [aF,if_pos rfl];done) | rw [aF,if_neg (by decide +kernel)])),_,rfl,pp,_,dxp,_,_,rfl,z1,eE T p.kind,sY T p.kind,oX _ _ _ _,Pd,_,rfl,oN.k (k:=Sum.inr p.name) ePd (by unfold dq;rw [lM];omega),?_⟩
  have e19:putK (dq PL) (Sum.inr p.name) (.ref pp)=dq (PL ++ [(p,pp)]):=by rw [jf _ vP];unfold dq;rw [List.map_append];rfl
  have T19:=T18.put (L1:=[_,_,_]) (o':=.dK (dq (PL ++ [(p,pp)])))
  rw [e19]
  subst hD
  refine⟨⟨_,_,_,rfl⟩,PL ++ [(p,pp)],by rw [List.map_append,ePL,tk];rfl,T19,fun q hq=>gr ePd (hS18 q hq),fun q hq=>?_⟩
  rcases List.mem_append.mp hq with h | h
  ·exact(hP18 q h).chill ePd
  ·rw [List.mem_singleton] at h
   subst h
   exact Pp18.chill ePd
 rintro σ H18 ⟨⟨x3,x4,x5,rfl⟩,PL,ePL,T18,hS,hP⟩
 rw [ly,List.take_length] at ePL T18
 have e18:=T18.all (n,.ins t.dY dx (aJ "takers" (.ref Tk) (aJ "givers" (.ref Gv) (aJ "parts" (.ref Pd) (aJ "firsts" (.ref F) (aJ "rooms" (.ref R) [])))))) (.head _)
 have eR:=T18.all (R,.dK (cB ls)) (by simp)
 have eF:=T18.all (F,.dK (aW FL)) (by simp)
 have ePd:=T18.all (Pd,.dK (dq PL)) (by simp)
 have eGv:=T18.all (Gv,.dK (dC (·.outs) ps)) (by simp)
 have eTk:=T18.all (Tk,.dK (dC (·.ins) ps)) (by simp)
 refine⟨_,rfl,n,_,dx,_,_,rfl,e18,T.bc.c,T.bc.na.1,(by (repeat first | (rw [aF,if_pos rfl];done) | rw [aF,if_neg (by decide +kernel)])),_,rfl,n,_,dx,_,_,rfl,e18,T.bc.c,T.bc.na.2.2.2.1,(by (repeat first | (rw [aF,if_pos rfl];done) | rw [aF,if_neg (by decide +kernel)])),_,rfl,n,_,dx,_,_,rfl,e18,T.bc.c,T.bc.na.2.2.2.2.1,(by (repeat first | (rw [aF,if_pos rfl];done) | rw [aF,if_neg (by decide +kernel)])),R,Gv,Tk,_,_,_,rfl,eR,eGv,eTk,nRG,nRT,?_,?_⟩
 ·intro q hq
  obtain⟨l,hl,rfl⟩:=List.mem_map.mp hq
  have hln:l.name∈ls.map (·.name):=List.mem_map.mpr ⟨l,hl,rfl⟩
  obtain⟨pa,ha,la⟩:=List.mem_flatMap.mp (hF.whole.outs.mem_iff.mpr hln)
  obtain⟨pb,hb,lb⟩:=List.mem_flatMap.mp (hF.whole.ins.mem_iff.mpr hln)
  exact⟨by rw [ju ono ha la];rfl,by rw [ju ini hb lb];rfl⟩
 refine⟨_,rfl,n,_,dx,_,_,rfl,e18,T.bc.c,T.bc.na.2.2.1,(by (repeat first | (rw [aF,if_pos rfl];done) | rw [aF,if_neg (by decide +kernel)])),Pd,_,rfl,.inl ePd,fun l nl=>?_⟩
 have s19:=aB (o:=.lst ((dq PL).map fun p=>kV p.1)) nl
 have eL:(dq PL).map (fun p=>kV p.1)=ps.map fun p=>V.str p.name:=by unfold dq;rw [List.map_map,<-ePL,List.map_map];rfl
 refine⟨_,rfl,n,_,dx,_,_,rfl,(s19 _ _ e18),T.bc.c,T.bc.na.2.2.2.1,(by (repeat first | (rw [aF,if_pos rfl];done) | rw [aF,if_neg (by decide +kernel)])),_,rfl,n,_,dx,_,_,rfl,(s19 _ _ e18),T.bc.c,T.bc.na.2.2.2.2.1,(by (repeat first | (rw [aF,if_pos rfl];done) | rw [aF,if_neg (by decide +kernel)])),l,Gv,Tk,ps,rfl,bR.of (by rw [<-eL];exact aq),by omega,by omega,s19 _ _ eGv,s19 _ _ eTk,nGT,ono,ini,hF.whole.outs.trans hF.whole.ins.symm,hF.whole.hang,fun H20 s20=>?_⟩
 have s:=s19.trans s20
 refine k _ (fun b u hb e=>s _ _ (T18.but b u hb e)) ⟨dx,_,R,F,Pd,Gv,Tk,FL,PL,s _ _ e18,⟨?_,?_⟩,s _ _ eR,s _ _ eF,s _ _ ePd,s _ _ eGv,s _ _ eTk,eFL,ePL,fun q hq=>s.seqT (hS q hq),fun q hq=>(hP q hq).same s,hF,nRF⟩
 ·intro q hq
  simp only [List.mem_cons,List.not_mem_nil,or_false] at hq
  rcases hq with rfl | rfl | rfl | rfl | rfl <;> (dsimp only;(repeat first | (rw [aF,if_pos rfl];done) | rw [aF,if_neg (by decide +kernel)]))
 ·intro m hm
  have hne:∀m∈(["lane_names", "part_names", "names_of_kind", "gives", "need_lane_name", "room_of", "first_of", "part_of", "told", "__init__"]:List Str),∀g∈(["takers", "givers", "parts", "firsts", "rooms"]:List Str),¬m=g:=by decide +kernel
  have h:=hne m hm
  rw [aF,if_neg (h _ (by simp)),aF,if_neg (h _ (by simp)),aF,if_neg (h _ (by simp)),aF,if_neg (h _ (by simp)),aF,if_neg (h _ (by simp))]
  rfl
inductive w5 (K:PySem.W.Frag) (t:lA) (vs:List V) (H:Hp) (Q:VK) (E_:XK):Prop where
 | mk:∀(f n E G Kp D Rw l:Addr) (ed gd:List (Key×V)) (x:Str) (vs':List V) (g:Nat),vs=[.ref f,.str x]->qN K t H f n E G Kp D Rw->H E=some (.dK ed)->H G=some (.dK gd)->cH ed (Sum.inr x)=some (.ref l)->cH gd (Sum.inr x)=some (.int g)->bR K H l vs'->Q (.int (vs'.length - g)) H->w5 K t vs H Q E_
theorem xx (T:Txt w K mg t):FO P w K mg base 1 t.tQ ["self", "lane"] (w5 K t):=by
 have sc:=T.nY.sc ["self", "lane"]
 refine T.nY.F.ok sc ln (fun _ _ _ _ H vs Q E hr h=>?_)
 obtain⟨f,n,E,G,Kp,D,Rw,l,ed,gd,x,vs',g,rfl,N,hE,hG,h3,h4,h5,k⟩:=h
 refine⟨_,(aA (aN (bD Ld (bJ cC (by rfl) T.gA d7 (aa (cG hr.u1 (aZ (pv 0) rfl) (pv 1) (fun _ _=>rfl)) ak aD)) (cG hr.u1 (aZ (pv 0) rfl) (pv 1) (fun _ _=>rfl))))),?_⟩
 obtain⟨dx,fs,h1,h2⟩:=id N.ex
 refine⟨_,rfl,f,_,dx,fs,_,rfl,h1,T.aY.c,T.aY.na.2.1,h2.has ("ever",.ref E) (by simp),_,rfl,E,_,rfl,(by rw [<-h3];exact eX.k (k:=Sum.inr x) hE),?_⟩
 refine⟨.ref l,vs'.length,rfl,.inl ⟨vs',h5,rfl⟩,_,rfl,f,_,dx,fs,_,rfl,h1,T.aY.c,T.aY.na.2.2.1,h2.has ("gone",.ref G) (by simp),_,rfl,G,_,rfl,(by rw [<-h4];exact eX.k (k:=Sum.inr x) hG),?_⟩
 refine⟨_,_,rfl,rfl,?_⟩
 exact k
inductive rO (K:PySem.W.Frag) (t:lA) (vs:List V) (H:Hp) (Q:VK) (E_:XK):Prop where
 | mk:∀(f n E G Kp D Rw l:Addr) (ed gd:List (Key×V)) (x:Str) (vs':List V) (g:Nat),vs=[.ref f,.str x]->qN K t H f n E G Kp D Rw->H E=some (.dK ed)->H G=some (.dK gd)->cH ed (Sum.inr x)=some (.ref l)->cH gd (Sum.inr x)=some (.int g)->bR K H l vs'->(∀p,H p=none->Q (.ref p) (upd H p (.lst (vs'.drop g))))->rO K t vs H Q E_
theorem zM (T:Txt w K mg t):FO P w K mg base 1 t.mV ["self", "lane"] (rO K t):=by
 have sc:=T.nA.sc ["self", "lane"]
 refine T.nA.F.ok sc ln (fun _ _ _ _ H vs Q E hr h=>?_)
 obtain⟨f,n,E,G,Kp,D,Rw,l,ed,gd,x,vs',g,rfl,N,hE,hG,h3,h4,h5,k⟩:=h
 refine⟨_,(aA (aN (lu ud (cG hr.u1 (aZ (pv 0) rfl) (pv 1) (fun _ _=>rfl)) (lU (cG hr.u1 (aZ (pv 0) rfl) (pv 1) (fun _ _=>rfl))) p8))),?_⟩
 obtain⟨dx,fs,h1,h2⟩:=id N.ex
 refine⟨_,rfl,f,_,dx,fs,_,rfl,h1,T.aY.c,T.aY.na.2.1,h2.has ("ever",.ref E) (by simp),_,rfl,E,_,rfl,(by rw [<-h3];exact eX.k (k:=Sum.inr x) hE),?_⟩
 refine⟨_,rfl,f,_,dx,fs,_,rfl,h1,T.aY.c,T.aY.na.2.2.1,h2.has ("gone",.ref G) (by simp),_,rfl,G,_,rfl,(by rw [<-h4];exact eX.k (k:=Sum.inr x) hG),?_⟩
 refine⟨_,rfl,l,vs',rfl,h5,fun p hp=>?_⟩
 rw [Er]
 exact k p hp
inductive zf (K:PySem.W.Frag) (t:lA) (vs:List V) (H:Hp) (Q:VK) (E_:XK):Prop where
 | mk:∀(f n E G Kp D Rw l:Addr) (ed gd:List (Key×V)) (x:Str) (vs':List V) (g:Nat),vs=[.ref f,.str x]->qN K t H f n E G Kp D Rw->H E=some (.dK ed)->H G=some (.dK gd)->cH ed (Sum.inr x)=some (.ref l)->cH gd (Sum.inr x)=some (.int g)->bR K H l vs'->Q ((vs'[g]?).getD .non) H->zf K t vs H Q E_
theorem Ia (T:Txt w K mg t):FO P w K mg base 2 t.uV ["self", "lane"] (zf K t):=by
 have sc:=T.vL.sc ["self", "lane"]
 refine T.vL.F.ok sc ln (fun _ _ _ _ H vs Q E hr h=>?_)
 obtain⟨f,n,E,G,Kp,D,Rw,l,ed,gd,x,vs',g,rfl,N,hE,hG,h3,h4,h5,k⟩:=h
 refine⟨_,(aA (aN (yN (bz Nk (Kc (pv 0) T.aY T.aY.me.2.1 (xx T) T.nY hr (aa (pv 1) ak aj)) az (bT _)) (aU aM (cG hr.u1 (aZ (pv 0) rfl) (pv 1) (fun _ _=>rfl)) (cG hr.u1 (aZ (pv 0) rfl) (pv 1) (fun _ _=>rfl)) (fun _ _=>rfl)) pC))),?_⟩
 obtain⟨dx,fs,h1,h2⟩:=id N.ex
 refine⟨_,rfl,f,dx,fs,rfl,h1,h2.no _ (by decide +kernel),_,rfl,f,n,E,G,Kp,D,Rw,l,ed,gd,x,vs',g,rfl,N,hE,hG,h3,h4,h5,?_⟩
 refine⟨_,_,rfl,rfl,_,rfl,lz (fun e=>?_) (fun e=>?_)⟩
 ·have e':g <vs'.length:=by have:=of_decide_eq_true e;omega
  refine⟨_,rfl,f,_,dx,fs,_,rfl,h1,T.aY.c,T.aY.na.2.1,h2.has ("ever",.ref E) (by simp),_,rfl,E,_,rfl,(by rw [<-h3];exact eX.k (k:=Sum.inr x) hE),?_⟩
  refine⟨_,rfl,f,_,dx,fs,_,rfl,h1,T.aY.c,T.aY.na.2.2.1,h2.has ("gone",.ref G) (by simp),_,rfl,G,_,rfl,(by rw [<-h4];exact eX.k (k:=Sum.inr x) hG),?_⟩
  rw [List.getElem?_eq_getElem e'] at k
  exact⟨l,vs',g,_,rfl,rfl,h5,aK (List.getElem?_eq_getElem e'),k⟩
 ·have e':¬g <vs'.length:=fun z=>e (decide_eq_true (by omega))
  rw [List.getElem?_eq_none (by omega)] at k
  exact k
inductive pM (K:PySem.W.Frag) (t:lA) (vs:List V) (H:Hp) (Q:VK):Prop where
 | mk:∀(f n E G Kp D Rw:Addr) (rd dd:List (Key×V)) (x:Str),vs=[.ref f,.str x]->qN K t H f n E G Kp D Rw->H Rw=some (.dK rd)->H D=some (.dK dd)->(((cH rd (Sum.inr x)=none/\Q (.bl false) H)∨∃(l:Addr) (vs':List V) (g:Nat),cH rd (Sum.inr x)=some (.ref l)/\cH dd (Sum.inr x)=some (.int g)/\bR K H l vs'/\Q (.bl (decide (g=vs'.length))) H))->pM K t vs H Q
@[irreducible] noncomputable def gf (K:PySem.W.Frag) (t:lA):Sp:=fun vs H Q _=>pM K t vs H Q
theorem qG (T:Txt w K mg t):FO P w K mg base 1 t.lJ ["self", "name"] (gf K t):=by
 have sc:=T.jy.sc ["self", "name"]
 refine T.jy.F.ok sc (fun vs H Q E h=>?_) (fun cdv A outer s H vs Q E hr h=>?_)
 ·unfold gf at h
  obtain⟨f,n,E,G,Kp,D,Rw,rd,dd,x,rfl,_⟩:=h
  rfl
 ·unfold gf at h
  obtain⟨f,n,E,G,Kp,D,Rw,rd,dd,x,rfl,N,hR,hD,k⟩:=h
  refine⟨_,(aA (aN (zJ (Je (z8 hr.u1 (pv 1) (aZ (pv 0) rfl))) (zP (wg fQ (cG hr.u1 (aZ (pv 0) rfl) (pv 1) (fun _ _=>rfl)) (bJ cC (by rfl) T.gA d7 (aa (cG hr.u1 (aZ (pv 0) rfl) (pv 1) (fun _ _=>rfl)) ak aD)) (bT _)))))),?_⟩
  obtain⟨dx,fs,h1,h2⟩:=id N.ex
  refine⟨_,rfl,_,rfl,f,_,dx,fs,_,rfl,h1,T.aY.c,T.aY.na.2.2.2.2.2.1,h2.has ("rows",.ref Rw) (by simp),Rw,_,rfl,eX.k (k:=Sum.inr x) hR,?_⟩
  rcases k with ⟨k1,k⟩ | ⟨l,vs',g,k1,k2,k3,k⟩
  ·rw [k1]
   exact⟨_,rfl,fc k⟩
  ·rw [k1]
   refine⟨_,rfl,lE ?_⟩
   refine⟨_,rfl,f,_,dx,fs,_,rfl,h1,T.aY.c,T.aY.na.2.2.2.2.1,h2.has ("done",.ref D) (by simp),_,rfl,D,_,rfl,(by rw [<-k2];exact eX.k (k:=Sum.inr x) hD),?_⟩
   refine⟨_,rfl,f,_,dx,fs,_,rfl,h1,T.aY.c,T.aY.na.2.2.2.2.2.1,h2.has ("rows",.ref Rw) (by simp),_,rfl,Rw,_,rfl,(by rw [<-k1];exact eX.k (k:=Sum.inr x) hR),?_⟩
   refine⟨.ref l,vs'.length,rfl,.inl ⟨vs',k3,rfl⟩,rfl,?_⟩
   rw [show decide (V.int (g:Int)=V.int (vs'.length:Int))=decide (g=vs'.length) by rw [decide_eq_decide,V.int.injEq];omega]
   exact k
inductive xj (K:PySem.W.Frag) (t:lA) (vs:List V) (H:Hp) (Q:VK) (E_:XK):Prop where
 | mk:∀(f n E G Kp D Rw p:Addr) (ed gd:List (Key×V)) (i:Nat) (nm:V) (ns os:List V) (xs:List Str) (hv:Str->V),vs=[.ref f,.ref p]->qN K t H f n E G Kp D Rw->H E=some (.dK ed)->H G=some (.dK gd)->fJ K t H p i nm ns (xs.map V.str) os->xs.length<=3->((∀x∈xs,∃(l:Addr) (vs':List V) (g:Nat),cH ed (Sum.inr x)=some (.ref l)/\cH gd (Sum.inr x)=some (.int g)/\bR K H l vs'/\hv x=(vs'[g]?).getD .non))->(∀d,H d=none->Q (.ref d) (upd H d (.lst (xs.map hv))))->xj K t vs H Q E_
theorem wK (T:Txt w K mg t):FO P w K mg base 3 t.ue ["self", "part"] (xj K t):=by
 have sc:=T.n8.sc ["self", "part"]
 refine T.n8.F.ok sc ln (fun _ _ _ _ H vs Q E hr h=>?_)
 obtain⟨f,n,E,G,Kp,D,Rw,p,ed,gd,i,nm,ns,os,xs,hv,rfl,N,hE,hG,hP,hx,hh,k⟩:=h
 refine⟨_,(aA (aN (fD [0] ["self", "part"] (bx (inClass (top 59) 6)) rfl (Ii (aZ (pv 1) rfl)) (fun _ _ _ _ _=>fC) (fun _ _ _ _ _=>(Kc (pv 1) T.aY T.aY.me.2.2.2.1 (Ia T) T.vL hr (aa (pv 0) ak aj)))))),?_⟩
 obtain⟨dx,fs,h1,h2⟩:=id N.ex
 obtain⟨dxp,tn,ti,to,p1,p2,p3,p4⟩:=id hP.ex
 have hz:sizeLine=16777216:=sizeLine_eq
 refine⟨_,rfl,p,_,dxp,_,_,rfl,p1,eE T i,sS T i,mH _ _ _ _,ti,rfl,⟨_,p3⟩,?_⟩
 refine JC (K:=K) (a:=ti) (xs:=xs.map V.str) (fun j ys H'=>H'=H/\ys=(xs.take j).map hv) (by simp;omega) ⟨rfl,rfl⟩ (fun j ys H' ⟨_,e⟩=>by rw [e];simp;omega) (fun j ys H' _ ⟨e,_⟩=>by rw [e];exact p3) ?_ ?_
 ·rintro j y ys H' hy ⟨rfl,rfl⟩
  rw [List.getElem?_map] at hy
  obtain⟨x,hq,rfl⟩:=Option.map_eq_some_iff.mp hy
  obtain⟨l,vs',g,g1,g2,g3,g4⟩:=hh x (List.mem_of_getElem? hq)
  refine yes ⟨_,rfl,f,dx,fs,rfl,h1,h2.no _ (by decide +kernel),_,rfl,f,n,E,G,Kp,D,Rw,l,ed,gd,x,vs',g,rfl,N,hE,hG,g1,g2,g3,rfl,?_⟩
  rw [List.take_succ,hq,Option.toList_some,List.map_append,<-g4]
  rfl
 ·rintro ys H' ⟨rfl,rfl⟩ d hd
  rw [lM,List.take_length]
  exact k d hd
theorem Sv (T:Txt w K mg t) (i:Nat):MethAt P w K mg base Bd 1 (cls t i) "start" (u0 K t i):=match i with
 | 0=>⟨_,_,_,T.ji.c,(T.bQ.me T.ji.me.2.2.2.2.1),T.bQ.b,(dR T).imp fun _ _ _ _ h=>⟨_,by omega,h⟩⟩
 | 1=>⟨_,_,_,T.jc.c,(T.bQ.me T.jc.me.2.2.2.2.1),T.bQ.b,(dR T).imp fun _ _ _ _ h=>⟨_,by omega,h⟩⟩
 | 2=>⟨_,_,_,T.ir.c,(T.bQ.me T.ir.me.2.2.2.2.2.1),T.bQ.b,(dR T).imp fun _ _ _ _ h=>⟨_,by omega,h⟩⟩
 | 3=>⟨_,_,_,T.iw.c,(T.bQ.me T.iw.me.2.2.2.2.2.1),T.bQ.b,(dR T).imp fun _ _ _ _ h=>⟨_,by omega,h⟩⟩
 | 4=>⟨_,_,_,T.iy.c,(T.bQ.me T.iy.me.2.2.2.2.2.1),T.bQ.b,(dR T).imp fun _ _ _ _ h=>⟨_,by omega,h⟩⟩
 | 5=>⟨_,_,_,T.gq.c,(T.oA.me T.gq.me.2.2.2.2.2.1),T.oA.b,Fz T⟩
 | 6=>⟨_,_,_,T.jU.c,(T.bQ.me T.jU.me.2.2.2.2.2.1),T.bQ.b,(dR T).imp fun _ _ _ _ h=>⟨_,by omega,h⟩⟩
 | 7=>⟨_,_,_,T.il.c,(T.bQ.me T.il.me.2.2.2.2.2.1),T.bQ.b,(dR T).imp fun _ _ _ _ h=>⟨_,by omega,h⟩⟩
 | 8=>⟨_,_,_,T.fL.c,(T.bQ.me T.fL.me.2.2.2.2.2.1),T.bQ.b,(dR T).imp fun _ _ _ _ h=>⟨_,by omega,h⟩⟩
 | 9=>⟨_,_,_,T.dW.c,(T.bQ.me T.dW.me.2.2.2.2.2.1),T.bQ.b,(dR T).imp fun _ _ _ _ h=>⟨_,by omega,h⟩⟩
 | n+10=>⟨_,_,_,T.fK.c,(T.bQ.me T.fK.me.2.2.2.2.2.1),T.bQ.b,(dR T).imp fun _ _ _ _ h=>⟨_,by omega,h⟩⟩
theorem find_name {α:Type} {f:α->Str}:∀{ls:List α} (_:(ls.map f).Nodup) {l:α} (_:l∈ls),ls.find? (fun x=>decide (f x=f l))=some l
 | a:: r,nd,l,hl=>by
  rw [List.map_cons,List.nodup_cons] at nd
  rcases List.mem_cons.mp hl with rfl | h
  ·rw [List.find?_cons_of_pos (by simp)]
  ·have:¬f a=f l:=fun z=>nd.1 (by rw [z];exact List.mem_map.mpr ⟨l,h,rfl⟩)
   rw [List.find?_cons_of_neg (by simp [this])]
   exact find_name nd.2 h
theorem UW:∀i,i <11->cg i= "give" ->i=0:=by decide +kernel
theorem Oe (p:PD) (h:z9 p):Jk p.kind (p.nums.map V.int)=.int (dw p):=by
 unfold Jk dw
 by_cases h5:p.kind=5
 ·rw [if_pos h5,if_pos h5]
  have hl:p.nums.length=1:=by rw [h.2.1,h5];rfl
  match p.nums,hl with
  | [m],_=>rfl
 ·rw [if_neg h5,if_neg h5]
inductive rJ (K:PySem.W.Frag) (t:lA) (vs:List V) (H:Hp) (Q:VK) (E:XK):Prop where
 | mk:∀(H0:Hp) (f dx n rw:Addr) (ls:List aH) (ps:List PD),vs=[.ref f,.ref n,.ref rw]->H f=some (.ins t.cW dx [])->aQ H0 H->H0 f=none->jt K t H0 n ls ps->H0 rw=some (.dK [])->(∀H' E G Kp D Rw EL RL,jR f H H'->kI K t H' f n ls ps (fun _=>0) (fu ps) E G Kp D Rw EL RL->(E:: G:: Kp:: D:: Rw:: EL.map (·.2)).Nodup->(∀a∈E:: G:: Kp:: D:: Rw:: EL.map (·.2),H a=none)->Q .non H')->rJ K t vs H Q E
theorem zT (T:Txt w K mg t):FO P w K mg base 5 t.mZ ["self", "net", "rows"] (rJ K t):=by
 have sc:=T.jF.sc ["self", "net", "rows", "lane", "name", "door"]
 refine T.jF.F.ok sc ln (fun _ _ _ _ H vs Q E hr h=>?_)
 obtain⟨H0,f,dx,n,rw,ls,ps,rfl,hf,s0,nf0,N,hrw,k⟩:=h
 refine⟨_,(au (iI (pv 0) (pv 1) rfl)
  (au (iI (pv 0) gh rfl)
  (au (iI (pv 0) gh rfl)
  (au (fB PassesOwn.never rfl (cz (Q5 (pv 1) T.bc T.bc.me.2.1 (jZ T) T.ig hr)) (gN sc 3)
   (au (f9 hr.u1 (aZ (pv 0) rfl) (pv 3) (jG (pv 1) T.bc.c (T.jX.me T.bc.me.2.2.2.2.2.2.2.1) (BV T) (hr.mono (by decide)) T.jX.b .nil uG (aa (pv 3) ak aj)) rfl)
   (aA (f9 hr.u1 (aZ (pv 0) rfl) (pv 3) az rfl))))
  (au (iI (pv 0) gh rfl)
  (au (iI (pv 0) gh rfl)
  (au (fB PassesOwn.never rfl (cz (Q5 (pv 1) T.bc T.bc.me.2.2.1 (kJ T) T.gP hr)) (gN sc 4)
   (au (f9 hr.u1 (aZ (pv 0) rfl) (pv 4) (rG (CX:=Bd) (k:=1) (E:=E0) (jG (pv 1) T.bc.c (T.dh.me T.bc.me.2.2.2.2.2.2.2.2.1) (jg T) (hr.mono (by decide)) T.dh.b .nil uG (aa (pv 4) ak aj)) (hr.mono (by decide)) fj) rfl)
   (aA (f9 hr.u1 (aZ (pv 0) rfl) (pv 4) az rfl))))
  (au (iI (pv 0) gh rfl)
  (aA (fB PassesOwn.never rfl (cz (Q5 (pv 1) T.bc T.bc.me.2.2.2.2.1 (yx T) T.pZ hr)) (gN sc 5)
   (aA (f9 hr.u1 (aZ (pv 0) rfl) (pv 5) (cY rW (by rfl) T.tE oR (aa (Ra hr.u1 (pv 2) (pv 5) (bj ak) ⟨rfl,rfl,rfl,rfl⟩) ak aX)) rfl)))))))))))),?_⟩
 obtain⟨dxn,fsn,R,F,Pd,Gn,Tk,FL,PL,W⟩:=id N
 have hl:sizeLine=16777216:=sizeLine_eq
 have l24:=W.fit.l24
 have p16:=W.fit.p16
 have sk:∀{Hk:Hp},jR f H Hk->aQ H0 Hk:=fun b x o e=>b x o (aC e nf0) (s0 x o e)
 have T0:=Tr.start hf
 refine⟨_,rfl,_,rfl,f,_,dx,[],rfl,hf,T.aY.c,T.aY.na.1,by show 0 <1000;decide,?_⟩
 have T1:=T0.put (L1:=[]) (L2:=[]) (o':=.ins t.cW dx (aJ "net" (.ref n) []))
 generalize upd H f (.ins t.cW dx (aJ "net" (.ref n) []))=H1 at T1 ⊢
 refine fun E nE=>?_
 have T2:=T1.new (o:=.dK []) nE
 generalize upd H1 E (.dK [])=H2 at T2 ⊢
 refine⟨_,rfl,f,_,dx,_,rfl,T2.all (f,_) (.head _),T.aY.c,T.aY.na.2.1,Nat.lt_of_le_of_lt (jm (Nat.zero_le 0)) (by decide),?_⟩
 have T3:=T2.put (L1:=[]) (o':=.ins t.cW dx (aJ "ever" (.ref E) (aJ "net" (.ref n) [])))
 generalize upd H2 f (.ins t.cW dx (aJ "ever" (.ref E) (aJ "net" (.ref n) [])))=H3 at T3 ⊢
 refine fun G nG=>?_
 have T4:=T3.new (o:=.dK []) nG
 generalize upd H3 G (.dK [])=H4 at T4 ⊢
 refine⟨_,rfl,f,_,dx,_,rfl,T4.all (f,_) (.head _),T.aY.c,T.aY.na.2.2.1,Nat.lt_of_le_of_lt (jm (jm (Nat.zero_le 0))) (by decide),?_⟩
 have T5:=T4.put (L1:=[]) (o':=.ins t.cW dx (aJ "gone" (.ref G) (aJ "ever" (.ref E) (aJ "net" (.ref n) []))))
 generalize upd H4 f (.ins t.cW dx (aJ "gone" (.ref G) (aJ "ever" (.ref E) (aJ "net" (.ref n) []))))=H5 at T5 ⊢
 have W5:=W.same (sk T5.but)
 refine⟨_,rfl,n,dxn,fsn,rfl,W5.obj,W5.fl.no _ (by decide +kernel),n,ls,ps,rfl,W5.s,fun l nl=>?_⟩
 have T6:Tr H f ((f,.ins t.cW dx (aJ "gone" (.ref G) (aJ "ever" (.ref E) (aJ "net" (.ref n) [])))):: (E,.dK (aW [])):: (G,.dK (dN (fun _=>0) [])):: (l,.lst (ls.map fun x:aH=>V.str x.name)):: lC []) (upd H5 l (.lst (ls.map fun x:aH=>V.str x.name))):=T5.new nl
 generalize upd H5 l (.lst (ls.map fun x:aH=>V.str x.name))=H6 at T6 ⊢
 clear T0 T1 T2 T3 T4 T5 W5
 refine⟨l,rfl,⟨_,bR.of (T6.all (l,.lst (ls.map fun x:aH=>V.str x.name)) (by simp))⟩,eZ (K:=K) (a:=l) (xs:=ls.map fun x:aH=>V.str x.name) (fun j σ H'=>(∃v3,σ=[some (.ref f),some (.ref n),some (.ref rw),v3,none,none])/\∃EL:List (aH×Addr),EL.map (·.1)=ls.take j/\Tr H f ((f,.ins t.cW dx (aJ "gone" (.ref G) (aJ "ever" (.ref E) (aJ "net" (.ref n) [])))):: (E,.dK (aW EL)):: (G,.dK (dN (fun _=>0) (ls.take j))):: (l,.lst (ls.map fun x:aH=>V.str x.name)):: lC EL) H') ⟨⟨none,rfl⟩,[],rfl,T6⟩ (fun j σ H' _ ⟨_,_,_,T'⟩=>bR.of (T'.all (l,.lst (ls.map fun x:aH=>V.str x.name)) (by simp))) ?_ ?_⟩
 ·rintro j x σ H' hx ⟨⟨v3,rfl⟩,EL,eEL,T7⟩
  rw [List.getElem?_map] at hx
  obtain⟨ln,hlj,rfl⟩:=Option.map_eq_some_iff.mp hx
  have hm:=List.mem_of_getElem? hlj
  have hj:=(List.getElem?_eq_some_iff.mp hlj).1
  have nin:=kZ W.fit.whole.nod hlj
  have vE:cH (aW EL) (Sum.inr ln.name)=none:=ie (by rw [fH,eEL];intro z;obtain⟨b,hb,e⟩:=List.mem_map.mp z;cases e;exact nin hb)
  have vG:cH (dN (fun _=>0) (ls.take j)) (Sum.inr ln.name)=none:=ie (by rw [xM];intro z;obtain⟨b,hb,e⟩:=List.mem_map.mp z;cases e;exact nin hb)
  have tk:ls.take (j+1)=ls.take j ++ [ln]:=by rw [List.take_succ,hlj];rfl
  have lEL:EL.length<=24:=by have:=congrArg List.length eEL;rw [lM,List.length_take] at this;omega
  have W7:=W.same (sk T7.but)
  refine⟨_,rfl,n,dxn,fsn,rfl,W7.obj,W7.fl.no _ (by decide +kernel),_,rfl,n,ls,ps,ln.name,rfl,W7.s,.inl ⟨ln,hm,rfl,fun H8 le s8 nle ele=>?_⟩⟩
  have T8:Tr H f ((f,.ins t.cW dx (aJ "gone" (.ref G) (aJ "ever" (.ref E) (aJ "net" (.ref n) [])))):: (E,.dK (aW EL)):: (G,.dK (dN (fun _=>0) (ls.take j))):: (l,.lst (ls.map fun x:aH=>V.str x.name)):: lC (EL ++ [(ln,le)])) H8:=by
   unfold lC
   rw [List.map_append]
   exact T7.got s8 nle ele
  refine⟨_,rfl,f,_,dx,_,_,rfl,T8.all (f,_) (.head _),T.aY.c,T.aY.na.2.1,(by (repeat first | (rw [aF,if_pos rfl];done) | rw [aF,if_neg (by decide +kernel)])),_,rfl,E,_,rfl,oN.k (k:=Sum.inr ln.name) (T8.all (E,.dK (aW EL)) (by simp)) (by unfold aW;rw [lM];omega),?_⟩
  have e8:putK (aW EL) (Sum.inr ln.name) (.ref le)=aW (EL ++ [(ln,le)]):=by rw [jf _ vE];unfold aW;rw [List.map_append];rfl
  rw [e8]
  have T9:=T8.put (L1:=[_]) (o':=.dK (aW (EL ++ [(ln,le)])))
  generalize upd H8 E (.dK (aW (EL ++ [(ln,le)])))=H9 at T9 ⊢
  refine⟨_,rfl,f,_,dx,_,_,rfl,T9.all (f,_) (.head _),T.aY.c,T.aY.na.2.2.1,(by (repeat first | (rw [aF,if_pos rfl];done) | rw [aF,if_neg (by decide +kernel)])),_,rfl,G,_,rfl,oN.k (k:=Sum.inr ln.name) (T9.all (G,.dK (dN (fun _=>0) (ls.take j))) (by simp)) (by unfold dN;rw [lM,List.length_take];omega),?_⟩
  have e9:putK (dN (fun _=>0) (ls.take j)) (Sum.inr ln.name) (.int 0)=dN (fun _=>0) (ls.take (j+1)):=by rw [jf _ vG,tk];unfold dN;rw [List.map_append];rfl
  rw [e9]
  have TA:=T9.put (L1:=[_,_]) (o':=.dK (dN (fun _=>0) (ls.take (j+1))))
  exact⟨⟨_,rfl⟩,EL ++ [(ln,le)],by rw [List.map_append,eEL,tk];rfl,TA⟩
 rintro σ H7 ⟨⟨v3,rfl⟩,EL,eEL,T7⟩
 rw [lM,List.take_length] at eEL T7
 have T7:Tr H f ((f,.ins t.cW dx (aJ "gone" (.ref G) (aJ "ever" (.ref E) (aJ "net" (.ref n) [])))):: (E,.dK (aW EL)):: (G,.dK (dN (fun _=>0) ls)):: lC EL) H7:=T7.sub (.cons₂ _ (.cons₂ _ (.cons₂ _ (.cons _ (List.Sublist.refl _))))) ⟨_,.head _⟩
 clear T6
 refine fun Kp nKp=>?_
 have T8:Tr H f ((f,.ins t.cW dx (aJ "gone" (.ref G) (aJ "ever" (.ref E) (aJ "net" (.ref n) [])))):: (E,.dK (aW EL)):: (G,.dK (dN (fun _=>0) ls)):: (Kp,.dK []):: lC EL) (upd H7 Kp (.dK [])):=(T7.new nKp).perm (.cons _ (.cons _ (.cons _ (List.perm_append_singleton _ _))))
 generalize upd H7 Kp (.dK [])=H8 at T8 ⊢
 refine⟨_,rfl,f,_,dx,_,rfl,T8.all (f,_) (.head _),T.aY.c,T.aY.na.2.2.2.1,Nat.lt_of_le_of_lt (jm (jm (jm (Nat.zero_le 0)))) (by decide),?_⟩
 have T9:=T8.put (L1:=[]) (o':=.ins t.cW dx (aJ "kept" (.ref Kp) (aJ "gone" (.ref G) (aJ "ever" (.ref E) (aJ "net" (.ref n) [])))))
 generalize upd H8 f (.ins t.cW dx (aJ "kept" (.ref Kp) (aJ "gone" (.ref G) (aJ "ever" (.ref E) (aJ "net" (.ref n) [])))))=H9 at T9 ⊢
 refine fun D nD=>?_
 have TA:Tr H f ((f,.ins t.cW dx (aJ "kept" (.ref Kp) (aJ "gone" (.ref G) (aJ "ever" (.ref E) (aJ "net" (.ref n) []))))):: (E,.dK (aW EL)):: (G,.dK (dN (fun _=>0) ls)):: (Kp,.dK []):: (D,.dK []):: lC EL) (upd H9 D (.dK [])):=(T9.new nD).perm (.cons _ (.cons _ (.cons _ (.cons _ (List.perm_append_singleton _ _)))))
 generalize upd H9 D (.dK [])=HA at TA ⊢
 refine⟨_,rfl,f,_,dx,_,rfl,TA.all (f,_) (.head _),T.aY.c,T.aY.na.2.2.2.2.1,Nat.lt_of_le_of_lt (jm (jm (jm (jm (Nat.zero_le 0))))) (by decide),?_⟩
 have TB:=TA.put (L1:=[]) (o':=.ins t.cW dx (aJ "done" (.ref D) (aJ "kept" (.ref Kp) (aJ "gone" (.ref G) (aJ "ever" (.ref E) (aJ "net" (.ref n) []))))))
 generalize upd HA f (.ins t.cW dx (aJ "done" (.ref D) (aJ "kept" (.ref Kp) (aJ "gone" (.ref G) (aJ "ever" (.ref E) (aJ "net" (.ref n) []))))))=HB at TB ⊢
 have WB:=W.same (sk TB.but)
 refine⟨_,rfl,n,dxn,fsn,rfl,WB.obj,WB.fl.no _ (by decide +kernel),n,ls,ps,rfl,WB.s,fun m nm=>?_⟩
 have TC:Tr H f ((f,.ins t.cW dx (aJ "done" (.ref D) (aJ "kept" (.ref Kp) (aJ "gone" (.ref G) (aJ "ever" (.ref E) (aJ "net" (.ref n) [])))))):: (E,.dK (aW EL)):: (G,.dK (dN (fun _=>0) ls)):: (Kp,.dK (cX (fu ps) [])):: (D,.dK (cX (fun _=>0) [])):: (m,.lst (ps.map fun x:PD=>V.str x.name)):: lC EL) (upd HB m (.lst (ps.map fun x:PD=>V.str x.name))):=(TB.new nm).perm (.cons _ (.cons _ (.cons _ (.cons _ (.cons _ (List.perm_append_singleton _ _))))))
 generalize upd HB m (.lst (ps.map fun x:PD=>V.str x.name))=HC at TC ⊢
 clear T7 T8 T9 TA TB WB
 refine⟨m,rfl,⟨_,bR.of (TC.all (m,.lst (ps.map fun x:PD=>V.str x.name)) (by simp))⟩,eZ (K:=K) (a:=m) (xs:=ps.map fun x:PD=>V.str x.name) (fun j σ H'=>(∃v4,σ=[some (.ref f),some (.ref n),some (.ref rw),v3,v4,none])/\Tr H f ((f,.ins t.cW dx (aJ "done" (.ref D) (aJ "kept" (.ref Kp) (aJ "gone" (.ref G) (aJ "ever" (.ref E) (aJ "net" (.ref n) [])))))):: (E,.dK (aW EL)):: (G,.dK (dN (fun _=>0) ls)):: (Kp,.dK (cX (fu ps) (ps.take j))):: (D,.dK (cX (fun _=>0) (ps.take j))):: (m,.lst (ps.map fun x:PD=>V.str x.name)):: lC EL) H') ⟨⟨none,rfl⟩,TC⟩ (fun j σ H' _ ⟨_,T'⟩=>bR.of (T'.all (m,.lst (ps.map fun x:PD=>V.str x.name)) (by simp))) ?_ ?_⟩
 ·rintro j x σ H' hx ⟨⟨v4,rfl⟩,T7⟩
  rw [List.getElem?_map] at hx
  obtain⟨p,hpj,rfl⟩:=Option.map_eq_some_iff.mp hx
  have hm:=List.mem_of_getElem? hpj
  have hj:=(List.getElem?_eq_some_iff.mp hpj).1
  have nin:=kZ W.fit.pnd hpj
  have vK:∀k0:Str->Int,cH (cX k0 (ps.take j)) (Sum.inr p.name)=none:=fun k0=>ie (by rw [Fl];intro z;obtain⟨b,hb,e⟩:=List.mem_map.mp z;cases e;exact nin hb)
  have tk:ps.take (j+1)=ps.take j ++ [p]:=by rw [List.take_succ,hpj];rfl
  have so:fu ps p.name=dw p:=by unfold fu dw;rw [find_name W.fit.pnd hm];rfl
  have W7:=W.same (sk T7.but)
  refine⟨_,rfl,n,dxn,fsn,rfl,W7.obj,W7.fl.no _ (by decide +kernel),_,rfl,n,ls,ps,p.name,rfl,W7.s,.inl ⟨p,hm,rfl,fun H8 q s8 P8=>?_⟩⟩
  have T8:=T7.same s8
  obtain⟨dxp,tn,ti,to,p1,p2,p3,p4⟩:=id P8.ex
  refine⟨q,cls t p.kind,dxp,_,u0 K t p.kind,rfl,p1,mj _ _ _ _ (by decide +kernel) (by decide +kernel) (by decide +kernel) (by decide +kernel),Sv T p.kind,q,_,_,_,_,rfl,P8,by rw [lM];exact(W.fit.pok p hm).2.1,?_⟩
  rw [Oe p (W.fit.pok p hm),<-so]
  refine⟨_,rfl,f,_,dx,_,_,rfl,T8.all (f,_) (.head _),T.aY.c,T.aY.na.2.2.2.1,(by (repeat first | (rw [aF,if_pos rfl];done) | rw [aF,if_neg (by decide +kernel)])),_,rfl,Kp,_,rfl,oN.k (k:=Sum.inr p.name) (T8.all (Kp,.dK (cX (fu ps) (ps.take j))) (by simp)) (by unfold cX;rw [lM,List.length_take];omega),?_⟩
  have e8:∀k0:Str->Int,putK (cX k0 (ps.take j)) (Sum.inr p.name) (.int (k0 p.name))=cX k0 (ps.take (j+1)):=fun k0=>by rw [jf _ (vK k0),tk];unfold cX;rw [List.map_append];rfl
  rw [e8]
  have T9:=T8.put (L1:=[_,_,_]) (o':=.dK (cX (fu ps) (ps.take (j+1))))
  generalize upd H8 Kp (.dK (cX (fu ps) (ps.take (j+1))))=H9 at T9 ⊢
  refine⟨_,rfl,f,_,dx,_,_,rfl,T9.all (f,_) (.head _),T.aY.c,T.aY.na.2.2.2.2.1,(by (repeat first | (rw [aF,if_pos rfl];done) | rw [aF,if_neg (by decide +kernel)])),_,rfl,D,_,rfl,oN.k (k:=Sum.inr p.name) (T9.all (D,.dK (cX (fun _=>0) (ps.take j))) (by simp)) (by unfold cX;rw [lM,List.length_take];omega),?_⟩
  rw [e8 fun _=>0]
  exact⟨⟨_,rfl⟩,T9.put (L1:=[_,_,_,_])⟩
 rintro σ HD ⟨⟨v4,rfl⟩,TD⟩
 rw [lM,List.take_length] at TD
 have TD:Tr H f ((f,.ins t.cW dx (aJ "done" (.ref D) (aJ "kept" (.ref Kp) (aJ "gone" (.ref G) (aJ "ever" (.ref E) (aJ "net" (.ref n) [])))))):: (E,.dK (aW EL)):: (G,.dK (dN (fun _=>0) ls)):: (Kp,.dK (cX (fu ps) ps)):: (D,.dK (cX (fun _=>0) ps)):: lC EL) HD:=TD.sub (.cons₂ _ (.cons₂ _ (.cons₂ _ (.cons₂ _ (.cons₂ _ (.cons _ (List.Sublist.refl _))))))) ⟨_,.head _⟩
 clear TC
 refine fun Rw nRw=>?_
 have TE:Tr H f ((f,.ins t.cW dx (aJ "done" (.ref D) (aJ "kept" (.ref Kp) (aJ "gone" (.ref G) (aJ "ever" (.ref E) (aJ "net" (.ref n) [])))))):: (E,.dK (aW EL)):: (G,.dK (dN (fun _=>0) ls)):: (Kp,.dK (cX (fu ps) ps)):: (D,.dK (cX (fun _=>0) ps)):: (Rw,.dK []):: lC EL) (upd HD Rw (.dK [])):=(TD.new nRw).perm (.cons _ (.cons _ (.cons _ (.cons _ (.cons _ (List.perm_append_singleton _ _))))))
 generalize upd HD Rw (.dK [])=HE at TE ⊢
 refine⟨_,rfl,f,_,dx,_,rfl,TE.all (f,_) (.head _),T.aY.c,T.aY.na.2.2.2.2.2.1,Nat.lt_of_le_of_lt (jm (jm (jm (jm (jm (Nat.zero_le 0)))))) (by decide),?_⟩
 have TF:=TE.put (L1:=[]) (o':=.ins t.cW dx (aJ "rows" (.ref Rw) (aJ "done" (.ref D) (aJ "kept" (.ref Kp) (aJ "gone" (.ref G) (aJ "ever" (.ref E) (aJ "net" (.ref n) [])))))))
 generalize upd HE f (.ins t.cW dx (aJ "rows" (.ref Rw) (aJ "done" (.ref D) (aJ "kept" (.ref Kp) (aJ "gone" (.ref G) (aJ "ever" (.ref E) (aJ "net" (.ref n) [])))))))=HF at TF ⊢
 have WF:=W.same (sk TF.but)
 refine⟨_,rfl,n,dxn,fsn,rfl,WF.obj,WF.fl.no _ (by decide +kernel),n,ls,ps,rfl,WF.s,fun d nd=>?_⟩
 have TG:Tr H f ((f,.ins t.cW dx (aJ "rows" (.ref Rw) (aJ "done" (.ref D) (aJ "kept" (.ref Kp) (aJ "gone" (.ref G) (aJ "ever" (.ref E) (aJ "net" (.ref n) []))))))):: (E,.dK (aW EL)):: (G,.dK (dN (fun _=>0) ls)):: (Kp,.dK (cX (fu ps) ps)):: (D,.dK (cX (fun _=>0) ps)):: (Rw,.dK []):: (d,.lst (qY ps "give")):: lC EL) (upd HF d (.lst (qY ps "give"))):=(TF.new nd).perm (.cons _ (.cons _ (.cons _ (.cons _ (.cons _ (.cons _ (List.perm_append_singleton _ _)))))))
 generalize upd HF d (.lst (qY ps "give"))=HG at TG ⊢
 clear TD TE TF WF
 have lgv:=Kz ps "give"
 have ndg:((ps.filter fun p=>decide (cg p.kind= "give")).map (·.name)).Nodup:=W.fit.pnd.sublist ((List.filter_sublist).map _)
 refine⟨d,rfl,⟨_,bR.of (TG.all (d,.lst (qY ps "give")) (by simp))⟩,eZ (K:=K) (a:=d) (xs:=qY ps "give") (fun j σ H'=>(∃v5,σ=[some (.ref f),some (.ref n),some (.ref rw),v3,v4,v5])/\∃RL:List (Key×V),RL.map (·.1)=(((ps.filter fun p=>decide (cg p.kind= "give")).take j).map (·.name)).map (fun x=>(Sum.inr x:Key))/\Tr H f ((f,.ins t.cW dx (aJ "rows" (.ref Rw) (aJ "done" (.ref D) (aJ "kept" (.ref Kp) (aJ "gone" (.ref G) (aJ "ever" (.ref E) (aJ "net" (.ref n) []))))))):: (E,.dK (aW EL)):: (G,.dK (dN (fun _=>0) ls)):: (Kp,.dK (cX (fu ps) ps)):: (D,.dK (cX (fun _=>0) ps)):: (Rw,.dK RL):: (d,.lst (qY ps "give")):: lC EL) H') ⟨⟨none,rfl⟩,[],rfl,TG⟩ (fun j σ H' _ ⟨_,_,_,T'⟩=>bR.of (T'.all (d,.lst (qY ps "give")) (by simp))) ?_ ?_⟩
 ·rintro j x σ H' hx ⟨⟨v5,rfl⟩,RL,eRL,T7⟩
  unfold qY at hx
  rw [List.getElem?_map] at hx
  obtain⟨p,hpj,rfl⟩:=Option.map_eq_some_iff.mp hx
  have nin:=kZ ndg hpj
  have vR:cH RL (Sum.inr p.name)=none:=ie (by rw [eRL];intro z;obtain⟨b,hb,e⟩:=List.mem_map.mp z;cases e;exact nin hb)
  have lRL:RL.length<=16:=by
   have:=congrArg List.length eRL
   have h2:=List.length_filter_le (fun p:PD=>decide (cg p.kind= "give")) ps
   rw [lM,lM,lM,List.length_take] at this
   omega
  have erw:=(sk T7.but) _ _ hrw
  refine⟨_,rfl,rw,rfl,.inl ⟨_,.inl erw⟩,_,rfl,gw,fun u nu=>?_⟩
  have tu:=aB (o:=.lst []) nu
  have xu:upd H' u (.lst []) u=some (.lst []):=aq
  generalize upd H' u (.lst [])=H8 at tu xu ⊢
  refine⟨_,eX.k (k:=Sum.inr p.name) (tu _ _ erw),u,[],rfl,.inl (bR.of xu),fun r nr=>?_⟩
  have T9:=T7.same (tu.trans (aB (o:=.lst []) nr))
  generalize upd H8 r (.lst [])=H9 at T9 ⊢
  refine⟨_,rfl,f,_,dx,_,_,rfl,T9.all (f,_) (.head _),T.aY.c,T.aY.na.2.2.2.2.2.1,(by (repeat first | (rw [aF,if_pos rfl];done) | rw [aF,if_neg (by decide +kernel)])),_,rfl,Rw,_,rfl,oN.k (k:=Sum.inr p.name) (T9.all (Rw,.dK RL) (by simp)) (by omega),?_⟩
  rw [jf _ vR]
  refine⟨⟨_,rfl⟩,_,?_,T9.put (L1:=[_,_,_,_,_])⟩
  rw [List.map_append,eRL,List.take_succ,hpj,Option.toList_some,List.map_append,List.map_append]
  rfl
 rintro σ HH ⟨⟨v5,rfl⟩,RL,eRL,TH⟩
 have eo:=TH.all (f,.ins t.cW dx (aJ "rows" (.ref Rw) (aJ "done" (.ref D) (aJ "kept" (.ref Kp) (aJ "gone" (.ref G) (aJ "ever" (.ref E) (aJ "net" (.ref n) []))))))) (.head _)
 have nod:=TH.nod
 have fre:=TH.fre
 refine k HH E G Kp D Rw EL RL TH.but ⟨⟨dx,_,eo,⟨?_,?_⟩⟩,TH.all (E,.dK (aW EL)) (by simp),eEL,fun q hq=>?_,TH.all (G,.dK (dN (fun _=>0) ls)) (by simp),TH.all (Kp,.dK (cX (fu ps) ps)) (by simp),⟨_,TH.all (D,.dK (cX (fun _=>0) ps)) (by simp)⟩,TH.all (Rw,.dK RL) (by simp),fun p hp h0=>?_⟩ ?_ ?_
 ·intro q hq
  simp only [List.mem_cons,List.not_mem_nil,or_false] at hq
  rcases hq with rfl | rfl | rfl | rfl | rfl | rfl <;> (dsimp only;(repeat first | (rw [aF,if_pos rfl];done) | rw [aF,if_neg (by decide +kernel)]))
 ·intro m hm
  have hne:∀m∈(["holds", "held_now", "gone_by", "row_left", "head", "heads", "lacking", "row_ended", "deed", "do"]:List Str),∀g∈(["rows", "done", "kept", "gone", "ever", "net"]:List Str),¬m=g:=by decide +kernel
  have h:=hne m hm
  rw [aF,if_neg (h _ (by simp)),aF,if_neg (h _ (by simp)),aF,if_neg (h _ (by simp)),aF,if_neg (h _ (by simp)),aF,if_neg (h _ (by simp)),aF,if_neg (h _ (by simp))]
  rfl
 ·exact TH.all (q.2,.lst (q.1.first.map V.int)) (OJ (List.mem_map.mpr ⟨q,hq,rfl⟩))
 ·refine ie ?_
  rw [eRL]
  intro z
  obtain⟨b,hb,e⟩:=List.mem_map.mp z
  cases e
  obtain⟨p',hp',en⟩:=List.mem_map.mp hb
  have hf':=List.mem_filter.mp (List.mem_of_mem_take hp')
  have:p'=p:=by
   have a1:=find_name W.fit.pnd hf'.1
   have a2:=find_name W.fit.pnd hp
   rw [en] at a1
   rw [a1] at a2
   exact Option.some.inj a2
  subst this
  exact h0 (UW _ (W.fit.pok p' hp).1 (of_decide_eq_true hf'.2))
 ·have e2:(lC EL).map Prod.fst=EL.map (·.2):=by unfold lC;rw [List.map_map];rfl
  rw [<-e2]
  have:=(nod.sublist (List.Sublist.cons _ (.cons₂ _ (.cons₂ _ (.cons₂ _ (.cons₂ _ (.cons₂ _ (.cons _ (List.Sublist.refl _)))))))))
  exact this
 ·intro a ha
  have e2:(lC EL).map Prod.fst=EL.map (·.2):=by unfold lC;rw [List.map_map];rfl
  rw [<-e2] at ha
  have h2:a∈(((E,.dK (aW EL)):: (G,.dK (dN (fun _=>0) ls)):: (Kp,.dK (cX (fu ps) ps)):: (D,.dK (cX (fun _=>0) ps)):: (Rw,.dK RL):: (d,.lst (qY ps "give")):: lC EL:List (Addr×HO))).map Prod.fst:=
   (List.Sublist.cons₂ E (.cons₂ G (.cons₂ Kp (.cons₂ D (.cons₂ Rw (.cons d (List.Sublist.refl _))))))).subset ha
  have hne:a≠f:=fun z=>by
   rw [List.map_cons,List.nodup_cons] at nod
   exact nod.1 (by rw [<-z];exact h2)
  obtain⟨q,hq,hqa⟩:=List.mem_map.mp h2
  have:=fre q (List.mem_cons_of_mem _ hq)
  rw [hqa] at this
  exact this.resolve_left hne
noncomputable def Ed (ls:List aH) (x:Str):List Int:=((ls.find? fun l=>decide (l.name=x)).map (·.first)).getD []
noncomputable def iK (ls:List aH) (x:Str):V:=((Ed ls x)[0]?.map V.int).getD .non
noncomputable def bh (ls:List aH) (p:PD):List V:=p.ins.map (iK ls)
theorem pK {ls:List aH} (nd:(ls.map (·.name)).Nodup) {l:aH} (hl:l∈ls):Ed ls l.name=l.first:=by
 unfold Ed
 rw [find_name nd hl]
 rfl
theorem kI.same {H H':Hp} {f n E G Kp D Rw:Addr} {le:List aH} {ps:List PD} {g:Str->Nat} {k:Str->Int} {EL:List (aH×Addr)} {RL:List (Key×V)} (h:kI K t H f n le ps g k E G Kp D Rw EL RL) (s:aQ H H'):kI K t H' f n le ps g k E G Kp D Rw EL RL:=by
 obtain⟨dn,hd⟩:=h.done
 exact⟨h.at'.same s,s _ _ h.ever,h.els,fun q hq=>s _ _ (h.lists q hq),s _ _ h.gone,s _ _ h.kept,⟨dn,s _ _ hd⟩,s _ _ h.rows,h.rno⟩
theorem kI.lane {H:Hp} {f n E G Kp D Rw:Addr} {le:List aH} {ps:List PD} {g:Str->Nat} {k:Str->Int} {EL:List (aH×Addr)} {RL:List (Key×V)} (h:kI K t H f n le ps g k E G Kp D Rw EL RL) (nd:(le.map (·.name)).Nodup) {l:aH} (hl:l∈le):∃a,(l,a)∈EL/\cH (aW EL) (Sum.inr l.name)=some (.ref a)/\H a=some (.lst (l.first.map V.int))/\cH (dN g le) (Sum.inr l.name)=some (.int (g l.name:Nat)):=by
 obtain⟨q,hq,e⟩:∃q∈EL,q.1=l:=by
  rw [<-h.els] at hl
  obtain⟨q,hq,e⟩:=List.mem_map.mp hl
  exact⟨q,hq,e⟩
 subst e
 exact⟨q.2,hq,gW (by rw [fH,h.els];exact fO nd) (List.mem_map.mpr ⟨q,hq,rfl⟩),h.lists q hq,gW (by rw [xM];exact fO nd) (List.mem_map.mpr ⟨q.1,hl,rfl⟩)⟩
theorem kI.part {H:Hp} {f n E G Kp D Rw:Addr} {le:List aH} {ps:List PD} {g:Str->Nat} {k:Str->Int} {EL:List (aH×Addr)} {RL:List (Key×V)} (_:kI K t H f n le ps g k E G Kp D Rw EL RL) (nd:(ps.map (·.name)).Nodup) {p:PD} (hp:p∈ps) (k0:Str->Int):cH (cX k0 ps) (Sum.inr p.name)=some (.int (k0 p.name)):=
 gW (by rw [Fl];exact fO nd) (List.mem_map.mpr ⟨p,hp,rfl⟩)
theorem xZ.inL {ls:List aH} {ps:List PD} (F:xZ ls ps) {p:PD} (hp:p∈ps) {x:Str} (hx:x∈p.ins ++ p.outs):∃l∈ls,l.name=x:=by
 rcases List.mem_append.mp hx with h | h
 ·exact List.mem_map.mp (F.whole.ins.mem_iff.mp (List.mem_flatMap.mpr ⟨p,hp,h⟩))
 ·exact List.mem_map.mp (F.whole.outs.mem_iff.mp (List.mem_flatMap.mpr ⟨p,hp,h⟩))
theorem pJ (ls:List aH) (p:PD) (h:z9 p):vZ p.kind (bh ls p):=by
 refine⟨by unfold bh;rw [lM];exact h.2.2.1,fun v hv=>?_⟩
 obtain⟨x,_,rfl⟩:=List.mem_map.mp hv
 unfold iK
 cases (Ed ls x)[0]? with
 | none=>exact .inl rfl
 | some n=>exact .inr ⟨n,rfl⟩
theorem Oa {ls:List aH} {l:aH} (nd:(ls.map (·.name)).Nodup) (hl:l∈ls):iK ls l.name=((l.first.map V.int)[(0:Nat)]?).getD .non:=by
 unfold iK
 rw [pK nd hl,List.getElem?_map]
theorem Qm (T:Txt w K mg t) (i:Nat):MethAt P w K mg base Bd 2 (cls t i) "lacks" (yz K t i):=match i with
 | 0=>⟨_,_,_,T.ji.c,(T.bL.me T.ji.me.2.2.2.1),T.bL.b,(dG T).imp fun _ _ _ _ h=>⟨_,h⟩⟩
 | 1=>⟨_,_,_,T.jc.c,(T.bL.me T.jc.me.2.2.2.1),T.bL.b,(dG T).imp fun _ _ _ _ h=>⟨_,h⟩⟩
 | 2=>⟨_,_,_,T.ir.c,(T.bL.me T.ir.me.2.2.2.1),T.bL.b,(dG T).imp fun _ _ _ _ h=>⟨_,h⟩⟩
 | 3=>⟨_,_,_,T.iw.c,(T.bL.me T.iw.me.2.2.2.1),T.bL.b,(dG T).imp fun _ _ _ _ h=>⟨_,h⟩⟩
 | 4=>⟨_,_,_,T.iy.c,(T.bL.me T.iy.me.2.2.2.1),T.bL.b,(dG T).imp fun _ _ _ _ h=>⟨_,h⟩⟩
 | 5=>⟨_,_,_,T.gq.c,(T.bL.me T.gq.me.2.2.2.1),T.bL.b,(dG T).imp fun _ _ _ _ h=>⟨_,h⟩⟩
 | 6=>⟨_,_,_,T.jU.c,(T.bL.me T.jU.me.2.2.2.1),T.bL.b,(dG T).imp fun _ _ _ _ h=>⟨_,h⟩⟩
 | 7=>⟨_,_,_,T.il.c,(T.bL.me T.il.me.2.2.2.1),T.bL.b,(dG T).imp fun _ _ _ _ h=>⟨_,h⟩⟩
 | 8=>⟨_,_,_,T.fL.c,(T.bL.me T.fL.me.2.2.2.1),T.bL.b,(dG T).imp fun _ _ _ _ h=>⟨_,h⟩⟩
 | 9=>⟨_,_,_,T.dW.c,(T.bL.me T.dW.me.2.2.2.1),T.bL.b,(dG T).imp fun _ _ _ _ h=>⟨_,h⟩⟩
 | n+10=>⟨_,_,_,T.fK.c,(T.bL.me T.fK.me.2.2.2.1),T.bL.b,(dG T).imp fun _ _ _ _ h=>⟨_,h⟩⟩
inductive ur (K:PySem.W.Frag) (t:lA) (vs:List V) (H:Hp) (Q:VK) (E_:XK):Prop where
 | mk:∀(f n E G Kp D Rw:Addr) (ls:List aH) (ps:List PD) (k0:Str->Int) (EL:List (aH×Addr)) (RL:List (Key×V)) (p:PD),vs=[.ref f,.str p.name]->jt K t H n ls ps->(kI K t H f n ls ps (fun _=>0) k0 E G Kp D Rw EL RL)->p∈ps->(∀H',aQ H H'->Q (dM p.kind p.ins (bh ls p)) H')->ur K t vs H Q E_
theorem ul (T:Txt w K mg t):FO P w K mg base 4 t.oY ["self", "name"] (ur K t):=by
 have sc:=T.kh.sc ["self", "name", "part", "place"]
 refine T.kh.F.ok sc ln (fun _ _ _ _ H vs Q E hr h=>?_)
 obtain⟨f,n,E,G,Kp,D,Rw,ls,ps,k0,EL,RL,p,rfl,N,W,hp,k⟩:=h
 refine⟨_,(au (sN sc 2 (jG (aZ (pv 0) rfl) T.bc.c (T.dh.me T.bc.me.2.2.2.2.2.2.2.2.1) (jg T) (hr.mono (by decide)) T.dh.b .nil uG (aa (pv 1) ak aj)))
  (au (sN sc 3 (vM (CX:=Bd) (k:=2) (E:=E0) (pv 2) (hr.mono (by decide)) fj (aa (Kc (pv 0) T.aY T.aY.me.2.2.2.2.2.1 (wK T) T.n8 hr (aa (pv 2) ak aj)) ak aX)))
  (aA (aN (yN (iH (xO (pv 3))) pC (aU dH (aZ (pv 2) rfl) (pv 3) (fun _ _=>rfl))))))),?_⟩
 obtain⟨dxn,fsn,R,F,Pd,Gn,Tk,FL,PL,Wn⟩:=id N
 have F:=Wn.fit
 obtain⟨dx,fs,h1,h2⟩:=id W.at'.ex
 have hh1:∀{H':Hp},aQ H H'->(∀x∈p.ins,∃(l:Addr) (vs':List V) (g:Nat),cH (aW EL) (Sum.inr x)=some (.ref l)/\cH (dN (fun _=>0) ls) (Sum.inr x)=some (.int g)/\bR K H' l vs'/\iK ls x=(vs'[g]?).getD .non):=fun s x hx=>by
  obtain⟨l,hl,rfl⟩:=F.inL hp (List.mem_append.mpr (.inl hx))
  obtain⟨a,_,v1,v2,v3⟩:=W.lane F.whole.nod hl
  exact⟨a,_,0,v1,v3,bR.of (s _ _ v2),Oa F.whole.nod hl⟩
 refine⟨_,rfl,f,_,dx,fs,_,rfl,h1,T.aY.c,T.aY.na.1,h2.has ("net",.ref n) (by simp),n,dxn,fsn,rfl,Wn.obj,Wn.fl.no _ (by decide +kernel),_,rfl,n,ls,ps,p.name,rfl,N,.inl ⟨p,hp,rfl,fun H1 q s1 P1=>?_⟩⟩
 obtain⟨dxp,tn,ti,to,p1,p2,p3,p4⟩:=id P1.ex
 have W1:=W.same s1
 have hI:=(F.pok p hp).2.2.1
 have hO:=pJ ls p (F.pok p hp)
 refine⟨_,rfl,q,cls t p.kind,dxp,_,yz K t p.kind,rfl,p1,mj _ _ _ _ (by decide +kernel) (by decide +kernel) (by decide +kernel) (by decide +kernel),Qm T p.kind,?_⟩
 refine⟨_,rfl,f,dx,fs,rfl,s1 _ _ h1,h2.no _ (by decide +kernel),_,rfl,f,n,E,G,Kp,D,Rw,q,_,_,p.kind,_,_,_,p.ins,iK ls,rfl,W1.at',W1.ever,W1.gone,P1,(by have:=yl p.kind;omega),hh1 s1,fun d hd=>?_⟩
 have s2:aQ H1 (upd H1 d (.lst (p.ins.map (iK ls)))):=aB hd
 refine⟨q,d,_,_,_,_,bh ls p,rfl,P1.same s2,by rw [lM];exact hI,bR.of aq,hO,fun H3 s3=>?_⟩
 have s23:=s2.trans s3
 have k':=k H3 (s1.trans s23)
 have hlt:=gU hO
 unfold dM at k'
 unfold Nv
 cases hf:(places p.kind (bh ls p)).find? (uw (bh ls p)) with
 | none=>
  rw [hf] at k'
  exact⟨_,rfl,_,rfl,lE k'⟩
 | some j=>
  rw [hf] at k'
  have hq:j <p.ins.length:=by have:=hlt j (List.mem_of_find?_eq_some hf);unfold bh at this;rwa [lM] at this
  have k':Q (V.str p.ins[j]) H3:=by simpa only [List.getElem?_eq_getElem hq,Option.map_some,Option.getD_some] using k'
  exact⟨_,rfl,_,rfl,fc ⟨_,rfl,q,_,dxp,_,_,rfl,s23 _ _ p1,eE T p.kind,sS T p.kind,mH _ _ _ _,_,rfl,ti,p.ins.map V.str,j,_,rfl,rfl,s23.seqT p3,aK (j:=j) (by rw [List.getElem?_map,List.getElem?_eq_getElem hq];rfl),k'⟩⟩
theorem PQ (T:Txt w K mg t) {i:Nat} (h2:2<=i) (hi:i <11):MethAt P w K mg base Bd 2 (cls t i) "worked" (fZ K t i):=match i,h2,hi with
 | 2,_,_=>⟨_,_,_,T.ir.c,(T.lZ.me T.ir.me.2.2.2.2.1),T.lZ.b,gH.mono (k:=2) (En T) (by decide)⟩
 | 3,_,_=>⟨_,_,_,T.iw.c,(T.lQ.me T.iw.me.2.2.2.2.1),T.lQ.b,gH.mono (k:=2) (Ea T) (by decide)⟩
 | 4,_,_=>⟨_,_,_,T.iy.c,(T.lR.me T.iy.me.2.2.2.2.1),T.lR.b,gH.mono (k:=2) (Ej T) (by decide)⟩
 | 5,_,_=>⟨_,_,_,T.gq.c,(T.mz.me T.gq.me.2.2.2.2.1),T.mz.b,gH.mono (k:=2) (Dz T) (by decide)⟩
 | 6,_,_=>⟨_,_,_,T.jU.c,(T.n6.me T.jU.me.2.2.2.2.1),T.n6.b,gH.mono (k:=2) (FJ T) (by decide)⟩
 | 7,_,_=>⟨_,_,_,T.il.c,(T.mq.me T.il.me.2.2.2.2.1),T.mq.b,gH.mono (k:=2) (Df T) (by decide)⟩
 | 8,_,_=>⟨_,_,_,T.fL.c,(T.kj.me T.fL.me.2.2.2.2.1),T.kj.b,gH.mono (k:=2) (BL T) (by decide)⟩
 | 9,_,_=>⟨_,_,_,T.dW.c,(T.jH.me T.dW.me.2.2.2.2.1),T.jH.b,gH.mono (k:=2) (zK T) (by decide)⟩
 | 10,_,_=>⟨_,_,_,T.fK.c,(T.j6.me T.fK.me.2.2.2.2.1),T.j6.b,gH.mono (k:=2) (BK T) (by decide)⟩
theorem XM (ns ws:List Int) (kp:Int):∀pv∈dj 2 ns ws kp,∃q:Nat,pv.1=(q:Int)/\q <cO 2:=by
 intro pv h
 simp [dj] at h
 subst h
 exact⟨0,rfl,by decide⟩
theorem X4 (ns ws:List Int) (kp:Int):∀pv∈dj 3 ns ws kp,∃q:Nat,pv.1=(q:Int)/\q <cO 3:=by
 intro pv h
 simp [dj] at h
 rcases h with rfl | rfl
 ·exact⟨0,rfl,by decide⟩
 ·exact⟨1,rfl,by decide⟩
theorem Yp (ns ws:List Int) (kp:Int):∀pv∈dj 4 ns ws kp,∃q:Nat,pv.1=(q:Int)/\q <cO 4:=by
 intro pv h
 simp [dj] at h
 subst h
 exact⟨0,rfl,by decide⟩
theorem Xq (ns ws:List Int) (kp:Int):∀pv∈dj 5 ns ws kp,∃q:Nat,pv.1=(q:Int)/\q <cO 5:=by
 intro pv h
 simp [dj] at h
 subst h
 exact⟨0,rfl,by decide⟩
theorem Yz (ns ws:List Int) (kp:Int):∀pv∈dj 6 ns ws kp,∃q:Nat,pv.1=(q:Int)/\q <cO 6:=by
 intro pv h
 simp [dj] at h
 subst h
 exact⟨0,rfl,by decide⟩
theorem Yg (ns ws:List Int) (kp:Int):∀pv∈dj 7 ns ws kp,∃q:Nat,pv.1=(q:Int)/\q <cO 7:=by
 intro pv h
 simp [dj] at h
 subst h
 exact⟨0,rfl,by decide⟩
theorem Yo (ns ws:List Int) (kp:Int):∀pv∈dj 8 ns ws kp,∃q:Nat,pv.1=(q:Int)/\q <cO 8:=by
 intro pv h
 simp [dj] at h
 rcases h with rfl | rfl
 ·exact⟨0,rfl,by decide⟩
 ·exact⟨1,rfl,by decide⟩
theorem YC (ns ws:List Int) (kp:Int):∀pv∈dj 9 ns ws kp,∃q:Nat,pv.1=(q:Int)/\q <cO 9:=by
 intro pv h
 simp [dj] at h
 subst h
 exact⟨0,rfl,by decide⟩
theorem Wk (ns ws:List Int) (kp:Int):∀pv∈dj 10 ns ws kp,∃q:Nat,pv.1=(q:Int)/\q <cO 10:=by
 intro pv h
 simp [dj] at h
 subst h
 have h0:=Int.emod_nonneg (g0 ws) (show(2:Int)≠0 by decide)
 have h1:=Int.emod_lt_of_pos (g0 ws) (show(0:Int) <2 by decide)
 exact⟨(g0 ws % 2).toNat,by show g0 ws % 2=_;omega,by show(g0 ws % 2).toNat <2;omega⟩
theorem sO {i:Nat} (h2:2<=i) (hi:i <11) (ns ws:List Int) (kp:Int):∀pv∈dj i ns ws kp,∃q:Nat,pv.1=(q:Int)/\q <cO i:=by
 match i,h2,hi with
 | 2,_,_=>exact XM ns ws kp
 | 3,_,_=>exact X4 ns ws kp
 | 4,_,_=>exact Yp ns ws kp
 | 5,_,_=>exact Xq ns ws kp
 | 6,_,_=>exact Yz ns ws kp
 | 7,_,_=>exact Yg ns ws kp
 | 8,_,_=>exact Yo ns ws kp
 | 9,_,_=>exact YC ns ws kp
 | 10,_,_=>exact Wk ns ws kp
theorem CW (i:Nat) (ns ws:List Int) (kp:Int):(dj i ns ws kp).length<=2:=match i with
 | 0=>by simp [dj]
 | 1=>by simp [dj]
 | 2=>by simp [dj]
 | 3=>by simp [dj]
 | 4=>by simp [dj]
 | 5=>by simp [dj]
 | 6=>by simp [dj]
 | 7=>by simp [dj]
 | 8=>by simp [dj]
 | 9=>by simp [dj]
 | n+10=>by simp [dj]
noncomputable def nameAt (xs:List Str) (q:Nat):V:=V.str ((xs[q]?).getD Str.empty)
theorem VF {H:Hp} {Q:VK} {Ex:XK} {f n E G Kp D Rw:Addr} {rd dd:List (Key×V)} {y:Str} (N:qN K t H f n E G Kp D Rw) (hR:H Rw=some (.dK rd)) (hD:H D=some (.dK dd))
  (k:(cH rd (Sum.inr y)=none/\Q (.bl false) H)∨∃(l:Addr) (vs':List V) (g:Nat),cH rd (Sum.inr y)=some (.ref l)/\cH dd (Sum.inr y)=some (.int g)/\bR K H l vs'/\Q (.bl (decide (g=vs'.length))) H):gf K t [.ref f,.str y] H Q Ex:=by
 unfold gf
 exact⟨f,n,E,G,Kp,D,Rw,rd,dd,y,rfl,N,hR,hD,k⟩
noncomputable def YG:V->Int
 | .int n=>n
 | _=>0
noncomputable def cQ (ls:List aH) (p:PD):List Int:=(places p.kind (bh ls p)).map fun q=>YG (((bh ls p)[q]?).getD .non)
theorem Xl {i:Nat} (h2:2<=i) (hi:i <11) (h9:i≠9):cV i=cI i:=by
 match i,h2,hi with
 | 2,_,_=>rfl
 | 3,_,_=>rfl
 | 4,_,_=>rfl
 | 5,_,_=>rfl
 | 6,_,_=>rfl
 | 7,_,_=>rfl
 | 8,_,_=>rfl
 | 9,_,_=>exact absurd rfl h9
 | 10,_,_=>rfl
theorem Nb {ls:List aH} {ps:List PD} (F:xZ ls ps) {p:PD} (hp:p∈ps) (hl:dM p.kind p.ins (bh ls p)=.non):∀q∈places p.kind (bh ls p),∃x n,p.ins[q]?=some x/\(bh ls p)[q]?=some (.int n)/\(Ed ls x)[0]?=some n:=by
 have hO:=pJ ls p (F.pok p hp)
 have hf:(places p.kind (bh ls p)).find? (uw (bh ls p))=none:=by
  cases hf:(places p.kind (bh ls p)).find? (uw (bh ls p)) with
  | none=>rfl
  | some j=>
   unfold dM at hl
   rw [hf] at hl
   have hq:j <p.ins.length:=by have:=gU hO j (List.mem_of_find?_eq_some hf);unfold bh at this;rwa [lM] at this
   simp only [List.getElem?_eq_getElem hq,Option.map_some,Option.getD_some] at hl
   cases hl
 intro q hq
 have h1:=List.find?_eq_none.mp hf q hq
 have hlt:=gU hO q hq
 have hlt':q <p.ins.length:=by unfold bh at hlt;rwa [lM] at hlt
 have e:(bh ls p)[q]?=some (iK ls p.ins[q]):=by unfold bh;rw [List.getElem?_map,List.getElem?_eq_getElem hlt'];rfl
 refine⟨p.ins[q],?_⟩
 unfold uw at h1
 rw [e] at h1 ⊢
 unfold iK at h1 ⊢
 cases h0:(Ed ls p.ins[q])[0]? with
 | none=>rw [h0] at h1;exact absurd (by simp) h1
 | some n=>exact⟨n,List.getElem?_eq_getElem hlt',by simp,rfl⟩
theorem Cy {ls:List aH} {ps:List PD} (F:xZ ls ps) {p:PD} (hp:p∈ps) (h2:2<=p.kind) (hl:dM p.kind p.ins (bh ls p)=.non):(cQ ls p).length=cV p.kind/\WD (cQ ls p)/\(places p.kind (bh ls p)).map (fun q=>((bh ls p)[q]?).getD .non)=(cQ ls p).map V.int:=by
 have ok:=F.pok p hp
 have hn:=Nb F hp hl
 refine⟨?_,fun w hw=>?_,?_⟩
 ·unfold cQ
  rw [lM]
  by_cases h9:p.kind=9
  ·have h0:=hn
   unfold places at h0 ⊢
   rw [if_pos h9] at h0 ⊢
   split
   ·rw [h9];rfl
   ·rename_i hno
    obtain⟨x,n,_,h3,_⟩:=h0 0 (by split <;> simp)
    cases hs:bh ls p with
    | nil=>rw [hs] at h3;cases h3
    | cons a r=>
     rw [hs] at h3
     have:a=.int n:=by simpa using h3
     exact absurd (by rw [hs,this]) (hno n r)
  ·unfold places
   rw [if_neg h9,List.length_range,(pJ ls p ok).1,Xl h2 ok.1 h9]
 ·obtain⟨q,hq,rfl⟩:=List.mem_map.mp hw
  obtain⟨x,n,hx,h3,h4⟩:=hn q hq
  rw [h3]
  show 0<=n/\n <1000000000
  obtain⟨l,hll,rfl⟩:=F.inL hp (List.mem_append.mpr (.inl (List.mem_of_getElem? hx)))
  rw [pK F.whole.nod hll] at h4
  exact(F.lok l hll).2.2.2 n (List.mem_of_getElem? h4)
 ·unfold cQ
  rw [List.map_map]
  refine List.map_congr_left fun q hq=>?_
  obtain⟨x,n,_,h3,_⟩:=hn q hq
  show _=V.int (YG _)
  rw [h3]
  rfl
inductive wW (K:PySem.W.Frag) (t:lA) (vs:List V) (H:Hp) (Q:VK):Prop where
 | mk:∀(f n E G Kp D Rw:Addr) (ls:List aH) (ps:List PD) (k0:Str->Int) (EL:List (aH×Addr)) (RL:List (Key×V)) (p:PD),vs=[.ref f,.str p.name]->jt K t H n ls ps->(kI K t H f n ls ps (fun _=>0) k0 E G Kp D Rw EL RL)->p∈ps->2<=p.kind->dM p.kind p.ins (bh ls p)=.non->(∀H' U La Lg rs,aQ H H'->H La=none->H Lg=none->H' U=some (.tup [.ref La,.ref Lg,.int (iR p.kind (cQ ls p) (k0 p.name))])->H' La=some (.lst ((places p.kind (bh ls p)).map (nameAt p.ins)))->H' Lg=some (.lst (rs.map V.ref))->jz H' rs ((dj p.kind p.nums (cQ ls p) (k0 p.name)).map fun pv=>[nameAt p.outs pv.1.toNat,.int pv.2])->Q (.ref U) H')->wW K t vs H Q
@[irreducible] noncomputable def j9 (K:PySem.W.Frag) (t:lA):Sp:=fun vs H Q _=>wW K t vs H Q
noncomputable abbrev qF:List Str:=["self", "name", "part", "heads", "places", "values", "answer", "given"]
theorem yp (T:Txt w K mg t):FO P w K mg base 5 t.uD ["self", "name"] (j9 K t):=by
 have sc:=T.qe.sc qF
 refine T.qe.F.ok sc (fun vs H Q E h=>?_) (fun cdv A outer s H vs Q E hr h=>?_)
 ·unfold j9 at h
  obtain⟨f,n,E,G,Kp,D,Rw,ls,ps,k0,EL,RL,p,rfl,_⟩:=h
  rfl
 ·unfold j9 at h
  obtain⟨f,n,E,G,Kp,D,Rw,ls,ps,k0,EL,RL,p,rfl,N,W,hp,hk2,hlk,k⟩:=h
  refine⟨_,(au (bU (PW.pt (Aq (iH (Ck (Kc (pv 0) T.aY T.aY.me.2.2.2.2.2.2.1 (ul T) T.kh hr (aa (pv 1) ak aj)))) (vI (jL (Kc (pv 0) T.aY T.aY.me.2.2.2.2.1 (qG T) T.jy hr (aa (pv 1) ak aj))))))
    (aA (aN pC))
    bu)
   (au (sN sc 2 (jG (aZ (pv 0) rfl) T.bc.c (T.dh.me T.bc.me.2.2.2.2.2.2.2.2.1) (jg T) (hr.mono (by decide)) T.dh.b .nil uG (aa (pv 1) ak aj)))
   (au (sN sc 3 (Kc (pv 0) T.aY T.aY.me.2.2.2.2.2.1 (wK T) T.n8 hr (aa (pv 2) ak aj)))
   (au (sN sc 4 (vM (CX:=Bd) (k:=1) (E:=E0) (pv 2) (hr.mono (by decide)) fj (aa (pv 3) ak aj)))
   (au (pA (i:=5) [3] qF (bx (inClass (top 59) 9)) rfl sc.nd rfl (cz (pv 4)) (fun _ _ _ _ _=>fC) (fun _ _ _ _ _=>(aU (vo (K:=K) rfl) (pv 1) (pv 0) (fun _ _=>rfl))))
   (au (fU (bU (iH (z8 hr.u1 (pv 1) (aZ (pv 0) rfl)))
    (aA (sN sc 5 (bj (aa (aU aM (cG hr.u1 (aZ (pv 0) rfl) (pv 1) (fun _ _=>rfl)) (cG hr.u1 (aZ (pv 0) rfl) (pv 1) (fun _ _=>rfl)) (fun _ _=>rfl)) ak aD))))
    bu))
   (au (sN sc 6 (vM (CX:=Bd) (k:=2) (E:=E0) (pv 2) (hr.mono (by decide)) fj (aa (pv 5) (aa (cG hr.u1 (aZ (pv 0) rfl) (pv 1) (fun _ _=>rfl)) ak aD) aj)))
   (au (Dn (i:=7) ["place", "value"] [2] qF (bx (inClass (top 59) 9)) rfl sc.nd rfl (cz (aU dH (pv 6) az (fun _ _=>rfl))) (fun _ _ _ _ _=>Cm (K:=K) (n:=2) rfl rfl (bH (iu (i:=0) (show(["place", "value", "part"]:List Str).Nodup by decide +kernel) rfl (Or.inl rfl) (.inr rfl)) (bH (iu (i:=1) (show(["place", "value", "part"]:List Str).Nodup by decide +kernel) rfl (Or.inl rfl) (.inr rfl)) gO))) (fun _ _ _ _ _=>fC) (fun _ _ _ _ _=>(bV (aa (aU (yD (K:=K) rfl) (tW (K:=K) rfl (pv 2) rfl) (pv 0) (fun _ _=>rfl)) (aa (pv 1) ak aj) aD))))
   (aA (aN (bV (aa (fD [2] qF (bx (inClass (top 59) 9)) rfl (cz (pv 4)) (fun _ _ _ _ _=>fC) (fun _ _ _ _ _=>(aU (yD (K:=K) rfl) (tW (K:=K) rfl (pv 1) rfl) (pv 0) (fun _ _=>rfl)))) (aa (pv 7) (aa (aU dH (pv 6) az (fun _ _=>rfl)) ak aD) aj) dU)))))))))))),?_⟩
  obtain⟨dxn,fsn,R,F,Pd,Gn,Tk,FL,PL,Wn⟩:=id N
  have F:=Wn.fit
  obtain⟨dx,fs,h1,h2⟩:=id W.at'.ex
  have ok:=F.pok p hp
  have hO:=pJ ls p ok
  have hI:=ok.2.2.1
  obtain⟨lw,hB,hv⟩:=Cy F hp hk2 hlk
  have rn:=W.rno p hp (by omega)
  obtain⟨dn,hdn⟩:=W.done
  have hh1:∀{H':Hp},aQ H H'->(∀x∈p.ins,∃(l:Addr) (vs':List V) (g:Nat),cH (aW EL) (Sum.inr x)=some (.ref l)/\cH (dN (fun _=>0) ls) (Sum.inr x)=some (.int g)/\bR K H' l vs'/\iK ls x=(vs'[g]?).getD .non):=fun s x hx=>by
   obtain⟨l,hl,rfl⟩:=F.inL hp (List.mem_append.mpr (.inl hx))
   obtain⟨a,_,v1,v2,v3⟩:=W.lane F.whole.nod hl
   exact⟨a,_,0,v1,v3,bR.of (s _ _ v2),Oa F.whole.nod hl⟩
  have hz:sizeLine=16777216:=sizeLine_eq
  have hpl:(places p.kind (bh ls p)).length<=3:=places_len hO
  have hwl:=sO hk2 ok.1 p.nums (cQ ls p) (k0 p.name)
  have hw2:=CW p.kind p.nums (cQ ls p) (k0 p.name)
  refine⟨_,rfl,f,dx,fs,rfl,h1,h2.no _ (by decide +kernel),_,rfl,f,n,E,G,Kp,D,Rw,ls,ps,k0,EL,RL,p,rfl,N,W,hp,fun H1 s1=>?_⟩
  rw [hlk]
  have W1:=W.same s1
  refine⟨_,rfl,fc ⟨_,rfl,f,dx,fs,rfl,s1 _ _ h1,h2.no _ (by decide +kernel),_,rfl,?_⟩⟩
  refine VF W1.at' W1.rows (s1 _ _ hdn) (.inl ⟨rn,?_⟩)
  refine⟨_,rfl,fc ?_⟩
  have Wn1:=Wn.same s1
  refine⟨_,rfl,f,_,dx,fs,_,rfl,s1 _ _ h1,T.aY.c,T.aY.na.1,h2.has ("net",.ref n) (by simp),n,dxn,fsn,rfl,Wn1.obj,Wn1.fl.no _ (by decide +kernel),_,rfl,n,ls,ps,p.name,rfl,Wn1.s,.inl ⟨p,hp,rfl,fun H2 q s2' hP=>?_⟩⟩
  have s2:=s1.trans s2'
  have W2:=W.same s2
  obtain⟨dxp,tn,ti,to,p1,p2,p3,p4⟩:=id hP.ex
  clear s2' W1 Wn1
  refine⟨_,rfl,f,dx,fs,rfl,s2 _ _ h1,h2.no _ (by decide +kernel),_,rfl,f,n,E,G,Kp,D,Rw,q,_,_,p.kind,_,_,_,p.ins,iK ls,rfl,W2.at',W2.ever,W2.gone,hP,(by have:=yl p.kind;omega),hh1 s2,fun d hd=>?_⟩
  have s3':=aB (o:=.lst (bh ls p)) hd
  have ed3:(upd H2 d (.lst (p.ins.map (iK ls)))) d=some (.lst (bh ls p)):=aq
  change aQ H2 (upd H2 d (.lst (p.ins.map (iK ls)))) at s3'
  generalize upd H2 d (.lst (p.ins.map (iK ls)))=H3 at s3' ed3 ⊢
  have s3:=s2.trans s3'
  refine⟨_,rfl,q,cls t p.kind,dxp,_,oW K t p.kind,rfl,s3' _ _ p1,mj _ _ _ _ (by decide +kernel) (by decide +kernel) (by decide +kernel) (by decide +kernel),GF T p.kind,_,rfl,q,d,_,_,_,_,bh ls p,rfl,hP.same s3',by rw [lM];exact hI,bR.of ed3,hO,fun H4 L s4' nL eL=>?_⟩
  have s24:=s3'.trans s4'
  have s4:=s3.trans s4'
  have ed4:=s4' _ _ ed3
  refine⟨_,rfl,L,rfl,⟨_,bR.of eL⟩,fY (K:=K) (a:=L) (xs:=(places p.kind (bh ls p)).map nV) (fun j ys H'=>H'=H4/\ys=((places p.kind (bh ls p)).take j).map (fun q=>((bh ls p)[q]?).getD .non)) (by rw [lM];omega) ⟨rfl,rfl⟩ (fun j ys H' ⟨_,e⟩=>by rw [e,lM,List.length_take];omega) (fun j ys H' _ ⟨e,_⟩=>by rw [e];exact bR.of eL) ?_ ?_⟩
  ·rintro j v ys H' hv' ⟨e',rfl⟩
   subst e'
   rw [List.getElem?_map] at hv'
   obtain⟨r,hr',rfl⟩:=Option.map_eq_some_iff.mp hv'
   have hql:r <(bh ls p).length:=gU hO r (List.mem_of_getElem? hr')
   refine yes ⟨_,rfl,_,rfl,d,bh ls p,r,_,rfl,rfl,bR.of ed4,aK (j:=r) (List.getElem?_eq_getElem hql),rfl,?_⟩
   rw [List.take_succ,hr',Option.toList_some,List.map_append,List.map_cons,List.map_nil,List.getElem?_eq_getElem hql]
   rfl
  rintro ys H' ⟨e',rfl⟩ V1 hV1
  subst e'
  rw [lM,List.take_length,hv]
  have s5':=aB (o:=.lst ((cQ ls p).map V.int)) hV1
  have s5:=s4.trans s5'
  have s25:=s24.trans s5'
  have eV:(upd H' V1 (.lst ((cQ ls p).map V.int))) V1=some (.lst ((cQ ls p).map V.int)):=aq
  generalize upd H' V1 (.lst ((cQ ls p).map V.int))=H5 at s5' s5 s25 eV ⊢
  have eL5:=s5' _ _ eL
  have W5:=W.same s5
  refine⟨_,?_,fun _ _ h=>h⟩
  refine⟨_,rfl,_,rfl,f,_,dx,fs,_,rfl,s5 _ _ h1,T.aY.c,T.aY.na.2.2.2.2.2.1,h2.has ("rows",.ref Rw) (by simp),Rw,_,rfl,eX.k (k:=Sum.inr p.name) W5.rows,?_⟩
  rw [rn]
  refine⟨_,rfl,fc ?_⟩
  have hkp:=W.part F.pnd hp k0
  refine⟨_,rfl,q,cls t p.kind,dxp,_,fZ K t p.kind,rfl,s25 _ _ p1,mj _ _ _ _ (by decide +kernel) (by decide +kernel) (by decide +kernel) (by decide +kernel),PQ T hk2 ok.1,_,rfl,_,rfl,f,_,dx,fs,_,rfl,s5 _ _ h1,T.aY.c,T.aY.na.2.2.2.1,h2.has ("kept",.ref Kp) (by simp),_,rfl,Kp,_,rfl,(by rw [<-hkp];exact eX.k (k:=Sum.inr p.name) W5.kept),?_⟩
  refine⟨q,V1,_,p.nums,_,_,cQ ls p,k0 p.name,rfl,hP.same s25,ok.2.1,bR.of eV,lw,hB,fun H7 U0 L0 rs s7 nL0 eU0 eL0 tU=>?_⟩
  have s57:=s5.trans s7
  have s27:=s25.trans s7
  have eL7:=s7 _ _ eL5
  have hlr:rs.length=(dj p.kind p.nums (cQ ls p) (k0 p.name)).length:=by have:=Paired.length tU;unfold Fw at this;rw [lM] at this;exact this
  clear W5 W2 s24 s4 s3 s3' eV ed4 ed3
  refine⟨_,rfl,U0,_,0,_,rfl,rfl,fG.of eU0,aK (j:=0) rfl,L0,rfl,⟨_,bR.of eL0⟩,?_⟩
  refine sy (K:=K) (a:=L0) (xs:=rs.map V.ref) (fun j ys H8=>aQ H7 H8/\∃qs:List Addr,ys=qs.map V.ref/\jz H8 qs (((dj p.kind p.nums (cQ ls p) (k0 p.name)).take j).map fun pv=>[nameAt p.outs pv.1.toNat,.int pv.2])) (by rw [lM];omega) ⟨aQ.refl _,[],rfl,.nil⟩ ?_ (fun j ys H8 _ ⟨e,_⟩=>e.seq (bR.of eL0)) ?_ ?_
  ·rintro j ys H8 ⟨_,qs,rfl,tq⟩
   have:=Paired.length tq
   rw [lM,List.length_take] at this
   rw [lM]
   omega
  ·rintro j v ys H8 hj ⟨s8,qs,rfl,tq⟩
   rw [List.getElem?_map] at hj
   obtain⟨r,hr',rfl⟩:=Option.map_eq_some_iff.mp hj
   have hjl:j <(dj p.kind p.nums (cQ ls p) (k0 p.name)).length:=by have:=(List.getElem?_eq_some_iff.mp hr').1;omega
   obtain⟨pv,hpv⟩:∃pv,(dj p.kind p.nums (cQ ls p) (k0 p.name))[j]?=some pv:=⟨_,List.getElem?_eq_getElem hjl⟩
   have hr2:H7 r=some (.tup [.int pv.1,.int pv.2]):=by
    obtain⟨vs2,z1,z2⟩:=pH tU hr'
    unfold Fw at z1
    rw [List.getElem?_map,hpv] at z1
    cases z1
    exact z2
   obtain⟨o,ho1,ho2⟩:=hwl _ (List.mem_of_getElem? hpv)
   have ho3:o <p.outs.length:=by rw [ok.2.2.2.1];exact ho2
   have hn:nameAt p.outs o=V.str p.outs[o]:=by unfold nameAt;rw [List.getElem?_eq_getElem ho3];rfl
   refine⟨r,_,rfl,fG.of (s8 _ _ hr2),rfl,_,_,rfl,_,_,rfl,rfl,rfl,?_⟩
   refine yes ⟨_,rfl,q,_,dxp,_,_,rfl,s8 _ _ (s27 _ _ p1),eE T p.kind,vY T p.kind,rC _ _ _ _,_,rfl,to,p.outs.map V.str,_,nameAt p.outs o,rfl,rfl,s8.seqT (s27.seqT p4),?_,_,rfl,gw,fun u hu=>⟨s8.trans (aB hu),qs ++ [u],by simp,?_⟩⟩
   ·rw [ho1,hn]
    exact aK (j:=o) (by rw [List.getElem?_map,List.getElem?_eq_getElem ho3];rfl)
   ·rw [List.take_succ,hpv,Option.toList_some,List.map_append]
    refine(jz.same (aB hu) tq).append (.cons ?_ .nil)
    show upd H8 u _ u=some (HO.tup [nameAt p.outs pv.1.toNat,V.int pv.2])
    rw [ho1,Int.toNat_natCast]
    exact aq
  rintro ys H8 ⟨s8,qs,rfl,tq⟩ Lg hLg
  rw [lM,hlr,List.take_length] at tq
  have t9:=aB (o:=.lst (qs.map V.ref)) hLg
  have s9':=s8.trans t9
  have tq9:=jz.same t9 tq
  have eLg:(upd H8 Lg (.lst (qs.map V.ref))) Lg=some (.lst (qs.map V.ref)):=aq
  generalize upd H8 Lg (.lst (qs.map V.ref))=H9 at t9 s9' tq9 eLg ⊢
  have s9:=s57.trans s9'
  have s29:=s27.trans s9'
  have eL9:=s9' _ _ eL7
  have eU9:=s9' _ _ eU0
  refine⟨_,rfl,L,rfl,⟨_,bR.of eL9⟩,fY (K:=K) (a:=L) (xs:=(places p.kind (bh ls p)).map nV) (fun j ys H'=>H'=H9/\ys=((places p.kind (bh ls p)).take j).map (nameAt p.ins)) (by rw [lM];omega) ⟨rfl,rfl⟩ (fun j ys H' ⟨_,e⟩=>by rw [e,lM,List.length_take];omega) (fun j ys H' _ ⟨e,_⟩=>by rw [e];exact bR.of eL9) ?_ ?_⟩
  ·rintro j v ys HX hv' ⟨e',rfl⟩
   subst e'
   rw [List.getElem?_map] at hv'
   obtain⟨r,hr',rfl⟩:=Option.map_eq_some_iff.mp hv'
   have hql:r <p.ins.length:=by have:=gU hO r (List.mem_of_getElem? hr');unfold bh at this;rwa [lM] at this
   have hn:nameAt p.ins r=V.str p.ins[r]:=by unfold nameAt;rw [List.getElem?_eq_getElem hql];rfl
   refine yes ⟨_,rfl,q,_,dxp,_,_,rfl,s29 _ _ p1,eE T p.kind,sS T p.kind,mH _ _ _ _,_,rfl,ti,p.ins.map V.str,r,nameAt p.ins r,rfl,rfl,s29.seqT p3,by rw [hn];exact aK (j:=r) (by rw [List.getElem?_map,List.getElem?_eq_getElem hql];rfl),rfl,?_⟩
   rw [List.take_succ,hr',Option.toList_some,List.map_append]
   rfl
  rintro ys H10 ⟨e',rfl⟩ La hLa
  subst e'
  rw [lM,List.take_length]
  have s10':=aB (o:=.lst ((places p.kind (bh ls p)).map (nameAt p.ins))) hLa
  refine⟨_,rfl,_,rfl,U0,_,1,_,rfl,rfl,fG.of (s10' _ _ eU9),aK (j:=1) rfl,gw,fun U hU=>?_⟩
  exact k _ U La Lg qs ((s9.trans s10').trans (aB hU)) (s9.free hLa) ((s57.trans s8).free hLg) aq (aB hU _ _ aq) (aB hU _ _ (s10' _ _ eLg)) (jz.same (s10'.trans (aB hU)) tq9)
theorem Om (g:Str->Nat) {ls:List aH} {x:Str} (hx:x∈ls.map (·.name)) (v:Nat):putK (dN g ls) (Sum.inr x) (.int (v:Nat))=dN (fun y=>if y=x then v else g y) ls:=by
 unfold putK
 rw [if_pos (by
  obtain⟨l,hl,rfl⟩:=List.mem_map.mp hx
  exact List.any_eq_true.mpr ⟨_,List.mem_map.mpr ⟨l,hl,rfl⟩,by simp⟩)]
 unfold dN
 rw [List.map_map]
 refine List.map_congr_left fun l _=>?_
 by_cases h:l.name=x
 ·simp [h]
 ·simp [h]
theorem Ha (g:Str->Int) {ps:List PD} {x:Str} (hx:x∈ps.map (·.name)) (v:Int):putK (cX g ps) (Sum.inr x) (.int v)=cX (fun y=>if y=x then v else g y) ps:=by
 unfold putK
 rw [if_pos (by
  obtain⟨l,hl,rfl⟩:=List.mem_map.mp hx
  exact List.any_eq_true.mpr ⟨_,List.mem_map.mpr ⟨l,hl,rfl⟩,by simp⟩)]
 unfold cX
 rw [List.map_map]
 refine List.map_congr_left fun l _=>?_
 by_cases h:l.name=x
 ·simp [h]
 ·simp [h]
noncomputable def jl (gv:List (Str×Int)) (l:aH):aH:=⟨l.name,l.room,l.first ++ (gv.filter fun q=>decide (q.1=l.name)).map (·.2)⟩
theorem Gh (gv:List (Str×Int)) (q:Str×Int) (l:aH):jl (gv ++ [q]) l=if q.1=l.name then⟨l.name,l.room,(jl gv l).first ++ [q.2]⟩ else jl gv l:=by
 unfold jl
 rw [List.filter_append,List.map_append]
 by_cases h:q.1=l.name
 ·rw [if_pos h];simp [h]
 ·rw [if_neg h];simp [h]
noncomputable def QF (M:List Addr) (H H':Hp):Prop:=∀b,b∉M->H' b=H b
inductive Aw (K:PySem.W.Frag) (t:lA) (vs:List V) (H:Hp) (Q:VK):Prop where
 | mk:∀(f n E G Kp D Rw:Addr) (ls:List aH) (ps:List PD) (k0:Str->Int) (EL:List (aH×Addr)) (RL:List (Key×V)) (p:PD) (U La Lg:Addr) (tk:List Str) (gv:List (Str×Int)) (rs:List Addr) (kv:Int),vs=[.ref f,.str p.name,.ref U]->jt K t H n ls ps->(kI K t H f n ls ps (fun _=>0) k0 E G Kp D Rw EL RL)->p∈ps->(E:: G:: Kp:: D:: Rw:: EL.map (·.2)).Nodup->H U=some (.tup [.ref La,.ref Lg,.int kv])->H La=some (.lst (tk.map V.str))->H Lg=some (.lst (rs.map V.ref))->(jz H rs (gv.map fun q=>[.str q.1,.int q.2]))->La∉EL.map (·.2)->Lg∉EL.map (·.2)->tk.Nodup->((∀x∈tk,x∈ls.map (·.name)))->((∀q∈gv,q.1∈ls.map (·.name)))->gv.length<=2->(∀H',QF (G:: Kp:: D:: EL.map (·.2)) H H'->kI K t H' f n (ls.map (jl gv)) ps (fun x=>if x∈tk then 1 else 0) (fun x=>if x=p.name then kv else k0 x) E G Kp D Rw (EL.map fun q=>(jl gv q.1,q.2)) RL->Q .non H')->Aw K t vs H Q
@[irreducible] noncomputable def tV (K:PySem.W.Frag) (t:lA):Sp:=fun vs H Q _=>Aw K t vs H Q
theorem K5 (T:Txt w K mg t):FO P w K mg base 1 t.zX ["self", "name", "deed"] (tV K t):=by
 have sc:=T.zA.sc ["self", "name", "deed", "lane", "value"]
 refine T.zA.F.ok sc (fun vs H Q E h=>?_) (fun cdv A outer s H vs Q E hr h=>?_)
 ·unfold tV at h
  obtain⟨f,n,E,G,Kp,D,Rw,ls,ps,k0,EL,RL,p,U,La,Lg,tk,gv,rs,kv,rfl,_⟩:=h
  rfl
 ·unfold tV at h
  obtain⟨f,n,E,G,Kp,D,Rw,ls,ps,k0,EL,RL,p,U,La,Lg,tk,gv,rs,kv,rfl,N,W,hp,nod,hU,hLa,hLg,hT,na,ng,ntk,hin,hout,hg2,k⟩:=h
  refine⟨_,(au (fB PassesOwn.never rfl (cz (aU dH (pv 2) az (fun _ _=>rfl))) (gN sc 3)
    (aA (Nh hr.u1 (aZ (pv 0) rfl) (pv 3) az NQ (fun _ _ _=>rfl))))
   (au (fB PassesOwn.never rfl (cz (aU dH (pv 2) az (fun _ _=>rfl))) (m6 rfl (bH (gN sc 3) (bH (gN sc 4) gO)))
    (aA (bO (Ls (cG hr.u1 (aZ (pv 0) rfl) (pv 3) (fun _ _=>rfl)) (aa (pv 4) ak aj)))))
   (au (f9 hr.u1 (aZ (pv 0) rfl) (pv 1) (aU dH (pv 2) az (fun _ _=>rfl)) rfl)
   (aA (Nh hr.u1 (aZ (pv 0) rfl) (pv 1) az NQ (fun _ _ _=>rfl)))))),?_⟩
  have hl:sizeLine=16777216:=sizeLine_eq
  have F:xZ ls ps:=by obtain⟨_,_,_,_,_,_,_,_,_,Wn⟩:=N;exact Wn.fit
  have l24:=F.l24
  have p16:=F.p16
  obtain⟨dx,fs,h1,h2⟩:=id W.at'.ex
  obtain⟨dn,hdn⟩:=W.done
  have hG:=W.gone
  have hn:=nod
  simp only [List.nodup_cons,List.mem_cons,not_or] at hn
  obtain⟨⟨nEG,nEK,nED,nER,nEE⟩,⟨nGK,nGD,nGR,nGE⟩,⟨nKD,nKR,nKE⟩,⟨nDR,nDE⟩,nRE,nEL⟩:=hn
  have lEL:∀q∈EL,q.1.first.length<=199:=fun q hq=>by
   have hm:q.1∈ls:=by rw [<-W.els];exact List.mem_map.mpr ⟨q,hq,rfl⟩
   obtain⟨a1,a2,a3,_⟩:=F.lok _ hm
   omega
  refine⟨_,rfl,U,_,0,_,rfl,rfl,fG.of hU,aK (j:=0) rfl,La,rfl,⟨_,bR.of hLa⟩,eZ (K:=K) (a:=La) (xs:=tk.map V.str) (fun j σ H'=>H'=upd H G (.dK (dN (fun x=>if x∈tk.take j then 1 else 0) ls))/\∃v3,σ=[some (.ref f),some (.str p.name),some (.ref U),v3,none]) ⟨?_,none,rfl⟩ ?_ ?_ ?_⟩
  ·have:dN (fun x=>if x∈tk.take 0 then 1 else 0) ls=dN (fun _=>0) ls:=by simp
   rw [this,Fj hG]
  ·rintro j σ H' _ ⟨rfl,_⟩
   exact bR.of (jO hG hLa (by intro _ z;cases z))
  ·rintro j x σ H' hx ⟨rfl,v3,rfl⟩
   rw [List.getElem?_map] at hx
   obtain⟨y,hy,rfl⟩:=Option.map_eq_some_iff.mp hx
   have hym:=hin y (List.mem_of_getElem? hy)
   have nin:y∉tk.take j:=by
    have:=kZ (f:=id) (xs:=tk) (by rw [List.map_id];exact ntk) hy
    rwa [List.map_id] at this
   have vg:cH (dN (fun x=>if x∈tk.take j then 1 else 0) ls) (Sum.inr y)=some (.int ((0:Nat):Int)):=by
    obtain⟨l,hl',rfl⟩:=List.mem_map.mp hym
    have:=gW (kvs:=dN (fun x=>if x∈tk.take j then 1 else 0) ls) (by rw [xM];exact fO F.whole.nod) (List.mem_map.mpr ⟨l,hl',rfl⟩)
    rw [this]
    dsimp only
    rw [if_neg nin]
   refine⟨_,rfl,f,_,dx,fs,_,rfl,jO hG h1 (by intro _ z;cases z),T.aY.c,T.aY.na.2.2.1,h2.has ("gone",.ref G) (by simp),_,rfl,G,.int ((0:Nat):Int),rfl,(by rw [<-vg];exact eX.k (k:=Sum.inr y) aq),_,_,rfl,rfl,_,oN.k (k:=Sum.inr y) aq (by unfold dN;rw [lM];omega),?_,_,rfl⟩
   rw [oE]
   show upd H G (.dK (putK _ (Sum.inr y) (.int ((1:Nat):Int))))=_
   rw [Om _ hym 1]
   have:(fun z=>if z=y then 1 else if z∈tk.take j then 1 else 0)=fun z=>if z∈tk.take (j+1) then 1 else 0:=by
    funext z
    simp only [List.take_succ,hy,Option.toList_some,List.mem_append,List.mem_singleton]
    by_cases h3:z=y <;> by_cases h4:z∈tk.take j <;> simp [h3,h4]
   rw [this]
  rintro σ H' ⟨rfl,v3,rfl⟩
  rw [lM,List.take_length]
  have m1:QF [G] H (upd H G (.dK (dN (fun x=>if x∈tk then 1 else 0) ls))):=fun b hb=>aG (by simpa using hb)
  have gG:upd H G (.dK (dN (fun x=>if x∈tk then 1 else 0) ls)) G=some (.dK (dN (fun x=>if x∈tk then 1 else 0) ls)):=aq
  generalize upd H G (.dK (dN (fun x=>if x∈tk then 1 else 0) ls))=H1 at m1 gG ⊢
  have g1:∀{b:Addr} {u:HO},H b=some u->(∀ks,u≠.dK ks)->H1 b=some u:=fun {b u} h hu=>by
   rw [m1 b (by rw [List.mem_singleton];rintro rfl;rw [hG] at h;exact hu _ (Option.some.inj h).symm)]
   exact h
  have hlr:rs.length=gv.length:=by have:=Paired.length hT;rw [lM] at this;exact this
  have eE1:H1 E=some (.dK (aW EL)):=by rw [m1 E (by simpa using nEG)];exact W.ever
  have lists1:∀q∈EL,H1 q.2=some (.lst (q.1.first.map V.int)):=fun q hq=>g1 (W.lists q hq) (by intro _ z;cases z)
  have nE1:∀{b:Addr} {u:HO},H1 b=some u->(∀ks,u≠.lst ks)->b∉EL.map (·.2):=fun {b u} h hu hm=>by
   obtain⟨q,hq,rfl⟩:=List.mem_map.mp hm
   rw [lists1 q hq] at h
   exact hu _ (Option.some.inj h).symm
  refine⟨_,rfl,U,_,1,_,rfl,rfl,fG.of (g1 hU (by intro _ z;cases z)),aK (j:=1) rfl,Lg,rfl,⟨_,bR.of (g1 hLg (by intro _ z;cases z))⟩,eZ (K:=K) (a:=Lg) (xs:=rs.map V.ref) (fun j σ H'=>(QF (EL.map (·.2)) H1 H'/\∀q∈EL,H' q.2=some (.lst ((jl (gv.take j) q.1).first.map V.int)))/\∃v3 v4,σ=[some (.ref f),some (.str p.name),some (.ref U),v3,v4]) ⟨⟨fun _ _=>rfl,fun q hq=>?_⟩,v3,none,rfl⟩ ?_ ?_ ?_⟩
  ·rw [lists1 q hq]
   unfold jl
   simp
  ·rintro j σ H' _ ⟨⟨m2,_⟩,_⟩
   exact bR.of (by rw [m2 Lg ng];exact g1 hLg (by intro _ z;cases z))
  ·rintro j x σ H' hx ⟨⟨m2,l2⟩,v3,v4,rfl⟩
   rw [List.getElem?_map] at hx
   obtain⟨r,hr',rfl⟩:=Option.map_eq_some_iff.mp hx
   obtain⟨vs2,z1,z2⟩:=pH hT hr'
   rw [List.getElem?_map] at z1
   obtain⟨w,ew,rfl⟩:=Option.map_eq_some_iff.mp z1
   have hj:=(List.getElem?_eq_some_iff.mp ew).1
   have er:=g1 z2 (by intro _ z;cases z)
   have er':H' r=some (.tup [.str w.1,.int w.2]):=by rw [m2 r (nE1 er (by intro _ z;cases z))];exact er
   have fe:H' f=some (.ins t.cW dx fs):=by
    have e1:=g1 h1 (by intro _ z;cases z)
    rw [m2 f (nE1 e1 (by intro _ z;cases z))]
    exact e1
   have ee:H' E=some (.dK (aW EL)):=by rw [m2 E nEE];exact eE1
   obtain⟨l,hl',hln⟩:=List.mem_map.mp (hout w (List.mem_of_getElem? ew))
   obtain⟨a,ha,va,_,_⟩:=W.lane F.whole.nod hl'
   have ea:=l2 _ ha
   rw [hln] at va
   refine⟨r,_,rfl,fG.of er',rfl,_,_,rfl,_,_,rfl,rfl,?_⟩
   refine⟨_,rfl,f,_,dx,fs,_,rfl,fe,T.aY.c,T.aY.na.2.1,h2.has ("ever",.ref E) (by simp),_,rfl,E,.ref a,rfl,(by rw [<-va];exact eX.k (k:=Sum.inr w.1) ee),.inl ⟨rfl,_,bR.of ea⟩,?_⟩
   refine⟨_,rfl,a,_,.int w.2,rfl,rfl,ea,?_,⟨fun b hb=>?_,fun q hq=>?_⟩,some (.str w.1),some (.int w.2),rfl⟩
   ·have:l.first.length<=199:=lEL _ ha
    have h3:((jl (gv.take j) l).first).length<=199+2:=by
     unfold jl
     rw [lP,lM]
     have h4:=List.length_filter_le (fun q:Str×Int=>decide (q.1=l.name)) (gv.take j)
     rw [List.length_take] at h4
     omega
    have h5:(((jl (gv.take j) (l,a).1).first).map V.int).length<=201:=by rw [lM];exact h3
    omega
   ·rw [aG (fun z=>hb (by rw [z];exact List.mem_map.mpr ⟨_,ha,rfl⟩))]
    exact m2 b hb
   ·rw [List.take_succ,ew,Option.toList_some,Gh]
    by_cases h:q.2=a
    ·have hq1:q=(l,a):=by
      obtain⟨i1,hi1,ei1⟩:=List.mem_iff_getElem.mp hq
      obtain⟨i2,hi2,ei2⟩:=List.mem_iff_getElem.mp ha
      have:(EL.map (·.2))[i1]'(by rw [lM];exact hi1)=(EL.map (·.2))[i2]'(by rw [lM];exact hi2):=by rw [List.getElem_map,List.getElem_map,ei1,ei2];exact h
      have:=(List.getElem_inj nEL).mp this
      subst this
      rw [<-ei1,ei2]
     subst hq1
     rw [aq,if_pos hln.symm,List.map_append]
     rfl
    ·have hq1:¬w.1=q.1.name:=fun z=>by
      have v2:cH (aW EL) (Sum.inr q.1.name)=some (.ref q.2):=gW (by rw [fH,W.els];exact fO F.whole.nod) (List.mem_map.mpr ⟨q,hq,rfl⟩)
      rw [<-z,va] at v2
      exact h (by simpa using v2.symm)
     rw [aG h,if_neg hq1]
     exact l2 q hq
  rintro σ H2 ⟨⟨m2,l2⟩,v5,v6,rfl⟩
  rw [lM,hlr,List.take_length] at l2
  have fe:H2 f=some (.ins t.cW dx fs):=by
   have e1:=g1 h1 (by intro _ z;cases z)
   rw [m2 f (nE1 e1 (by intro _ z;cases z))]
   exact e1
  have uE:H2 U=some (.tup [.ref La,.ref Lg,.int kv]):=by
   have e1:=g1 hU (by intro _ z;cases z)
   rw [m2 U (nE1 e1 (by intro _ z;cases z))]
   exact e1
  have kE:H2 Kp=some (.dK (cX k0 ps)):=by rw [m2 Kp nKE,m1 Kp (by simpa using Ne.symm nGK)];exact W.kept
  have dE:H2 D=some (.dK (cX dn ps)):=by rw [m2 D nDE,m1 D (by simpa using Ne.symm nGD)];exact hdn
  have lk:∀k1:Str->Int,(cX k1 ps).length <sizeLine:=fun k1=>by unfold cX;rw [lM];omega
  have hpn:p.name∈ps.map (·.name):=List.mem_map.mpr ⟨p,hp,rfl⟩
  refine⟨_,rfl,U,_,2,_,rfl,rfl,fG.of uE,aK (j:=2) rfl,_,rfl,f,_,dx,fs,_,rfl,fe,T.aY.c,T.aY.na.2.2.2.1,h2.has ("kept",.ref Kp) (by simp),_,rfl,Kp,_,rfl,oN.k (k:=Sum.inr p.name) kE (lk _),?_⟩
  rw [Ha k0 hpn]
  have m3:QF [Kp] H2 (upd H2 Kp (.dK (cX (fun y=>if y=p.name then kv else k0 y) ps))):=fun b hb=>aG (by simpa using hb)
  have kE3:upd H2 Kp (.dK (cX (fun y=>if y=p.name then kv else k0 y) ps)) Kp=some (.dK (cX (fun y=>if y=p.name then kv else k0 y) ps)):=aq
  generalize upd H2 Kp (.dK (cX (fun y=>if y=p.name then kv else k0 y) ps))=H3 at m3 kE3 ⊢
  have fe3:H3 f=some (.ins t.cW dx fs):=by rw [m3 f (by simpa using mK fe kE (by intro z;cases z))];exact fe
  have dE3:H3 D=some (.dK (cX dn ps)):=by rw [m3 D (by simpa using Ne.symm nKD)];exact dE
  have vd:=W.part F.pnd hp dn
  refine⟨_,rfl,f,_,dx,fs,_,rfl,fe3,T.aY.c,T.aY.na.2.2.2.2.1,h2.has ("done",.ref D) (by simp),_,rfl,D,.int (dn p.name),rfl,(by rw [<-vd];exact eX.k (k:=Sum.inr p.name) dE3),_,_,rfl,rfl,_,oN.k (k:=Sum.inr p.name) dE3 (lk _),?_⟩
  rw [Ha dn hpn]
  have m4:QF [D] H3 (upd H3 D (.dK (cX (fun y=>if y=p.name then dn p.name+1 else dn y) ps))):=fun b hb=>aG (by simpa using hb)
  have dE4:upd H3 D (.dK (cX (fun y=>if y=p.name then dn p.name+1 else dn y) ps)) D=some (.dK (cX (fun y=>if y=p.name then dn p.name+1 else dn y) ps)):=aq
  change Q .non (upd H3 D (.dK (cX (fun y=>if y=p.name then dn p.name+1 else dn y) ps)))
  generalize upd H3 D (.dK (cX (fun y=>if y=p.name then dn p.name+1 else dn y) ps))=H4 at m4 dE4 ⊢
  have mv:∀b,b≠D->b≠Kp->H4 b=H2 b:=fun b a1 a2=>by rw [m4 b (by simpa using a1),m3 b (by simpa using a2)]
  have fe4:H4 f=some (.ins t.cW dx fs):=by rw [m4 f (by simpa using mK fe3 dE3 (by intro z;cases z))];exact fe3
  refine k H4 (fun b hb=>?_) ⟨⟨dx,fs,fe4,h2⟩,?_,?_,?_,?_,?_,⟨_,dE4⟩,?_,W.rno⟩
  ·simp only [List.mem_cons,not_or] at hb
   rw [mv b hb.2.2.1 hb.2.1,m2 b hb.2.2.2,m1 b (by simpa using hb.1)]
  ·rw [mv E nED nEK,m2 E nEE,eE1]
   unfold aW
   rw [List.map_map]
   rfl
  ·rw [List.map_map,<-W.els,List.map_map]
   rfl
  ·intro q hq
   obtain⟨q0,hq0,rfl⟩:=List.mem_map.mp hq
   have a2:=l2 q0 hq0
   rw [mv q0.2 (mK a2 dE (by intro z;cases z)) (mK a2 kE (by intro z;cases z))]
   exact a2
  ·rw [mv G nGD nGK,m2 G nGE,gG]
   unfold dN
   rw [List.map_map]
   rfl
  ·rw [m4 Kp (by simpa using nKD)]
   exact kE3
  ·rw [mv Rw (Ne.symm nDR) (Ne.symm nKR),m2 Rw nRE,m1 Rw (by simpa using Ne.symm nGR)]
   exact W.rows
inductive Hj (vs:List V) (H:Hp) (Q:VK) (E:XK):Prop where
 | mk:∀x:V,vs=[x]->False->Hj vs H Q E
theorem Oh (T:Txt w K mg t):FO P w K mg base 3 t.Km ["thing"] (Hj):=by
 have sc:=T.Dc.sc ["thing"]
 refine T.Dc.F.ok sc ln (fun _ _ _ _ H vs Q E hr h=>?_)
 obtain⟨x,rfl,h⟩:=h
 refine⟨_,(aA (aN (zJ (bJ yq (by rfl) T.jY jE (aa (pv 0) (aa (Cw (by rfl) T.tE oR) ak aj) aj)) (zJ (wg wN (bJ cC (by rfl) T.gA d7 (aa (pv 0) ak aj)) (jD (by rfl) T.FW) (bT _)) (zP (bJ (yI rfl) (by rfl) T.Nt Hz (aa (fD [] ["thing"] (bx (top 62)) rfl (cz (pv 0)) (fun _ _ _ _ _=>fC) (fun _ _ _ _ _=>(eQ (uF T) T.pN hr (aa (pv 0) ak aj)))) ak dU))))))),?_⟩
 exact h.elim
inductive zp (K:PySem.W.Frag) (t:lA) (vs:List V) (H:Hp) (Q:VK) (E:XK):Prop where
 | mk:∀(n rw:Addr) (ls:List aH) (ps:List PD),vs=[.ref n,.ref rw]->jt K t H n ls ps->H rw=some (.dK [])->(∀H',aQ H H'->Q .non H')->zp K t vs H Q E
theorem Jw (T:Txt w K mg t):FO P w K mg base 4 t.Bt ["net", "rows"] (zp K t):=by
 have sc:=T.uB.sc ["net", "rows", "doors", "door"]
 refine T.uB.F.ok sc ln (fun _ _ _ _ H vs Q E hr h=>?_)
 obtain⟨n,rw,ls,ps,rfl,N,hrw,k⟩:=h
 refine⟨_,(au (sN sc 2 (Q5 (pv 0) T.bc T.bc.me.2.2.2.2.1 (yx T) T.pZ hr))
  (au (rD (H0:=H) rfl (fB PassesOwn.never rfl (sJ (pv 1)) (gN sc 3)
   (aA (bU (bz oJ (pv 3) (pv 2) (by with_unfolding_all rfl))
    (aA fP)
    bu))))
  (aA (rD (H0:=H) rfl (fB PassesOwn.never rfl (sJ (pv 1)) (gN sc 3)
   (aA (bU (lL (jL (eQ (Oh T) T.Dc hr (aa (cG hr.u1 (pv 1) (pv 3) (fun _ _=>rfl)) ak aD))))
    (aA fP)
    bu))))))),?_⟩
 obtain⟨dxn,fsn,R,F,Pd,Gn,Tk,FL,PL,Wn⟩:=id N
 refine⟨_,rfl,n,dxn,fsn,rfl,Wn.obj,Wn.fl.no _ (by decide +kernel),n,ls,ps,rfl,N,fun l nl=>?_⟩
 have s1:=aB (o:=.lst (qY ps "give")) nl
 generalize upd H l (.lst (qY ps "give"))=H1 at s1 ⊢
 have e1:=s1 _ _ hrw
 have nf:∀(o':Obj) (u':HO),H rw≠some (.frz o' u'):=fun o' u' z=>by rw [show H rw=_ from hrw] at z;cases z
 refine⟨_,rfl,rw,_,rfl,e1,fun o=>yd (fun j σ H'=>H'=upd H1 rw (.frz o (.dK []))/\∃v3,σ=[some (.ref n),some (.ref rw),some (.ref l),v3]) ⟨rfl,none,rfl⟩ (fun j σ H' _ ⟨e,_⟩=>by rw [e];exact aq) (by rintro j kk w σ H' hj;simp at hj) ?_⟩
 rintro σ H' ⟨rfl,v3,rfl⟩
 refine⟨_,⟨rw,o,_,aq,nf,rfl⟩,?_⟩
 rw [oE,Fj e1]
 refine⟨_,rfl,rw,_,rfl,e1,fun o=>yd (fun j σ H'=>H'=upd H1 rw (.frz o (.dK []))/\∃v3,σ=[some (.ref n),some (.ref rw),some (.ref l),v3]) ⟨rfl,v3,rfl⟩ (fun j σ H' _ ⟨e,_⟩=>by rw [e];exact aq) (by rintro j kk w σ H' hj;simp at hj) ?_⟩
 rintro σ H' ⟨rfl,v3,rfl⟩
 refine⟨_,⟨rw,o,_,aq,nf,rfl⟩,?_⟩
 rw [oE,Fj e1]
 exact k _ s1
inductive ug (K:PySem.W.Frag) (t:lA) (vs:List V) (H:Hp) (Q:VK) (E:XK):Prop where
 | mk:∀(H0:Hp) (r dx n rw:Addr) (ls:List aH) (ps:List PD),vs=[.ref r,.ref n,.ref rw]->H r=some (.ins t.wX dx [])->aQ H0 H->H0 r=none->jt K t H0 n ls ps->H0 rw=some (.dK [])->(∀H' f E G Kp D Rw EL RL,jR r H H'->yQ t H' r n f->kI K t H' f n ls ps (fun _=>0) (fu ps) E G Kp D Rw EL RL->(E:: G:: Kp:: D:: Rw:: EL.map (·.2)).Nodup->(∀a∈E:: G:: Kp:: D:: Rw:: EL.map (·.2),H0 a=none/\a≠r)->Q .non H')->ug K t vs H Q E
theorem BX (T:Txt w K mg t):FO P w K mg base 7 t.pR ["self", "net", "rows"] (ug K t):=by
 have sc:=T.j8.sc ["self", "net", "rows"]
 refine T.j8.F.ok sc ln (fun _ _ _ _ H vs Q E hr h=>?_)
 obtain⟨H0,r,dx,n,rw,ls,ps,rfl,hr1,s0,nr0,N,hrw,k⟩:=h
 refine⟨_,(au (bO (eQ (Jw T) T.uB hr (aa (pv 1) (aa (pv 2) ak aj) aj)))
  (au (iI (pv 0) (pv 1) rfl)
  (au (iI (pv 0) (gJ (T.aY.M T.jF) (zT T) (hr.mono (by decide)) (by rfl) T.aY.m T.jF.b .nil fj (aa (pv 1) (aa (pv 2) ak aj) aj)) rfl)
  (aA (iI (pv 0) az rfl))))),?_⟩
 refine⟨_,rfl,_,rfl,n,rw,ls,ps,rfl,N.same s0,s0 _ _ hrw,fun H1 s1=>?_⟩
 have T0:=(Tr.start hr1).same s1
 refine⟨_,rfl,_,rfl,r,_,dx,[],rfl,s1 _ _ hr1,T.dz.c,T.dz.na.1,by show 0 <1000;decide,?_⟩
 have T1:=T0.put (L1:=[]) (L2:=[]) (o':=.ins t.wX dx (aJ "net" (.ref n) []))
 generalize upd H1 r (.ins t.wX dx (aJ "net" (.ref n) []))=H2 at T1 ⊢
 have s02:aQ H0 H2:=fun x o e=>T1.but x o (aC e nr0) (s0 x o e)
 have er2:=T1.all (r,.ins t.wX dx (aJ "net" (.ref n) [])) (.head _)
 refine⟨_,rfl,_,rfl,fun f dxf nf ndf nef=>?_⟩
 have s3:aQ H2 (upd (upd H2 dxf (.own f)) f (.ins t.cW dxf [])):=fun b o e=>by rw [aG (aC e nf),aG (aC e ndf)];exact e
 have ef:(upd (upd H2 dxf (.own f)) f (.ins t.cW dxf [])) f=some (.ins t.cW dxf []):=aq
 generalize upd (upd H2 dxf (.own f)) f (.ins t.cW dxf [])=H3 at s3 ef ⊢
 have s03:=s02.trans s3
 refine⟨H0,f,dxf,n,rw,ls,ps,rfl,ef,s03,s02.free nf,N,hrw,fun H4 E G Kp D Rw EL RL b4 W4 nod4 fr4=>⟨rfl,?_⟩⟩
 have nfr:r≠f:=aC er2 nf
 have er4:=b4 r _ nfr (s3 _ _ er2)
 have mvr:∀{o:HO},kI K t (upd H4 r o) f n ls ps (fun _=>0) (fu ps) E G Kp D Rw EL RL:=fun {o}=>by
  have nr:∀{b:Addr} {u:HO},H4 b=some u->(∀c d g,u≠.ins c d g)->upd H4 r o b=some u:=fun {b u} h hu=>by
   rw [aG (mK h er4 (by intro z;exact hu _ _ _ z))]
   exact h
  obtain⟨dn,hd⟩:=W4.done
  obtain⟨d1,f1,h1,h2⟩:=W4.at'
  refine⟨⟨d1,f1,by rw [aG (Ne.symm nfr)];exact h1,h2⟩,nr W4.ever (by intro _ _ _ z;cases z),W4.els,fun q hq=>nr (W4.lists q hq) (by intro _ _ _ z;cases z),nr W4.gone (by intro _ _ _ z;cases z),nr W4.kept (by intro _ _ _ z;cases z),⟨dn,nr hd (by intro _ _ _ z;cases z)⟩,nr W4.rows (by intro _ _ _ z;cases z),W4.rno⟩
 refine⟨_,rfl,r,_,dx,_,rfl,er4,T.dz.c,T.dz.na.2.1,Nat.lt_of_le_of_lt (jm (Nat.zero_le 0)) (by decide),?_⟩
 have er5:upd H4 r (.ins t.wX dx (aJ "flow" (.ref f) (aJ "net" (.ref n) []))) r=some (.ins t.wX dx (aJ "flow" (.ref f) (aJ "net" (.ref n) []))):=aq
 refine⟨_,rfl,r,_,dx,_,rfl,er5,T.dz.c,T.dz.na.2.2.1,Nat.lt_of_le_of_lt (jm (jm (Nat.zero_le 0))) (by decide),?_⟩
 rw [oE]
 refine k _ f E G Kp D Rw EL RL (fun b o hb e=>?_) ⟨dx,_,aq,?_,?_⟩ mvr nod4 (fun a ha=>⟨s03.free (fr4 a ha),fun z=>?_⟩)
 ·rw [aG hb]
  have e2:=T1.but b o hb e
  exact b4 b o (aC e2 nf) (s3 b o e2)
 ·intro q hq
  simp only [List.mem_cons,List.not_mem_nil,or_false] at hq
  rcases hq with rfl | rfl <;> (dsimp only;(repeat first | (rw [aF,if_pos rfl];done) | rw [aF,if_neg (by decide +kernel)]))
 ·intro m hm
  have hne:∀m∈(["full_lane", "lane_now", "part_now", "net_now"]:List Str),∀g∈(["turns", "flow", "net"]:List Str),¬m=g:=by decide +kernel
  have h:=hne m hm
  rw [aF,if_neg (h _ (by simp)),aF,if_neg (h _ (by simp)),aF,if_neg (h _ (by simp))]
  rfl
 ·have:=fr4 a ha
  rw [z,s3 _ _ er2] at this
  cases this
theorem GR {α:Type} {p:α->Bool} {xs:List α} {j:Nat} {x:α} (h:(xs.take j).find? p=none) (hx:xs[j]?=some x):if p x=true then xs.find? p=some x else(xs.take (j+1)).find? p=none:=by
 split
 ·rename_i e
  have hj:=(List.getElem?_eq_some_iff.mp hx)
  have e2:xs=xs.take j ++ x:: xs.drop (j+1):=by
   rw [<-hj.2,<-List.drop_eq_getElem_cons hj.1,List.take_append_drop]
  rw [e2,List.find?_append,h,List.find?_cons_of_pos e]
  rfl
 ·rename_i e
  rw [List.take_succ,hx,Option.toList_some,List.find?_append,h,List.find?_cons_of_neg e]
  rfl
noncomputable def roomF (ls:List aH) (x:Str):Int:=((ls.find? fun l=>decide (l.name=x)).map (·.room)).getD 0
theorem DQ {ls:List aH} (nd:(ls.map (·.name)).Nodup) {l:aH} (hl:l∈ls):roomF ls l.name=l.room:=by
 unfold roomF
 rw [find_name nd hl]
 rfl
noncomputable def um (ls:List aH) (q:Str×Int):Bool:=decide (roomF ls q.1<=((Ed ls q.1).length:Int))
noncomputable def mQ (ls:List aH) (gv:List (Str×Int)):V:=match gv.find? (um ls) with
 | some q=>.str q.1
 | none=>.non
inductive rP (K:PySem.W.Frag) (t:lA) (vs:List V) (H:Hp) (Q:VK) (E_:XK):Prop where
 | mk:∀(r f n E G Kp D Rw U La Lg:Addr) (ls:List aH) (ps:List PD) (k0:Str->Int) (EL:List (aH×Addr)) (RL:List (Key×V)) (gv:List (Str×Int)) (rs:List Addr) (kv:Int),vs=[.ref r,.ref U]->yQ t H r n f->jt K t H n ls ps->(kI K t H f n ls ps (fun _=>0) k0 E G Kp D Rw EL RL)->H U=some (.tup [.ref La,.ref Lg,.int kv])->H Lg=some (.lst (rs.map V.ref))->(jz H rs (gv.map fun q=>[.str q.1,.int q.2]))->((∀q∈gv,q.1∈ls.map (·.name)))->(∀H',aQ H H'->Q (mQ ls gv) H')->rP K t vs H Q E_
theorem zG (T:Txt w K mg t):FO P w K mg base 5 t.m9 ["self", "deed"] (rP K t):=by
 have sc:=T.nj.sc ["self", "deed", "lane", "value"]
 refine T.nj.F.ok sc ln (fun _ _ _ _ H vs Q E hr h=>?_)
 obtain⟨r,f,n,E,G,Kp,D,Rw,U,La,Lg,ls,ps,k0,EL,RL,gv,rs,kv,rfl,hR,N,W,hU,hLg,hT,hout,k⟩:=h
 refine⟨_,(au (fB PassesOwn.never rfl (cz (aU dH (pv 1) az (fun _ _=>rfl))) (m6 rfl (bH (gN sc 2) (bH (gN sc 3) gO)))
   (aA (bU (bz VG (Kc (aZ (pv 0) rfl) T.aY T.aY.me.2.1 (xx T) T.nY hr (aa (pv 2) ak aj)) (jG (aZ (pv 0) rfl) T.bc.c (T.iG.me T.bc.me.2.2.2.2.2.2.1) (uU T) (hr.mono (by decide)) T.iG.b .nil uG (aa (pv 2) ak aj)) (bT _))
    (aA (aN (pv 2)))
    bu)))
  (aA (aN pC))),?_⟩
 have hl:sizeLine=16777216:=sizeLine_eq
 have hlr:rs.length=gv.length:=by have:=Paired.length hT;rw [lM] at this;exact this
 refine⟨_,rfl,U,_,1,_,rfl,rfl,fG.of hU,aK (j:=1) rfl,Lg,rfl,⟨_,bR.of hLg⟩,eZ (K:=K) (a:=Lg) (xs:=rs.map V.ref) (fun j σ H'=>aQ H H'/\(∃v2 v3,σ=[some (.ref r),some (.ref U),v2,v3])/\(gv.take j).find? (um ls)=none) ⟨aQ.refl _,⟨_,_,rfl⟩,rfl⟩ (fun j σ H' _ h=>bR.of (h.1 _ _ hLg)) ?_ ?_⟩
 ·rintro j x σ H1 hx ⟨s1,⟨v2,v3,rfl⟩,hf⟩
  rw [List.getElem?_map] at hx
  obtain⟨u,hu,rfl⟩:=Option.map_eq_some_iff.mp hx
  obtain⟨vs2,z1,z2⟩:=pH hT hu
  rw [List.getElem?_map] at z1
  obtain⟨w,ew,rfl⟩:=Option.map_eq_some_iff.mp z1
  have ft:=GR hf ew
  obtain⟨dxn,fsn,R,F0,Pd,Gn,Tk,FL,PL,Wn⟩:=N.same s1
  have F:=Wn.fit
  obtain⟨dxr,fsr,R1⟩:=hR.same s1
  have W1:=W.same s1
  obtain⟨dx,fs,h1,h2⟩:=id W1.at'.ex
  obtain⟨l,hl',hln⟩:=List.mem_map.mp (hout w (List.mem_of_getElem? ew))
  obtain⟨a,_,va,ea,vg⟩:=W1.lane F.whole.nod hl'
  have fb:um ls w=decide (l.room<=(l.first.length:Int)):=by unfold um;rw [<-hln,DQ F.whole.nod hl',pK F.whole.nod hl']
  rw [hln] at va vg
  refine⟨u,_,rfl,fG.of (s1 _ _ z2),rfl,_,_,rfl,_,_,rfl,rfl,?_⟩
  refine⟨_,rfl,r,_,dxr,fsr,_,rfl,R1.1,T.dz.c,T.dz.na.2.1,R1.2.has ("flow",.ref f) (by simp),f,dx,fs,rfl,h1,h2.no _ (by decide +kernel),_,rfl,f,n,E,G,Kp,D,Rw,a,_,_,w.1,_,0,rfl,W1.at',W1.ever,W1.gone,va,vg,bR.of ea,?_⟩
  refine⟨_,rfl,r,_,dxr,fsr,_,rfl,R1.1,T.dz.c,T.dz.na.1,R1.2.has ("net",.ref n) (by simp),n,dxn,fsn,rfl,Wn.obj,Wn.fl.no _ (by decide +kernel),_,rfl,n,ls,ps,w.1,rfl,Wn.s,.inl ⟨l,hl',hln,fun H2 s2=>?_⟩⟩
  refine⟨_,_,rfl,rfl,_,rfl,?_⟩
  have e2:decide (l.room<=(((l.first.map V.int).length:Nat):Int) - ((0:Nat):Int))=um ls w:=by rw [fb,lM,show((l.first.length:Nat):Int) - ((0:Nat):Int)=(l.first.length:Int) by omega]
  rw [e2]
  cases hb:um ls w with
  | true=>
   rw [if_pos hb] at ft
   refine lE ⟨_,rfl,?_⟩
   have k':=k H2 (s1.trans s2)
   unfold mQ at k'
   rw [ft] at k'
   exact k'
  | false=>
   rw [if_neg (by simp [hb])] at ft
   exact fc ⟨s1.trans s2,⟨_,_,rfl⟩,ft⟩
 rintro σ H1 ⟨s1,⟨v2,v3,rfl⟩,hf⟩
 rw [lM,hlr,List.take_length] at hf
 have k':=k H1 s1
 unfold mQ at k'
 rw [hf] at k'
 exact k'
inductive uq (K:PySem.W.Frag) (t:lA) (vs:List V) (H:Hp) (Q:VK) (E_:XK):Prop where
 | mk:∀(r f n E G Kp D Rw:Addr) (ls le:List aH) (ps:List PD) (g:Str->Nat) (k0:Str->Int) (EL:List (aH×Addr)) (RL:List (Key×V)) (l:aH),vs=[.ref r,.str l.name]->yQ t H r n f->jt K t H n ls ps->kI K t H f n le ps g k0 E G Kp D Rw EL RL->le.map (·.name)=ls.map (·.name)->l∈le->(∀H' p,aQ H H'->H p=none->H' p=some (.lst ((l.first.drop (g l.name)).map V.int))->Q (.ref p) H')->uq K t vs H Q E_
theorem Ca (T:Txt w K mg t):FO P w K mg base 4 t.o8 ["self", "name"] (uq K t):=by
 have sc:=T.pF.sc ["self", "name"]
 refine T.pF.F.ok sc ln (fun _ _ _ _ H vs Q E hr h=>?_)
 obtain⟨r,f,n,E,G,Kp,D,Rw,ls,le,ps,g,k0,EL,RL,l,rfl,hR,N,W,hn,hl,k⟩:=h
 refine⟨_,(au (bO (jG (aZ (pv 0) rfl) T.bc.c (T.cJ.me T.bc.me.2.2.2.2.2.1) (iJ T) (hr.mono (by decide)) T.cJ.b .nil uG (aa (pv 1) ak aj)))
  (aA (aN (Kc (aZ (pv 0) rfl) T.aY T.aY.me.2.2.1 (zM T) T.nA hr (aa (pv 1) ak aj))))),?_⟩
 obtain⟨dxn,fsn,R,F0,Pd,Gn,Tk,FL,PL,Wn⟩:=id N
 obtain⟨dxr,fsr,R0⟩:=id hR
 refine⟨_,rfl,r,_,dxr,fsr,_,rfl,R0.1,T.dz.c,T.dz.na.1,R0.2.has ("net",.ref n) (by simp),n,dxn,fsn,rfl,Wn.obj,Wn.fl.no _ (by decide +kernel),_,rfl,n,ls,ps,l.name,rfl,N,.inl ⟨by rw [<-hn];exact List.mem_map.mpr ⟨l,hl,rfl⟩,fun H1 s1=>?_⟩⟩
 obtain⟨dxr,fsr,R1⟩:=hR.same s1
 have W1:=W.same s1
 obtain⟨dx,fs,h1,h2⟩:=id W1.at'.ex
 obtain⟨a,_,va,ea,vg⟩:=W1.lane (by rw [hn];exact Wn.fit.whole.nod) hl
 refine⟨_,rfl,r,_,dxr,fsr,_,rfl,R1.1,T.dz.c,T.dz.na.2.1,R1.2.has ("flow",.ref f) (by simp),f,dx,fs,rfl,h1,h2.no _ (by decide +kernel),_,rfl,f,n,E,G,Kp,D,Rw,a,_,_,l.name,_,_,rfl,W1.at',W1.ever,W1.gone,va,vg,bR.of ea,fun p hp=>?_⟩
 rw [<-List.map_drop]
 exact k _ p (s1.trans (aB hp)) (s1.free hp) aq
theorem Dv (T:Txt w K mg t) (i:Nat):MethAt P w K mg base Bd 4 (cls t i) "with_memory" (jj K t i):=match i with
 | 0=>⟨_,_,_,T.ji.c,(T.aV.me T.ji.me.2.2.2.2.2.1),T.aV.b,(b8 T).imp fun _ _ _ _ h=>⟨_,by omega,h⟩⟩
 | 1=>⟨_,_,_,T.jc.c,(T.aV.me T.jc.me.2.2.2.2.2.1),T.aV.b,(b8 T).imp fun _ _ _ _ h=>⟨_,by omega,h⟩⟩
 | 2=>⟨_,_,_,T.ir.c,(T.aV.me T.ir.me.2.2.2.2.2.2.1),T.aV.b,(b8 T).imp fun _ _ _ _ h=>⟨_,by omega,h⟩⟩
 | 3=>⟨_,_,_,T.iw.c,(T.aV.me T.iw.me.2.2.2.2.2.2.1),T.aV.b,(b8 T).imp fun _ _ _ _ h=>⟨_,by omega,h⟩⟩
 | 4=>⟨_,_,_,T.iy.c,(T.aV.me T.iy.me.2.2.2.2.2.2.1),T.aV.b,(b8 T).imp fun _ _ _ _ h=>⟨_,by omega,h⟩⟩
 | 5=>⟨_,_,_,T.gq.c,(T.iB.me T.gq.me.2.2.2.2.2.2.1),T.iB.b,(wy T).mono (by decide)⟩
 | 6=>⟨_,_,_,T.jU.c,(T.aV.me T.jU.me.2.2.2.2.2.2.1),T.aV.b,(b8 T).imp fun _ _ _ _ h=>⟨_,by omega,h⟩⟩
 | 7=>⟨_,_,_,T.il.c,(T.aV.me T.il.me.2.2.2.2.2.2.1),T.aV.b,(b8 T).imp fun _ _ _ _ h=>⟨_,by omega,h⟩⟩
 | 8=>⟨_,_,_,T.fL.c,(T.aV.me T.fL.me.2.2.2.2.2.2.1),T.aV.b,(b8 T).imp fun _ _ _ _ h=>⟨_,by omega,h⟩⟩
 | 9=>⟨_,_,_,T.dW.c,(T.aV.me T.dW.me.2.2.2.2.2.2.1),T.aV.b,(b8 T).imp fun _ _ _ _ h=>⟨_,by omega,h⟩⟩
 | n+10=>⟨_,_,_,T.fK.c,(T.aV.me T.fK.me.2.2.2.2.2.2.1),T.aV.b,(b8 T).imp fun _ _ _ _ h=>⟨_,by omega,h⟩⟩
noncomputable def fV (k:Str->Int) (p:PD):PD:=if p.kind=5 then { p with nums:=[k p.name] } else p
inductive ux (K:PySem.W.Frag) (t:lA) (vs:List V) (H:Hp) (Q:VK) (E_:XK):Prop where
 | mk:∀(r f n E G Kp D Rw:Addr) (ls le:List aH) (ps:List PD) (g:Str->Nat) (k0:Str->Int) (EL:List (aH×Addr)) (RL:List (Key×V)) (p:PD),vs=[.ref r,.str p.name]->yQ t H r n f->jt K t H n ls ps->kI K t H f n le ps g k0 E G Kp D Rw EL RL->p∈ps->(∀H' u,aQ H H'->BP K H' (.ref u) (fV k0 p)->Q (.ref u) H')->ux K t vs H Q E_
theorem Cg (T:Txt w K mg t):FO P w K mg base 5 t.pL ["self", "name"] (ux K t):=by
 have sc:=T.pq.sc ["self", "name"]
 refine T.pq.F.ok sc ln (fun _ _ _ _ H vs Q E hr h=>?_)
 obtain⟨r,f,n,E,G,Kp,D,Rw,ls,le,ps,g,k0,EL,RL,p,rfl,hR,N,W,hp,k⟩:=h
 refine⟨_,(aA (aN (eQ (GP T) T.zc hr (aa (vM (CX:=Bd) (k:=4) (E:=E0) (jG (aZ (pv 0) rfl) T.bc.c (T.dh.me T.bc.me.2.2.2.2.2.2.2.2.1) (jg T) (hr.mono (by decide)) T.dh.b .nil uG (aa (pv 1) ak aj)) (hr.mono (by decide)) fj (aa (cG hr.u1 (aZ (aZ (pv 0) rfl) rfl) (pv 1) (fun _ _=>rfl)) ak aD)) ak aX)))),?_⟩
 obtain⟨dxn,fsn,R,F0,Pd,Gn,Tk,FL,PL,Wn⟩:=id N
 have F:=Wn.fit
 have ok:=F.pok p hp
 obtain⟨dxr,fsr,R0⟩:=id hR
 refine⟨_,rfl,r,_,dxr,fsr,_,rfl,R0.1,T.dz.c,T.dz.na.1,R0.2.has ("net",.ref n) (by simp),n,dxn,fsn,rfl,Wn.obj,Wn.fl.no _ (by decide +kernel),_,rfl,n,ls,ps,p.name,rfl,N,.inl ⟨p,hp,rfl,fun H1 q s1 P1=>?_⟩⟩
 obtain⟨dxr,fsr,R1⟩:=hR.same s1
 have W1:=W.same s1
 obtain⟨dx,fs,h1,h2⟩:=id W1.at'.ex
 obtain⟨dxp,tn,ti,to,p1,p2,p3,p4⟩:=id P1.ex
 have vk:=W.part F.pnd hp k0
 refine⟨q,cls t p.kind,dxp,_,jj K t p.kind,rfl,p1,mj _ _ _ _ (by decide +kernel) (by decide +kernel) (by decide +kernel) (by decide +kernel),Dv T p.kind,_,rfl,r,_,dxr,fsr,_,rfl,R1.1,T.dz.c,T.dz.na.2.1,R1.2.has ("flow",.ref f) (by simp),f,_,dx,fs,_,rfl,h1,T.aY.c,T.aY.na.2.2.2.1,h2.has ("kept",.ref Kp) (by simp),_,rfl,Kp,_,rfl,(by rw [<-vk];exact eX.k (k:=Sum.inr p.name) W1.kept),?_⟩
 refine⟨q,_,_,_,_,_,rfl,by have:=ok.1;omega,P1,fun H2 u s2 nu P2=>?_⟩
 have e:Jt p.kind (.int (k0 p.name)) (p.nums.map V.int)=(fV k0 p).nums.map V.int:=by
  unfold Jt fV
  split <;> rfl
 have ek:(fV k0 p).kind=p.kind/\(fV k0 p).name=p.name/\(fV k0 p).ins=p.ins/\(fV k0 p).outs=p.outs:=by
  unfold fV
  split <;> exact⟨rfl,rfl,rfl,rfl⟩
 rw [e] at P2
 have P2:fJ K t H2 u (fV k0 p).kind (.str (fV k0 p).name) ((fV k0 p).nums.map V.int) ((fV k0 p).ins.map V.str) ((fV k0 p).outs.map V.str):=by
  rw [ek.1,ek.2.1,ek.2.2.1,ek.2.2.2]
  exact P2
 refine⟨u,fV k0 p,rfl,P2,fun x a1 a2 a3 nx t1 t2 t3=>?_⟩
 have sx:=aB (o:=.tup [.str (cg (fV k0 p).kind),.str (fV k0 p).name,.ref a1,.ref a2,.ref a3]) nx
 exact k _ x (s1.trans (s2.trans sx)) ⟨x,a1,a2,a3,rfl,aq,sx.seqT t1,sx.seqT t2,sx.seqT t3⟩
noncomputable def Kq (g:Str->Nat) (l:aH):aH:=⟨l.name,l.room,l.first.drop (g l.name)⟩
theorem yR.same {H H':Hp} {v:V} {l:aH} (h:yR K H v l) (s:aQ H H'):yR K H' v l:=by
 obtain⟨q,f,e,h1,h2⟩:=h
 exact⟨q,f,e,s _ _ h1,s.seqA h2⟩
inductive uY (K:PySem.W.Frag) (t:lA) (vs:List V) (H:Hp) (Q:VK) (E_:XK):Prop where
 | mk:∀(r f n E G Kp D Rw:Addr) (ls le:List aH) (ps:List PD) (g:Str->Nat) (k0:Str->Int) (EL:List (aH×Addr)) (RL:List (Key×V)),vs=[.ref r]->yQ t H r n f->jt K t H n ls ps->kI K t H f n le ps g k0 E G Kp D Rw EL RL->(le.map (fun l=>(l.name,l.room))=ls.map (fun l=>(l.name,l.room)))->xZ (le.map (Kq g)) (ps.map (fV k0))->(∀H' n',aQ H H'->jt K t H' n' (le.map (Kq g)) (ps.map (fV k0))->Q (.ref n') H')->uY K t vs H Q E_
theorem Dk (T:Txt w K mg t):FO P w K mg base 8 t.rB ["self"] (uY K t):=by
 have sc:=T.qT.sc ["self", "names", "lanes"]
 refine T.qT.F.ok sc ln (fun _ _ _ _ H vs Q E hr h=>?_)
 obtain⟨r,f,n,E,G,Kp,D,Rw,ls,le,ps,g,k0,EL,RL,rfl,hR,N,W,hnr,hF,k⟩:=h
 refine⟨_,(au (sN sc 1 (Q5 (aZ (pv 0) rfl) T.bc T.bc.me.2.1 (jZ T) T.ig hr))
  (au (pA (i:=2) [0] ["self", "names", "lanes"] (bx (inClass (top 65) 11)) rfl sc.nd rfl (cz (pv 1)) (fun _ _ _ _ _=>fC) (fun _ _ _ _ _=>(bV (aa (pv 0) (aa (jG (tW (K:=K) rfl (pv 1) rfl) T.bc.c (T.iG.me T.bc.me.2.2.2.2.2.2.1) (uU T) (hr.mono (by decide)) T.iG.b .nil uG (aa (pv 0) ak aj)) (aa (Kc (pv 1) T.dz T.dz.me.2.2.1 (Ca T) T.pF hr (aa (pv 0) ak aj)) ak aX) aX) aj))))
  (aA (aN (gJ (T.bc.M T.gQ) (uh T) (hr.mono (by decide)) (by rfl) T.bc.m T.gQ.b .nil fj (aa (pv 2) (aa (fD [0] ["self", "names", "lanes"] (bx (inClass (top 65) 11)) rfl (cz (Q5 (aZ (pv 0) rfl) T.bc T.bc.me.2.2.1 (kJ T) T.gP hr)) (fun _ _ _ _ _=>fC) (fun _ _ _ _ _=>(Kc (pv 1) T.dz T.dz.me.2.2.2.1 (Cg T) T.pq hr (aa (pv 0) ak aj)))) ak dU) aj)))))),?_⟩
 have hz:sizeLine=16777216:=sizeLine_eq
 obtain⟨dxn,fsn,R,F0,Pd,Gn,Tk,FL,PL,Wn⟩:=id N
 have F:=Wn.fit
 have l24:=F.l24
 have p16:=F.p16
 have hn:le.map (·.name)=ls.map (·.name):=by
  have:=congrArg (List.map Prod.fst) hnr
  rwa [List.map_map,List.map_map] at this
 have ll:le.length=ls.length:=by have:=congrArg List.length hn;rwa [lM,lM] at this
 obtain⟨dxr,fsr,R0⟩:=id hR
 refine⟨_,rfl,r,_,dxr,fsr,_,rfl,R0.1,T.dz.c,T.dz.na.1,R0.2.has ("net",.ref n) (by simp),n,dxn,fsn,rfl,Wn.obj,Wn.fl.no _ (by decide +kernel),n,ls,ps,rfl,N,fun Ln nLn=>?_⟩
 have t1:=aB (o:=.lst (ls.map fun x:aH=>V.str x.name)) nLn
 have eLn:upd H Ln (.lst (ls.map fun x:aH=>V.str x.name)) Ln=some (.lst (le.map fun x:aH=>V.str x.name)):=by
  have:(ls.map fun x:aH=>V.str x.name)=le.map fun x:aH=>V.str x.name:=by
   have:=congrArg (List.map V.str) hn
   rw [List.map_map,List.map_map] at this
   exact this.symm
  rw [<-this]
  exact aq
 generalize upd H Ln (.lst (ls.map fun x:aH=>V.str x.name))=H1 at t1 eLn ⊢
 refine⟨_,rfl,Ln,rfl,⟨_,bR.of eLn⟩,?_⟩
 refine fY (K:=K) (a:=Ln) (xs:=le.map fun x:aH=>V.str x.name) (fun j zs H'=>aQ H1 H'/\zs.length<=j/\gY (yR K H') zs ((le.take j).map (Kq g))) (by rw [lM];omega) ⟨aQ.refl _,Nat.le_refl _,.nil⟩ (fun j zs H' h=>h.2.1) (fun j zs H' _ h=>h.1.seq (bR.of eLn)) ?_ ?_
 ·rintro j x zs H' hx ⟨s,hl',hA⟩
  rw [List.getElem?_map] at hx
  obtain⟨l,hlj,rfl⟩:=Option.map_eq_some_iff.mp hx
  have hm:=List.mem_of_getElem? hlj
  have s2:=t1.trans s
  obtain⟨dxn,fsn,R,F0,Pd,Gn,Tk,FL,PL,Wn2⟩:=N.same s2
  obtain⟨dxr,fsr,R2⟩:=hR.same s2
  obtain⟨lo,hlo,hlr⟩:∃lo∈ls,lo.name=l.name/\lo.room=l.room:=by
   have:(l.name,l.room)∈ls.map (fun l:aH=>(l.name,l.room)):=by rw [<-hnr];exact List.mem_map.mpr ⟨l,hm,rfl⟩
   obtain⟨lo,h1,h2⟩:=List.mem_map.mp this
   exact⟨lo,h1,by injection h2,by injection h2⟩
  refine yes ⟨_,rfl,_,rfl,r,_,dxr,fsr,_,rfl,R2.1,T.dz.c,T.dz.na.1,R2.2.has ("net",.ref n) (by simp),n,dxn,fsn,rfl,Wn2.obj,Wn2.fl.no _ (by decide +kernel),_,rfl,n,ls,ps,l.name,rfl,Wn2.s,.inl ⟨lo,hlo,hlr.1,fun H3 s3=>?_⟩⟩
  rw [hlr.2]
  have s03:=s2.trans s3
  obtain⟨dxr3,fsr3,R3a,R3b⟩:=hR.same s03
  refine⟨_,rfl,r,dxr3,fsr3,rfl,R3a,R3b.no _ (by decide +kernel),_,rfl,r,f,n,E,G,Kp,D,Rw,ls,le,ps,g,k0,EL,RL,l,rfl,hR.same s03,N.same s03,W.same s03,hn,hm,fun H4 p s4 np ep=>⟨gw,fun u nu=>?_⟩⟩
  have su:=aB (o:=.tup [.str l.name,.int l.room,.ref p]) nu
  have sz:=s3.trans (s4.trans su)
  refine⟨s.trans sz,by rw [lP,List.length_singleton];omega,?_⟩
  rw [List.take_succ,hlj,Option.toList_some,List.map_append,List.map_singleton]
  exact(hA.imp fun _ _ h=>yR.same h sz).app (.cons ⟨u,p,rfl,aq,.inl (bR.of (su _ _ ep))⟩ .nil)
 rintro zs H2 ⟨s2,hl',hA⟩ L nL
 rw [lM,List.take_length] at hA
 have t3:=aB (o:=.lst zs) nL
 have eL:upd H2 L (.lst zs) L=some (.lst zs):=aq
 have hA3:=hA.imp fun _ _ h=>yR.same h t3
 have s3:=t1.trans (s2.trans t3)
 generalize upd H2 L (.lst zs)=H3 at t3 eL hA3 s3 ⊢
 obtain⟨dxn3,fsn3,R3,F3,Pd3,Gn3,Tk3,FL3,PL3,Wn3⟩:=N.same s3
 obtain⟨dxr,fsr,R4⟩:=hR.same s3
 refine⟨_,rfl,_,rfl,r,_,dxr,fsr,_,rfl,R4.1,T.dz.c,T.dz.na.1,R4.2.has ("net",.ref n) (by simp),n,dxn3,fsn3,rfl,Wn3.obj,Wn3.fl.no _ (by decide +kernel),n,ls,ps,rfl,Wn3.s,fun Pn nPn=>?_⟩
 have t4:=aB (o:=.lst (ps.map fun x:PD=>V.str x.name)) nPn
 have ePn:upd H3 Pn (.lst (ps.map fun x:PD=>V.str x.name)) Pn=some (.lst (ps.map fun x:PD=>V.str x.name)):=aq
 generalize upd H3 Pn (.lst (ps.map fun x:PD=>V.str x.name))=H4 at t4 ePn ⊢
 refine⟨Pn,rfl,⟨_,bR.of ePn⟩,?_⟩
 refine fY (K:=K) (a:=Pn) (xs:=ps.map fun x:PD=>V.str x.name) (fun j ws H'=>aQ H4 H'/\ws.length<=j/\gY (BP K H') ws ((ps.take j).map (fV k0))) (by rw [lM];omega) ⟨aQ.refl _,Nat.le_refl _,.nil⟩ (fun j zs H' h=>h.2.1) (fun j zs H' _ h=>h.1.seq (bR.of ePn)) ?_ ?_
 ·rintro j x ws H' hx ⟨s,hw,hB⟩
  rw [List.getElem?_map] at hx
  obtain⟨p,hpj,rfl⟩:=Option.map_eq_some_iff.mp hx
  have s5:=s3.trans (t4.trans s)
  obtain⟨dxr5,fsr5,R5a,R5b⟩:=hR.same s5
  refine yes ⟨_,rfl,r,dxr5,fsr5,rfl,R5a,R5b.no _ (by decide +kernel),_,rfl,r,f,n,E,G,Kp,D,Rw,ls,le,ps,g,k0,EL,RL,p,rfl,hR.same s5,N.same s5,W.same s5,List.mem_of_getElem? hpj,fun H6 u s6 hu=>?_⟩
  refine⟨s.trans s6,by rw [lP,List.length_singleton];omega,?_⟩
  rw [List.take_succ,hpj,Option.toList_some,List.map_append,List.map_singleton]
  exact(hB.imp fun _ _ h=>h.same s6).app (.cons hu .nil)
 rintro ws H5 ⟨s5,hw,hB⟩ P' nP
 rw [lM,List.take_length] at hB
 have t6:=aB (o:=.lst ws) nP
 have eP:upd H5 P' (.lst ws) P'=some (.lst ws):=aq
 have hB6:=hB.imp fun _ _ h=>BP.same h t6
 have s46:=t4.trans (s5.trans t6)
 generalize upd H5 P' (.lst ws)=H6 at t6 eP hB6 s46 ⊢
 refine fun n' dxn' nn ndn nen=>?_
 have g4:aQ H6 (upd (upd H6 dxn' (.own n')) n' (.ins t.dY dxn' [])):=fun b o e=>by rw [aG (aC e nn),aG (aC e ndn)];exact e
 have hH:Hand K (upd (upd H6 dxn' (.own n')) n' (.ins t.dY dxn' [])) L P' (le.map (Kq g)) (ps.map (fV k0)):=by
  refine⟨⟨_,bR.of (g4 _ _ (s46 _ _ eL)),hA3.imp fun _ _ h=>yR.same h (s46.trans g4)⟩,⟨_,bR.of (g4 _ _ eP),hB6.imp fun _ _ h=>?_⟩⟩
  obtain⟨q,a1,a2,a3,e,h1,h2,h3,h4⟩:=h
  exact⟨q,a1,a2,a3,e,g4 _ _ h1,.inr (g4.seqT h2),.inr (g4.seqT h3),.inr (g4.seqT h4)⟩
 refine⟨n',dxn',L,P',_,_,rfl,aq,hH,hF,fun H7 b7 N7=>⟨rfl,k H7 n' ?_ N7⟩⟩
 exact(s3.trans s46).trans fun b o e=>b7 b o (aC e nn) (g4 b o e)
noncomputable def qm (xs:List Str) (q:Nat):Str:=(xs[q]?).getD Str.empty
noncomputable def zx (ls:List aH) (p:PD):List Str:=(places p.kind (bh ls p)).map (qm p.ins)
noncomputable def lD (ls:List aH) (p:PD):List (Str×Int):=(dj p.kind p.nums (cQ ls p) (dw p)).map fun pv=>(qm p.outs pv.1.toNat,pv.2)
theorem Wo (ls:List aH) (p:PD):(places p.kind (bh ls p)).map (nameAt p.ins)=(zx ls p).map V.str:=by
 unfold zx
 rw [List.map_map]
 rfl
theorem Sy (ls:List aH) (p:PD):((dj p.kind p.nums (cQ ls p) (dw p)).map fun pv=>[nameAt p.outs pv.1.toNat,V.int pv.2])=(lD ls p).map fun q=>[V.str q.1,V.int q.2]:=by
 unfold lD
 rw [List.map_map]
 rfl
theorem rY {ps:List PD} (nd:(ps.map (·.name)).Nodup) {p:PD} (hp:p∈ps):fu ps p.name=dw p:=by
 unfold fu dw
 rw [find_name nd hp]
 rfl
theorem RD {ls:List aH} {ps:List PD} (F:xZ ls ps) {p:PD} (hp:p∈ps) (h2:2<=p.kind):∀q∈lD ls p,q.1∈p.outs:=fun q hq=>by
 obtain⟨pv,hpv,rfl⟩:=List.mem_map.mp hq
 obtain⟨o,ho1,ho2⟩:=sO h2 (F.pok p hp).1 p.nums (cQ ls p) (dw p) pv hpv
 have ho3:o <p.outs.length:=by rw [(F.pok p hp).2.2.2.1];exact ho2
 show qm p.outs pv.1.toNat∈p.outs
 rw [ho1,Int.toNat_natCast]
 unfold qm
 rw [List.getElem?_eq_getElem ho3]
 exact List.getElem_mem ho3
theorem KR {ls:List aH} {ps:List PD} (F:xZ ls ps) {p:PD} (hp:p∈ps) (h2:2<=p.kind):∀q∈lD ls p,q.1∈ls.map (·.name):=fun q hq=>F.whole.outs.mem_iff.mp (List.mem_flatMap.mpr ⟨p,hp,RD F hp h2 q hq⟩)
noncomputable def km (ls:List aH) (p:PD):Option (Str×Str):=match dM p.kind p.ins (bh ls p) with
 | .str x=>some (x, "value")
 | _=>match mQ ls (lD ls p) with
  | .str x=>some (x, "room")
  | _=>none
theorem Jf (i:Nat) (xs:List Str) (hs:List V):dM i xs hs=.non∨∃x,dM i xs hs=.str x:=by
 unfold dM
 split
 ·rename_i q _
  cases xs[q]? with
  | none=>exact .inl rfl
  | some x=>exact .inr ⟨x,rfl⟩
 ·exact .inl rfl
theorem IK (ls:List aH) (gv:List (Str×Int)):mQ ls gv=.non∨∃x,mQ ls gv=.str x:=by
 unfold mQ
 split
 ·exact .inr ⟨_,rfl⟩
 ·exact .inl rfl
inductive El (K:PySem.W.Frag) (t:lA) (vs:List V) (H:Hp) (Q:VK) (E_:XK):Prop where
 | mk:∀(r f n E G Kp D Rw:Addr) (ls:List aH) (ps:List PD) (EL:List (aH×Addr)) (RL:List (Key×V)) (p:PD),vs=[.ref r,.str p.name]->yQ t H r n f->jt K t H n ls ps->(kI K t H f n ls ps (fun _=>0) (fu ps) E G Kp D Rw EL RL)->p∈ps->2<=p.kind->((km ls p=none->∀H',aQ H H'->Q .non H'))->((∀x y,km ls p=some (x,y)->∀H' u,aQ H H'->H' u=some (.tup [.str p.name,.str x,.str y])->Q (.ref u) H'))->El K t vs H Q E_
theorem Li (T:Txt w K mg t):FO P w K mg base 6 t.Gk ["run", "name"] (El K t):=by
 have sc:=T.zL.sc ["run", "name", "lane"]
 refine T.zL.F.ok sc ln (fun _ _ _ _ H vs Q E hr h=>?_)
 obtain⟨r,f,n,E,G,Kp,D,Rw,ls,ps,EL,RL,p,rfl,hR,N,W,hp,hk2,kN,kS⟩:=h
 refine⟨_,(au (sN sc 2 (Kc (aZ (pv 0) rfl) T.aY T.aY.me.2.2.2.2.2.2.1 (ul T) T.kh hr (aa (pv 1) ak aj)))
  (au (bU (iH (Ck (pv 2)))
   (aA (aN (bV (aa (pv 1) (aa (pv 2) (aa bF ak ao) aj) aj))))
   bu)
  (au (bU (jL (Kc (aZ (pv 0) rfl) T.aY T.aY.me.2.2.2.2.1 (qG T) T.jy hr (aa (pv 1) ak aj)))
   (aA (aN (bV (aa (pv 1) (aa bF (aa bF ak ao) ao) aj))))
   bu)
  (au (sN sc 2 (Kc (pv 0) T.dz T.dz.me.2.1 (zG T) T.nj hr (aa (Kc (aZ (pv 0) rfl) T.aY T.aY.me.2.2.2.2.2.2.2.1 (yp T) T.qe hr (aa (pv 1) ak aj)) ak aX)))
  (aA (aN (yN (iH (xO (pv 2))) pC (bV (aa (pv 1) (aa (pv 2) (aa bF ak ao) aj) aj))))))))),?_⟩
 have hz:sizeLine=16777216:=sizeLine_eq
 have F:xZ ls ps:=by obtain⟨_,_,_,_,_,_,_,_,_,Wn⟩:=N;exact Wn.fit
 obtain⟨dxr,fsr,R0⟩:=id hR
 obtain⟨dx,fs,h1,h2⟩:=id W.at'.ex
 refine⟨_,rfl,r,_,dxr,fsr,_,rfl,R0.1,T.dz.c,T.dz.na.2.1,R0.2.has ("flow",.ref f) (by simp),f,dx,fs,rfl,h1,h2.no _ (by decide +kernel),_,rfl,f,n,E,G,Kp,D,Rw,ls,ps,_,EL,RL,p,rfl,N,W,hp,fun H1 s1=>?_⟩
 rcases Jf p.kind p.ins (bh ls p) with hlk | ⟨x,hlk⟩
 rotate_left
 ·have e:km ls p=some (x,("value" :Str)):=by unfold km;rw [hlk]
  rw [hlk]
  refine⟨_,rfl,_,rfl,lE ⟨_,rfl,_,rfl,gw,fun u nu=>kS _ _ e _ u (s1.trans (aB nu)) aq⟩⟩
 rw [hlk]
 refine⟨_,rfl,_,rfl,fc ?_⟩
 obtain⟨dxr,fsr,R1⟩:=hR.same s1
 have W1:=W.same s1
 obtain⟨dx1,fs1,g1,g2⟩:=id W1.at'.ex
 obtain⟨dn,hdn⟩:=W1.done
 refine⟨_,rfl,r,_,dxr,fsr,_,rfl,R1.1,T.dz.c,T.dz.na.2.1,R1.2.has ("flow",.ref f) (by simp),f,dx1,fs1,rfl,g1,g2.no _ (by decide +kernel),_,rfl,?_⟩
 refine VF W1.at' W1.rows hdn (.inl ⟨W.rno p hp (by omega),?_⟩)
 refine⟨_,rfl,fc ?_⟩
 refine⟨_,rfl,r,dxr,fsr,rfl,R1.1,R1.2.no _ (by decide +kernel),_,rfl,r,_,dxr,fsr,_,rfl,R1.1,T.dz.c,T.dz.na.2.1,R1.2.has ("flow",.ref f) (by simp),f,dx1,fs1,rfl,g1,g2.no _ (by decide +kernel),_,rfl,?_⟩
 unfold j9
 refine⟨f,n,E,G,Kp,D,Rw,ls,ps,_,EL,RL,p,rfl,N.same s1,W1,hp,hk2,hlk,fun H2 U La Lg rs s2 _ _ eU eLa eLg tU=>?_⟩
 rw [rY F.pnd hp,Sy] at tU
 have s12:=s1.trans s2
 refine⟨r,f,n,E,G,Kp,D,Rw,U,La,Lg,ls,ps,_,EL,RL,lD ls p,rs,_,rfl,hR.same s12,N.same s12,W.same s12,eU,eLg,tU,KR F hp hk2,fun H3 s3=>?_⟩
 have s13:=s12.trans s3
 rcases IK ls (lD ls p) with hfl | ⟨x,hfl⟩
 ·have e:km ls p=none:=by unfold km;rw [hlk,hfl]
  rw [hfl]
  exact⟨_,rfl,_,rfl,lE (kN e _ s13)⟩
 ·have e:km ls p=some (x,("room" :Str)):=by unfold km;rw [hlk,hfl]
  rw [hfl]
  exact⟨_,rfl,_,rfl,fc ⟨_,rfl,_,rfl,gw,fun u nu=>kS _ _ e _ u (s13.trans (aB nu)) aq⟩⟩
inductive ut (K:PySem.W.Frag) (t:lA) (vs:List V) (H:Hp) (Q:VK) (E:XK):Prop where
 | mk:∀v:V,vs=[v]->(((v=.non/\Q .non H)∨∃(u:Addr) (a x y:Str),v=.ref u/\H u=some (.tup [.str a,.str x,.str y])/\((y= "value" /\∀dx H',aQ H H'->H' dx=some (.xd [("lane",.str x)])->E (.ref t.jo) (some dx) H')∨(y= "room" /\∀dx H',aQ H H'->H' dx=some (.xd [("lane",.str x)])->E (.ref t.jC) (some dx) H'))))->ut K t vs H Q E
theorem Cd (T:Txt w K mg t):gH P w K mg base (zy P w) 3 t.pG (fdOf K t.pG) ["wait"] (ut K t):=by
 have sc:=T.iY.sc ["wait"]
 refine T.iY.F.ok2 sc ln (fun _ _ _ _ H vs Q E hr h=>?_)
 obtain⟨v,rfl,h⟩:=h
 refine⟨_,(au (bU (PW.pt (zN (iH (Ck (pv 0))) (yj (bz fQ (aU dH (pv 0) az (fun _ _=>rfl)) bF (bT _)))))
   (aA (rF T.Nf (yK T) (hr.mono (by decide)) (by rfl) T.Ke T.lF.b fj (aa (aU dH (pv 0) az (fun _ _=>rfl)) ak aD)))
   bu)
  (aA (bU (iH (Ck (pv 0)))
   (aA (rF T.Qz (zZ T) (hr.mono (by decide)) (by rfl) T.Ny T.mX.b fj (aa (aU dH (pv 0) az (fun _ _=>rfl)) ak aD)))
   bu))),?_⟩
 rcases h with ⟨rfl,k⟩ | ⟨u,a,x,y,rfl,hu,h⟩
 ·exact⟨_,rfl,_,rfl,fc ⟨_,rfl,_,rfl,fc k⟩⟩
 refine⟨_,rfl,_,rfl,lE ⟨_,rfl,u,_,2,_,rfl,rfl,fG.of hu,aK (j:=2) rfl,rfl,_,rfl,?_⟩⟩
 rcases h with ⟨rfl,kE⟩ | ⟨rfl,kE⟩
 ·refine m5 rfl ?_
  refine⟨_,rfl,u,_,1,_,rfl,rfl,fG.of hu,aK (j:=1) rfl,?_⟩
  refine⟨by show 1<=1000;decide,fun y ny n0=>⟨y,_,rfl,aq,fun dx' nd ne=>⟨rfl,y,dx',rfl,n0,by rw [aG ne.symm];exact aq,?_⟩⟩⟩
  have rz:=raised (fs:=[(("lane" :Str),V.str x)]) ny nd ne
  exact kE dx' _ rz.1 rz.2
 ·refine bZ (by intro z;exact absurd (V.str.inj z) (by decide +kernel)) ?_
  refine⟨_,rfl,_,rfl,lE ?_⟩
  refine⟨_,rfl,u,_,1,_,rfl,rfl,fG.of hu,aK (j:=1) rfl,?_⟩
  refine⟨by show 1<=1000;decide,fun y ny n0=>⟨y,_,rfl,aq,fun dx' nd ne=>⟨rfl,y,dx',rfl,n0,by rw [aG ne.symm];exact aq,?_⟩⟩⟩
  have rz:=raised (fs:=[(("lane" :Str),V.str x)]) ny nd ne
  exact kE dx' _ rz.1 rz.2
noncomputable def ww (ls:List aH) (p:PD):Option (Nat×Str):=if p.kind <2 then some (1,p.name) else match km ls p with
 | some (x,y)=>some (if y= "value" then 2 else 3,x)
 | none=>none
noncomputable def Yv (t:lA):Nat->Addr
 | 0=>t.eY
 | 1=>t.iC
 | 2=>t.jo
 | _=>t.jC
noncomputable def Yh:Nat->Str
 | 0=> "name"
 | 1=> "name"
 | _=> "lane"
noncomputable def iM (ls:List aH) (ps:List PD) (p:PD) (x:Str):Int:=if x=p.name then iR p.kind (cQ ls p) (dw p) else fu ps x
noncomputable def fW (ls:List aH) (p:PD):List aH:=(ls.map (jl (lD ls p))).map (Kq fun x=>if x∈zx ls p then 1 else 0)
noncomputable def jV (ls:List aH) (ps:List PD) (p:PD):List PD:=ps.map (fV (iM ls ps p))
theorem RV {ls:List aH} {p:PD} {x y:Str} (h:km ls p=some (x,y)):y= "value" ∨y= "room" :=by
 unfold km at h
 split at h
 ·cases h;exact .inl rfl
 ·split at h
  ·cases h;exact .inr rfl
  ·cases h
theorem zV {ls:List aH} {p:PD} (hw:km ls p=none):dM p.kind p.ins (bh ls p)=.non/\mQ ls (lD ls p)=.non:=by
 unfold km at hw
 split at hw
 ·cases hw
 ·rename_i h1
  rcases Jf p.kind p.ins (bh ls p) with h | ⟨x,h⟩
  ·refine⟨h,?_⟩
   split at hw
   ·cases hw
   ·rename_i h3
    rcases IK ls (lD ls p) with h4 | ⟨x,h4⟩
    ·exact h4
    ·exact absurd h4 (h3 x)
  ·exact absurd h (h1 x)
theorem PN {i:Nat} {hs:List V}:(places i hs).Nodup:=by
 unfold places
 split
 ·split
  ·rename_i n _
   have h0:=Int.emod_nonneg n (show(2:Int)≠0 by decide)
   simp
   omega
  ·simp
 ·exact List.nodup_range
theorem M5 {xs:List Str} (nd:xs.Nodup) {l:List Nat} (hl:l.Nodup) (h:∀q∈l,q <xs.length):(l.map (qm xs)).Nodup:=by
 unfold List.Nodup at hl ⊢
 rw [List.pairwise_map]
 refine hl.imp_of_mem fun {a b} ha hb hne e=>hne ?_
 unfold qm at e
 rw [List.getElem?_eq_getElem (h a ha),List.getElem?_eq_getElem (h b hb)] at e
 exact(List.getElem_inj nd).mp e
theorem MK {f:PD->List Str} {ps:List PD} (nd:(ps.flatMap f).Nodup) {p:PD} (hp:p∈ps):(f p).Nodup:=by
 obtain⟨j,hj,e⟩:=List.mem_iff_getElem.mp hp
 exact(HQ nd (by rw [List.getElem?_eq_getElem hj,e])).1
theorem Rp {ls:List aH} {ps:List PD} (F:xZ ls ps) {p:PD} (hp:p∈ps):(zx ls p).Nodup/\∀x∈zx ls p,x∈ls.map (·.name):=by
 have hlt:∀q∈places p.kind (bh ls p),q <p.ins.length:=fun q hq=>by
  have:=gU (pJ ls p (F.pok p hp)) q hq
  unfold bh at this
  rwa [lM] at this
 refine⟨M5 (MK (F.whole.ins.nodup_iff.mpr F.whole.nod) hp) PN hlt,fun x hx=>?_⟩
 obtain⟨q,hq,rfl⟩:=List.mem_map.mp hx
 have h:=hlt q hq
 refine F.whole.ins.mem_iff.mp (List.mem_flatMap.mpr ⟨p,hp,?_⟩)
 unfold qm
 rw [List.getElem?_eq_getElem h]
 exact List.getElem_mem h
theorem V4 {ws:List Int} (h:WD ws):0<=g0 ws/\g0 ws <1000000000:=by
 unfold g0
 match ws,h with
 | [],_=>exact⟨by decide,by decide⟩
 | w:: r,h=>exact h w List.mem_cons_self
theorem V6 {ws:List Int} (h:WD ws):0<=g1 ws/\g1 ws <1000000000:=by
 unfold g1
 match ws,h with
 | [],_=>exact⟨by decide,by decide⟩
 | [w],_=>exact⟨Int.le_refl 0,by show(0:Int) <1000000000;decide⟩
 | w:: v:: r,h=>exact h v (by simp)
theorem Cp (n:Int):0<=n % 1000000000/\n % 1000000000 <1000000000:=⟨Int.emod_nonneg _ (by decide),Int.emod_lt_of_pos _ (by decide)⟩
theorem Qx {i:Nat} (h2:2<=i) (hi:i <11) (ns:List Int) {ws:List Int} (kp:Int) (h:WD ws):((dj i ns ws kp).map (·.1)).Nodup/\∀pv∈dj i ns ws kp,0<=pv.2/\pv.2 <1000000000:=by
 have a0:=V4 h
 have a1:=V6 h
 match i,h2,hi with
 | 2,_,_=>simp [dj];exact a0
 | 3,_,_=>simp [dj];exact a0
 | 4,_,_=>simp [dj];exact Cp _
 | 5,_,_=>simp [dj];exact Cp _
 | 6,_,_=>simp [dj];exact Cp _
 | 7,_,_=>simp [dj];split <;> decide
 | 8,_,_=>simp [dj];constructor <;> split <;> omega
 | 9,_,_=>simp [dj];exact a1
 | 10,_,_=>simp [dj];exact a1
theorem pB (k:Str->Int) (p:PD):(fV k p).kind=p.kind/\(fV k p).name=p.name/\(fV k p).ins=p.ins/\(fV k p).outs=p.outs:=by
 unfold fV
 split <;> exact⟨rfl,rfl,rfl,rfl⟩
theorem O3 (k:Str->Int) (ps:List PD):(ps.map (fV k)).map (·.name)=ps.map (·.name):=by
 rw [List.map_map]
 exact List.map_congr_left fun p _=>(pB k p).2.1
theorem Kd (k:Str->Int) (ps:List PD):(ps.map (fV k)).flatMap (·.ins)=ps.flatMap (·.ins)/\(ps.map (fV k)).flatMap (·.outs)=ps.flatMap (·.outs):=by
 induction ps with
 | nil=>exact⟨rfl,rfl⟩
 | cons p r ih=>
  obtain⟨_,_,h3,h4⟩:=pB k p
  rw [List.map_cons,List.flatMap_cons,List.flatMap_cons,List.flatMap_cons,List.flatMap_cons,ih.1,ih.2,h3,h4]
  exact⟨rfl,rfl⟩
theorem QT {k:Str->Int} {ps:List PD} {a b:Str} (c:Drawn.jr ps a b):Drawn.jr (ps.map (fV k)) a b:=by
 induction c with
 | refl x=>exact .refl _
 | step hp h1 h2 _ ih=>
  rename_i p0 _
  obtain⟨_,_,h3,h4⟩:=pB k p0
  exact .step (List.mem_map.mpr ⟨_,hp,rfl⟩) (by rw [h3,h4];exact h1) (by rw [h3,h4];exact h2) ih
theorem xZ.ahead {ls:List aH} {ps:List PD} (F:xZ ls ps) {p:PD} (hp:p∈ps) (h2:2<=p.kind) (hw:km ls p=none):xZ (fW ls p) (jV ls ps p):=by
 obtain⟨hlk,hfl⟩:dM p.kind p.ins (bh ls p)=.non/\mQ ls (lD ls p)=.non:=zV hw
 obtain⟨_,hB,_⟩:=Cy F hp h2 hlk
 have ok:=F.pok p hp
 obtain⟨w1,w2⟩:=Qx h2 ok.1 p.nums (dw p) hB
 have nm:(fW ls p).map (·.name)=ls.map (·.name):=by
  unfold fW
  rw [List.map_map,List.map_map]
  rfl
 have gnd:((lD ls p).map (·.1)).Nodup:=by
  have e:(lD ls p).map (·.1)=((dj p.kind p.nums (cQ ls p) (dw p)).map fun pv=>pv.1.toNat).map (qm p.outs):=by unfold lD;rw [List.map_map,List.map_map];rfl
  rw [e]
  refine M5 (MK (F.whole.outs.nodup_iff.mpr F.whole.nod) hp) ?_ fun q hq=>?_
  ·unfold List.Nodup at w1 ⊢
   rw [List.pairwise_map] at w1 ⊢
   refine w1.imp_of_mem fun {x y} hx hy hne e=>hne ?_
   obtain⟨o1,e1,_⟩:=sO h2 ok.1 p.nums (cQ ls p) (dw p) x hx
   obtain⟨o2,e2,_⟩:=sO h2 ok.1 p.nums (cQ ls p) (dw p) y hy
   rw [e1,e2] at e ⊢
   simp at e
   rw [e]
  ·obtain⟨x,hx,rfl⟩:=List.mem_map.mp hq
   obtain⟨o1,e1,l1⟩:=sO h2 ok.1 p.nums (cQ ls p) (dw p) x hx
   rw [e1,Int.toNat_natCast,ok.2.2.2.1]
   exact l1
 have gbd:∀q∈lD ls p,0<=q.2/\q.2 <1000000000:=fun q hq=>by
  obtain⟨x,hx,rfl⟩:=List.mem_map.mp hq
  exact w2 x hx
 have nof:∀q∈lD ls p,um ls q=false:=fun q hq=>by
  unfold mQ at hfl
  split at hfl
  ·cases hfl
  ·rename_i h
   simpa using List.find?_eq_none.mp h q hq
 have sb:∀x,0<=iM ls ps p x/\iM ls ps p x <1000000000∨x∉ps.map (·.name):=fun x=>by
  by_cases hx:x∈ps.map (·.name)
  ·left
   obtain⟨q,hq,rfl⟩:=List.mem_map.mp hx
   have st:∀q∈ps,0<=dw q/\dw q <1000000000:=fun q hq=>by
    unfold dw
    split
    ·have:=(F.pok q hq).2.2.2.2
     cases e:q.nums with
     | nil=>exact⟨by decide,by decide⟩
     | cons m r=>exact this m (by rw [e];exact List.mem_cons_self)
    ·exact⟨by decide,by decide⟩
   unfold iM
   split
   ·unfold iR
    split
    ·exact Cp _
    ·exact st p hp
   ·rw [rY F.pnd hq]
    exact st q hq
  ·exact .inr hx
 refine⟨fun l hl=>?_,fun q hq=>?_,fun l hl=>?_,fun q hq=>?_,?_,?_,?_,?_,?_,?_⟩
 ·unfold fW at hl
  rw [List.map_map] at hl
  obtain⟨l0,hl0,rfl⟩:=List.mem_map.mp hl
  obtain⟨r1,r2,r3,r4⟩:=F.lok l0 hl0
  have len:(((lD ls p).filter fun q=>decide (q.1=l0.name)).map (·.2)).length<=1/\((((lD ls p).filter fun q=>decide (q.1=l0.name)).map (·.2)).length=1->l0.first.length <l0.room):=by
   rw [lM]
   cases hf:(lD ls p).filter fun q=>decide (q.1=l0.name) with
   | nil=>exact⟨by decide,by intro z;cases z⟩
   | cons q r=>
    have hq:=List.mem_filter.mp (show q∈(lD ls p).filter fun q=>decide (q.1=l0.name) by rw [hf];exact List.mem_cons_self)
    have hqn:q.1=l0.name:=of_decide_eq_true hq.2
    cases r with
    | nil=>
     refine⟨Nat.le_refl 1,fun _=>?_⟩
     have:=nof q hq.1
     unfold um at this
     rw [hqn,DQ F.whole.nod hl0,pK F.whole.nod hl0] at this
     have:=of_decide_eq_false this
     omega
    | cons q2 r2=>
     have hq2:=List.mem_filter.mp (show q2∈(lD ls p).filter fun q=>decide (q.1=l0.name) by rw [hf];simp)
     have hs:(q:: q2:: r2).Sublist (lD ls p):=by rw [<-hf];exact List.filter_sublist
     have:=gnd.sublist (hs.map (·.1))
     rw [List.map_cons,List.map_cons,List.nodup_cons] at this
     exact absurd (by rw [hqn,<-of_decide_eq_true hq2.2];exact List.mem_cons_self) this.1
  refine⟨r1,r2,?_,fun v hv=>?_⟩
  ·show(((l0.first ++ ((lD ls p).filter fun q=>decide (q.1=l0.name)).map (·.2)).drop _).length:Int)<=l0.room
   rw [List.length_drop,lP]
   obtain⟨b1,b2⟩:=len
   by_cases h1:(((lD ls p).filter fun q=>decide (q.1=l0.name)).map (·.2)).length=1
   ·have:=b2 h1
    omega
   ·omega
  ·have hv':=List.mem_of_mem_drop (show v∈(l0.first ++ ((lD ls p).filter fun q=>decide (q.1=l0.name)).map (·.2)).drop _ from hv)
   rcases List.mem_append.mp hv' with h | h
   ·exact r4 v h
   ·obtain⟨q,hq,rfl⟩:=List.mem_map.mp h
    exact gbd q (List.mem_filter.mp hq).1
 ·obtain⟨q0,hq0,rfl⟩:=List.mem_map.mp hq
  obtain⟨o1,o2,o3,o4,o5⟩:=F.pok q0 hq0
  obtain⟨e1,e2,e3,e4⟩:=pB (iM ls ps p) q0
  refine⟨by rw [e1];exact o1,?_,by rw [e1,e3];exact o3,by rw [e1,e4];exact o4,?_⟩
  ·rw [e1]
   unfold fV
   split
   ·rename_i h5;rw [h5];rfl
   ·exact o2
  ·unfold fV
   split
   ·intro v hv
    have:v=iM ls ps p q0.name:=by simpa using hv
    rw [this]
    exact(sb q0.name).resolve_right (fun z=>z (List.mem_map.mpr ⟨q0,hq0,rfl⟩))
   ·exact o5
 ·have:l.name∈ls.map (·.name):=by rw [<-nm];exact List.mem_map.mpr ⟨l,hl,rfl⟩
  obtain⟨l0,hl0,e⟩:=List.mem_map.mp this
  rw [<-e]
  exact F.lnm l0 hl0
 ·obtain⟨q0,hq0,rfl⟩:=List.mem_map.mp hq
  rw [(pB (iM ls ps p) q0).2.1]
  exact F.pnm q0 hq0
 ·unfold jV
  rw [O3]
  exact F.pnd
 ·obtain⟨y,hy⟩:=F.whole.hang
  refine⟨by rw [nm];exact F.whole.nod,by unfold jV;rw [(Kd _ _).2,nm];exact F.whole.outs,by unfold jV;rw [(Kd _ _).1,nm];exact F.whole.ins,y,fun q hq=>?_⟩
  obtain⟨q0,hq0,rfl⟩:=List.mem_map.mp hq
  obtain⟨x,hx,c⟩:=hy q0 hq0
  obtain⟨_,_,e3,e4⟩:=pB (iM ls ps p) q0
  exact⟨x,by rw [e3,e4];exact hx,QT c⟩
 ·unfold fW;rw [lM,lM];exact F.l1
 ·unfold fW;rw [lM,lM];exact F.l24
 ·unfold jV;rw [lM];exact F.p1
 ·unfold jV;rw [lM];exact F.p16
theorem Nq (p:PD) (h:p.kind <11):inV (.str (cg p.kind)) [.str "give",.str "take"]=decide (p.kind <2):=by
 have:∀i,i <11->(decide (cg i= "give") || decide (cg i= "take"))=decide (i <2):=by decide +kernel
 rw [<-this _ h]
 have n1:¬("give" :Str)= "take" :=by decide +kernel
 by_cases h1:cg p.kind= "give"
 ·simp [inV,PK,h1]
 ·by_cases h2:cg p.kind= "take"
  ·simp [inV,PK,h2]
  ·simp [inV,PK,h1,h2,Ne.symm h1,Ne.symm h2]
inductive uo (K:PySem.W.Frag) (t:lA) (vs:List V) (H:Hp) (Q:VK) (E:XK):Prop where
 | mk:∀(n:Addr) (ls:List aH) (ps:List PD) (x:Str),vs=[.ref n,.str x]->jt K t H n ls ps->((x∉ps.map (·.name)->∀dx H',aQ H H'->H' dx=some (.xd [("name",.str x)])->E (.ref t.eY) (some dx) H'))->(∀p∈ps,p.name=x->(∀c y,ww ls p=some (c,y)->∀dx H',aQ H H'->H' dx=some (.xd [(Yh c,.str y)])->E (.ref (Yv t c)) (some dx) H')/\(ww ls p=none->∀H' n',aQ H H'->jt K t H' n' (fW ls p) (jV ls ps p)->Q (.ref n') H'))->uo K t vs H Q E
theorem Ce (T:Txt w K mg t):gH P w K mg base (zy P w) 9 t.pQ (fdOf K t.pQ) ["net", "part"] (uo K t):=by
 have sc:=T.je.sc ["net", "part", "run"]
 refine T.je.F.ok2 sc ln (fun _ _ _ _ H vs Q E hr h=>?_)
 obtain⟨n,ls,ps,x,rfl,N,kN,kP⟩:=h
 refine⟨_,(au (bU (bz Gp (rG (CX:=Bd) (k:=1) (E:=E0) (jG (pv 0) T.bc.c (T.dh.me T.bc.me.2.2.2.2.2.2.2.2.1) (jg T) (hr.mono (by decide)) T.dh.b .nil (M3 fun _ _ _ h=>h) (aa (pv 1) ak aj)) (hr.mono (by decide)) fj) (bV (aa bF (aa bF ak ao) ao)) (by with_unfolding_all rfl))
   (aA (rF T.JF (xU T) (hr.mono (by decide)) (by rfl) T.Gg T.jW.b fj (aa (pv 1) ak aj)))
   bu)
  (au (sN sc 2 (gJ (T.dz.M T.j8) (BX T) (hr.mono (by decide)) (by rfl) T.dz.m T.j8.b .nil fj (aa (pv 0) (aa gh ak Ol) aj)))
  (au (bO (Ob (Cd T) (hr.mono (by decide)) (by rfl) T.iY.m T.iY.F.kp T.iY.b .nil (M3 fun _ _ _ h=>h) (aa (eQ (Li T) T.zL hr (aa (pv 2) (aa (pv 1) ak aj) aj)) ak aX)))
  (au (bO (Kc (aZ (pv 2) rfl) T.aY T.aY.me.2.2.2.2.2.2.2.2.1 (K5 T) T.zA hr (aa (pv 1) (aa (Kc (aZ (pv 2) rfl) T.aY T.aY.me.2.2.2.2.2.2.2.1 (yp T) T.qe hr (aa (pv 1) ak aj)) ak aX) aj)))
  (aA (aN (Q5 (pv 2) T.dz T.dz.me.2.2.2.2.1 (Dk T) T.qT hr))))))),?_⟩
 obtain⟨dx,fs,R,F,Pd,G,Tk,FL,PL,W⟩:=id N
 have hz:sizeLine=16777216:=sizeLine_eq
 have F:=W.fit
 refine⟨_,rfl,n,dx,fs,rfl,W.obj,W.fl.no _ (by decide +kernel),_,rfl,n,ls,ps,x,rfl,N,?_⟩
 by_cases hx:x∉ps.map (·.name)
 ·exact .inr ⟨hx,kN hx⟩
 obtain⟨p,hp,rfl⟩:=List.mem_map.mp (Classical.not_not.mp hx)
 obtain⟨kE,kQ⟩:=kP p hp rfl
 clear kP kN hx
 refine .inl ⟨p,hp,rfl,fun H1 q s1 P1=>?_⟩
 obtain⟨dxp,tn,ti,to,p1,p2,p3,p4⟩:=id P1.ex
 refine⟨q,cls t p.kind,dxp,_,gM p.kind,rfl,p1,mj _ _ _ _ (by decide +kernel) (by decide +kernel) (by decide +kernel) (by decide +kernel),Cj T p.kind,_,rfl,gw,fun u nu=>?_⟩
 have t2:=aB (o:=.tup [.str "give",.str "take"]) nu
 refine⟨u,_,rfl,.inr (fG.of aq),rfl,by simp [rK],_,rfl,?_⟩
 have s2:=s1.trans t2
 generalize upd H1 u (.tup [.str "give",.str "take"])=H2 at t2 s2 ⊢
 rw [Nq p (F.pok p hp).1]
 by_cases hk:p.kind <2
 ·rw [decide_eq_true hk]
  refine lE ?_
  have e:ww ls p=some (1,p.name):=if_pos hk
  refine⟨_,rfl,by show 1<=1000;decide,fun y ny n0=>⟨y,_,rfl,aq,fun dx' nd ne=>⟨rfl,y,dx',rfl,n0,by rw [aG ne.symm];exact aq,?_⟩⟩⟩
  have rz:=raised (fs:=[(("name" :Str),V.str p.name)]) ny nd ne
  exact kE 1 p.name e dx' _ (s2.trans rz.1) rz.2
 rw [decide_eq_false hk]
 refine fc ?_
 have hk2:2<=p.kind:=by omega
 have ed:ww ls p=match km ls p with | some (x,y)=>some (if y= "value" then 2 else 3,x) | none=>none:=if_neg hk
 refine⟨_,rfl,fun rw nrw=>?_⟩
 have t3:=aB (o:=.dK []) nrw
 have erw:upd H2 rw (.dK []) rw=some (.dK []):=aq
 have s3:=s2.trans t3
 generalize upd H2 rw (.dK [])=H3 at t3 erw s3 ⊢
 refine fun r dxr nr ndr ner=>?_
 have s34:aQ H3 (upd (upd H3 dxr (.own r)) r (.ins t.wX dxr [])):=fun b o e=>by rw [aG (aC e nr),aG (aC e ndr)];exact e
 refine⟨H3,r,dxr,n,rw,ls,ps,rfl,aq,s34,nr,N.same s3,erw,fun H5 f E0 G0 Kp D Rw EL RL b5 R5 W5 nod fr=>⟨rfl,?_⟩⟩
 have s35:aQ H3 H5:=fun b o e=>b5 b o (aC e nr) (s34 b o e)
 clear s34 b5
 have s5:=s3.trans s35
 refine⟨_,rfl,_,rfl,r,f,n,E0,G0,Kp,D,Rw,ls,ps,EL,RL,p,rfl,R5,N.same s5,W5,hp,hk2,fun hw H6 s6=>?_,fun x y hw H6 u6 s6 e6=>?_⟩
 rotate_left
 ·rw [hw] at ed
  refine⟨_,rfl,.inr ⟨u6,_,x,y,rfl,e6,?_⟩⟩
  rcases RV hw with rfl | rfl
  ·exact .inl ⟨rfl,fun dx' H' s' e'=>kE 2 x (ed.trans (by simp)) dx' H' ((s5.trans s6).trans s') e'⟩
  ·have nv:¬("room" :Str)= "value" :=by decide +kernel
   exact .inr ⟨rfl,fun dx' H' s' e'=>kE 3 x (ed.trans (by simp [nv])) dx' H' ((s5.trans s6).trans s') e'⟩
 rw [hw] at ed
 refine⟨_,rfl,.inl ⟨rfl,?_⟩⟩
 obtain⟨hlk,hfl⟩:=zV hw
 have W6:=W5.same s6
 have s36:=s35.trans s6
 have s06:=s5.trans s6
 obtain⟨dxr6,fsr6,R6⟩:=R5.same s6
 obtain⟨dxf,fsf,g1,g2⟩:=id W6.at'.ex
 refine⟨_,rfl,r,_,dxr6,fsr6,_,rfl,R6.1,T.dz.c,T.dz.na.2.1,R6.2.has ("flow",.ref f) (by simp),f,dxf,fsf,rfl,g1,g2.no _ (by decide +kernel),_,rfl,_,rfl,r,_,dxr6,fsr6,_,rfl,R6.1,T.dz.c,T.dz.na.2.1,R6.2.has ("flow",.ref f) (by simp),f,dxf,fsf,rfl,g1,g2.no _ (by decide +kernel),_,rfl,?_⟩
 unfold j9
 refine⟨f,n,E0,G0,Kp,D,Rw,ls,ps,_,EL,RL,p,rfl,N.same s06,W6,hp,hk2,hlk,fun H7 U La Lg rs s7 nLa nLg eU eLa eLg tU=>?_⟩
 have s07:=s06.trans s7
 have s37:=s36.trans s7
 rw [rY F.pnd hp] at eU tU
 rw [Sy] at tU
 rw [Wo] at eLa
 have nin:∀{a:Addr},H6 a=none->a∉EL.map (·.2):=fun {a} na hm=>by
  obtain⟨q,hq,rfl⟩:=List.mem_map.mp hm
  rw [W6.lists q hq] at na
  cases na
 obtain⟨tnd,tin⟩:=Rp F hp
 unfold tV
 refine⟨f,n,E0,G0,Kp,D,Rw,ls,ps,_,EL,RL,p,U,La,Lg,zx ls p,lD ls p,rs,_,rfl,N.same s07,W6.same s7,hp,nod,eU,eLa,eLg,tU,nin nLa,nin nLg,tnd,tin,KR F hp hk2,by unfold lD;rw [lM];exact CW _ _ _ _,fun H8 mv W8=>?_⟩
 have s38:aQ H3 H8:=fun b o e=>by
  rw [mv b (fun hm=>?_)]
  ·exact s37 _ _ e
  ·have:b∈E0:: G0:: Kp:: D:: Rw:: EL.map (·.2):=by
    simp only [List.mem_cons] at hm ⊢
    rcases hm with h | h | h | h
    ·exact .inr (.inl h)
    ·exact .inr (.inr (.inl h))
    ·exact .inr (.inr (.inr (.inl h)))
    ·exact .inr (.inr (.inr (.inr (.inr h))))
   have:=(fr b this).1
   rw [this] at e
   cases e
 obtain⟨dxr8,fsr8,R8a,R8b⟩:=R5.same (s6.trans s7)
 have R8c:H8 r=some (.ins t.wX dxr8 fsr8):=by
  rw [mv r (fun hm=>?_)]
  ·exact R8a
  ·have:r∈E0:: G0:: Kp:: D:: Rw:: EL.map (·.2):=by
    simp only [List.mem_cons] at hm ⊢
    rcases hm with h | h | h | h
    ·exact .inr (.inl h)
    ·exact .inr (.inr (.inl h))
    ·exact .inr (.inr (.inr (.inl h)))
    ·exact .inr (.inr (.inr (.inr (.inr h))))
   exact(fr r this).2 rfl
 have s08:=s3.trans s38
 refine⟨_,rfl,r,dxr8,fsr8,rfl,R8c,R8b.no _ (by decide +kernel),r,f,n,E0,G0,Kp,D,Rw,ls,ls.map (jl (lD ls p)),ps,_,_,_,RL,rfl,⟨dxr8,fsr8,R8c,R8b⟩,N.same s08,W8,by rw [List.map_map];rfl,F.ahead hp hk2 hw,fun H9 n' s9 N9=>kQ ed H9 n' (s08.trans s9) N9⟩
inductive qu (K:PySem.W.Frag) (t:lA) (vs:List V) (H:Hp) (Q:VK) (E:XK):Prop where
 | mk:∀(L P:Addr) (ls:List aH) (ps:List PD),vs=[.ref L,.ref P]->yh H L P ls ps->xZ ls ps->(∀T a b H',aQ H H'->xN K H' T a b ls ps->Q (.ref T) H')->qu K t vs H Q E
noncomputable abbrev lO:List Str:=["_law_lanes", "_law_parts", "_law_rows", "_law_some"]
theorem p7 (T:Txt w K mg t):FO P w K mg base 1 t.rR ["_law_lanes", "_law_parts"] (qu K t):=by
 have sc:=T.jn.sc lO
 refine T.jn.F.ok sc ln (fun _ _ _ _ H vs Q E hr h=>?_)
 obtain⟨L,P,ls,ps,rfl,N,hF,k⟩:=h
 refine⟨_,(au (Dn (i:=2) ["_law_name", "_law_room", "_law_first"] [] lO (bx (top 84)) rfl sc.nd rfl (cz (pv 0)) (fun _ _ _ _ _=>Cm (K:=K) (n:=3) rfl rfl (bH (iu (i:=0) (show(["_law_name", "_law_room", "_law_first"]:List Str).Nodup by decide +kernel) rfl (Or.inl rfl) (.inr rfl)) (bH (iu (i:=1) (show(["_law_name", "_law_room", "_law_first"]:List Str).Nodup by decide +kernel) rfl (Or.inl rfl) (.inr rfl)) (bH (iu (i:=2) (show(["_law_name", "_law_room", "_law_first"]:List Str).Nodup by decide +kernel) rfl (Or.inl rfl) (.inr rfl)) gO)))) (fun _ _ _ _ _=>fC) (fun _ _ _ _ _=>(bV (aa (pv 0) (aa (pv 1) (aa (cY (tM (K:=K) rfl) (by rfl) T.qb mU (aa (pv 2) ak aj)) ak aX) aj) aj))))
  (au (Dn (i:=3) ["_law_kind", "_law_name", "_law_numbers", "_law_ins", "_law_outs"] [] lO (bx (top 84)) rfl sc.nd rfl (cz (pv 1)) (fun _ _ _ _ _=>Cm (K:=K) (n:=5) rfl rfl (bH (iu (i:=0) (show(["_law_kind", "_law_name", "_law_numbers", "_law_ins", "_law_outs"]:List Str).Nodup by decide +kernel) rfl (Or.inl rfl) (.inr rfl)) (bH (iu (i:=1) (show(["_law_kind", "_law_name", "_law_numbers", "_law_ins", "_law_outs"]:List Str).Nodup by decide +kernel) rfl (Or.inl rfl) (.inr rfl)) (bH (iu (i:=2) (show(["_law_kind", "_law_name", "_law_numbers", "_law_ins", "_law_outs"]:List Str).Nodup by decide +kernel) rfl (Or.inl rfl) (.inr rfl)) (bH (iu (i:=3) (show(["_law_kind", "_law_name", "_law_numbers", "_law_ins", "_law_outs"]:List Str).Nodup by decide +kernel) rfl (Or.inl rfl) (.inr rfl)) (bH (iu (i:=4) (show(["_law_kind", "_law_name", "_law_numbers", "_law_ins", "_law_outs"]:List Str).Nodup by decide +kernel) rfl (Or.inl rfl) (.inr rfl)) gO)))))) (fun _ _ _ _ _=>fC) (fun _ _ _ _ _=>(bV (aa (pv 0) (aa (pv 1) (aa (cY (tM (K:=K) rfl) (by rfl) T.qb mU (aa (pv 2) ak aj)) (aa (cY (tM (K:=K) rfl) (by rfl) T.qb mU (aa (pv 3) ak aj)) (aa (cY (tM (K:=K) rfl) (by rfl) T.qb mU (aa (pv 4) ak aj)) ak aX) aX) aX) aj) aj))))
  (aA (aN (bV (aa (pv 2) (aa (pv 3) ak aj) aj)))))),?_⟩
 have hl:sizeLine=16777216:=sizeLine_eq
 have l24:=hF.l24
 have p16:=hF.p16
 obtain⟨⟨xs,eL,aL⟩,⟨ys,eP,aP⟩⟩:=N
 have lx:=aL.length
 have ly:=aP.length
 refine⟨_,rfl,L,rfl,⟨_,bR.of eL⟩,?_⟩
 refine sy (K:=K) (a:=L) (xs:=xs) (fun j zs H'=>aQ H H'/\zs.length<=j/\gY (wM K H') zs (ls.take j)) (by omega) ⟨aQ.refl _,Nat.le_refl _,.nil⟩ (fun j zs H' h=>h.2.1) (fun j zs H' _ h=>h.1.seq (bR.of eL)) ?_ ?_
 ·rintro j x zs H' hx ⟨s,hz,hA⟩
  obtain⟨l,hlj,q,f,rfl,hq,hf⟩:=aL.get hx
  refine⟨q,_,rfl,fG.of (s _ _ hq),rfl,_,_,rfl,_,_,rfl,_,_,rfl,rfl,rfl,yes ?_⟩
  refine⟨_,rfl,_,rfl,_,rfl,f,_,rfl,.inl (bR.of (s _ _ hf)),fun H2 u s2 t2=>⟨gw,fun r nr=>?_⟩⟩
  have su:=aB (o:=.tup [.str l.name,.int l.room,.ref u]) nr
  refine⟨s.trans (s2.trans su),by rw [lP,List.length_singleton];omega,?_⟩
  rw [List.take_succ,hlj,Option.toList_some]
  exact(hA.imp fun _ _ h=>h.same (s2.trans su)).app (.cons ⟨r,u,rfl,aq,su.seqT t2⟩ .nil)
 rintro zs H1 ⟨s1,hz,hA⟩ D nD
 rw [lx,List.take_length] at hA
 have sD:=aB (o:=.lst zs) nD
 have eD:upd H1 D (.lst zs) D=some (.lst zs):=aq
 have s2:=s1.trans sD
 have hA2:=hA.imp fun _ _ h=>wM.same h sD
 generalize upd H1 D (.lst zs)=H2 at sD eD s2 hA2 ⊢
 refine⟨_,rfl,P,rfl,⟨_,bR.of (s2 _ _ eP)⟩,?_⟩
 refine sy (K:=K) (a:=P) (xs:=ys) (fun j zs H'=>aQ H2 H'/\zs.length<=j/\gY (BP K H') zs (ps.take j)) (by omega) ⟨aQ.refl _,Nat.le_refl _,.nil⟩ (fun j zs H' h=>h.2.1) (fun j zs H' _ h=>h.1.seq (bR.of (s2 _ _ eP))) ?_ ?_
 ·rintro j x zs H' hx ⟨s,hz,hA⟩
  obtain⟨p,hpj,q,a1,a2,a3,rfl,hq,q1,q2,q3⟩:=aP.get hx
  have ss:=s2.trans s
  refine⟨q,_,rfl,fG.of (ss _ _ hq),rfl,_,_,rfl,_,_,rfl,_,_,rfl,_,_,rfl,_,_,rfl,rfl,rfl,yes ?_⟩
  refine⟨_,rfl,_,rfl,_,rfl,a1,_,rfl,.inl (bR.of (ss _ _ q1)),fun H3 u1 s3 t1=>⟨_,rfl,a2,_,rfl,.inl (bR.of (s3 _ _ (ss _ _ q2))),fun H4 u2 s4 t2=>⟨_,rfl,a3,_,rfl,.inl (bR.of (s4 _ _ (s3 _ _ (ss _ _ q3)))),fun H5 u3 s5 t3=>⟨gw,fun r nr=>?_⟩⟩⟩⟩
  have su:=aB (o:=.tup [.str (cg p.kind),.str p.name,.ref u1,.ref u2,.ref u3]) nr
  refine⟨s.trans (s3.trans (s4.trans (s5.trans su))),by rw [lP,List.length_singleton];omega,?_⟩
  rw [List.take_succ,hpj,Option.toList_some]
  exact(hA.imp fun _ _ h=>h.same (s3.trans (s4.trans (s5.trans su)))).app (.cons ⟨r,u1,u2,u3,rfl,aq,(s4.trans (s5.trans su)).seqT t1,(s5.trans su).seqT t2,su.seqT t3⟩ .nil)
 rintro ws H3 ⟨s3,hw,hB⟩ D2 nD2
 rw [ly,List.take_length] at hB
 have sE:=aB (o:=.lst ws) nD2
 refine⟨_,rfl,_,rfl,gw,fun T' nT=>?_⟩
 have sT:=aB (o:=.tup [.ref D,.ref D2]) nT
 have sz:=s3.trans (sE.trans sT)
 exact k T' D D2 _ (s2.trans sz) ⟨aq,⟨zs,sz _ _ eD,hA2.imp fun _ _ h=>wM.same h sz⟩,⟨ws,sT _ _ aq,hB.imp fun _ _ h=>BP.same h (sE.trans sT)⟩⟩
inductive wC (K:PySem.W.Frag) (vs:List V) (H:Hp) (Q:VK) (E:XK):Prop where
 | mk:∀(i:Nat) (a:Addr) (hs:List V),vs=[.str (cg i),.ref a]->i<=10->bR K H a hs->vZ i hs->(∀H' L,aQ H H'->H L=none->H' L=some (.lst ((places i hs).map nV))->Q (.ref L) H')->wC K vs H Q E
theorem wY (T:Txt w K mg t):FO P w K mg base 1 t.yu ["_law_kind", "_law_heads"] (wC K):=by
 have sc:=T.oM.sc ["_law_kind", "_law_heads"]
 refine T.oM.F.ok sc ln (fun _ _ _ _ H vs Q E hr h=>?_)
 obtain⟨i,a,hs,rfl,hi,hS,hH,k⟩:=h
 refine⟨_,(au (bU (bz JQ (pv 0) bF (bT _))
   (aA (aN (cY (wG rfl) (by rfl) T.tE oR (aa (cY Ax (by rfl) T.qg Kf (aa (bJ cC (by rfl) T.gA d7 (aa (pv 1) ak aj)) ak aX)) ak aX))))
   bu)
  (au (bU (iH (xO (aU aM (pv 1) az (fun _ _=>rfl))))
   (aA (aN (bj (aa az ak ao))))
   bu)
  (aA (aN (bj (aa az (aa (bD eG az (bD cL (aU aM (pv 1) az (fun _ _=>rfl)) az)) ak bY) ao)))))),?_⟩
 have hl:sizeLine=16777216:=sizeLine_eq
 have h3':=yl i
 refine⟨_,rfl,rfl,_,rfl,?_⟩
 by_cases hc:i=9
 ·rw [show(!decide (V.str (cg i)=V.str "choose"))=false by rw [(Du hi).mpr hc];simp]
  refine fc ?_
  have hlen:hs.length=3:=by rw [hH.1,hc];rfl
  match hs,hlen,hH with
  | h0:: r,hlen,hH=>
   have ea:Fx (h0:: r) 0=some h0:=aK (xs:=h0:: r) (j:=0) rfl
   rcases hH.2 h0 List.mem_cons_self with e | ⟨n,e⟩
   ·subst e
    refine⟨_,rfl,a,_,0,_,rfl,rfl,hS,ea,_,rfl,m5 rfl ?_⟩
    refine⟨gw,fun L hL=>k _ L (aB hL) hL ?_⟩
    rw [aq]
    unfold places
    rw [if_pos hc]
    rfl
   ·subst e
    refine⟨_,rfl,a,_,0,_,rfl,rfl,hS,ea,_,rfl,bZ (by intro z;cases z) ?_⟩
    refine⟨_,rfl,a,_,0,_,rfl,rfl,hS,ea,_,_,rfl,rfl,by show(0:Int) <2;decide,_,_,rfl,rfl,gw,fun L hL=>k _ L (aB hL) hL ?_⟩
    have h0:=Int.emod_nonneg n (show(2:Int)≠0 by decide)
    have e1:(1:Int)+n % 2=((1+(n % 2).toNat:Nat):Int):=by omega
    rw [aq]
    unfold places
    rw [if_pos hc]
    show some (HO.lst [.int 0,.int (1+n % 2)])=some (HO.lst [.int ((0:Nat):Int),.int ((1+(n % 2).toNat:Nat):Int)])
    rw [e1]
    rfl
 ·rw [show(!decide (V.str (cg i)=V.str "choose"))=true by
   have:¬cg i= "choose" :=fun z=>hc ((Du hi).mp z)
   simp [this]]
  refine lE ⟨_,rfl,.ref a,hs.length,rfl,.inl ⟨hs,hS,rfl⟩,_,rfl,fun r hr=>⟨r,hs.length,rfl,aq,by have:=hH.1;omega,fun l hl=>?_⟩⟩
  refine k _ l ((aB hr).trans (aB hl)) ((aB hr).free hl) ?_
  rw [aq]
  unfold places Sh
  rw [if_neg hc]
  rfl
theorem e9:(10:Int) ^ (9:Int).toNat=1000000000:=by decide
inductive xr (K:PySem.W.Frag) (vs:List V) (H:Hp) (Q:VK) (E:XK):Prop where
 | mk:∀(i:Nat) (a b:Addr) (ns ws:List Int),vs=[.str (cg i),.ref b,.ref a]->2<=i->i <11->bR K H b (ns.map V.int)->ns.length=cN i->bR K H a (ws.map V.int)->ws.length=cV i->WD ws->(∀H' L rs,aQ H H'->H L=none->H' L=some (.lst (rs.map V.ref))->jz H' rs (Fw (dj i ns ws (if i=5 then ns.headD 0 else 0)))->Q (.ref L) H')->xr K vs H Q E
noncomputable abbrev sZ:List Str:=["_law_kind", "_law_numbers", "_law_values"]
theorem wQ (T:Txt w K mg t):FO P w K mg base 1 t.yC sZ (xr K):=by
 have sc:gK sZ sZ (bx (top 86)):=MT
 refine T.tZ.F.ok sc ln (fun _ _ _ _ H vs Q E hr h=>?_)
 obtain⟨i,a,b,ns,ws,rfl,h2,hi,hN,ln,hS,lw,hB,k⟩:=h
 refine⟨_,(au (bU (bz fQ (pv 0) bF (bT _))
   (aA (aN (bj (aa (bV (aa az (aa (aU aM (pv 2) az (fun _ _=>rfl)) ak aD) ao)) (aa (bV (aa az (aa (aU aM (pv 2) az (fun _ _=>rfl)) ak aD) ao)) ak bN) bN))))
   bu)
  (au (bU (bz fQ (pv 0) bF (bT _))
   (aA (aN (bj (aa (bV (aa az (aa (bD cL (bD eG (bD oH (aU aM (pv 1) az (fun _ _=>rfl)) (aU aM (pv 2) az (fun _ _=>rfl))) (aU aM (pv 1) az (fun _ _=>rfl))) (bD CK az az)) ak bY) ao)) ak bN))))
   bu)
  (au (bU (bz fQ (pv 0) bF (bT _))
   (aA (aN (bj (aa (bV (aa az (aa (bD cL (bD eG (aU aM (pv 1) az (fun _ _=>rfl)) (aU aM (pv 2) az (fun _ _=>rfl))) (bD CK az az)) ak bY) ao)) ak bN))))
   bu)
  (au (bU (bz fQ (pv 0) bF (bT _))
   (aA (aN (bj (aa (bV (aa az (aa (bD cL (bD eG (aU aM (pv 2) az (fun _ _=>rfl)) (aU aM (pv 2) az (fun _ _=>rfl))) (bD CK az az)) ak bY) ao)) ak bN))))
   bu)
  (au (bU (bz fQ (pv 0) bF (bT _))
   (aA (aN (bj (aa (bV (aa az (aa (cY Oo (by rfl) T.Vb Qp (aa (wg xq (aU aM (pv 2) az (fun _ _=>rfl)) (aU aM (pv 2) az (fun _ _=>rfl)) (bT _)) ak Hx)) ak aX) ao)) ak bN))))
   bu)
  (au (bU (bz fQ (pv 0) bF (bT _))
   (aA (aN (bj (aa (bV (aa az (aa (bJ (Hn rfl) (by rfl) T.Vv RJ (aa (pv 2) ak aj)) ak aX) ao)) (aa (bV (aa az (aa (bJ (Gw rfl) (by rfl) T.M7 Ja (aa (pv 2) ak aj)) ak aX) ao)) ak bN) bN))))
   bu)
  (au (bU (bz fQ (pv 0) bF (bT _))
   (aA (aN (bj (aa (bV (aa az (aa (aU aM (pv 2) az (fun _ _=>rfl)) ak aD) ao)) ak bN))))
   bu)
  (au (bU (bz fQ (pv 0) bF (bT _))
   (aA (aN (bj (aa (bV (aa (bD cL (aU aM (pv 2) az (fun _ _=>rfl)) az) (aa (aU aM (pv 2) az (fun _ _=>rfl)) ak aD) bY)) ak bN))))
   bu)
  (aA (aN (bj (aa (bV (aa az (aa (aU aM (pv 2) az (fun _ _=>rfl)) ak aD) ao)) ak bN)))))))))))),?_⟩
 match i,h2,hi with
 | 2,_,_=>
  match ws,lw,ns,ln with
  | [v],_,ns,_=>
   refine⟨_,rfl,rfl,_,rfl,bZ (by decide +kernel) ?_⟩
   refine⟨_,rfl,rfl,_,rfl,bZ (by decide +kernel) ?_⟩
   refine⟨_,rfl,rfl,_,rfl,bZ (by decide +kernel) ?_⟩
   refine⟨_,rfl,rfl,_,rfl,bZ (by decide +kernel) ?_⟩
   refine⟨_,rfl,rfl,_,rfl,bZ (by decide +kernel) ?_⟩
   refine⟨_,rfl,rfl,_,rfl,bZ (by decide +kernel) ?_⟩
   refine⟨_,rfl,rfl,_,rfl,bZ (by decide +kernel) ?_⟩
   refine⟨_,rfl,rfl,_,rfl,bZ (by decide +kernel) ?_⟩
   exact⟨_,rfl,a,_,0,_,rfl,rfl,hS,rfl,cT,fun t0 n0=>⟨one_le,fun L nL=>pI rfl rfl k n0 nL⟩⟩
 | 3,_,_=>
  match ws,lw,ns,ln with
  | [v],_,ns,_=>
   refine⟨_,rfl,rfl,_,rfl,m5 rfl ?_⟩
   exact⟨_,rfl,a,_,0,_,rfl,rfl,hS,rfl,cT,fun t0 n0=>⟨_,rfl,a,_,0,_,rfl,rfl,((aB n0).seq hS),rfl,cT,fun t1 n1=>⟨cT,fun L nL=>NP rfl rfl rfl rfl k n0 n1 nL⟩⟩⟩
 | 4,_,_=>
  match ws,lw,ns,ln with
  | [v],_,[m,m1],_=>
   refine⟨_,rfl,rfl,_,rfl,bZ (by decide +kernel) ?_⟩
   refine⟨_,rfl,rfl,_,rfl,m5 rfl ?_⟩
   exact⟨_,rfl,b,_,0,_,rfl,rfl,hN,rfl,_,rfl,a,_,0,_,rfl,rfl,hS,rfl,_,_,rfl,rfl,Ym hB (by simp),_,rfl,b,_,1,_,rfl,rfl,hN,rfl,_,_,rfl,rfl,_,_,rfl,rfl,⟨by decide,by decide,by decide⟩,_,_,rfl,rfl,by show(0:Int) <10 ^ 9;decide,cT,fun t0 n0=>⟨one_le,fun L nL=>pI rfl (by rw [e9];rfl) k n0 nL⟩⟩
 | 5,_,_=>
  match ws,lw,ns,ln with
  | [v],_,[m],_=>
   refine⟨_,rfl,rfl,_,rfl,bZ (by decide +kernel) ?_⟩
   refine⟨_,rfl,rfl,_,rfl,bZ (by decide +kernel) ?_⟩
   refine⟨_,rfl,rfl,_,rfl,m5 rfl ?_⟩
   exact⟨_,rfl,b,_,0,_,rfl,rfl,hN,rfl,_,rfl,a,_,0,_,rfl,rfl,hS,rfl,_,_,rfl,rfl,_,_,rfl,rfl,⟨by decide,by decide,by decide⟩,_,_,rfl,rfl,by show(0:Int) <10 ^ 9;decide,cT,fun t0 n0=>⟨one_le,fun L nL=>pI rfl (by rw [e9];rfl) k n0 nL⟩⟩
 | 6,_,_=>
  match ws,lw,ns,ln with
  | [v,v1],_,ns,_=>
   refine⟨_,rfl,rfl,_,rfl,bZ (by decide +kernel) ?_⟩
   refine⟨_,rfl,rfl,_,rfl,bZ (by decide +kernel) ?_⟩
   refine⟨_,rfl,rfl,_,rfl,bZ (by decide +kernel) ?_⟩
   refine⟨_,rfl,rfl,_,rfl,m5 rfl ?_⟩
   exact⟨_,rfl,a,_,0,_,rfl,rfl,hS,rfl,_,rfl,a,_,1,_,rfl,rfl,hS,rfl,_,_,rfl,rfl,_,_,rfl,rfl,⟨by decide,by decide,by decide⟩,_,_,rfl,rfl,by show(0:Int) <10 ^ 9;decide,cT,fun t0 n0=>⟨one_le,fun L nL=>pI rfl (by rw [e9];rfl) k n0 nL⟩⟩
 | 7,_,_=>
  match ws,lw,ns,ln with
  | [v,v1],_,ns,_=>
   refine⟨_,rfl,rfl,_,rfl,bZ (by decide +kernel) ?_⟩
   refine⟨_,rfl,rfl,_,rfl,bZ (by decide +kernel) ?_⟩
   refine⟨_,rfl,rfl,_,rfl,bZ (by decide +kernel) ?_⟩
   refine⟨_,rfl,rfl,_,rfl,bZ (by decide +kernel) ?_⟩
   refine⟨_,rfl,rfl,_,rfl,m5 rfl ?_⟩
   exact⟨_,rfl,a,_,0,_,rfl,rfl,hS,rfl,_,rfl,a,_,1,_,rfl,rfl,hS,rfl,_,_,rfl,rfl,.inr ⟨_,rfl,cT,fun t0 n0=>⟨one_le,fun L nL=>pI rfl (by show(if decide (v <v1)=true then(1:Int) else 0)=if v <v1 then 1 else 0;by_cases z:v <v1 <;> simp [z]) k n0 nL⟩⟩⟩
 | 8,_,_=>
  match ws,lw,ns,ln with
  | [v,v1],_,ns,_=>
   refine⟨_,rfl,rfl,_,rfl,bZ (by decide +kernel) ?_⟩
   refine⟨_,rfl,rfl,_,rfl,bZ (by decide +kernel) ?_⟩
   refine⟨_,rfl,rfl,_,rfl,bZ (by decide +kernel) ?_⟩
   refine⟨_,rfl,rfl,_,rfl,bZ (by decide +kernel) ?_⟩
   refine⟨_,rfl,rfl,_,rfl,bZ (by decide +kernel) ?_⟩
   refine⟨_,rfl,rfl,_,rfl,m5 rfl ?_⟩
   exact⟨_,rfl,a,v,v1,rfl,hS,cT,fun t0 n0=>⟨_,rfl,a,v,v1,rfl,(aB n0).seq hS,cT,fun t1 n1=>⟨cT,fun L nL=>NP rfl rfl rfl rfl k n0 n1 nL⟩⟩⟩
 | 9,_,_=>
  match ws,lw,ns,ln with
  | [v,v1],_,ns,_=>
   refine⟨_,rfl,rfl,_,rfl,bZ (by decide +kernel) ?_⟩
   refine⟨_,rfl,rfl,_,rfl,bZ (by decide +kernel) ?_⟩
   refine⟨_,rfl,rfl,_,rfl,bZ (by decide +kernel) ?_⟩
   refine⟨_,rfl,rfl,_,rfl,bZ (by decide +kernel) ?_⟩
   refine⟨_,rfl,rfl,_,rfl,bZ (by decide +kernel) ?_⟩
   refine⟨_,rfl,rfl,_,rfl,bZ (by decide +kernel) ?_⟩
   refine⟨_,rfl,rfl,_,rfl,m5 rfl ?_⟩
   exact⟨_,rfl,a,_,1,_,rfl,rfl,hS,rfl,cT,fun t0 n0=>⟨one_le,fun L nL=>pI rfl rfl k n0 nL⟩⟩
 | 10,_,_=>
  match ws,lw,ns,ln with
  | [v,v1],_,ns,_=>
   refine⟨_,rfl,rfl,_,rfl,bZ (by decide +kernel) ?_⟩
   refine⟨_,rfl,rfl,_,rfl,bZ (by decide +kernel) ?_⟩
   refine⟨_,rfl,rfl,_,rfl,bZ (by decide +kernel) ?_⟩
   refine⟨_,rfl,rfl,_,rfl,bZ (by decide +kernel) ?_⟩
   refine⟨_,rfl,rfl,_,rfl,bZ (by decide +kernel) ?_⟩
   refine⟨_,rfl,rfl,_,rfl,bZ (by decide +kernel) ?_⟩
   refine⟨_,rfl,rfl,_,rfl,bZ (by decide +kernel) ?_⟩
   refine⟨_,rfl,rfl,_,rfl,m5 rfl ?_⟩
   exact⟨_,rfl,a,_,0,_,rfl,rfl,hS,rfl,_,_,rfl,rfl,by show(0:Int) <2;decide,_,rfl,a,_,1,_,rfl,rfl,hS,rfl,cT,fun t0 n0=>⟨one_le,fun L nL=>pI rfl rfl k n0 nL⟩⟩
noncomputable def K6:Nat->Str
 | 0=> "such"
 | 1=> "door"
 | 2=> "lacks"
 | _=> "full"
noncomputable def Jy (H:Hp) (v:V):Option (Nat×Str)->Prop
 | none=>v=.non
 | some (c,y)=>∃p,v=.ref p/\H p=some (.lst [.str (K6 c),.str y])
theorem Jy.same {H H':Hp} {v:V} {o:Option (Nat×Str)} (h:Jy H v o) (s:aQ H H'):Jy H' v o:=by
 cases o with
 | none=>exact h
 | some q=>obtain⟨p,e,h⟩:=h;exact⟨p,e,s _ _ h⟩
theorem S9 {ls:List aH} {l:aH} (nd:(ls.map (·.name)).Nodup) (hl:l∈ls):Fx (l.first.map V.int ++ [V.non]) 0=some (iK ls l.name):=by
 refine aK (j:=0) ?_
 unfold iK
 rw [pK nd hl]
 cases l.first with
 | nil=>rfl
 | cons a r=>rfl
theorem Ko {ls:List aH} {p:PD} (h2:2<=p.kind) {x:Str} (h:dM p.kind p.ins (bh ls p)=.str x):ww ls p=some (2,x):=by
 unfold ww km
 rw [if_neg (by omega),h]
 simp
theorem JZ {ls:List aH} {p:PD} (h2:2<=p.kind) (h:dM p.kind p.ins (bh ls p)=.non):ww ls p=match mQ ls (lD ls p) with
  | .str x=>some (3,x)
  | _=>none:=by
 have nv:¬("room" :Str)= "value" :=by decide +kernel
 unfold ww km
 rw [if_neg (by omega),h]
 cases mQ ls (lD ls p) <;> simp [nv]
structure Oz (H:Hp) (R Fd:Addr) (ls:List aH) (FL:List (aH×Addr)):Prop where
 rooms:H R=some (.dK (cB ls))
 firsts:H Fd=some (.dK (aW FL))
 fls:FL.map (·.1)=ls
 lists:∀q∈FL,H q.2=some (.lst (q.1.first.map V.int))
theorem Oz.same {H H':Hp} {R Fd:Addr} {ls:List aH} {FL:List (aH×Addr)} (h:Oz H R Fd ls FL) (s:aQ H H'):Oz H' R Fd ls FL:=⟨s _ _ h.rooms,s _ _ h.firsts,h.fls,fun q hq=>s _ _ (h.lists q hq)⟩
theorem Oz.get {H:Hp} {R Fd:Addr} {ls:List aH} {FL:List (aH×Addr)} (h:Oz H R Fd ls FL) (nd:(ls.map (·.name)).Nodup) {l:aH} (hl:l∈ls):∃f,cH (aW FL) (Sum.inr l.name)=some (.ref f)/\H f=some (.lst (l.first.map V.int))/\cH (cB ls) (Sum.inr l.name)=some (.int l.room):=by
 obtain⟨q,hq,e⟩:∃q∈FL,q.1=l:=by
  rw [<-h.fls] at hl
  obtain⟨q,hq,e⟩:=List.mem_map.mp hl
  exact⟨q,hq,e⟩
 subst e
 exact⟨q.2,gW (by rw [fH,h.fls];exact fO nd) (List.mem_map.mpr ⟨q,hq,rfl⟩),h.lists q hq,gW (by rw [mF];exact fO nd) (List.mem_map.mpr ⟨q.1,hl,rfl⟩)⟩
inductive Ai (K:PySem.W.Frag) (vs:List V) (H:Hp) (Q:VK) (E:XK):Prop where
 | mk:∀(L P q:Addr) (ls:List aH) (ps:List PD) (p:PD),vs=[.ref L,.ref q]->yh H L P ls ps->xZ ls ps->p∈ps->mG H (.ref q) p->(∀H' v,aQ H H'->Jy H' v (ww ls p)->Q v H')->Ai K vs H Q E
noncomputable abbrev xJ:List Str:=["_law_lanes", "_law_part_here", "_law_kind", "_law_name", "_law_numbers", "_law_ins", "_law_outs", "_law_rooms", "_law_firsts", "_law_lane_here", "_law_room", "_law_first", "_law_heads", "_law_needs_here", "_law_at", "_law_value_here"]
theorem Ao (T:Txt w K mg t):FO P w K mg base 2 t.Dq ["_law_lanes", "_law_part_here"] (Ai K):=by
 have sc:=T.tH.sc xJ
 refine T.tH.F.ok sc ln (fun _ _ _ _ H vs Q E hr h=>?_)
 obtain⟨L,P,q,ls,ps,p,rfl,A,F,hp,hq,k⟩:=h
 refine⟨_,(au (CZ (pv 1) (m6 rfl (bH (gN sc 2) (bH (gN sc 3) (bH (gN sc 4) (bH (gN sc 5) (bH (gN sc 6) gO)))))))
  (au (bU (bz Gp (pv 2) (bj (aa bF (aa bF ak ao) ao)) (by with_unfolding_all rfl))
   (aA (aN (bj (aa bF (aa (pv 3) ak aj) ao))))
   bu)
  (au (sN sc 7 gh)
  (au (sN sc 8 gh)
  (au (fB PassesOwn.never rfl (cz (pv 0)) (m6 rfl (bH (gN sc 9) (bH (gN sc 10) (bH (gN sc 11) gO))))
   (au (f9 hr.u1 (pv 7) (pv 9) (pv 10) rfl)
   (aA (f9 hr.u1 (pv 8) (pv 9) (pv 11) rfl))))
  (au (sN sc 12 (fD [8] xJ (bx (top 87)) rfl (cz (pv 5)) (fun _ _ _ _ _=>fC) (fun _ _ _ _ _=>(aU (vo (K:=K) rfl) (bD Ac (cG hr.u1 (pv 1) (pv 0) (fun _ _=>rfl)) (bj (aa pC ak ao))) az (fun _ _=>rfl)))))
  (au (sN sc 13 (eQ (wY T) T.oM hr (aa (pv 2) (aa (pv 12) ak aj) aj)))
  (au (fB PassesOwn.never rfl (cz (pv 13)) (gN sc 14)
   (aA (bU (iH (xO (aU aM (pv 12) (pv 14) (fun _ _=>rfl))))
    (aA (aN (bj (aa bF (aa (aU aM (pv 5) (pv 14) (fun _ _=>rfl)) ak aD) ao))))
    bu)))
  (au (fB PassesOwn.never rfl (cz (eQ (wQ T) T.tZ hr (aa (pv 2) (aa (pv 4) (aa (fD [12] xJ (bx (top 87)) rfl (cz (pv 13)) (fun _ _ _ _ _=>fC) (fun _ _ _ _ _=>(aU (vo (K:=K) rfl) (pv 1) (pv 0) (fun _ _=>rfl)))) ak dU) aj) aj))) (m6 rfl (bH (gN sc 14) (bH (gN sc 15) gO)))
   (aA (bU (bz VG (bJ cC (by rfl) T.gA d7 (aa (cG hr.u1 (pv 8) (aU aM (pv 6) (pv 14) (fun _ _=>rfl)) (fun _ _=>rfl)) ak aD)) (cG hr.u1 (pv 7) (aU aM (pv 6) (pv 14) (fun _ _=>rfl)) (fun _ _=>rfl)) (bT _))
    (aA (aN (bj (aa bF (aa (aU aM (pv 6) (pv 14) (fun _ _=>rfl)) ak aD) ao))))
    bu)))
  (aA (aN pC))))))))))),?_⟩
 have hz:sizeLine=16777216:=sizeLine_eq
 have ok:=F.pok p hp
 have l24:=F.l24
 have nod:=F.whole.nod
 obtain⟨⟨xs,eL,aL⟩,_⟩:=A
 have lx:=aL.length
 obtain⟨q',a1,a2,a3,e,hq,q1,q2,q3⟩:=hq
 cases e
 have hO:=pJ ls p ok
 have h3i:p.ins.length<=3:=by rw [ok.2.2.1];exact yl _
 have hpl:(places p.kind (bh ls p)).length<=3:=places_len hO
 refine⟨_,rfl,q,_,rfl,fG.of hq,rfl,_,_,rfl,_,_,rfl,_,_,rfl,_,_,rfl,_,_,rfl,rfl,?_⟩
 refine⟨_,rfl,gw,fun u nu=>⟨u,_,rfl,.inl (bR.of aq),rfl,by simp [rK],_,rfl,?_⟩⟩
 have t1:=aB (o:=.lst [.str "give",.str "take"]) nu
 generalize upd H u (.lst [.str "give",.str "take"])=H1 at t1 ⊢
 rw [Nq p ok.1]
 by_cases hk:p.kind <2
 ·rw [decide_eq_true hk]
  have e:ww ls p=some (1,p.name):=if_pos hk
  rw [e] at k
  exact lE ⟨_,rfl,gw,fun d nd=>k _ _ (t1.trans (aB nd)) ⟨d,rfl,aq⟩⟩
 rw [decide_eq_false hk]
 refine fc ?_
 have hk2:2<=p.kind:=by omega
 refine fun R nR=>fun Fd nF=>?_
 have nRF:Fd≠R:=fun z=>by rw [z,aq] at nF;cases nF
 have nF1:H1 Fd=none:=by rw [aG nRF] at nF;exact nF
 have sRF:∀{x y:HO},aQ H1 (upd (upd H1 R x) Fd y):=fun {x y} b o e=>by rw [aG (aC e nF1),aG (aC e nR)];exact e
 refine⟨_,rfl,L,rfl,⟨_,bR.of (sRF _ _ (t1 _ _ eL))⟩,?_⟩
 refine eZ (K:=K) (a:=L) (xs:=xs) (fun j σ H'=>(∃FL:List (aH×Addr),FL.map (·.1)=ls.take j/\(∀q∈FL,H1 q.2=some (.lst (q.1.first.map V.int)))/\H'=upd (upd H1 R (.dK (cB (ls.take j)))) Fd (.dK (aW FL)))/\∃v9 v10 v11,σ=[some (.ref L),some (.ref q),some (.str (cg p.kind)),some (.str p.name),some (.ref a1),some (.ref a2),some (.ref a3),some (.ref R),some (.ref Fd),v9,v10,v11,none,none,none,none]) ⟨⟨[],rfl,by simp,rfl⟩,_,_,_,rfl⟩ (fun j σ H' _ ⟨⟨_,_,_,e⟩,_⟩=>by rw [e];exact bR.of (sRF _ _ (t1 _ _ eL))) ?_ ?_
 ·rintro j x σ H' hx ⟨⟨FL,eFL,hFL,rfl⟩,v9,v10,v11,rfl⟩
  obtain⟨l,hlj,r,f,rfl,hr,hf⟩:=aL.get hx
  have hj:=(List.getElem?_eq_some_iff.mp hlj).1
  have nin:=kZ nod hlj
  have vR:cH (cB (ls.take j)) (Sum.inr l.name)=none:=ie (by rw [mF];intro z;obtain⟨b,hb,e⟩:=List.mem_map.mp z;cases e;exact nin hb)
  have vF:cH (aW FL) (Sum.inr l.name)=none:=ie (by rw [fH,eFL];intro z;obtain⟨b,hb,e⟩:=List.mem_map.mp z;cases e;exact nin hb)
  have tk:ls.take (j+1)=ls.take j ++ [l]:=by rw [List.take_succ,hlj];rfl
  have lFL:FL.length<=24:=by have:=congrArg List.length eFL;rw [lM,List.length_take] at this;omega
  refine⟨r,_,rfl,fG.of (sRF _ _ (t1 _ _ hr)),rfl,_,_,rfl,_,_,rfl,_,_,rfl,rfl,?_⟩
  refine⟨_,rfl,_,rfl,_,rfl,R,_,rfl,oN.k (k:=Sum.inr l.name) (by rw [aG (Ne.symm nRF)];exact aq) (by unfold cB;rw [lM,List.length_take];omega),?_⟩
  have e1:upd (upd (upd H1 R (.dK (cB (ls.take j)))) Fd (.dK (aW FL))) R (.dK (putK (cB (ls.take j)) (Sum.inr l.name) (.int l.room)))=upd (upd H1 R (.dK (cB (ls.take (j+1))))) Fd (.dK (aW FL)):=by
   rw [jf _ vR,tk]
   unfold cB
   rw [List.map_append]
   funext b
   by_cases hb:b=R
   ·subst hb;rw [aq,aG (Ne.symm nRF),aq];rfl
   ·rw [aG hb]
    by_cases hb2:b=Fd
    ·subst hb2;rw [aq,aq]
    ·rw [aG hb2,aG hb,aG hb2,aG hb]
  rw [e1]
  refine⟨_,rfl,_,rfl,_,rfl,Fd,_,rfl,oN.k (k:=Sum.inr l.name) aq (by unfold aW;rw [lM];omega),?_⟩
  rw [oE,jf _ vF]
  refine⟨⟨FL ++ [(l,f)],by rw [List.map_append,eFL,tk];rfl,fun q hq=>?_,?_⟩,_,_,_,rfl⟩
  ·rcases List.mem_append.mp hq with h | h
   ·exact hFL q h
   ·rw [List.mem_singleton] at h;subst h;exact t1 _ _ hf
  ·unfold aW
   rw [List.map_append]
   rfl
 rintro σ H' ⟨⟨FL,eFL,hFL,rfl⟩,v9,v10,v11,rfl⟩
 rw [lx,List.take_length] at eFL ⊢
 have s4:=t1.trans (sRF (x:=.dK (cB ls)) (y:=.dK (aW FL)))
 have D4:Oz (upd (upd H1 R (.dK (cB ls))) Fd (.dK (aW FL))) R Fd ls FL:=⟨by rw [aG (Ne.symm nRF)];exact aq,aq,eFL,fun q hq=>sRF _ _ (hFL q hq)⟩
 generalize upd (upd H1 R (.dK (cB ls))) Fd (.dK (aW FL))=H4 at s4 D4 ⊢
 clear sRF nF nF1 nR hFL t1
 refine⟨_,rfl,a2,rfl,⟨_,bR.of (s4 _ _ q2)⟩,?_⟩
 refine fY (K:=K) (a:=a2) (xs:=p.ins.map V.str) (fun i ys H'=>aQ H4 H'/\ys=(p.ins.take i).map (iK ls)) (by rw [lM];omega) ⟨aQ.refl _,rfl⟩ (fun i ys H' ⟨_,e⟩=>by rw [e,lM,List.length_take];omega) (fun i ys H' _ h=>h.1.seq (bR.of (s4 _ _ q2))) ?_ ?_
 ·rintro i y ys H' hy ⟨s,rfl⟩
  rw [List.getElem?_map] at hy
  obtain⟨x,hx,rfl⟩:=Option.map_eq_some_iff.mp hy
  obtain⟨l,hl,rfl⟩:=F.inL hp (List.mem_append.mpr (.inl (List.mem_of_getElem? hx)))
  have D5:=D4.same s
  obtain⟨f,v1,v2,v3⟩:=D5.get nod hl
  have ll:l.first.length<=199:=by obtain⟨b1,b2,b3,_⟩:=F.lok l hl;omega
  refine yes ⟨_,rfl,_,rfl,Fd,.ref f,rfl,(by rw [<-v1];exact eX.k (k:=Sum.inr l.name) D5.firsts),gw,fun u nu=>?_⟩
  have tu:=aB (o:=.lst [.non]) nu
  refine⟨f,u,_,_,rfl,rfl,tu _ _ v2,aq,by rw [lM];show l.first.length+1<=sizeLine;omega,fun w nw=>?_⟩
  refine⟨w,_,0,_,rfl,rfl,bR.of aq,S9 nod hl,s.trans (tu.trans (aB nw)),?_⟩
  rw [List.take_succ,hx,Option.toList_some,List.map_append]
  rfl
 rintro ys H5 ⟨s5,rfl⟩ Hd nHd
 rw [lM,List.take_length]
 have t6:=aB (o:=.lst (bh ls p)) nHd
 have eHd:upd H5 Hd (.lst (p.ins.map (iK ls))) Hd=some (.lst (bh ls p)):=aq
 change aQ H5 (upd H5 Hd (.lst (p.ins.map (iK ls)))) at t6
 have s6:=s4.trans (s5.trans t6)
 have D6:=D4.same (s5.trans t6)
 generalize upd H5 Hd (.lst (p.ins.map (iK ls)))=H6 at t6 eHd s6 D6 ⊢
 refine⟨_,rfl,_,rfl,p.kind,Hd,bh ls p,rfl,by have:=ok.1;omega,bR.of eHd,hO,fun H7 N s7' nN eN=>?_⟩
 have s7:=s6.trans s7'
 have D7:=D6.same s7'
 have eHd7:=s7' _ _ eHd
 refine⟨_,rfl,N,rfl,⟨_,bR.of eN⟩,?_⟩
 refine eZ (K:=K) (a:=N) (xs:=(places p.kind (bh ls p)).map nV) (fun j σ H'=>H'=H7/\(∃v14,σ=[some (.ref L),some (.ref q),some (.str (cg p.kind)),some (.str p.name),some (.ref a1),some (.ref a2),some (.ref a3),some (.ref R),some (.ref Fd),v9,v10,v11,some (.ref Hd),some (.ref N),v14,none])/\∀r∈(places p.kind (bh ls p)).take j,uw (bh ls p) r=false) ⟨rfl,⟨_,rfl⟩,by simp⟩ (fun j σ H' _ ⟨e,_⟩=>by rw [e];exact bR.of eN) ?_ ?_
 ·rintro j x σ H' hx ⟨e7,⟨v14,rfl⟩,hno⟩
  subst e7
  rw [List.getElem?_map] at hx
  obtain⟨r,hr,rfl⟩:=Option.map_eq_some_iff.mp hx
  have hlt:=gU hO r (List.mem_of_getElem? hr)
  have hlt':r <p.ins.length:=by unfold bh at hlt;rwa [lM] at hlt
  obtain⟨hv,ev⟩:∃hv,(bh ls p)[r]?=some hv:=⟨_,List.getElem?_eq_getElem hlt⟩
  refine⟨_,rfl,_,rfl,Hd,bh ls p,_,hv,rfl,rfl,bR.of eHd7,aK ev,_,rfl,lz (fun hn=>?_) (fun hn=>?_)⟩
  ·have hn':hv=.non:=of_decide_eq_true hn
   have lk:dM p.kind p.ins (bh ls p)=.str p.ins[r]:=by
    unfold dM
    rw [Hu hr hno (by unfold uw;rw [ev,hn'];simp)]
    simp [List.getElem?_eq_getElem hlt']
   rw [Ko hk2 lk] at k
   exact⟨_,rfl,_,rfl,a2,p.ins.map V.str,r,_,rfl,rfl,bR.of (s7 _ _ q2),aK (j:=r) (by rw [List.getElem?_map,List.getElem?_eq_getElem hlt'];rfl),gw,fun d nd=>k _ _ (s7.trans (aB nd)) ⟨d,rfl,aq⟩⟩
  ·have hn':¬hv=.non:=fun z=>hn (decide_eq_true z)
   refine⟨rfl,⟨_,rfl⟩,fun y hy=>?_⟩
   rw [List.take_add_one,hr] at hy
   rcases List.mem_append.mp hy with hy | hy
   ·exact hno y hy
   ·have e:y=r:=by simpa using hy
    subst e
    unfold uw
    rw [ev]
    simpa using hn'
 rintro σ H' ⟨e7,⟨v14,rfl⟩,hno⟩
 subst e7
 rw [lM,List.take_length] at hno
 have hlk:dM p.kind p.ins (bh ls p)=.non:=by
  unfold dM
  rw [MF hno]
 obtain⟨lw,hB,hv⟩:=Cy F hp hk2 hlk
 rw [JZ hk2 hlk] at k
 refine⟨_,rfl,_,rfl,_,rfl,N,rfl,⟨_,bR.of eN⟩,?_⟩
 refine fY (K:=K) (a:=N) (xs:=(places p.kind (bh ls p)).map nV) (fun j ys HX=>HX=H'/\ys=((places p.kind (bh ls p)).take j).map (fun r=>((bh ls p)[r]?).getD .non)) (by rw [lM];omega) ⟨rfl,rfl⟩ (fun j ys HX ⟨_,e⟩=>by rw [e,lM,List.length_take];omega) (fun j ys HX _ ⟨e,_⟩=>by rw [e];exact bR.of eN) ?_ ?_
 ·rintro j v ys HX hv' ⟨e',rfl⟩
  subst e'
  rw [List.getElem?_map] at hv'
  obtain⟨r,hr',rfl⟩:=Option.map_eq_some_iff.mp hv'
  have hql:r <(bh ls p).length:=gU hO r (List.mem_of_getElem? hr')
  refine yes ⟨_,rfl,_,rfl,Hd,bh ls p,r,_,rfl,rfl,bR.of eHd7,aK (j:=r) (List.getElem?_eq_getElem hql),rfl,?_⟩
  rw [List.take_succ,hr',Option.toList_some,List.map_append,List.map_cons,List.map_nil,List.getElem?_eq_getElem hql]
  rfl
 rintro ys HX ⟨e',rfl⟩ V1 nV1
 subst e'
 rw [lM,List.take_length,hv]
 have t8:=aB (o:=.lst ((cQ ls p).map V.int)) nV1
 have eV:upd HX V1 (.lst ((cQ ls p).map V.int)) V1=some (.lst ((cQ ls p).map V.int)):=aq
 generalize upd HX V1 (.lst ((cQ ls p).map V.int))=H8 at t8 eV ⊢
 have s8:=s7.trans t8
 refine⟨p.kind,V1,a1,p.nums,cQ ls p,rfl,hk2,ok.1,bR.of (s8 _ _ q1),ok.2.1,bR.of eV,lw,hB,fun H9 Lg rs s9' nLg eLg tU=>?_⟩
 have s9:=s8.trans s9'
 have D9:=D7.same (t8.trans s9')
 have hlr:rs.length=(dj p.kind p.nums (cQ ls p) (dw p)).length:=by have:=Paired.length tU;unfold Fw at this;rw [lM] at this;exact this
 refine⟨Lg,rfl,⟨_,bR.of eLg⟩,?_⟩
 refine eZ (K:=K) (a:=Lg) (xs:=rs.map V.ref) (fun j σ H'=>H'=H9/\(∃v14 v15,σ=[some (.ref L),some (.ref q),some (.str (cg p.kind)),some (.str p.name),some (.ref a1),some (.ref a2),some (.ref a3),some (.ref R),some (.ref Fd),v9,v10,v11,some (.ref Hd),some (.ref N),v14,v15])/\((lD ls p).take j).find? (um ls)=none) ⟨rfl,⟨_,_,rfl⟩,rfl⟩ (fun j σ H' _ ⟨e,_⟩=>by rw [e];exact bR.of eLg) ?_ ?_
 ·rintro j x σ HY hx ⟨e9,⟨v14,v15,rfl⟩,hf⟩
  subst e9
  rw [List.getElem?_map] at hx
  obtain⟨r,hr,rfl⟩:=Option.map_eq_some_iff.mp hx
  have hjl:j <(dj p.kind p.nums (cQ ls p) (dw p)).length:=by have:=(List.getElem?_eq_some_iff.mp hr).1;omega
  obtain⟨pv,hpv⟩:∃pv,(dj p.kind p.nums (cQ ls p) (dw p))[j]?=some pv:=⟨_,List.getElem?_eq_getElem hjl⟩
  have hr2:HY r=some (.tup [.int pv.1,.int pv.2]):=by
   obtain⟨vs2,z1,z2⟩:=pH tU hr
   unfold Fw at z1
   rw [List.getElem?_map] at z1
   change Option.map _ ((dj p.kind p.nums (cQ ls p) (dw p))[j]?)=_ at z1
   rw [hpv] at z1
   cases z1
   exact z2
  have hg:(lD ls p)[j]?=some (qm p.outs pv.1.toNat,pv.2):=by unfold lD;rw [List.getElem?_map,hpv];rfl
  have ft:=GR hf hg
  obtain⟨o,ho1,ho2⟩:=sO hk2 ok.1 p.nums (cQ ls p) (dw p) pv (List.mem_of_getElem? hpv)
  have ho3:o <p.outs.length:=by rw [ok.2.2.2.1];exact ho2
  have pk:qm p.outs pv.1.toNat=p.outs[o]:=by unfold qm;rw [ho1,Int.toNat_natCast,List.getElem?_eq_getElem ho3];rfl
  rw [pk] at ft
  obtain⟨l,hl,hln⟩:=F.inL hp (List.mem_append.mpr (.inr (List.getElem_mem ho3)))
  obtain⟨f,v1,v2,v3⟩:=D9.get nod hl
  rw [hln] at v1 v3
  have fb:um ls (p.outs[o],pv.2)=decide (l.room<=(l.first.length:Int)):=by unfold um;rw [<-hln,DQ nod hl,pK nod hl]
  have at3:Fx (p.outs.map V.str) pv.1=some (.str p.outs[o]):=by rw [ho1];exact aK (j:=o) (by rw [List.getElem?_map,List.getElem?_eq_getElem ho3];rfl)
  refine⟨r,_,rfl,fG.of hr2,rfl,_,_,rfl,_,_,rfl,rfl,?_⟩
  refine⟨_,rfl,_,rfl,_,rfl,a3,p.outs.map V.str,_,_,rfl,rfl,bR.of (s9 _ _ q3),at3,?_⟩
  refine⟨Fd,.ref f,rfl,(by rw [<-v1];exact eX.k (k:=Sum.inr p.outs[o]) D9.firsts),.ref f,l.first.length,rfl,.inl ⟨_,bR.of v2,by rw [lM]⟩,?_⟩
  refine⟨_,rfl,_,rfl,_,rfl,a3,p.outs.map V.str,_,_,rfl,rfl,bR.of (s9 _ _ q3),at3,R,.int l.room,rfl,(by rw [<-v3];exact eX.k (k:=Sum.inr p.outs[o]) D9.rooms),_,_,rfl,rfl,_,rfl,?_⟩
  rw [<-fb]
  cases hb:um ls (p.outs[o],pv.2) with
  | true=>
   rw [if_pos hb] at ft
   have hfl:mQ ls (lD ls p)=.str p.outs[o]:=by unfold mQ;rw [ft]
   rw [hfl] at k
   refine lE ⟨_,rfl,_,rfl,a3,p.outs.map V.str,_,_,rfl,rfl,bR.of (s9 _ _ q3),at3,gw,fun d nd=>k _ _ (s9.trans (aB nd)) ⟨d,rfl,aq⟩⟩
  | false=>
   rw [if_neg (by simp [hb])] at ft
   exact fc ⟨rfl,⟨_,_,rfl⟩,ft⟩
 rintro σ HY ⟨e9,⟨v14,v15,rfl⟩,hf⟩
 subst e9
 have lg:(lD ls p).length=rs.length:=by unfold lD;rw [lM,hlr]
 rw [lM,<-lg,List.take_length] at hf
 have hfl:mQ ls (lD ls p)=.non:=by unfold mQ;rw [hf]
 rw [hfl] at k
 exact k _ _ s9 rfl
theorem QC (xs:List V) (g:Nat):wk xs none (some (g:Int))=xs.take g:=by
 unfold wk
 rw [HT.yr,HT.vQ,List.drop_zero,Nat.sub_zero]
 rcases Nat.le_total g xs.length with h | h
 ·rw [Nat.min_eq_left h]
 ·rw [Nat.min_eq_right h,List.take_of_length_le h,List.take_of_length_le (Nat.le_refl _)]
structure BW (H:Hp) (Fd:Addr) (lj:List aH) (FL:List (aH×Addr)):Prop where
 firsts:H Fd=some (.dK (aW FL))
 fls:FL.map (·.1)=lj
 lists:∀q∈FL,H q.2=some (.lst (q.1.first.map V.int))
theorem BW.same {H H':Hp} {Fd:Addr} {lj:List aH} {FL:List (aH×Addr)} (h:BW H Fd lj FL) (s:aQ H H'):BW H' Fd lj FL:=⟨s _ _ h.firsts,h.fls,fun q hq=>s _ _ (h.lists q hq)⟩
theorem BW.get {H:Hp} {Fd:Addr} {lj:List aH} {FL:List (aH×Addr)} (h:BW H Fd lj FL) (nd:(lj.map (·.name)).Nodup) {l:aH} (hl:l∈lj):∃f,cH (aW FL) (Sum.inr l.name)=some (.ref f)/\H f=some (.lst (l.first.map V.int)):=by
 obtain⟨q,hq,e⟩:∃q∈FL,q.1=l:=by
  rw [<-h.fls] at hl
  obtain⟨q,hq,e⟩:=List.mem_map.mp hl
  exact⟨q,hq,e⟩
 subst e
 exact⟨q.2,gW (by rw [fH,h.fls];exact fO nd) (List.mem_map.mpr ⟨q,hq,rfl⟩),h.lists q hq⟩
noncomputable def KQ (x:Str) (c:List Int) (l:aH):aH:=if l.name=x then⟨l.name,l.room,c⟩ else l
theorem BW.put {H:Hp} {Fd a:Addr} {lj:List aH} {FL:List (aH×Addr)} {x:Str} {c:List Int} (h:BW H Fd lj FL) (hx:x∈lj.map (·.name)) (ea:H a=some (.lst (c.map V.int))):∃FL',BW (upd H Fd (.dK (putK (aW FL) (Sum.inr x) (.ref a)))) Fd (lj.map (KQ x c)) FL':=by
 refine⟨FL.map fun q=>if q.1.name=x then(⟨q.1.name,q.1.room,c⟩,a) else q,?_,?_,fun q hq=>?_⟩
 ·rw [aq]
  unfold putK
  rw [if_pos (by
   rw [<-h.fls,List.map_map] at hx
   obtain⟨q,hq,rfl⟩:=List.mem_map.mp hx
   exact List.any_eq_true.mpr ⟨_,List.mem_map.mpr ⟨q,hq,rfl⟩,by simp⟩)]
  unfold aW
  rw [List.map_map,List.map_map]
  congr 2
  refine List.map_congr_left fun q _=>?_
  by_cases e:q.1.name=x
  ·simp [e]
  ·simp [e]
 ·rw [List.map_map,<-h.fls,List.map_map]
  refine List.map_congr_left fun q _=>?_
  unfold KQ
  by_cases e:q.1.name=x
  ·simp [e]
  ·simp [e]
 ·obtain⟨q0,hq0,rfl⟩:=List.mem_map.mp hq
  by_cases e:q0.1.name=x
  ·rw [if_pos e]
   rw [aG (mK ea h.firsts (by intro z;cases z))]
   exact ea
  ·rw [if_neg e]
   rw [aG (mK (h.lists q0 hq0) h.firsts (by intro z;cases z))]
   exact h.lists q0 hq0
noncomputable def gB (t:List Str) (l:aH):aH:=if l.name∈t then⟨l.name,l.room,l.first.drop 1⟩ else l
theorem Ow (ls:List aH):ls.map (gB [])=ls:=by
 have:=List.map_congr_left (f:=gB []) (g:=id) (l:=ls) fun l _=>if_neg (by simp)
 rw [this,List.map_id]
theorem Qh (ls:List aH):ls.map (jl [])=ls:=by
 have:=List.map_congr_left (f:=jl []) (g:=id) (l:=ls) fun l _=>by unfold jl;simp
 rw [this,List.map_id]
theorem sG (t:List Str) (l:aH):(gB t l).name=l.name:=by unfold gB;split <;> rfl
theorem xP (t:List Str) (ls:List aH):(ls.map (gB t)).map (·.name)=ls.map (·.name):=by
 rw [List.map_map]
 exact List.map_congr_left fun l _=>sG t l
theorem Hr (gv:List (Str×Int)) (ls:List aH):(ls.map (jl gv)).map (·.name)=ls.map (·.name):=by
 rw [List.map_map]
 rfl
theorem JG {ls:List aH} (nd:(ls.map (·.name)).Nodup) {l m:aH} (hl:l∈ls) (hm:m∈ls) (e:l.name=m.name):l=m:=by
 have a1:=find_name nd hl
 rw [e,find_name nd hm] at a1
 exact(Option.some.inj a1).symm
theorem Ot {ls:List aH} (nd:(ls.map (·.name)).Nodup) {l0:aH} (h0:l0∈ls) (t:List Str):(ls.map (gB t)).map (KQ l0.name (l0.first.drop 1))=ls.map (gB (t ++ [l0.name])):=by
 rw [List.map_map]
 refine List.map_congr_left fun l hl=>?_
 show KQ l0.name _ (gB t l)=_
 have hr:(gB t l).room=l.room:=by unfold gB;split <;> rfl
 unfold KQ
 rw [sG,hr]
 by_cases e:l.name=l0.name
 ·have:=JG nd hl h0 e
  subst this
  rw [if_pos rfl,show gB (t ++ [l.name]) l=⟨l.name,l.room,l.first.drop 1⟩ from if_pos (by simp)]
 ·rw [if_neg e]
  unfold gB
  by_cases h:l.name∈t
  ·rw [if_pos h,if_pos (by simp [h])]
  ·rw [if_neg h,if_neg (by simp [h,e])]
theorem QQ {lj:List aH} (nd:(lj.map (·.name)).Nodup) {l0:aH} (h0:l0∈lj) (gv:List (Str×Int)) (v:Int):(lj.map (jl gv)).map (KQ l0.name ((jl gv l0).first ++ [v]))=lj.map (jl (gv ++ [(l0.name,v)])):=by
 rw [List.map_map]
 refine List.map_congr_left fun l hl=>?_
 show KQ l0.name _ (jl gv l)=_
 rw [Gh]
 unfold KQ
 by_cases e:l.name=l0.name
 ·have:=JG nd hl h0 e
  subst this
  rw [if_pos rfl]
  exact if_pos rfl
 ·rw [if_neg (show ¬(jl gv l).name=l0.name from e),if_neg (fun z=>e z.symm)]
theorem Qi {ls:List aH} {ps:List PD} (F:xZ ls ps) {p:PD} (hp:p∈ps) (hlk:dM p.kind p.ins (bh ls p)=.non):(ls.map (gB (zx ls p))).map (jl (lD ls p))=fW ls p:=by
 unfold fW
 rw [List.map_map,List.map_map]
 refine List.map_congr_left fun l hl=>?_
 show jl _ (gB _ l)=Kq _ (jl _ l)
 unfold jl Kq
 rw [sG]
 by_cases h:l.name∈zx ls p
 ·have hne:∃n r,l.first=n:: r:=by
   obtain⟨q,hq,e⟩:=List.mem_map.mp h
   obtain⟨x,n,hx,_,h4⟩:=Nb F hp hlk q hq
   have ex:x=l.name:=by rw [<-e];unfold qm;rw [hx];rfl
   rw [ex,pK F.whole.nod hl] at h4
   cases e2:l.first with
   | nil=>rw [e2] at h4;cases h4
   | cons m r=>exact⟨m,r,rfl⟩
  obtain⟨n,r,e⟩:=hne
  unfold gB
  rw [if_pos h]
  dsimp only
  rw [if_pos h,e]
  rfl
 ·unfold gB
  rw [if_neg h]
  dsimp only
  rw [if_neg h]
  rfl
theorem S8 {ls:List aH} {ps:List PD} (F:xZ ls ps) {p q:PD} (hq:q∈ps) (h:q.name≠p.name):fV (iM ls ps p) q=q:=by
 unfold fV
 split
 ·rename_i h5
  have e:iM ls ps p q.name=dw q:=by unfold iM;rw [if_neg h,rY F.pnd hq]
  rw [e]
  have hl:q.nums.length=1:=by rw [(F.pok q hq).2.1,h5];rfl
  unfold dw
  rw [if_pos h5]
  obtain⟨k,nm,nums,ins,outs⟩:=q
  dsimp only at hl ⊢
  match nums,hl with
  | [m],_=>rfl
 ·rfl
theorem Og {ls:List aH} {ps:List PD} (F:xZ ls ps) {p:PD} {i:Nat} (hi:ps[i]?=some p):jV ls ps p=ps.take i ++ [fV (iM ls ps p) p] ++ ps.drop (i+1):=by
 have hlt:=List.getElem?_eq_some_iff.mp hi
 have e:ps=ps.take i ++ p:: ps.drop (i+1):=by rw [<-hlt.2,<-List.drop_eq_getElem_cons hlt.1,List.take_append_drop]
 have nd:=F.pnd
 rw [e,List.map_append,List.map_cons,List.nodup_append,List.nodup_cons] at nd
 obtain⟨_,⟨n2,_⟩,n3⟩:=nd
 have a1:(ps.take i).map (fV (iM ls ps p))=ps.take i:=by
  have:=List.map_congr_left (f:=fV (iM ls ps p)) (g:=id) fun q hq=>S8 F (List.mem_of_mem_take hq) (fun z=>n3 q.name (List.mem_map.mpr ⟨q,hq,rfl⟩) p.name List.mem_cons_self z)
  rw [this,List.map_id]
 have a2:(ps.drop (i+1)).map (fV (iM ls ps p))=ps.drop (i+1):=by
  have:=List.map_congr_left (f:=fV (iM ls ps p)) (g:=id) fun q hq=>S8 F (List.mem_of_mem_drop hq) (fun z=>n2 (by rw [<-z];exact List.mem_map.mpr ⟨q,hq,rfl⟩))
  rw [this,List.map_id]
 unfold jV
 rw [show ps.map (fV (iM ls ps p))=(ps.take i ++ p:: ps.drop (i+1)).map (fV (iM ls ps p)) from congrArg (List.map (fV (iM ls ps p))) e,List.map_append,List.map_cons,a1,a2,List.append_assoc]
 rfl
inductive wD (K:PySem.W.Frag) (vs:List V) (H:Hp) (Q:VK) (E:XK):Prop where
 | mk:∀(L P q:Addr) (ls:List aH) (ps:List PD) (p:PD),vs=[.ref L,.ref P,.ref q]->yh H L P ls ps->xZ ls ps->p∈ps->mG H (.ref q) p->2<=p.kind->km ls p=none->(∀T L' P' H',aQ H H'->H' T=some (.tup [.ref L',.ref P'])->yh H' L' P' (fW ls p) (jV ls ps p)->Q (.ref T) H')->wD K vs H Q E
noncomputable abbrev kO:List Str:=["_law_lanes", "_law_parts", "_law_part_here", "_law_kind", "_law_name", "_law_numbers", "_law_ins", "_law_outs", "_law_firsts", "_law_lane_here", "_law_room", "_law_first", "_law_heads", "_law_needs_here", "_law_given_here", "_law_at", "_law_value_here", "_law_some"]
theorem FT (T:Txt w K mg t):FO P w K mg base 2 t.yJ ["_law_lanes", "_law_parts", "_law_part_here"] (wD K):=by
 have sc:=T.sX.sc kO
 refine T.sX.F.ok sc ln (fun _ _ _ _ H vs Q E hr h=>?_)
 obtain⟨L,P,q,ls,ps,p,rfl,A,F,hp,hq,hk2,hw,k⟩:=h
 refine⟨_,(au (CZ (pv 2) (m6 rfl (bH (gN sc 3) (bH (gN sc 4) (bH (gN sc 5) (bH (gN sc 6) (bH (gN sc 7) gO)))))))
  (au (sN sc 8 gh)
  (au (fB PassesOwn.never rfl (cz (pv 0)) (m6 rfl (bH (gN sc 9) (bH (gN sc 10) (bH (gN sc 11) gO))))
   (aA (f9 hr.u1 (pv 8) (pv 9) (cY rW (by rfl) T.tE oR (aa (pv 11) ak aj)) rfl)))
  (au (sN sc 12 (fD [8] kO (bx (top 88)) rfl (cz (pv 6)) (fun _ _ _ _ _=>fC) (fun _ _ _ _ _=>(aU (vo (K:=K) rfl) (bD Ac (cG hr.u1 (pv 1) (pv 0) (fun _ _=>rfl)) (bj (aa pC ak ao))) az (fun _ _=>rfl)))))
  (au (sN sc 13 (eQ (wY T) T.oM hr (aa (pv 3) (aa (pv 12) ak aj) aj)))
  (au (sN sc 14 (eQ (wQ T) T.tZ hr (aa (pv 3) (aa (pv 5) (aa (fD [12] kO (bx (top 88)) rfl (cz (pv 13)) (fun _ _ _ _ _=>fC) (fun _ _ _ _ _=>(aU (vo (K:=K) rfl) (pv 1) (pv 0) (fun _ _=>rfl)))) ak dU) aj) aj)))
  (au (fB PassesOwn.never rfl (cz (pv 13)) (gN sc 15)
   (aA (f9 hr.u1 (pv 8) (aU aM (pv 6) (pv 15) (fun _ _=>rfl)) (lu ud (cG hr.u1 (pv 8) (aU aM (pv 6) (pv 15) (fun _ _=>rfl)) (fun _ _=>rfl)) (lU az) p8) rfl)))
  (au (fB PassesOwn.never rfl (cz (pv 14)) (m6 rfl (bH (gN sc 15) (bH (gN sc 16) gO)))
   (aA (f9 hr.u1 (pv 8) (aU aM (pv 7) (pv 15) (fun _ _=>rfl)) (bD Ac (cG hr.u1 (pv 8) (aU aM (pv 7) (pv 15) (fun _ _=>rfl)) (fun _ _=>rfl)) (bj (aa (pv 16) ak aj))) rfl)))
  (au (fU (bU (bz fQ (pv 3) bF (bT _))
   (aA (sN sc 5 (bj (aa (aU dH (aU aM (pv 14) az (fun _ _=>rfl)) az (fun _ _=>rfl)) ak aD))))
   bu))
  (au (sN sc 15 (Ah PySem.F.plainAttrs_list PySem.F.slot_list_index PySem.F.type_list_index Pb (fD [] kO (bx (top 88)) rfl (cz (pv 1)) (fun _ _ _ _ _=>fC) (fun _ _ _ _ _=>(aU (yD (K:=K) rfl) (pv 0) az (fun _ _=>rfl)))) (aa (pv 4) ak aj)))
  (au (sN sc 17 (bD Ac (bD Ac (lu ud (pv 1) p8 (lU (pv 15))) (bj (aa (bV (aa (pv 3) (aa (pv 4) (aa (pv 5) (aa (pv 6) (aa (pv 7) ak aj) aj) aj) aj) aj)) ak bN))) (lu ud (pv 1) (lU (bD eG (pv 15) az)) p8)))
  (aA (aN (bV (aa (QZ ["_law_lane_here", "_law_room", "_law_first"] [8] kO (bx (top 88)) rfl (cz (pv 0)) (fun _ _ _ _ _=>Cm (K:=K) (n:=3) rfl rfl (bH (iu (i:=0) (show(["_law_lane_here", "_law_room", "_law_first", "_law_firsts"]:List Str).Nodup by decide +kernel) rfl (Or.inl rfl) (.inr rfl)) (bH (iu (i:=1) (show(["_law_lane_here", "_law_room", "_law_first", "_law_firsts"]:List Str).Nodup by decide +kernel) rfl (Or.inl rfl) (.inr rfl)) (bH (iu (i:=2) (show(["_law_lane_here", "_law_room", "_law_first", "_law_firsts"]:List Str).Nodup by decide +kernel) rfl (Or.inl rfl) (.inr rfl)) gO)))) (fun _ _ _ _ _=>fC) (fun _ _ _ _ _=>(bV (aa (pv 0) (aa (pv 1) (aa (cG hr.u1 (pv 3) (pv 0) (fun _ _=>rfl)) ak aD) aj) aj)))) (aa (pv 17) ak aj) dU))))))))))))))),?_⟩
 have hz:sizeLine=16777216:=sizeLine_eq
 have ok:=F.pok p hp
 have l24:=F.l24
 have p16:=F.p16
 have nod:=F.whole.nod
 obtain⟨hlk,hfl⟩:=zV hw
 obtain⟨lw,hB,hv⟩:=Cy F hp hk2 hlk
 obtain⟨⟨xs,eL,aL⟩,⟨ys,eP,aP⟩⟩:=A
 have lx:=aL.length
 have ly:=aP.length
 obtain⟨q',a1,a2,a3,e,hq,q1,q2,q3⟩:=hq
 cases e
 have hO:=pJ ls p ok
 have h3i:p.ins.length<=3:=by rw [ok.2.2.1];exact yl _
 have hpl:(places p.kind (bh ls p)).length<=3:=places_len hO
 refine⟨_,rfl,q,_,rfl,fG.of hq,rfl,_,_,rfl,_,_,rfl,_,_,rfl,_,_,rfl,_,_,rfl,rfl,?_⟩
 refine fun Fd nF=>?_
 have t0:=aB (o:=.dK (aW [])) nF
 have e0:upd H Fd (.dK (aW [])) Fd=some (.dK (aW [])):=aq
 change aQ H (upd H Fd (.dK [])) at t0
 change upd H Fd (.dK []) Fd=some (.dK (aW [])) at e0
 generalize upd H Fd (.dK [])=H0 at t0 e0 ⊢
 have put:∀{H':Hp} {o:HO},aQ H H'->aQ H (upd H' Fd o):=fun {H' o} s b u e=>by rw [aG (aC e nF)];exact s _ _ e
 refine⟨_,rfl,L,rfl,⟨_,bR.of (t0 _ _ eL)⟩,?_⟩
 refine eZ (K:=K) (a:=L) (xs:=xs) (fun j σ H'=>(aQ H H'/\∃FL,BW H' Fd (ls.take j) FL)/\∃v9 v10 v11,σ=[some (.ref L),some (.ref P),some (.ref q),some (.str (cg p.kind)),some (.str p.name),some (.ref a1),some (.ref a2),some (.ref a3),some (.ref Fd),v9,v10,v11,none,none,none,none,none,none]) ⟨⟨t0,[],e0,rfl,by simp⟩,_,_,_,rfl⟩ (fun j σ H' _ h=>bR.of (h.1.1 _ _ eL)) ?_ ?_
 ·rintro j x σ H1 hx ⟨⟨s1,FL,D1⟩,v9,v10,v11,rfl⟩
  obtain⟨l,hlj,r,f,rfl,hr,hf⟩:=aL.get hx
  have hj:=(List.getElem?_eq_some_iff.mp hlj).1
  have nin:=kZ nod hlj
  have vF:cH (aW FL) (Sum.inr l.name)=none:=ie (by rw [fH,D1.fls];intro z;obtain⟨b,hb,e⟩:=List.mem_map.mp z;cases e;exact nin hb)
  have tk:ls.take (j+1)=ls.take j ++ [l]:=by rw [List.take_succ,hlj];rfl
  have lFL:FL.length<=24:=by have:=congrArg List.length D1.fls;rw [lM,List.length_take] at this;omega
  refine⟨r,_,rfl,fG.of (s1 _ _ hr),rfl,_,_,rfl,_,_,rfl,_,_,rfl,rfl,?_⟩
  refine⟨_,rfl,f,_,rfl,.inl (bR.of (s1 _ _ hf)),fun c nc=>?_⟩
  have tc:=aB (o:=.lst (l.first.map V.int)) nc
  have ec:upd H1 c (.lst (l.first.map V.int)) c=some (.lst (l.first.map V.int)):=aq
  have D2:=D1.same tc
  generalize upd H1 c (.lst (l.first.map V.int))=H2 at tc ec D2 ⊢
  refine⟨_,rfl,_,rfl,Fd,_,rfl,oN.k (k:=Sum.inr l.name) D2.firsts (by unfold aW;rw [lM];omega),?_⟩
  rw [jf _ vF]
  refine⟨⟨put (s1.trans tc),FL ++ [(l,c)],?_,by rw [List.map_append,D2.fls,tk];rfl,fun q hq=>?_⟩,_,_,_,rfl⟩
  ·rw [aq]
   unfold aW
   rw [List.map_append]
   rfl
  ·rcases List.mem_append.mp hq with h | h
   ·rw [aG (mK (D2.lists q h) D2.firsts (by intro z;cases z))];exact D2.lists q h
   ·rw [List.mem_singleton] at h
    subst h
    rw [aG (mK ec D2.firsts (by intro z;cases z))]
    exact ec
 rintro σ H4 ⟨⟨s4,FL,D4⟩,v9,v10,v11,rfl⟩
 rw [lx,List.take_length] at D4
 refine⟨_,rfl,a2,rfl,⟨_,bR.of (s4 _ _ q2)⟩,?_⟩
 refine fY (K:=K) (a:=a2) (xs:=p.ins.map V.str) (fun i ys H'=>aQ H4 H'/\ys=(p.ins.take i).map (iK ls)) (by rw [lM];omega) ⟨aQ.refl _,rfl⟩ (fun i ys H' ⟨_,e⟩=>by rw [e,lM,List.length_take];omega) (fun i ys H' _ h=>h.1.seq (bR.of (s4 _ _ q2))) ?_ ?_
 ·rintro i y ys H' hy ⟨s,rfl⟩
  rw [List.getElem?_map] at hy
  obtain⟨x,hx,rfl⟩:=Option.map_eq_some_iff.mp hy
  obtain⟨l,hl,rfl⟩:=F.inL hp (List.mem_append.mpr (.inl (List.mem_of_getElem? hx)))
  have D5:=D4.same s
  obtain⟨f,v1,v2⟩:=D5.get nod hl
  have ll:l.first.length<=199:=by obtain⟨b1,b2,b3,_⟩:=F.lok l hl;omega
  refine yes ⟨_,rfl,_,rfl,Fd,.ref f,rfl,(by rw [<-v1];exact eX.k (k:=Sum.inr l.name) D5.firsts),gw,fun u nu=>?_⟩
  have tu:=aB (o:=.lst [.non]) nu
  refine⟨f,u,_,_,rfl,rfl,tu _ _ v2,aq,by rw [lM];show l.first.length+1<=sizeLine;omega,fun w nw=>?_⟩
  refine⟨w,_,0,_,rfl,rfl,bR.of aq,S9 nod hl,s.trans (tu.trans (aB nw)),?_⟩
  rw [List.take_succ,hx,Option.toList_some,List.map_append]
  rfl
 rintro ys5 H5 ⟨s5,rfl⟩ Hd nHd
 rw [lM,List.take_length]
 have t6:=aB (o:=.lst (bh ls p)) nHd
 have eHd:upd H5 Hd (.lst (p.ins.map (iK ls))) Hd=some (.lst (bh ls p)):=aq
 change aQ H5 (upd H5 Hd (.lst (p.ins.map (iK ls)))) at t6
 have s6:=s4.trans (s5.trans t6)
 have D6:=D4.same (s5.trans t6)
 generalize upd H5 Hd (.lst (p.ins.map (iK ls)))=H6 at t6 eHd s6 D6 ⊢
 refine⟨_,rfl,_,rfl,p.kind,Hd,bh ls p,rfl,by have:=ok.1;omega,bR.of eHd,hO,fun H7 N s7' nN eN=>?_⟩
 have s7:=s6.trans s7'
 have D7:=D6.same s7'
 have eHd7:=s7' _ _ eHd
 refine⟨_,rfl,_,rfl,_,rfl,N,rfl,⟨_,bR.of eN⟩,?_⟩
 refine fY (K:=K) (a:=N) (xs:=(places p.kind (bh ls p)).map nV) (fun j ys HX=>HX=H7/\ys=((places p.kind (bh ls p)).take j).map (fun r=>((bh ls p)[r]?).getD .non)) (by rw [lM];omega) ⟨rfl,rfl⟩ (fun j ys HX ⟨_,e⟩=>by rw [e,lM,List.length_take];omega) (fun j ys HX _ ⟨e,_⟩=>by rw [e];exact bR.of eN) ?_ ?_
 ·rintro j v ys HX hv' ⟨e',rfl⟩
  subst e'
  rw [List.getElem?_map] at hv'
  obtain⟨r,hr',rfl⟩:=Option.map_eq_some_iff.mp hv'
  have hql:r <(bh ls p).length:=gU hO r (List.mem_of_getElem? hr')
  refine yes ⟨_,rfl,_,rfl,Hd,bh ls p,r,_,rfl,rfl,bR.of eHd7,aK (j:=r) (List.getElem?_eq_getElem hql),rfl,?_⟩
  rw [List.take_succ,hr',Option.toList_some,List.map_append,List.map_cons,List.map_nil,List.getElem?_eq_getElem hql]
  rfl
 rintro ys7 HX ⟨e',rfl⟩ V1 nV1
 subst e'
 rw [lM,List.take_length,hv]
 have t8:=aB (o:=.lst ((cQ ls p).map V.int)) nV1
 have eV:upd HX V1 (.lst ((cQ ls p).map V.int)) V1=some (.lst ((cQ ls p).map V.int)):=aq
 generalize upd HX V1 (.lst ((cQ ls p).map V.int))=H8 at t8 eV ⊢
 have s8:=s7.trans t8
 refine⟨p.kind,V1,a1,p.nums,cQ ls p,rfl,hk2,ok.1,bR.of (s8 _ _ q1),ok.2.1,bR.of eV,lw,hB,fun H9 Lg rs s9' nLg eLg tU=>?_⟩
 have s9:=s8.trans s9'
 have D9:=D7.same (t8.trans s9')
 have eN9:=s9' _ _ (t8 _ _ eN)
 change jz H9 rs (Fw (dj p.kind p.nums (cQ ls p) (dw p))) at tU
 have hlr:rs.length=(dj p.kind p.nums (cQ ls p) (dw p)).length:=by have:=Paired.length tU;unfold Fw at this;rw [lM] at this;exact this
 clear s9' t8 eV s8 eHd7 eHd t6 s6 D6 D7 s7 s7' D4 s4 s5 e0 t0 eN
 obtain⟨tnd,tin⟩:=Rp F hp
 have tlen:(zx ls p).length=(places p.kind (bh ls p)).length:=by unfold zx;rw [lM]
 have d9:∀{H':Hp},jR Fd H9 H'->∀{b:Addr} {u:HO},H9 b=some u->(∀ks,u≠.dK ks)->H' b=some u:=fun {H'} h {b u} e hu=>h b u (fun z=>by rw [z,D9.firsts] at e;exact hu _ (Option.some.inj e).symm) e
 have sB:∀{H':Hp},jR Fd H9 H'->aQ H H':=fun {H'} h b o e=>h b o (aC e nF) (s9 b o e)
 refine⟨_,rfl,N,rfl,⟨_,bR.of eN9⟩,?_⟩
 refine eZ (K:=K) (a:=N) (xs:=(places p.kind (bh ls p)).map nV) (fun j σ H'=>(jR Fd H9 H'/\∃FL,BW H' Fd (ls.map (gB ((zx ls p).take j))) FL)/\∃v15,σ=[some (.ref L),some (.ref P),some (.ref q),some (.str (cg p.kind)),some (.str p.name),some (.ref a1),some (.ref a2),some (.ref a3),some (.ref Fd),v9,v10,v11,some (.ref Hd),some (.ref N),some (.ref Lg),v15,none,none]) ⟨⟨jR.refl _,FL,by rw [List.take_zero,Ow];exact D9⟩,_,rfl⟩ (fun j σ H' _ h=>bR.of (d9 h.1.1 eN9 (by intro _ z;cases z))) ?_ ?_
 ·rintro j x σ H1 hx ⟨⟨b1,FL1,D1⟩,v15,rfl⟩
  rw [List.getElem?_map] at hx
  obtain⟨r,hr,rfl⟩:=Option.map_eq_some_iff.mp hx
  have hlt:r <p.ins.length:=by have:=gU hO r (List.mem_of_getElem? hr);unfold bh at this;rwa [lM] at this
  have htk:(zx ls p)[j]?=some p.ins[r]:=by unfold zx;rw [List.getElem?_map,hr];unfold qm;rw [Option.map_some,List.getElem?_eq_getElem hlt];rfl
  have nin:p.ins[r]∉(zx ls p).take j:=by
   have:=kZ (f:=id) (xs:=zx ls p) (by rw [List.map_id];exact tnd) htk
   rwa [List.map_id] at this
  obtain⟨l0,hl0,hln⟩:=F.inL hp (List.mem_append.mpr (.inl (List.getElem_mem hlt)))
  have e0:gB ((zx ls p).take j) l0=l0:=if_neg (by rw [hln];exact nin)
  have hl1:l0∈ls.map (gB ((zx ls p).take j)):=List.mem_map.mpr ⟨l0,hl0,e0⟩
  obtain⟨f,v1,v2⟩:=D1.get (by rw [xP];exact nod) hl1
  rw [hln] at v1
  have lF1:FL1.length<=24:=by have:=congrArg List.length D1.fls;rw [lM,lM] at this;omega
  have at2:Fx (p.ins.map V.str) (r:Int)=some (.str p.ins[r]):=aK (j:=r) (by rw [List.getElem?_map,List.getElem?_eq_getElem hlt];rfl)
  have q2':=d9 b1 (s9 _ _ q2) (by intro _ z;cases z)
  refine⟨_,rfl,_,rfl,_,rfl,a2,p.ins.map V.str,_,_,rfl,rfl,bR.of q2',at2,Fd,.ref f,rfl,(by rw [<-v1];exact eX.k (k:=Sum.inr p.ins[r]) D1.firsts),_,rfl,f,_,rfl,bR.of v2,fun c nc=>?_⟩
  have ecut:wk (l0.first.map V.int) (some 1) none=(l0.first.drop 1).map V.int:=by rw [List.map_drop];exact Er _ 1
  rw [ecut]
  have tc:=aB (o:=.lst ((l0.first.drop 1).map V.int)) nc
  have ec:upd H1 c (.lst ((l0.first.drop 1).map V.int)) c=some (.lst ((l0.first.drop 1).map V.int)):=aq
  have D2:=D1.same tc
  have b2:jR Fd H9 (upd H1 c (.lst ((l0.first.drop 1).map V.int))):=fun b o hb e=>tc _ _ (b1 b o hb e)
  have q2'':=tc _ _ q2'
  generalize upd H1 c (.lst ((l0.first.drop 1).map V.int))=H2 at tc ec D2 b2 q2'' ⊢
  refine⟨_,rfl,_,rfl,_,rfl,a2,p.ins.map V.str,_,_,rfl,rfl,bR.of q2'',at2,Fd,_,rfl,oN.k (k:=Sum.inr p.ins[r]) D2.firsts (by unfold aW;rw [lM];omega),?_⟩
  obtain⟨FL2,D3⟩:=D2.put (x:=p.ins[r]) (by rw [xP,<-hln];exact List.mem_map.mpr ⟨l0,hl0,rfl⟩) ec
  refine⟨⟨fun b o hb e=>by rw [aG hb];exact b2 b o hb e,FL2,?_⟩,_,rfl⟩
  rw [List.take_succ,htk,Option.toList_some]
  have:=Ot nod hl0 ((zx ls p).take j)
  rw [hln] at this
  rw [<-this]
  exact D3
 rintro σ HA ⟨⟨bA,FLA,DA⟩,v15,rfl⟩
 rw [lM,<-tlen,List.take_length] at DA
 have ndA:((ls.map (gB (zx ls p))).map (·.name)).Nodup:=by rw [xP];exact nod
 refine⟨_,rfl,Lg,rfl,⟨_,bR.of (d9 bA eLg (by intro _ z;cases z))⟩,?_⟩
 refine eZ (K:=K) (a:=Lg) (xs:=rs.map V.ref) (fun j σ H'=>(jR Fd H9 H'/\∃FL,BW H' Fd ((ls.map (gB (zx ls p))).map (jl ((lD ls p).take j))) FL)/\∃v15 v16,σ=[some (.ref L),some (.ref P),some (.ref q),some (.str (cg p.kind)),some (.str p.name),some (.ref a1),some (.ref a2),some (.ref a3),some (.ref Fd),v9,v10,v11,some (.ref Hd),some (.ref N),some (.ref Lg),v15,v16,none]) ⟨⟨bA,FLA,by rw [List.take_zero,Qh];exact DA⟩,_,_,rfl⟩ (fun j σ H' _ h=>bR.of (d9 h.1.1 eLg (by intro _ z;cases z))) ?_ ?_
 ·rintro j x σ H1 hx ⟨⟨b1,FL1,D1⟩,v15,v16,rfl⟩
  rw [List.getElem?_map] at hx
  obtain⟨r,hr,rfl⟩:=Option.map_eq_some_iff.mp hx
  have hjl:j <(dj p.kind p.nums (cQ ls p) (dw p)).length:=by have:=(List.getElem?_eq_some_iff.mp hr).1;omega
  obtain⟨pv,hpv⟩:∃pv,(dj p.kind p.nums (cQ ls p) (dw p))[j]?=some pv:=⟨_,List.getElem?_eq_getElem hjl⟩
  have hr2:H9 r=some (.tup [.int pv.1,.int pv.2]):=by
   obtain⟨vs2,z1,z2⟩:=pH tU hr
   unfold Fw at z1
   rw [List.getElem?_map,hpv] at z1
   cases z1
   exact z2
  obtain⟨o,ho1,ho2⟩:=sO hk2 ok.1 p.nums (cQ ls p) (dw p) pv (List.mem_of_getElem? hpv)
  have ho3:o <p.outs.length:=by rw [ok.2.2.2.1];exact ho2
  have hg:(lD ls p)[j]?=some (p.outs[o],pv.2):=by unfold lD;rw [List.getElem?_map,hpv];unfold qm;rw [Option.map_some,ho1,Int.toNat_natCast,List.getElem?_eq_getElem ho3];rfl
  have at3:Fx (p.outs.map V.str) pv.1=some (.str p.outs[o]):=by rw [ho1];exact aK (j:=o) (by rw [List.getElem?_map,List.getElem?_eq_getElem ho3];rfl)
  obtain⟨lo,hlo,hlon⟩:=F.inL hp (List.mem_append.mpr (.inr (List.getElem_mem ho3)))
  have hl0:gB (zx ls p) lo∈ls.map (gB (zx ls p)):=List.mem_map.mpr ⟨lo,hlo,rfl⟩
  have hln:(gB (zx ls p) lo).name=p.outs[o]:=by rw [sG];exact hlon
  generalize gB (zx ls p) lo=l0 at hl0 hln
  obtain⟨f,v1,v2⟩:=D1.get (by rw [Hr];exact ndA) (List.mem_map.mpr ⟨l0,hl0,rfl⟩)
  have v1:cH (aW FL1) (Sum.inr p.outs[o])=some (.ref f):=by rw [<-hln];exact v1
  have lF1:FL1.length<=24:=by have:=congrArg List.length D1.fls;rw [lM,lM,lM] at this;omega
  have q3':=d9 b1 (s9 _ _ q3) (by intro _ z;cases z)
  have lfl:(jl ((lD ls p).take j) l0).first.length<=1000:=by
   obtain⟨lq,hlq,rfl⟩:=List.mem_map.mp hl0
   obtain⟨b1',b2',b3',_⟩:=F.lok lq hlq
   have h5:(gB (zx ls p) lq).first.length<=lq.first.length:=by
    unfold gB
    by_cases h:lq.name∈zx ls p
    ·rw [if_pos h,List.length_drop];omega
    ·rw [if_neg h];exact Nat.le_refl _
   unfold jl
   rw [lP,lM]
   have h4:=List.length_filter_le (fun q:Str×Int=>decide (q.1=(gB (zx ls p) lq).name)) ((lD ls p).take j)
   have h6:(lD ls p).length<=2:=by unfold lD;rw [lM];exact CW _ _ _ _
   rw [List.length_take] at h4
   omega
  refine⟨r,_,rfl,fG.of (d9 b1 hr2 (by intro _ z;cases z)),rfl,_,_,rfl,_,_,rfl,rfl,?_⟩
  refine⟨_,rfl,_,rfl,_,rfl,a3,p.outs.map V.str,_,_,rfl,rfl,bR.of q3',at3,Fd,.ref f,rfl,(by rw [<-v1];exact eX.k (k:=Sum.inr p.outs[o]) D1.firsts),_,rfl,gw,fun u nu=>?_⟩
  have tu:=aB (o:=.lst [.int pv.2]) nu
  refine⟨f,u,_,_,rfl,rfl,tu _ _ v2,aq,by rw [lM];show(jl ((lD ls p).take j) l0).first.length+1<=sizeLine;omega,fun c nc=>?_⟩
  have tc:=tu.trans (aB (o:=.lst ((jl ((lD ls p).take j) l0).first.map V.int ++ [.int pv.2])) nc)
  have ec:upd (upd H1 u (.lst [.int pv.2])) c (.lst ((jl ((lD ls p).take j) l0).first.map V.int ++ [.int pv.2])) c=some (.lst (((jl ((lD ls p).take j) l0).first ++ [pv.2]).map V.int)):=by rw [List.map_append];exact aq
  generalize upd (upd H1 u (.lst [.int pv.2])) c (.lst ((jl ((lD ls p).take j) l0).first.map V.int ++ [.int pv.2]))=H2 at tc ec ⊢
  have D2:=D1.same tc
  have b2:jR Fd H9 H2:=fun b o hb e=>tc _ _ (b1 b o hb e)
  refine⟨_,rfl,_,rfl,_,rfl,a3,p.outs.map V.str,_,_,rfl,rfl,bR.of (tc _ _ q3'),at3,Fd,_,rfl,oN.k (k:=Sum.inr p.outs[o]) D2.firsts (by unfold aW;rw [lM];omega),?_⟩
  obtain⟨FL2,D3⟩:=D2.put (x:=p.outs[o]) (by rw [Hr,<-hln];exact List.mem_map.mpr ⟨l0,hl0,rfl⟩) ec
  refine⟨⟨fun b o hb e=>by rw [aG hb];exact b2 b o hb e,FL2,?_⟩,_,_,rfl⟩
  rw [List.take_succ,hg,Option.toList_some]
  have:=QQ ndA hl0 ((lD ls p).take j) pv.2
  rw [hln] at this
  rw [<-this]
  exact D3
 rintro σ HB ⟨⟨bB,FLB,DB⟩,v15b,v16b,rfl⟩
 have lgv:(lD ls p).length=rs.length:=by unfold lD;rw [lM,hlr]
 rw [lM,<-lgv,List.take_length,Qi F hp hlk] at DB
 refine⟨fun σ H'=>∃a1' v15 v16,σ=[some (.ref L),some (.ref P),some (.ref q),some (.str (cg p.kind)),some (.str p.name),some (.ref a1'),some (.ref a2),some (.ref a3),some (.ref Fd),v9,v10,v11,some (.ref Hd),some (.ref N),some (.ref Lg),v15,v16,none]/\jR Fd H9 H'/\BW H' Fd (fW ls p) FLB/\H' a1'=some (.lst ((fV (iM ls ps p) p).nums.map V.int)),?_,?_⟩
 ·refine⟨_,rfl,rfl,_,rfl,lz (fun e=>?_) (fun e=>?_)⟩
  ·have h5:p.kind=5:=(Rz (by have:=ok.1;omega)).mp (by simpa using of_decide_eq_true e)
   have ew:dj p.kind p.nums (cQ ls p) (dw p)=[(0,(dw p+g0 (cQ ls p)) % 1000000000)]:=by rw [h5];rfl
   have em:(fV (iM ls ps p) p).nums=[(dw p+g0 (cQ ls p)) % 1000000000]:=by
    unfold fV
    rw [if_pos h5]
    unfold iM iR
    rw [if_pos rfl,if_pos h5]
   rw [ew] at tU hlr
   obtain⟨r0,rfl⟩:∃r0,rs=[r0]:=by
    match rs,hlr with
    | [r0],_=>exact⟨r0,rfl⟩
   obtain⟨vs2,z1,z2⟩:=pH tU (j:=0) rfl
   cases z1
   refine⟨_,rfl,Lg,_,0,_,rfl,rfl,bR.of (d9 bB eLg (by intro _ z;cases z)),aK (j:=0) rfl,r0,_,1,_,rfl,rfl,fG.of (d9 bB z2 (by intro _ z;cases z)),aK (j:=1) rfl,gw,fun u nu=>?_⟩
   have tu:=aB (o:=.lst [.int ((dw p+g0 (cQ ls p)) % 1000000000)]) nu
   exact⟨u,_,_,rfl,fun b o hb e=>tu _ _ (bB b o hb e),DB.same tu,by rw [em];exact aq⟩
  ·have h5:p.kind≠5:=fun z=>e (decide_eq_true (by rw [z];rfl))
   refine⟨a1,_,_,rfl,bB,DB,?_⟩
   rw [show fV (iM ls ps p) p=p from if_neg h5]
   exact d9 bB (s9 _ _ q1) (by intro _ z;cases z)
 rintro σ HC ⟨a1',v15c,v16c,rfl,bC,DC,e1'⟩
 have sC:=sB bC
 have aP0:=aP.imp fun _ _ h=>mG.same h sC
 have eP0:=sC _ _ eP
 have eL0:=sC _ _ eL
 have aL0:=aL.imp fun _ _ h=>nH.same h sC
 have q2C:=sC _ _ q2
 have q3C:=sC _ _ q3
 clear d9 bB bC DB DA bA D9 eN9 eLg tU hlr
 refine⟨_,rfl,P,rfl,⟨_,bR.of eP0⟩,?_⟩
 refine fY (K:=K) (a:=P) (xs:=ys) (fun i zs H9=>H9=HC/\zs=((ps.take i).map (·.name)).map V.str) (by omega) ⟨rfl,rfl⟩ (fun i zs H9 ⟨_,e⟩=>by rw [e,lM,lM,List.length_take];omega) (fun i zs H9 _ ⟨e,_⟩=>by rw [e];exact bR.of eP0) ?_ ?_
 ·rintro i y zs H9 hy ⟨e9,rfl⟩
  subst e9
  obtain⟨p',hpi,q',b1,b2,b3,rfl,hq',_⟩:=aP0.get hy
  refine yes ⟨_,rfl,q',_,1,_,rfl,rfl,fG.of hq',aK (j:=1) rfl,rfl,?_⟩
  rw [List.take_succ,hpi,Option.toList_some,List.map_append,List.map_append]
  rfl
 rintro zs HD ⟨e9,rfl⟩ Pn nPn
 subst e9
 rw [ly,List.take_length]
 have tD:=aB (o:=.lst ((ps.map (·.name)).map V.str)) nPn
 have ePn:upd HD Pn (.lst ((ps.map (·.name)).map V.str)) Pn=some (.lst ((ps.map (·.name)).map V.str)):=aq
 generalize upd HD Pn (.lst ((ps.map (·.name)).map V.str))=HE at tD ePn ⊢
 obtain⟨i,hi,ei⟩:=List.mem_iff_getElem.mp hp
 have hip:ps[i]?=some p:=by rw [List.getElem?_eq_getElem hi,ei]
 refine⟨.inl ⟨rfl,_,bR.of ePn⟩,_,rfl,Pn,ps.map (·.name),p.name,i,rfl,rfl,ePn,by rw [List.getElem?_map,hip];rfl,fun m y hm hy=>?_,?_⟩
 ·intro z
  have hm2:=(List.getElem?_eq_some_iff.mp hy)
  have:(ps.map (·.name))[m]'hm2.1=(ps.map (·.name))[i]'(by rw [lM];exact hi):=by rw [hm2.2,z,List.getElem_map,ei]
  have:=(List.getElem_inj F.pnd).mp this
  omega
 refine⟨_,rfl,_,rfl,_,rfl,P,ys,rfl,bR.of (tD _ _ eP0),fun S1 n1=>?_⟩
 rw [QC]
 have t1:=aB (o:=.lst (ys.take i)) n1
 have x1:upd HE S1 (.lst (ys.take i)) S1=some (.lst (ys.take i)):=aq
 have s1:=tD.trans t1
 generalize upd HE S1 (.lst (ys.take i))=HF at t1 x1 s1 ⊢
 refine⟨_,rfl,_,rfl,_,rfl,_,rfl,_,rfl,gw,fun r nr=>⟨gw,fun u nu=>?_⟩⟩
 have t2:=aB (o:=.tup [.str (cg p.kind),.str p.name,.ref a1',.ref a2,.ref a3]) nr
 have x2:upd HF r (.tup [.str (cg p.kind),.str p.name,.ref a1',.ref a2,.ref a3]) r=some (.tup [.str (cg p.kind),.str p.name,.ref a1',.ref a2,.ref a3]):=aq
 generalize upd HF r (.tup [.str (cg p.kind),.str p.name,.ref a1',.ref a2,.ref a3])=HG at t2 x2 nu ⊢
 have t3:=aB (o:=.lst [.ref r]) nu
 have x3:upd HG u (.lst [.ref r]) u=some (.lst [.ref r]):=aq
 generalize upd HG u (.lst [.ref r])=HI at t3 x3 ⊢
 refine⟨S1,u,_,_,rfl,rfl,t3 _ _ (t2 _ _ x1),x3,by rw [List.length_take,List.length_singleton];omega,fun w nw=>?_⟩
 have t4:=aB (o:=.lst (ys.take i ++ [.ref r])) nw
 have x4:upd HI w (.lst (ys.take i ++ [.ref r])) w=some (.lst (ys.take i ++ [.ref r])):=aq
 generalize upd HI w (.lst (ys.take i ++ [.ref r]))=HJ at t4 x4 ⊢
 have s4:=s1.trans (t2.trans (t3.trans t4))
 refine⟨_,rfl,_,rfl,_,_,rfl,rfl,_,rfl,P,ys,rfl,bR.of (s4 _ _ eP0),fun S2 n2=>?_⟩
 dsimp only
 rw [show((i:Int)+1)=((i+1:Nat):Int) by omega,Er]
 have t5:=aB (o:=.lst (ys.drop (i+1))) n2
 have x5:upd HJ S2 (.lst (ys.drop (i+1))) S2=some (.lst (ys.drop (i+1))):=aq
 generalize upd HJ S2 (.lst (ys.drop (i+1)))=HK at t5 x5 ⊢
 refine⟨w,S2,_,_,rfl,rfl,t5 _ _ x4,x5,by rw [lP,List.length_take,List.length_singleton,List.length_drop];omega,fun Pz nz=>?_⟩
 have t6:=aB (o:=.lst (ys.take i ++ [.ref r] ++ ys.drop (i+1))) nz
 have x6:upd HK Pz (.lst (ys.take i ++ [.ref r] ++ ys.drop (i+1))) Pz=some (.lst (ys.take i ++ [.ref r] ++ ys.drop (i+1))):=aq
 have s6:=s4.trans (t5.trans t6)
 have sr:=t3.trans (t4.trans (t5.trans t6))
 generalize upd HK Pz (.lst (ys.take i ++ [.ref r] ++ ys.drop (i+1)))=HL at t6 x6 s6 sr ⊢
 have aR:gY (mG HL) (ys.take i ++ [.ref r] ++ ys.drop (i+1)) (jV ls ps p):=by
  rw [Og F hip]
  have b0:=aP0.imp fun _ _ h=>mG.same h s6
  obtain⟨m1,m2,m3,m4⟩:=pB (iM ls ps p) p
  refine((b0.take i).app (.cons ⟨r,a1',a2,a3,rfl,by rw [m1,m2];exact sr _ _ x2,s6 _ _ e1',by rw [m3];exact s6 _ _ q2C,by rw [m4];exact s6 _ _ q3C⟩ .nil)).app (b0.drop (i+1))
 have DL:=DC.same s6
 have aLL:=aL0.imp fun _ _ h=>nH.same h s6
 clear t1 t2 t3 t4 t5 t6 x1 x2 x3 x4 x5 s1 s4 sr
 refine⟨_,rfl,L,rfl,⟨_,bR.of (s6 _ _ eL0)⟩,?_⟩
 have ndL:((fW ls p).map (·.name)).Nodup:=by
  have:(fW ls p).map (·.name)=ls.map (·.name):=by unfold fW;rw [List.map_map,List.map_map];rfl
  rw [this]
  exact nod
 refine sy (K:=K) (a:=L) (xs:=xs) (fun j zs H'=>aQ HL H'/\zs.length<=j/\gY (nH H') zs ((fW ls p).take j)) (by omega) ⟨aQ.refl _,Nat.le_refl _,.nil⟩ (fun j zs H' h=>h.2.1) (fun j zs H' _ h=>h.1.seq (bR.of (s6 _ _ eL0))) ?_ ?_
 ·rintro j x zs H' hx ⟨s,hl',hA⟩
  obtain⟨l,hlj,r',f',rfl,hr',hf'⟩:=aLL.get hx
  have hlj':(fW ls p)[j]?=some (Kq (fun x=>if x∈zx ls p then 1 else 0) (jl (lD ls p) l)):=by unfold fW;rw [List.getElem?_map,List.getElem?_map,hlj];rfl
  obtain⟨f,v1,v2⟩:=(DL.same s).get ndL (List.mem_of_getElem? hlj')
  have v1:cH (aW FLB) (Sum.inr l.name)=some (.ref f):=v1
  refine⟨r',_,rfl,fG.of (s _ _ hr'),rfl,_,_,rfl,_,_,rfl,_,_,rfl,rfl,rfl,yes ?_⟩
  refine⟨_,rfl,_,rfl,_,rfl,_,rfl,Fd,.ref f,rfl,(by rw [<-v1];exact eX.k (k:=Sum.inr l.name) (DL.same s).firsts),gw,fun u nu=>?_⟩
  have tu:=aB (o:=.tup [.str l.name,.int l.room,.ref f]) nu
  refine⟨s.trans tu,by rw [lP,List.length_singleton];omega,?_⟩
  rw [List.take_succ,hlj',Option.toList_some]
  exact(hA.imp fun _ _ h=>nH.same h tu).app (.cons ⟨u,f,rfl,aq,tu _ _ v2⟩ .nil)
 rintro zs HM ⟨sM,hl',hA⟩ Lz nLz
 have ll:(fW ls p).length=xs.length:=by unfold fW;rw [lM,lM,lx]
 rw [<-ll,List.take_length] at hA
 have tz:=aB (o:=.lst zs) nLz
 have xz:upd HM Lz (.lst zs) Lz=some (.lst zs):=aq
 generalize upd HM Lz (.lst zs)=HN at tz xz ⊢
 refine⟨_,rfl,gw,fun Tt nT=>?_⟩
 have tT:=aB (o:=.tup [.ref Lz,.ref Pz]) nT
 have sz:=sM.trans (tz.trans tT)
 exact k Tt Lz Pz _ (sC.trans (s6.trans sz)) aq ⟨⟨zs,tT _ _ xz,hA.imp fun _ _ h=>nH.same h (tz.trans tT)⟩,⟨_,sz _ _ x6,aR.imp fun _ _ h=>mG.same h sz⟩⟩
noncomputable def wz (ls:List aH) (ps:List PD) (x:Str):Option (Nat×Str):=match ps.find? fun p=>decide (p.name=x) with
 | some p=>ww ls p
 | none=>some (0,x)
theorem zj {ls:List aH} {ps:List PD} (nd:(ps.map (·.name)).Nodup) {p:PD} (hp:p∈ps):wz ls ps p.name=ww ls p:=by unfold wz;rw [find_name nd hp]
theorem Nu {ls:List aH} {ps:List PD} {x:Str} (h:x∉ps.map (·.name)):wz ls ps x=some (0,x):=by
 unfold wz
 rw [show(ps.find? fun p=>decide (p.name=x))=none from List.find?_eq_none.mpr fun p hp z=>h (List.mem_map.mpr ⟨p,hp,of_decide_eq_true z⟩)]
inductive xG (K:PySem.W.Frag) (t:lA) (vs:List V) (H:Hp) (Q:VK) (E:XK):Prop where
 | mk:∀(n:Addr) (ls:List aH) (ps:List PD) (x:Str),vs=[.ref n,.str x]->jt K t H n ls ps->(∀H' r f g,aQ H H'->H' r=some (.lst [f,g])->Jy H' g (wz ls ps x)->(wz ls ps x=none->∃p∈ps,∃n',p.name=x/\f=.ref n'/\jt K t H' n' (fW ls p) (jV ls ps p))->Q (.ref r) H')->xG K t vs H Q E
theorem FQ (T:Txt w K mg t):FO P w K mg base 10 t.yL ["_law_net_one", "_law_name"] (xG K t):=by
 have sc:=T.tK.sc ["_law_net_one", "_law_name", "_law_found", "_law_told", "e"]
 refine T.tK.F.ok sc ln (fun _ _ _ _ H vs Q E hr h=>?_)
 obtain⟨n,ls,ps,x,rfl,N,k⟩:=h
 refine⟨_,(au (sN sc 2 pC)
  (au (sN sc 3 pC)
  (au (fU (Uu rfl rfl rfl (fun _ _ _ hx=>(aA (sN sc 2 (SM (Ce T) (hr.mono (by decide)) (by rfl) T.je.m T.je.F.kp T.je.b hx (aa (pv 0) (aa (pv 1) ak aj) aj)))))
   (Ug (K:=K) (i:=4) rfl sc.nd rfl rfl (by rfl) T.zO T.O6 (fun _=>(aA (sN sc 3 (bj (aa bF (aa (Cu (K:=K) rfl (pv 4) rfl) ak aO) ao)))))
   (Ug (K:=K) (i:=4) rfl sc.nd rfl rfl (by rfl) T.Gg T.Ph (fun _=>(aA (sN sc 3 (bj (aa bF (aa (Cu (K:=K) rfl (pv 4) rfl) ak aO) ao)))))
   (Ug (K:=K) (i:=4) rfl sc.nd rfl rfl (by rfl) T.Ke T.Qu (fun _=>(aA (sN sc 3 (bj (aa bF (aa (Cu (K:=K) rfl (pv 4) rfl) ak aO) ao)))))
   (Ug (K:=K) (i:=4) rfl sc.nd rfl rfl (by rfl) T.Ny T.U4 (fun _=>(au (sN sc 3 (bj (aa bF (aa (Cu (K:=K) rfl (pv 4) rfl) ak aO) ao)))
   (aA (fU (bU (lL (jL (bJ (Pq (K:=K) rfl) (by rfl) T.jY jE (aa (pv 4) (aa (Cz (v:=.ref _) (by rfl) T.j0 rfl) ak aj) aj))))
    (aA (sN sc 3 (bj ak)))
    bu)))))
   WW))))))
  (aA (aN (bj (aa (pv 2) (aa (pv 3) ak aj) aj))))))),?_⟩
 have hz:sizeLine=16777216:=sizeLine_eq
 have F:xZ ls ps:=by obtain⟨_,_,_,_,_,_,_,_,_,Wn⟩:=N;exact Wn.fit
 refine⟨fun σ H'=>∃f g,σ=[some (.ref n),some (.str x),some f,some g,none]/\aQ H H'/\Jy H' g (wz ls ps x)/\(wz ls ps x=none->∃p∈ps,∃n',p.name=x/\f=.ref n'/\jt K t H' n' (fW ls p) (jV ls ps p)),?_,?_⟩
 rotate_left
 ·rintro σ H' ⟨f,g,rfl,s',hg,hf⟩
  refine⟨_,rfl,_,rfl,gw,fun r nr=>?_⟩
  have tr:=aB (o:=.lst [f,g]) nr
  exact k _ r f g (s'.trans tr) aq (hg.same tr) fun h0=>by
   obtain⟨p,hp,n',e1,e2,N'⟩:=hf h0
   exact⟨p,hp,n',e1,e2,N'.same tr⟩
 refine⟨fun σ' cls dd H'=>σ'=[some (.ref n),some (.str x),some .non,some .non,none]/\aQ H H'/\∃dx c z,c<=3/\wz ls ps x=some (c,z)/\dd=some dx/\cls=.ref (Yv t c)/\H' dx=some (.xd [(Yh c,.str z)]),?_,?_⟩
 ·rintro σ' cls dd H' ⟨rfl,s',dx,c,z,hc,hd,rfl,rfl,ed⟩
  have fin:∀(y u:Addr) (v:HO),H' y=none->(upd H' y v) u=none->∃f g,([some (.ref n),some (.str x),some .non,some (.ref u),none]:St)=[some (.ref n),some (.str x),some f,some g,none]/\aQ H (upd (upd H' y v) u (.lst [.str (K6 c),.str z]))/\Jy (upd (upd H' y v) u (.lst [.str (K6 c),.str z])) g (wz ls ps x)/\(wz ls ps x=none->∃p∈ps,∃n',p.name=x/\f=.ref n'/\jt K t (upd (upd H' y v) u (.lst [.str (K6 c),.str z])) n' (fW ls p) (jV ls ps p)):=fun y u v ny nu=>by
   rw [hd]
   exact⟨_,_,rfl,s'.trans ((aB ny).trans (aB nu)),⟨u,rfl,aq⟩,by intro z';cases z'⟩
  obtain rfl | rfl | rfl | rfl:c=0∨c=1∨c=2∨c=3:=by omega
  ·refine .inl ⟨rfl,fun y ny=>?_⟩
   have e1:(upd H' y (caught y t.eY (some dx))) dx=some (.xd [("name",.str z)]):=by rw [aG (aC ed ny)];exact ed
   refine⟨_,rfl,y,_,dx,_,_,rfl,aq,e1,T.GX,T.Gq,rfl,gw,fun u nu=>?_⟩
   exact fin y u _ ny nu
  ·refine .inr ⟨_,rfl,T.zF,.inl ⟨rfl,fun y ny=>?_⟩⟩
   have e1:(upd H' y (caught y t.iC (some dx))) dx=some (.xd [("name",.str z)]):=by rw [aG (aC ed ny)];exact ed
   refine⟨_,rfl,y,_,dx,_,_,rfl,aq,e1,T.Gj,T.Hq,rfl,gw,fun u nu=>?_⟩
   exact fin y u _ ny nu
  ·refine .inr ⟨_,rfl,T.BR,.inr ⟨_,rfl,T.BZ,.inl ⟨rfl,fun y ny=>?_⟩⟩⟩
   have e1:(upd H' y (caught y t.jo (some dx))) dx=some (.xd [("lane",.str z)]):=by rw [aG (aC ed ny)];exact ed
   refine⟨_,rfl,y,_,dx,_,_,rfl,aq,e1,T.KY,T.KJ,rfl,gw,fun u nu=>?_⟩
   exact fin y u _ ny nu
  ·refine .inr ⟨_,rfl,T.CN,.inr ⟨_,rfl,T.CQ,.inr ⟨_,rfl,T.FZ,.inl ⟨rfl,fun y ny=>?_⟩⟩⟩⟩
   have e1:(upd H' y (caught y t.jC (some dx))) dx=some (.xd [("lane",.str z)]):=by rw [aG (aC ed ny)];exact ed
   refine⟨_,rfl,y,_,dx,_,_,rfl,aq,e1,T.Jb,T.N5,rfl,gw,fun u nu=>?_⟩
   have ey:upd (upd H' y (caught y t.jC (some dx))) u (.lst [.str "full",.str z]) y=some (caught y t.jC (some dx)):=aB nu _ _ aq
   refine⟨_,⟨_,rfl,y,_,some dx,_,true,rfl,ey,T.Jb.xc,T.yE,_,rfl,fc ?_⟩,fun _ _ h=>h⟩
   exact fin y u _ ny nu
 ·refine⟨_,rfl,_,rfl,n,ls,ps,x,rfl,N,fun hx dx H' s' ed=>⟨rfl,s',dx,0,x,by omega,Nu hx,rfl,rfl,ed⟩,fun p hp hpx=>?_⟩
  subst hpx
  refine⟨fun c y hd dx H' s' ed=>⟨rfl,s',dx,c,y,?_,(zj F.pnd hp).trans hd,rfl,rfl,ed⟩,fun hd H' n' s' N'=>?_⟩
  ·unfold ww at hd
   split at hd
   ·cases hd;omega
   ·split at hd
    ·cases hd;split <;> omega
    ·cases hd
  ·have e0:=(zj F.pnd hp).trans hd
   refine⟨_,_,rfl,s',?_,fun _=>⟨p,hp,n',rfl,rfl,N'⟩⟩
   rw [e0]
   rfl
theorem Q7 (xs:List V) (a b:Nat):wk xs (some (a:Int)) (some (b:Int))=(xs.drop (min a xs.length)).take (min b xs.length - min a xs.length):=by
 unfold wk
 rw [HT.vQ,HT.vQ]
theorem U5 {ls:List aH} {ps:List PD} (F:xZ ls ps) {p:PD} (hp:p∈ps) {c:Nat} {y:Str} (h:ww ls p=some (c,y)):nameB y=true:=by
 have nm:∀x∈p.ins ++ p.outs,nameB x=true:=fun x hx=>by
  obtain⟨l,hl,rfl⟩:=F.inL hp hx
  exact F.lnm l hl
 by_cases hk:p.kind <2
 ·have:ww ls p=some (1,p.name):=if_pos hk
  rw [this] at h
  cases h
  exact F.pnm p hp
 ·have hk2:2<=p.kind:=by omega
  rcases Jf p.kind p.ins (bh ls p) with hlk | ⟨x,hlk⟩
  ·rw [JZ hk2 hlk] at h
   rcases IK ls (lD ls p) with hfl | ⟨x,hfl⟩
   ·rw [hfl] at h;cases h
   ·rw [hfl] at h
    cases h
    unfold mQ at hfl
    split at hfl
    ·rename_i q hq
     cases hfl
     exact nm _ (List.mem_append.mpr (.inr (RD F hp hk2 q (List.mem_of_find?_eq_some hq))))
    ·cases hfl
  ·rw [Ko hk2 hlk] at h
   cases h
   unfold dM at hlk
   split at hlk
   ·rename_i q _
    cases e:p.ins[q]? with
    | none=>rw [e] at hlk;cases hlk
    | some z=>
     rw [e] at hlk
     cases hlk
     exact nm _ (List.mem_append.mpr (.inl (List.mem_of_getElem? e)))
   ·cases hlk
theorem Tn {ls:List aH} {ps:List PD} (F:xZ ls ps) {x:Str} (hx:nameB x=true):∃d,(∀(H:Hp) (v:V),Jy H v (wz ls ps x)->Dt K H v d)/\Gd 1 d:=by
 cases hd:wz ls ps x with
 | none=>exact⟨.none,fun H v h=>by rw [show v=.non from h];exact .non,by simp [PyData.eqv],by simp [PyData.canLay0],by simp [PyData.depth]⟩
 | some cy=>
  obtain⟨c,y⟩:=cy
  have hy:nameB y=true:=by
   unfold wz at hd
   split at hd
   ·rename_i p hf
    exact U5 F (List.mem_of_find?_eq_some hf) hd
   ·cases hd;exact hx
  have ht:∀c,PyData.strOk (K6 c)=true:=fun c=>by unfold K6;split <;> decide +kernel
  refine⟨.list [.str (K6 c),.str y],fun H v h=>?_,.list fun d hd=>?_⟩
  ·obtain⟨q,rfl,hq⟩:=h
   exact .list (bR.of hq) (.cons (.str _) (.cons (.str _) .nil))
  ·simp only [List.mem_cons,List.not_mem_nil,or_false] at hd
   rcases hd with rfl | rfl
   ·exact .str 0 (ht c)
   ·exact .str 0 (Ci hy)
inductive Dg (K:PySem.W.Frag) (vs:List V) (H:Hp) (Q:VK) (E:XK):Prop where
 | mk:∀(a:Addr) (ns:List Int),vs=[.ref a]->bR K H a (ns.map V.int)->ns.length<=63->(∀H',Q (.bl true) H')->Dg K vs H Q E
noncomputable abbrev Rr:List Str:=["_law_script", "_law_lanes", "_law_parts", "_law_net_one", "_law_k", "_law_cell_here", "_law_part_here", "_law_name", "_law_due_here", "_law_found", "_law_told"]
theorem Ww (T:Txt w K mg t):FO P w K mg base 11 t.Vr ["_law_script"] (Dg K):=by
 have sc:=T.Nj.sc Rr
 refine T.Nj.F.ok sc ln (fun _ _ _ _ H vs Q E hr h=>?_)
 obtain⟨a,ns,rfl,hS,hlen,k⟩:=h
 refine⟨_,(au (CZ (eQ (JX T) T.xY hr (aa (pv 0) (aa az (aa (bD cL (eQ (nZ T) T.jN hr (aa (pv 0) (aa az ak ao) aj)) az) (aa nM ak ao) bY) ao) aj)) (m6 rfl (bH (gN sc 1) (bH (gN sc 2) gO))))
  (au (sN sc 3 (gJ (T.bc.M T.gQ) (uh T) (hr.mono (by decide)) (by rfl) T.bc.m T.gQ.b .nil fj (aa (pv 1) (aa (pv 2) ak aj) aj)))
  (au (fB PassesOwn.never rfl (TQ rfl T.JM (aa (lu ud (pv 0) (lU az) (lU az)) ak aD)) (m6 rfl (bH (gN sc 4) (bH (gN sc 5) gO)))
   (au (sN sc 6 (aU aM (pv 2) (bD cL (eQ (bG T) T.bI hr (aa (pv 5) (aa az ak ao) aj)) (bJ cC (by rfl) T.gA d7 (aa (pv 2) ak aj))) (fun _ _=>rfl)))
   (au (sN sc 7 (aU dH (pv 6) az (fun _ _=>rfl)))
   (au (sN sc 8 (eQ (Ao T) T.tH hr (aa (pv 1) (aa (pv 6) ak aj) aj)))
   (au (fU (bU (bz fQ (bD cL (eQ (bG T) T.bI hr (aa (pv 5) (aa az ak ao) aj)) az) az (bT _))
    (au (sN sc 7 (eQ (kY T) T.iW hr (aa (pv 5) (aa (pv 4) ak aj) aj)))
    (aA (fU (bU (bz oJ (pv 7) (fD [] Rr (bx (top 90)) rfl (cz (pv 2)) (fun _ _ _ _ _=>fC) (fun _ _ _ _ _=>(aU (yD (K:=K) rfl) (pv 0) az (fun _ _=>rfl)))) (by with_unfolding_all rfl))
     (aA (sN sc 8 (bj (aa bF (aa (pv 7) ak aj) ao))))
     (au (sN sc 6 (aU aM (fD [7] Rr (bx (top 90)) rfl (cz (pv 2)) (fun _ _ _ _ _=>(RG (bz fQ (aU (yD (K:=K) rfl) (pv 0) az (fun _ _=>rfl)) (pv 1) (bT _)))) (fun _ _ _ _ _=>(pv 0))) az (fun _ _=>rfl)))
     (aA (sN sc 8 (eQ (Ao T) T.tH hr (aa (pv 1) (aa (pv 6) ak aj) aj)))))))))
    bu))
   (au (CZ (eQ (FQ T) T.tK hr (aa (pv 3) (aa (pv 7) ak aj) aj)) (WL rfl (bH (gN sc 9) (bH (gN sc 10) gO))))
   (au (bU (PW.pt (Aq (bz (Mi hr.units) (Q5 (pv 3) T.bc T.bc.me.2.2.2.2.2.2.2.2.2.1 (Bw T) T.sH hr) (eQ (p7 T) T.jn hr (aa (pv 1) (aa (pv 2) ak aj) aj)) (bT _)) (vI (bz (Mi hr.units) (pv 10) (pv 8) (bT _)))))
    (aA (aN nM))
    bu)
   (aA (fU (bU (iH (xO (pv 8)))
    (au (CZ (eQ (FT T) T.sX hr (aa (pv 1) (aa (pv 2) (aa (pv 6) ak aj) aj) aj)) (m6 rfl (bH (gN sc 1) (bH (gN sc 2) gO))))
    (au (bU (bz (Mi hr.units) (Q5 (pv 9) T.bc T.bc.me.2.2.2.2.2.2.2.2.2.1 (Bw T) T.sH hr) (eQ (p7 T) T.jn hr (aa (pv 1) (aa (pv 2) ak aj) aj)) (bT _))
     (aA (aN nM))
     bu)
    (aA (sN sc 3 (pv 9)))))
    bu))))))))))
  (aA (aN nM))))),?_⟩
 have hz:sizeLine=16777216:=sizeLine_eq
 have c0:=Int.emod_nonneg (jQ ns 0) (show(5:Int)≠0 by decide)
 have c1:=Int.emod_lt_of_pos (jQ ns 0) (show(0:Int) <5 by decide)
 obtain⟨st,hst,hst4⟩:∃st:Nat,jQ ns 0 % 5=(st:Int)/\st<=4:=⟨(jQ ns 0 % 5).toNat,by omega,by omega⟩
 refine⟨_,rfl,_,rfl,a,ns,0,rfl,hS,_,_,rfl,rfl,by show(0:Int) <5;decide,?_⟩
 dsimp only
 rw [hst]
 refine⟨a,ns,2,st,true,rfl,hS,hst4,fun T' L P ls ps H2 s2 nL nP nLP eT A D=>?_⟩
 refine⟨T',_,rfl,fG.of eT,rfl,_,_,rfl,_,_,rfl,rfl,?_⟩
 have hF:=D.fit
 clear eT nL nP nLP D
 refine⟨_,rfl,_,rfl,fun n dxn nn ndn nen=>?_⟩
 have g4:aQ H2 (upd (upd H2 dxn (.own n)) n (.ins t.dY dxn [])):=fun b o e=>by rw [aG (aC e nn),aG (aC e ndn)];exact e
 have hH:Hand K (upd (upd H2 dxn (.own n)) n (.ins t.dY dxn [])) L P ls ps:=by
  obtain⟨⟨x1,x2,x3⟩,⟨y1,y2,y3⟩⟩:=A.same g4
  refine⟨⟨x1,bR.of x2,x3.imp fun _ _ h=>?_⟩,⟨y1,bR.of y2,y3.imp fun _ _ h=>?_⟩⟩
  ·obtain⟨q,f,e,h1,h2⟩:=h
   exact⟨q,f,e,h1,.inl (bR.of h2)⟩
  ·obtain⟨q,a1,a2,a3,e,h1,h2,h3,h4⟩:=h
   exact⟨q,a1,a2,a3,e,h1,.inl (bR.of h2),.inl (bR.of h3),.inl (bR.of h4)⟩
 refine⟨n,dxn,L,P,ls,ps,rfl,aq,hH,hF,fun H3 b3 N3=>⟨rfl,?_⟩⟩
 have s23:aQ H2 H3:=fun b o e=>b3 b o (aC e nn) (g4 b o e)
 have A3:=A.same s23
 have s3:=s2.trans s23
 clear hH g4 b3 A
 refine⟨_,rfl,_,rfl,_,rfl,a,_,rfl,s3.seq hS,fun p np=>⟨p,rfl,⟨_,bR.of aq⟩,?_⟩⟩
 obtain⟨cs,ecs,lcs⟩:∃cs:List Int,wk (ns.map V.int) (some 10) (some 50)=cs.map V.int/\cs.length<=40:=by
  refine⟨(ns.drop (min 10 ns.length)).take (min 50 ns.length - min 10 ns.length),(Q7 (ns.map V.int) 10 50).trans ?_,?_⟩
  ·rw [List.map_take,List.map_drop,lM]
  ·rw [List.length_take];omega
 rw [ecs]
 have tp:=aB (o:=.lst (cs.map V.int)) np
 have ep:upd H3 p (.lst (cs.map V.int)) p=some (.lst (cs.map V.int)):=aq
 have A4:=A3.same tp
 have N4:=N3.same tp
 generalize upd H3 p (.lst (cs.map V.int))=B at tp ep A4 N4 ⊢
 refine R7 (K:=K) (a:=p) (xs:=cs.map V.int) (fun j σ H'=>∃L P n ls ps v4 v5 v6 v7 v8 v9 v10,σ=[some (.ref a),some (.ref L),some (.ref P),some (.ref n),v4,v5,v6,v7,v8,v9,v10]/\aQ B H'/\yh H' L P ls ps/\jt K t H' n ls ps) ⟨_,_,_,_,_,_,_,_,_,_,_,_,rfl,aQ.refl _,A4,N4⟩ (fun j σ H' _ ⟨_,_,_,_,_,_,_,_,_,_,_,_,_,s',_⟩=>bR.of (s' _ _ ep)) ?_ (fun σ H' _=>k _)
 clear A4 N4 A3 N3 hF nn ndn nen dxn n L P ls ps
 rintro j x σ H' hx ⟨L,P,n,ls,ps,v4,v5,v6,v7,v8,v9,v10,rfl,s',A,N⟩ u nu
 rw [List.getElem?_map] at hx
 obtain⟨c,hc,rfl⟩:=Option.map_eq_some_iff.mp hx
 have hj:=(List.getElem?_eq_some_iff.mp hc).1
 refine⟨u,_,rfl,fG.of aq,rfl,_,_,rfl,_,_,rfl,rfl,?_⟩
 have tu:=aB (o:=.tup [.int (j:Nat),.int c]) nu
 have A:=A.same tu
 have N:=N.same tu
 have s':=s'.trans tu
 generalize upd H' u (.tup [.int (j:Nat),.int c])=H1 at tu A N s' ⊢
 have hF:xZ ls ps:=by obtain⟨_,_,_,_,_,_,_,_,_,W⟩:=N;exact W.fit
 have p1:=hF.p1
 have p16:=hF.p16
 obtain⟨_,⟨ys,eP,aP⟩⟩:=id A
 have ly:=aP.length
 obtain⟨mo,hmo⟩:∃mo:Int,cP c 1=mo:=⟨_,rfl⟩
 have m0:=Int.emod_nonneg mo (show(ps.length:Int)≠0 by omega)
 have m1:=Int.emod_lt_of_pos mo (show(0:Int) <(ps.length:Int) by omega)
 obtain⟨i,hi⟩:∃i:Nat,mo % (ps.length:Int)=(i:Int):=⟨_,(Int.toNat_of_nonneg m0).symm⟩
 have hil:i <ys.length:=by omega
 obtain⟨p0,hp0,q,a1,a2,a3,eyi,hq,hq1,hq2,hq3⟩:=aP.get (List.getElem?_eq_getElem hil)
 have hpm:=List.mem_of_getElem? hp0
 refine⟨_,rfl,_,rfl,c,1,rfl,_,rfl,.ref P,ps.length,rfl,.inl ⟨_,bR.of eP,ly.symm⟩,cP c 1,(ps.length:Int),rfl,rfl,by omega,P,ys,(i:Int),.ref q,rfl,by show V.int (cP c 1 % (ps.length:Int))=_;rw [hmo,hi],bR.of eP,by rw [<-eyi];exact aK (List.getElem?_eq_getElem hil),?_⟩
 refine⟨_,rfl,q,_,1,_,rfl,rfl,fG.of hq,aK (j:=1) rfl,?_⟩
 refine⟨_,rfl,_,rfl,L,P,q,ls,ps,p0,rfl,A,hF,hpm,⟨q,a1,a2,a3,rfl,hq,hq1,hq2,hq3⟩,fun H2 d s2 hd=>?_⟩
 refine⟨fun σ2 H3=>∃x d q,σ2=[some (.ref a),some (.ref L),some (.ref P),some (.ref n),some (.int (j:Nat)),some (.int c),some (.ref q),some (.str x),some d,v9,v10]/\nameB x=true/\aQ H1 H3/\Jy H3 d (wz ls ps x)/\(∀p∈ps,p.name=x->mG H3 (.ref q) p),?_,?_⟩
 ·refine⟨_,rfl,c,2,rfl,_,_,rfl,rfl,by show(0:Int) <12;decide,rfl,_,rfl,lz (fun _=>?_) (fun _=>?_)⟩
  rotate_left
  ·refine⟨_,_,_,rfl,hF.pnm p0 hpm,s2,by rw [zj hF.pnd hpm];exact hd,fun p hp e=>?_⟩
   have:p=p0:=by
    have e1:=find_name hF.pnd hp
    rw [e,find_name hF.pnd hpm] at e1
    exact(Option.some.inj e1).symm
   subst this
   exact⟨q,a1,a2,a3,rfl,s2 _ _ hq,s2 _ _ hq1,s2 _ _ hq2,s2 _ _ hq3⟩
  refine⟨_,rfl,_,rfl,c,j,rfl,by omega,fun H3 s3=>?_⟩
  have s13:=s2.trans s3
  have hwn:nameB (cD c j)=true:=HW c (by omega)
  have A3:=A.same s13
  obtain⟨_,⟨ys3,eP3,aP3⟩⟩:=id A3
  have ly3:=aP3.length
  refine⟨_,?_,fun _ _ h=>h⟩
  refine⟨_,rfl,_,rfl,P,rfl,⟨_,bR.of eP3⟩,?_⟩
  refine fY (K:=K) (a:=P) (xs:=ys3) (fun i zs H9=>H9=H3/\zs=(ps.take i).map fun p=>V.str p.name) (by omega) ⟨rfl,rfl⟩ (fun i zs H9 ⟨_,e⟩=>by rw [e,lM,List.length_take];omega) (fun i zs H9 _ ⟨e,_⟩=>by rw [e];exact bR.of eP3) ?_ ?_
  ·rintro i y zs H9 hy ⟨e9,rfl⟩
   subst e9
   obtain⟨p',hpi,q',b1,b2,b3,rfl,hq',_⟩:=aP3.get hy
   refine yes ⟨_,rfl,q',_,1,_,rfl,rfl,fG.of hq',aK (j:=1) rfl,rfl,?_⟩
   rw [List.take_succ,hpi,Option.toList_some,List.map_append]
   rfl
  rintro zs H9 ⟨e9,rfl⟩ Pn nPn
  subst e9
  rw [ly3,List.take_length]
  have t4:=aB (o:=.lst (ps.map fun p:PD=>V.str p.name)) nPn
  have ePn:upd H9 Pn (.lst (ps.map fun p:PD=>V.str p.name)) Pn=some (.lst (ps.map fun p:PD=>V.str p.name)):=aq
  have A4:=A3.same t4
  have s14:=s13.trans t4
  generalize upd H9 Pn (.lst (ps.map fun p:PD=>V.str p.name))=H4 at t4 ePn A4 s14 ⊢
  refine⟨Pn,_,rfl,.inl (bR.of ePn),rfl,by simp [rK],?_⟩
  rw [Eu (f:=fun p:PD=>p.name)]
  by_cases hin:cD c j∈ps.map (·.name)
  rotate_left
  ·rw [decide_eq_false hin]
   refine⟨_,rfl,lE ⟨_,rfl,gw,fun d' nd=>?_⟩⟩
   refine⟨_,_,_,rfl,hwn,s14.trans (aB nd),?_,fun p hp e=>absurd (List.mem_map.mpr ⟨p,hp,e⟩) hin⟩
   rw [Nu hin]
   exact⟨d',rfl,aq⟩
  rw [decide_eq_true hin]
  refine⟨_,rfl,fc ?_⟩
  obtain⟨_,⟨ys4,eP4,aP4⟩⟩:=id A4
  have ly4:=aP4.length
  refine⟨_,rfl,P,rfl,⟨_,bR.of eP4⟩,?_⟩
  refine fY (K:=K) (a:=P) (xs:=ys4) (fun i zs H9=>H9=H4/\zs.length<=i/\gY (mG H4) zs ((ps.take i).filter fun p=>decide (p.name=cD c j))) (by omega) ⟨rfl,Nat.le_refl _,.nil⟩ (fun i zs H9 h=>h.2.1) (fun i zs H9 _ ⟨e,_⟩=>by rw [e];exact bR.of eP4) ?_ ?_
  ·rintro i y zs H9 hy ⟨e9,hl,hA⟩
   subst e9
   obtain⟨p',hpi,hrow⟩:=aP4.get hy
   obtain⟨q',b1,b2,b3,rfl,hq',h1',h2',h3'⟩:=id hrow
   rw [List.take_succ,hpi,Option.toList_some,List.filter_append]
   refine⟨_,rfl,q',_,1,_,rfl,rfl,fG.of hq',aK (j:=1) rfl,_,rfl,rfl,_,rfl,lz (fun e=>?_) (fun e=>?_)⟩
   ·have e':p'.name=cD c j:=by simpa using of_decide_eq_true e
    refine⟨_,rfl,rfl,by rw [lP,List.length_singleton];omega,?_⟩
    rw [show [p'].filter (fun p=>decide (p.name=cD c j))=[p'] by simp [e']]
    exact hA.app (.cons hrow .nil)
   ·have e':¬p'.name=cD c j:=fun z=>e (decide_eq_true (by rw [z]))
    refine⟨rfl,by omega,?_⟩
    rw [show [p'].filter (fun p=>decide (p.name=cD c j))=[] by simp [e'],List.append_nil]
    exact hA
  rintro zs H9 ⟨e9,hl,hA⟩ D2 nD2
  subst e9
  rw [ly4,List.take_length] at hA
  obtain⟨p2,hp2,hp2n⟩:=List.mem_map.mp hin
  cases hfl:ps.filter (fun p=>decide (p.name=cD c j)) with
  | nil=>
   have:p2∈ps.filter (fun p=>decide (p.name=cD c j)):=List.mem_filter.mpr ⟨hp2,by simp [hp2n]⟩
   rw [hfl] at this
   cases this
  | cons p' rest=>
   rw [hfl] at hA
   have hp':=List.mem_filter.mp (show p'∈ps.filter (fun p=>decide (p.name=cD c j)) by rw [hfl];exact List.mem_cons_self)
   have hpn:p'.name=cD c j:=of_decide_eq_true hp'.2
   obtain⟨v0,vs0,rfl,hr0,_⟩:∃v0 vs0,zs=v0:: vs0/\mG H9 v0 p'/\gY (mG H9) vs0 rest:=by cases hA with | cons h t=>exact⟨_,_,rfl,h,t⟩
   obtain⟨q',b1,b2,b3,rfl,hq',h1',h2',h3'⟩:=id hr0
   have t5:=aB (o:=.lst (.ref q':: vs0)) nD2
   refine⟨D2,_,0,_,rfl,rfl,bR.of aq,aK (j:=0) rfl,?_⟩
   refine⟨_,rfl,_,rfl,L,P,q',ls,ps,p',rfl,A4.same t5,hF,hp'.1,hr0.same t5,fun H6 d6 s6 hd6=>?_⟩
   refine⟨_,_,_,rfl,hwn,s14.trans (t5.trans s6),?_,fun p hp e=>?_⟩
   ·rw [<-hpn,zj hF.pnd hp'.1]
    exact hd6
   ·have:p=p':=by
     have e1:=find_name hF.pnd hp
     rw [e,<-hpn,find_name hF.pnd hp'.1] at e1
     exact(Option.some.inj e1).symm
    subst this
    exact(hr0.same t5).same s6
 rintro σ2 H3 ⟨x,d,q,rfl,xn,s3,hdx,hrow⟩
 clear hd eP aP eyi hq hq1 hq2 hq3
 have A:=A.same s3
 have N:=N.same s3
 have s':=s'.trans s3
 refine⟨_,rfl,_,rfl,n,ls,ps,x,rfl,N,fun H5 r f g s5 er hg hf=>?_⟩
 have A:=A.same s5
 have N:=N.same s5
 have s':=s'.trans s5
 have hd:=hdx.same s5
 have hrow:=fun p hp e=>(hrow p hp e).same s5
 refine⟨r,_,rfl,bR.of er,rfl,_,_,rfl,_,_,rfl,rfl,?_⟩
 obtain⟨dd,dt,gd⟩:=Tn (K:=K) hF xn
 obtain⟨dx,fs,R,F,Pd,G,Tk,FL,PL,W⟩:=id N
 have g5:=hF.told
 refine⟨_,rfl,n,dx,fs,rfl,W.obj,W.fl.no _ (by decide +kernel),n,ls,ps,rfl,W.s,fun T2 c1 c2 H7 s7 _ _ _ TB=>?_⟩
 refine⟨_,rfl,_,rfl,L,P,ls,ps,rfl,A.same s7,hF,fun T3 c3 c4 H8 s8 TC=>?_⟩
 refine⟨_,_,(TB.same s8).dt,TC.dt,g5.shaped (by decide),g5.shaped (by decide),_,rfl,?_⟩
 rw [g5.eq]
 refine fc ?_
 have s68:=s7.trans s8
 refine⟨_,rfl,_,rfl,dd,dd,dt _ _ (hg.same s68),dt _ _ (hd.same s68),gd.shaped (by decide),gd.shaped (by decide),_,rfl,?_⟩
 rw [gd.eq]
 refine fc ?_
 have A:=A.same s68
 have N:=N.same s68
 have s':=s'.trans s68
 refine⟨_,?_,fun _ _ h=>h⟩
 cases hdue:wz ls ps x with
 | some cy=>
  rw [hdue] at hd
  obtain⟨pd,rfl,_⟩:=hd
  exact⟨_,rfl,_,rfl,fc ⟨L,P,n,ls,ps,_,_,_,_,_,_,_,rfl,s',A,N⟩⟩
 | none=>
  rw [hdue] at hd
  obtain rfl:d=.non:=hd
  refine⟨_,rfl,_,rfl,lE ?_⟩
  obtain⟨p2,hp2,n',hp2x,rfl,N'⟩:=hf hdue
  have N7:=N'.same s68
  have hr2:=(hrow p2 hp2 hp2x).same s68
  rw [<-hp2x,zj hF.pnd hp2] at hdue
  obtain⟨hk2,hw⟩:2<=p2.kind/\km ls p2=none:=by
   unfold ww at hdue
   split at hdue
   ·cases hdue
   ·rename_i h
    split at hdue
    ·cases hdue
    ·exact⟨by omega,by assumption⟩
  have hF':=hF.ahead hp2 hk2 hw
  refine⟨_,rfl,_,rfl,_,rfl,L,P,q,ls,ps,p2,rfl,A,hF,hp2,hr2,hk2,hw,fun T4 L' P' H9 s9 eT4 A'=>?_⟩
  refine⟨T4,_,rfl,fG.of eT4,rfl,_,_,rfl,_,_,rfl,rfl,?_⟩
  have N8:=N7.same s9
  have s':=s'.trans s9
  obtain⟨dx',fs',R',F',Pd',G',Tk',FL',PL',W'⟩:=id N8
  have g6:=hF'.told
  refine⟨_,rfl,n',dx',fs',rfl,W'.obj,W'.fl.no _ (by decide +kernel),n',_,_,rfl,W'.s,fun T5 c5 c6 HA sA _ _ _ TD=>?_⟩
  refine⟨_,rfl,_,rfl,L',P',_,_,rfl,A'.same sA,hF',fun T6 c7 c8 HB sB TE=>?_⟩
  refine⟨_,_,(TD.same sB).dt,TE.dt,g6.shaped (by decide),g6.shaped (by decide),_,rfl,?_⟩
  rw [g6.eq]
  refine fc ?_
  have sAB:=sA.trans sB
  exact⟨_,rfl,L',P',n',_,_,_,_,_,_,_,_,_,rfl,s'.trans sAB,A'.same sAB,N8.same sAB⟩
end
theorem fin {l:PySem.W.OpenLaw} {w:World} {K:PySem.W.Frag} {mg:Str->Option Value} {fa r0 r1 r2 r3 r4 r5 r6 r7 r8 r9 r10 r11 r12 r13 r14 r15 r16 r17 r18 r19 r20 r21 r22 r23 r24 r25 r26 r27 r28 r29 r30 r31 r32 r33 r34 r35 r36 r37 r38 r39 r40 r41 r42 r43 r44 r45 r46 r47 r48 r49 r50 r51 r52 r53 r54 r55 r56 r57 r58 r59 r60 r61 r62 r63 r64 r65 r66 r67 r68 r69 r70 r71 r72 r73 r74 r75 r76 r77 r78 r79 r80 r81 r82 r83 r84 r85 r86 r87 r88 r89 r90 r91 r92 r93 r94 r95 r96 r97 r98 r99 r100 r101 r102 r103 r104 r105 r106 r107 r108 r109 r110 r111 r112 r113 r114 r115 r116:Addr} (hfa:mg "law" =some (.ref fa)) (T:Txt w K mg ⟨r0,r1,r2,r3,r4,r5,r6,r7,r8,r9,r10,r11,r12,r13,r14,r15,r16,r17,r18,r19,r20,r21,r22,r23,r24,r25,r26,r27,r28,r29,r30,r31,r32,r33,r34,r35,r36,r37,r38,r39,r40,r41,r42,r43,r44,r45,r46,r47,r48,r49,r50,r51,r52,r53,r54,r55,r56,r57,r58,r59,r60,r61,r62,r63,r64,r65,r66,r67,r68,r69,r70,r71,r72,r73,r74,r75,r76,r77,r78,r79,r80,r81,r82,r83,r84,r85,r86,r87,r88,r89,r90,r91,r92,r93,r94,r95,r96,r97,r98,r99,r100,r101,r102,r103,r104,r105,r106,r107,r108,r109,r110,r111,r112,r113,r114,r115,r116⟩):∃fd:FuncData,(∀(s:Shared) (v:Value),BindsTo s fd ⟨[v],[]⟩ [("_law_script",v)])/\∀base:Heap,K.In base->base.Ns mainGlobals mg->gH l.prog w K mg base Bd 11 fa fd ["_law_script"] (Dg K):=by
 have e:=hfa.symm.trans T.Nj.m
 cases e
 exact⟨_,Wd T.Nj.F fun _ _ _ _ _ _ _=>rfl,fun base _ _=>Ww T⟩
theorem walk {l:PySem.W.OpenLaw} {q:Program} {loose:List Str} {XP:(Str->Option Value)->Heap->Prop} {YP:World->Heap->Prop} {d:DefRec} {K:Params->PySem.W.Frag} (hn:l.most=some 63) (hdf:d.params.defaults=[])
  (hY:∀(w:World) (h:Heap),YP w h->(K w.params).In h)
  (F:∀(w:World) (mg:Str->Option Value) (fa:Addr) (h:Heap),(K w.params).In h->h.Ns mainGlobals mg->mg d.name=some (.ref fa)->
   ∃fd:FuncData,(∀(s:Shared) (u:Value),BindsTo s fd ⟨[u],[]⟩ [("_law_script",u)])/\∀base:Heap,(K w.params).In base->base.Ns mainGlobals mg->gH l.prog w (K w.params) mg base Bd 11 fa fd ["_law_script"] (Dg (K w.params))):
  PySem.W.WalkO q loose XP YP l.row.toRowW d [] (fun f vs=>PySem.call f vs):=
 L2.Uw (n:=63) (k:=11) (x:= "_law_script") (CX:=fun _=>Bd) (sp:=fun w=>Dg (K w.params)) hn (by decide) hdf ⟨rfl,by decide,by decide⟩ hY F (fun _ _ a ns hl _ hS=>⟨a,ns,rfl,hS,hl,fun _=>rfl⟩) fun _ _ _ _ _ z=>z
end K75
open PySem PySem.W PyProof.Rows L2
set_option maxRecDepth 100000 in
set_option maxHeartbeats 0 in
theorem PySem.Challenge.cw_holdlane_k75_stages_work_ahead_holds : PySem.Challenge.rw_holdlane_k75_stages_work_ahead.Holds := by
 w_on;o_law
 refine HD.head (by rfl) (by rfl) (by rfl) (by rfl) (by first | assumption | decide +kernel) (by decide +kernel) ⟨rfl,rfl,rfl,rfl,rfl,by decide +kernel⟩ rfl (fun _=>rfl) ?_ ?_
 ·w_witness2
 k_fill
 refine K75.walk (l:=PySem.Challenge.rw_holdlane_k75_stages_work_ahead) rfl rfl (fun w h Y=>PySem.W.kIn_of Y) ?F
 case F=>
  intro w mg fa h KX G hmg
  refine' K75.fin hmg ⟨?q0,?q1,?q2,?q3,?q4,?q5,?q6,?q7,?q8,?q9,?q10,?q11,?q12,?q13,?q14,?q15,?q16,?q17,?q18,?q19,?q20,?q21,?q22,?q23,?q24,?q25,?q26,?q27,?q28,?q29,?q30,?q31,?q32,?q33,?q34,?q35,?q36,?q37,?q38,?q39,?q40,?q41,?q42,?q43,?q44,?q45,?q46,?q47,?q48,?q49,?q50,?q51,?q52,?q53,?q54,?q55,?q56,?q57,?q58,?q59,?q60,?q61,?q62,?q63,?q64,?q65,?q66,?q67,?q68,?q69,?q70,?q71,?q72,?q73,?q74,?q75,?q76,?q77,?q78,?q79,?q80,?q81,?q82,?q83,?q84,?q85,?q86,?q87,?q88,?q89,?q90,?q91,?q92,?q93,?q94,?q95,?q96,?q97,?q98,?q99,?q100,?q101,?q102,?q103,?q104,?q105,?q106,?q107,?q108,?q109,?q110,?q111,?q112,?q113,?q114,?q115,?q116,?q117,?q118,?q119,?q120,?q121,?q122,?q123,?q124,?q125,?q126,?q127,?q128,?q129,?q130,?q131,?q132,?q133,?q134,?q135,?q136,?q137,?q138,?q139,?q140,?q141,?q142,?q143,?q144,?q145,?q146,?q147,?q148,?q149,?q150,?q151,?q152,?q153,?q154,?q155,?q156,?q157,?q158,?q159,?q160,?q161,?q162,?q163,?q164,?q165⟩
  all_goals try dsimp only
  (case q0 | q1=>refine' ⟨mg_of KX G ?_,⟨?_,?_,?_,?_⟩,?_,?_,⟨?_,?_,?_,?_,?_,?_,trivial⟩,⟨?_,?_,?_,?_,trivial⟩⟩ <;> (try dsimp only) <;> k_is)
  (case q2 | q3 | q4 | q5 | q6 | q7 | q8 | q9 | q10=>refine' ⟨mg_of KX G ?_,⟨?_,?_,?_,?_⟩,?_,?_,⟨?_,?_,?_,?_,?_,?_,?_,trivial⟩,⟨?_,?_,?_,?_,trivial⟩⟩ <;> (try dsimp only) <;> k_is)
  (case q11=>refine' ⟨mg_of KX G ?_,⟨?_,?_,?_,?_⟩,?_,?_,⟨?_,?_,?_,?_,?_,?_,?_,?_,?_,?_,trivial⟩,⟨?_,?_,?_,?_,?_,trivial⟩⟩ <;> (try dsimp only) <;> k_is)
  (case q12=>refine' ⟨mg_of KX G ?_,⟨?_,?_,?_,?_⟩,?_,?_,⟨?_,?_,?_,?_,?_,?_,?_,?_,?_,trivial⟩,⟨?_,?_,?_,?_,?_,?_,trivial⟩⟩ <;> (try dsimp only) <;> k_is)
  (case q13=>refine' ⟨mg_of KX G ?_,⟨?_,?_,?_,?_⟩,?_,?_,⟨?_,?_,?_,?_,?_,trivial⟩,⟨?_,?_,?_,trivial⟩⟩ <;> (try dsimp only) <;> k_is)
  (case q14 | q15 | q16 | q17 | q18=>refine' mg_of KX G ?_ <;> k_is)
  (case q19 | q20 | q21 | q22=>k_is)
  (case q23=>refine' ⟨?_,?_,?_⟩ <;> kernel_rfl)
  (case q24 | q25 | q26 | q27 | q28 | q29 | q30=>kernel_rfl)
  (case q31=>refine' ⟨m8.ofIn ?_,?_,?_⟩ <;> first | k_is | kernel_rfl)
  (case q32=>refine' Ib.ofIn ?_ <;> kernel_rfl)
  (case q33=>unfold fX;kernel_rfl)
  (case q34=>refine' My KX ?_ ?_ <;> (try k_is);all_goals kernel_rfl)
  (case q35=>refine' ⟨m8.ofIn ?_,?_,?_⟩ <;> first | k_is | kernel_rfl)
  (case q36=>refine' Ib.ofIn ?_ <;> kernel_rfl)
  (case q37=>unfold fX;kernel_rfl)
  (case q38=>refine' My KX ?_ ?_ <;> (try k_is);all_goals kernel_rfl)
  (case q39=>refine' ⟨m8.ofIn ?_,?_,?_⟩ <;> first | k_is | kernel_rfl)
  (case q40=>refine' Ib.ofIn ?_ <;> kernel_rfl)
  (case q41=>unfold fX;kernel_rfl)
  (case q42=>refine' My KX ?_ ?_ <;> (try k_is);all_goals kernel_rfl)
  (case q43=>refine' ⟨m8.ofIn ?_,?_,?_⟩ <;> first | k_is | kernel_rfl)
  (case q44=>refine' Ib.ofIn ?_ <;> kernel_rfl)
  (case q45=>unfold fX;kernel_rfl)
  (case q46=>refine' My KX ?_ ?_ <;> (try k_is);all_goals kernel_rfl)
  (case q47 | q48 | q49 | q50=>refine' d8.of ?_ ?_ ?_ ?_ (fun _ _ _ _ _ _=>vO fun _ _=>rfl) <;> try k_is)
  (case q51 | q52=>refine' .of (mg_of KX G ?_) (d8.of ?_ ?_ ?_ ?_ (fun _ _ _ _ _ _=>yG fun _=>rfl)) <;> (try k_is);all_goals try k_is)
  (case q53=>refine' d8.of ?_ ?_ ?_ ?_ (fun _ _ _ _ _ _=>Xp fun _ _ _ _ _=>rfl) <;> try k_is)
  (case q54 | q55 | q56 | q57 | q58 | q59 | q60 | q61 | q62 | q63 | q64=>refine' d8.of ?_ ?_ ?_ ?_ (fun _ _ _ _ _ _=>yG fun _=>rfl) <;> try k_is)
  (case q65=>refine' .of (mg_of KX G ?_) (d8.of ?_ ?_ ?_ ?_ (fun _ _ _ _ _ _=>yG fun _=>rfl)) <;> (try k_is);all_goals try k_is)
  (case q66 | q67 | q68=>refine' .of (mg_of KX G ?_) (d8.of ?_ ?_ ?_ ?_ (fun _ _ _ _ _ _=>Xp fun _ _ _ _ _=>rfl)) <;> (try k_is);all_goals try k_is)
  (case q69=>refine' .of (mg_of KX G ?_) (d8.of ?_ ?_ ?_ ?_ (fun _ _ _ _ _ _=>yG fun _=>rfl)) <;> (try k_is);all_goals try k_is)
  (case q70 | q71 | q72=>refine' d8.of ?_ ?_ ?_ ?_ (fun _ _ _ _ _ _=>vO fun _ _=>rfl) <;> try k_is)
  (case q73 | q74=>refine' d8.of ?_ ?_ ?_ ?_ (fun _ _ _ _ _ _=>yG fun _=>rfl) <;> try k_is)
  (case q75 | q76=>refine' d8.of ?_ ?_ ?_ ?_ (fun _ _ _ _ _ _=>vO fun _ _=>rfl) <;> try k_is)
  (case q77 | q78 | q79 | q80 | q81 | q82 | q83 | q84 | q85=>refine' d8.of ?_ ?_ ?_ ?_ (fun _ _ _ _ _ _=>Dy fun _ _ _=>rfl) <;> try k_is)
  (case q86 | q87 | q88 | q89=>refine' .of (mg_of KX G ?_) (d8.of ?_ ?_ ?_ ?_ (fun _ _ _ _ _ _=>vO fun _ _=>rfl)) <;> (try k_is);all_goals try k_is)
  (case q90=>refine' .of (mg_of KX G ?_) (d8.of ?_ ?_ ?_ ?_ (fun _ _ _ _ _ _=>Dy fun _ _ _=>rfl)) <;> (try k_is);all_goals try k_is)
  (case q91=>refine' .of (mg_of KX G ?_) (d8.of ?_ ?_ ?_ ?_ (fun _ _ _ _ _ _=>vO fun _ _=>rfl)) <;> (try k_is);all_goals try k_is)
  (case q92=>refine' .of (mg_of KX G ?_) (d8.of ?_ ?_ ?_ ?_ (fun _ _ _ _ _ _=>ZL fun _ _ _ _ _ _=>rfl)) <;> (try k_is);all_goals try k_is)
  (case q93=>refine' .of (mg_of KX G ?_) (d8.of ?_ ?_ ?_ ?_ (fun _ _ _ _ _ _=>VP fun _ _ _ _=>rfl)) <;> (try k_is);all_goals try k_is)
  (case q94 | q95 | q96=>refine' .of (mg_of KX G ?_) (d8.of ?_ ?_ ?_ ?_ (fun _ _ _ _ _ _=>Dy fun _ _ _=>rfl)) <;> (try k_is);all_goals try k_is)
  (case q97=>refine' .of (mg_of KX G ?_) (d8.of ?_ ?_ ?_ ?_ (fun _ _ _ _ _ _=>VP fun _ _ _ _=>rfl)) <;> (try k_is);all_goals try k_is)
  (case q98=>refine' .of (mg_of KX G ?_) (d8.of ?_ ?_ ?_ ?_ (fun _ _ _ _ _ _=>yG fun _=>rfl)) <;> (try k_is);all_goals try k_is)
  (case q99 | q100=>refine' .of (mg_of KX G ?_) (d8.of ?_ ?_ ?_ ?_ (fun _ _ _ _ _ _=>vO fun _ _=>rfl)) <;> (try k_is);all_goals try k_is)
  (case q101=>refine' .of (mg_of KX G ?_) (d8.of ?_ ?_ ?_ ?_ (fun _ _ _ _ _ _=>Dy fun _ _ _=>rfl)) <;> (try k_is);all_goals try k_is)
  (case q102=>refine' .of (mg_of KX G ?_) (d8.of ?_ ?_ ?_ ?_ (fun _ _ _ _ _ _=>vO fun _ _=>rfl)) <;> (try k_is);all_goals try k_is)
  (case q103=>refine' .of (mg_of KX G ?_) (d8.of ?_ ?_ ?_ ?_ (fun _ _ _ _ _ _=>VP fun _ _ _ _=>rfl)) <;> (try k_is);all_goals try k_is)
  (case q104 | q105 | q106=>refine' .of (mg_of KX G ?_) (d8.of ?_ ?_ ?_ ?_ (fun _ _ _ _ _ _=>Dy fun _ _ _=>rfl)) <;> (try k_is);all_goals try k_is)
  (case q107 | q108=>refine' d8.of ?_ ?_ ?_ ?_ (fun _ _ _ _ _ _=>yG fun _=>rfl) <;> try k_is)
  (case q109=>refine' d8.of ?_ ?_ ?_ ?_ (fun _ _ _ _ _ _=>vO fun _ _=>rfl) <;> try k_is)
  (case q110=>refine' d8.of ?_ ?_ ?_ ?_ (fun _ _ _ _ _ _=>yG fun _=>rfl) <;> try k_is)
  (case q111 | q112 | q113 | q114=>refine' d8.of ?_ ?_ ?_ ?_ (fun _ _ _ _ _ _=>vO fun _ _=>rfl) <;> try k_is)
  (case q115=>refine' .of (mg_of KX G ?_) (d8.of ?_ ?_ ?_ ?_ (fun _ _ _ _ _ _=>yG fun _=>rfl)) <;> (try k_is);all_goals try k_is)
  (case q116=>refine' d8.of ?_ ?_ ?_ ?_ (fun _ _ _ _ _ _=>yG fun _=>rfl) <;> try k_is)
  (case q117=>refine' d8.of ?_ ?_ ?_ ?_ (fun _ _ _ _ _ _=>Dy fun _ _ _=>rfl) <;> try k_is)
  (case q118 | q119 | q120 | q121 | q122=>refine' d8.of ?_ ?_ ?_ ?_ (fun _ _ _ _ _ _=>vO fun _ _=>rfl) <;> try k_is)
  (case q123=>refine' d8.of ?_ ?_ ?_ ?_ (fun _ _ _ _ _ _=>Dy fun _ _ _=>rfl) <;> try k_is)
  (case q124 | q125=>refine' d8.of ?_ ?_ ?_ ?_ (fun _ _ _ _ _ _=>vO fun _ _=>rfl) <;> try k_is)
  (case q126=>refine' d8.of ?_ ?_ ?_ ?_ (fun _ _ _ _ _ _=>Dy fun _ _ _=>rfl) <;> try k_is)
  (case q127=>refine' .of (mg_of KX G ?_) (d8.of ?_ ?_ ?_ ?_ (fun _ _ _ _ _ _=>yG fun _=>rfl)) <;> (try k_is);all_goals try k_is)
  (case q128=>refine' .of (mg_of KX G ?_) (d8.of ?_ ?_ ?_ ?_ (fun _ _ _ _ _ _=>vO fun _ _=>rfl)) <;> (try k_is);all_goals try k_is)
  (case q129=>refine' d8.of ?_ ?_ ?_ ?_ (fun _ _ _ _ _ _=>Dy fun _ _ _=>rfl) <;> try k_is)
  (case q130 | q131 | q132=>refine' d8.of ?_ ?_ ?_ ?_ (fun _ _ _ _ _ _=>vO fun _ _=>rfl) <;> try k_is)
  (case q133=>refine' d8.of ?_ ?_ ?_ ?_ (fun _ _ _ _ _ _=>yG fun _=>rfl) <;> try k_is)
  (case q134=>refine' .of (mg_of KX G ?_) (d8.of ?_ ?_ ?_ ?_ (fun _ _ _ _ _ _=>vO fun _ _=>rfl)) <;> (try k_is);all_goals try k_is)
  (case q135=>refine' .of (mg_of KX G ?_) (d8.of ?_ ?_ ?_ ?_ (fun _ _ _ _ _ _=>yG fun _=>rfl)) <;> (try k_is);all_goals try k_is)
  (case q136 | q137 | q138=>refine' .of (mg_of KX G ?_) (d8.of ?_ ?_ ?_ ?_ (fun _ _ _ _ _ _=>vO fun _ _=>rfl)) <;> (try k_is);all_goals try k_is)
  (case q139=>refine' .of (mg_of KX G ?_) (d8.of ?_ ?_ ?_ ?_ (fun _ _ _ _ _ _=>Dy fun _ _ _=>rfl)) <;> (try k_is);all_goals try k_is)
  (case q140=>refine' .of (mg_of KX G ?_) (d8.of ?_ ?_ ?_ ?_ (fun _ _ _ _ _ _=>vO fun _ _=>rfl)) <;> (try k_is);all_goals try k_is)
  (case q141=>refine' .of (mg_of KX G ?_) (d8.of ?_ ?_ ?_ ?_ (fun _ _ _ _ _ _=>Dy fun _ _ _=>rfl)) <;> (try k_is);all_goals try k_is)
  (case q142=>refine' .of (mg_of KX G ?_) (d8.of ?_ ?_ ?_ ?_ (fun _ _ _ _ _ _=>vO fun _ _=>rfl)) <;> (try k_is);all_goals try k_is)
  (case q143=>refine' .of (mg_of KX G ?_) (d8.of ?_ ?_ ?_ ?_ (fun _ _ _ _ _ _=>yG fun _=>rfl)) <;> (try k_is);all_goals try k_is)
  (case q144=>refine' mg_of KX G ?_;k_is)
  (case q145=>
   refine' L2.KTab.mk' ?lk ?c1 ?c2 ?c3 ?c4 ?sm ?rows ?nd
   (case lk=>k_is)
   (case c1=>exact rfl)
   (case c2=>exact rfl)
   (case c3=>exact rfl)
   (case c4=>exact rfl)
   (case sm=>exact rfl)
   (case nd=>decide +kernel)
   (case rows=>
    refine' L2.jP.cons ?hh0 ?lk0 ?cc0 ?dd0 ?vv0 ?zz0 ?rest0
    (case hh0=>exact rfl)
    (case lk0=>k_is)
    (case cc0=>exact rfl)
    (case dd0=>exact rfl)
    (case vv0=>exact .cons ⟨_,rfl⟩ (.cons ⟨_,rfl⟩ (.cons ⟨_,rfl⟩ .nil)))
    (case zz0=>decide)
    refine' L2.jP.cons ?hh1 ?lk1 ?cc1 ?dd1 ?vv1 ?zz1 ?rest1
    (case hh1=>exact rfl)
    (case lk1=>k_is)
    (case cc1=>exact rfl)
    (case dd1=>exact rfl)
    (case vv1=>exact .cons ⟨_,rfl⟩ (.cons ⟨_,rfl⟩ (.cons ⟨_,rfl⟩ .nil)))
    (case zz1=>decide)
    refine' L2.jP.cons ?hh2 ?lk2 ?cc2 ?dd2 ?vv2 ?zz2 ?rest2
    (case hh2=>exact rfl)
    (case lk2=>k_is)
    (case cc2=>exact rfl)
    (case dd2=>exact rfl)
    (case vv2=>exact .cons ⟨_,rfl⟩ (.cons ⟨_,rfl⟩ (.cons ⟨_,rfl⟩ .nil)))
    (case zz2=>decide)
    refine' L2.jP.cons ?hh3 ?lk3 ?cc3 ?dd3 ?vv3 ?zz3 ?rest3
    (case hh3=>exact rfl)
    (case lk3=>k_is)
    (case cc3=>exact rfl)
    (case dd3=>exact rfl)
    (case vv3=>exact .cons ⟨_,rfl⟩ (.cons ⟨_,rfl⟩ (.cons ⟨_,rfl⟩ .nil)))
    (case zz3=>decide)
    refine' L2.jP.cons ?hh4 ?lk4 ?cc4 ?dd4 ?vv4 ?zz4 ?rest4
    (case hh4=>exact rfl)
    (case lk4=>k_is)
    (case cc4=>exact rfl)
    (case dd4=>exact rfl)
    (case vv4=>exact .cons ⟨_,rfl⟩ (.cons ⟨_,rfl⟩ (.cons ⟨_,rfl⟩ .nil)))
    (case zz4=>decide)
    refine' L2.jP.cons ?hh5 ?lk5 ?cc5 ?dd5 ?vv5 ?zz5 ?rest5
    (case hh5=>exact rfl)
    (case lk5=>k_is)
    (case cc5=>exact rfl)
    (case dd5=>exact rfl)
    (case vv5=>exact .cons ⟨_,rfl⟩ (.cons ⟨_,rfl⟩ (.cons ⟨_,rfl⟩ .nil)))
    (case zz5=>decide)
    refine' L2.jP.cons ?hh6 ?lk6 ?cc6 ?dd6 ?vv6 ?zz6 ?rest6
    (case hh6=>exact rfl)
    (case lk6=>k_is)
    (case cc6=>exact rfl)
    (case dd6=>exact rfl)
    (case vv6=>exact .cons ⟨_,rfl⟩ (.cons ⟨_,rfl⟩ (.cons ⟨_,rfl⟩ .nil)))
    (case zz6=>decide)
    refine' L2.jP.cons ?hh7 ?lk7 ?cc7 ?dd7 ?vv7 ?zz7 ?rest7
    (case hh7=>exact rfl)
    (case lk7=>k_is)
    (case cc7=>exact rfl)
    (case dd7=>exact rfl)
    (case vv7=>exact .cons ⟨_,rfl⟩ (.cons ⟨_,rfl⟩ (.cons ⟨_,rfl⟩ .nil)))
    (case zz7=>decide)
    refine' L2.jP.cons ?hh8 ?lk8 ?cc8 ?dd8 ?vv8 ?zz8 ?rest8
    (case hh8=>exact rfl)
    (case lk8=>k_is)
    (case cc8=>exact rfl)
    (case dd8=>exact rfl)
    (case vv8=>exact .cons ⟨_,rfl⟩ (.cons ⟨_,rfl⟩ (.cons ⟨_,rfl⟩ .nil)))
    (case zz8=>decide)
    refine' L2.jP.cons ?hh9 ?lk9 ?cc9 ?dd9 ?vv9 ?zz9 ?rest9
    (case hh9=>exact rfl)
    (case lk9=>k_is)
    (case cc9=>exact rfl)
    (case dd9=>exact rfl)
    (case vv9=>exact .cons ⟨_,rfl⟩ (.cons ⟨_,rfl⟩ (.cons ⟨_,rfl⟩ .nil)))
    (case zz9=>decide)
    refine' L2.jP.cons ?hh10 ?lk10 ?cc10 ?dd10 ?vv10 ?zz10 ?rest10
    (case hh10=>exact rfl)
    (case lk10=>k_is)
    (case cc10=>exact rfl)
    (case dd10=>exact rfl)
    (case vv10=>exact .cons ⟨_,rfl⟩ (.cons ⟨_,rfl⟩ (.cons ⟨_,rfl⟩ .nil)))
    (case zz10=>decide)
    exact .nil))
  (case q146 | q147 | q148 | q149 | q150 | q151 | q152 | q153 | q154 | q155 | q156 | q157=>refine' mg_none_of KX G ?_;k_is)
  (case q158 | q159 | q160 | q161 | q162 | q163 | q164 | q165=>refine' gC (mg_of KX G ?_) ?_ <;> (try k_is);all_goals exact⟨_,rfl⟩)
