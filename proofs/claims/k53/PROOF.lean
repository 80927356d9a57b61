import PyProof.Rows.All
import Wide.All
import OpenK.AllK
import Wide.FinOn
import Lean
import PyProof.EqAt
import PyProof.EqKinds
import PyProof.TupleCall
import PyProof.StrLawsChain
import PyProof.StrLawsOccR
import PyProof.StrLawsReplace
import PyProof.NeKinds
import PyProof.EnumStmt
import PyProof.EnumMake
import PyProof.ListRange
import PyProof.StationsW
import PyProof.ExcClass2
import PyProof.ExcInit
import PyProof.InstStoreFacts
import OpenK.KRaise
import PyProof.NsDelKeeps
import PyProof.RulesAs
import PyProof.Rows.Catch
import OpenK.KOwn
import PyProof.ExcArgsOwn
import PyProof.ExcAttrAll.ValueError
import PyProof.IsiBase
import PyProof.MaxThree
import PyProof.SeqI3
import KE.KIsAll
import KE.IntTextLaws
import PyProof.StrLawsIdx
import PyProof.FitsInt
import PySem.Challenge.RW_holdlane_k53_whole_rings_never_work_agai
set_option Elab.async false
set_option linter.all false
set_option maxRecDepth 100000
theorem Y {α:Sort u} {a:α}:a=a:=rfl
abbrev Fr:=PySem.W.Frag
open List (mem_map mem_append getElem?_map mem_cons map_append map_map mem_of_getElem? length_take getElem?_eq_getElem mem_singleton map_cons take_length mem_cons_self mem_filter mem_cons_of_mem take_succ length_singleton length_cons size_toArray mem_flatMap length_map append_nil nodup_cons map_congr_left length_filter_le find?_eq_none flatMap_cons nodup_append mem_append_right length_drop append_assoc mem_of_find?_eq_some find?_cons filter_cons filterMap_cons map_nil getElem?_append_right length_append take_append_drop any_eq_true lookup_cons filter_append find?_cons_of_pos not_mem_nil find?_some getElem?_append_left find?_cons_of_neg filter_sublist mem_filterMap any_cons drop_eq_getElem_cons getElem?_cons_zero getElem?_eq_none all_eq_true perm_append_comm map_singleton take_of_length_le mem_iff_getElem map_drop length_nil length_range mem_of_mem_take mem_of_mem_drop map_take find?_append mem_range getElem_inj range_succ take_add_one getElem_mem map_id find?_map)
open Nat (le_refl zero_le le_trans ne_of_lt lt_of_lt_of_le lt_of_le_of_lt lt_irrefl le_succ lt_succ_of_lt le_total sub_self)
open Option (map_eq_some_iff toList_some map_some isSome_iff_exists getD_some isSome_map)
open Int (emod_nonneg emod_lt_of_pos toNat_natCast)
open Bool (and_eq_true)
namespace L2
open PySem PySem.Spec PyProof.Rows
noncomputable abbrev Key:=Sum Int Str
noncomputable def Ci:Key->Value->Bool
 | .inl k,v=>Value.isInt k v
 | .inr x,v=>Value.isStrOf x v
noncomputable def ZP (w:World):Key->Int
 | .inl k=>hashInt k
 | .inr x=>hashStr w x
theorem dM:∀{k:Key} {v:Value},Ci k v=true->(∃i t,k=Sum.inl i/\v=Value.int i t)∨(∃x t,k=Sum.inr x/\v=Value.str x t)
 | .inl i,v,h=>by obtain⟨t,e⟩:=Value.isInt_shape (k:=i) (v:=v) h;exact .inl ⟨i,t,Y,e⟩
 | .inr x,v,h=>by obtain⟨t,e⟩:=Value.isStrOf_shape (x:=x) (v:=v) h;exact .inr ⟨x,t,Y,e⟩
theorem Sv (i:Int) (t:Tok):Ci (.inl i) (.int i t)=true:=by simp [Ci,Value.isInt]
theorem Rh (x:Str) (t:Tok):Ci (.inr x) (.str x t)=true:=by simp [Ci,Value.isStrOf]
theorem Yz (a b:Int):decide ((Sum.inl a:Key)=Sum.inl b)=(a == b):=by
 by_cases e:a=b
 ·subst e;simp
 ·have h:¬(Sum.inl a:Key)=Sum.inl b:=λq=>e (Sum.inl.inj q);rw [decide_eq_false h];exact(beq_eq_false_iff_ne.mpr e).symm
theorem YB (a b:Str):decide ((Sum.inr a:Key)=Sum.inr b)=decide (a=b):=by
 by_cases e:a=b
 ·subst e;simp
 ·have h:¬(Sum.inr a:Key)=Sum.inr b:=λq=>e (Sum.inr.inj q);rw [decide_eq_false h,decide_eq_false e]
theorem Zh (a:Int) (b:Str):decide ((Sum.inl a:Key)=Sum.inr b)=false:=decide_eq_false (λq=>nomatch q)
theorem YK (a:Str) (b:Int):decide ((Sum.inr a:Key)=Sum.inl b)=false:=decide_eq_false (λq=>nomatch q)
noncomputable def b8 (prog:Program) (w:World):PySem.KeyKind prog w Key where
 is:=Ci
 hash:=ZP w
 inj:=λv a b ha hb=>by
  rcases dM ha with ⟨i,t,rfl,rfl⟩ | ⟨x,t,rfl,rfl⟩
  ·rcases dM hb with ⟨j,u,rfl,e⟩ | ⟨y,u,rfl,e⟩
   ·injection e with e1 _;rw [e1]
   ·exact nomatch e
  ·rcases dM hb with ⟨j,u,rfl,e⟩ | ⟨y,u,rfl,e⟩
   ·exact nomatch e
   ·injection e with e1 _;rw [e1]
 byValue:=λk v h=>by rcases dM h with ⟨i,t,rfl,rfl⟩ | ⟨x,t,rfl,rfl⟩ <;> rfl
 pyHash:=λhv h=>by
  rcases dM hv with ⟨i,t,rfl,rfl⟩ | ⟨x,t,rfl,rfl⟩
  ·exact wpAny_pyHash_int h
  ·exact wpAny_pyHash_str h
 eqBool:=λhu hv h=>by
  rcases dM hu with ⟨i,t,rfl,rfl⟩ | ⟨x,t,rfl,rfl⟩
  ·rcases dM hv with ⟨j,u,rfl,rfl⟩ | ⟨y,u,rfl,rfl⟩
   ·rw [Yz] at h;exact wpAny_eqBool_int h
   ·rw [Zh] at h;exact SeqAt.EqAt.int_str i t y u _ _ _ _ h
  ·rcases dM hv with ⟨j,u,rfl,rfl⟩ | ⟨y,u,rfl,rfl⟩
   ·rw [YK] at h;exact SeqAt.EqAt.str_int x t j u _ _ _ _ h
   ·rw [YB] at h;exact wpAny_eqBool_str h
 «strs» :=λk x t v h=>by
  rcases dM h with ⟨i,u,rfl,e⟩ | ⟨y,u,rfl,e⟩
  ·exact nomatch e
  ·injection e with e1 _;subst e1;cases v <;> rfl
theorem K8 (prog:Program) (w:World) (i:Int) (t:Tok):(b8 prog w).is (.inl i) (.int i t)=true:=Sv i t
theorem nZ (prog:Program) (w:World) (x:Str) (t:Tok):(b8 prog w).is (.inr x) (.str x t)=true:=Rh x t
inductive V where
 | non | bl (b:Bool) | int (i:Int) | str (x:Str) | byt (b:Array UInt8) | flt (b:UInt64) | ref (a:Addr) | ty (n:String)
 deriving DecidableEq
noncomputable def RelV:V->Value->Prop
 | .non,u=>u=Value.none
 | .bl b,u=>u=Value.bool b
 | .int i,u=>∃t,u=Value.int i t
 | .str x,u=>∃t,u=Value.str x t
 | .byt b,u=>∃t,u=Value.bytes b t
 | .flt b,u=>∃t,u=Value.float b t
 | .ref a,u=>u=Value.ref a
 | .ty n,u=>u=Value.type n
noncomputable abbrev Vals:List V->List Value->Prop:=Paired RelV
theorem Vals.length {xs:List V} {us:List Value} (r:Vals xs us):xs.length=us.length:=Paired.length r
theorem Vals.get:∀{xs:List V} {us:List Value} {i:Nat} {x:V},Vals xs us->xs[i]?=some x->∃u,us[i]?=some u/\RelV x u
 | _,_,_,_,.nil,e=>by simp at e
 | _,_,0,_,.cons r _,e=>by simp at e;subst e;exact⟨_,rfl,r⟩
 | _,_,i+1,x,.cons _ t,e=>by obtain⟨u,h1,h2⟩:=Vals.get (i:=i) (x:=x) t (by simpa using e);exact⟨u,by simpa using h1,h2⟩
theorem Vals.append:∀{xs ys:List V} {us ws:List Value},Vals xs us->Vals ys ws->Vals (xs ++ ys) (us ++ ws)
 | _,_,_,_,.nil,s=>s
 | _,_,_,_,.cons r t,s=>.cons r (Vals.append t s)
theorem Vals.take:∀{xs:List V} {us:List Value} (n:Nat),Vals xs us->Vals (xs.take n) (us.take n)
 | _,_,0,_=>.nil
 | _,_,_+1,.nil=>.nil
 | _,_,n+1,.cons r t=>.cons r (Vals.take n t)
theorem Vals.drop:∀{xs:List V} {us:List Value} (n:Nat),Vals xs us->Vals (xs.drop n) (us.drop n)
 | _,_,0,r=>r
 | _,_,_+1,.nil=>.nil
 | _,_,n+1,.cons _ t=>Vals.drop n t
noncomputable def uZ:Option V->Option Value->Prop
 | some v,some u=>RelV v u
 | none,none=>True
 | _,_=>False
noncomputable def KV {κ:Type}:List (κ×V)->List (κ×Value)->Prop:=Paired fun(p:κ×V) (q:κ×Value)=>p.1=q.1/\RelV p.2 q.2
noncomputable def kV:Key->V
 | .inl i=>.int i
 | .inr x=>.str x
inductive HO where
  | lst (xs:List V)
  | tup (xs:List V)
  | dK (kvs:List (Key×V)) | dT (kvs:List (List Key×V))
  | set (S:Int->Bool) (n:Nat)
  | ins (C dx:Addr) (fs:List (Str×V))
  | own (x:Addr)
  | xd (fs:List (Str×V))
  | met (f x:Addr)
  | rng (lo hi:Int)
  | frz (o:Obj) (u:HO)
  | tbl (ps:Array Value)
  | ext (φ:Heap->Prop)
noncomputable abbrev Hp:=Addr->Option HO
noncomputable def upd (H:Hp) (a:Addr) (o:HO):Hp:=λb=>if b=a then some o else H b
theorem ao {H:Hp} {a:Addr} {o:HO}:upd H a o a=some o:=by unfold upd;rw [if_pos rfl]
theorem aK {H:Hp} {a b:Addr} {o:HO} (h:b≠a):upd H a o b=H b:=by unfold upd;rw [if_neg h]
theorem rE {H:Hp} {a:Addr} {o u:HO}:upd (upd H a o) a u=upd H a u:=by funext b;unfold upd;split <;> rfl
theorem ym {H:Hp} {a b:Addr} {o u:HO} (h:H a=some o) (h':H b=some u) (d:o≠u):a≠b:=by intro e;subst e;rw [h] at h';exact d (Option.some.inj h')
theorem aF {H:Hp} {a b:Addr} {o:HO} (h:H a=some o) (h':H b=none):a≠b:=by intro e;subst e;rw [h] at h';cases h'
section
variable (P:Program) (w:World)
noncomputable def ig (H:Hp) (h:Heap) (a:Addr):HO->Prop
 | .lst xs=>xs.length<=sizeLine/\∃(its:List Value) (n:Nat),Vals xs its/\h.get? a=some { cls:=.type "list",data:=.seq its.toArray n }
 | .tup xs=>xs.length<=sizeLine/\∃its:List Value,Vals xs its/\IsTup h a its.toArray
 | .dK kvs=>kvs.length<=sizeLine/\(a == sysModules)=false/\∃vs,KV kvs vs/\h.DictOf (b8 P w) a vs
 | .dT kvs=>kvs.length<=sizeLine/\(a == sysModules)=false/\∃xs:List (List Key×Addr×Value),
   Paired (fun(p:List Key×V) (q:List Key×Addr×Value)=>p.1=q.1/\H q.2.1=some (.tup (p.1.map kV))/\RelV p.2 q.2.2) kvs xs/\
   ∃o es ep,h.get? a=some o/\o.ExactDict/\o.data=.dict es ep/\es.toList=xs.map (entryOfKey (tupleKind (b8 P w)))/\(xs.map (·.1)).Nodup
 | .set S n=>h.SetOf (intKind P w) a S n
 | .ins C dx fs=>H dx=some (.own a)/\fs.length<=1000/\dx≠a/\h.get? a=some (PySem.W.instObj C dx)/\
   ∃mA,h.Ns1 dx mA/\(∀f,uZ (fs.lookup f) (mA f))/\PySem.Within mA (fs.map (·.1))
 | .own _=>∃o,h.get? a=some o
 | .xd fs=>∃mA,h.Ns1 a mA/\∀f,uZ (fs.lookup f) (mA f)
 | .rng lo hi=>∃t u v,h.get? a=some { cls:=.type "range",data:=.fields #[.int lo t,.int hi u,.int 1 v] }
 | .frz o u=>h.get? a=some o/\ig H h a u
 | .tbl ps=>h.get? a=some { cls:=.none,data:=.fields ps }
 | .met f x=>h.get? a=some (PySem.W.methodObj (.ref f) (.ref x))
 | .ext φ=>φ h/\(∃o,h.get? a=some o)/\∀h1 h2:Heap,φ h1->(∀o,h1.get? a=some o->h2.get? a=some o)->φ h2
noncomputable def xT (H:Hp) (h:Heap):Prop:=∀a o,H a=some o->ig P w H h a o
end
section
variable {P:Program} {w:World} {H H':Hp} {h h':Heap} {a:Addr} {o:HO}
theorem ig.lt (x:ig P w H h a o):a <h.objs.size:=by
 cases o with
 | lst xs=>obtain⟨_,_,_,_,e⟩:=x;exact Heap.lt_size e
 | tup xs=>obtain⟨_,_,_,p⟩:=x;exact p.lt
 | dK kvs=>obtain⟨_,_,_,_,o,_,_,e,_⟩:=x;exact Heap.lt_size e
 | dT kvs=>obtain⟨_,_,_,_,o,_,_,e,_⟩:=x;exact Heap.lt_size e
 | set S n=>obtain⟨o,_,_,_,e,_⟩:=x;exact Heap.lt_size e
 | ins C dx fs=>obtain⟨_,_,_,e,_⟩:=x;exact Heap.lt_size e
 | own y=>obtain⟨_,e⟩:=x;exact Heap.lt_size e
 | xd fs=>obtain⟨_,⟨_,_,_,e,_⟩,_⟩:=x;exact Heap.lt_size e
 | rng lo hi=>obtain⟨_,_,_,e⟩:=x;exact Heap.lt_size e
 | frz ob u=>obtain⟨e,_⟩:=x;exact Heap.lt_size e
 | tbl ps=>exact Heap.lt_size (show h.get? a=some _ from x)
 | met f y=>exact Heap.lt_size (show h.get? a=some _ from x)
 | ext φ=>obtain⟨_,⟨_,e⟩,_⟩:=x;exact Heap.lt_size e
theorem Paired.mapP {α β:Type} {F G:α->β->Prop}:∀{l₁:List α} {l₂:List β},Paired F l₁ l₂->(∀a b,F a b->G a b)->Paired G l₁ l₂
 | _,_,.nil,_=>.nil
 | _,_,.cons r t,f=>.cons (f _ _ r) (Paired.mapP t f)
theorem ig.stay (x:ig P w H h a o) (k:∀b u,(b=a∨H b=some (.own a))->h.get? b=some u->h'.get? b=some u)
  (ho:∀b,H b=some (.own a)->H' b=some (.own a)) (ht:∀b xs,H b=some (.tup xs)->H' b=some (.tup xs)):ig P w H' h' a o:=by
 induction o with
 | lst xs=>obtain⟨z,its,n,r,e⟩:=x;exact⟨z,its,n,r,k _ _ (.inl rfl) e⟩
 | tup xs=>obtain⟨z,its,r,ob,e,c⟩:=x;exact⟨z,its,r,ob,k _ _ (.inl rfl) e,c⟩
 | dK kvs=>obtain⟨z,y,vs,r,ob,es,ep,e,c⟩:=x;exact⟨z,y,vs,r,ob,es,ep,k _ _ (.inl rfl) e,c⟩
 | dT kvs=>
  obtain⟨z,y,xs,r,ob,es,ep,e,c⟩:=x;exact⟨z,y,xs,Paired.mapP r λp q z=>⟨z.1,ht _ _ z.2.1,z.2.2⟩,ob,es,ep,k _ _ (.inl Y) e,c⟩
 | set S n=>obtain⟨ob,es,ep,t,e,c⟩:=x;exact⟨ob,es,ep,t,k _ _ (.inl rfl) e,c⟩
 | ins C dx fs=>
  obtain⟨d,z,ne,e,mA,⟨od,es,ep,e2,c⟩,r⟩:=x;exact⟨ho _ d,z,ne,k _ _ (.inl Y) e,mA,⟨od,es,ep,k _ _ (.inr d) e2,c⟩,r⟩
 | own y=>obtain⟨ob,e⟩:=x;exact⟨ob,k _ _ (.inl rfl) e⟩
 | xd fs=>obtain⟨mA,⟨od,es,ep,e,c⟩,r⟩:=x;exact⟨mA,⟨od,es,ep,k _ _ (.inl rfl) e,c⟩,r⟩
 | rng lo hi=>obtain⟨t,u,v,e⟩:=x;exact⟨t,u,v,k _ _ (.inl rfl) e⟩
 | frz ob u ih=>obtain⟨e,q⟩:=x;exact⟨k _ _ (.inl rfl) e,ih q⟩
 | tbl ps=>
  have e:h.get? a=some { cls:=.none,data:=.fields ps }:=x;show h'.get? a=some { cls:=.none,data:=.fields ps };exact k a _ (.inl Y) e
 | met f y=>
  have e:h.get? a=some (PySem.W.methodObj (.ref f) (.ref y)):=x;show h'.get? a=some (PySem.W.methodObj (.ref f) (.ref y));exact k a _ (.inl Y) e
 | ext φ=>obtain⟨p,⟨o,e⟩,st⟩:=x;exact⟨st _ _ p λo q=>k _ _ (.inl rfl) q,⟨o,k _ _ (.inl rfl) e⟩,st⟩
theorem xT.lt (x:xT P w H h) (e:H a=some o):a <h.objs.size:=(x a o e).lt
theorem xT.fresh (x:xT P w H h) (e:h.objs.size<=a):H a=none:=by
 cases q:H a with
 | none=>rfl
 | some u=>exact absurd (lt_of_lt_of_le (x.lt q) e) (lt_irrefl _)
theorem xT.kept (x:xT P w H h) (k:∀b u,h.get? b=some u->h'.get? b=some u):xT P w H h':=λa o e=>
 (x a o e).stay (λb u _ q=>k b u q) (λ_ q=>q) λ_ _ q=>q
theorem xT.laid (x:xT P w H h) (k:∀b u,h.get? b=some u->h'.get? b=some u) (hp:h.objs.size<=a) (new:ig P w (upd H a o) h' a o):xT P w (upd H a o) h':=λb u e=>by
 have hn:=x.fresh hp;by_cases hb:b=a
 ·subst hb;rw [ao] at e;cases e;exact new
 ·rw [aK hb] at e;exact(x b u e).stay (λc v _ q=>k c v q) (λc q=>by rw [aK (aF q hn)];exact q) λc xs q=>by rw [aK (aF q hn)];exact q
end
noncomputable def Rd (H:Hp) (a:Addr) (u:HO):Prop:=H a=some u∨∃o,H a=some (.frz o u)
theorem Rd.ok {P:Program} {w:World} {H:Hp} {h:Heap} {a:Addr} {u:HO} (r:Rd H a u) (x:xT P w H h):ig P w H h a u:=by
 rcases r with r | ⟨o,r⟩
 ·exact x a u r
 ·obtain⟨_,q⟩:=x a _ r;exact q
noncomputable def Mut:Option HO->Prop
 | some (.lst _)=>True
 | some (.dK _)=>True
 | some (.dT _)=>True
 | some (.set _ _)=>True
 | some (.ins _ _ _)=>True
 | some (.ext _)=>True
 | _=>False
section
variable {P:Program} {w:World} {H:Hp} {h h':Heap} {x e:Addr} {o':HO}
theorem xT.write (ok:xT P w H h) (mu:Mut (H x)) (he:e=x∨H e=some (.own x)) (k:∀b u,b≠e->h.get? b=some u->h'.get? b=some u) (heo:∃u,h'.get? e=some u)
  (new:ig P w (upd H x o') h' x o'):xT P w (upd H x o') h':=λb u q=>by
 have nown:∀c y,H c=some (.own y)->c≠x:=λc y r z=>by subst z;rw [r] at mu;exact mu
 have ntup:∀c xs,H c=some (.tup xs)->c≠x:=λc xs r z=>by subst z;rw [r] at mu;exact mu
 by_cases hb:b=x
 ·subst hb;rw [ao] at q;cases q;exact new
 ·rw [aK hb] at q;by_cases hbe:b=e
  ·have q':H b=some (.own x):=by
    rcases he with z | z
    ·exact absurd (hbe.trans z) hb
    ·rw [hbe];exact z
   rw [q] at q';cases q';obtain⟨v,hv⟩:=heo;exact⟨v,by rw [hbe];exact hv⟩
  ·refine(ok b u q).stay (λc v hc r=>k c v ?_ r) (λc r=>by rw [aK (nown c b r)];exact r) λc xs r=>by rw [aK (ntup c xs r)];exact r
   rcases hc with rfl | hc
   ·exact hbe
   ·rintro rfl;rcases he with z | z
    ·exact nown c b hc z
    ·rw [hc] at z;cases z;exact hb rfl
end
structure Un (fs ex:List Addr) (H H':Hp) (h h':Heap):Prop where
 keep:∀b o,h.get? b=some o->H b=none->b∉fs->b∉ex->h'.get? b=some o
 slot:∀b o,h.get? b=some o->H b=none->b∈fs->b∉ex->∃sl,h'.get? b=some { o with slots:=sl }
 free:∀b o,h.get? b=some o->H b=none->b∉ex->H' b=none
 there:∀b o,h.get? b=some o->b∉ex->∃o',h'.get? b=some o'
 tups:∀b xs,H b=some (.tup xs)->H' b=some (.tup xs)
 frzs:∀b o u,H b=some (.frz o u)->H' b=some (.frz o u)
 tbls:∀b ps,H b=some (.tbl ps)->∃more,H' b=some (.tbl (ps ++ more))
section
variable {fs fs' ex ex':List Addr} {H H1 H2:Hp} {h h1 h2 h':Heap} {a x e:Addr} {o:HO}
theorem Un.any (u:Un fs ex H H1 h h1) {b:Addr} {ob:Obj} (q:h.get? b=some ob) (n:H b=none) (hx:b∉ex):∃sl,h1.get? b=some { ob with slots:=sl }:=by
 by_cases hb:b∈fs
 ·exact u.slot b ob q n hb hx
 ·exact⟨ob.slots,u.keep b ob q n hb hx⟩
theorem Un.kept (k:∀b u,h.get? b=some u->h'.get? b=some u):Un fs ex H H h h':=
 ⟨λb ob q _ _ _=>k b ob q,λb ob q _ _ _=>⟨ob.slots,k b ob q⟩,λ_ _ _ n _=>n,λb ob q _=>⟨ob,k b ob q⟩,λ_ _ q=>q,λ_ _ _ q=>q,λ_ ps q=>⟨#[],by rw [q];simp⟩⟩
theorem Un.refl:Un fs ex H H h h:=Un.kept λ_ _ q=>q
theorem Un.laid (k:∀b u,h.get? b=some u->h'.get? b=some u) (hp:h.objs.size<=a) (hn:H a=none):Un fs ex H (upd H a o) h h' where
 keep:=λb u q _ _ _=>k b u q
 slot:=λb u q _ _ _=>⟨u.slots,k b u q⟩
 free:=λb u q n _=>by rw [aK (ne_of_lt (lt_of_lt_of_le (Heap.lt_size q) hp))];exact n
 there:=λb u q _=>⟨u,k b u q⟩
 tups:=λb xs q=>by rw [aK (aF q hn)];exact q
 frzs:=λb u xs q=>by rw [aK (aF q hn)];exact q
 tbls:=λb ps q=>⟨#[],by rw [aK (aF q hn),q];simp⟩
theorem Un.write (mu:Mut (H x)) (he:e=x∨H e=some (.own x)) (k:∀b u,b≠e->h.get? b=some u->h'.get? b=some u) (heo:∃u,h'.get? e=some u):Un fs ex H (upd H x o) h h':=by
 have hx:∀b,H b=none->b≠x:=λb n z=>by subst z;rw [n] at mu;exact mu
 have hb:∀b,H b=none->b≠e:=λb n z=>by
  subst z;rcases he with r | r
  ·exact hx b n r
  ·rw [n] at r;cases r
 have hm:∀b u,H b=some u->¬Mut (some u)->b≠x:=λb u q nm z=>by subst z;rw [q] at mu;exact nm mu
 refine⟨λb u q n _ _=>k b u (hb b n) q,λb u q n _ _=>⟨u.slots,k b u (hb b n) q⟩,λb u q n _=>by rw [aK (hx b n)];exact n,λb u q _=>?_,
  λb xs q=>by rw [aK (hm b _ q λz=>z)];exact q,λb u xs q=>by rw [aK (hm b _ q λz=>z)];exact q,λb ps q=>⟨#[],by rw [aK (hm b _ q λz=>z),q];simp⟩⟩
 by_cases hbe:b=e
 ·subst hbe;exact heo
 ·exact⟨u,k b u hbe q⟩
end
noncomputable def trk (h:Heap) (H:Hp):List Addr:=(List.range h.objs.size).filter λa=>(H a).isSome
noncomputable def Kz (h:Heap) (H:Hp):Heap:=PySem.W.hideAll h (trk h H)
theorem Sd (h:Heap) (H:Hp):(Kz h H).objs.size=h.objs.size:=PySem.W.hideAll_size _ _
theorem Vg {h:Heap} {H:Hp} {b:Addr} {o:Obj} (e:h.get? b=some o) (n:H b=none):(Kz h H).get? b=some o:=
 PySem.W.hideAll_get _ e λhm=>by have q:(H b).isSome=true:=(mem_filter.mp hm).2;rw [n] at q;simp at q
theorem WD {h:Heap} {H:Hp} {b:Addr} {o:Obj} (e:(Kz h H).get? b=some o):h.get? b=some o/\H b=none:=by
 have e':h.get? b=some o:=PySem.W.of_hideAll (trk h H) e;refine⟨e',?_⟩;cases q:H b with
 | none=>rfl
 | some x=>
  have hm:b∈trk h H:=mem_filter.mpr ⟨mem_range.mpr (Heap.lt_size e'),by simp [q]⟩;have z:(Kz h H).get? b=none:=PySem.W.hideAll_none (trk h H) hm;rw [z] at e;cases e
structure Mod (K:Fr) (mg:Str->Option Value) (base:Heap):Prop where
 kin:K.In base
 glob:base.Ns mainGlobals mg
 blt:∃mb,base.Ns builtinsNs mb/\∀x:Str,x≠ "__name__" ->mb x=bootBuiltins x
 nolimit:base.NoLimit
structure Cx where
 prog:Program
 w:World
 K:Fr
 mg:Str->Option Value
 base:Heap
 A:Around
 N:List Str
 s₀:Shared
 H₀:Hp
 env:Env
 outer:List Env
 stack:List Env
 ex:List Addr
 fn:Str->Bool
 calm:Bool
 pn:List (Addr×Obj)
 xe:Value->Shared->Prop
noncomputable def frs (l:List Env):List Addr:=l.filterMap (·.frame)
noncomputable abbrev Cx.fs (X:Cx):List Addr:=frs X.outer
noncomputable def Vis (sc:Scope) (x:Str):Prop:=sc.names.lookup x=some .local∨sc.names.lookup x=some .cell∨sc.names.lookup x=some .free
noncomputable def Loc (sc:Scope) (x:Str):Prop:=sc.names.lookup x=some .local∨sc.names.lookup x=some .cell
noncomputable def Look (env:Env) (h:Heap) (m:Str->Option Value) (x:Str) (u:Value):Prop:=
 (env.kindOf x=some .local/\m x=some u)∨((env.kindOf x=some .cell∨env.kindOf x=some .free)/\∃c,env.cells.lookup x=some c/\h.IsCell c (some u))
structure Cx.Ok (X:Cx):Prop where
 mod:Mod X.K X.mg X.base
 kind:X.env.scope.kind=.function
 glob:X.env.globals=mainGlobals
 blt:X.env.builtins=builtinsNs
 above:X.s₀.heap.objs.size<=X.env.locals
 inj:∀x y c,X.env.cells.lookup x=some c->X.env.cells.lookup y=some c->x=y
 has:∀x,(X.env.kindOf x=some .cell∨X.env.kindOf x=some .free)->∃c,X.env.cells.lookup x=some c
 cab:∀x c,X.fn x=true->X.env.cells.lookup x=some c->X.s₀.heap.objs.size<=c
 hd:X.calm=true->X.A.handled=none
 frames:X.A.frames=some X.stack
 stk:X.stack=X.outer∨(X.stack=X.env:: X.outer/\X.env.frame=some X.env.locals)
 exf:∀b∈X.ex,b≠X.env.locals/\∀x c,X.env.cells.lookup x=some c->c≠b
 bs:∀b o,X.base.get? b=some o->X.s₀.heap.get? b=some o/\X.H₀ b=none
 bsz:X.base.objs.size<=X.s₀.heap.objs.size
 noex:∀b o,X.base.get? b=some o->b∉X.ex
 exfs:∀b∈X.ex,b∉X.fs
 funs:X.s₀.heap.FunFrames X.base X.outer
 frf:∀b∈X.fs,X.H₀ b=none
structure Inv (X:Cx) (pins:List (Addr×Obj)) (σ:List (Option V)) (H:Hp) (s:Shared):Prop where
 ok:X.Ok
 os:s.os=X.s₀.os
 bare:AllBare s.gens
 base:Un X.fs X.ex X.H₀ H X.s₀.heap s.heap
 loc:∃m,s.heap.Ns X.env.locals m/\∀(i:Nat) (x:Str) (v:V),X.N[i]?=some x->σ[i]?=some (some v)->Vis X.env.scope x->∃u,RelV v u/\Look X.env s.heap m x u
 cell:∀x c,X.env.cells.lookup x=some c->∃v,s.heap.IsCell c v
 free:H X.env.locals=none
 freeC:∀x c,X.env.cells.lookup x=some c->H c=none
 pin:∀p∈X.pn ++ pins,s.heap.get? p.1=some p.2/\H p.1=none/\p.1≠X.env.locals/\p.1∉X.fs/\∀v,p.2.data≠.cell v
 hok:xT X.prog X.w H s.heap
 len:σ.length=X.N.length
section
variable {X:Cx} {pins:List (Addr×Obj)} {σ:List (Option V)} {H H':Hp} {s:Shared} {h':Heap}
theorem Cx.Ok.nofr (ok:X.Ok) {b:Addr} {o:Obj} (e:X.base.get? b=some o):b∉X.fs:=λhb=>by have:=(ok.funs.mem hb).1;rw [e] at this;cases this
theorem Inv.bs (I:Inv X pins σ H s):∀b o,X.base.get? b=some o->s.heap.get? b=some o/\H b=none:=λb o e=>
 ⟨I.base.keep b o (I.ok.bs b o e).1 (I.ok.bs b o e).2 (I.ok.nofr e) (I.ok.noex b o e),I.base.free b o (I.ok.bs b o e).1 (I.ok.bs b o e).2 (I.ok.noex b o e)⟩
theorem Inv.bk (I:Inv X pins σ H s):∀b o,X.base.get? b=some o->s.heap.get? b=some o:=λb o e=>(I.bs b o e).1
theorem Inv.mod (I:Inv X pins σ H s):Mod X.K X.mg X.base:=I.ok.mod
theorem Inv.kIn (I:Inv X pins σ H s):X.K.In s.heap:=I.ok.mod.kin.keeps I.bk
theorem Inv.lt (I:Inv X pins σ H s):X.env.locals <s.heap.objs.size:=let ⟨_,hn,_⟩:=I.loc;hn.lt
theorem Inv.sz (I:Inv X pins σ H s):X.s₀.heap.objs.size<=s.heap.objs.size:=le_trans I.ok.above (Nat.le_of_lt I.lt)
theorem Inv.nofs (I:Inv X pins σ H s) {a:Addr} (h:s.heap.objs.size<=a):a∉X.fs:=λhb=>by obtain⟨_,o,ho,_⟩:=I.ok.funs.mem hb;exact absurd (lt_of_lt_of_le (Heap.lt_size ho) (le_trans I.sz h)) (lt_irrefl _)
theorem Inv.cne (I:Inv X pins σ H s):∀x c,X.env.cells.lookup x=some c->c≠X.env.locals:=λx c e z=>by obtain⟨v,o,ho,hd⟩:=I.cell x c e;obtain⟨m,⟨o',es,ep,ho',hd',_⟩,_⟩:=I.loc;rw [z,ho'] at ho;cases ho;rw [hd'] at hd;cases hd
theorem Inv.funs (I:Inv X pins σ H s):s.heap.FunFrames X.base X.outer:=by
 have all:∀(l:List Env),(∀b∈frs l,b∈X.fs)->X.s₀.heap.FunFrames X.base l->s.heap.FunFrames X.base l:=by
  intro l;induction l with
  | nil=>intro _ _;trivial
  | cons env r ih=>
   intro hs hl;obtain⟨hk,⟨L,o,hf,hn,ho,hd⟩,hr⟩:=hl;have hL:L∈X.fs:=hs L (by unfold frs;rw [filterMap_cons,hf];exact mem_cons_self);obtain⟨sl,e⟩:=I.base.slot L o ho (I.ok.frf L hL) hL λz=>I.ok.exfs L z hL;exact⟨hk,⟨L,_,hf,hn,e,hd⟩,ih (λb hb=>hs b (by unfold frs;rw [filterMap_cons,hf];exact mem_cons_of_mem _ hb)) hr⟩
 exact all X.outer (λ_ hb=>hb) I.ok.funs
theorem Inv.stack (I:Inv X pins σ H s):s.heap.FunFrames X.base X.stack:=by
 rcases I.ok.stk with e | ⟨e,hf⟩
 ·rw [e];exact I.funs
 ·rw [e];obtain⟨m,hn,_⟩:=I.loc;refine .cons (by rw [I.ok.kind];decide) hf hn ?_ I.funs;exact Heap.get?_none_of_le (le_trans I.ok.bsz I.ok.above)
theorem Inv.stkSub (I:Inv X pins σ H s):∀b∈frs X.stack,b∈X.env.locals:: X.fs:=λb hb=>by
 rcases I.ok.stk with e | ⟨e,hf⟩
 ·rw [e] at hb;exact mem_cons_of_mem _ hb
 ·rw [e] at hb;unfold frs at hb;rw [filterMap_cons,hf] at hb;exact hb
theorem Inv.stkFree (I:Inv X pins σ H s):∀b∈frs X.stack,H b=none:=λb hb=>by
 rcases mem_cons.mp (I.stkSub b hb) with e | hb
 ·rw [e];exact I.free
 ·obtain⟨_,o,ho,_⟩:=I.ok.funs.mem hb;exact I.base.free b o ho (I.ok.frf b hb) λz=>I.ok.exfs b z hb
theorem Inv.step {g':Array GenState} {t':Nat} {d':Drawn} {ch:List Addr} (I:Inv X pins σ H s)
  (hch:∀b∈ch,(b∈X.ex∨X.s₀.heap.objs.size<=b)/\b≠X.env.locals/\(∀x c,X.env.cells.lookup x=some c->c≠b)/\∀p∈X.pn ++ pins,p.1≠b)
  (keep:∀b o,b≠X.env.locals->b∉X.fs->b∉ch->s.heap.get? b=some o->H b=none->h'.get? b=some o)
  (slot:∀b o,b≠X.env.locals->b∈X.fs->b∉ch->s.heap.get? b=some o->H b=none->∃sl,h'.get? b=some { o with slots:=sl }) (free:∀b o,b∉ch->s.heap.get? b=some o->H b=none->H' b=none)
  (there:∀b o,b∉ch->s.heap.get? b=some o->∃o',h'.get? b=some o')
  (tups:∀b xs,H b=some (.tup xs)->H' b=some (.tup xs)) (frzs:∀b o u,H b=some (.frz o u)->H' b=some (.frz o u)) (tbls:∀b ps,H b=some (.tbl ps)->∃more,H' b=some (.tbl (ps ++ more)))
  (ns:∀m,s.heap.Ns X.env.locals m->h'.Ns X.env.locals m) (hok:xT X.prog X.w H' h') (hg:AllBare g'):
  Inv X pins σ H' { s with heap:=h',gens:=g',drawn:=d',toks:=t' }:=by
 have neL:∀b o,X.s₀.heap.get? b=some o->b≠X.env.locals:=λb o e=>ne_of_lt (lt_of_lt_of_le (Heap.lt_size e) I.ok.above);have neC:∀b o,X.s₀.heap.get? b=some o->b∉X.ex->b∉ch:=λb o e hx hb=>by
  rcases(hch b hb).1 with z | z
  ·exact hx z
  ·exact absurd (lt_of_lt_of_le (Heap.lt_size e) z) (lt_irrefl _)
 have cellK:∀x c,X.env.cells.lookup x=some c->∀v,s.heap.IsCell c v->h'.IsCell c v:=λx c e v ⟨o,ho,hd⟩=>by
  have nch:c∉ch:=λz=>(hch c z).2.2.1 x c e rfl;by_cases hc:c∈X.fs
  ·obtain⟨sl,q⟩:=slot c o (I.cne x c e) hc nch ho (I.freeC x c e);exact⟨_,q,hd⟩
  ·exact⟨o,keep c o (I.cne x c e) hc nch ho (I.freeC x c e),hd⟩
 refine⟨I.ok,I.os,hg,⟨λb o e n hb hx=>?_,λb o e n hb hx=>?_,λb o e n hx=>?_,λb o e hx=>?_,λb xs e=>tups b xs (I.base.tups b xs e),λb o xs e=>frzs b o xs (I.base.frzs b o xs e),λb ps e=>?_⟩,?_,λx c e=>?_,?_,λx c e=>?_,λp hp=>?_,hok,I.len⟩
 ·exact keep b o (neL b o e) hb (neC b o e hx) (I.base.keep b o e n hb hx) (I.base.free b o e n hx)
 ·obtain⟨sl,e1⟩:=I.base.slot b o e n hb hx;obtain⟨sl',e2⟩:=slot b _ (neL b o e) hb (neC b o e hx) e1 (I.base.free b o e n hx);exact⟨sl',e2⟩
 ·obtain⟨o',e1⟩:=I.base.there b o e hx;exact free b o' (neC b o e hx) e1 (I.base.free b o e n hx)
 ·obtain⟨o',e1⟩:=I.base.there b o e hx;exact there b o' (neC b o e hx) e1
 ·obtain⟨m1,e1⟩:=I.base.tbls b ps e;obtain⟨m2,e2⟩:=tbls b _ e1;exact⟨m1 ++ m2,by rw [e2,Array.append_assoc]⟩
 ·obtain⟨m,hn,hl⟩:=I.loc;refine⟨m,ns m hn,λi x v e1 e2 e3=>?_⟩;obtain⟨u,r,l⟩:=hl i x v e1 e2 e3;refine⟨u,r,?_⟩;rcases l with l | ⟨k,c,e,z⟩
  ·exact .inl l
  ·exact .inr ⟨k,c,e,cellK x c e _ z⟩
 ·obtain⟨v,z⟩:=I.cell x c e;exact⟨v,cellK x c e v z⟩
 ·obtain⟨m,⟨o,_,_,ho,_⟩,_⟩:=I.loc;exact free _ o (λz=>(hch _ z).2.1 Y) ho I.free
 ·obtain⟨v,o,ho,hd⟩:=I.cell x c e;exact free c o (λz=>(hch c z).2.2.1 x c e Y) ho (I.freeC x c e)
 ·obtain⟨e,n,ne,nf,d⟩:=I.pin p hp;have nch:p.1∉ch:=λz=>(hch p.1 z).2.2.2 p hp rfl;exact⟨keep p.1 p.2 ne nf nch e n,free p.1 p.2 nch e n,ne,nf,d⟩
theorem Inv.un {t':Nat} (I:Inv X pins σ H s) (u:Un X.fs [] H H' s.heap h') (hok:xT X.prog X.w H' h'):Inv X pins σ H' { s with heap:=h',toks:=t' }:=by obtain⟨m,⟨o,es,ep,ho,r⟩,_⟩:=id I.loc;obtain⟨sl,hL⟩:=u.any ho I.free (by simp);exact I.step (g':=s.gens) (d':=s.drawn) (ch:=[]) (λ_ z=>nomatch z) (λb o _ hb _ e n=>u.keep b o e n hb (by simp)) (λb o _ hb _ e n=>u.slot b o e n hb (by simp)) (λb o _ e n=>u.free b o e n (by simp)) (λb o _ e=>u.there b o e (by simp)) u.tups u.frzs u.tbls (λm' hm=>by obtain⟨o',es',ep',ho',r'⟩:=hm;rw [ho] at ho';cases ho';exact⟨_,es',ep',hL,r'⟩) hok I.bare
theorem Inv.call {g':Array GenState} {t':Nat} {d':Drawn} {ch:List Addr} (I:Inv X pins σ H s) (u:Un (frs X.stack) ch H H' s.heap h') (hok:xT X.prog X.w H' h') (hg:AllBare g')
  (hch:∀b∈ch,(b∈X.ex∨X.s₀.heap.objs.size<=b)/\b≠X.env.locals/\(∀x c,X.env.cells.lookup x=some c->c≠b)/\∀p∈X.pn ++ pins,p.1≠b):
  Inv X pins σ H' { s with heap:=h',gens:=g',drawn:=d',toks:=t' }:=by
 obtain⟨m,⟨o,es,ep,ho,r⟩,_⟩:=id I.loc;obtain⟨sl,hL⟩:=u.any ho I.free λz=>(hch _ z).2.1 rfl;exact I.step (ch:=ch) hch (λb o hL hb hc e n=>u.keep b o e n (λz=>(mem_cons.mp (I.stkSub b z)).elim hL hb) hc) (λb o _ _ hc e n=>u.any e n hc) (λb o hc e n=>u.free b o e n hc) (λb o hc e=>u.there b o e hc) u.tups u.frzs u.tbls (λm' hm=>by obtain⟨o',es',ep',ho',r'⟩:=hm;rw [ho] at ho';cases ho';exact⟨_,es',ep',hL,r'⟩) hok hg
theorem Inv.turned {t':Nat} {it:Addr} (I:Inv X pins σ H s) (k:∀b o,b≠it->s.heap.get? b=some o->h'.get? b=some o) (hn:H it=none) (hL:it≠X.env.locals)
  (h1:it∈X.ex∨X.s₀.heap.objs.size<=it) (h2:∀x c,X.env.cells.lookup x=some c->c≠it) (h3:∀p∈X.pn ++ pins,p.1≠it):Inv X pins σ H { s with heap:=h',toks:=t' }:=by
 have nit:∀b u,H b=some u->b≠it:=λb u e z=>by rw [z,hn] at e;cases e
 refine I.step (g':=s.gens) (d':=s.drawn) (ch:=[it]) (λb hb=>?_) (λb o _ _ hc e _=>k b o (λz=>hc (by simp [z])) e) (λb o _ _ hc e _=>⟨o.slots,k b o (λz=>hc (by simp [z])) e⟩) (λ_ _ _ _ n=>n)
  (λb o hc e=>⟨o,k b o (λz=>hc (by simp [z])) e⟩) (λ_ _ e=>e) (λ_ _ _ e=>e) (λb ps e=>⟨#[],by rw [e];simp⟩) (λm hm=>?_) (λb u e=>?_) I.bare
 ·have e:b=it:=by simpa using hb
  subst e;exact⟨h1,hL,h2,h3⟩
 ·obtain⟨o,es,ep,ho,r⟩:=hm;exact⟨o,es,ep,k _ o (Ne.symm hL) ho,r⟩
 ·refine(I.hok b u e).stay (λc v hc q=>k c v ?_ q) (λ_ q=>q) λ_ _ q=>q;rcases hc with z | z
  ·rw [z];exact nit b u e
  ·exact nit c _ z
theorem Inv.tok (I:Inv X pins σ H s) (t:Nat):Inv X pins σ H { s with toks:=t }:=I.un (h':=s.heap) (t':=t) Un.refl I.hok
theorem Inv.kept {t':Nat} (I:Inv X pins σ H s) (k:∀b u,s.heap.get? b=some u->h'.get? b=some u):Inv X pins σ H { s with heap:=h',toks:=t' }:=I.un (Un.kept k) (I.hok.kept k)
theorem Inv.laid {a:Addr} {o:HO} {t':Nat} (I:Inv X pins σ H s) (k:∀b u,s.heap.get? b=some u->h'.get? b=some u) (hp:s.heap.objs.size<=a) (new:ig X.prog X.w (upd H a o) h' a o):
  Inv X pins σ (upd H a o) { s with heap:=h',toks:=t' }:=I.un (Un.laid k hp (I.hok.fresh hp)) (I.hok.laid k hp new)
theorem Inv.write {x e:Addr} {o:HO} {t':Nat} (I:Inv X pins σ H s) (mu:Mut (H x)) (he:e=x∨H e=some (.own x)) (k:∀b u,b≠e->s.heap.get? b=some u->h'.get? b=some u) (heo:∃u,h'.get? e=some u)
  (new:ig X.prog X.w (upd H x o) h' x o):Inv X pins σ (upd H x o) { s with heap:=h',toks:=t' }:=I.un (Un.write mu he k heo) (I.hok.write mu he k heo new)
theorem Inv.weak {σ':List (Option V)} (I:Inv X pins σ H s) (hl:σ'.length=σ.length) (w:∀(i:Nat) v,σ'[i]?=some (some v)->σ[i]?=some (some v)):Inv X pins σ' H s:=
 ⟨I.ok,I.os,I.bare,I.base,let ⟨m,hn,hl'⟩:=I.loc;⟨m,hn,λi x v e1 e2 e3=>hl' i x v e1 (w i v e2) e3⟩,I.cell,I.free,I.freeC,I.pin,I.hok,hl.trans I.len⟩
theorem Inv.pins_of {pins':List (Addr×Obj)} (I:Inv X pins σ H s) (h:∀p∈pins',s.heap.get? p.1=some p.2/\H p.1=none/\p.1≠X.env.locals/\p.1∉X.fs/\∀v,p.2.data≠.cell v):Inv X pins' σ H s:=
 ⟨I.ok,I.os,I.bare,I.base,I.loc,I.cell,I.free,I.freeC,λp hp=>(mem_append.mp hp).elim (λz=>I.pin p (List.mem_append_left _ z)) (h p),I.hok,I.len⟩
theorem Mq {N:List Str} (hN:N.Nodup) {i j:Nat} {x:Str} (a:N[i]?=some x) (b:N[j]?=some x):i=j:=by obtain⟨h1,e1⟩:=List.getElem?_eq_some_iff.mp a;obtain⟨h2,e2⟩:=List.getElem?_eq_some_iff.mp b;exact(getElem_inj hN).mp (e1.trans e2.symm)
theorem BL {M:Model} {A:Around} {E:Value->Shared->Prop} {i:Nat} {x:Str} {v:V} {u:Value} {Q:Unit->Shared->Prop} (I:Inv X pins σ H s) (hN:X.N.Nodup) (hi:X.N[i]?=some x) (hx:Loc X.env.scope x) (r:RelV v u)
  (h:∀s',Inv X pins (σ.set i (some v)) H s'->(∃a,Heap.SameBut a s.heap s'.heap/\(a=X.env.locals∨X.env.cells.lookup x=some a))->Q () s') (hf:X.fn x=true∨X.env.scope.names.lookup x=some .local:=by first | exact .inl rfl | exact .inr rfl | assumption):wpAny M A (storeName X.env x u) Q E s:=by
 obtain⟨m,hn,hl⟩:=id I.loc;have hcls:(X.env.scope.kind == .class || (X.env.scope.kind == .module && X.env.locals != X.env.globals))=false:=by rw [I.ok.kind];rfl
 have hiσ:i <σ.length:=by rw [I.len];exact(List.getElem?_eq_some_iff.mp hi).1
 have cne:=I.cne;have tracked:∀{a:Addr} {h':Heap},(∃o,s.heap.get? a=some o/\H a=none)->Heap.SameBut a s.heap h'->xT X.prog X.w H h':=λ{a h'} ha hs b ob e=>by
  obtain⟨_,_,hfree⟩:=ha;refine(I.hok b ob e).stay (λc w' hc q=>(hs.2 c ?_).trans q) (λ_ q=>q) λ_ _ q=>q;rintro rfl;rcases hc with rfl | hc
  ·rw [hfree] at e;cases e
  ·rw [hfree] at hc;cases hc
 rcases hx with hk | hk
 ·refine wpAny_storeName_local hk hn (λh' hn' hs=>?_) hcls;obtain⟨oL,_,_,hoL,_⟩:=id hn;refine h _ ⟨I.ok,I.os,I.bare,⟨λb o e n hb hx=>?_,λb o e n hb hx=>?_,I.base.free,λb o e hx=>?_,I.base.tups,I.base.frzs,I.base.tbls⟩,⟨_,hn',λj y v' e1 e2 e3=>?_⟩,λy c e=>?_,I.free,I.freeC,λp hp=>?_,tracked ⟨oL,hoL,I.free⟩ hs,by simpa using I.len⟩ ⟨_,hs,.inl Y⟩
  ·exact(hs.2 b (ne_of_lt (lt_of_lt_of_le (Heap.lt_size e) I.ok.above))).trans (I.base.keep b o e n hb hx)
  ·obtain⟨sl,e1⟩:=I.base.slot b o e n hb hx;exact⟨sl,(hs.2 b (ne_of_lt (lt_of_lt_of_le (Heap.lt_size e) I.ok.above))).trans e1⟩
  ·obtain⟨o',e1⟩:=I.base.there b o e hx;exact⟨o',(hs.2 b (ne_of_lt (lt_of_lt_of_le (Heap.lt_size e) I.ok.above))).trans e1⟩
  ·by_cases hj:j=i
   ·subst hj;rw [hi] at e1;cases e1;rw [List.getElem?_set_self hiσ] at e2;cases e2;exact⟨u,r,.inl ⟨hk,by simp⟩⟩
   ·rw [List.getElem?_set_ne (Ne.symm hj)] at e2;obtain⟨u',r',q⟩:=hl j y v' e1 e2 e3;refine⟨u',r',?_⟩;rcases q with ⟨k,e⟩ | ⟨k,c,e,z⟩
    ·refine .inl ⟨k,?_⟩;have:y≠x:=λe=>hj (Mq hN e1 (e ▸ hi));simp [this,e]
    ·exact .inr ⟨k,c,e,z.sameBut hs (cne y c e)⟩
  ·obtain⟨w',z⟩:=I.cell y c e;exact⟨w',z.sameBut hs (cne y c e)⟩
  ·obtain⟨e,n,ne,nf,d⟩:=I.pin p hp;exact⟨(hs.2 p.1 ne).trans e,n,ne,nf,d⟩
 ·have hfn:X.fn x=true:=by
   rcases hf with z | z
   ·exact z
   ·rw [z] at hk;cases hk
  obtain⟨c,hc⟩:=I.ok.has x (.inl hk);obtain⟨w',z⟩:=I.cell x c hc;refine wpAny_storeName_cell I.ok.kind hk hc z (λh' hc' hs=>?_);obtain⟨oc,hoc,hocd⟩:=id z;refine h { s with heap:=h' } ⟨I.ok,I.os,I.bare,⟨λb o e n hb hx=>?_,λb o e n hb hx=>?_,I.base.free,λb o e hx=>?_,I.base.tups,I.base.frzs,I.base.tbls⟩,⟨m,hn.sameBut hs (Ne.symm (cne x c hc)),λj y v' e1 e2 e3=>?_⟩,λy c' e=>?_,I.free,I.freeC,λp hp=>?_,tracked ⟨oc,hoc,I.freeC x c hc⟩ hs,by simpa using I.len⟩ ⟨c,hs,.inr hc⟩
  ·exact(hs.2 b (ne_of_lt (lt_of_lt_of_le (Heap.lt_size e) (I.ok.cab x c hfn hc)))).trans (I.base.keep b o e n hb hx)
  ·obtain⟨sl,e1⟩:=I.base.slot b o e n hb hx;exact⟨sl,(hs.2 b (ne_of_lt (lt_of_lt_of_le (Heap.lt_size e) (I.ok.cab x c hfn hc)))).trans e1⟩
  ·obtain⟨o',e1⟩:=I.base.there b o e hx;exact⟨o',(hs.2 b (ne_of_lt (lt_of_lt_of_le (Heap.lt_size e) (I.ok.cab x c hfn hc)))).trans e1⟩
  ·by_cases hj:j=i
   ·subst hj;rw [hi] at e1;cases e1;rw [List.getElem?_set_self hiσ] at e2;cases e2;exact⟨u,r,.inr ⟨.inl hk,c,hc,hc'⟩⟩
   ·rw [List.getElem?_set_ne (Ne.symm hj)] at e2;obtain⟨u',r',q⟩:=hl j y v' e1 e2 e3;refine⟨u',r',?_⟩;rcases q with q | ⟨k,c',e,z'⟩
    ·exact .inl q
    ·refine .inr ⟨k,c',e,z'.sameBut hs ?_⟩;rintro rfl;exact hj (Mq hN e1 (I.ok.inj _ _ _ e hc ▸ hi))
  ·by_cases hcc:c'=c
   ·subst hcc;exact⟨_,hc'⟩
   ·obtain⟨w2,z2⟩:=I.cell y c' e;exact⟨w2,z2.sameBut hs hcc⟩
  ·obtain⟨e,n,ne,nf,d⟩:=I.pin p hp;refine⟨(hs.2 p.1 ?_).trans e,n,ne,nf,d⟩;intro q;rw [q,hoc] at e;have q':oc=p.2:=Option.some.inj e;exact d w' (by rw [<-q'];exact hocd)
theorem M6 {M:Model} {A:Around} {E:Value->Shared->Prop} {i:Nat} {x:Str} {v:V} {u:Value} {Q:Unit->Shared->Prop} (I:Inv X pins σ H s) (hN:X.N.Nodup) (hi:X.N[i]?=some x) (hx:Loc X.env.scope x) (r:RelV v u)
  (h:∀s',Inv X pins (σ.set i (some v)) H s'->Q () s') (hf:X.fn x=true∨X.env.scope.names.lookup x=some .local:=by first | exact .inl rfl | exact .inr rfl | assumption):wpAny M A (storeName X.env x u) Q E s:=
 BL I hN hi hx r (λs' I' _=>h s' I') hf
theorem Inv.call' {s':Shared} {ch:List Addr} (I:Inv X pins σ H s) (ho:s'.os=s.os) (u:Un (frs X.stack) ch H H' s.heap s'.heap) (hok:xT X.prog X.w H' s'.heap) (hg:AllBare s'.gens)
  (hch:∀b∈ch,(b∈X.ex∨X.s₀.heap.objs.size<=b)/\b≠X.env.locals/\(∀x c,X.env.cells.lookup x=some c->c≠b)/\∀p∈X.pn ++ pins,p.1≠b):Inv X pins σ H' s':=by
 obtain⟨h',g',d',t',o'⟩:=s';have e:o'=s.os:=ho;subst e;exact I.call (g':=g') (t':=t') (d':=d') u hok hg hch
end
noncomputable abbrev XK:=Value->Option Addr->Hp->Prop
noncomputable abbrev St:=List (Option V)
noncomputable abbrev VK:=V->Hp->Prop
noncomputable abbrev TE:=St->Hp->VK->Prop
noncomputable abbrev TT:=St->Hp->(Bool->Hp->Prop)->Prop
noncomputable abbrev TA:=St->Hp->(List V->Hp->Prop)->Prop
structure Ends where
 nx:St->Hp->Prop
 rt:VK
 bk:St->Hp->Prop:=λ_ _=>False
 ct:St->Hp->Prop:=λ_ _=>False
noncomputable abbrev TS:=Ends->St->Hp->Prop
noncomputable def EP (X:Cx) (pins:List (Addr×Obj)) (σ:St) (Q:VK) (u:Value) (s':Shared):Prop:=∃v H',Inv X pins σ H' s'/\RelV v u/\Q v H'
noncomputable def TP (X:Cx) (pins:List (Addr×Obj)) (σ:St) (Q:Bool->Hp->Prop) (b:Bool) (s':Shared):Prop:=∃H',Inv X pins σ H' s'/\Q b H'
noncomputable def AP (X:Cx) (pins:List (Addr×Obj)) (σ:St) (Q:List V->Hp->Prop) (us:List Value) (s':Shared):Prop:=∃vs H',Inv X pins σ H' s'/\Vals vs us/\Q vs H'
noncomputable def SP (X:Cx) (pins:List (Addr×Obj)) (D:Ends) (f:Flow) (s':Shared):Prop:=
 match f with
 | .next=>∃σ' H',Inv X pins σ' H' s'/\D.nx σ' H'
 | .brk=>∃σ' H',Inv X pins σ' H' s'/\D.bk σ' H'
 | .cont=>∃σ' H',Inv X pins σ' H' s'/\D.ct σ' H'
 | .ret u=>∃v σ' H',Inv X pins σ' H' s'/\RelV v u/\D.rt v H'
noncomputable def PE (X:Cx) (e:Expr) (t:TE):Prop:=
 ∀(pins:List (Addr×Obj)) (s:Shared) (σ:St) (H:Hp) (Q:VK),Inv X pins σ H s->t σ H Q->wpAny (model X.prog X.w) X.A (eval e X.env) (EP X pins σ Q) X.xe s
noncomputable def PT (X:Cx) (e:Expr) (t:TT):Prop:=
 ∀(pins:List (Addr×Obj)) (s:Shared) (σ:St) (H:Hp) (Q:Bool->Hp->Prop),Inv X pins σ H s->t σ H Q->wpAny (model X.prog X.w) X.A (isTrue e X.env (eval e X.env)) (TP X pins σ Q) X.xe s
noncomputable def PW (X:Cx) (e:Expr) (t:TT):Prop:=
 ∀(whole:Sem Value) (pins:List (Addr×Obj)) (s:Shared) (σ:St) (H:Hp) (Q:Bool->Hp->Prop),Inv X pins σ H s->t σ H Q->wpAny (model X.prog X.w) X.A (isTrue e X.env whole) (TP X pins σ Q) X.xe s
theorem PW.pt {X:Cx} {e:Expr} {t:TT} (h:PW X e t):PT X e t:=h _
noncomputable def PA (X:Cx) (es:List Expr) (t:TA):Prop:=
 ∀(pos:Pos) (pins:List (Addr×Obj)) (s:Shared) (σ:St) (H:Hp) (Q:List V->Hp->Prop),Inv X pins σ H s->t σ H Q->wpAny (model X.prog X.w) X.A (spliced (backTo pos (starEach es X.env))) (AP X pins σ Q) X.xe s
noncomputable def PS (X:Cx) (st:Stmt) (t:TS):Prop:=
 ∀(pins:List (Addr×Obj)) (s:Shared) (σ:St) (H:Hp) (D:Ends),Inv X pins σ H s->t D σ H->wpAny (model X.prog X.w) X.A (exec st X.env) (SP X pins D) X.xe s
noncomputable def QH (X:Cx) (st:List Stmt) (t:TS):Prop:=
 ∀(pins:List (Addr×Obj)) (s:Shared) (σ:St) (H:Hp) (D:Ends),Inv X pins σ H s->t D σ H->wpAny (model X.prog X.w) X.A (execs st X.env) (SP X pins D) X.xe s
theorem eO {α:Type} {t:Sem α} {Q Q':α->Shared->Prop} {M:Model} {A:Around} {E:Value->Shared->Prop} {s:Shared} (h:wpAny M A t Q E s) (hQ:∀a s,Q a s->Q' a s):wpAny M A t Q' E s:=wpAny_mono h hQ λ_ _ x=>x
section
variable {X:Cx}
inductive Yk (i:Nat) (σ:St) (H:Hp) (Q:VK):Prop where
 | mk:∀v,σ[i]?=some (some v)->Q v H->Yk i σ H Q
noncomputable def xR (i:Nat):TE:=λσ H Q=>Yk i σ H Q
noncomputable def tC (v:V):TE:=λ_ H Q=>Q v H
theorem Zu {i:Nat} {x:Str} {pos:Pos} (hN:X.N[i]?=some x) (hv:Vis X.env.scope x) (hd:(x == ("__debug__" :Str))=false:=by decide) (hcd:(x == ("__classdict__" :Str))=false:=by decide):PE X (.Name x pos) (xR i):=by
 intro pins s σ H Q I h;obtain⟨v,e,h⟩:=h;obtain⟨m,hn,hl⟩:=I.loc;obtain⟨u,r,l⟩:=hl i x v hN e hv;have fin:EP X pins σ Q u s:=⟨v,H,I,r,h⟩;rcases l with ⟨hk,hm⟩ | ⟨hk,c,hc,hcell⟩
 ·exact wpAny_Name (wpAny_loadName_local I.ok.kind hk hn hm fin) hd
 ·rcases hk with hk | hk
  ·exact wpAny_Name (wpAny_loadName_cell I.ok.kind hk hc hcell fin) hd
  ·exact wpAny_Name (wpAny_loadName_free I.ok.kind hk hc hcell fin hcd) hd
theorem au {i j pos}:PE X (.Constant (.int i) j pos) (tC (.int i)):=λ_ _ _ H _ I h=>wpAny_Constant_int ⟨.int i,H,I.tok _,⟨_,rfl⟩,h⟩
theorem nj {b j pos}:PE X (.Constant (.bool b) j pos) (tC (.bl b)):=λ_ _ _ H _ I h=>Constant_bool ⟨.bl b,H,I,rfl,h⟩
theorem vC {j pos}:PE X (.Constant .none j pos) (tC .non):=λ_ _ _ H _ I h=>Constant_none ⟨.non,H,I,rfl,h⟩
theorem bQ {x j pos}:PE X (.Constant (.str x) j pos) (tC (.str x)):=λ_ _ _ H _ I h=>Calls.Constant_str ⟨.str x,H,I.tok _,⟨_,rfl⟩,h⟩
noncomputable def Gl (X:Cx) (x:Str):Prop:=X.env.kindOf x=some .globalImplicit
theorem KJ {E:Value->Shared->Prop} {pins:List (Addr×Obj)} {s:Shared} {σ:St} {H:Hp} {x:Str} {u:Value} {pos:Pos} {Q:Value->Shared->Prop} (I:Inv X pins σ H s) (hg:Gl X x) (hm:X.mg x=some u) (h:Q u s)
  (hd:(x == ("__debug__" :Str))=false:=by decide):wpAny (model X.prog X.w) X.A (eval (.Name x pos) X.env) Q E s:=
 Calls.Name_function_global I.ok.kind hg (Calls.loadGlobal_global (by rw [I.ok.glob];exact I.mod.glob.keeps I.bk) hm h) hd
theorem Ka {E:Value->Shared->Prop} {pins:List (Addr×Obj)} {s:Shared} {σ:St} {H:Hp} {x:Str} {u:Value} {pos:Pos} {Q:Value->Shared->Prop} (I:Inv X pins σ H s) (hg:Gl X x) (hm:X.mg x=none) (hv:bootBuiltins x=some u) (h:Q u s)
  (hn:x≠ "__name__" :=by decide) (hd:(x == ("__debug__" :Str))=false:=by decide):wpAny (model X.prog X.w) X.A (eval (.Name x pos) X.env) Q E s:=by
 obtain⟨mb,h1,h2⟩:=I.mod.blt;exact Calls.Name_function_global I.ok.kind hg (Calls.loadGlobal_builtin (by rw [I.ok.glob];exact I.mod.glob.keeps I.bk) hm (by rw [I.ok.blt];exact h1.keeps I.bk) ((h2 x hn).trans hv) h) hd
theorem Km {x:Str} {v:V} {u:Value} {pos:Pos} (hg:Gl X x) (hm:X.mg x=some u) (r:RelV v u) (hd:(x == ("__debug__" :Str))=false:=by decide):PE X (.Name x pos) (tC v):=
 λ_ _ _ H _ I h=>KJ I hg hm ⟨v,H,I,r,h⟩ hd
theorem WK {x:Str} {v:V} {u:Value} {pos:Pos} (hg:Gl X x) (hm:X.mg x=none) (hv:bootBuiltins x=some u) (r:RelV v u) (hn:x≠ "__name__" :=by decide) (hd:(x == ("__debug__" :Str))=false:=by decide):PE X (.Name x pos) (tC v):=
 λ_ _ _ H _ I h=>Ka I hg hm hv ⟨v,H,I,r,h⟩ hn hd
variable {a b:Expr} {ta tb:TE} {pos:Pos}
noncomputable def PC (X:Cx) (op:CmpOp) (a b:Expr) (t:TE):Prop:=
 ∀(pins:List (Addr×Obj)) (s:Shared) (σ:St) (H:Hp) (Q:VK),Inv X pins σ H s->t σ H Q->
  wpAny (model X.prog X.w) X.A (eval a X.env) (λv s₁=>wpAny (model X.prog X.w) X.A (eval b X.env) (λu s₂=>wpAny (model X.prog X.w) X.A (compareOp op v u) (EP X pins σ Q) X.xe s₂) X.xe s₁) X.xe s
theorem Lb (b:Expr) {op:CmpOp} (h:op≠.In) (h2:op≠.NotIn):behindInMarks op b=false:=by
 have e1:(op == CmpOp.In)=false:=by cases op <;> first | rfl | exact absurd rfl h
 have e2:(op == CmpOp.NotIn)=false:=by cases op <;> first | rfl | exact absurd rfl h2
 cases b <;> simp [behindInMarks,e1,e2]
noncomputable def aa3 (ta:TE):TE:=λσ H Q=>ta σ H λx H1=>Q (.bl (decide (x=.non))) H1
noncomputable def Z9 (ta:TE):TE:=λσ H Q=>ta σ H λx H1=>Q (.bl (!decide (x=.non))) H1
theorem RelV.none_iff {x:V} {v:Value} (r:RelV x v):(v == Value.none)=decide (x=.non):=by
 cases x with
 | non=>cases r;rfl
 | bl _=>cases r;rfl
 | int _=>obtain⟨t,rfl⟩:=r;rfl
 | str _=>obtain⟨t,rfl⟩:=r;rfl
 | byt _=>obtain⟨t,rfl⟩:=r;rfl
 | flt _=>obtain⟨t,rfl⟩:=r;rfl
 | ref _=>cases r;rfl
 | ty _=>cases r;rfl
theorem Ca {j pos'} (ha:PE X a ta):PC X .Is a (.Constant .none j pos') (aa3 ta):=by intro pins s σ H Q I h;refine eO (ha pins s σ H _ I h) λv s1 hpt=>?_;obtain⟨x,H1,I1,r1,q1⟩:=hpt;exact Constant_none (is_none_gen ⟨.bl _,H1,I1,by rw [r1.none_iff];rfl,q1⟩)
theorem z8 {j pos'} (ha:PE X a ta):PC X .IsNot a (.Constant .none j pos') (Z9 ta):=by intro pins s σ H Q I h;refine eO (ha pins s σ H _ I h) λv s1 hpt=>?_;obtain⟨x,H1,I1,r1,q1⟩:=hpt;exact Constant_none (isnot_none_gen ⟨.bl _,H1,I1,by rw [r1.none_iff];rfl,q1⟩)
inductive tBI (Q:Bool->Hp->Prop) (x:V) (H1:Hp):Prop where
 | mk:∀c,x=.bl c->Q c H1->tBI Q x H1
noncomputable def tB (t:TE):TT:=λσ H Q=>t σ H λx H1=>tBI Q x H1
theorem KC {op:CmpOp} {t:TE} (h:PC X op a b t) (h1:behindInMarks op b=false:=by first | exact Lb _ (by decide) (by decide) | rfl):PE X (.Compare a [op] [b] pos) t:=λpins s σ H Q I hw=>wpAny_Compare1 (h pins s σ H Q I hw) h1
theorem jo {op:CmpOp} {t:TE} (h:PC X op a b t) (h1:behindInMarks op b=false:=by first | exact Lb _ (by decide) (by decide) | rfl):PT X (.Compare a [op] [b] pos) (tB t):=by intro pins s σ H Q I hw;refine wpAny_isTrue_Compare1 (eO (h pins s σ H _ I hw) λv s1 h1=>eO h1 λu s2 h2=>eO h2 λc s3 hpt=>?_) h1;obtain⟨x,H1,I1,r1,q1⟩:=hpt;obtain⟨d,rfl,q⟩:=q1;cases r1;exact wpAny_truthy_bool ⟨H1,I1,q⟩
theorem jZ {e:Expr} {t:TE} (h:PE X e t) (he:∀whole,isTrue e X.env whole=(do let v <-whole;standAt e.pos;holding [v] (truthy v)):=by intro _;rfl):PT X e (tB t):=by intro pins s σ H Q I hw;refine isTrue_plain (eO (h pins s σ H _ I hw) λv s1 ⟨x,H1,I1,r1,q1⟩=>?_) (he _);obtain⟨d,rfl,q⟩:=q1;cases r1;exact wpAny_truthy_bool ⟨H1,I1,q⟩
variable {tA tB':TT} {rest:List Expr}
noncomputable def YX (t u:TT):TT:=λσ H Q=>t σ H λc H1=>if c=true then u σ H1 Q else Q false H1
noncomputable def tOr (t u:TT):TT:=λσ H Q=>t σ H λc H1=>if c=true then Q true H1 else u σ H1 Q
noncomputable def aa7 (t:TT):TT:=λσ H Q=>t σ H λc H1=>Q (!c) H1
theorem xH (ha:PT X a tA):PW X (.BoolOp .And [a] pos) tA:=by
 intro wh pins s σ H Q I h;refine isTrue_and (eO (ha pins s σ H Q I h) λc s1 e=>?_);cases c with
 | true=>exact isTrue_and_nil e
 | false=>exact e
theorem uv (ha:PT X a tA):PW X (.BoolOp .Or [a] pos) tA:=by
 intro wh pins s σ H Q I h;refine isTrue_or (eO (ha pins s σ H Q I h) λc s1 e=>?_);cases c with
 | false=>exact isTrue_or_nil e
 | true=>exact e
theorem yG (ha:PT X a tA) (hb:PW X (.BoolOp .And (b:: rest) pos) tB'):PW X (.BoolOp .And (a:: b:: rest) pos) (YX tA tB'):=by
 intro wh pins s σ H Q I h;refine isTrue_and (eO (ha pins s σ H _ I h) λc s1 hpt=>?_);obtain⟨H1,I1,q1⟩:=hpt;cases c with
 | true=>exact hb wh pins s1 σ H1 Q I1 q1
 | false=>exact⟨H1,I1,q1⟩
theorem Ar (ha:PT X a tA) (hb:PW X (.BoolOp .Or (b:: rest) pos) tB'):PW X (.BoolOp .Or (a:: b:: rest) pos) (tOr tA tB'):=by
 intro wh pins s σ H Q I h;refine isTrue_or (eO (ha pins s σ H _ I h) λc s1 hpt=>?_);obtain⟨H1,I1,q1⟩:=hpt;cases c with
 | true=>exact⟨H1,I1,q1⟩
 | false=>exact hb wh pins s1 σ H1 Q I1 q1
theorem lW (ha:PT X a tA):PT X (.UnaryOp .Not a pos) (aa7 tA):=by intro pins s σ H Q I h;exact isTrue_not (ha pins s σ H (λc H1=>Q (!c) H1) I h)
inductive V3 (tb:TE) (σ:St) (Q:VK) (x:V) (H1:Hp):Prop where
 | mk:∀c,x=.bl c->(if c=true then tb σ H1 Q else Q (.bl false) H1)->V3 tb σ Q x H1
noncomputable def aaa (ta tb:TE):TE:=λσ H Q=>ta σ H λx H1=>V3 tb σ Q x H1
inductive Yq (tb:TE) (σ:St) (Q:VK) (x:V) (H1:Hp):Prop where
 | mk:∀c,x=.bl c->(if c=true then Q (.bl true) H1 else tb σ H1 Q)->Yq tb σ Q x H1
noncomputable def aba (ta tb:TE):TE:=λσ H Q=>ta σ H λx H1=>Yq tb σ Q x H1
inductive Uw (Q:VK) (x:V) (H1:Hp):Prop where
 | mk:∀c,x=.bl c->Q (.bl (!c)) H1->Uw Q x H1
noncomputable def aaO (ta:TE):TE:=λσ H Q=>ta σ H λx H1=>Uw Q x H1
theorem yR {op} {t:TE} (h:PE X a t):PE X (.BoolOp op [a] pos) t:=λpins s σ H Q I hw=>BoolOp_one (h pins s σ H Q I hw)
theorem yP (ha:PE X a ta) (hb:PE X (.BoolOp .And (b:: rest) pos) tb):PE X (.BoolOp .And (a:: b:: rest) pos) (aaa ta tb):=by
 intro pins s σ H Q I h;refine BoolOp_and (eO (ha pins s σ H _ I h) λv s1 hpt=>?_);obtain⟨x,H1,I1,r1,q1⟩:=hpt;obtain⟨c,rfl,q1⟩:=q1;cases r1;refine wpAny_truthy_bool ?_;cases c with
 | true=>exact hb pins s1 σ H1 Q I1 q1
 | false=>exact⟨.bl false,H1,I1,rfl,q1⟩
theorem aav (ha:PE X a ta) (hb:PE X (.BoolOp .Or (b:: rest) pos) tb):PE X (.BoolOp .Or (a:: b:: rest) pos) (aba ta tb):=by
 intro pins s σ H Q I h;refine BoolOp_or (eO (ha pins s σ H _ I h) λv s1 hpt=>?_);obtain⟨x,H1,I1,r1,q1⟩:=hpt;obtain⟨c,rfl,q1⟩:=q1;cases r1;refine wpAny_truthy_bool ?_;cases c with
 | false=>exact hb pins s1 σ H1 Q I1 q1
 | true=>exact⟨.bl true,H1,I1,rfl,q1⟩
theorem Zq (ha:PE X a ta):PE X (.UnaryOp .Not a pos) (aaO ta):=by intro pins s σ H Q I h;refine UnaryOp_ (eO (ha pins s σ H _ I h) λv s1 hpt=>?_);obtain⟨x,H1,I1,r1,q1⟩:=hpt;obtain⟨c,rfl,q1⟩:=q1;cases r1;exact not_of (wpAny_truthy_bool ⟨.bl (!c),H1,I1,Y,q1⟩)
noncomputable def tIf (t:TT) (ta tb:TE):TE:=λσ H Q=>t σ H λc H1=>if c=true then ta σ H1 Q else tb σ H1 Q
theorem qj {c:Expr} (hc:PT X c tA) (ha:PE X a ta) (hb:PE X b tb):PE X (.IfExp c a b pos) (tIf tA ta tb):=by
 intro pins s σ H Q I h;refine wpAny_IfExp (eO (hc pins s σ H _ I h) λd s1 hpt=>?_);obtain⟨H1,I1,q1⟩:=hpt;cases d with
 | true=>exact ha pins s1 σ H1 Q I1 q1
 | false=>exact hb pins s1 σ H1 Q I1 q1
end
noncomputable def bJ (K:Fr) (H:Hp) (a:Addr) (xs:List V):Prop:=
 Rd H a (.lst xs)∨
  ∃(o:Obj) (its:Array Value) (n:Nat),K.lookup a=some o/\o.cls=.type "list" /\o.dict=none/\o.data=.seq its n/\its.size<=sizeLine/\Vals xs its.toList
noncomputable def fZ (K:Fr) (H:Hp) (a:Addr) (xs:List V):Prop:=
 Rd H a (.tup xs)∨
  ∃(o:Obj) (its:Array Value) (n:Nat),K.lookup a=some o/\o.cls=.type "tuple" /\o.data=.seq its n/\its.size<=sizeLine/\Vals xs its.toList
noncomputable def abk:Value->Option V
 | .none=>some .non
 | .bool b=>some (.bl b)
 | .int i _=>some (.int i)
 | .str x _=>some (.str x)
 | .bytes b _=>some (.byt b)
 | .float b _=>some (.flt b)
 | .ref a=>some (.ref a)
 | .type n=>some (.ty n)
 | _=>none
theorem RelV.abs {x:V} {u:Value} (r:RelV x u):abk u=some x:=by
 cases x with
 | non=>cases r;rfl
 | bl _=>cases r;rfl
 | int _=>obtain⟨t,rfl⟩:=r;rfl
 | str _=>obtain⟨t,rfl⟩:=r;rfl
 | byt _=>obtain⟨t,rfl⟩:=r;rfl
 | flt _=>obtain⟨t,rfl⟩:=r;rfl
 | ref _=>cases r;rfl
 | ty _=>cases r;rfl
theorem RelV.inj {x y:V} {u:Value} (r:RelV x u) (q:RelV y u):x=y:=Option.some.inj (r.abs.symm.trans q.abs)
theorem Vals.inj:∀{xs ys:List V} {us:List Value},Vals xs us->Vals ys us->xs=ys
 | _,_,_,.nil,.nil=>rfl
 | _,_,_,.cons r t,.cons r' t'=>by rw [r.inj r',Vals.inj t t']
section
variable {X:Cx} {pins:List (Addr×Obj)} {σ:St} {H:Hp} {s:Shared} {a:Addr} {xs ys:List V}
theorem bJ.of {K:Fr} (h:H a=some (.lst xs)):bJ K H a xs:=.inl (.inl h)
theorem fZ.of {K:Fr} (h:H a=some (.tup xs)):fZ K H a xs:=.inl (.inl h)
theorem Inv.list (I:Inv X pins σ H s) (h:bJ X.K H a xs):∃its:List Value,Vals xs its/\PlainL s.heap a its.toArray/\xs.length<=sizeLine:=by
 rcases h with h | ⟨o,its,n,hk,hc,hd,hs,hz,r⟩
 ·obtain⟨z,its,n,r,e⟩:=h.ok I.hok;exact⟨its,r,⟨_,n,e,Y,Y,Y⟩,z⟩
 ·refine⟨its.toList,r,⟨o,n,I.kIn a o hk,hc,hd,by simpa using hs⟩,?_⟩;have e:=r.length;simp only [Array.length_toList] at e;omega
theorem Inv.tuple (I:Inv X pins σ H s) (h:fZ X.K H a xs):∃its:List Value,Vals xs its/\IsTup s.heap a its.toArray/\xs.length<=sizeLine:=by
 rcases h with h | ⟨o,its,n,hk,hc,hs,hz,r⟩
 ·obtain⟨z,its,r,p⟩:=h.ok I.hok;exact⟨its,r,p,z⟩
 ·refine⟨its.toList,r,⟨o,I.kIn a o hk,hc,n,by simpa using hs⟩,?_⟩;have e:=r.length;simp only [Array.length_toList] at e;omega
theorem Inv.list_inj (I:Inv X pins σ H s) (h:bJ X.K H a xs) (h':bJ X.K H a ys):xs=ys:=by
 obtain⟨its,r,⟨o,n,e,_,_,d⟩,_⟩:=I.list h;obtain⟨its',r',⟨o',n',e',_,_,d'⟩,_⟩:=I.list h';rw [e] at e';cases e';rw [d] at d';injection d' with d1 _;have:its=its':=by simpa using congrArg Array.toList d1
 subst this;exact r.inj r'
theorem Inv.tuple_inj (I:Inv X pins σ H s) (h:fZ X.K H a xs) (h':fZ X.K H a ys):xs=ys:=by
 obtain⟨its,r,⟨o,e,_,n,d⟩,_⟩:=I.tuple h;obtain⟨its',r',⟨o',e',_,n',d'⟩,_⟩:=I.tuple h';rw [e] at e';cases e';rw [d] at d';injection d' with d1 _;have:its=its':=by simpa using congrArg Array.toList d1
 subst this;exact r.inj r'
end
noncomputable abbrev Cx.wish (X:Cx) (E:Value->Shared->Prop):Cx:={ X with xe:=E }
noncomputable abbrev Cx.nox (X:Cx):Cx:=X.wish λ_ _=>False
theorem Cx.Ok.wish {X:Cx} (ok:X.Ok) (E:Value->Shared->Prop):(X.wish E).Ok:=
 ⟨ok.mod,ok.kind,ok.glob,ok.blt,ok.above,ok.inj,ok.has,ok.cab,ok.hd,ok.frames,ok.stk,ok.exf,ok.bs,ok.bsz,ok.noex,ok.exfs,ok.funs,ok.frf⟩
theorem Cx.Ok.unwish {X:Cx} {E:Value->Shared->Prop} (ok:(X.wish E).Ok):X.Ok:=
 ⟨ok.mod,ok.kind,ok.glob,ok.blt,ok.above,ok.inj,ok.has,ok.cab,ok.hd,ok.frames,ok.stk,ok.exf,ok.bs,ok.bsz,ok.noex,ok.exfs,ok.funs,ok.frf⟩
section
variable {X:Cx} {pins:List (Addr×Obj)} {σ:St} {H:Hp} {s:Shared} {E:Value->Shared->Prop}
theorem Inv.wish (I:Inv X pins σ H s) (E:Value->Shared->Prop):Inv (X.wish E) pins σ H s:=⟨I.ok.wish E,I.os,I.bare,I.base,I.loc,I.cell,I.free,I.freeC,I.pin,I.hok,I.len⟩
theorem Inv.unwish (I:Inv (X.wish E) pins σ H s):Inv X pins σ H s:=⟨I.ok.unwish,I.os,I.bare,I.base,I.loc,I.cell,I.free,I.freeC,I.pin,I.hok,I.len⟩
theorem SP.unwish {D:Ends} {f:Flow} {s':Shared} (h:SP (X.wish E) pins D f s'):SP X pins D f s':=by
 cases f with
 | next=>obtain⟨σ',H',I,q⟩:=h;exact⟨σ',H',I.unwish,q⟩
 | brk=>obtain⟨σ',H',I,q⟩:=h;exact⟨σ',H',I.unwish,q⟩
 | cont=>obtain⟨σ',H',I,q⟩:=h;exact⟨σ',H',I.unwish,q⟩
 | ret u=>obtain⟨v,σ',H',I,r,q⟩:=h;exact⟨v,σ',H',I.unwish,r,q⟩
theorem QH.nox {st:List Stmt} {t:TS} (h:QH X.nox st t):QH X st t:=λpins s σ H D I hw=>
 wpAny_mono (h pins s σ H D (I.wish _) hw) (λ_ _ q=>q.unwish) λ_ _ z=>False.elim z
end
section
variable {X:Cx} {st:Stmt} {rest:List Stmt} {t u:TS} {e:Expr} {te:TE} {pos:Pos}
noncomputable def aaf:TS:=λD σ H=>D.nx σ H
noncomputable def Ag (t u:TS):TS:=λD σ H=>t { D with nx:=u D } σ H
theorem bA:QH X [] aaf:=λ_ _ σ H _ I h=>wpAny_execs_nil ⟨σ,H,I,h⟩
theorem aq (h1:PS X st t) (h2:QH X rest u):QH X (st:: rest) (Ag t u):=by
 intro pins s σ H D I h;refine wpAny_execs_cons (eO (h1 pins s σ H { D with nx:=u D } I h) λf s1 q=>?_);cases f with
 | next=>
  obtain⟨σ',H',I',q⟩:=q;exact h2 pins s1 σ' H' D I' q
 | ret v=>exact q
 | brk=>exact q
 | cont=>exact q
theorem aA (h1:PS X st t):QH X [st] t:=by
 intro pins s σ H D I h;refine wpAny_execs_cons (eO (h1 pins s σ H D I h) λf s1 q=>?_);cases f with
 | next=>exact wpAny_execs_nil q
 | ret v=>exact q
 | brk=>exact q
 | cont=>exact q
noncomputable def aam:TS:=λD σ H=>D.ct σ H
theorem Nq:PS X (.Continue pos) aam:=λ_ _ σ H _ I h=>wpAny_Continue ⟨σ,H,I,h⟩
theorem Inv.quiet {pins:List (Addr×Obj)} {σ:St} {H:Hp} {s:Shared} (I:Inv X pins σ H s):interactive X.env=false:=by simp [interactive,I.ok.kind]
noncomputable def aai (te:TE):TS:=λD σ H=>te σ H λ_ H1=>D.nx σ H1
theorem bI (he:PE X e te) (hs:swapsWith e none pos.line X.env=pure false:=by rfl):PS X (.Expr e pos) (aai te):=by intro pins s σ H D I h;exact wpAny_Expr_any (eO (he pins s σ H _ I h) λv s1 ⟨x,H1,I1,r1,q1⟩=>⟨σ,H1,I1,q1⟩) I.quiet hs
noncomputable def aa6 (te:TE):TS:=λD σ H=>te σ H D.rt
theorem aM (he:PE X e te):PS X (.Return (some e) pos) (aa6 te):=by intro pins s σ H D I h;exact wpAny_Return_some (eO (he pins s σ H _ I h) λv s1 ⟨x,H1,I1,r1,q1⟩=>⟨x,σ,H1,I1,r1,q1⟩)
noncomputable def aa8 (c:TT) (t u:TS):TS:=λD σ H=>c σ H λb H1=>if b=true then t D σ H1 else u D σ H1
theorem bU {c:Expr} {a b:List Stmt} {tc:TT} (hc:PT X c tc) (ha:QH X a t) (hb:QH X b u):PS X (.If c a b pos) (aa8 tc t u):=by
 intro pins s σ H D I h;refine wpAny_If (eO (hc pins s σ H _ I h) λd s1 hpt=>?_);obtain⟨H1,I1,q1⟩:=hpt;cases d with
 | true=>exact ha pins s1 σ H1 D I1 q1
 | false=>exact hb pins s1 σ H1 D I1 q1
noncomputable def YC:TS:=λ_ _ _=>False
theorem eQ:PS X st YC:=λ_ _ _ _ _ _ h=>h.elim
end
noncomputable abbrev TG:=V->St->Hp->(St->Hp->Prop)->Prop
noncomputable abbrev V5:=List V->St->Hp->(St->Hp->Prop)->Prop
noncomputable def PG (X:Cx) (target:Expr) (t:TG):Prop:=
 ∀(pins:List (Addr×Obj)) (s:Shared) (σ:St) (H:Hp) (v:V) (u:Value) (Q:St->Hp->Prop),Inv X pins σ H s->RelV v u->t v σ H Q->
  wpAny (model X.prog X.w) X.A (assign target X.env u) (λ_ s'=>∃σ' H',Inv X pins σ' H' s'/\Q σ' H') X.xe s
noncomputable def ZG (X:Cx) (ts:List Expr) (t:V5):Prop:=
 ∀(pins:List (Addr×Obj)) (s:Shared) (σ:St) (H:Hp) (vs:List V) (us:List Value) (Q:St->Hp->Prop),Inv X pins σ H s->Vals vs us->t vs σ H Q->
  wpAny (model X.prog X.w) X.A (assignInOrder ((assignEach ts X.env).map (·.2)) us) (λ_ s'=>∃σ' H',Inv X pins σ' H' s'/\Q σ' H') X.xe s
section
variable {X:Cx} {pos:Pos}
noncomputable def zE (i:Nat):TG:=λv σ H Q=>Q (σ.set i (some v)) H
theorem xP {i:Nat} {x:Str} (hN:X.N.Nodup) (hi:X.N[i]?=some x) (hx:Loc X.env.scope x) (hf:X.fn x=true∨X.env.scope.names.lookup x=some .local:=by first | exact .inl rfl | exact .inr rfl | assumption):PG X (.Name x pos) (zE i):=by intro pins s σ H v u Q I r h;exact wpAny_assign_Name (M6 I hN hi hx r (λs' I'=>⟨_,H,I',h⟩) hf)
noncomputable def abg:V5:=λvs σ H Q=>vs=[]/\Q σ H
inductive Ub (t:TG) (u:V5) (vs:List V) (σ:St) (H:Hp) (Q:St->Hp->Prop):Prop where
 | mk:∀v r,vs=v:: r->(t v σ H λσ' H'=>u r σ' H' Q)->Ub t u vs σ H Q
noncomputable def aaF (t:TG) (u:V5):V5:=λvs σ H Q=>Ub t u vs σ H Q
theorem xF:ZG X [] abg:=by intro pins s σ H vs us Q I r h;obtain⟨e,h⟩:=h;subst e;cases r;exact assignInOrder_nil ⟨σ,H,I,h⟩
theorem jx {e:Expr} {es:List Expr} {t:TG} {u:V5} (h1:PG X e t) (h2:ZG X es u)
  (hs:(assignEach (e:: es) X.env).map (·.2)=assign e X.env:: (assignEach es X.env).map (·.2):=by rfl):ZG X (e:: es) (aaF t u):=by
 intro pins s σ H vs us Q I r h;obtain⟨v,vr,e1,h⟩:=h;subst e1;cases r with
 | cons r rr=>
  rw [hs];refine assignInOrder_cons (eO (h1 pins s σ H _ _ _ I r h) λ_ s1 hpt=>?_);obtain⟨σ1,H1,I1,q1⟩:=hpt;exact h2 pins s1 σ1 H1 _ _ Q I1 rr q1
inductive Yn (K:Fr) (n:Nat) (t:V5) (v:V) (σ:St) (H:Hp) (Q:St->Hp->Prop):Prop where
 | mk:∀a xs,v=.ref a->fZ K H a xs->xs.length=n->t xs σ H Q->Yn K n t v σ H Q
noncomputable def aaD (K:Fr) (n:Nat) (t:V5):TG:=λv σ H Q=>Yn K n t v σ H Q
theorem G9 {es:List Expr} {k:Nat} {t:V5} {n:Nat} (hc:X.calm=true) (h:ZG X es t)
  (hn:(assignEach es X.env).length=n:=by rfl) (hst:(assignEach es X.env).findIdx? (·.1)=none:=by rfl):PG X (.Tuple es k pos) (aaD X.K n t):=by
 intro pins s σ H v u Q I r hw;obtain⟨a,xs,e1,hq,hl,hw⟩:=hw;subst e1;cases r;obtain⟨its,rv,ht,hz⟩:=I.tuple hq;refine assign_Tuple_tuple (I.ok.hd hc) ht (by simp [hn,<-hl,rv.length]) hst λh' hx=>?_;have I1:Inv X pins σ H { s with heap:=h' }:=I.kept (t':=s.toks) λb o e=>hx b o (ne_of_lt (Heap.lt_size e)) e;exact h pins _ σ H xs _ Q I1 (by simpa using rv) hw
noncomputable def Vs (te:TE) (g:TG):TS:=λD σ H=>te σ H λx H1=>g x σ H1 D.nx
theorem YS {tg e:Expr} {te:TE} {g:TG} (he:PE X e te) (hg:PG X tg g) (hs:swapsWithSole [tg] e pos.line X.env=pure false:=by rfl) (hw:swappedStores [tg] e X.env=pure none:=by rfl)
  (h1:(assignEach [tg] X.env).map (·.2)=[assign tg X.env]:=by rfl):PS X (.Assign [tg] e pos) (Vs te g):=by
 intro pins s σ H D I h;refine wpAny_Assign_stores (eO (he pins s σ H _ I h) λv s1 hpt=>?_) hs hw;obtain⟨x,H1,I1,r1,q1⟩:=hpt;rw [h1];exact eO (hg pins s1 σ H1 x v _ I1 r1 q1) λ_ s2 q=>q
theorem Zt {i:Nat} {x:Str} {e:Expr} {te:TE} {pos':Pos} (hN:X.N.Nodup) (hi:X.N[i]?=some x) (hx:Loc X.env.scope x) (he:PE X e te) (hs:swapsWith e (some (.Name x pos')) pos.line X.env=pure false:=by rfl) (hf:X.fn x=true∨X.env.scope.names.lookup x=some .local:=by first | exact .inl rfl | exact .inr rfl | assumption):
  PS X (.Assign [.Name x pos'] e pos) (Vs te (zE i)):=by
 intro pins s σ H D I h;refine wpAny_Assign_Name (eO (he pins s σ H _ I h) λv s1 hpt=>?_) hs;obtain⟨y,H1,I1,r1,q1⟩:=hpt;exact M6 I1 hN hi hx r1 (λs2 I2=>⟨_,H1,I2,q1⟩) hf
end
section
variable {X:Cx} {pos:Pos}
inductive Qv (c:TT) (tb:TS) (D:Ends) (σ:St) (H:Hp):Prop where
 | mk:∀W:Nat->St->Hp->Prop,((∃m,W m σ H))->(∀m σ H,W m σ H->
 c σ H λb H1=>if b=true then ∃N:St->Hp->Prop,(∀σ' H',N σ' H'->∃m',m' <m/\W m' σ' H')/\tb { D with nx:=N,ct:=N,bk:=D.nx } σ H1 else D.nx σ H1)->Qv c tb D σ H
noncomputable def UT (c:TT) (tb:TS):TS:=λD σ H=>Qv c tb D σ H
theorem Gk {c:Expr} {body:List Stmt} {tc:TT} {tb:TS} (hp:PassesOwn (model X.prog X.w) X.A X.env X.xe) (hc:PT X c tc) (hb:QH X body tb):PS X (.While c body [] pos) (UT tc tb):=by
 intro pins s σ H D I h;obtain⟨W,⟨m0,w0⟩,turn⟩:=h;refine wpAny_While (codeAny_whileLoop (λn s'=>∃σ' H',Inv X pins σ' H' s'/\W n σ' H') ?_ m0 ⟨σ,H,I,w0⟩);rintro n s1 ⟨σ1,H1,I1,w1⟩;refine wpAny_passesOwn hp (eO (hc pins s1 σ1 H1 _ I1 (turn n σ1 H1 w1)) λb s2 hpt=>?_);obtain⟨H2,I2,q2⟩:=hpt;cases b with
 | true=>
  obtain⟨N,hN,q2⟩:=q2;rw [if_pos rfl];refine wpAny_passesOwn hp (eO (hb pins s2 σ1 H2 _ I2 q2) λf s3 q3=>?_);cases f with
  | next=>
   obtain⟨σ3,H3,I3,n3⟩:=q3;obtain⟨m',hm,w3⟩:=hN σ3 H3 n3;exact⟨m',hm,σ3,H3,I3,w3⟩
  | cont=>
   obtain⟨σ3,H3,I3,n3⟩:=q3;obtain⟨m',hm,w3⟩:=hN σ3 H3 n3;exact⟨m',hm,σ3,H3,I3,w3⟩
  | brk=>exact q3
  | ret v=>exact q3
 | false=>
  rw [if_neg Bool.false_ne_true];exact wpAny_execs_nil ⟨σ1,H2,I2,q2⟩
end
structure It where
 go:Nat->Hp->Prop
 yld:Nat->Hp->V->Hp->Prop
 stop:Nat->Hp->Prop
noncomputable def JM (X:Cx) (pins:List (Addr×Obj)) (H:Hp) (b:Addr):Prop:=
 H b=none/\b≠X.env.locals/\b∉X.fs/\(b∈X.ex∨X.s₀.heap.objs.size<=b)/\(∀x c,X.env.cells.lookup x=some c->c≠b)/\∀p∈X.pn ++ pins,p.1≠b
theorem Inv.fpOk {X:Cx} {pins:List (Addr×Obj)} {σ:St} {H H':Hp} {s:Shared} {b:Addr} (I:Inv X pins σ H s) (hb:s.heap.objs.size<=b) (hn:H' b=none):JM X pins H' b:=by
 refine⟨hn,Nat.ne_of_gt (lt_of_lt_of_le I.lt hb),I.nofs hb,.inr (le_trans I.sz hb),λx c e z=>?_,λp hp z=>?_⟩
 ·obtain⟨v,q⟩:=I.cell x c e;exact absurd (lt_of_lt_of_le q.lt (by rw [z];exact hb)) (lt_irrefl _)
 ·exact absurd (lt_of_lt_of_le (Heap.lt_size (I.pin p hp).1) (by rw [z];exact hb)) (lt_irrefl _)
structure Turn (P:Program) (w:World) (K:Fr) (tg:Expr) (J:It) (fp:List Addr) (it:Addr) (tn:Nat->Heap->Prop):Prop where
 mem:it∈fp
 obj:∀i h,tn i h->∀b∈fp,∃o,h.get? b=some o/\∀v,o.data≠.cell v
 keep:∀i h h',tn i h->(∀b∈fp,∀o,h.get? b=some o->h'.get? b=some o)->tn i h'
 item:∀(X:Cx),X.prog=P->X.w=w->X.K=K->X.calm=true->∀(i:Nat) (pins:List (Addr×Obj)) (s:Shared) (σ:St) (H:Hp) (E:Value->Shared->Prop),Inv X pins σ H s->(∀b∈fp,JM X pins H b)->tn i s.heap->J.go i H->
  wpAny (model P w) X.A (pyNext (.ref it)) (λr s1=>∃u,r=some u/\
   wpAny (model P w) X.A (letOwnedTupleGo tg (.ref it) u) (λ_ s2=>∃x H',Inv X pins σ H' s2/\RelV x u/\J.yld i H x H'/\tn (i+1) s2.heap/\∀b∈fp,H' b=none) E s1) E s
 done:∀(X:Cx),X.prog=P->X.w=w->X.K=K->X.calm=true->∀(i:Nat) (pins:List (Addr×Obj)) (s:Shared) (σ:St) (H:Hp) (E:Value->Shared->Prop),Inv X pins σ H s->(∀b∈fp,JM X pins H b)->tn i s.heap->J.stop i H->
  wpAny (model P w) X.A (pyNext (.ref it)) (λr s1=>r=none/\Inv X pins σ H s1) E s
 self:∀(A:Around) (i:Nat) (s:Shared) (Q:Value->Shared->Prop) (E:Value->Shared->Prop),tn i s.heap->Q (.ref it) s->wpAny (model P w) A (pyIter (.ref it)) Q E s
noncomputable abbrev TI:=St->Hp->(It->Hp->Prop)->Prop
noncomputable def PIE (X:Cx) (pins:List (Addr×Obj)) (σ:St) (tg:Expr) (R:It->Hp->Prop) (itv:Value) (s2:Shared):Prop:=
 ∃(it:Addr) (fp:List Addr) (tn:Nat->Heap->Prop) (J:It) (H':Hp),itv=.ref it/\Inv X pins σ H' s2/\Turn X.prog X.w X.K tg J fp it tn/\tn 0 s2.heap/\(∀b∈fp,JM X pins H' b)/\R J H'
noncomputable def PI (X:Cx) (tg iter:Expr) (wi:TI):Prop:=
 ∀(pins:List (Addr×Obj)) (s:Shared) (σ:St) (H:Hp) (R:It->Hp->Prop),Inv X pins σ H s->wi σ H R->
  wpAny (model X.prog X.w) X.A (eval iter X.env) (λv s1=>wpAny (model X.prog X.w) X.A (pyIter v) (PIE X pins σ tg R) X.xe s1) X.xe s
theorem MK {M:Model} {A:Around} {E:Value->Shared->Prop} {s:Shared} {tg:Expr} {it:Addr} {u:Value} {o:Obj} {n:String} {vs:Array Value} {Q:Unit->Shared->Prop} (ho:s.heap.get? it=some o) (hc:o.cls=.type n) (hd:o.data=.fields vs)
  (hn:["enumerate", "zip", "dict_itemiterator", "dict_reverseitemiterator", "odict_iterator", "itertools.zip_longest", "itertools.pairwise"].contains n=false) (hQ:Q () s):wpAny M A (letOwnedTupleGo tg (.ref it) u) Q E s:=by
 unfold letOwnedTupleGo;cases tg <;> first
  | exact wpAny_pure hQ
  | (cases u <;> first
    | exact wpAny_pure hQ
    | (refine wpAny_bind (wpAny_load ho ?_)
       rw [hc,hd];show wpAny M A (if (["enumerate", "zip", "dict_itemiterator", "dict_reverseitemiterator", "odict_iterator", "itertools.zip_longest", "itertools.pairwise"].contains n && vs[0]? == some (rawInt _))=true then _ else _) Q E s;rw [if_neg (by intro h;rw [hn,Bool.false_and] at h;cases h)];exact wpAny_pure hQ))
noncomputable def XH (K:Fr) (a:Addr):It:=
 ⟨λi H=>∃xs x,bJ K H a xs/\xs[i]?=some x,λi H x H'=>H'=H/\∀xs,bJ K H a xs->xs[i]?=some x,λi H=>∃xs,bJ K H a xs/\xs.length<=i⟩
noncomputable def Zw (K:Fr) (a:Addr):It:=
 ⟨λi H=>∃xs x,fZ K H a xs/\xs[i]?=some x,λi H x H'=>H'=H/\∀xs,fZ K H a xs->xs[i]?=some x,λi H=>∃xs,fZ K H a xs/\xs.length<=i⟩
noncomputable def Yv (lo:Int) (n:Nat):It:=⟨λi _=>i <n,λi H x H'=>H'=H/\x=.int (lo+i),λi _=>n<=i⟩
theorem Rx {P:Program} {w:World} {K:Fr} {tg:Expr} (a it:Addr):Turn P w K tg (XH K a) [it] it (λi h=>h.IsListIter it a i) where
 mem:=by simp
 obj:=λi h st b hb=>by
  have e:b=it:=by simpa using hb
  subst e;obtain⟨o,e,c,d⟩:=st;exact⟨o,e,λv z=>by rw [d] at z;cases z⟩
 keep:=λi h h' st k=>st.at λo e=>k it (by simp) o e
 item:=by intro X hP hw hK hc i pins s σ H E I hf st hg;subst hP hw hK;obtain⟨xs,x,hq,hx⟩:=hg;obtain⟨its,rv,p,hz⟩:=I.list hq;obtain⟨u,hu,ru⟩:=rv.get hx;obtain⟨f0,f1,f2,f3,f4,f5⟩:=hf it (by simp);refine wpAny_pyNext_list_item st p.isList (x:=u) (by simpa using hu) λh' st' sb=>?_;have I1:Inv X pins σ H { s with heap:=h' }:=I.turned (t':=s.toks) (λb o hb e=>(sb.2 b hb).trans e) f0 f1 f3 f4 f5;obtain⟨o,e,c,d⟩:=id st';exact⟨u,rfl,MK (s:={ s with heap:=h' }) e c d (by decide) ⟨x,H,I1,ru,⟨rfl,λys hy=>by rw [I.list_inj hy hq];exact hx⟩,st',λb hb=>(hf b hb).1⟩⟩
 done:=by intro X hP hw hK hc i pins s σ H E I hf st hg;subst hP hw hK;obtain⟨xs,hq,hx⟩:=hg;obtain⟨its,rv,p,hz⟩:=I.list hq;obtain⟨f0,f1,f2,f3,f4,f5⟩:=hf it (by simp);have hl:=rv.length;exact wpAny_pyNext_list_end (I.ok.hd hc) st p.isList (by simp;omega) λh' eb=>⟨Y,I.turned (t':=s.toks) (λb o hb e=>eb b o hb e) f0 f1 f3 f4 f5⟩
 self:=λ_ _ _ _ _ st h=>wpAny_pyIter_listiter st h
theorem Ot {P:Program} {w:World} {K:Fr} {tg:Expr} (a it:Addr):Turn P w K tg (Zw K a) [it] it (λi h=>h.IsTupleIter it a i) where
 mem:=by simp
 obj:=λi h st b hb=>by
  have e:b=it:=by simpa using hb
  subst e;obtain⟨o,e,c,d⟩:=st;exact⟨o,e,λv z=>by rw [d] at z;cases z⟩
 keep:=λi h h' st k=>st.at λo e=>k it (by simp) o e
 item:=by intro X hP hw hK hc i pins s σ H E I hf st hg;subst hP hw hK;obtain⟨xs,x,hq,hx⟩:=hg;obtain⟨its,rv,p,hz⟩:=I.tuple hq;obtain⟨u,hu,ru⟩:=rv.get hx;obtain⟨f0,f1,f2,f3,f4,f5⟩:=hf it (by simp);refine wpAny_pyNext_tuple_item st (show s.heap.IsTuple a its.toArray from p) (x:=u) (by simpa using hu) λh' st' sb=>?_;have I1:Inv X pins σ H { s with heap:=h' }:=I.turned (t':=s.toks) (λb o hb e=>(sb.2 b hb).trans e) f0 f1 f3 f4 f5;obtain⟨o,e,c,d⟩:=id st';exact⟨u,rfl,MK (s:={ s with heap:=h' }) e c d (by decide) ⟨x,H,I1,ru,⟨rfl,λys hy=>by rw [I.tuple_inj hy hq];exact hx⟩,st',λb hb=>(hf b hb).1⟩⟩
 done:=by intro X hP hw hK hc i pins s σ H E I hf st hg;subst hP hw hK;obtain⟨xs,hq,hx⟩:=hg;obtain⟨its,rv,p,hz⟩:=I.tuple hq;obtain⟨f0,f1,f2,f3,f4,f5⟩:=hf it (by simp);have hl:=rv.length;exact wpAny_pyNext_tuple_end (I.ok.hd hc) st (show s.heap.IsTuple a its.toArray from p) (by simp;omega) λh' eb=>⟨Y,I.turned (t':=s.toks) (λb o hb e=>eb b o hb e) f0 f1 f3 f4 f5⟩
 self:=λ_ _ _ _ _ st h=>wpAny_pyIter_tupleiter st h
theorem Ou {P:Program} {w:World} {K:Fr} {tg:Expr} (it:Addr) (lo:Int) (n:Nat):Turn P w K tg (Yv lo n) [it] it (λi h=>IsRangeIter h it (lo+(i:Nat) * 1) ((n:Int) - (i:Nat)) 1) where
 mem:=by simp
 obj:=λi h st b hb=>by
  have e:b=it:=by simpa using hb
  subst e;exact⟨_,st,λv z=>by have z':Data.fields _=Data.cell v:=z;cases z'⟩
 keep:=λi h h' st k=>k it (by simp) _ st
 item:=by intro X hP hw hK hc i pins s σ H E I hf st hg;subst hP hw hK;obtain⟨f0,f1,f2,f3,f4,f5⟩:=hf it (by simp);have W:=Walks.range (prog:=X.prog) (w:=X.w) (I.ok.hd hc) it lo 1 n;refine W.item i s _ _ hg st λv h' tk hv st' kk=>?_;obtain⟨t,rfl⟩:=hv;have I1:Inv X pins σ H { s with heap:=h',toks:=tk }:=I.turned (λb o hb e=>kk b o (by simpa using hb) e) f0 f1 f3 f4 f5;refine⟨_,rfl,MK (s:={ s with heap:=h',toks:=tk }) (n:= "range_iterator") st' rfl rfl (by decide) ⟨.int (lo+i),H,I1,⟨t,?_⟩,⟨rfl,rfl⟩,st',λb hb=>(hf b hb).1⟩⟩;rw [Int.mul_one]
 done:=by intro X hP hw hK hc i pins s σ H E I hf st hg;subst hP hw hK;obtain⟨f0,f1,f2,f3,f4,f5⟩:=hf it (by simp);exact wpAny_pyNext_range_end (I.ok.hd hc) st (by have:n<=i:=hg;omega) λh' eb=>⟨Y,I.turned (t':=s.toks) (λb o hb e=>eb b o hb e) f0 f1 f3 f4 f5⟩
 self:=λ_ _ _ _ _ st h=>wpAny_pyIter_rangeiter st h
section
variable {X:Cx} {tg:Expr}
inductive Tt (K:Fr) (R:It->Hp->Prop) (x:V) (H1:Hp):Prop where
 | mk:∀a,x=.ref a->((∃xs,bJ K H1 a xs))->R (XH K a) H1->Tt K R x H1
noncomputable def Yb (K:Fr) (tl:TE):TI:=λσ H R=>tl σ H λx H1=>Tt K R x H1
inductive Yj (K:Fr) (R:It->Hp->Prop) (x:V) (H1:Hp):Prop where
 | mk:∀a,x=.ref a->((∃xs,fZ K H1 a xs))->R (Zw K a) H1->Yj K R x H1
noncomputable def aaR (K:Fr) (tl:TE):TI:=λσ H R=>tl σ H λx H1=>Yj K R x H1
theorem bR {l:Expr} {tl:TE} (hl:PE X l tl):PI X tg l (Yb X.K tl):=by
 intro pins s σ H R I h;refine eO (hl pins s σ H _ I h) λv s1 hpt=>?_;obtain⟨x,H1,I1,r1,q1⟩:=hpt;obtain⟨a,e,⟨xs,hq⟩,q⟩:=q1;subst e;cases r1;obtain⟨its,rv,p,hz⟩:=I1.list hq;refine wpAny_pyIter_list p.isList ?_;refine⟨s1.heap.objs.size,[s1.heap.objs.size],_,_,H1,Y,I1.kept (t':=s1.toks) λb o e=>Heap.get?_push_of_some _ e,Rx a _,⟨_,Heap.get?_push_size _ Y,Y,Y⟩,λb hb=>?_,q⟩;have e:b=s1.heap.objs.size:=by simpa using hb
 subst e;exact I1.fpOk (le_refl _) (I1.hok.fresh (le_refl _))
theorem JF {l:Expr} {tl:TE} (hl:PE X l tl):PI X tg l (aaR X.K tl):=by
 intro pins s σ H R I h;refine eO (hl pins s σ H _ I h) λv s1 hpt=>?_;obtain⟨x,H1,I1,r1,q1⟩:=hpt;obtain⟨a,e,⟨xs,hq⟩,q⟩:=q1;subst e;cases r1;obtain⟨its,rv,p,hz⟩:=I1.tuple hq;refine wpAny_pyIter_tuple (show s1.heap.IsTuple a its.toArray from p) ?_;refine⟨s1.heap.objs.size,[s1.heap.objs.size],_,_,H1,Y,I1.kept (t':=s1.toks) λb o e=>Heap.get?_push_of_some _ e,Ot a _,⟨_,Heap.get?_push_size _ Y,Y,Y⟩,λb hb=>?_,q⟩;have e:b=s1.heap.objs.size:=by simpa using hb
 subst e;exact I1.fpOk (le_refl _) (I1.hok.fresh (le_refl _))
theorem SQ {pins:List (Addr×Obj)} {σ:St} {H:Hp} {s:Shared} {R:It->Hp->Prop} {E:Value->Shared->Prop} {lo hi:Int} {t u v:Tok} {tk:Nat} (I:Inv X pins σ H s) (h1: -(2 ^ 62)<=lo) (h2:lo <2 ^ 62) (h3: -(2 ^ 62)<=hi) (h4:hi <2 ^ 62)
  (q:R (Yv lo (hi - lo).toNat) H):wpAny (model X.prog X.w) X.A (pyIter (.ref s.heap.objs.size)) (PIE X pins σ tg R) E { s with heap:=s.heap.push { cls:=.type "range",data:=.fields #[.int lo t,.int hi u,.int 1 v] },toks:=tk }:=by
 refine wpAny_pyIter_range (IsRange.new ..) (small_one h1 h2 h3 h4) ?_;have I1:Inv X pins σ H { s with heap:=s.heap.push { cls:=.type "range",data:=.fields #[.int lo t,.int hi u,.int 1 v] },toks:=tk }:=I.kept λb o e=>Heap.get?_push_of_some _ e;refine⟨(s.heap.push { cls:=.type "range",data:=.fields #[.int lo t,.int hi u,.int 1 v] }).objs.size,[(s.heap.push { cls:=.type "range",data:=.fields #[.int lo t,.int hi u,.int 1 v] }).objs.size],_,_,H,Y,
  I1.kept (t':=tk) λb o e=>Heap.get?_push_of_some _ e,Ou _ lo (hi - lo).toNat,?_,λb hb=>?_,q⟩
 ·have e1:lo+((0:Nat):Int) * 1=lo:=by simp
  have e2:(((hi - lo).toNat:Nat):Int) - ((0:Nat):Int)=Builtin.Range.rangeSize lo hi 1:=by rw [rangeSize_one];split <;> omega
  show IsRangeIter _ _ (lo+((0:Nat):Int) * 1) ((((hi - lo).toNat:Nat):Int) - ((0:Nat):Int)) 1;rw [e1,e2];exact Heap.get?_push_size _ Y
 ·have e:b=(s.heap.push { cls:=.type "range",data:=.fields #[.int lo t,.int hi u,.int 1 v] }).objs.size:=by simpa using hb
  subst e;exact I1.fpOk (le_refl _) (I1.hok.fresh (le_refl _))
inductive TX (R:It->Hp->Prop) (vs:List V) (H1:Hp):Prop where
 | mk:∀j:Int,vs=[.int j]-> -(2 ^ 62)<=j->j <2 ^ 62->R (Yv 0 j.toNat) H1->TX R vs H1
noncomputable def aak (ta:TA):TI:=λσ H R=>ta σ H λvs H1=>TX R vs H1
theorem gJ {a:Expr} {ta:TA} {p pos:Pos} (hg:Gl X "range") (hm:X.mg "range" =none) (ha:PA X [a] ta) (hs:starEach [a] X.env=[(false,eval a X.env)]:=by rfl):PI X tg (.Call (.Name "range" p) [a] [] pos) (aak ta):=by
 intro pins s σ H R I h;refine Call_ (Ka I hg hm boot_range (PyProof.Rows.callWith_type1 (eO (ha pos pins s σ H _ I h) λus s1 ⟨vs,H1,I1,r1,q1⟩=>?_) hs Y));obtain⟨j,e,q1,q2,q⟩:=q1;subst e;cases r1 with
 | cons r rr=>
  cases rr;obtain⟨t,rfl⟩:=r;exact call_range_1 (SQ I1 (by omega) (by omega) q1 q2 (by simpa using q))
noncomputable def aa4 (wi:TI) (g:TG) (tb:TS):TS:=λD σ H=>wi σ H λJ H1=>∃W:Nat->Nat->St->Hp->Prop,(∃m,W 0 m σ H1)/\∀i m σ H,W i m σ H->
 (J.stop i H/\D.nx σ H)∨(J.go i H/\∃N:St->Hp->Prop,(∀σ' H',N σ' H'->∃m',m' <m/\W (i+1) m' σ' H')/\∀x H',J.yld i H x H'->g x σ H' λσ2 H2=>tb { D with nx:=N,ct:=N,bk:=D.nx } σ2 H2)
noncomputable def JW (fp:List Addr) (h:Heap):List (Addr×Obj):=fp.filterMap λb=>(h.get? b).map λo=>(b,o)
theorem tZ {fp:List Addr} {h:Heap} {b:Addr} {o:Obj} (hb:b∈fp) (e:h.get? b=some o):(b,o)∈JW fp h:=mem_filterMap.mpr ⟨b,hb,by rw [e];rfl⟩
theorem Rn {fp:List Addr} {h:Heap} {p:Addr×Obj} (hp:p∈JW fp h):p.1∈fp/\h.get? p.1=some p.2:=by
 obtain⟨b,hb,e⟩:=mem_filterMap.mp hp;cases q:h.get? b with
 | none=>rw [q] at e;cases e
 | some o=>
  rw [q] at e;have e':(b,o)=p:=Option.some.inj e;subst e';exact⟨hb,q⟩
theorem Inv.pinned {pins:List (Addr×Obj)} {σ:St} {H:Hp} {s:Shared} {fp:List Addr} (I:Inv X pins σ H s) (hf:∀b∈fp,JM X pins H b) (ho:∀b∈fp,∃o,s.heap.get? b=some o/\∀v,o.data≠.cell v):Inv X (pins ++ JW fp s.heap) σ H s:=
 I.pins_of λp hp=>(mem_append.mp hp).elim (λz=>I.pin p (mem_append_right _ z)) λz=>by obtain⟨hb,e⟩:=Rn z;obtain⟨f0,f1,f2,_⟩:=hf p.1 hb;obtain⟨o,e',d⟩:=ho p.1 hb;rw [e] at e';cases e';exact⟨e,f0,f1,f2,d⟩
theorem Inv.unpinned {pins pl:List (Addr×Obj)} {σ:St} {H:Hp} {s:Shared} (I:Inv X (pins ++ pl) σ H s):Inv X pins σ H s:=I.pins_of λp hp=>I.pin p (mem_append_right _ (List.mem_append_left _ hp))
theorem dO {iter:Expr} {body:List Stmt} {wi:TI} {g:TG} {tb:TS} {pos:Pos} (hp:PassesOwn (model X.prog X.w) X.A X.env X.xe) (hc:X.calm=true) (hi:PI X tg iter wi) (hg:PG X tg g) (hb:QH X body tb)
  (hs:∀x,foldedSetIterable iter X.env x=pure x:=by intro _;rfl):PS X (.For tg iter body [] pos) (aa4 wi g tb):=by
 intro pins s σ H D I h;refine wpAny_For (eO (hi pins s σ H _ I h) λv s1 h1=>eO h1 λitv s2 h2=>?_) hs;obtain⟨it,fp,tn,J,H2,e,I2,T,st2,f2,W,⟨m0,w0⟩,turn⟩:=h2;subst e;have stat:∀{H':Hp},(∀b∈fp,H' b=none)->∀b∈fp,JM X pins H' b:=λhn b hb=>⟨hn b hb,(f2 b hb).2⟩;refine codeAny_forLoop_any (λn s'=>∃i σ' H',Inv X pins σ' H' s'/\tn i s'.heap/\(∀b∈fp,H' b=none)/\W i n σ' H') ?_ m0 ⟨0,σ,H2,I2,st2,λb hb=>(f2 b hb).1,w0⟩;rintro n s3 ⟨i,σ3,H3,I3,st3,fr3,w3⟩;rcases turn i n σ3 H3 w3 with ⟨stop,qn⟩ | ⟨go,N,hN,step⟩
 ·refine wpAny_passesOwn hp (eO (T.done X Y Y Y hc i pins s3 σ3 H3 X.xe I3 (stat fr3) st3 stop) λr s4 hpt=>?_);obtain⟨hr,I4⟩:=hpt;subst hr;exact wpAny_execs_nil ⟨σ3,H3,I4,qn⟩
 ·refine wpAny_passesOwn hp (eO (T.item X Y Y Y hc i pins s3 σ3 H3 X.xe I3 (stat fr3) st3 go) λr s4 hpt=>?_);obtain⟨u,hr,h4⟩:=hpt;subst hr;refine wpAny_passesOwn hp (eO h4 λ_ s5 hpt=>?_);obtain⟨x,H5,I5,r5,y5,st5,fr5⟩:=hpt;have I5':=I5.pinned (stat fr5) (T.obj _ _ st5);refine wpAny_passesOwn hp (eO (hg _ s5 σ3 H5 x u _ I5' r5 (step x H5 y5)) λ_ s6 hpt=>?_);obtain⟨σ6,H6,I6,q6⟩:=hpt;refine wpAny_passesOwn hp (eO (hb _ s6 σ6 H6 _ I6 q6) λf s7 q7=>?_);have again:∀{σ7:St} {H7:Hp},Inv X (pins ++ JW fp s5.heap) σ7 H7 s7->N σ7 H7->∃m,m <n/\∃i σ' H',Inv X pins σ' H' s7/\tn i s7.heap/\(∀b∈fp,H' b=none)/\W i m σ' H':=λ{σ7 H7} I7 n7=>by obtain⟨m',hm,w7⟩:=hN σ7 H7 n7;refine⟨m',hm,i+1,σ7,H7,I7.unpinned,T.keep _ _ _ st5 λb hb o e=>(I7.pin (b,o) (mem_append_right _ (mem_append_right _ (tZ hb e)))).1,λb hb=>?_,w7⟩;obtain⟨o,e,d⟩:=T.obj _ _ st5 b hb;exact(I7.pin (b,o) (mem_append_right _ (mem_append_right _ (tZ hb e)))).2.1
  cases f with
  | next=>obtain⟨σ7,H7,I7,n7⟩:=q7;exact again I7 n7
  | cont=>obtain⟨σ7,H7,I7,n7⟩:=q7;exact again I7 n7
  | brk=>obtain⟨σ7,H7,I7,q7⟩:=q7;exact⟨σ7,H7,I7.unpinned,q7⟩
  | ret v=>obtain⟨x7,σ7,H7,I7,r7,q7⟩:=q7;exact⟨x7,σ7,H7,I7.unpinned,r7,q7⟩
end
theorem du {K:Fr} {a:Addr} {xs:List V} {g:TG} {tb:TS} {D:Ends} {σ:St} {H:Hp} (Pv:Nat->St->Hp->Prop) (h0:Pv 0 σ H) (hl:∀i σ H,i<=xs.length->Pv i σ H->bJ K H a xs)
  (hs:∀i x σ H,xs[i]?=some x->Pv i σ H->g x σ H λσ2 H2=>tb { D with nx:=Pv (i+1),ct:=Pv (i+1),bk:=D.nx } σ2 H2) (hd:∀σ H,Pv xs.length σ H->D.nx σ H):
  ∃W:Nat->Nat->St->Hp->Prop,(∃m,W 0 m σ H)/\∀i m σ H,W i m σ H->
   ((XH K a).stop i H/\D.nx σ H)∨((XH K a).go i H/\∃N:St->Hp->Prop,(∀σ' H',N σ' H'->∃m',m' <m/\W (i+1) m' σ' H')/\∀x H',(XH K a).yld i H x H'->g x σ H' λσ2 H2=>tb { D with nx:=N,ct:=N,bk:=D.nx } σ2 H2):=by
 refine⟨λi m σ H=>m=xs.length - i/\i<=xs.length/\Pv i σ H,⟨xs.length,by simp,zero_le _,h0⟩,?_⟩;rintro i m σ H ⟨rfl,hi,p⟩;have q:=hl i σ H hi p;by_cases hlt:i <xs.length
 ·refine .inr ⟨⟨xs,xs[i],q,by simp [hlt]⟩,Pv (i+1),λσ' H' p'=>⟨xs.length - (i+1),by omega,Y,hlt,p'⟩,λx H' y=>?_⟩;obtain⟨e,y⟩:=y;subst e;exact hs i x σ _ (y xs q) p
 ·have e:i=xs.length:=by omega
  subst e;exact .inl ⟨⟨xs,q,le_refl _⟩,hd σ H p⟩
theorem W8 {K:Fr} {a:Addr} {xs:List V} {g:TG} {tb:TS} {D:Ends} {σ:St} {H:Hp} (Pv:Nat->St->Hp->Prop) (h0:Pv 0 σ H) (hl:∀i σ H,i<=xs.length->Pv i σ H->fZ K H a xs)
  (hs:∀i x σ H,xs[i]?=some x->Pv i σ H->g x σ H λσ2 H2=>tb { D with nx:=Pv (i+1),ct:=Pv (i+1),bk:=D.nx } σ2 H2) (hd:∀σ H,Pv xs.length σ H->D.nx σ H):
  ∃W:Nat->Nat->St->Hp->Prop,(∃m,W 0 m σ H)/\∀i m σ H,W i m σ H->
   ((Zw K a).stop i H/\D.nx σ H)∨((Zw K a).go i H/\∃N:St->Hp->Prop,(∀σ' H',N σ' H'->∃m',m' <m/\W (i+1) m' σ' H')/\∀x H',(Zw K a).yld i H x H'->g x σ H' λσ2 H2=>tb { D with nx:=N,ct:=N,bk:=D.nx } σ2 H2):=by
 refine⟨λi m σ H=>m=xs.length - i/\i<=xs.length/\Pv i σ H,⟨xs.length,by simp,zero_le _,h0⟩,?_⟩;rintro i m σ H ⟨rfl,hi,p⟩;have q:=hl i σ H hi p;by_cases hlt:i <xs.length
 ·refine .inr ⟨⟨xs,xs[i],q,by simp [hlt]⟩,Pv (i+1),λσ' H' p'=>⟨xs.length - (i+1),by omega,Y,hlt,p'⟩,λx H' y=>?_⟩;obtain⟨e,y⟩:=y;subst e;exact hs i x σ _ (y xs q) p
 ·have e:i=xs.length:=by omega
  subst e;exact .inl ⟨⟨xs,q,le_refl _⟩,hd σ H p⟩
theorem Bk {lo:Int} {n:Nat} {g:TG} {tb:TS} {D:Ends} {σ:St} {H:Hp} (Pv:Nat->St->Hp->Prop) (h0:Pv 0 σ H)
  (hs:∀i σ H,i <n->Pv i σ H->g (.int (lo+i)) σ H λσ2 H2=>tb { D with nx:=Pv (i+1),ct:=Pv (i+1),bk:=D.nx } σ2 H2) (hd:∀σ H,Pv n σ H->D.nx σ H):
  ∃W:Nat->Nat->St->Hp->Prop,(∃m,W 0 m σ H)/\∀i m σ H,W i m σ H->
   ((Yv lo n).stop i H/\D.nx σ H)∨((Yv lo n).go i H/\∃N:St->Hp->Prop,(∀σ' H',N σ' H'->∃m',m' <m/\W (i+1) m' σ' H')/\∀x H',(Yv lo n).yld i H x H'->g x σ H' λσ2 H2=>tb { D with nx:=N,ct:=N,bk:=D.nx } σ2 H2):=by
 refine⟨λi m σ H=>m=n - i/\i<=n/\Pv i σ H,⟨n,by simp,zero_le _,h0⟩,?_⟩;rintro i m σ H ⟨rfl,hi,p⟩;by_cases hlt:i <n
 ·refine .inr ⟨hlt,Pv (i+1),λσ' H' p'=>⟨n - (i+1),by omega,Y,hlt,p'⟩,λx H' y=>?_⟩;obtain⟨e,y⟩:=y;subst e y;exact hs i σ _ hlt p
 ·have e:i=n:=by omega
  subst e;exact .inl ⟨le_refl _,hd σ H p⟩
theorem Eo {c:TT} {tb:TS} {D:Ends} {σ:St} {H:Hp} (Pv:St->Hp->Prop) (μ:St->Hp->Nat) (h0:Pv σ H)
  (hs:∀σ H,Pv σ H->c σ H λb H1=>if b=true then tb { D with nx:=λσ' H'=>Pv σ' H'/\μ σ' H' <μ σ H,ct:=λσ' H'=>Pv σ' H'/\μ σ' H' <μ σ H,bk:=D.nx } σ H1 else D.nx σ H1)
  (mono:∀σ H Q Q',(∀b H1,Q b H1->Q' b H1)->c σ H Q->c σ H Q'):UT c tb D σ H:=by
 refine⟨λm σ H=>m=μ σ H/\Pv σ H,⟨_,Y,h0⟩,?_⟩;rintro m σ H ⟨rfl,p⟩;refine mono σ H _ _ (λb H1 q=>?_) (hs σ H p);cases b with
 | true=>exact⟨_,λσ' H' ⟨p',l⟩=>⟨_,l,rfl,p'⟩,q⟩
 | false=>exact q
noncomputable abbrev R2:=V->V->Hp->VK->Prop
noncomputable def vz (X:Cx) (f:Value->Value->Sem Value) (r:R2):Prop:=
 ∀(pins:List (Addr×Obj)) (s:Shared) (σ:St) (H:Hp) (x y:V) (v u:Value) (Q:VK),Inv X pins σ H s->RelV x v->RelV y u->r x y H Q->
  wpAny (model X.prog X.w) X.A (f v u) (EP X pins σ Q) X.xe s
noncomputable def pq (X:Cx) (f:Value) (r:List V->Hp->VK->Prop):Prop:=
 ∀(pins:List (Addr×Obj)) (s:Shared) (σ:St) (H:Hp) (xs:List V) (us:List Value) (Q:VK),Inv X pins σ H s->Vals xs us->r xs H Q->
  wpAny (model X.prog X.w) X.A (call f us) (EP X pins σ Q) X.xe s
noncomputable def Xr (r:R2) (ta tb:TE):TE:=λσ H Q=>ta σ H λx H1=>tb σ H1 λy H2=>r x y H2 Q
inductive rII (C:Int->Int->Prop) (g:Int->Int->V) (x:V) (y:V) (H:Hp) (Q:VK):Prop where
 | mk:∀i j,x=.int i->y=.int j->C i j->Q (g i j) H->rII C g x y H Q
noncomputable def rI (C:Int->Int->Prop) (g:Int->Int->V):R2:=λx y H Q=>rII C g x y H Q
inductive ZW (g:Int->Int->V) (x:V) (y:V) (H:Hp) (Q:VK):Prop where
 | mk:∀i j,x=.int i->y=.int j->Q (g i j) H->ZW g x y H Q
noncomputable def V7 (g:Int->Int->V):R2:=λx y H Q=>ZW g x y H Q
section
variable {X:Cx} {a b c:Expr} {ta tb tc:TE} {pos:Pos}
theorem YZ (ha:PE X a ta) (hb:PE X b tb) {pins:List (Addr×Obj)} {s:Shared} {σ:St} {H:Hp} {R:V->V->Hp->Prop} (I:Inv X pins σ H s)
  (h:ta σ H λx H1=>tb σ H1 λy H2=>R x y H2) {Q:Value->Shared->Prop} {f:Value->Value->Sem Value}
  (hf:∀v u s2 x y H2,Inv X pins σ H2 s2->RelV x v->RelV y u->R x y H2->wpAny (model X.prog X.w) X.A (f v u) Q X.xe s2):
  wpAny (model X.prog X.w) X.A (eval a X.env) (λv s₁=>wpAny (model X.prog X.w) X.A (eval b X.env) (λu s₂=>wpAny (model X.prog X.w) X.A (f v u) Q X.xe s₂) X.xe s₁) X.xe s:=by
 refine eO (ha pins s σ H _ I h) λv s1 hpt=>?_;obtain⟨x,H1,I1,r1,q1⟩:=hpt;refine eO (hb pins s1 σ H1 _ I1 q1) λu s2 hpt=>?_;obtain⟨y,H2,I2,r2,q2⟩:=hpt;exact hf v u s2 x y H2 I2 r1 r2 q2
theorem bu {op:Operator} {r:R2} (ho:vz X (binaryOp op) r) (ha:PE X a ta) (hb:PE X b tb):PE X (.BinOp a op b pos) (Xr r ta tb):=by intro pins s σ H Q I h;exact wpAny_BinOp (YZ ha hb I h λv u s2 x y H2 I2 rx ry q=>ho pins s2 σ H2 x y v u Q I2 rx ry q)
theorem opI {f:Value->Value->Sem Value} {C:Int->Int->Prop} {g:Int->Int->Int}
  (rule:∀(i j:Int) (t u:Tok) (s:Shared) (Q:Value->Shared->Prop) (E:Value->Shared->Prop),C i j->Q (.int (g i j) s.toks) { s with toks:=s.toks+1 }->wpAny (model X.prog X.w) X.A (f (.int i t) (.int j u)) Q E s):
  vz X f (rI C λi j=>.int (g i j)):=by
 intro pins s σ H x y v u Q I rx ry h;obtain⟨i,j,rfl,rfl,hc,q⟩:=h;obtain⟨t,rfl⟩:=rx;obtain⟨t',rfl⟩:=ry;exact rule i j t t' s _ _ hc ⟨.int (g i j),H,I.tok _,⟨_,Y⟩,q⟩
theorem Wu {f:Value->Value->Sem Value} {g:Int->Int->Int}
  (rule:∀(i j:Int) (t u:Tok) (s:Shared) (Q:Value->Shared->Prop) (E:Value->Shared->Prop),Q (.int (g i j) s.toks) { s with toks:=s.toks+1 }->wpAny (model X.prog X.w) X.A (f (.int i t) (.int j u)) Q E s):
  vz X f (V7 λi j=>.int (g i j)):=by
 intro pins s σ H x y v u Q I rx ry h;obtain⟨i,j,rfl,rfl,q⟩:=h;obtain⟨t,rfl⟩:=rx;obtain⟨t',rfl⟩:=ry;exact rule i j t t' s _ _ ⟨.int (g i j),H,I.tok _,⟨_,Y⟩,q⟩
theorem WT {f:Value->Value->Sem Value} {g:Int->Int->Bool}
  (rule:∀(i j:Int) (t u:Tok) (s:Shared) (Q:Value->Shared->Prop) (E:Value->Shared->Prop),Q (.bool (g i j)) s->wpAny (model X.prog X.w) X.A (f (.int i t) (.int j u)) Q E s):
  vz X f (V7 λi j=>.bl (g i j)):=by
 intro pins s σ H x y v u Q I rx ry h;obtain⟨i,j,rfl,rfl,q⟩:=h;obtain⟨t,rfl⟩:=rx;obtain⟨t',rfl⟩:=ry;exact rule i j t t' s _ _ ⟨.bl (g i j),H,I,Y,q⟩
noncomputable def abt (i j:Int):Prop:=0<=j/\j<=1000000/\i.natAbs <2 ^ 64
theorem Ph (k:Nat):(0:Int)<=2 ^ k:=by rw [two_pow_cast];exact Int.natCast_nonneg _
theorem dF:vz X (binaryOp .Add) (V7 λi j=>.int (i+j)):=Wu λ_ _ _ _ _ _ _ q=>add_int q
theorem Om:vz X (binaryOp .Sub) (V7 λi j=>.int (i - j)):=Wu λ_ _ _ _ _ _ _ q=>sub_int q
theorem cH:vz X (binaryOp .Mod) (rI (λ_ j=>0 <j) λi j=>.int (i % j)):=opI λi j _ _ _ _ _ hc q=>by have h1:(0:Int) <j:=hc;exact mod_int' (by omega) (by rw [Int.fmod_eq_emod_of_nonneg i (by omega)];exact q)
theorem Oa:vz X (binaryOp .Pow) (rI abt λi j=>.int (i ^ j.toNat)):=opI λ_ _ _ _ _ _ _ hc q=>pow_int_small hc.1 hc.2.1 hc.2.2 q
theorem Bo:vz X (binaryOp .RShift) (rI (λ_ j=>0<=j) λi j=>.int (i / 2 ^ j.toNat)):=opI λi j _ _ _ _ _ hc q=>
 rshift_int hc (by rw [Int.fdiv_eq_ediv_of_nonneg i (Ph _)];exact q)
theorem JR:vz X (binaryOp .BitAnd) (V7 λi j=>.int (Builtin.bitAnd i j)):=Wu λ_ _ _ _ _ _ _ q=>and_int q
theorem Jt:vz X (inplaceOp .Add) (V7 λi j=>.int (i+j)):=Wu λ_ _ _ _ _ _ _ q=>iadd_int q
end
noncomputable def aao:V->V->Bool
 | .non,.non=>true | .non,.int _=>true | .int _,.non=>true | .non,.bl _=>true | .bl _,.non=>true | .non,.str _=>true | .str _,.non=>true
 | .int _,.int _=>true | .bl _,.bl _=>true | .str _,.str _=>true | .byt _,.byt _=>true
 | .int _,.str _=>true | .str _,.int _=>true | .bl _,.str _=>true | .str _,.bl _=>true
 | _,_=>false
noncomputable def rEq:R2:=λx y H Q=>aao x y=true/\Q (.bl (decide (x=y))) H
noncomputable def rNe:R2:=λx y H Q=>aao x y=true/\Q (.bl (!decide (x=y))) H
theorem Qm {i j:Int}:decide (V.int i=V.int j)=(i == j):=by rw [Bool.eq_iff_iff];simp
theorem Vb {i j:Bool}:decide (V.bl i=V.bl j)=(i == j):=by rw [Bool.eq_iff_iff];simp
theorem PQ {i j:Str}:decide (V.str i=V.str j)=(i == j):=by rw [Bool.eq_iff_iff];simp
theorem Qg {i j:Array UInt8}:decide (V.byt i=V.byt j)=(i.toList == j.toList):=by rw [Bool.eq_iff_iff];cases i;cases j;simp
section
variable {X:Cx} {a b c:Expr} {ta tb tc:TE} {pos:Pos}
theorem dh {pins:List (Addr×Obj)} {σ:St} {H:Hp} {s:Shared} {Q:VK} {k k':Bool} (I:Inv X pins σ H s) (q:Q (.bl k) H) (e:k=k'):EP X pins σ Q (.bool k') s:=by subst e;exact⟨.bl k,H,I,Y,q⟩
theorem gA:vz X (compareOp .Eq) rEq:=by
 intro pins s σ H x y v u Q I rx ry h;obtain⟨hs,q⟩:=h;cases x with
 | non=>
  cases rx;cases y with
  | non=>cases ry;exact PySem.EqNone.eq_none_none (dh I q (by simp))
  | bl j=>cases ry;exact PySem.EqNone.eq_none_bool (dh I q (by simp))
  | int j=>obtain⟨t',rfl⟩:=ry;exact PySem.EqNone.eq_none_int (dh I q (by simp))
  | str j=>obtain⟨t',rfl⟩:=ry;exact PySem.EqNone.eq_none_str (dh I q (by simp))
  | _=>exact absurd (show false=true from hs) Bool.false_ne_true
 | bl i=>
  cases rx;cases y with
  | non=>cases ry;exact PySem.EqNone.eq_bool_none (dh I q (by simp))
  | bl j=>cases ry;exact eq_bool (dh I q Vb)
  | str j=>obtain⟨t',rfl⟩:=ry;exact PySem.EqMixed.eq_bool_str (dh I q (by simp))
  | _=>exact absurd (show false=true from hs) Bool.false_ne_true
 | int i=>
  obtain⟨t,rfl⟩:=rx;cases y with
  | non=>cases ry;exact PySem.EqNone.eq_int_none (dh I q (by simp))
  | int j=>obtain⟨t',rfl⟩:=ry;exact eq_int (dh I q Qm)
  | str j=>obtain⟨t',rfl⟩:=ry;exact PySem.EqMixed.eq_int_str (dh I q (by simp))
  | _=>exact absurd (show false=true from hs) Bool.false_ne_true
 | str i=>
  obtain⟨t,rfl⟩:=rx;cases y with
  | non=>cases ry;exact PySem.EqNone.eq_str_none (dh I q (by simp))
  | bl j=>cases ry;exact PySem.EqMixed.eq_str_bool (dh I q (by simp))
  | int j=>obtain⟨t',rfl⟩:=ry;exact PySem.EqMixed.eq_str_int (dh I q (by simp))
  | str j=>obtain⟨t',rfl⟩:=ry;exact eq_str (dh I q PQ)
  | _=>exact absurd (show false=true from hs) Bool.false_ne_true
 | byt i=>
  obtain⟨t,rfl⟩:=rx;cases y with
  | byt j=>obtain⟨t',rfl⟩:=ry;exact PySem.W.eq_bytes (dh I q Qg)
  | _=>exact absurd (show false=true from hs) Bool.false_ne_true
 | _=>cases y <;> exact absurd (show false=true from hs) Bool.false_ne_true
theorem M5:vz X (compareOp .NotEq) rNe:=by
 intro pins s σ H x y v u Q I rx ry h;obtain⟨hs,q⟩:=h;cases x with
 | non=>
  cases rx;cases y with
  | non=>cases ry;exact PySem.EqNone.ne_none_none (dh I q (by simp))
  | bl j=>cases ry;exact PySem.EqNone.ne_none_bool (dh I q (by simp))
  | int j=>obtain⟨t',rfl⟩:=ry;exact PySem.EqNone.ne_none_int (dh I q (by simp))
  | str j=>obtain⟨t',rfl⟩:=ry;exact PySem.EqNone.ne_none_str (dh I q (by simp))
  | _=>exact absurd (show false=true from hs) Bool.false_ne_true
 | bl i=>
  cases rx;cases y with
  | non=>cases ry;exact PySem.EqNone.ne_bool_none (dh I q (by simp))
  | bl j=>cases ry;exact ne_bool (dh I q (congrArg not Vb))
  | str j=>obtain⟨t',rfl⟩:=ry;exact PySem.EqMixed.ne_bool_str (dh I q (by simp))
  | _=>exact absurd (show false=true from hs) Bool.false_ne_true
 | int i=>
  obtain⟨t,rfl⟩:=rx;cases y with
  | non=>cases ry;exact PySem.EqNone.ne_int_none (dh I q (by simp))
  | int j=>obtain⟨t',rfl⟩:=ry;exact ne_int (dh I q (congrArg not Qm))
  | str j=>obtain⟨t',rfl⟩:=ry;exact PySem.EqMixed.ne_int_str (dh I q (by simp))
  | _=>exact absurd (show false=true from hs) Bool.false_ne_true
 | str i=>
  obtain⟨t,rfl⟩:=rx;cases y with
  | non=>cases ry;exact PySem.EqNone.ne_str_none (dh I q (by simp))
  | bl j=>cases ry;exact PySem.EqMixed.ne_str_bool (dh I q (by simp))
  | int j=>obtain⟨t',rfl⟩:=ry;exact PySem.EqMixed.ne_str_int (dh I q (by simp))
  | str j=>obtain⟨t',rfl⟩:=ry;exact ne_str (dh I q (congrArg not PQ))
  | _=>exact absurd (show false=true from hs) Bool.false_ne_true
 | byt i=>
  obtain⟨t,rfl⟩:=rx;cases y with
  | byt j=>obtain⟨t',rfl⟩:=ry;exact PySem.W.ne_bytes (dh I q (congrArg not Qg))
  | _=>exact absurd (show false=true from hs) Bool.false_ne_true
 | _=>cases y <;> exact absurd (show false=true from hs) Bool.false_ne_true
theorem zR:vz X (compareOp .Lt) (V7 λi j=>.bl (decide (i <j))):=WT λ_ _ _ _ _ _ _ q=>lt_int q
theorem yz:vz X (compareOp .LtE) (V7 λi j=>.bl (decide (i<=j))):=WT λ_ _ _ _ _ _ _ q=>le_int q
theorem Iw:vz X (compareOp .Gt) (V7 λi j=>.bl (decide (j <i))):=WT λ_ _ _ _ _ _ _ q=>gt_int q
theorem Z1:vz X (compareOp .GtE) (V7 λi j=>.bl (decide (j<=i))):=WT λ_ _ _ _ _ _ _ q=>ge_int q
theorem Bs:vz X (compareOp .In) (λx y H Q=>∃i j,x=.str i/\y=.str j/\Q (.bl (!(Builtin.Str.occurrences j i 0 j.length 1).isEmpty)) H):=by intro pins s σ H x y v u Q I rx ry h;obtain⟨i,j,rfl,rfl,q⟩:=h;obtain⟨t,rfl⟩:=rx;obtain⟨t',rfl⟩:=ry;exact in_str (dh I q Y)
theorem bN (b:Expr) {op:CmpOp} (h:op≠.In:=by decide) (h2:op≠.NotIn:=by decide):behindInMarks op b=false:=by
 have e1:(op == CmpOp.In)=false:=by cases op <;> first | rfl | exact absurd rfl h
 have e2:(op == CmpOp.NotIn)=false:=by cases op <;> first | rfl | exact absurd rfl h2
 cases b <;> simp [behindInMarks,e1,e2]
theorem pJ {op:CmpOp} {r:R2} (ho:vz X (compareOp op) r) (ha:PE X a ta) (hb:PE X b tb) (hm:behindInMarks op b=false):PE X (.Compare a [op] [b] pos) (Xr r ta tb):=by intro pins s σ H Q I h;exact wpAny_Compare1 (YZ ha hb I h λv u s2 x y H2 I2 rx ry q=>ho pins s2 σ H2 x y v u Q I2 rx ry q) hm
inductive Vv (Q:Bool->Hp->Prop) (x:V) (H':Hp):Prop where
 | mk:∀k,x=.bl k->Q k H'->Vv Q x H'
noncomputable def Jk (t:TE):TT:=λσ H Q=>t σ H λx H'=>Vv Q x H'
theorem bz {op:CmpOp} {r:R2} (ho:vz X (compareOp op) r) (ha:PE X a ta) (hb:PE X b tb) (hm:behindInMarks op b=false):PT X (.Compare a [op] [b] pos) (Jk (Xr r ta tb)):=by
 intro pins s σ H Q I h;refine wpAny_isTrue_Compare1 (eO (ha pins s σ H _ I h) λv s1 ⟨x,H1,I1,r1,q1⟩=>eO (hb pins s1 σ H1 _ I1 q1) λu s2 ⟨y,H2,I2,r2,q2⟩=>
  eO (ho pins s2 σ H2 x y v u _ I2 r1 r2 q2) λc s3 ⟨z,H3,I3,r3,k,e,q3⟩=>?_) hm
 subst e;cases r3;exact wpAny_truthy_bool ⟨H3,I3,q3⟩
inductive QK (r':R2) (tc:TE) (σ:St) (Q:VK) (y:V) (z:V) (H3:Hp):Prop where
 | mk:∀k,z=.bl k->((if k=true then tc σ H3 λw' H4=>r' y w' H4 Q else Q (.bl false) H3))->QK r' tc σ Q y z H3
noncomputable def TV (r r':R2) (ta tb tc:TE):TE:=λσ H Q=>ta σ H λx H1=>tb σ H1 λy H2=>r x y H2 λz H3=>QK r' tc σ Q y z H3
theorem Va {op op':CmpOp} {r r':R2} (ho:vz X (compareOp op) r) (ho':vz X (compareOp op') r') (ha:PE X a ta) (hb:PE X b tb) (hc:PE X c tc)
  (hm:lastMarks [op,op'] [b,c]=false:=by with_unfolding_all rfl):PE X (.Compare a [op,op'] [b,c] pos) (TV r r' ta tb tc):=by
 intro pins s σ H Q I h;refine Compare_chain (eO (ha pins s σ H _ I h) λv s1 ⟨x,H1,I1,r1,q1⟩=>chain_link (eO (hb pins s1 σ H1 _ I1 q1) λu s2 ⟨y,H2,I2,r2,q2⟩=>
  eO (ho pins s2 σ H2 x y v u _ I2 r1 r2 q2) λd s3 ⟨z,H3,I3,r3,k,e,q3⟩=>?_)) hm
 subst e;cases r3;refine wpAny_truthy_bool ?_;cases k with
 | false=>exact ite_ff ⟨.bl false,H3,I3,rfl,q3⟩
 | true=>exact ite_tt (chain_last (eO (hc pins s3 σ H3 _ I3 q3) λw' s4 ⟨z',H4,I4,r4,q4⟩=>ho' pins s4 σ H4 y z' u w' Q I4 r2 r4 q4))
theorem Av {op op':CmpOp} {r r':R2} (ho:vz X (compareOp op) r) (ho':vz X (compareOp op') r') (ha:PE X a ta) (hb:PE X b tb) (hc:PE X c tc)
  (hm:lastMarks [op,op'] [b,c]=false:=by with_unfolding_all rfl):PT X (.Compare a [op,op'] [b,c] pos) (Jk (TV r r' ta tb tc)):=by
 intro pins s σ H Q I h;refine isTrue_chain (eO (ha pins s σ H _ I h) λv s1 ⟨x,H1,I1,r1,q1⟩=>test_link (eO (hb pins s1 σ H1 _ I1 q1) λu s2 ⟨y,H2,I2,r2,q2⟩=>
  eO (ho pins s2 σ H2 x y v u _ I2 r1 r2 q2) λd s3 ⟨z,H3,I3,r3,k,e,q3⟩=>?_)) hm
 subst e;cases r3;refine wpAny_truthy_bool ?_;cases k with
 | false=>
  obtain⟨k',e',q'⟩:=q3;cases e';exact ite_ff ⟨H3,I3,q'⟩
 | true=>
  refine ite_tt (test_last (eO (hc pins s3 σ H3 _ I3 q3) λw' s4 ⟨z',H4,I4,r4,q4⟩=>eO (ho' pins s4 σ H4 y z' u w' _ I4 r2 r4 q4) λd' s5 hpt=>?_));obtain⟨z2,H5,I5,r5,k2,e2,q5⟩:=hpt;subst e2;cases r5;exact wpAny_truthy_bool ⟨H5,I5,q5⟩
theorem J3:(sizeLine:Nat) <2 ^ 63:=by rw [sizeLine_eq];decide
theorem yD:vz X (binaryOp .Add) (λx y H Q=>∃i j,x=.str i/\y=.str j/\i.length+j.length<=sizeLine/\Q (.str (i ++ j)) H):=by intro pins s σ H x y v u Q I rx ry h;obtain⟨i,j,rfl,rfl,hz,q⟩:=h;obtain⟨t,rfl⟩:=rx;obtain⟨t',rfl⟩:=ry;exact add_str (λt' tk=>⟨.str (i ++ j),H,I.tok _,⟨_,Y⟩,q⟩) hz
theorem vals1 {x:V} {us:List Value} (r:Vals [x] us):∃u,us=[u]/\RelV x u:=by
 cases r with
 | cons r1 r2=>cases r2;exact⟨_,rfl,r1⟩
theorem vals2 {x y:V} {us:List Value} (r:Vals [x,y] us):∃u w',us=[u,w']/\RelV x u/\RelV y w':=by
 cases r with
 | cons r1 r2=>
  cases r2 with
  | cons r3 r4=>cases r4;exact⟨_,_,rfl,r1,r3⟩
theorem Jl (hc:X.calm=true):pq X (.builtin "max") (λxs H Q=>∃i j,xs=[.int i,.int j]/\Q (.int (if j >i then j else i)) H):=by
 intro pins s σ H xs us Q I r h;obtain⟨i,j,rfl,q⟩:=h;obtain⟨u,w',rfl,⟨t,rfl⟩,⟨t',rfl⟩⟩:=vals2 r;refine max_two_ints (I.ok.hd hc) λh' tk k=>⟨_,H,I.kept k,?_,q⟩;by_cases hj:j >i
 ·rw [if_pos hj,if_pos hj];exact⟨_,rfl⟩
 ·rw [if_neg hj,if_neg hj];exact⟨_,rfl⟩
theorem J7:pq X (.type "str") (λxs H Q=>∃i,xs=[.int i]/\i.natAbs.log2 <1920/\Q (.str (toString i)) H):=by intro pins s σ H xs us Q I r h;obtain⟨i,rfl,hz,q⟩:=h;obtain⟨u,rfl,t,rfl⟩:=vals1 r;exact PySem.P.str_of_int hz ⟨.str _,H,I.tok _,⟨_,Y⟩,q⟩
noncomputable def ZD (K:Fr) (x:V) (H:Hp) (n:Nat):Prop:=
 match x with
 | .str y=>y.length<=sizeLine/\n=y.length
 | .byt y=>y.size<=sizeLine/\n=y.size
 | .ref p=>(∃xs,bJ K H p xs/\n=xs.length)∨∃xs,fZ K H p xs/\n=xs.length
 | _=>False
theorem bV:pq X (.builtin "len") (λxs H Q=>∃x n,xs=[x]/\ZD X.K x H n/\Q (.int n) H):=by
 intro pins s σ H xs us Q I r h;obtain⟨x,n,rfl,e,q⟩:=h;obtain⟨u,rfl,rx⟩:=vals1 r;have hl:=J3;have hs:sizeLine=16777216:=sizeLine_eq;cases x with
 | str y=>
  obtain⟨t,rfl⟩:=rx;obtain⟨hy,e'⟩:y.length<=sizeLine/\n=y.length:=e;subst e';exact len_str (by omega) ⟨.int _,H,I.tok _,⟨_,Y⟩,q⟩
 | byt y=>
  obtain⟨t,rfl⟩:=rx;obtain⟨hy,e'⟩:y.size<=sizeLine/\n=y.size:=e;subst e';exact PySem.W.len_bytes (by omega) ⟨.int _,H,I.tok _,⟨_,Y⟩,q⟩
 | ref p=>
  cases rx;have e':(∃xs,bJ X.K H p xs/\n=xs.length)∨∃xs,fZ X.K H p xs/\n=xs.length:=e;rcases e' with ⟨xs,hx,e'⟩ | ⟨xs,hx,e'⟩
  ·subst e';obtain⟨its,r',pl,hz⟩:=I.list hx;have hlen:=r'.length;exact Calls.call_len_list pl.isList (by simp only [size_toArray];omega) ⟨.int xs.length,H,I.tok _,⟨_,by simp only [size_toArray];rw [hlen]⟩,q⟩
  ·subst e';obtain⟨its,r',pl,hz⟩:=I.tuple hx;have hlen:=r'.length;exact len_tuple pl (by simp only [size_toArray];omega) ⟨.int xs.length,H,I.tok _,⟨_,by simp only [size_toArray];rw [hlen]⟩,q⟩
 | _=>exact(show False from e).elim
end
structure Ox (h:Heap) (x dx C:Addr) (mA:Str->Option Value):Prop where
 obj:h.get? x=some (PySem.W.instObj C dx)
 ns:h.Ns1 dx mA
 ne:dx≠x
theorem RX {h:Heap} {dx:Addr} {mA:Str->Option Value} (n:h.Ns1 dx mA):∃od,h.get? dx=some od/\∀name,PySem.W.lookIn name od=some (mA name):=by
 obtain⟨o,es,ep,ho,hd,hk,_,hm⟩:=n;refine⟨o,ho,λname=>?_⟩;have e:=hm name;unfold nsFind findBy at e;rw [<-Array.find?_toList] at e;unfold PySem.W.lookIn;rw [hd];dsimp only;split
 ·rename_i y q;rw [q] at e;exact congrArg some e
 ·rename_i q;rw [q] at e;have a:es.toList.any (·.refKey)=false:=by rw [List.any_eq_false];intro y hy;obtain⟨z,t,hkey⟩:=hk y (Array.mem_toList_iff.mp hy);simp [DictEntry.refKey,hkey]
  have a':¬es.toList.any (·.refKey)=true:=by rw [a];exact Bool.false_ne_true
  rw [if_neg a'];exact congrArg some e
theorem Ox.look {h:Heap} {x dx C:Addr} {mA:Str->Option Value} (I:Ox h x dx C mA):∃od,PySem.W.InstAt h x (PySem.W.instObj C dx) C (some od)/\∀name,PySem.W.lookIn name od=some (mA name):=
 let ⟨od,ho,hl⟩:=RX I.ns
 ⟨od,⟨I.obj,rfl,rfl,ho⟩,hl⟩
section
variable {prog:Program} {w:World} {A:Around} {E:Value->Shared->Prop} {s:Shared} {K:Fr} {x dx C f:Addr} {mA:Str->Option Value} {name:Str} {v:Value}
theorem Wl {expr:Bool} {Q:Value->Shared->Prop} (X:K.In s.heap) (I:Ox s.heap x dx C mA) (hg:PySem.W.plainGet K C name=true) (hh:PySem.W.hasDictIn K C=true)
  (ha:PySem.W.findIn K (.ref C) name=some none) (hv:mA name=some v) (hv':PySem.W.handedIn v=true) (h:Q v { s with toks:=s.toks+1 }):
  wpAny (model prog w) A (getAttr (.ref x) name expr) Q E s:=by
 obtain⟨od,J,hl⟩:=I.look;exact PySem.W.get_value X J (PySem.W.plainGet_of hg).1 (PySem.W.findObj_own hh ha Y (by rw [hl,hv])) hv' h
theorem Ve {pl:Sem Bool} {Q:Value×List Value->Shared->Prop} (X:K.In s.heap) (I:Ox s.heap x dx C mA) (hg:PySem.W.plainGet K C name=true)
  (hf:PySem.W.findIn K (.ref C) name=some (some (.ref f))) (ht:PySem.W.isFn K (.ref f)=true) (hv:mA name=none) (h:Q (.ref f,[.ref x]) s):
  wpAny (model prog w) A (getMethod (.ref x) name pl) Q E s:=by
 obtain⟨od,J,hl⟩:=I.look;exact PySem.W.method_fn X J (PySem.W.plainGet_of hg).1 (PySem.W.plainGet_of hg).2 hf (beq_iff_eq.mp ht) (by show(PySem.W.lookIn name od).map (·.isSome)=some false;rw [hl,hv];rfl) h
theorem Xg {ns:List Str} {Q:Unit->Shared->Prop} (X:K.In s.heap) (I:Ox s.heap x dx C mA)
  (hs:PySem.W.findIn K (.ref C) "__setattr__" =some (some (.builtin "object.__setattr__"))) (hp:PySem.W.plainOver K C=true) (ht:PySem.W.takerIn K C name=some none) (hh:PySem.W.hasDictIn K C=true)
  (hw:PySem.Within mA ns) (hsz:ns.length<=sizeLine)
  (h:∀h',Ox h' x dx C (λy=>if y=name then some v else mA y)->Heap.SameBut dx s.heap h'->Q () { s with heap:=h',toks:=s.toks+2 }):
  wpAny (model prog w) A (setAttr (.ref x) name v) Q E s:=by
 obtain⟨od,J,hl⟩:=I.look;refine PySem.W.set_plain X J hs (PySem.W.osa_open (s:={ s with toks:=s.toks+1 }) (r:=none) X J hp ht λb=>?_);obtain⟨cd,hc,hd'⟩:=PySem.W.any_some hh;have hx:s.heap.get? x=some ⟨.ref C,some dx,.plain,#[]⟩:=I.obj;refine wpAny_bind (wpAny_pure (wpAny_bind (wpAny_bind (wpAny_loadPart hx (wpAny_bind (PySem.W.Looks.here (s:={ s with toks:=s.toks+1 }) (PySem.W.looks_clsIn X hc) ?_))))));rw [hd'];refine wpAny_pure (a:=some dx) (wpAny_bind (wpAny_pure (wpAny_bind ?_)));refine wpAny_nsSet1 (s:={ s with toks:=s.toks+1 }) I.ns λh' hn2 hs2=>?_;obtain⟨oD,esD,epD,hoD,hdD,hcD⟩:=hn2.count (PySem.Within.cons name v hw);refine wpAny_bind (wpAny_lookBehind hoD (by rw [hdD];exact pastItsLine_dict (le_trans hcD (by rw [length_cons];omega))) ?_);exact wpAny_pure (h _ ⟨(hs2.2 _ (Ne.symm I.ne)).trans I.obj,hn2,I.ne⟩ hs2)
theorem Tg {R:Result->Shared->Prop} {vs:List Value} {kw:List (Str×Value)} (X:K.In s.heap) (hm:PySem.W.makesIn K C=true)
  (hi:PySem.W.findIn K (.ref C) "__init__" =some (some (.ref f))) (hf:PySem.W.typeIn K (.ref f)=some (.type "function"))
  (h:codeAny (model prog w) (A.under (.builtin "type.__call__" ⟨.ref C:: vs,kw⟩)) (.call (.ref f) ⟨.ref (s.heap.objs.size+1):: vs,kw⟩) (PySem.W.InitBack (s.heap.objs.size+1) R)
   { s with heap:=(s.heap.push PySem.W.emptyDict).push (PySem.W.instObj C s.heap.objs.size) }):
  codeAny (model prog w) A (.call (.ref C) ⟨vs,kw⟩) R s:=by
 obtain⟨hh,g,d,t,os⟩:=s;exact PySem.W.make_core (PySem.W.makes_of X hm) (PySem.W.looks_findIn X hi) (λself=>PySem.W.bind_fn X self hf) (.inl Y) h
end
noncomputable def aH (f:Str) (v:V):List (Str×V)->List (Str×V)
 | []=>[(f,v)]
 | (g,x):: r=>if g=f then(g,v):: r else(g,x):: aH f v r
theorem aC (f g:Str) (v:V):∀fs:List (Str×V),(aH f v fs).lookup g=if g=f then some v else fs.lookup g
 | []=>by
  show List.lookup g [(f,v)]=_;by_cases h:g=f
  ·have hb:(g == f)=true:=beq_iff_eq.mpr h;simp only [List.lookup,hb,if_pos h]
  ·have hb:(g == f)=false:=beq_eq_false_iff_ne.mpr h;simp only [List.lookup,hb,if_neg h]
 | (k,x):: r=>by
  have ih:=aC f g v r;rw [show aH f v ((k,x):: r)=(if k=f then(k,v):: r else(k,x):: aH f v r) from rfl];by_cases hk:k=f
  ·rw [if_pos hk];by_cases h:g=k
   ·have hb:(g == k)=true:=beq_iff_eq.mpr h;simp only [List.lookup,hb,if_pos (h.trans hk)]
   ·have hb:(g == k)=false:=beq_eq_false_iff_ne.mpr h;simp only [List.lookup,hb,if_neg (λe:g=f=>h (e.trans hk.symm))]
  ·rw [if_neg hk];by_cases h:g=k
   ·have hb:(g == k)=true:=beq_iff_eq.mpr h;simp only [List.lookup,hb,if_neg (λe:g=f=>hk (h.symm.trans e))]
   ·have hb:(g == k)=false:=beq_eq_false_iff_ne.mpr h;simp only [List.lookup,hb];exact ih
theorem Bx (f:Str) (v:V):∀fs:List (Str×V),f∈(aH f v fs).map (·.1)/\∀g,g∈fs.map (·.1)->g∈(aH f v fs).map (·.1)
 | []=>⟨by simp [aH],λg h=>by simp at h⟩
 | (k,x):: r=>by
  obtain⟨i1,i2⟩:=Bx f v r;rw [show aH f v ((k,x):: r)=(if k=f then(k,v):: r else(k,x):: aH f v r) from rfl];by_cases hk:k=f
  ·rw [if_pos hk];subst hk;exact⟨by simp,λg h=>by simpa using h⟩
  ·rw [if_neg hk];refine⟨?_,λg h=>?_⟩
   ·rw [map_cons];exact mem_cons_of_mem _ i1
   ·rw [map_cons] at h ⊢;rcases mem_cons.mp h with e | e
    ·exact mem_cons.mpr (.inl e)
    ·exact mem_cons_of_mem _ (i2 g e)
theorem vJ (f:Str) (v:V):∀fs:List (Str×V),(aH f v fs).length<=fs.length+1
 | []=>by simp [aH]
 | (k,x):: r=>by
  have ih:=vJ f v r;rw [show aH f v ((k,x):: r)=(if k=f then(k,v):: r else(k,x):: aH f v r) from rfl];by_cases hk:k=f
  ·rw [if_pos hk,length_cons,length_cons];omega
  ·rw [if_neg hk,length_cons,length_cons];omega
theorem uZ.some_of {v:V} {o:Option Value} (r:uZ (some v) o):∃u,o=some u/\RelV v u:=by
 cases o with
 | none=>exact(show False from r).elim
 | some u=>exact⟨u,rfl,r⟩
theorem uZ.none_of {o:Option Value} (r:uZ none o):o=none:=by
 cases o with
 | none=>rfl
 | some u=>exact(show False from r).elim
theorem RZ {v:V} {u:Value} (r:RelV v u):PySem.W.handedIn u=true:=by
 cases v with
 | non=>cases (show u=Value.none from r);rfl
 | bl b=>cases (show u=Value.bool b from r);rfl
 | int i=>obtain⟨t,e⟩:=(show ∃t,u=Value.int i t from r);cases e;rfl
 | str x=>obtain⟨t,e⟩:=(show ∃t,u=Value.str x t from r);cases e;rfl
 | byt b=>obtain⟨t,e⟩:=(show ∃t,u=Value.bytes b t from r);cases e;rfl
 | flt b=>obtain⟨t,e⟩:=(show ∃t,u=Value.float b t from r);cases e;rfl
 | ref a=>cases (show u=Value.ref a from r);rfl
 | ty n=>cases (show u=Value.type n from r);rfl
section
variable {P:Program} {w:World} {H H':Hp} {h h':Heap} {a C dx:Addr} {fs fs':List (Str×V)}
theorem KZ (hok:xT P w H h) (e:H a=some (.ins C dx fs)):∃mA,Ox h a dx C mA/\(∀f,uZ (fs.lookup f) (mA f))/\PySem.Within mA (fs.map (·.1))/\fs.length<=1000/\H dx=some (.own a):=by obtain⟨d,z,ne,ob,mA,n,r,q⟩:=(show ig P w H h a (.ins C dx fs) from hok a _ e);exact⟨mA,⟨ob,n,ne⟩,r,q,z,d⟩
end
structure RM (K:Fr) (C:Addr):Prop where
 pg:PySem.W.plainGet K C Str.empty=true
 hd:PySem.W.hasDictIn K C=true
 po:PySem.W.plainOver K C=true
 sa:PySem.W.findIn K (.ref C) "__setattr__" =some (some (.builtin "object.__setattr__"))
theorem RM.get {K:Fr} {C:Addr} (c:RM K C) (f:Str):PySem.W.plainGet K C f=true:=c.pg
noncomputable def ql (K:Fr) (C:Addr) (f:Str):Prop:=PySem.W.findIn K (.ref C) f=some none
theorem ql.taker {K:Fr} {C:Addr} {f:Str} (n:ql K C f):PySem.W.takerIn K C f=some none:=by unfold PySem.W.takerIn;rw [show PySem.W.findIn K (.ref C) f=some none from n];rfl
structure Meth (K:Fr) (C:Addr) (m:Str) (f:Addr):Prop where
 at_:PySem.W.findIn K (.ref C) m=some (some (.ref f))
 fn:PySem.W.isFn K (.ref f)=true
 kp:PySem.W.keepIn K (.ref f)=true
section
variable {X:Cx} {pins:List (Addr×Obj)} {σ:St} {H:Hp} {s:Shared} {a C dx:Addr} {fs:List (Str×V)} {f:Str} {v:V} {A:Around} {E:Value->Shared->Prop}
theorem Fd {b:Bool} {Q:Value->Shared->Prop} (I:Inv X pins σ H s) (e:H a=some (.ins C dx fs)) (c:RM X.K C) (n:ql X.K C f) (l:fs.lookup f=some v)
  (h:∀u s',Inv X pins σ H s'->RelV v u->Q u s'):wpAny (model X.prog X.w) A (getAttr (.ref a) f b) Q E s:=by
 obtain⟨mA,O,r,_,_,_⟩:=KZ I.hok e;obtain⟨u,hu,ru⟩:=uZ.some_of (v:=v) (o:=mA f) (by rw [<-l];exact r f);exact Wl I.kIn O (c.get f) c.hd n hu (RZ ru) (h u _ (I.tok _) ru)
theorem uz {m:Str} {g:Addr} {pl:Sem Bool} {Q:Value×List Value->Shared->Prop} (I:Inv X pins σ H s) (e:H a=some (.ins C dx fs)) (c:RM X.K C) (k:Meth X.K C m g) (l:fs.lookup m=none)
  (h:Q (.ref g,[.ref a]) s):wpAny (model X.prog X.w) A (getMethod (.ref a) m pl) Q E s:=by
 obtain⟨mA,O,r,_,_,_⟩:=KZ I.hok e;have hn:mA m=none:=uZ.none_of (by rw [<-l];exact r m);exact Ve I.kIn O (c.get m) k.at_ k.fn hn h
theorem Eg {y:V} {u:Value} {Q:Unit->Shared->Prop} (I:Inv X pins σ H s) (e:H a=some (.ins C dx fs)) (c:RM X.K C) (n:ql X.K C f) (hl:fs.length <1000) (ry:RelV y u)
  (h:∀s',Inv X pins σ (upd H a (.ins C dx (aH f y fs))) s'->Q () s'):wpAny (model X.prog X.w) A (setAttr (.ref a) f u) Q E s:=by
 obtain⟨mA,O,r,wi,_,ho⟩:=KZ I.hok e;have hz:(fs.map (·.1)).length<=sizeLine:=by rw [length_map,sizeLine_eq];omega
 refine Xg I.kIn O c.sa c.po n.taker c.hd wi hz λh' O' sb=>h _ ?_;have hd:∃o,h'.get? dx=some o:=let ⟨o,_,_,e',_⟩:=O'.ns;⟨o,e'⟩
 refine I.write (x:=a) (e:=dx) (by rw [e];exact True.intro) (.inr ho) (λb q hb z=>(sb.2 b hb).trans z) hd ?_;refine⟨by rw [aK O.ne];exact ho,?_,O.ne,O'.obj,_,O'.ns,λg=>?_,λg hg=>?_⟩
 ·have:=vJ f y fs;omega
 ·show uZ ((aH f y fs).lookup g) (if g=f then some u else mA g);rw [aC];by_cases q:g=f
  ·rw [if_pos q,if_pos q];exact ry
  ·rw [if_neg q,if_neg q];exact r g
 ·by_cases q:g=f
  ·rw [q];exact(Bx f y fs).1
  ·refine(Bx f y fs).2 g (wi g λz=>hg ?_);show(if g=f then some u else mA g)=none;rw [if_neg q];exact z
theorem Inv.made (I:Inv X pins σ H s):Inv X pins σ (upd (upd H s.heap.objs.size (.own (s.heap.objs.size+1))) (s.heap.objs.size+1) (.ins C s.heap.objs.size []))
  { s with heap:=(s.heap.push PySem.W.emptyDict).push (PySem.W.instObj C s.heap.objs.size) }:=by
 have e1:(s.heap.push PySem.W.emptyDict).get? s.heap.objs.size=some PySem.W.emptyDict:=Heap.get?_push_size s.heap rfl;have e2:((s.heap.push PySem.W.emptyDict).push (PySem.W.instObj C s.heap.objs.size)).get? (s.heap.objs.size+1)=some (PySem.W.instObj C s.heap.objs.size):=by have:=Heap.get?_push_size (s.heap.push PySem.W.emptyDict) (o:=PySem.W.instObj C s.heap.objs.size) rfl;rwa [Heap.size_push] at this
 have e3:(s.heap.push PySem.W.emptyDict).Ns s.heap.objs.size (λ_=>none):=⟨PySem.W.emptyDict,#[],_,e1,rfl,(λe he=>absurd he (by simp)),λ_=>rfl⟩;have I1:=I.laid (a:=s.heap.objs.size) (o:=.own (s.heap.objs.size+1)) (h':=s.heap.push PySem.W.emptyDict) (t':=s.toks) (λb u q=>Heap.get?_push_of_some _ q) (le_refl _) ⟨_,e1⟩;refine I1.laid (a:=s.heap.objs.size+1) (o:=.ins C s.heap.objs.size []) (t':=s.toks) (λb u q=>Heap.get?_push_of_some _ q) (Nat.le_of_eq (Heap.size_push _ _)) ?_;have ne:s.heap.objs.size≠s.heap.objs.size+1:=ne_of_lt (Nat.lt_succ_self _);refine⟨by rw [aK ne,ao],zero_le _,ne,e2,λ_=>none,(Heap.Ns1.of_empty e3).at λo q=>Heap.get?_push_of_some _ q,λ_=>True.intro,λy hy=>absurd rfl hy⟩
theorem WL {prog:Program} {w:World} {env:Env} {e:Expr} {f:Str} {pos:Pos} {s:Shared} {Q:Value->Shared->Prop} (hb:attributeBase e f env (eval e env)=eval e env)
  (h:wpAny (model prog w) A (eval e env) (λo s₁=>wpAny (model prog w) A (getAttr o f true) Q E s₁) E s):wpAny (model prog w) A (eval (.Attribute e f pos) env) Q E s:=
 Attribute_any_ h (by rw [arm_eval_Attribute,hb])
end
inductive XD (K:Fr) (f:Str) (Q:VK) (x:V) (H1:Hp):Prop where
 | mk:∀a C dx fs v,x=.ref a->H1 a=some (.ins C dx fs)->RM K C->ql K C f->fs.lookup f=some v->Q v H1->XD K f Q x H1
noncomputable def ZZ (K:Fr) (ta:TE) (f:Str):TE:=λσ H Q=>ta σ H λx H1=>XD K f Q x H1
inductive Yr (K:Fr) (f:Str) (D:Ends) (σ:St) (y:V) (x:V) (H2:Hp):Prop where
 | mk:∀a C dx fs,x=.ref a->H2 a=some (.ins C dx fs)->RM K C->ql K C f->fs.length <1000->D.nx σ (upd H2 a (.ins C dx (aH f y fs)))->Yr K f D σ y x H2
noncomputable def abl (K:Fr) (ta tv:TE) (f:Str):TS:=λD σ H=>tv σ H λy H1=>ta σ H1 λx H2=>Yr K f D σ y x H2
noncomputable def Z3 (X:Cx) (op:Operator) (rd:V->V->Hp->VK->Prop):Prop:=
 ∀(pins:List (Addr×Obj)) (s:Shared) (σ:St) (H:Hp) (x y:V) (u v:Value) (Q:VK),Inv X pins σ H s->RelV x u->RelV y v->rd x y H Q->wpAny (model X.prog X.w) X.A (inplaceOp op u v) (EP X pins σ Q) X.xe s
inductive Mh (K:Fr) (tv:TE) (rd:V->V->Hp->VK->Prop) (f:Str) (D:Ends) (σ:St) (x:V) (H1:Hp):Prop where
 | mk:∀a C dx fs v,x=.ref a->H1 a=some (.ins C dx fs)->RM K C->ql K C f->fs.lookup f=some v->(tv σ H1 λy H2=>rd v y H2 λz H3=>∃dx' fs',H3 a=some (.ins C dx' fs')/\fs'.length <1000/\D.nx σ (upd H3 a (.ins C dx' (aH f z fs'))))->Mh K tv rd f D σ x H1
noncomputable def Wr (K:Fr) (ta tv:TE) (rd:V->V->Hp->VK->Prop) (f:Str):TS:=λD σ H=>ta σ H λx H1=>Mh K tv rd f D σ x H1
section
variable {X:Cx} {o e value:Expr} {f:Str} {pos pos' tpos:Pos} {ta tv:TE}
theorem aU (he:PE X e ta) (hb:attributeBase e f X.env (eval e X.env)=eval e X.env):PE X (.Attribute e f pos) (ZZ X.K ta f):=by intro pins s σ H Q I h;refine WL hb (eO (he pins s σ H _ I h) λu s1 hpt=>?_);obtain⟨x,H1,I1,rx,a,C,dx,fs,v,ex,ea,c,n,l,q⟩:=hpt;subst ex;obtain rfl:u=Value.ref a:=rx;exact Fd I1 ea c n l λu' s2 I2 ru=>⟨v,H1,I2,ru,q⟩
theorem jA (ha:PE X o ta) (hv:PE X value tv) (hs:swapsWith value (some (.Attribute o f pos')) pos.line X.env=pure false):PS X (.Assign [.Attribute o f pos'] value pos) (abl X.K ta tv f):=by intro pins s σ H D I h;refine plainObj_wpAny_Assign_Attribute (eO (hv pins s σ H _ I h) λu s1 ⟨y,H1,I1,ry,q⟩=>eO (ha pins s1 σ H1 _ I1 q) λov s2 hpt=>?_) hs;obtain⟨x,H2,I2,rx,a,C,dx,fs,ex,ea,c,n,l,q2⟩:=hpt;subst ex;obtain rfl:ov=Value.ref a:=rx;exact Eg I2 ea c n l ry λs3 I3=>⟨σ,_,I3,q2⟩
theorem Sg {op:Operator} {rd:V->V->Hp->VK->Prop} (ha:PE X o ta) (hv:PE X value tv) (hop:Z3 X op rd):PS X (.AugAssign (.Attribute o f tpos) op value pos) (Wr X.K ta tv rd f):=by intro pins s σ H D I h;refine wpAny_AugAssign_AttributeAny (eO (ha pins s σ H _ I h) λov s1 hpt=>?_);obtain⟨x,H1,I1,rx,a,C,dx,fs,v,ex,ea,c,n,l,q⟩:=hpt;subst ex;obtain rfl:ov=Value.ref a:=rx;refine Fd I1 ea c n l λu s2 I2 ru=>eO (hv pins s2 σ H1 _ I2 q) λw3 s3 ⟨y,H2,I3,ry,q3⟩=>eO (hop pins s3 σ H2 v y u w3 _ I3 ru ry q3) λw4 s4 hpt=>?_;obtain⟨z,H3,I4,rz,dx',fs',ea',l',q4⟩:=hpt;exact Eg I4 ea' c n l' rz λs5 I5=>⟨σ,_,I5,q4⟩
end
section
variable {X:Cx} {pins:List (Addr×Obj)} {σ:St} {H:Hp} {s:Shared} {A:Around} {E:Value->Shared->Prop} {Q:Value->Shared->Prop} {c:Value} {b:Bool}
end
structure jL (k:Nat) (A:Around):Prop where
 hd:A.handled=none
 dp:A.depth+3 * k+5 <recursionLimit
 un:A.units+16 * k+200 <cLine
theorem jL.mono {j k:Nat} {A:Around} (r:jL k A) (h:j<=k):jL j A:=⟨r.hd,by have:=r.dp;omega,by have:=r.un;omega⟩
theorem jL.deeper {k:Nat} {A:Around} (r:jL (k+1) A) (env:Env):jL k (A.deeper env):=
 ⟨r.hd,by have:=r.dp;show A.depth+1+3 * k+5 <_;omega,by have:=r.un;show A.units+3+16 * k+200 <_;omega⟩
theorem Oq {A:Around} {C:Addr} {us:List Value} {kw:List (Str×Value)}:(A.under (.builtin "type.__call__" ⟨.ref C:: us,kw⟩)).depth=A.depth+1:=by first | rfl | simp [Around.under,Code.weight,Code.isCreation,Code.isGuard,Code.isCaller,Code.frames,Code.isFrame,guardIds]
theorem O8 {A:Around} {C:Addr} {us:List Value} {kw:List (Str×Value)}:(A.under (.builtin "type.__call__" ⟨.ref C:: us,kw⟩)).units=A.units+1:=by first | rfl | simp [Around.under,Code.cUnits,Code.frames,Code.isFrame]
theorem jL.make {k:Nat} {A:Around} (r:jL (k+1) A) (C:Addr) (us:List Value) (kw:List (Str×Value)):jL k (A.under (.builtin "type.__call__" ⟨.ref C:: us,kw⟩)):=
 ⟨r.hd,by have:=r.dp;rw [Oq];omega,by have:=r.un;rw [O8];omega⟩
theorem jL.depth {k:Nat} {A:Around} (r:jL k A):A.depth <recursionLimit:=by have:=r.dp;omega
theorem jL.units {k:Nat} {A:Around} (r:jL k A):A.units+64 <cLine:=by have:=r.un;omega
noncomputable def RB:TA:=λ_ H Q=>Q [] H
noncomputable def X3 (ta:TE) (tr:TA):TA:=λσ H Q=>ta σ H λx H1=>tr σ H1 λxs H2=>Q (x:: xs) H2
section
variable {X:Cx} {e:Expr} {es:List Expr} {te:TE} {t:TA} {pos:Pos}
theorem ak:PA X [] RB:=λ_ _ _ _ H Q I h=>Calls.spliced_nil ⟨[],H,I,.nil,h⟩
theorem aa (ha:PE X e te) (hr:PA X es t) (hs:starEach (e:: es) X.env=(false,eval e X.env):: starEach es X.env:=by rfl):PA X (e:: es) (X3 te t):=by intro pos pins s σ H Q I h;rw [hs];show wpAny _ _ (spliced ((false,eval e X.env):: backTo pos (starEach es X.env))) _ _ s;refine Calls.spliced_cons (eO (ha pins s σ H _ I h) λu s1 hpt=>?_);obtain⟨x,H1,I1,r1,q1⟩:=hpt;exact eO (hr pos pins s1 σ H1 _ I1 q1) λus s2 ⟨xs,H2,I2,r2,q2⟩=>⟨x:: xs,H2,I2,.cons r1 r2,q2⟩
noncomputable def abv (t:TA):TE:=λσ H Q=>t σ H λxs H1=>xs.length<=sizeLine/\∀p,H1 p=none->Q (.ref p) (upd H1 p (.tup xs))
noncomputable def aaY (t:TA):TE:=λσ H Q=>t σ H λxs H1=>xs.length<=sizeLine/\∀p,H1 p=none->Q (.ref p) (upd H1 p (.lst xs))
theorem cL {x1} (h:PA X es t):PE X (.Tuple es x1 pos) (abv t):=by intro pins s σ H Q I hq;refine wpAny_Tuple_spliced (eO (h pos pins s σ H _ I hq) λus s1 ⟨xs,H1,I1,r,z,q⟩=>⟨by rw [<-r.length];exact z,?_⟩);have hf:H1 s1.heap.objs.size=none:=I1.hok.fresh (le_refl _);refine⟨.ref s1.heap.objs.size,upd H1 s1.heap.objs.size (.tup xs),I1.laid (t':=s1.toks) (λb u e=>Heap.get?_push_of_some _ e) (le_refl _) ?_,Y,q _ hf⟩;exact⟨z,us,r,⟨_,Heap.get?_push_size _ Y,Y,_,Y⟩⟩
theorem bC (h:PA X es t):PE X (.List es pos) (aaY t):=by intro pins s σ H Q I hq;refine wpAny_List_spliced (eO (h pos pins s σ H _ I hq) λus s1 ⟨xs,H1,I1,r,z,q⟩=>⟨by rw [<-r.length];exact z,?_⟩);have hf:H1 s1.heap.objs.size=none:=I1.hok.fresh (le_refl _);refine⟨.ref s1.heap.objs.size,upd H1 s1.heap.objs.size (.lst xs),I1.laid (t':=s1.toks) (λb u e=>Heap.get?_push_of_some _ e) (le_refl _) ?_,Y,q _ hf⟩;exact⟨z,us,0,r,Heap.get?_push_size _ Y⟩
end
noncomputable abbrev Sp:=List V->Hp->VK->XK->Prop
noncomputable abbrev Ik:=List Env->Hp->Shared->XK->Value->Shared->Prop
structure Pa (P:Program) (w:World) (K:Fr) (mg:Str->Option Value) (base:Heap) (A:Around) (outer:List Env) (s:Shared) (H:Hp):Prop where
 frames:A.frames=some outer
 mod:Mod K mg base
 bs:∀b o,base.get? b=some o->s.heap.get? b=some o/\H b=none
 bsz:base.objs.size<=s.heap.objs.size
 funs:s.heap.FunFrames base outer
 frf:∀b∈frs outer,H b=none
 hok:xT P w H s.heap
 bare:AllBare s.gens
noncomputable def CE (outer:List Env) (P:Program) (w:World) (H:Hp) (s:Shared) (Q:VK) (u:Value) (s':Shared):Prop:=
 ∃v H',s'.os=s.os/\AllBare s'.gens/\Un (frs outer) [] H H' s.heap s'.heap/\xT P w H' s'.heap/\RelV v u/\Q v H'
noncomputable def CR (CX:Ik) (outer:List Env) (P:Program) (w:World) (H:Hp) (s:Shared) (Q:VK) (E:XK) (r:Result) (s':Shared):Prop:=
 match r with
 | .ok (.ret u)=>CE outer P w H s Q u s'
 | .ok _=>False
 | .error e=>CX outer H s E e s'
structure jG (P:Program) (w:World) (K:Fr) (mg:Str->Option Value) (base:Heap) (CX:Ik) (k:Nat) (f:Addr) (fd:FuncData) (ps:List Str) (sp:Sp):Prop where
 len:∀vs H Q E,sp vs H Q E->vs.length=ps.length
 run:∀(A:Around) (outer:List Env) (s:Shared) (H:Hp) (args:Args) (us:List Value) (vs:List V) (Q:VK) (E:XK),jL k A->Pa P w K mg base A outer s H->BindsTo s fd args (ps.zip us)->Vals vs us->sp vs H Q E->
  codeAny (model P w) A (.call (.ref f) args) (CR CX outer P w H s Q E) s
theorem jG.mono {P:Program} {w:World} {K:Fr} {mg:Str->Option Value} {base:Heap} {CX:Ik} {j k:Nat} {f:Addr} {fd:FuncData} {ps:List Str} {sp:Sp} (F:jG P w K mg base CX j f fd ps sp) (h:j<=k):
  jG P w K mg base CX k f fd ps sp:=⟨F.len,λA outer s H args us vs Q E hr=>F.run A outer s H args us vs Q E (hr.mono h)⟩
theorem jG.imp {P:Program} {w:World} {K:Fr} {mg:Str->Option Value} {base:Heap} {CX:Ik} {k:Nat} {f:Addr} {fd:FuncData} {ps:List Str} {sp sp':Sp} (F:jG P w K mg base CX k f fd ps sp)
  (h:∀vs H Q E,sp' vs H Q E->sp vs H Q E):jG P w K mg base CX k f fd ps sp':=
 ⟨λvs H Q E q=>F.len vs H Q E (h _ _ _ _ q),λA outer s H args us vs Q E hr he hb hv hs=>F.run A outer s H args us vs Q E hr he hb hv (h _ _ _ _ hs)⟩
theorem Pa.make {P:Program} {w:World} {K:Fr} {mg:Str->Option Value} {base:Heap} {A:Around} {outer:List Env} {s:Shared} {H:Hp} (e:Pa P w K mg base A outer s H) (C:Addr) (us:List Value) (kw:List (Str×Value)):
  Pa P w K mg base (A.under (.builtin "type.__call__" ⟨.ref C:: us,kw⟩)) outer s H:=⟨by first | exact e.frames | (simpa [Around.under,Code.envs,Code.isFrame,pushEnvs] using e.frames),e.mod,e.bs,e.bsz,e.funs,e.frf,e.hok,e.bare⟩
section
variable {X:Cx} {pins:List (Addr×Obj)} {σ:St} {H:Hp} {s s':Shared}
theorem Inv.env0 (I:Inv X pins σ H s):Pa X.prog X.w X.K X.mg X.base X.A X.stack s H:=
 ⟨I.ok.frames,I.ok.mod,I.bs,le_trans I.ok.bsz I.sz,I.stack,I.stkFree,I.hok,I.bare⟩
theorem Inv.after {Q:VK} {u:Value} (I:Inv X pins σ H s) (h:CE X.stack X.prog X.w H s Q u s'):EP X pins σ Q u s':=by obtain⟨v,H',os,bare,un,hok,r,q⟩:=h;obtain⟨hh,g,d,t,os'⟩:=s';obtain rfl:os'=s.os:=os;exact⟨v,H',I.call (h':=hh) (g':=g) (d':=d) (t':=t) (ch:=[]) un hok bare (λb z=>absurd z (by simp)),r,q⟩
end
noncomputable def Yt (sp:Sp) (dvs:List V) (E:XK) (t:TA):TE:=λσ H Q=>t σ H λvs H1=>sp (vs ++ dvs) H1 Q E
inductive Vx (C:Addr) (m:Str) (sp:Sp) (dvs:List V) (E:XK) (t:TA) (σ:St) (Q:VK) (x:V) (H1:Hp):Prop where
 | mk:∀a dx fs,x=.ref a->H1 a=some (.ins C dx fs)->fs.lookup m=none->(t σ H1 λvs H2=>sp (x:: (vs ++ dvs)) H2 Q E)->Vx C m sp dvs E t σ Q x H1
noncomputable def M3 (C:Addr) (m:Str) (sp:Sp) (dvs:List V) (E:XK) (ta:TE) (t:TA):TE:=λσ H Q=>ta σ H λx H1=>Vx C m sp dvs E t σ Q x H1
noncomputable def Z7 (C:Addr) (sp:Sp) (dvs:List V) (E:XK) (t:TA):TE:=λσ H Q=>t σ H λvs H1=>∀x dx,H1 x=none->H1 dx=none->dx≠x->
 sp (.ref x:: (vs ++ dvs)) (upd (upd H1 dx (.own x)) x (.ins C dx [])) (λv H2=>v=.non/\Q (.ref x) H2) E
noncomputable def Binds (K:Fr) (fd:FuncData) (ps:List Str) (ds:List Value):Prop:=
 ∀(s:Shared) (us:List Value),K.In s.heap->(us ++ ds).length=ps.length->BindsTo s fd ⟨us,[]⟩ (ps.zip (us ++ ds))
theorem Binds.all {K:Fr} {fd:FuncData} {ps:List Str} (h:∀us:List Value,us.length=ps.length->bindArgs fd ⟨us,[]⟩=pure (ps.zip us)):Binds K fd ps []:=λs us _ hl=>by rw [append_nil] at hl ⊢;exact .of_eq (h us hl)
noncomputable def sI (CX:Ik) (X:Cx) (E:XK):Prop:=∀(pins:List (Addr×Obj)) (σ:St) (H:Hp) (s:Shared) (e:Value) (s':Shared),Inv X pins σ H s->CX X.stack H s E e s'->X.xe e s'
section
variable {X:Cx} {CX:Ik} {k:Nat} {f C:Addr} {fd:FuncData} {ps:List Str} {sp:Sp} {dvs:List V} {ds:List Value} {E:XK} {x m:Str} {p pos apos:Pos} {e o:Expr} {es:List Expr} {ta:TE} {t:TA}
theorem Gs {pins:List (Addr×Obj)} {σ:St} {H:Hp} {s:Shared} {Q:VK} {us:List Value} {vs:List V} (F:jG X.prog X.w X.K X.mg X.base CX k f fd ps sp) (hr:jL k X.A) (hb:Binds X.K fd ps ds) (hd:Vals dvs ds) (hx:sI CX X E)
  (I:Inv X pins σ H s) (r:Vals vs us) (h:sp (vs ++ dvs) H Q E):wpAny (model X.prog X.w) X.A (call (.ref f) us) (EP X pins σ Q) X.xe s:=by
 have r2:Vals (vs ++ dvs) (us ++ ds):=r.append hd;have hl:(us ++ ds).length=ps.length:=by rw [<-r2.length];exact F.len _ _ _ _ h
 refine wpAny_call (codeAny_mono (F.run X.A X.stack s H ⟨us,[]⟩ (us ++ ds) (vs ++ dvs) Q E hr I.env0 (hb s us I.kIn hl) r2 h) λr s' hq=>?_);cases r with
 | error e=>exact hx pins σ H s e s' I hq
 | ok fl=>
  cases fl with
  | ret u=>exact I.after hq
  | next=>exact False.elim hq
  | brk=>exact False.elim hq
  | cont=>exact False.elim hq
theorem Xb (F:jG X.prog X.w X.K X.mg X.base CX k f fd ps sp) (hr:jL k X.A) (hg:Gl X x) (hm:X.mg x=some (.ref f)) (hk:PySem.W.keepIn X.K (.ref f)=true) (hb:Binds X.K fd ps ds) (hd:Vals dvs ds) (hx:sI CX X E)
  (ha:PA X (e:: es) t) (hdb:(x == ("__debug__" :Str))=false:=by decide) (he:starEach (e:: es) X.env=(false,eval e X.env):: starEach es X.env:=by rfl) (hpl:(backTo pos (starEach es X.env)).any (·.1)=false:=by rfl):
  PE X (.Call (.Name x p) (e:: es) [] pos) (Yt sp dvs E t):=by
 intro pins s σ H Q I h;refine wpAny_Call_Name_kw (KJ I hg hm ?_ hdb);refine PySem.W.callWith_K (h₀:=X.base) I.ok.mod.kin hk (eO (ha pos pins s σ H _ I h) λus s1 ⟨vs,H1,I1,r,q⟩=>⟨I1.kIn,?_⟩) he hpl;exact Gs F hr hb hd hx I1 r q
theorem Ku {pl:Sem Bool} (he:PE X o ta) (c:RM X.K C) (hm:Meth X.K C m f) (F:jG X.prog X.w X.K X.mg X.base CX k f fd ps sp) (hr:jL k X.A) (hb:Binds X.K fd ps ds) (hd:Vals dvs ds) (hx:sI CX X E) (ha:PA X (e:: es) t)
  (hst:starEach (e:: es) X.env=(false,eval e X.env):: starEach es X.env:=by rfl) (hpl:(backTo pos (starEach es X.env)).any (·.1)=false:=by rfl)
  (ht:eval (.Call (.Attribute o m apos) (e:: es) [] pos) X.env=(do
   let ov <-eval o X.env
   standAt apos.atName
   let (f,first) <-holding [ov] (getMethod ov m pl)
   callWith pos f first (backTo pos (starEach (e:: es) X.env)) (backToKw pos (keywordEach [] X.env))):=by rfl):
  PE X (.Call (.Attribute o m apos) (e:: es) [] pos) (M3 C m sp dvs E ta t):=by
 intro pins s σ H Q I h;refine PySem.W.methodCall_KW (pl:=pl) (eO (he pins s σ H _ I h) λu s1 hpt=>?_) ht;obtain⟨x,H1,I1,rx,a,dx,fs,ex,ea,l,q⟩:=hpt;subst ex;obtain rfl:u=Value.ref a:=rx;refine uz I1 ea c hm l ?_;refine PySem.W.callWith_K (first:=[.ref a]) (h₀:=X.base) I.ok.mod.kin hm.kp (eO (ha pos pins s1 σ H1 _ I1 q) λus s2 ⟨vs,H2,I2,r,q2⟩=>⟨I2.kIn,?_⟩) hst hpl;exact Gs (us:=.ref a:: us) (vs:=.ref a:: vs) F hr hb hd hx I2 (.cons Y r) q2
theorem U9 {pl:Sem Bool} (he:PE X o ta) (c:RM X.K C) (hm:Meth X.K C m f) (F:jG X.prog X.w X.K X.mg X.base CX k f fd ps sp) (hr:jL k X.A) (hb:Binds X.K fd ps ds) (hd:Vals dvs ds) (hx:sI CX X E)
  (ht:eval (.Call (.Attribute o m apos) [] [] pos) X.env=(do
   let ov <-eval o X.env
   standAt apos.atName
   let (f,first) <-holding [ov] (getMethod ov m pl)
   callWith pos f first (backTo pos (starEach [] X.env)) (backToKw pos (keywordEach [] X.env))):=by rfl):
  PE X (.Call (.Attribute o m apos) [] [] pos) (M3 C m sp dvs E ta RB):=by
 intro pins s σ H Q I h;refine PySem.W.methodCall_KW (pl:=pl) (eO (he pins s σ H _ I h) λu s1 hpt=>?_) ht;obtain⟨x,H1,I1,rx,a,dx,fs,ex,ea,l,q⟩:=hpt;subst ex;obtain rfl:u=Value.ref a:=rx;refine uz I1 ea c hm l ?_;exact PySem.W.callWith_K0 (first:=[.ref a]) I1.kIn hm.kp (Gs (us:=[.ref a]) (vs:=[.ref a]) F hr hb hd hx I1 (.cons Y .nil) q)
structure Mk (K:Fr) (C f:Addr):Prop where
 makes:PySem.W.makesIn K C=true
 init:PySem.W.findIn K (.ref C) "__init__" =some (some (.ref f))
 fn:PySem.W.isFn K (.ref f)=true
 kp:PySem.W.keepIn K (.ref C)=true
theorem Ui {pins:List (Addr×Obj)} {σ:St} {H:Hp} {s:Shared} {Q:VK} {us:List Value} {vs:List V} (M:Mk X.K C f) (F:jG X.prog X.w X.K X.mg X.base CX k f fd ps sp) (hr:jL (k+1) X.A) (hb:Binds X.K fd ps ds) (hd:Vals dvs ds)
  (hx:sI CX X E) (I:Inv X pins σ H s) (r:Vals vs us)
  (h:∀x dx,H x=none->H dx=none->dx≠x->sp (.ref x:: (vs ++ dvs)) (upd (upd H dx (.own x)) x (.ins C dx [])) (λv H2=>v=.non/\Q (.ref x) H2) E):
  wpAny (model X.prog X.w) X.A (call (.ref C) us) (EP X pins σ Q) X.xe s:=by
 have hq:=h (s.heap.objs.size+1) s.heap.objs.size (I.hok.fresh (le_succ _)) (I.hok.fresh (le_refl _)) (ne_of_lt (Nat.lt_succ_self _));have I2:=Inv.made (C:=C) I;have r2:Vals (V.ref (s.heap.objs.size+1):: (vs ++ dvs)) (Value.ref (s.heap.objs.size+1):: (us ++ ds)):=.cons rfl (r.append hd);have hl:(Value.ref (s.heap.objs.size+1):: us ++ ds).length=ps.length:=by have e:=r2.length;rw [F.len _ _ _ _ hq] at e;exact e.symm
 refine wpAny_call (Tg (f:=f) I.kIn M.makes M.init (beq_iff_eq.mp M.fn) (codeAny_mono (F.run _ X.stack _ _ ⟨Value.ref (s.heap.objs.size+1):: us,[]⟩ (Value.ref (s.heap.objs.size+1):: (us ++ ds)) _ _ E (hr.make C us [])
  (I2.env0.make C us []) (hb _ (Value.ref (s.heap.objs.size+1):: us) I2.kIn hl) r2 hq) λr s' hq'=>?_))
 cases r with
 | error e=>exact hx pins σ _ _ e s' I2 hq'
 | ok fl=>
  cases fl with
  | ret u=>
   obtain⟨v,H',I3,rv,ev,q3⟩:=I2.after hq';subst ev;exact⟨rv,⟨V.ref (s.heap.objs.size+1),H',I3,Y,q3⟩⟩
  | next=>exact False.elim hq'
  | brk=>exact False.elim hq'
  | cont=>exact False.elim hq'
theorem gP (M:Mk X.K C f) (F:jG X.prog X.w X.K X.mg X.base CX k f fd ps sp) (hr:jL (k+1) X.A) (hg:Gl X x) (hm:X.mg x=some (.ref C)) (hb:Binds X.K fd ps ds) (hd:Vals dvs ds) (hx:sI CX X E)
  (ha:PA X (e:: es) t) (hdb:(x == ("__debug__" :Str))=false:=by decide) (he:starEach (e:: es) X.env=(false,eval e X.env):: starEach es X.env:=by rfl) (hpl:(backTo pos (starEach es X.env)).any (·.1)=false:=by rfl):
  PE X (.Call (.Name x p) (e:: es) [] pos) (Z7 C sp dvs E t):=by
 intro pins s σ H Q I h;refine wpAny_Call_Name_kw (KJ I hg hm ?_ hdb);refine PySem.W.callWith_K (h₀:=X.base) I.ok.mod.kin M.kp (eO (ha pos pins s σ H _ I h) λus s1 ⟨vs,H1,I1,r,q⟩=>⟨I1.kIn,?_⟩) he hpl;exact Ui M F hr hb hd hx I1 r q
end
section
variable {X:Cx} {CX:Ik} {k:Nat} {f C:Addr} {fd:FuncData} {ps ks:List Str} {sp:Sp} {E:XK} {x m:Str} {p pos apos kpos:Pos} {e o:Expr} {es:List Expr} {kws:List Keyword} {te ta:TE} {t tk:TA} {nm:Option Str}
variable {g:List Value->List Value->List Value} {gV:List V->List V->List V}
end
structure ir (N P:List Str) (sc:Scope):Prop where
 kind:sc.kind=.function
 co:sc.isCoroutine=false
 gen:sc.isGenerator=false
 nd:N.Nodup
 pre:N.take P.length=P
 par:∀x∈P,sc.names.lookup x=some .local∨sc.names.lookup x=some .cell
 nofree:∀y∈sc.names,y.2≠.free
theorem Jm {kindOf:Str->Option NameKind} {x:Str}:∀{binds:List (Str×Value)} {m:Str->Option Value},(∀v,(x,v)∉binds)->bindL kindOf binds m x=m x
 | [],_,_=>rfl
 | (n,v):: r,m,h=>by
  unfold bindL;rw [Jm λw hw=>h w (mem_cons_of_mem _ hw)];split
  ·have:x≠n:=by rintro rfl;exact h v mem_cons_self
   simp [this]
  ·rfl
theorem HN {kindOf:Str->Option NameKind} {x:Str}:∀{binds:List (Str×Value)} {m:Str->Option Value},(∀v,(x,v)∉binds)->bindC kindOf binds m x=m x
 | [],_,_=>rfl
 | (n,v):: r,m,h=>by
  unfold bindC;rw [HN λw hw=>h w (mem_cons_of_mem _ hw)];split
  ·rfl
  ·have:x≠n:=by rintro rfl;exact h v mem_cons_self
   simp [this]
theorem Ie {kindOf:Str->Option NameKind} {x:Str} {v:Value}:∀{P:List Str} {vs:List Value} {i:Nat} {m:Str->Option Value},P.Nodup->P[i]?=some x->vs[i]?=some v->kindOf x=some .local->
  bindL kindOf (P.zip vs) m x=some v
 | [],_,_,_,_,h,_,_=>by simp at h
 | _:: _,[],_,_,_,_,h,_=>by simp at h
 | p:: P,w:: vs,0,m,nd,h1,h2,hk=>by simp at h1 h2;subst h1;subst h2;show bindL kindOf ((p,w):: P.zip vs) m p=_;unfold bindL;rw [Jm λv hv=>(nodup_cons.mp nd).1 (List.of_mem_zip hv).1,if_pos hk];simp
 | p:: P,w:: vs,i+1,m,nd,h1,h2,hk=>by show bindL kindOf ((p,w):: P.zip vs) m x=_;unfold bindL;exact Ie (i:=i) (nodup_cons.mp nd).2 (by simpa using h1) (by simpa using h2) hk
theorem Hy {kindOf:Str->Option NameKind} {x:Str} {v:Value}:∀{P:List Str} {vs:List Value} {i:Nat} {m:Str->Option Value},P.Nodup->P[i]?=some x->vs[i]?=some v->kindOf x≠some .local->
  bindC kindOf (P.zip vs) m x=some v
 | [],_,_,_,_,h,_,_=>by simp at h
 | _:: _,[],_,_,_,_,h,_=>by simp at h
 | p:: P,w:: vs,0,m,nd,h1,h2,hk=>by simp at h1 h2;subst h1;subst h2;show bindC kindOf ((p,w):: P.zip vs) m p=_;unfold bindC;rw [HN λv hv=>(nodup_cons.mp nd).1 (List.of_mem_zip hv).1,if_neg hk];simp
 | p:: P,w:: vs,i+1,m,nd,h1,h2,hk=>by show bindC kindOf ((p,w):: P.zip vs) m x=_;unfold bindC;exact Hy (i:=i) (nodup_cons.mp nd).2 (by simpa using h1) (by simpa using h2) hk
noncomputable def start (N:List Str) (vs:List V):St:=vs.map some ++ List.replicate (N.length - vs.length) none
noncomputable def N6 (CX:Ik) (P:Program) (w:World) (K:Fr) (mg:Str->Option Value) (base:Heap) (N:List Str) (qual:Str) (scope:Scope) (f:Addr) (cd:Value) (A:Around) (outer:List Env) (s:Shared) (H:Hp) (E:XK):Cx where
 prog:=P
 w:=w
 K:=K
 mg:=mg
 base:=base
 A:=A.deeper (envOfC qual scope s.heap.objs.size f cd)
 N:=N
 s₀:=s
 H₀:=H
 env:=envOfC qual scope s.heap.objs.size f cd
 outer:=outer
 stack:=envOfC qual scope s.heap.objs.size f cd:: outer
 ex:=[]
 calm:=true
 fn:=λ_=>true
 pn:=[]
 xe:=λe s'=>wpAny (model P w) (A.deeper (envOfC qual scope s.heap.objs.size f cd)) (leaving (envOfC qual scope s.heap.objs.size f cd) e) (λ_ s''=>CX outer H s E e s'') (λe' s''=>CX outer H s E e' s'') s'
theorem LK {sc:Scope} {n:Nat} {x:Str} (h:sc.names.lookup x=some .cell):∃c,(cellsFrom n sc.names []).lookup x=some c:=by have q:=PySem.W.cellsFrom_some sc.names n [] (.inl h);exact isSome_iff_exists.mp q
theorem Rk {CX:Ik} {P:Program} {w:World} {K:Fr} {mg:Str->Option Value} {base:Heap} {N ps:List Str} {qual:Str} {scope:Scope} {f:Addr} {cd:Value} {A:Around} {outer:List Env} {s s1:Shared} {H:Hp} {E:XK} {us:List Value} {vs:List V}
  (S:ir N ps scope) (hd:A.handled=none) (e0:Pa P w K mg base A outer s H) (hl:vs.length=ps.length) (r:Vals vs us)
  (x:InCallC s s.heap.objs.size (bindL (envOfC qual scope s.heap.objs.size f cd).kindOf (ps.zip us) λ_=>none) (cellsFrom (s.heap.objs.size+1) scope.names []) (bindC (envOfC qual scope s.heap.objs.size f cd).kindOf (ps.zip us) λ_=>none) s1):
  Inv (N6 CX P w K mg base N qual scope f cd A outer s H E) [] (start N vs) H s1:=by
 have hpl:ps.length<=N.length:=by have:=congrArg List.length S.pre;rw [length_take] at this;omega
 obtain⟨h1,tk,rfl,hk⟩:=x.done;have noA:∀b:Addr,b∉(N6 CX P w K mg base N qual scope f cd A outer s H E).ex:=λb z=>absurd (show b∈([]:List Addr) from z) (by simp);refine⟨⟨e0.mod,S.kind,Y,Y,le_refl _,λy z c h1 h2=>?_,λy hy=>?_,λy c _ h=>?_,λ_=>hd,Around.frames_deeper e0.frames,.inr ⟨Y,Y⟩,λb z=>absurd z (noA b),e0.bs,e0.bsz,λb _ _=>noA b,λb z=>absurd z (noA b),e0.funs,e0.frf⟩,
  rfl,e0.bare,Un.kept hk,⟨_,x.toInCall.ns,λi y v h1 h2 h3=>?_⟩,λy c h=>⟨_,x.cell y c h⟩,e0.hok.fresh (le_refl _),λy c h=>?_,λp hp=>absurd (show p∈([]:List (Addr×Obj)) from hp) (by simp),e0.hok.kept hk,?_⟩
 ·exact name_of_addr x.apart (PySem.mem_of_lookup h1) (PySem.mem_of_lookup h2)
 ·have hy:scope.names.lookup y=some .cell∨scope.names.lookup y=some .free:=hy;rcases hy with hy | hy
  ·exact LK hy
  ·exact absurd Y (S.nofree _ (PySem.mem_of_lookup hy))
 ·exact Nat.le_of_lt (x.above y c (PySem.mem_of_lookup h))
 ·have hi:i <vs.length:=by
   unfold start at h2;by_cases hi:i <vs.length
   ·exact hi
   ·rw [getElem?_append_right (by simpa using hi)] at h2;rw [List.getElem?_replicate] at h2;split at h2 <;> cases h2
  have ha:vs[i]?=some v:=by
   unfold start at h2;rw [getElem?_append_left (by simpa using hi),getElem?_map] at h2;cases e:vs[i]? with
   | none=>rw [e] at h2;cases h2
   | some a=>rw [e] at h2;cases h2;rfl
  obtain⟨u,hu,rv⟩:=r.get ha;have hp:ps[i]?=some y:=by rw [<-S.pre,List.getElem?_take_of_lt (by omega)];exact h1
  have ndP:ps.Nodup:=by rw [<-S.pre];exact S.nd.sublist (List.take_sublist _ _)
  refine⟨u,rv,?_⟩;rcases S.par y (mem_of_getElem? hp) with k | k
  ·exact .inl ⟨k,Ie ndP hp hu k⟩
  ·obtain⟨c,e⟩:=LK (n:=s.heap.objs.size+1) k;refine .inr ⟨.inl k,c,e,?_⟩;have q:=x.cell y c e;rw [Hy ndP hp hu (by show scope.names.lookup y≠_;rw [k];decide)] at q;exact q
 ·exact e0.hok.fresh (Nat.le_of_lt (x.above y c (PySem.mem_of_lookup h)))
 ·unfold start;show _=N.length;rw [length_append,length_map,List.length_replicate];omega
theorem XX {CX:Ik} {P:Program} {w:World} {K:Fr} {mg:Str->Option Value} {base:Heap} {k:Nat} {f:Addr} {name qual:Str} {params:Arguments} {body:List Stmt} {scope:Scope} {dV kV doc pm cdv ct oc:Value} {an od:Option Addr}
  {osl:Array (Option Value)} {N ps:List Str} {sp:Sp} (lk:K.lookup f=some ⟨oc,od,.func (PySem.W.fnOf name qual params body scope dV kV doc pm an cdv ct),osl⟩) (hcd:PySem.W.codeIn K cdv qual=true) (S:ir N ps scope)
  (len:∀vs H Q E,sp vs H Q E->vs.length=ps.length)
  (hbody:∀(A:Around) (outer:List Env) (s:Shared) (H:Hp) (vs:List V) (Q:VK) (E:XK),jL k (A.deeper (envOfC qual scope s.heap.objs.size f cdv))->sp vs H Q E->
   ∃t,QH (N6 CX P w K mg base N qual scope f cdv A outer s H E) body t/\t { nx:=λ_ H'=>Q .non H',rt:=Q } (start N vs) H):
  jG P w K mg base CX (k+1) f (PySem.W.fnOf name qual params body scope dV kV doc pm an cdv ct) ps sp:=by
 refine⟨len,λA outer s H args us vs Q E hr e0 hb r hsp=>?_⟩;have hl:=len _ _ _ _ hsp;have KX:K.In s.heap:=e0.mod.kin.keeps λb o e=>(e0.bs b o e).1;have lim:s.heap.NoLimit:=e0.mod.nolimit.keeps λb o e=>(e0.bs b o e).1;have hkind:∀y∈ps.zip us,scope.names.lookup y.1=some .local∨(scope.names.lookup y.1=some .cell/\((cellsFrom (s.heap.objs.size+1) scope.names []).lookup y.1).isSome=true):=λ⟨n,v⟩ hy=>by
  rcases S.par n (List.of_mem_zip hy).1 with q | q
  ·exact .inl q
  ·exact .inr ⟨q,PySem.W.cellsFrom_some _ _ _ (.inl q)⟩
 refine codeAny_call_function hr.depth (KX _ _ lk) Y S.co S.gen Y (PySem.W.codeRec_of KX hcd) (hb _ _ _ _ ?_);refine wpAny_newFunctionEnv_cells S.kind hkind λenv he s1 x=>?_;subst he;refine⟨lim.keeps x.toInCall.keep,codeAny_func ?_⟩;obtain⟨t,ht,hq⟩:=hbody A outer s H vs Q E (hr.deeper _) hsp;have I:Inv (N6 CX P w K mg base N qual scope f cdv A outer s H E) [] (start N vs) H s1:=Rk S hr.hd e0 hl r x;refine wpAny_mono (ht [] s1 (start N vs) H _ I hq) (λfl s' hs=>?_) λe s' hs=>hs;have fin:∀{σ':St} {H':Hp} {v:V} {u:Value},Inv (N6 CX P w K mg base N qual scope f cdv A outer s H E) [] σ' H' s'->RelV v u->Q v H'->CE outer P w H s Q u s':=
  λ{σ' H' v u} J rv q=>⟨v,H',J.os,J.bare,J.base,J.hok,rv,q⟩
 cases fl with
 | ret u=>
  obtain⟨v,σ',H',J,rv,q⟩:=hs;exact fin J rv q
 | next=>
  obtain⟨σ',H',J,q⟩:=hs;exact fin (v:=V.non) (u:=Value.none) J Y q
 | brk=>
  obtain⟨_,_,_,q⟩:=hs;exact False.elim q
 | cont=>
  obtain⟨_,_,_,q⟩:=hs;exact False.elim q
section
variable {X:Cx} {x:Str} {p pos:Pos} {e:Expr} {es:List Expr} {t:TA} {id T:String} {r:List V->Hp->VK->Prop}
noncomputable def tCB (r:List V->Hp->VK->Prop) (t:TA):TE:=λσ H Q=>t σ H λvs H1=>r vs H1 Q
theorem bB (hc:pq X (.builtin id) r) (hg:Gl X x) (hm:X.mg x=none) (hv:bootBuiltins x=some (.builtin id)) (ha:PA X (e:: es) t) (hn:x≠ "__name__" :=by decide) (hdb:(x == ("__debug__" :Str))=false:=by decide)
  (he:starEach (e:: es) X.env=(false,eval e X.env):: starEach es X.env:=by rfl) (hpl:(backTo pos (starEach es X.env)).any (·.1)=false:=by rfl):PE X (.Call (.Name x p) (e:: es) [] pos) (tCB r t):=by
 intro pins s σ H Q I h;refine wpAny_Call_Name_kw (Ka I hg hm hv ?_ hn hdb);exact PyProof.Rows.callWith_builtin1 (eO (ha pos pins s σ H _ I h) λus s1 ⟨vs,H1,I1,r1,q1⟩=>hc pins s1 σ H1 vs us Q I1 r1 q1) he hpl
theorem gf (hc:pq X (.type T) r) (hg:Gl X x) (hm:X.mg x=none) (hv:bootBuiltins x=some (.type T)) (ha:PA X (e:: es) t) (hn:x≠ "__name__" :=by decide) (hdb:(x == ("__debug__" :Str))=false:=by decide)
  (he:starEach (e:: es) X.env=(false,eval e X.env):: starEach es X.env:=by rfl) (hpl:(backTo pos (starEach es X.env)).any (·.1)=false:=by rfl):PE X (.Call (.Name x p) (e:: es) [] pos) (tCB r t):=by
 intro pins s σ H Q I h;refine wpAny_Call_Name_kw (Ka I hg hm hv ?_ hn hdb);exact PyProof.Rows.callWith_type1 (eO (ha pos pins s σ H _ I h) λus s1 ⟨vs,H1,I1,r1,q1⟩=>hc pins s1 σ H1 vs us Q I1 r1 q1) he hpl
end
end L2
namespace HT
open PySem PyProof.Rows
section
open PySem.SeqAt
open PySem.AutoSeq1 (wpAny_loadPart')
open PySem.MeetsSeq PySem.MeetsSeq2 PySem.MeetsSeq3
end
section
variable {prog:Program} {w:World} {A:Around} {E:Value->Shared->Prop} {s:Shared}
noncomputable def Ni (n d:Nat):Option Int->Nat
 | none=>d
 | some v=>if v <0 then(v+(n:Int)).toNat else min v.toNat n
theorem yW (n d:Nat):Ni n d none=d:=rfl
theorem xO (n d k:Nat):Ni n d (some (k:Int))=min k n:=by show(if (k:Int) <0 then((k:Int)+(n:Int)).toNat else min (k:Int).toNat n)=min k n;rw [if_neg (by omega),toNat_natCast]
end
end HT
namespace L2
open PySem PySem.Spec PyProof.Rows
noncomputable abbrev TO:=St->Hp->(Option Int->Hp->Prop)->Prop
noncomputable def PO (X:Cx) (e:Option Expr) (t:TO):Prop:=
 ∀(pins:List (Addr×Obj)) (s:Shared) (σ:St) (H:Hp) (Q:Option Int->Hp->Prop),Inv X pins σ H s->t σ H Q->
  wpAny (model X.prog X.w) X.A (evalPart e X.env) (λu s'=>∃o H',Inv X pins σ H' s'/\IsPart u o/\Q o H') X.xe s
noncomputable def Xk:TO:=λ_ H Q=>Q none H
inductive Ti (Q:Option Int->Hp->Prop) (x:V) (H1:Hp):Prop where
 | mk:∀i,x=.int i->Q (some i) H1->Ti Q x H1
noncomputable def aac (t:TE):TO:=λσ H Q=>t σ H λx H1=>Ti Q x H1
section
variable {X:Cx} {e:Expr} {te:TE} {lo hi:Option Expr} {tl th:TO} {pos p2:Pos}
theorem mF:PO X none Xk:=by intro pins s σ H Q I h;rw [evalPart_none];exact wpAny_pure ⟨none,H,I,.none,h⟩
theorem jD (h:PE X e te):PO X (some e) (aac te):=by intro pins s σ H Q I hw;rw [evalPart_some];refine eO (h pins s σ H _ I hw) λu s1 hpt=>?_;obtain⟨x,H1,I1,r1,q1⟩:=hpt;obtain⟨i,rfl,q⟩:=q1;obtain⟨t,rfl⟩:=r1;exact⟨some i,H1,I1,.int i t,q⟩
noncomputable def SlR (X:Cx) (r:V->Option Int->Option Int->Hp->VK->Prop):Prop:=
 ∀(pins:List (Addr×Obj)) (s:Shared) (σ:St) (H:Hp) (x:V) (v vl vu:Value) (lo hi:Option Int) (sl:Addr) (Q:VK),Inv X pins σ H s->RelV x v->s.heap.IsSliceOf sl vl vu .none->IsPart vl lo->IsPart vu hi->r x lo hi H Q->
  ∃T id,typeLookup (.type T) "__getitem__" =pure (some (.builtin id))/\s.TypeIs v T/\wpAny (model X.prog X.w) X.A (getItem v (.ref sl)) (EP X pins σ Q) X.xe s
noncomputable def tSl (r:V->Option Int->Option Int->Hp->VK->Prop) (te:TE) (tl th:TO):TE:=λσ H Q=>te σ H λx H1=>tl σ H1 λl H2=>th σ H2 λu H3=>r x l u H3 Q
theorem jy {r:V->Option Int->Option Int->Hp->VK->Prop} (hr:SlR X r) (he:PE X e te) (hl:PO X lo tl) (hu:PO X hi th):PE X (.Subscript e (.Slice lo hi none p2) pos) (tSl r te tl th):=by intro pins s σ H Q I h;refine Subscript_ (eO (he pins s σ H _ I h) λv s1 hpt=>?_);obtain⟨x,H1,I1,r1,q1⟩:=hpt;refine wpAny_Slice (eO (hl pins s1 σ H1 _ I1 q1) λvl s2 ⟨l,H2,I2,pl,q2⟩=>eO (hu pins s2 σ H2 _ I2 q2) λvu s3 hpt=>?_);obtain⟨u,H3,I3,pu,q3⟩:=hpt;rw [evalPart_none];refine wpAny_pure ?_;have I4:Inv X pins σ H3 { s3 with heap:=s3.heap.push { cls:=.type "slice",data:=.fields #[vl,vu,.none] } }:=I3.kept (t':=s3.toks) λb ob q=>Heap.get?_push_of_some _ q;obtain⟨T,id,hT,ht,hg⟩:=hr pins { s3 with heap:=s3.heap.push { cls:=.type "slice",data:=.fields #[vl,vu,.none] } } σ H3 x v vl vu l u s3.heap.objs.size Q I4 r1 (Heap.IsSliceOf.new ..) pl pu q3;show wpAny (model X.prog X.w) X.A (subscriptTail e (.Slice lo hi none p2) v (.ref s3.heap.objs.size)) (EP X pins σ Q) X.xe { s3 with heap:=s3.heap.push { cls:=.type "slice",data:=.fields #[vl,vu,.none] } };exact tail_any (ops:=[.ref s3.heap.objs.size,v]) ht hT hg (by with_unfolding_all rfl)
noncomputable def wk (xs:List V) (lo hi:Option Int):List V:=(xs.drop (HT.Ni xs.length 0 lo)).take (HT.Ni xs.length xs.length hi - HT.Ni xs.length 0 lo)
theorem Ly (xs:List V) (lo hi:Option Int):(wk xs lo hi).length<=xs.length:=by unfold wk;rw [length_take,length_drop];omega
end
noncomputable def Zz (n:Nat) (i:Int):Option Nat:=if 0<=i then(if i <n then some i.toNat else none) else if -(n:Int)<=i then some (i+n).toNat else none
noncomputable def Hw {α:Type} (xs:List α) (i:Int):Option α:=(Zz xs.length i).bind λj=>xs[j]?
theorem Wd {n:Nat} {i:Int} {j:Nat} (h:Zz n i=some j):seqIndex? i n=some j/\j <n/\ -(n:Int)<=i/\i <n:=by
 unfold Zz at h;by_cases h0:0<=i
 ·rw [if_pos h0] at h;by_cases h1:i <n
  ·rw [if_pos h1] at h;have e:i.toNat=j:=Option.some.inj h;exact⟨by rw [seqIndex_of h0 h1,e],by omega,by omega,h1⟩
  ·rw [if_neg h1] at h;cases h
 ·rw [if_neg h0] at h;by_cases h1: -(n:Int)<=i
  ·rw [if_pos h1] at h;have e:(i+n).toNat=j:=Option.some.inj h;exact⟨by rw [seqIndex_neg (by omega) h1,e],by omega,h1,by omega⟩
  ·rw [if_neg h1] at h;cases h
theorem Ju {α:Type} {xs:List α} {i:Int} {v:α} (h:Hw xs i=some v):∃j,seqIndex? i xs.length=some j/\xs[j]?=some v/\j <xs.length/\ -(xs.length:Int)<=i/\i <xs.length:=by
 unfold Hw at h;cases e:Zz xs.length i with
 | none=>rw [e] at h;cases h
 | some j=>
  rw [e] at h;obtain⟨h1,h2,h3,h4⟩:=Wd e;exact⟨j,h1,h,h2,h3,h4⟩
theorem aO {α:Type} {xs:List α} {j:Nat} {v:α} (h:xs[j]?=some v):Hw xs (j:Int)=some v:=by
 have hj:j <xs.length:=(List.getElem?_eq_some_iff.mp h).1;have e:Zz xs.length (j:Int)=some j:=by unfold Zz;rw [if_pos (by omega),if_pos (by omega)];simp
 unfold Hw;rw [e];exact h
noncomputable def QV (b:Expr):Prop:=∀o i,subscripted b false o i=operate [o,i] (getItem o i)
noncomputable def SJ (X:Cx) (r:R2):Prop:=
 ∀(value slice:Expr) (pins:List (Addr×Obj)) (s:Shared) (σ:St) (H:Hp) (x y:V) (v u:Value) (Q:VK),Inv X pins σ H s->RelV x v->RelV y u->r x y H Q->
  subscripted slice false v u=operate [v,u] (getItem v u)->wpAny (model X.prog X.w) X.A (subscriptTail value slice v u) (EP X pins σ Q) X.xe s
noncomputable def MtR (X:Cx) (id:String) (r:V->List V->Hp->VK->Prop):Prop:=
 ∀(pins:List (Addr×Obj)) (s:Shared) (σ:St) (H:Hp) (x:V) (xs:List V) (v:Value) (us:List Value) (Q:VK),Inv X pins σ H s->RelV x v->Vals xs us->r x xs H Q->
  wpAny (model X.prog X.w) X.A (call (.builtin id) (v:: us)) (EP X pins σ Q) X.xe s
section
variable {X:Cx} {a b:Expr} {ta tb:TE} {pos:Pos}
theorem SJ.or {r r':R2} (h:SJ X r) (h':SJ X r'):SJ X (λx y H Q=>r x y H Q∨r' x y H Q):=by
 intro value slice pins s σ H x y v u Q I rx ry q hs;rcases q with q | q
 ·exact h value slice pins s σ H x y v u Q I rx ry q hs
 ·exact h' value slice pins s σ H x y v u Q I rx ry q hs
theorem bc {r:R2} (hr:SJ X r) (ha:PE X a ta) (hb:PE X b tb) (hs:QV b):PE X (.Subscript a b pos) (Xr r ta tb):=by intro pins s σ H Q I h;exact Subscript_ (YZ ha hb I h λv u s2 x y H2 I2 rx ry q=>hr a b pins s2 σ H2 x y v u Q I2 rx ry q (hs _ _))
inductive XJ (K:Fr) (x:V) (y:V) (H:Hp) (Q:VK):Prop where
 | mk:∀p xs i v,x=.ref p->y=.int i->bJ K H p xs->Hw xs i=some v->Q v H->XJ K x y H Q
noncomputable def YJ (K:Fr):R2:=λx y H Q=>XJ K x y H Q
inductive Yd (K:Fr) (x:V) (y:V) (H:Hp) (Q:VK):Prop where
 | mk:∀p xs i v,x=.ref p->y=.int i->fZ K H p xs->Hw xs i=some v->Q v H->Yd K x y H Q
noncomputable def Ze (K:Fr):R2:=λx y H Q=>Yd K x y H Q
inductive Yh (x:V) (y:V) (H:Hp) (Q:VK):Prop where
 | mk:∀z i c,x=.str z->y=.int i->z.length<=sizeLine->Hw z.cps.toList i=some c->Q (.str ⟨#[c]⟩) H->Yh x y H Q
noncomputable def ZM:R2:=λx y H Q=>Yh x y H Q
theorem bw:SJ X (YJ X.K):=by
 intro value slice pins s σ H x y v u Q I rx ry h hs;obtain⟨p,xs,i,z,rfl,rfl,hq,he,q⟩:=h;cases rx;obtain⟨t,rfl⟩:=ry;obtain⟨its,r,pl,hz⟩:=I.list hq;obtain⟨j,h1,h2,h3,h4,h5⟩:=Ju he;obtain⟨w,ew,rw'⟩:=r.get h2;have hl:=r.length;have hn:=J3;have fin:EP X pins σ Q w s:=⟨z,H,I,rw',q⟩;by_cases h0:0<=i
 ·have hj:i.toNat=j:=by rw [seqIndex_of h0 h5] at h1;exact Option.some.inj h1
  exact item_listR pl.isList h0 (by omega) (by rw [hj];simpa using ew) fin hs
 ·have hj:(i+(its.toArray.size:Int)).toNat=j:=by rw [seqIndex_neg (by omega) h4] at h1;rw [size_toArray,<-hl];exact Option.some.inj h1
  exact subscriptTail_builtinR (x:=w) pl.isList.typeIs slot_list_getitem.lookup
   (wpAny_getItem_list_neg (Q:=λr s'=>r=w/\EP X pins σ Q r s') pl.isList (by omega) (by rw [size_toArray] <;> omega) (by omega) (by rw [hj];simpa using ew) ⟨rfl,fin⟩) hs
theorem cT:SJ X (Ze X.K):=by
 intro value slice pins s σ H x y v u Q I rx ry h hs;obtain⟨p,xs,i,z,rfl,rfl,hq,he,q⟩:=h;cases rx;obtain⟨t,rfl⟩:=ry;obtain⟨its,r,pl,hz⟩:=I.tuple hq;obtain⟨j,h1,h2,h3,h4,h5⟩:=Ju he;obtain⟨w,ew,rw'⟩:=r.get h2;have hl:=r.length;have hn:=J3;have fin:EP X pins σ Q w s:=⟨z,H,I,rw',q⟩;exact subscriptTail_builtinR (x:=w) pl.typeIs slot_tuple_getitem.lookup
  (getItem_tuple (j:=j) (Q:=λr s'=>r=w/\EP X pins σ Q r s') pl (by omega) (by omega) (by rw [size_toArray,<-hl];exact h1) (by simpa using ew) ⟨rfl,fin⟩) hs
theorem Fb:SJ X ZM:=by
 intro value slice pins s σ H x y v u Q I rx ry h hs;obtain⟨z,i,c,rfl,rfl,hz,he,q⟩:=h;obtain⟨t,rfl⟩:=rx;obtain⟨t',rfl⟩:=ry;obtain⟨j,h1,h2,h3,h4,h5⟩:=Ju he;have hl:z.cps.toList.length=z.length:=by simp [Str.length]
 rw [hl] at h1 h4 h5;have hn:=J3;exact tail_any (typeIs_str s z t) slot_str_getitem.lookup (getItem_str (c:=c) (by have e1:decide (i < -(2 ^ 63:Int))=false:=decide_eq_false (by omega);have e2:decide (i≥2 ^ 63)=false:=decide_eq_false (by omega);rw [e1,e2,Bool.or_false]) (by rw [h1];simpa using h2) ⟨.str ⟨#[c]⟩,H,I.tok _,⟨_,rfl⟩,q⟩) hs
noncomputable def rIx (K:Fr):R2:=λx y H Q=>YJ K x y H Q∨Ze K x y H Q∨ZM x y H Q
theorem Oi:SJ X (rIx X.K):=bw.or (cT.or Fb)
theorem JL (lo hi:Option Int) (n:Nat):(sliceBounds lo hi none n).1=((HT.Ni n 0 lo:Nat):Int)/\(sliceBounds lo hi none n).2.1=((HT.Ni n n hi:Nat):Int)/\(sliceBounds lo hi none n).2.2=1:=by
 refine⟨?_,?_,Y⟩
 ·cases lo with
  | none=>simp [sliceBounds,HT.Ni]
  | some i=>
   simp only [sliceBounds,HT.Ni,Option.getD_none,show(1:Int) >0 by decide,if_true];by_cases h:i <0
   ·simp only [h,if_true] <;> omega
   ·simp only [h,if_false] <;> omega
 ·cases hi with
  | none=>simp [sliceBounds,HT.Ni]
  | some i=>
   simp only [sliceBounds,HT.Ni,Option.getD_none,show(1:Int) >0 by decide,if_true];by_cases h:i <0
   ·simp only [h,if_true] <;> omega
   ·simp only [h,if_false] <;> omega
theorem Hh (its:List Value) (lo hi:Option Int):slicePick its.toArray lo hi none=((its.drop (HT.Ni its.length 0 lo)).take (HT.Ni its.length its.length hi - HT.Ni its.length 0 lo)).toArray:=by obtain⟨h1,h2,h3⟩:=JL lo hi its.toArray.size;unfold slicePick;rw [h1,h2,h3];simp only [sliceRange_one,pick_run,size_toArray] <;> rfl
inductive Ys (K:Fr) (x:V) (lo:Option Int) (hi:Option Int) (H:Hp) (Q:VK):Prop where
 | mk:∀a xs,x=.ref a->bJ K H a xs->(∀p,H p=none->Q (.ref p) (upd H p (.lst (wk xs lo hi))))->Ys K x lo hi H Q
noncomputable def aa1 (K:Fr):V->Option Int->Option Int->Hp->VK->Prop:=λx lo hi H Q=>Ys K x lo hi H Q
theorem mH:SlR X (aa1 X.K):=by intro pins s σ H x v vl vu lo hi sl Q I rx hs pl pu h;obtain⟨a,xs,rfl,hx,q⟩:=h;cases rx;obtain⟨its,r,ht,hz⟩:=I.list hx;have hlen:=r.length;refine⟨"list",_,slot_list_getitem.lookup,ht.isList.typeIs,?_⟩;refine wpAny_getItem_list_slice ht.isList hs pl pu .none (by simp) ?_ (by rw [size_toArray] <;> omega);rw [Hh,<-hlen];refine⟨.ref s.heap.objs.size,_,I.laid (t':=s.toks) (o:=.lst (wk xs lo hi)) (λb ob q=>Heap.get?_push_of_some _ q) (le_refl _) ?_,Y,q _ (I.hok.fresh (le_refl _))⟩;exact⟨le_trans (Ly xs lo hi) hz,_,0,(r.drop (HT.Ni xs.length 0 lo)).take (HT.Ni xs.length xs.length hi - HT.Ni xs.length 0 lo),Heap.get?_push_size _ Y⟩
noncomputable def o9:V->Bool
 | .non=>true
 | .bl _=>true
 | .int _=>true
 | .str _=>true
 | _=>false
noncomputable def Nz:V->V->Bool
 | .non,.non=>true
 | .bl a,.bl b=>a == b
 | .bl a,.int b=>(if a then 1 else 0) == b
 | .int a,.bl b=>a == (if b then 1 else 0)
 | .int a,.int b=>a == b
 | .str a,.str b=>a == b
 | _,_=>false
theorem Y9 {A:Around} {s:Shared} {y x:V} {u v:Value} (ry:RelV y u) (rx:RelV x v) (fy:o9 y=true) (fx:o9 x=true):SeqAt.EqAt A s u v (Nz y x):=by
 cases y with
 | non=>
  cases ry;cases x with
  | non=>cases rx;exact SeqAt.EqAt.same _
  | bl b=>cases rx;exact SeqAt.EqAt.none_bool b
  | int b=>obtain⟨t,rfl⟩:=rx;exact SeqAt.EqAt.none_int b t
  | str b=>obtain⟨t,rfl⟩:=rx;exact SeqAt.EqAt.none_str b t
  | _=>exact absurd (show false=true from fx) Bool.false_ne_true
 | bl a=>
  cases ry;cases x with
  | non=>cases rx;exact SeqAt.EqAt.bool_none a
  | bl b=>cases rx;exact SeqAt.EqAt.bool_bool a b
  | int b=>obtain⟨t,rfl⟩:=rx;exact SeqAt.EqAt.bool_int a b t
  | str b=>obtain⟨t,rfl⟩:=rx;exact SeqAt.EqAt.bool_str a b t
  | _=>exact absurd (show false=true from fx) Bool.false_ne_true
 | int a=>
  obtain⟨t',rfl⟩:=ry;cases x with
  | non=>cases rx;exact SeqAt.EqAt.int_none a t'
  | bl b=>cases rx;exact SeqAt.EqAt.int_bool a t' b
  | int b=>obtain⟨t,rfl⟩:=rx;exact SeqAt.EqAt.int_int a t' b t
  | str b=>obtain⟨t,rfl⟩:=rx;exact SeqAt.EqAt.int_str a t' b t
  | _=>exact absurd (show false=true from fx) Bool.false_ne_true
 | str a=>
  obtain⟨t',rfl⟩:=ry;cases x with
  | non=>cases rx;exact SeqAt.EqAt.str_none a t'
  | bl b=>cases rx;exact SeqAt.EqAt.str_bool a t' b
  | int b=>obtain⟨t,rfl⟩:=rx;exact SeqAt.EqAt.str_int a t' b t
  | str b=>obtain⟨t,rfl⟩:=rx;exact SeqAt.EqAt.str_str a t' b t
  | _=>exact absurd (show false=true from fx) Bool.false_ne_true
 | _=>exact absurd (show false=true from fy) Bool.false_ne_true
noncomputable def Pz (x:V) (u:Value):Bool:=match u with
 | .none=>Nz .non x
 | .bool b=>Nz (.bl b) x
 | .int i _=>Nz (.int i) x
 | .str z _=>Nz (.str z) x
 | _=>false
theorem VM {x y:V} {u:Value} (r:RelV y u) (f:o9 y=true):Pz x u=Nz y x:=by
 cases y with
 | non=>cases r;rfl
 | bl b=>cases r;rfl
 | int i=>obtain⟨t,rfl⟩:=r;rfl
 | str z=>obtain⟨t,rfl⟩:=r;rfl
 | _=>exact absurd (show false=true from f) Bool.false_ne_true
theorem Al {x:V}:∀{xs:List V} {us:List Value},Vals xs us->xs.all o9=true->us.any (Pz x)=xs.any λy=>Nz y x
 | _,_,.nil,_=>rfl
 | y:: xs,u:: us,.cons r t,f=>by rw [List.all_cons,and_eq_true] at f;rw [any_cons,any_cons,VM r f.1,Al t f.2]
theorem vA {A:Around} {s:Shared} {x:V} {v:Value} (rx:RelV x v) (fx:o9 x=true):∀{xs:List V} {us:List Value},Vals xs us->xs.all o9=true->∀u∈us,SeqAt.EqAt A s u v (Pz x u)
 | _,_,.nil,_=>λu hu=>by cases hu
 | y:: xs,u:: us,.cons r t,f=>λu' hu=>by
  rw [List.all_cons,and_eq_true] at f;rcases mem_cons.mp hu with rfl | hu
  ·rw [VM r f.1];exact Y9 r rx f.1 fx
  ·exact vA rx fx t f.2 u' hu
noncomputable def inV (x:V) (xs:List V):Bool:=xs.any λy=>Nz y x
inductive aag (K:Fr) (neg:Bool) (x:V) (y:V) (H:Hp) (Q:VK):Prop where
 | mk:∀p xs,y=.ref p->((bJ K H p xs∨fZ K H p xs))->o9 x=true->xs.all o9=true->(Q (.bl (if neg then !inV x xs else inV x xs)) H)->aag K neg x y H Q
noncomputable def XM (K:Fr) (neg:Bool):R2:=λx y H Q=>aag K neg x y H Q
theorem Bc:vz X (compareOp .In) (XM X.K false):=by
 intro pins s σ H x y v u Q I rx ry h;obtain⟨p,xs,rfl,hq,fx,fs,q⟩:=h;cases ry;rcases hq with hq | hq
 ·obtain⟨its,r,pl,hz⟩:=I.list hq;refine SeqAt.in_listAt (Pz x) pl.isList (λw hw=>vA rx fx r fs w (by simpa using hw)) ⟨.bl _,H,I,Y,?_⟩;rw [show its.toArray.any (Pz x)=its.any (Pz x) by simp,Al r fs];exact q
 ·obtain⟨its,r,pl,hz⟩:=I.tuple hq;refine SeqAt.in_tupleAt (Pz x) pl (λw hw=>vA rx fx r fs w (by simpa using hw)) ⟨.bl _,H,I,Y,?_⟩;rw [show its.toArray.any (Pz x)=its.any (Pz x) by simp,Al r fs];exact q
theorem jU:vz X (compareOp .NotIn) (XM X.K true):=by
 intro pins s σ H x y v u Q I rx ry h;obtain⟨p,xs,rfl,hq,fx,fs,q⟩:=h;cases ry;rcases hq with hq | hq
 ·obtain⟨its,r,pl,hz⟩:=I.list hq;refine SeqAt.notIn_listAt (Pz x) pl.isList (λw hw=>vA rx fx r fs w (by simpa using hw)) ⟨.bl _,H,I,Y,?_⟩;rw [show its.toArray.any (Pz x)=its.any (Pz x) by simp,Al r fs];exact q
 ·obtain⟨its,r,pl,hz⟩:=I.tuple hq;refine SeqAt.notIn_tupleAt (Pz x) pl (λw hw=>vA rx fx r fs w (by simpa using hw)) ⟨.bl _,H,I,Y,?_⟩;rw [show its.toArray.any (Pz x)=its.any (Pz x) by simp,Al r fs];exact q
theorem Aq:pq X (.type "list") (λxs H Q=>∃p ys,xs=[.ref p]/\(bJ X.K H p ys∨fZ X.K H p ys)/\∀l,H l=none->Q (.ref l) (upd H l (.lst ys))):=by
 intro pins s σ H xs us Q I r h;obtain⟨p,ys,rfl,hq,q⟩:=h;obtain⟨u,rfl,rx⟩:=vals1 r;cases rx;have fin:∀(its:List Value),Vals ys its->ys.length<=sizeLine->∀(h':Heap) (c':Nat),(∀b o',s.heap.get? b=some o'->h'.get? b=some o')->
   h'.get? s.heap.objs.size=some { cls:=.type "list",dict:=none,data:=.seq its.toArray c',slots:=#[] }->EP X pins σ Q (.ref s.heap.objs.size) { s with heap:=h' }:=λits r' hz h' c' kp e=>
  ⟨.ref s.heap.objs.size,_,I.laid (t':=s.toks) kp (le_refl _) (show ig X.prog X.w _ h' _ (.lst ys) from⟨hz,its,c',r',e⟩),rfl,q _ (I.hok.fresh (le_refl _))⟩
 rcases hq with hq | hq
 ·obtain⟨its,r',pl,hz⟩:=I.list hq;have hlen:=r'.length;obtain⟨o,ho,hc,n,hd⟩:=pl.isList;exact call_list_seq p (.inl rfl) ho hc hd (λh' c' kp e=>fin its r' hz h' c' kp e) (by simp only [size_toArray] <;> omega)
 ·obtain⟨its,r',pl,hz⟩:=I.tuple hq;have hlen:=r'.length;obtain⟨o,ho,hc,n,hd⟩:=pl;exact call_list_seq p (.inr rfl) ho hc hd (λh' c' kp e=>fin its r' hz h' c' kp e) (by simp only [size_toArray] <;> omega)
theorem Hs:pq X (.type "tuple") (λxs H Q=>∃p ys,xs=[.ref p]/\((bJ X.K H p ys/\∀l,H l=none->Q (.ref l) (upd H l (.tup ys)))∨(fZ X.K H p ys/\Q (.ref p) H))):=by
 intro pins s σ H xs us Q I r h;obtain⟨p,ys,rfl,h⟩:=h;obtain⟨u,rfl,rx⟩:=vals1 r;cases rx;rcases h with ⟨hq,q⟩ | ⟨hq,q⟩
 ·obtain⟨its,r',pl,hz⟩:=I.list hq;have hlen:=r'.length;refine call_tuple_list pl.isList (λh' kp=>?_) (by simp only [size_toArray] <;> omega);have I1:Inv X pins σ H { s with heap:=h' }:=I.kept (t':=s.toks) kp;have I2:Inv X pins σ (upd H h'.objs.size (.tup ys)) { s with heap:=h'.push { cls:=.type "tuple",data:=.seq its.toArray } }:=
   I1.laid (t':=s.toks) (λb o e=>Heap.get?_push_of_some _ e) (le_refl _) (show ig X.prog X.w _ _ _ (.tup ys) from⟨hz,its,r',IsTup.new _ _⟩)
  exact⟨.ref h'.objs.size,_,I2,Y,q _ (I1.hok.fresh (le_refl _))⟩
 ·obtain⟨its,r',pl,hz⟩:=I.tuple hq;exact call_tuple_same pl ⟨.ref p,H,I,Y,q⟩
noncomputable def tyV (K:Fr) (T:String) (x:V) (H:Hp):Prop:=match x with
 | .str _=>T= "str"
 | .int _=>T= "int"
 | .ref p=>(T= "list" /\∃xs,bJ K H p xs)∨(T= "tuple" /\∃o,K.lookup p=some o/\o.cls=.type "tuple" /\o.dict=none)∨
   (T= "dict" /\((∃kvs,H p=some (.dK kvs))∨∃kvs,H p=some (.dT kvs)))∨(T= "set" /\∃S n,H p=some (.set S n))
 | _=>False
theorem U4 {pins:List (Addr×Obj)} {σ:St} {H:Hp} {s:Shared} {T:String} {x:V} {v:Value} (I:Inv X pins σ H s) (r:RelV x v) (ty:tyV X.K T x H):
  s.TypeIs v T/\∀a,v=.ref a->∃ob,s.heap.get? a=some ob/\ob.dict=none:=by
 cases x with
 | str z=>
  obtain⟨t,rfl⟩:=r;cases (show T= "str" from ty);exact⟨typeIs_str s z t,λ_ e=>nomatch e⟩
 | int i=>
  obtain⟨t,rfl⟩:=r;cases (show T= "int" from ty);exact⟨typeIs_int s i t,λ_ e=>nomatch e⟩
 | ref p=>
  cases r;rcases ty with ⟨rfl,xs,hq⟩ | ⟨rfl,o,hk,hc,hd⟩ | ⟨rfl,hk⟩ | ⟨rfl,S,n,hk⟩
  ·obtain⟨its,_,pl,_⟩:=I.list hq;refine⟨pl.isList.typeIs,λa e=>?_⟩;cases e;obtain⟨o,n,e,c,hd,_⟩:=pl;exact⟨o,e,hd⟩
  ·refine⟨⟨o,I.kIn p o hk,hc⟩,λa e=>?_⟩;cases e;exact⟨o,I.kIn _ o hk,hd⟩
  ·have z:∃o,s.heap.get? p=some o/\o.ExactDict:=by
    rcases hk with ⟨kvs,hk⟩ | ⟨kvs,hk⟩
    ·obtain⟨_,_,_,_,o,_,_,e,ex,_⟩:=I.hok p _ hk;exact⟨o,e,ex⟩
    ·obtain⟨_,_,_,_,o,_,_,e,ex,_⟩:=I.hok p _ hk;exact⟨o,e,ex⟩
   obtain⟨o,e,ex⟩:=z;refine⟨⟨o,e,ex.1⟩,λa e2=>?_⟩;cases e2;exact⟨o,e,ex.2.1⟩
  ·obtain⟨o,_,_,_,e,ex,_⟩:=I.hok p _ hk;refine⟨⟨o,e,ex.1⟩,λa e2=>?_⟩;cases e2;exact⟨o,e,ex.2.1⟩
 | _=>exact False.elim ty
noncomputable def aa5 (K:Fr) (T:String) (r:V->List V->Hp->VK->Prop) (to:TE):TE:=λσ H Q=>to σ H λx H1=>tyV K T x H1/\r x [] H1 Q
noncomputable def tBM (K:Fr) (T:String) (r:V->List V->Hp->VK->Prop) (to:TE) (t:TA):TE:=λσ H Q=>to σ H λx H1=>tyV K T x H1/\t σ H1 λxs H2=>r x xs H2 Q
variable {o e:Expr} {es:List Expr} {to:TE} {t:TA} {name:Str} {apos cpos:Pos} {T id:String} {r:V->List V->Hp->VK->Prop}
theorem Ob (pa:PlainAttrs T) (slot:Slot T name id) (hty:typeOf (.builtin id)=pure (.type "method_descriptor")) (hm:MtR X id r) (ho:PE X o to)
  (hbase:attributeBase o name X.env (eval o X.env)=eval o X.env:=by rfl) (hline:(apos.endLine == cpos.line)=true:=by rfl):PE X (.Call (.Attribute o name apos) [] [] cpos) (aa5 X.K T r to):=by
 intro pins s σ H Q I h;refine wpAny_Call_method0_late hbase hline (eO (ho pins s σ H _ I h) λv s1 hpt=>?_);obtain⟨x,H1,I1,r1,ty,q1⟩:=hpt;obtain⟨h1,h2⟩:=U4 I1 r1 ty;exact⟨T,id,pa,slot,hty,h1,h2,Calls.callWith_builtin Y (PySem.evalArgs_none (hm pins s1 σ H1 x [] v [] Q I1 r1 .nil q1))⟩
theorem Aw (pa:PlainAttrs T) (slot:Slot T name id) (hty:typeOf (.builtin id)=pure (.type "method_descriptor")) (hm:MtR X id r) (ho:PE X o to) (ha:PA X (e:: es) t)
  (hbase:attributeBase o name X.env (eval o X.env)=eval o X.env:=by rfl)
  (hfew:((backTo cpos (starEach (e:: es) X.env)).all (λx=>!x.1) && (backToKw cpos (keywordEach [] X.env)).all (λx=>x.1.isSome)
   && decide ((e:: es).length+([]:List Keyword).length+(if ([]:List Keyword).isEmpty then 0 else 1) <30))=true:=by rfl)
  (hline:(apos.endLine == cpos.line)=true:=by rfl) (hs:starEach (e:: es) X.env=(false,eval e X.env):: starEach es X.env:=by rfl) (hplain:(backTo cpos (starEach es X.env)).any (·.1)=false:=by rfl):
  PE X (.Call (.Attribute o name apos) (e:: es) [] cpos) (tBM X.K T r to t):=by
 intro pins s σ H Q I h;refine wpAny_Call_method_late hbase hfew hline Y (eO (ho pins s σ H _ I h) λv s1 hpt=>?_);obtain⟨x,H1,I1,r1,ty,q1⟩:=hpt;obtain⟨h1,h2⟩:=U4 I1 r1 ty;refine⟨T,id,pa,slot,hty,h1,h2,?_⟩;have hA:=ha cpos pins s1 σ H1 _ I1 q1;rw [hs] at hA ⊢;refine Calls.callWith_builtin (by show(false || (backTo cpos (starEach es X.env)).any (·.1))=false;rw [hplain] <;> rfl) (Calls.evalArgs_plain ?_);exact eO hA λus s2 ⟨vs,H2,I2,r2,q2⟩=>hm pins s2 σ H2 x vs v us Q I2 r1 r2 q2
end
noncomputable def MtM (X:Cx) (id:String) (r:V->List V->Hp->VK->Prop):Prop:=
 ∀(pins:List (Addr×Obj)) (s:Shared) (σ:St) (H:Hp) (x:V) (xs:List V) (v:Value) (us:List Value) (Q:VK),Inv X pins σ H s->RelV x v->Vals xs us->r x xs H Q->
  wpAny (model X.prog X.w) X.A (call (.builtin id) (v:: us)) (EP X pins σ Q) X.xe s
theorem Vals.one:∀{x:V} {us:List Value},Vals [x] us->∃u,us=[u]/\RelV x u
 | _,_,.cons r .nil=>⟨_,rfl,r⟩
theorem Vals.zero:∀{us:List Value},Vals [] us->us=[]
 | _,.nil=>rfl
theorem Vals.dropLast {xs:List V} {us:List Value} (h:Vals xs us):Vals xs.dropLast us.dropLast:=by
 induction h with
 | nil=>exact .nil
 | cons r t ih=>
  cases t with
  | nil=>exact .nil
  | cons q t'=>exact .cons r ih
theorem Vals.eraseIdx:∀{xs:List V} {us:List Value} (i:Nat),Vals xs us->Vals (xs.eraseIdx i) (us.eraseIdx i)
 | _,_,_,.nil=>.nil
 | _,_,0,.cons _ t=>t
 | _,_,i+1,.cons r t=>.cons r (Vals.eraseIdx i t)
theorem Pg {α:Type} (l:List α):l.eraseIdx (l.length - 1)=l.dropLast:=by
 induction l with
 | nil=>rfl
 | cons a r ih=>
  cases r with
  | nil=>rfl
  | cons b r=>
   have e:(a:: b:: r).length - 1=((b:: r).length - 1)+1:=by have h1:(a:: b:: r).length=r.length+2:=rfl;have h2:(b:: r).length=r.length+1:=rfl;omega
   rw [e,List.eraseIdx_cons_succ,ih];all_goals rfl
theorem Ji {α:Type}:∀(l:List α) (i:Nat),(l.eraseIdx i).length<=l.length
 | [],_=>le_refl _
 | _:: _,0=>le_succ _
 | _:: r,i+1=>Nat.succ_le_succ (Ji r i)
section
variable {X:Cx} {pins:List (Addr×Obj)} {σ:St} {H:Hp} {s:Shared} {l b:Addr} {xs ys zs:List V}
theorem Inv.lset {its its':List Value} {n:Nat} {f:Array Value->Array Value} {t':Nat} (I:Inv X pins σ H s) (hH:H l=some (.lst xs))
  (e:s.heap.get? l=some { cls:=.type "list",data:=.seq its.toArray n }) (hf:f its.toArray=its'.toArray) (hv:Vals ys its') (hz:ys.length<=sizeLine):
  Inv X pins σ (upd H l (.lst ys)) { s with heap:=s.heap.update l (Obj.mapSeq f),toks:=t' }:=by
 have q:=PySem.IsL.update e f;rw [hf] at q;refine I.write (x:=l) (e:=l) (by rw [hH];exact trivial) (.inl rfl) (λb' u hb hu=>(Heap.get?_update_other s.heap (Obj.mapSeq f) (Ne.symm hb)).trans hu) ⟨_,q⟩ ?_;exact⟨hz,its',_,hv,q⟩
theorem Inv.lnew {its:List Value} {t':Nat} (I:Inv X pins σ H s) (hv:Vals ys its) (hz:ys.length<=sizeLine):
  Inv X pins σ (upd H s.heap.objs.size (.lst ys)) { s with heap:=s.heap.push { cls:=.type "list",data:=.seq its.toArray },toks:=t' }:=
 I.laid (λ_ _ q=>Heap.get?_push_of_some _ q) (le_refl _) ⟨hz,its,0,hv,Heap.get?_push_size _ rfl⟩
theorem Inv.fresh (I:Inv X pins σ H s):H s.heap.objs.size=none:=I.hok.fresh (le_refl _)
theorem Inv.lstM (I:Inv X pins σ H s) (hH:H l=some (.lst xs)):xs.length<=sizeLine/\∃(its:List Value) (n:Nat),Vals xs its/\xs.length=its.length/\s.heap.get? l=some { cls:=.type "list",data:=.seq its.toArray n }:=by obtain⟨z,its,n,r,e⟩:=I.hok l _ hH;exact⟨z,its,n,r,r.length,e⟩
theorem Uc {n:Nat} (h:n<=sizeLine):Builtin.List.listTooLong n=false:=by unfold Builtin.List.listTooLong;exact decide_eq_false (by omega)
end
section
variable {X:Cx}
inductive Nh (x:V) (vs:List V) (H:Hp) (Q:VK):Prop where
 | mk:∀l xs y,x=.ref l->vs=[y]->H l=some (.lst xs)->xs.length <sizeLine->Q .non (upd H l (.lst (xs ++ [y])))->Nh x vs H Q
noncomputable def QX:V->List V->Hp->VK->Prop:=λx vs H Q=>Nh x vs H Q
theorem RG:MtM X "list.append" QX:=by intro pins s σ H x vs v us Q I rx rv h;obtain⟨l,xs,y,rfl,rfl,hH,hz,q⟩:=h;cases rx;obtain⟨u,rfl,ru⟩:=rv.one;obtain⟨z,its,n,r,hl,e⟩:=I.lstM hH;refine call_meets F.slot_list_append ⟨_,e,Y⟩ F.entry_list_append (F.args_list_append_2 _ _) (PySem.list_append l its.toArray n u (by rw [size_toArray];omega)) ⟨e,?_⟩;refine⟨.non,_,I.lset (its':=its ++ [u]) hH e (by simp) (r.append (.cons ru .nil)) ?_,Y,q⟩;rw [length_append,length_singleton];omega
inductive MT (x:V) (vs:List V) (H:Hp) (Q:VK):Prop where
 | mk:∀l b xs zs,x=.ref l->vs=[.ref b]->H l=some (.lst xs)->H b=some (.lst zs)->xs.length+zs.length<=sizeLine->Q .non (upd H l (.lst (xs ++ zs)))->MT x vs H Q
noncomputable def Xp:V->List V->Hp->VK->Prop:=λx vs H Q=>MT x vs H Q
theorem Ij:MtM X "list.extend" Xp:=by
 intro pins s σ H x vs v us Q I rx rv h;obtain⟨l,b,xs,zs,rfl,rfl,hH,hB,hz,q⟩:=h;cases rx;obtain⟨u,rfl,ru⟩:=rv.one;cases ru;obtain⟨z,its,n,r,hl,e⟩:=I.lstM hH;obtain⟨z2,its2,n2,r2,hl2,e2⟩:=I.lstM hB;have hsz:its.toArray.size+its2.toArray.size<=sizeLine:=by rw [size_toArray,size_toArray];omega
 have hlong:¬(!its.toArray.isEmpty && Builtin.List.listTooLong (its.toArray.size+its2.toArray.size))=true:=by rw [Uc hsz,Bool.and_false];exact Bool.false_ne_true
 refine call_meets F.slot_list_extend ⟨_,e,Y⟩ F.entry_list_extend (F.args_list_extend_2 _ _)
  (AutoSeq1.list_extend_list_list_0 l its.toArray n b its2.toArray n2 hlong (by rw [size_toArray];omega) (by omega)) ⟨e,e2,?_⟩
 refine⟨.non,_,I.lset (its':=its ++ its2) hH e (by simp) (r.append r2) ?_,Y,q⟩;rw [length_append];omega
inductive Xx (x:V) (vs:List V) (H:Hp) (Q:VK):Prop where
 | mk:∀l xs y,x=.ref l->vs=[]->H l=some (.lst xs)->xs[xs.length - 1]?=some y->Q y (upd H l (.lst xs.dropLast))->Xx x vs H Q
noncomputable def abf:V->List V->Hp->VK->Prop:=λx vs H Q=>Xx x vs H Q
theorem Od:MtM X "list.pop" abf:=by
 intro pins s σ H x vs v us Q I rx rv h;obtain⟨l,xs,y,rfl,rfl,hH,hy,q⟩:=h;cases rx;have hus:=rv.zero;subst hus;obtain⟨z,its,n,r,hl,e⟩:=I.lstM hH;obtain⟨u,hu,ru⟩:=r.get hy;have hy':its.toArray[its.toArray.size - 1]?=some u:=by show its.toArray[its.length - 1]?=some u;rw [<-Array.getElem?_toList,<-hl];exact hu
 refine call_meets F.slot_list_pop ⟨_,e,Y⟩ F.entry_list_pop (F.args_list_pop_1 _) (MeetsSeq.list_pop_last l its.toArray n u hy' (by rw [size_toArray];omega)) ⟨e,?_⟩;refine⟨y,_,I.lset (its':=its.dropLast) hH e ?_ r.dropLast ?_,ru,q⟩
 ·show its.toArray.eraseIdxIfInBounds (its.toArray.size - 1)=its.dropLast.toArray;rw [size_toArray,List.eraseIdxIfInBounds_toArray,Pg]
 ·rw [List.length_dropLast];omega
inductive QF (x:V) (vs:List V) (H:Hp) (Q:VK):Prop where
 | mk:∀l xs i k y,x=.ref l->vs=[.int i]->H l=some (.lst xs)-> -(2 ^ 63)<=i->i <2 ^ 63->seqIndex? i xs.length=some k->xs[k]?=some y->Q y (upd H l (.lst (xs.eraseIdx k)))->QF x vs H Q
noncomputable def Zr:V->List V->Hp->VK->Prop:=λx vs H Q=>QF x vs H Q
theorem Fi:MtM X "list.pop" Zr:=by
 intro pins s σ H x vs v us Q I rx rv h;obtain⟨l,xs,i,k,y,rfl,rfl,hH,h1,h2,hk,hy,q⟩:=h;cases rx;obtain⟨u,rfl,ru⟩:=rv.one;obtain⟨t,rfl⟩:=ru;obtain⟨z,its,n,r,hl,e⟩:=I.lstM hH;obtain⟨w,hw,rw'⟩:=r.get hy;refine call_meets F.slot_list_pop ⟨_,e,Y⟩ F.entry_list_pop (F.args_list_pop_2 _ _)
  (MeetsSeq.list_pop_at l its.toArray n i t k w (fitsIndex_both h1 h2) (by rw [size_toArray,<-hl];exact hk) (by rw [<-Array.getElem?_toList];exact hw) (by rw [size_toArray];omega)) ⟨e,?_⟩
 refine⟨y,_,I.lset (its':=its.eraseIdx k) hH e ?_ (r.eraseIdx k) ?_,rw',q⟩
 ·show its.toArray.eraseIdxIfInBounds k=(its.eraseIdx k).toArray;rw [List.eraseIdxIfInBounds_toArray]
 ·have:=Ji xs k;omega
inductive XR (x:V) (y:V) (H:Hp) (Q:VK):Prop where
 | mk:∀l b xs zs,x=.ref l->y=.ref b->H l=some (.lst xs)->H b=some (.lst zs)->xs.length+zs.length<=sizeLine->(∀p,H p=none->Q (.ref p) (upd H p (.lst (xs ++ zs))))->XR x y H Q
noncomputable def abr:R2:=λx y H Q=>XR x y H Q
theorem Gb:vz X (binaryOp .Add) abr:=by
 intro pins s σ H x y v u Q I rx ry h;obtain⟨l,b,xs,zs,rfl,rfl,hH,hB,hz,q⟩:=h;cases rx;cases ry;obtain⟨z,its,n,r,hl,e⟩:=I.lstM hH;obtain⟨z2,its2,n2,r2,hl2,e2⟩:=I.lstM hB;refine PySem.P.add_list e e2 ?_ (by rw [size_toArray,size_toArray];omega);have ea:its.toArray ++ its2.toArray=(its ++ its2).toArray:=by simp
 rw [ea];exact⟨.ref _,_,I.lnew (t':=s.toks) (r.append r2) (by rw [length_append];omega),rfl,q _ I.fresh⟩
end
section
variable {prog:Program} {w:World} {A:Around} {E:Value->Shared->Prop} {s:Shared}
end
section
variable {X:Cx}
end
end L2
namespace Att
open PySem PySem.W PySem.Calls PyProof.Rows
theorem Dv {P:Params} {h:Heap}:∀(ns:List Int) (vs:List Value),WellAll P h vs (ns.map WData.int)->IntsAre vs ns:=by
 intro ns;induction ns with
 | nil=>
  intro vs w;rw [map_nil] at w;cases w;exact .nil
 | cons n ns ih=>
  intro vs w;rw [map_cons] at w;cases w with
  | cons a b=>
   cases a;exact .cons _ _ (ih _ b)
theorem Sq {l:OpenLaw} {n:Nat} (hn:l.most=some n) {P:Params} {h:Heap} {args:List WData} {vals:List Value}
  (hpre:l.row.toRowW.claim.pre args=true) (hwl:WellAll P h vals args):
  ∃a vs ns,vals=[Value.ref a]/\args=[WData.list (ns.map WData.int)]/\h.get? a=some { cls:=.type "list",data:=.seq vs.toArray }/\IntsAre vs ns/\ns.length<=n:=by
 have hsh:WShape.hasAll [] args [.list .int]=true:=(pre_splitW hpre).1;have hc:l.pre.holds [] { args:=args }=true:=(pre_splitW hpre).2;obtain⟨d,r,rfl,h1,h2⟩:=hasAllW_cons hsh;obtain rfl:=hasAllW_nil h2;obtain⟨xs,rfl,h3⟩:=hasW_list h1;obtain⟨ns,rfl⟩:=items_int h3;have hlen:ns.length<=n:=by
  unfold OpenLaw.pre at hc;have h4:(WTm.not (.lt (.lit (.int (n:Int))) (.len (.arg 0)))).holds [] { args:=[.list (ns.map .int)] }=true:=by have h4:=(holds_andW hc).1;rw [hn] at h4;exact h4
  have h5:=condW_of h4 (w_not (w_lt w_lit (w_len_list (w_arg rfl))));rw [length_map] at h5;refine Nat.le_of_not_lt λq=>?_;have q':(n:Int) <((ns.length:Nat):Int):=by omega
  first
   | (rw [decide_eq_true q'] at h5;exact absurd h5 (by decide))
   | (simp at h5;omega)
 cases hwl with
 | cons w1 w2=>
  cases w2;cases w1 with
  | list ho hall=>exact⟨_,_,ns,rfl,rfl,ho,Dv ns _ hall,hlen⟩
theorem Rt (l:OpenLaw) (args:List WData):l.row.toRowW.claim.post args (.bool true) args=true:=
 postW_of (r:=l.row.toRowW) (X:=(true == true))
  (show WShape.has [] (.bool true) .bool=true by first | rfl | decide | simp [WShape.has,WShape.arms,WShape.armsAll])
  (show(WTm.eq .res (.lit (.bool true))).value [] { args:=args,res:=some (.bool true),after:=args }=some (.bool (true == true)) from w_eq_bool (w_res rfl) w_lit) rfl
theorem M8 {l:OpenLaw} {n:Nat} {q:Program} {loose:List Str} {XP:(Str->Option Value)->Heap->Prop} {YP:World->Heap->Prop} {d:DefRec}
  (hn:l.most=some n) (hdf:d.params.defaults=[])
  (call:∀(w:World) (s₀ s₁:Shared) (mg mb:Str->Option Value) (fa:Addr) (o:Obj) (pm cd doc:Value) (a:Addr) (vs:List Value) (ns:List Int),
   Ground q loose [] XP w s₀ mg mb s₁.heap->YP w s₁.heap->
   s₁.heap.get? fa=some o->o.data=.func (docDef d.name d.params d.body d.scope pm cd doc)->s₁.heap.CodeRec cd d.name->mg d.name=some (.ref fa)->
   s₁.heap.get? a=some { cls:=.type "list",data:=.seq vs.toArray }->IntsAre vs ns->ns.length<=n->s₁.gens= #[]->
   codeAny (model l.prog w) callerA (.call (.ref fa) ⟨[.ref a],[]⟩) (λr s'=>r=.ok (.ret (.bool true))/\OldK s₁.heap s'.heap/\s'.os=s₁.os/\AllBare s'.gens) s₁):
  WalkO q loose XP YP l.row.toRowW d [] (λf vs=>PySem.call f vs):=by
 intro w s₀ s₁ mg mb G Y1 fa o pm cd doc dV kV ho hd hcd hD hmg hg args vals as hpre hlay hrd hwl hlo;obtain rfl:dV=.none:=Dflts.none hD hdf;obtain rfl:kV=.none:=Dflts.noKw hD;obtain⟨a,vs,ns,rfl,rfl,hobj,hints,hlen⟩:=Sq hn hpre hwl;refine enter_call (codeAny_mono (call w s₀ s₁ mg mb fa o pm cd doc a vs ns G Y1 ho (fd_plain hd) hcd hmg hobj hints hlen hg) λr s' hq=>?_);obtain⟨rfl,h2,h3,h4⟩:=hq;exact⟨.inl ⟨.bool true,.bool true,[],Y,λ_=>Y,.bool true,Rt l _,λ_=>⟨List.Pairwise.nil,λ_ hm=>(nomatch hm)⟩⟩,h2,h3,h4⟩
section
variable {prog:Program} {w:World} {A:Around} {E:Value->Shared->Prop} {s:Shared} {K:Frag}
end
end Att
namespace L2
open PySem PySem.Spec PyProof.Rows
theorem IW:∀{vs:List Value} {ns:List Int},IntsAre vs ns->Vals (ns.map V.int) vs
 | _,_,.nil=>.nil
 | _,_,.cons n t h=>.cons ⟨t,rfl⟩ (IW h)
noncomputable def Only (H:Hp):Prop:=∀b,H b=none∨∃o xs,H b=some (.frz o (.lst xs))
theorem Tj {P:Program} {w:World} {K:Fr} {mg mb:Str->Option Value} {CX:Ik} {k:Nat} {fa a:Addr} {fd:FuncData} {x:Str} {sp:Sp} {s₁:Shared} {vs:List Value} {ns:List Int}
  (KX:K.In s₁.heap) (hns:s₁.heap.Ns mainGlobals mg) (hb:s₁.heap.Ns builtinsNs mb) (hbb:∀x:Str,x≠ "__name__" ->mb x=bootBuiltins x) (hlim:s₁.heap.NoLimit) (hg:s₁.gens= #[])
  (ha:s₁.heap.get? a=some { cls:=.type "list",data:=.seq vs.toArray }) (hi:IntsAre vs ns) (hl:ns.length<=sizeLine) (hr:jL k callerA)
  (F:∀base:Heap,K.In base->base.Ns mainGlobals mg->jG P w K mg base CX k fa fd [x] sp) (hbind:∀(s:Shared) (u:Value),BindsTo s fd ⟨[u],[]⟩ [(x,u)])
  (hsp:∀H:Hp,Only H->bJ K H a (ns.map V.int)->sp [.ref a] H (λv _=>v=.bl true) λ_ _ _=>False)
  (hCX:∀H e s',CX [] H s₁ (λ_ _ _=>False) e s'->False):
  codeAny (model P w) callerA (.call (.ref fa) ⟨[.ref a],[]⟩) (λr s'=>r=.ok (.ret (.bool true))/\OldK s₁.heap s'.heap/\s'.os=s₁.os/\AllBare s'.gens) s₁:=by
 have rv:=IW hi;have lenV:=hi.length;have core:∀H:Hp,Only H->bJ K H a (ns.map V.int)->xT P w H s₁.heap->(∀b,H b≠none->b=a)->(H a≠none->K.lookup a=none)->
   codeAny (model P w) callerA (.call (.ref fa) ⟨[.ref a],[]⟩) (λr s'=>r=.ok (.ret (.bool true))/\OldK s₁.heap s'.heap/\s'.os=s₁.os/\AllBare s'.gens) s₁:=by
  intro H hO hS hok hA hK;have base_of:∀{b:Addr} {o:Obj},s₁.heap.get? b=some o->H b=none->(Kz s₁.heap H).get? b=some o:=λe n=>Vg e n;have noA:∀{b:Addr} {o:Obj} {es:Array DictEntry} {ep:Nat},s₁.heap.get? b=some o->o.data=.dict es ep->H b=none:=λ{b o es ep} e d=>by
   cases q:H b with
   | none=>rfl
   | some u=>
    have e':b=a:=hA b (by rw [q];simp);subst e';rw [ha] at e;cases e;have d':Data.seq vs.toArray _=Data.dict es ep:=d;cases d'
  have SM:∀{b:Addr} {m:Str->Option Value},s₁.heap.Ns b m->(Kz s₁.heap H).Ns b m:=λ{b m} ⟨o,es,ep,e,d,r⟩=>⟨o,es,ep,base_of e (noA e d),d,r⟩;have hKb:K.In (Kz s₁.heap H):=λb o e=>base_of (KX b o e) (by
   cases q:H b with
   | none=>rfl
   | some u=>
    have e':b=a:=hA b (by rw [q];simp);subst e';rw [hK (by rw [q];simp)] at e;cases e)
  have hM:Mod K mg (Kz s₁.heap H):=⟨hKb,SM hns,⟨mb,SM hb,hbb⟩,let ⟨mc,h1,h2⟩:=hlim;⟨mc,SM h1,h2⟩⟩;have e0:Pa P w K mg (Kz s₁.heap H) callerA [] s₁ H:=⟨rfl,hM,λb o e=>WD e,Nat.le_of_eq (Sd _ _),trivial,λb hb=>absurd (show b∈([]:List Addr) from hb) (by simp),hok,.of_eq hg⟩;refine codeAny_mono ((F _ hKb (SM hns)).run callerA [] s₁ H ⟨[.ref a],[]⟩ [.ref a] [.ref a] _ _ hr e0 (hbind s₁ (.ref a)) (.cons Y .nil) (hsp H hO hS)) λr s' h=>?_;cases r with
  | error e=>exact(hCX H e s' h).elim
  | ok fl=>
   cases fl with
   | next=>exact False.elim h
   | brk=>exact False.elim h
   | cont=>exact False.elim h
   | ret u=>
    obtain⟨v,H',os,bare,un,hok',r',q⟩:=h;have q':v=.bl true:=q;subst q';obtain rfl:u=Value.bool true:=r';refine⟨Y,OldK.of_keep λb o e=>?_,os,bare⟩;cases q:H b with
    | none=>exact un.keep b o e q (by intro z;exact absurd (show b∈([]:List Addr) from z) (by simp)) (by simp)
    | some u=>
     rcases hO b with z | ⟨ob,xs,z⟩
     ·rw [q] at z;cases z
     ·have z2:=un.frzs b ob _ z;obtain⟨e1,_⟩:=hok b _ z;obtain⟨e2,_⟩:=hok' b _ z2;rw [e] at e1;cases e1;exact e2
 cases hk:K.lookup a with
 | some o=>
  have e:=KX a o hk;rw [ha] at e;cases e;refine core (λ_=>none) (λ_=>.inl rfl) (.inr ⟨_,vs.toArray,_,hk,rfl,rfl,rfl,by rw [size_toArray,lenV];exact hl,by simpa using rv⟩) (λb u z=>by have z':(none:Option HO)=some u:=z;cases z') (λb z=>absurd rfl z) λz=>absurd rfl z
 | none=>
  refine core (λb=>if b=a then some (.frz { cls:=.type "list",data:=.seq vs.toArray } (.lst (ns.map V.int))) else none) (λb=>?_) (.inl (.inr ⟨{ cls:=.type "list",data:=.seq vs.toArray },if_pos Y⟩)) (λb u z=>?_) (λb z=>?_) λ_=>hk
  ·by_cases hb:b=a
   ·exact .inr ⟨_,_,if_pos hb⟩
   ·exact .inl (if_neg hb)
  ·by_cases hb:b=a
   ·have z':=(if_pos hb).symm.trans z;cases z';subst hb;exact⟨ha,by rw [length_map];exact hl,vs,_,rv,ha⟩
   ·have z':=(if_neg hb).symm.trans z;cases z'
  ·by_cases hb:b=a
   ·exact hb
   ·exact absurd (if_neg hb) z
theorem Wf {l:PySem.W.OpenLaw} {n k:Nat} {q:Program} {loose:List Str} {XP:(Str->Option Value)->Heap->Prop} {YP:World->Heap->Prop} {d:DefRec} {K:Params->Fr} {CX:World->Ik} {sp:World->Sp} {x:Str}
  (hn:l.most=some n) (hn2:n<=sizeLine) (hdf:d.params.defaults=[]) (hr:jL k callerA)
  (hY:∀(w:World) (h:Heap),YP w h->(K w.params).In h)
  (F:∀(w:World) (mg:Str->Option Value) (fa:Addr) (h:Heap),(K w.params).In h->h.Ns mainGlobals mg->mg d.name=some (.ref fa)->
   ∃fd:FuncData,(∀(s:Shared) (u:Value),BindsTo s fd ⟨[u],[]⟩ [(x,u)])/\
    ∀base:Heap,(K w.params).In base->base.Ns mainGlobals mg->jG l.prog w (K w.params) mg base (CX w) k fa fd [x] (sp w))
  (hsp:∀(w:World) (H:Hp) (a:Addr) (ns:List Int),ns.length<=n->Only H->bJ (K w.params) H a (ns.map V.int)->sp w [.ref a] H (λv _=>v=.bl true) λ_ _ _=>False)
  (hCX:∀(w:World) (H:Hp) (s:Shared) (e:Value) (s':Shared),CX w [] H s (λ_ _ _=>False) e s'->False):
  PySem.W.WalkO q loose XP YP l.row.toRowW d [] (λf vs=>PySem.call f vs):=by
 refine Att.M8 hn hdf λw s₀ s₁ mg mb fa o pm cd doc a vs ns G Y1 ho hd hcd hmg hobj hints hlen hg=>?_;have KX:=hY w _ Y1;obtain⟨fd,hb,hF⟩:=F w mg fa _ KX G.T.g hmg;exact Tj KX G.T.g G.T.b G.T.builtins G.T.nolimit hg hobj hints (le_trans hlen hn2) hr hF hb (λH hO hS=>hsp w H a ns hlen hO hS) λH e s'=>hCX w H s₁ e s'
noncomputable def inClass (s:Stmt) (j:Nat):Stmt:=match s with
 | .ClassDef _ _ _ body _ _ _ _ _ _ _=>body.getD j (.Pass ⟨0,0,0,0⟩)
 | _=>.Pass ⟨0,0,0,0⟩
noncomputable def jV (s:Stmt):Arguments:=match s with
 | .FunctionDef _ a _ _ _ _ _ _ _ _=>a
 | _=>{ posonlyargs:=[],args:=[],vararg:=none,kwonlyargs:=[],kw_defaults:=[],kwarg:=none,defaults:=[] }
noncomputable def jf (s:Stmt):List Stmt:=match s with
 | .FunctionDef _ _ b _ _ _ _ _ _ _=>b
 | _=>[]
noncomputable def aZ (s:Stmt):Scope:=match s with
 | .FunctionDef _ _ _ _ _ _ sc _ _ _=>sc
 | _=>{ kind:=.function,names:=[],isGenerator:=false,isCoroutine:=false }
noncomputable abbrev BX:Ik:=λ_ _ _ _ _ _=>False
noncomputable abbrev E0:XK:=λ_ _ _=>False
theorem gh {X:Cx}:sI BX X E0:=λ_ _ _ _ _ _ _ h=>h.elim
structure Yu (K:Fr) (x qual:Str) (st:Stmt) (f:Addr) (fd:FuncData):Prop where
 ex:∃(oc:Value) (od:Option Addr) (kV doc pm:Value) (an:Option Addr) (cdv ct:Value) (osl:Array (Option Value)),
  fd=PySem.W.fnOf x qual (jV st) (jf st) (aZ st) .none kV doc pm an cdv ct/\K.lookup f=some ⟨oc,od,.func fd,osl⟩/\PySem.W.codeIn K cdv qual=true
 kp:PySem.W.keepIn K (.ref f)=true
section
variable {P:Program} {w:World} {K:Fr} {mg:Str->Option Value} {base:Heap}
theorem Yu.ok {x qual:Str} {st:Stmt} {f:Addr} {fd:FuncData} {N ps:List Str} {k:Nat} {sp:Sp} (F:Yu K x qual st f fd) (S:ir N ps (aZ st)) (len:∀vs H Q E,sp vs H Q E->vs.length=ps.length)
  (hbody:∀(cdv:Value) (A:Around) (outer:List Env) (s:Shared) (H:Hp) (vs:List V) (Q:VK) (E:XK),jL k (A.deeper (envOfC qual (aZ st) s.heap.objs.size f cdv))->sp vs H Q E->
   ∃t,QH (N6 BX P w K mg base N qual (aZ st) f cdv A outer s H E).nox (jf st) t/\t { nx:=λ_ H'=>Q .non H',rt:=Q } (start N vs) H):jG P w K mg base BX (k+1) f fd ps sp:=by
 obtain⟨oc,od,kV,doc,pm,an,cdv,ct,osl,rfl,lk,hcd⟩:=F.ex;refine XX lk hcd S len λA outer s H vs Q E hr hsp=>?_;obtain⟨t,h,q⟩:=hbody cdv A outer s H vs Q E hr hsp;exact⟨t,h.nox,q⟩
theorem Yu.binds {x qual:Str} {st:Stmt} {f:Addr} {fd:FuncData} {ps:List Str} (F:Yu K x qual st f fd)
  (h:∀(kV doc pm:Value) (an:Option Addr) (cdv ct:Value) (us:List Value),us.length=ps.length->bindArgs (PySem.W.fnOf x qual (jV st) (jf st) (aZ st) .none kV doc pm an cdv ct) ⟨us,[]⟩=pure (ps.zip us)):Binds K fd ps []:=by
 obtain⟨oc,od,kV,doc,pm,an,cdv,ct,osl,rfl,lk,hcd⟩:=F.ex;exact .all (h kV doc pm an cdv ct)
theorem Y6 {x qual:Str} {st:Stmt} {f:Addr} {oc:Value} {od an:Option Addr} {osl:Array (Option Value)} {kV doc pm cdv ct:Value} (l:K.lookup f=some ⟨oc,od,.func (PySem.W.fnOf x qual (jV st) (jf st) (aZ st) .none kV doc pm an cdv ct),osl⟩)
  (c:PySem.W.codeIn K cdv qual=true) (k:PySem.W.keepIn K (.ref f)=true):Yu K x qual st f (PySem.W.fnOf x qual (jV st) (jf st) (aZ st) .none kV doc pm an cdv ct):=⟨⟨oc,od,kV,doc,pm,an,cdv,ct,osl,rfl,l,c⟩,k⟩
end
section
variable {X:Cx}
theorem pv (i:Nat) {x:Str} {pos:Pos} (hN:X.N[i]?=some x:=by rfl) (hv:Vis X.env.scope x:=by first | exact Or.inl rfl | exact Or.inr (Or.inl rfl) | exact Or.inr (Or.inr rfl)) (hd:(x == ("__debug__" :Str))=false:=by decide)
  (hcd:(x == ("__classdict__" :Str))=false:=by decide):PE X (.Name x pos) (xR i):=Zu hN hv hd hcd
end
theorem dz {A B:Prop} (h:B):if false=true then A else B:=by rw [if_neg Bool.false_ne_true];exact h
theorem iy {A B:Prop} (h:A):if true=true then A else B:=by rw [if_pos rfl];exact h
theorem jQ {c A B:Prop} [Decidable c] (h1:c->A) (h2:¬c->B):if c then A else B:=by
 by_cases h:c
 ·rw [if_pos h];exact h1 h
 ·rw [if_neg h];exact h2 h
noncomputable def aJ (H H':Hp):Prop:=∀b o,H b=some o->H' b=some o
theorem aJ.refl (H:Hp):aJ H H:=λ_ _ h=>h
theorem aJ.trans {H H1 H2:Hp} (a:aJ H H1) (b:aJ H1 H2):aJ H H2:=λc o h=>b c o (a c o h)
theorem aJ.free {H H':Hp} (e:aJ H H') {l:Addr} (h:H' l=Option.none):H l=Option.none:=by
 cases q:H l with
 | none=>rfl
 | some o=>
  rw [e l o q] at h;cases h
theorem aJ.seq {K:Fr} {H H':Hp} {a:Addr} {xs:List V} (e:aJ H H') (h:bJ K H a xs):bJ K H' a xs:=by
 rcases h with (h | ⟨o,h⟩) | h
 ·exact .inl (.inl (e _ _ h))
 ·exact .inl (.inr ⟨o,e _ _ h⟩)
 ·exact .inr h
end L2
set_option maxHeartbeats 4000000
namespace L2
open PySem PySem.Spec PyProof.Rows
theorem R9 {P:Program} {w:World} {H:Hp} {h:Heap} {a:Addr} {o:HO} (x:xT P w H h) (hn:H a=none) (new:ig P w (upd H a o) h a o):xT P w (upd H a o) h:=λb u e=>by
 by_cases hb:b=a
 ·subst hb;rw [ao] at e;cases e;exact new
 ·rw [aK hb] at e;exact(x b u e).stay (λc v _ q=>q) (λc q=>by rw [aK (aF q hn)];exact q) λc xs q=>by rw [aK (aF q hn)];exact q
theorem Eu {α β:Type} {f:α->β->Sem (ForInStep β)} (g:α->β->β):∀(l:List α) (c:β),(∀x∈l,∀c,f x c=pure (.yield (g x c)))->forIn l c f=pure (l.foldl (λc x=>g x c) c)
 | [],_,_=>rfl
 | x:: l,c,h=>by rw [List.forIn_cons,h x mem_cons_self,pure_bind];exact Eu g l (g x c) λy hy=>h y (mem_cons_of_mem _ hy)
noncomputable def yj (env:Env) (x:Str×NameKind) (cs:List (Str×Addr)):List (Str×Addr):=
 if x.2=.free then(match env.cells.lookup x.1 with | some c=>(x.1,c):: cs | none=>cs) else cs
noncomputable def clos (env:Env) (l:List (Str×NameKind)) (c:List (Str×Addr)):List (Str×Addr):=l.foldl (λc x=>yj env x c) c
theorem mZ {env:Env} {scope:Scope} (h:∀y∈scope.names,y.2=.free->∃c,env.cells.lookup y.1=some c):closureFor scope env=pure (clos env scope.names []):=by
 simp only [closureFor];rw [Eu (yj env) scope.names [] λx hx c=>?_]
 ·rfl
 ·obtain⟨n,k⟩:=x;by_cases hk:k=.free
  ·subst hk;obtain⟨a,ha⟩:=h _ hx rfl;have ha':env.cells.lookup n=some a:=ha;simp [cellOf,ha',yj]
  ·have:(k == NameKind.free)=false:=by simpa using hk
   simp [this,yj,hk]
theorem MF {env:Env}:∀(l:List (Str×NameKind)) (c:List (Str×Addr)),(∀y a,c.lookup y=some a->env.cells.lookup y=some a)->∀y a,(clos env l c).lookup y=some a->env.cells.lookup y=some a
 | [],_,h=>h
 | x:: l,c,h=>by
  refine MF l (yj env x c) λy a e=>?_;unfold yj at e;by_cases hk:x.2=.free
  ·rw [if_pos hk] at e;cases q:env.cells.lookup x.1 with
   | none=>rw [q] at e;exact h y a e
   | some b=>
    rw [q] at e;by_cases hy:(y == x.1)=true
    ·have:y=x.1:=by simpa using hy
     subst this;have e':((x.1,b):: c).lookup x.1=some a:=e;simp [lookup_cons] at e';rw [q,e']
    ·have hy':(y == x.1)=false:=by simpa using hy
     have e':((x.1,b):: c).lookup y=some a:=e;rw [lookup_cons,hy'] at e';exact h y a e'
  ·rw [if_neg hk] at e;exact h y a e
theorem G7 {env:Env}:∀(l:List (Str×NameKind)) (c:List (Str×Addr)) (y:Str),((∃a,c.lookup y=some a)∨∃k∈l,k.1=y/\k.2=.free/\∃a,env.cells.lookup y=some a)->∃a,(clos env l c).lookup y=some a
 | [],_,_,h=>by
  rcases h with h | ⟨k,hk,_⟩
  ·exact h
  ·cases hk
 | x:: l,c,y,h=>by
  refine G7 l (yj env x c) y ?_;have up:(∃a,c.lookup y=some a)->∃a,(yj env x c).lookup y=some a:=λ⟨a,e⟩=>by
   unfold yj;split
   ·split
    ·rename_i b q;by_cases hy:(y == x.1)=true
     ·exact⟨b,by rw [lookup_cons,hy]⟩
     ·have hy':(y == x.1)=false:=by simpa using hy
      exact⟨a,by rw [lookup_cons,hy'];exact e⟩
    ·exact⟨a,e⟩
   ·exact⟨a,e⟩
  rcases h with h | ⟨k,hk,h1,h2,a,h3⟩
  ·exact .inl (up h)
  ·rcases mem_cons.mp hk with e | hk
   ·subst e;left
    unfold yj;rw [if_pos h2,h1,h3];exact⟨a,by simp [lookup_cons]⟩
   ·exact .inr ⟨k,hk,h1,h2,a,h3⟩
theorem vV (scope:Scope) (env:Env) (y:Str):(relabel scope env).names.lookup y=(scope.names.lookup y).map λk=>if (k == NameKind.free && env.scope.kind == .function && env.kindOf y == some .cell)=true then .cell else k:=by
 show(scope.names.map _).lookup y=_;induction scope.names with
 | nil=>rfl
 | cons p l ih=>
  obtain⟨n,k⟩:=p;rw [map_cons];show List.lookup y ((if (k == NameKind.free && env.scope.kind == .function && env.kindOf n == some .cell)=true then(n,NameKind.cell) else(n,k)):: _)=_;by_cases hy:(y == n)=true
  ·have:y=n:=by simpa using hy
   subst this;by_cases hc:(k == NameKind.free && env.scope.kind == .function && env.kindOf y == some .cell)=true
   ·rw [if_pos hc];simp only [lookup_cons,beq_self_eq_true,map_some];rw [if_pos hc]
   ·rw [if_neg hc];simp only [lookup_cons,beq_self_eq_true,map_some];rw [if_neg hc]
  ·have hy':(y == n)=false:=by simpa using hy
   by_cases hc:(k == NameKind.free && env.scope.kind == .function && env.kindOf n == some .cell)=true
   ·rw [if_pos hc];simp only [lookup_cons,hy'];exact ih
   ·rw [if_neg hc];simp only [lookup_cons,hy'];exact ih
noncomputable def dN (N:List Str) (js:List Nat):List Str:=js.map λj=>(N[j]?).getD Str.empty
noncomputable def fj (σ:St) (js:List Nat):St:=js.map λj=>(σ[j]?).join
noncomputable def BK (X:Cx) (scope:Scope) (x:Str) (js:List Nat) (cl:List (Str×Addr)) (C:Addr) (s:Shared) (H:Hp) (ex:List Addr):Cx where
 prog:=X.prog
 w:=X.w
 K:=X.K
 mg:=X.mg
 base:=X.base
 A:=X.A
 N:=x:: dN X.N js
 s₀:=s
 H₀:=H
 env:=compEnvC scope cl C X.env
 outer:=X.stack
 stack:=X.stack
 ex:=ex
 fn:=λ_=>false
 calm:=X.calm
 pn:=[]
 xe:=λ_ _=>False
noncomputable def PF (X:Cx) (ifs:List Expr) (t:TT):Prop:=
 ∀(pins:List (Addr×Obj)) (s:Shared) (σ:St) (H:Hp) (Q:Bool->Hp->Prop),Inv X pins σ H s->t σ H Q->
  wpAny (model X.prog X.w) X.A (forIn ifs true λc r=>if r=true then do let ok <-isTrue c X.env (eval c X.env);pure (ForInStep.yield ok) else pure (ForInStep.yield r)) (TP X pins σ Q) X.xe s
noncomputable def Za:TT:=λ_ H Q=>Q true H
theorem gj {X:Cx}:PF X [] Za:=λ_ _ _ H _ I h=>wpAny_pure ⟨H,I,h⟩
theorem vm {X:Cx} {c:Expr} {t:TT} (hc:PT X c t):PF X [c] t:=by intro pins s σ H Q I h;rw [List.forIn_cons,if_pos rfl];refine wpAny_bind (wpAny_bind (eO (hc pins s σ H Q I h) λb s1 q=>wpAny_pure ?_));show wpAny (model X.prog X.w) X.A (pure b) (TP X pins σ Q) X.xe s1;exact wpAny_pure q
inductive CompEnd (js:List Nat) (tt:TT) (te:TE) (σ:St) (Qd:List V->Hp->Prop) (J:It) (H1:Hp):Prop where
 | mk:∀W:Nat->Nat->List V->Hp->Prop,((∃m,W 0 m [] H1))->(∀i m ys H2,W i m ys H2->
 (J.stop i H2/\ys.length<=sizeLine/\Qd ys H2)∨
 (J.go i H2/\ys.length <sizeLine/\∃N:List V->Hp->Prop,(∀ys' H',N ys' H'->∃m',m' <m/\W (i+1) m' ys' H')/\∀x H3,J.yld i H2 x H3->tt (some x:: fj σ js) H3 λb H4=>
  if b=true then te (some x:: fj σ js) H4 λy H5=>N (ys ++ [y]) H5 else N ys H4))->CompEnd js tt te σ Qd J H1
noncomputable def XF (js:List Nat) (wi:TI) (tt:TT) (te:TE):TE:=λσ H Q=>wi σ H (CompEnd js tt te σ λys H2=>∀D,H2 D=none->Q (.ref D) (upd H2 D (.lst ys)))
section
variable {X:Cx} {x:Str} {px pos:Pos} {iter elt:Expr} {ifs:List Expr} {scope:Scope} {wi:TI} {tt:TT} {te:TE}
end
section
variable {X:Cx}
theorem j9:vz X (binaryOp .Mult) (rI IntMulOk λi j=>.int (i * j)):=opI λ_ _ _ _ _ _ _ hc q=>mul_int q hc
noncomputable def XN (_ j:Int):Prop:=0 <j/\j.natAbs.log2 <9000
theorem SX:vz X (binaryOp .FloorDiv) (rI XN λi j=>.int (i / j)):=opI λi j _ _ _ _ _ hc q=>by have h1:(0:Int) <j:=hc.1;exact floordiv_int (by omega) (by rw [Int.fdiv_eq_ediv_of_nonneg i (by omega)];exact q) (.inl (PyProof.noPylong_of_log2 hc.2))
theorem aaK {i j:Int} (h0:0 <j) (h:j.natAbs <2 ^ 9000):XN i j:=⟨h0,(Nat.log2_lt (by omega)).mpr h⟩
noncomputable def tyN (K:Fr) (H:Hp) (x:V) (T:String):Prop:=match x with
 | .non=>T= "NoneType"
 | .bl _=>T= "bool"
 | .int _=>T= "int"
 | .str _=>T= "str"
 | .ref p=>(T= "list" /\∃xs,bJ K H p xs)∨(T= "tuple" /\∃xs,fZ K H p xs)∨(T= "dict" /\∃kvs,H p=some (.dK kvs))
 | _=>False
noncomputable def Mr (a b:String):Bool:=a == b || (a == "bool" && b == "int")
noncomputable def Qs:List String:=["int", "bool", "str", "list", "tuple", "dict"]
noncomputable def qY:List String:=["NoneType", "bool", "int", "str", "list", "tuple", "dict"]
theorem Vr:∀T∈Qs,PySem.W.kitMeta T=true:=by decide +kernel
theorem WW:∀a∈qY,∀b∈Qs,(PySem.fastBuiltinMro a).map (·.contains (.type b))=some (Mr a b):=by decide +kernel
theorem Xf (K:Fr) {a b:String} (ha:a∈qY) (hb:b∈Qs):PySem.W.kitOne K (.type a) (.type b)=some (Mr a b):=by
 unfold PySem.W.kitOne;by_cases h:(Value.type a == Value.type b)=true
 ·rw [if_pos h];have e:a=b:=by have:=beq_iff_eq.mp h;injection this
  subst e;simp [Mr]
 ·rw [if_neg h];show(if PySem.W.kitMeta b=true then PySem.W.subIn K (.type a) (.type b) else none)=_;rw [if_pos (Vr b hb)];exact WW a ha b hb
theorem An:pq X (.builtin "isinstance") (λxs H Q=>∃x Tx T b,xs=[x,.ty T]/\tyN X.K H x Tx/\T∈Qs/\Mr Tx T=b/\Q (.bl b) H):=by
 intro pins s σ H xs us Q I r h;obtain⟨x,Tx,T,b,rfl,ty,hT,rfl,q⟩:=h;obtain⟨u,w',rfl,rx,ry⟩:=vals2 r;cases ry;have fin:∀{b:Bool},b=Mr Tx T->∀tk,EP X pins σ Q (.bool b) { s with toks:=tk }:=λe tk=>⟨.bl (Mr Tx T),H,I.tok tk,by rw [e];rfl,q⟩;have go:∀{P:Heap->Prop},PySem.W.KitX X.K u (.type Tx) P->P s.heap->Tx∈qY->u≠.builtin "__main__.__loader__#opaque" ->wpAny (model X.prog X.w) X.A (call (.builtin "isinstance") [u,.type T]) (EP X pins σ Q) X.xe s:=λZ p hm hx=>
  PySem.W.kia_one Z I.kIn p (Xf X.K hm hT) hx λtk=>fin rfl tk
 cases x with
 | non=>cases rx;cases (show Tx= "NoneType" from ty);exact go PySem.W.kitx_none trivial (by decide) (by intro e;cases e)
 | bl b=>cases rx;cases (show Tx= "bool" from ty);exact go PySem.W.kitx_bool trivial (by decide) (by intro e;cases e)
 | int i=>obtain⟨t,rfl⟩:=rx;cases (show Tx= "int" from ty);exact go PySem.W.kitx_int trivial (by decide) (by intro e;cases e)
 | str z=>obtain⟨t,rfl⟩:=rx;cases (show Tx= "str" from ty);exact go PySem.W.kitx_str trivial (by decide) (by intro e;cases e)
 | ref p=>
  cases rx;rcases ty with ⟨rfl,ys,hq⟩ | ⟨rfl,ys,hq⟩ | ⟨rfl,kvs,hq⟩
  ·obtain⟨its,_,pl,_⟩:=I.list hq;obtain⟨o,n,e,c,_,_⟩:=pl;exact go PySem.W.kitx_list ⟨o,e,c⟩ (by decide) (by intro e;cases e)
  ·obtain⟨its,_,⟨o,e,c,_⟩,_⟩:=I.tuple hq;exact go PySem.W.kitx_tuple ⟨o,e,c⟩ (by decide) (by intro e;cases e)
  ·obtain⟨_,_,_,_,o,_,_,e,ex,_⟩:=I.hok p _ hq;exact go PySem.W.kitx_dict ⟨o,e,ex.1⟩ (by decide) (by intro e;cases e)
 | _=>exact(show False from ty).elim
inductive Vf (K:Fr) (x:V) (xs:List V) (H:Hp) (Q:VK):Prop where
 | mk:∀z p ys,x=.str z->xs=[.ref p]->bJ K H p (ys.map V.str)->(ys.map (·.length)).sum+ys.length * z.length<=16777216->Q (.str (Txt.join z ys)) H->Vf K x xs H Q
noncomputable def rJoin (K:Fr):V->List V->Hp->VK->Prop:=λx xs H Q=>Vf K x xs H Q
theorem FZ:∀{ys:List Str} {us:List Value},Vals (ys.map V.str) us->StrsAre us ys
 | [],us,r=>by rw [map_nil] at r;cases r;exact .nil
 | y:: ys,us,r=>by
  rw [map_cons] at r;cases r with
  | cons r1 r2=>
   obtain⟨t,e⟩:=r1;subst e;exact .cons y t (FZ r2)
theorem W9:MtR X "str.join" (rJoin X.K):=by intro pins s σ H x xs v us Q I rx rs h;obtain⟨z,p,ys,rfl,rfl,hq,hz,q⟩:=h;obtain⟨t,rfl⟩:=rx;obtain⟨u,rfl,ru⟩:=vals1 rs;cases ru;obtain⟨its,rv,pl,_⟩:=I.list hq;exact join_list (items:=its.toArray) pl.isList (by simpa using FZ rv) hz λt' k=>⟨.str (Txt.join z ys),H,I.tok k,⟨_,Y⟩,q⟩
end
theorem Zv:bootBuiltins "int" =some (.type "int"):=by decide +kernel
theorem Wj:bootBuiltins "bool" =some (.type "bool"):=by decide +kernel
theorem Us:bootBuiltins "str" =some (.type "str"):=by decide +kernel
theorem rB:bootBuiltins "list" =some (.type "list"):=by decide +kernel
theorem Ay:bootBuiltins "tuple" =some (.type "tuple"):=by decide +kernel
theorem dC:bootBuiltins "len" =some (.builtin "len"):=by decide +kernel
theorem mK:bootBuiltins "isinstance" =some (.builtin "isinstance"):=by decide +kernel
theorem Zi:bootBuiltins "min" =some (.builtin "min"):=by decide +kernel
theorem NT:bootBuiltins "max" =some (.builtin "max"):=by decide +kernel
theorem Jv:bootBuiltins "all" =some (.builtin "all"):=by decide +kernel
section
variable {X:Cx} {pos:Pos}
theorem j0 {x:Str} {v:V} (hg:Gl X x) (hm:∃u,X.mg x=some u/\RelV v u) (hd:(x == ("__debug__" :Str))=false:=by decide):PE X (.Name x pos) (tC v):=by obtain⟨u,h1,h2⟩:=hm;exact Km hg h1 h2 hd
theorem DY {x:Str} {T:String} (hg:Gl X x) (hm:X.mg x=none) (hv:bootBuiltins x=some (.type T)) (hn:x≠ "__name__" :=by decide) (hd:(x == ("__debug__" :Str))=false:=by decide):PE X (.Name x pos) (tC (.ty T)):=
 WK hg hm hv rfl hn hd
end
theorem iT {a b:Int} (h: -(2 ^ 64) <a/\a <2 ^ 64:=by decide):IntMulOk a b:=.of_left (intBits_le_64 h.1 h.2)
theorem KH {a b:Int} (h: -(2 ^ 64) <b/\b <2 ^ 64:=by decide):IntMulOk a b:=.of_right (intBits_le_64 h.1 h.2)
inductive Vd (t:TS) (D:Ends) (σ:St) (H:Hp):Prop where
 | mk:∀J:St->Hp->Prop,t { D with nx:=J } σ H->(∀σ' H',J σ' H'->D.nx σ' H')->Vd t D σ H
noncomputable def ZS (t:TS):TS:=λD σ H=>Vd t D σ H
theorem il {X:Cx} {st:Stmt} {t:TS} (h:PS X st t):PS X st (ZS t):=by
 intro pins s σ H D I hw;obtain⟨J,h1,h2⟩:=hw;refine eO (h pins s σ H { D with nx:=J } I h1) λf s1 q=>?_;cases f with
 | next=>obtain⟨σ',H',I',q⟩:=q;exact⟨σ',H',I',h2 _ _ q⟩
 | ret v=>exact q
 | brk=>exact q
 | cont=>exact q
theorem eX {c A B:Prop} [Decidable c] (hc:¬c) (h:B):if decide c=true then A else B:=by rw [decide_eq_false hc];exact dz h
theorem yM {c A B:Prop} [Decidable c] (hc:c) (h:A):if decide c=true then A else B:=by rw [decide_eq_true hc];exact iy h
mutual
inductive Dt (K:Fr) (H:Hp):V->PyData->Prop
 | non:Dt K H .non .none
 | bl (b:Bool):Dt K H (.bl b) (.bool b)
 | int (i:Int):Dt K H (.int i) (.int i)
 | str (x:Str):Dt K H (.str x) (.str x)
 | list {p:Addr} {xs:List V} {ds:List PyData}:bJ K H p xs->Ry K H xs ds->Dt K H (.ref p) (.list ds)
 | tuple {p:Addr} {xs:List V} {ds:List PyData}:fZ K H p xs->Ry K H xs ds->Dt K H (.ref p) (.tuple ds)
inductive Ry (K:Fr) (H:Hp):List V->List PyData->Prop
 | nil:Ry K H [] []
 | cons {x:V} {xs:List V} {d:PyData} {ds:List PyData}:Dt K H x d->Ry K H xs ds->Ry K H (x:: xs) (d:: ds)
end
section
variable {X:Cx} {pins:List (Addr×Obj)} {σ:St} {H:Hp} {s:Shared}
mutual
theorem Dt.reads (I:Inv X pins σ H s):∀{x:V} {d:PyData},Dt X.K H x d->∀{u:Value},RelV x u->∃as,Reads s.heap u d as
 | _,_,.non,_,r=>by cases r;exact⟨_,.none⟩
 | _,_,.bl b,_,r=>by cases r;exact⟨_,.bool b⟩
 | _,_,.int i,_,r=>by obtain⟨t,rfl⟩:=r;exact⟨_,.int i t⟩
 | _,_,.str x,_,r=>by obtain⟨t,rfl⟩:=r;exact⟨_,.str x t⟩
 | _,_,.list hq hd,_,r=>by cases r;obtain⟨its,rv,⟨o,n,e,c,_,d⟩,_⟩:=I.list hq;obtain⟨as,q⟩:=Ry.reads I hd rv;exact⟨_,.list e c d (by simpa using q)⟩
 | _,_,.tuple hq hd,_,r=>by cases r;obtain⟨its,rv,⟨o,e,c,n,d⟩,_⟩:=I.tuple hq;obtain⟨as,q⟩:=Ry.reads I hd rv;exact⟨_,.tuple e c d (by simpa using q)⟩
theorem Ry.reads (I:Inv X pins σ H s):∀{xs:List V} {ds:List PyData},Ry X.K H xs ds->∀{us:List Value},Vals xs us->∃as,ReadsAll s.heap us ds as
 | _,_,.nil,_,r=>by cases r;exact⟨_,.nil⟩
 | _,_,.cons h t,_,r=>by
  cases r with
  | cons r1 r2=>
   obtain⟨as,q⟩:=Dt.reads I h r1;obtain⟨bs,q'⟩:=Ry.reads I t r2;exact⟨_,.cons q q'⟩
end
inductive Xy (K:Fr) (x:V) (y:V) (H:Hp) (Q:VK):Prop where
 | mk:∀da db,Dt K H x da->Dt K H y db->SeqAt.shaped da=true->SeqAt.shaped db=true->Q (.bl (PyData.eqv da db)) H->Xy K x y H Q
noncomputable def abh (K:Fr):R2:=λx y H Q=>Xy K x y H Q
inductive X7 (K:Fr) (x:V) (y:V) (H:Hp) (Q:VK):Prop where
 | mk:∀da db,Dt K H x da->Dt K H y db->SeqAt.shaped da=true->SeqAt.shaped db=true->Q (.bl (!PyData.eqv da db)) H->X7 K x y H Q
noncomputable def abx (K:Fr):R2:=λx y H Q=>X7 K x y H Q
theorem Vo (hu:X.A.units+64 <cLine):vz X (compareOp .Eq) (abh X.K):=by intro pins s σ H x y v u Q I rx ry h;obtain⟨da,db,h1,h2,s1,s2,q⟩:=h;obtain⟨as,r1⟩:=h1.reads I rx;obtain⟨bs,r2⟩:=h2.reads I ry;exact eq_dataH r1 r2 s1 s2 hu (dh I q Y)
theorem Tp (hu:X.A.units+64 <cLine):vz X (compareOp .NotEq) (abx X.K):=by intro pins s σ H x y v u Q I rx ry h;obtain⟨da,db,h1,h2,s1,s2,q⟩:=h;obtain⟨as,r1⟩:=h1.reads I rx;obtain⟨bs,r2⟩:=h2.reads I ry;exact ne_dataH r1 r2 s1 s2 hu (dh I q Y)
end
noncomputable def Its (x:Str):It:=⟨λi _=>i <x.cps.size,λi H v H'=>H'=H/\∃c,x.cps[i]?=some c/\v=.str ⟨#[c]⟩,λi _=>x.cps.size<=i⟩
theorem M9 {P:Program} {w:World} {K:Fr} {tg:Expr} (it:Addr) (x:Str) (t:Tok) {ty:String} (hty:ty= "str_ascii_iterator" ∨ty= "str_iterator"):Turn P w K tg (Its x) [it] it (λi h=>h.IsStrIter it ty x t i) where
 mem:=by simp
 obj:=λi h st b hb=>by
  have e:b=it:=by simpa using hb
  subst e;obtain⟨o,e,c,d⟩:=st;exact⟨o,e,λv z=>by rw [d] at z;cases z⟩
 keep:=λi h h' st k=>by obtain⟨o,e,r⟩:=st;exact⟨o,k it (by simp) o e,r⟩
 item:=by
  intro X hP hw hK hc i pins s σ H E I hf st hg;subst hP hw hK;obtain⟨f0,f1,f2,f3,f4,f5⟩:=hf it (by simp);have fin:∀(v:Value) (h':Heap) (tk:Nat),SignAt x i v->h'.IsStrIter it ty x t (i+1)->(∀b o,b∉[it]->s.heap.get? b=some o->h'.get? b=some o)->
    ∃u,some v=some u/\wpAny (model X.prog X.w) X.A (letOwnedTupleGo tg (.ref it) u) (λ_ s2=>∃x' H',Inv X pins σ H' s2/\RelV x' u/\(Its x).yld i H x' H'/\s2.heap.IsStrIter it ty x t (i+1)/\∀b∈[it],H' b=none) E { s with heap:=h',toks:=tk }:=by
   intro v h' tk hv st' kk;obtain⟨c,u,hcc,rfl⟩:=hv;have I1:Inv X pins σ H { s with heap:=h',toks:=tk }:=I.turned (λb o hb e=>kk b o (by simpa using hb) e) f0 f1 f3 f4 f5;obtain⟨o,e,c',d⟩:=id st';refine⟨_,rfl,MK (s:={ s with heap:=h',toks:=tk }) (n:=ty) e c' d (by rcases hty with rfl | rfl <;> decide) ⟨.str ⟨#[c]⟩,H,I1,⟨u,rfl⟩,⟨rfl,c,hcc,rfl⟩,st',λb hb=>(hf b hb).1⟩⟩
  rcases hty with rfl | rfl
  ·exact(Walks.strAscii (prog:=X.prog) (w:=X.w) (I.ok.hd hc) it x t).item i s _ _ hg st λv h' tk hv st' kk=>fin v h' tk hv st' kk
  ·exact(Walks.strWide (prog:=X.prog) (w:=X.w) (I.ok.hd hc) it x t).item i s _ _ hg st λv h' tk hv st' kk=>fin v h' tk hv st' kk
 done:=by
  intro X hP hw hK hc i pins s σ H E I hf st hg;subst hP hw hK;obtain⟨f0,f1,f2,f3,f4,f5⟩:=hf it (by simp);have hx:x.cps[i]?=none:=by have hg':x.cps.size<=i:=hg;simp;omega
  rcases hty with rfl | rfl
  ·exact wpAny_pyNext_ascii_end (I.ok.hd hc) st hx λh' eb=>⟨Y,I.turned (t':=s.toks) (λb o hb e=>eb b o hb e) f0 f1 f3 f4 f5⟩
  ·exact wpAny_pyNext_wide_end (I.ok.hd hc) st hx λh' eb=>⟨Y,I.turned (t':=s.toks) (λb o hb e=>eb b o hb e) f0 f1 f3 f4 f5⟩
 self:=λ_ _ _ _ _ st h=>by
  rcases hty with rfl | rfl
  ·exact wpAny_pyIter_striter_ascii st h
  ·exact wpAny_pyIter_striter_wide st h
section
variable {X:Cx} {tg:Expr}
inductive X8 (R:It->Hp->Prop) (x:V) (H1:Hp):Prop where
 | mk:∀z,x=.str z->R (Its z) H1->X8 R x H1
noncomputable def abj (tl:TE):TI:=λσ H R=>tl σ H λx H1=>X8 R x H1
theorem YM {l:Expr} {tl:TE} (hl:PE X l tl):PI X tg l (abj tl):=by
 intro pins s σ H R I h;refine eO (hl pins s σ H _ I h) λv s1 hpt=>?_;obtain⟨x,H1,I1,r1,q1⟩:=hpt;obtain⟨z,e,q⟩:=q1;subst e;obtain⟨t,rfl⟩:=r1;cases ha:z.cps.all (· <128)
 ·refine wpAny_pyIter_wide ha ?_;refine⟨s1.heap.objs.size,[s1.heap.objs.size],_,_,H1,Y,I1.kept (t':=s1.toks) λb o e=>Heap.get?_push_of_some _ e,M9 _ z t (ty:= "str_iterator") (.inr Y),⟨_,Heap.get?_push_size _ Y,Y,Y⟩,λb hb=>?_,q⟩;have e:b=s1.heap.objs.size:=by simpa using hb
  subst e;exact I1.fpOk (le_refl _) (I1.hok.fresh (le_refl _))
 ·refine wpAny_pyIter_ascii ha ?_;refine⟨s1.heap.objs.size,[s1.heap.objs.size],_,_,H1,Y,I1.kept (t':=s1.toks) λb o e=>Heap.get?_push_of_some _ e,M9 _ z t (ty:= "str_ascii_iterator") (.inl Y),⟨_,Heap.get?_push_size _ Y,Y,Y⟩,λb hb=>?_,q⟩;have e:b=s1.heap.objs.size:=by simpa using hb
  subst e;exact I1.fpOk (le_refl _) (I1.hok.fresh (le_refl _))
end
theorem yes {A B:Hp->Prop} {σ:St} {H:Hp} (h:A H):Za σ H (λb H4=>if b=true then A H4 else B H4):=by show if true=true then A H else B H;exact iy h
section
variable {js:List Nat} {tt:TT} {te:TE} {σ:St} {Qd:List V->Hp->Prop}
theorem jc {lo:Int} {n:Nat} {H:Hp} (Pv:Nat->List V->Hp->Prop) (hn:n<=sizeLine) (h0:Pv 0 [] H) (hl:∀i ys H,Pv i ys H->ys.length<=i)
  (hs:∀i ys H,i <n->Pv i ys H->tt (some (.int (lo+i)):: fj σ js) H λb H4=>if b=true then te (some (.int (lo+i)):: fj σ js) H4 λy H5=>Pv (i+1) (ys ++ [y]) H5 else Pv (i+1) ys H4)
  (hd:∀ys H,Pv n ys H->Qd ys H):CompEnd js tt te σ Qd (Yv lo n) H:=by
 refine⟨λi m ys H=>m=n - i/\i<=n/\Pv i ys H,⟨n,by simp,zero_le _,h0⟩,?_⟩;rintro i m ys H ⟨rfl,hi,p⟩;have hlen:=hl i ys H p;by_cases hlt:i <n
 ·refine .inr ⟨hlt,by omega,Pv (i+1),λys' H' p'=>⟨n - (i+1),by omega,Y,hlt,p'⟩,λx H' y=>?_⟩;obtain⟨e,y⟩:=y;subst e y;exact hs i ys _ hlt p
 ·have e:i=n:=by omega
  subst e;exact .inl ⟨le_refl _,by omega,hd ys H p⟩
theorem fB {K:Fr} {a:Addr} {xs:List V} {H:Hp} (Pv:Nat->List V->Hp->Prop) (hn:xs.length<=sizeLine) (h0:Pv 0 [] H) (hl:∀i ys H,Pv i ys H->ys.length<=i) (hq:∀i ys H,i<=xs.length->Pv i ys H->bJ K H a xs)
  (hs:∀i x ys H,xs[i]?=some x->Pv i ys H->tt (some x:: fj σ js) H λb H4=>if b=true then te (some x:: fj σ js) H4 λy H5=>Pv (i+1) (ys ++ [y]) H5 else Pv (i+1) ys H4)
  (hd:∀ys H,Pv xs.length ys H->Qd ys H):CompEnd js tt te σ Qd (XH K a) H:=by
 refine⟨λi m ys H=>m=xs.length - i/\i<=xs.length/\Pv i ys H,⟨xs.length,by simp,zero_le _,h0⟩,?_⟩;rintro i m ys H ⟨rfl,hi,p⟩;have hlen:=hl i ys H p;have q:=hq i ys H hi p;by_cases hlt:i <xs.length
 ·refine .inr ⟨⟨xs,xs[i],q,by simp [hlt]⟩,by omega,Pv (i+1),λys' H' p'=>⟨xs.length - (i+1),by omega,Y,hlt,p'⟩,λx H' y=>?_⟩;obtain⟨e,y⟩:=y;subst e;exact hs i x ys _ (y xs q) p
 ·have e:i=xs.length:=by omega
  subst e;exact .inl ⟨⟨xs,q,le_refl _⟩,by omega,hd ys H p⟩
theorem S9 {z:Str} {H:Hp} (Pv:Nat->List V->Hp->Prop) (hn:z.cps.size<=sizeLine) (h0:Pv 0 [] H) (hl:∀i ys H,Pv i ys H->ys.length<=i)
  (hs:∀i c ys H,z.cps[i]?=some c->Pv i ys H->tt (some (.str ⟨#[c]⟩):: fj σ js) H λb H4=>if b=true then te (some (.str ⟨#[c]⟩):: fj σ js) H4 λy H5=>Pv (i+1) (ys ++ [y]) H5 else Pv (i+1) ys H4)
  (hd:∀ys H,Pv z.cps.size ys H->Qd ys H):CompEnd js tt te σ Qd (Its z) H:=by
 refine⟨λi m ys H=>m=z.cps.size - i/\i<=z.cps.size/\Pv i ys H,⟨z.cps.size,by simp,zero_le _,h0⟩,?_⟩;rintro i m ys H ⟨rfl,hi,p⟩;have hlen:=hl i ys H p;by_cases hlt:i <z.cps.size
 ·refine .inr ⟨hlt,by omega,Pv (i+1),λys' H' p'=>⟨z.cps.size - (i+1),by omega,Y,hlt,p'⟩,λx H' y=>?_⟩;obtain⟨e,c,hc,y⟩:=y;subst e y;exact hs i c ys _ hc p
 ·have e:i=z.cps.size:=by omega
  subst e;exact .inl ⟨le_refl _,by omega,hd ys H p⟩
end
section
variable {X:Cx}
inductive X4 (x:V) (lo:Option Int) (hi:Option Int) (H:Hp) (Q:VK):Prop where
 | mk:∀z,x=.str z->z.length<=sizeLine->Q (.str (Txt.slice z lo hi)) H->X4 x lo hi H Q
noncomputable def abb:V->Option Int->Option Int->Hp->VK->Prop:=λx lo hi H Q=>X4 x lo hi H Q
theorem UG:SlR X abb:=by
 intro pins s σ H x v vl vu lo hi sl Q I rx hs pl pu h;obtain⟨z,rfl,hz,q⟩:=h;obtain⟨t,rfl⟩:=rx;refine⟨"str",_,PySem.F.slot_str_getitem.lookup,typeIs_str _ _ _,?_⟩;have fin:∀t' k,EP X pins σ Q (.str (Txt.slice z lo hi) t') { s with toks:=k }:=λt' k=>⟨.str _,H,I.tok k,⟨_,rfl⟩,q⟩;cases pl with
 | none=>
  cases pu with
  | none=>exact wpAny_getItem_str_slice (l:=none) (u:=none) (st:=none) hs rfl (post_val_or_str ⟨le_trans (Txt.slice_le z _ _) hz,fin⟩)
  | int j tj=>exact wpAny_getItem_str_slice (l:=none) (u:=some (j,tj)) (st:=none) hs rfl (post_val_or_str ⟨le_trans (Txt.slice_le z _ _) hz,fin⟩)
 | int i ti=>
  cases pu with
  | none=>exact wpAny_getItem_str_slice (l:=some (i,ti)) (u:=none) (st:=none) hs rfl (post_val_or_str ⟨le_trans (Txt.slice_le z _ _) hz,fin⟩)
  | int j tj=>exact wpAny_getItem_str_slice (l:=some (i,ti)) (u:=some (j,tj)) (st:=none) hs rfl (post_val_or_str ⟨le_trans (Txt.slice_le z _ _) hz,fin⟩)
theorem Aj (hc:X.calm=true):pq X (.builtin "all") (λxs H Q=>∃(p:Addr) (bs:List Bool),xs=[.ref p]/\bJ X.K H p (bs.map V.bl)/\Q (.bl (bs.all id)) H):=by
 intro pins s σ H xs us Q I r h;obtain⟨p,bs,rfl,hq,q⟩:=h;obtain⟨u,rfl,rx⟩:=vals1 r;cases rx;obtain⟨its,rv,pl,_⟩:=I.list hq;have hl:=pl.isList;have hlt:p <s.heap.objs.size:=by obtain⟨_,e,_⟩:=hl;exact Heap.lt_size e
 have hb:∀i v,its[i]?=some v->∃b,bs[i]?=some b/\v=Value.bool b:=λi v e=>by
  have hi:i <its.length:=(List.getElem?_eq_some_iff.mp e).1;have hi':i <bs.length:=by have:=rv.length;rw [length_map] at this;omega
  obtain⟨u,e',r'⟩:=rv.get (i:=i) (x:=.bl bs[i]) (by rw [getElem?_map,getElem?_eq_getElem hi'];rfl);rw [e] at e';cases e';exact⟨bs[i],getElem?_eq_getElem hi',r'⟩
 refine call_all_walk (wpAny_pyIter_list hl ?_);refine⟨s.heap.objs.size,[s.heap.objs.size,p],[s.heap.objs.size],its.toArray.size,_,_,λi=>(bs[i]?).getD true,Y,Walks.list (A:=X.A.in1) (I.ok.hd hc) _ p (ne_of_lt hlt) its.toArray,
  ⟨⟨_,Heap.get?_push_size _ rfl,rfl,rfl⟩,hl.push _⟩,λi v s' Q' E' hP hQ=>?_,λh' tk hk=>?_⟩
 ·obtain⟨b,e,rfl⟩:=hb i v (by simpa using hP);simp only [e,getD_some] at hQ;exact wpAny_truthy_bool hQ
 ·have e:((List.range its.toArray.size).all λi=>(bs[i]?).getD true)=bs.all id:=by have hlen:=rv.length;rw [length_map] at hlen;rw [size_toArray,<-hlen];exact LSm.range_all bs
  rw [e];exact⟨.bl _,H,I.kept (LSm.kept_iter hk),Y,q⟩
end
end L2
namespace L2
open PySem PySem.StrLaws PySem.Builtin PySem.Builtin.Str
end L2
namespace L2
open PySem
theorem aB {H:L2.Hp} {p:Addr} {o:L2.HO} (hp:H p=none):L2.aJ H (L2.upd H p o):=λb o' e=>by rw [L2.aK (L2.aF e hp)];exact e
end L2
namespace L2
open PySem PySem.SeqAt
open AutoSeq1 (wpAny_loadPart')
open MeetsSeq MeetsSeq2 MeetsSeq3 SeqRoads2
section
variable {A:Around} {s:Shared}
end
open PySem.Spec PyProof.Rows
end L2
namespace L2
open PySem PySem.Spec PyProof.Rows
structure MethAt (P:Program) (w:World) (K:Fr) (mg:Str->Option Value) (base:Heap) (CX:Ik) (k:Nat) (C:Addr) (m:Str) (sp:Sp):Prop where
 ex:∃(f:Addr) (fd:FuncData) (ps:List Str),RM K C/\Meth K C m f/\Binds K fd ps []/\jG P w K mg base CX k f fd ps sp
inductive Qz (P:Program) (w:World) (K:Fr) (mg:Str->Option Value) (base:Heap) (CX:Ik) (k:Nat) (m:Str) (E:XK) (t:TA) (σ:St) (Q:VK) (x:V) (H1:Hp):Prop where
 | mk:∀a C dx fs sp,x=.ref a->H1 a=some (.ins C dx fs)->fs.lookup m=none->MethAt P w K mg base CX k C m sp->(t σ H1 λvs H2=>sp (x:: vs) H2 Q E)->Qz P w K mg base CX k m E t σ Q x H1
noncomputable def PK (P:Program) (w:World) (K:Fr) (mg:Str->Option Value) (base:Heap) (CX:Ik) (k:Nat) (m:Str) (E:XK) (ta:TE) (t:TA):TE:=λσ H Q=>ta σ H λx H1=>Qz P w K mg base CX k m E t σ Q x H1
section
variable {X:Cx} {CX:Ik} {k:Nat} {E:XK} {m:Str} {pos apos:Pos} {e o:Expr} {es:List Expr} {ta:TE} {t:TA}
theorem vD {pl:Sem Bool} (he:PE X o ta) (hr:jL k X.A) (hx:sI CX X E) (ha:PA X (e:: es) t)
  (hst:starEach (e:: es) X.env=(false,eval e X.env):: starEach es X.env:=by rfl) (hpl:(backTo pos (starEach es X.env)).any (·.1)=false:=by rfl)
  (ht:eval (.Call (.Attribute o m apos) (e:: es) [] pos) X.env=(do
   let ov <-eval o X.env
   standAt apos.atName
   let (f,first) <-holding [ov] (getMethod ov m pl)
   callWith pos f first (backTo pos (starEach (e:: es) X.env)) (backToKw pos (keywordEach [] X.env))):=by rfl):
  PE X (.Call (.Attribute o m apos) (e:: es) [] pos) (PK X.prog X.w X.K X.mg X.base CX k m E ta t):=by
 intro pins s σ H Q I h;refine PySem.W.methodCall_KW (pl:=pl) (eO (he pins s σ H _ I h) λu s1 hpt=>?_) ht;obtain⟨x,H1,I1,rx,a,C,dx,fs,sp,ex,ea,l,⟨f,fd,ps,c,hm,hb,F⟩,q⟩:=hpt;subst ex;obtain rfl:u=Value.ref a:=rx;refine uz I1 ea c hm l ?_;refine PySem.W.callWith_K (first:=[.ref a]) (h₀:=X.base) I.ok.mod.kin hm.kp (eO (ha pos pins s1 σ H1 _ I1 q) λus s2 ⟨vs,H2,I2,r,q2⟩=>⟨I2.kIn,?_⟩) hst hpl;exact Gs (us:=.ref a:: us) (vs:=.ref a:: vs) (ds:=[]) (dvs:=[]) F hr hb .nil hx I2 (.cons Y r) (by rw [append_nil];exact q2)
theorem xN {pl:Sem Bool} (he:PE X o ta) (hr:jL k X.A) (hx:sI CX X E)
  (ht:eval (.Call (.Attribute o m apos) [] [] pos) X.env=(do
   let ov <-eval o X.env
   standAt apos.atName
   let (f,first) <-holding [ov] (getMethod ov m pl)
   callWith pos f first (backTo pos (starEach [] X.env)) (backToKw pos (keywordEach [] X.env))):=by rfl):
  PE X (.Call (.Attribute o m apos) [] [] pos) (PK X.prog X.w X.K X.mg X.base CX k m E ta RB):=by
 intro pins s σ H Q I h;refine PySem.W.methodCall_KW (pl:=pl) (eO (he pins s σ H _ I h) λu s1 hpt=>?_) ht;obtain⟨x,H1,I1,rx,a,C,dx,fs,sp,ex,ea,l,⟨f,fd,ps,c,hm,hb,F⟩,q⟩:=hpt;subst ex;obtain rfl:u=Value.ref a:=rx;refine uz I1 ea c hm l ?_;exact PySem.W.callWith_K0 (first:=[.ref a]) I1.kIn hm.kp (Gs (us:=[.ref a]) (vs:=[.ref a]) (ds:=[]) (dvs:=[]) F hr hb .nil hx I1 (.cons Y .nil) (by rw [append_nil];exact q))
end
section
variable {X:Cx}
theorem Tc:bootBuiltins "range" =some (.type "range"):=by decide +kernel
theorem Nu:pq X (.type "range") (λxs H Q=>∃j:Int,xs=[.int j]/\∀r,H r=none->Q (.ref r) (upd H r (.rng 0 j))):=by intro pins s σ H xs us Q I r h;obtain⟨j,rfl,q⟩:=h;obtain⟨u,rfl,t,rfl⟩:=vals1 r;refine call_range_1 ⟨.ref s.heap.objs.size,upd H s.heap.objs.size (.rng 0 j),I.laid (λb o e=>Heap.get?_push_of_some _ e) (le_refl _) ?_,Y,q _ (I.hok.fresh (le_refl _))⟩;exact⟨_,_,_,Heap.get?_push_size _ Y⟩
noncomputable def V6 (n:Nat):List V:=(List.range n).map λi=>V.int (i:Nat)
theorem Ww (n:Nat):(V6 n).length=n:=by simp [V6]
theorem SN:∀(n:Nat) (us:List Value),us.length=n->(∀(j:Nat) (v:Value),us[j]?=some v->∃t,v=.int (j:Nat) t)->Vals (V6 n) us:=by
 intro n;induction n with
 | zero=>intro us hl _;cases us with | nil=>exact .nil | cons _ _=>cases hl
 | succ n ih=>
  intro us hl h;have e1:V6 (n+1)=V6 n ++ [V.int (n:Nat)]:=by simp [V6,range_succ]
  have hn:n <us.length:=by omega
  have e2:us=us.take n ++ [us[n]]:=by have:=take_append_drop n us;rw [drop_eq_getElem_cons hn] at this;rw [List.drop_eq_nil_of_le (by omega)] at this;exact this.symm
  rw [e1,e2];refine Vals.append (ih _ (by simp;omega) λj v e=>?_) (.cons ?_ .nil)
  ·rw [List.getElem?_take] at e;split at e
   ·exact h j v e
   ·cases e
  ·obtain⟨t,e⟩:=h n us[n] (by simp [hn]);exact⟨t,e⟩
theorem Hu (hc:X.calm=true):pq X (.type "list") (λxs H Q=>∃(r:Addr) (n:Nat),xs=[.ref r]/\H r=some (.rng 0 n)/\n<=1000000/\∀l,H l=none->Q (.ref l) (upd H l (.lst (V6 n)))):=by intro pins s σ H xs us Q I rx h;obtain⟨r,n,rfl,hr,hn,q⟩:=h;obtain⟨u,rfl,ru⟩:=vals1 rx;cases ru;have hl:sizeLine=16777216:=sizeLine_eq;obtain⟨t,u,v,e⟩:=(show ig X.prog X.w H s.heap r (.rng 0 n) from I.hok r _ hr);refine call_list_range (n:=n) (I.ok.hd hc) e (small_one (by omega) (by omega) (by omega) (by omega)) (by rw [rangeSize_one];split <;> omega) (by omega) λh' tk acc' c' kp e' hi=>?_;refine⟨.ref s.heap.objs.size,_,I.laid (t':=tk) kp (le_refl _) (show ig X.prog X.w _ h' _ (.lst (V6 n)) from⟨by rw [Ww];omega,acc'.toList,c',SN n _ (by simpa using hi.1) λj v ej=>?_,by simpa using e'⟩),rfl,q _ (I.hok.fresh (le_refl _))⟩;obtain⟨t,ev⟩:=hi.2 j v (by simpa using ej);exact⟨t,by rw [ev];congr 1;omega⟩
end
inductive kO (w:World) (K:Fr):List DictEntry->List (Str×List Int)->Prop
 | nil:kO w K [] []
 | cons {x:Str} {t:Tok} {ad:Addr} {ns:List Int} {es:List DictEntry} {rows:List (Str×List Int)} {h:Int} {its:Array Value} {n:Nat} {o:Obj}:
   h=hashStr w x->K.lookup ad=some o->o.cls=.type "tuple" ->o.data=.seq its n->Vals (ns.map V.int) its.toList->ns.length<=1000->kO w K es rows->kO w K (⟨h,.str x t,.ref ad⟩:: es) ((x,ns):: rows)
inductive KTab (w:World) (K:Fr) (a:Addr) (rows:List (Str×List Int)):Prop where
 | mk:∀(o:Obj) (es:Array DictEntry) (ep:Nat),K.lookup a=some o->o.cls=.type "dict" ->o.dict=none->o.slots= #[]->o.data=.dict es ep->(a == sysModules)=false->kO w K es.toList rows->(rows.map (·.1)).Nodup->KTab w K a rows
theorem KTab.mk' {w:World} {K:Fr} {a:Addr} {rows:List (Str×List Int)} {o:Obj} {es:Array DictEntry} {ep:Nat} (lk:K.lookup a=some o) (c1:o.cls=.type "dict") (c2:o.dict=none) (c3:o.slots= #[]) (c4:o.data=.dict es ep) (sm:(a == sysModules)=false)
  (rw':kO w K es.toList rows) (nd:(rows.map (·.1)).Nodup):KTab w K a rows:=⟨o,es,ep,lk,c1,c2,c3,c4,sm,rw',nd⟩
noncomputable def rowOf (rows:List (Str×List Int)) (z:Str):Option (List Int):=(rows.find? λr=>decide (r.1=z)).map (·.2)
section
variable {P:Program} {w:World} {K:Fr}
theorem kO.kvs:∀{es:List DictEntry} {rows:List (Str×List Int)},kO w K es rows->∃kvs:List (Key×Value),Pairs (b8 P w) es kvs/\kvs.map (·.1)=rows.map (λr=>(Sum.inr r.1:Key))/\
  (∀e∈es,∃k,(b8 P w).is k e.key=true/\e.hash=(b8 P w).hash k)/\
  ∀z,(rowOf rows z=none->valueAt kvs (Sum.inr z)=none)/\∀ns,rowOf rows z=some ns->∃ad,valueAt kvs (Sum.inr z)=some (.ref ad)/\∀H,fZ K H ad (ns.map V.int)
 | _,_,.nil=>⟨[],.nil,rfl,λe he=>(by cases he),λz=>⟨λ_=>rfl,λns e=>by cases e⟩⟩
 | _,_,@kO.cons _ _ x t ad ns es rows h its n o hh hl hc hdt hv hz hr=>by
  obtain⟨kvs,p,hk,ho,hf⟩:=kO.kvs hr;refine⟨(Sum.inr x,.ref ad):: kvs,.cons (nZ P w x t) Y p,by rw [map_cons,map_cons,hk],λe he=>?_,λz=>?_⟩
  ·rcases mem_cons.mp he with e1 | he
   ·subst e1;exact⟨Sum.inr x,nZ P w x t,hh⟩
   ·exact ho e he
  ·by_cases hx:x=z
   ·subst hx;have e1:rowOf ((x,ns):: rows) x=some ns:=by simp [rowOf]
    have e2:valueAt ((Sum.inr x,Value.ref ad):: kvs) (Sum.inr x:Key)=some (.ref ad):=by simp [valueAt]
    rw [e1,e2];refine⟨λe=>by (cases e),λms e=>⟨ad,rfl,λH=>.inr ⟨_,its,n,hl,hc,hdt,?_,?_⟩⟩⟩
    ·have:=hv.length;have hs:sizeLine=16777216:=sizeLine_eq;simp at this;omega
    ·cases e;exact hv
   ·have e1:rowOf ((x,ns):: rows) z=rowOf rows z:=by simp [rowOf,hx]
    have hx':¬(Sum.inr x:Key)=Sum.inr z:=λq=>hx (Sum.inr.inj q);have e2:valueAt ((Sum.inr x,Value.ref ad):: kvs) (Sum.inr z:Key)=valueAt kvs (Sum.inr z):=by simp [valueAt,hx']
    rw [e1,e2];exact hf z
theorem KTab.map {a:Addr} {rows:List (Str×List Int)} {h:Heap} (T:KTab w K a rows) (hk:K.In h):∃f:Key->Option Value,h.MapOf (b8 P w) a f/\(a == sysModules)=false/\
  ∀z,(rowOf rows z=none->f (Sum.inr z)=none)/\∀ns,rowOf rows z=some ns->∃ad,f (Sum.inr z)=some (.ref ad)/\∀H,fZ K H ad (ns.map V.int):=by
 obtain⟨o,es,ep,hl,c1,c2,c3,c4,hs,hr,nd⟩:=T;obtain⟨kvs,p,hkk,ho,hf⟩:=hr.kvs (P:=P);have D:h.DictOf (b8 P w) a kvs:=⟨o,es,ep,hk a _ hl,⟨c1,c2,c3⟩,c4,λe he=>ho e (by simpa using he),p,?_⟩
 ·exact⟨_,D.mapOf,hs,hf⟩
 ·rw [hkk];have:rows.map (λr=>(Sum.inr r.1:Key))=(rows.map (·.1)).map Sum.inr:=by rw [map_map];rfl
  rw [this];exact List.Pairwise.map _ (λa b hab e=>hab (Sum.inr.inj e)) nd
end
section
variable {X:Cx} {i o:Expr} {ty td:TE} {pos:Pos}
inductive Yg (w:World) (K:Fr) (Q:VK) (y:V) (x:V) (H2:Hp):Prop where
 | mk:∀a rows z,x=.ref a->KTab w K a rows->y=.str z->Q (.bl (rowOf rows z).isSome) H2->Yg w K Q y x H2
noncomputable def aa9 (w:World) (K:Fr) (ty td:TE):TE:=λσ H Q=>ty σ H λy H1=>td σ H1 λx H2=>Yg w K Q y x H2
theorem Zb (hi:PE X i ty) (ho:PE X o td):PC X .In i o (aa9 X.w X.K ty td):=by
 intro pins s σ H Q I h;refine eO (hi pins s σ H _ I h) λiv s1 ⟨y,H1,I1,ry,q1⟩=>eO (ho pins s1 σ H1 _ I1 q1) λu s2 hpt=>?_;obtain⟨x,H2,I2,rx,a,rows,z,ex,T,ey,q2⟩:=hpt;subst ex;subst ey;obtain rfl:u=Value.ref a:=rx;obtain⟨t,rfl⟩:=ry;obtain⟨f,M,hs,hf⟩:=T.map (P:=X.prog) I2.kIn;refine wpAny_in_of (k:=(Sum.inr z:Key)) (nZ X.prog X.w z t) hs M ?_;refine⟨.bl (rowOf rows z).isSome,H2,I2.tok _,?_,q2⟩;cases e:rowOf rows z with
 | none=>rw [(hf z).1 e];rfl
 | some ns=>obtain⟨ad,e1,_⟩:=(hf z).2 ns e;rw [e1];rfl
inductive Ye (w:World) (K:Fr) (x:V) (y:V) (H:Hp) (Q:VK):Prop where
 | mk:∀a rows z ns,x=.ref a->KTab w K a rows->y=.str z->rowOf rows z=some ns->(∀ad,fZ K H ad (ns.map V.int)->Q (.ref ad) H)->Ye w K x y H Q
noncomputable def Z5 (w:World) (K:Fr):R2:=λx y H Q=>Ye w K x y H Q
theorem abm:SJ X (Z5 X.w X.K):=by intro value slice pins s σ H x y v u Q I rx ry h hs;obtain⟨a,rows,z,ns,rfl,T,rfl,e,q⟩:=h;cases rx;obtain⟨t,rfl⟩:=ry;obtain⟨f,M,hsm,hf⟩:=T.map (P:=X.prog) I.kIn;obtain⟨ad,e1,e2⟩:=(hf z).2 ns e;exact tail_any M.typeIs PySem.F.slot_dict_getitem.lookup (wpAny_getItem_of (k:=(Sum.inr z:Key)) (nZ X.prog X.w z t) M e1 ⟨.ref ad,H,I.tok _,Y,q ad (e2 H)⟩) hs
theorem WP (ho:PE X o td) (hi:PE X i ty) (hs:QV i):PE X (.Subscript o i pos) (Xr (Z5 X.w X.K) td ty):=bc abm ho hi hs
end
noncomputable def zp (K:Fr) (H:Hp) (a:Addr) (xs:List V):Prop:=bJ K H a xs∨fZ K H a xs
theorem aJ.seqT {K:Fr} {H H':Hp} {a:Addr} {xs:List V} (e:aJ H H') (h:fZ K H a xs):fZ K H' a xs:=by
 rcases h with (h | ⟨o,h⟩) | h
 ·exact .inl (.inl (e _ _ h))
 ·exact .inl (.inr ⟨o,e _ _ h⟩)
 ·exact .inr h
theorem aJ.seqA {K:Fr} {H H':Hp} {a:Addr} {xs:List V} (e:aJ H H') (h:zp K H a xs):zp K H' a xs:=h.elim (λh=>.inl (e.seq h)) λh=>.inr (e.seqT h)
noncomputable def nW (p:Addr) (H H':Hp):Prop:=∀b o,b≠p->H b=some o->H' b=some o
theorem nW.refl {p:Addr} (H:Hp):nW p H H:=λ_ _ _ e=>e
theorem nW.trans {p:Addr} {H H1 H2:Hp} (a:nW p H H1) (b:nW p H1 H2):nW p H H2:=λc o n e=>b c o n (a c o n e)
theorem nW.of_same {p:Addr} {H H1:Hp} (a:aJ H H1):nW p H H1:=λc o _ e=>a c o e
theorem nW.write {p:Addr} {H:Hp} {o:HO}:nW p H (upd H p o):=λb u n e=>by rw [aK n];exact e
theorem nW.seqT {K:Fr} {H H':Hp} {p a C dx:Addr} {fs:List (Str×V)} {xs:List V} (e:nW p H H') (hp:H p=some (.ins C dx fs)) (h:fZ K H a xs):fZ K H' a xs:=by
 rcases h with (h | ⟨o,h⟩) | h
 ·exact .inl (.inl (e _ _ (ym h hp (by intro z;cases z)) h))
 ·exact .inl (.inr ⟨o,e _ _ (ym h hp (by intro z;cases z)) h⟩)
 ·exact .inr h
theorem nW.seqL {K:Fr} {H H':Hp} {p a C dx:Addr} {fs:List (Str×V)} {xs:List V} (e:nW p H H') (hp:H p=some (.ins C dx fs)) (h:bJ K H a xs):bJ K H' a xs:=by
 rcases h with (h | ⟨o,h⟩) | h
 ·exact .inl (.inl (e _ _ (ym h hp (by intro z;cases z)) h))
 ·exact .inl (.inr ⟨o,e _ _ (ym h hp (by intro z;cases z)) h⟩)
 ·exact .inr h
theorem nW.seqA {K:Fr} {H H':Hp} {p a C dx:Addr} {fs:List (Str×V)} {xs:List V} (e:nW p H H') (hp:H p=some (.ins C dx fs)) (h:zp K H a xs):zp K H' a xs:=h.elim (λh=>.inl (e.seqL hp h)) λh=>.inr (e.seqT hp h)
theorem UV {K:Fr} {H:Hp} {a:Addr} {xs:List V} {Q:VK} (h:zp K H a xs) (k:∀H' u,aJ H H'->fZ K H' u xs->Q (.ref u) H'):
  ∃p ys,[V.ref a]=[.ref p]/\((bJ K H p ys/\∀l,H l=none->Q (.ref l) (upd H l (.tup ys)))∨(fZ K H p ys/\Q (.ref p) H)):=by
 rcases h with h | h
 ·exact⟨a,xs,Y,.inl ⟨h,λl hl=>k _ _ (aB hl) (fZ.of ao)⟩⟩
 ·exact⟨a,xs,Y,.inr ⟨h,k _ _ (aJ.refl _) h⟩⟩
theorem xJ {X:Cx}:pq X (.type "tuple") (λxs H Q=>∃a ys,xs=[.ref a]/\zp X.K H a ys/\∀H' u,aJ H H'->fZ X.K H' u ys->Q (.ref u) H'):=by intro pins s σ H xs us Q I r h;obtain⟨a,ys,rfl,hq,q⟩:=h;exact Hs pins s σ H _ us Q I r (UV hq q)
section
variable {es:List Expr} {env:Env}
theorem cU {a b c}:starEach (.Tuple a b c:: es) env=(false,eval (.Tuple a b c) env):: starEach es env:=rfl
theorem bj {a b}:starEach (.List a b:: es) env=(false,eval (.List a b) env):: starEach es env:=rfl
theorem az {a b c}:starEach (.Constant a b c:: es) env=(false,eval (.Constant a b c) env):: starEach es env:=rfl
theorem aj {a b}:starEach (.Name a b:: es) env=(false,eval (.Name a b) env):: starEach es env:=rfl
theorem aX {a b c d}:starEach (.Call a b c d:: es) env=(false,eval (.Call a b c d) env):: starEach es env:=rfl
theorem bM {a b c d}:starEach (.BinOp a b c d:: es) env=(false,eval (.BinOp a b c d) env):: starEach es env:=rfl
theorem aV {a b c}:starEach (.Attribute a b c:: es) env=(false,eval (.Attribute a b c) env):: starEach es env:=rfl
theorem aG {a b c}:starEach (.Subscript a b c:: es) env=(false,eval (.Subscript a b c) env):: starEach es env:=rfl
theorem ie {a b c d}:starEach (.ListComp a b c d:: es) env=(false,eval (.ListComp a b c d) env):: starEach es env:=rfl
theorem Ow {a b c d}:starEach (.IfExp a b c d:: es) env=(false,eval (.IfExp a b c d) env):: starEach es env:=rfl
end
section
variable {X:Cx} {scope:Scope} {x:Str} {js:List Nat} {cl:List (Str×Addr)} {C:Addr} {s:Shared} {H:Hp} {ex:List Addr}
end
noncomputable def dw (H:Hp):List Addr->List (List V)->Prop:=Paired λr vs=>H r=some (.tup vs)
theorem dw.same {H H':Hp} (s:aJ H H'):∀{rs:List Addr} {vss:List (List V)},dw H rs vss->dw H' rs vss
 | _,_,.nil=>.nil
 | _,_,.cons h t=>.cons (s _ _ h) (dw.same s t)
theorem dw.append {H:Hp}:∀{rs rs':List Addr} {vss vss':List (List V)},dw H rs vss->dw H rs' vss'->dw H (rs ++ rs') (vss ++ vss')
 | _,_,_,_,.nil,q=>q
 | _,_,_,_,.cons h t,q=>.cons h (dw.append t q)
section
variable {X:Cx}
end
section
variable {X:Cx}
end
section
variable {P:Program} {w:World} {K:Fr} {mg:Str->Option Value} {base:Heap} {N:List Str} {qual:Str} {scope:Scope} {f:Addr} {cd:Value} {A:Around} {outer:List Env} {s:Shared} {H:Hp} {E:XK}
end
structure U7 (K:Fr) (C:Addr):Prop where
 ex:∃(nm q:Str) (Nn:Addr) (bs bm bmB:List Value) (hdct:Bool) (sn:List Str) (sub:List Value) (ab:Bool) (col:Option Bool) (dd:Option Addr) (k0 k1 k2 k3 k5:Option Value) (B newId initId:String) (mN:Str->Option Value),
  ExcBaseFacts B newId initId bmB/\bm.contains (.type "BaseException")=true/\mN "__init__" =none/\
  ∀h:Heap,K.In h->h.get? C=some (excClassObj nm q C Nn bs bm hdct sn sub ab col dd k0 k1 k2 k3 k5 newId)/\h.Ns Nn mN/\OwnTail h bmB bm
section
variable {P:Program} {w:World} {K:Fr} {mg:Str->Option Value} {base:Heap} {N:List Str} {qual:Str} {scope:Scope} {f:Addr} {cd:Value} {A:Around} {outer:List Env} {s:Shared} {H:Hp} {E:XK}
end
section
variable {X:Cx} {pins:List (Addr×Obj)} {σ:St} {H:Hp} {s:Shared} {E:Value->Shared->Prop}
end
section
variable {X:Cx} {pins:List (Addr×Obj)} {σ:St} {H:Hp} {s:Shared}
end
structure ExcAt (K:Fr) (C:Addr):Prop where
 ex:∃(nm q:Str) (Nn:Addr) (bs bm:List Value) (hdct:Bool) (sn:List Str) (sub:List Value) (ab:Bool) (col:Option Bool) (dd:Option Addr) (k0 k1 k2 k3 k5:Option Value) (newId:String),bm.contains (.type "BaseException")=true/\
  ∀h:Heap,K.In h->h.get? C=some (excClassObj nm q C Nn bs bm hdct sn sub ab col dd k0 k1 k2 k3 k5 newId)
section
variable {prog:Program} {w:World} {A:Around} {E:Value->Shared->Prop} {h:Heap} {g:Array GenState} {d:Drawn} {t:Nat} {os:OsState} {a:Addr} {o:Obj} {C:Addr}
end
noncomputable abbrev NK:List Value:=[.type "ValueError",.type "Exception",.type "BaseException",.type "object"]
noncomputable def SM (K:Fr) (N:Addr) (x:Str):Option Value:=match K.lookup N with
 | some o=>(match o.data with | .dict es _=>nsFind es x | _=>none)
 | none=>none
theorem Vl {K:Fr} {h:Heap} {N:Addr} (X:K.In h) (ok:PySem.W.nsOkIn K N=true):h.nsMap N=SM K N:=by
 funext x
 unfold PySem.W.nsOkIn at ok;split at ok
 ·rename_i look;unfold Heap.nsMap SM;rw [X _ _ look,look]
 ·cases ok
theorem UJ {K:Fr} {N:Addr} {x:Str} (e:PySem.W.nsIn K N x=some none):SM K N x=none:=by
 unfold PySem.W.nsIn at e;split at e
 ·rename_i look;split at e
  ·cases e
  ·rename_i f;unfold SM;rw [look];show nsFind _ _=none;unfold nsFind findBy;rw [<-Array.find?_toList,f];rfl
 ·cases e
theorem Jg {K:Fr}:∀{l:List Value},PySem.W.tailIn K NK l=true->l.contains (.type "BaseException")=true
 | [],e=>by simp [PySem.W.tailIn,NK] at e
 | v:: r,e=>by
  unfold PySem.W.tailIn at e;rcases Bool.or_eq_true_iff.mp e with z | z
  ·rw [beq_iff_eq.mp z];decide +kernel
  ·split at z
   ·split at z
    ·simp only [and_eq_true] at z;rw [List.contains_cons,Jg z.2,Bool.or_true]
    ·cases z
   ·cases z
theorem U7.ofIn {K:Fr} {C:Addr} (z:PySem.W.excIn K C NK "ValueError.__new__" =true):U7 K C:=by
 unfold PySem.W.excIn at z;split at z
 ·rename_i od kd slo look;split at z
  ·rename_i C1 up a0 a1 a2 a3 nid a5 em es;simp only [and_eq_true,beq_iff_eq,Bool.not_eq_true'] at z;obtain⟨⟨⟨⟨⟨x1,x2⟩,x3⟩,x4⟩,x5⟩,x6⟩:=z;subst x1 x2;obtain⟨g1,g2,g3,g4,g5,g6,g7,g8,g9,g10,g11⟩:=kd;dsimp only at em x3 x5 x6;subst em x3;have hs:slo= #[a0,a1,a2,a3,some (.builtin "ValueError.__new__"),a5]:=by obtain⟨l⟩:=slo;simp only at es;rw [es]
   subst hs;refine⟨⟨g1,g5,g4,g2,up,NK,g6,g7,g8,g9,g10,od,a0,a1,a2,a3,a5, "ValueError", "ValueError.__new__", "ValueError.__init__",SM K g4,PySem.F.excBase_ValueError,Jg x4,UJ x6,λh X=>⟨X _ _ look,?_,PySem.W.tail_of_in X x4⟩⟩⟩;rw [<-Vl X x5];exact .of_isNs (PySem.W.isNs_of_in X x5)
  ·cases z
 ·cases z
structure XcK (K:Fr) (C:Addr):Prop where
 cls:(PySem.W.clsIn K C).isSome=true
 ga:PySem.W.findIn K (.ref C) "__getattribute__" =some (some (.builtin "BaseException.__getattribute__"))
 gn:PySem.W.findIn K (.ref C) "__getattr__" =some none
 cl:PySem.W.findIn K (.ref C) "__class__" =some (some (.builtin "object.__class__"))
 ob:PySem.W.subIn K (.ref C) (.type "object")=some true
 be:PySem.W.subIn K (.ref C) (.type "BaseException")=some true
section
variable {P:Program} {w:World} {K:Fr} {mg:Str->Option Value} {base:Heap}
end
end L2
namespace L2
open PySem
section
variable {prog:Program} {w:World} {A:Around} {E:Value->Shared->Prop} {h:Heap} {g:Array GenState} {d:Drawn} {t:Nat} {os:OsState}
variable {nm q:Str} {C N:Addr} {bs bm bmB:List Value} {hdct:Bool} {sn:List Str} {sub:List Value} {ab:Bool} {col:Option Bool} {dd:Option Addr} {k0 k1 k2 k3 k5:Option Value} {B newId initId:String}
end
section
variable {prog:Program} {w:World} {A:Around} {E:Value->Shared->Prop} {h:Heap} {g:Array GenState} {d:Drawn} {t:Nat} {os:OsState}
variable {nm q:Str} {C N:Addr} {bs bm bmB:List Value} {hdct:Bool} {sn:List Str} {sub:List Value} {ab:Bool} {col:Option Bool} {dd:Option Addr} {k0 k1 k2 k3 k5:Option Value} {B newId initId:String}
end
end L2
namespace L2
open PySem Builtin Builtin.ObjectAttr
noncomputable def J0:List Value->Bool
 | .ref _:: r=>J0 r
 | l=>l == NK
structure XfK (K:Fr) (C:Addr):Prop where
 xc:XcK K C
 sa:PySem.W.findIn K (.ref C) "__setattr__" =some (some (.builtin "object.__setattr__"))
 ov:(PySem.W.clsIn K C).any (λcd=>J0 cd.mro && cd.hasDict)=true
section
variable {prog:Program} {w:World} {A:Around} {E:Value->Shared->Prop} {h:Heap} {g:Array GenState} {d:Drawn} {t:Nat} {os:OsState} {x C:Addr} {K:Fr} {mA:Str->Option Value} {name:Str} {v:Value}
end
end L2
namespace L2
open PySem PySem.Spec PyProof.Rows
section
variable {X:Cx} {pins:List (Addr×Obj)} {σ:St} {H:Hp} {s:Shared} {a C dx:Addr} {fs:List (Str×V)} {f:Str} {v:V} {A:Around} {E:Value->Shared->Prop}
end
section
variable {X:Cx} {e o value:Expr} {f:Str} {pos pos':Pos} {ta tv:TE}
end
noncomputable def Vw (K:Fr) (C f:Addr):Bool:=match K.lookup C with
 | some o=>(match o.data with
  | .cls kd=>o.cls == .type "type" && kd.mro.head? == some (.ref C) && PySem.W.tailIn K NK kd.mro.tail && !kd.hasDel && PySem.W.nsOkIn K kd.ns && SM K kd.ns "__init__" == some (.ref f) && o.slots.size == 6 && o.slots[4]? == some (some (.builtin "ValueError.__new__"))
  | _=>false)
 | none=>false
structure GZ (K:Fr) (C f:Addr):Prop where
 ex:∃(nm q:Str) (Nn:Addr) (bs bm:List Value) (hdct:Bool) (sn:List Str) (sub:List Value) (ab:Bool) (col:Option Bool) (dd:Option Addr) (k0 k1 k2 k3 k5:Option Value) (mN:Str->Option Value),
  mN "__init__" =some (.ref f)/\∀h:Heap,K.In h->h.get? C=some (excClassObj nm q C Nn bs bm hdct sn sub ab col dd k0 k1 k2 k3 k5 "ValueError.__new__")/\h.Ns Nn mN/\OwnTail h NK bm
theorem abo {α:Type}:∀{l:List α},l.length=6->∃a b c d e f,l=[a,b,c,d,e,f]
 | [a,b,c,d,e,f],_=>⟨a,b,c,d,e,f,rfl⟩
theorem GZ.ofIn {K:Fr} {C f:Addr} (z:Vw K C f=true):GZ K C f:=by
 unfold Vw at z;split at z
 ·rename_i o look;obtain⟨oc,od,dt,slo⟩:=o;dsimp only at z;split at z
  ·rename_i kd;simp only [and_eq_true,beq_iff_eq,Bool.not_eq_true'] at z;obtain⟨⟨⟨⟨⟨⟨⟨x1,x2⟩,x3⟩,x4⟩,x5⟩,x6⟩,x7⟩,x8⟩:=z;subst x1;obtain⟨g1,g2,g3,g4,g5,g6,g7,g8,g9,g10,g11⟩:=kd;dsimp only at x2 x3 x4 x5 x6;obtain⟨sl⟩:=slo;obtain⟨a0,a1,a2,a3,a5,rfl⟩:∃a0 a1 a2 a3 a5,sl=[a0,a1,a2,a3,some (.builtin "ValueError.__new__"),a5]:=by obtain⟨a0,a1,a2,a3,a4,a5,rfl⟩:=abo (show sl.length=6 from x7);have e:a4=some (.builtin "ValueError.__new__"):=Option.some.inj (show some a4=_ from x8);subst e;exact⟨a0,a1,a2,a3,a5,Y⟩
   obtain⟨up,rfl⟩:∃up,g3=.ref C:: up:=by
    cases g3 with
    | nil=>cases x2
    | cons v r=>cases (show some v=some (Value.ref C) from x2);exact⟨r,rfl⟩
   subst x4;refine⟨⟨g1,g5,g4,g2,up,g6,g7,g8,g9,g10,od,a0,a1,a2,a3,a5,SM K g4,x6,λh X=>⟨X _ _ look,?_,PySem.W.tail_of_in X x3⟩⟩⟩;rw [<-Vl X x5];exact .of_isNs (PySem.W.isNs_of_in X x5)
  ·cases z
 ·cases z
section
variable {X:Cx} {CX:Ik} {k:Nat} {C B f:Addr} {fd:FuncData} {ps:List Str} {sp:Sp} {E:XK} {x:Str} {p pos apos:Pos} {e:Expr} {es:List Expr} {t:TA}
end
section
variable {X:Cx} {CX:Ik} {k:Nat} {C f:Addr} {fd:FuncData} {ps:List Str} {sp:Sp} {E:XK} {x:Str} {p pos:Pos} {e:Expr} {es:List Expr} {t:TA}
end
section
variable {X:Cx} {C:Addr} {x:Str} {p pos:Pos} {e:Expr} {es:List Expr} {t:TA}
end
end L2
namespace L2
open PySem
noncomputable def YQ (K:Fr) (C:Addr):Bool:=(PySem.W.clsIn K C).isSome && PySem.W.findIn K (.ref C) "__getattribute__" == some (some (.builtin "BaseException.__getattribute__")) && PySem.W.findIn K (.ref C) "__getattr__" == some none &&
 PySem.W.findIn K (.ref C) "__class__" == some (some (.builtin "object.__class__")) && PySem.W.subIn K (.ref C) (.type "object") == some true && PySem.W.subIn K (.ref C) (.type "BaseException") == some true
theorem XcK.ofIn {K:Fr} {C:Addr} (h:YQ K C=true):XcK K C:=by simp only [YQ,and_eq_true,beq_iff_eq] at h;obtain⟨⟨⟨⟨⟨a,b⟩,c⟩,d⟩,e⟩,f⟩:=h;exact⟨a,b,c,d,e,f⟩
noncomputable def aaG (K:Fr) (C:Addr):Bool:=YQ K C && PySem.W.findIn K (.ref C) "__setattr__" == some (some (.builtin "object.__setattr__")) && (PySem.W.clsIn K C).any (λcd=>J0 cd.mro && cd.hasDict)
theorem XfK.ofIn {K:Fr} {C:Addr} (h:aaG K C=true):XfK K C:=by simp only [aaG,and_eq_true,beq_iff_eq] at h;obtain⟨⟨a,b⟩,c⟩:=h;exact⟨.ofIn a,b,c⟩
end L2
namespace L2
open PySem PySem.Spec PyProof.Rows
section
variable {P:Program} {w:World} {K:Fr} {mg:Str->Option Value} {base:Heap} {N:List Str} {qual:Str} {scope:Scope} {f:Addr} {cd:Value} {A:Around} {outer:List Env} {s:Shared} {H:Hp} {E:XK}
end
section
variable {M:Model} {A:Around} {E:Value->Shared->Prop} {s:Shared} {env:Env} {nm q:Str} {C N:Addr} {bs bm:List Value} {hdct:Bool} {sn:List Str} {sub:List Value} {ab:Bool} {col:Option Bool} {dd:Option Addr} {k0 k1 k2 k3 k5:Option Value} {newId:String}
end
section
variable {P:Program} {w:World} {K:Fr} {mg:Str->Option Value} {base:Heap} {N:List Str} {qual:Str} {scope:Scope} {f:Addr} {cd:Value} {A:Around} {outer:List Env} {s:Shared} {H:Hp} {E:XK}
end
section
variable {M:Model} {A:Around} {E:Value->Shared->Prop} {nm q:Str} {C N:Addr} {bs bm:List Value} {hdct:Bool} {sn:List Str} {sub:List Value} {ab:Bool} {col:Option Bool} {dd:Option Addr} {k0 k1 k2 k3 k5:Option Value} {newId:String}
end
section
variable {P:Program} {w:World} {K:Fr} {mg:Str->Option Value} {base:Heap}
end
theorem GZ.at {K:Fr} {C f:Addr} (c:GZ K C f) {h:Heap} (X:K.In h):ExcAt K C:=by obtain⟨nm,q,Nn,bs,bm,hdct,sn,sub,ab,col,dd,k0,k1,k2,k3,k5,mN,_,hf⟩:=c.ex;exact⟨⟨nm,q,Nn,bs,bm,hdct,sn,sub,ab,col,dd,k0,k1,k2,k3,k5,_,(hf h X).2.2.hasType (X:= "BaseException") (b:=true) (by decide +kernel),λh X=>(hf h X).1⟩⟩
noncomputable def iOr (a b:TI):TI:=λσ H R=>a σ H R∨b σ H R
theorem Yp {X:Cx} {tg it:Expr} {a b:TI} (h1:PI X tg it a) (h2:PI X tg it b):PI X tg it (iOr a b):=λpins s σ H R I h=>h.elim (h1 pins s σ H R I) (h2 pins s σ H R I)
theorem Lj {js:List Nat} {tt:TT} {te:TE} {σ:St} {Qd:List V->Hp->Prop} {K:Fr} {a:Addr} {xs:List V} {H:Hp} (Pv:Nat->List V->Hp->Prop) (hn:xs.length<=sizeLine) (h0:Pv 0 [] H) (hl:∀i ys H,Pv i ys H->ys.length<=i) (hq:∀i ys H,i<=xs.length->Pv i ys H->fZ K H a xs)
  (hs:∀i x ys H,xs[i]?=some x->Pv i ys H->tt (some x:: fj σ js) H λb H4=>if b=true then te (some x:: fj σ js) H4 λy H5=>Pv (i+1) (ys ++ [y]) H5 else Pv (i+1) ys H4)
  (hd:∀ys H,Pv xs.length ys H->Qd ys H):CompEnd js tt te σ Qd (Zw K a) H:=by
 refine⟨λi m ys H=>m=xs.length - i/\i<=xs.length/\Pv i ys H,⟨xs.length,by simp,zero_le _,h0⟩,?_⟩;rintro i m ys H ⟨rfl,hi,p⟩;have hlen:=hl i ys H p;have q:=hq i ys H hi p;by_cases hlt:i <xs.length
 ·refine .inr ⟨⟨xs,xs[i],q,by simp [hlt]⟩,by omega,Pv (i+1),λys' H' p'=>⟨xs.length - (i+1),by omega,Y,hlt,p'⟩,λx H' y=>?_⟩;obtain⟨e,y⟩:=y;subst e;exact hs i x ys _ (y xs q) p
 ·have e:i=xs.length:=by omega
  subst e;exact .inl ⟨⟨xs,q,le_refl _⟩,by omega,hd ys H p⟩
theorem VL {js:List Nat} {tt:TT} {te:TE} {σ σ0:St} {Qd:List V->Hp->Prop} {K:Fr} {a:Addr} {xs:List V} {H:Hp} {tl:TE} (ht:∀R:V->Hp->Prop,R (.ref a) H->tl σ0 H R) (ha:zp K H a xs) (Pv:Nat->List V->Prop) (hn:xs.length<=sizeLine) (h0:Pv 0 []) (hl:∀i ys,Pv i ys->ys.length<=i)
  (hs:∀i x ys,xs[i]?=some x->Pv i ys->tt (some x:: fj σ js) H λb H4=>if b=true then te (some x:: fj σ js) H4 λy H5=>H5=H/\Pv (i+1) (ys ++ [y]) else H4=H/\Pv (i+1) ys)
  (hd:∀ys,Pv xs.length ys->Qd ys H):iOr (Yb K tl) (aaR K tl) σ0 H (CompEnd js tt te σ Qd):=by
 rcases ha with ha | ha
 ·refine .inl (ht _ ⟨a,Y,⟨xs,ha⟩,fB (K:=K) (a:=a) (xs:=xs) (λi ys H'=>H'=H/\Pv i ys) hn ⟨Y,h0⟩ (λi ys _ z=>hl i ys z.2) (λi ys H' _ z=>by rw [z.1];exact ha) (λi x ys H' hx z=>?_) λys H' z=>?_⟩)
  ·obtain⟨rfl,z⟩:=z;exact hs i x ys hx z
  ·obtain⟨rfl,z⟩:=z;exact hd ys z
 ·refine .inr (ht _ ⟨a,Y,⟨xs,ha⟩,Lj (K:=K) (a:=a) (xs:=xs) (λi ys H'=>H'=H/\Pv i ys) hn ⟨Y,h0⟩ (λi ys _ z=>hl i ys z.2) (λi ys H' _ z=>by rw [z.1];exact ha) (λi x ys H' hx z=>?_) λys H' z=>?_⟩)
  ·obtain⟨rfl,z⟩:=z;exact hs i x ys hx z
  ·obtain⟨rfl,z⟩:=z;exact hd ys z
theorem zp.len {K:Fr} {H:Hp} {a:Addr} {xs:List V} (h:zp K H a xs):ZD K (.ref a) H xs.length:=h.elim (λh=>.inl ⟨xs,h,rfl⟩) λh=>.inr ⟨xs,h,rfl⟩
theorem Ge {X:Cx} {K:Fr} (hK:X.K=K):SJ X (YJ K):=by subst hK;exact bw
theorem ur {X:Cx} {K:Fr} (hK:X.K=K):SJ X (Ze K):=by subst hK;exact cT
section
variable {P:Program} {w:World} {K:Fr} {mg:Str->Option Value} {base:Heap} {N:List Str} {qual:Str} {scope:Scope} {f:Addr} {cd:Value} {A:Around} {outer:List Env} {s:Shared} {H:Hp} {E:XK}
end
section
variable {κ:Type} [DecidableEq κ]
noncomputable def cj (kvs:List (κ×V)) (k:κ):Option V:=(kvs.find? λkv=>decide (kv.1=k)).map (·.2)
noncomputable def putK (kvs:List (κ×V)) (k:κ) (v:V):List (κ×V):=
 if (kvs.any λkv=>decide (kv.1=k))=true then kvs.map (λkv=>if kv.1=k then(kv.1,v) else kv) else kvs ++ [(k,v)]
theorem iC {p:κ×V} {r:List (κ×V)} {k:κ} (e:p.1=k):cj (p:: r) k=some p.2:=by simp [cj,find?_cons,e]
theorem gM {p:κ×V} {r:List (κ×V)} {k:κ} (e:¬p.1=k):cj (p:: r) k=cj r k:=by simp [cj,find?_cons,e]
theorem tY (k:κ):∀kvs:List (κ×V),(kvs.any λkv=>decide (kv.1=k))=(cj kvs k).isSome
 | []=>rfl
 | p:: r=>by
  rw [any_cons];by_cases e:p.1=k
  ·simp only [iC e,decide_eq_true e,Bool.true_or,Option.isSome_some]
  ·rw [gM e,decide_eq_false e,Bool.false_or];exact tY k r
theorem Nb (k j:κ) (y:V):∀kvs:List (κ×V),cj (kvs.map λkv=>if kv.1=k then(kv.1,y) else kv) j=(cj kvs j).map λx=>if j=k then y else x
 | []=>rfl
 | p:: r=>by
  have ih:=Nb k j y r;rw [map_cons];by_cases h:p.1=k
  ·rw [if_pos h];by_cases e:p.1=j
   ·rw [iC (p:=(p.1,y)) e,iC e,map_some,if_pos (e.symm.trans h)]
   ·rw [gM (p:=(p.1,y)) e,gM e,ih]
  ·rw [if_neg h];by_cases e:p.1=j
   ·rw [iC (p:=p) e,iC e,map_some,if_neg (λz=>h (e.trans z))]
   ·rw [gM (p:=p) e,gM e,ih]
theorem Il (k j:κ) (y:V):∀kvs:List (κ×V),cj kvs k=none->cj (kvs ++ [(k,y)]) j=if j=k then some y else cj kvs j
 | [],_=>by
  by_cases e:k=j
  ·rw [if_pos e.symm];exact iC (p:=(k,y)) e
  ·rw [if_neg (λz=>e z.symm)];exact gM (p:=(k,y)) e
 | p:: r,hn=>by
  rw [List.cons_append];have hk:¬p.1=k:=λz=>by rw [iC z] at hn;cases hn
  rw [gM hk] at hn;have ih:=Il k j y r hn;by_cases e:p.1=j
  ·rw [iC e,iC e,if_neg (λz=>hk (e.trans z))]
  ·rw [gM e,gM e,ih]
theorem S6 (kvs:List (κ×V)) (k j:κ) (y:V):cj (putK kvs k y) j=if j=k then some y else cj kvs j:=by
 unfold putK;by_cases a:(kvs.any λkv=>decide (kv.1=k))=true
 ·rw [if_pos a,Nb];rw [tY] at a;by_cases e:j=k
  ·obtain⟨x,hx⟩:=isSome_iff_exists.mp a;rw [if_pos e,e,hx,map_some,if_pos rfl]
  ·rw [if_neg e];cases cj kvs j with
   | none=>rfl
   | some x=>rw [map_some,if_neg e]
 ·rw [if_neg a];refine Il k j y kvs ?_;rw [tY] at a;cases q:cj kvs k with
  | none=>rfl
  | some x=>rw [q] at a;exact(a rfl).elim
theorem ou (kvs:List (κ×V)) (k:κ) (v:V):(putK kvs k v).length<=kvs.length+1:=by
 unfold putK;split
 ·rw [length_map];omega
 ·rw [length_append,length_cons,length_nil];omega
theorem j7 {kvs:List (κ×V)} {k:κ} (v:V) (h:cj kvs k=none):putK kvs k v=kvs ++ [(k,v)]:=by unfold putK;rw [tY,h];exact if_neg (by decide)
theorem uZ.isSome_eq {o:Option V} {u:Option Value} (r:uZ o u):o.isSome=u.isSome:=by
 cases o with
 | none=>cases u with
  | none=>rfl
  | some _=>exact(show False from r).elim
 | some _=>cases u with
  | none=>exact(show False from r).elim
  | some _=>rfl
theorem uZ.getD {o:Option V} {u:Option Value} {d:V} {d':Value} (r:uZ o u) (rd:RelV d d'):RelV (o.getD d) (u.getD d'):=by
 cases o with
 | none=>cases u with
  | none=>exact rd
  | some _=>exact(show False from r).elim
 | some _=>cases u with
  | none=>exact(show False from r).elim
  | some _=>exact r
theorem KV.val {kvs:List (κ×V)} {vs:List (κ×Value)} (r:KV kvs vs) (k:κ):uZ (cj kvs k) (valueAt vs k):=by
 unfold KV at r;induction r with
 | nil=>exact True.intro
 | @cons p q ps qs h t ih=>
  obtain⟨h1,h2⟩:=h;by_cases e:p.1=k
  ·have e':q.1=k:=h1.symm.trans e;have b:valueAt (q:: qs) k=some q.2:=by simp [valueAt,find?_cons,e']
   rw [iC e,b];exact h2
  ·have e':¬q.1=k:=λz=>e (h1.trans z);have b:valueAt (q:: qs) k=valueAt qs k:=by simp [valueAt,find?_cons,e']
   rw [gM e,b];exact ih
theorem KV.any {kvs:List (κ×V)} {vs:List (κ×Value)} (r:KV kvs vs) (k:κ):(kvs.any λkv=>decide (kv.1=k))=vs.any λkv=>decide (kv.1=k):=by
 unfold KV at r;induction r with
 | nil=>rfl
 | cons h t ih=>rw [any_cons,any_cons,ih,h.1]
theorem KV.repl {kvs:List (κ×V)} {vs:List (κ×Value)} (r:KV kvs vs) (k:κ) {y:V} {u:Value} (ry:RelV y u):
  KV (kvs.map λkv=>if kv.1=k then(kv.1,y) else kv) (vs.map λkv=>if kv.1=k then(kv.1,u) else kv):=by
 unfold KV at r ⊢;induction r with
 | nil=>exact .nil
 | @cons p q ps qs h t ih=>
  rw [map_cons,map_cons];refine .cons ?_ ih;obtain⟨h1,h2⟩:=h;by_cases e:p.1=k
  ·rw [if_pos e,if_pos (h1.symm.trans e)];exact⟨h1,ry⟩
  ·rw [if_neg e,if_neg (λz=>e (h1.trans z))];exact⟨h1,h2⟩
theorem KV.put {kvs:List (κ×V)} {vs:List (κ×Value)} (r:KV kvs vs) (k:κ) {y:V} {u:Value} (ry:RelV y u):KV (putK kvs k y) (stored vs k u):=by
 unfold putK stored;rw [r.any k];by_cases e:(vs.any λkv=>decide (kv.1=k))=true
 ·rw [if_pos e,if_pos e];exact r.repl k ry
 ·rw [if_neg e,if_neg e];exact Paired.snoc r ⟨rfl,ry⟩
theorem KV.length {kvs:List (κ×V)} {vs:List (κ×Value)} (r:KV kvs vs):kvs.length=vs.length:=Paired.length r
end
theorem Fy {P:Program} {w:World} {k:Key} {u:Value} (r:RelV (kV k) u):(b8 P w).is k u=true:=by
 cases k with
 | inl i=>obtain⟨t,e⟩:=(show ∃t,u=Value.int i t from r);subst e;exact K8 P w i t
 | inr x=>obtain⟨t,e⟩:=(show ∃t,u=Value.str x t from r);subst e;exact nZ P w x t
theorem Je {P:Program} {w:World}:∀{ks:List Key} {us:List Value},Vals (ks.map kV) us->ItemsAre (b8 P w) ks us
 | [],_,r=>by rw [map_nil] at r;cases r;exact .nil
 | k:: ks,_,r=>by
  rw [map_cons] at r;cases r with
  | cons h t=>exact .cons (Fy h) (Je t)
noncomputable abbrev KT (H:Hp):List (List Key×V)->List (List Key×Addr×Value)->Prop:=Paired λp q=>p.1=q.1/\H q.2.1=some (.tup (p.1.map kV))/\RelV p.2 q.2.2
theorem KT.val {H:Hp} {kvs:List (List Key×V)} {xs:List (List Key×Addr×Value)} (r:KT H kvs xs) (k:List Key):uZ (cj kvs k) ((atKey xs k).map (·.2)):=by
 induction r with
 | nil=>exact True.intro
 | @cons p q ps qs h t ih=>
  obtain⟨h1,_,h2⟩:=h;by_cases e:p.1=k
  ·have e':q.1=k:=h1.symm.trans e;have b:atKey (q:: qs) k=some q.2:=by simp [atKey,find?_cons,e']
   rw [iC e,b];exact h2
  ·have e':¬q.1=k:=λz=>e (h1.trans z);have b:atKey (q:: qs) k=atKey qs k:=by simp [atKey,find?_cons,e']
   rw [gM e,b];exact ih
theorem KT.repl {H:Hp} {kvs:List (List Key×V)} {xs:List (List Key×Addr×Value)} (r:KT H kvs xs) (k:List Key) {y:V} {u:Value} (ry:RelV y u):
  KT H (kvs.map λkv=>if kv.1=k then(kv.1,y) else kv) (xs.map (putAt k u)):=by
 induction r with
 | nil=>exact .nil
 | @cons p q ps qs h t ih=>
  rw [map_cons,map_cons];refine .cons ?_ ih;obtain⟨h1,h2,h3⟩:=h;unfold putAt;by_cases e:p.1=k
  ·rw [if_pos e,if_pos (h1.symm.trans e)];exact⟨h1,h2,ry⟩
  ·rw [if_neg e,if_neg (λz=>e (h1.trans z))];exact⟨h1,h2,h3⟩
theorem KT.put {H:Hp} {kvs:List (List Key×V)} {xs:List (List Key×Addr×Value)} (r:KT H kvs xs) (k:List Key) {b:Addr} {y:V} {u:Value} (hb:H b=some (.tup (k.map kV))) (ry:RelV y u):
  KT H (putK kvs k y) (storedH xs k b u):=by
 have e:(kvs.any λkv=>decide (kv.1=k))=(atKey xs k).isSome:=by rw [tY,(r.val k).isSome_eq,isSome_map]
 unfold putK storedH;rw [e];by_cases q:(atKey xs k).isSome=true
 ·rw [if_pos q,if_pos q];exact r.repl k ry
 ·rw [if_neg q,if_neg q];exact Paired.snoc r ⟨rfl,hb,ry⟩
theorem KT.keeps {H H':Hp} {kvs:List (List Key×V)} {xs:List (List Key×Addr×Value)} (r:KT H kvs xs) (ht:∀b ys,H b=some (.tup ys)->H' b=some (.tup ys)):KT H' kvs xs:=
 Paired.mapP r λ_ _ z=>⟨z.1,ht _ _ z.2.1,z.2.2⟩
section
variable {P:Program} {w:World} {H:Hp} {h:Heap} {a:Addr}
theorem Yo {u:HO} (ok:xT P w H h) (e:Rd H a u):ig P w H h a u:=e.ok ok
theorem yr {kvs:List (Key×V)} (ok:xT P w H h) (e:Rd H a (.dK kvs)):kvs.length<=sizeLine/\(a == sysModules)=false/\∃vs,KV kvs vs/\h.DictOf (b8 P w) a vs:=
 show ig P w H h a (.dK kvs) from Yo ok e
theorem XS {kvs:List (Key×V)} (ok:xT P w H h) (e:H a=some (.dK kvs)):kvs.length<=sizeLine/\(a == sysModules)=false/\∃vs,KV kvs vs/\h.DictOf (b8 P w) a vs:=yr ok (.inl e)
theorem Be {ks:List Key} (ok:xT P w H h) (e:H a=some (.tup (ks.map kV))):(tupleKind (b8 P w)).is h ks a:=by obtain⟨_,its,r,o,h1,h2,n,h3⟩:=(show ig P w H h a (.tup (ks.map kV)) from ok a _ e);exact⟨o,its.toArray,n,h1,h2,h3,by simpa using Je r⟩
theorem Gm {kvs:List (List Key×V)} (ok:xT P w H h) (e:Rd H a (.dT kvs)):kvs.length<=sizeLine/\(a == sysModules)=false/\
  ∃xs,KT H kvs xs/\h.DictOfH (tupleKind (b8 P w)) a xs:=by
 obtain⟨z,y,xs,r,o,es,ep,h1,h2,h3,h4,h5⟩:=(show ig P w H h a (.dT kvs) from Yo ok e);refine⟨z,y,xs,r,o,es,ep,h1,h2,h3,h4,λx hx=>?_,h5⟩;have all:∀{l:List (List Key×V)} {m:List (List Key×Addr×Value)},KT H l m->∀x∈m,(tupleKind (b8 P w)).is h x.1 x.2.1:=by
  intro l m q;induction q with
  | nil=>intro x hx;exact nomatch hx
  | @cons p q ps qs hq t ih=>
   intro x hx;rcases mem_cons.mp hx with e | hx
   ·subst e;exact Be ok (by rw [<-hq.1];exact hq.2.1)
   ·exact ih x hx
 exact all r x hx
theorem ZR {kvs:List (List Key×V)} (ok:xT P w H h) (e:H a=some (.dT kvs)):kvs.length<=sizeLine/\(a == sysModules)=false/\
  ∃xs,KT H kvs xs/\h.DictOfH (tupleKind (b8 P w)) a xs:=Gm ok (.inl e)
end
noncomputable def eE (H:Hp) (a:Addr) (y:V) (r:Option V):Prop:=
 (∃kvs k,Rd H a (.dK kvs)/\y=kV k/\r=cj kvs k)∨∃kvs k b,Rd H a (.dT kvs)/\y=.ref b/\H b=some (.tup (k.map kV))/\r=cj kvs k
noncomputable def pC (H:Hp) (a:Addr) (y v:V) (H':Hp):Prop:=
 (∃kvs k,H a=some (.dK kvs)/\y=kV k/\kvs.length <sizeLine/\H'=upd H a (.dK (putK kvs k v)))∨
 ∃kvs k b,H a=some (.dT kvs)/\y=.ref b/\H b=some (.tup (k.map kV))/\kvs.length <sizeLine/\H'=upd H a (.dT (putK kvs k v))
theorem eE.k {H:Hp} {a:Addr} {kvs:List (Key×V)} {k:Key} (e:H a=some (.dK kvs)):eE H a (kV k) (cj kvs k):=.inl ⟨kvs,k,.inl e,rfl,rfl⟩
theorem pC.k {H:Hp} {a:Addr} {kvs:List (Key×V)} {k:Key} {v:V} (e:H a=some (.dK kvs)) (hl:kvs.length <sizeLine):pC H a (kV k) v (upd H a (.dK (putK kvs k v))):=.inl ⟨kvs,k,e,rfl,hl,rfl⟩
section
variable {X:Cx} {pins:List (Addr×Obj)} {σ:St} {H:Hp} {s:Shared} {a:Addr} {y v:V} {u r:Value} {o:Option V} {A:Around} {E:Value->Shared->Prop}
theorem Inv.big (I:Inv X pins σ H s):sysModules <s.heap.objs.size:=by have h:mainGlobals <s.heap.objs.size:=(I.mod.glob.keeps I.bk).lt;exact Nat.lt_trans (by decide) h
theorem Iu {Q:Value->Shared->Prop} (hu:A.units+1 <cLine) (I:Inv X pins σ H s) (g:eE H a y (some v)) (ry:RelV y u) (h:∀w' s',Inv X pins σ H s'->RelV v w'->Q w' s'):
  wpAny (model X.prog X.w) A (getItem (.ref a) u) Q E s:=by
 rcases g with ⟨kvs,k,e,ey,l⟩ | ⟨kvs,k,b,e,ey,eb,l⟩
 ·subst ey;obtain⟨z,hd,vs,rel,dd⟩:=yr I.hok e;obtain⟨w',hw,rw'⟩:=uZ.some_of (v:=v) (o:=valueAt vs k) (by rw [l];exact rel.val k);exact wpAny_getItem_of (Fy ry) dd.mapOf hw (h w' _ (I.tok _) rw')
 ·subst ey;cases (show u=Value.ref b from ry);obtain⟨z,hd,xs,rel,dd⟩:=Gm I.hok e;obtain⟨w',hw,rw'⟩:=uZ.some_of (v:=v) (o:=(atKey xs k).map (·.2)) (by rw [l];exact rel.val k);obtain⟨p,hp,hp2⟩:=map_eq_some_iff.mp hw;refine wpAny_getItem_heap (tupleKind_room_in1 hu) (Be I.hok eb) dd hp ?_;rw [hp2];exact h w' _ (I.tok _) rw'
theorem aar {Q:Value->Shared->Prop} (hu:A.units+1 <cLine) (I:Inv X pins σ H s) (g:eE H a y o) (ry:RelV y u) (h:∀s',Inv X pins σ H s'->Q (.bool o.isSome) s'):
  wpAny (model X.prog X.w) A (compareOp .In u (.ref a)) Q E s:=by
 rcases g with ⟨kvs,k,e,ey,l⟩ | ⟨kvs,k,b,e,ey,eb,l⟩
 ·subst ey;obtain⟨z,hd,vs,rel,dd⟩:=yr I.hok e;refine wpAny_in_of (Fy ry) hd dd.mapOf ?_;rw [<-(rel.val k).isSome_eq,<-l];exact h _ (I.tok _)
 ·subst ey;cases (show u=Value.ref b from ry);obtain⟨z,hd,xs,rel,dd⟩:=Gm I.hok e;refine wpAny_in_heap (tupleKind_room_in1 hu) (Be I.hok eb) hd dd ?_;have q:=(rel.val k).isSome_eq;rw [isSome_map] at q;rw [<-q,<-l];exact h _ (I.tok _)
theorem Xu {Q:Value->Shared->Prop} (hu:A.units+1 <cLine) (I:Inv X pins σ H s) (g:eE H a y o) (ry:RelV y u) (h:∀s',Inv X pins σ H s'->Q (.bool (!o.isSome)) s'):
  wpAny (model X.prog X.w) A (compareOp .NotIn u (.ref a)) Q E s:=by
 rcases g with ⟨kvs,k,e,ey,l⟩ | ⟨kvs,k,b,e,ey,eb,l⟩
 ·subst ey;obtain⟨z,hd,vs,rel,dd⟩:=yr I.hok e;refine wpAny_notIn_of (Fy ry) hd dd.mapOf ?_;rw [<-(rel.val k).isSome_eq,<-l];exact h _ (I.tok _)
 ·subst ey;cases (show u=Value.ref b from ry);obtain⟨z,hd,xs,rel,dd⟩:=Gm I.hok e;refine wpAny_notIn_heap (tupleKind_room_in1 hu) (Be I.hok eb) hd dd ?_;have q:=(rel.val k).isSome_eq;rw [isSome_map] at q;rw [<-q,<-l];exact h _ (I.tok _)
theorem JS {h':Heap} {t':Nat} {ob:HO} (I:Inv X pins σ H s) (mu:Mut (H a)) (hs:Heap.SameBut a s.heap h') (he:∃q,h'.get? a=some q) (new:ig X.prog X.w (upd H a ob) h' a ob):
  Inv X pins σ (upd H a ob) { s with heap:=h',toks:=t' }:=
 I.write (x:=a) (e:=a) mu (.inl rfl) (λb q hb z=>(hs.2 b hb).trans z) he new
theorem Vt {P:Program} {w:World} {H':Hp} {h':Heap} {kvs:List (Key×V)} {vs:List (Key×Value)} (z:kvs.length<=sizeLine) (hd:(a == sysModules)=false) (rel:KV kvs vs) (dd:h'.DictOf (b8 P w) a vs):
  ig P w H' h' a (.dK kvs):=⟨z,hd,vs,rel,dd⟩
theorem Ja {H':Hp} {Q:Unit->Shared->Prop} (hu:A.units+1 <cLine) (I:Inv X pins σ H s) (g:pC H a y v H') (ry:RelV y u) (rv:RelV v r) (h:∀s',Inv X pins σ H' s'->Q () s'):
  wpAny (model X.prog X.w) A (setItem (.ref a) u r) Q E s:=by
 rcases g with ⟨kvs,k,e,ey,l,eH⟩ | ⟨kvs,k,b,e,ey,eb,l,eH⟩
 ·subst ey eH;obtain⟨z,hd,vs,rel,dd⟩:=XS I.hok e;have hz:vs.length<=sizeLine:=by rw [<-rel.length];exact z
  have hl:(putK kvs k v).length<=sizeLine:=by have:=ou kvs k v;omega
  refine wpAny_setItem_pairs (hsz:=hz) (Fy ry) dd λh' dd' hs=>h _ ?_;have he:∃q,h'.get? a=some q:=let ⟨q,_,_,hq,_⟩:=dd';⟨q,hq⟩
  exact JS I (by rw [e];exact True.intro) hs he (Vt hl hd (rel.put k rv) dd')
 ·subst ey eH;cases (show u=Value.ref b from ry);obtain⟨z,hd,xs,rel,dd⟩:=ZR I.hok e;have hz:xs.length<=sizeLine:=by rw [<-Paired.length rel];exact z
  have hl:(putK kvs k v).length<=sizeLine:=by have:=ou kvs k v;omega
  refine wpAny_setItem_heap (hsz:=hz) (tupleKind_room_in1 hu) (Be I.hok eb) dd λh' dd' hs=>h _ ?_;obtain⟨q,es,ep,hq,h2,h3,h4,_,h5⟩:=dd';refine JS I (by rw [e];exact True.intro) hs ⟨q,hq⟩ ⟨hl,hd,_,(rel.put k eb rv).keeps λc ys ec=>?_,q,es,ep,hq,h2,h3,h4,h5⟩;rw [aK (ym ec e (λz=>nomatch z))];exact ec
end
section
variable {X:Cx} {pins:List (Addr×Obj)} {σ:St} {H:Hp} {s:Shared} {a:Addr} {kvs:List (Key×V)} {k:Key} {u:Value} {A:Around} {E:Value->Shared->Prop}
end
noncomputable def Z6 (i:Expr):Prop:=∀ov iv,subscripted i false ov iv=operate [ov,iv] (getItem ov iv)
theorem W0 {prog:Program} {w:World} {A:Around} {E:Value->Shared->Prop} {s:Shared} {env:Env} {value slice:Expr} {pos:Pos} {T id:String} {Q:Value->Shared->Prop}
  (hl:typeLookup (.type T) "__getitem__" =pure (some (.builtin id))) (hs:Z6 slice)
  (h:wpAny (model prog w) A (eval value env) (λo s₁=>wpAny (model prog w) A (eval slice env) (λi s₂=>s₂.TypeIs o T/\wpAny (model prog w) A (getItem o i) Q E s₂) E s₁) E s):
  wpAny (model prog w) A (eval (.Subscript value slice pos) env) Q E s:=by
 refine Subscript_ (wpAny_mono h (λo s₁ h₁=>wpAny_mono h₁ (λi s₂ h₂=>?_) λ_ _ x=>x) λ_ _ x=>x);obtain⟨hT,h₂⟩:=h₂;unfold subscriptTail;refine wpAny_bind ?_;rw [getitemInPython_of_ne hT.not_modules];refine wpAny_bind (wpAny_specialOf hT hl ?_);have fin:wpAny (model prog w) A (subscripted slice false o i) (λr s₃=>wpAny (model prog w) A (letTemporaryGo value o r >>= λ_=>pure r) Q E s₃) E s₂:=by rw [hs o i];exact wpAny_operating (wpAny_mono h₂ (λr s₃ h₃=>wpAny_bind (wpAny_letTemporaryGo (wpAny_pure h₃))) λ_ _ x=>x)
 first
  | exact wpAny_pure (wpAny_bind fin)
  | exact wpAny_bind (wpAny_pure (wpAny_bind fin))
  | exact wpAny_bind fin
theorem Nv {X:Cx} {pins:List (Addr×Obj)} {σ:St} {H:Hp} {s:Shared} {a:Addr} {y:V} {o:Option V} (I:Inv X pins σ H s) (g:eE H a y o):s.TypeIs (.ref a) "dict" :=by
 rcases g with ⟨kvs,k,e,_,_⟩ | ⟨kvs,k,b,e,_,_,_⟩
 ·obtain⟨_,_,vs,_,dd⟩:=yr I.hok e;exact dd.typeIs
 ·obtain⟨_,_,xs,_,dd⟩:=Gm I.hok e;exact dd.typeIs
inductive Vk (Q:VK) (x:V) (y:V) (H2:Hp):Prop where
 | mk:∀a v,x=.ref a->eE H2 a y (some v)->Q v H2->Vk Q x y H2
noncomputable def aae (td ty:TE):TE:=λσ H Q=>td σ H λx H1=>ty σ H1 λy H2=>Vk Q x y H2
inductive X6 (Q:VK) (y:V) (x:V) (H2:Hp):Prop where
 | mk:∀a o,x=.ref a->eE H2 a y o->Q (.bl o.isSome) H2->X6 Q y x H2
noncomputable def abe (ty td:TE):TE:=λσ H Q=>ty σ H λy H1=>td σ H1 λx H2=>X6 Q y x H2
inductive Le (Q:VK) (y:V) (x:V) (H2:Hp):Prop where
 | mk:∀a o,x=.ref a->eE H2 a y o->Q (.bl (!o.isSome)) H2->Le Q y x H2
noncomputable def Wo (ty td:TE):TE:=λσ H Q=>ty σ H λy H1=>td σ H1 λx H2=>Le Q y x H2
inductive Th (D:Ends) (σ:St) (v:V) (x:V) (y:V) (H3:Hp):Prop where
 | mk:∀a H4,x=.ref a->pC H3 a y v H4->D.nx σ H4->Th D σ v x y H3
noncomputable def aaN (td ty tv:TE):TS:=λD σ H=>tv σ H λv H1=>td σ H1 λx H2=>ty σ H2 λy H3=>Th D σ v x y H3
inductive Ut (tv:TE) (rd:V->V->Hp->VK->Prop) (D:Ends) (σ:St) (x:V) (y:V) (H2:Hp):Prop where
 | mk:∀a v,x=.ref a->eE H2 a y (some v)->(tv σ H2 λy2 H3=>rd v y2 H3 λz H4=>∃H5,pC H4 a y z H5/\D.nx σ H5)->Ut tv rd D σ x y H2
noncomputable def ZF (td ty tv:TE) (rd:V->V->Hp->VK->Prop):TS:=λD σ H=>td σ H λx H1=>ty σ H1 λy H2=>Ut tv rd D σ x y H2
section
variable {X:Cx} {o i e value:Expr} {pos pos' tpos:Pos} {td ty tv:TE}
theorem cJ (hu:X.A.units+1 <cLine) (ho:PE X o td) (hi:PE X i ty) (hs:Z6 i):PE X (.Subscript o i pos) (aae td ty):=by intro pins s σ H Q I h;refine W0 PySem.F.slot_dict_getitem.lookup hs (eO (ho pins s σ H _ I h) λu s1 ⟨x,H1,I1,rx,q1⟩=>eO (hi pins s1 σ H1 _ I1 q1) λiv s2 hpt=>?_);obtain⟨y,H2,I2,ry,a,v,ex,g,q2⟩:=hpt;subst ex;obtain rfl:u=Value.ref a:=rx;exact⟨Nv I2 g,Iu hu I2 g ry λw' s3 I3 rw'=>⟨v,H2,I3,rw',q2⟩⟩
theorem Bv (hu:X.A.units+1 <cLine) (hi:PE X i ty) (ho:PE X o td):PC X .In i o (abe ty td):=by intro pins s σ H Q I h;refine eO (hi pins s σ H _ I h) λiv s1 ⟨y,H1,I1,ry,q1⟩=>eO (ho pins s1 σ H1 _ I1 q1) λu s2 hpt=>?_;obtain⟨x,H2,I2,rx,a,ov,ex,g,q2⟩:=hpt;subst ex;obtain rfl:u=Value.ref a:=rx;exact aar hu I2 g ry λs3 I3=>⟨.bl ov.isSome,H2,I3,Y,q2⟩
theorem xM (hu:X.A.units+1 <cLine) (hi:PE X i ty) (ho:PE X o td):PC X .NotIn i o (Wo ty td):=by intro pins s σ H Q I h;refine eO (hi pins s σ H _ I h) λiv s1 ⟨y,H1,I1,ry,q1⟩=>eO (ho pins s1 σ H1 _ I1 q1) λu s2 hpt=>?_;obtain⟨x,H2,I2,rx,a,ov,ex,g,q2⟩:=hpt;subst ex;obtain rfl:u=Value.ref a:=rx;exact Xu hu I2 g ry λs3 I3=>⟨.bl (!ov.isSome),H2,I3,Y,q2⟩
theorem gQ (hu:X.A.units+1 <cLine) (ho:PE X o td) (hi:PE X i ty) (hv:PE X value tv) (hs:swapsWith value (some (.Subscript o i pos')) pos.line X.env=pure false):
  PS X (.Assign [.Subscript o i pos'] value pos) (aaN td ty tv):=by
 intro pins s σ H D I h;refine wpAny_Assign_Subscript (eO (hv pins s σ H _ I h) λr s1 ⟨v,H1,I1,rv,q1⟩=>eO (ho pins s1 σ H1 _ I1 q1) λu s2 ⟨x,H2,I2,rx,q2⟩=>eO (hi pins s2 σ H2 _ I2 q2) λiv s3 hpt=>?_) hs;obtain⟨y,H3,I3,ry,a,H4,ex,g,q3⟩:=hpt;subst ex;obtain rfl:u=Value.ref a:=rx;exact Ja hu I3 g ry rv λs4 I4=>⟨σ,H4,I4,q3⟩
theorem Qo {op:Operator} {rd:V->V->Hp->VK->Prop} (hu:X.A.units+1 <cLine) (ho:PE X o td) (hi:PE X i ty) (hv:PE X value tv) (hop:Z3 X op rd)
  (ha:∀ov iv new,augStore i ov iv new=(do holding [new,ov,iv] (setItem ov iv new);release [new,ov,iv] [];pure .next)):PS X (.AugAssign (.Subscript o i tpos) op value pos) (ZF td ty tv rd):=by
 intro pins s σ H D I h;refine wpAny_AugAssign_SubscriptAny (eO (ho pins s σ H _ I h) λu s1 ⟨x,H1,I1,rx,q1⟩=>eO (hi pins s1 σ H1 _ I1 q1) λiv s2 hpt=>?_) ha;obtain⟨y,H2,I2,ry,a,v,ex,g,q2⟩:=hpt;subst ex;obtain rfl:u=Value.ref a:=rx;refine Iu hu I2 g ry λw' s3 I3 rw'=>eO (hv pins s3 σ H2 _ I3 q2) λw2 s4 ⟨y2,H3,I4,ry2,q3⟩=>eO (hop pins s4 σ H3 v y2 w' w2 _ I4 rw' ry2 q3) λw3 s5 hpt=>?_;obtain⟨z,H4,I5,rz,H5,g5,q4⟩:=hpt;exact Ja hu I5 g5 ry rz λs6 I6=>⟨σ,H5,I6,q4⟩
end
theorem Nk {P:Program} {w:World} {H:Hp} (h:Heap) (hb:sysModules <h.objs.size):ig P w H (h.push { cls:=.type "dict",data:=.dict #[] }) h.objs.size (.dK []):=
 ⟨zero_le _,beq_eq_false_iff_ne.mpr (Ne.symm (ne_of_lt hb)),[],.nil,Heap.DictOf.new h⟩
noncomputable def Zn:TE:=λ_ H Q=>∀p,H p=none->Q (.ref p) (upd H p (.dK []))
section
variable {X:Cx} {pos:Pos}
theorem gO:PE X (.Dict [] [] pos) Zn:=λpins s σ H Q I h=>
 wpAny_Dict_empty ⟨.ref s.heap.objs.size,_,I.laid (a:=s.heap.objs.size) (o:=.dK []) (t':=s.toks) (λ_ _ q=>Heap.get?_push_of_some _ q) (le_refl _) (Nk s.heap I.big),rfl,h _ (I.hok.fresh (le_refl _))⟩
end
noncomputable def Pq:List (TE×TE)->St->Hp->(List (V×V)->Hp->Prop)->Prop
 | [],_,H,Q=>Q [] H
 | (tk,tv):: r,σ,H,Q=>tk σ H λx H1=>tv σ H1 λy H2=>Pq r σ H2 λps H3=>Q ((x,y):: ps) H3
noncomputable abbrev VV:List (V×V)->List (Value×Value)->Prop:=Paired λp q=>RelV p.1 q.1/\RelV p.2 q.2
noncomputable def PPs (X:Cx) (pos:Pos) (keys:List (Option Expr)) (values:List Expr) (trs:List (TE×TE)):Prop:=
 ∀(pins:List (Addr×Obj)) (s:Shared) (σ:St) (H:Hp) (Q:List (V×V)->Hp->Prop),Inv X pins σ H s->Pq trs σ H Q->
  wpAny (model X.prog X.w) X.A (evalPairs (pairTrees keys values X.env pos)) (λvs s'=>∃ps H',Inv X pins σ H' s'/\VV ps vs/\Q ps H') X.xe s
theorem V9 {X:Cx} {pos:Pos}:PPs X pos [] [] []:=λpins s σ H Q I h=>pairTrees_nil_walk ⟨[],H,I,.nil,h⟩
theorem Vm {X:Cx} {pos:Pos} {k v:Expr} {ks:List (Option Expr)} {vs:List Expr} {tk tv:TE} {trs:List (TE×TE)} (hk:PE X k tk) (hv:PE X v tv) (hr:PPs X pos ks vs trs):
  PPs X pos (some k:: ks) (v:: vs) ((tk,tv):: trs):=λpins s σ H Q I h=>
 pairTrees_cons_walk (eO (hk pins s σ H _ I h) λu s1 ⟨x,H1,I1,rx,q1⟩=>eO (hv pins s1 σ H1 _ I1 q1) λw2 s2 ⟨y,H2,I2,ry,q2⟩=>
  eO (hr pins s2 σ H2 _ I2 q2) λws s3 ⟨ps,H3,I3,rel,q3⟩=>⟨(x,y):: ps,H3,I3,.cons ⟨rx,ry⟩ rel,q3⟩)
noncomputable def wJ (kvs more:List (Key×V)):List (Key×V):=more.foldl (λacc kv=>putK acc kv.1 kv.2) kvs
theorem KV.merge:∀{more:List (Key×V)} {rs:List (Key×Value)} {kvs:List (Key×V)} {vs:List (Key×Value)},KV more rs->KV kvs vs->KV (wJ kvs more) (merged vs rs):=by
 intro more rs kvs vs r;unfold KV at r;induction r generalizing kvs vs with
 | nil=>intro q;exact q
 | @cons p q ps qs h t ih=>
  intro r0;have e:KV (putK kvs p.1 p.2) (stored vs q.1 q.2):=by have:=r0.put p.1 h.2;rw [<-h.1];exact this
  exact ih e
theorem yu:∀(more kvs:List (Key×V)),(wJ kvs more).length<=kvs.length+more.length
 | [],kvs=>by show kvs.length<=kvs.length+0;omega
 | p:: r,kvs=>by have h1:=yu r (putK kvs p.1 p.2);have h2:=ou kvs p.1 p.2;show(wJ (putK kvs p.1 p.2) r).length<=_;rw [length_cons];omega
theorem Gr {P:Program} {w:World}:∀{kvs:List (Key×V)} {ws:List (Value×Value)},VV (kvs.map λkv=>(kV kv.1,kv.2)) ws->∃rs,Carries (b8 P w) ws rs/\KV kvs rs
 | [],_,r=>by rw [map_nil] at r;cases r;exact⟨[],True.intro,.nil⟩
 | p:: kvs,_,r=>by
  rw [map_cons] at r;cases r with
  | @cons a b as bs h t=>
   obtain⟨rs,c,q⟩:=Gr (P:=P) (w:=w) t;obtain⟨b1,b2⟩:=b;exact⟨(p.1,b2):: rs,⟨Fy h.1,Y,c⟩,.cons ⟨Y,h.2⟩ q⟩
noncomputable def aaB (trs:List (TE×TE)):TE:=λσ H Q=>∀p,H p=none->Pq trs σ (upd H p (.dK [])) λps H2=>H2 p=some (.dK [])/\∃kvs:List (Key×V),ps=kvs.map (λkv=>(kV kv.1,kv.2))/\kvs.length<=15/\Q (.ref p) (upd H2 p (.dK (wJ [] kvs)))
theorem Xe {X:Cx} {pos:Pos} {keys:List (Option Expr)} {values:List Expr} {trs:List (TE×TE)} (h:PPs X pos keys values trs) (hall:keys.all (·.isSome)=true) (hl:keys.length=values.length) (h0:keys≠[])
  (h15:keys.length<=15):PE X (.Dict keys values pos) (aaB trs):=by
 intro pins s σ H Q I q;have hn:=I.hok.fresh (le_refl s.heap.objs.size);have I1:=I.laid (a:=s.heap.objs.size) (o:=.dK []) (h':=s.heap.push { cls:=.type "dict",data:=.dict #[] }) (t':=s.toks) (λ_ _ q=>Heap.get?_push_of_some _ q) (le_refl _) (Nk s.heap I.big);refine wpAny_Dict_walk (knd:=b8 X.prog X.w) hall hl h0 h15 (eO (h pins _ σ _ _ I1 (q _ hn)) λws s2 hpt=>?_);obtain⟨ps,H2,I2,rel,e,kvs,ep,lk,q2⟩:=hpt;subst ep;obtain⟨rs,c,rk⟩:=Gr (P:=X.prog) (w:=X.w) rel;obtain⟨z,hd,vs0,r0,dd⟩:=XS I2.hok e;cases r0;refine⟨rs,c,dd,λh' dd' hs=>⟨.ref s.heap.objs.size,_,?_,Y,q2⟩⟩;have hz:(wJ [] kvs).length<=sizeLine:=by have h1:=yu kvs [];rw [length_nil] at h1;rw [sizeLine_eq];omega
 have he:∃q,h'.get? s.heap.objs.size=some q:=let ⟨q,_,_,hq,_⟩:=dd';⟨q,hq⟩
 exact JS I2 (by rw [e];exact True.intro) hs he (Vt hz hd (rk.merge .nil) dd')
structure M2 (X:Cx) (o:Expr) (m:Str) (apos:Pos) (e f:Expr) (cpos:Pos):Prop where
 base:attributeBase o m X.env (eval o X.env)=eval o X.env
 few:((backTo cpos (starEach [e,f] X.env)).all (λx=>!x.1) && (backToKw cpos (keywordEach [] X.env)).all (λx=>x.1.isSome)
  && decide (([e,f]:List Expr).length+([]:List Keyword).length+(if ([]:List Keyword).isEmpty then 0 else 1) <30))=true
 line:(apos.endLine == cpos.line)=true
 trees:backTo cpos (starEach [e,f] X.env)=[(false,eval e X.env),(false,eval f X.env)]
noncomputable def IsD (H:Hp) (a:Addr):Prop:=(∃kvs,Rd H a (.dK kvs))∨∃kvs,Rd H a (.dT kvs)
theorem Zf {X:Cx} {pins:List (Addr×Obj)} {σ:St} {H:Hp} {s:Shared} {a:Addr} (I:Inv X pins σ H s) (d:IsD H a):
  s.TypeIs (.ref a) "dict" /\(∀b,Value.ref a=.ref b->∃ob,s.heap.get? b=some ob/\ob.dict=none)/\(a == sysModules)=false:=by
 rcases d with ⟨kvs,e⟩ | ⟨kvs,e⟩
 ·obtain⟨_,hd,vs,_,dd⟩:=yr I.hok e;refine⟨dd.typeIs,λb q=>?_,hd⟩;cases q;obtain⟨ob,_,_,h1,h2,_⟩:=dd;exact⟨ob,h1,h2.2.1⟩
 ·obtain⟨_,hd,xs,_,dd⟩:=Gm I.hok e;refine⟨dd.typeIs,λb q=>?_,hd⟩;cases q;obtain⟨ob,_,_,h1,h2,_⟩:=dd;exact⟨ob,h1,h2.2.1⟩
section
variable {X:Cx} {pins:List (Addr×Obj)} {σ:St} {H:Hp} {s:Shared} {a:Addr} {y d:V} {u r:Value} {o:Option V} {A:Around} {E:Value->Shared->Prop}
theorem Yy {Q:Value->Shared->Prop} (hu:A.units+1 <cLine) (I:Inv X pins σ H s) (g:eE H a y o) (ry:RelV y u) (rd:RelV d r) (h:∀w' s',Inv X pins σ H s'->RelV (o.getD d) w'->Q w' s'):
  wpAny (model X.prog X.w) A (call (.builtin "dict.get") [.ref a,u,r]) Q E s:=by
 rcases g with ⟨kvs,k,e,ey,l⟩ | ⟨kvs,k,b,e,ey,eb,l⟩
 ·subst ey;obtain⟨z,hd,vs,rel,dd⟩:=yr I.hok e;refine call_meetsIn PySem.F.slot_dict_get dd.typeIs PySem.F.entry_dict_get (PySem.F.args_dict_get_3 _ _ _) (meets_dict_get_default (b8 X.prog X.w) a (Fy ry) hd r) ⟨_,dd.mapOf,h _ _ (I.tok _) ?_⟩;rw [l];exact(rel.val k).getD rd
 ·subst ey;cases (show u=Value.ref b from ry);obtain⟨z,hd,xs,rel,dd⟩:=Gm I.hok e;refine call_meetsIn PySem.F.slot_dict_get dd.typeIs PySem.F.entry_dict_get (PySem.F.args_dict_get_3 _ _ _) (meetsH_dict_get_default (tupleKind (b8 X.prog X.w)) a b hd r) ⟨tupleKind_room_in1 hu,k,xs,Be I.hok eb,dd,h _ _ (I.tok _) ?_⟩;rw [l];exact(rel.val k).getD rd
end
inductive Qc (ty:TE) (tx:TE) (σ:St) (Q:VK) (x:V) (H1:Hp):Prop where
 | mk:∀a,x=.ref a->IsD H1 a->(ty σ H1 λy H2=>tx σ H2 λz H3=>∃o,eE H3 a y o/\Q (o.getD z) H3)->Qc ty tx σ Q x H1
noncomputable def YH (td ty tx:TE):TE:=λσ H Q=>td σ H λx H1=>Qc ty tx σ Q x H1
section
variable {X:Cx} {o e f:Expr} {apos cpos:Pos} {td ty tx:TE}
theorem Tz (hu:X.A.units+1 <cLine) (ho:PE X o td) (he:PE X e ty) (hf:PE X f tx) (m:M2 X o "get" apos e f cpos):PE X (.Call (.Attribute o "get" apos) [e,f] [] cpos) (YH td ty tx):=by
 intro pins s σ H Q I h;refine wpAny_Call_method m.base m.few m.line PySem.F.plainAttrs_dict PySem.F.slot_dict_get PySem.F.type_dict_get (eO (ho pins s σ H _ I h) λu s1 hpt=>?_);obtain⟨x,H1,I1,rx,a,ex,d,q1⟩:=hpt;subst ex;obtain rfl:u=Value.ref a:=rx;obtain⟨t1,t2,_⟩:=Zf I1 d;refine⟨t1,t2,?_⟩;rw [m.trees];refine Calls.callWith_builtin Y (Calls.evalArgs_plain (Calls.spliced_cons (eO (he pins s1 σ H1 _ I1 q1) λiv s2 ⟨y,H2,I2,ry,q2⟩=>
  Calls.spliced_cons (eO (hf pins s2 σ H2 _ I2 q2) λfv s3 ⟨z,H3,I3,rz,ov,g,q3⟩=>Calls.spliced_nil ?_))))
 exact Yy hu I3 g ry rz λw' s4 I4 rw'=>⟨_,H3,I4,rw',q3⟩
end
section
variable {X:Cx} {pins:List (Addr×Obj)} {σ:St} {H:Hp} {s:Shared} {a:Addr} {kvs:List (Key×V)} {A:Around} {E:Value->Shared->Prop}
end
section
variable {X:Cx} {pins:List (Addr×Obj)} {σ:St} {H:Hp} {s:Shared} {a:Addr} {y:V} {u:Value} {A:Around} {E:Value->Shared->Prop}
end
section
variable {X:Cx} {pins:List (Addr×Obj)} {σ:St} {H:Hp} {s:Shared} {d:Addr} {kvs:List (Key×V)}
theorem Inv.chill (I:Inv X pins σ H s) (e:H d=some (.dK kvs)):∃o,s.heap.get? d=some o/\Inv X pins σ (upd H d (.frz o (.dK kvs))) s:=by obtain⟨z,hd,vs,rel,o,es,ep,ho,r⟩:=(show ig X.prog X.w H s.heap d (.dK kvs) from I.hok d _ e);refine⟨o,ho,?_⟩;have:=I.write (x:=d) (e:=d) (o:=.frz o (.dK kvs)) (h':=s.heap) (t':=s.toks) (by rw [e];exact True.intro) (.inl rfl) (λb u _ q=>q) ⟨o,ho⟩ ⟨ho,z,hd,vs,rel,o,es,ep,ho,r⟩;exact this
theorem Inv.melt {o:Obj} (I:Inv X pins σ H s) (e:H d=some (.frz o (.dK kvs))) (h0:∀o u,X.H₀ d≠some (.frz o u)):Inv X pins σ (upd H d (.dK kvs)) s:=by
 have ne:∀b u,H b=some u->(∀o v,u≠.frz o v)->b≠d:=λb u q n z=>by rw [z,e] at q;exact n _ _ (Option.some.inj q).symm
 have no:∀b,H b=none->b≠d:=λb q z=>by rw [z,e] at q;cases q
 refine⟨I.ok,I.os,I.bare,⟨I.base.keep,I.base.slot,λb u q n hx=>?_,I.base.there,λb xs q=>?_,λb u v q=>?_,λb ps q=>?_⟩,I.loc,I.cell,?_,λy c q=>?_,λp h=>?_,λb u q=>?_,I.len⟩
 ·have z:=I.base.free b u q n hx;rw [aK (no b z)];exact z
 ·have z:=I.base.tups b xs q;rw [aK (ne b _ z (by intro _ _ w;cases w))];exact z
 ·have z:=I.base.frzs b u v q;rw [aK (λw=>by rw [w] at q;exact h0 _ _ q)];exact z
 ·obtain⟨m,z⟩:=I.base.tbls b ps q;exact⟨m,by rw [aK (ne b _ z (by intro _ _ w;cases w))];exact z⟩
 ·rw [aK (no _ I.free)];exact I.free
 ·rw [aK (no _ (I.freeC y c q))];exact I.freeC y c q
 ·obtain⟨z1,z2,r⟩:=I.pin p h;exact⟨z1,by rw [aK (no _ z2)];exact z2,r⟩
 ·by_cases w:b=d
  ·subst w;rw [ao] at q;cases q;exact(I.hok b _ e).2
  ·rw [aK w] at q;exact(I.hok b u q).stay (λ_ _ _ z=>z) (λc z=>by rw [aK (ne c _ z (by intro _ _ w;cases w))];exact z) λc xs z=>by rw [aK (ne c _ z (by intro _ _ w;cases w))];exact z
end
inductive YW (H0 H H':Hp):Prop where
 | mk:∀d o kvs,H d=some (.frz o (.dK kvs))->((∀o u,H0 d≠some (.frz o u)))->H'=upd H d (.dK kvs)->YW H0 H H'
section
variable {X:Cx} {H0:Hp} {st:Stmt} {sts:List Stmt} {e:Expr} {t:TS} {te:TE}
theorem yV (hH:X.H₀=H0) (h:PS X st t):PS X st (λD σ H=>t { D with nx:=λσ' H'=>∃H'',YW H0 H' H''/\D.nx σ' H'' } σ H):=by
 subst hH;intro pins s σ H D I hh;refine eO (h pins s σ H _ I hh) λf s1 q=>?_;cases f with
 | next=>obtain⟨σ',H',I',H'',⟨d,o,kvs,e,n,rfl⟩,q⟩:=q;exact⟨σ',_,I'.melt e n,q⟩
 | ret v=>exact q
 | brk=>exact q
 | cont=>exact q
theorem Xc (hH:X.H₀=H0) (h:PE X e te):PE X e (λσ H Q=>te σ H λv H1=>∃H2,YW H0 H1 H2/\Q v H2):=by subst hH;intro pins s σ H Q I hh;refine eO (h pins s σ H _ I hh) λu s1 q=>?_;obtain⟨v,H1,I1,r,H2,⟨d,o,kvs,e,n,rfl⟩,q⟩:=q;exact⟨v,_,I1.melt e n,r,q⟩
end
noncomputable def Zx (d:Addr) (o:Obj) (kvs:List (Key×V)):It:=
 ⟨λi H=>H d=some (.frz o (.dK kvs))/\i <kvs.length,λi H x H'=>H'=H/\∃k v,kvs[i]?=some (k,v)/\x=kV k,λi H=>H d=some (.frz o (.dK kvs))/\kvs.length<=i⟩
theorem Uo {P:Program} {w:World} {k:Key} {u:Value} (h:(b8 P w).is k u=true):RelV (kV k) u:=by
 rcases dM (k:=k) (v:=u) h with ⟨i,t,rfl,rfl⟩ | ⟨x,t,rfl,rfl⟩
 ·exact⟨t,Y⟩
 ·exact⟨t,Y⟩
theorem O7:∀{kvs:List (Key×V)} {vs:List (Key×Value)} {i:Nat} {k:Key} {v:V},KV kvs vs->kvs[i]?=some (k,v)->∃v',vs[i]?=some (k,v')
 | _,_,0,k,v,.cons h _,e=>by cases (Option.some.inj e);exact⟨_,by rw [getElem?_cons_zero,show k=_ from h.1]⟩
 | _,_,i+1,k,v,.cons _ t,e=>by obtain⟨v',z⟩:=O7 (i:=i) (k:=k) (v:=v) t (by simpa using e);exact⟨v',by simpa using z⟩
theorem RN {P:Program} {w:World} {K:Fr} {tg:Expr} {d it:Addr} {o:Obj} {kvs:List (Key×V)} {vs:List (Key×Value)} {ep:Nat} (rel:KV kvs vs) (hD:∀h:Heap,h.get? d=some o->h.DictAt (b8 P w) d vs ep):
  Turn P w K tg (Zx d o kvs) [it] it (λi h=>h.IsKeyIter it d i vs.length ep) where
 mem:=by simp
 obj:=λi h st b hb=>by
  have e:b=it:=by simpa using hb
  subst e;obtain⟨o,e,c,d⟩:=st;exact⟨o,e,λv z=>by rw [d] at z;cases z⟩
 keep:=λi h h' st k=>st.at λo e=>k it (by simp) o e
 item:=by intro X hP hw hK hc i pins s σ H E I hf st hg;subst hP hw hK;obtain⟨hq,hi⟩:=hg;obtain⟨f0,f1,f2,f3,f4,f5⟩:=hf it (by simp);have ho:s.heap.get? d=some o:=(I.hok d _ hq).1;have hl:kvs.length=vs.length:=Paired.length rel;obtain⟨k,v,ek⟩:∃k v,kvs[i]?=some (k,v):=⟨_,_,getElem?_eq_getElem hi⟩;obtain⟨v',ev⟩:=O7 rel ek;refine wpAny_pyNext_dict_item st (hD _ ho) ev λkey h' hk st' sb=>?_;have I1:Inv X pins σ H { s with heap:=h' }:=I.turned (t':=s.toks) (λb o hb e=>(sb.2 b hb).trans e) f0 f1 f3 f4 f5;obtain⟨o',e,c,dd⟩:=id st';exact⟨key,rfl,MK (s:={ s with heap:=h' }) e c dd (by decide) ⟨kV k,H,I1,Uo hk,⟨rfl,k,v,ek,rfl⟩,st',λb hb=>(hf b hb).1⟩⟩
 done:=by intro X hP hw hK hc i pins s σ H E I hf st hg;subst hP hw hK;obtain⟨hq,hi⟩:=hg;obtain⟨f0,f1,f2,f3,f4,f5⟩:=hf it (by simp);have ho:s.heap.get? d=some o:=(I.hok d _ hq).1;have hl:kvs.length=vs.length:=Paired.length rel;exact wpAny_pyNext_dict_end (I.ok.hd hc) st (hD _ ho) (getElem?_eq_none (by omega)) λh' eb=>⟨Y,I.turned (t':=s.toks) (λb o hb e=>eb b o hb e) f0 f1 f3 f4 f5⟩
 self:=λ_ _ _ _ _ st h=>wpAny_pyIter_keyiter st h
inductive Ue (R:It->Hp->Prop) (x:V) (H1:Hp):Prop where
 | mk:∀d kvs,x=.ref d->H1 d=some (.dK kvs)->(∀o,R (Zx d o kvs) (upd H1 d (.frz o (.dK kvs))))->Ue R x H1
noncomputable def ZJ (td:TE):TI:=λσ H R=>td σ H λx H1=>Ue R x H1
theorem zb {X:Cx} {tg l:Expr} {td:TE} (hl:PE X l td):PI X tg l (ZJ td):=by
 intro pins s σ H R I h;refine eO (hl pins s σ H _ I h) λv s1 hpt=>?_;obtain⟨x,H1,I1,r1,q1⟩:=hpt;obtain⟨d,kvs,e,ed,q⟩:=q1;subst e;cases r1;obtain⟨_,hd,vs,rel,o0,es,ep,ho0,r⟩:=(show ig X.prog X.w H1 s1.heap d (.dK kvs) from I1.hok d _ ed);obtain⟨o,ho,I2⟩:=I1.chill ed;obtain rfl:o0=o:=Option.some.inj (ho0.symm.trans ho);have hD:∀h:Heap,h.get? d=some o0->h.DictAt (b8 X.prog X.w) d vs ep:=λh z=>⟨o0,es,z,r⟩;refine wpAny_pyIter_dict hd (hD _ ho) ?_;refine⟨s1.heap.objs.size,[s1.heap.objs.size],_,_,_,Y,I2.kept (t':=s1.toks) λb o e=>Heap.get?_push_of_some _ e,RN rel hD,⟨_,Heap.get?_push_size _ Y,Y,Y⟩,λb hb=>?_,q o0⟩;have e:b=s1.heap.objs.size:=by simpa using hb
 subst e;exact I2.fpOk (le_refl _) (I2.hok.fresh (le_refl _))
theorem zA {d:Addr} {o:Obj} {kvs:List (Key×V)} {g:TG} {tb:TS} {D:Ends} {σ:St} {H:Hp} (Pv:Nat->St->Hp->Prop) (h0:Pv 0 σ H) (hl:∀i σ H,i<=kvs.length->Pv i σ H->H d=some (.frz o (.dK kvs)))
  (hs:∀i k v σ H,kvs[i]?=some (k,v)->Pv i σ H->g (kV k) σ H λσ2 H2=>tb { D with nx:=Pv (i+1),ct:=Pv (i+1),bk:=D.nx } σ2 H2) (hd:∀σ H,Pv kvs.length σ H->D.nx σ H):
  ∃W:Nat->Nat->St->Hp->Prop,(∃m,W 0 m σ H)/\∀i m σ H,W i m σ H->
   ((Zx d o kvs).stop i H/\D.nx σ H)∨((Zx d o kvs).go i H/\∃N:St->Hp->Prop,(∀σ' H',N σ' H'->∃m',m' <m/\W (i+1) m' σ' H')/\∀x H',(Zx d o kvs).yld i H x H'->g x σ H' λσ2 H2=>tb { D with nx:=N,ct:=N,bk:=D.nx } σ2 H2):=by
 refine⟨λi m σ H=>m=kvs.length - i/\i<=kvs.length/\Pv i σ H,⟨kvs.length,by simp,zero_le _,h0⟩,?_⟩;rintro i m σ H ⟨rfl,hi,p⟩;have q:=hl i σ H hi p;by_cases hlt:i <kvs.length
 ·refine .inr ⟨⟨q,hlt⟩,Pv (i+1),λσ' H' p'=>⟨kvs.length - (i+1),by omega,Y,hlt,p'⟩,λx H' y=>?_⟩;obtain⟨rfl,k,v,ek,rfl⟩:=y;exact hs i k v σ _ ek p
 ·obtain rfl:i=kvs.length:=by omega
  exact .inl ⟨⟨q,le_refl _⟩,hd σ H p⟩
theorem Ro {js:List Nat} {tt:TT} {te:TE} {σ:St} {Qd:List V->Hp->Prop} {d:Addr} {o:Obj} {kvs:List (Key×V)} {H:Hp} (Pv:Nat->List V->Hp->Prop) (hn:kvs.length<=sizeLine) (h0:Pv 0 [] H) (hl:∀i ys H,Pv i ys H->ys.length<=i) (hq:∀i ys H,i<=kvs.length->Pv i ys H->H d=some (.frz o (.dK kvs)))
  (hs:∀i k v ys H,kvs[i]?=some (k,v)->Pv i ys H->tt (some (kV k):: fj σ js) H λb H4=>if b=true then te (some (kV k):: fj σ js) H4 λy H5=>Pv (i+1) (ys ++ [y]) H5 else Pv (i+1) ys H4)
  (hd:∀ys H,Pv kvs.length ys H->Qd ys H):CompEnd js tt te σ Qd (Zx d o kvs) H:=by
 refine⟨λi m ys H=>m=kvs.length - i/\i<=kvs.length/\Pv i ys H,⟨kvs.length,by simp,zero_le _,h0⟩,?_⟩;rintro i m ys H ⟨rfl,hi,p⟩;have hlen:=hl i ys H p;have q:=hq i ys H hi p;by_cases hlt:i <kvs.length
 ·refine .inr ⟨⟨q,hlt⟩,by omega,Pv (i+1),λys' H' p'=>⟨kvs.length - (i+1),by omega,Y,hlt,p'⟩,λx H' y=>?_⟩;obtain⟨rfl,k,v,ek,rfl⟩:=y;exact hs i k v ys _ ek p
 ·obtain rfl:i=kvs.length:=by omega
  exact .inl ⟨⟨q,le_refl _⟩,by omega,hd ys H p⟩
theorem Cw:∀{xs:List V} {us:List Value},us.length=xs.length->(∀(j:Nat) x u,xs[j]?=some x->us[j]?=some u->RelV x u)->Vals xs us
 | [],[],_,_=>.nil
 | [],_:: _,h,_=>by simp at h
 | _:: _,[],h,_=>by simp at h
 | x:: xs,u:: us,h,r=>.cons (r 0 x u rfl rfl) (Cw (by simpa using h) λj y v h1 h2=>r (j+1) y v (by simpa using h1) (by simpa using h2))
theorem lJ {X:Cx} (hc:X.calm=true):pq X (.type "list") (λxs H Q=>∃d kvs,xs=[.ref d]/\Rd H d (.dK kvs)/\∀l,H l=none->Q (.ref l) (upd H l (.lst (kvs.map λp=>kV p.1)))):=by intro pins s σ H xs us Q I rx h;obtain⟨d,kvs,rfl,hr,q⟩:=h;obtain⟨u,rfl,ru⟩:=vals1 rx;cases ru;obtain⟨z,hd,vs,rel,dd⟩:=yr I.hok hr;obtain⟨ep,da⟩:=dd.dictAt;have hl:kvs.length=vs.length:=Paired.length rel;refine PySem.W.kdl_call (PySem.W.kdl_dict (knd:=b8 X.prog X.w) (kvs:=vs) (ep:=ep) hd) (I.ok.hd hc) da (by omega) λh' tk acc' c' kp e' hi=>?_;refine⟨.ref s.heap.objs.size,_,I.laid (t':=tk) kp (le_refl _) (show ig X.prog X.w _ h' _ (.lst (kvs.map λp=>kV p.1)) from⟨by rw [length_map];exact z,acc'.toList,c',Cw (by rw [Array.length_toList,hi.1,length_map,hl]) λj x u hx hu=>?_,by simpa using e'⟩),rfl,q _ (I.hok.fresh (le_refl _))⟩;obtain⟨k,v,hkv,hk⟩:=hi.2 j u (by rw [<-Array.getElem?_toList];exact hu);rw [getElem?_map] at hx;obtain⟨p,hp,rfl⟩:=map_eq_some_iff.mp hx;obtain⟨v',hv'⟩:=O7 rel (k:=p.1) (v:=p.2) hp;rw [hkv] at hv';cases hv';exact Uo hk
section
variable {X:Cx} {pins:List (Addr×Obj)} {σ:St} {H:Hp} {s:Shared}
end
section
variable {X:Cx} {tg:Expr}
end
theorem jL.u1 {k:Nat} {A:Around} (r:jL k A):A.units+1 <cLine:=by have:=r.units;omega
section
variable {prog:Program} {w:World} {A:Around} {E:Value->Shared->Prop} {s:Shared}
end
theorem jL.u100 {k:Nat} {A:Around} (r:jL k A):A.units+100 <cLine:=by have:=r.un;omega
theorem Ec {X:Cx} {K:Fr} {e:Expr} {f:Str} {pos:Pos} {ta:TE} (hK:X.K=K) (he:PE X e ta) (hb:attributeBase e f X.env (eval e X.env)=eval e X.env):PE X (.Attribute e f pos) (ZZ K ta f):=by subst hK;exact aU he hb
theorem Pj {X:Cx} {K:Fr} (hK:X.K=K):vz X (compareOp .In) (XM K false):=by subst hK;exact Bc
theorem Hm {X:Cx} {K:Fr} (hK:X.K=K):vz X (compareOp .NotIn) (XM K true):=by subst hK;exact jU
section
variable {X:Cx} {P:Program} {w:World} {K:Fr} {mg:Str->Option Value} {base:Heap} {CX:Ik} {k:Nat} {E:XK} {m:Str} {pos apos:Pos} {e o:Expr} {es:List Expr} {ta:TE} {t:TA}
theorem Oc {pl:Sem Bool} (hP:X.prog=P) (hw:X.w=w) (hK:X.K=K) (hm:X.mg=mg) (hb:X.base=base) (he:PE X o ta) (hr:jL k X.A) (hx:sI CX X E)
  (ht:eval (.Call (.Attribute o m apos) [] [] pos) X.env=(do
   let ov <-eval o X.env
   standAt apos.atName
   let (f,first) <-holding [ov] (getMethod ov m pl)
   callWith pos f first (backTo pos (starEach [] X.env)) (backToKw pos (keywordEach [] X.env))):=by rfl):
  PE X (.Call (.Attribute o m apos) [] [] pos) (PK P w K mg base CX k m E ta RB):=by
 subst hP hw hK hm hb;exact xN he hr hx ht
end
section
variable {prog:Program} {w:World} {A:Around} {R:Result->Shared->Prop} {s:Shared}
theorem aaJ {elt tg iter:Expr} {ifs:List Expr} {scope:Scope} {pos:Pos} {it acc:Value} {env:Env} (J:Nat->Shared->Prop)
  (turn:∀k s1,J k s1->wpAny (model prog w) A (pyNext it) (λr s2=>match r with
   | none=>R (.ok .next) s2
   | some v=>wpAny (model prog w) A (letOwnedTupleGo tg it v) (λ_ s3=>wpAny (model prog w) A (assign tg env v) (λ_ s4=>
     wpAny (model prog w) A (forIn ifs true λc r=>if r=true then do let ok <-isTrue c env (eval c env);pure (ForInStep.yield ok) else pure (ForInStep.yield r)) (λok s5=>
      if ok=true then wpAny (model prog w) A (eval elt env) (λy s6=>wpAny (model prog w) A (call (.builtin "list.append") [acc,y]) (λ_ s7=>∃m,m <k/\J m s7) (notedBy (model prog w) A env λe s'=>R (.error e) s') s6)
       (notedBy (model prog w) A env λe s'=>R (.error e) s') s5
      else ∃m,m <k/\J m s5) (notedBy (model prog w) A env λe s'=>R (.error e) s') s4) (notedBy (model prog w) A env λe s'=>R (.error e) s') s3) (notedBy (model prog w) A env λe s'=>R (.error e) s') s2)
   (notedBy (model prog w) A env λe s'=>R (.error e) s') s1)
  (k:Nat) (h:J k s):codeAny (model prog w) A (.compLoop (.ListComp elt [⟨tg,iter,ifs,0⟩] scope pos) 0 it acc env) R s:=by
 refine codeAny_loop Y J (λk s1 hJ=>?_) k h;show wpAny _ A ((compTurn (.ListComp elt [⟨tg,iter,ifs,0⟩] scope pos) 0 it acc env).onRaise (λe=>do noteFrame e env;theTreesLotGoes e)) _ _ s1;refine wpAny_noted ?_;rw [compTurn_list];refine wpAny_bind (wpAny_standAt (wpAny_bind (wpAny_mono (turn k s1 hJ) (λr s2 h2=>?_) λ_ _ z=>z)));cases r with
 | none=>exact wpAny_pure h2
 | some v=>
  refine wpAny_bind (wpAny_mono h2 (λ_ s3 h3=>wpAny_bind (wpAny_mono h3 (λ_ s4 h4=>wpAny_bind (wpAny_mono h4 (λok s5 h5=>?_) λ_ _ z=>z)) λ_ _ z=>z)) λ_ _ z=>z);cases ok with
  | false=>exact wpAny_pure ⟨rfl,h5⟩
  | true=>exact wpAny_bind (wpAny_bind (wpAny_mono h5 (λy s6 h6=>wpAny_bind (wpAny_mono h6 (λ_ s7 h7=>wpAny_pure (wpAny_pure ⟨rfl,h7⟩)) λ_ _ z=>z)) λ_ _ z=>z))
end
section
variable {X:Cx} {tg:Expr} {g:TG} {pos:Pos} {iter elt:Expr} {ifs:List Expr} {scope:Scope} {wi:TI} {tt:TT} {te:TE}
end
theorem Ri {X:Cx} (hc:X.calm=true):pq X (.builtin "min") (λxs H Q=>∃(p:Addr) (a b:Int),xs=[.ref p]/\bJ X.K H p [.int a,.int b]/\Q (.int (if b <a then b else a)) H):=by
 intro pins s σ H xs us Q I r h;obtain⟨p,a,b,rfl,hq,q⟩:=h;obtain⟨u,rfl,rx⟩:=vals1 r;cases rx;obtain⟨its,rv,pl,_⟩:=I.list hq;obtain⟨v1,v2,rfl,⟨t1,rfl⟩,⟨t2,rfl⟩⟩:=vals2 rv;have hl:s.heap.IsList p (intItems #[(a,t1),(b,t2)]):=by simpa [intItems] using pl.isList
 refine min_intList (I.ok.hd hc) hl (by simp) λv h' tk hv hk=>?_;obtain⟨t,rfl⟩:=intItems_at hv;obtain⟨h1,h2⟩:=argBest_lt (numAt #[(a,t1),(b,t2)]) (#[(a,t1),(b,t2)].size - 1);have h1':argBest (λi j=>decide (numAt #[(a,t1),(b,t2)] i <numAt #[(a,t1),(b,t2)] j)) (#[(a,t1),(b,t2)].size - 1)<=1:=h1;have ha:_<=a:=h2 0 (zero_le _);have hb:_<=b:=h2 1 (by simp);generalize argBest (λi j=>decide (numAt #[(a,t1),(b,t2)] i <numAt #[(a,t1),(b,t2)] j)) (#[(a,t1),(b,t2)].size - 1)=k at h1' ha hb ⊢;refine⟨.int (numAt #[(a,t1),(b,t2)] k),H,I.kept hk,⟨_,Y⟩,?_⟩;have e:numAt #[(a,t1),(b,t2)] k=if b <a then b else a:=by
  match k,h1',ha,hb with
  | 0,_,_,hb=>
   have hb':a<=b:=hb;rw [if_neg (by omega)];rfl
  | 1,_,ha,_=>
   have ha':b<=a:=ha;show b=_;by_cases z:b <a
   ·rw [if_pos z]
   ·rw [if_neg z];omega
 rw [e];exact q
theorem Ra {X:Cx} (hc:X.calm=true):pq X (.builtin "max") (λxs H Q=>∃(p:Addr) (a b:Int),xs=[.ref p]/\bJ X.K H p [.int a,.int b]/\Q (.int (if b <a then a else b)) H):=by
 intro pins s σ H xs us Q I r h;obtain⟨p,a,b,rfl,hq,q⟩:=h;obtain⟨u,rfl,rx⟩:=vals1 r;cases rx;obtain⟨its,rv,pl,_⟩:=I.list hq;obtain⟨v1,v2,rfl,⟨t1,rfl⟩,⟨t2,rfl⟩⟩:=vals2 rv;have hl:s.heap.IsList p (intItems #[(a,t1),(b,t2)]):=by simpa [intItems] using pl.isList
 refine max_intList (I.ok.hd hc) hl (by simp) λv h' tk hv hk=>?_;obtain⟨t,rfl⟩:=intItems_at hv;obtain⟨h1,h2⟩:=argBest_gt (numAt #[(a,t1),(b,t2)]) (#[(a,t1),(b,t2)].size - 1);have h1':argBest (λi j=>decide (numAt #[(a,t1),(b,t2)] i >numAt #[(a,t1),(b,t2)] j)) (#[(a,t1),(b,t2)].size - 1)<=1:=h1;have ha:a<=_:=h2 0 (zero_le _);have hb:b<=_:=h2 1 (by simp);generalize argBest (λi j=>decide (numAt #[(a,t1),(b,t2)] i >numAt #[(a,t1),(b,t2)] j)) (#[(a,t1),(b,t2)].size - 1)=k at h1' ha hb ⊢;refine⟨.int (numAt #[(a,t1),(b,t2)] k),H,I.kept hk,⟨_,Y⟩,?_⟩;have e:numAt #[(a,t1),(b,t2)] k=if b <a then a else b:=by
  match k,h1',ha,hb with
  | 0,_,_,hb=>
   have hb':b<=a:=hb;show a=_;by_cases z:b <a
   ·rw [if_pos z]
   ·rw [if_neg z];omega
  | 1,_,ha,_=>
   have ha':a<=b:=ha;rw [if_neg (by omega)];rfl
 rw [e];exact q
theorem Qk {X:Cx} {K:Fr} {es:List Expr} {k:Nat} {pos:Pos} {t:V5} {n:Nat} (hK:X.K=K) (hc:X.calm=true) (h:ZG X es t)
  (hn:(assignEach es X.env).length=n:=by rfl) (hst:(assignEach es X.env).findIdx? (·.1)=none:=by rfl):PG X (.Tuple es k pos) (aaD K n t):=by
 subst hK;exact G9 hc h hn hst
noncomputable def mO (X:Cx) (scope:Scope) (xs:List Str) (js:List Nat) (cl:List (Str×Addr)) (C:Addr) (s:Shared) (H:Hp) (ex:List Addr):Cx where
 prog:=X.prog
 w:=X.w
 K:=X.K
 mg:=X.mg
 base:=X.base
 A:=X.A
 N:=xs ++ dN X.N js
 s₀:=s
 H₀:=H
 env:=compEnvC scope cl C X.env
 outer:=X.stack
 stack:=X.stack
 ex:=ex
 fn:=λ_=>false
 calm:=X.calm
 pn:=[]
 xe:=λ_ _=>False
noncomputable def Gq (xs:List Str) (js:List Nat) (σ:St) (g:TG) (tt:TT) (te:TE) (Qd:List V->Hp->Prop) (J:It) (H1:Hp):Prop:=∃W:Nat->Nat->List V->Hp->Prop,(∃m,W 0 m [] H1)/\∀i m ys H2,W i m ys H2->
 (J.stop i H2/\ys.length<=sizeLine/\Qd ys H2)∨
 (J.go i H2/\ys.length <sizeLine/\∃N:List V->Hp->Prop,(∀ys' H',N ys' H'->∃m',m' <m/\W (i+1) m' ys' H')/\∀x H3,J.yld i H2 x H3->g x ((xs.map λ_=>none) ++ fj σ js) H3 λσ2 H4=>σ2.drop xs.length=fj σ js/\tt σ2 H4 λb H5=>
  if b=true then te σ2 H5 λy H6=>N (ys ++ [y]) H6 else N ys H5)
noncomputable def Tq (xs:List Str) (js:List Nat) (wi:TI) (g:TG) (tt:TT) (te:TE):TE:=λσ H Q=>wi σ H (Gq xs js σ g tt te λys H2=>∀D,H2 D=none->Q (.ref D) (upd H2 D (.lst ys)))
section
variable {X:Cx} {tg:Expr} {g:TG} {pos:Pos} {iter elt:Expr} {ifs:List Expr} {scope:Scope} {wi:TI} {tt:TT} {te:TE}
theorem vY (xs:List Str) (js:List Nat) {pins:List (Addr×Obj)} {σ:St} {s:Shared} {itv:Value} {Q:List V->Hp->Prop} {RR:Value->Addr->Result->Shared->Prop} {E:Value->Shared->Prop}
  (hc:X.calm=true) (hk:scope.kind=.function) (hcell:∀y∈scope.names,y.2≠.cell)
  (hfree:∀y∈scope.names,y.2=.free->X.env.kindOf y.1=some .cell∨X.env.kindOf y.1=some .free)
  (hg:∀cl C s H ex,PG (mO X scope xs js cl C s H ex) tg g)
  (hif:∀cl C s H ex,PF (mO X scope xs js cl C s H ex) ifs tt) (he:∀cl C s H ex,PE (mO X scope xs js cl C s H ex) elt te)
  (hjs:∀y∈dN X.N js,scope.names.lookup y=some .free) (hit:PIE X pins σ tg (Gq xs js σ g tt te Q) itv s)
  (hR:∀D C s' H2 ys m,Inv X pins σ (upd H2 D (.lst ys)) s'->H2 D=none->s'.heap.Ns C m->(∀h',Heap.SameBut C s'.heap h'->Inv X pins σ (upd H2 D (.lst ys)) { s' with heap:=h' })->JM X pins (upd H2 D (.lst ys)) C->C≠D->Q ys H2->RR (.ref D) C (.ok .next) s'):
  wpAny (model X.prog X.w) X.A (newList []) (λacc s₃=>wpAny (model X.prog X.w) X.A (newFunctionEnv scope X.env.globals (clos X.env scope.names []) [] X.env.qual none .none (some X.env)) (λcenv s₄=>
   codeAny (model X.prog X.w) X.A (.compStart (.ListComp elt [⟨tg,iter,ifs,0⟩] scope pos) 0 itv acc { cenv with scope:=relabel scope X.env }) (RR acc cenv.locals) s₄) E s₃) E s:=by
 obtain⟨it,fp,tn,J,H1,rfl,I1,T,st1,f1,W,⟨m0,w0⟩,turn⟩:=hit;refine wpAny_newObj_type (wpAny_newFunctionEnv hcell (by intro y hy;simp at hy) (λh₁ hns₁ hsb₁=>?_) hk);dsimp only at hns₁ hsb₁ ⊢;generalize hH2:s.heap.push { cls:=.type "list",dict:=none,data:=.seq ([]:List Value).toArray }=Hl at hns₁ hsb₁ ⊢;generalize hDe:s.heap.objs.size=D;have hCe:Hl.objs.size=D+1:=by rw [<-hH2,Heap.size_push,hDe]
 generalize hC:Hl.objs.size=C at hns₁ hsb₁ hCe ⊢;subst hCe;have hDC:D≠D+1:=ne_of_lt (Nat.lt_succ_self _);have lt:∀b o,s.heap.get? b=some o->b <D:=λb o e=>hDe ▸ Heap.lt_size e;have old:∀b o,s.heap.get? b=some o->h₁.get? b=some o:=λb o e=>by have hb:=lt b o e;refine hsb₁.extBut b o (ne_of_lt (lt_succ_of_lt hb)) (Heap.get?_push_of_some _ ?_);rw [<-hH2];exact Heap.get?_push_of_some _ e
 have accD:h₁.get? D=some { cls:=.type "list",dict:=none,data:=.seq ([]:List Value).toArray }:=by refine hsb₁.extBut _ _ hDC (Heap.get?_push_of_some _ ?_);rw [<-hH2,<-hDe];exact Heap.get?_push_size _ rfl
 have fresh:∀a,D<=a->H1 a=none:=λa ha=>I1.hok.fresh (by rw [hDe];exact ha);have fpD:∀b∈fp,b <D:=λb hb=>by obtain⟨o,e,_⟩:=T.obj 0 s.heap st1 b hb;exact lt b o e
 have cellD:∀y c,X.env.cells.lookup y=some c->c <D:=λy c e=>by obtain⟨v,q⟩:=I1.cell y c e;exact hDe ▸ q.lt
 generalize hcl:clos X.env scope.names []=cl;have clsub:∀y c,cl.lookup y=some c->X.env.cells.lookup y=some c:=by rw [<-hcl];exact MF scope.names [] λy a e=>by simp at e
 have frD:∀b∈frs X.stack,b <D:=λb hb=>by obtain⟨_,o,ho,_⟩:=I1.stack.mem hb;exact lt b o ho
 let Y1:Cx:=mO X scope xs js cl (D+1) s H1 fp
 have kinds:∀y,Y1.env.kindOf y=some .cell∨Y1.env.kindOf y=some .free->∃k∈scope.names,k.1=y/\k.2=.free:=λy hy=>by
  have hy':(relabel scope X.env).names.lookup y=some .cell∨(relabel scope X.env).names.lookup y=some .free:=hy;rw [vV] at hy';cases q:scope.names.lookup y with
  | none=>rw [q] at hy';simp at hy'
  | some k=>
   have hm:=PySem.mem_of_lookup q;refine⟨(y,k),hm,Y,?_⟩;have h1:k≠.cell:=hcell _ hm;rw [q] at hy';simp only [map_some,Option.some.injEq] at hy';by_cases hkf:k=.free
   ·exact hkf
   ·have:(k == NameKind.free)=false:=by simpa using hkf
    simp only [this,Bool.false_and,Bool.false_eq_true,if_false] at hy';rcases hy' with e | e
    ·exact absurd e h1
    ·exact absurd e hkf
 have okY:Y1.Ok:=by
  refine⟨I1.ok.mod,hk,I1.ok.glob,I1.ok.blt,(by show s.heap.objs.size<=D+1;rw [hDe];exact le_succ _),λy z c h1 h2=>I1.ok.inj y z c (clsub y c h1) (clsub z c h2),λy hy=>?_,λy c h _=>absurd h (by show ¬(false=true);decide),I1.ok.hd,I1.ok.frames,.inl rfl,λb hb=>⟨ne_of_lt (lt_succ_of_lt (fpD b hb)),λy c e z=>(f1 b hb).2.2.2.2.1 y c (clsub y c e) z⟩,
   λb o e=>I1.bs b o e,le_trans I1.ok.bsz I1.sz,λb o e hb=>?_,λb hb hf=>?_,I1.stack,I1.stkFree⟩
  ·obtain⟨k,hm,e1,e2⟩:=kinds y hy;show ∃c,cl.lookup y=some c;rw [<-hcl];refine G7 scope.names [] y (.inr ⟨k,hm,e1,e2,?_⟩);have:=hfree k hm e2;rw [e1] at this;exact I1.ok.has y this
  ·obtain⟨_,_,_,h4,_,_⟩:=f1 b hb;rcases h4 with z | z
   ·exact I1.ok.noex b o e z
   ·exact absurd (lt_of_lt_of_le (Heap.lt_size e) (le_trans I1.ok.bsz z)) (lt_irrefl _)
  ·rcases mem_cons.mp (I1.stkSub b hf) with z | z
   ·exact(f1 b hb).2.1 z
   ·exact(f1 b hb).2.2.1 z
 let σ0:St:=(xs.map λ_=>none) ++ fj σ js
 have IY:Inv Y1 [] σ0 H1 { s with heap:=h₁,toks:=s.toks+([]:List (Str×Value)).length }:=by
  refine⟨okY,Y,I1.bare,Un.kept old,⟨_,hns₁,λi y v e1 e2 e3=>?_⟩,λy c e=>?_,fresh _ (le_succ _),λy c e=>I1.freeC y c (clsub y c e),λp hp=>absurd (show p∈([]:List (Addr×Obj)) from hp) (by simp),I1.hok.kept old,?_⟩
  ·by_cases hi:i <xs.length
   ·exfalso;have e2':((xs.map λ_=>(none:Option V)) ++ fj σ js)[i]?=some (some v):=e2;rw [getElem?_append_left (by rw [length_map];exact hi),getElem?_map,getElem?_eq_getElem hi] at e2';cases e2'
   ·have e1':(xs ++ dN X.N js)[i]?=some y:=e1;have e2':((xs.map λ_=>(none:Option V)) ++ fj σ js)[i]?=some (some v):=e2;rw [getElem?_append_right (by omega)] at e1';rw [getElem?_append_right (by rw [length_map];omega),length_map] at e2';generalize i - xs.length=i at e1' e2';unfold dN at e1';unfold fj at e2';rw [getElem?_map] at e1' e2';cases q:js[i]? with
    | none=>rw [q] at e1';cases e1'
    | some j=>
     rw [q] at e1' e2';simp only [map_some,Option.some.injEq] at e1' e2';have hv:σ[j]?=some (some v):=by
      cases z:σ[j]? with
      | none=>rw [z] at e2';cases e2'
      | some w=>rw [z] at e2';simpa using e2'
     have hj:j <X.N.length:=by rw [<-I1.len];exact(List.getElem?_eq_some_iff.mp hv).1
     have hy:X.N[j]?=some y:=by rw [getElem?_eq_getElem hj] at e1' ⊢;rw [<-e1'];rfl
     obtain⟨m,hn,hl⟩:=I1.loc;have hmem:y∈dN X.N js:=mem_map.mpr ⟨j,mem_of_getElem? q,by rw [hy];rfl⟩;have hfr:=hjs y hmem;have hkx:=hfree _ (PySem.mem_of_lookup hfr) rfl;have hvis:Vis X.env.scope y:=hkx.elim (λz=>.inr (.inl z)) λz=>.inr (.inr z);obtain⟨u,r,l⟩:=hl j y v hy hv hvis;refine⟨u,r,?_⟩;rcases l with ⟨kl,_⟩ | ⟨_,c,hc1,z⟩
     ·exfalso;have kl':X.env.kindOf y=some .local:=kl;rcases hkx with w | w <;> · rw [show X.env.kindOf y=_ from w] at kl';cases kl'
     ·obtain⟨c',hc'⟩:=G7 (env:=X.env) scope.names [] y (.inr ⟨_,PySem.mem_of_lookup hfr,rfl,rfl,c,hc1⟩);rw [hcl] at hc';have e4:=clsub y c' hc';rw [hc1] at e4;cases e4;obtain⟨o,ho,hd⟩:=z;refine .inr ⟨?_,c,hc',o,old c o ho,hd⟩;rcases e3 with e3 | e3 | e3
      ·exfalso;have e3':(relabel scope X.env).names.lookup y=some .local:=e3;rw [vV,hfr] at e3';simp only [map_some,Option.some.injEq] at e3';split at e3' <;> cases e3'
      ·exact .inl e3
      ·exact .inr e3
  ·obtain⟨v,q⟩:=I1.cell y c (clsub y c e);obtain⟨o,ho,hd⟩:=q;exact⟨v,o,old c o ho,hd⟩
  ·show((xs.map λ_=>(none:Option V)) ++ fj σ js).length=(xs ++ dN X.N js).length;unfold fj dN;rw [length_append,length_append,length_map,length_map,length_map]
 have mkR:∀(s':Shared) (H2:Hp) (ys:List V) (its:List Value) (σ':St),Inv Y1 [] σ' H2 s'->s'.heap.PlainList D its.toArray->Vals ys its->ys.length<=sizeLine->H2 D=none->Q ys H2->RR (.ref D) (D+1) (.ok .next) s':=by
  intro s' H2 ys its σ' I' pl rv hz hD hq;obtain⟨m,hn,_⟩:=I'.loc;have hn':s'.heap.Ns (D+1) m:=hn;have hCn:H2 (D+1)=none:=I'.free;have hch:∀b∈fp,(b∈X.ex∨X.s₀.heap.objs.size<=b)/\b≠X.env.locals/\(∀x c,X.env.cells.lookup x=some c->c≠b)/\∀p∈X.pn ++ pins,p.1≠b:=λb hb=>by obtain⟨_,h2,_,h4,h5,h6⟩:=f1 b hb;exact⟨h4,h2,h5,h6⟩
  have bs:Un (frs X.stack) fp H1 H2 s.heap s'.heap:=I'.base;have all:∀h',Heap.SameBut (D+1) s'.heap h'->Inv X pins σ (upd H2 D (.lst ys)) { s' with heap:=h' }:=λh' sb=>by
   have neD:∀b o,s.heap.get? b=some o->b≠D:=λb o e=>ne_of_lt (lt b o e);have neC:∀b o,s.heap.get? b=some o->b≠D+1:=λb o e=>ne_of_lt (lt_succ_of_lt (lt b o e));refine I1.call' (s':={ s' with heap:=h' }) (ch:=fp) I'.os ⟨λb o e n hb hx=>?_,λb o e n hb hx=>?_,λb o e n hx=>?_,λb o e hx=>?_,λb xs e=>?_,λb o u e=>?_,λb ps e=>?_⟩ ?_ I'.bare hch
   ·exact(sb.2 b (neC b o e)).trans (bs.keep b o e n hb hx)
   ·obtain⟨sl,q⟩:=bs.slot b o e n hb hx;exact⟨sl,(sb.2 b (neC b o e)).trans q⟩
   ·rw [aK (neD b o e)];exact bs.free b o e n hx
   ·obtain⟨o',q⟩:=bs.there b o e hx;exact⟨o',(sb.2 b (neC b o e)).trans q⟩
   ·have:=bs.tups b xs e;rw [aK (aF this hD)];exact this
   ·have:=bs.frzs b o u e;rw [aK (aF this hD)];exact this
   ·obtain⟨more,q⟩:=bs.tbls b ps e;exact⟨more,by rw [aK (aF q hD)];exact q⟩
   ·have h0:xT X.prog X.w H2 h':=λb u e=>(I'.hok b u e).stay (λc v hc q=>(sb.2 c (by
     rintro rfl;rcases hc with z | z
     ·rw [z,e] at hCn;cases hCn
     ·rw [z] at hCn;cases hCn)).trans q) (λ_ q=>q) λ_ _ q=>q
    refine R9 h0 hD ?_;obtain⟨n,e⟩:=pl;exact⟨hz,its,n,rv,(sb.2 D hDC).trans e⟩
  have hall:=all s'.heap (.refl ..);refine hR D (D+1) s' H2 ys m hall hD hn' all ?_ hDC.symm hq;refine⟨by rw [aK hDC.symm];exact hCn,?_,?_,.inr (le_trans I1.sz (by rw [hDe];exact le_succ _)),λy c e z=>?_,λp hp z=>?_⟩
  ·exact Nat.ne_of_gt (Nat.lt_trans (hDe ▸ I1.lt) (Nat.lt_succ_self _))
  ·exact I1.nofs (by rw [hDe];exact le_succ _)
  ·exact absurd z (ne_of_lt (lt_succ_of_lt (cellD y c e)))
  ·exact absurd z (ne_of_lt (lt_succ_of_lt (lt _ _ (I1.pin p hp).1)))
 have loop:∀s₃:Shared,s₃={ s with heap:=h₁,toks:=s.toks+([]:List (Str×Value)).length }->
   codeAny (model X.prog X.w) X.A (.compLoop (.ListComp elt [⟨tg,iter,ifs,0⟩] scope pos) 0 (.ref it) (.ref D) Y1.env) (RR (.ref D) (D+1)) s₃:=by
  rintro s₃ rfl;have stat:∀{H':Hp} {ob:Obj},(∀b∈fp,H' b=none)->∀b∈fp,JM Y1 [(D,ob)] H' b:=λ{H'} {ob} hn b hb=>by
   refine⟨hn b hb,ne_of_lt (lt_succ_of_lt (fpD b hb)),λhf=>okY.exfs b hb hf,.inl hb,λy c e=>(okY.exf b hb).2 y c e,λp hp z=>?_⟩;have hp':p∈[(D,ob)]:=hp;have e:p=(D,ob):=by simpa using hp'
   rw [e] at z;exact absurd z (Ne.symm (ne_of_lt (fpD b hb)))
  refine aaJ (λn s'=>∃i ys its H',∃ob:Obj,Inv Y1 [(D,ob)] σ0 H' s'/\(∃n,ob={ cls:=.type "list",data:=.seq its.toArray n })/\Vals ys its/\H' D=none/\tn i s'.heap/\(∀b∈fp,H' b=none)/\W i n ys H') ?_ m0
   ⟨0,[],[],H1,{ cls:=.type "list",dict:=none,data:=.seq ([]:List Value).toArray },?_,⟨_,rfl⟩,.nil,fresh _ (le_refl _),T.keep _ _ _ st1 λb _ o e=>old b o e,λb hb=>(f1 b hb).1,w0⟩
  ·rintro n s3 ⟨i,ys,its,H3,ob,I3,⟨cap,rfl⟩,rv,hD,st3,fr3,w3⟩;rcases turn i n ys H3 w3 with ⟨stop,hz,hq⟩ | ⟨go,hz,N,hN7,step⟩
   ·refine wpAny_mono (T.done Y1 Y Y Y hc i _ s3 σ0 H3 (λ_ _=>False) I3 (stat fr3) st3 stop) (λr s4 ⟨hr,I4⟩=>?_) λ_ _ f=>f.elim;subst hr;exact mkR s4 H3 ys its σ0 (I4.pins_of λp hp=>absurd hp (by simp)) ⟨cap,(I4.pin _ (mem_append_right _ mem_cons_self)).1⟩ rv hz hD hq
   ·refine wpAny_mono (T.item Y1 Y Y Y hc i _ s3 σ0 H3 (λ_ _=>False) I3 (stat fr3) st3 go) (λr s4 ⟨u,hr,h4⟩=>?_) λ_ _ f=>f.elim;subst hr;refine wpAny_mono h4 (λ_ s4 ⟨xv,H5,I5,r5,y5,st5,fr5⟩=>?_) λ_ _ f=>f.elim;have I5':=I5.pinned (stat fr5) (T.obj _ _ st5);refine wpAny_mono (hg cl (D+1) s H1 fp _ _ σ0 H5 xv u _ I5' r5 (step xv H5 y5)) (λ_ s6 ⟨σ6,H6,I6,hσ6,q6⟩=>?_) λ_ _ f=>False.elim f;have again:∀{s7:Shared} {H7:Hp} {ys7:List V} {its7:List Value} {cap7:Nat} {pl:List (Addr×Obj)},Inv Y1 ([(D,{ cls:=.type "list",data:=.seq its7.toArray cap7 })] ++ pl) σ6 H7 s7->(∀b∈fp,∀o,s4.heap.get? b=some o->s7.heap.get? b=some o/\H7 b=none)->Vals ys7 its7->(∃m',m' <n/\W (i+1) m' ys7 H7)->
      ∃m,m <n/\∃i ys its H',∃ob:Obj,Inv Y1 [(D,ob)] σ0 H' s7/\(∃n,ob={ cls:=.type "list",data:=.seq its.toArray n })/\Vals ys its/\H' D=none/\tn i s7.heap/\(∀b∈fp,H' b=none)/\W i m ys H':=by
     intro s7 H7 ys7 its7 cap7 pl I7 kf rv7 ⟨m',hm,w7⟩;refine⟨m',hm,i+1,ys7,its7,H7,_,I7.unpinned.weak (by rw [I7.len];show((xs.map λ_=>(none:Option V)) ++ fj σ js).length=(xs ++ dN X.N js).length;unfold fj dN;rw [length_append,length_append,length_map,length_map,length_map]) λj v e=>?_,⟨cap7,rfl⟩,rv7,(I7.pin _ (mem_append_right _ (List.mem_append_left _ mem_cons_self))).2.1,T.keep _ _ _ st5 λb hb o e=>(kf b hb o e).1,λb hb=>?_,w7⟩
     ·have e':((xs.map λ_=>(none:Option V)) ++ fj σ js)[j]?=some (some v):=e;by_cases hj:j <xs.length
      ·exfalso;rw [getElem?_append_left (by rw [length_map];exact hj),getElem?_map,getElem?_eq_getElem hj] at e';cases e'
      ·rw [getElem?_append_right (by rw [length_map];omega),length_map,<-hσ6,List.getElem?_drop] at e';rw [show xs.length+(j - xs.length)=j by omega] at e';exact e'
     ·obtain⟨o,e,_⟩:=T.obj _ _ st5 b hb;exact(kf b hb o e).2
    refine wpAny_mono (hif cl (D+1) s H1 fp _ s6 _ H6 _ I6 q6) (λok s7 ⟨H7,I7,q7⟩=>?_) λ_ _ f=>False.elim f;have kf7:∀b∈fp,∀o,s4.heap.get? b=some o->s7.heap.get? b=some o/\H7 b=none:=λb hb o e=>
     have z:=I7.pin (b,o) (mem_append_right _ (mem_append_right _ (tZ hb e)))
     ⟨z.1,z.2.1⟩
    cases ok with
    | false=>
     rw [if_neg Bool.false_ne_true] at q7 ⊢;exact again I7 kf7 rv (hN7 _ _ q7)
    | true=>
     rw [if_pos rfl] at q7 ⊢;refine wpAny_mono (he cl (D+1) s H1 fp _ s7 _ H7 _ I7 q7) (λyv s8 ⟨y,H8,I8,r8,q8⟩=>?_) λ_ _ f=>False.elim f;have pD:=I8.pin _ (mem_append_right _ (List.mem_append_left _ mem_cons_self));have hlen:=rv.length;refine wpAny_list_append_plain (items:=its.toArray) ⟨cap,pD.1⟩ (λh9 pl9 sb9=>?_) (by rw [size_toArray];omega);obtain⟨cap9,e9⟩:=pl9;have I9:Inv Y1 [] σ6 H8 { s8 with heap:=h9 }:=(I8.pins_of (pins':=[]) λp hp=>absurd hp (by simp)).turned (t':=s8.toks) (it:=D) (λb o hb e=>(sb9.2 b hb).trans e) pD.2.1 hDC
      (.inr (Nat.le_of_eq hDe)) (λy c e z=>absurd z (ne_of_lt (cellD y c (clsub y c e)))) λp hp=>absurd (show p∈([]:List (Addr×Obj)) from hp) (by simp)
     have kf9:∀b∈fp,∀o,s4.heap.get? b=some o->h9.get? b=some o/\H8 b=none:=λb hb o e=>by have z:=I8.pin (b,o) (mem_append_right _ (mem_append_right _ (tZ hb e)));exact⟨(sb9.2 b (ne_of_lt (fpD b hb))).trans z.1,z.2.1⟩
     refine again (s7:={ s8 with heap:=h9 }) (its7:=its ++ [yv]) (cap7:=cap9) (pl:=[]) (I9.pins_of λp hp=>?_) kf9 (rv.append (.cons r8 .nil)) (hN7 _ _ q8);have hp':p=(D,{ cls:=.type "list",data:=.seq (its ++ [yv]).toArray cap9 }):=by simpa using hp
     subst hp';refine⟨?_,pD.2.1,pD.2.2.1,pD.2.2.2.1,λv z=>by cases z⟩;rw [e9];simp
  ·refine IY.pins_of λp hp=>?_;have hp':p=(D,{ cls:=.type "list",dict:=none,data:=.seq ([]:List Value).toArray }):=by simpa using hp
   subst hp';exact⟨accD,fresh _ (le_refl _),hDC,λhf=>lt_irrefl _ (frD _ hf),λv z=>by cases z⟩
 exact codeAny_compStart_list (loop _ rfl) (wpAny_mono (T.self X.A 0 _ (λv s'=>v=.ref it/\s'={ s with heap:=h₁,toks:=s.toks+([]:List (Str×Value)).length }) (λ_ _=>False) (T.keep _ _ _ st1 λb _ o e=>old b o e) ⟨rfl,rfl⟩) (λv s' ⟨e1,e2⟩=>by subst e1 e2;exact loop _ rfl) λ_ _ f=>f.elim)
theorem UW (xs:List Str) (js:List Nat) (N0:List Str) (sc0:Scope) (hc:X.calm=true) (hi:PI X tg iter wi) (hg:∀cl C s H ex,PG (mO X scope xs js cl C s H ex) tg g)
  (hif:∀cl C s H ex,PF (mO X scope xs js cl C s H ex) ifs tt) (he:∀cl C s H ex,PE (mO X scope xs js cl C s H ex) elt te)
  (hk:scope.kind=.function:=by rfl) (hcell:∀y∈scope.names,y.2≠.cell:=by decide +kernel)
  (hnames:∀y∈scope.names,y.2=.local->scope.names.lookup y.1=some .local:=by decide +kernel)
  (hsc:X.env.scope=sc0:=by rfl) (hfree0:∀y∈scope.names,y.2=.free->sc0.names.lookup y.1=some .cell∨sc0.names.lookup y.1=some .free:=by decide +kernel)
  (hNN:X.N=N0:=by rfl) (hj0:∀y∈dN N0 js,scope.names.lookup y=some .free:=by decide +kernel)
  (hs:∀x,foldedSetIterable iter X.env x=pure x:=by intro _;rfl):
  PE X (.ListComp elt [⟨tg,iter,ifs,0⟩] scope pos) (Tq xs js wi g tt te):=by
 intro pins s σ H Q I h;have hfree:∀y∈scope.names,y.2=.free->X.env.kindOf y.1=some .cell∨X.env.kindOf y.1=some .free:=λy hy e=>by show X.env.scope.names.lookup y.1=some .cell∨X.env.scope.names.lookup y.1=some .free;rw [hsc];exact hfree0 y hy e
 rw [eval_ListComp];have hcl:closureFor scope X.env=pure (clos X.env scope.names []):=mZ λy hy e=>I.ok.has y.1 (hfree y hy e);refine wpAny_comprehension_free (use:=none) Y hs hcl hk hnames (eO (hi pins s σ H _ I h) λxv s1 h1=>eO h1 λit s2 h2=>?_);have hjs:∀y∈dN X.N js,scope.names.lookup y=some .free:=by rw [hNN];exact hj0
 refine vY xs js (RR:=λacc C=>compPost (model X.prog X.w) X.A X.xe none (EP X pins σ Q) acc C) (Q:=λys H2=>∀D,H2 D=none->Q (.ref D) (upd H2 D (.lst ys))) hc hk hcell hfree hg hif he hjs h2 ?_;intro D C s' H2 ys m I' hD hn all fpC hCD hq;exact⟨m,hn,λh' sb=>⟨.ref D,_,all h' sb,Y,hq D hD⟩⟩
theorem Tf {i:Nat} {y:Str} {py spos:Pos} (xs:List Str) (js:List Nat) (N0:List Str) (sc0:Scope) (hc:X.calm=true) (hNX:X.N.Nodup) (hiy:X.N[i]?=some y) (hi:PI X tg iter wi) (hg:∀cl C s H ex,PG (mO X scope xs js cl C s H ex) tg g)
  (hif:∀cl C s H ex,PF (mO X scope xs js cl C s H ex) ifs tt) (he:∀cl C s H ex,PE (mO X scope xs js cl C s H ex) elt te)
  (hsw:swapsWith (.ListComp elt [⟨tg,iter,ifs,0⟩] scope pos) (some (.Name y py)) spos.line X.env=pure true:=by rfl) (hy:X.env.scope.names.lookup y=some .local:=by rfl)
  (hk:scope.kind=.function:=by rfl) (hcell:∀y∈scope.names,y.2≠.cell:=by decide +kernel)
  (hnames:∀y∈scope.names,y.2=.local->scope.names.lookup y.1=some .local:=by decide +kernel)
  (hsc:X.env.scope=sc0:=by rfl) (hfree0:∀y∈scope.names,y.2=.free->sc0.names.lookup y.1=some .cell∨sc0.names.lookup y.1=some .free:=by decide +kernel)
  (hNN:X.N=N0:=by rfl) (hj0:∀y∈dN N0 js,scope.names.lookup y=some .free:=by decide +kernel)
  (hs:∀x,foldedSetIterable iter X.env x=pure x:=by intro _;rfl):
  PS X (.Assign [.Name y py] (.ListComp elt [⟨tg,iter,ifs,0⟩] scope pos) spos) (Vs (Tq xs js wi g tt te) (zE i)):=by
 intro pins s σ H D I h;have hfree:∀y∈scope.names,y.2=.free->X.env.kindOf y.1=some .cell∨X.env.kindOf y.1=some .free:=λy hy e=>by show X.env.scope.names.lookup y.1=some .cell∨X.env.scope.names.lookup y.1=some .free;rw [hsc];exact hfree0 y hy e
 have hjs:∀y∈dN X.N js,scope.names.lookup y=some .free:=by rw [hNN];exact hj0
 rw [exec_Assign_Name_used _ _ _ _ hsw];refine wpAny_bind (wpAny_standAt (wpAny_bind ?_));show wpAny _ X.A (do let _ <-comprehension (.ListComp elt [⟨tg,iter,ifs,0⟩] scope pos) scope X.env _ (newList []) false (eval iter X.env) (some (assign (.Name y py) X.env))) _ _ s;have hcl:closureFor scope X.env=pure (clos X.env scope.names []):=mZ λy hy e=>I.ok.has y.1 (hfree y hy e);refine wpAny_bind (wpAny_mono (wpAny_comprehension_free (use:=some (assign (.Name y py) X.env)) (Q:=λ_ s'=>SP X pins D .next s') Y hs hcl hk hnames
  (eO (hi pins s σ H _ I h) λxv s1 h1=>eO h1 λit s2 h2=>?_)) (λ_ s' hq=>wpAny_pure (wpAny_pure hq)) λ_ _ e=>e)
 refine vY xs js (RR:=λacc C=>compPost (model X.prog X.w) X.A X.xe (some (assign (.Name y py) X.env)) (λ_ s'=>SP X pins D .next s') acc C) (Q:=λys H2=>∀D',H2 D'=none->D.nx (σ.set i (some (.ref D'))) (upd H2 D' (.lst ys))) hc hk hcell hfree hg hif he hjs h2 ?_;intro D' C s' H2 ys m I' hD hn all fpC hCD hq;show wpAny _ X.A (assign (.Name y py) X.env (.ref D')) _ _ _;refine wpAny_assign_Name (BL I' hNX hiy (.inl hy) (v:=.ref D') Y (λs'' I'' ⟨a,sb,ha⟩=>?_) (.inr hy));obtain⟨f1,f2,f3,f4,f5,f6⟩:=fpC;have hCa:C≠a:=by
  rcases ha with z | z
  ·rw [z];exact f2
  ·exact λw=>f5 _ _ z w.symm
 exact⟨m,hn.sameBut sb hCa,λh' sb'=>⟨_,_,I''.turned (t':=s''.toks) (it:=C) (λb o hb e=>(sb'.2 b hb).trans e) f1 f2 f4 f5 f6,hq D' hD⟩⟩
end
theorem FT {ts:List Str} {js:List Nat} {σ:St} {g:TG} {tt:TT} {te:TE} {Qd:List V->Hp->Prop} {K:Fr} {a:Addr} {xs:List V} {H:Hp} (Pv:Nat->List V->Hp->Prop) (hn:xs.length<=sizeLine) (h0:Pv 0 [] H) (hl:∀i ys H,Pv i ys H->ys.length<=i) (hq:∀i ys H,i<=xs.length->Pv i ys H->bJ K H a xs)
  (hs:∀i x ys H,xs[i]?=some x->Pv i ys H->g x ((ts.map λ_=>none) ++ fj σ js) H λσ2 H3=>σ2.drop ts.length=fj σ js/\tt σ2 H3 λb H4=>if b=true then te σ2 H4 λy H5=>Pv (i+1) (ys ++ [y]) H5 else Pv (i+1) ys H4)
  (hd:∀ys H,Pv xs.length ys H->Qd ys H):Gq ts js σ g tt te Qd (XH K a) H:=by
 refine⟨λi m ys H=>m=xs.length - i/\i<=xs.length/\Pv i ys H,⟨xs.length,by simp,zero_le _,h0⟩,?_⟩;rintro i m ys H ⟨rfl,hi,p⟩;have hlen:=hl i ys H p;have q:=hq i ys H hi p;by_cases hlt:i <xs.length
 ·refine .inr ⟨⟨xs,xs[i],q,by simp [hlt]⟩,by omega,Pv (i+1),λys' H' p'=>⟨xs.length - (i+1),by omega,Y,hlt,p'⟩,λx H' y=>?_⟩;obtain⟨e,y⟩:=y;subst e;exact hs i x ys _ (y xs q) p
 ·have e:i=xs.length:=by omega
  subst e;exact .inl ⟨⟨xs,q,le_refl _⟩,by omega,hd ys H p⟩
structure OJ (K:Fr) (x qual:Str) (st:Stmt) (f:Addr) (fd:FuncData) (its:Array Value):Prop where
 ex:∃(oc:Value) (od:Option Addr) (T:Addr) (kV doc pm:Value) (an:Option Addr) (cdv ct:Value) (osl:Array (Option Value)) (o:Obj) (n:Nat),
  fd=PySem.W.fnOf x qual (jV st) (jf st) (aZ st) (.ref T) kV doc pm an cdv ct/\K.lookup f=some ⟨oc,od,.func fd,osl⟩/\PySem.W.codeIn K cdv qual=true/\K.lookup T=some o/\o.data=.seq its n
 kp:PySem.W.keepIn K (.ref f)=true
section
variable {P:Program} {w:World} {K:Fr} {mg:Str->Option Value} {base:Heap} {its:Array Value}
theorem OJ.ok {x qual:Str} {st:Stmt} {f:Addr} {fd:FuncData} {N ps:List Str} {k:Nat} {sp:Sp} (F:OJ K x qual st f fd its) (S:ir N ps (aZ st)) (len:∀vs H Q E,sp vs H Q E->vs.length=ps.length)
  (hbody:∀(cdv:Value) (A:Around) (outer:List Env) (s:Shared) (H:Hp) (vs:List V) (Q:VK) (E:XK),jL k (A.deeper (envOfC qual (aZ st) s.heap.objs.size f cdv))->sp vs H Q E->
   ∃t,QH (N6 BX P w K mg base N qual (aZ st) f cdv A outer s H E).nox (jf st) t/\t { nx:=λ_ H'=>Q .non H',rt:=Q } (start N vs) H):jG P w K mg base BX (k+1) f fd ps sp:=by
 obtain⟨oc,od,T,kV,doc,pm,an,cdv,ct,osl,o,n,rfl,lk,hcd,_⟩:=F.ex;refine XX lk hcd S len λA outer s H vs Q E hr hsp=>?_;obtain⟨t,h,q⟩:=hbody cdv A outer s H vs Q E hr hsp;exact⟨t,h.nox,q⟩
theorem OJ.binds {x qual:Str} {st:Stmt} {f:Addr} {fd:FuncData} {ps:List Str} (F:OJ K x qual st f fd its)
  (h:∀(T:Addr) (kV doc pm:Value) (an:Option Addr) (cdv ct:Value) (us:List Value),us.length=ps.length->∃k,bindArgs (PySem.W.fnOf x qual (jV st) (jf st) (aZ st) (.ref T) kV doc pm an cdv ct) ⟨us,[]⟩=seqItems? (.ref T) >>= k/\k (some its)=pure (ps.zip us)):Binds K fd ps []:=by
 obtain⟨oc,od,T,kV,doc,pm,an,cdv,ct,osl,o,n,rfl,lk,hcd,hT,ho⟩:=F.ex;intro s us X hl;rw [append_nil] at hl ⊢;obtain⟨k,h1,h2⟩:=h T kV doc pm an cdv ct us hl;exact .of_defaults Y (X _ _ hT) ho h1 h2
theorem Xq {x qual:Str} {st:Stmt} {f T:Addr} {oc:Value} {od an:Option Addr} {osl:Array (Option Value)} {kV doc pm cdv ct:Value} {o:Obj} {n:Nat} (l:K.lookup f=some ⟨oc,od,.func (PySem.W.fnOf x qual (jV st) (jf st) (aZ st) (.ref T) kV doc pm an cdv ct),osl⟩)
  (c:PySem.W.codeIn K cdv qual=true) (k:PySem.W.keepIn K (.ref f)=true) (d:K.lookup T=some o) (e:o.data=.seq its n):OJ K x qual st f (PySem.W.fnOf x qual (jV st) (jf st) (aZ st) (.ref T) kV doc pm an cdv ct) its:=⟨⟨oc,od,T,kV,doc,pm,an,cdv,ct,osl,o,n,rfl,l,c,d,e⟩,k⟩
end
section
variable {X:Cx} {e:Expr} {es:List Expr} {te:TE} {t:TA} {pos:Pos} {st:Stmt} {rest:List Stmt} {ts us:TS}
end
section
variable {X:Cx}
noncomputable def VF (z:Str):Value->Bool
 | .str y _=>y.cps.toList == z.cps.toList
 | _=>false
theorem Jj {z:Str} {t:Tok}:∀{ys:List Str} {us:List Value},Vals (ys.map V.str) us->(∀u∈us,PySem.MeetsSeq.EqGives u (.str z t) (VF z u))/\us.countP (VF z)=ys.countP (λy=>decide (y=z))/\∀(m:Nat) (u:Value),us[m]?=some u->∃y,ys[m]?=some y/\VF z u=decide (y=z)
 | [],us,r=>by rw [map_nil] at r;cases r;exact⟨(λ_ h=>by cases h),rfl,λm u h=>by simp at h⟩
 | y:: ys,us,r=>by
  rw [map_cons] at r;cases r with
  | cons r1 r2=>
   obtain⟨t',e⟩:=r1;subst e;obtain⟨h1,h2,h3⟩:=Jj (z:=z) (t:=t) r2;have he:VF z (.str y t')=decide (y=z):=by show(y.cps.toList == z.cps.toList)=decide (y=z);rw [Bool.eq_iff_iff,beq_iff_eq,decide_eq_true_eq];exact⟨λh=>ext_toList h,λh=>by rw [h]⟩
   refine⟨λu hu=>?_,?_,λm u hm=>?_⟩
   ·rcases mem_cons.mp hu with rfl | hu
    ·exact PySem.SeqRoads2.EqGives.str y z t' t
    ·exact h1 u hu
   ·rw [List.countP_cons,List.countP_cons,h2,he]
   ·cases m with
    | zero=>
     simp only [getElem?_cons_zero,Option.some.injEq] at hm;subst hm;exact⟨y,Y,he⟩
    | succ m=>exact h3 m u (by simpa using hm)
inductive LR (x:V) (vs:List V) (H:Hp) (Q:VK):Prop where
 | mk:∀(l:Addr) (xs:List Str) (z:Str) (j:Nat),x=.ref l->vs=[.str z]->H l=some (.lst (xs.map V.str))->xs[j]?=some z->((∀m y,m <j->xs[m]?=some y->y≠z))->Q (.int (j:Nat)) H->LR x vs H Q
noncomputable def Xi:V->List V->Hp->VK->Prop:=λx vs H Q=>LR x vs H Q
theorem Jf:MtM X "list.index" Xi:=by
 intro pins s σ H x vs v us Q I rx rv h;obtain⟨l,xs,z,j,rfl,rfl,hH,hj,hno,q⟩:=h;cases rx;obtain⟨u,rfl,ru⟩:=rv.one;obtain⟨t,rfl⟩:=ru;obtain⟨hz,its,n,r,hl,e⟩:=I.lstM hH;have hsz:sizeLine=16777216:=sizeLine_eq;obtain⟨h1,_,h3⟩:=Jj (z:=z) (t:=t) r;have hjx:=(List.getElem?_eq_some_iff.mp hj).1;rw [length_map] at hl hz;have hji:j <its.length:=by omega
 refine call_meets F.slot_list_index ⟨_,e,Y⟩ F.entry_list_index (F.args_list_index_2 _ _) (MeetsSeq.list_index l its.toArray n (.str z t) (VF z) (λy hy=>h1 y (by simpa using hy)) j (by simpa using hji) (by omega) ?_ ?_) ⟨e,?_⟩
 ·obtain⟨y,hy,e2⟩:=h3 j its[j] (getElem?_eq_getElem hji);rw [hj] at hy;cases hy;simpa using e2
 ·intro m hm hlt;have hm':m <its.length:=by simpa using hm
  obtain⟨y,hy,e2⟩:=h3 m its[m] (getElem?_eq_getElem hm');have:=hno m y hlt hy;simp only [List.getElem_toArray];rw [e2];exact decide_eq_false this
 ·exact⟨.int (j:Nat),H,I.tok _,⟨s.toks,Y⟩,q⟩
end
section
variable {X:Cx}
end
section
variable {prog:Program} {w:World} {A:Around} {E:Value->Shared->Prop}
end
section
variable {X:Cx} {tg:Expr}
end
section
variable {X:Cx} {e:Expr}
end
section
variable {X:Cx}
inductive XQ (K:Fr) (neg:Bool) (x:V) (y:V) (H:Hp) (Q:VK):Prop where
 | mk:∀d ds,Dt K H x d->Dt K H y (.list ds)->SeqAt.shaped d=true->SeqAt.shaped (.list ds)=true->(Q (.bl (if neg then !(ds.any λz=>PyData.eqv z d) else ds.any λz=>PyData.eqv z d)) H)->XQ K neg x y H Q
noncomputable def abu (K:Fr) (neg:Bool):R2:=λx y H Q=>XQ K neg x y H Q
theorem Rv (hu:X.A.units+100 <cLine):vz X (compareOp .NotIn) (abu X.K true):=by intro pins s σ H x y v u Q I rx ry h;obtain⟨d,ds,h1,h2,s1,s2,q⟩:=h;obtain⟨as,r1⟩:=h1.reads I rx;obtain⟨bs,r2⟩:=h2.reads I ry;exact SeqAt.notIn_list_reads r2 r1 (SeqAt.canLay_of_shaped s2) (SeqAt.canLay_of_shaped s1) (room_in_shaped s1 (by omega)) (dh I q Y)
end
section
variable {M:Model} {A:Around} {E:Value->Shared->Prop} {nm q:Str} {C N:Addr} {bs bm:List Value} {hdct:Bool} {sn:List Str} {sub:List Value} {ab:Bool} {col:Option Bool} {dd:Option Addr} {k0 k1 k2 k3 k5:Option Value} {newId:String}
end
end L2
namespace L2
open PySem PyProof
section
variable {X:Cx} {x:Str} {px pos:Pos} {iter elt:Expr} {ifs:List Expr} {scope:Scope} {wi:TI} {tt:TT} {te:TE}
theorem Cq (js:List Nat) {pins:List (Addr×Obj)} {σ:St} {s:Shared} {itv:Value} {Q:List V->Hp->Prop} {RR:Value->Addr->Result->Shared->Prop} {E:Value->Shared->Prop}
  (hc:X.calm=true) (hk:scope.kind=.function) (hx:scope.names.lookup x=some .local) (hcell:∀y∈scope.names,y.2≠.cell)
  (hfree:∀y∈scope.names,y.2=.free->X.env.kindOf y.1=some .cell∨X.env.kindOf y.1=some .free)
  (hN:(x:: dN X.N js).Nodup) (hjs:∀y∈dN X.N js,scope.names.lookup y=some .free)
  (hif:∀cl C s H ex,PF (BK X scope x js cl C s H ex) ifs tt) (he:∀cl C s H ex,PE (BK X scope x js cl C s H ex) elt te)
  (hit:PIE X pins σ (.Name x px) (CompEnd js tt te σ Q) itv s)
  (hR:∀D C s' H2 ys m,Inv X pins σ (upd H2 D (.lst ys)) s'->H2 D=none->s'.heap.Ns C m->(∀h',Heap.SameBut C s'.heap h'->Inv X pins σ (upd H2 D (.lst ys)) { s' with heap:=h' })->JM X pins (upd H2 D (.lst ys)) C->C≠D->Q ys H2->RR (.ref D) C (.ok .next) s'):
  wpAny (model X.prog X.w) X.A (newList []) (λacc s₃=>wpAny (model X.prog X.w) X.A (newFunctionEnv scope X.env.globals (clos X.env scope.names []) [] X.env.qual none .none (some X.env)) (λcenv s₄=>
   codeAny (model X.prog X.w) X.A (.compStart (.ListComp elt [⟨.Name x px,iter,ifs,0⟩] scope pos) 0 itv acc { cenv with scope:=relabel scope X.env }) (RR acc cenv.locals) s₄) E s₃) E s:=
 vY (tg:=.Name x px) (g:=zE 0) [x] js hc hk hcell hfree (λcl C s H ex=>xP (i:=0) hN rfl (.inl (lookup_relabel_local hx)) (.inr (lookup_relabel_local hx))) hif he hjs
  (by obtain⟨it,fp,tn,J,H',e,I,T,t0,hf,W,h0,hW⟩:=hit;exact⟨it,fp,tn,J,H',e,I,T,t0,hf,W,h0,λi m ys H2 w=>(hW i m ys H2 w).imp_right λ⟨a,b,N,c,d⟩=>⟨a,b,N,c,λy H3 z=>⟨Y,d y H3 z⟩⟩⟩) hR
theorem eY (js:List Nat) (N0:List Str) (sc0:Scope) (hc:X.calm=true) (hi:PI X (.Name x px) iter wi)
  (hif:∀cl C s H ex,PF (BK X scope x js cl C s H ex) ifs tt) (he:∀cl C s H ex,PE (BK X scope x js cl C s H ex) elt te)
  (hk:scope.kind=.function:=by rfl) (hx:scope.names.lookup x=some .local:=by rfl) (hcell:∀y∈scope.names,y.2≠.cell:=by decide +kernel)
  (hnames:∀y∈scope.names,y.2=.local->scope.names.lookup y.1=some .local:=by decide +kernel)
  (hsc:X.env.scope=sc0:=by rfl) (hfree0:∀y∈scope.names,y.2=.free->sc0.names.lookup y.1=some .cell∨sc0.names.lookup y.1=some .free:=by decide +kernel)
  (hNN:X.N=N0:=by rfl) (hN0:(x:: dN N0 js).Nodup:=by decide +kernel) (hj0:∀y∈dN N0 js,scope.names.lookup y=some .free:=by decide +kernel)
  (hs:∀x,foldedSetIterable iter X.env x=pure x:=by intro _;rfl):
  PE X (.ListComp elt [⟨.Name x px,iter,ifs,0⟩] scope pos) (XF js wi tt te):=by
 intro pins s σ H Q I h;have hN:(x:: dN X.N js).Nodup:=by rw [hNN];exact hN0
 have hfree:∀y∈scope.names,y.2=.free->X.env.kindOf y.1=some .cell∨X.env.kindOf y.1=some .free:=λy hy e=>by show X.env.scope.names.lookup y.1=some .cell∨X.env.scope.names.lookup y.1=some .free;rw [hsc];exact hfree0 y hy e
 have hjs:∀y∈dN X.N js,scope.names.lookup y=some .free:=by rw [hNN];exact hj0
 rw [eval_ListComp];have hcl:closureFor scope X.env=pure (clos X.env scope.names []):=mZ λy hy e=>I.ok.has y.1 (hfree y hy e);refine wpAny_comprehension_free (use:=none) Y hs hcl hk hnames (eO (hi pins s σ H _ I h) λxv s1 h1=>eO h1 λit s2 h2=>?_);refine Cq js (RR:=λacc C=>compPost (model X.prog X.w) X.A X.xe none (EP X pins σ Q) acc C) (Q:=λys H2=>∀D,H2 D=none->Q (.ref D) (upd H2 D (.lst ys))) hc hk hx hcell hfree hN hjs hif he h2 ?_;intro D C s' H2 ys m I' hD hn all fpC hCD hq;exact⟨m,hn,λh' sb=>⟨.ref D,_,all h' sb,Y,hq D hD⟩⟩
theorem jJ {i:Nat} {y:Str} {py spos:Pos} (js:List Nat) (N0:List Str) (sc0:Scope) (hc:X.calm=true) (hNX:X.N.Nodup) (hiy:X.N[i]?=some y) (hi:PI X (.Name x px) iter wi)
  (hif:∀cl C s H ex,PF (BK X scope x js cl C s H ex) ifs tt) (he:∀cl C s H ex,PE (BK X scope x js cl C s H ex) elt te)
  (hsw:swapsWith (.ListComp elt [⟨.Name x px,iter,ifs,0⟩] scope pos) (some (.Name y py)) spos.line X.env=pure true:=by rfl) (hy:X.env.scope.names.lookup y=some .local:=by rfl)
  (hk:scope.kind=.function:=by rfl) (hx:scope.names.lookup x=some .local:=by rfl) (hcell:∀y∈scope.names,y.2≠.cell:=by decide +kernel)
  (hnames:∀y∈scope.names,y.2=.local->scope.names.lookup y.1=some .local:=by decide +kernel)
  (hsc:X.env.scope=sc0:=by rfl) (hfree0:∀y∈scope.names,y.2=.free->sc0.names.lookup y.1=some .cell∨sc0.names.lookup y.1=some .free:=by decide +kernel)
  (hNN:X.N=N0:=by rfl) (hN0:(x:: dN N0 js).Nodup:=by decide +kernel) (hj0:∀y∈dN N0 js,scope.names.lookup y=some .free:=by decide +kernel)
  (hs:∀x,foldedSetIterable iter X.env x=pure x:=by intro _;rfl):
  PS X (.Assign [.Name y py] (.ListComp elt [⟨.Name x px,iter,ifs,0⟩] scope pos) spos) (Vs (XF js wi tt te) (zE i)):=by
 intro pins s σ H D I h;have hN:(x:: dN X.N js).Nodup:=by rw [hNN];exact hN0
 have hfree:∀y∈scope.names,y.2=.free->X.env.kindOf y.1=some .cell∨X.env.kindOf y.1=some .free:=λy hy e=>by show X.env.scope.names.lookup y.1=some .cell∨X.env.scope.names.lookup y.1=some .free;rw [hsc];exact hfree0 y hy e
 have hjs:∀y∈dN X.N js,scope.names.lookup y=some .free:=by rw [hNN];exact hj0
 rw [exec_Assign_Name_used _ _ _ _ hsw];refine wpAny_bind (wpAny_standAt (wpAny_bind ?_));show wpAny _ X.A (do let _ <-comprehension (.ListComp elt [⟨.Name x px,iter,ifs,0⟩] scope pos) scope X.env _ (newList []) false (eval iter X.env) (some (assign (.Name y py) X.env))) _ _ s;have hcl:closureFor scope X.env=pure (clos X.env scope.names []):=mZ λy hy e=>I.ok.has y.1 (hfree y hy e);refine wpAny_bind (wpAny_mono (wpAny_comprehension_free (use:=some (assign (.Name y py) X.env)) (Q:=λ_ s'=>SP X pins D .next s') Y hs hcl hk hnames
  (eO (hi pins s σ H _ I h) λxv s1 h1=>eO h1 λit s2 h2=>?_)) (λ_ s' hq=>wpAny_pure (wpAny_pure hq)) λ_ _ e=>e)
 refine Cq js (RR:=λacc C=>compPost (model X.prog X.w) X.A X.xe (some (assign (.Name y py) X.env)) (λ_ s'=>SP X pins D .next s') acc C) (Q:=λys H2=>∀D',H2 D'=none->D.nx (σ.set i (some (.ref D'))) (upd H2 D' (.lst ys))) hc hk hx hcell hfree hN hjs hif he h2 ?_;intro D' C s' H2 ys m I' hD hn all fpC hCD hq;show wpAny _ X.A (assign (.Name y py) X.env (.ref D')) _ _ _;refine wpAny_assign_Name (BL I' hNX hiy (.inl hy) (v:=.ref D') Y (λs'' I'' ⟨a,sb,ha⟩=>?_) (.inr hy));obtain⟨f1,f2,f3,f4,f5,f6⟩:=fpC;have hCa:C≠a:=by
  rcases ha with z | z
  ·rw [z];exact f2
  ·exact λw=>f5 _ _ z w.symm
 exact⟨m,hn.sameBut sb hCa,λh' sb'=>⟨_,_,I''.turned (t':=s''.toks) (it:=C) (λb o hb e=>(sb'.2 b hb).trans e) f1 f2 f4 f5 f6,hq D' hD⟩⟩
end
end L2
namespace L2
open PySem PySem.Spec PyProof.Rows
noncomputable def fdOf (K:Fr) (f:Addr):FuncData:=match K.lookup f with
 | some ⟨_,_,.func d,_⟩=>d
 | _=>default
theorem Xh {K:Fr} {f:Addr} {oc:Value} {od:Option Addr} {fd:FuncData} {osl:Array (Option Value)} (l:K.lookup f=some ⟨oc,od,.func fd,osl⟩):fdOf K f=fd:=by unfold fdOf;rw [l]
structure d8 (K:Fr) (nm qn:Str) (s:Stmt) (f:Addr) (ps:List Str):Prop where
 F:Yu K nm qn s f (fdOf K f)
 b:Binds K (fdOf K f) ps []
 i:PySem.W.isFn K (.ref f)=true
theorem d8.me {K:Fr} {nm qn m:Str} {s:Stmt} {f C:Addr} {ps:List Str} (x:d8 K nm qn s f ps) (h:PySem.W.findIn K (.ref C) m=some (some (.ref f))):Meth K C m f:=⟨h,x.i,x.F.kp⟩
theorem d8.of {K:Fr} {nm qn:Str} {s:Stmt} {f:Addr} {ps:List Str} {oc:Value} {od an:Option Addr} {osl:Array (Option Value)} {kV doc pm cdv ct:Value}
  (l:K.lookup f=some ⟨oc,od,.func (PySem.W.fnOf nm qn (jV s) (jf s) (aZ s) .none kV doc pm an cdv ct),osl⟩) (c:PySem.W.codeIn K cdv qn=true) (k:PySem.W.keepIn K (.ref f)=true) (i:PySem.W.isFn K (.ref f)=true)
  (h:∀(kV doc pm:Value) (an:Option Addr) (cdv ct:Value) (us:List Value),us.length=ps.length->bindArgs (PySem.W.fnOf nm qn (jV s) (jf s) (aZ s) .none kV doc pm an cdv ct) ⟨us,[]⟩=pure (ps.zip us)):d8 K nm qn s f ps:=by
 have e:fdOf K f=PySem.W.fnOf nm qn (jV s) (jf s) (aZ s) .none kV doc pm an cdv ct:=by unfold fdOf;rw [l]
 have F:=Y6 l c k;have b:=F.binds h;rw [<-e] at F b;exact⟨F,b,i⟩
structure ZC (K:Fr) (nm qn:Str) (s:Stmt) (f:Addr) (ps:List Str):Prop where
 F:OJ K nm qn s f (fdOf K f) #[.none]
 b:Binds K (fdOf K f) ps []
 i:PySem.W.isFn K (.ref f)=true
theorem ZC.me {K:Fr} {nm qn m:Str} {s:Stmt} {f C:Addr} {ps:List Str} (x:ZC K nm qn s f ps) (h:PySem.W.findIn K (.ref C) m=some (some (.ref f))):Meth K C m f:=⟨h,x.i,x.F.kp⟩
theorem ZC.of {K:Fr} {nm qn:Str} {s:Stmt} {f T:Addr} {ps:List Str} {oc oe:Value} {od an oh:Option Addr} {osl osm:Array (Option Value)} {kV doc pm cdv ct:Value} {n:Nat}
  (l:K.lookup f=some ⟨oc,od,.func (PySem.W.fnOf nm qn (jV s) (jf s) (aZ s) (.ref T) kV doc pm an cdv ct),osl⟩) (d:K.lookup T=some ⟨oe,oh,.seq #[.none] n,osm⟩) (c:PySem.W.codeIn K cdv qn=true) (k:PySem.W.keepIn K (.ref f)=true) (i:PySem.W.isFn K (.ref f)=true)
  (h:∀fd:FuncData,OJ K nm qn s f fd #[.none]->Binds K fd ps []):ZC K nm qn s f ps:=by
 have F:=Xq (its:=#[.none]) l c k d rfl;have b:=h _ F;rw [<-Xh l] at F b;exact⟨F,b,i⟩
structure oZ (K:Fr) (mg:Str->Option Value) (nm:Str) (s:Stmt) (f:Addr) (ps:List Str):Prop where
 x:d8 K nm nm s f ps
 m:mg nm=some (.ref f)
theorem oZ.of {K:Fr} {mg:Str->Option Value} {nm:Str} {s:Stmt} {f:Addr} {ps:List Str} (m:mg nm=some (.ref f)) (x:d8 K nm nm s f ps):oZ K mg nm s f ps:=⟨x,m⟩
theorem gC {mg:Str->Option Value} {nm:Str} {u:Value} {v:V} (m:mg nm=some u) (r:RelV v u):∃u,mg nm=some u/\RelV v u:=⟨u,m,r⟩
theorem oZ.F {K:Fr} {mg:Str->Option Value} {nm:Str} {s:Stmt} {f:Addr} {ps:List Str} (h:oZ K mg nm s f ps):Yu K nm nm s f (fdOf K f):=h.x.F
theorem oZ.b {K:Fr} {mg:Str->Option Value} {nm:Str} {s:Stmt} {f:Addr} {ps:List Str} (h:oZ K mg nm s f ps):Binds K (fdOf K f) ps []:=h.x.b
noncomputable def MB (K:Fr) (C:Addr):List (Str×Addr)->Prop
 | []=>True
 | (m,f):: r=>PySem.W.findIn K (.ref C) m=some (some (.ref f))/\MB K C r
noncomputable def NB (K:Fr) (C:Addr):List Str->Prop
 | []=>True
 | f:: r=>PySem.W.findIn K (.ref C) f=some none/\NB K C r
structure K5 (K:Fr) (mg:Str->Option Value) (nm:Str) (C:Addr) (ms:List (Str×Addr)) (as:List Str):Prop where
 m:mg nm=some (.ref C)
 c:RM K C
 mks:PySem.W.makesIn K C=true
 kp:PySem.W.keepIn K (.ref C)=true
 me:MB K C ms
 na:NB K C as
theorem K5.M {K:Fr} {mg:Str->Option Value} {nm:Str} {C f:Addr} {ms:List (Str×Addr)} {as ps:List Str} {n q:Str} {s:Stmt} (h:K5 K mg nm C (("__init__",f):: ms) as) (x:d8 K n q s f ps):Mk K C f:=⟨h.mks,h.me.1,x.i,h.kp⟩
theorem Zo {K:Fr} {nm qn:Str} {st:Stmt} {f:Addr} {x:Str} (F:Yu K nm qn st f (fdOf K f))
  (h:∀(kV doc pm:Value) (an:Option Addr) (cdv ct v:Value),bindArgs (PySem.W.fnOf nm qn (jV st) (jf st) (aZ st) .none kV doc pm an cdv ct) ⟨[v],[]⟩=pure [(x,v)]) (s:Shared) (v:Value):BindsTo s (fdOf K f) ⟨[v],[]⟩ [(x,v)]:=by
 obtain⟨oc,od,kV,doc,pm,an,cdv,ct,osl,e,lk,hcd⟩:=F.ex;rw [e];exact .of_eq (h kV doc pm an cdv ct v)
theorem abA {K:Fr} {h:Heap} {C f:Addr} (X:K.In h) (_:PySem.W.findIn K (.ref C) "__init__" =some (some (.ref f))) (b:Vw K C f=true):ExcAt K C:=(GZ.ofIn b).at X
theorem us_0 {α:Type} {P:List α->Prop} (h:P []):∀us:List α,us.length=0->P us
 | [],_=>h
theorem yJ {α:Type} {P:List α->Prop} (h:∀a,P [a]):∀us:List α,us.length=1->P us
 | [a],_=>h a
theorem vZ {α:Type} {P:List α->Prop} (h:∀a b,P [a,b]):∀us:List α,us.length=2->P us
 | [a,b],_=>h a b
theorem Hq {α:Type} {P:List α->Prop} (h:∀a b c,P [a,b,c]):∀us:List α,us.length=3->P us
 | [a,b,c],_=>h a b c
theorem Zj {α:Type} {P:List α->Prop} (h:∀a b c d,P [a,b,c,d]):∀us:List α,us.length=4->P us
 | [a,b,c,d],_=>h a b c d
theorem aaI {α:Type} {P:List α->Prop} (h:∀a b c d e,P [a,b,c,d,e]):∀us:List α,us.length=5->P us
 | [a,b,c,d,e],_=>h a b c d e
theorem abd {α:Type} {P:List α->Prop} (h:∀a b c d e f,P [a,b,c,d,e,f]):∀us:List α,us.length=6->P us
 | [a,b,c,d,e,f],_=>h a b c d e f
theorem us_7 {α:Type} {P:List α->Prop} (h:∀a b c d e f g,P [a,b,c,d,e,f,g]):∀us:List α,us.length=7->P us
 | [a,b,c,d,e,f,g],_=>h a b c d e f g
theorem d8.sc {K:Fr} {nm qn:Str} {s:Stmt} {f:Addr} {ps:List Str} (_:d8 K nm qn s f ps) (N:List Str) (h:ir N ps (aZ s):=by exact⟨rfl,rfl,rfl,by decide +kernel,rfl,by decide +kernel,by decide +kernel⟩):ir N ps (aZ s):=h
theorem oZ.sc {K:Fr} {mg:Str->Option Value} {nm:Str} {s:Stmt} {f:Addr} {ps:List Str} (_:oZ K mg nm s f ps) (N:List Str) (h:ir N ps (aZ s):=by exact⟨rfl,rfl,rfl,by decide +kernel,rfl,by decide +kernel,by decide +kernel⟩):ir N ps (aZ s):=h
noncomputable abbrev FO (P:Program) (w:World) (K:Fr) (mg:Str->Option Value) (base:Heap) (k:Nat) (f:Addr) (ps:List Str) (sp:Sp):Prop:=jG P w K mg base BX k f (fdOf K f) ps sp
theorem P0 {N ps:List Str} {sc:Scope} (h:ir N ps sc:=by exact⟨rfl,rfl,rfl,by decide +kernel,rfl,by decide +kernel,by decide +kernel⟩):ir N ps sc:=h
section
variable {X:Cx} {k k' i:Nat} {f C:Addr} {ps as:List Str} {ms:List (Str×Addr)} {sp:Sp} {x m nm qn n:Str} {p pos apos pos':Pos} {e o:Expr} {es:List Expr} {ta te:TE} {t:TA} {s:Stmt} {N:List Str}
theorem dX (F:jG X.prog X.w X.K X.mg X.base BX k f (fdOf X.K f) ps sp) (g:oZ X.K X.mg x s f ps) (hr:jL k' X.A) (ha:PA X (e:: es) t) (hk:k<=k':=by decide) (hg:Gl X x:=by rfl)
  (hdb:(x == ("__debug__" :Str))=false:=by decide) (he:starEach (e:: es) X.env=(false,eval e X.env):: starEach es X.env:=by rfl) (hpl:(backTo pos (starEach es X.env)).any (·.1)=false:=by rfl):
  PE X (.Call (.Name x p) (e:: es) [] pos) (Yt sp [] E0 t):=Xb F (hr.mono hk) hg g.m g.F.kp g.b .nil gh ha hdb he hpl
theorem uo {pl:Sem Bool} (he:PE X o ta) (c:K5 X.K X.mg n C ms as) (hm:PySem.W.findIn X.K (.ref C) m=some (some (.ref f))) (F:jG X.prog X.w X.K X.mg X.base BX k f (fdOf X.K f) ps sp) (g:d8 X.K nm qn s f ps) (hr:jL k' X.A) (ha:PA X (e:: es) t)
  (hk:k<=k':=by decide) (hst:starEach (e:: es) X.env=(false,eval e X.env):: starEach es X.env:=by rfl) (hpl:(backTo pos (starEach es X.env)).any (·.1)=false:=by rfl)
  (ht:eval (.Call (.Attribute o m apos) (e:: es) [] pos) X.env=(do
   let ov <-eval o X.env
   standAt apos.atName
   let (f,first) <-holding [ov] (getMethod ov m pl)
   callWith pos f first (backTo pos (starEach (e:: es) X.env)) (backToKw pos (keywordEach [] X.env))):=by rfl):
  PE X (.Call (.Attribute o m apos) (e:: es) [] pos) (M3 C m sp [] E0 ta t):=Ku he c.c (g.me hm) F (hr.mono hk) g.b .nil gh ha hst hpl ht
theorem Ma {pl:Sem Bool} (he:PE X o ta) (c:K5 X.K X.mg n C ms as) (hm:PySem.W.findIn X.K (.ref C) m=some (some (.ref f))) (F:jG X.prog X.w X.K X.mg X.base BX k f (fdOf X.K f) ps sp) (g:d8 X.K nm qn s f ps) (hr:jL k' X.A)
  (hk:k<=k':=by decide) (ht:eval (.Call (.Attribute o m apos) [] [] pos) X.env=(do
   let ov <-eval o X.env
   standAt apos.atName
   let (f,first) <-holding [ov] (getMethod ov m pl)
   callWith pos f first (backTo pos (starEach [] X.env)) (backToKw pos (keywordEach [] X.env))):=by rfl):
  PE X (.Call (.Attribute o m apos) [] [] pos) (M3 C m sp [] E0 ta RB):=U9 he c.c (g.me hm) F (hr.mono hk) g.b .nil gh ht
theorem gN {sc:Scope} (S:ir X.N ps sc) (i:Nat) (hi:X.N[i]?=some x:=by rfl) (hx:Loc X.env.scope x:=by first | exact Or.inl rfl | exact Or.inr rfl) (hf:X.fn x=true∨X.env.scope.names.lookup x=some .local:=by first | exact .inl rfl | exact .inr rfl | assumption):PG X (.Name x pos) (zE i):=xP S.nd hi hx hf
theorem sN {sc:Scope} (S:ir X.N ps sc) (i:Nat) (he:PE X e te) (hi:X.N[i]?=some x:=by rfl) (hx:Loc X.env.scope x:=by first | exact Or.inl rfl | exact Or.inr rfl) (hs:swapsWith e (some (.Name x pos')) pos.line X.env=pure false:=by rfl) (hf:X.fn x=true∨X.env.scope.names.lookup x=some .local:=by first | exact .inl rfl | exact .inr rfl | assumption):
  PS X (.Assign [.Name x pos'] e pos) (Vs te (zE i)):=Zt S.nd hi hx he hs hf
theorem Ho (h1:PE X o ta) (h2:PA X (e:: es) t) (hbase:attributeBase o "append" X.env (eval o X.env)=eval o X.env:=by rfl)
  (hfew:((backTo pos (starEach (e:: es) X.env)).all (λx=>!x.1) && (backToKw pos (keywordEach [] X.env)).all (λx=>x.1.isSome) && decide ((e:: es).length+([]:List Keyword).length+(if ([]:List Keyword).isEmpty then 0 else 1) <30))=true:=by rfl)
  (hline:(apos.endLine == pos.line)=true:=by rfl) (hs:starEach (e:: es) X.env=(false,eval e X.env):: starEach es X.env:=by rfl) (hplain:(backTo pos (starEach es X.env)).any (·.1)=false:=by rfl):
  PE X (.Call (.Attribute o "append" apos) (e:: es) [] pos) (tBM X.K "list" QX ta t):=Aw PySem.F.plainAttrs_list PySem.F.slot_list_append PySem.F.type_list_append RG h1 h2 hbase hfew hline hs hplain
end
theorem ln {sp:Sp} {ps:List Str} (h:∀vs H Q E,sp vs H Q E->vs.length=ps.length:=by
 intro _ _ _ _ h;first
 | (cases h;subst_vars;rfl)
 | (cases h;rename_i h;cases h;subst_vars;rfl)
 | (obtain⟨_,rfl,_⟩:=h;rfl)
 | (obtain⟨_,_,rfl,_⟩:=h;rfl)
 | (obtain⟨_,_,_,rfl,_⟩:=h;rfl)):∀vs H Q E,sp vs H Q E->vs.length=ps.length:=h
theorem Rc {X:Cx}:pq X (.builtin "len") (λxs H Q=>∃d kvs,xs=[.ref d]/\Rd H d (.dK kvs)/\Q (.int (kvs.length:Nat)) H):=by intro pins s σ H xs us Q I rx h;obtain⟨d,kvs,rfl,hr,q⟩:=h;obtain⟨u,rfl,ru⟩:=vals1 rx;cases ru;obtain⟨z,hd,vs,rel,dd⟩:=yr I.hok hr;have hl:kvs.length=vs.length:=Paired.length rel;have hs:sizeLine=16777216:=sizeLine_eq;refine call_len_dict (knd:=b8 X.prog X.w) hd dd (by omega) ?_;rw [<-hl];exact⟨.int _,H,I.tok _,⟨_,Y⟩,q⟩
noncomputable def WX:Option Key->Value->Bool
 | some k,v=>Ci k v
 | none,.none=>true
 | none,_=>false
theorem kZ {v:Value} (h:WX none v=true):v=.none:=by cases v <;> first | rfl | cases h
theorem G6 {k:Key} (h:Ci k .none=true):False:=by rcases dM h with ⟨i,t,_,e⟩ | ⟨x,t,_,e⟩ <;> cases e
theorem aad {A:Around} {s:Shared}:SeqAt.EqAt A s .none .none true:=λprog w E Q h=>by unfold eqBool;refine wpAny_holding ?_;refine wpAny_ite_split (λ_=>wpAny_bind (wpAny_rule (wpAny_pure h))) (λz=>absurd Y z)
noncomputable def Q6 (prog:Program) (w:World):PySem.KeyKind prog w (Option Key) where
 is:=WX
 hash:=λk=>match k with
  | some k=>ZP w k
  | none=>reduceHash 0xFCA86420
 inj:=λv a b ha hb=>by
  cases a with
  | none=>
   have:=kZ ha;subst this;cases b with
   | none=>rfl
   | some b=>exact(G6 hb).elim
  | some a=>
   cases b with
   | none=>
    have:=kZ hb;subst this;exact(G6 ha).elim
   | some b=>rw [(b8 prog w).inj v a b ha hb]
 byValue:=λk v h=>by
  cases k with
  | none=>rw [kZ h];rfl
  | some k=>exact(b8 prog w).byValue k v h
 pyHash:=λ{A E s k v Q} hv h=>by
  cases k with
  | none=>
   rw [kZ hv];exact PySem.W.pyHash_slot (T:= "NoneType") Y F.slot_NoneType_hash F.entry_NoneType_hash (F.args_NoneType_hash_1 _) (beq_builtin_none _) (.inl Y) (wpAny_bind (wpAny_pure (wpAny_bind (wpAny_mkInt (wpAny_pure ⟨_,_,Y,h⟩)))))
  | some k=>exact(b8 prog w).pyHash hv h
 eqBool:=λ{A E s a b u v Q} hu hv h=>by
  cases a with
  | none=>
   rw [kZ hu];cases b with
   | none=>rw [kZ hv];exact aad _ _ _ _ h
   | some b=>
    rcases dM hv with ⟨j,x,rfl,rfl⟩ | ⟨y,x,rfl,rfl⟩
    ·exact SeqAt.EqAt.none_int j x _ _ _ _ h
    ·exact SeqAt.EqAt.none_str y x _ _ _ _ h
  | some a=>
   cases b with
   | none=>
    rw [kZ hv];rcases dM hu with ⟨j,x,rfl,rfl⟩ | ⟨y,x,rfl,rfl⟩
    ·exact SeqAt.EqAt.int_none j x _ _ _ _ h
    ·exact SeqAt.EqAt.str_none y x _ _ _ _ h
   | some b=>exact(b8 prog w).eqBool (a:=a) (b:=b) hu hv (by simpa using h)
 «strs» :=λk x t v h=>by
  cases k with
  | none=>cases h
  | some k=>exact(b8 prog w).strs k x t v h
theorem Xn {P:Program} {w:World} {h:Heap} {a:Addr} {kvs:List (Key×Value)} (hd:h.DictOf (b8 P w) a kvs):∃f,h.MapOf (Q6 P w) a f/\f none=none:=by
 obtain⟨o,es,ep,ho,hc,hdat,hk,hp,_⟩:=hd;refine⟨findBy WX es,⟨o,es,ep,ho,hc,hdat,λe he=>?_,λk=>Y⟩,?_⟩
 ·obtain⟨k,h1,h2⟩:=hk e he;exact⟨some k,h1,h2⟩
 ·unfold findBy;cases hf:es.find? λe=>WX none e.key with
  | none=>rfl
  | some e=>
   have h1:=Array.find?_some hf;have h2:=Array.mem_of_find?_eq_some hf;obtain⟨k,h3,_⟩:=hk e h2;rw [kZ h1] at h3;exact(G6 h3).elim
inductive PB (Q:VK) (x y:V) (H2:Hp):Prop where
 | key:∀a o,x=.ref a->eE H2 a y o->Q (.bl o.isSome) H2->PB Q x y H2
 | non:∀a kvs,x=.ref a->y=.non->Rd H2 a (.dK kvs)->Q (.bl false) H2->PB Q x y H2
noncomputable def U3 (ty td:TE):TE:=λσ H Q=>ty σ H λy H1=>td σ H1 λx H2=>PB Q x y H2
theorem Xa {X:Cx} {o i:Expr} {td ty:TE} (hu:X.A.units+1 <cLine) (hi:PE X i ty) (ho:PE X o td):PC X .In i o (U3 ty td):=by
 intro pins s σ H Q I h;refine eO (hi pins s σ H _ I h) λiv s1 ⟨y,H1,I1,ry,q1⟩=>eO (ho pins s1 σ H1 _ I1 q1) λu s2 hpt=>?_;obtain⟨x,H2,I2,rx,q2⟩:=hpt;rcases q2 with ⟨a,ov,ex,g,q2⟩ | ⟨a,kvs,ex,ey,hr,q2⟩
 ·subst ex;obtain rfl:u=Value.ref a:=rx;exact aar hu I2 g ry λs3 I3=>⟨.bl ov.isSome,H2,I3,Y,q2⟩
 ·subst ex ey;obtain rfl:u=Value.ref a:=rx;obtain rfl:iv=Value.none:=ry;obtain⟨z,hd,vs,rel,dd⟩:=yr I2.hok hr;obtain⟨f,hm,hf⟩:=Xn dd;refine wpAny_in_of (knd:=Q6 X.prog X.w) (k:=none) Y hd hm ?_;rw [hf];exact⟨.bl false,H2,I2.tok _,Y,q2⟩
end L2
namespace PySem
open PyProof.Rows
section
variable {prog:Program} {w:World} {A:Around} {R:Result->Shared->Prop} {I:Addr} {fp wr:List Addr} {G:Array GenState->Array GenState->Prop} {n:Nat} {P:Nat->Value->Prop} {St:Nat->Shared->Prop} {KK:Type} [DecidableEq KK] {knd:KeyKind prog w KK}
end
section
variable {prog:Program} {w:World} {A:Around} {E:Value->Shared->Prop} {s:Shared} {KK:Type} [DecidableEq KK] {knd:KeyKind prog w KK}
end
end PySem
namespace L2
open PySem PySem.Spec PyProof.Rows
section
variable {prog:Program} {w:World} {A:Around}
end
end L2
namespace One
open PySem PySem.W PySem.Calls PyProof.Rows
def IV:Nat->BT->List Obj->BT
 | _,t,[]=>t
 | n,t,o:: r=>IV (n+1) (t.ins n o) r
def JT:Nat->BT->List Obj->Bool
 | _,_,[]=>true
 | n,t,o:: r=>((t.ins n o).get n).isSome && JT (n+1) (t.ins n o) r
theorem Jo {life:Life}:∀(l:List Obj) (n:Nat) (t:BT) (as:List Obj),absHeap t n life=⟨as.toArray,life⟩->JT n t l=true->absHeap (IV n t l) (n+l.length) life=⟨(as ++ l).toArray,life⟩
 | [],n,t,as,h,_=>by simpa [IV] using h
 | o:: r,n,t,as,h,k=>by simp only [JT,and_eq_true] at k;have e:=absHeap_ins (life:=life) k.1;rw [h] at e;have:=Jo r (n+1) (t.ins n o) (as ++ [o]) (by rw [e];simp [Heap.push]) k.2;rw [append_assoc] at this;rw [length_cons,show n+(r.length+1)=n+1+r.length by omega];exact this
def ZL (tb:String->Option Builtin) (p:Program) (w:World) (m:Nat) (an:Option Value):Nat->SharedT->Thread->Option (SharedT×Thread)
 | 0,s,t=>some (s,t)
 | n+1,s,t=>match through t with
  | true=>some (s,t)
  | false=>match stepOk m an t with
   | false=>none
   | true=>match stepT (denote tb) p w s t with
    | some (s',t')=>ZL tb p w m an n s' t'
    | none=>none
theorem Ul {tb:String->Option Builtin} {p:Program} {w:World} {m:Nat} {an:Option Value}:∀{n:Nat} {s s':SharedT} {t t':Thread},ZL tb p w m an n s t=some (s',t')->through t'=true->topRun tb p w m an (n+1) s.abs t=some s'.abs
 | 0,s,s',t,t',h,z=>by obtain⟨rfl,rfl⟩:=Prod.mk.inj (Option.some.inj h);unfold topRun;rw [z]
 | n+1,s,s',t,t',h,z=>by
  unfold ZL at h;unfold topRun;cases e1:through t with
  | true=>
   rw [e1] at h;obtain⟨rfl,rfl⟩:=Prod.mk.inj (Option.some.inj h);rfl
  | false=>
   rw [e1] at h;cases e2:stepOk m an t with
   | false=>rw [e2] at h;cases h
   | true=>
    rw [e2] at h;cases e3:stepT (denote tb) p w s t with
    | none=>rw [e3] at h;cases h
    | some r=>
     obtain⟨s2,t2⟩:=r;rw [e3] at h;rw [stepT_spec e3];exact Ul h z
def ends (r:SharedT×Thread):Option SharedT:=match through r.2 with
 | true=>some r.1
 | false=>none
theorem Wq {tb:String->Option Builtin} {p:Program} {w:World} {m:Nat} {an:Option Value} {n:Nat} {s s':SharedT} {t:Thread} (h:(ZL tb p w m an n s t).bind ends=some s'):topRun tb p w m an (n+1) s.abs t=some s'.abs:=by
 obtain⟨⟨s2,t2⟩,e1,e2⟩:=Option.bind_eq_some_iff.mp h;unfold ends at e2;cases z:through t2 with
 | false=>simp only [z] at e2;cases e2
 | true=>
  simp only [z] at e2;cases e2;exact Ul e1 z
noncomputable def Z4 (P:Params):Option Value:=(boot_heap P).nsMap mainGlobals "__annotations__"
noncomputable def S0 (w:World) (os:OsState):SharedT:=⟨IV 0 .nil (boot_heap w.params).objs.toList,11,{},Array.mk [],boot_drawn,boot_toks,os⟩
theorem YL (w:World) (os:OsState):(S0 w os).abs=⟨boot_heap w.params,Array.mk [],boot_drawn,boot_toks,os⟩:=by have e:=Jo (life:={}) (boot_heap w.params).objs.toList 0 .nil [] rfl (by rfl);have e2:absHeap (IV 0 .nil (boot_heap w.params).objs.toList) 11 {}=boot_heap w.params:=e;show(⟨absHeap (IV 0 .nil (boot_heap w.params).objs.toList) 11 {},_,_,_,_⟩:Shared)=_;rw [e2];rfl
noncomputable def Y4 (p:Program) (M:Nat) (w:World) (os:OsState):Option SharedT:=(ZL treeTable p w 11 (Z4 w.params) M (S0 w os) (topStub p)).bind ends
noncomputable def Tn (p q:Program) (loose:List Str) (Xt:Shared->Bool) (M:Nat) (w:World) (os:OsState):=
 (Y4 p M w os).map λs=>(staticsOk (importedModules p.main.body) (boot_heap w.params) s.abs.heap && namesBound p s.abs.heap && gensDone s.abs && laidKept (boot_heap w.params) s.abs.heap,openSeen q loose (importedModules p.main.body) Xt true s.abs)
theorem Wt {p q:Program} {loose:List Str} {Xt:Shared->Bool} {α:Type} {Yf:Shared->α} {Ya:World->α} {N M:Nat} (e:opening p=plainProg p.main.scope.names) (hN:Nat.ble 600 N=true) (f:∀s,fenceModules? p s=some s) (le:Nat.ble (M+1) N=true)
  (A:∀w os,Tn p q loose Xt M w os=some (true,openGood q loose)) (B:∀w os,(Y4 p M w os).map (λs=>Yf s.abs)=some (Ya w)):LeftO p q loose Xt Yf Ya N:=λw=>by
 obtain⟨⟨h,gs,d,k,os⟩,e1,e2⟩:=map_eq_some_iff.mp (boot_open e hN f w);obtain⟨rfl,rfl,rfl,rfl⟩:h=boot_heap w.params/\gs=Array.mk []/\d=boot_drawn/\k=boot_toks:=by simpa using e2
 obtain⟨s1,r1,l1⟩:=map_eq_some_iff.mp (A w os);obtain⟨s2,r2,l2⟩:=map_eq_some_iff.mp (B w os);rw [r1] at r2;cases r2;obtain⟨l3,l4⟩:=Prod.mk.inj l1;have r3:=Wq r1;rw [YL] at r3;have r4:=topRun_mono (N - (M+1)) _ _ _ _ r3;rw [show M+1+(N - (M+1))=N by have:=Nat.le_of_ble_eq_true le;omega] at r4;have t:topFrom treeTable p w N ⟨boot_heap w.params,Array.mk [],boot_drawn,boot_toks,os⟩=some s1.abs:=by
  unfold topFrom;have z1:((boot_heap w.params).isNs mainGlobals && (Array.mk []:Array GenState).size == 0)=true:=by kernel_rfl
  dsimp only;rw [z1];show((topRun treeTable p w 11 (Z4 w.params) N _ _).bind _)=_;rw [r4];show(match staticsOk (importedModules p.main.body) (boot_heap w.params) s1.abs.heap && namesBound p s1.abs.heap && gensDone s1.abs && laidKept (boot_heap w.params) s1.abs.heap with | true=>_ | false=>_)=_;rw [l3]
 unfold openEnds;rw [e1];show(topFrom treeTable p w N _).map _=_;rw [t];exact congrArg some (Prod.ext l4 l2)
def Az (s:SharedT) (a:Addr):Option Obj:=match Nat.blt a s.n with
 | true=>(match s.tree.get a with | some o=>alive o | none=>none)
 | false=>none
theorem Vh {s:SharedT} {a:Addr} {o:Obj} (h:Az s a=some o):s.abs.heap.get? a=some o:=by
 unfold Az at h;cases e:Nat.blt a s.n with
 | false=>rw [e] at h;cases h
 | true=>
  rw [e] at h;cases g:s.tree.get a with
  | none=>rw [g] at h;cases h
  | some x=>
   rw [g] at h;exact(abs_get (Nat.le_of_ble_eq_true e) g).trans h
theorem QJ {s:SharedT}:∀{as:List Addr} {l:List (Addr×Obj)},as.map (Az s)=l.map (λp=>some p.2)->as.map s.abs.heap.get?=l.map λp=>some p.2
 | [],[],_=>rfl
 | [],_:: _,h=>by cases h
 | _:: _,[],h=>by cases h
 | a:: as,x:: l,h=>by have h1:=List.cons.inj h;show s.abs.heap.get? a:: as.map _=_;rw [Vh h1.1,QJ h1.2];rfl
theorem chunk {o:Option SharedT} {as:List Addr} {l:List (Addr×Obj)} (n:Nat) (h1:o.map (λs=>(as.take n).map (Az s))=some ((l.take n).map λp=>some p.2)) (h2:o.map (λs=>(as.drop n).map (Az s))=some ((l.drop n).map λp=>some p.2)):
  o.map (λs=>as.map (Az s))=some (l.map λp=>some p.2):=by
 obtain⟨s,e1,e2⟩:=map_eq_some_iff.mp h1;subst e1;have e3:=Option.some.inj h2;show some (as.map (Az s))=_;rw [<-take_append_drop n as,<-take_append_drop n l,map_append,map_append];exact congrArg some (congr (congrArg _ e2) e3)
theorem Ws {o:Option SharedT} {w:World} {K:Params->Frag} {as:List Addr} {e:∀P,as=(K P).map (·.1)} (h:o.map (λs=>as.map (Az s))=some ((K w.params).map λp=>some p.2)):
  o.map (λs=>Hook.obs (kHook K as e) s.abs)=some (Hook.val (kHook K as e) w):=by
 obtain⟨s,h1,h2⟩:=map_eq_some_iff.mp h;rw [h1];exact congrArg some (QJ h2)
end One
namespace HD
open PySem PySem.W PySem.Calls PyProof.Rows
abbrev rr:OpenRow:=OpenLaw.row PySem.Challenge.rw_holdlane_k53_whole_rings_never_work_agai
def q:Program:=view PySem.Challenge.pw_holdlane_k53_whole_rings_never_work_agai [88]
def loose:List PySem.Str:=(["_wall", "gone_round", "wait_of", "waits_of", "leads_to", "ring_of_waits", "from_first", "LaneError", "TooMany", "NoKind", "BadName", "Doubled", "NoSuch", "BadNumbers", "BadLanes", "BadRoom"]:List PySem.Str) ++ (["Open", "Loose", "BadRow", "VALUES", "FIGURES", "LETTERS", "LONGEST_NAME", "is_whole", "is_value", "is_name", "rest", "COUNTS", "Part", "Give", "Take", "Pass"]:List PySem.Str) ++ (["Copy", "Turn", "Heap", "Add", "Less", "Order", "Choose", "Split", "is_kind", "need_fit", "made_of", "part_made", "MOST_LANES", "MOST_PARTS", "MOST_ROOM", "need_counts"]:List PySem.Str) ++ (["need_fresh", "need_lane", "fresh_part", "tie_lanes", "need_ends", "joined_with", "need_joined", "row_of", "Net", "Flow", "LONGEST_ROW", "is_row", "need_rows", "Run", "_law_cell", "_law_mix"]:List PySem.Str) ++ (["_law_value", "_law_word", "_law_lane", "_law_part", "_law_pick", "_law_two", "_law_loop", "_law_step", "_law_closed", "_law_net", "_law_rows", "_law_held", "_law_beside", "_law_dead"]:List PySem.Str)
def Xt (s:Shared):Bool:=xlAt q [] s && recOk (RowW.records (OpenRow.toRowW (OpenLaw.row PySem.Challenge.rw_holdlane_k53_whole_rings_never_work_agai))) s
structure KA where
 K:Params->Frag
 as:List Addr
def pickK {r:OpenRow} {K:Params->Frag} {as:List Addr} (_:(∀H:Hook,(∃e,H=kHook K as e)->r.Holds)->r.Holds):KA:=⟨K,as⟩
local macro_rules | `(tactic| o_head $H)=>`(tactic| (rename_i hh;exact hh $H ⟨_,rfl⟩))
noncomputable def ka:KA:=pickK (r:=rr) (λ_=>by k_head)
theorem Wa (P:Params):KA.as ka=(ka.heap_1 P).map (·.1):=by kernel_rfl
noncomputable def runC:World->OsState->Option SharedT:=λw os=>One.Y4 PySem.Challenge.pw_holdlane_k53_whole_rings_never_work_agai 14060 w os
noncomputable def Kc:=fun(w:World) (os:OsState)=>One.Tn PySem.Challenge.pw_holdlane_k53_whole_rings_never_work_agai q loose Xt 14060 w os
noncomputable def Qe:=some (true,openGood q loose)
theorem Zg:runC=runC:=rfl
name_quick runQ for HD.runC by HD.Zg
theorem UL:Kc=Kc:=rfl
name_quick looksQ for HD.Kc by HD.UL
theorem Xm:Qe=Qe:=rfl
name_quick goodQ for HD.Qe by HD.Xm
theorem A0 (w:World) (os:OsState):PySem.W.Fast.looksQ (w.withFollow "special-get-raises" false) os=PySem.W.Fast.goodQ:=by kernel_rfl
theorem abq (w:World) (os:OsState):(PySem.W.Fast.runQ (w.withFollow "special-get-raises" false) os).map (λs=>(KA.as ka).map (One.Az s))=some ((ka.heap_1 (w.withFollow "special-get-raises" false).params).map λp=>some p.2):=by kernel_rfl
theorem B0 (w:World) (os:OsState):(PySem.W.Fast.runQ (w.withFollow "special-get-raises" false) os).map (λs=>(KA.as ka).map (One.Az s))=some ((ka.heap_1 (w.withFollow "special-get-raises" false).params).map λp=>some p.2):=abq w os
theorem A1 (w:World) (os:OsState):PySem.W.Fast.looksQ (w.withFollow "special-get-raises" true) os=PySem.W.Fast.goodQ:=by kernel_rfl
theorem abp (w:World) (os:OsState):(PySem.W.Fast.runQ (w.withFollow "special-get-raises" true) os).map (λs=>(KA.as ka).map (One.Az s))=some ((ka.heap_1 (w.withFollow "special-get-raises" true).params).map λp=>some p.2):=by kernel_rfl
theorem B1 (w:World) (os:OsState):(PySem.W.Fast.runQ (w.withFollow "special-get-raises" true) os).map (λs=>(KA.as ka).map (One.Az s))=some ((ka.heap_1 (w.withFollow "special-get-raises" true).params).map λp=>some p.2):=abp w os
theorem A (w:World):∀os,Kc w os=Qe:=by rw [PySem.W.Fast.looksQ_eq,PySem.W.Fast.goodQ_eq];exact byRow2 "special-get-raises" (P:=λw=>∀os,PySem.W.Fast.looksQ w os=PySem.W.Fast.goodQ) A0 A1 w
theorem B (w:World):∀os,(runC w os).map (λs=>(KA.as ka).map (One.Az s))=some ((ka.heap_1 w.params).map λp=>some p.2):=by rw [PySem.W.Fast.runQ_eq];exact byRow2 "special-get-raises" (P:=λw=>∀os,(PySem.W.Fast.runQ w os).map (λs=>(KA.as ka).map (One.Az s))=some ((ka.heap_1 w.params).map λp=>some p.2)) B0 B1 w
theorem head {d:DefRec} {kwd:List (PySem.Str×Expr)}
  (hdef:defOf q rr.name=some (d,kwd)) (hp:rr.prog.theDef rr.name=some (d.params,d.body,d.scope)) (hk:kwWritten? d.params.kwonlyargs d.params.kw_defaults=some kwd) (hwr:(!rr.writes || rr.records.isEmpty)=true)
  (k1:rr.wellSaid=true) (ok:(chainsOk q && opensWell rr.prog && (frees rr.toRowW && rr.within.isEmpty))=true) (hb:rr.prog.bare) (ho:opening PySem.Challenge.pw_holdlane_k53_whole_rings_never_work_agai=plainProg (PySem.Challenge.pw_holdlane_k53_whole_rings_never_work_agai).main.scope.names) (f:∀s,fenceModules? PySem.Challenge.pw_holdlane_k53_whole_rings_never_work_agai s=some s)
  (hw:rr.toRowW.promised) (hc:WalkO q loose (XL q []) (Hook.says (kHook ka.heap_1 (KA.as ka) Wa)) rr.toRowW d kwd λf vs=>PySem.call f vs):rr.Holds:=by
 have left:LeftO PySem.Challenge.pw_holdlane_k53_whole_rings_never_work_agai q loose Xt (Hook.obs (kHook ka.heap_1 (KA.as ka) Wa)) (Hook.val (kHook ka.heap_1 (KA.as ka) Wa)) 28700:=One.Wt (M:=14060) ho rfl f rfl A λw os=>One.Ws (B w os);exact holds_open (XP:=XL q []) (YP:=Hook.says (kHook ka.heap_1 (KA.as ka) Wa)) left (Hook.of _) (Hook.keeps _) (λs z=>xl_of s (Bool.and_eq_true_iff.mp z).1) XL.keeps hdef hp hk (λs z=>recFacts_of (Bool.and_eq_true_iff.mp z).2) hwr k1 ok hb hw hc
end HD
namespace K53
open PySem L2
theorem lM {α β:Type} {f:α->β} {l:List α}:(l.map f).length=l.length:=length_map ..
theorem lP {α:Type} {l m:List α}:(l ++ m).length=l.length+m.length:=length_append ..
theorem jB {n:Nat} (h:Nat.ble n 16777216=true:=by rfl):n<=sizeLine:=by rw [sizeLine_eq];exact Nat.le_of_ble_eq_true h
noncomputable def top (i:Nat):Stmt:=PySem.Challenge.pw_holdlane_k53_whole_rings_never_work_agai.main.body.getD i (.Pass ⟨0,0,0,0⟩)
set_option genInjectivity false in
structure jq where
 (GP GD bZ wQ wZ xf wH wA wW yU vy uG rW uJ Iz Gx Jr Cm Vi cW oX cY dI uy bT kI rR rU sO sG uF sU qD o8 qG rT sr Ez Cr yX Dj Dr Dn Dl Gf Ds Ce yg Fw Jh yf zg CK z6 Cj Df yl xZ mz lZ jX wO wY jK sJ qe qt qp sH Mw pZ uq oO vh lX uI qi wK Bq oM oR oU vo qg mD yL Nx Dq qu oJ oN IK Gj qF rZ zu Gp zG uX CZ CV yh Dd Yl Px PJ Oz O9 Oe K3 Uy Pk Kf Gg JQ dW cC nQ Ad:Addr)
noncomputable abbrev ROWS:List (Str×List Int):=[("give",[0,0,1]),("take",[0,1,0]),("pass",[0,1,1]),("copy",[0,1,2]),("turn",[2,1,1]),("heap",[1,1,1]),("add",[0,2,1]),("less",[0,2,1]),("order",[0,2,2]),("choose",[0,3,1]),("split",[0,2,2])]
structure Txt (w:World) (K:Fr) (mg:Str->Option Value) (t:jq):Prop where
 jg:K5 K mg "Give" t.Px [("__init__",t.bZ),("kind",t.wQ),("taking",t.cW),("lacks",t.cY),("worked",t.rT),("start",t.dI),("with_memory",t.bT)] ["name", "numbers", "ins", "outs"]
 iW:K5 K mg "Take" t.PJ [("__init__",t.bZ),("kind",t.wZ),("taking",t.cW),("lacks",t.cY),("worked",t.sr),("start",t.dI),("with_memory",t.bT)] ["name", "numbers", "ins", "outs"]
 jh:K5 K mg "Pass" t.Oz [("__init__",t.bZ),("kind",t.xf),("taking",t.cW),("lacks",t.cY),("worked",t.rR),("start",t.dI),("with_memory",t.bT)] ["name", "numbers", "ins", "outs"]
 je:K5 K mg "Copy" t.O9 [("__init__",t.bZ),("kind",t.wH),("taking",t.cW),("lacks",t.cY),("worked",t.rU),("start",t.dI),("with_memory",t.bT)] ["name", "numbers", "ins", "outs"]
 jj:K5 K mg "Turn" t.Oe [("__init__",t.bZ),("kind",t.wA),("taking",t.cW),("lacks",t.cY),("worked",t.sO),("start",t.dI),("with_memory",t.bT)] ["name", "numbers", "ins", "outs"]
 gU:K5 K mg "Heap" t.K3 [("__init__",t.bZ),("kind",t.wW),("taking",t.cW),("lacks",t.cY),("worked",t.sG),("start",t.uy),("with_memory",t.kI)] ["name", "numbers", "ins", "outs"]
 lB:K5 K mg "Add" t.Uy [("__init__",t.bZ),("kind",t.yU),("taking",t.cW),("lacks",t.cY),("worked",t.uF),("start",t.dI),("with_memory",t.bT)] ["name", "numbers", "ins", "outs"]
 iY:K5 K mg "Less" t.Pk [("__init__",t.bZ),("kind",t.vy),("taking",t.cW),("lacks",t.cY),("worked",t.sU),("start",t.dI),("with_memory",t.bT)] ["name", "numbers", "ins", "outs"]
 fO:K5 K mg "Order" t.Kf [("__init__",t.bZ),("kind",t.uG),("taking",t.cW),("lacks",t.cY),("worked",t.qD),("start",t.dI),("with_memory",t.bT)] ["name", "numbers", "ins", "outs"]
 d7:K5 K mg "Choose" t.Gg [("__init__",t.bZ),("kind",t.rW),("taking",t.oX),("lacks",t.cY),("worked",t.o8),("start",t.dI),("with_memory",t.bT)] ["name", "numbers", "ins", "outs"]
 fP:K5 K mg "Split" t.JQ [("__init__",t.bZ),("kind",t.uJ),("taking",t.cW),("lacks",t.cY),("worked",t.qG),("start",t.dI),("with_memory",t.bT)] ["name", "numbers", "ins", "outs"]
 aW:K5 K mg "Net" t.dW [("__init__",t.pZ),("lane_names",t.mz),("part_names",t.lZ),("names_of_kind",t.jX),("gives",t.wO),("takes",t.wY),("need_lane_name",t.jK),("room_of",t.sJ),("first_of",t.qe),("giver_of",t.qt),("taker_of",t.qp),("part_of",t.sH)] ["rooms", "firsts", "parts", "givers", "takers"]
 aR:K5 K mg "Flow" t.cC [("__init__",t.oM),("holds",t.uq),("held_now",t.oO),("head",t.vh),("row_ended",t.lX),("heads",t.uI),("lacking",t.qi),("deed",t.wK),("do",t.Bq),("row_left",t.oJ)] ["net", "ever", "gone", "kept", "done", "rows"]
 bD:K5 K mg "Run" t.nQ [("__init__",t.qu),("full_lane",t.oR),("next_deed",t.oU),("need_doors",t.mD),("step",t.yL),("works",t.vo),("lane_now",t.qg),("rows_left",t.oN),("part_now",t.qF),("net_now",t.rZ)] ["net", "flow", "turns"]
 uD:oZ K mg "is_whole" (top 27) t.GP ["thing"]
 qL:oZ K mg "is_value" (top 28) t.GD ["thing"]
 bf:d8 K "__init__" "Part.__init__" (inClass (top 33) 0) t.bZ ["self", "name", "numbers", "ins", "outs"]
 qP:d8 K "kind" "Give.kind" (inClass (top 34) 0) t.wQ ["self"]
 rM:d8 K "kind" "Take.kind" (inClass (top 35) 0) t.wZ ["self"]
 qQ:d8 K "kind" "Pass.kind" (inClass (top 36) 0) t.xf ["self"]
 qW:d8 K "kind" "Copy.kind" (inClass (top 37) 0) t.wH ["self"]
 qO:d8 K "kind" "Turn.kind" (inClass (top 38) 0) t.wA ["self"]
 rK:d8 K "kind" "Heap.kind" (inClass (top 39) 0) t.wW ["self"]
 uC:d8 K "kind" "Add.kind" (inClass (top 40) 0) t.yU ["self"]
 qR:d8 K "kind" "Less.kind" (inClass (top 41) 0) t.vy ["self"]
 pG:d8 K "kind" "Order.kind" (inClass (top 42) 0) t.uG ["self"]
 mG:d8 K "kind" "Choose.kind" (inClass (top 43) 0) t.rW ["self"]
 pM:d8 K "kind" "Split.kind" (inClass (top 44) 0) t.uJ ["self"]
 xG:oZ K mg "is_kind" (top 45) t.Iz ["word"]
 yQ:oZ K mg "need_fit" (top 46) t.Gx ["kind", "name", "numbers", "ins", "outs"]
 Bw:oZ K mg "made_of" (top 47) t.Jr ["kind", "name", "numbers", "ins", "outs"]
 Dm:oZ K mg "part_made" (top 48) t.Cm ["kind", "name", "numbers", "ins", "outs"]
 Ej:oZ K mg "rest" (top 30) t.Vi ["number"]
 bG:d8 K "taking" "Part.taking" (inClass (top 33) 4) t.cW ["self", "heads"]
 j8:d8 K "taking" "Choose.taking" (inClass (top 43) 1) t.oX ["self", "heads"]
 bH:d8 K "lacks" "Part.lacks" (inClass (top 33) 3) t.cY ["self", "heads"]
 bK:d8 K "start" "Part.start" (inClass (top 33) 2) t.dI ["self"]
 pF:d8 K "start" "Heap.start" (inClass (top 39) 1) t.uy ["self"]
 aY:d8 K "with_memory" "Part.with_memory" (inClass (top 33) 6) t.bT ["self", "kept"]
 iZ:d8 K "with_memory" "Heap.with_memory" (inClass (top 39) 3) t.kI ["self", "kept"]
 m8:d8 K "worked" "Pass.worked" (inClass (top 36) 1) t.rR ["self", "values", "kept"]
 mQ:d8 K "worked" "Copy.worked" (inClass (top 37) 1) t.rU ["self", "values", "kept"]
 mL:d8 K "worked" "Turn.worked" (inClass (top 38) 1) t.sO ["self", "values", "kept"]
 mU:d8 K "worked" "Heap.worked" (inClass (top 39) 2) t.sG ["self", "values", "kept"]
 pK:d8 K "worked" "Add.worked" (inClass (top 40) 1) t.uF ["self", "values", "kept"]
 mW:d8 K "worked" "Less.worked" (inClass (top 41) 1) t.sU ["self", "values", "kept"]
 lE:d8 K "worked" "Order.worked" (inClass (top 42) 1) t.qD ["self", "values", "kept"]
 kj:d8 K "worked" "Choose.worked" (inClass (top 43) 2) t.o8 ["self", "values", "kept"]
 lH:d8 K "worked" "Split.worked" (inClass (top 44) 1) t.qG ["self", "values", "kept"]
 mV:d8 K "worked" "Give.worked" (inClass (top 34) 1) t.rT ["self", "values", "kept"]
 mX:d8 K "worked" "Take.worked" (inClass (top 35) 1) t.sr ["self", "values", "kept"]
 bx:oZ K mg "_law_mix" (top 73) t.Ez ["_law_cell_here", "_law_k"]
 jE:oZ K mg "_law_cell" (top 72) t.Cr ["_law_script", "_law_k"]
 fV:oZ K mg "_law_value" (top 74) t.yX ["_law_cell_here", "_law_k"]
 kW:oZ K mg "_law_word" (top 75) t.Dj ["_law_cell_here", "_law_k"]
 jM:oZ K mg "_law_lane" (top 76) t.Dr ["_law_state", "_law_cell_here", "_law_back"]
 oH:oZ K mg "_law_pick" (top 78) t.Dn ["_law_state", "_law_number"]
 cP:oZ K mg "_law_part" (top 77) t.Dl ["_law_state", "_law_cell_here", "_law_kind", "_law_numbers", "_law_ins", "_law_many"]
 yN:oZ K mg "_law_two" (top 79) t.Gf ["_law_state", "_law_cell_here", "_law_one", "_law_odd"]
 wV:oZ K mg "_law_loop" (top 80) t.Ds ["_law_state", "_law_cell_here", "_law_one"]
 u9:oZ K mg "_law_step" (top 81) t.Ce ["_law_state", "_law_cell_here", "_law_odd"]
 sV:oZ K mg "_law_closed" (top 82) t.yg ["_law_state", "_law_cell_here", "_law_back"]
 yE:oZ K mg "_law_net" (top 83) t.Fw ["_law_script", "_law_start", "_law_steps", "_law_odd"]
 Bh:oZ K mg "is_name" (top 29) t.Jh ["thing"]
 sy:oZ K mg "need_counts" (top 53) t.yf ["lanes", "parts"]
 pB:oZ K mg "need_fresh" (top 54) t.zg ["name", "known"]
 wy:oZ K mg "need_lane" (top 55) t.CK ["name", "room", "first"]
 uc:oZ K mg "fresh_part" (top 56) t.z6 ["row", "known"]
 rH:oZ K mg "tie_lanes" (top 57) t.Cj ["part", "lanes", "rooms", "ends"]
 wD:oZ K mg "need_ends" (top 58) t.Df ["rooms", "givers", "takers"]
 rY:oZ K mg "joined_with" (top 59) t.yl ["part", "givers", "takers"]
 sW:oZ K mg "need_joined" (top 60) t.xZ ["names", "givers", "takers"]
 iH:d8 K "lane_names" "Net.lane_names" (inClass (top 62) 1) t.mz ["self"]
 dg:d8 K "part_names" "Net.part_names" (inClass (top 62) 2) t.lZ ["self"]
 iu:d8 K "names_of_kind" "Net.names_of_kind" (inClass (top 62) 5) t.jX ["self", "kind"]
 kY:d8 K "gives" "Net.gives" (inClass (top 62) 3) t.wO ["self"]
 u5:d8 K "takes" "Net.takes" (inClass (top 62) 4) t.wY ["self"]
 cM:d8 K "need_lane_name" "Net.need_lane_name" (inClass (top 62) 12) t.jK ["self", "name"]
 mY:d8 K "room_of" "Net.room_of" (inClass (top 62) 7) t.sJ ["self", "name"]
 p7:d8 K "first_of" "Net.first_of" (inClass (top 62) 8) t.qe ["self", "name"]
 qw:d8 K "giver_of" "Net.giver_of" (inClass (top 62) 9) t.qt ["self", "name"]
 p8:d8 K "taker_of" "Net.taker_of" (inClass (top 62) 10) t.qp ["self", "name"]
 gZ:d8 K "part_of" "Net.part_of" (inClass (top 62) 11) t.sH ["self", "name"]
 Fx:oZ K mg "row_of" (top 61) t.Mw ["part"]
 iI:d8 K "__init__" "Net.__init__" (inClass (top 62) 0) t.pZ ["self", "lanes", "parts"]
 pL:d8 K "holds" "Flow.holds" (inClass (top 64) 1) t.uq ["self", "lane"]
 oK:d8 K "held_now" "Flow.held_now" (inClass (top 64) 2) t.oO ["self", "lane"]
 wB:d8 K "head" "Flow.head" (inClass (top 64) 5) t.vh ["self", "lane"]
 jP:d8 K "row_ended" "Flow.row_ended" (inClass (top 64) 8) t.lX ["self", "name"]
 pI:d8 K "heads" "Flow.heads" (inClass (top 64) 6) t.uI ["self", "part"]
 lG:d8 K "lacking" "Flow.lacking" (inClass (top 64) 7) t.qi ["self", "name"]
 qT:d8 K "deed" "Flow.deed" (inClass (top 64) 9) t.wK ["self", "name"]
 Bt:d8 K "do" "Flow.do" (inClass (top 64) 10) t.Bq ["self", "name", "deed"]
 km:d8 K "__init__" "Flow.__init__" (inClass (top 64) 0) t.oM ["self", "net", "rows"]
 kh:d8 K "full_lane" "Run.full_lane" (inClass (top 70) 4) t.oR ["self", "deed"]
 oY:d8 K "next_deed" "Run.next_deed" (inClass (top 70) 3) t.oU ["self", "name"]
 rP:d8 K "works" "Run.works" (inClass (top 70) 6) t.vo ["self", "name"]
 qJ:d8 K "lane_now" "Run.lane_now" (inClass (top 70) 8) t.qg ["self", "name"]
 mq:d8 K "need_doors" "Run.need_doors" (inClass (top 70) 2) t.mD ["self", "names"]
 qI:ZC K "step" "Run.step" (inClass (top 70) 1) t.yL ["self", "held"]
 Fo:oZ K mg "is_row" (top 67) t.Nx ["thing"]
 wC:oZ K mg "need_rows" (top 68) t.Dq ["net", "rows"]
 iD:d8 K "__init__" "Run.__init__" (inClass (top 70) 0) t.qu ["self", "net", "rows"]
 oW:d8 K "row_left" "Flow.row_left" (inClass (top 64) 4) t.oJ ["self", "door"]
 oV:d8 K "rows_left" "Run.rows_left" (inClass (top 70) 13) t.oN ["self"]
 BJ:oZ K mg "wait_of" (top 4) t.IK ["run", "name"]
 uf:oZ K mg "waits_of" (top 5) t.Gj ["run"]
 qm:d8 K "part_now" "Run.part_now" (inClass (top 70) 12) t.qF ["self", "name"]
 rQ:d8 K "net_now" "Run.net_now" (inClass (top 70) 11) t.rZ ["self"]
 uh:oZ K mg "gone_round" (top 2) t.zu ["start", "leads"]
 yO:oZ K mg "leads_to" (top 6) t.Gp ["net", "wait"]
 uH:oZ K mg "from_first" (top 8) t.zG ["ring", "names"]
 jz:oZ K mg "ring_of_waits" (top 7) t.uX ["run"]
 wG:oZ K mg "_law_rows" (top 84) t.CZ ["_law_script", "_law_parts", "_law_start"]
 qX:oZ K mg "_law_held" (top 85) t.CV ["_law_parts", "_law_cell_here"]
 sX:oZ K mg "_law_beside" (top 86) t.yh ["_law_run", "_law_cell_here"]
 vN:oZ K mg "_law_dead" (top 87) t.Dd ["_law_run", "_law_ring", "_law_held_here"]
 QR:oZ K mg "law" (top 88) t.Yl ["_law_script"]
 Jq:mg "COUNTS" =some (.ref t.Ad)
 Mg:KTab w K t.Ad ROWS
 Qu:mg "all" =none
 Zm:mg "bool" =none
 aaQ:mg "int" =none
 pH:mg "isinstance" =none
 fY:mg "len" =none
 vI:mg "list" =none
 VR:mg "max" =none
 aah:mg "min" =none
 jT:mg "range" =none
 Yc:mg "str" =none
 DW:mg "tuple" =none
 Mt:∃u,mg "VALUES" =some u/\RelV (.int 1000000000) u
 Ir:∃u,mg "LETTERS" =some u/\RelV (.str "abcdefghijklmnopqrstuvwxyz") u
 Fp:∃u,mg "LONGEST_NAME" =some u/\RelV (.int 8) u
 Ss:∃u,mg "FIGURES" =some u/\RelV (.str "0123456789") u
 Ks:∃u,mg "MOST_LANES" =some u/\RelV (.int 24) u
 JX:∃u,mg "MOST_PARTS" =some u/\RelV (.int 16) u
 M7:∃u,mg "MOST_ROOM" =some u/\RelV (.int 199) u
 Hf:∃u,mg "LONGEST_ROW" =some u/\RelV (.int 300) u
section
variable {P:Program} {w:World} {K:Fr} {mg:Str->Option Value} {base:Heap} {t:jq}
noncomputable def fD (i:Nat):Str:=match i with
 | 0=> "give"
 | 1=> "take"
 | 2=> "pass"
 | 3=> "copy"
 | 4=> "turn"
 | 5=> "heap"
 | 6=> "add"
 | 7=> "less"
 | 8=> "order"
 | 9=> "choose"
 | _=> "split"
noncomputable def cN (i:Nat):Nat:=match i with
 | 0=>0
 | 1=>0
 | 2=>0
 | 3=>0
 | 4=>2
 | 5=>1
 | 6=>0
 | 7=>0
 | 8=>0
 | 9=>0
 | _=>0
noncomputable def cI (i:Nat):Nat:=match i with
 | 0=>0
 | 1=>1
 | 2=>1
 | 3=>1
 | 4=>1
 | 5=>1
 | 6=>2
 | 7=>2
 | 8=>2
 | 9=>3
 | _=>2
noncomputable def cO (i:Nat):Nat:=match i with
 | 0=>1
 | 1=>0
 | 2=>1
 | 3=>2
 | 4=>1
 | 5=>1
 | 6=>1
 | 7=>1
 | 8=>2
 | 9=>1
 | _=>2
noncomputable def cls (t:jq) (i:Nat):Addr:=match i with
 | 0=>t.Px
 | 1=>t.PJ
 | 2=>t.Oz
 | 3=>t.O9
 | 4=>t.Oe
 | 5=>t.K3
 | 6=>t.Uy
 | 7=>t.Pk
 | 8=>t.Kf
 | 9=>t.Gg
 | _=>t.JQ
theorem row_of (i:Nat):rowOf ROWS (fD i)=some [((cN i:Nat):Int),((cI i:Nat):Int),((cO i:Nat):Int)]:=match i with
 | 0=>by show rowOf ROWS "give" =some [0,0,1];decide +kernel
 | 1=>by show rowOf ROWS "take" =some [0,1,0];decide +kernel
 | 2=>by show rowOf ROWS "pass" =some [0,1,1];decide +kernel
 | 3=>by show rowOf ROWS "copy" =some [0,1,2];decide +kernel
 | 4=>by show rowOf ROWS "turn" =some [2,1,1];decide +kernel
 | 5=>by show rowOf ROWS "heap" =some [1,1,1];decide +kernel
 | 6=>by show rowOf ROWS "add" =some [0,2,1];decide +kernel
 | 7=>by show rowOf ROWS "less" =some [0,2,1];decide +kernel
 | 8=>by show rowOf ROWS "order" =some [0,2,2];decide +kernel
 | 9=>by show rowOf ROWS "choose" =some [0,3,1];decide +kernel
 | n+10=>by show rowOf ROWS "split" =some [0,2,2];decide +kernel
theorem eN (T:Txt w K mg t) (i:Nat):RM K (cls t i):=match i with
 | 0=>T.jg.c
 | 1=>T.iW.c
 | 2=>T.jh.c
 | 3=>T.je.c
 | 4=>T.jj.c
 | 5=>T.gU.c
 | 6=>T.lB.c
 | 7=>T.iY.c
 | 8=>T.fO.c
 | 9=>T.d7.c
 | n+10=>T.fP.c
theorem uK (T:Txt w K mg t) (i:Nat):ql K (cls t i) "name" :=match i with
 | 0=>T.jg.na.1
 | 1=>T.iW.na.1
 | 2=>T.jh.na.1
 | 3=>T.je.na.1
 | 4=>T.jj.na.1
 | 5=>T.gU.na.1
 | 6=>T.lB.na.1
 | 7=>T.iY.na.1
 | 8=>T.fO.na.1
 | 9=>T.d7.na.1
 | n+10=>T.fP.na.1
theorem lU (T:Txt w K mg t) (i:Nat):ql K (cls t i) "numbers" :=match i with
 | 0=>T.jg.na.2.1
 | 1=>T.iW.na.2.1
 | 2=>T.jh.na.2.1
 | 3=>T.je.na.2.1
 | 4=>T.jj.na.2.1
 | 5=>T.gU.na.2.1
 | 6=>T.lB.na.2.1
 | 7=>T.iY.na.2.1
 | 8=>T.fO.na.2.1
 | 9=>T.d7.na.2.1
 | n+10=>T.fP.na.2.1
theorem uB (T:Txt w K mg t) (i:Nat):ql K (cls t i) "ins" :=match i with
 | 0=>T.jg.na.2.2.1
 | 1=>T.iW.na.2.2.1
 | 2=>T.jh.na.2.2.1
 | 3=>T.je.na.2.2.1
 | 4=>T.jj.na.2.2.1
 | 5=>T.gU.na.2.2.1
 | 6=>T.lB.na.2.2.1
 | 7=>T.iY.na.2.2.1
 | 8=>T.fO.na.2.2.1
 | 9=>T.d7.na.2.2.1
 | n+10=>T.fP.na.2.2.1
theorem xn (T:Txt w K mg t) (i:Nat):ql K (cls t i) "outs" :=match i with
 | 0=>T.jg.na.2.2.2.1
 | 1=>T.iW.na.2.2.2.1
 | 2=>T.jh.na.2.2.2.1
 | 3=>T.je.na.2.2.2.1
 | 4=>T.jj.na.2.2.2.1
 | 5=>T.gU.na.2.2.2.1
 | 6=>T.lB.na.2.2.2.1
 | 7=>T.iY.na.2.2.2.1
 | 8=>T.fO.na.2.2.2.1
 | 9=>T.d7.na.2.2.2.1
 | n+10=>T.fP.na.2.2.2.1
theorem aaw (i:Nat):cN i<=2:=match i with
 | 0=>by show 0<=2;decide
 | 1=>by show 0<=2;decide
 | 2=>by show 0<=2;decide
 | 3=>by show 0<=2;decide
 | 4=>by show 2<=2;decide
 | 5=>by show 1<=2;decide
 | 6=>by show 0<=2;decide
 | 7=>by show 0<=2;decide
 | 8=>by show 0<=2;decide
 | 9=>by show 0<=2;decide
 | n+10=>by show 0<=2;decide
theorem Ih (i:Nat):cI i<=3:=match i with
 | 0=>by show 0<=3;decide
 | 1=>by show 1<=3;decide
 | 2=>by show 1<=3;decide
 | 3=>by show 1<=3;decide
 | 4=>by show 1<=3;decide
 | 5=>by show 1<=3;decide
 | 6=>by show 2<=3;decide
 | 7=>by show 2<=3;decide
 | 8=>by show 2<=3;decide
 | 9=>by show 3<=3;decide
 | n+10=>by show 2<=3;decide
theorem Uu (i:Nat):cO i<=2:=match i with
 | 0=>by show 1<=2;decide
 | 1=>by show 0<=2;decide
 | 2=>by show 1<=2;decide
 | 3=>by show 2<=2;decide
 | 4=>by show 1<=2;decide
 | 5=>by show 1<=2;decide
 | 6=>by show 1<=2;decide
 | 7=>by show 1<=2;decide
 | 8=>by show 2<=2;decide
 | 9=>by show 1<=2;decide
 | n+10=>by show 2<=2;decide
theorem ju {f:Str} {y:V} {fs:List (Str×V)} {n:Nat} (h:fs.length<=n):(aH f y fs).length<=n+1:=le_trans (vJ f y fs) (Nat.succ_le_succ h)
noncomputable def DQ (nm:V) (tn ti to:Addr):List (Str×V):=aH "outs" (.ref to) (aH "ins" (.ref ti) (aH "numbers" (.ref tn) (aH "name" nm [])))
theorem pR (nm:V) (tn ti to:Addr):(DQ nm tn ti to).lookup ("name" :Str)=some nm:=by unfold DQ;rw [aC,if_neg (by decide +kernel),aC,if_neg (by decide +kernel),aC,if_neg (by decide +kernel),aC,if_pos rfl]
theorem lD (nm:V) (tn ti to:Addr):(DQ nm tn ti to).lookup ("numbers" :Str)=some (.ref tn):=by unfold DQ;rw [aC,if_neg (by decide +kernel),aC,if_neg (by decide +kernel),aC,if_pos rfl]
theorem oE (nm:V) (tn ti to:Addr):(DQ nm tn ti to).lookup ("ins" :Str)=some (.ref ti):=by unfold DQ;rw [aC,if_neg (by decide +kernel),aC,if_pos rfl]
theorem tX (nm:V) (tn ti to:Addr):(DQ nm tn ti to).lookup ("outs" :Str)=some (.ref to):=by unfold DQ;rw [aC,if_pos rfl]
theorem mJ (nm:V) (tn ti to:Addr) {m:Str} (h1:¬m= "outs") (h2:¬m= "ins") (h3:¬m= "numbers") (h4:¬m= "name"):(DQ nm tn ti to).lookup m=none:=by unfold DQ;rw [aC,if_neg h1,aC,if_neg h2,aC,if_neg h3,aC,if_neg h4];all_goals rfl
structure fQ (K:Fr) (t:jq) (H:Hp) (p:Addr) (i:Nat) (nm:V) (ns is os:List V):Prop where
 ex:∃dx tn ti to,H p=some (.ins (cls t i) dx (DQ nm tn ti to))/\fZ K H tn ns/\fZ K H ti is/\fZ K H to os
theorem fQ.same {H H':Hp} {p:Addr} {i:Nat} {nm:V} {ns is os:List V} (h:fQ K t H p i nm ns is os) (s:aJ H H'):fQ K t H' p i nm ns is os:=by obtain⟨dx,tn,ti,to,h1,h2,h3,h4⟩:=h;exact⟨dx,tn,ti,to,s _ _ h1,s.seqT h2,s.seqT h3,s.seqT h4⟩
noncomputable def jm (i:Nat):Sp:=λvs H Q _=>∃x,vs=[x]/\Q (.str (fD i)) H
noncomputable def nV (j:Nat):V:=.int (j:Nat)
inductive Val (v:V):Prop where
 | mk:∀n:Int,v=.int n->0<=n->n <1000000000->Val v
inductive Flat:PyData->Prop
 | non:Flat .none
 | int (i:Int):Flat (.int i)
noncomputable def places (i:Nat) (hs:List V):List Nat:=if i=9 then(match hs with | .int n:: _=>[0,1+(n % 2).toNat] | _=>[0]) else List.range hs.length
noncomputable def yZ (i:Nat) (hs:List V):Prop:=hs.length=cI i/\∀h∈hs,h=.non∨∃n:Int,h=.int n
noncomputable def lA (hs:List V) (q:Nat):Bool:=decide (hs[q]?=some V.non)
noncomputable def QC (i:Nat) (hs:List V):V:=match (places i hs).find? (lA hs) with
 | some q=>nV q
 | none=>.non
theorem lY {i:Nat} {hs:List V} (h:yZ i hs):∀q∈places i hs,q <hs.length:=by
 intro q hq;unfold places at hq;by_cases hi:i=9
 ·rw [if_pos hi] at hq;have hl:hs.length=3:=by rw [h.1,hi];rfl
  rw [hl];split at hq
  ·rename_i n r;have h0:=emod_nonneg n (show(2:Int)≠0 by decide);have h1:=emod_lt_of_pos n (show(0:Int) <2 by decide);simp at hq;omega
  ·simp at hq;omega
 ·rw [if_neg hi] at hq;simpa using hq
theorem Ql {f:Nat->Bool}:∀{l:List Nat} {j q:Nat},l[j]?=some q->(∀x∈l.take j,f x=false)->f q=true->l.find? f=some q
 | [],_,_,e,_,_=>by simp at e
 | x:: r,0,q,e,_,hq=>by simp at e;subst e;rw [find?_cons,hq]
 | x:: r,j+1,q,e,h,hq=>by have hx:f x=false:=h x (by simp);rw [find?_cons,hx];exact Ql (l:=r) (j:=j) (by simpa using e) (λy hy=>h y (by simp [hy])) hq
theorem Wz {f:Nat->Bool} {l:List Nat} (h:∀x∈l,f x=false):l.find? f=none:=by rw [find?_eq_none];intro x hx;rw [h x hx];decide
inductive pU (K:Fr) (t:jq) (i:Nat) (vs:List V) (H:Hp) (Q:VK) (E:XK):Prop where
 | mk:∀(p a:Addr) (nm:V) (ns is os hs:List V),vs=[.ref p,.ref a]->fQ K t H p i nm ns is os->is.length=cI i->bJ K H a hs->yZ i hs->(∀H' L,aJ H H'->H L=none->H' L=some (.lst ((places i hs).map nV))->Q (.ref L) H')->pU K t i vs H Q E
inductive zf (K:Fr) (t:jq) (i:Nat) (vs:List V) (H:Hp) (Q:VK) (E:XK):Prop where
 | mk:∀(p a:Addr) (nm:V) (ns is os hs:List V),vs=[.ref p,.ref a]->fQ K t H p i nm ns is os->is.length=cI i->bJ K H a hs->yZ i hs->(∀H',aJ H H'->Q (QC i hs) H')->zf K t i vs H Q E
noncomputable def g0 (l:List Int):Int:=l.getD 0 0
noncomputable def g1 (l:List Int):Int:=l.getD 1 0
noncomputable def cV (i:Nat):Nat:=match i with
 | 0=>1
 | 1=>1
 | 2=>1
 | 3=>1
 | 4=>1
 | 5=>1
 | 6=>2
 | 7=>2
 | 8=>2
 | 9=>2
 | _=>2
noncomputable def cQ (i:Nat) (ns ws:List Int) (kp:Int):List (Int×Int):=match i with
 | 0=>[(0,g0 ws)]
 | 1=>[]
 | 2=>[(0,g0 ws)]
 | 3=>[(0,g0 ws),(1,g0 ws)]
 | 4=>[(0,(g0 ns * g0 ws+g1 ns) % 1000000000)]
 | 5=>[(0,(kp+g0 ws) % 1000000000)]
 | 6=>[(0,(g0 ws+g1 ws) % 1000000000)]
 | 7=>[(0,if g0 ws <g1 ws then 1 else 0)]
 | 8=>[(0,if g1 ws <g0 ws then g1 ws else g0 ws),(1,if g1 ws <g0 ws then g0 ws else g1 ws)]
 | 9=>[(0,g1 ws)]
 | _=>[(g0 ws % 2,g1 ws)]
noncomputable def fW (i:Nat) (ws:List Int) (kp:Int):Int:=if i=5 then(kp+g0 ws) % 1000000000 else kp
noncomputable def K6 (ps:List (Int×Int)):List (List V):=ps.map λp=>[.int p.1,.int p.2]
noncomputable def Zy (ws:List Int):Prop:=∀w∈ws,0<=w/\w <1000000000
inductive fK (K:Fr) (t:jq) (i:Nat) (vs:List V) (H:Hp) (Q:VK) (E:XK):Prop where
 | mk:∀(p a:Addr) (nm:V) (ns:List Int) (is os:List V) (ws:List Int) (kp:Int),vs=[.ref p,.ref a,.int kp]->fQ K t H p i nm (ns.map V.int) is os->ns.length=cN i->bJ K H a (ws.map V.int)->ws.length=cV i->Zy ws->(∀H' U L rs,aJ H H'->H L=none->H' U=some (.tup [.ref L,.int (fW i ws kp)])->H' L=some (.lst (rs.map V.ref))->dw H' rs (K6 (cQ i ns ws kp))->Q (.ref U) H')->fK K t i vs H Q E
theorem Ba {H:Hp} {Q:VK} {a b x y:Int} (hx:x=a) (hy:y=b) (k:∀H' L rs,aJ H H'->H L=none->H' L=some (.lst (rs.map V.ref))->dw H' rs (K6 [(a,b)])->Q (.ref L) H') {t0 L:Addr} (n0:H t0=none)
  (nL:(upd H t0 (.tup [.int x,.int y])) L=none):Q (.ref L) (upd (upd H t0 (.tup [.int x,.int y])) L (.lst [.ref t0])):=by
 subst hx hy;have s0:=aB (o:=.tup [.int x,.int y]) n0;have s1:=aB (o:=.lst [.ref t0]) nL;exact k _ L [t0] (s0.trans s1) (s0.free nL) ao (.cons (s1 _ _ ao) .nil)
theorem Xz {H:Hp} {Q:VK} {a b c d x y u v:Int} (hx:x=a) (hy:y=b) (hu:u=c) (hv:v=d) (k:∀H' L rs,aJ H H'->H L=none->H' L=some (.lst (rs.map V.ref))->dw H' rs (K6 [(a,b),(c,d)])->Q (.ref L) H') {t0 t1 L:Addr} (n0:H t0=none)
  (n1:(upd H t0 (.tup [.int x,.int y])) t1=none) (nL:(upd (upd H t0 (.tup [.int x,.int y])) t1 (.tup [.int u,.int v])) L=none):Q (.ref L) (upd (upd (upd H t0 (.tup [.int x,.int y])) t1 (.tup [.int u,.int v])) L (.lst [.ref t0,.ref t1])):=by
 subst hx hy hu hv;have s0:=aB (o:=.tup [.int x,.int y]) n0;have s1:=aB (o:=.tup [.int u,.int v]) n1;have s2:=aB (o:=.lst [.ref t0,.ref t1]) nL;exact k _ L [t0,t1] (s0.trans (s1.trans s2)) (s0.free (s1.free nL)) ao (.cons (s2 _ _ (s1 _ _ ao)) (.cons (s2 _ _ ao) .nil))
theorem Ga {H:Hp} {Q:VK} {c:Int} {ps:List (Int×Int)} (k:∀H' U L rs,aJ H H'->H L=none->H' U=some (.tup [.ref L,.int c])->H' L=some (.lst (rs.map V.ref))->dw H' rs (K6 ps)->Q (.ref U) H'):
  ∀H' L rs,aJ H H'->H L=none->H' L=some (.lst (rs.map V.ref))->dw H' rs (K6 ps)->∀U,H' U=none->Q (.ref U) (upd H' U (.tup [.ref L,.int c])):=λH' L rs s nL eL tL U nU=>
 have s2:=aB (o:=.tup [.ref L,.int c]) nU
 k _ U L rs (s.trans s2) nL ao (s2 _ _ eL) (tL.same s2)
theorem fc:(2:Nat)<=sizeLine:=by decide
theorem one_le:(1:Nat)<=sizeLine:=by decide
theorem aaZ {a b:Int} {ws:List Int} (h:Zy ws) (hb:b∈ws):IntMulOk a b:=.of_right (intBits_le_64 (by have:=(h b hb).1;omega) (by have:=(h b hb).2;omega))
noncomputable def J9 (i:Nat) (ns:List V):V:=if i=5 then ns.headD .non else .int 0
inductive wN (K:Fr) (t:jq) (i:Nat) (vs:List V) (H:Hp) (Q:VK) (E:XK):Prop where
 | mk:∀(p:Addr) (nm:V) (ns is os:List V),vs=[.ref p]->fQ K t H p i nm ns is os->ns.length=cN i->Q (J9 i ns) H->wN K t i vs H Q E
noncomputable def J2 (i:Nat) (kv:V) (ns:List V):List V:=if i=5 then [kv] else ns
inductive jH (K:Fr) (t:jq) (i:Nat) (vs:List V) (H:Hp) (Q:VK) (E:XK):Prop where
 | mk:∀(p:Addr) (kv nm:V) (ns is os:List V),vs=[.ref p,kv]->i<=10->fQ K t H p i nm ns is os->(∀H' q,aJ H H'->H q=none->fQ K t H' q i nm (J2 i kv ns) is os->Q (.ref q) H')->jH K t i vs H Q E
noncomputable def cg (a b:Int):Int:=((((a % 2147483647 * 48271+7919 * b+11) % 2147483647) * ((a % 2147483647 * 48271+7919 * b+11) % 2147483647) % 2147483629+613 * b) * (((a % 2147483647 * 48271+7919 * b+11) % 2147483647) * ((a % 2147483647 * 48271+7919 * b+11) % 2147483647) % 2147483629)) % 2147483587
theorem Ck (a b:Int):0<=cg a b:=emod_nonneg _ (by decide)
noncomputable def jW (ns:List Int) (j:Nat):Int:=(ns[j]?).getD (41 * (j:Int)+3)
noncomputable def qd (a b:Int):Int:=if cg a b / 7 % 3=0 then cg a b % 5 else if cg a b / 7 % 3=1 then cg a b % 10 ^ 9 else 10 ^ 9 - 1 - cg a b % 3
theorem my (a b:Int):0<=qd a b/\qd a b <1000000000:=by
 unfold qd;have h0:=Ck a b;generalize cg a b=n at h0;split
 ·omega
 ·split
  ·have h1:=emod_lt_of_pos n (show(0:Int) <10 ^ 9 by decide);have h2:=emod_nonneg n (show(10:Int) ^ 9≠0 by decide);exact⟨h2,h1⟩
  ·have h1:=emod_lt_of_pos n (show(0:Int) <3 by decide);have h2:=emod_nonneg n (show(3:Int)≠0 by decide);have e:(10:Int) ^ 9=1000000000:=by decide
   rw [e];omega
noncomputable def low (c:Nat):Bool:=decide (97<=c) && decide (c<=122)
noncomputable def N8 (c:Nat):Bool:=decide (48<=c) && decide (c<=57)
noncomputable def nameB (x:Str):Bool:=match x.cps.toList with
 | []=>false
 | c:: r=>decide (r.length<=7) && (low c && (c:: r).all λd=>low d || N8 d)
theorem pQ (x:Str):x.cps.toList.length=x.length:=by simp [Str.length]
theorem EY:∀(ws:List Str),(Str.join Str.empty ws).cps.toList=(ws.map λw=>w.cps.toList).flatten
 | []=>rfl
 | [w]=>by simp [Str.join]
 | w:: v:: r=>by have ih:=EY (v:: r);show(w.cps ++ #[] ++ (Str.join Str.empty (v:: r)).cps).toList=_;rw [Array.toList_append,ih];simp
theorem S7 {n:Nat}:∀(ws:List Str),(∀w∈ws,w.length<=n)->(ws.map (·.length)).sum<=ws.length * n
 | [],_=>by simp
 | w:: r,h=>by have h1:=h w (by simp);have h2:=S7 r λv hv=>h v (by simp [hv]);simp only [map_cons,List.sum_cons,length_cons,Nat.add_mul];omega
noncomputable def Ml (n:Int):Nat:=97+(n % 26).toNat
theorem KQ (n:Int):low (Ml n)=true:=by unfold low Ml;have h0:=emod_nonneg n (show(26:Int)≠0 by decide);have h1:=emod_lt_of_pos n (show(0:Int) <26 by decide);simp;omega
noncomputable abbrev LT:Str:= "abcdefghijklmnopqrstuvwxyz"
theorem Ol:LT.length=26:=by decide +kernel
theorem Vp:LT.cps.toList=List.range' 97 26:=by decide +kernel
theorem VN (n:Int):Hw LT.cps.toList (n % 26)=some (Ml n):=by have h0:=emod_nonneg n (show(26:Int)≠0 by decide);have h1:=emod_lt_of_pos n (show(0:Int) <26 by decide);obtain⟨j,hj⟩:∃j:Nat,n % 26=(j:Int):=⟨(n % 26).toNat,by omega⟩;unfold Ml;rw [hj,Vp];exact aO (by rw [List.getElem?_range' (by omega)];simp)
noncomputable def iU (a:Int):List Nat:=(List.range (cg a 50 % 7).toNat).map λj=>Ml (cg a (60+(j:Nat)))
noncomputable def rG (a:Int):Nat:=(cg a 51 % (cg a 50 % 7+1)).toNat
noncomputable def Oh (n:Nat):List Nat:=(toString (Int.ofNat n):Str).cps.toList
noncomputable def CQ (a:Int) (k:Nat):List Nat:=if cg a 52 % 3=0 then Ml (cg a 53):: Oh (cg a 54 % 1000+37 * (k:Int)).toNat else(iU a).take (rG a) ++ Ml (cg a 55+k):: (iU a).drop (rG a)
noncomputable def dm (a:Int) (k:Nat):Str:=⟨(CQ a k).toArray⟩
noncomputable def S5 (l:List Nat):Nat:=l.foldl (λr c=>10 * r+(c - 48)) 0
theorem Wc:(List.range 2000).all (λi=>(Oh i).all N8 && decide ((Oh i).length<=4) && decide (S5 (Oh i)=i))=true:=by decide +kernel
theorem xm {n:Nat} (h:n <2000):(Oh n).all N8=true/\(Oh n).length<=4/\S5 (Oh n)=n:=by have z:=all_eq_true.mp Wc n (mem_range.mpr h);simp only [and_eq_true,decide_eq_true_eq] at z;exact⟨z.1.1,z.1.2,z.2⟩
theorem Ef (a:Int):(iU a).length<=6/\((iU a).length:Int)=cg a 50 % 7:=by unfold iU;have h0:=emod_nonneg (cg a 50) (show(7:Int)≠0 by decide);have h1:=emod_lt_of_pos (cg a 50) (show(0:Int) <7 by decide);rw [lM,length_range];omega
theorem Qh (a:Int):rG a<=(iU a).length:=by have h:=(Ef a).2;unfold rG;have h0:=emod_nonneg (cg a 50) (show(7:Int)≠0 by decide);have h1:=emod_lt_of_pos (cg a 51) (show(0:Int) <cg a 50 % 7+1 by omega);have h2:=emod_nonneg (cg a 51) (show cg a 50 % 7+1≠0 by omega);omega
theorem Fj {x:Str} {c:Nat} {r:List Nat} (e:x.cps.toList=c:: r) (h:r.length<=7) (hc:low c=true) (ha:∀d∈r,low d=true∨N8 d=true):nameB x=true:=by
 unfold nameB;rw [e];simp only [and_eq_true,decide_eq_true_eq,all_eq_true,Bool.or_eq_true];refine⟨h,hc,λd hd=>?_⟩;rcases mem_cons.mp hd with rfl | hd
 ·exact .inl hc
 ·exact ha d hd
theorem Fv (a:Int) (k:Nat):(dm a k).cps.toList=CQ a k:=by simp [dm]
theorem Qx (a:Int) {k:Nat} (hk:k <26):nameB (dm a k)=true:=by
 have h0:=emod_nonneg (cg a 54) (show(1000:Int)≠0 by decide);have h1:=emod_lt_of_pos (cg a 54) (show(0:Int) <1000 by decide);have e:=Fv a k;unfold CQ at e;split at e
 ·obtain⟨n1,n2,_⟩:=xm (n:=(cg a 54 % 1000+37 * (k:Int)).toNat) (by omega);exact Fj e (by omega) (KQ _) λc hc=>.inr (all_eq_true.mp n1 c hc)
 ·have b1:=(Ef a).1;have b2:=Qh a;have all:∀c∈(iU a).take (rG a) ++ Ml (cg a 55+k):: (iU a).drop (rG a),low c=true:=λc hc=>by
   have hb:∀c∈iU a,low c=true:=λc hc=>by unfold iU at hc;obtain⟨j,_,rfl⟩:=mem_map.mp hc;exact KQ _
   rcases mem_append.mp hc with h | h
   ·exact hb c (mem_of_mem_take h)
   ·rcases mem_cons.mp h with rfl | h
    ·exact KQ _
    ·exact hb c (mem_of_mem_drop h)
  have len:((iU a).take (rG a) ++ Ml (cg a 55+k):: (iU a).drop (rG a)).length<=7:=by rw [lP,length_take,length_cons,length_drop];omega
  have ne:(iU a).take (rG a) ++ Ml (cg a 55+k):: (iU a).drop (rG a)≠[]:=by simp
  generalize (iU a).take (rG a) ++ Ml (cg a 55+k):: (iU a).drop (rG a)=l at all len ne e;obtain⟨c,r,rfl⟩:=List.exists_cons_of_ne_nil ne;rw [length_cons] at len;exact Fj e (by omega) (all c mem_cons_self) λd hd=>.inl (all d (mem_cons_of_mem _ hd))
theorem LC (a:Int) {j k:Nat} (hj:j <26) (hk:k <26) (h:dm a j=dm a k):j=k:=by
 have e:CQ a j=CQ a k:=by have:=congrArg (λs:Str=>s.cps.toList) h;simpa [dm] using this
 unfold CQ at e;split at e
 ·have h0:=emod_nonneg (cg a 54) (show(1000:Int)≠0 by decide);have h1:=emod_lt_of_pos (cg a 54) (show(0:Int) <1000 by decide);have e2:=congrArg S5 (List.cons.inj e).2;rw [(xm (by omega)).2.2,(xm (by omega)).2.2] at e2;omega
 ·have e2:=(List.cons.inj (List.append_cancel_left e)).1;unfold Ml at e2;omega
namespace Drawn
variable {S:Type}
structure jF (S:Type) where
 kind:Nat
 name:S
 nums:List Int
 ins:List S
 outs:List S
structure NS (S:Type) where
 lanes:List S
 parts:List (jF S)
 opens:List S
 back:List S
inductive jR (ps:List (jF S)):S->S->Prop
 | refl (x:S):jR ps x x
 | step {x y z:S} {p:jF S}:p∈ps->x∈p.ins ++ p.outs->y∈p.ins ++ p.outs->jR ps y z->jR ps x z
theorem jR.trans {ps:List (jF S)} {x y z:S} (h:jR ps x y) (k:jR ps y z):jR ps x z:=by
 induction h with
 | refl _=>exact k
 | step hp hx hy _ ih=>exact .step hp hx hy (ih k)
theorem jR.symm {ps:List (jF S)} {x y:S} (h:jR ps x y):jR ps y x:=by
 induction h with
 | refl _=>exact .refl _
 | step hp hx hy _ ih=>exact ih.trans (.step hp hy hx (.refl _))
theorem jR.mono {ps qs:List (jF S)} (hs:∀p∈ps,p∈qs) {x y:S} (h:jR ps x y):jR qs x y:=by
 induction h with
 | refl _=>exact .refl _
 | step hp hx hy _ ih=>exact .step (hs _ hp) hx hy ih
theorem jR.part {ps:List (jF S)} {p:jF S} (hp:p∈ps) {x y:S} (hx:x∈p.ins ++ p.outs) (hy:y∈p.ins ++ p.outs):jR ps x y:=.step hp hx hy (.refl _)
structure WF (ns:NS S):Prop where
 nod:ns.lanes.Nodup
 outs:((ns.parts.flatMap (·.outs)) ++ ns.back).Perm ns.lanes
 ins:((ns.parts.flatMap (·.ins)) ++ ns.opens).Perm ns.lanes
 hang:∀p∈ns.parts,∃x∈p.ins ++ p.outs,∃o∈ns.opens,jR ns.parts x o
 touch:∀p∈ns.parts,p.ins ++ p.outs≠[]
theorem WF.add {ns:NS S} (w:WF ns) {p:jF S} {newl opens' back':List S} (hn:(ns.lanes ++ newl).Nodup) (ho:(p.outs ++ back').Perm (ns.back ++ newl)) (hi:(p.ins ++ opens').Perm (ns.opens ++ newl))
  (hg:∀o∈ns.opens,∃o'∈opens',jR (ns.parts ++ [p]) o o') (hp:∃x∈p.ins ++ p.outs,∃o∈opens',jR (ns.parts ++ [p]) x o):
  WF { lanes:=ns.lanes ++ newl,parts:=ns.parts ++ [p],opens:=opens',back:=back' }:=by
 have mono:∀q∈ns.parts,q∈ns.parts ++ [p]:=λq hq=>mem_append.mpr (.inl hq);refine⟨hn,?_,?_,?_,?_⟩
 ·have e:(ns.parts ++ [p]).flatMap (·.outs)=ns.parts.flatMap (·.outs) ++ p.outs:=by simp
  show(((ns.parts ++ [p]).flatMap (·.outs)) ++ back').Perm _;rw [e,append_assoc];exact(ho.append_left _).trans (by rw [<-append_assoc];exact w.outs.append_right _)
 ·have e:(ns.parts ++ [p]).flatMap (·.ins)=ns.parts.flatMap (·.ins) ++ p.ins:=by simp
  show(((ns.parts ++ [p]).flatMap (·.ins)) ++ opens').Perm _;rw [e,append_assoc];exact(hi.append_left _).trans (by rw [<-append_assoc];exact w.ins.append_right _)
 ·intro q hq;rcases mem_append.mp hq with h | h
  ·obtain⟨x,hx,o,hoq,c⟩:=w.hang q h;obtain⟨o',ho',c'⟩:=hg o hoq;exact⟨x,hx,o',ho',(c.mono mono).trans c'⟩
  ·rw [mem_singleton] at h;subst h;exact hp
 ·intro q hq;rcases mem_append.mp hq with h | h
  ·exact w.touch q h
  ·rw [mem_singleton] at h;subst h;obtain⟨x,hx,_⟩:=hp;intro z;rw [z] at hx;cases hx
theorem WF.start:WF (⟨[],[],[],[]⟩:NS S):=⟨List.nodup_nil,.refl _,.refl _,λp hp=>(by cases hp),λp hp=>(by cases hp)⟩
theorem WF.backLane {ns:NS S} (w:WF ns) {b:S} (hn:(ns.lanes ++ [b]).Nodup):WF { ns with lanes:=ns.lanes ++ [b],opens:=ns.opens ++ [b],back:=ns.back ++ [b] }:=by
 refine⟨hn,?_,?_,λp hp=>?_,w.touch⟩
 ·show(_ ++ (ns.back ++ [b])).Perm _;rw [<-append_assoc];exact w.outs.append_right _
 ·show(_ ++ (ns.opens ++ [b])).Perm _;rw [<-append_assoc];exact w.ins.append_right _
 ·obtain⟨x,hx,o,ho,c⟩:=w.hang p hp;exact⟨x,hx,o,mem_append.mpr (.inl ho),c⟩
theorem WF.part {ns:NS S} (w:WF ns) {p:jF S} {rest:List S} (hi:ns.opens.Perm (p.ins ++ rest)) (hf:(ns.lanes ++ p.outs).Nodup) (ho:p.outs≠[]):
  WF { ns with lanes:=ns.lanes ++ p.outs,parts:=ns.parts ++ [p],opens:=rest ++ p.outs }:=by
 have hp:p∈ns.parts ++ [p]:=by simp
 obtain⟨o1,hoo⟩:∃o1,o1∈p.outs:=List.exists_mem_of_ne_nil _ ho;have h1:o1∈rest ++ p.outs:=mem_append.mpr (.inr hoo);refine w.add hf perm_append_comm ?_ (λo h=>?_) ⟨o1,mem_append.mpr (.inr hoo),o1,h1,.refl _⟩
 ·rw [<-append_assoc];exact hi.symm.append_right _
 ·rcases mem_append.mp (hi.mem_iff.mp h) with h | h
  ·exact⟨o1,h1,jR.part hp (mem_append.mpr (.inl h)) (mem_append.mpr (.inr hoo))⟩
  ·exact⟨o,mem_append.mpr (.inl h),.refl _⟩
theorem WF.take {ns:NS S} (w:WF ns) {p:jF S} {rest:List S} {y x:S} (hi:p.ins=[y]) (ho:p.outs=[]) (hr:ns.opens.Perm (y:: rest)) (hx:x∈rest) (c:jR ns.parts y x):
  WF { ns with parts:=ns.parts ++ [p],opens:=rest }:=by
 have mono:∀q∈ns.parts,q∈ns.parts ++ [p]:=λq hq=>mem_append.mpr (.inl hq);have:=w.add (p:=p) (newl:=[]) (opens':=rest) (back':=ns.back) (by rw [append_nil];exact w.nod) (by rw [ho,append_nil];exact .refl _) (by rw [hi,append_nil];exact hr.symm)
  (λo h=>by
   rcases mem_cons.mp (hr.mem_iff.mp h) with rfl | h
   ·exact⟨x,hx,c.mono mono⟩
   ·exact⟨o,h,.refl _⟩) ⟨y,by simp [hi],x,hx,c.mono mono⟩
 rw [append_nil] at this;exact this
theorem WF.loop {ns:NS S} (w:WF ns) {p:jF S} {rest:List S} {one own fresh:S} (hi:p.ins=[one,own]) (ho:p.outs=[own,fresh]) (hr:ns.opens.Perm (one:: rest)) (hn:(ns.lanes ++ [own,fresh]).Nodup):
  WF { ns with lanes:=ns.lanes ++ [own,fresh],parts:=ns.parts ++ [p],opens:=rest ++ [fresh] }:=by
 have hp:p∈ns.parts ++ [p]:=by simp
 have hf:fresh∈rest ++ [fresh]:=by simp
 refine w.add hn (by rw [ho];exact perm_append_comm) ?_ (λo h=>?_) ⟨fresh,by simp [ho],fresh,hf,.refl _⟩
 ·rw [hi];show(one:: own:: (rest ++ [fresh])).Perm (ns.opens ++ [own,fresh]);refine .trans ?_ (hr.symm.append_right _);refine .cons _ ?_;show(own:: (rest ++ [fresh])).Perm (rest ++ ([own] ++ [fresh]));rw [<-append_assoc];exact(perm_append_comm (l₁:=[own]) (l₂:=rest)).append_right [fresh]
 ·rcases mem_cons.mp (hr.mem_iff.mp h) with rfl | h
  ·exact⟨fresh,hf,jR.part hp (by simp [hi]) (by simp [ho])⟩
  ·exact⟨o,mem_append.mpr (.inl h),.refl _⟩
theorem WF.closeBack {ns:NS S} (w:WF ns) {p:jF S} {rest:List S} {one b fresh:S} (hi:p.ins=[one]) (ho:p.outs=[b,fresh]) (hb:ns.back.Perm (b:: rest)) (h1:ns.opens=[one]) (hn:(ns.lanes ++ [fresh]).Nodup):
  WF { lanes:=ns.lanes ++ [fresh],parts:=ns.parts ++ [p],opens:=[fresh],back:=rest }:=by
 have hp:p∈ns.parts ++ [p]:=by simp
 refine w.add hn ?_ (by rw [hi,h1]) (λo h=>?_) ⟨fresh,by simp [ho],fresh,by simp,.refl _⟩
 ·rw [ho];show(b:: fresh:: rest).Perm (ns.back ++ [fresh]);refine .trans ?_ (hb.symm.append_right _);exact .cons _ (perm_append_comm (l₁:=[fresh]) (l₂:=rest))
 ·rw [h1,mem_singleton] at h;subst h;exact⟨fresh,by simp,jR.part hp (by simp [hi]) (by simp [ho])⟩
theorem WF.last {ns:NS S} (w:WF ns) {p:jF S} {y:S} (hb:ns.back=[]) (h1:ns.opens=[y]) (hi:p.ins=[y]) (ho:p.outs=[]):
  ((ns.parts ++ [p]).flatMap (·.outs)).Perm ns.lanes/\((ns.parts ++ [p]).flatMap (·.ins)).Perm ns.lanes/\∀q∈ns.parts ++ [p],∃x∈q.ins ++ q.outs,jR (ns.parts ++ [p]) x y:=by
 have mono:∀q∈ns.parts,q∈ns.parts ++ [p]:=λq hq=>mem_append.mpr (.inl hq);refine⟨?_,?_,?_⟩
 ·have e:(ns.parts ++ [p]).flatMap (·.outs)=ns.parts.flatMap (·.outs):=by simp [ho]
  rw [e];have:=w.outs;rw [hb,append_nil] at this;exact this
 ·have e:(ns.parts ++ [p]).flatMap (·.ins)=ns.parts.flatMap (·.ins) ++ [y]:=by simp [hi]
  rw [e];have:=w.ins;rw [h1] at this;exact this
 ·intro q hq;rcases mem_append.mp hq with h | h
  ·obtain⟨x,hx,o,hoq,c⟩:=w.hang q h;rw [h1,mem_singleton] at hoq;subst hoq;exact⟨x,hx,c.mono mono⟩
  ·rw [mem_singleton] at h;subst h;exact⟨y,by simp [hi],.refl _⟩
theorem PN {ps:List (jF S)} {J:jF S->Prop} (closed:∀(l:S) (p q:jF S),p∈ps->q∈ps->l∈p.ins ++ p.outs->l∈q.ins ++ q.outs->J p->J q) {y:S} (hang:∀q∈ps,∃x∈q.ins ++ q.outs,jR ps x y)
  {p0:jF S} (hp0:p0∈ps) (h0:J p0):∀q∈ps,J q:=by
 have go:∀{x z:S},jR ps x z->(∃p∈ps,x∈p.ins ++ p.outs/\J p)->∃p∈ps,z∈p.ins ++ p.outs/\J p:=by
  intro x z c;induction c with
  | refl _=>exact id
  | step hp hx hy _ ih=>
   rintro⟨p',hp',hx',hJ⟩;exact ih ⟨_,hp,hy,closed _ _ _ hp' hp hx' hx hJ⟩
 obtain⟨x0,hx0,c0⟩:=hang p0 hp0;have hy:=go c0 ⟨p0,hp0,hx0,h0⟩;intro q hq;obtain⟨x,hx,c⟩:=hang q hq;obtain⟨p',hp',hx',hJ⟩:=go c.symm hy;exact closed _ _ _ hp' hq hx' hx hJ
theorem Sh {ps:List (jF S)} (f:jF S->List S) (h:(ps.flatMap f).Nodup) {i j:Nat} {p q:jF S} {l:S} (hi:ps[i]?=some p) (hj:ps[j]?=some q) (hp:l∈f p) (hq:l∈f q):i=j:=by
 induction ps generalizing i j with
 | nil=>cases hi
 | cons r rs ih=>
  rw [flatMap_cons,nodup_append] at h;obtain⟨h1,h2,h3⟩:=h;have far:∀{k:Nat} {s:jF S},rs[k]?=some s->l∈f s->l∈rs.flatMap f:=λe hs=>mem_flatMap.mpr ⟨_,mem_of_getElem? e,hs⟩;match i,j with
  | 0,0=>rfl
  | 0,j+1=>
   simp only [getElem?_cons_zero,Option.some.injEq] at hi;subst hi;exact absurd Y (h3 l hp l (far (by simpa using hj) hq))
  | i+1,0=>
   simp only [getElem?_cons_zero,Option.some.injEq] at hj;subst hj;exact absurd Y (h3 l hq l (far (by simpa using hi) hp))
  | i+1,j+1=>exact congrArg (· +1) (ih h2 (by simpa using hi) (by simpa using hj))
end Drawn
structure aD where
 name:Str
 room:Int
 first:List Int
noncomputable def aD.ok (l:aD):Prop:=1<=l.room/\l.room<=10/\(l.first.length:Int)<=l.room/\∀v∈l.first,0<=v/\v <1000000000
noncomputable abbrev PD:=Drawn.jF Str
noncomputable def qy (p:PD):Prop:=p.kind <11/\p.nums.length=cN p.kind/\p.ins.length=cI p.kind/\p.outs.length=cO p.kind/\∀v∈p.nums,0<=v/\v <1000000000
noncomputable def aQ (E:List Addr) (H:Hp):Hp:=λb=>if b∈E then none else H b
theorem bF {E:List Addr} {H:Hp}:aJ (aQ E H) H:=λb o e=>by
 unfold aQ at e;split at e
 ·cases e
 ·exact e
theorem Ed {E:List Addr} {H:Hp} {p:Addr} {o:HO} (h:H p=none):aJ (aQ E H) (aQ E (upd H p o)):=λb u e=>by
 have e':=bF b u e;unfold aQ at e ⊢;split at e
 ·cases e
 ·rename_i n;rw [if_neg n,aK (aF e' h)];exact e
theorem bL {E:List Addr} {H:Hp} {p:Addr} {o:HO} (h:H p=some o) (n:p∉E):aQ E H p=some o:=by unfold aQ;rw [if_neg n];exact h
theorem dH {E:List Addr} {H:Hp} {a:Addr} {o:HO} (h:a∈E):aQ E (upd H a o)=aQ E H:=by
 funext b
 unfold aQ;split
 ·rfl
 ·rename_i n;rw [aK (λz=>n (by rw [z];exact h))]
theorem Af {E:List Addr} {H H':Hp} (s:aJ H H') (hE:∀a∈E,∃o,H a=some o):aJ (aQ E H) (aQ E H'):=λb o e=>by
 have e':=bF b o e;unfold aQ at e ⊢;split at e
 ·cases e
 ·rename_i n;rw [if_neg n];exact s _ _ e'
inductive j4 {α β:Type} (R:α->β->Prop):List α->List β->Prop
 | nil:j4 R [] []
 | cons {a:α} {b:β} {l:List α} {m:List β}:R a b->j4 R l m->j4 R (a:: l) (b:: m)
theorem j4.imp {α β:Type} {R R':α->β->Prop} (h:∀a b,R a b->R' a b):∀{l:List α} {m:List β},j4 R l m->j4 R' l m
 | _,_,.nil=>.nil
 | _,_,.cons r t=>.cons (h _ _ r) (t.imp h)
theorem j4.length {α β:Type} {R:α->β->Prop}:∀{l:List α} {m:List β},j4 R l m->l.length=m.length
 | _,_,.nil=>rfl
 | _,_,.cons _ t=>by rw [length_cons,length_cons,t.length]
theorem j4.app {α β:Type} {R:α->β->Prop}:∀{l l':List α} {m m':List β},j4 R l m->j4 R l' m'->j4 R (l ++ l') (m ++ m')
 | _,_,_,_,.nil,h=>h
 | _,_,_,_,.cons r t,h=>.cons r (t.app h)
theorem j4.get {α β:Type} {R:α->β->Prop}:∀{l:List α} {m:List β},j4 R l m->∀{i:Nat} {a:α},l[i]?=some a->∃b,m[i]?=some b/\R a b
 | _,_,.nil,_,_,h=>by simp at h
 | _,_,.cons r t,0,_,h=>by simp only [getElem?_cons_zero,Option.some.injEq] at h;subst h;exact⟨_,Y,r⟩
 | _,_,.cons r t,i+1,_,h=>t.get (i:=i) (by simpa using h)
theorem j4.take {α β:Type} {R:α->β->Prop}:∀{l:List α} {m:List β},j4 R l m->∀n:Nat,j4 R (l.take n) (m.take n)
 | _,_,.nil,_=>by simp;exact .nil
 | _,_,.cons r t,0=>by simp;exact .nil
 | _,_,.cons r t,n+1=>by simp;exact .cons r (t.take n)
theorem j4.drop {α β:Type} {R:α->β->Prop}:∀{l:List α} {m:List β},j4 R l m->∀n:Nat,j4 R (l.drop n) (m.drop n)
 | _,_,.nil,_=>by simp;exact .nil
 | _,_,.cons r t,0=>.cons r t
 | _,_,.cons r t,n+1=>by simp;exact t.drop n
inductive yS (G:Hp) (v:V) (l:aD):Prop where
 | mk:∀q f,v=.ref q->G q=some (.tup [.str l.name,.int l.room,.ref f])->G f=some (.lst (l.first.map V.int))->yS G v l
inductive Ab (G:Hp) (v:V) (p:PD):Prop where
 | mk:∀q a1 a2 a3,v=.ref q->G q=some (.tup [.str (fD p.kind),.str p.name,.ref a1,.ref a2,.ref a3])->G a1=some (.lst (p.nums.map V.int))->G a2=some (.lst (p.ins.map V.str))->G a3=some (.lst (p.outs.map V.str))->Ab G v p
theorem yS.same {G G':Hp} {v:V} {l:aD} (h:yS G v l) (s:aJ G G'):yS G' v l:=by obtain⟨q,f,e,h1,h2⟩:=h;exact⟨q,f,e,s _ _ h1,s _ _ h2⟩
theorem Ab.same {G G':Hp} {v:V} {p:PD} (h:Ab G v p) (s:aJ G G'):Ab G' v p:=by obtain⟨q,a1,a2,a3,e,h1,h2,h3,h4⟩:=h;exact⟨q,a1,a2,a3,e,s _ _ h1,s _ _ h2,s _ _ h3,s _ _ h4⟩
structure Dw where
 S:Addr
 L:Addr
 P:Addr
 O:Addr
 c3:Int
 c4:Int
noncomputable abbrev Dw.E (d:Dw):List Addr:=[d.L,d.P,d.O]
structure pP (d:Dw) (H:Hp) (ls:List aD) (ps:List PD) (os:List Str):Prop where
 top:aQ d.E H d.S=some (.lst [.ref d.L,.ref d.P,.ref d.O,.int d.c3,.int d.c4])
 lanes:∃xs,H d.L=some (.lst xs)/\j4 (yS (aQ d.E H)) xs ls
 parts:∃xs,H d.P=some (.lst xs)/\j4 (Ab (aQ d.E H)) xs ps
 opens:H d.O=some (.lst (os.map V.str))
 ne:d.L≠d.P/\d.L≠d.O/\d.P≠d.O
 lok:∀l∈ls,l.ok
 pok:∀p∈ps,qy p
 ln:ls.map (·.name)=(List.range ls.length).map (dm d.c3)
 pn:ps.map (·.name)=(List.range ps.length).map (dm d.c4)
theorem pP.seqS {d:Dw} {H:Hp} {ls:List aD} {ps:List PD} {os:List Str} (D:pP d H ls ps os):bJ K H d.S [.ref d.L,.ref d.P,.ref d.O,.int d.c3,.int d.c4]:=bJ.of (bF _ _ D.top)
theorem pP.has {d:Dw} {H:Hp} {ls:List aD} {ps:List PD} {os:List Str} (D:pP d H ls ps os) {a:Addr} (h:a∈d.E):∃o,H a=some o:=by
 obtain⟨_,e1,_⟩:=D.lanes;obtain⟨_,e2,_⟩:=D.parts;rcases mem_cons.mp h with rfl | h
 ·exact⟨_,e1⟩
 ·rcases mem_cons.mp h with rfl | h
  ·exact⟨_,e2⟩
  ·rw [mem_singleton] at h;subst h;exact⟨_,D.opens⟩
theorem pP.out {d:Dw} {H:Hp} {ls:List aD} {ps:List PD} {os:List Str} (D:pP d H ls ps os) {p:Addr} (h:H p=none):p∉d.E:=λz=>by obtain⟨o,e⟩:=D.has z;rw [h] at e;cases e
theorem pP.keep {d:Dw} {H H':Hp} {ls:List aD} {ps:List PD} {os:List Str} (D:pP d H ls ps os) (s:aJ H H'):pP d H' ls ps os:=by obtain⟨xs,e1,a1⟩:=D.lanes;obtain⟨ys,e2,a2⟩:=D.parts;have c:=Af (E:=d.E) s (λa h=>D.has h);exact⟨c _ _ D.top,⟨xs,s _ _ e1,a1.imp λ_ _ h=>h.same c⟩,⟨ys,s _ _ e2,a2.imp λ_ _ h=>h.same c⟩,s _ _ D.opens,D.ne,D.lok,D.pok,D.ln,D.pn⟩
theorem pP.cut {d:Dw} {H H':Hp} {ls:List aD} {ps:List PD} {os:List Str} (D:pP d H ls ps os) (s:aJ H H'):aJ (aQ d.E H) (aQ d.E H'):=Af s (λ_ h=>D.has h)
theorem Ia {α:Type} {f:α->Str} {w:Nat->Str} {l:List α} {x:α} (h:l.map f=(List.range l.length).map w) (hx:f x=w l.length):(l ++ [x]).map f=(List.range (l ++ [x]).length).map w:=by rw [map_append,lP,length_singleton,range_succ,map_append,h,map_singleton,map_singleton,hx]
theorem pP.lane {d:Dw} {H:Hp} {ls:List aD} {ps:List PD} {os:List Str} (D:pP d H ls ps os) {v:V} {l:aD} (h:yS (aQ d.E H) v l) (hl:l.ok) (hn:l.name=dm d.c3 ls.length) {xs:List V} (e:H d.L=some (.lst xs)):
  pP d (upd H d.L (.lst (xs ++ [v]))) (ls ++ [l]) ps os:=by
 obtain⟨xs',e1,a1⟩:=D.lanes;obtain⟨ys,e2,a2⟩:=D.parts;rw [e] at e1;cases e1;have c:aQ d.E (upd H d.L (.lst (xs ++ [v])))=aQ d.E H:=dH (by simp);refine⟨by rw [c];exact D.top,⟨_,ao,by rw [c];exact a1.app (.cons h .nil)⟩,⟨ys,by rw [aK (Ne.symm D.ne.1)];exact e2,by rw [c];exact a2⟩,by rw [aK (Ne.symm D.ne.2.1)];exact D.opens,D.ne,λx hx=>?_,D.pok,Ia D.ln hn,D.pn⟩;rcases mem_append.mp hx with hx | hx
 ·exact D.lok x hx
 ·rw [mem_singleton] at hx;subst hx;exact hl
theorem pP.part {d:Dw} {H:Hp} {ls:List aD} {ps:List PD} {os:List Str} (D:pP d H ls ps os) {v:V} {p:PD} (h:Ab (aQ d.E H) v p) (hl:qy p) (hn:p.name=dm d.c4 ps.length) {xs:List V} (e:H d.P=some (.lst xs)):
  pP d (upd H d.P (.lst (xs ++ [v]))) ls (ps ++ [p]) os:=by
 obtain⟨xs',e1,a1⟩:=D.lanes;obtain⟨ys,e2,a2⟩:=D.parts;rw [e] at e2;cases e2;have c:aQ d.E (upd H d.P (.lst (xs ++ [v])))=aQ d.E H:=dH (by simp);refine⟨by rw [c];exact D.top,⟨_,by rw [aK D.ne.1];exact e1,by rw [c];exact a1⟩,⟨_,ao,by rw [c];exact a2.app (.cons h .nil)⟩,by rw [aK (Ne.symm D.ne.2.2)];exact D.opens,D.ne,D.lok,λx hx=>?_,D.ln,Ia D.pn hn⟩;rcases mem_append.mp hx with hx | hx
 ·exact D.pok x hx
 ·rw [mem_singleton] at hx;subst hx;exact hl
theorem pP.open {d:Dw} {H:Hp} {ls:List aD} {ps:List PD} {os os':List Str} (D:pP d H ls ps os):pP d (upd H d.O (.lst (os'.map V.str))) ls ps os':=by obtain⟨xs,e1,a1⟩:=D.lanes;obtain⟨ys,e2,a2⟩:=D.parts;have c:aQ d.E (upd H d.O (.lst (os'.map V.str)))=aQ d.E H:=dH (by simp);exact⟨by rw [c];exact D.top,⟨xs,by rw [aK D.ne.2.1];exact e1,by rw [c];exact a1⟩,⟨ys,by rw [aK D.ne.2.2];exact e2,by rw [c];exact a2⟩,ao,D.ne,D.lok,D.pok,D.ln,D.pn⟩
theorem Cy (a:Int) {n:Nat} (h:n<=26):((List.range n).map (dm a)).Nodup:=by
 induction n with
 | zero=>exact List.nodup_nil
 | succ n ih=>
  rw [range_succ,map_append,nodup_append];refine⟨ih (by omega),by simp,λx hx y hy=>?_⟩;obtain⟨j,hj,rfl⟩:=mem_map.mp hx;rw [map_singleton,mem_singleton] at hy;subst hy;have hj':=mem_range.mp hj;intro z;have:=LC a (by omega) (by omega) z;omega
noncomputable abbrev vU (ls:List aD) (ps:List PD) (os back:List Str):Drawn.NS Str:=⟨ls.map (·.name),ps,os,back⟩
theorem pP.nod {d:Dw} {H:Hp} {ls:List aD} {ps:List PD} {os:List Str} (D:pP d H ls ps os) (h:ls.length<=26):(ls.map (·.name)).Nodup:=by rw [D.ln];exact Cy _ h
theorem YT {ns:Drawn.NS Str} (w:Drawn.WF ns) {os:List Str} (h:ns.opens.Perm os):Drawn.WF { ns with opens:=os }:=
 ⟨w.nod,w.outs,(h.symm.append_left _).trans w.ins,λp hp=>by obtain⟨x,hx,o,ho,c⟩:=w.hang p hp;exact⟨x,hx,o,h.mem_iff.mp ho,c⟩,w.touch⟩
theorem tG {d:Dw} {H:Hp} {ls newl:List aD} {ps:List PD} {p:PD} {os ops back:List Str} (w:Drawn.WF (vU ls ps ops back)) (ho:p.outs=newl.map (·.name)) (D:pP d H (ls ++ newl) (ps ++ [p]) (os ++ newl.map (·.name))) (hi:ops.Perm (p.ins ++ os)) (hne:newl.length≠0) (hl:(ls ++ newl).length<=26):
  Drawn.WF (vU (ls ++ newl) (ps ++ [p]) (os ++ newl.map (·.name)) back):=by
 have nd:=D.nod hl;rw [map_append] at nd;have:=w.part (p:=p) hi (by rw [ho];exact nd) (by rw [ho];intro z;exact hne (by rw [<-lM (f:=λl:aD=>l.name),z];rfl));rw [ho] at this;unfold vU;rw [map_append];exact this
noncomputable def Ny (ps:List PD):Prop:=ps.any (λp=>p.kind == 0)=true
theorem Ny.app {ps:List PD} {p:PD} (h:Ny ps):Ny (ps ++ [p]):=by unfold Ny at h ⊢;rw [List.any_append,h];rfl
structure Nxt (d:Dw) (H H':Hp) (ls:List aD) (ps:List PD) (back:List Str) (ls':List aD) (ps':List PD) (os':List Str):Prop where
 cut:aJ (aQ d.E H) (aQ d.E H')
 at':pP d H' ls' ps' os'
 wf:Drawn.WF (vU ls' ps' os' back)
 o1:1<=os'.length
 o4:os'.length<=4
 l2:ls'.length<=ls.length+2
 p2:ps'.length<=ps.length+2
 gv:Ny ps->Ny ps'
theorem Er {c X Y1 B:Prop} [Decidable c] (k:B) (hx:c->B->X) (hy:B->Y1):if c then X else Y1:=by
 split
 ·rename_i h;exact hx h k
 ·exact hy k
theorem hide {t u:TS} {D:Ends} {σ:St} {H:Hp} (h:∀v,v=u->Ag t v D σ H):Ag t u D σ H:=h u rfl
theorem Q4 {i:Nat} {x:V} {t u:TS} {D:Ends} {σ:St} {H:Hp} (h:∀E,E=D->∀v,v=u->Ag t v E (σ.set i (some x)) H):zE i x σ H λσ2 H2=>Ag t u D σ2 H2:=h D rfl u rfl
theorem Vz {i:Nat} {x:V} {t:TS} {D:Ends} {σ:St} {H:Hp} (h:∀E,E=D->t E (σ.set i (some x)) H):zE i x σ H λσ2 H2=>t D σ2 H2:=h D rfl
theorem ZX {t u:TS} {D:Ends} {σ:St} {H:Hp} (h:∀E,E=D->∀v,v=u->Ag t v E σ H):Ag t u D σ H:=h D rfl u rfl
theorem cB {t u v:TS} {D:Ends} {σ:St} {H:Hp} (hv:v=Ag t u) (h:∀w,w=u->Ag t w D σ H):v D σ H:=by subst hv;exact h u Y
theorem pP.two {d:Dw} {H:Hp} {ls:List aD} {ps:List PD} {os:List Str} (D:pP d H ls ps os) {a1 a2:Addr} {x y:HO} (n1:H a1=none) (n2:upd H a1 x a2=none):
  pP d (upd (upd H a1 x) a2 y) ls ps os/\aQ d.E (upd (upd H a1 x) a2 y) a1=some x/\aQ d.E (upd (upd H a1 x) a2 y) a2=some y/\aJ (aQ d.E H) (aQ d.E (upd (upd H a1 x) a2 y)):=by
 have s1:=aB (o:=x) n1;have s2:=aB (o:=y) n2;have s:=s1.trans s2;exact⟨D.keep s,bL (s2 _ _ ao) (D.out n1),bL ao (D.out (s1.free n2)),D.cut s⟩
structure HQ (lanes:List Str) (ps:List PD):Prop where
 nod:lanes.Nodup
 outs:(ps.flatMap (·.outs)).Perm lanes
 ins:(ps.flatMap (·.ins)).Perm lanes
 hang:∃y,∀q∈ps,∃x∈q.ins ++ q.outs,Drawn.jR ps x y
noncomputable def Ip (H:Hp) (a:Addr):Nat:=match H a with
 | some (.lst xs)=>xs.length
 | _=>0
theorem zN {H:Hp} {a:Addr} {xs:List V} (h:H a=some (.lst xs)):Ip H a=xs.length:=by unfold Ip;rw [h]
theorem Pr (m:Int) {n:Int} {k:Nat} (h0:0 <n) (hk:n=k):∃j:Nat,m % n=(j:Int)/\j <k:=by have h1:=emod_nonneg m (Int.ne_of_gt h0);have h2:=emod_lt_of_pos m h0;exact⟨(m % n).toNat,(Int.toNat_of_nonneg h1).symm,by omega⟩
theorem aaE (m:Int):∃i:Nat,Hw [V.str "add",V.str "less",V.str "add"] (m % 3)=some (.str (fD i))/\(i=6∨i=7):=by
 have key:∀j,j <3->Hw [V.str "add",V.str "less",V.str "add"] ((j:Nat):Int)=some (.str (fD (([6,7,6]:List Nat).getD j 0)))/\(([6,7,6]:List Nat).getD j 0=6∨([6,7,6]:List Nat).getD j 0=7):=by decide +kernel
 obtain⟨j,e,hj⟩:=Pr m (n:=3) (k:=3) (by decide) rfl;rw [e];exact⟨_,key j hj⟩
structure Td (c3 c4:Int) (ls:List aD) (ps:List PD):Prop where
 lok:∀l∈ls,l.ok
 pok:∀p∈ps,qy p
 ln:ls.map (·.name)=(List.range ls.length).map (dm c3)
 pn:((List.range ps.length).map (dm c4)).Perm (ps.map (·.name))
 whole:HQ (ls.map (·.name)) ps
 l1:1<=ls.length
 l17:ls.length<=17
 p1:1<=ps.length
 p16:ps.length<=16
 giv:Ny ps
structure Qn (H:Hp) (L P:Addr) (ls:List aD) (ps:List PD):Prop where
 lanes:∃xs,H L=some (.lst xs)/\j4 (yS H) xs ls
 parts:∃xs,H P=some (.lst xs)/\j4 (Ab H) xs ps
theorem Qn.same {H H':Hp} {L P:Addr} {ls:List aD} {ps:List PD} (h:Qn H L P ls ps) (s:aJ H H'):Qn H' L P ls ps:=by obtain⟨⟨xs,e1,a1⟩,⟨ys,e2,a2⟩⟩:=h;exact⟨⟨xs,s _ _ e1,a1.imp λ_ _ h=>h.same s⟩,⟨ys,s _ _ e2,a2.imp λ_ _ h=>h.same s⟩⟩
theorem RD {ps qs:List PD} (h:ps.Perm qs) {x y:Str} (c:Drawn.jR ps x y):Drawn.jR qs x y:=c.mono λ_ hp=>h.mem_iff.mp hp
theorem HQ.perm {ns:List Str} {ps qs:List PD} (w:HQ ns ps) (h:ps.Perm qs):HQ ns qs:=by obtain⟨y,hy⟩:=w.hang;exact⟨w.nod,(h.symm.flatMap_right _).trans w.outs,(h.symm.flatMap_right _).trans w.ins,y,λq hq=>by obtain⟨x,hx,c⟩:=hy q (h.mem_iff.mpr hq);exact⟨x,hx,RD h c⟩⟩
theorem VB {α:Type} (l:List α) (n:Nat):l.Perm (l.drop n ++ l.take n):=by
 have h:l.Perm (l.take n ++ l.drop n):=by rw [take_append_drop]
 exact h.trans perm_append_comm
theorem Bl (xs:List V) (g:Nat):wk xs (some (g:Int)) none=xs.drop g:=by
 unfold wk;rw [HT.yW,HT.xO,<-length_drop,take_length];rcases le_total g xs.length with h | h
 ·rw [Nat.min_eq_left h]
 ·rw [Nat.min_eq_right h,List.drop_length,List.drop_eq_nil_of_le h]
theorem WQ (xs:List V) (g:Nat):wk xs none (some (g:Int))=xs.take g:=by
 unfold wk;rw [HT.yW,HT.xO,List.drop_zero,Nat.sub_zero];rcases le_total g xs.length with h | h
 ·rw [Nat.min_eq_left h]
 ·rw [Nat.min_eq_right h,take_length,take_of_length_le h]
theorem pP.init {H:Hp} {S L P O:Addr} (c3 c4:Int) (nL:H L=none) (nP:upd H L (.lst []) P=none) (nO:upd (upd H L (.lst [])) P (.lst []) O=none) (nS:upd (upd (upd H L (.lst [])) P (.lst [])) O (.lst []) S=none):
  pP ⟨S,L,P,O,c3,c4⟩ (upd (upd (upd (upd H L (.lst [])) P (.lst [])) O (.lst [])) S (.lst [.ref L,.ref P,.ref O,.int c3,.int c4])) [] [] []/\aJ H (aQ [L,P,O] (upd (upd (upd (upd H L (.lst [])) P (.lst [])) O (.lst [])) S (.lst [.ref L,.ref P,.ref O,.int c3,.int c4])))/\H P=none:=by
 have s1:=aB (o:=.lst []) nL;have s2:=aB (o:=.lst []) nP;have s3:=aB (o:=.lst []) nO;have s4:=aB (o:=.lst [.ref L,.ref P,.ref O,.int c3,.int c4]) nS;have e1:=s4 _ _ (s3 _ _ (s2 L (.lst []) ao));have e2:=s4 _ _ (s3 P (.lst []) ao);have e3:=s4 O (.lst []) ao;have n1:L≠P:=aF (ao (H:=H) (o:=.lst [])) nP;have n2:L≠O:=aF (s2 L (.lst []) ao) nO;have n3:P≠O:=aF (ao (H:=upd H L (.lst [])) (o:=.lst [])) nO;have m1:L≠S:=aF (s3 _ _ (s2 L (.lst []) ao)) nS;have m2:P≠S:=aF (s3 P (.lst []) ao) nS;have m3:O≠S:=aF (ao (H:=upd (upd H L (.lst [])) P (.lst [])) (o:=.lst [])) nS;refine⟨⟨bL ao ?_,⟨[],e1,.nil⟩,⟨[],e2,.nil⟩,e3,⟨n1,n2,n3⟩,(λ_ h=>by cases h),(λ_ h=>by cases h),rfl,rfl⟩,λb o e=>bL (s4 _ _ (s3 _ _ (s2 _ _ (s1 _ _ e)))) ?_,s1.free nP⟩
 ·show S∉[L,P,O];simp [m1.symm,m2.symm,m3.symm]
 ·have q1:=aF e nL;have q2:=aF (s1 _ _ e) nP;have q3:=aF (s2 _ _ (s1 _ _ e)) nO;simp [q1,q2,q3]
noncomputable abbrev LET:Str:= "abcdefghijklmnopqrstuvwxyz"
noncomputable abbrev FIG:Str:= "0123456789"
theorem Q9:LET.cps.toList=List.range' 97 26:=by decide +kernel
theorem RV:FIG.cps.toList=List.range' 48 10:=by decide +kernel
theorem Te (c:Nat):(!(Builtin.Str.occurrences LET ⟨#[c]⟩ 0 LET.length 1).isEmpty)=low c:=by rw [StrLaws.found_one,Q9];unfold low;rw [Bool.eq_iff_iff];simp [List.mem_range'_1];omega
theorem YG (c:Nat):(!(Builtin.Str.occurrences FIG ⟨#[c]⟩ 0 FIG.length 1).isEmpty)=N8 c:=by rw [StrLaws.found_one,RV];unfold N8;rw [Bool.eq_iff_iff];simp [List.mem_range'_1];omega
structure Wy (ms:List Str) (want:List (Str×V)) (fs:List (Str×V)):Prop where
 has:∀p∈want,fs.lookup p.1=some p.2
 no:∀m∈ms,fs.lookup m=none
theorem kJ {H:Hp} {d:Addr} {kvs:List (Key×V)} {v:HO} (e:H d=some (.dK kvs)) {b:Addr} {u:HO} (h:H b=some u) (hu:∀ks,u≠.dK ks):upd H d v b=some u:=by
 rw [aK]
 ·exact h
 ·rintro rfl;rw [e] at h;exact hu _ (Option.some.inj h).symm
theorem gW {H:Hp} {d a:Addr} {kvs:List (Key×V)} {v:HO} {xs:List V} (e:H d=some (.dK kvs)) (h:fZ K H a xs):fZ K (upd H d v) a xs:=by
 rcases h with (h | ⟨o,h⟩) | h
 ·exact .inl (.inl (kJ e h (by intro _ z;cases z)))
 ·exact .inl (.inr ⟨o,kJ e h (by intro _ z;cases z)⟩)
 ·exact .inr h
theorem fQ.chill {H:Hp} {d p:Addr} {kvs:List (Key×V)} {v:HO} {i:Nat} {nm:V} {ns is os:List V} (e:H d=some (.dK kvs)) (h:fQ K t H p i nm ns is os):fQ K t (upd H d v) p i nm ns is os:=by obtain⟨dx,tn,ti,to,h1,h2,h3,h4⟩:=h;exact⟨dx,tn,ti,to,kJ e h1 (by intro _ z;cases z),gW e h2,gW e h3,gW e h4⟩
theorem RP {H:Hp} {d D:Addr} {kvs:List (Key×V)} {o:Obj} {u:HO} (e:H d=some (.dK kvs)) (hD:(upd H d (.frz o (.dK kvs))) D=none):upd (upd (upd H d (.frz o (.dK kvs))) D u) d (.dK kvs)=upd H D u:=by
 have n:D≠d:=by rintro rfl;rw [ao] at hD;cases hD
 funext b
 by_cases h:b=d
 ·subst h;rw [ao,aK (Ne.symm n)];exact e.symm
 ·rw [aK h];unfold upd;rw [if_neg h]
theorem Oo {H:Hp} {d D:Addr} {v:HO} (hD:(upd H d v) D=none):H D=none:=by
 by_cases h:D=d
 ·subst h;rw [ao] at hD;cases hD
 ·rw [aK h] at hD;exact hD
theorem K1 {H:Hp} {a:Addr} {o:HO} (e:H a=some o):upd H a o=H:=by
 funext b
 unfold upd;split
 ·rename_i h;rw [h];exact e.symm
 ·rfl
theorem jw {κ:Type} [DecidableEq κ] {kvs:List (κ×V)} {k:κ} (h:k∉kvs.map (·.1)):cj kvs k=none:=by
 induction kvs with
 | nil=>rfl
 | cons p r ih=>
  simp only [map_cons,mem_cons,not_or] at h;rw [gM (Ne.symm h.1)];exact ih h.2
theorem jt {κ:Type} [DecidableEq κ] {kvs:List (κ×V)} {k:κ} {v:V} (nd:(kvs.map (·.1)).Nodup) (h:(k,v)∈kvs):cj kvs k=some v:=by
 induction kvs with
 | nil=>cases h
 | cons p r ih=>
  simp only [map_cons,nodup_cons] at nd;rcases mem_cons.mp h with h | h
  ·subst h;exact iC Y
  ·have:¬p.1=k:=λz=>nd.1 (mem_map.mpr ⟨_,h,z.symm⟩);rw [gM this];exact ih nd.2 h
noncomputable def cX (f:PD->List Str) (ps:List PD):List (Key×V):=ps.flatMap λp=>(f p).map λl=>((Sum.inr l:Key),V.str p.name)
theorem yK (f:PD->List Str) (ps:List PD):(cX f ps).map (·.1)=(ps.flatMap f).map (λl=>(Sum.inr l:Key)):=by
 induction ps with
 | nil=>rfl
 | cons p r ih=>
  unfold cX at ih ⊢;simp only [flatMap_cons,map_append,ih,map_map];rfl
theorem gH {l:List Str} (h:l.Nodup):(l.map (λx=>(Sum.inr x:Key))).Nodup:=by
 induction l with
 | nil=>exact List.nodup_nil
 | cons a r ih=>
  simp only [map_cons,nodup_cons,mem_map] at h ⊢;refine⟨?_,ih h.2⟩;rintro⟨b,hb,e⟩;cases e;exact h.1 hb
theorem iz {f:PD->List Str} {ps:List PD} (nd:(ps.flatMap f).Nodup) {p:PD} (hp:p∈ps) {l:Str} (hl:l∈f p):cj (cX f ps) (Sum.inr l)=some (.str p.name):=
 jt (by rw [yK];exact gH nd) (mem_flatMap.mpr ⟨p,hp,mem_map.mpr ⟨l,hl,rfl⟩⟩)
theorem GF {f:PD->List Str} {ps:List PD} {l:Str} (h:l∉ps.flatMap f):cj (cX f ps) (Sum.inr l)=none:=jw (by rw [yK];intro z;obtain⟨b,hb,e⟩:=mem_map.mp z;cases e;exact h hb)
theorem Sx (f:PD->List Str) (ps:List PD):(cX f ps).length=(ps.flatMap f).length:=by have:=congrArg List.length (yK f ps);simpa using this
theorem Gu (f:PD->List Str) (ps:List PD) (p:PD):cX f (ps ++ [p])=cX f ps ++ (f p).map λl=>((Sum.inr l:Key),V.str p.name):=by unfold cX;rw [List.flatMap_append];simp
theorem QQ {α:Type} {f g:α->Bool}:∀{l:List α},(∀a∈l,g a=true->f a=true)->(∃a∈l,f a=true/\g a=false)->(l.filter g).length <(l.filter f).length
 | [],_,h=>by obtain⟨a,ha,_⟩:=h;cases ha
 | x:: r,h,h2=>by
  have le:∀r:List α,(∀a∈r,g a=true->f a=true)->(r.filter g).length<=(r.filter f).length:=λr=>by
   induction r with
   | nil=>intro _;exact le_refl _
   | cons y t ih=>
    intro q;have:=ih λa ha=>q a (mem_cons_of_mem _ ha);have q0:=q y mem_cons_self;rw [filter_cons,filter_cons];cases hg:g y
    ·simp only [Bool.false_eq_true,if_false];split
     ·rw [length_cons];omega
     ·exact this
    ·rw [q0 hg];simp only [if_true,length_cons];omega
  obtain⟨a,ha,hf,hg⟩:=h2;have hr:=λa ha=>h a (mem_cons_of_mem x ha);rw [filter_cons,filter_cons];rcases mem_cons.mp ha with rfl | ha
  ·rw [hf,hg];have:=le r hr;simp;omega
  ·have ih:=QQ hr ⟨a,ha,hf,hg⟩;have q0:=h x mem_cons_self;cases hx:g x
   ·simp only [Bool.false_eq_true,if_false];split
    ·rw [length_cons];omega
    ·exact ih
   ·rw [q0 hx];simp only [if_true,length_cons];omega
noncomputable def iV (jk:List (Key×V)) (x:Str):Bool:=(cj jk (Sum.inr x)).isSome
noncomputable def pY (ps:List PD) (jk:List (Key×V)):Nat:=(ps.filter λp=>!iV jk p.name).length
theorem Li (jk:List (Key×V)) (x y:Str) (v:V):iV (putK jk (Sum.inr x) v) y=(decide (y=x) || iV jk y):=by
 unfold iV;rw [S6];by_cases h:y=x
 ·subst h;simp
 ·have:¬(Sum.inr y:Key)=Sum.inr x:=λz=>h (Sum.inr.inj z);rw [if_neg this];simp [h]
theorem Np {ps:List PD} {jk jk':List (Key×V)} (h:∀x,iV jk x=true->iV jk' x=true) {p:PD} (hp:p∈ps) (h1:iV jk p.name=false) (h2:iV jk' p.name=true):pY ps jk' <pY ps jk:=by
 refine QQ (λa _ q=>?_) ⟨p,hp,by simp [h1],by simp [h2]⟩;cases hj:iV jk a.name
 ·rfl
 ·rw [h _ hj] at q;cases q
theorem Rz {ps:List PD} (pm:(ps.flatMap (·.outs)).Perm (ps.flatMap (·.ins))) {l:Str} (h:l∈ps.flatMap (·.outs)):∃a∈ps,∃b∈ps,l∈a.outs/\l∈b.ins:=by obtain⟨a,ha,hl⟩:=mem_flatMap.mp h;obtain⟨b,hb,hl2⟩:=mem_flatMap.mp (pm.mem_iff.mp h);exact⟨a,ha,b,hb,hl,hl2⟩
theorem YD {ps:List PD} (no:(ps.flatMap (·.outs)).Nodup) (ni:(ps.flatMap (·.ins)).Nodup) (pm:(ps.flatMap (·.outs)).Perm (ps.flatMap (·.ins))) {jk:List (Key×V)} (hang:∃y,∀q∈ps,∃x∈q.ins ++ q.outs,Drawn.jR ps x y)
  (cl:∀a∈ps,∀b∈ps,∀l,l∈a.outs->l∈b.ins->iV jk a.name=iV jk b.name) {p0:PD} (hp0:p0∈ps) (h0:iV jk p0.name=true):∀q∈ps,iV jk q.name=true:=by
 obtain⟨y,hy⟩:=hang;refine Drawn.PN (J:=λp=>iV jk p.name=true) (λl p q hp hq hlp hlq hJ=>?_) hy hp0 h0;have same:∀{f:PD->List Str},(ps.flatMap f).Nodup->∀{a b:PD},a∈ps->b∈ps->l∈f a->l∈f b->a.name=b.name:=λ{f} nd {a b} ha hb h1 h2=>by obtain⟨i,hi,ei⟩:=mem_iff_getElem.mp ha;obtain⟨j,hj,ej⟩:=mem_iff_getElem.mp hb;have:=Drawn.Sh f nd (i:=i) (j:=j) (p:=a) (q:=b) (l:=l) (by rw [getElem?_eq_getElem hi,ei]) (by rw [getElem?_eq_getElem hj,ej]) h1 h2;subst this;rw [<-ei,<-ej]
 have hl:l∈ps.flatMap (·.outs):=by
  rcases mem_append.mp hlp with h | h
  ·exact pm.mem_iff.mpr (mem_flatMap.mpr ⟨p,hp,h⟩)
  ·exact mem_flatMap.mpr ⟨p,hp,h⟩
 obtain⟨a,ha,b,hb,la,lb⟩:=Rz pm hl;have e:=cl a ha b hb l la lb;have np:p.name=a.name∨p.name=b.name:=(mem_append.mp hlp).elim (λh=>.inr (same ni hp hb h lb)) λh=>.inl (same no hp ha h la);have nq:q.name=a.name∨q.name=b.name:=(mem_append.mp hlq).elim (λh=>.inr (same ni hq hb h lb)) λh=>.inl (same no hq ha h la);show iV jk q.name=true;change iV jk p.name=true at hJ;rcases np with np | np <;> rcases nq with nq | nq <;> rw [np] at hJ <;> rw [nq]
 ·exact hJ
 ·rw [<-e];exact hJ
 ·rw [e];exact hJ
 ·exact hJ
theorem Bd {z:Str} (h:nameB z=true):z.length<=100:=by
 unfold nameB at h;rw [<-pQ];split at h
 ·simp_all
 ·rename_i e;rw [e];simp only [and_eq_true,decide_eq_true_eq] at h;rw [length_cons];omega
structure lN (ls:List aD) (ps:List PD):Prop where
 lok:∀l∈ls,1<=l.room/\l.room<=199/\(l.first.length:Int)<=l.room/\∀v∈l.first,0<=v/\v <1000000000
 pok:∀p∈ps,qy p
 lnm:∀l∈ls,nameB l.name=true
 pnm:∀p∈ps,nameB p.name=true
 pnd:(ps.map (·.name)).Nodup
 whole:HQ (ls.map (·.name)) ps
 l1:1<=ls.length
 l24:ls.length<=24
 p1:1<=ps.length
 p16:ps.length<=16
theorem Kl {c:Int} {n:Nat} (hn:n<=26) {x:Str} (h:x∈(List.range n).map (dm c)):∃k,k <n/\x=dm c k:=by obtain⟨k,hk,rfl⟩:=mem_map.mp h;exact⟨k,mem_range.mp hk,Y⟩
theorem Td.fit {c3 c4:Int} {ls:List aD} {ps:List PD} (h:Td c3 c4 ls ps):lN ls ps:=by
 have a:=h.l17;have b:=h.p16;refine⟨λl hl=>?_,h.pok,λl hl=>?_,λp hp=>?_,?_,h.whole,h.l1,by omega,h.p1,h.p16⟩
 ·obtain⟨x1,x2,x3,x4⟩:=h.lok l hl;exact⟨x1,by omega,x3,x4⟩
 ·obtain⟨k,hk,e⟩:=Kl (c:=c3) (n:=ls.length) (by omega) (by rw [<-h.ln];exact mem_map.mpr ⟨l,hl,rfl⟩);rw [e];exact Qx _ (by omega)
 ·obtain⟨k,hk,e⟩:=Kl (c:=c4) (n:=ps.length) (by omega) (h.pn.mem_iff.mpr (mem_map.mpr ⟨p,hp,rfl⟩));rw [e];exact Qx _ (by omega)
 ·exact h.pn.nodup_iff.mp (Cy _ (by omega))
theorem Td.lane20 {c3 c4:Int} {ls:List aD} {ps:List PD} (h:Td c3 c4 ls ps):dm c3 20∉ls.map (·.name):=λz=>by have a:=h.l17;rw [h.ln] at z;obtain⟨k,hk,e⟩:=Kl (by omega) z;have:=LC _ (by omega) (by omega) e;omega
noncomputable def fM (ls:List aD):List (Key×V):=ls.map λl=>((Sum.inr l.name:Key),V.int l.room)
noncomputable def bO (FL:List (aD×Addr)):List (Key×V):=FL.map λq=>((Sum.inr q.1.name:Key),V.ref q.2)
noncomputable def fH (PL:List (PD×Addr)):List (Key×V):=PL.map λq=>((Sum.inr q.1.name:Key),V.ref q.2)
theorem wg (ls:List aD):(fM ls).map (·.1)=(ls.map (·.name)).map (λx=>(Sum.inr x:Key)):=by unfold fM;rw [map_map,map_map];rfl
theorem uA (FL:List (aD×Addr)):(bO FL).map (·.1)=((FL.map (·.1)).map (·.name)).map (λx=>(Sum.inr x:Key)):=by unfold bO;rw [map_map,map_map,map_map];rfl
theorem CN (PL:List (PD×Addr)):(fH PL).map (·.1)=((PL.map (·.1)).map (·.name)).map (λx=>(Sum.inr x:Key)):=by unfold fH;rw [map_map,map_map,map_map];rfl
structure vX (K:Fr) (t:jq) (H:Hp) (n:Addr) (ls:List aD) (ps:List PD) (dx:Addr) (fs:List (Str×V)) (R F Pd G Tk:Addr) (FL:List (aD×Addr)) (PL:List (PD×Addr)):Prop where
 obj:H n=some (.ins t.dW dx fs)
 fl:Wy ["lane_names", "part_names", "names_of_kind", "gives", "takes", "need_lane_name", "room_of", "first_of", "giver_of", "taker_of", "part_of", "__init__"] [("rooms",.ref R),("firsts",.ref F),("parts",.ref Pd),("givers",.ref G),("takers",.ref Tk)] fs
 rooms:H R=some (.dK (fM ls))
 firsts:H F=some (.dK (bO FL))
 parts:H Pd=some (.dK (fH PL))
 givers:H G=some (.dK (cX (·.outs) ps))
 takers:H Tk=some (.dK (cX (·.ins) ps))
 fls:FL.map (·.1)=ls
 pls:PL.map (·.1)=ps
 tups:∀q∈FL,fZ K H q.2 (q.1.first.map V.int)
 pats:∀q∈PL,fQ K t H q.2 q.1.kind (.str q.1.name) (q.1.nums.map V.int) (q.1.ins.map V.str) (q.1.outs.map V.str)
 fit:lN ls ps
 neRF:R≠F
inductive eG (K:Fr) (t:jq) (H:Hp) (n:Addr) (ls:List aD) (ps:List PD):Prop where
 | mk:∀dx fs R F Pd G Tk FL PL,vX K t H n ls ps dx fs R F Pd G Tk FL PL->eG K t H n ls ps
section
variable {H H':Hp} {n dx R F Pd G Tk:Addr} {ls:List aD} {ps:List PD} {fs:List (Str×V)} {FL:List (aD×Addr)} {PL:List (PD×Addr)}
theorem vX.same (N:vX K t H n ls ps dx fs R F Pd G Tk FL PL) (s:aJ H H'):vX K t H' n ls ps dx fs R F Pd G Tk FL PL:=
 ⟨s _ _ N.obj,N.fl,s _ _ N.rooms,s _ _ N.firsts,s _ _ N.parts,s _ _ N.givers,s _ _ N.takers,N.fls,N.pls,λq hq=>s.seqT (N.tups q hq),λq hq=>(N.pats q hq).same s,N.fit,N.neRF⟩
theorem eG.same (N:eG K t H n ls ps) (s:aJ H H'):eG K t H' n ls ps:=by obtain⟨dx,fs,R,F,Pd,G,Tk,FL,PL,N⟩:=N;exact⟨dx,fs,R,F,Pd,G,Tk,FL,PL,N.same s⟩
theorem vX.s (N:vX K t H n ls ps dx fs R F Pd G Tk FL PL):eG K t H n ls ps:=⟨dx,fs,R,F,Pd,G,Tk,FL,PL,N⟩
theorem vX.room (N:vX K t H n ls ps dx fs R F Pd G Tk FL PL) {l:aD} (hl:l∈ls):cj (fM ls) (Sum.inr l.name)=some (.int l.room):=
 jt (by rw [wg];exact gH N.fit.whole.nod) (mem_map.mpr ⟨l,hl,rfl⟩)
theorem vX.firstV (N:vX K t H n ls ps dx fs R F Pd G Tk FL PL) {q:aD×Addr} (hq:q∈FL):cj (bO FL) (Sum.inr q.1.name)=some (.ref q.2):=
 jt (by rw [uA,N.fls];exact gH N.fit.whole.nod) (mem_map.mpr ⟨q,hq,rfl⟩)
theorem vX.partV (N:vX K t H n ls ps dx fs R F Pd G Tk FL PL) {q:PD×Addr} (hq:q∈PL):cj (fH PL) (Sum.inr q.1.name)=some (.ref q.2):=
 jt (by rw [CN,N.pls];exact gH N.fit.pnd) (mem_map.mpr ⟨q,hq,rfl⟩)
theorem vX.ono (N:vX K t H n ls ps dx fs R F Pd G Tk FL PL):(ps.flatMap (·.outs)).Nodup:=N.fit.whole.outs.nodup_iff.mpr N.fit.whole.nod
theorem vX.ini (N:vX K t H n ls ps dx fs R F Pd G Tk FL PL):(ps.flatMap (·.ins)).Nodup:=N.fit.whole.ins.nodup_iff.mpr N.fit.whole.nod
end
theorem Ff {α:Type} {f:α->Str} {xs:List α} {x:Str}:inV (.str x) (xs.map λp=>V.str (f p))=decide (x∈xs.map f):=by
 rw [Bool.eq_iff_iff];unfold inV;rw [any_eq_true,decide_eq_true_eq];constructor
 ·rintro⟨v,hv,e⟩;obtain⟨p,hp,rfl⟩:=mem_map.mp hv;exact mem_map.mpr ⟨p,hp,by simpa [Nz] using e⟩
 ·intro h;obtain⟨p,hp,rfl⟩:=mem_map.mp h;exact⟨.str (f p),mem_map.mpr ⟨p,hp,Y⟩,by simp [Nz]⟩
noncomputable def cZ (ps:List PD) (x:Str):List V:=(ps.filter λp=>decide (fD p.kind=x)).map λp=>V.str p.name
theorem Rg (ps:List PD) (x:Str) (p:PD):cZ (ps ++ [p]) x=if fD p.kind=x then cZ ps x ++ [V.str p.name] else cZ ps x:=by
 unfold cZ;rw [filter_append,map_append];by_cases h:fD p.kind=x
 ·rw [if_pos h];simp [h]
 ·rw [if_neg h];simp [h]
theorem zZ (ps:List PD) (x:Str):(cZ ps x).length<=ps.length:=by unfold cZ;rw [lM];exact length_filter_le _ _
noncomputable def aby (p:PD):Bool:=decide (fD p.kind= "choose") || decide (fD p.kind= "split")
noncomputable def oddN (ps:List PD):V:=match ps.find? aby with
 | some p=>.str p.name
 | none=>.non
inductive MN (K:Fr) (H:Hp) (v:V) (l:aD):Prop where
 | mk:∀q f,v=.ref q->H q=some (.tup [.str l.name,.int l.room,.ref f])->fZ K H f (l.first.map V.int)->MN K H v l
inductive Mz (K:Fr) (H:Hp) (v:V) (p:PD):Prop where
 | mk:∀q a1 a2 a3,v=.ref q->H q=some (.tup [.str (fD p.kind),.str p.name,.ref a1,.ref a2,.ref a3])->fZ K H a1 (p.nums.map V.int)->fZ K H a2 (p.ins.map V.str)->fZ K H a3 (p.outs.map V.str)->Mz K H v p
theorem MN.same {H H':Hp} {v:V} {l:aD} (h:MN K H v l) (s:aJ H H'):MN K H' v l:=by obtain⟨q,f,e,h1,h2⟩:=h;exact⟨q,f,e,s _ _ h1,s.seqT h2⟩
theorem Mz.same {H H':Hp} {v:V} {p:PD} (h:Mz K H v p) (s:aJ H H'):Mz K H' v p:=by obtain⟨q,a1,a2,a3,e,h1,h2,h3,h4⟩:=h;exact⟨q,a1,a2,a3,e,s _ _ h1,s.seqT h2,s.seqT h3,s.seqT h4⟩
structure Og (K:Fr) (H:Hp) (T a b:Addr) (ls:List aD) (ps:List PD):Prop where
 tup:H T=some (.tup [.ref a,.ref b])
 lanes:∃xs,H a=some (.lst xs)/\j4 (MN K H) xs ls
 parts:∃xs,H b=some (.lst xs)/\j4 (Mz K H) xs ps
theorem Og.same {H H':Hp} {T a b:Addr} {ls:List aD} {ps:List PD} (h:Og K H T a b ls ps) (s:aJ H H'):Og K H' T a b ls ps:=by obtain⟨h1,⟨xs,e1,a1⟩,⟨ys,e2,a2⟩⟩:=h;exact⟨s _ _ h1,⟨xs,s _ _ e1,a1.imp λ_ _ h=>h.same s⟩,⟨ys,s _ _ e2,a2.imp λ_ _ h=>h.same s⟩⟩
structure Tr (H:Hp) (f:Addr) (L:List (Addr×HO)) (Hk:Hp):Prop where
 but:nW f H Hk
 all:∀p∈L,Hk p.1=some p.2
 fre:∀p∈L,p.1=f∨H p.1=none
 nod:(L.map Prod.fst).Nodup
 obj:∃o,(f,o)∈L
theorem Tr.free {H Hk:Hp} {f x:Addr} {L:List (Addr×HO)} (T:Tr H f L Hk) (nx:Hk x=none):H x=none:=by
 cases e:H x with
 | none=>rfl
 | some o=>
  by_cases h:x=f
  ·obtain⟨u,hu⟩:=T.obj;have:=T.all _ hu;rw [h] at nx;rw [nx] at this;cases this
  ·rw [T.but x o h e] at nx;cases nx
theorem Tr.new {H Hk:Hp} {f x:Addr} {L:List (Addr×HO)} {o:HO} (T:Tr H f L Hk) (nx:Hk x=none):Tr H f (L ++ [(x,o)]) (upd Hk x o):=by
 have hne:∀p∈L,p.1≠x:=λp hp z=>by have:=T.all p hp;rw [z,nx] at this;cases this
 have hx:=T.free nx;refine⟨λb u n e=>by rw [aK (aF e hx)];exact T.but b u n e,λp hp=>?_,λp hp=>?_,?_,?_⟩
 ·rcases mem_append.mp hp with h | h
  ·rw [aK (hne p h)];exact T.all p h
  ·rw [mem_singleton] at h;subst h;exact ao
 ·rcases mem_append.mp hp with h | h
  ·exact T.fre p h
  ·rw [mem_singleton] at h;subst h;exact .inr hx
 ·rw [map_append,nodup_append];refine⟨T.nod,by simp,λa ha b hb=>?_⟩;obtain⟨p,hp,rfl⟩:=mem_map.mp ha;simp at hb;subst hb;exact hne p hp
 ·obtain⟨u,hu⟩:=T.obj;exact⟨u,mem_append.mpr (.inl hu)⟩
theorem Tr.same {H Hk Hk':Hp} {f:Addr} {L:List (Addr×HO)} (T:Tr H f L Hk) (s:aJ Hk Hk'):Tr H f L Hk':=
 ⟨λb u n e=>s _ _ (T.but b u n e),λp hp=>s _ _ (T.all p hp),T.fre,T.nod,T.obj⟩
theorem Tr.put {H Hk:Hp} {f x:Addr} {o o':HO} {L1 L2:List (Addr×HO)} (T:Tr H f (L1 ++ (x,o):: L2) Hk):Tr H f (L1 ++ (x,o'):: L2) (upd Hk x o'):=by
 have hx:x=f∨H x=none:=T.fre (x,o) (by simp);have nd:=T.nod;rw [map_append,map_cons,nodup_append] at nd;obtain⟨n1,n2,n3⟩:=nd;rw [nodup_cons] at n2;refine⟨λb u n e=>?_,λp hp=>?_,λp hp=>?_,?_,?_⟩
 ·have:b≠x:=by
   rcases hx with rfl | hx
   ·exact n
   ·exact aF e hx
  rw [aK this];exact T.but b u n e
 ·rcases mem_append.mp hp with h | h
  ·have:p.1≠x:=n3 p.1 (mem_map.mpr ⟨p,h,rfl⟩) x (by simp);rw [aK this];exact T.all p (by simp [h])
  ·rcases mem_cons.mp h with rfl | h
   ·exact ao
   ·have:p.1≠x:=λz=>n2.1 (by rw [<-z];exact mem_map.mpr ⟨p,h,rfl⟩);rw [aK this];exact T.all p (by simp [h])
 ·rcases mem_append.mp hp with h | h
  ·exact T.fre p (by simp [h])
  ·rcases mem_cons.mp h with rfl | h
   ·exact hx
   ·exact T.fre p (by simp [h])
 ·have:=T.nod;rw [map_append,map_cons] at this ⊢;exact this
 ·obtain⟨u,hu⟩:=T.obj;rcases mem_append.mp hu with h | h
  ·exact⟨u,by simp [h]⟩
  ·rcases mem_cons.mp h with h | h
   ·cases h;exact⟨o',by simp⟩
   ·exact⟨u,by simp [h]⟩
theorem Tr.start {H:Hp} {f:Addr} {o:HO} (e:H f=some o):Tr H f [(f,o)] H:=⟨nW.refl _,λp hp=>by rw [mem_singleton] at hp;subst hp;exact e,λp hp=>by rw [mem_singleton] at hp;subst hp;exact .inl rfl,by simp,o,by simp⟩
inductive zL (K:Fr) (H:Hp) (v:V) (l:aD):Prop where
 | mk:∀q f,v=.ref q->H q=some (.tup [.str l.name,.int l.room,.ref f])->zp K H f (l.first.map V.int)->zL K H v l
inductive aat (K:Fr) (H:Hp) (v:V) (p:PD):Prop where
 | mk:∀q a1 a2 a3,v=.ref q->H q=some (.tup [.str (fD p.kind),.str p.name,.ref a1,.ref a2,.ref a3])->zp K H a1 (p.nums.map V.int)->zp K H a2 (p.ins.map V.str)->zp K H a3 (p.outs.map V.str)->aat K H v p
structure Hand (K:Fr) (H:Hp) (Ll Lp:Addr) (ls:List aD) (ps:List PD):Prop where
 ll:∃xs,bJ K H Ll xs/\j4 (zL K H) xs ls
 lp:∃xs,bJ K H Lp xs/\j4 (aat K H) xs ps
theorem oG {α:Type} {f:α->Str} {xs:List α} (nd:(xs.map f).Nodup) {j:Nat} {x:α} (h:xs[j]?=some x):f x∉(xs.take j).map f:=λhm=>by
 have hj:=(List.getElem?_eq_some_iff.mp h).1;have e:xs[j]=x:=(List.getElem?_eq_some_iff.mp h).2;rw [map_take] at hm;obtain⟨i,hi,ei⟩:=mem_iff_getElem.mp hm;rw [length_take,lM] at hi;rw [List.getElem_take] at ei;have e2:(xs.map f)[j]'(by rw [lM];exact hj)=f x:=by rw [List.getElem_map,e]
 have:=(getElem_inj nd).mp (ei.trans e2.symm);omega
theorem QT {f:PD->List Str} {ps:List PD} (nd:(ps.flatMap f).Nodup) {j:Nat} {p:PD} (h:ps[j]?=some p):(f p).Nodup/\∀z∈f p,z∉(ps.take j).flatMap f:=by
 have hj:=(List.getElem?_eq_some_iff.mp h).1;have e:ps[j]=p:=(List.getElem?_eq_some_iff.mp h).2;have e2:ps=ps.take j ++ p:: ps.drop (j+1):=by rw [<-e,<-drop_eq_getElem_cons hj,take_append_drop]
 rw [e2,List.flatMap_append,flatMap_cons,nodup_append] at nd;obtain⟨n1,n2,n3⟩:=nd;rw [nodup_append] at n2;exact⟨n2.1,λz hz hm=>n3 z hm z (mem_append.mpr (.inl hz)) Y⟩
inductive Pb (K:Fr) (t:jq) (H H':Hp) (n:Addr) (ls:List aD) (ps:List PD):Prop where
 | mk:∀dx fs R F Pd G Tk FL PL,vX K t H' n ls ps dx fs R F Pd G Tk FL PL->(∀a∈[R,F,Pd,G,Tk],H a=none)->Pb K t H H' n ls ps
theorem Pb.s {H H':Hp} {n:Addr} {ls:List aD} {ps:List PD} (N:Pb K t H H' n ls ps):eG K t H' n ls ps:=by obtain⟨dx,fs,R,F,Pd,G,Tk,FL,PL,N,_⟩:=N;exact N.s
theorem Pb.cut {H H':Hp} {n:Addr} {ls:List aD} {ps:List PD} {E:List Addr} (N:Pb K t H H' n ls ps) (hE:∀a∈E,(∃o,H a=some o)/\((∃k,H' a=some (.dK k))∨∃x,H' a=some (.lst x))):eG K t (aQ E H') n ls ps:=by
 obtain⟨dx,fs,R,F,Pd,G,Tk,FL,PL,N,nw⟩:=N;have g1:∀{a:Addr} {o:HO},H' a=some o->(∀k,o≠.dK k)->(∀x,o≠.lst x)->aQ E H' a=some o:=λ{a o} e h1 h2=>bL e λz=>by
  rcases(hE a z).2 with ⟨k,e'⟩ | ⟨k,e'⟩ <;> rw [e] at e'
  ·exact h1 _ (Option.some.inj e')
  ·exact h2 _ (Option.some.inj e')
 have g2:∀{a:Addr} {o:HO},H' a=some o->a∈[R,F,Pd,G,Tk]->aQ E H' a=some o:=λ{a o} e h=>bL e λz=>by obtain⟨u,e'⟩:=(hE a z).1;rw [nw a h] at e';cases e'
 have g3:∀{a:Addr} {xs:List V},fZ K H' a xs->fZ K (aQ E H') a xs:=λh=>by
  rcases h with (h | ⟨o,h⟩) | h
  ·exact .inl (.inl (g1 h (by intro _ z;cases z) (by intro _ z;cases z)))
  ·exact .inl (.inr ⟨o,g1 h (by intro _ z;cases z) (by intro _ z;cases z)⟩)
  ·exact .inr h
 refine⟨dx,fs,R,F,Pd,G,Tk,FL,PL,g1 N.obj (by intro _ z;cases z) (by intro _ z;cases z),N.fl,g2 N.rooms (by simp),g2 N.firsts (by simp),g2 N.parts (by simp),g2 N.givers (by simp),g2 N.takers (by simp),N.fls,N.pls,λq hq=>g3 (N.tups q hq),λq hq=>?_,N.fit,N.neRF⟩;obtain⟨dx',tn,ti,to,h1,h2,h3,h4⟩:=N.pats q hq;exact⟨dx',tn,ti,to,g1 h1 (by intro _ z;cases z) (by intro _ z;cases z),g3 h2,g3 h3,g3 h4⟩
theorem Mf (xs:List V) (g:Nat):wk xs (some (g:Int)) none=xs.drop g:=by
 unfold wk;rw [HT.yW,HT.xO,<-length_drop,take_length];rcases le_total g xs.length with h | h
 ·rw [Nat.min_eq_left h]
 ·rw [Nat.min_eq_right h,List.drop_eq_nil_of_le h,List.drop_eq_nil_of_le (le_refl _)]
structure qb (K:Fr) (t:jq) (H:Hp) (f n E G Kp D Rw:Addr):Prop where
 ex:∃dx fs,H f=some (.ins t.cC dx fs)/\Wy ["holds", "held_now", "gone_by", "row_left", "head", "heads", "lacking", "row_ended", "deed", "do"] [("net",.ref n),("ever",.ref E),("gone",.ref G),("kept",.ref Kp),("done",.ref D),("rows",.ref Rw)] fs
theorem qb.same {H H':Hp} {f n E G Kp D Rw:Addr} (h:qb K t H f n E G Kp D Rw) (s:aJ H H'):qb K t H' f n E G Kp D Rw:=by obtain⟨dx,fs,h1,h2⟩:=h;exact⟨dx,fs,s _ _ h1,h2⟩
noncomputable def cz (i:Nat) (xs:List Str) (hs:List V):V:=match (places i hs).find? (lA hs) with
 | some q=>((xs[q]?).map V.str).getD .non
 | none=>.non
theorem j5 {H:Hp}:∀{rs:List Addr} {vss:List (List V)} {j:Nat} {r:Addr},dw H rs vss->rs[j]?=some r->∃vs,vss[j]?=some vs/\H r=some (.tup vs)
 | _,_,_,_,.nil,e=>by simp at e
 | _,_,0,_,.cons h _,e=>by simp at e;subst e;exact⟨_,rfl,h⟩
 | _,_,j+1,_,.cons _ t,e=>by obtain⟨vs,h1,h2⟩:=j5 (j:=j) t (by simpa using e);exact⟨vs,by simpa using h1,h2⟩
theorem places_len {i:Nat} {hs:List V} (h:yZ i hs):(places i hs).length<=3:=by
 have h3:=Ih i;have h1:=h.1;unfold places;by_cases hi:i=9
 ·rw [if_pos hi];split <;> simp
 ·rw [if_neg hi,length_range];omega
theorem Tr.got {H Hk Hk':Hp} {f x:Addr} {L:List (Addr×HO)} {o:HO} (T:Tr H f L Hk) (s:aJ Hk Hk') (nx:Hk x=none) (ex:Hk' x=some o):Tr H f (L ++ [(x,o)]) Hk':=by
 have T':=T.same s;have hx:=T.free nx;refine⟨T'.but,λp hp=>?_,λp hp=>?_,?_,?_⟩
 ·rcases mem_append.mp hp with h | h
  ·exact T'.all p h
  ·rw [mem_singleton] at h;subst h;exact ex
 ·rcases mem_append.mp hp with h | h
  ·exact T.fre p h
  ·rw [mem_singleton] at h;subst h;exact .inr hx
 ·rw [map_append,nodup_append];refine⟨T.nod,by simp,λa ha b hb z=>?_⟩;obtain⟨p,hp,rfl⟩:=mem_map.mp ha;simp at hb;have:=T.all p hp;rw [z,hb,nx] at this;cases this
 ·obtain⟨u,hu⟩:=T.obj;exact⟨u,mem_append.mpr (.inl hu)⟩
theorem Iv {α:Type} {a b c d e f g x:α} {M:List α} (h:x∈M):x∈a:: b:: c:: d:: e:: f:: g:: M:=by simp [h]
theorem Tr.perm {H Hk:Hp} {f:Addr} {L L':List (Addr×HO)} (T:Tr H f L Hk) (h:L.Perm L'):Tr H f L' Hk:=
 ⟨T.but,λp hp=>T.all p (h.mem_iff.mpr hp),λp hp=>T.fre p (h.mem_iff.mpr hp),(h.map _).nodup_iff.mp T.nod,by obtain⟨o,ho⟩:=T.obj;exact⟨o,h.mem_iff.mp ho⟩⟩
theorem Tr.sub {H Hk:Hp} {f:Addr} {L L':List (Addr×HO)} (T:Tr H f L Hk) (h:L'.Sublist L) (hf:∃o,(f,o)∈L'):Tr H f L' Hk:=
 ⟨T.but,λp hp=>T.all p (h.subset hp),λp hp=>T.fre p (h.subset hp),T.nod.sublist (h.map _),hf⟩
noncomputable def lQ (EL:List (aD×Addr)):List (Addr×HO):=EL.map λq=>(q.2,HO.lst (q.1.first.map V.int))
noncomputable def dJ (g:Str->Nat) (ls:List aD):List (Key×V):=ls.map λl=>((Sum.inr l.name:Key),V.int (g l.name:Nat))
noncomputable def cD (k:Str->Int) (ps:List PD):List (Key×V):=ps.map λp=>((Sum.inr p.name:Key),V.int (k p.name))
theorem Gi (g:Str->Nat) (ls:List aD):(dJ g ls).map (·.1)=(ls.map (·.name)).map (λx=>(Sum.inr x:Key)):=by unfold dJ;rw [map_map,map_map];rfl
theorem GX (k:Str->Int) (ps:List PD):(cD k ps).map (·.1)=(ps.map (·.name)).map (λx=>(Sum.inr x:Key)):=by unfold cD;rw [map_map,map_map];rfl
noncomputable def fL (ps:List PD) (x:Str):Int:=((ps.find? λp=>decide (p.name=x)).map λp=>if p.kind=5 then p.nums.headD 0 else 0).getD 0
noncomputable def Bb (p:PD):Int:=if p.kind=5 then p.nums.headD 0 else 0
theorem find_name {α:Type} {f:α->Str}:∀{ls:List α} (_:(ls.map f).Nodup) {l:α} (_:l∈ls),ls.find? (λx=>decide (f x=f l))=some l
 | a:: r,nd,l,hl=>by
  rw [map_cons,nodup_cons] at nd;rcases mem_cons.mp hl with rfl | h
  ·rw [find?_cons_of_pos (by simp)]
  ·have:¬f a=f l:=λz=>nd.1 (by rw [z];exact mem_map.mpr ⟨l,h,rfl⟩);rw [find?_cons_of_neg (by simp [this])];exact find_name nd.2 h
theorem lN.inL {ls:List aD} {ps:List PD} (F:lN ls ps) {p:PD} (hp:p∈ps) {x:Str} (hx:x∈p.ins ++ p.outs):∃l∈ls,l.name=x:=by
 rcases mem_append.mp hx with h | h
 ·exact mem_map.mp (F.whole.ins.mem_iff.mp (mem_flatMap.mpr ⟨p,hp,h⟩))
 ·exact mem_map.mp (F.whole.outs.mem_iff.mp (mem_flatMap.mpr ⟨p,hp,h⟩))
theorem yH {α β:Type} {f:α->β}:∀{l:List α},(l.map f).Nodup->∀{a b:α},a∈l->b∈l->f a=f b->a=b
 | x:: r,nd,a,b,ha,hb,e=>by
  rw [map_cons,nodup_cons] at nd;rcases mem_cons.mp ha with h1 | h1
  ·rcases mem_cons.mp hb with h2 | h2
   ·rw [h1,h2]
   ·exact absurd (mem_map.mpr ⟨b,h2,by rw [<-e,h1]⟩) nd.1
  ·rcases mem_cons.mp hb with h2 | h2
   ·exact absurd (mem_map.mpr ⟨a,h1,by rw [e,h2]⟩) nd.1
   ·exact yH nd.2 h1 h2 e
noncomputable def Zk:V->Int
 | .int n=>n
 | _=>0
structure FS where
 ev:Str->List Int
 g:Str->Nat
 k:Str->Int
 d:Str->Nat
 r:Str->List Int
structure jC where
 (f n E G Kp D Rw:Addr)
 (ea ra:Str->Addr)
noncomputable def gB (ps:List PD):List PD:=ps.filter λp=>decide (p.kind=0)
noncomputable def V8 (ea:Str->Addr) (ls:List aD):List (Key×V):=ls.map λl=>((Sum.inr l.name:Key),V.ref (ea l.name))
noncomputable def Br (ra:Str->Addr) (ps:List PD):List (Key×V):=(gB ps).map λp=>((Sum.inr p.name:Key),V.ref (ra p.name))
noncomputable def jC.cells (A:jC) (ls:List aD) (ps:List PD):List Addr:=A.E:: A.G:: A.Kp:: A.D:: A.Rw:: (ls.map (λl=>A.ea l.name) ++ (gB ps).map (λp=>A.ra p.name))
structure dU (K:Fr) (t:jq) (H:Hp) (A:jC) (ls:List aD) (ps:List PD) (S:FS):Prop where
 at':qb K t H A.f A.n A.E A.G A.Kp A.D A.Rw
 ever:H A.E=some (.dK (V8 A.ea ls))
 lists:∀l∈ls,H (A.ea l.name)=some (.lst ((S.ev l.name).map V.int))
 gone:H A.G=some (.dK (dJ S.g ls))
 kept:H A.Kp=some (.dK (cD S.k ps))
 done:H A.D=some (.dK (cD (λx=>(S.d x:Int)) ps))
 rows:H A.Rw=some (.dK (Br A.ra ps))
 rlst:∀p∈ps,p.kind=0->H (A.ra p.name)=some (.lst ((S.r p.name).map V.int))
 nod:(A.cells ls ps).Nodup
theorem dU.same {H H':Hp} {A:jC} {ls:List aD} {ps:List PD} {S:FS} (h:dU K t H A ls ps S) (s:aJ H H'):dU K t H' A ls ps S:=
 ⟨h.at'.same s,s _ _ h.ever,λl hl=>s _ _ (h.lists l hl),s _ _ h.gone,s _ _ h.kept,s _ _ h.done,s _ _ h.rows,λp hp h0=>s _ _ (h.rlst p hp h0),h.nod⟩
structure yF (b:Nat) (ls:List aD) (ps:List PD) (S:FS):Prop where
 vb:∀l∈ls,∀v∈S.ev l.name,0<=v/\v <1000000000
 rb:∀p∈ps,p.kind=0->∀v∈S.r p.name,0<=v/\v <1000000000
 dl:∀p∈ps,p.kind=0->S.d p.name<=(S.r p.name).length
 len:∀l∈ls,(S.ev l.name).length<=b
 rl:∀p∈ps,p.kind=0->(S.r p.name).length<=300
theorem Um (ea:Str->Addr) (ls:List aD):(V8 ea ls).map (·.1)=(ls.map (·.name)).map (λx=>(Sum.inr x:Key)):=by unfold V8;rw [map_map,map_map];rfl
theorem zM {ea:Str->Addr} {ls:List aD} (nd:(ls.map (·.name)).Nodup) {l:aD} (hl:l∈ls):cj (V8 ea ls) (Sum.inr l.name)=some (.ref (ea l.name)):=
 jt (by rw [Um];exact gH nd) (mem_map.mpr ⟨l,hl,rfl⟩)
theorem tQ {g:Str->Nat} {ls:List aD} (nd:(ls.map (·.name)).Nodup) {l:aD} (hl:l∈ls):cj (dJ g ls) (Sum.inr l.name)=some (.int (g l.name:Nat)):=
 jt (by rw [Gi];exact gH nd) (mem_map.mpr ⟨l,hl,rfl⟩)
theorem lV {k:Str->Int} {ps:List PD} (nd:(ps.map (·.name)).Nodup) {p:PD} (hp:p∈ps):cj (cD k ps) (Sum.inr p.name)=some (.int (k p.name)):=
 jt (by rw [GX];exact gH nd) (mem_map.mpr ⟨p,hp,rfl⟩)
theorem Ig (ra:Str->Addr) (ps:List PD):(Br ra ps).map (·.1)=((gB ps).map (·.name)).map (λx=>(Sum.inr x:Key)):=by unfold Br;rw [map_map,map_map];rfl
theorem Ea {ps:List PD} (nd:(ps.map (·.name)).Nodup):((gB ps).map (·.name)).Nodup:=nd.sublist (filter_sublist.map _)
theorem sZ {ra:Str->Addr} {ps:List PD} (nd:(ps.map (·.name)).Nodup) {p:PD} (hp:p∈ps) (h0:p.kind=0):cj (Br ra ps) (Sum.inr p.name)=some (.ref (ra p.name)):=
 jt (by rw [Ig];exact gH (Ea nd)) (mem_map.mpr ⟨p,mem_filter.mpr ⟨hp,by simp [h0]⟩,rfl⟩)
theorem Jw {ra:Str->Addr} {ps:List PD} (nd:(ps.map (·.name)).Nodup) {p:PD} (hp:p∈ps) (h0:p.kind≠0):cj (Br ra ps) (Sum.inr p.name)=none:=by refine jw ?_;rw [Ig];intro z;obtain⟨b,hb,e⟩:=mem_map.mp z;cases e;obtain⟨p',hp',en⟩:=mem_map.mp hb;have hf:=mem_filter.mp hp';have a1:=find_name nd hf.1;have a2:=find_name nd hp;rw [en] at a1;rw [a1] at a2;cases a2;exact h0 (by simpa using hf.2)
noncomputable def fJ (S:FS) (x:Str):V:=(((S.ev x)[S.g x]?).map V.int).getD .non
noncomputable def aN (S:FS) (p:PD):List V:=p.ins.map (fJ S)
structure ji where
 tk:List Str
 gv:List (Str×Int)
 kv:Int
noncomputable def strAt (xs:List Str) (q:Nat):Str:=(xs[q]?).getD Str.empty
noncomputable def vB (S:FS) (p:PD):List Int:=if p.kind=0 then((S.r p.name)[S.d p.name]?).toList else(places p.kind (aN S p)).map λq=>Zk (((aN S p)[q]?).getD .non)
noncomputable def qK (S:FS) (p:PD):Bool:=decide (p.kind=0) && decide (S.d p.name=(S.r p.name).length)
noncomputable def fC (S:FS) (p:PD):Option ji:=if cz p.kind p.ins (aN S p)≠.non then none else if qK S p=true then none else
 some ⟨(places p.kind (aN S p)).map (strAt p.ins),(cQ p.kind p.nums (vB S p) (S.k p.name)).map λpv=>(strAt p.outs pv.1.toNat,pv.2),fW p.kind (vB S p) (S.k p.name)⟩
inductive ph (M:List Addr) (H:Hp) (U:Addr) (dd:ji):Prop where
 | mk:∀La Lg rs,H U=some (.tup [.ref La,.ref Lg,.int dd.kv])->H La=some (.lst (dd.tk.map V.str))->H Lg=some (.lst (rs.map V.ref))->(dw H rs (dd.gv.map λq=>[.str q.1,.int q.2]))->La∉M->Lg∉M->ph M H U dd
theorem ph.same {M:List Addr} {H H':Hp} {U:Addr} {dd:ji} (h:ph M H U dd) (s:aJ H H'):ph M H' U dd:=by obtain⟨La,Lg,rs,a,b,c,d,e,f⟩:=h;exact⟨La,Lg,rs,s _ _ a,s _ _ b,s _ _ c,dw.same s d,e,f⟩
theorem wj (S:FS) (p:PD) (h:qy p):yZ p.kind (aN S p):=by
 refine⟨by unfold aN;rw [lM];exact h.2.2.1,λv hv=>?_⟩;obtain⟨x,_,rfl⟩:=mem_map.mp hv;unfold fJ;cases (S.ev x)[S.g x]? with
 | none=>exact .inl rfl
 | some n=>exact .inr ⟨n,rfl⟩
theorem dU.cell {H:Hp} {A:jC} {ls:List aD} {ps:List PD} {S:FS} (h:dU K t H A ls ps S) {a:Addr} (ha:H a=none):a∉A.cells ls ps:=by
 intro z;have no:∀{b:Addr} {u:HO},H b=some u->a=b->False:=λe q=>by rw [<-q,ha] at e;cases e
 unfold jC.cells at z;simp only [mem_cons,mem_append,mem_map] at z;rcases z with z | z | z | z | z | ⟨l,hl,z⟩ | ⟨p,hp,z⟩
 ·exact no h.ever z
 ·exact no h.gone z
 ·exact no h.kept z
 ·exact no h.done z
 ·exact no h.rows z
 ·exact no (h.lists l hl) z.symm
 ·have hf:=mem_filter.mp hp;exact no (h.rlst p hf.1 (by simpa using hf.2)) z.symm
noncomputable def nY (t:jq) (H:Hp) (r n f:Addr) (k:Nat):Prop:=∃dx fs,(H r=some (.ins t.nQ dx fs)/\fs.length<=k+3)/\Wy ["step", "need_doors", "next_deed", "full_lane", "can_work", "works", "lane_now", "turn", "rows_left", "part_now", "net_now"] [("net",.ref n),("flow",.ref f),("turns",.int (k:Nat))] fs
theorem nY.same {H H':Hp} {r n f:Addr} {k:Nat} (h:nY t H r n f k) (s:aJ H H'):nY t H' r n f k:=by obtain⟨dx,fs,h1,h2⟩:=h;exact⟨dx,fs,⟨s _ _ h1.1,h1.2⟩,h2⟩
theorem tO {f:PD->List Str}:∀{ps:List PD},(ps.flatMap f).Nodup->∀{p q:PD},p∈ps->q∈ps->∀{x:Str},x∈f p->x∈f q->p=q
 | a:: r,nd,p,q,hp,hq,x,h1,h2=>by
  rw [flatMap_cons,nodup_append] at nd;rcases mem_cons.mp hp with e1 | e1
  ·rcases mem_cons.mp hq with e2 | e2
   ·rw [e1,e2]
   ·rw [e1] at h1;exact absurd Y (nd.2.2 x h1 x (mem_flatMap.mpr ⟨q,e2,h2⟩))
  ·rcases mem_cons.mp hq with e2 | e2
   ·rw [e2] at h2;exact absurd Y (nd.2.2 x h2 x (mem_flatMap.mpr ⟨p,e1,h1⟩))
   ·exact tO nd.2.1 e1 e2 h1 h2
noncomputable def BP:Option Str->V
 | some y=>.str y
 | none=>.non
inductive Wk (f:Str->Option (Option Str)) (x:Str):List Str->Option Str->Prop
 | start:Wk f x [] (some x)
 | step {seen:List Str} {a:Str} {b:Option Str}:Wk f x seen (some a)->f a=some b->a∉seen->Wk f x (seen ++ [a]) b
noncomputable def CT (f:Str->Option (Option Str)) (s:List Str×Option Str):List Str×Option Str:=match s.2 with
 | none=>s
 | some a=>match f a with
  | none=>s
  | some b=>if a∈s.1 then s else(s.1 ++ [a],b)
noncomputable def Ey (f:Str->Option (Option Str)):Nat->List Str×Option Str->List Str×Option Str
 | 0,s=>s
 | n+1,s=>Ey f n (CT f s)
theorem xx (f:Str->Option (Option Str)):∀(n m:Nat) (s:List Str×Option Str),Ey f (n+m) s=Ey f m (Ey f n s)
 | 0,m,s=>by rw [Nat.zero_add];rfl
 | n+1,m,s=>by rw [show n+1+m=(n+m)+1 by omega];exact xx f n m (CT f s)
theorem Bu {f:Str->Option (Option Str)} {s:List Str×Option Str} (h:CT f s=s):∀n,Ey f n s=s
 | 0=>rfl
 | n+1=>by show Ey f n (CT f s)=s;rw [h];exact Bu h n
theorem Wk.iter {f:Str->Option (Option Str)} {x:Str} {seen:List Str} {a:Option Str} (h:Wk f x seen a):∃n,Ey f n ([],some x)=(seen,a):=by
 induction h with
 | start=>exact⟨0,rfl⟩
 | @step seen a b _ e hn ih=>
  obtain⟨n,ih⟩:=ih;refine⟨n+1,?_⟩;rw [xx,ih];show CT f (seen,some a)=_;unfold CT;dsimp only;rw [e];exact if_neg hn
noncomputable def StopW (f:Str->Option (Option Str)) (seen:List Str) (a:Option Str):Prop:=∀y,a=some y->f y=none∨y∈seen
theorem StopW.fix {f:Str->Option (Option Str)} {seen:List Str} {a:Option Str} (h:StopW f seen a):CT f (seen,a)=(seen,a):=by
 unfold CT;cases a with
 | none=>rfl
 | some y=>
  dsimp only;cases e:f y with
  | none=>rfl
  | some b=>exact if_pos ((h y rfl).resolve_left (by rw [e];intro z;cases z))
theorem Wk.one {f:Str->Option (Option Str)} {x:Str} {s1 s2:List Str} {a1 a2:Option Str} (h1:Wk f x s1 a1) (e1:StopW f s1 a1) (h2:Wk f x s2 a2) (e2:StopW f s2 a2):s1=s2/\a1=a2:=by
 obtain⟨n,i1⟩:=h1.iter;obtain⟨m,i2⟩:=h2.iter;have:(s1,a1)=(s2,a2):=by
  rcases le_total n m with h | h
  ·obtain⟨k,rfl⟩:=Nat.le.dest h;rw [xx,i1,Bu e1.fix] at i2;exact i2
  ·obtain⟨k,rfl⟩:=Nat.le.dest h;rw [xx,i2,Bu e2.fix] at i1;exact i1.symm
 exact⟨congrArg Prod.fst this,congrArg Prod.snd this⟩
theorem Wk.nd {f:Str->Option (Option Str)} {x:Str} {s:List Str} {a:Option Str} (h:Wk f x s a):s.Nodup/\∀y∈s,(f y).isSome=true:=by
 induction h with
 | start=>simp
 | @step seen a b _ e hn ih=>
  refine⟨?_,λy hy=>?_⟩
  ·rw [nodup_append];exact⟨ih.1,by simp,λy hy z hz q=>hn (by rw [mem_singleton] at hz;rw [<-hz,<-q];exact hy)⟩
  ·rcases mem_append.mp hy with h | h
   ·exact ih.2 y h
   ·rw [mem_singleton.mp h,e];rfl
noncomputable def Io (s:List Str):Option Str->List Str
 | some a=>if a∈s then s.drop (s.idxOf a) else []
 | none=>[]
inductive rA (f:Str->Option (Option Str)) (x:Str) (r:List Str):Prop where
 | mk:∀s a,Wk f x s a->StopW f s a->r=Io s a->rA f x r
theorem rA.one {f:Str->Option (Option Str)} {x:Str} {r r':List Str} (h:rA f x r) (h':rA f x r'):r=r':=by obtain⟨s,a,w,e,rfl⟩:=h;obtain⟨s',a',w',e',rfl⟩:=h';obtain⟨rfl,rfl⟩:=w.one e w' e';rfl
theorem VP {s:List Str} {a:Option Str} (h:s.Nodup):(Io s a).Nodup/\∀y∈Io s a,y∈s:=by
 unfold Io;split
 ·split
  ·exact⟨h.sublist (List.drop_sublist _ _),λy hy=>mem_of_mem_drop hy⟩
  ·simp
 ·simp
theorem rA.nd {f:Str->Option (Option Str)} {x:Str} {r:List Str} (h:rA f x r):r.Nodup/\∀y∈r,(f y).isSome=true:=by obtain⟨s,a,w,e,rfl⟩:=h;obtain⟨n1,n2⟩:=w.nd;obtain⟨m1,m2⟩:=VP (a:=a) n1;exact⟨m1,λy hy=>n2 y (m2 y hy)⟩
noncomputable def qH (ps:List PD) (w:Str×Str×Str):Option Str:=if w.2.2= "value" then(ps.find? λp=>decide (w.2.1∈p.outs)).map (·.name) else if w.2.2= "room" then(ps.find? λp=>decide (w.2.1∈p.ins)).map (·.name) else none
noncomputable def Ko (ps:List PD) (wts:List (Str×Str×Str)) (x:Str):Option (Option Str):=(wts.find? λw=>decide (w.1=x)).map (qH ps)
noncomputable def K7 (wts:List (Str×Str×Str)) (x:Str):Str×Str×Str:=(wts.find? λw=>decide (w.1=x)).getD ("", "", "")
noncomputable def yI (r names:List Str):List Str:=match names.find? λy=>decide (y∈r) with
 | some y=>r.drop (r.idxOf y) ++ r.take (r.idxOf y)
 | none=>[]
noncomputable def zX (f:Str->Option (Option Str)) (names:List Str) (wts ws:List (Str×Str×Str)):Prop:=
 (ws=[]/\∀x∈names,rA f x [])∨∃pre x post r,names=pre ++ x:: post/\(∀y∈pre,rA f y [])/\rA f x r/\r≠[]/\ws=(yI r names).map (K7 wts)
theorem zX.one {f:Str->Option (Option Str)} {names:List Str} {wts ws ws':List (Str×Str×Str)} (h:zX f names wts ws) (h':zX f names wts ws'):ws=ws':=by
 rcases h with ⟨rfl,h⟩ | ⟨pre,x,post,r,e,h1,h2,h3,rfl⟩
 ·rcases h' with ⟨rfl,_⟩ | ⟨pre,x,post,r,e,h1,h2,h3,rfl⟩
  ·rfl
  ·exact absurd ((h x (by rw [e];simp)).one h2).symm h3
 ·rcases h' with ⟨rfl,h'⟩ | ⟨pre',x',post',r',e',h1',h2',h3',rfl⟩
  ·exact absurd ((h' x (by rw [e];simp)).one h2).symm h3
  ·have key:pre.length=pre'.length:=by
    rcases Nat.lt_trichotomy pre.length pre'.length with hl | hl | hl
    ·refine absurd ((h1' x ?_).one h2).symm h3;have:(pre' ++ x':: post')[pre.length]?=some x:=by rw [<-e',e,getElem?_append_right (le_refl _),sub_self];rfl
     rw [getElem?_append_left hl] at this;exact mem_of_getElem? this
    ·exact hl
    ·refine absurd ((h1 x' ?_).one h2').symm h3';have:(pre ++ x:: post)[pre'.length]?=some x':=by rw [<-e,e',getElem?_append_right (le_refl _),sub_self];rfl
     rw [getElem?_append_left hl] at this;exact mem_of_getElem? this
   have hx:x=x':=by
    have a1:names[pre.length]?=some x:=by rw [e,getElem?_append_right (le_refl _),sub_self];rfl
    have a2:names[pre.length]?=some x':=by rw [key,e',getElem?_append_right (le_refl _),sub_self];rfl
    rw [a1] at a2;exact Option.some.inj a2
   subst hx;rw [h2.one h2']
structure Gd (n:Nat) (d:PyData):Prop where
 eq:PyData.eqv d d=true
 lay:PyData.canLay0 d=true
 dep:PyData.depth d<=n
theorem Gd.all {n:Nat}:∀{ds:List PyData},(∀d∈ds,Gd n d)->PyData.eqvAll ds ds=true/\PyData.canLayAll0 ds=true/\PyData.depthAll ds<=n
 | [],_=>⟨by simp [PyData.eqvAll],by simp [PyData.canLayAll0],by simp [PyData.depthAll]⟩
 | d:: r,h=>by obtain⟨h1,h2,h3⟩:=Gd.all (ds:=r) λx hx=>h x (mem_cons_of_mem _ hx);have g:=h d mem_cons_self;have g3:=g.dep;refine⟨by simp [PyData.eqvAll,g.eq,h1],by simp [PyData.canLayAll0,g.lay,h2],?_⟩;simp only [PyData.depthAll];omega
theorem Gd.list {n:Nat} {ds:List PyData} (h:∀d∈ds,Gd n d):Gd (n+1) (.list ds):=by obtain⟨h1,h2,h3⟩:=Gd.all h;exact⟨by simp [PyData.eqv,h1],by simp [PyData.canLay0,h2],by simp only [PyData.depth];omega⟩
theorem Gd.tuple {n:Nat} {ds:List PyData} (h:∀d∈ds,Gd n d):Gd (n+1) (.tuple ds):=by obtain⟨h1,h2,h3⟩:=Gd.all h;exact⟨by simp [PyData.eqv,h1],by simp [PyData.canLay0,h2],by simp only [PyData.depth];omega⟩
theorem Gd.int (n:Nat) (i:Int):Gd n (.int i):=⟨by simp [PyData.eqv],by simp [PyData.canLay0],by simp [PyData.depth]⟩
theorem Gd.str (n:Nat) {x:Str} (h:PyData.strOk x=true):Gd n (.str x):=⟨by simp [PyData.eqv],by simp [PyData.canLay0,h],by simp [PyData.depth]⟩
theorem Gd.ints (n:Nat) (ws:List Int):∀d∈ws.map PyData.int,Gd n d:=λd hd=>by obtain⟨i,_,rfl⟩:=mem_map.mp hd;exact .int n i
theorem Gd.strs (n:Nat) {xs:List Str} (h:∀x∈xs,PyData.strOk x=true):∀d∈xs.map PyData.str,Gd n d:=λd hd=>by obtain⟨x,hx,rfl⟩:=mem_map.mp hd;exact .str n (h x hx)
theorem Gd.shaped {n:Nat} {d:PyData} (h:Gd n d) (hn:n<=64):SeqAt.shaped d=true:=by have:=h.dep;unfold SeqAt.shaped;rw [h.lay,decide_eq_true (show d.depth<=64 by omega)];rfl
theorem Qy {z:Str} (h:nameB z=true):PyData.strOk z=true:=by
 have e:∀c∈z.cps.toList,c <0x110000:=λc hc=>by
  unfold nameB at h;split at h
  ·cases h
  ·rename_i c0 r e;rw [e] at hc;simp only [and_eq_true,all_eq_true,Bool.or_eq_true] at h;have:=h.2.2 c hc;unfold low N8 at this;simp only [and_eq_true,decide_eq_true_eq] at this;omega
 unfold PyData.strOk;rw [Array.all_eq_true'];intro c hc;exact decide_eq_true (e c (by simpa using hc))
theorem QM {H:Hp}:∀ws:List Int,Ry K H (ws.map V.int) (ws.map PyData.int)
 | []=>.nil
 | i:: r=>.cons (.int i) (QM r)
theorem PP {H:Hp}:∀xs:List Str,Ry K H (xs.map V.str) (xs.map PyData.str)
 | []=>.nil
 | x:: r=>.cons (.str x) (PP r)
theorem Qw {H:Hp} {p:Addr} {ws:List Int} (h:bJ K H p (ws.map V.int)):Dt K H (.ref p) (.list (ws.map PyData.int)):=.list h (QM ws)
theorem JD {H:Hp} {p:Addr} {xs:List Str} (h:bJ K H p (xs.map V.str)):Dt K H (.ref p) (.list (xs.map PyData.str)):=.list h (PP xs)
theorem Mx (xs:List V) (a b:Nat):wk xs (some (a:Int)) (some (b:Int))=(xs.drop (min a xs.length)).take (min b xs.length - min a xs.length):=by unfold wk;rw [HT.xO,HT.xO]
theorem Wv:∀i,i <11->decide (V.str (fD i)=V.str "give")=decide (i=0):=by decide +kernel
inductive Cz (K:Fr) (vs:List V) (H:Hp) (Q:VK) (E:XK):Prop where
 | mk:∀x Tx b,vs=[x]->tyN K H x Tx->Tx∈qY->decide (Tx= "int")=b->Q (.bl b) H->Cz K vs H Q E
theorem Cu (T:Txt w K mg t):FO P w K mg base 1 t.GP ["thing"] (Cz K):=by
 have sc:=T.uD.sc ["thing"];refine T.uD.F.ok sc ln (λ_ _ _ _ H vs Q E hr h=>?_);obtain⟨x,Tx,b,rfl,ty,hm,rfl,k⟩:=h;refine⟨_,(aA (aM (yP (bB An (by rfl) T.pH mK (aa (pv 0) (aa (DY (by rfl) T.aaQ Zv) ak aj) aj)) (yR (Zq (bB An (by rfl) T.pH mK (aa (pv 0) (aa (DY (by rfl) T.Zm Wj) ak aj) aj))))))),?_⟩;have hm':Tx= "int" ∨Tx= "bool" ∨(Mr Tx "int" =false/\Tx≠ "int"):=by
  simp only [qY,mem_cons,not_mem_nil,or_false] at hm;rcases hm with rfl | rfl | rfl | rfl | rfl | rfl | rfl
  ·exact .inr (.inr (by decide))
  ·exact .inr (.inl Y)
  ·exact .inl Y
  ·exact .inr (.inr (by decide))
  ·exact .inr (.inr (by decide))
  ·exact .inr (.inr (by decide))
  ·exact .inr (.inr (by decide))
 rcases hm' with rfl | rfl | ⟨h1,h2⟩
 ·exact⟨_,Y,x, "int", "int",true,Y,ty,by decide,by decide,true,Y,iy ⟨_,Y,x, "int", "bool",false,Y,ty,by decide,by decide,_,Y,k⟩⟩
 ·exact⟨_,Y,x, "bool", "int",true,Y,ty,by decide,by decide,true,Y,iy ⟨_,Y,x, "bool", "bool",true,Y,ty,by decide,by decide,_,Y,k⟩⟩
 ·rw [decide_eq_false h2] at k;exact⟨_,Y,x,Tx, "int",false,Y,ty,by decide,h1,false,Y,dz k⟩
inductive CJ (K:Fr) (vs:List V) (H:Hp) (Q:VK) (E:XK):Prop where
 | mk:∀x,vs=[x]->(((∃i:Int,x=.int i/\Q (.bl (decide (0<=i) && decide (i <1000000000))) H)∨∃Tx,tyN K H x Tx/\Tx∈qY/\Tx≠ "int" /\Q (.bl false) H))->CJ K vs H Q E
theorem vW (T:Txt w K mg t):FO P w K mg base 2 t.GD ["thing"] (CJ K):=by
 have sc:=T.qL.sc ["thing"];refine T.qL.F.ok sc ln (λ_ _ _ _ H vs Q E hr h=>?_);obtain⟨x,rfl,h⟩:=h;refine⟨_,(aA (aM (yP (dX (Cu T) T.uD hr (aa (pv 0) ak aj)) (yR (Va yz zR au (pv 0) (j0 (by rfl) T.Mt)))))),?_⟩;rcases h with ⟨i,rfl,k⟩ | ⟨Tx,ty,hm,hne,k⟩
 ·refine⟨_,Y,.int i, "int",true,Y,Y,by decide,by decide,true,Y,iy ⟨_,Y,_,_,Y,Y,_,Y,jQ (λh=>?_) (λh=>?_)⟩⟩
  ·have h':0<=i:=of_decide_eq_true h;rw [decide_eq_true h',Bool.true_and] at k;exact⟨_,_,Y,Y,k⟩
  ·have h':¬0<=i:=λz=>h (decide_eq_true z);rw [decide_eq_false h',Bool.false_and] at k;exact k
 ·exact⟨_,Y,x,Tx,false,Y,ty,hm,decide_eq_false hne,false,Y,dz k⟩
inductive tV (K:Fr) (t:jq) (vs:List V) (H:Hp) (Q:VK) (E:XK):Prop where
 | mk:∀(i:Nat) (p dx a1 a2 a3:Addr) (nm:V) (ns is os:List V),vs=[.ref p,nm,.ref a1,.ref a2,.ref a3]->H p=some (.ins (cls t i) dx [])->zp K H a1 ns->zp K H a2 is->zp K H a3 os->(∀H',nW p H H'->fQ K t H' p i nm ns is os->Q .non H')->tV K t vs H Q E
noncomputable abbrev o7:List Str:=["self", "name", "numbers", "ins", "outs"]
theorem bY (T:Txt w K mg t):FO P w K mg base 1 t.bZ o7 (tV K t):=by
 have sc:ir o7 o7 (aZ (inClass (top 33) 0)):=P0;refine T.bf.F.ok sc ln (λ_ _ _ _ H vs Q E hr h=>?_);obtain⟨i,p,dx,a1,a2,a3,nm,ns,is,os,rfl,hp,q1,q2,q3,k⟩:=h;refine⟨_,(aq (jA (pv 0) (pv 1) Y)
  (aq (jA (pv 0) (gf xJ (by rfl) T.DW Ay (aa (pv 2) ak aj)) rfl)
  (aq (jA (pv 0) (gf xJ (by rfl) T.DW Ay (aa (pv 3) ak aj)) rfl)
  (aA (jA (pv 0) (gf xJ (by rfl) T.DW Ay (aa (pv 4) ak aj)) rfl))))),?_⟩
 refine⟨_,Y,_,Y,p,cls t i,dx,[],Y,hp,eN T i,uK T i,by show 0 <1000;decide,?_⟩;have b1:nW p H (upd H p (.ins (cls t i) dx (aH "name" nm []))):=nW.write;have e1:(upd H p (.ins (cls t i) dx (aH "name" nm []))) p=some (.ins (cls t i) dx (aH "name" nm [])):=ao;generalize upd H p (.ins (cls t i) dx (aH "name" nm []))=H1 at b1 e1 ⊢;have r2:=b1.seqA hp q2;have r3:=b1.seqA hp q3;refine⟨_,Y,a1,ns,Y,b1.seqA hp q1,λH2 u2 s2 t2=>⟨_,Y,p,cls t i,dx,_,Y,s2 _ _ e1,eN T i,lU T i,lt_of_le_of_lt (ju (zero_le 0)) (by decide),?_⟩⟩;have e2:=s2 _ _ e1;have b2:nW p H2 (upd H2 p (.ins (cls t i) dx (aH "numbers" (.ref u2) (aH "name" nm [])))):=nW.write;have e3:(upd H2 p (.ins (cls t i) dx (aH "numbers" (.ref u2) (aH "name" nm [])))) p=some (.ins (cls t i) dx (aH "numbers" (.ref u2) (aH "name" nm []))):=ao;generalize upd H2 p (.ins (cls t i) dx (aH "numbers" (.ref u2) (aH "name" nm [])))=H3 at b2 e3 ⊢;have r2':=b2.seqA e2 (s2.seqA r2);have r3':=b2.seqA e2 (s2.seqA r3);have t2':=b2.seqT e2 t2;refine⟨_,Y,a2,is,Y,r2',λH4 u4 s4 t4=>⟨_,Y,p,cls t i,dx,_,Y,s4 _ _ e3,eN T i,uB T i,lt_of_le_of_lt (ju (ju (zero_le 0))) (by decide),?_⟩⟩;have e4:=s4 _ _ e3;have b4:nW p H4 (upd H4 p (.ins (cls t i) dx (aH "ins" (.ref u4) (aH "numbers" (.ref u2) (aH "name" nm []))))):=nW.write;have e5:(upd H4 p (.ins (cls t i) dx (aH "ins" (.ref u4) (aH "numbers" (.ref u2) (aH "name" nm []))))) p=some (.ins (cls t i) dx (aH "ins" (.ref u4) (aH "numbers" (.ref u2) (aH "name" nm [])))):=ao;generalize upd H4 p (.ins (cls t i) dx (aH "ins" (.ref u4) (aH "numbers" (.ref u2) (aH "name" nm []))))=H5 at b4 e5 ⊢;have r3'':=b4.seqA e4 (s4.seqA r3');have t2'':=b4.seqT e4 (s4.seqT t2');have t4':=b4.seqT e4 t4;refine⟨_,Y,a3,os,Y,r3'',λH6 u6 s6 t6=>⟨_,Y,p,cls t i,dx,_,Y,s6 _ _ e5,eN T i,xn T i,lt_of_le_of_lt (ju (ju (ju (zero_le 0)))) (by decide),?_⟩⟩;have e6:=s6 _ _ e5;refine k _ (b1.trans ((nW.of_same s2).trans (b2.trans ((nW.of_same s4).trans (b4.trans ((nW.of_same s6).trans nW.write)))))) ⟨dx,u2,u4,u6,ao,?_,?_,?_⟩
 ·exact nW.write.seqT e6 (s6.seqT t2'')
 ·exact nW.write.seqT e6 (s6.seqT t4')
 ·exact nW.write.seqT e6 t6
theorem JK (T:Txt w K mg t):FO P w K mg base 1 t.wQ ["self"] (jm 0):=by have sc:=T.qP.sc ["self"];refine T.qP.F.ok sc ln (λ_ _ _ _ H vs Q E hr h=>?_);obtain⟨x,rfl,k⟩:=h;refine⟨_,(aA (aM bQ)),?_⟩;exact k
theorem Kv (T:Txt w K mg t):FO P w K mg base 1 t.wZ ["self"] (jm 1):=by have sc:=T.rM.sc ["self"];refine T.rM.F.ok sc ln (λ_ _ _ _ H vs Q E hr h=>?_);obtain⟨x,rfl,k⟩:=h;refine⟨_,(aA (aM bQ)),?_⟩;exact k
theorem KY (T:Txt w K mg t):FO P w K mg base 1 t.xf ["self"] (jm 2):=by have sc:=T.qQ.sc ["self"];refine T.qQ.F.ok sc ln (λ_ _ _ _ H vs Q E hr h=>?_);obtain⟨x,rfl,k⟩:=h;refine⟨_,(aA (aM bQ)),?_⟩;exact k
theorem JN (T:Txt w K mg t):FO P w K mg base 1 t.wH ["self"] (jm 3):=by have sc:=T.qW.sc ["self"];refine T.qW.F.ok sc ln (λ_ _ _ _ H vs Q E hr h=>?_);obtain⟨x,rfl,k⟩:=h;refine⟨_,(aA (aM bQ)),?_⟩;exact k
theorem JC (T:Txt w K mg t):FO P w K mg base 1 t.wA ["self"] (jm 4):=by have sc:=T.qO.sc ["self"];refine T.qO.F.ok sc ln (λ_ _ _ _ H vs Q E hr h=>?_);obtain⟨x,rfl,k⟩:=h;refine⟨_,(aA (aM bQ)),?_⟩;exact k
theorem K4 (T:Txt w K mg t):FO P w K mg base 1 t.wW ["self"] (jm 5):=by have sc:=T.rK.sc ["self"];refine T.rK.F.ok sc ln (λ_ _ _ _ H vs Q E hr h=>?_);obtain⟨x,rfl,k⟩:=h;refine⟨_,(aA (aM bQ)),?_⟩;exact k
theorem Nj (T:Txt w K mg t):FO P w K mg base 1 t.yU ["self"] (jm 6):=by have sc:=T.uC.sc ["self"];refine T.uC.F.ok sc ln (λ_ _ _ _ H vs Q E hr h=>?_);obtain⟨x,rfl,k⟩:=h;refine⟨_,(aA (aM bQ)),?_⟩;exact k
theorem J8 (T:Txt w K mg t):FO P w K mg base 1 t.vy ["self"] (jm 7):=by have sc:=T.qR.sc ["self"];refine T.qR.F.ok sc ln (λ_ _ _ _ H vs Q E hr h=>?_);obtain⟨x,rfl,k⟩:=h;refine⟨_,(aA (aM bQ)),?_⟩;exact k
theorem Hv (T:Txt w K mg t):FO P w K mg base 1 t.uG ["self"] (jm 8):=by have sc:=T.pG.sc ["self"];refine T.pG.F.ok sc ln (λ_ _ _ _ H vs Q E hr h=>?_);obtain⟨x,rfl,k⟩:=h;refine⟨_,(aA (aM bQ)),?_⟩;exact k
theorem Ft (T:Txt w K mg t):FO P w K mg base 1 t.rW ["self"] (jm 9):=by have sc:=T.mG.sc ["self"];refine T.mG.F.ok sc ln (λ_ _ _ _ H vs Q E hr h=>?_);obtain⟨x,rfl,k⟩:=h;refine⟨_,(aA (aM bQ)),?_⟩;exact k
theorem Hj (T:Txt w K mg t):FO P w K mg base 1 t.uJ ["self"] (jm 10):=by have sc:=T.pM.sc ["self"];refine T.pM.F.ok sc ln (λ_ _ _ _ H vs Q E hr h=>?_);obtain⟨x,rfl,k⟩:=h;refine⟨_,(aA (aM bQ)),?_⟩;exact k
inductive G4 (vs:List V) (H:Hp) (Q:VK) (E:XK):Prop where
 | mk:∀z:Str,vs=[.str z]->Q (.bl (rowOf ROWS z).isSome) H->G4 vs H Q E
theorem GC (T:Txt w K mg t):FO P w K mg base 1 t.Iz ["word"] (G4):=by have sc:=T.xG.sc ["word"];refine T.xG.F.ok sc ln (λ_ _ _ _ H vs Q E hr h=>?_);obtain⟨z,rfl,k⟩:=h;refine⟨_,(aA (aM (KC (Zb (pv 0) (Km (v:=.ref _) (by rfl) T.Jq rfl)) (by with_unfolding_all rfl)))),?_⟩;exact⟨_,Y,t.Ad,ROWS,z,Y,T.Mg,Y,k⟩
inductive CW (K:Fr) (vs:List V) (H:Hp) (Q:VK) (E:XK):Prop where
 | mk:∀(i:Nat) (nm:V) (a1 a2 a3:Addr) (ns is os:List V),vs=[.str (fD i),nm,.ref a1,.ref a2,.ref a3]->zp K H a1 ns->zp K H a2 is->zp K H a3 os->ns.length=cN i->is.length=cI i->os.length=cO i->((∀v∈ns,Val v))->(∀H',aJ H H'->Q .non H')->CW K vs H Q E
noncomputable abbrev G5:List Str:=["kind", "name", "numbers", "ins", "outs", "counts"]
theorem Ng (T:Txt w K mg t):FO P w K mg base 3 t.Gx ["kind", "name", "numbers", "ins", "outs"] (CW K):=by
 have sc:=T.yQ.sc G5;refine T.yQ.F.ok sc ln (λ_ _ _ _ H vs Q E hr h=>?_);obtain⟨i,nm,a1,a2,a3,ns,is,os,rfl,h1,h2,h3,l1,l2,l3,hv,k⟩:=h;refine⟨_,(aq (bU (lW (jZ (dX (GC T) T.xG hr (aa (pv 0) ak aj))))
   (aA eQ)
   bA)
  (aq (sN sc 5 (WP (Km (v:=.ref _) (by rfl) T.Jq rfl) (pv 0) (λ_ _=>rfl)))
  (aq (bU (PW.pt (Ar (bz M5 (bB bV (by rfl) T.fY dC (aa (pv 2) ak aj)) (bc cT (pv 5) au (λ_ _=>rfl)) (bN _)) (uv (lW (jZ (bB (Aj rfl) (by rfl) T.Qu Jv (aa (eY [] G5 (aZ (top 46)) rfl (Yp (bR (pv 2)) (JF (pv 2))) (λ_ _ _ _ _=>gj) (λ_ _ _ _ _=>(dX (vW T) T.qL hr (aa (pv 0) ak aj)))) ak ie)))))))
   (aA eQ)
   bA)
  (aA (bU (PW.pt (Ar (bz M5 (bB bV (by rfl) T.fY dC (aa (pv 3) ak aj)) (bc cT (pv 5) au (λ_ _=>rfl)) (bN _)) (uv (bz M5 (bB bV (by rfl) T.fY dC (aa (pv 4) ak aj)) (bc cT (pv 5) au (λ_ _=>rfl)) (bN _)))))
   (aA eQ)
   bA))))),?_⟩
 have hl:sizeLine=16777216:=sizeLine_eq;have hN:=aaw i;have hI:=Ih i;have hO:=Uu i;refine⟨_,rfl,fD i,rfl,true,by rw [row_of];rfl,dz ?_⟩;refine⟨_,Y,t.Ad,ROWS,fD i,_,Y,T.Mg,Y,row_of i,λad had=>?_⟩;refine⟨_,Y,.ref a1,ns.length,Y,h1.len,_,Y,ad,_,0,_,Y,Y,had,aO (j:=0) Y,Y,_,Y,?_⟩;rw [show(!decide (V.int ((ns.length:Nat):Int)=V.int ((cN i:Nat):Int)))=false by rw [l1];simp];refine dz ?_;refine VL (a:=a1) (xs:=ns) ?_ h1 (λj ys=>ys=(List.replicate j true).map V.bl) (by omega) Y (λj ys e=>by rw [e];simp) (λj x ys hx e=>?_) (λys e D hD=>?_)
 ·exact λR r=>⟨_,Y,r⟩
 ·subst e;obtain⟨n,rfl,n0,n1⟩:=hv x (mem_of_getElem? hx);refine yes ⟨_,Y,.int n,Y,.inl ⟨n,Y,Y,?_⟩⟩;rw [decide_eq_true n0,decide_eq_true n1,List.replicate_succ'];simp
 ·subst e;refine⟨D,_,Y,bJ.of ao,_,Y,?_⟩;rw [show((List.replicate ns.length true).all id)=true by simp];refine dz ?_;have s1:aJ H (upd H D (.lst ((List.replicate ns.length true).map V.bl))):=aB hD;refine⟨_,Y,.ref a2,is.length,Y,(s1.seqA h2).len,_,Y,ad,_,1,_,Y,Y,s1.seqT had,aO (j:=1) Y,Y,_,Y,?_⟩;rw [show(!decide (V.int ((is.length:Nat):Int)=V.int ((cI i:Nat):Int)))=false by rw [l2];simp];refine dz ?_;refine⟨_,Y,.ref a3,os.length,Y,(s1.seqA h3).len,_,Y,ad,_,2,_,Y,Y,s1.seqT had,aO (j:=2) Y,Y,_,Y,?_⟩;rw [show(!decide (V.int ((os.length:Nat):Int)=V.int ((cO i:Nat):Int)))=false by rw [l3];simp];exact dz (k _ s1)
inductive Ew (K:Fr) (t:jq) (vs:List V) (H:Hp) (Q:VK) (E:XK):Prop where
 | mk:∀(i:Nat) (nm:V) (a1 a2 a3:Addr) (ns is os:List V),vs=[.str (fD i),nm,.ref a1,.ref a2,.ref a3]->i<=10->zp K H a1 ns->zp K H a2 is->zp K H a3 os->(∀H' p,aJ H H'->H p=none->fQ K t H' p i nm ns is os->Q (.ref p) H')->Ew K t vs H Q E
noncomputable abbrev Bf:List Str:=["kind", "name", "numbers", "ins", "outs"]
theorem GK (T:Txt w K mg t):FO P w K mg base 3 t.Jr Bf (Ew K t):=by
 have sc:ir Bf Bf (aZ (top 47)):=P0;refine T.Bw.F.ok sc ln (λ_ _ _ _ H vs Q E hr h=>?_);obtain⟨i,nm,a1,a2,a3,ns,is,os,rfl,hi,h1,h2,h3,k⟩:=h;refine⟨_,(aq (bU (bz gA (pv 0) bQ (bN _))
   (aA (aM (gP (T.jg.M T.bf) (bY T) (hr.mono (by decide)) (by rfl) T.jg.m T.bf.b .nil gh (aa (pv 1) (aa (pv 2) (aa (pv 3) (aa (pv 4) ak aj) aj) aj) aj))))
   bA)
  (aq (bU (bz gA (pv 0) bQ (bN _))
   (aA (aM (gP (T.iW.M T.bf) (bY T) (hr.mono (by decide)) (by rfl) T.iW.m T.bf.b .nil gh (aa (pv 1) (aa (pv 2) (aa (pv 3) (aa (pv 4) ak aj) aj) aj) aj))))
   bA)
  (aq (bU (bz gA (pv 0) bQ (bN _))
   (aA (aM (gP (T.jh.M T.bf) (bY T) (hr.mono (by decide)) (by rfl) T.jh.m T.bf.b .nil gh (aa (pv 1) (aa (pv 2) (aa (pv 3) (aa (pv 4) ak aj) aj) aj) aj))))
   bA)
  (aq (bU (bz gA (pv 0) bQ (bN _))
   (aA (aM (gP (T.je.M T.bf) (bY T) (hr.mono (by decide)) (by rfl) T.je.m T.bf.b .nil gh (aa (pv 1) (aa (pv 2) (aa (pv 3) (aa (pv 4) ak aj) aj) aj) aj))))
   bA)
  (aq (bU (bz gA (pv 0) bQ (bN _))
   (aA (aM (gP (T.jj.M T.bf) (bY T) (hr.mono (by decide)) (by rfl) T.jj.m T.bf.b .nil gh (aa (pv 1) (aa (pv 2) (aa (pv 3) (aa (pv 4) ak aj) aj) aj) aj))))
   bA)
  (aq (bU (bz gA (pv 0) bQ (bN _))
   (aA (aM (gP (T.gU.M T.bf) (bY T) (hr.mono (by decide)) (by rfl) T.gU.m T.bf.b .nil gh (aa (pv 1) (aa (pv 2) (aa (pv 3) (aa (pv 4) ak aj) aj) aj) aj))))
   bA)
  (aq (bU (bz gA (pv 0) bQ (bN _))
   (aA (aM (gP (T.lB.M T.bf) (bY T) (hr.mono (by decide)) (by rfl) T.lB.m T.bf.b .nil gh (aa (pv 1) (aa (pv 2) (aa (pv 3) (aa (pv 4) ak aj) aj) aj) aj))))
   bA)
  (aq (bU (bz gA (pv 0) bQ (bN _))
   (aA (aM (gP (T.iY.M T.bf) (bY T) (hr.mono (by decide)) (by rfl) T.iY.m T.bf.b .nil gh (aa (pv 1) (aa (pv 2) (aa (pv 3) (aa (pv 4) ak aj) aj) aj) aj))))
   bA)
  (aq (bU (bz gA (pv 0) bQ (bN _))
   (aA (aM (gP (T.fO.M T.bf) (bY T) (hr.mono (by decide)) (by rfl) T.fO.m T.bf.b .nil gh (aa (pv 1) (aa (pv 2) (aa (pv 3) (aa (pv 4) ak aj) aj) aj) aj))))
   bA)
  (aq (bU (bz gA (pv 0) bQ (bN _))
   (aA (aM (gP (T.d7.M T.bf) (bY T) (hr.mono (by decide)) (by rfl) T.d7.m T.bf.b .nil gh (aa (pv 1) (aa (pv 2) (aa (pv 3) (aa (pv 4) ak aj) aj) aj) aj))))
   bA)
  (aA (aM (gP (T.fP.M T.bf) (bY T) (hr.mono (by decide)) (by rfl) T.fP.m T.bf.b .nil gh (aa (pv 1) (aa (pv 2) (aa (pv 3) (aa (pv 4) ak aj) aj) aj) aj)))))))))))))),?_⟩
 match i,hi with
 | 0,_=>
  refine⟨_,Y,Y,_,Y,yM Y ?_⟩;refine⟨_,Y,_,Y,_,Y,_,Y,λx dx nx ndx nex=>?_⟩;have s0:aJ H (upd (upd H dx (.own x)) x (.ins t.Px dx [])):=λb o e=>by rw [aK (aF e nx),aK (aF e ndx)];exact e
  exact⟨0,x,dx,a1,a2,a3,nm,ns,is,os,Y,ao,s0.seqA h1,s0.seqA h2,s0.seqA h3,λH' b P=>⟨Y,k H' x (λc o e=>b c o (aF e nx) (s0 c o e)) nx P⟩⟩
 | 1,_=>
  refine⟨_,Y,Y,_,Y,eX (by decide +kernel) ?_⟩;refine⟨_,Y,Y,_,Y,yM Y ?_⟩;refine⟨_,Y,_,Y,_,Y,_,Y,λx dx nx ndx nex=>?_⟩;have s0:aJ H (upd (upd H dx (.own x)) x (.ins t.PJ dx [])):=λb o e=>by rw [aK (aF e nx),aK (aF e ndx)];exact e
  exact⟨1,x,dx,a1,a2,a3,nm,ns,is,os,Y,ao,s0.seqA h1,s0.seqA h2,s0.seqA h3,λH' b P=>⟨Y,k H' x (λc o e=>b c o (aF e nx) (s0 c o e)) nx P⟩⟩
 | 2,_=>
  iterate 2 refine⟨_,Y,Y,_,Y,eX (by decide +kernel) ?_⟩
  refine⟨_,Y,Y,_,Y,yM Y ?_⟩;refine⟨_,Y,_,Y,_,Y,_,Y,λx dx nx ndx nex=>?_⟩;have s0:aJ H (upd (upd H dx (.own x)) x (.ins t.Oz dx [])):=λb o e=>by rw [aK (aF e nx),aK (aF e ndx)];exact e
  exact⟨2,x,dx,a1,a2,a3,nm,ns,is,os,Y,ao,s0.seqA h1,s0.seqA h2,s0.seqA h3,λH' b P=>⟨Y,k H' x (λc o e=>b c o (aF e nx) (s0 c o e)) nx P⟩⟩
 | 3,_=>
  iterate 3 refine⟨_,Y,Y,_,Y,eX (by decide +kernel) ?_⟩
  refine⟨_,Y,Y,_,Y,yM Y ?_⟩;refine⟨_,Y,_,Y,_,Y,_,Y,λx dx nx ndx nex=>?_⟩;have s0:aJ H (upd (upd H dx (.own x)) x (.ins t.O9 dx [])):=λb o e=>by rw [aK (aF e nx),aK (aF e ndx)];exact e
  exact⟨3,x,dx,a1,a2,a3,nm,ns,is,os,Y,ao,s0.seqA h1,s0.seqA h2,s0.seqA h3,λH' b P=>⟨Y,k H' x (λc o e=>b c o (aF e nx) (s0 c o e)) nx P⟩⟩
 | 4,_=>
  iterate 4 refine⟨_,Y,Y,_,Y,eX (by decide +kernel) ?_⟩
  refine⟨_,Y,Y,_,Y,yM Y ?_⟩;refine⟨_,Y,_,Y,_,Y,_,Y,λx dx nx ndx nex=>?_⟩;have s0:aJ H (upd (upd H dx (.own x)) x (.ins t.Oe dx [])):=λb o e=>by rw [aK (aF e nx),aK (aF e ndx)];exact e
  exact⟨4,x,dx,a1,a2,a3,nm,ns,is,os,Y,ao,s0.seqA h1,s0.seqA h2,s0.seqA h3,λH' b P=>⟨Y,k H' x (λc o e=>b c o (aF e nx) (s0 c o e)) nx P⟩⟩
 | 5,_=>
  iterate 5 refine⟨_,Y,Y,_,Y,eX (by decide +kernel) ?_⟩
  refine⟨_,Y,Y,_,Y,yM Y ?_⟩;refine⟨_,Y,_,Y,_,Y,_,Y,λx dx nx ndx nex=>?_⟩;have s0:aJ H (upd (upd H dx (.own x)) x (.ins t.K3 dx [])):=λb o e=>by rw [aK (aF e nx),aK (aF e ndx)];exact e
  exact⟨5,x,dx,a1,a2,a3,nm,ns,is,os,Y,ao,s0.seqA h1,s0.seqA h2,s0.seqA h3,λH' b P=>⟨Y,k H' x (λc o e=>b c o (aF e nx) (s0 c o e)) nx P⟩⟩
 | 6,_=>
  iterate 6 refine⟨_,Y,Y,_,Y,eX (by decide +kernel) ?_⟩
  refine⟨_,Y,Y,_,Y,yM Y ?_⟩;refine⟨_,Y,_,Y,_,Y,_,Y,λx dx nx ndx nex=>?_⟩;have s0:aJ H (upd (upd H dx (.own x)) x (.ins t.Uy dx [])):=λb o e=>by rw [aK (aF e nx),aK (aF e ndx)];exact e
  exact⟨6,x,dx,a1,a2,a3,nm,ns,is,os,Y,ao,s0.seqA h1,s0.seqA h2,s0.seqA h3,λH' b P=>⟨Y,k H' x (λc o e=>b c o (aF e nx) (s0 c o e)) nx P⟩⟩
 | 7,_=>
  iterate 7 refine⟨_,Y,Y,_,Y,eX (by decide +kernel) ?_⟩
  refine⟨_,Y,Y,_,Y,yM Y ?_⟩;refine⟨_,Y,_,Y,_,Y,_,Y,λx dx nx ndx nex=>?_⟩;have s0:aJ H (upd (upd H dx (.own x)) x (.ins t.Pk dx [])):=λb o e=>by rw [aK (aF e nx),aK (aF e ndx)];exact e
  exact⟨7,x,dx,a1,a2,a3,nm,ns,is,os,Y,ao,s0.seqA h1,s0.seqA h2,s0.seqA h3,λH' b P=>⟨Y,k H' x (λc o e=>b c o (aF e nx) (s0 c o e)) nx P⟩⟩
 | 8,_=>
  iterate 8 refine⟨_,Y,Y,_,Y,eX (by decide +kernel) ?_⟩
  refine⟨_,Y,Y,_,Y,yM Y ?_⟩;refine⟨_,Y,_,Y,_,Y,_,Y,λx dx nx ndx nex=>?_⟩;have s0:aJ H (upd (upd H dx (.own x)) x (.ins t.Kf dx [])):=λb o e=>by rw [aK (aF e nx),aK (aF e ndx)];exact e
  exact⟨8,x,dx,a1,a2,a3,nm,ns,is,os,Y,ao,s0.seqA h1,s0.seqA h2,s0.seqA h3,λH' b P=>⟨Y,k H' x (λc o e=>b c o (aF e nx) (s0 c o e)) nx P⟩⟩
 | 9,_=>
  iterate 9 refine⟨_,Y,Y,_,Y,eX (by decide +kernel) ?_⟩
  refine⟨_,Y,Y,_,Y,yM Y ?_⟩;refine⟨_,Y,_,Y,_,Y,_,Y,λx dx nx ndx nex=>?_⟩;have s0:aJ H (upd (upd H dx (.own x)) x (.ins t.Gg dx [])):=λb o e=>by rw [aK (aF e nx),aK (aF e ndx)];exact e
  exact⟨9,x,dx,a1,a2,a3,nm,ns,is,os,Y,ao,s0.seqA h1,s0.seqA h2,s0.seqA h3,λH' b P=>⟨Y,k H' x (λc o e=>b c o (aF e nx) (s0 c o e)) nx P⟩⟩
 | 10,_=>
  iterate 10 refine⟨_,Y,Y,_,Y,eX (by decide +kernel) ?_⟩
  refine⟨_,Y,_,Y,_,Y,_,Y,λx dx nx ndx nex=>?_⟩;have s0:aJ H (upd (upd H dx (.own x)) x (.ins t.JQ dx [])):=λb o e=>by rw [aK (aF e nx),aK (aF e ndx)];exact e
  exact⟨10,x,dx,a1,a2,a3,nm,ns,is,os,Y,ao,s0.seqA h1,s0.seqA h2,s0.seqA h3,λH' b P=>⟨Y,k H' x (λc o e=>b c o (aF e nx) (s0 c o e)) nx P⟩⟩
 | (n+11),h=>exact absurd h (by omega)
inductive zr (K:Fr) (t:jq) (vs:List V) (H:Hp) (Q:VK) (E:XK):Prop where
 | mk:∀(i:Nat) (nm:V) (a1 a2 a3:Addr) (ns is os:List V),vs=[.str (fD i),nm,.ref a1,.ref a2,.ref a3]->i<=10->zp K H a1 ns->zp K H a2 is->zp K H a3 os->ns.length=cN i->is.length=cI i->os.length=cO i->((∀v∈ns,Val v))->(∀H' p,aJ H H'->H p=none->fQ K t H' p i nm ns is os->Q (.ref p) H')->zr K t vs H Q E
noncomputable abbrev wu:List Str:=["kind", "name", "numbers", "ins", "outs"]
theorem J1 (T:Txt w K mg t):FO P w K mg base 4 t.Cm wu (zr K t):=by
 have sc:ir wu wu (aZ (top 48)):=P0;refine T.Dm.F.ok sc ln (λ_ _ _ _ H vs Q E hr h=>?_);obtain⟨i,nm,a1,a2,a3,ns,is,os,rfl,hi,h1,h2,h3,l1,l2,l3,hv,k⟩:=h;refine⟨_,(aq (bI (dX (Ng T) T.yQ hr (aa (pv 0) (aa (pv 1) (aa (pv 2) (aa (pv 3) (aa (pv 4) ak aj) aj) aj) aj) aj)))
  (aA (aM (dX (GK T) T.Bw hr (aa (pv 0) (aa (pv 1) (aa (pv 2) (aa (pv 3) (aa (pv 4) ak aj) aj) aj) aj) aj))))),?_⟩
 refine⟨_,Y,_,Y,_,Y,_,Y,_,Y,i,nm,a1,a2,a3,ns,is,os,Y,h1,h2,h3,l1,l2,l3,hv,λH1 s1=>?_⟩;exact⟨_,Y,_,Y,_,Y,_,Y,_,Y,i,nm,a1,a2,a3,ns,is,os,Y,hi,s1.seqA h1,s1.seqA h2,s1.seqA h3,λH2 p s2 np P=>k H2 p (s1.trans s2) (s1.free np) P⟩
inductive QL (vs:List V) (H:Hp) (Q:VK) (E:XK):Prop where
 | mk:∀a:Int,vs=[.int a]->Q (.int (a % 1000000000)) H->QL vs H Q E
theorem Jy (T:Txt w K mg t):FO P w K mg base 1 t.Vi ["number"] (QL):=by have sc:=T.Ej.sc ["number"];refine T.Ej.F.ok sc ln (λ_ _ _ _ H vs Q E hr h=>?_);obtain⟨a,rfl,k⟩:=h;refine⟨_,(aA (aM (bu cH (pv 0) (j0 (by rfl) T.Mt)))),?_⟩;exact⟨_,Y,_,_,Y,Y,by show(0:Int) <1000000000;decide,k⟩
inductive vp (K:Fr) (t:jq) (vs:List V) (H:Hp) (Q:VK) (E:XK):Prop where
 | mk:∀i,i≠9->pU K t i vs H Q E->vp K t vs H Q E
theorem dD (T:Txt w K mg t):FO P w K mg base 1 t.cW ["self", "heads"] (vp K t):=by
 have sc:=T.bG.sc ["self", "heads"];refine T.bG.F.ok sc ln (λ_ _ _ _ H vs Q E hr h=>?_);obtain⟨i,hi,p,a,nm,ns,is,os,hs,rfl,hP,hI,hS,hH,k⟩:=h;refine⟨_,(aA (aM (gf (Hu rfl) (by rfl) T.vI rB (aa (gf Nu (by rfl) T.jT Tc (aa (bB bV (by rfl) T.fY dC (aa (aU (pv 0) rfl) ak aV)) ak aX)) ak aX)))),?_⟩;obtain⟨dx,tn,ti,to,hp,h2,h3,h4⟩:=id hP.ex;have h3':=Ih i;refine⟨_,Y,p,cls t i,dx,_,.ref ti,Y,hp,eN T i,uB T i,oE _ _ _ _,.ref ti,is.length,Y,.inr ⟨is,h3,Y⟩,_,Y,λr hr=>⟨r,is.length,Y,ao,by omega,λl hl=>?_⟩⟩;have e:(places i hs).map nV=V6 is.length:=by unfold places V6;rw [if_neg hi,hH.1,hI];rfl
 refine k _ l ((aB hr).trans (aB hl)) ((aB hr).free hl) ?_;rw [e];exact ao
theorem BR (T:Txt w K mg t):FO P w K mg base 1 t.oX ["self", "heads"] (pU K t 9):=by
 have sc:=T.j8.sc ["self", "heads"];refine T.j8.F.ok sc ln (λ_ _ _ _ H vs Q E hr h=>?_);obtain⟨p,a,nm,ns,is,os,hs,rfl,hP,hI,hS,hH,k⟩:=h;refine⟨_,(aq (bU (jo (Ca (bc bw (pv 1) au (λ_ _=>Y))))
   (aA (aM (bC (aa au ak az))))
   bA)
  (aA (aM (bC (aa au (aa (bu dF au (bu cH (bc bw (pv 1) au (λ_ _=>rfl)) au)) ak bM) az))))),?_⟩
 have hl:sizeLine=16777216:=sizeLine_eq;have hlen:hs.length=3:=hH.1;match hs,hlen,hH with
 | h0:: r,hlen,hH=>
  have ea:Hw (h0:: r) 0=some h0:=aO (xs:=h0:: r) (j:=0) rfl;rcases hH.2 h0 mem_cons_self with e | ⟨n,e⟩
  ·subst e;refine⟨_,Y,a,_,0,_,Y,Y,hS,ea,_,Y,yM Y ?_⟩;exact⟨jB,λL hL=>k _ L (aB hL) hL ao⟩
  ·subst e;refine⟨_,rfl,a,_,0,_,rfl,rfl,hS,ea,_,rfl,eX (by intro z;cases z) ?_⟩;refine⟨_,Y,a,_,0,_,Y,Y,hS,ea,_,_,Y,Y,by show(0:Int) <2;decide,_,_,Y,Y,jB,λL hL=>k _ L (aB hL) hL ?_⟩;have h0:=emod_nonneg n (show(2:Int)≠0 by decide);have e1:(1:Int)+n % 2=((1+(n % 2).toNat:Nat):Int):=by omega
   rw [ao];show some (HO.lst [.int 0,.int (1+n % 2)])=some (HO.lst [.int ((0:Nat):Int),.int ((1+(n % 2).toNat:Nat):Int)]);rw [e1];rfl
theorem HY (T:Txt w K mg t) (i:Nat):MethAt P w K mg base BX 1 (cls t i) "taking" (pU K t i):=match i with
 | 0=>⟨_,_,_,T.jg.c,(T.bG.me T.jg.me.2.2.1),T.bG.b,(dD T).imp λ_ _ _ _ h=>⟨_,by omega,h⟩⟩
 | 1=>⟨_,_,_,T.iW.c,(T.bG.me T.iW.me.2.2.1),T.bG.b,(dD T).imp λ_ _ _ _ h=>⟨_,by omega,h⟩⟩
 | 2=>⟨_,_,_,T.jh.c,(T.bG.me T.jh.me.2.2.1),T.bG.b,(dD T).imp λ_ _ _ _ h=>⟨_,by omega,h⟩⟩
 | 3=>⟨_,_,_,T.je.c,(T.bG.me T.je.me.2.2.1),T.bG.b,(dD T).imp λ_ _ _ _ h=>⟨_,by omega,h⟩⟩
 | 4=>⟨_,_,_,T.jj.c,(T.bG.me T.jj.me.2.2.1),T.bG.b,(dD T).imp λ_ _ _ _ h=>⟨_,by omega,h⟩⟩
 | 5=>⟨_,_,_,T.gU.c,(T.bG.me T.gU.me.2.2.1),T.bG.b,(dD T).imp λ_ _ _ _ h=>⟨_,by omega,h⟩⟩
 | 6=>⟨_,_,_,T.lB.c,(T.bG.me T.lB.me.2.2.1),T.bG.b,(dD T).imp λ_ _ _ _ h=>⟨_,by omega,h⟩⟩
 | 7=>⟨_,_,_,T.iY.c,(T.bG.me T.iY.me.2.2.1),T.bG.b,(dD T).imp λ_ _ _ _ h=>⟨_,by omega,h⟩⟩
 | 8=>⟨_,_,_,T.fO.c,(T.bG.me T.fO.me.2.2.1),T.bG.b,(dD T).imp λ_ _ _ _ h=>⟨_,by omega,h⟩⟩
 | 9=>⟨_,_,_,T.d7.c,(T.j8.me T.d7.me.2.2.1),T.j8.b,BR T⟩
 | n+10=>⟨_,_,_,T.fP.c,(T.bG.me T.fP.me.2.2.1),T.bG.b,(dD T).imp λ_ _ _ _ h=>⟨_,by omega,h⟩⟩
inductive xW (K:Fr) (t:jq) (vs:List V) (H:Hp) (Q:VK) (E:XK):Prop where
 | mk:∀i,zf K t i vs H Q E->xW K t vs H Q E
theorem dG (T:Txt w K mg t):FO P w K mg base 2 t.cY ["self", "heads"] (xW K t):=by
 have sc:=T.bH.sc ["self", "heads", "place"];refine T.bH.F.ok sc ln (λ_ _ _ _ H vs Q E hr h=>?_);obtain⟨i,p,a,nm,ns,is,os,hs,rfl,hP,hI,hS,hH,k⟩:=h;refine⟨_,(aq (dO PassesOwn.never Y (bR (vD (CX:=BX) (k:=1) (E:=E0) (pv 0) (hr.mono (by decide)) gh (aa (pv 1) ak aj))) (gN sc 2)
   (aA (bU (jo (Ca (bc bw (pv 1) (pv 2) (λ_ _=>rfl))))
    (aA (aM (pv 2)))
    bA)))
  (aA (aM vC))),?_⟩
 obtain⟨dx,tn,ti,to,hp,h2,h3,h4⟩:=id hP.ex;refine⟨_,Y,p,cls t i,dx,_,pU K t i,Y,hp,mJ _ _ _ _ (by decide +kernel) (by decide +kernel) (by decide +kernel) (by decide +kernel),HY T i,_,Y,p,a,nm,ns,is,os,hs,Y,hP,hI,hS,hH,λH1 L s1 nL eL=>⟨L,Y,⟨_,bJ.of eL⟩,?_⟩⟩;refine du (K:=K) (a:=L) (xs:=(places i hs).map nV) (λj σ H2=>H2=H1/\∃v,σ=[some (.ref p),some (.ref a),v]/\∀q∈(places i hs).take j,lA hs q=false)
  ⟨rfl,none,rfl,by simp⟩ (λj σ H2 _ ⟨e,_⟩=>by rw [e];exact bJ.of eL) ?_ ?_
 ·rintro j x σ H2 hx ⟨rfl,v,rfl,hno⟩;rw [getElem?_map] at hx;obtain⟨q,hq,rfl⟩:=map_eq_some_iff.mp hx;have hlt:=lY hH q (mem_of_getElem? hq);obtain⟨hv,ev⟩:∃hv,hs[q]?=some hv:=⟨hs[q],getElem?_eq_getElem hlt⟩;refine⟨_,Y,_,Y,a,hs,_,hv,Y,Y,s1.seq hS,aO ev,_,Y,jQ (λhn=>?_) (λhn=>?_)⟩
  ·have hn':hv=.non:=of_decide_eq_true hn;refine⟨_,Y,?_⟩;have:=k H2 s1;unfold QC at this;rw [Ql hq hno (by unfold lA;rw [ev,hn'];simp)] at this;exact this
  ·have hn':¬hv=.non:=λz=>hn (decide_eq_true z);refine⟨Y,_,Y,λy hy=>?_⟩;rw [take_add_one,hq] at hy;rcases mem_append.mp hy with hy | hy
   ·exact hno y hy
   ·have e:y=q:=by simpa using hy
    subst e;unfold lA;rw [ev];simpa using hn'
 ·rintro σ H2 ⟨rfl,v,rfl,hno⟩;have:=k H2 s1;unfold QC at this;rw [lM,take_of_length_le (le_refl _)] at hno;rw [Wz hno] at this;exact this
inductive yd (K:Fr) (t:jq) (vs:List V) (H:Hp) (Q:VK) (E:XK):Prop where
 | mk:∀i,i≠5->wN K t i vs H Q E->yd K t vs H Q E
theorem dY (T:Txt w K mg t):FO P w K mg base 1 t.dI ["self"] (yd K t):=by have sc:=T.bK.sc ["self"];refine T.bK.F.ok sc ln (λ_ _ _ _ H vs Q E hr h=>?_);obtain⟨i,hi,p,nm,ns,is,os,rfl,hP,hn,k⟩:=h;refine⟨_,(aA (aM au)),?_⟩;unfold J9 at k;rw [if_neg hi] at k;exact k
theorem Hb (T:Txt w K mg t):FO P w K mg base 1 t.uy ["self"] (wN K t 5):=by
 have sc:=T.pF.sc ["self"];refine T.pF.F.ok sc ln (λ_ _ _ _ H vs Q E hr h=>?_);obtain⟨p,nm,ns,is,os,rfl,hP,hn,k⟩:=h;refine⟨_,(aA (aM (bc Oi (aU (pv 0) Y) au (λ_ _=>Y)))),?_⟩;obtain⟨dx,tn,ti,to,hp,h2,h3,h4⟩:=id hP.ex;match ns,hn with
 | v:: r,hn=>
  exact⟨_,Y,p,cls t 5,dx,_,.ref tn,Y,hp,eN T 5,lU T 5,lD _ _ _ _,.inr (.inl ⟨tn,_,0,v,Y,Y,h2,aO (xs:=v:: r) (j:=0) Y,k⟩)⟩
theorem JB (T:Txt w K mg t) (i:Nat):MethAt P w K mg base BX 1 (cls t i) "kind" (jm i):=match i with
 | 0=>⟨_,_,_,T.jg.c,(T.qP.me T.jg.me.2.1),T.qP.b,JK T⟩
 | 1=>⟨_,_,_,T.iW.c,(T.rM.me T.iW.me.2.1),T.rM.b,Kv T⟩
 | 2=>⟨_,_,_,T.jh.c,(T.qQ.me T.jh.me.2.1),T.qQ.b,KY T⟩
 | 3=>⟨_,_,_,T.je.c,(T.qW.me T.je.me.2.1),T.qW.b,JN T⟩
 | 4=>⟨_,_,_,T.jj.c,(T.qO.me T.jj.me.2.1),T.qO.b,JC T⟩
 | 5=>⟨_,_,_,T.gU.c,(T.rK.me T.gU.me.2.1),T.rK.b,K4 T⟩
 | 6=>⟨_,_,_,T.lB.c,(T.uC.me T.lB.me.2.1),T.uC.b,Nj T⟩
 | 7=>⟨_,_,_,T.iY.c,(T.qR.me T.iY.me.2.1),T.qR.b,J8 T⟩
 | 8=>⟨_,_,_,T.fO.c,(T.pG.me T.fO.me.2.1),T.pG.b,Hv T⟩
 | 9=>⟨_,_,_,T.d7.c,(T.mG.me T.d7.me.2.1),T.mG.b,Ft T⟩
 | n+10=>⟨_,_,_,T.fP.c,(T.pM.me T.fP.me.2.1),T.pM.b,Hj T⟩
inductive pA (K:Fr) (t:jq) (vs:List V) (H:Hp) (Q:VK) (E:XK):Prop where
 | mk:∀i,i≠5->jH K t i vs H Q E->pA K t vs H Q E
theorem bW (T:Txt w K mg t):FO P w K mg base 4 t.bT ["self", "kept"] (pA K t):=by have sc:=T.aY.sc ["self", "kept"];refine T.aY.F.ok sc ln (λ_ _ _ _ H vs Q E hr h=>?_);obtain⟨i,hi,p,kv,nm,ns,is,os,rfl,hi10,hP,k⟩:=h;refine⟨_,(aA (aM (dX (GK T) T.Bw hr (aa (xN (CX:=BX) (k:=1) (E:=E0) (pv 0) (hr.mono (by decide)) gh) (aa (aU (pv 0) Y) (aa (aU (pv 0) Y) (aa (aU (pv 0) Y) (aa (aU (pv 0) Y) ak aV) aV) aV) aV) aX)))),?_⟩;obtain⟨dx,tn,ti,to,hp,h2,h3,h4⟩:=id hP.ex;unfold J2 at k;rw [if_neg hi] at k;refine⟨_,Y,p,cls t i,dx,_,jm i,Y,hp,(mJ _ _ _ _ (by decide +kernel) (by decide +kernel) (by decide +kernel) (by decide +kernel)),JB T i,_,Y,?_⟩;refine⟨_,Y,p,cls t i,dx,_,nm,Y,hp,eN T i,uK T i,pR _ _ _ _,?_⟩;refine⟨_,Y,p,cls t i,dx,_,.ref tn,Y,hp,eN T i,lU T i,lD _ _ _ _,?_⟩;refine⟨_,Y,p,cls t i,dx,_,.ref ti,Y,hp,eN T i,uB T i,oE _ _ _ _,?_⟩;refine⟨_,Y,p,cls t i,dx,_,.ref to,Y,hp,eN T i,xn T i,tX _ _ _ _,?_⟩;exact⟨i,nm,tn,ti,to,ns,is,os,Y,hi10,.inr h2,.inr h3,.inr h4,λH' q s n P=>k H' q s n P⟩
theorem xQ (T:Txt w K mg t):FO P w K mg base 3 t.kI ["self", "kept"] (jH K t 5):=by
 have sc:=T.iZ.sc ["self", "kept"];refine T.iZ.F.ok sc ln (λ_ _ _ _ H vs Q E hr h=>?_);obtain⟨p,kv,nm,ns,is,os,rfl,hi10,hP,k⟩:=h;refine⟨_,(aA (aM (gP (T.gU.M T.bf) (bY T) (hr.mono (by decide)) (by rfl) T.gU.m T.bf.b .nil gh (aa (aU (pv 0) rfl) (aa (cL (aa (pv 1) ak aj)) (aa (aU (pv 0) rfl) (aa (aU (pv 0) rfl) ak aV) aV) cU) aV)))),?_⟩;have hl:sizeLine=16777216:=sizeLine_eq;obtain⟨dx,tn,ti,to,hp,h2,h3,h4⟩:=id hP.ex;refine⟨_,Y,p,cls t 5,dx,_,nm,Y,hp,eN T 5,uK T 5,pR _ _ _ _,?_⟩;refine⟨_,Y,jB,λu nu=>?_⟩;have s1:=aB (o:=.tup [kv]) nu;have e1:(upd H u (.tup [kv])) u=some (.tup [kv]):=ao;generalize upd H u (.tup [kv])=H1 at s1 e1 ⊢;have hp1:=s1 _ _ hp;refine⟨_,Y,p,cls t 5,dx,_,.ref ti,Y,hp1,eN T 5,uB T 5,oE _ _ _ _,?_⟩;refine⟨_,Y,p,cls t 5,dx,_,.ref to,Y,hp1,eN T 5,xn T 5,tX _ _ _ _,λx dy nx ndx nex=>?_⟩;have s0:aJ H1 (upd (upd H1 dy (.own x)) x (.ins t.K3 dy [])):=λb o e=>by rw [aK (aF e nx),aK (aF e ndx)];exact e
 exact⟨5,x,dy,u,ti,to,nm,[kv],is,os,Y,ao,s0.seqA (.inr (fZ.of e1)),s0.seqA (.inr (s1.seqT h3)),s0.seqA (.inr (s1.seqT h4)),λH' b P=>⟨Y,k H' x (s1.trans λc o e=>b c o (aF e nx) (s0 c o e)) (s1.free nx) P⟩⟩
theorem Eh (T:Txt w K mg t):FO P w K mg base 1 t.rR ["self", "values", "kept"] (fK K t 2):=by
 have sc:=T.m8.sc ["self", "values", "kept"];refine T.m8.F.ok sc ln (λ_ _ _ _ H vs Q E hr h=>?_);obtain⟨p,a,nm,ns,is,os,ws,kp,rfl,hP,ln,hS,lw,hB,k⟩:=h;refine⟨_,(aA (aM (cL (aa (bC (aa (cL (aa au (aa (bc bw (pv 1) au (λ_ _=>Y)) ak aG) az)) ak cU)) (aa (pv 2) ak aj) bj)))),?_⟩;obtain⟨dx,tn,ti,to,hp,h2,h3,h4⟩:=id hP.ex;match ws,lw with
 | [v],_=>
  have fin:∀H' L rs,aJ H H'->H L=none->H' L=some (.lst (rs.map V.ref))->dw H' rs (K6 (cQ 2 ns [v] kp))->∀U,H' U=none->Q (.ref U) (upd H' U (.tup [.ref L,.int (fW 2 [v] kp)])):=Ga k;exact⟨_,Y,a,_,0,_,Y,Y,hS,Y,fc,λt0 n0=>⟨one_le,λL nL=>⟨_,Y,fc,λU nU=>Ba (Q:=λx H'=>∀U,H' U=none->Q (.ref U) (upd H' U (.tup [x,.int (fW 2 [v] kp)]))) Y Y fin n0 nL U nU⟩⟩⟩
theorem Ek (T:Txt w K mg t):FO P w K mg base 1 t.rU ["self", "values", "kept"] (fK K t 3):=by
 have sc:=T.mQ.sc ["self", "values", "kept"];refine T.mQ.F.ok sc ln (λ_ _ _ _ H vs Q E hr h=>?_);obtain⟨p,a,nm,ns,is,os,ws,kp,rfl,hP,ln,hS,lw,hB,k⟩:=h;refine⟨_,(aA (aM (cL (aa (bC (aa (cL (aa au (aa (bc bw (pv 1) au (λ_ _=>Y)) ak aG) az)) (aa (cL (aa au (aa (bc bw (pv 1) au (λ_ _=>Y)) ak aG) az)) ak cU) cU)) (aa (pv 2) ak aj) bj)))),?_⟩;obtain⟨dx,tn,ti,to,hp,h2,h3,h4⟩:=id hP.ex;match ws,lw with
 | [v],_=>
  have fin:∀H' L rs,aJ H H'->H L=none->H' L=some (.lst (rs.map V.ref))->dw H' rs (K6 (cQ 3 ns [v] kp))->∀U,H' U=none->Q (.ref U) (upd H' U (.tup [.ref L,.int (fW 3 [v] kp)])):=Ga k;exact⟨_,Y,a,_,0,_,Y,Y,hS,Y,fc,λt0 n0=>⟨_,Y,a,_,0,_,Y,Y,((aB n0).seq hS),Y,fc,λt1 n1=>⟨fc,λL nL=>⟨_,Y,fc,λU nU=>Xz (Q:=λx H'=>∀U,H' U=none->Q (.ref U) (upd H' U (.tup [x,.int (fW 3 [v] kp)]))) Y Y Y Y fin n0 n1 nL U nU⟩⟩⟩⟩
theorem Em (T:Txt w K mg t):FO P w K mg base 2 t.sO ["self", "values", "kept"] (fK K t 4):=by
 have sc:=T.mL.sc ["self", "values", "kept"];refine T.mL.F.ok sc ln (λ_ _ _ _ H vs Q E hr h=>?_);obtain⟨p,a,nm,ns,is,os,ws,kp,rfl,hP,ln,hS,lw,hB,k⟩:=h;refine⟨_,(aA (aM (cL (aa (bC (aa (cL (aa au (aa (dX (Jy T) T.Ej hr (aa (bu dF (bu j9 (bc Oi (aU (pv 0) Y) au (λ_ _=>Y)) (bc bw (pv 1) au (λ_ _=>Y))) (bc Oi (aU (pv 0) Y) au (λ_ _=>Y))) ak bM)) ak aX) az)) ak cU)) (aa (pv 2) ak aj) bj)))),?_⟩;obtain⟨dx,tn,ti,to,hp,h2,h3,h4⟩:=id hP.ex;match ws,lw,ns,ln with
 | [v],_,[m,m1],_=>
  have fin:∀H' L rs,aJ H H'->H L=none->H' L=some (.lst (rs.map V.ref))->dw H' rs (K6 (cQ 4 [m,m1] [v] kp))->∀U,H' U=none->Q (.ref U) (upd H' U (.tup [.ref L,.int (fW 4 [v] kp)])):=Ga k;exact⟨_,Y,p,cls t 4,dx,_,.ref tn,Y,hp,eN T 4,lU T 4,lD _ _ _ _,.inr (.inl ⟨tn,_,0,_,Y,Y,h2,Y,_,Y,a,_,0,_,Y,Y,hS,Y,_,_,Y,Y,aaZ hB (by simp),_,Y,p,cls t 4,dx,_,.ref tn,Y,hp,eN T 4,lU T 4,lD _ _ _ _,.inr (.inl ⟨tn,_,1,_,Y,Y,h2,Y,_,_,Y,Y,_,Y,fc,λt0 n0=>⟨one_le,λL nL=>⟨_,Y,fc,λU nU=>Ba (Q:=λx H'=>∀U,H' U=none->Q (.ref U) (upd H' U (.tup [x,.int (fW 4 [v] kp)]))) Y Y fin n0 nL U nU⟩⟩⟩)⟩)⟩
theorem FP (T:Txt w K mg t):FO P w K mg base 2 t.sG ["self", "values", "kept"] (fK K t 5):=by
 have sc:=T.mU.sc ["self", "values", "kept", "together"];refine T.mU.F.ok sc ln (λ_ _ _ _ H vs Q E hr h=>?_);obtain⟨p,a,nm,ns,is,os,ws,kp,rfl,hP,ln,hS,lw,hB,k⟩:=h;refine⟨_,(aq (sN sc 3 (dX (Jy T) T.Ej hr (aa (bu dF (pv 2) (bc bw (pv 1) au (λ_ _=>Y))) ak bM)))
  (aA (aM (cL (aa (bC (aa (cL (aa au (aa (pv 3) ak aj) az)) ak cU)) (aa (pv 3) ak aj) bj))))),?_⟩
 obtain⟨dx,tn,ti,to,hp,h2,h3,h4⟩:=id hP.ex;match ws,lw with
 | [v],_=>
  have fin:∀H' L rs,aJ H H'->H L=none->H' L=some (.lst (rs.map V.ref))->dw H' rs (K6 (cQ 5 ns [v] kp))->∀U,H' U=none->Q (.ref U) (upd H' U (.tup [.ref L,.int (fW 5 [v] kp)])):=Ga k;exact⟨_,Y,_,Y,a,_,0,_,Y,Y,hS,Y,_,_,Y,Y,_,Y,_,Y,fc,λt0 n0=>⟨one_le,λL nL=>⟨_,Y,fc,λU nU=>Ba (Q:=λx H'=>∀U,H' U=none->Q (.ref U) (upd H' U (.tup [x,.int (fW 5 [v] kp)]))) Y Y fin n0 nL U nU⟩⟩⟩
theorem Hi (T:Txt w K mg t):FO P w K mg base 2 t.uF ["self", "values", "kept"] (fK K t 6):=by
 have sc:=T.pK.sc ["self", "values", "kept"];refine T.pK.F.ok sc ln (λ_ _ _ _ H vs Q E hr h=>?_);obtain⟨p,a,nm,ns,is,os,ws,kp,rfl,hP,ln,hS,lw,hB,k⟩:=h;refine⟨_,(aA (aM (cL (aa (bC (aa (cL (aa au (aa (dX (Jy T) T.Ej hr (aa (bu dF (bc bw (pv 1) au (λ_ _=>Y)) (bc bw (pv 1) au (λ_ _=>Y))) ak bM)) ak aX) az)) ak cU)) (aa (pv 2) ak aj) bj)))),?_⟩;obtain⟨dx,tn,ti,to,hp,h2,h3,h4⟩:=id hP.ex;match ws,lw with
 | [v,v1],_=>
  have fin:∀H' L rs,aJ H H'->H L=none->H' L=some (.lst (rs.map V.ref))->dw H' rs (K6 (cQ 6 ns [v,v1] kp))->∀U,H' U=none->Q (.ref U) (upd H' U (.tup [.ref L,.int (fW 6 [v,v1] kp)])):=Ga k;exact⟨_,Y,a,_,0,_,Y,Y,hS,Y,_,Y,a,_,1,_,Y,Y,hS,Y,_,_,Y,Y,_,Y,fc,λt0 n0=>⟨one_le,λL nL=>⟨_,Y,fc,λU nU=>Ba (Q:=λx H'=>∀U,H' U=none->Q (.ref U) (upd H' U (.tup [x,.int (fW 6 [v,v1] kp)]))) Y Y fin n0 nL U nU⟩⟩⟩
theorem Fz (T:Txt w K mg t):FO P w K mg base 1 t.sU ["self", "values", "kept"] (fK K t 7):=by
 have sc:=T.mW.sc ["self", "values", "kept"];refine T.mW.F.ok sc ln (λ_ _ _ _ H vs Q E hr h=>?_);obtain⟨p,a,nm,ns,is,os,ws,kp,rfl,hP,ln,hS,lw,hB,k⟩:=h;refine⟨_,(aA (aM (cL (aa (bC (aa (cL (aa au (aa (qj (bz zR (bc bw (pv 1) au (λ_ _=>Y)) (bc bw (pv 1) au (λ_ _=>Y)) (bN _)) au au) ak Ow) az)) ak cU)) (aa (pv 2) ak aj) bj)))),?_⟩;obtain⟨dx,tn,ti,to,hp,h2,h3,h4⟩:=id hP.ex;match ws,lw with
 | [v,v1],_=>
  have fin:∀H' L rs,aJ H H'->H L=none->H' L=some (.lst (rs.map V.ref))->dw H' rs (K6 (cQ 7 ns [v,v1] kp))->∀U,H' U=none->Q (.ref U) (upd H' U (.tup [.ref L,.int (fW 7 [v,v1] kp)])):=Ga k;refine⟨_,Y,a,_,0,_,Y,Y,hS,Y,_,Y,a,_,1,_,Y,Y,hS,Y,_,_,Y,Y,_,Y,jQ (λh=>?_) (λh=>?_)⟩
  ·have h':v <v1:=of_decide_eq_true h;exact⟨fc,λt0 n0=>⟨one_le,λL nL=>⟨_,Y,fc,λU nU=>Ba (Q:=λx H'=>∀U,H' U=none->Q (.ref U) (upd H' U (.tup [x,.int (fW 7 [v,v1] kp)]))) Y (by show(1:Int)=if v <v1 then 1 else 0;rw [if_pos h']) fin n0 nL U nU⟩⟩⟩
  ·have h':¬v <v1:=λz=>h (decide_eq_true z);exact⟨fc,λt0 n0=>⟨one_le,λL nL=>⟨_,Y,fc,λU nU=>Ba (Q:=λx H'=>∀U,H' U=none->Q (.ref U) (upd H' U (.tup [x,.int (fW 7 [v,v1] kp)]))) Y (by show(0:Int)=if v <v1 then 1 else 0;rw [if_neg h']) fin n0 nL U nU⟩⟩⟩
theorem Du (T:Txt w K mg t):FO P w K mg base 1 t.qD ["self", "values", "kept"] (fK K t 8):=by
 have sc:=T.lE.sc ["self", "values", "kept"];refine T.lE.F.ok sc ln (λ_ _ _ _ H vs Q E hr h=>?_);obtain⟨p,a,nm,ns,is,os,ws,kp,rfl,hP,ln,hS,lw,hB,k⟩:=h;refine⟨_,(aA (aM (cL (aa (bC (aa (cL (aa au (aa (bB (Ri rfl) (by rfl) T.aah Zi (aa (pv 1) ak aj)) ak aX) az)) (aa (cL (aa au (aa (bB (Ra rfl) (by rfl) T.VR NT (aa (pv 1) ak aj)) ak aX) az)) ak cU) cU)) (aa (pv 2) ak aj) bj)))),?_⟩;obtain⟨dx,tn,ti,to,hp,h2,h3,h4⟩:=id hP.ex;match ws,lw with
 | [v,v1],_=>
  have fin:∀H' L rs,aJ H H'->H L=none->H' L=some (.lst (rs.map V.ref))->dw H' rs (K6 (cQ 8 ns [v,v1] kp))->∀U,H' U=none->Q (.ref U) (upd H' U (.tup [.ref L,.int (fW 8 [v,v1] kp)])):=Ga k;exact⟨_,Y,a,v,v1,Y,hS,fc,λt0 n0=>⟨_,Y,a,v,v1,Y,(aB n0).seq hS,fc,λt1 n1=>⟨fc,λL nL=>⟨_,Y,fc,λU nU=>Xz (Q:=λx H'=>∀U,H' U=none->Q (.ref U) (upd H' U (.tup [x,.int (fW 8 [v,v1] kp)]))) Y Y Y Y fin n0 n1 nL U nU⟩⟩⟩⟩
theorem BV (T:Txt w K mg t):FO P w K mg base 1 t.o8 ["self", "values", "kept"] (fK K t 9):=by
 have sc:=T.kj.sc ["self", "values", "kept"];refine T.kj.F.ok sc ln (λ_ _ _ _ H vs Q E hr h=>?_);obtain⟨p,a,nm,ns,is,os,ws,kp,rfl,hP,ln,hS,lw,hB,k⟩:=h;refine⟨_,(aA (aM (cL (aa (bC (aa (cL (aa au (aa (bc bw (pv 1) au (λ_ _=>Y)) ak aG) az)) ak cU)) (aa (pv 2) ak aj) bj)))),?_⟩;obtain⟨dx,tn,ti,to,hp,h2,h3,h4⟩:=id hP.ex;match ws,lw with
 | [v,v1],_=>
  have fin:∀H' L rs,aJ H H'->H L=none->H' L=some (.lst (rs.map V.ref))->dw H' rs (K6 (cQ 9 ns [v,v1] kp))->∀U,H' U=none->Q (.ref U) (upd H' U (.tup [.ref L,.int (fW 9 [v,v1] kp)])):=Ga k;exact⟨_,Y,a,_,1,_,Y,Y,hS,Y,fc,λt0 n0=>⟨one_le,λL nL=>⟨_,Y,fc,λU nU=>Ba (Q:=λx H'=>∀U,H' U=none->Q (.ref U) (upd H' U (.tup [x,.int (fW 9 [v,v1] kp)]))) Y Y fin n0 nL U nU⟩⟩⟩
theorem DK (T:Txt w K mg t):FO P w K mg base 1 t.qG ["self", "values", "kept"] (fK K t 10):=by
 have sc:=T.lH.sc ["self", "values", "kept"];refine T.lH.F.ok sc ln (λ_ _ _ _ H vs Q E hr h=>?_);obtain⟨p,a,nm,ns,is,os,ws,kp,rfl,hP,ln,hS,lw,hB,k⟩:=h;refine⟨_,(aA (aM (cL (aa (bC (aa (cL (aa (bu cH (bc bw (pv 1) au (λ_ _=>Y)) au) (aa (bc bw (pv 1) au (λ_ _=>Y)) ak aG) bM)) ak cU)) (aa (pv 2) ak aj) bj)))),?_⟩;obtain⟨dx,tn,ti,to,hp,h2,h3,h4⟩:=id hP.ex;match ws,lw with
 | [v,v1],_=>
  have fin:∀H' L rs,aJ H H'->H L=none->H' L=some (.lst (rs.map V.ref))->dw H' rs (K6 (cQ 10 ns [v,v1] kp))->∀U,H' U=none->Q (.ref U) (upd H' U (.tup [.ref L,.int (fW 10 [v,v1] kp)])):=Ga k;exact⟨_,Y,a,_,0,_,Y,Y,hS,Y,_,_,Y,Y,by show(0:Int) <2;decide,_,Y,a,_,1,_,Y,Y,hS,Y,fc,λt0 n0=>⟨one_le,λL nL=>⟨_,Y,fc,λU nU=>Ba (Q:=λx H'=>∀U,H' U=none->Q (.ref U) (upd H' U (.tup [x,.int (fW 10 [v,v1] kp)]))) Y Y fin n0 nL U nU⟩⟩⟩
theorem FQ (T:Txt w K mg t):FO P w K mg base 1 t.rT ["self", "values", "kept"] (fK K t 0):=by
 have sc:=T.mV.sc ["self", "values", "kept"];refine T.mV.F.ok sc ln (λ_ _ _ _ H vs Q E hr h=>?_);obtain⟨p,a,nm,ns,is,os,ws,kp,rfl,hP,ln,hS,lw,hB,k⟩:=h;refine⟨_,(aA (aM (cL (aa (bC (aa (cL (aa au (aa (bc bw (pv 1) au (λ_ _=>Y)) ak aG) az)) ak cU)) (aa (pv 2) ak aj) bj)))),?_⟩;obtain⟨dx,tn,ti,to,hp,h2,h3,h4⟩:=id hP.ex;match ws,lw with
 | [v],_=>
  have fin:∀H' L rs,aJ H H'->H L=none->H' L=some (.lst (rs.map V.ref))->dw H' rs (K6 (cQ 0 ns [v] kp))->∀U,H' U=none->Q (.ref U) (upd H' U (.tup [.ref L,.int (fW 0 [v] kp)])):=Ga k;exact⟨_,Y,a,_,0,_,Y,Y,hS,Y,fc,λt0 n0=>⟨one_le,λL nL=>⟨_,Y,fc,λU nU=>Ba (Q:=λx H'=>∀U,H' U=none->Q (.ref U) (upd H' U (.tup [x,.int (fW 0 [v] kp)]))) Y Y fin n0 nL U nU⟩⟩⟩
theorem El (T:Txt w K mg t):FO P w K mg base 1 t.sr ["self", "values", "kept"] (fK K t 1):=by
 have sc:=T.mX.sc ["self", "values", "kept"];refine T.mX.F.ok sc ln (λ_ _ _ _ H vs Q E hr h=>?_);obtain⟨p,a,nm,ns,is,os,ws,kp,rfl,hP,ln,hS,lw,hB,k⟩:=h;refine⟨_,(aA (aM (cL (aa (bC ak) (aa (pv 2) ak aj) bj)))),?_⟩;obtain⟨dx,tn,ti,to,hp,h2,h3,h4⟩:=id hP.ex;match ws,lw with
 | [v],_=>
  have fin:∀H' L rs,aJ H H'->H L=none->H' L=some (.lst (rs.map V.ref))->dw H' rs (K6 (cQ 1 ns [v] kp))->∀U,H' U=none->Q (.ref U) (upd H' U (.tup [.ref L,.int (fW 1 [v] kp)])):=Ga k;exact⟨by show 0<=sizeLine;decide,λL nL=>⟨_,Y,fc,λU nU=>fin _ L [] (aB nL) nL ao .nil U nU⟩⟩
inductive Cv (vs:List V) (H:Hp) (Q:VK) (E:XK):Prop where
 | mk:∀a b:Int,vs=[.int a,.int b]->Q (.int (cg a b)) H->Cv vs H Q E
theorem bh (T:Txt w K mg t):FO P w K mg base 1 t.Ez ["_law_cell_here", "_law_k"] (Cv):=by
 have sc:=T.bx.sc ["_law_cell_here", "_law_k", "_law_number"];refine T.bx.F.ok sc ln (λ_ _ _ _ H vs Q E hr h=>?_);obtain⟨a,b,rfl,k⟩:=h;refine⟨_,(aq (sN sc 2 (bu cH (bu dF (bu dF (bu j9 (bu cH (pv 0) au) au) (bu j9 au (pv 1))) au) au))
  (aq (sN sc 2 (bu cH (bu j9 (pv 2) (pv 2)) au))
  (aA (aM (bu cH (bu j9 (bu dF (pv 2) (bu j9 au (pv 1))) (pv 2)) au))))),?_⟩
 refine⟨_,Y,_,_,Y,Y,by show(0:Int) <2147483647;decide,_,_,Y,Y,KH,_,Y,_,_,Y,Y,iT,_,_,Y,Y,_,_,Y,Y,_,_,Y,Y,by show(0:Int) <2147483647;decide,?_⟩;unfold cg at k;have y0:0<=(a % 2147483647 * 48271+7919 * b+11) % 2147483647:=emod_nonneg _ (by decide);have y1:(a % 2147483647 * 48271+7919 * b+11) % 2147483647 <2147483647:=emod_lt_of_pos _ (by decide);refine⟨_,Y,_,Y,_,_,Y,Y,.of_right (intBits_le_64 (Int.lt_of_lt_of_le (show -(2 ^ 64) <(0:Int) by decide) y0) (Int.lt_trans y1 (by decide))),_,_,Y,Y,by show(0:Int) <2147483629;decide,?_⟩;have z0:0<=((a % 2147483647 * 48271+7919 * b+11) % 2147483647) * ((a % 2147483647 * 48271+7919 * b+11) % 2147483647) % 2147483629:=emod_nonneg _ (by decide);have z1:((a % 2147483647 * 48271+7919 * b+11) % 2147483647) * ((a % 2147483647 * 48271+7919 * b+11) % 2147483647) % 2147483629 <2147483629:=emod_lt_of_pos _ (by decide);exact⟨_,Y,_,Y,_,_,Y,Y,iT,_,_,Y,Y,_,Y,_,_,Y,Y,.of_right (intBits_le_64 (Int.lt_of_lt_of_le (show -(2 ^ 64) <(0:Int) by decide) z0) (Int.lt_trans z1 (by decide))),_,_,Y,Y,by show(0:Int) <2147483587;decide,k⟩
inductive Ai (K:Fr) (vs:List V) (H:Hp) (Q:VK) (E:XK):Prop where
 | mk:∀(a:Addr) (ns:List Int) (j:Nat),vs=[.ref a,.int (j:Nat)]->bJ K H a (ns.map V.int)->Q (.int (jW ns j)) H->Ai K vs H Q E
theorem lC (T:Txt w K mg t):FO P w K mg base 1 t.Cr ["_law_script", "_law_k"] (Ai K):=by
 have sc:=T.jE.sc ["_law_script", "_law_k"];refine T.jE.F.ok sc ln (λ_ _ _ _ H vs Q E hr h=>?_);obtain⟨a,ns,j,rfl,hS,k⟩:=h;refine⟨_,(aq (bU (bz zR (pv 1) (bB bV (by rfl) T.fY dC (aa (pv 0) ak aj)) (bN _))
   (aA (aM (bc bw (pv 0) (pv 1) (λ_ _=>rfl))))
   bA)
  (aA (aM (bu dF (bu j9 au (pv 1)) au)))),?_⟩
 unfold jW at k;refine⟨_,Y,_,Y,.ref a,ns.length,Y,.inl ⟨_,hS,by simp⟩,_,_,Y,Y,_,Y,jQ (λh=>?_) (λh=>?_)⟩
 ·have h':j <ns.length:=by have:=of_decide_eq_true h;omega
  rw [getElem?_eq_getElem h'] at k;exact⟨_,rfl,_,rfl,a,_,j,_,rfl,rfl,hS,aO (by rw [getElem?_map,getElem?_eq_getElem h'];rfl),k⟩
 ·have h':¬j <ns.length:=λz=>h (decide_eq_true (by omega));rw [getElem?_eq_none (by omega)] at k;exact⟨_,Y,_,_,Y,Y,iT,_,_,Y,Y,k⟩
inductive xY (vs:List V) (H:Hp) (Q:VK) (E:XK):Prop where
 | mk:∀a b:Int,vs=[.int a,.int b]->Q (.int (qd a b)) H->xY vs H Q E
theorem gY (T:Txt w K mg t):FO P w K mg base 2 t.yX ["_law_cell_here", "_law_k"] (xY):=by
 have sc:=T.fV.sc ["_law_cell_here", "_law_k", "_law_number", "_law_way"];refine T.fV.F.ok sc ln (λ_ _ _ _ H vs Q E hr h=>?_);obtain⟨a,b,rfl,k⟩:=h;refine⟨_,(aq (sN sc 2 (dX (bh T) T.bx hr (aa (pv 0) (aa (pv 1) ak aj) aj)))
  (aq (sN sc 3 (bu cH (bu SX (pv 2) au) au))
  (aq (bU (bz gA (pv 3) au (bN _))
   (aA (aM (bu cH (pv 2) au)))
   bA)
  (aq (bU (bz gA (pv 3) au (bN _))
   (aA (aM (bu cH (pv 2) (bu Oa au au))))
   bA)
  (aA (aM (bu Om (bu Om (bu Oa au au) au) (bu cH (pv 2) au)))))))),?_⟩
 refine⟨_,Y,_,Y,a,b,Y,?_⟩;unfold qd at k;have n0:=Ck a b;generalize cg a b=n at n0 k ⊢;refine⟨_,Y,_,_,Y,Y,aaK (by decide) (by decide),_,_,Y,Y,by show(0:Int) <3;decide,?_⟩;refine⟨_,Y,Y,_,Y,jQ (λh=>?_) (λh=>?_)⟩
 ·have h':n / 7 % 3=0:=by simpa using of_decide_eq_true h
  rw [if_pos h'] at k;exact⟨_,Y,_,_,Y,Y,by show(0:Int) <5;decide,k⟩
 have h':¬n / 7 % 3=0:=λz=>h (decide_eq_true (by show V.int (n / 7 % 3)=V.int 0;rw [z]));rw [if_neg h'] at k;refine⟨_,Y,Y,_,Y,jQ (λh2=>?_) (λh2=>?_)⟩
 ·have h2':n / 7 % 3=1:=by simpa using of_decide_eq_true h2
  rw [if_pos h2'] at k;exact⟨_,Y,_,_,Y,Y,⟨by decide,by decide,by decide⟩,_,_,Y,Y,by show(0:Int) <10 ^ 9;decide,k⟩
 have h2':¬n / 7 % 3=1:=λz=>h2 (decide_eq_true (by show V.int (n / 7 % 3)=V.int 1;rw [z]));rw [if_neg h2'] at k;exact⟨_,_,Y,Y,⟨by decide,by decide,by decide⟩,_,_,Y,Y,_,Y,_,_,Y,Y,by show(0:Int) <3;decide,_,_,Y,Y,k⟩
theorem Q7 {x y:Str} (h:x.cps.toList=y.cps.toList):x=y:=PyProof.Rows.ext_toList h
theorem Rb {n:Int} (h0:0<=n) (h1:n <2000):n.natAbs.log2 <1920:=by
 by_cases z:n.natAbs=0
 ·rw [z];decide
 ·have:n.natAbs.log2 <11:=(Nat.log2_lt z).mpr (by omega);omega
theorem join_ones (cs:List Nat):(Txt.join Str.empty (cs.map λc=>(⟨#[c]⟩:Str))).cps.toList=cs:=by
 unfold Txt.join;rw [StrLaws.glued_eq_join,EY];induction cs with
 | nil=>rfl
 | cons c r ih=>simpa using ih
theorem Y8 {x:Str} {n:Nat} (h:n<=x.length):(Txt.slice x none (some (n:Int))).cps.toList=x.cps.toList.take n:=by have e:=beq_iff_eq.mp (PyProof.Rows.slice_closes_toL (x:=x) (j:=(n:Int)) (by omega) (by omega));rw [e];simp
theorem U5 {x:Str} {n:Nat} (h:n<=x.length):(Txt.slice x (some (n:Int)) none).cps.toList=x.cps.toList.drop n:=by have e:=PyProof.Rows.slice_from_eq (x:=x) (i:=(n:Int)) (b:=(x.length:Int)) (by omega) (by omega) rfl;rw [e];show List.take ((x.length:Int) - n).toNat (List.drop ((n:Int)).toNat x.cps.toList)=_;rw [toNat_natCast,take_of_length_le (by rw [length_drop,pQ];omega)]
inductive zz (vs:List V) (H:Hp) (Q:VK) (E:XK):Prop where
 | mk:∀(a:Int) (b:Nat),vs=[.int a,.int (b:Nat)]->b<=25->(∀H':Hp,aJ H H'->Q (.str (dm a b)) H')->zz vs H Q E
noncomputable abbrev Dc:List Str:=["_law_cell_here", "_law_k", "_law_letters", "_law_many", "_law_base", "_law_at"]
theorem pN (T:Txt w K mg t):FO P w K mg base 2 t.Dj ["_law_cell_here", "_law_k"] (zz):=by
 have sc:=T.kW.sc Dc;refine T.kW.F.ok sc ln (λ_ _ _ _ H vs Q E hr h=>?_);obtain⟨a,b,rfl,b1,k⟩:=h;refine⟨_,(aq (sN sc 2 bQ)
  (aq (bU (bz gA (bu cH (dX (bh T) T.bx hr (aa (pv 0) (aa au ak az) aj)) au) au (bN _))
   (aA (aM (bu yD (bc Fb (pv 2) (bu cH (dX (bh T) T.bx hr (aa (pv 0) (aa au ak az) aj)) au) (λ_ _=>rfl)) (gf J7 (by rfl) T.Yc Us (aa (bu dF (bu cH (dX (bh T) T.bx hr (aa (pv 0) (aa au ak az) aj)) au) (bu j9 au (pv 1))) ak bM)))))
   bA)
  (aq (sN sc 3 (bu cH (dX (bh T) T.bx hr (aa (pv 0) (aa au ak az) aj)) au))
  (aq (sN sc 4 (Aw PySem.F.plainAttrs_str PySem.F.slot_str_join PySem.F.type_str_join W9 bQ (aa (eY [0,2] Dc (aZ (top 75)) rfl (gJ rfl T.jT (aa (pv 3) ak aj)) (λ_ _ _ _ _=>gj) (λ_ _ _ _ _=>(bc Fb (pv 2) (bu cH (dX (bh T) T.bx hr (aa (pv 1) (aa (bu dF au (pv 0)) ak bM) aj)) au) (λ_ _=>rfl)))) ak ie)))
  (aq (sN sc 5 (bu cH (dX (bh T) T.bx hr (aa (pv 0) (aa au ak az) aj)) (bu dF (pv 3) au)))
  (aA (aM (bu yD (bu yD (jy UG (pv 4) mF (jD (pv 5))) (bc Fb (pv 2) (bu cH (bu dF (dX (bh T) T.bx hr (aa (pv 0) (aa au ak az) aj)) (pv 1)) au) (λ_ _=>rfl))) (jy UG (pv 4) (jD (pv 5)) mF))))))))),?_⟩
 have hl:sizeLine=16777216:=sizeLine_eq;have hF:(dm a b).cps.toList=CQ a b:=Fv a b;unfold CQ at hF;refine⟨_,Y,_,_,Y,⟨_,_,Y,Y,by show(0:Int) <3;decide,Y,_,Y,jQ (λhw=>?_) (λhw=>?_)⟩⟩
 ·have hw':cg a 52 % 3=0:=by simpa using of_decide_eq_true hw
  rw [if_pos hw'] at hF;refine⟨_,Y,_,Y,_,_,Y,?_⟩;refine⟨_,_,Y,Y,by show(0:Int) <26;decide,LT,_,_,Y,Y,by rw [Ol];omega,VN _,?_⟩;refine⟨_,Y,_,_,Y,⟨_,_,Y,Y,by show(0:Int) <1000;decide,_,Y,_,_,Y,Y,iT,_,_,Y,Y,?_⟩⟩;have q0:=emod_nonneg (cg a 54) (show(1000:Int)≠0 by decide);have q1:=emod_lt_of_pos (cg a 54) (show(0:Int) <1000 by decide);obtain⟨m,hm⟩:∃m:Nat,cg a 54 % 1000+37 * (b:Int)=(m:Int):=⟨(cg a 54 % 1000+37 * (b:Int)).toNat,by omega⟩;obtain⟨_,g2,_⟩:=xm (n:=m) (by omega);have g3:(toString (m:Int):Str).length<=4:=by rw [<-pQ];exact g2
  have e:(⟨#[Ml (cg a 53)]⟩:Str) ++ (toString (m:Int):Str)=dm a b:=Q7 (by rw [hF,Str.cps_append,hm,toNat_natCast];simp only [Array.toList_append];rfl)
  have k':=k H (aJ.refl _);rw [<-e] at k';dsimp only;rw [hm];exact⟨_,Y,Rb (by omega) (by omega),_,_,Y,Y,by show 1+_<=sizeLine;omega,k'⟩
 have hw':¬cg a 52 % 3=0:=λz=>hw (decide_eq_true (by show V.int (cg a 52 % 3)=V.int 0;rw [z]));rw [if_neg hw'] at hF;refine⟨_,Y,_,_,Y,⟨_,_,Y,Y,by show(0:Int) <7;decide,?_⟩⟩;have z0:=emod_nonneg (cg a 50) (show(7:Int)≠0 by decide);have z1:=emod_lt_of_pos (cg a 50) (show(0:Int) <7 by decide);refine⟨Y,_,Y,cg a 50 % 7,Y,by omega,by omega,?_⟩;refine jc (λi ys H'=>H'=H/\ys=((List.range i).map λj=>Ml (cg a (60+(j:Nat)))).map λc=>V.str ⟨#[c]⟩) (by omega) ⟨Y,Y⟩ (λi ys H' ⟨_,e⟩=>by rw [e,lM,lM,length_range];omega) ?_ ?_
 ·rintro i ys H' hi ⟨rfl,rfl⟩;refine yes ?_;refine⟨_,Y,_,Y,_,Y,_,_,Y,Y,_,_,Y,?_⟩;refine⟨_,_,rfl,rfl,by show(0:Int) <26;decide,LT,_,_,rfl,rfl,by rw [Ol];omega,VN _,rfl,?_⟩;rw [range_succ,map_append,map_append];simp
 rintro ys H' ⟨rfl,rfl⟩ D hD;have eb:((List.range (cg a 50 % 7).toNat).map λj=>Ml (cg a (60+(j:Nat))))=iU a:=rfl;rw [eb];have s1:aJ H' (upd H' D (.lst ((iU a).map λc=>V.str ⟨#[c]⟩))):=aB hD;have bl:=(Ef a).1;have es:((iU a).map λc=>V.str ⟨#[c]⟩)=((iU a).map λc=>(⟨#[c]⟩:Str)).map V.str:=by rw [map_map];rfl
 refine⟨Str.empty,D,(iU a).map λc=>(⟨#[c]⟩:Str),Y,Y,bJ.of (by rw [<-es];exact ao),?_,?_⟩
 ·have:=S7 (n:=1) ((iU a).map λc=>(⟨#[c]⟩:Str)) λw h=>by obtain⟨c,_,rfl⟩:=mem_map.mp h;exact le_refl 1
  have he:Str.empty.length=0:=rfl;rw [he];rw [lM] at this;omega
 have ej:=join_ones (iU a);generalize upd H' D (.lst ((iU a).map λc=>V.str ⟨#[c]⟩))=H1 at s1 ⊢;generalize Txt.join Str.empty ((iU a).map λc=>(⟨#[c]⟩:Str))=x0 at ej ⊢;have hx0:x0.length=(iU a).length:=by rw [<-pQ,ej]
 refine⟨_,Y,_,_,Y,⟨_,Y,_,_,Y,Y,_,_,Y,Y,by show(0:Int) <cg a 50 % 7+1;omega,?_⟩⟩;have hsp:=Qh a;obtain⟨n,hn,hn2⟩:∃n:Nat,cg a 51 % (cg a 50 % 7+1)=(n:Int)/\n=rG a:=⟨rG a,(Int.toNat_of_nonneg (emod_nonneg _ (by omega))).symm,rfl⟩;rw [<-hn2] at hsp hF;dsimp only;rw [hn];have s0:=Txt.slice_le x0 none (some (n:Int));have s2:=Txt.slice_le x0 (some (n:Int)) none;refine⟨_,Y,_,Y,_,Y,x0,Y,by omega,_,Y,_,Y,_,_,Y,⟨_,Y,_,_,Y,Y,?_⟩⟩;have h1:(⟨#[Ml (cg a 55+(b:Int))]⟩:Str).length=1:=rfl;refine⟨_,_,rfl,rfl,by show(0:Int) <26;decide,LT,_,_,rfl,rfl,by rw [Ol];omega,VN _,_,_,rfl,rfl,by rw [h1];omega,?_⟩;refine⟨_,Y,_,Y,_,Y,x0,Y,by omega,_,_,Y,Y,by rw [Str.length_append,h1];omega,?_⟩;have e:Txt.slice x0 none (some (n:Int)) ++ (⟨#[Ml (cg a 55+(b:Int))]⟩:Str) ++ Txt.slice x0 (some (n:Int)) none=dm a b:=Q7 (by rw [hF,Str.cps_append,Str.cps_append];simp only [Array.toList_append];rw [Y8 (by omega),U5 (by omega),ej];simp)
 rw [e];exact k H1 s1
theorem aaM (m:Int):∃c:Nat,Hw [V.int 0,.int 0,.int 0,.int 1,.int 2] (m % 5)=some (.int (c:Nat))/\c<=2:=by
 have key:∀j,j <5->Hw [V.int 0,.int 0,.int 0,.int 1,.int 2] ((j:Nat):Int)=some (.int (([0,0,0,1,2]:List Nat).getD j 0:Nat))/\([0,0,0,1,2]:List Nat).getD j 0<=2:=by decide +kernel
 obtain⟨j,e,hj⟩:=Pr m (n:=5) (k:=5) (by decide) rfl;rw [e];exact⟨_,key j hj⟩
theorem aap (m:Int):∃c:Nat,Hw [V.int 0,.int 0,.int 1,.int 1,.int 2,.int 7] (m % 6)=some (.int (c:Nat))/\c<=7:=by
 have key:∀j,j <6->Hw [V.int 0,.int 0,.int 1,.int 1,.int 2,.int 7] ((j:Nat):Int)=some (.int (([0,0,1,1,2,7]:List Nat).getD j 0:Nat))/\([0,0,1,1,2,7]:List Nat).getD j 0<=7:=by decide +kernel
 obtain⟨j,e,hj⟩:=Pr m (n:=6) (k:=6) (by decide) rfl;rw [e];exact⟨_,key j hj⟩
inductive Ax (vs:List V) (H:Hp) (Q:VK) (E:XK):Prop where
 | mk:∀(d:Dw) (ls:List aD) (ps:List PD) (os:List Str) (c:Int) (b:Bool),vs=[.ref d.S,.int c,.bl b]->pP d H ls ps os->ls.length<=24->(∀(l:aD) (H':Hp),l.name=dm d.c3 ls.length->aJ (aQ d.E H) (aQ d.E H')->pP d H' (ls ++ [l]) ps os->Q (.str l.name) H')->Ax vs H Q E
noncomputable abbrev Cp:List Str:=["_law_state", "_law_cell_here", "_law_back", "_law_many", "_law_first", "_law_room", "_law_name"]
theorem lF (T:Txt w K mg t):FO P w K mg base 3 t.Dr ["_law_state", "_law_cell_here", "_law_back"] (Ax):=by
 have sc:=T.jM.sc Cp;refine T.jM.F.ok sc ln (λ_ _ _ _ H vs Q E hr h=>?_);obtain⟨d,ls,ps,os,c,b,rfl,D,hn,k⟩:=h;refine⟨_,(aq (sN sc 3 (bc bw (bC (aa au (aa au (aa au (aa au (aa au ak az) az) az) az) az)) (bu cH (dX (bh T) T.bx hr (aa (pv 1) (aa au ak az) aj)) au) (λ_ _=>Y)))
  (aq (il (bU (jZ (pv 2))
   (aA (sN sc 3 (bu cH (dX (bh T) T.bx hr (aa (pv 1) (aa au ak az) aj)) au)))
   bA))
  (aq (jJ (i:=4) [1] Cp (aZ (top 76)) rfl sc.nd rfl (gJ rfl T.jT (aa (pv 3) ak aj)) (λ_ _ _ _ _=>gj) (λ_ _ _ _ _=>(dX (gY T) T.fV hr (aa (pv 1) (aa (bu dF au (pv 0)) ak bM) aj))))
  (aq (sN sc 5 (bu dF (bB (Jl rfl) (by rfl) T.VR NT (aa au (aa (pv 3) ak aj) az)) (bc bw (bC (aa au (aa au (aa au (aa au (aa au (aa au ak az) az) az) az) az) az)) (bu cH (dX (bh T) T.bx hr (aa (pv 1) (aa au ak az) aj)) au) (λ_ _=>rfl))))
  (aq (sN sc 6 (dX (pN T) T.kW hr (aa (bc bw (pv 0) au (λ_ _=>rfl)) (aa (bB bV (by rfl) T.fY dC (aa (bc bw (pv 0) au (λ_ _=>rfl)) ak aG)) ak aX) aG)))
  (aq (bI (Ho (bc bw (pv 0) au (λ_ _=>rfl)) (aa (cL (aa (pv 6) (aa (pv 5) (aa (pv 4) ak aj) aj) aj)) ak cU)))
  (aA (aM (pv 6))))))))),?_⟩
 have hl:sizeLine=16777216:=sizeLine_eq;refine⟨jB,λl0 n0=>?_⟩;have s0:=aB (o:=.lst [.int 0,.int 0,.int 0,.int 1,.int 2]) n0;obtain⟨c0,e0,h0⟩:=aaM (cg c 1);refine⟨_,Y,_,_,Y,_,_,Y,Y,by show(0:Int) <5;decide,l0,_,_,_,Y,Y,bJ.of ao,e0,?_⟩;generalize upd H l0 (.lst [.int 0,.int 0,.int 0,.int 1,.int 2])=H0 at s0 ⊢;refine⟨λσ H1=>∃m:Nat,m<=3/\H1=H0/\σ=[some (.ref d.S),some (.int c),some (.bl b),some (.int (m:Nat)),none,none,none],?_,?_⟩
 ·cases b
  ·exact⟨_,Y,false,Y,dz ⟨c0,by omega,Y,Y⟩⟩
  ·refine⟨_,Y,true,Y,iy ⟨_,Y,_,_,Y,_,_,Y,Y,by show(0:Int) <4;decide,?_⟩⟩;have h1:=emod_nonneg (cg c 1) (show(4:Int)≠0 by decide);have h2:=emod_lt_of_pos (cg c 1) (show(0:Int) <4 by decide);refine⟨(cg c 1 % 4).toNat,by omega,Y,?_⟩;rw [Int.toNat_of_nonneg h1];rfl
 rintro σ H1 ⟨m,hm,rfl,rfl⟩;refine⟨_,Y,(m:Int),Y,by omega,by omega,?_⟩;rw [toNat_natCast];refine jc (λi ys H'=>H'=H1/\∃ws:List Int,ys=ws.map V.int/\ws.length=i/\∀v∈ws,0<=v/\v <1000000000) (by omega) ⟨Y,[],Y,Y,by simp⟩ (λi ys H' ⟨_,ws,e,e2,_⟩=>by rw [e,lM];omega) ?_ ?_
 ·rintro i ys H' hi ⟨rfl,ws,rfl,hw,hB⟩;refine yes ⟨_,Y,_,Y,_,_,Y,Y,c,10+(0+(i:Int)),Y,Y,ws ++ [qd c (10+(0+(i:Int)))],by simp,by simp [hw],λv hv=>?_⟩;rcases mem_append.mp hv with hv | hv
  ·exact hB v hv
  ·rw [mem_singleton] at hv;subst hv;exact my _ _
 rintro ys H' ⟨rfl,ws,rfl,hw,hB⟩ F nF;have t1:=aB (o:=.lst (ws.map V.int)) nF;have sF:=s0.trans t1;have eF:upd H' F (.lst (ws.map V.int)) F=some (.lst (ws.map V.int)):=ao;have oF:F∉d.E:=D.out (s0.free nF);generalize upd H' F (.lst (ws.map V.int))=H2 at t1 sF eF ⊢;refine⟨_,Y,_,_,Y,jB,λl1 n1=>?_⟩;have t2:=aB (o:=.lst [.int 0,.int 0,.int 1,.int 1,.int 2,.int 7]) n1;obtain⟨c1,e1,h1⟩:=aap (cg c 2);refine⟨_,Y,_,_,Y,_,_,Y,Y,by show(0:Int) <6;decide,l1,_,_,_,Y,Y,bJ.of ao,e1,_,_,Y,Y,?_⟩;have s2:=sF.trans t2;have eF2:=t2 _ _ eF;generalize upd H2 l1 (.lst [.int 0,.int 0,.int 1,.int 1,.int 2,.int 7])=H3 at t2 s2 eF2 ⊢;have D3:=D.keep s2;obtain⟨xs,eL,aL⟩:=D3.lanes;have xl:=aL.length;refine⟨_,Y,d.S,_,3,_,Y,Y,D3.seqS,aO (j:=3) Y,?_⟩;refine⟨_,Y,d.S,_,0,_,Y,Y,D3.seqS,aO (j:=0) Y,.ref d.L,ls.length,Y,.inl ⟨_,bJ.of eL,xl.symm⟩,?_⟩;refine⟨d.c3,ls.length,Y,by omega,λH4 s4=>?_⟩;have D4:=D3.keep s4;have eL4:=s4 _ _ eL;have eF4:=s4 _ _ eF2;have s04:=s2.trans s4;refine⟨_,Y,d.S,_,0,_,Y,Y,D4.seqS,aO (j:=0) Y,?_⟩;refine⟨.inl ⟨Y,_,bJ.of eL4⟩,_,Y,_,Y,_,Y,jB,λq nq=>?_⟩;have t5:=aB (o:=.tup [.str (dm d.c3 ls.length),.int ((if (m:Int) >1 then(m:Int) else 1)+(c1:Int)),.ref F]) nq;have s5:=s04.trans t5;have D5:=D4.keep t5;have oq:q∉d.E:=D4.out nq;have eq:upd H4 q (.tup [.str (dm d.c3 ls.length),.int ((if (m:Int) >1 then(m:Int) else 1)+(c1:Int)),.ref F]) q=some (.tup [.str (dm d.c3 ls.length),.int ((if (m:Int) >1 then(m:Int) else 1)+(c1:Int)),.ref F]):=ao;have eL5:=t5 _ _ eL4;have eF5:=t5 _ _ eF4;refine⟨d.L,xs,_,Y,Y,eL5,by omega,_,Y,?_⟩;refine k ⟨dm d.c3 ls.length,(if (m:Int) >1 then(m:Int) else 1)+(c1:Int),ws⟩ _ rfl ?_ (D5.lane ⟨q,F,rfl,bL eq oq,bL eF5 oF⟩ ⟨by dsimp only;split <;> omega,by dsimp only;split <;> omega,by dsimp only;split <;> omega,hB⟩ rfl eL5);rw [dH (by simp)];exact D.cut s5
theorem pop_at:∀{os:List Str} {j:Nat} (h:j <os.length),os.Perm (os[j]:: os.eraseIdx j)
 | [],_,h=>absurd h (by simp)
 | a:: l,0,_=>.refl _
 | a:: l,j+1,h=>by
  have h':j <l.length:=by simpa using h
  show(a:: l).Perm (l[j]:: a:: l.eraseIdx j);exact((pop_at (os:=l) (j:=j) (by simpa using h)).cons a).trans (.swap _ _ _)
theorem Im {α β:Type} {f:α->β}:∀(l:List α) (j:Nat),(l.map f).eraseIdx j=(l.eraseIdx j).map f
 | [],_=>rfl
 | a:: l,0=>rfl
 | a:: l,j+1=>by show f a:: (l.map f).eraseIdx j=f a:: (l.eraseIdx j).map f;rw [Im l j]
theorem NP {j n:Nat} (h:j <n):seqIndex? (j:Int) n=some j:=by
 unfold seqIndex?;have z:¬(j:Int) <0:=by omega
 simp [h,z]
inductive zT (vs:List V) (H:Hp) (Q:VK) (E:XK):Prop where
 | mk:∀(d:Dw) (ls:List aD) (ps:List PD) (os:List Str) (n:Int),vs=[.ref d.S,.int n]->pP d H ls ps os->os≠[]->os.length<=100->(∀(x:Str) (os':List Str) (H':Hp),os.Perm (x:: os')->aJ (aQ d.E H) (aQ d.E H')->pP d H' ls ps os'->Q (.str x) H')->zT vs H Q E
theorem ud (T:Txt w K mg t):FO P w K mg base 1 t.Dn ["_law_state", "_law_number"] (zT):=by
 have sc:=T.oH.sc ["_law_state", "_law_number"];refine T.oH.F.ok sc ln (λ_ _ _ _ H vs Q E hr h=>?_);obtain⟨d,ls,ps,os,n,rfl,D,hne,hs,k⟩:=h;refine⟨_,(aA (aM (Aw PySem.F.plainAttrs_list PySem.F.slot_list_pop PySem.F.type_list_pop Fi (bc bw (pv 0) au (λ_ _=>rfl)) (aa (bu cH (pv 1) (bB bV (by rfl) T.fY dC (aa (bc bw (pv 0) au (λ_ _=>rfl)) ak aG))) ak bM)))),?_⟩;have hpos:0 <os.length:=List.length_pos_iff.mpr hne;refine⟨_,Y,d.S,_,2,_,Y,Y,D.seqS,aO (j:=2) Y,.inl ⟨Y,_,bJ.of D.opens⟩,?_⟩;refine⟨_,Y,_,Y,d.S,_,2,_,Y,Y,D.seqS,aO (j:=2) Y,.ref d.O,os.length,Y,.inl ⟨_,bJ.of D.opens,by simp⟩,n,(os.length:Int),Y,Y,by omega,?_⟩;have h0:=emod_nonneg n (show(os.length:Int)≠0 by omega);have h1:=emod_lt_of_pos n (show(0:Int) <(os.length:Int) by omega);obtain⟨j,hj⟩:∃j:Nat,n % (os.length:Int)=(j:Int):=⟨(n % (os.length:Int)).toNat,by omega⟩;have hj':j <os.length:=by omega
 refine⟨d.O,_,(j:Int),j,.str os[j],rfl,by show [V.int (n % (os.length:Int))]=_;rw [hj],D.opens,by omega,by omega,by rw [lM];exact NP hj',by rw [getElem?_map,getElem?_eq_getElem hj'];rfl,?_⟩;rw [Im];exact k os[j] (os.eraseIdx j) _ (pop_at hj') (by rw [dH (by simp)];exact aJ.refl _) D.open
inductive Ae (vs:List V) (H:Hp) (Q:VK) (E:XK):Prop where
 | mk:∀(d:Dw) (ls:List aD) (ps:List PD) (os:List Str) (c:Int) (i:Nat) (a1 a2:Addr) (nums:List Int) (ins:List Str) (many:Nat),vs=[.ref d.S,.int c,.str (fD i),.ref a1,.ref a2,.int (many:Nat)]->pP d H ls ps os->aQ d.E H a1=some (.lst (nums.map V.int))->aQ d.E H a2=some (.lst (ins.map V.str))->i <11->nums.length=cN i->((∀v∈nums,0<=v/\v <1000000000))->ins.length=cI i->many=cO i->ls.length<=22->ps.length<=25->os.length<=100->(∀(newl:List aD) (H':Hp),newl.length=many->aJ (aQ d.E H) (aQ d.E H')->pP d H' (ls ++ newl) (ps ++ [⟨i,dm d.c4 ps.length,nums,ins,newl.map (·.name)⟩]) (os ++ newl.map (·.name))->Q .non H')->Ae vs H Q E
noncomputable abbrev Dg:List Str:=["_law_state", "_law_cell_here", "_law_kind", "_law_numbers", "_law_ins", "_law_many", "_law_outs"]
theorem dj (T:Txt w K mg t):FO P w K mg base 4 t.Dl ["_law_state", "_law_cell_here", "_law_kind", "_law_numbers", "_law_ins", "_law_many"] (Ae):=by
 have sc:=T.cP.sc Dg;refine T.cP.F.ok sc ln (λ_ _ _ _ H vs Q E hr h=>?_);obtain⟨d,ls,ps,os,c,i,a1,a2,nums,ins,many,rfl,D,e1,e2,hi,hN,hB,hI,hO,hls,hps,hos,k⟩:=h;refine⟨_,(aq (jJ (i:=6) [0,1] Dg (aZ (top 77)) Y sc.nd Y (gJ Y T.jT (aa (pv 5) ak aj)) (λ_ _ _ _ _=>gj) (λ_ _ _ _ _=>(dX (lF T) T.jM hr (aa (pv 1) (aa (dX (bh T) T.bx hr (aa (pv 2) (aa (bu dF au (pv 0)) ak bM) aj)) (aa nj ak az) aX) aj))))
  (aq (bI (Ho (bc bw (pv 0) au (λ_ _=>rfl)) (aa (cL (aa (pv 2) (aa (dX (pN T) T.kW hr (aa (bc bw (pv 0) au (λ_ _=>rfl)) (aa (bB bV (by rfl) T.fY dC (aa (bc bw (pv 0) au (λ_ _=>rfl)) ak aG)) ak aX) aG)) (aa (pv 3) (aa (pv 4) (aa (pv 6) ak aj) aj) aj) aX) aj)) ak cU)))
  (aA (bI (Aw PySem.F.plainAttrs_list PySem.F.slot_list_extend PySem.F.type_list_extend Ij (bc bw (pv 0) au (λ_ _=>rfl)) (aa (pv 6) ak aj)))))),?_⟩
 have hl:sizeLine=16777216:=sizeLine_eq;have hm2:many<=2:=by rw [hO];exact Uu i
 refine⟨_,Y,(many:Int),Y,by omega,by omega,?_⟩;rw [toNat_natCast];refine jc (λi ys H'=>∃newl:List aD,newl.length=i/\ys=newl.map (λl=>V.str l.name)/\aJ (aQ d.E H) (aQ d.E H')/\pP d H' (ls ++ newl) ps os) (by omega) ⟨[],Y,Y,aJ.refl _,by rw [append_nil];exact D⟩ (λi ys H' ⟨newl,e,e2,_⟩=>by rw [e2,lM];omega) ?_ ?_
 ·rintro j ys H' hj ⟨newl,hn,rfl,s,D'⟩;refine yes ⟨_,Y,_,Y,_,Y,_,_,Y,Y,c,20+(0+(j:Int)),Y,?_⟩;refine⟨d,ls ++ newl,ps,os,_,false,Y,D',by rw [lP];omega,λl H1 _ s1 D1=>?_⟩;exact⟨newl ++ [l],by simp [hn],by simp,s.trans s1,by rw [<-append_assoc];exact D1⟩
 rintro ys H1 ⟨newl,hn,rfl,s1,D1⟩ F nF;have t1:=aB (o:=.lst (newl.map λl=>V.str l.name)) nF;have eF:upd H1 F (.lst (newl.map λl=>V.str l.name)) F=some (.lst ((newl.map (·.name)).map V.str)):=by rw [map_map];exact ao
 have oF:=D1.out nF;have D2:=D1.keep t1;have s2:=s1.trans (D1.cut t1);generalize upd H1 F (.lst (newl.map λl=>V.str l.name))=H2 at t1 eF D2 s2 ⊢;obtain⟨xs,eP,aP⟩:=D2.parts;have xl:=aP.length;refine⟨_,Y,d.S,_,1,_,Y,Y,D2.seqS,aO (j:=1) Y,.inl ⟨Y,_,bJ.of eP⟩,?_⟩;refine⟨_,Y,_,Y,d.S,_,4,_,Y,Y,D2.seqS,aO (j:=4) Y,?_⟩;refine⟨_,Y,d.S,_,1,_,Y,Y,D2.seqS,aO (j:=1) Y,.ref d.P,ps.length,Y,.inl ⟨_,bJ.of eP,xl.symm⟩,?_⟩;refine⟨d.c4,ps.length,Y,by omega,λH3 s3=>?_⟩;have D3:=D2.keep s3;have t3:=s2.trans (D2.cut s3);have eP3:=s3 _ _ eP;have eF3:=s3 _ _ eF;refine⟨_,Y,_,Y,_,Y,jB,λq nq=>?_⟩;have s4:=aB (o:=.tup [.str (fD i),.str (dm d.c4 ps.length),.ref a1,.ref a2,.ref F]) nq;have D4:=D3.keep s4;have t4:=t3.trans (D3.cut s4);have eP4:=s4 _ _ eP3;have eF4:=s4 _ _ eF3;have oq:=D3.out nq;have eq:upd H3 q (.tup [.str (fD i),.str (dm d.c4 ps.length),.ref a1,.ref a2,.ref F]) q=some (.tup [.str (fD i),.str (dm d.c4 ps.length),.ref a1,.ref a2,.ref F]):=ao;refine⟨d.P,xs,_,Y,Y,eP4,by omega,?_⟩;generalize upd H3 q (.tup [.str (fD i),.str (dm d.c4 ps.length),.ref a1,.ref a2,.ref F])=H4 at s4 D4 t4 eP4 eF4 eq ⊢;have D5:=D4.part (p:=⟨i,dm d.c4 ps.length,nums,ins,newl.map (·.name)⟩) ⟨q,a1,a2,F,rfl,bL eq oq,t4 _ _ e1,t4 _ _ e2,bL eF4 oF⟩ ⟨hi,hN,hI,by show(newl.map _).length=_;rw [lM,hn];exact hO,hB⟩ rfl eP4;have hcu:aQ d.E (upd H4 d.P (.lst (xs ++ [.ref q])))=aQ d.E H4:=dH (by simp);have eF5:upd H4 d.P (.lst (xs ++ [.ref q])) F=some (.lst ((newl.map (·.name)).map V.str)):=by rw [aK (λz=>oF (by rw [z];simp))];exact eF4
 generalize upd H4 d.P (.lst (xs ++ [.ref q]))=H5 at D5 hcu eF5 ⊢;refine⟨_,Y,d.S,_,2,_,Y,Y,D5.seqS,aO (j:=2) Y,.inl ⟨Y,_,bJ.of D5.opens⟩,?_⟩;refine⟨_,Y,d.O,F,_,_,Y,Y,D5.opens,eF5,by rw [lM,lM,lM];omega,?_⟩;rw [<-map_append];exact k newl _ hn (by rw [dH (by simp),hcu];exact t4) D5.open
theorem XC (m:Int):∃i:Nat,Hw [V.str "add",V.str "less"] (m % 2)=some (.str (fD i))/\(i=6∨i=7):=by
 have h0:=emod_nonneg m (show(2:Int)≠0 by decide);have h1:=emod_lt_of_pos m (show(0:Int) <2 by decide);have:m % 2=0∨m % 2=1:=by omega
 rcases this with e | e <;> rw [e]
 ·exact⟨6,Y,.inl Y⟩
 ·exact⟨7,Y,.inr Y⟩
theorem LQ {one other:Str} {os os1:List Str} (h:os.Perm (other:: os1)):(one:: os).Perm ([one,other] ++ os1):=h.cons one
theorem aaL {one other third:Str} {os os1 os2:List Str} (h:os.Perm (other:: os1)) (h2:os1.Perm (third:: os2)):(one:: os).Perm ([one,other,third] ++ os2):=(h.trans (h2.cons other)).cons one
inductive CG (vs:List V) (H:Hp) (Q:VK) (E:XK):Prop where
 | mk:∀(d:Dw) (ls:List aD) (ps:List PD) (os:List Str) (c:Int) (one:Str) (back:List Str) (odd:Bool),vs=[.ref d.S,.int c,.str one,.bl odd]->pP d H ls ps os->Drawn.WF (vU ls ps (one:: os) back)->os≠[]->os.length<=3->ls.length<=20->ps.length<=22->(∀ls' ps' os' H',Nxt d H H' ls ps back ls' ps' os'->Q .non H')->CG vs H Q E
theorem Mj (T:Txt w K mg t):FO P w K mg base 5 t.Gf ["_law_state", "_law_cell_here", "_law_one", "_law_odd"] (CG):=by
 have sc:=T.yN.sc ["_law_state", "_law_cell_here", "_law_one", "_law_odd", "_law_other", "_law_way", "_law_third"];refine T.yN.F.ok sc ln (λ_ _ _ _ H vs Q E hr h=>?_);obtain⟨d,ls,ps,os,c,one,back,odd,rfl,D,w,hne,ho,hls,hps,k⟩:=h;refine⟨_,(aq (sN sc 4 (dX (ud T) T.oH hr (aa (pv 0) (aa (dX (bh T) T.bx hr (aa (pv 1) (aa au ak az) aj)) ak aX) aj)))
  (aq (sN sc 5 (bu cH (dX (bh T) T.bx hr (aa (pv 1) (aa au ak az) aj)) au))
  (aA (il (bU (PW.pt (yG (jZ (pv 3)) (yG (bz zR (pv 5) au (bN _)) (xH (bz Iw (bB bV (by rfl) T.fY dC (aa (bc bw (pv 0) au (λ_ _=>rfl)) ak aG)) au (bN _))))))
   (aq (sN sc 6 (dX (ud T) T.oH hr (aa (pv 0) (aa (dX (bh T) T.bx hr (aa (pv 1) (aa au ak az) aj)) ak aX) aj)))
   (aA (bI (dX (dj T) T.cP hr (aa (pv 0) (aa (pv 1) (aa bQ (aa (bC ak) (aa (bC (aa (pv 2) (aa (pv 4) (aa (pv 6) ak aj) aj) aj)) (aa au ak az) bj) bj) az) aj) aj)))))
   (aA (il (bU (PW.pt (yG (jZ (pv 3)) (xH (bz zR (pv 5) au (bN _)))))
    (aA (bI (dX (dj T) T.cP hr (aa (pv 0) (aa (pv 1) (aa bQ (aa (bC ak) (aa (bC (aa (pv 2) (aa (pv 4) ak aj) aj)) (aa au ak az) bj) bj) az) aj) aj))))
    (aA (il (bU (bz gA (bu cH (pv 5) au) au (bN _))
     (aA (bI (dX (dj T) T.cP hr (aa (pv 0) (aa (pv 1) (aa bQ (aa (bC ak) (aa (bC (aa (pv 2) (aa (pv 4) ak aj) aj)) (aa au ak az) bj) bj) az) aj) aj))))
     (aA (bI (dX (dj T) T.cP hr (aa (pv 0) (aa (pv 1) (aa (bc bw (bC (aa bQ (aa bQ ak az) az)) (bu cH (pv 5) au) (λ_ _=>rfl)) (aa (bC ak) (aa (bC (aa (pv 2) (aa (pv 4) ak aj) aj)) (aa au ak az) bj) bj) aG) aj) aj))))))))))))))),?_⟩
 have hl:sizeLine=16777216:=sizeLine_eq;refine⟨_,Y,_,Y,_,_,Y,d,ls,ps,os,_,Y,D,hne,by omega,λother os1 H1 p1 s1 D1=>?_⟩;have l1:=p1.length_eq;rw [length_cons] at l1;refine⟨_,Y,_,_,Y,_,_,Y,Y,by show(0:Int) <6;decide,?_⟩;refine⟨λ_ H'=>Q .non H',?_,λ_ _ h=>h⟩;have fin:∀{i:Nat} {nm:Str} {newl:List aD} {ins os2:List Str} {H':Hp},aJ (aQ d.E H) (aQ d.E H')->pP d H' (ls ++ newl) (ps ++ [⟨i,nm,[],ins,newl.map (·.name)⟩]) (os2 ++ newl.map (·.name))->(one:: os).Perm (ins ++ os2)->newl.length≠0->newl.length<=2->os2.length+newl.length<=4->Q .non H':=λs DD hp h1 h2 h4=>
  k _ _ _ _ ⟨s,DD,tG w rfl DD hp h1 (by rw [lP];omega),by rw [lP,lM];omega,by rw [lP,lM];omega,by rw [lP];omega,by rw [lP,length_singleton];omega,λc=>c.app⟩
 cases odd
 ·refine⟨_,Y,false,Y,dz (dz ?_)⟩;refine⟨λ_ H'=>Q .non H',?_,λ_ _ h=>h⟩;refine⟨_,Y,false,Y,dz (dz ?_)⟩;refine⟨λ_ H'=>Q .non H',?_,λ_ _ h=>h⟩;refine⟨_,Y,_,_,Y,Y,by show(0:Int) <3;decide,Y,_,Y,jQ (λ_=>?_) (λ_=>?_)⟩
  ·refine⟨_,Y,_,Y,jB,λa1 n1=>⟨_,Y,_,Y,jB,λa2 n2=>?_⟩⟩;obtain⟨D9,z1,z2,z3⟩:=D1.two n1 n2 (y:=.lst [.str one,.str other]);refine⟨d,_,_,os1,_,8,a1,a2,[],[one,other],2,Y,D9,z1,z2,by omega,Y,by simp,Y,Y,by omega,by omega,by omega,λnewl H8 hn s8 D8=>?_⟩;exact fin (s1.trans (z3.trans s8)) D8 (LQ p1) (by omega) (by omega) (by omega)
  ·refine⟨_,Y,_,Y,jB,λa0 n0=>?_⟩;have s0:=aB (o:=.lst [.str "add",.str "less"]) n0;have D0:=D1.keep s0;have c0:=D1.cut s0;refine⟨_,Y,_,_,Y,Y,by show(0:Int) <2;decide,?_⟩;obtain⟨i,ei,hi⟩:=XC (cg c 6 % 6);refine⟨a0,_,_,_,Y,Y,bJ.of ao,ei,?_⟩;generalize upd H1 a0 (.lst [.str "add",.str "less"])=H0 at s0 D0 c0 ⊢;have hN:([]:List Int).length=cN i:=by rcases hi with rfl | rfl <;> rfl
   have hI:[one,other].length=cI i:=by rcases hi with rfl | rfl <;> rfl
   have hO:1=cO i:=by rcases hi with rfl | rfl <;> rfl
   refine⟨jB,λa1 n1=>⟨_,Y,_,Y,jB,λa2 n2=>?_⟩⟩;obtain⟨D9,z1,z2,z3⟩:=D0.two n1 n2 (y:=.lst [.str one,.str other]);refine⟨d,_,_,os1,_,i,a1,a2,[],[one,other],1,Y,D9,z1,z2,by omega,hN,by simp,hI,hO,by omega,by omega,by omega,λnewl H8 hn s8 D8=>?_⟩;exact fin (s1.trans (c0.trans (z3.trans s8))) D8 (LQ p1) (by omega) (by omega) (by omega)
 ·refine⟨_,Y,true,Y,iy ⟨_,Y,_,_,Y,Y,_,Y,Er ?_ (λh2 b=>?_) (λb=>b)⟩⟩
  ·refine⟨λ_ H'=>Q .non H',?_,λ_ _ h=>h⟩;refine⟨_,Y,true,Y,iy ?_⟩;refine⟨_,Y,_,_,Y,Y,_,Y,jQ (λh5=>?_) (λh5=>?_)⟩
   ·refine⟨_,Y,_,Y,jB,λa1 n1=>⟨_,Y,_,Y,jB,λa2 n2=>?_⟩⟩;obtain⟨D9,z1,z2,z3⟩:=D1.two n1 n2 (y:=.lst [.str one,.str other]);refine⟨d,_,_,os1,_,10,a1,a2,[],[one,other],2,Y,D9,z1,z2,by omega,Y,by simp,Y,Y,by omega,by omega,by omega,λnewl H8 hn s8 D8=>?_⟩;exact fin (s1.trans (z3.trans s8)) D8 (LQ p1) (by omega) (by omega) (by omega)
   ·refine⟨λ_ H'=>Q .non H',?_,λ_ _ h=>h⟩;refine⟨_,Y,_,_,Y,Y,by show(0:Int) <3;decide,Y,_,Y,jQ (λ_=>?_) (λ_=>?_)⟩
    ·refine⟨_,Y,_,Y,jB,λa1 n1=>⟨_,Y,_,Y,jB,λa2 n2=>?_⟩⟩;obtain⟨D9,z1,z2,z3⟩:=D1.two n1 n2 (y:=.lst [.str one,.str other]);refine⟨d,_,_,os1,_,8,a1,a2,[],[one,other],2,Y,D9,z1,z2,by omega,Y,by simp,Y,Y,by omega,by omega,by omega,λnewl H8 hn s8 D8=>?_⟩;exact fin (s1.trans (z3.trans s8)) D8 (LQ p1) (by omega) (by omega) (by omega)
    ·refine⟨_,Y,_,Y,jB,λa0 n0=>?_⟩;have s0:=aB (o:=.lst [.str "add",.str "less"]) n0;have D0:=D1.keep s0;have c0:=D1.cut s0;refine⟨_,Y,_,_,Y,Y,by show(0:Int) <2;decide,?_⟩;obtain⟨i,ei,hi⟩:=XC (cg c 6 % 6);refine⟨a0,_,_,_,Y,Y,bJ.of ao,ei,?_⟩;generalize upd H1 a0 (.lst [.str "add",.str "less"])=H0 at s0 D0 c0 ⊢;have hN:([]:List Int).length=cN i:=by rcases hi with rfl | rfl <;> rfl
     have hI:[one,other].length=cI i:=by rcases hi with rfl | rfl <;> rfl
     have hO:1=cO i:=by rcases hi with rfl | rfl <;> rfl
     refine⟨jB,λa1 n1=>⟨_,Y,_,Y,jB,λa2 n2=>?_⟩⟩;obtain⟨D9,z1,z2,z3⟩:=D0.two n1 n2 (y:=.lst [.str one,.str other]);refine⟨d,_,_,os1,_,i,a1,a2,[],[one,other],1,Y,D9,z1,z2,by omega,hN,by simp,hI,hO,by omega,by omega,by omega,λnewl H8 hn s8 D8=>?_⟩;exact fin (s1.trans (c0.trans (z3.trans s8))) D8 (LQ p1) (by omega) (by omega) (by omega)
  ·refine⟨_,Y,d.S,_,2,_,Y,Y,D1.seqS,aO (j:=2) Y,.ref d.O,os1.length,Y,.inl ⟨_,bJ.of D1.opens,by simp⟩,_,_,Y,Y,_,Y,jQ (λh3=>?_) (λ_=>b)⟩;have hne1:os1≠[]:=λz=>by rw [z] at h3;exact absurd (of_decide_eq_true h3) (by decide)
   refine⟨_,Y,_,Y,_,_,Y,d,ls,ps,os1,_,Y,D1,hne1,by omega,λthird os2 H2 p2 s2 D2=>?_⟩;have l2:=p2.length_eq;rw [length_cons] at l2;refine⟨_,Y,_,Y,jB,λa1 n1=>⟨_,Y,_,Y,_,Y,jB,λa2 n2=>?_⟩⟩;obtain⟨D9,z1,z2,z3⟩:=D2.two n1 n2 (y:=.lst [.str one,.str other,.str third]);refine⟨d,_,_,os2,_,9,a1,a2,[],[one,other,third],1,Y,D9,z1,z2,by omega,Y,by simp,Y,Y,by omega,by omega,by omega,λnewl H8 hn s8 D8=>?_⟩;exact fin (s1.trans (s2.trans (z3.trans s8))) D8 (aaL p1 p2) (by omega) (by omega) (by omega)
inductive Am (vs:List V) (H:Hp) (Q:VK) (E:XK):Prop where
 | mk:∀(d:Dw) (ls:List aD) (ps:List PD) (os:List Str) (c:Int) (one:Str) (back:List Str),vs=[.ref d.S,.int c,.str one]->pP d H ls ps os->Drawn.WF (vU ls ps (one:: os) back)->os.length<=3->ls.length<=20->ps.length<=22->(∀ls' ps' os' H',Nxt d H H' ls ps back ls' ps' os'->Q .non H')->Am vs H Q E
theorem KR (T:Txt w K mg t):FO P w K mg base 4 t.Ds ["_law_state", "_law_cell_here", "_law_one"] (Am):=by
 have sc:=T.wV.sc ["_law_state", "_law_cell_here", "_law_one", "_law_own", "_law_fresh"];refine T.wV.F.ok sc ln (λ_ _ _ _ H vs Q E hr h=>?_);obtain⟨d,ls,ps,os,c,one,back,rfl,D,w,ho,hls,hps,k⟩:=h;refine⟨_,(aq (sN sc 3 (dX (lF T) T.jM hr (aa (pv 0) (aa (dX (bh T) T.bx hr (aa (pv 1) (aa au ak az) aj)) (aa nj ak az) aX) aj)))
  (aq (sN sc 4 (dX (lF T) T.jM hr (aa (pv 0) (aa (dX (bh T) T.bx hr (aa (pv 1) (aa au ak az) aj)) (aa nj ak az) aX) aj)))
  (aq (bI (Ho (bc bw (pv 0) au (λ_ _=>rfl)) (aa (cL (aa bQ (aa (dX (pN T) T.kW hr (aa (bc bw (pv 0) au (λ_ _=>rfl)) (aa (bB bV (by rfl) T.fY dC (aa (bc bw (pv 0) au (λ_ _=>rfl)) ak aG)) ak aX) aG)) (aa (bC ak) (aa (bC (aa (pv 2) (aa (pv 3) ak aj) aj)) (aa (bC (aa (pv 3) (aa (pv 4) ak aj) aj)) ak bj) bj) bj) aX) az)) ak cU)))
  (aA (bI (Ho (bc bw (pv 0) au (λ_ _=>rfl)) (aa (pv 4) ak aj))))))),?_⟩
 have hl:sizeLine=16777216:=sizeLine_eq;refine⟨_,Y,_,Y,_,_,Y,d,ls,ps,os,_,true,Y,D,by omega,λl1 H1 e1 s1 D1=>?_⟩;refine⟨_,Y,_,Y,_,_,Y,d,ls ++ [l1],ps,os,_,false,Y,D1,by rw [lP,length_singleton];omega,λl2 H2 e2 s2 D2=>?_⟩;have s12:=s1.trans s2;obtain⟨xs,eP,aP⟩:=D2.parts;have xl:=aP.length;refine⟨_,Y,d.S,_,1,_,Y,Y,D2.seqS,aO (j:=1) Y,.inl ⟨Y,_,bJ.of eP⟩,?_⟩;refine⟨_,Y,d.S,_,4,_,Y,Y,D2.seqS,aO (j:=4) Y,?_⟩;refine⟨_,Y,d.S,_,1,_,Y,Y,D2.seqS,aO (j:=1) Y,.ref d.P,ps.length,Y,.inl ⟨_,bJ.of eP,xl.symm⟩,?_⟩;refine⟨d.c4,ps.length,Y,by omega,λH3 s3=>?_⟩;have D3:=D2.keep s3;have c3:=s12.trans (D2.cut s3);have eP3:=s3 _ _ eP;refine⟨jB,λa1 n1=>⟨_,Y,_,Y,jB,λa2 n2=>⟨_,Y,_,Y,jB,λa3 n3=>⟨jB,λq nq=>?_⟩⟩⟩⟩;obtain⟨D4,z1,z2,z3⟩:=D3.two n1 n2 (y:=.lst [.str one,.str l1.name]);have t4:aJ H3 (upd (upd H3 a1 (.lst [])) a2 (.lst [.str one,.str l1.name])):=(aB n1).trans (aB n2);have eP4:=t4 _ _ eP3;generalize upd (upd H3 a1 (.lst [])) a2 (.lst [.str one,.str l1.name])=H4 at D4 z1 z2 z3 t4 eP4 n3 nq ⊢;obtain⟨D5,y1,y2,y3⟩:=D4.two n3 nq (y:=.tup [.str "order",.str (dm d.c4 ps.length),.ref a1,.ref a2,.ref a3]);have t5:aJ H4 (upd (upd H4 a3 (.lst [.str l1.name,.str l2.name])) q (.tup [.str "order",.str (dm d.c4 ps.length),.ref a1,.ref a2,.ref a3])):=(aB n3).trans (aB nq);have eP5:=t5 _ _ eP4;generalize upd (upd H4 a3 (.lst [.str l1.name,.str l2.name])) q (.tup [.str "order",.str (dm d.c4 ps.length),.ref a1,.ref a2,.ref a3])=H5 at D5 y1 y2 y3 t5 eP5 ⊢;have c5:=c3.trans (z3.trans y3);refine⟨d.P,xs,_,Y,Y,eP5,by omega,?_⟩;have D6:=D5.part (p:=⟨8,dm d.c4 ps.length,[],[one,l1.name],[l1.name,l2.name]⟩) ⟨q,a1,a2,a3,rfl,y2,y3 _ _ z1,y3 _ _ z2,y1⟩ ⟨by show 8 <11;omega,rfl,rfl,rfl,by simp⟩ rfl eP5;have c6:aQ d.E (upd H5 d.P (.lst (xs ++ [.ref q])))=aQ d.E H5:=dH (by simp);generalize upd H5 d.P (.lst (xs ++ [.ref q]))=H6 at D6 c6 ⊢;refine⟨_,Y,d.S,_,2,_,Y,Y,D6.seqS,aO (j:=2) Y,.inl ⟨Y,_,bJ.of D6.opens⟩,_,Y,d.O,_,_,Y,Y,D6.opens,by rw [lM];omega,?_⟩;have D7:=D6.open (os':=os ++ [l2.name]);rw [map_append] at D7;have nd:=D7.nod (by rw [lP,lP,length_singleton,length_singleton];omega);have wl:=w.loop (p:=⟨8,dm d.c4 ps.length,[],[one,l1.name],[l1.name,l2.name]⟩) (rest:=os) (one:=one) (own:=l1.name) (fresh:=l2.name) rfl rfl (.refl _) (by simpa using nd);refine k _ _ _ _ ⟨by rw [dH (by simp),c6];exact c5,D7,by simpa [vU] using wl,by rw [lP,length_singleton];omega,by rw [lP,length_singleton];omega,by simp,by simp,λc=>c.app⟩
inductive Aa (vs:List V) (H:Hp) (Q:VK) (E:XK):Prop where
 | mk:∀(d:Dw) (ls:List aD) (ps:List PD) (os:List Str) (c:Int) (back:List Str) (odd:Bool),vs=[.ref d.S,.int c,.bl odd]->pP d H ls ps os->Drawn.WF (vU ls ps os back)->os≠[]->os.length<=4->ls.length<=20->ps.length<=22->(∀ls' ps' os' H',Nxt d H H' ls ps back ls' ps' os'->Q .non H')->Aa vs H Q E
theorem Ky (T:Txt w K mg t):FO P w K mg base 6 t.Ce ["_law_state", "_law_cell_here", "_law_odd"] (Aa):=by
 have sc:=T.u9.sc ["_law_state", "_law_cell_here", "_law_odd", "_law_way", "_law_one"];refine T.u9.F.ok sc ln (λ_ _ _ _ H vs Q E hr h=>?_);obtain⟨d,ls,ps,os,c,back,odd,rfl,D,w,hne,ho,hls,hps,k⟩:=h;refine⟨_,(aq (sN sc 3 (bu cH (dX (bh T) T.bx hr (aa (pv 1) (aa au ak az) aj)) au))
  (aq (sN sc 4 (dX (ud T) T.oH hr (aa (pv 0) (aa (dX (bh T) T.bx hr (aa (pv 1) (aa au ak az) aj)) ak aX) aj)))
  (aA (il (bU (PW.pt (yG (bz zR (pv 3) au (bN _)) (xH (bz zR (bB bV (by rfl) T.fY dC (aa (bc bw (pv 0) au (λ_ _=>rfl)) ak aG)) au (bN _)))))
   (aA (bI (dX (dj T) T.cP hr (aa (pv 0) (aa (pv 1) (aa bQ (aa (bC ak) (aa (bC (aa (pv 4) ak aj)) (aa au ak az) bj) bj) az) aj) aj))))
   (aA (il (bU (bz gA (pv 3) au (bN _))
    (aq (bI (dX (dj T) T.cP hr (aa (pv 0) (aa (pv 1) (aa bQ (aa (bC ak) (aa (bC (aa (pv 4) ak aj)) (aa au ak az) bj) bj) az) aj) aj)))
    (aA (bI (dX (dj T) T.cP hr (aa (pv 0) (aa (pv 1) (aa bQ (aa (bC ak) (aa (bC (aa (Ob PySem.F.plainAttrs_list PySem.F.slot_list_pop PySem.F.type_list_pop Od (bc bw (pv 0) au (λ_ _=>rfl))) ak aX)) (aa au ak az) bj) bj) az) aj) aj)))))
    (aA (il (bU (PW.pt (yG (bz zR (pv 3) au (bN _)) (xH (bz Iw (bB bV (by rfl) T.fY dC (aa (bc bw (pv 0) au (λ_ _=>rfl)) ak aG)) au (bN _)))))
     (aA (bI (dX (Mj T) T.yN hr (aa (pv 0) (aa (pv 1) (aa (pv 4) (aa (pv 2) ak aj) aj) aj) aj))))
     (aA (il (bU (bz zR (pv 3) au (bN _))
      (aA (bI (dX (dj T) T.cP hr (aa (pv 0) (aa (pv 1) (aa bQ (aa (bC (aa (dX (gY T) T.fV hr (aa (pv 1) (aa au ak az) aj)) (aa (dX (gY T) T.fV hr (aa (pv 1) (aa au ak az) aj)) ak aX) aX)) (aa (bC (aa (pv 4) ak aj)) (aa au ak az) bj) bj) az) aj) aj))))
      (aA (il (bU (bz gA (pv 3) au (bN _))
       (aA (bI (dX (dj T) T.cP hr (aa (pv 0) (aa (pv 1) (aa bQ (aa (bC (aa (dX (gY T) T.fV hr (aa (pv 1) (aa au ak az) aj)) ak aX)) (aa (bC (aa (pv 4) ak aj)) (aa au ak az) bj) bj) az) aj) aj))))
       (aA (il (bU (bz gA (bu cH (dX (bh T) T.bx hr (aa (pv 1) (aa au ak az) aj)) au) au (bN _))
        (aA (bI (dX (KR T) T.wV hr (aa (pv 0) (aa (pv 1) (aa (pv 4) ak aj) aj) aj))))
        (aA (bI (dX (dj T) T.cP hr (aa (pv 0) (aa (pv 1) (aa bQ (aa (bC ak) (aa (bC (aa (pv 4) ak aj)) (aa au ak az) bj) bj) az) aj) aj)))))))))))))))))))))))),?_⟩
 have hl:sizeLine=16777216:=sizeLine_eq;refine⟨_,Y,_,_,Y,_,_,Y,Y,by show(0:Int) <9;decide,?_⟩;refine⟨_,Y,_,Y,_,_,Y,d,ls,ps,os,_,Y,D,hne,by omega,λone os1 H1 p1 s1 D1=>?_⟩;have w1:Drawn.WF (vU ls ps (one:: os1) back):=YT w p1;have lo:=p1.length_eq;rw [length_cons] at lo;have fin:∀{i:Nat} {nm:Str} {nums:List Int} {newl:List aD} {ins os2:List Str} {H':Hp},aJ (aQ d.E H) (aQ d.E H')->pP d H' (ls ++ newl) (ps ++ [⟨i,nm,nums,ins,newl.map (·.name)⟩]) (os2 ++ newl.map (·.name))->(one:: os1).Perm (ins ++ os2)->newl.length≠0->newl.length<=2->os2.length+newl.length<=4->Q .non H':=λs DD hp h1 h2 h4=>
  k _ _ _ _ ⟨s,DD,tG w1 rfl DD hp h1 (by rw [lP];omega),by rw [lP,lM];omega,by rw [lP,lM];omega,by rw [lP];omega,by rw [lP,length_singleton];omega,λc=>c.app⟩
 refine⟨λ_ H'=>Q .non H',?_,λ_ _ h=>h⟩;refine⟨_,Y,_,_,Y,Y,_,Y,Er ?_ (λh2 b=>?_) (λb=>b)⟩
 ·refine⟨λ_ H'=>Q .non H',?_,λ_ _ h=>h⟩;refine⟨_,Y,Y,_,Y,jQ (λ_=>?_) (λ_=>?_)⟩
  ·refine⟨_,Y,_,Y,jB,λa1 n1=>⟨_,Y,jB,λa2 n2=>?_⟩⟩;obtain⟨D9,z1,z2,z3⟩:=D1.two n1 n2 (y:=.lst [.str one]);refine⟨d,_,_,os1,_,3,a1,a2,[],[one],2,Y,D9,z1,z2,by omega,Y,by simp,Y,Y,by omega,by omega,by omega,λnewl H8 hn s8 D8=>?_⟩;obtain⟨l1,l2,rfl⟩:∃l1 l2,newl=[l1,l2]:=by
    match newl,hn with
    | [x,y],_=>exact⟨x,y,rfl⟩
   have w8:=tG w1 rfl D8 (.refl _) (by simp) (by simp;omega);have s18:=s1.trans (z3.trans s8);clear D9 z1 z2 z3 n1 n2 s8;refine⟨_,Y,_,Y,jB,λa3 n3=>?_⟩;have s3:=aB (o:=.lst []) n3;have D3:=D8.keep s3;have c3:=s18.trans (D8.cut s3);have o3:=D8.out n3;have e3:upd H8 a3 (.lst []) a3=some (.lst ([]:List V)):=ao;generalize upd H8 a3 (.lst [])=H3 at s3 D3 c3 e3 ⊢;have eo:((os1 ++ [l1,l2].map (·.name)).map V.str)=((os1 ++ [l1.name]).map V.str) ++ [.str l2.name]:=by simp
   have hop:=D3.opens;rw [eo] at hop;refine⟨_,Y,d.S,_,2,_,Y,Y,D3.seqS,aO (j:=2) Y,.inl ⟨Y,_,bJ.of D3.opens⟩,d.O,_,.str l2.name,Y,Y,hop,by rw [lP,length_singleton,Nat.add_sub_cancel];exact List.getElem?_concat_length,?_⟩;rw [List.dropLast_concat];have D4:=D3.open (os':=os1 ++ [l1.name]);have c4:aQ d.E (upd H3 d.O (.lst ((os1 ++ [l1.name]).map V.str)))=aQ d.E H3:=dH (by simp);have e4:=bL e3 o3;generalize upd H3 d.O (.lst ((os1 ++ [l1.name]).map V.str))=H4 at D4 c4 ⊢;refine⟨jB,λa4 n4=>?_⟩;have s5:=aB (o:=.lst [.str l2.name]) n4;have D5:=D4.keep s5;have c5:=D4.cut s5;rw [c4] at c5;have e5:=bL (E:=d.E) (H:=upd H4 a4 (.lst [.str l2.name])) ao (D4.out n4);refine⟨d,ls ++ [l1,l2],_,os1 ++ [l1.name],_,1,a3,a4,[],[l2.name],0,Y,D5,c5 _ _ e4,e5,by omega,Y,by simp,Y,Y,by simp;omega,by simp;omega,by simp;omega,λnewl2 H9 hn2 s9 D9=>?_⟩;have hz:newl2=[]:=List.length_eq_zero_iff.mp hn2;subst hz;have wt:=w8.take (p:=⟨1,dm d.c4 (ps ++ [(⟨3,dm d.c4 ps.length,[],[one],[l1,l2].map (·.name)⟩:PD)]).length,[],[l2.name],[]⟩) (rest:=os1 ++ [l1.name]) (y:=l2.name) (x:=l1.name) rfl rfl (by show(os1 ++ [l1.name,l2.name]).Perm (l2.name:: (os1 ++ [l1.name]));rw [show os1 ++ [l1.name,l2.name]=(os1 ++ [l1.name]) ++ [l2.name] by simp];exact perm_append_comm) (by simp) (Drawn.jR.part (p:=⟨3,dm d.c4 ps.length,[],[one],[l1,l2].map (·.name)⟩) (by simp) (by simp) (by simp))
   rw [map_nil,append_nil,append_nil] at D9;exact k _ _ _ _ ⟨c3.trans (c5.trans s9),D9,wt,by simp,by simp;omega,by simp,by simp,λc=>c.app.app⟩
  ·refine⟨λ_ H'=>Q .non H',?_,λ_ _ h=>h⟩;refine⟨_,Y,_,_,Y,Y,_,Y,Er ?_ (λh2 b=>?_) (λb=>b)⟩
   ·refine⟨λ_ H'=>Q .non H',?_,λ_ _ h=>h⟩;refine⟨_,Y,_,_,Y,Y,_,Y,jQ (λ_=>?_) (λ_=>?_)⟩
    ·refine⟨_,Y,_,Y,_,Y,c,8,Y,_,Y,c,9,Y,jB,λa1 n1=>⟨_,Y,jB,λa2 n2=>?_⟩⟩;obtain⟨D9,z1,z2,z3⟩:=D1.two n1 n2 (y:=.lst [.str one]);refine⟨d,_,_,os1,_,4,a1,a2,[qd c 8,qd c 9],[one],1,Y,D9,z1,z2,by omega,Y,?_,Y,Y,by omega,by omega,by omega,λnewl H8 hn s8 D8=>?_⟩
     ·intro v hv;rcases mem_cons.mp hv with rfl | hv
      ·exact my _ _
      ·rw [mem_singleton] at hv;subst hv;exact my _ _
     exact fin (s1.trans (z3.trans s8)) D8 (.refl _) (by omega) (by omega) (by omega)
    ·refine⟨λ_ H'=>Q .non H',?_,λ_ _ h=>h⟩;refine⟨_,Y,Y,_,Y,jQ (λ_=>?_) (λ_=>?_)⟩
     ·refine⟨_,Y,_,Y,_,Y,c,8,Y,jB,λa1 n1=>⟨_,Y,jB,λa2 n2=>?_⟩⟩;obtain⟨D9,z1,z2,z3⟩:=D1.two n1 n2 (y:=.lst [.str one]);refine⟨d,_,_,os1,_,5,a1,a2,[qd c 8],[one],1,Y,D9,z1,z2,by omega,Y,?_,Y,Y,by omega,by omega,by omega,λnewl H8 hn s8 D8=>?_⟩
      ·intro v hv;rw [mem_singleton] at hv;subst hv;exact my _ _
      exact fin (s1.trans (z3.trans s8)) D8 (.refl _) (by omega) (by omega) (by omega)
     ·refine⟨λ_ H'=>Q .non H',?_,λ_ _ h=>h⟩;refine⟨_,Y,_,_,Y,_,_,Y,Y,by show(0:Int) <2;decide,Y,_,Y,jQ (λ_=>?_) (λ_=>?_)⟩
      ·exact⟨_,Y,_,Y,_,Y,d,ls,ps,os1,c,one,back,Y,D1,w1,by omega,hls,hps,λls' ps' os' H' X=>k ls' ps' os' H' ⟨s1.trans X.cut,X.at',X.wf,X.o1,X.o4,X.l2,X.p2,X.gv⟩⟩
      ·refine⟨_,Y,_,Y,jB,λa1 n1=>⟨_,Y,jB,λa2 n2=>?_⟩⟩;obtain⟨D9,z1,z2,z3⟩:=D1.two n1 n2 (y:=.lst [.str one]);refine⟨d,_,_,os1,_,2,a1,a2,[],[one],1,Y,D9,z1,z2,by omega,Y,by simp,Y,Y,by omega,by omega,by omega,λnewl H8 hn s8 D8=>?_⟩;exact fin (s1.trans (z3.trans s8)) D8 (.refl _) (by omega) (by omega) (by omega)
   ·refine⟨_,Y,d.S,_,2,_,Y,Y,D1.seqS,aO (j:=2) Y,.ref d.O,os1.length,Y,.inl ⟨_,bJ.of D1.opens,by simp⟩,_,_,Y,Y,_,Y,jQ (λh3=>?_) (λ_=>b)⟩;have hne1:os1≠[]:=λz=>by rw [z] at h3;exact absurd (of_decide_eq_true h3) (by decide)
    exact⟨_,Y,_,Y,_,Y,_,Y,d,ls,ps,os1,c,one,back,odd,Y,D1,w1,hne1,by omega,hls,hps,λls' ps' os' H' X=>k ls' ps' os' H' ⟨s1.trans X.cut,X.at',X.wf,X.o1,X.o4,X.l2,X.p2,X.gv⟩⟩
 ·refine⟨_,Y,d.S,_,2,_,Y,Y,D1.seqS,aO (j:=2) Y,.ref d.O,os1.length,Y,.inl ⟨_,bJ.of D1.opens,by simp⟩,_,_,Y,Y,_,Y,jQ (λh3=>?_) (λ_=>b)⟩;have h3:os1.length <3:=by have:=of_decide_eq_true h3;omega
  refine⟨_,Y,_,Y,jB,λa1 n1=>⟨_,Y,jB,λa2 n2=>?_⟩⟩;obtain⟨D9,z1,z2,z3⟩:=D1.two n1 n2 (y:=.lst [.str one]);refine⟨d,_,_,os1,_,3,a1,a2,[],[one],2,Y,D9,z1,z2,by omega,Y,by simp,Y,Y,by omega,by omega,by omega,λnewl H8 hn s8 D8=>?_⟩;exact fin (s1.trans (z3.trans s8)) D8 (.refl _) (by omega) (by omega) (by omega)
inductive vQ (vs:List V) (H:Hp) (Q:VK) (E:XK):Prop where
 | mk:∀(d:Dw) (ls:List aD) (ps:List PD) (os:List Str) (c:Int) (B:Addr) (back:List Str),vs=[.ref d.S,.int c,.ref B]->pP d H ls ps os->Drawn.WF (vU ls ps os back)->aQ d.E H B=some (.lst (back.map V.str))->os≠[]->os.length<=4->back.length<=2->ls.length<=12->ps.length<=10->Ny ps->(∀ls' ps' H',aJ (aQ d.E H) (aQ d.E H')->pP d H' ls' ps' []->HQ (ls'.map (·.name)) ps'->ls'.length<=17->ls.length<=ls'.length->ps'.length<=16->1<=ps'.length->Ny ps'->Q .non H')->vQ vs H Q E
theorem Et (T:Txt w K mg t):FO P w K mg base 5 t.yg ["_law_state", "_law_cell_here", "_law_back"] (vQ):=by
 have sc:=T.sV.sc ["_law_state", "_law_cell_here", "_law_back", "_law_one", "_law_other", "_law_kind", "_law_lane_here", "_law_fresh"];refine T.sV.F.ok sc ln (λ_ _ _ _ H vs Q E hr h=>?_);obtain⟨d,ls,ps,os,c,B,back,rfl,D,w,eB,hne,ho,hb,hls,hps,hC,k⟩:=h;refine⟨_,(aq (Gk PassesOwn.never (bz Iw (bB bV (by rfl) T.fY dC (aa (bc bw (pv 0) au (λ_ _=>rfl)) ak aG)) au (bN _))
   (aq (sN sc 3 (Aw PySem.F.plainAttrs_list PySem.F.slot_list_pop PySem.F.type_list_pop Fi (bc bw (pv 0) au (λ_ _=>rfl)) (aa au ak az)))
   (aq (sN sc 4 (Aw PySem.F.plainAttrs_list PySem.F.slot_list_pop PySem.F.type_list_pop Fi (bc bw (pv 0) au (λ_ _=>rfl)) (aa au ak az)))
   (aq (sN sc 5 (bc bw (bC (aa bQ (aa bQ (aa bQ ak az) az) az)) (bu cH (dX (bh T) T.bx hr (aa (pv 1) (aa (bB bV (by rfl) T.fY dC (aa (bc bw (pv 0) au (λ_ _=>rfl)) ak aG)) ak aX) aj)) au) (λ_ _=>rfl)))
   (aA (bI (dX (dj T) T.cP hr (aa (pv 0) (aa (dX (bh T) T.bx hr (aa (pv 1) (aa (bu dF au (bB bV (by rfl) T.fY dC (aa (bc bw (pv 0) au (λ_ _=>rfl)) ak aG))) ak bM) aj)) (aa (pv 5) (aa (bC ak) (aa (bC (aa (pv 3) (aa (pv 4) ak aj) aj)) (aa au ak az) bj) bj) aj) aX) aj))))))))
  (aq (dO PassesOwn.never rfl (bR (pv 2)) (gN sc 6)
   (aq (sN sc 3 (Ob PySem.F.plainAttrs_list PySem.F.slot_list_pop PySem.F.type_list_pop Od (bc bw (pv 0) au (λ_ _=>rfl))))
   (aq (sN sc 7 (dX (lF T) T.jM hr (aa (pv 0) (aa (dX (bh T) T.bx hr (aa (pv 1) (aa (bu dF au (bB bV (by rfl) T.fY dC (aa (bc bw (pv 0) au (λ_ _=>rfl)) ak aG))) ak bM) aj)) (aa nj ak az) aX) aj)))
   (aq (bI (Ho (bc bw (pv 0) au (λ_ _=>rfl)) (aa (cL (aa bQ (aa (dX (pN T) T.kW hr (aa (bc bw (pv 0) au (λ_ _=>rfl)) (aa (bB bV (by rfl) T.fY dC (aa (bc bw (pv 0) au (λ_ _=>rfl)) ak aG)) ak aX) aG)) (aa (bC ak) (aa (bC (aa (pv 3) ak aj)) (aa (bC (aa (pv 6) (aa (pv 7) ak aj) aj)) ak bj) bj) bj) aX) az)) ak cU)))
   (aA (bI (Ho (bc bw (pv 0) au (λ_ _=>rfl)) (aa (pv 7) ak aj))))))))
  (aA (bI (dX (dj T) T.cP hr (aa (pv 0) (aa (pv 1) (aa bQ (aa (bC ak) (aa (bC (aa (Ob PySem.F.plainAttrs_list PySem.F.slot_list_pop PySem.F.type_list_pop Od (bc bw (pv 0) au (λ_ _=>rfl))) ak aX)) (aa au ak az) bj) bj) az) aj) aj)))))),?_⟩
 have hl:sizeLine=16777216:=sizeLine_eq;have hpos:0 <os.length:=List.length_pos_iff.mpr hne;refine hide λu hu=>?_;refine Eo (λσ H1=>∃(ls1:List aD) (ps1:List PD) (os1:List Str) (v3 v4 v5:Option V),σ=[some (.ref d.S),some (.int c),some (.ref B),v3,v4,v5,none,none]/\aJ (aQ d.E H) (aQ d.E H1)/\pP d H1 ls1 ps1 os1/\Drawn.WF (vU ls1 ps1 os1 back)/\1<=os1.length/\os1.length<=4/\ls.length<=ls1.length/\ls1.length+os1.length<=16/\ps1.length+os1.length<=14/\Ny ps1)
  (λ_ H1=>Ip H1 d.O) ⟨ls,ps,os,none,none,none,rfl,aJ.refl _,D,w,by omega,ho,le_refl _,by omega,by omega,hC⟩ ?_ ?_
 ·rintro σ H1 ⟨ls1,ps1,os1,v3,v4,v5,rfl,s1,D1,w1,o1,o4,hl1,hl2,hp2,hC1⟩;refine⟨_,Y,d.S,_,2,_,Y,Y,D1.seqS,aO (j:=2) Y,.ref d.O,os1.length,Y,.inl ⟨_,bJ.of D1.opens,by simp⟩,_,_,Y,Y,_,Y,jQ (λh3=>?_) (λh3=>?_)⟩
  ·have h3:1 <os1.length:=by have:=of_decide_eq_true h3;omega
   obtain⟨one,other,os2,rfl⟩:∃one other os2,os1=one:: other:: os2:=by
    match os1,h3 with
    | x:: y:: r,_=>exact⟨x,y,r,rfl⟩
   rw [length_cons,length_cons] at h3 o1 o4 hl2 hp2;have lm:=zN D1.opens;refine ZX λDe hD u hu=>?_;refine⟨_,Y,d.S,_,2,_,Y,Y,D1.seqS,aO (j:=2) Y,.inl ⟨Y,_,bJ.of D1.opens⟩,d.O,_,0,0,.str one,Y,Y,D1.opens,by decide,by decide,NP (by simp),Y,?_⟩;have D2:=D1.open (os':=other:: os2);have c2:aQ d.E (upd H1 d.O (.lst ((other:: os2).map V.str)))=aQ d.E H1:=dH (by simp);refine cB (v:=u) hu λu hu=>?_;change Ag _ _ _ _ (upd H1 d.O (.lst ((other:: os2).map V.str)));generalize upd H1 d.O (.lst ((other:: os2).map V.str))=H2 at D2 c2 ⊢;refine⟨_,Y,d.S,_,2,_,Y,Y,D2.seqS,aO (j:=2) Y,.inl ⟨Y,_,bJ.of D2.opens⟩,d.O,_,0,0,.str other,Y,Y,D2.opens,by decide,by decide,NP (by simp),Y,?_⟩;have D3:=D2.open (os':=os2);have c3:aQ d.E (upd H2 d.O (.lst (os2.map V.str)))=aQ d.E H2:=dH (by simp);refine cB (v:=u) hu λu hu=>?_;change Ag _ _ _ _ (upd H2 d.O (.lst (os2.map V.str)));generalize upd H2 d.O (.lst (os2.map V.str))=H3 at D3 c3 ⊢;have s3:aJ (aQ d.E H) (aQ d.E H3):=by rw [c3,c2];exact s1
   refine⟨jB,λa0 n0=>?_⟩;have s0:=aB (o:=.lst [.str "add",.str "less",.str "add"]) n0;have D0:=D3.keep s0;have c0:=s3.trans (D3.cut s0);refine⟨_,Y,_,Y,d.S,_,2,_,Y,Y,D0.seqS,aO (j:=2) Y,.ref d.O,os2.length,Y,.inl ⟨_,bJ.of D0.opens,by simp⟩,c,(os2.length:Int),Y,_,_,Y,Y,by show(0:Int) <3;decide,?_⟩;obtain⟨i,ei,hi⟩:=aaE (cg c (os2.length:Int));refine⟨a0,_,_,_,Y,Y,bJ.of ao,ei,?_⟩;generalize upd H3 a0 (.lst [.str "add",.str "less",.str "add"])=H0 at s0 D0 c0 ⊢;obtain⟨xs,eP,aP⟩:=D0.parts;have xl:=aP.length;have hN:([]:List Int).length=cN i:=by rcases hi with rfl | rfl <;> rfl
   have hI:[one,other].length=cI i:=by rcases hi with rfl | rfl <;> rfl
   have hO:1=cO i:=by rcases hi with rfl | rfl <;> rfl
   subst hu;refine⟨_,Y,_,Y,_,Y,d.S,_,1,_,Y,Y,D0.seqS,aO (j:=1) Y,.ref d.P,ps1.length,Y,.inl ⟨_,bJ.of eP,xl.symm⟩,_,_,Y,Y,_,_,Y,?_⟩;refine⟨_,Y,jB,λa1 n1=>⟨_,Y,_,Y,jB,λa2 n2=>?_⟩⟩;obtain⟨D9,z1,z2,z3⟩:=D0.two n1 n2 (y:=.lst [.str one,.str other]);refine⟨d,_,_,os2,_,i,a1,a2,[],[one,other],1,Y,D9,z1,z2,by omega,hN,by simp,hI,hO,by omega,by omega,by omega,λnewl H8 hn s8 D8=>?_⟩;have w8:=tG w1 rfl D8 (.refl _) (by omega) (by rw [lP];omega);subst hD;refine⟨⟨_,_,_,_,_,_,Y,c0.trans (z3.trans s8),D8,w8,?_,?_,?_,?_,?_,hC1.app⟩,?_⟩
   ·rw [lP,lM];omega
   ·rw [lP,lM];omega
   ·rw [lP];omega
   ·rw [lP,lP,lM];omega
   ·rw [lP,lP,lM,length_singleton];omega
   ·rw [zN D8.opens,lm,lM,lM,lP,lM,length_cons,length_cons];omega
  ·have h3:os1.length=1:=by have:¬(1:Int) <(os1.length:Int):=λz=>h3 (decide_eq_true z);omega
   obtain⟨y,rfl⟩:=List.length_eq_one_iff.mp h3;refine cB (v:=u) hu λu hu=>?_;refine⟨_,Y,B,Y,⟨_,bJ.of (bF _ _ (s1 _ _ eB))⟩,?_⟩;refine du (K:=K) (a:=B) (xs:=back.map V.str) (λj σ H2=>∃(ls2:List aD) (ps2:List PD) (y:Str) (u3 u6 u7:Option V),σ=[some (.ref d.S),some (.int c),some (.ref B),u3,v4,v5,u6,u7]/\aJ (aQ d.E H) (aQ d.E H2)/\pP d H2 ls2 ps2 [y]/\Drawn.WF (vU ls2 ps2 [y] (back.drop j))/\ls.length<=ls2.length/\ls2.length<=15+j/\ps2.length<=13+j/\Ny ps2) ⟨ls1,ps1,y,v3,none,none,Y,s1,D1,w1,hl1,by have z:=hl2;rw [length_singleton] at z;omega,by have z:=hp2;rw [length_singleton] at z;omega,hC1⟩ (λj σ H2 _ ⟨ls2,ps2,y,u3,u6,u7,e,s2,h⟩=>bJ.of (bF _ _ (s2 _ _ eB))) ?_ ?_
   ·rintro j x σ H2 hx ⟨ls2,ps2,y2,u3,u6,u7,rfl,s2,D2,w2,hl2',hl3,hp3,hC2⟩;rw [getElem?_map] at hx;obtain⟨bn,hbn,rfl⟩:=map_eq_some_iff.mp hx;have hj:j <back.length:=by
     rcases Nat.lt_or_ge j back.length with h | h
     ·exact h
     ·rw [getElem?_eq_none h] at hbn;cases hbn
    have hdr:back.drop j=bn:: back.drop (j+1):=by rw [drop_eq_getElem_cons hj];rw [getElem?_eq_getElem hj,Option.some.injEq] at hbn;rw [hbn]
    refine Q4 λDe hD u hu=>?_;refine⟨_,Y,d.S,_,2,_,Y,Y,D2.seqS,aO (j:=2) Y,.inl ⟨Y,_,bJ.of D2.opens⟩,d.O,_,.str y2,Y,Y,D2.opens,Y,?_⟩;have D3:=D2.open (os':=[]);have c3:aQ d.E (upd H2 d.O (.lst (([]:List Str).map V.str)))=aQ d.E H2:=dH (by simp);refine cB (v:=u) hu λu hu=>?_;change Ag _ _ _ _ (upd H2 d.O (.lst (([]:List Str).map V.str)));generalize upd H2 d.O (.lst (([]:List Str).map V.str))=H3 at D3 c3 ⊢;obtain⟨xs,eP,aP⟩:=D3.parts;have xl:=aP.length;refine⟨_,Y,_,Y,_,Y,d.S,_,1,_,Y,Y,D3.seqS,aO (j:=1) Y,.ref d.P,ps2.length,Y,.inl ⟨_,bJ.of eP,xl.symm⟩,_,_,Y,Y,_,_,Y,d,ls2,ps2,[],_,false,Y,D3,by omega,λl H4 _ s4 D4=>?_⟩;rw [c3] at s4;have s24:=s2.trans s4;obtain⟨xs4,eP4,aP4⟩:=D4.parts;have xl4:=aP4.length;refine cB (v:=u) hu λu hu=>?_;refine⟨_,Y,d.S,_,1,_,Y,Y,D4.seqS,aO (j:=1) Y,.inl ⟨Y,_,bJ.of eP4⟩,?_⟩;refine⟨_,Y,d.S,_,4,_,Y,Y,D4.seqS,aO (j:=4) Y,?_⟩;refine⟨_,Y,d.S,_,1,_,Y,Y,D4.seqS,aO (j:=1) Y,.ref d.P,ps2.length,Y,.inl ⟨_,bJ.of eP4,xl4.symm⟩,?_⟩;refine⟨d.c4,ps2.length,Y,by omega,λH5 s5=>?_⟩;have D5:=D4.keep s5;have c5:=s24.trans (D4.cut s5);have eP5:=s5 _ _ eP4;refine⟨jB,λa1 n1=>⟨_,Y,jB,λa2 n2=>⟨_,Y,_,Y,jB,λa3 n3=>⟨jB,λq nq=>?_⟩⟩⟩⟩;obtain⟨D6,z1,z2,z3⟩:=D5.two n1 n2 (y:=.lst [.str y2]);have t6:aJ H5 (upd (upd H5 a1 (.lst [])) a2 (.lst [.str y2])):=(aB n1).trans (aB n2);have eP6:=t6 _ _ eP5;generalize upd (upd H5 a1 (.lst [])) a2 (.lst [.str y2])=H6 at D6 z1 z2 z3 t6 eP6 n3 nq ⊢;obtain⟨D7,y1,y2',y3⟩:=D6.two n3 nq (y:=.tup [.str "copy",.str (dm d.c4 ps2.length),.ref a1,.ref a2,.ref a3]);have t7:aJ H6 (upd (upd H6 a3 (.lst [.str bn,.str l.name])) q (.tup [.str "copy",.str (dm d.c4 ps2.length),.ref a1,.ref a2,.ref a3])):=(aB n3).trans (aB nq);have eP7:=t7 _ _ eP6;generalize upd (upd H6 a3 (.lst [.str bn,.str l.name])) q (.tup [.str "copy",.str (dm d.c4 ps2.length),.ref a1,.ref a2,.ref a3])=H7 at D7 y1 y2' y3 t7 eP7 ⊢;have c7:=c5.trans (z3.trans y3);refine⟨d.P,xs4,_,Y,Y,eP7,by omega,?_⟩;have D8:=D7.part (p:=⟨3,dm d.c4 ps2.length,[],[y2],[bn,l.name]⟩) ⟨q,a1,a2,a3,rfl,y2',y3 _ _ z1,y3 _ _ z2,y1⟩ ⟨by show 3 <11;omega,rfl,rfl,rfl,by simp⟩ rfl eP7;have c8:aQ d.E (upd H7 d.P (.lst (xs4 ++ [.ref q])))=aQ d.E H7:=dH (by simp);generalize upd H7 d.P (.lst (xs4 ++ [.ref q]))=H8 at D8 c8 ⊢;subst hu;refine⟨_,Y,d.S,_,2,_,Y,Y,D8.seqS,aO (j:=2) Y,.inl ⟨Y,_,bJ.of D8.opens⟩,_,Y,d.O,_,_,Y,Y,D8.opens,by simp;omega,?_⟩;have D9:=D8.open (os':=[l.name]);have nd:=D9.nod (by rw [lP,length_singleton];omega);rw [hdr] at w2;have wc:=w2.closeBack (p:=⟨3,dm d.c4 ps2.length,[],[y2],[bn,l.name]⟩) (rest:=back.drop (j+1)) (one:=y2) (b:=bn) (fresh:=l.name) rfl rfl (.refl _) rfl (by simpa using nd);subst hD;exact⟨ls2 ++ [l],_,l.name,_,_,_,Y,by rw [dH (by simp),c8];exact c7,D9,by simpa [vU] using wc,by rw [lP];omega,by rw [lP,length_singleton];omega,by rw [lP,length_singleton];omega,hC2.app⟩
   rintro σ H2 ⟨ls2,ps2,y2,u3,u6,u7,rfl,s2,D2,w2,hl2',hl3,hp3,hC2⟩;rw [lM] at w2 hl3 hp3;rw [List.drop_length] at w2;subst hu;refine⟨_,Y,_,Y,jB,λa3 n3=>?_⟩;have t3:=aB (o:=.lst []) n3;have D3:=D2.keep t3;have c3:=s2.trans (D2.cut t3);have o3:=D2.out n3;have e3:=bL (ao (H:=H2) (a:=a3) (o:=.lst ([]:List V))) o3;generalize upd H2 a3 (.lst [])=H3 at t3 D3 c3 e3 ⊢;refine⟨_,Y,d.S,_,2,_,Y,Y,D3.seqS,aO (j:=2) Y,.inl ⟨Y,_,bJ.of D3.opens⟩,d.O,_,.str y2,Y,Y,D3.opens,Y,?_⟩;have D4:=D3.open (os':=[]);have c4:aQ d.E (upd H3 d.O (.lst (([]:List Str).map V.str)))=aQ d.E H3:=dH (by simp);rw [show([y2].map V.str).dropLast=([]:List Str).map V.str from rfl];refine⟨jB,λa4 n4=>?_⟩;generalize upd H3 d.O (.lst (([]:List Str).map V.str))=H4 at D4 c4 n4 ⊢;have s5:=aB (o:=.lst [.str y2]) n4;have D5:=D4.keep s5;have c5:=D4.cut s5;rw [c4] at c5;have e5:=bL (E:=d.E) (H:=upd H4 a4 (.lst [.str y2])) ao (D4.out n4);refine⟨d,ls2,ps2,[],_,1,a3,a4,[],[y2],0,Y,D5,c5 _ _ e3,e5,by omega,Y,by simp,Y,Y,by omega,by omega,by simp,λnewl2 H9 hn2 s9 D9=>?_⟩;have hz:newl2=[]:=List.length_eq_zero_iff.mp hn2;subst hz;rw [map_nil,append_nil,append_nil] at D9;obtain⟨x1,x2,x3⟩:=w2.last (p:=⟨1,dm d.c4 ps2.length,[],[y2],[]⟩) (y:=y2) rfl rfl rfl rfl;exact k ls2 _ H9 (c3.trans (c5.trans s9)) D9 ⟨w2.nod,x1,x2,y2,x3⟩ (by omega) hl2' (by rw [lP,length_singleton];omega) (by rw [lP,length_singleton];omega) hC2.app
 ·intro σ H' Q' Q'' hm hq;obtain⟨x1,x2,x3,x4,x5,x6,x7,x8,x9,x10,x11,x12,x13,x14,x15,x16,x17,x18,x19,x20,q⟩:=hq;exact⟨x1,x2,x3,x4,x5,x6,x7,x8,x9,x10,x11,x12,x13,x14,x15,x16,x17,x18,x19,x20,hm _ _ q⟩
inductive CP (K:Fr) (vs:List V) (H:Hp) (Q:VK) (E:XK):Prop where
 | mk:∀(a:Addr) (ns:List Int) (start steps:Nat) (odd:Bool),vs=[.ref a,.int (start:Nat),.int (steps:Nat),.bl odd]->bJ K H a (ns.map V.int)->steps<=4->(∀(T L P:Addr) (ls:List aD) (ps:List PD) (H':Hp),aJ H H'->H L=none->H P=none->L≠P->H' T=some (.tup [.ref L,.ref P])->Qn H' L P ls ps->Td (jW ns start) (jW ns (start+1)) ls ps->Q (.ref T) H')->CP K vs H Q E
noncomputable abbrev Fg:List Str:=["_law_script", "_law_start", "_law_steps", "_law_odd", "_law_one", "_law_other", "_law_state", "_law_k", "_law_back", "_law_at"]
theorem M4 (T:Txt w K mg t):FO P w K mg base 7 t.Fw ["_law_script", "_law_start", "_law_steps", "_law_odd"] (CP K):=by
 have sc:=T.yE.sc Fg;refine T.yE.F.ok sc ln (λ_ _ _ _ H vs Q E hr h=>?_);obtain⟨a,ns,start,steps,odd,rfl,hS,hst,k⟩:=h;refine⟨_,(aq (sN sc 4 (dX (lC T) T.jE hr (aa (pv 0) (aa (pv 1) ak aj) aj)))
  (aq (sN sc 5 (dX (lC T) T.jE hr (aa (pv 0) (aa (bu dF (pv 1) au) ak bM) aj)))
  (aq (sN sc 6 (bC (aa (bC ak) (aa (bC ak) (aa (bC ak) (aa (pv 4) (aa (pv 5) ak aj) aj) bj) bj) bj)))
  (aq (dO PassesOwn.never rfl (gJ rfl T.jT (aa (bu dF au (bu cH (dX (bh T) T.bx hr (aa (pv 4) (aa au ak az) aj)) au)) ak bM)) (gN sc 7)
   (aA (bI (dX (dj T) T.cP hr (aa (pv 6) (aa (dX (bh T) T.bx hr (aa (pv 5) (aa (pv 7) ak aj) aj)) (aa bQ (aa (bC ak) (aa (bC ak) (aa au ak az) bj) bj) az) aX) aj)))))
  (aq (jJ (i:=8) [5,6] Fg (aZ (top 83)) rfl sc.nd rfl (gJ rfl T.jT (aa (bu cH (dX (bh T) T.bx hr (aa (pv 4) (aa au ak az) aj)) au) ak bM)) (λ_ _ _ _ _=>gj) (λ_ _ _ _ _=>(dX (lF T) T.jM hr (aa (pv 2) (aa (dX (bh T) T.bx hr (aa (pv 1) (aa (bu dF au (pv 0)) ak bM) aj)) (aa nj ak az) aX) aj))))
  (aq (bI (Aw PySem.F.plainAttrs_list PySem.F.slot_list_extend PySem.F.type_list_extend Ij (bc bw (pv 6) au (λ_ _=>rfl)) (aa (pv 8) ak aj)))
  (aq (dO PassesOwn.never rfl (gJ rfl T.jT (aa (pv 2) ak aj)) (gN sc 7)
   (aA (bI (dX (Ky T) T.u9 hr (aa (pv 6) (aa (dX (lC T) T.jE hr (aa (pv 0) (aa (bu dF (bu dF (pv 1) au) (pv 7)) ak bM) aj)) (aa (pv 3) ak aj) aX) aj)))))
  (aq (bI (dX (Et T) T.sV hr (aa (pv 6) (aa (pv 5) (aa (pv 8) ak aj) aj) aj)))
  (aq (sN sc 9 (bu cH (dX (bh T) T.bx hr (aa (pv 4) (aa au ak az) aj)) (bB bV (by rfl) T.fY dC (aa (bc bw (pv 6) au (λ_ _=>rfl)) ak aG))))
  (aA (aM (cL (aa (bc bw (pv 6) au (λ_ _=>rfl)) (aa (bu Gb (jy mH (bc bw (pv 6) au (λ_ _=>rfl)) (jD (pv 9)) mF) (jy mH (bc bw (pv 6) au (λ_ _=>rfl)) mF (jD (pv 9)))) ak bM) aG))))))))))))),?_⟩
 have hl:sizeLine=16777216:=sizeLine_eq;refine hide λu hu=>?_;refine⟨_,Y,_,Y,a,ns,start,Y,hS,?_⟩;refine cB (v:=u) hu λu hu=>?_;refine⟨_,Y,_,Y,_,_,Y,Y,a,ns,start+1,Y,hS,?_⟩;refine cB (v:=u) hu λu hu=>?_;refine⟨jB,λL nL=>⟨jB,λP' nP=>⟨jB,λO nO=>⟨_,Y,_,Y,jB,λS nS=>?_⟩⟩⟩⟩;obtain⟨D1,s1,nP0⟩:=pP.init (jW ns start) (jW ns (start+1)) nL nP nO nS;have nLP:L≠P':=D1.ne.1;refine cB (v:=u) hu λu hu=>?_;change Ag _ _ _ [some (.ref a),some (.int (start:Nat)),some (.int (steps:Nat)),some (.bl odd),some (.int (jW ns start)),some (.int (jW ns (start+1))),some (.ref S),none,none,none] (upd (upd (upd (upd H L (.lst [])) P' (.lst [])) O (.lst [])) S (.lst [.ref L,.ref P',.ref O,.int (jW ns start),.int (jW ns (start+1))]));generalize upd (upd (upd (upd H L (.lst [])) P' (.lst [])) O (.lst [])) S (.lst [.ref L,.ref P',.ref O,.int (jW ns start),.int (jW ns (start+1))])=H1 at D1 s1 ⊢;obtain⟨d,hd⟩:∃d:Dw,d=⟨S,L,P',O,jW ns start,jW ns (start+1)⟩:=⟨_,rfl⟩;rw [<-hd] at D1;have hE:[L,P',O]=d.E:=by rw [hd]
 have hSd:S=d.S:=by rw [hd]
 have hLd:L=d.L:=by rw [hd]
 have hc3:jW ns start=d.c3:=by rw [hd]
 have hc4:jW ns (start+1)=d.c4:=by rw [hd]
 rw [hE] at s1;rw [hLd] at nL nLP;rw [hc3,hc4] at k;rw [hSd,hc3,hc4];clear hd hE nP nO nS;have g0:=emod_nonneg (cg d.c3 5) (show(2:Int)≠0 by decide);have g1:=emod_lt_of_pos (cg d.c3 5) (show(0:Int) <2 by decide);refine⟨_,Y,_,_,Y,_,_,Y,Y,by show(0:Int) <2;decide,_,_,Y,Y,1+cg d.c3 5 % 2,Y,by omega,by omega,?_⟩;obtain⟨g,hg,hg1,hg2⟩:∃g:Nat,(1+cg d.c3 5 % 2).toNat=g/\1<=g/\g<=2:=⟨_,rfl,by omega,by omega⟩;rw [hg];refine Bk (λj σ H2=>∃(ls:List aD) (ps:List PD) (os:List Str) (v7:Option V),σ=[some (.ref a),some (.int (start:Nat)),some (.int (steps:Nat)),some (.bl odd),some (.int d.c3),some (.int d.c4),some (.ref d.S),v7,none,none]/\aJ (aQ d.E H1) (aQ d.E H2)/\pP d H2 ls ps os/\Drawn.WF (vU ls ps os [])/\ls.length=j/\ps.length=j/\os.length=j/\(1<=j->Ny ps)) ⟨[],[],[],none,Y,aJ.refl _,D1,Drawn.WF.start,Y,Y,Y,λh=>absurd h (by decide)⟩ ?_ ?_
 ·rintro j σ H2 hj ⟨ls,ps,os,v7,rfl,s2,D2,w2,h1,h2,h3,hC⟩;refine Vz λDe hD=>?_;refine⟨_,Y,_,Y,_,Y,_,_,Y,jB,λa1 n1=>⟨jB,λa2 n2=>?_⟩⟩;obtain⟨D9,z1,z2,z3⟩:=D2.two n1 n2 (y:=.lst []);refine⟨d,ls,ps,os,_,0,a1,a2,[],[],1,Y,D9,z1,z2,by omega,Y,by simp,Y,Y,by omega,by omega,by omega,λnewl H8 hn s8 D8=>?_⟩;have w8:=tG w2 rfl D8 (.refl _) (by omega) (by rw [lP];omega);subst hD;exact⟨_,_,_,_,Y,s2.trans (z3.trans s8),D8,w8,by rw [lP];omega,by rw [lP,length_singleton];omega,by rw [lP,lM];omega,λ_=>by unfold Ny;rw [List.any_append];simp⟩
 rintro σ H2 ⟨ls,ps,os,v7,rfl,s2,D2,w2,h1,h2,h3,hC⟩;have b0:=emod_nonneg (cg d.c3 6) (show(3:Int)≠0 by decide);have b1:=emod_lt_of_pos (cg d.c3 6) (show(0:Int) <3 by decide);refine cB (v:=u) hu λu hu=>?_;refine⟨_,Y,_,_,Y,_,_,Y,Y,by show(0:Int) <3;decide,cg d.c3 6 % 3,Y,by omega,by omega,?_⟩;obtain⟨nb,hnb,hnb2⟩:∃nb:Nat,(cg d.c3 6 % 3).toNat=nb/\nb<=2:=⟨_,rfl,by omega⟩;rw [hnb];refine jc (λj ys H3=>∃(ls3:List aD) (bl:List Str),ys=bl.map V.str/\bl.length=j/\aJ (aQ d.E H1) (aQ d.E H3)/\pP d H3 ls3 ps os/\Drawn.WF (vU ls3 ps (os ++ bl) bl)/\ls3.length=g+j) (by omega) ⟨ls,[],Y,Y,s2,D2,by rw [append_nil];exact w2,by omega⟩ (λj ys H3 ⟨_,bl,e,e2,_⟩=>by rw [e,lM];omega) ?_ ?_
 ·rintro j ys H3 hj ⟨ls3,bl,rfl,hb,s3,D3,w3,h4⟩;refine yes ⟨_,Y,_,Y,_,Y,_,_,Y,Y,_,_,Y,d,ls3,ps,os,_,true,Y,D3,by omega,λl H4 _ s4 D4=>?_⟩;have nd:=D4.nod (by rw [lP,length_singleton];omega);have wb:=w3.backLane (b:=l.name) (by simpa using nd);exact⟨ls3 ++ [l],bl ++ [l.name],by simp,by simp [hb],s3.trans s4,D4,by simpa [vU] using wb,by rw [lP,length_singleton];omega⟩
 rintro ys H3 ⟨ls3,bl,rfl,hbl,s3,D3,w3,h4⟩ B nB;have t4:=aB (o:=.lst (bl.map V.str)) nB;have D4:=D3.keep t4;have s4:=s3.trans (D3.cut t4);have eB:=bL (ao (H:=H3) (a:=B) (o:=.lst (bl.map V.str))) (D3.out nB);generalize upd H3 B (.lst (bl.map V.str))=H4 at t4 D4 s4 eB ⊢;refine cB (v:=u) hu λu hu=>?_;refine⟨_,Y,d.S,_,2,_,Y,Y,D4.seqS,aO (j:=2) Y,.inl ⟨Y,_,bJ.of D4.opens⟩,_,Y,d.O,B,_,_,Y,Y,D4.opens,bF _ _ eB,by rw [lM,lM];omega,?_⟩;rw [<-map_append];have D5:=D4.open (os':=os ++ bl);have c5:aQ d.E (upd H4 d.O (.lst ((os ++ bl).map V.str)))=aQ d.E H4:=dH (by simp);generalize upd H4 d.O (.lst ((os ++ bl).map V.str))=H5 at D5 c5 ⊢;rw [<-c5] at s4 eB;refine cB (v:=u) hu λu hu=>?_;refine⟨_,Y,(steps:Int),Y,by omega,by omega,?_⟩;rw [toNat_natCast];refine Bk (λj σ H6=>∃(ls6:List aD) (ps6:List PD) (os6:List Str) (v7:Option V),σ=[some (.ref a),some (.int (start:Nat)),some (.int (steps:Nat)),some (.bl odd),some (.int d.c3),some (.int d.c4),some (.ref d.S),v7,some (.ref B),none]/\aJ (aQ d.E H5) (aQ d.E H6)/\pP d H6 ls6 ps6 os6/\Drawn.WF (vU ls6 ps6 os6 bl)/\1<=ls6.length/\ls6.length<=4+2 * j/\ps6.length<=2+2 * j/\os6≠[]/\os6.length<=4/\Ny ps6) ⟨ls3,ps,os ++ bl,v7,Y,aJ.refl _,D5,w3,by omega,by omega,by omega,by intro z;have:=congrArg List.length z;rw [lP,length_nil] at this;omega,by rw [lP];omega,hC (by omega)⟩ ?_ ?_
 ·rintro j σ H6 hj ⟨ls6,ps6,os6,u7,rfl,s6,D6,w6,l0,l6,p6,o0,o6,hC6⟩;have hS6:bJ K H6 a (ns.map V.int):=bF.seq ((s1.trans (s4.trans s6)).seq hS);refine Vz λDe hD=>?_;refine⟨_,Y,_,Y,_,Y,_,_,Y,Y,_,Y,_,_,Y,Y,a,ns,start+2+(0+j),Y,hS6,_,Y,d,ls6,ps6,os6,_,bl,odd,Y,D6,w6,o0,o6,by omega,by omega,λls' ps' os' H' X=>?_⟩;subst hD;exact⟨ls',ps',os',_,Y,s6.trans X.cut,X.at',X.wf,by have h1:=X.wf.ins.length_eq;have h2:=X.o1;rw [lP,lM] at h1;change _+os'.length=_ at h1;omega,by have:=X.l2;omega,by have:=X.p2;omega,by intro z;have:=X.o1;rw [z] at this;simp at this,X.o4,X.gv hC6⟩
 rintro σ H6 ⟨ls6,ps6,os6,u7,rfl,s6,D6,w6,l0,l6,p6,o0,o6,hC6⟩;refine cB (v:=u) hu λu hu=>?_;refine⟨_,Y,_,Y,_,Y,d,ls6,ps6,os6,_,B,bl,Y,D6,w6,s6 _ _ eB,o0,o6,by omega,by omega,by omega,hC6,λls7 ps7 H7 s7 D7 W7 l17 l7 p16 p1 hC7=>?_⟩;obtain⟨xsL,eL,aL⟩:=D7.lanes;obtain⟨xsP,eP,aP⟩:=D7.parts;have xl:=aP.length;refine cB (v:=u) hu λu hu=>?_;refine⟨_,Y,_,_,Y,_,Y,d.S,_,1,_,Y,Y,D7.seqS,aO (j:=1) Y,.ref d.P,ps7.length,Y,.inl ⟨_,bJ.of eP,xl.symm⟩,cg d.c3 7,(ps7.length:Int),Y,Y,by omega,?_⟩;have r0:=emod_nonneg (cg d.c3 7) (show(ps7.length:Int)≠0 by omega);obtain⟨r,hr'⟩:∃r:Nat,cg d.c3 7 % (ps7.length:Int)=(r:Int):=⟨_,(Int.toNat_of_nonneg r0).symm⟩;dsimp only;rw [hr'];subst hu;refine⟨_,Y,d.S,_,0,_,Y,Y,D7.seqS,aO (j:=0) Y,?_⟩;refine⟨_,Y,d.S,_,1,_,Y,Y,D7.seqS,aO (j:=1) Y,?_⟩;refine⟨_,Y,_,Y,d.P,_,Y,bJ.of eP,λq1 m1=>?_⟩;rw [Bl];have t1:=aB (o:=.lst (xsP.drop r)) m1;have f1:upd H7 q1 (.lst (xsP.drop r)) q1=some (.lst (xsP.drop r)):=ao;have D8:=D7.keep t1;have eP8:=t1 _ _ eP;have eL8:=t1 _ _ eL;generalize upd H7 q1 (.lst (xsP.drop r))=H8 at t1 f1 D8 eP8 eL8 ⊢;refine⟨_,Y,d.S,_,1,_,Y,Y,D8.seqS,aO (j:=1) Y,_,Y,_,Y,d.P,_,Y,bJ.of eP8,λq2 m2=>?_⟩;rw [WQ];have t2:=aB (o:=.lst (xsP.take r)) m2;have f2:upd H8 q2 (.lst (xsP.take r)) q2=some (.lst (xsP.take r)):=ao;have f12:=t2 _ _ f1;have eL9:=t2 _ _ eL8;generalize upd H8 q2 (.lst (xsP.take r))=H9 at t2 f2 f12 eL9 ⊢;refine⟨q1,q2,_,_,Y,Y,f12,f2,by rw [length_drop,length_take];omega,λq3 m3=>?_⟩;have t3:=aB (o:=.lst (xsP.drop r ++ xsP.take r)) m3;have f3:upd H9 q3 (.lst (xsP.drop r ++ xsP.take r)) q3=some (.lst (xsP.drop r ++ xsP.take r)):=ao;have eLA:=t3 _ _ eL9;generalize upd H9 q3 (.lst (xsP.drop r ++ xsP.take r))=HA at t3 f3 eLA ⊢;refine⟨jB,λT' nT=>?_⟩;have t4:=aB (o:=.tup [.ref d.L,.ref q3]) nT;have sA:aJ H7 (upd HA T' (.tup [.ref d.L,.ref q3])):=t1.trans (t2.trans (t3.trans t4));have s17:aJ H (aQ d.E H7):=s1.trans (s4.trans (s6.trans s7));have s07:aJ H H7:=s17.trans bF;have free3:H q3=none:=s07.free (t1.free (t2.free m3));have cA:aJ (aQ d.E H7) (upd HA T' (.tup [.ref d.L,.ref q3])):=bF.trans sA;have nq:d.L≠q3:=aF eL9 m3;have rp:=VB ps7 r;refine k T' d.L q3 ls7 (ps7.drop r ++ ps7.take r) _ (s07.trans sA) nL free3 nq ao ⟨⟨xsL,t4 _ _ eLA,aL.imp λ_ _ h=>h.same cA⟩,⟨_,t4 _ _ f3,((aP.drop r).app (aP.take r)).imp λ_ _ h=>h.same cA⟩⟩ ⟨D7.lok,λp hp=>D7.pok p (rp.mem_iff.mpr hp),D7.ln,?_,W7.perm rp,by omega,l17,by rw [<-rp.length_eq];exact p1,by rw [<-rp.length_eq];exact p16,by unfold Ny at hC7 ⊢;rw [<-rp.any_eq];exact hC7⟩;rw [<-rp.length_eq,<-D7.pn];exact rp.map _
inductive Ei (K:Fr) (vs:List V) (H:Hp) (Q:VK) (E:XK):Prop where
 | mk:∀x,vs=[x]->(((∃z:Str,x=.str z/\z.length<=100/\∀H',aJ H H'->Q (.bl (nameB z)) H')∨∃Tx,tyN K H x Tx/\Tx∈qY/\Tx≠ "str" /\Q (.bl false) H))->Ei K vs H Q E
theorem NZ (T:Txt w K mg t):FO P w K mg base 1 t.Jh ["thing"] (Ei K):=by
 have sc:=T.Bh.sc ["thing"];refine T.Bh.F.ok sc ln (λ_ _ _ _ H vs Q E hr h=>?_);obtain⟨x,rfl,h⟩:=h;refine⟨_,(aq (bU (PW.pt (Ar (lW (jZ (bB An (by rfl) T.pH mK (aa (pv 0) (aa (DY (by rfl) T.Yc Us) ak aj) aj)))) (uv (lW (Av yz yz au (bB bV (by rfl) T.fY dC (aa (pv 0) ak aj)) (j0 (by rfl) T.Fp))))))
   (aA (aM nj))
   bA)
  (aA (aM (yP (pJ Bs (bc Fb (pv 0) au (λ_ _=>rfl)) (j0 (by rfl) T.Ir) (by with_unfolding_all rfl)) (yR (bB (Aj rfl) (by rfl) T.Qu Jv (aa (eY [] ["thing"] (aZ (top 29)) rfl (YM (pv 0)) (λ_ _ _ _ _=>gj) (λ_ _ _ _ _=>(aav (pJ Bs (pv 0) (j0 (by rfl) T.Ir) (by with_unfolding_all rfl)) (yR (pJ Bs (pv 0) (j0 (by rfl) T.Ss) (by with_unfolding_all rfl)))))) ak ie))))))),?_⟩
 have hl:sizeLine=16777216:=sizeLine_eq;rcases h with ⟨z,rfl,hz,k⟩ | ⟨Tx,ty,hm,hne,k⟩
 ·refine⟨_,Y,.str z, "str", "str",true,Y,Y,by decide,by decide,_,Y,dz ?_⟩;refine⟨_,Y,.str z,z.length,Y,⟨by omega,Y⟩,_,_,Y,Y,_,Y,?_⟩;cases e:z.cps.toList with
  | nil=>
   have h0:z.length=0:=by rw [<-pQ,e];rfl
   rw [h0];refine dz ⟨_,Y,iy ?_⟩;have:=k H (aJ.refl _);unfold nameB at this;rw [e] at this;exact this
  | cons c r=>
   have hlen:z.length=r.length+1:=by rw [<-pQ,e];rfl
   refine yM (by omega) ⟨_,_,Y,Y,_,Y,jQ (λh=>?_) (λh=>?_)⟩
   ·have h8:¬(z.length:Int)<=8:=by simpa using h
    have:=k H (aJ.refl _);unfold nameB at this;rw [e] at this;simp only [show ¬r.length<=7 by omega,decide_false,Bool.false_and] at this;exact this
   ·have h8:(z.length:Int)<=8:=by simpa using h
    have hc0:Hw z.cps.toList 0=some c:=by rw [e];exact aO (xs:=c:: r) (j:=0) rfl
    refine⟨_,Y,z,_,c,Y,Y,by omega,hc0,_,_,Y,Y,_,Y,?_⟩;have kk:∀H',aJ H H'->Q (.bl (low c && z.cps.toList.all λd=>low d || N8 d)) H':=λH' s'=>by have:=k H' s';unfold nameB at this;rw [e] at this ⊢;simp only [show r.length<=7 by omega,decide_true,Bool.true_and] at this;exact this
    rw [Te];refine jQ (λhc=>?_) (λhc=>?_)
    ·rw [hc,Bool.true_and] at kk;refine⟨_,Y,z,Y,S9 (λi ys H'=>H'=H/\ys=((z.cps.toList.take i).map λd=>low d || N8 d).map V.bl) (by simp only [Str.length] at hz;omega) ⟨Y,by simp⟩ (λi ys H' ⟨_,e⟩=>by rw [e];simp only [lM,length_take];omega) ?_ ?_⟩
     ·rintro i d ys H' hd ⟨rfl,rfl⟩;refine yes ⟨_,Y,_,_,Y,Y,_,Y,?_⟩;have hd':z.cps.toList[i]?=some d:=by simpa using hd
      have next:∀b,b=(low d || N8 d)->(((z.cps.toList.take i).map λd=>low d || N8 d).map V.bl) ++ [V.bl b]=((z.cps.toList.take (i+1)).map λd=>low d || N8 d).map V.bl:=λb hb=>by rw [take_add_one,hd',hb];simp
      rw [Te];refine jQ (λhl'=>?_) (λhl'=>?_)
      ·exact⟨rfl,next true (by rw [hl'];rfl)⟩
      ·have hl2:low d=false:=by simpa using hl'
       refine⟨_,Y,_,_,Y,Y,Y,next _ ?_⟩;rw [YG,hl2,Bool.false_or]
     ·rintro ys H' ⟨rfl,rfl⟩ D hD;refine⟨D,(z.cps.toList.take z.cps.size).map λd=>low d || N8 d,Y,bJ.of ao,?_⟩;have hall:((z.cps.toList.take z.cps.size).map λd=>low d || N8 d).all id=z.cps.toList.all λd=>low d || N8 d:=by rw [take_of_length_le (by simp),List.all_map];rfl
      rw [hall];exact kk _ (aB hD)
    ·have hc':low c=false:=by simpa using hc
     rw [hc',Bool.false_and] at kk;exact kk H (aJ.refl _)
 ·have hb:Mr Tx "str" =false:=by simp only [qY,mem_cons,not_mem_nil,or_false] at hm;rcases hm with rfl | rfl | rfl | rfl | rfl | rfl | rfl <;> first | decide | exact absurd rfl hne
  exact⟨_,Y,x,Tx, "str",false,Y,ty,by decide,hb,_,Y,iy (iy k)⟩
inductive wI (K:Fr) (vs:List V) (H:Hp) (Q:VK) (E:XK):Prop where
 | mk:∀(a b:Addr) (xs ys:List V),vs=[.ref a,.ref b]->bJ K H a xs->bJ K H b ys->1<=xs.length->xs.length<=24->1<=ys.length->ys.length<=16->Q .non H->wI K vs H Q E
theorem Fq (T:Txt w K mg t):FO P w K mg base 1 t.yf ["lanes", "parts"] (wI K):=by
 have sc:=T.sy.sc ["lanes", "parts"];refine T.sy.F.ok sc ln (λ_ _ _ _ H vs Q E hr h=>?_);obtain⟨a,b,xs,ys,rfl,h1,h2,c1,c2,c3,c4,k⟩:=h;refine⟨_,(aq (bU (lW (Av yz yz au (bB bV (by rfl) T.fY dC (aa (pv 0) ak aj)) (j0 (by rfl) T.Ks)))
   (aA eQ)
   bA)
  (aA (bU (lW (Av yz yz au (bB bV (by rfl) T.fY dC (aa (pv 1) ak aj)) (j0 (by rfl) T.JX)))
   (aA eQ)
   bA))),?_⟩
 have hl:sizeLine=16777216:=sizeLine_eq;refine⟨_,Y,.ref a,xs.length,Y,.inl ⟨_,h1,Y⟩,_,_,Y,Y,_,Y,yM (by omega) ⟨_,_,Y,Y,_,Y,?_⟩⟩;rw [show decide ((xs.length:Int)<=24)=true from decide_eq_true (by omega)];refine dz ?_;refine⟨_,Y,.ref b,ys.length,Y,.inl ⟨_,h2,Y⟩,_,_,Y,Y,_,Y,yM (by omega) ⟨_,_,Y,Y,_,Y,?_⟩⟩;rw [show decide ((ys.length:Int)<=16)=true from decide_eq_true (by omega)];exact dz k
inductive yw (K:Fr) (vs:List V) (H:Hp) (Q:VK) (E:XK):Prop where
 | mk:∀(z:Str) (d:Addr) (kvs:List (Key×V)),vs=[.str z,.ref d]->H d=some (.dK kvs)->nameB z=true->z.length<=100->cj kvs (Sum.inr z)=none->(∀H',aJ H H'->Q .non H')->yw K vs H Q E
theorem ye (T:Txt w K mg t):FO P w K mg base 2 t.zg ["name", "known"] (yw K):=by
 have sc:=T.pB.sc ["name", "known"];refine T.pB.F.ok sc ln (λ_ _ _ _ H vs Q E hr h=>?_);obtain⟨z,d,kvs,rfl,hd,hz,hl,hv,k⟩:=h;refine⟨_,(aq (bU (lW (jZ (dX (NZ T) T.Bh hr (aa (pv 0) ak aj))))
   (aA eQ)
   bA)
  (aA (bU (jo (Bv hr.u1 (pv 0) (pv 1)))
   (aA eQ)
   bA))),?_⟩
 refine⟨_,Y,.str z,Y,.inl ⟨z,Y,hl,λH1 s1=>?_⟩⟩;rw [hz];refine⟨_,Y,dz ?_⟩;refine⟨_,Y,_,Y,d,_,Y,eE.k (k:=Sum.inr z) (s1 _ _ hd),?_⟩;rw [hv];exact⟨_,Y,dz (k _ s1)⟩
inductive z7 (K:Fr) (vs:List V) (H:Hp) (Q:VK) (E:XK):Prop where
 | mk:∀(nm:V) (room:Int) (L:Addr) (ws:List Int),vs=[nm,.int room,.ref L]->zp K H L (ws.map V.int)->ws.length<=1000->((∀v∈ws,0<=v/\v <1000000000))->1<=room->(ws.length:Int)<=room->room<=199->(∀H',aJ H H'->Q .non H')->z7 K vs H Q E
theorem JZ (T:Txt w K mg t):FO P w K mg base 3 t.CK ["name", "room", "first"] (z7 K):=by
 have sc:=T.wy.sc ["name", "room", "first"];refine T.wy.F.ok sc ln (λ_ _ _ _ H vs Q E hr h=>?_);obtain⟨nm,room,L,ws,rfl,hL,hw,hB,c1,c2,c3,k⟩:=h;refine⟨_,(aq (bU (PW.pt (Ar (lW (jZ (dX (Cu T) T.uD hr (aa (pv 1) ak aj)))) (uv (lW (Av yz yz (bB (Jl rfl) (by rfl) T.VR NT (aa au (aa (bB bV (by rfl) T.fY dC (aa (pv 2) ak aj)) ak aX) az)) (pv 1) (j0 (by rfl) T.M7))))))
   (aA eQ)
   bA)
  (aA (bU (lW (jZ (bB (Aj rfl) (by rfl) T.Qu Jv (aa (eY [] ["name", "room", "first"] (aZ (top 55)) rfl (Yp (bR (pv 2)) (JF (pv 2))) (λ_ _ _ _ _=>gj) (λ_ _ _ _ _=>(dX (vW T) T.qL hr (aa (pv 0) ak aj)))) ak ie))))
   (aA eQ)
   bA))),?_⟩
 have hl:sizeLine=16777216:=sizeLine_eq;have hlw:(ws.map V.int).length=ws.length:=lM ..;refine⟨_,Y,.int room, "int",true,Y,Y,by decide,by decide,true,Y,dz ?_⟩;refine⟨_,Y,.ref L,(ws.map V.int).length,Y,hL.len,_,_,Y,_,Y,_,_,Y,Y,_,Y,yM ?_ ⟨_,_,Y,Y,_,Y,?_⟩⟩
 ·split <;> omega
 rw [show decide (room<=199)=true from decide_eq_true c3];refine dz ?_;refine VL (a:=L) (xs:=ws.map V.int) ?_ hL (λj ys=>ys=(List.replicate j true).map V.bl) (by rw [lM];omega) rfl (λj ys e=>by rw [e];simp) (λj x ys hx e=>?_) (λys e D hD=>?_)
 ·exact λR r=>⟨_,Y,r⟩
 ·subst e;rw [getElem?_map] at hx;obtain⟨n,hn,rfl⟩:=map_eq_some_iff.mp hx;obtain⟨n0,n1⟩:=hB n (mem_of_getElem? hn);refine yes ⟨_,Y,.int n,Y,.inl ⟨n,Y,Y,?_⟩⟩;rw [decide_eq_true n0,decide_eq_true n1,List.replicate_succ'];simp
 ·subst e;refine⟨D,_,Y,bJ.of ao,_,Y,?_⟩;rw [show((List.replicate (ws.map V.int).length true).all id)=true by simp];exact dz (k _ (aB hD))
inductive xX (K:Fr) (t:jq) (vs:List V) (H:Hp) (Q:VK) (E:XK):Prop where
 | mk:∀(i:Nat) (nm:Str) (r d a1 a2 a3:Addr) (ns is os:List V) (kvs:List (Key×V)),vs=[.ref r,.ref d]->H r=some (.tup [.str (fD i),.str nm,.ref a1,.ref a2,.ref a3])->i<=10->H d=some (.dK kvs)->nameB nm=true->nm.length<=100->cj kvs (Sum.inr nm)=none->zp K H a1 ns->zp K H a2 is->zp K H a3 os->ns.length=cN i->is.length=cI i->os.length=cO i->((∀v∈ns,Val v))->(∀H' p,aJ H H'->H p=none->fQ K t H' p i (.str nm) ns is os->Q (.ref p) H')->xX K t vs H Q E
theorem Ht (T:Txt w K mg t):FO P w K mg base 5 t.z6 ["row", "known"] (xX K t):=by
 have sc:=T.uc.sc ["row", "known"];refine T.uc.F.ok sc ln (λ_ _ _ _ H vs Q E hr h=>?_);obtain⟨i,nm,r,d,a1,a2,a3,ns,is,os,kvs,rfl,hr1,hi,hd,hz,hl,hv,q1,q2,q3,l1,l2,l3,hV,k⟩:=h;refine⟨_,(aq (bU (lW (jZ (dX (GC T) T.xG hr (aa (bc cT (pv 0) au (λ_ _=>Y)) ak aG))))
   (aA eQ)
   bA)
  (aq (bI (dX (ye T) T.pB hr (aa (bc cT (pv 0) au (λ_ _=>rfl)) (aa (pv 1) ak aj) aG)))
  (aA (aM (dX (J1 T) T.Dm hr (aa (bc cT (pv 0) au (λ_ _=>rfl)) (aa (bc cT (pv 0) au (λ_ _=>rfl)) (aa (bc cT (pv 0) au (λ_ _=>rfl)) (aa (bc cT (pv 0) au (λ_ _=>rfl)) (aa (bc cT (pv 0) au (λ_ _=>rfl)) ak aG) aG) aG) aG) aG)))))),?_⟩
 refine⟨_,Y,r,_,0,_,Y,Y,fZ.of hr1,aO (j:=0) Y,fD i,Y,?_⟩;rw [row_of];refine⟨_,Y,dz ?_⟩;refine⟨_,Y,r,_,1,_,Y,Y,fZ.of hr1,aO (j:=1) Y,_,Y,nm,d,kvs,Y,hd,hz,hl,hv,λH1 s1=>?_⟩;have e1:=fZ.of (K:=K) (s1 _ _ hr1);exact⟨_,Y,r,_,0,_,Y,Y,e1,aO (j:=0) Y,_,Y,r,_,1,_,Y,Y,e1,aO (j:=1) Y,_,Y,r,_,2,_,Y,Y,e1,aO (j:=2) Y,_,Y,r,_,3,_,Y,Y,e1,aO (j:=3) Y,_,Y,r,_,4,_,Y,Y,e1,aO (j:=4) Y,i,.str nm,a1,a2,a3,ns,is,os,Y,hi,s1.seqA q1,s1.seqA q2,s1.seqA q3,l1,l2,l3,hV,λH2 p s2 np P=>k _ p (s1.trans s2) (s1.free np) P⟩
inductive zY (K:Fr) (vs:List V) (H:Hp) (Q:VK) (E:XK):Prop where
 | mk:∀(y:Str) (a rd d:Addr) (zs:List Str) (rk kvs:List (Key×V)),vs=[.str y,.ref a,.ref rd,.ref d]->fZ K H a (zs.map V.str)->H rd=some (.dK rk)->rd≠d->H d=some (.dK kvs)->zs.Nodup->((∀z∈zs,(cj rk (Sum.inr z)).isSome=true/\cj kvs (Sum.inr z)=none))->kvs.length+zs.length<=1000->(Q .non (upd H d (.dK (kvs ++ zs.map λl=>((Sum.inr l:Key),V.str y)))))->zY K vs H Q E
theorem zx (T:Txt w K mg t):FO P w K mg base 1 t.Cj ["part", "lanes", "rooms", "ends"] (zY K):=by
 have sc:=T.rH.sc ["part", "lanes", "rooms", "ends", "lane"];refine T.rH.F.ok sc ln (λ_ _ _ _ H vs Q E hr h=>?_);obtain⟨y,a,rd,d,zs,rk,kvs,rfl,hT,hrd,hne,hd,nd,hz,hlen,k⟩:=h;refine⟨_,(aA (dO PassesOwn.never Y (JF (pv 1)) (gN sc 4)
   (aq (bU (PW.pt (Ar (jo (xM hr.u1 (pv 4) (pv 2))) (uv (jo (Bv hr.u1 (pv 4) (pv 3))))))
    (aA eQ)
    bA)
   (aA (gQ hr.u1 (pv 3) (pv 4) (pv 0) rfl))))),?_⟩
 have hl:sizeLine=16777216:=sizeLine_eq;refine⟨_,rfl,a,rfl,⟨_,hT⟩,W8 (K:=K) (a:=a) (xs:=zs.map V.str) (λj σ H'=>H'=upd H d (.dK (kvs ++ (zs.take j).map λl=>((Sum.inr l:Key),V.str y)))/\∃v4,σ=[some (.str y),some (.ref a),some (.ref rd),some (.ref d),v4]) ⟨by rw [List.take_zero,map_nil,append_nil,K1 hd],none,rfl⟩ (λj σ H' _ ⟨e,_⟩=>by rw [e];exact gW hd hT) ?_ ?_⟩
 ·rintro j x σ H' hx ⟨rfl,v4,rfl⟩;rw [getElem?_map] at hx;obtain⟨z,hzj,rfl⟩:=map_eq_some_iff.mp hx;have hj:j <zs.length:=(List.getElem?_eq_some_iff.mp hzj).1;obtain⟨r1,r2⟩:=hz z (mem_of_getElem? hzj);obtain⟨rv,hrv⟩:=isSome_iff_exists.mp r1;have erd:upd H d (.dK (kvs ++ (zs.take j).map λl=>((Sum.inr l:Key),V.str y))) rd=some (.dK rk):=by rw [aK hne];exact hrd
  have nin:z∉zs.take j:=λhm=>by
   obtain⟨i,hi,ei⟩:=mem_iff_getElem.mp hm;rw [length_take] at hi;rw [List.getElem_take] at ei;have e2:zs[j]=z:=by rw [getElem?_eq_getElem hj] at hzj;exact Option.some.inj hzj
   have:=(getElem_inj nd).mp (ei.trans e2.symm);omega
  have none':cj (kvs ++ (zs.take j).map λl=>((Sum.inr l:Key),V.str y)) (Sum.inr z)=none:=jw (by
   rw [map_append,mem_append,not_or];refine⟨λhm=>?_,λhm=>?_⟩
   ·have:(cj kvs (Sum.inr z)).isSome=true:=by rw [<-tY];obtain⟨p,hp,e⟩:=mem_map.mp hm;exact any_eq_true.mpr ⟨p,hp,decide_eq_true e⟩
    rw [r2] at this;cases this
   ·rw [map_map] at hm;obtain⟨b,hb,e⟩:=mem_map.mp hm;cases e;exact nin hb)
  refine⟨_,rfl,_,rfl,rd,some rv,rfl,(by rw [<-hrv];exact eE.k (k:=Sum.inr z) erd),_,rfl,dz ?_⟩;refine⟨_,rfl,_,rfl,d,none,rfl,(by rw [<-none'];exact eE.k (k:=Sum.inr z) ao),_,rfl,dz ?_⟩;refine⟨_,rfl,_,rfl,_,rfl,d,_,rfl,pC.k (k:=Sum.inr z) ao (by rw [lP,lM,length_take];omega),?_,_,rfl⟩;rw [rE,j7 _ none',append_assoc,take_succ,hzj,toList_some,map_append];rfl
 ·rintro σ H' ⟨rfl,v4,rfl⟩;rw [lM,take_length];exact k
inductive Ac (K:Fr) (vs:List V) (H:Hp) (Q:VK) (E:XK):Prop where
 | mk:∀(r g d:Addr) (rk gk tk:List (Key×V)),vs=[.ref r,.ref g,.ref d]->H r=some (.dK rk)->H g=some (.dK gk)->H d=some (.dK tk)->r≠g->r≠d->((∀q∈rk,(cj gk q.1).isSome=true/\(cj tk q.1).isSome=true))->Q .non H->Ac K vs H Q E
theorem J4 (T:Txt w K mg t):FO P w K mg base 1 t.Df ["rooms", "givers", "takers"] (Ac K):=by
 have sc:=T.wD.sc ["rooms", "givers", "takers", "lane"];refine T.wD.F.ok sc ln (λ_ _ _ _ H vs Q E hr h=>?_);obtain⟨r,g,d,rk,gk,tk,rfl,h1,h2,h3,n1,n2,hA,k⟩:=h;refine⟨_,(aA (yV (H0:=H) Y (dO PassesOwn.never Y (zb (pv 0)) (gN sc 3)
   (aA (bU (PW.pt (Ar (jo (xM hr.u1 (pv 3) (pv 1))) (uv (jo (xM hr.u1 (pv 3) (pv 2))))))
    (aA eQ)
    bA))))),?_⟩
 refine⟨_,Y,r,_,Y,h1,λo=>zA (λj σ H'=>H'=upd H r (.frz o (.dK rk))/\∃v3,σ=[some (.ref r),some (.ref g),some (.ref d),v3]) ⟨Y,none,Y⟩ (λj σ H' _ ⟨e,_⟩=>by rw [e];exact ao) ?_ ?_⟩
 ·rintro j kk w σ H' hj ⟨rfl,v3,rfl⟩;obtain⟨a1,a2⟩:=hA _ (mem_of_getElem? hj);obtain⟨u1,b1⟩:=isSome_iff_exists.mp a1;obtain⟨u2,b2⟩:=isSome_iff_exists.mp a2;have e2:upd H r (.frz o (.dK rk)) g=some (.dK gk):=by rw [aK (Ne.symm n1)];exact h2
  have e3:upd H r (.frz o (.dK rk)) d=some (.dK tk):=by rw [aK (Ne.symm n2)];exact h3
  exact⟨_,rfl,_,rfl,g,some u1,rfl,(by rw [<-b1];exact eE.k e2),_,rfl,dz ⟨_,rfl,_,rfl,d,some u2,rfl,(by rw [<-b2];exact eE.k e3),_,rfl,dz ⟨rfl,_,rfl⟩⟩⟩
 ·rintro σ H' ⟨rfl,v3,rfl⟩;refine⟨_,⟨r,o,_,ao,?_,Y⟩,?_⟩
  ·intro o' u' z;rw [show H r=_ from h1] at z;cases z
  ·rw [rE,K1 h1];exact k
noncomputable def TQ (H:Hp) (J:Addr):List (Key×V):=match H J with
 | some (.dK jk)=>jk
 | _=>[]
theorem Qi {H:Hp} {J:Addr} {jk:List (Key×V)} (h:H J=some (.dK jk)):TQ H J=jk:=by unfold TQ;rw [h]
theorem V4 {f:PD->List Str} {ps:List PD} {j:Nat} {k:Key} {v:V} (h:(cX f ps)[j]?=some (k,v)):∃p∈ps,∃l∈f p,k=Sum.inr l/\v=.str p.name:=by have:=mem_of_getElem? h;unfold cX at this;obtain⟨p,hp,hm⟩:=mem_flatMap.mp this;obtain⟨l,hl,e⟩:=mem_map.mp hm;cases e;exact⟨p,hp,l,hl,Y,Y⟩
noncomputable def Up (ps:List PD) (jk:List (Key×V)) (j:Nat):Prop:=∀i k v,i <j->(cX (·.outs) ps)[i]?=some (k,v)->∀a∈ps,∀b∈ps,∀l,k=Sum.inr l->l∈a.outs->l∈b.ins->iV jk a.name=iV jk b.name
theorem Up.all {ps:List PD} {jk:List (Key×V)} (h:Up ps jk (cX (·.outs) ps).length):∀a∈ps,∀b∈ps,∀l,l∈a.outs->l∈b.ins->iV jk a.name=iV jk b.name:=λa ha b hb l la lb=>by have hm:((Sum.inr l:Key),V.str a.name)∈cX (·.outs) ps:=mem_flatMap.mpr ⟨a,ha,mem_map.mpr ⟨l,la,rfl⟩⟩;obtain⟨i,hi,ei⟩:=mem_iff_getElem.mp hm;exact h i _ _ hi (by rw [getElem?_eq_getElem hi,ei]) a ha b hb l rfl la lb
inductive vO (K:Fr) (vs:List V) (H:Hp) (Q:VK) (E:XK):Prop where
 | mk:∀(p0:PD) (g d:Addr) (ps:List PD),vs=[.str p0.name,.ref g,.ref d]->p0∈ps->ps.length<=16->H g=some (.dK (cX (·.outs) ps))->H d=some (.dK (cX (·.ins) ps))->g≠d->(ps.flatMap (·.outs)).Nodup->(ps.flatMap (·.ins)).Nodup->(ps.flatMap (·.outs)).Perm (ps.flatMap (·.ins))->((∃y,∀q∈ps,∃x∈q.ins ++ q.outs,Drawn.jR ps x y))->(∀H' J jk,aJ H H'->H' J=some (.dK jk)->(∀p∈ps,iV jk p.name=true)->Q (.ref J) H')->vO K vs H Q E
theorem Fl (T:Txt w K mg t):FO P w K mg base 1 t.yl ["part", "givers", "takers"] (vO K):=by
 have sc:=T.rY.sc ["part", "givers", "takers", "joined", "grown", "lane"];refine T.rY.F.ok sc ln (λ_ _ _ _ H vs Q E hr h=>?_);obtain⟨p0,g,d,ps,rfl,hp0,hps,h1,h2,n1,no,ni,pm,hang,k⟩:=h;refine⟨_,(aq (sN sc 3 (Xe (Vm (pv 0) nj V9) Y Y (by simp) (by decide)))
  (aq (sN sc 4 nj)
  (aq (Gk PassesOwn.never (jZ (pv 4))
   (aq (sN sc 4 nj)
   (aA (yV (H0:=H) rfl (dO PassesOwn.never rfl (zb (pv 1)) (gN sc 5)
    (aA (il (bU (bz M5 (KC (Bv hr.u1 (cJ hr.u1 (pv 1) (pv 5) (λ_ _=>rfl)) (pv 3))) (KC (Bv hr.u1 (cJ hr.u1 (pv 2) (pv 5) (λ_ _=>rfl)) (pv 3))) (bN _))
     (aq (gQ hr.u1 (pv 3) (cJ hr.u1 (pv 1) (pv 5) (λ_ _=>rfl)) nj rfl)
     (aq (gQ hr.u1 (pv 3) (cJ hr.u1 (pv 2) (pv 5) (λ_ _=>rfl)) nj rfl)
     (aA (sN sc 4 nj))))
     bA))))))))
  (aA (aM (pv 3)))))),?_⟩
 have hl:sizeLine=16777216:=sizeLine_eq;refine λJ nJ=>⟨_,Y,ao,[((Sum.inr p0.name:Key),V.bl true)],Y,by show 1<=15;decide,?_⟩;rw [rE];have s0:aJ H (upd H J (.dK (wJ [] [((Sum.inr p0.name:Key),V.bl true)]))):=aB nJ;have e0:(upd H J (.dK (wJ [] [((Sum.inr p0.name:Key),V.bl true)]))) J=some (.dK [((Sum.inr p0.name:Key),V.bl true)]):=ao;generalize upd H J (.dK (wJ [] [((Sum.inr p0.name:Key),V.bl true)]))=H0 at s0 e0 ⊢;have ngJ:J≠g:=Ne.symm (aF h1 nJ);have ndJ:J≠d:=Ne.symm (aF h2 nJ);have melt:∀{H':Hp} {o:Obj},nW g H H'->H' g=some (.frz o (.dK (cX (·.outs) ps)))->aJ H (upd H' g (.dK (cX (·.outs) ps))):=λhb hg b u e=>by
  by_cases h:b=g
  ·subst h;rw [ao];rw [h1] at e;exact e
  ·rw [aK h];exact hb b u h e
 have m0:pY ps [((Sum.inr p0.name:Key),V.bl true)]<=16:=le_trans (length_filter_le _ _) hps;refine Eo (λσ H'=>aJ H H'/\∃b v5 jk,σ=[some (.str p0.name),some (.ref g),some (.ref d),some (.ref J),some (.bl b),v5]/\H' J=some (.dK jk)/\iV jk p0.name=true/\jk.length+2 * pY ps jk<=40/\(b=false->Up ps jk (cX (·.outs) ps).length))
  (λσ H'=>match σ with | [_,_,_,_,some (.bl b),_]=>(if b then 1 else 0)+2 * pY ps (TQ H' J) | _=>0) ⟨s0,true,none,_,rfl,e0,by simp [iV,cj],by rw [length_singleton];omega,by intro z;cases z⟩ ?_ ?_
 ·rintro σ H1 ⟨s1,b,v5,jk,rfl,hJ,hp,hlen,hev⟩;cases b with
  | false=>exact⟨_,rfl,_,rfl,dz ⟨_,rfl,k _ J jk s1 hJ (YD no ni pm hang (hev rfl).all hp0 hp)⟩⟩
  | true=>
   refine⟨_,Y,_,Y,iy ?_⟩;refine⟨_,Y,g,_,Y,s1 _ _ h1,λo=>?_⟩;have gD:∀{H':Hp},nW g H H'->H' d=some (.dK (cX (·.ins) ps)):=λhb=>hb d _ (Ne.symm n1) h2;refine zA (λj σ H'=>nW g H H'/\H' g=some (.frz o (.dK (cX (·.outs) ps)))/\∃b v5 jk',σ=[some (.str p0.name),some (.ref g),some (.ref d),some (.ref J),some (.bl b),v5]/\H' J=some (.dK jk')/\iV jk' p0.name=true/\jk'.length+2 * pY ps jk'<=40/\((b=false/\jk'=jk/\Up ps jk j)∨(b=true/\pY ps jk' <pY ps jk)))
    ⟨λb u hn e=>by rw [aK hn];exact s1 b u e,ao,false,v5,jk,rfl,by rw [aK ngJ];exact hJ,hp,hlen,.inl ⟨rfl,rfl,λi _ _ hi=>absurd hi (by omega)⟩⟩ (λj σ H' _ h=>h.2.1) ?_ ?_
   ·rintro j kk w σ H' hj ⟨hb,hg,b,v5,jk',rfl,hJ',hp',hlen',hv⟩;obtain⟨a,ha,l,la,rfl,rfl⟩:=V4 hj;obtain⟨b',hb',lb⟩:=mem_flatMap.mp (pm.mem_iff.mp (mem_flatMap.mpr ⟨a,ha,la⟩));have ga:eE H' g (.str l) (some (.str a.name)):=.inl ⟨_,Sum.inr l,.inr ⟨o,hg⟩,rfl,(iz no ha la).symm⟩;have gb:eE H' d (.str l) (some (.str b'.name)):=by rw [<-iz ni hb' lb];exact eE.k (k:=Sum.inr l) (gD hb)
    have ja:eE H' J (.str a.name) (cj jk' (Sum.inr a.name)):=eE.k (k:=Sum.inr a.name) hJ';have jb:eE H' J (.str b'.name) (cj jk' (Sum.inr b'.name)):=eE.k (k:=Sum.inr b'.name) hJ';have nm:∀a2∈ps,∀b2∈ps,l∈a2.outs->l∈b2.ins->a2.name=a.name/\b2.name=b'.name:=λa2 ha2 b2 hb2 q1 q2=>by have e1:=iz no ha2 q1;rw [iz no ha la] at e1;have e2:=iz ni hb2 q2;rw [iz ni hb' lb] at e2;simp only [Option.some.injEq,V.str.injEq] at e1 e2;exact⟨e1.symm,e2.symm⟩
    refine⟨λσ H''=>nW g H H''/\H'' g=some (.frz o (.dK (cX (·.outs) ps)))/\∃b jk'',σ=[some (.str p0.name),some (.ref g),some (.ref d),some (.ref J),some (.bl b),some (.str l)]/\H'' J=some (.dK jk'')/\iV jk'' p0.name=true/\jk''.length+2 * pY ps jk''<=40/\((b=false/\jk''=jk/\Up ps jk (j+1))∨(b=true/\pY ps jk'' <pY ps jk)),?_,?_⟩
    ·refine⟨_,Y,_,Y,g,_,Y,ga,_,Y,J,_,Y,ja,?_⟩;refine⟨_,Y,_,Y,d,_,Y,gb,_,Y,J,_,Y,jb,Y,_,Y,?_⟩;change if (!decide (V.bl (iV jk' a.name)=V.bl (iV jk' b'.name)))=true then _ else _;refine jQ (λhne=>?_) (λheq=>?_)
     ·have hne':iV jk' a.name≠iV jk' b'.name:=λz=>by rw [z] at hne;simp at hne
      refine⟨_,Y,_,Y,_,Y,g,_,Y,ga,J,_,Y,pC.k (k:=Sum.inr a.name) hJ' (by omega),?_⟩;have b2:nW g H (upd H' J (.dK (putK jk' (Sum.inr a.name) (.bl true)))):=λx u hn e=>by rw [aK (aF e nJ)];exact hb x u hn e
      have g2:(upd H' J (.dK (putK jk' (Sum.inr a.name) (.bl true)))) g=some (.frz o (.dK (cX (·.outs) ps))):=by rw [aK (Ne.symm ngJ)];exact hg
      have gb2:eE (upd H' J (.dK (putK jk' (Sum.inr a.name) (.bl true)))) d (.str l) (some (.str b'.name)):=by rw [<-iz ni hb' lb];exact eE.k (k:=Sum.inr l) (gD b2)
      have len1:=ou jk' (Sum.inr a.name:Key) (.bl true);have len2:=ou (putK jk' (Sum.inr a.name) (.bl true)) (Sum.inr b'.name:Key) (.bl true);refine⟨_,Y,_,Y,_,Y,d,_,Y,gb2,J,_,Y,pC.k (k:=Sum.inr b'.name) ao (by omega),?_⟩;rw [rE];have has2:∀x,iV (putK (putK jk' (Sum.inr a.name) (.bl true)) (Sum.inr b'.name) (.bl true)) x=(decide (x=b'.name) || (decide (x=a.name) || iV jk' x)):=λx=>by rw [Li,Li]
      have mono:∀x,iV jk' x=true->iV (putK (putK jk' (Sum.inr a.name) (.bl true)) (Sum.inr b'.name) (.bl true)) x=true:=λx hx=>by rw [has2,hx];simp
      have lt:pY ps (putK (putK jk' (Sum.inr a.name) (.bl true)) (Sum.inr b'.name) (.bl true)) <pY ps jk':=by
       cases hA:iV jk' a.name
       ·exact Np mono ha hA (by rw [has2];simp)
       ·cases hB:iV jk' b'.name
        ·exact Np mono hb' hB (by rw [has2];simp)
        ·rw [hA,hB] at hne';exact absurd rfl hne'
      refine⟨λx u hn e=>by rw [aK (aF e nJ)];exact hb x u hn e,by rw [aK (Ne.symm ngJ)];exact hg,true,_,rfl,ao,mono _ hp',by omega,.inr ⟨rfl,?_⟩⟩;rcases hv with ⟨_,rfl,_⟩ | ⟨_,hv⟩
      ·exact lt
      ·omega
     ·have heq':iV jk' a.name=iV jk' b'.name:=by cases hA:iV jk' a.name <;> cases hB:iV jk' b'.name <;> rw [hA,hB] at heq <;> simp_all
      refine⟨hb,hg,b,jk',Y,hJ',hp',hlen',?_⟩;rcases hv with ⟨rfl,rfl,hE⟩ | hv
      ·refine .inl ⟨Y,Y,λi k2 v2 hi e2 a2 ha2 b2 hb2 l2 ek q1 q2=>?_⟩;rcases Nat.lt_or_ge i j with h | h
       ·exact hE i k2 v2 h e2 a2 ha2 b2 hb2 l2 ek q1 q2
       ·have:i=j:=by omega
        subst this;rw [hj] at e2;cases e2;cases ek;obtain⟨x1,x2⟩:=nm a2 ha2 b2 hb2 q1 q2;rw [x1,x2];exact heq'
      ·exact .inr hv
    ·rintro σ H'' ⟨hb,hg,b,jk'',rfl,r⟩;exact⟨hb,hg,b,_,jk'',Y,r⟩
   ·rintro σ H' ⟨hb,hg,b,v5',jk',rfl,hJ',hp',hlen',hv⟩;refine⟨_,⟨g,o,_,hg,(λo' u' z=>by rw [show H g=_ from h1] at z;cases z),rfl⟩,?_⟩;have eJ:(upd H' g (.dK (cX (·.outs) ps))) J=some (.dK jk'):=by rw [aK ngJ];exact hJ'
    refine⟨⟨melt hb hg,b,v5',jk',Y,eJ,hp',hlen',λz=>?_⟩,?_⟩
    ·rcases hv with ⟨_,rfl,hE⟩ | ⟨h,_⟩
     ·exact hE
     ·rw [h] at z;cases z
    ·show(if b=true then 1 else 0)+2 * pY ps (TQ _ J) <(if true=true then 1 else 0)+2 * pY ps (TQ _ J);rw [Qi eJ,Qi hJ];rcases hv with ⟨rfl,rfl,_⟩ | ⟨rfl,h⟩
     ·simp
     ·simp;omega
 ·intro σ H' Q' Q'' hm hq;obtain⟨v,e,b,e2,q⟩:=hq;exact⟨v,e,b,e2,hm _ _ q⟩
inductive wL (K:Fr) (vs:List V) (H:Hp) (Q:VK) (E:XK):Prop where
 | mk:∀(L g d:Addr) (ps:List PD),vs=[.ref L,.ref g,.ref d]->(bJ K H L (ps.map λp=>V.str p.name))->1<=ps.length->ps.length<=16->H g=some (.dK (cX (·.outs) ps))->H d=some (.dK (cX (·.ins) ps))->g≠d->(ps.flatMap (·.outs)).Nodup->(ps.flatMap (·.ins)).Nodup->(ps.flatMap (·.outs)).Perm (ps.flatMap (·.ins))->((∃y,∀q∈ps,∃x∈q.ins ++ q.outs,Drawn.jR ps x y))->(∀H',aJ H H'->Q .non H')->wL K vs H Q E
theorem En (T:Txt w K mg t):FO P w K mg base 2 t.xZ ["names", "givers", "takers"] (wL K):=by
 have sc:=T.sW.sc ["names", "givers", "takers", "joined", "name"];refine T.sW.F.ok sc ln (λ_ _ _ _ H vs Q E hr h=>?_);obtain⟨L,g,d,ps,rfl,hL,hp1,hps,h1,h2,n1,no,ni,pm,hang,k⟩:=h;refine⟨_,(aq (sN sc 3 (dX (Fl T) T.rY hr (aa (bc bw (pv 0) au (λ_ _=>Y)) (aa (pv 1) (aa (pv 2) ak aj) aj) aG)))
  (aA (dO PassesOwn.never rfl (bR (pv 0)) (gN sc 4)
   (aA (bU (jo (xM hr.u1 (pv 4) (pv 3)))
    (aA eQ)
    bA))))),?_⟩
 obtain⟨p0,pr,rfl⟩:∃p0 pr,ps=p0:: pr:=by
  cases ps with
  | nil=>simp at hp1
  | cons a r=>exact⟨a,r,rfl⟩
 refine⟨_,Y,L,_,0,_,Y,Y,hL,aO (j:=0) Y,_,Y,_,Y,p0,g,d,_,Y,mem_cons_self,hps,h1,h2,n1,no,ni,pm,hang,λH1 J jk s1 eJ hA=>?_⟩;refine⟨_,Y,L,Y,⟨_,s1.seq hL⟩,du (K:=K) (a:=L) (xs:=(p0:: pr).map λp=>V.str p.name) (λj σ H'=>H'=H1/\∃v4,σ=[some (.ref L),some (.ref g),some (.ref d),some (.ref J),v4]) ⟨Y,none,Y⟩ (λj σ H' _ ⟨e,_⟩=>by rw [e];exact s1.seq hL) ?_ ?_⟩
 ·rintro j x σ H' hx ⟨rfl,v4,rfl⟩;rw [getElem?_map] at hx;obtain⟨p,hp,rfl⟩:=map_eq_some_iff.mp hx;obtain⟨u,hu⟩:=isSome_iff_exists.mp (hA p (mem_of_getElem? hp));exact⟨_,rfl,_,rfl,J,some u,rfl,(by rw [<-hu];exact eE.k (k:=Sum.inr p.name) eJ),_,rfl,dz ⟨rfl,_,rfl⟩⟩
 ·rintro σ H' ⟨rfl,v4,rfl⟩;exact k _ s1
inductive rN (K:Fr) (t:jq) (vs:List V) (H:Hp) (Q:VK) (E:XK):Prop where
 | mk:∀(n:Addr) (ls:List aD) (ps:List PD),vs=[.ref n]->eG K t H n ls ps->(∀l,H l=none->Q (.ref l) (upd H l (.lst (ls.map λx=>V.str x.name))))->rN K t vs H Q E
theorem lu (T:Txt w K mg t):FO P w K mg base 1 t.mz ["self"] (rN K t):=by have sc:=T.iH.sc ["self"];refine T.iH.F.ok sc ln (λ_ _ _ _ H vs Q E hr h=>?_);obtain⟨n,ls,ps,rfl,N,k⟩:=h;refine⟨_,(aA (aM (gf (lJ rfl) (by rfl) T.vI rB (aa (aU (pv 0) rfl) ak aV)))),?_⟩;obtain⟨dx,fs,R,F,Pd,G,Tk,FL,PL,W⟩:=id N;refine⟨_,Y,n,_,dx,fs,_,Y,W.obj,T.aW.c,T.aW.na.1,W.fl.has ("rooms",.ref R) (by simp),R,_,Y,.inl W.rooms,λl hl=>?_⟩;unfold fM;rw [map_map];exact k l hl
inductive rJ (K:Fr) (t:jq) (vs:List V) (H:Hp) (Q:VK) (E:XK):Prop where
 | mk:∀(n:Addr) (ls:List aD) (ps:List PD),vs=[.ref n]->eG K t H n ls ps->(∀l,H l=none->Q (.ref l) (upd H l (.lst (ps.map λx=>V.str x.name))))->rJ K t vs H Q E
theorem d9 (T:Txt w K mg t):FO P w K mg base 1 t.lZ ["self"] (rJ K t):=by
 have sc:=T.dg.sc ["self"];refine T.dg.F.ok sc ln (λ_ _ _ _ H vs Q E hr h=>?_);obtain⟨n,ls,ps,rfl,N,k⟩:=h;refine⟨_,(aA (aM (gf (lJ rfl) (by rfl) T.vI rB (aa (aU (pv 0) rfl) ak aV)))),?_⟩;obtain⟨dx,fs,R,F,Pd,G,Tk,FL,PL,W⟩:=id N;refine⟨_,Y,n,_,dx,fs,_,Y,W.obj,T.aW.c,T.aW.na.2.2.1,W.fl.has ("parts",.ref Pd) (by simp),Pd,_,Y,.inl W.parts,λl hl=>?_⟩;unfold fH;rw [map_map];have e:ps.map (λx=>V.str x.name)=PL.map (λq=>V.str q.1.name):=by rw [<-W.pls,map_map];rfl
 rw [e] at k;exact k l hl
inductive oA (K:Fr) (t:jq) (vs:List V) (H:Hp) (Q:VK) (E:XK):Prop where
 | mk:∀(n:Addr) (ls:List aD) (ps:List PD) (x:Str),vs=[.ref n,.str x]->eG K t H n ls ps->(∀p,H p=none->Q (.ref p) (upd H p (.lst (cZ ps x))))->oA K t vs H Q E
theorem n8 (T:Txt w K mg t):FO P w K mg base 2 t.jX ["self", "kind"] (oA K t):=by
 have sc:=T.iu.sc ["self", "kind"];refine T.iu.F.ok sc ln (λ_ _ _ _ H vs Q E hr h=>?_);obtain⟨n,ls,ps,x,rfl,N,k⟩:=h;refine⟨_,(aA (aM (Xc (H0:=H) Y (eY [0,1] ["self", "kind"] (aZ (inClass (top 62) 5)) Y (zb (aU (pv 0) Y)) (λ_ _ _ _ _=>(vm (bz gA (Oc (P:=P) (w:=w) (K:=K) (mg:=mg) (base:=base) (CX:=BX) (k:=1) (E:=E0) Y Y Y Y Y (cJ hr.u1 (Ec (K:=K) Y (pv 1) Y) (pv 0) (λ_ _=>Y)) (hr.mono (by decide)) gh) (pv 2) (bN _)))) (λ_ _ _ _ _=>(pv 0)))))),?_⟩;obtain⟨dx,fs,R,F,Pd,G,Tk,FL,PL,W⟩:=id N;have hz:sizeLine=16777216:=sizeLine_eq;have hp:=W.fit.p16;have h5:=W.parts;have lpl:PL.length=ps.length:=by rw [<-W.pls,lM]
 refine⟨_,Y,n,_,dx,fs,_,Y,W.obj,T.aW.c,T.aW.na.2.2.1,W.fl.has ("parts",.ref Pd) (by simp),Pd,_,Y,h5,λo=>?_⟩;refine Ro (λj ys H'=>H'=upd H Pd (.frz o (.dK (fH PL)))/\ys=cZ ((PL.take j).map (·.1)) x) (by unfold fH;rw [lM];omega) ⟨rfl,by simp [cZ]⟩ ?_ ?_ ?_ ?_
 ·rintro j ys H' ⟨_,rfl⟩;have:=zZ ((PL.take j).map (·.1)) x;rw [lM,length_take] at this;omega
 ·rintro j ys H' _ ⟨rfl,_⟩;exact ao
 ·rintro j kk v ys H' hj ⟨rfl,rfl⟩;unfold fH at hj;rw [getElem?_map] at hj;obtain⟨q,hq,e⟩:=map_eq_some_iff.mp hj;cases e;have hm:=mem_of_getElem? hq;obtain⟨dxp,tn,ti,to,p1,p2,p3,p4⟩:=((W.pats q hm).chill (v:=.frz o (.dK (fH PL))) h5).ex;refine⟨_,rfl,n,_,dx,fs,_,rfl,kJ h5 W.obj (by intro _ z;cases z),T.aW.c,T.aW.na.2.2.1,W.fl.has ("parts",.ref Pd) (by simp),_,rfl,Pd,_,rfl,(by rw [<-W.partV hm];exact .inl ⟨_,Sum.inr q.1.name,.inr ⟨o,ao⟩,rfl,rfl⟩),?_⟩;refine⟨q.2,cls t q.1.kind,dxp,_,jm q.1.kind,Y,p1,mJ _ _ _ _ (by decide +kernel) (by decide +kernel) (by decide +kernel) (by decide +kernel),JB T q.1.kind,_,Y,_,Y,Y,_,Y,?_⟩;rw [take_succ,hq,toList_some,map_append,map_singleton,Rg];refine jQ (λe=>?_) (λe=>?_)
  ·have e':fD q.1.kind=x:=by simpa using e
   rw [if_pos e'];exact⟨_,Y,Y,Y⟩
  ·have e':¬fD q.1.kind=x:=by simpa using e
   rw [if_neg e'];exact⟨Y,Y⟩
 ·rintro ys H' ⟨rfl,rfl⟩ D hD;refine⟨_,⟨Pd,o,fH PL,?_,?_,Y⟩,?_⟩
  ·rw [aK (by rintro rfl;rw [ao] at hD;cases hD)];exact ao
  ·intro o' u z;rw [show H Pd=_ from h5] at z;cases z
  ·rw [RP h5 hD];have:=k D (Oo hD);rw [show(fH PL).length=PL.length by unfold fH;rw [lM],take_length,W.pls];exact this
inductive zH (K:Fr) (t:jq) (vs:List V) (H:Hp) (Q:VK) (E:XK):Prop where
 | mk:∀(n:Addr) (ls:List aD) (ps:List PD),vs=[.ref n]->eG K t H n ls ps->(∀p,H p=none->Q (.ref p) (upd H p (.lst (cZ ps "give"))))->zH K t vs H Q E
theorem pO (T:Txt w K mg t):FO P w K mg base 3 t.wO ["self"] (zH K t):=by have sc:=T.kY.sc ["self"];refine T.kY.F.ok sc ln (λ_ _ _ _ H vs Q E hr h=>?_);obtain⟨n,ls,ps,rfl,N,k⟩:=h;refine⟨_,(aA (aM (uo (pv 0) T.aW T.aW.me.2.2.2.1 (n8 T) T.iu hr (aa bQ ak az)))),?_⟩;obtain⟨dx,fs,R,F,Pd,G,Tk,FL,PL,W⟩:=id N;exact⟨_,Y,n,dx,fs,Y,W.obj,W.fl.no _ (by decide +kernel),n,ls,ps,_,Y,N,k⟩
inductive za (K:Fr) (t:jq) (vs:List V) (H:Hp) (Q:VK) (E:XK):Prop where
 | mk:∀(n:Addr) (ls:List aD) (ps:List PD),vs=[.ref n]->eG K t H n ls ps->(∀p,H p=none->Q (.ref p) (upd H p (.lst (cZ ps "take"))))->za K t vs H Q E
theorem J6 (T:Txt w K mg t):FO P w K mg base 3 t.wY ["self"] (za K t):=by have sc:=T.u5.sc ["self"];refine T.u5.F.ok sc ln (λ_ _ _ _ H vs Q E hr h=>?_);obtain⟨n,ls,ps,rfl,N,k⟩:=h;refine⟨_,(aA (aM (uo (pv 0) T.aW T.aW.me.2.2.2.1 (n8 T) T.iu hr (aa bQ ak az)))),?_⟩;obtain⟨dx,fs,R,F,Pd,G,Tk,FL,PL,W⟩:=id N;exact⟨_,Y,n,dx,fs,Y,W.obj,W.fl.no _ (by decide +kernel),n,ls,ps,_,Y,N,k⟩
inductive lO (K:Fr) (t:jq) (vs:List V) (H:Hp) (Q:VK) (E:XK):Prop where
 | mk:∀(n:Addr) (ls:List aD) (ps:List PD) (x:Str),vs=[.ref n,.str x]->eG K t H n ls ps->(((x∈ls.map (·.name)/\∀H',aJ H H'->Q .non H')∨False))->lO K t vs H Q E
theorem eU (T:Txt w K mg t):FO P w K mg base 2 t.jK ["self", "name"] (lO K t):=by
 have sc:=T.cM.sc ["self", "name"];refine T.cM.F.ok sc ln (λ_ _ _ _ H vs Q E hr h=>?_);obtain⟨n,ls,ps,x,rfl,N,h⟩:=h;refine⟨_,(aA (bU (bz jU (pv 1) (Ma (pv 0) T.aW T.aW.me.2.1 (lu T) T.iH hr) (by with_unfolding_all rfl))
   (aA eQ)
   bA)),?_⟩
 obtain⟨dx,fs,R,F,Pd,G,Tk,FL,PL,W⟩:=id N;refine⟨_,Y,_,Y,n,dx,fs,Y,W.obj,W.fl.no _ (by decide +kernel),n,ls,ps,Y,N,λl hl=>?_⟩;have s1:=aB (o:=.lst (ls.map λx=>V.str x.name)) hl;refine⟨l,_,Y,.inl (bJ.of ao),Y,by simp [o9],_,Y,?_⟩;rw [Ff (f:=λx:aD=>x.name)];rcases h with ⟨hx,k⟩ | h
 ·rw [decide_eq_true hx];exact dz (k _ s1)
 ·exact h.elim
inductive vM (K:Fr) (t:jq) (vs:List V) (H:Hp) (Q:VK) (E:XK):Prop where
 | mk:∀(n:Addr) (ls:List aD) (ps:List PD) (x:Str),vs=[.ref n,.str x]->eG K t H n ls ps->(((∃l∈ls,l.name=x/\∀H',aJ H H'->Q (.int l.room) H')∨False))->vM K t vs H Q E
theorem wX (T:Txt w K mg t):FO P w K mg base 3 t.sJ ["self", "name"] (vM K t):=by
 have sc:=T.mY.sc ["self", "name"];refine T.mY.F.ok sc ln (λ_ _ _ _ H vs Q E hr h=>?_);obtain⟨n,ls,ps,x,rfl,N,h⟩:=h;refine⟨_,(aq (bI (uo (pv 0) T.aW T.aW.me.2.2.2.2.2.2.1 (eU T) T.cM hr (aa (pv 1) ak aj)))
  (aA (aM (cJ hr.u1 (aU (pv 0) rfl) (pv 1) (λ_ _=>rfl))))),?_⟩
 obtain⟨dx,fs,R,F,Pd,G,Tk,FL,PL,W⟩:=id N;refine⟨_,Y,n,dx,fs,Y,W.obj,W.fl.no _ (by decide +kernel),_,Y,n,ls,ps,x,Y,N,?_⟩;rcases h with ⟨l,hl,rfl,k⟩ | h
 ·refine .inl ⟨mem_map.mpr ⟨l,hl,Y⟩,λH1 s1=>?_⟩;have W1:=W.same s1;have hv:=W1.room hl;refine⟨_,Y,n,_,dx,fs,_,Y,W1.obj,T.aW.c,T.aW.na.1,W1.fl.has ("rooms",.ref R) (by simp),_,Y,R,_,Y,(by rw [<-hv];exact eE.k (k:=Sum.inr l.name) W1.rooms),?_⟩;exact k _ s1
 ·exact .inr h
inductive uP (K:Fr) (t:jq) (vs:List V) (H:Hp) (Q:VK) (E:XK):Prop where
 | mk:∀(n:Addr) (ls:List aD) (ps:List PD) (x:Str),vs=[.ref n,.str x]->eG K t H n ls ps->(((∃l∈ls,l.name=x/\∀H' p,aJ H H'->H p=none->H' p=some (.lst (l.first.map V.int))->Q (.ref p) H')∨False))->uP K t vs H Q E
theorem DP (T:Txt w K mg t):FO P w K mg base 3 t.qe ["self", "name"] (uP K t):=by
 have sc:=T.p7.sc ["self", "name"];refine T.p7.F.ok sc ln (λ_ _ _ _ H vs Q E hr h=>?_);obtain⟨n,ls,ps,x,rfl,N,h⟩:=h;refine⟨_,(aq (bI (uo (pv 0) T.aW T.aW.me.2.2.2.2.2.2.1 (eU T) T.cM hr (aa (pv 1) ak aj)))
  (aA (aM (gf Aq (by rfl) T.vI rB (aa (cJ hr.u1 (aU (pv 0) rfl) (pv 1) (λ_ _=>rfl)) ak aG))))),?_⟩
 obtain⟨dx,fs,R,F,Pd,G,Tk,FL,PL,W⟩:=id N;refine⟨_,Y,n,dx,fs,Y,W.obj,W.fl.no _ (by decide +kernel),_,Y,n,ls,ps,x,Y,N,?_⟩;rcases h with ⟨l,hl,rfl,k⟩ | h
 ·refine .inl ⟨mem_map.mpr ⟨l,hl,Y⟩,λH1 s1=>?_⟩;have W1:=W.same s1;obtain⟨q,hq,eq⟩:∃q∈FL,q.1=l:=by rw [<-W.fls] at hl;obtain⟨q,hq,e⟩:=mem_map.mp hl;exact⟨q,hq,e⟩
  subst eq;have hv:=W1.firstV hq;refine⟨_,Y,n,_,dx,fs,_,Y,W1.obj,T.aW.c,T.aW.na.2.1,W1.fl.has ("firsts",.ref F) (by simp),_,Y,F,_,Y,(by rw [<-hv];exact eE.k (k:=Sum.inr q.1.name) W1.firsts),?_⟩;exact⟨q.2,_,Y,.inr (W1.tups q hq),λp hp=>k _ p (s1.trans (aB hp)) (s1.free hp) ao⟩
 ·exact .inr h
inductive uM (K:Fr) (t:jq) (vs:List V) (H:Hp) (Q:VK) (E:XK):Prop where
 | mk:∀(n:Addr) (ls:List aD) (ps:List PD) (x:Str),vs=[.ref n,.str x]->eG K t H n ls ps->(((∃l∈ls,l.name=x/\∀p∈ps,l.name∈p.outs->∀H',aJ H H'->Q (.str p.name) H')∨False))->uM K t vs H Q E
theorem Dz (T:Txt w K mg t):FO P w K mg base 3 t.qt ["self", "name"] (uM K t):=by
 have sc:=T.qw.sc ["self", "name"];refine T.qw.F.ok sc ln (λ_ _ _ _ H vs Q E hr h=>?_);obtain⟨n,ls,ps,x,rfl,N,h⟩:=h;refine⟨_,(aq (bI (uo (pv 0) T.aW T.aW.me.2.2.2.2.2.2.1 (eU T) T.cM hr (aa (pv 1) ak aj)))
  (aA (aM (cJ hr.u1 (aU (pv 0) rfl) (pv 1) (λ_ _=>rfl))))),?_⟩
 obtain⟨dx,fs,R,F,Pd,G,Tk,FL,PL,W⟩:=id N;refine⟨_,Y,n,dx,fs,Y,W.obj,W.fl.no _ (by decide +kernel),_,Y,n,ls,ps,x,Y,N,?_⟩;rcases h with ⟨l,hl,rfl,k⟩ | h
 ·refine .inl ⟨mem_map.mpr ⟨l,hl,Y⟩,λH1 s1=>?_⟩;have W1:=W.same s1;obtain⟨p,hp,hlp⟩:∃p∈ps,l.name∈p.outs:=mem_flatMap.mp (W.fit.whole.outs.mem_iff.mpr (mem_map.mpr ⟨l,hl,rfl⟩));have hv:=iz (f:=(·.outs)) W.ono hp hlp;refine⟨_,Y,n,_,dx,fs,_,Y,W1.obj,T.aW.c,T.aW.na.2.2.2.1,W1.fl.has ("givers",.ref G) (by simp),_,Y,G,_,Y,(by rw [<-hv];exact eE.k (k:=Sum.inr l.name) W1.givers),?_⟩;exact k p hp hlp _ s1
 ·exact .inr h
inductive uT (K:Fr) (t:jq) (vs:List V) (H:Hp) (Q:VK) (E:XK):Prop where
 | mk:∀(n:Addr) (ls:List aD) (ps:List PD) (x:Str),vs=[.ref n,.str x]->eG K t H n ls ps->(((∃l∈ls,l.name=x/\∀p∈ps,l.name∈p.ins->∀H',aJ H H'->Q (.str p.name) H')∨False))->uT K t vs H Q E
theorem DN (T:Txt w K mg t):FO P w K mg base 3 t.qp ["self", "name"] (uT K t):=by
 have sc:=T.p8.sc ["self", "name"];refine T.p8.F.ok sc ln (λ_ _ _ _ H vs Q E hr h=>?_);obtain⟨n,ls,ps,x,rfl,N,h⟩:=h;refine⟨_,(aq (bI (uo (pv 0) T.aW T.aW.me.2.2.2.2.2.2.1 (eU T) T.cM hr (aa (pv 1) ak aj)))
  (aA (aM (cJ hr.u1 (aU (pv 0) rfl) (pv 1) (λ_ _=>rfl))))),?_⟩
 obtain⟨dx,fs,R,F,Pd,G,Tk,FL,PL,W⟩:=id N;refine⟨_,Y,n,dx,fs,Y,W.obj,W.fl.no _ (by decide +kernel),_,Y,n,ls,ps,x,Y,N,?_⟩;rcases h with ⟨l,hl,rfl,k⟩ | h
 ·refine .inl ⟨mem_map.mpr ⟨l,hl,Y⟩,λH1 s1=>?_⟩;have W1:=W.same s1;obtain⟨p,hp,hlp⟩:∃p∈ps,l.name∈p.ins:=mem_flatMap.mp (W.fit.whole.ins.mem_iff.mpr (mem_map.mpr ⟨l,hl,rfl⟩));have hv:=iz (f:=(·.ins)) W.ini hp hlp;refine⟨_,Y,n,_,dx,fs,_,Y,W1.obj,T.aW.c,T.aW.na.2.2.2.2.1,W1.fl.has ("takers",.ref Tk) (by simp),_,Y,Tk,_,Y,(by rw [<-hv];exact eE.k (k:=Sum.inr l.name) W1.takers),?_⟩;exact k p hp hlp _ s1
 ·exact .inr h
inductive u0 (K:Fr) (t:jq) (vs:List V) (H:Hp) (Q:VK) (E:XK):Prop where
 | mk:∀(n:Addr) (ls:List aD) (ps:List PD) (x:Str),vs=[.ref n,.str x]->eG K t H n ls ps->(((∃p∈ps,p.name=x/\∀H' q,aJ H H'->fQ K t H' q p.kind (.str p.name) (p.nums.map V.int) (p.ins.map V.str) (p.outs.map V.str)->Q (.ref q) H')∨False))->u0 K t vs H Q E
theorem jO (T:Txt w K mg t):FO P w K mg base 2 t.sH ["self", "name"] (u0 K t):=by
 have sc:=T.gZ.sc ["self", "name"];refine T.gZ.F.ok sc ln (λ_ _ _ _ H vs Q E hr h=>?_);obtain⟨n,ls,ps,x,rfl,N,h⟩:=h;refine⟨_,(aq (bU (bz jU (pv 1) (Ma (pv 0) T.aW T.aW.me.2.2.1 (d9 T) T.dg hr) (by with_unfolding_all rfl))
   (aA eQ)
   bA)
  (aA (aM (cJ hr.u1 (aU (pv 0) rfl) (pv 1) (λ_ _=>rfl))))),?_⟩
 obtain⟨dx,fs,R,F,Pd,G,Tk,FL,PL,W⟩:=id N;refine⟨_,Y,_,Y,n,dx,fs,Y,W.obj,W.fl.no _ (by decide +kernel),n,ls,ps,Y,N,λl hl=>?_⟩;have s1:=aB (o:=.lst (ps.map λx=>V.str x.name)) hl;refine⟨l,_,Y,.inl (bJ.of ao),Y,by simp [o9],_,Y,?_⟩;rw [Ff (f:=λx:PD=>x.name)];rcases h with ⟨p,hp,rfl,k⟩ | h
 ·rw [decide_eq_true (mem_map.mpr ⟨p,hp,rfl⟩)];refine dz ?_;obtain⟨q,hq,eq⟩:∃q∈PL,q.1=p:=by rw [<-W.pls] at hp;obtain⟨q,hq,e⟩:=mem_map.mp hp;exact⟨q,hq,e⟩
  subst eq;have W1:=W.same s1;have hv:=W1.partV hq;exact⟨_,Y,n,_,dx,fs,_,Y,W1.obj,T.aW.c,T.aW.na.2.2.1,W1.fl.has ("parts",.ref Pd) (by simp),_,Y,Pd,_,Y,(by rw [<-hv];exact eE.k (k:=Sum.inr q.1.name) W1.parts),k _ q.2 s1 (W1.pats q hq)⟩
 ·exact h.elim
inductive HJ (K:Fr) (t:jq) (vs:List V) (H:Hp) (Q:VK) (E:XK):Prop where
 | mk:∀(q:Addr) (p:PD),vs=[.ref q]->fQ K t H q p.kind (.str p.name) (p.nums.map V.int) (p.ins.map V.str) (p.outs.map V.str)->(∀r a1 a2 a3,H r=none->fZ K H a1 (p.nums.map V.int)->fZ K H a2 (p.ins.map V.str)->fZ K H a3 (p.outs.map V.str)->Q (.ref r) (upd H r (.tup [.str (fD p.kind),.str p.name,.ref a1,.ref a2,.ref a3])))->HJ K t vs H Q E
theorem Rm (T:Txt w K mg t):FO P w K mg base 2 t.Mw ["part"] (HJ K t):=by have sc:=T.Fx.sc ["part"];refine T.Fx.F.ok sc ln (λ_ _ _ _ H vs Q E hr h=>?_);obtain⟨q,p,rfl,P,k⟩:=h;refine⟨_,(aA (aM (cL (aa (xN (CX:=BX) (k:=1) (E:=E0) (pv 0) (hr.mono (by decide)) gh) (aa (aU (pv 0) Y) (aa (aU (pv 0) Y) (aa (aU (pv 0) Y) (aa (aU (pv 0) Y) ak aV) aV) aV) aV) aX)))),?_⟩;have hl:sizeLine=16777216:=sizeLine_eq;obtain⟨dxp,tn,ti,to,p1,p2,p3,p4⟩:=P.ex;refine⟨_,Y,q,cls t p.kind,dxp,_,jm p.kind,Y,p1,mJ _ _ _ _ (by decide +kernel) (by decide +kernel) (by decide +kernel) (by decide +kernel),JB T p.kind,_,Y,?_⟩;refine⟨_,Y,q,_,dxp,_,_,Y,p1,eN T p.kind,uK T p.kind,pR _ _ _ _,_,Y,q,_,dxp,_,_,Y,p1,eN T p.kind,lU T p.kind,lD _ _ _ _,_,Y,q,_,dxp,_,_,Y,p1,eN T p.kind,uB T p.kind,oE _ _ _ _,_,Y,q,_,dxp,_,_,Y,p1,eN T p.kind,xn T p.kind,tX _ _ _ _,jB,λr nr=>?_⟩;exact k r tn ti to nr p2 p3 p4
inductive uO (K:Fr) (t:jq) (vs:List V) (H:Hp) (Q:VK) (E:XK):Prop where
 | mk:∀(n dx Ll Lp:Addr) (ls:List aD) (ps:List PD),vs=[.ref n,.ref Ll,.ref Lp]->H n=some (.ins t.dW dx [])->Hand K H Ll Lp ls ps->lN ls ps->(∀H',nW n H H'->Pb K t H H' n ls ps->Q .non H')->uO K t vs H Q E
theorem uV (T:Txt w K mg t):FO P w K mg base 6 t.pZ ["self", "lanes", "parts"] (uO K t):=by
 have sc:=T.iI.sc ["self", "lanes", "parts", "lane", "row", "part"];refine T.iI.F.ok sc ln (λ_ _ _ _ H vs Q E hr h=>?_);obtain⟨n,dx,Ll,Lp,ls,ps,rfl,hn,hH,hF,k⟩:=h;refine⟨_,(aq (bI (dX (Fq T) T.sy hr (aa (pv 1) (aa (pv 2) ak aj) aj)))
  (aq (jA (pv 0) gO rfl)
  (aq (jA (pv 0) gO rfl)
  (aq (dO PassesOwn.never rfl (bR (pv 1)) (gN sc 3)
   (aq (bI (dX (ye T) T.pB hr (aa (bc cT (pv 3) au (λ_ _=>rfl)) (aa (aU (pv 0) rfl) ak aV) aG)))
   (aq (bI (dX (JZ T) T.wy hr (aa (bc cT (pv 3) au (λ_ _=>rfl)) (aa (bc cT (pv 3) au (λ_ _=>rfl)) (aa (bc cT (pv 3) au (λ_ _=>rfl)) ak aG) aG) aG)))
   (aq (gQ hr.u1 (aU (pv 0) rfl) (bc cT (pv 3) au (λ_ _=>rfl)) (bc cT (pv 3) au (λ_ _=>rfl)) rfl)
   (aA (gQ hr.u1 (aU (pv 0) rfl) (bc cT (pv 3) au (λ_ _=>rfl)) (gf xJ (by rfl) T.DW Ay (aa (bc cT (pv 3) au (λ_ _=>rfl)) ak aG)) rfl))))))
  (aq (jA (pv 0) gO rfl)
  (aq (jA (pv 0) gO rfl)
  (aq (jA (pv 0) gO rfl)
  (aq (dO PassesOwn.never rfl (bR (pv 2)) (gN sc 4)
   (aq (sN sc 5 (dX (Ht T) T.uc hr (aa (pv 4) (aa (aU (pv 0) rfl) ak aV) aj)))
   (aq (bI (dX (zx T) T.rH hr (aa (aU (pv 5) rfl) (aa (aU (pv 5) rfl) (aa (aU (pv 0) rfl) (aa (aU (pv 0) rfl) ak aV) aV) aV) aV)))
   (aq (bI (dX (zx T) T.rH hr (aa (aU (pv 5) rfl) (aa (aU (pv 5) rfl) (aa (aU (pv 0) rfl) (aa (aU (pv 0) rfl) ak aV) aV) aV) aV)))
   (aA (gQ hr.u1 (aU (pv 0) rfl) (aU (pv 5) rfl) (pv 5) rfl))))))
  (aq (bI (dX (J4 T) T.wD hr (aa (aU (pv 0) rfl) (aa (aU (pv 0) rfl) (aa (aU (pv 0) rfl) ak aV) aV) aV)))
  (aA (bI (dX (En T) T.sW hr (aa (gf (lJ rfl) (by rfl) T.vI rB (aa (aU (pv 0) rfl) ak aV)) (aa (aU (pv 0) rfl) (aa (aU (pv 0) rfl) ak aV) aV) aX))))))))))))),?_⟩
 have hl:sizeLine=16777216:=sizeLine_eq;obtain⟨xs,hLl,aL⟩:=hH.ll;obtain⟨ys,hLp,aP⟩:=hH.lp;have lx:=aL.length;have ly:=aP.length;have l1:=hF.l1;have l24:=hF.l24;have p1:=hF.p1;have p16:=hF.p16;refine⟨_,Y,_,Y,Ll,Lp,_,_,Y,hLl,hLp,by omega,by omega,by omega,by omega,?_⟩;have T0:=Tr.start hn;refine λR nR=>?_;have T1:=T0.new (o:=.dK []) nR;have gR:=aB (o:=.dK []) nR;generalize upd H R (.dK [])=H1 at T1 gR ⊢;have cR:=T1.all (n,.ins t.dW dx []) (.head _);refine⟨_,Y,n,_,dx,_,Y,cR,T.aW.c,T.aW.na.1,lt_of_le_of_lt (show 0<=0 from le_refl 0) (by decide),?_⟩;have T2:=T1.put (L1:=[]) (o':=.ins t.dW dx (aH "rooms" (.ref R) []));have wR:nW n H1 (upd H1 n (.ins t.dW dx (aH "rooms" (.ref R) []))):=nW.write;generalize upd H1 n (.ins t.dW dx (aH "rooms" (.ref R) []))=H2 at T2 wR ⊢;refine λF nF=>?_;have T3:=T2.new (o:=.dK []) nF;have gF:=aB (o:=.dK []) nF;generalize upd H2 F (.dK [])=H3 at T3 gF ⊢;have cF:=T3.all (n,.ins t.dW dx (aH "rooms" (.ref R) [])) (.head _);refine⟨_,Y,n,_,dx,_,Y,cF,T.aW.c,T.aW.na.2.1,lt_of_le_of_lt (ju (zero_le 0)) (by decide),?_⟩;have T4:=T3.put (L1:=[]) (o':=.ins t.dW dx (aH "firsts" (.ref F) (aH "rooms" (.ref R) [])));have wF:nW n H3 (upd H3 n (.ins t.dW dx (aH "firsts" (.ref F) (aH "rooms" (.ref R) [])))):=nW.write;generalize upd H3 n (.ins t.dW dx (aH "firsts" (.ref F) (aH "rooms" (.ref R) [])))=H4 at T4 wF ⊢;have kb:∀{Hk:Hp} {q:Addr} {u:HO},nW n H Hk->H q=some u->(∀C d f,u≠.ins C d f)->Hk q=some u:=λb h hu=>b _ _ (ym h hn (by intro z;exact hu _ _ _ z)) h;refine⟨_,Y,Ll,Y,⟨_,T4.but.seqL hn hLl⟩,du (K:=K) (a:=Ll) (xs:=xs) (λj σ H'=>(∃x3,σ=[some (.ref n),some (.ref Ll),some (.ref Lp),x3,none,none])/\∃FL:List (aD×Addr),FL.map (·.1)=ls.take j/\Tr H n [(n,.ins t.dW dx (aH "firsts" (.ref F) (aH "rooms" (.ref R) []))),(R,.dK (fM (ls.take j))),(F,.dK (bO FL))] H'/\∀q∈FL,fZ K H' q.2 (q.1.first.map V.int)) ⟨⟨none,Y⟩,[],Y,T4,by simp⟩ (λj σ H' _ ⟨_,_,_,T',_⟩=>T'.but.seqL hn hLl) ?_ ?_⟩
 ·rintro j x σ H' hx ⟨⟨x3,rfl⟩,FL,eFL,T4,hS⟩;obtain⟨l,hlj,q,f,rfl,hq,hf⟩:=aL.get hx;have hm:=mem_of_getElem? hlj;obtain⟨v1,v2,v3,v4⟩:=hF.lok l hm;have hnm:=hF.lnm l hm;have hj:=(List.getElem?_eq_some_iff.mp hlj).1;have kq:∀{Hk:Hp},nW n H Hk->Hk q=some (.tup [.str l.name,.int l.room,.ref f]):=λb=>kb b hq (by intro _ _ _ z;cases z);have nin:=oG hF.whole.nod hlj;have vR:cj (fM (ls.take j)) (Sum.inr l.name)=none:=jw (by rw [wg];intro z;obtain⟨b,hb,e⟩:=mem_map.mp z;cases e;exact nin hb);have vF:cj (bO FL) (Sum.inr l.name)=none:=jw (by rw [uA,eFL];intro z;obtain⟨b,hb,e⟩:=mem_map.mp z;cases e;exact nin hb);have tk:ls.take (j+1)=ls.take j ++ [l]:=by rw [take_succ,hlj];rfl
  have e4:=T4.all (n,.ins t.dW dx (aH "firsts" (.ref F) (aH "rooms" (.ref R) []))) (.head _);refine Q4 λDe hD u hu=>?_;refine⟨_,rfl,q,_,0,_,rfl,rfl,fZ.of (kq T4.but),aO (j:=0) rfl,_,rfl,n,_,dx,_,_,rfl,e4,T.aW.c,T.aW.na.1,(by (repeat first | (rw [aC,if_pos rfl];done) | rw [aC,if_neg (by decide +kernel)])),l.name,R,_,rfl,T4.all (R,.dK (fM (ls.take j))) (by simp),hnm,Bd hnm,vR,λH5 s5=>?_⟩;have T5:=T4.same s5;refine cB (v:=u) hu λu hu=>?_;refine⟨_,Y,q,_,0,_,Y,Y,fZ.of (kq T5.but),aO (j:=0) Y,_,Y,q,_,1,_,Y,Y,fZ.of (kq T5.but),aO (j:=1) Y,_,Y,q,_,2,_,Y,Y,fZ.of (kq T5.but),aO (j:=2) Y,.str l.name,l.room,f,l.first,Y,T5.but.seqA hn hf,by omega,v4,v1,v3,v2,λH6 s6=>?_⟩;have T6:=T5.same s6;have e6:=T6.all (n,.ins t.dW dx (aH "firsts" (.ref F) (aH "rooms" (.ref R) []))) (.head _);have eR6:=T6.all (R,.dK (fM (ls.take j))) (by simp);refine cB (v:=u) hu λu hu=>?_;refine⟨_,rfl,q,_,1,_,rfl,rfl,fZ.of (kq T6.but),aO (j:=1) rfl,_,rfl,n,_,dx,_,_,rfl,e6,T.aW.c,T.aW.na.1,(by (repeat first | (rw [aC,if_pos rfl];done) | rw [aC,if_neg (by decide +kernel)])),_,rfl,q,_,0,_,rfl,rfl,fZ.of (kq T6.but),aO (j:=0) rfl,R,_,rfl,pC.k (k:=Sum.inr l.name) eR6 (by unfold fM;rw [lM,length_take];omega),?_⟩;have e7:putK (fM (ls.take j)) (Sum.inr l.name) (.int l.room)=fM (ls.take (j+1)):=by rw [j7 _ vR,tk];unfold fM;rw [map_append];rfl
  have T7:=T6.put (L1:=[_]) (o':=.dK (fM (ls.take (j+1))));rw [e7];have hS7:∀q∈FL,fZ K (upd H6 R (.dK (fM (ls.take (j+1))))) q.2 (q.1.first.map V.int):=λq hq=>gW eR6 (s6.seqT (s5.seqT (hS q hq)));generalize upd H6 R (.dK (fM (ls.take (j+1))))=H7 at T7 hS7 ⊢;subst hu;refine⟨_,Y,q,_,2,_,Y,Y,fZ.of (kq T7.but),aO (j:=2) Y,f,_,Y,T7.but.seqA hn hf,λH8 F0 s8 t8=>?_⟩;have T8:=T7.same s8;have e8:=T8.all (n,.ins t.dW dx (aH "firsts" (.ref F) (aH "rooms" (.ref R) []))) (.head _);have eF8:=T8.all (F,.dK (bO FL)) (by simp);have lFL:FL.length<=24:=by have:=congrArg List.length eFL;rw [lM,length_take] at this;omega
  refine⟨_,rfl,n,_,dx,_,_,rfl,e8,T.aW.c,T.aW.na.2.1,(by (repeat first | (rw [aC,if_pos rfl];done) | rw [aC,if_neg (by decide +kernel)])),_,rfl,q,_,0,_,rfl,rfl,fZ.of (kq T8.but),aO (j:=0) rfl,F,_,rfl,pC.k (k:=Sum.inr l.name) eF8 (by unfold bO;rw [lM];omega),?_⟩;have e9:putK (bO FL) (Sum.inr l.name) (.ref F0)=bO (FL ++ [(l,F0)]):=by rw [j7 _ vF];unfold bO;rw [map_append];rfl
  have T9:=T8.put (L1:=[_,_]) (o':=.dK (bO (FL ++ [(l,F0)])));rw [e9];subst hD;refine⟨⟨_,rfl⟩,FL ++ [(l,F0)],by rw [map_append,eFL,tk];rfl,T9,λq hq=>?_⟩;rcases mem_append.mp hq with h | h
  ·exact gW eF8 (s8.seqT (hS7 q h))
  ·rw [mem_singleton] at h;subst h;exact gW eF8 t8
 rintro σ H9 ⟨⟨x3,rfl⟩,FL,eFL,T9,t9⟩;rw [lx,take_length] at eFL T9;clear T0 T1 T2 T3 T4;refine λPd nPd=>?_;have T10:=T9.new (o:=.dK []) nPd;have gPd:=aB (o:=.dK []) nPd;generalize upd H9 Pd (.dK [])=H10 at T10 gPd ⊢;have cPd:=T10.all (n,.ins t.dW dx (aH "firsts" (.ref F) (aH "rooms" (.ref R) []))) (.head _);refine⟨_,Y,n,_,dx,_,Y,cPd,T.aW.c,T.aW.na.2.2.1,lt_of_le_of_lt (ju (ju (zero_le 0))) (by decide),?_⟩;have T11:=T10.put (L1:=[]) (o':=.ins t.dW dx (aH "parts" (.ref Pd) (aH "firsts" (.ref F) (aH "rooms" (.ref R) []))));have wPd:nW n H10 (upd H10 n (.ins t.dW dx (aH "parts" (.ref Pd) (aH "firsts" (.ref F) (aH "rooms" (.ref R) []))))):=nW.write;generalize upd H10 n (.ins t.dW dx (aH "parts" (.ref Pd) (aH "firsts" (.ref F) (aH "rooms" (.ref R) []))))=H11 at T11 wPd ⊢;refine λGv nGv=>?_;have T12:=T11.new (o:=.dK []) nGv;have gGv:=aB (o:=.dK []) nGv;generalize upd H11 Gv (.dK [])=H12 at T12 gGv ⊢;have cGv:=T12.all (n,.ins t.dW dx (aH "parts" (.ref Pd) (aH "firsts" (.ref F) (aH "rooms" (.ref R) [])))) (.head _);refine⟨_,Y,n,_,dx,_,Y,cGv,T.aW.c,T.aW.na.2.2.2.1,lt_of_le_of_lt (ju (ju (ju (zero_le 0)))) (by decide),?_⟩;have T13:=T12.put (L1:=[]) (o':=.ins t.dW dx (aH "givers" (.ref Gv) (aH "parts" (.ref Pd) (aH "firsts" (.ref F) (aH "rooms" (.ref R) [])))));have wGv:nW n H12 (upd H12 n (.ins t.dW dx (aH "givers" (.ref Gv) (aH "parts" (.ref Pd) (aH "firsts" (.ref F) (aH "rooms" (.ref R) [])))))):=nW.write;generalize upd H12 n (.ins t.dW dx (aH "givers" (.ref Gv) (aH "parts" (.ref Pd) (aH "firsts" (.ref F) (aH "rooms" (.ref R) [])))))=H13 at T13 wGv ⊢;refine λTk nTk=>?_;have T14:=T13.new (o:=.dK []) nTk;have gTk:=aB (o:=.dK []) nTk;generalize upd H13 Tk (.dK [])=H14 at T14 gTk ⊢;have cTk:=T14.all (n,.ins t.dW dx (aH "givers" (.ref Gv) (aH "parts" (.ref Pd) (aH "firsts" (.ref F) (aH "rooms" (.ref R) []))))) (.head _);refine⟨_,Y,n,_,dx,_,Y,cTk,T.aW.c,T.aW.na.2.2.2.2.1,lt_of_le_of_lt (ju (ju (ju (ju (zero_le 0))))) (by decide),?_⟩;have T15:=T14.put (L1:=[]) (o':=.ins t.dW dx (aH "takers" (.ref Tk) (aH "givers" (.ref Gv) (aH "parts" (.ref Pd) (aH "firsts" (.ref F) (aH "rooms" (.ref R) []))))));have wTk:nW n H14 (upd H14 n (.ins t.dW dx (aH "takers" (.ref Tk) (aH "givers" (.ref Gv) (aH "parts" (.ref Pd) (aH "firsts" (.ref F) (aH "rooms" (.ref R) []))))))):=nW.write;generalize upd H14 n (.ins t.dW dx (aH "takers" (.ref Tk) (aH "givers" (.ref Gv) (aH "parts" (.ref Pd) (aH "firsts" (.ref F) (aH "rooms" (.ref R) []))))))=H15 at T15 wTk ⊢;have T15:Tr H n [(n,.ins t.dW dx (aH "takers" (.ref Tk) (aH "givers" (.ref Gv) (aH "parts" (.ref Pd) (aH "firsts" (.ref F) (aH "rooms" (.ref R) [])))))),(R,.dK (fM ls)),(F,.dK (bO FL)),(Pd,.dK []),(Gv,.dK []),(Tk,.dK [])] H15:=T15;have t15:∀q∈FL,fZ K H15 q.2 (q.1.first.map V.int):=λq hq=>wTk.seqT cTk (gTk.seqT (wGv.seqT cGv (gGv.seqT (wPd.seqT cPd (gPd.seqT (t9 q hq))))));have nod:=T15.nod;simp only [map_append,map_cons,map_nil,List.nil_append,List.cons_append,nodup_cons,mem_cons,not_mem_nil,or_false,not_or] at nod;have nRF:R≠F:=nod.2.1.1;have nRT:R≠Tk:=nod.2.1.2.2.2;have nRG:R≠Gv:=nod.2.1.2.2.1;have nGT:Gv≠Tk:=nod.2.2.2.2.1;clear nod;have ono:(ps.flatMap (·.outs)).Nodup:=hF.whole.outs.nodup_iff.mpr hF.whole.nod;have ini:(ps.flatMap (·.ins)).Nodup:=hF.whole.ins.nodup_iff.mpr hF.whole.nod;have inR:∀z∈ls.map (·.name),(cj (fM ls) (Sum.inr z)).isSome=true:=λz hz=>by obtain⟨l,hl,rfl⟩:=mem_map.mp hz;have e:cj (fM ls) (Sum.inr l.name)=some (.int l.room):=jt (by rw [wg];exact gH hF.whole.nod) (mem_map.mpr ⟨l,hl,rfl⟩);rw [e];rfl
 have lenE:∀(f:PD->List Str) (j:Nat),(ps.flatMap f).Perm (ls.map (·.name))->(cX f (ps.take j)).length<=24:=λf j pm=>by
  rw [Sx];have e1:((ps.take j).flatMap f).length+((ps.drop j).flatMap f).length=(ps.flatMap f).length:=by rw [<-lP,<-List.flatMap_append,take_append_drop]
  have e2:=pm.length_eq;rw [lM] at e2;omega
 refine⟨_,Y,Lp,Y,⟨_,T15.but.seqL hn hLp⟩,du (K:=K) (a:=Lp) (xs:=ys) (λj σ H'=>(∃x3 x4 x5,σ=[some (.ref n),some (.ref Ll),some (.ref Lp),x3,x4,x5])/\∃PL:List (PD×Addr),PL.map (·.1)=ps.take j/\Tr H n [(n,.ins t.dW dx (aH "takers" (.ref Tk) (aH "givers" (.ref Gv) (aH "parts" (.ref Pd) (aH "firsts" (.ref F) (aH "rooms" (.ref R) [])))))),(R,.dK (fM ls)),(F,.dK (bO FL)),(Pd,.dK (fH PL)),(Gv,.dK (cX (·.outs) (ps.take j))),(Tk,.dK (cX (·.ins) (ps.take j)))] H'/\(∀q∈FL,fZ K H' q.2 (q.1.first.map V.int))/\∀q∈PL,fQ K t H' q.2 q.1.kind (.str q.1.name) (q.1.nums.map V.int) (q.1.ins.map V.str) (q.1.outs.map V.str)) ⟨⟨x3,none,none,Y⟩,[],Y,T15,t15,by simp⟩ (λj σ H' _ ⟨_,_,_,T',_⟩=>T'.but.seqL hn hLp) ?_ ?_⟩
 ·rintro j x σ H' hx ⟨⟨x3,x4,x5,rfl⟩,PL,ePL,T15,hS,hP⟩;obtain⟨p,hpj,r,a1,a2,a3,rfl,hr,q1,q2,q3⟩:=aP.get hx;have hm:=mem_of_getElem? hpj;have hj:=(List.getElem?_eq_some_iff.mp hpj).1;obtain⟨o1,o2,o3,o4,o5⟩:=hF.pok p hm;have hnm:=hF.pnm p hm;have nin:=oG hF.pnd hpj;have tk:ps.take (j+1)=ps.take j ++ [p]:=by rw [take_succ,hpj];rfl
  have vP:cj (fH PL) (Sum.inr p.name)=none:=jw (by rw [CN,ePL];intro z;obtain⟨b,hb,e⟩:=mem_map.mp z;cases e;exact nin hb);obtain⟨di,fi⟩:=QT ini hpj;obtain⟨do',fo⟩:=QT ono hpj;have e15:=T15.all (n,.ins t.dW dx (aH "takers" (.ref Tk) (aH "givers" (.ref Gv) (aH "parts" (.ref Pd) (aH "firsts" (.ref F) (aH "rooms" (.ref R) [])))))) (.head _);refine Q4 λDe hD u hu=>?_;refine⟨_,rfl,_,rfl,n,_,dx,_,_,rfl,e15,T.aW.c,T.aW.na.2.2.1,(by (repeat first | (rw [aC,if_pos rfl];done) | rw [aC,if_neg (by decide +kernel)])),p.kind,p.name,r,Pd,a1,a2,a3,_,_,_,_,rfl,kb T15.but hr (by intro _ _ _ z;cases z),by omega,T15.all (Pd,.dK (fH PL)) (by simp),hnm,Bd hnm,vP,T15.but.seqA hn q1,T15.but.seqA hn q2,T15.but.seqA hn q3,by rw [lM];exact o2,by rw [lM];exact o3,by rw [lM];exact o4,?_,λH16 pp s16 npp Pp=>?_⟩
  ·intro v hv;obtain⟨i,hi,rfl⟩:=mem_map.mp hv;exact⟨i,Y,(o5 i hi).1,(o5 i hi).2⟩
  have T16:=T15.same s16;obtain⟨dxp,tn,ti,to,z1,z2,z3,z4⟩:=id Pp.ex;have e16:=T16.all (n,.ins t.dW dx (aH "takers" (.ref Tk) (aH "givers" (.ref Gv) (aH "parts" (.ref Pd) (aH "firsts" (.ref F) (aH "rooms" (.ref R) [])))))) (.head _);have eTk:=T16.all (Tk,.dK (cX (·.ins) (ps.take j))) (by simp);have li:=lenE (·.ins) j hF.whole.ins;have lo:=lenE (·.outs) j hF.whole.outs;have h3I:p.ins.length<=3:=by rw [o3];exact Ih _
  have h3O:p.outs.length<=2:=by rw [o4];exact Uu _
  refine cB (v:=u) hu λu hu=>?_;refine⟨_,rfl,pp,_,dxp,_,_,rfl,z1,eN T p.kind,uK T p.kind,pR _ _ _ _,_,rfl,pp,_,dxp,_,_,rfl,z1,eN T p.kind,uB T p.kind,oE _ _ _ _,_,rfl,n,_,dx,_,_,rfl,e16,T.aW.c,T.aW.na.1,(by (repeat first | (rw [aC,if_pos rfl];done) | rw [aC,if_neg (by decide +kernel)])),_,rfl,n,_,dx,_,_,rfl,e16,T.aW.c,T.aW.na.2.2.2.2.1,(by (repeat first | (rw [aC,if_pos rfl];done) | rw [aC,if_neg (by decide +kernel)])),p.name,ti,R,Tk,p.ins,_,_,rfl,z3,T16.all (R,.dK (fM ls)) (by simp),nRT,eTk,di,λz hz=>⟨inR z (hF.whole.ins.mem_iff.mp (mem_flatMap.mpr ⟨p,hm,hz⟩)),GF (fi z hz)⟩,by omega,?_⟩;rw [<-Gu (·.ins) (ps.take j) p,<-tk];have T17:=T16.put (L1:=[_,_,_,_,_]) (o':=.dK (cX (·.ins) (ps.take (j+1))));have Pp17:=Pp.chill (v:=.dK (cX (·.ins) (ps.take (j+1)))) eTk;have hS17:∀q∈FL,fZ K (upd H16 Tk (.dK (cX (·.ins) (ps.take (j+1))))) q.2 (q.1.first.map V.int):=λq hq=>gW eTk (s16.seqT (hS q hq));have hP17:∀q∈PL,fQ K t (upd H16 Tk (.dK (cX (·.ins) (ps.take (j+1))))) q.2 q.1.kind (.str q.1.name) (q.1.nums.map V.int) (q.1.ins.map V.str) (q.1.outs.map V.str):=λq hq=>((hP q hq).same s16).chill eTk;generalize upd H16 Tk (.dK (cX (·.ins) (ps.take (j+1))))=H17 at T17 Pp17 hS17 hP17 ⊢;clear z1 z2 z3 z4 e16;obtain⟨dxp,tn,ti,to,z1,z2,z3,z4⟩:=id Pp17.ex;have e17:=T17.all (n,.ins t.dW dx (aH "takers" (.ref Tk) (aH "givers" (.ref Gv) (aH "parts" (.ref Pd) (aH "firsts" (.ref F) (aH "rooms" (.ref R) [])))))) (.head _);have eGv:=T17.all (Gv,.dK (cX (·.outs) (ps.take j))) (by simp);refine cB (v:=u) hu λu hu=>?_;refine⟨_,rfl,pp,_,dxp,_,_,rfl,z1,eN T p.kind,uK T p.kind,pR _ _ _ _,_,rfl,pp,_,dxp,_,_,rfl,z1,eN T p.kind,xn T p.kind,tX _ _ _ _,_,rfl,n,_,dx,_,_,rfl,e17,T.aW.c,T.aW.na.1,(by (repeat first | (rw [aC,if_pos rfl];done) | rw [aC,if_neg (by decide +kernel)])),_,rfl,n,_,dx,_,_,rfl,e17,T.aW.c,T.aW.na.2.2.2.1,(by (repeat first | (rw [aC,if_pos rfl];done) | rw [aC,if_neg (by decide +kernel)])),p.name,to,R,Gv,p.outs,_,_,rfl,z4,T17.all (R,.dK (fM ls)) (by simp),nRG,eGv,do',λz hz=>⟨inR z (hF.whole.outs.mem_iff.mp (mem_flatMap.mpr ⟨p,hm,hz⟩)),GF (fo z hz)⟩,by omega,?_⟩;rw [<-Gu (·.outs) (ps.take j) p,<-tk];have T18:=T17.put (L1:=[_,_,_,_]) (o':=.dK (cX (·.outs) (ps.take (j+1))));have Pp18:=Pp17.chill (v:=.dK (cX (·.outs) (ps.take (j+1)))) eGv;have hS18:∀q∈FL,fZ K (upd H17 Gv (.dK (cX (·.outs) (ps.take (j+1))))) q.2 (q.1.first.map V.int):=λq hq=>gW eGv (hS17 q hq);have hP18:∀q∈PL,fQ K t (upd H17 Gv (.dK (cX (·.outs) (ps.take (j+1))))) q.2 q.1.kind (.str q.1.name) (q.1.nums.map V.int) (q.1.ins.map V.str) (q.1.outs.map V.str):=λq hq=>(hP17 q hq).chill eGv;generalize upd H17 Gv (.dK (cX (·.outs) (ps.take (j+1))))=H18 at T18 Pp18 hS18 hP18 ⊢;clear z1 z2 z3 z4 e17;obtain⟨dxp,tn,ti,to,z1,z2,z3,z4⟩:=id Pp18.ex;have e18:=T18.all (n,.ins t.dW dx (aH "takers" (.ref Tk) (aH "givers" (.ref Gv) (aH "parts" (.ref Pd) (aH "firsts" (.ref F) (aH "rooms" (.ref R) [])))))) (.head _);have ePd:=T18.all (Pd,.dK (fH PL)) (by simp);have lPL:PL.length<=16:=by have:=congrArg List.length ePL;rw [lM,length_take] at this;omega
  subst hu;refine⟨_,rfl,_,rfl,n,_,dx,_,_,rfl,e18,T.aW.c,T.aW.na.2.2.1,(by (repeat first | (rw [aC,if_pos rfl];done) | rw [aC,if_neg (by decide +kernel)])),_,rfl,pp,_,dxp,_,_,rfl,z1,eN T p.kind,uK T p.kind,pR _ _ _ _,Pd,_,rfl,pC.k (k:=Sum.inr p.name) ePd (by unfold fH;rw [lM];omega),?_⟩;have e19:putK (fH PL) (Sum.inr p.name) (.ref pp)=fH (PL ++ [(p,pp)]):=by rw [j7 _ vP];unfold fH;rw [map_append];rfl
  have T19:=T18.put (L1:=[_,_,_]) (o':=.dK (fH (PL ++ [(p,pp)])));rw [e19];subst hD;refine⟨⟨_,_,_,rfl⟩,PL ++ [(p,pp)],by rw [map_append,ePL,tk];rfl,T19,λq hq=>gW ePd (hS18 q hq),λq hq=>?_⟩;rcases mem_append.mp hq with h | h
  ·exact(hP18 q h).chill ePd
  ·rw [mem_singleton] at h;subst h;exact Pp18.chill ePd
 rintro σ H18 ⟨⟨x3,x4,x5,rfl⟩,PL,ePL,T18,hS,hP⟩;rw [ly,take_length] at ePL T18;have e18:=T18.all (n,.ins t.dW dx (aH "takers" (.ref Tk) (aH "givers" (.ref Gv) (aH "parts" (.ref Pd) (aH "firsts" (.ref F) (aH "rooms" (.ref R) [])))))) (.head _);have eR:=T18.all (R,.dK (fM ls)) (by simp);have eF:=T18.all (F,.dK (bO FL)) (by simp);have ePd:=T18.all (Pd,.dK (fH PL)) (by simp);have eGv:=T18.all (Gv,.dK (cX (·.outs) ps)) (by simp);have eTk:=T18.all (Tk,.dK (cX (·.ins) ps)) (by simp);refine⟨_,rfl,n,_,dx,_,_,rfl,e18,T.aW.c,T.aW.na.1,(by (repeat first | (rw [aC,if_pos rfl];done) | rw [aC,if_neg (by decide +kernel)])),_,rfl,n,_,dx,_,_,rfl,e18,T.aW.c,T.aW.na.2.2.2.1,(by (repeat first | (rw [aC,if_pos rfl];done) | rw [aC,if_neg (by decide +kernel)])),_,rfl,n,_,dx,_,_,rfl,e18,T.aW.c,T.aW.na.2.2.2.2.1,(by (repeat first | (rw [aC,if_pos rfl];done) | rw [aC,if_neg (by decide +kernel)])),R,Gv,Tk,_,_,_,rfl,eR,eGv,eTk,nRG,nRT,?_,?_⟩
 ·intro q hq;obtain⟨l,hl,rfl⟩:=mem_map.mp hq;have hln:l.name∈ls.map (·.name):=mem_map.mpr ⟨l,hl,rfl⟩;obtain⟨pa,ha,la⟩:=mem_flatMap.mp (hF.whole.outs.mem_iff.mpr hln);obtain⟨pb,hb,lb⟩:=mem_flatMap.mp (hF.whole.ins.mem_iff.mpr hln);exact⟨by rw [iz ono ha la];rfl,by rw [iz ini hb lb];rfl⟩
 refine⟨_,rfl,n,_,dx,_,_,rfl,e18,T.aW.c,T.aW.na.2.2.1,(by (repeat first | (rw [aC,if_pos rfl];done) | rw [aC,if_neg (by decide +kernel)])),Pd,_,rfl,.inl ePd,λl nl=>?_⟩;have s19:=aB (o:=.lst ((fH PL).map λp=>kV p.1)) nl;have eL:(fH PL).map (λp=>kV p.1)=ps.map λp=>V.str p.name:=by unfold fH;rw [map_map,<-ePL,map_map];rfl
 refine⟨_,rfl,n,_,dx,_,_,rfl,(s19 _ _ e18),T.aW.c,T.aW.na.2.2.2.1,(by (repeat first | (rw [aC,if_pos rfl];done) | rw [aC,if_neg (by decide +kernel)])),_,rfl,n,_,dx,_,_,rfl,(s19 _ _ e18),T.aW.c,T.aW.na.2.2.2.2.1,(by (repeat first | (rw [aC,if_pos rfl];done) | rw [aC,if_neg (by decide +kernel)])),l,Gv,Tk,ps,rfl,bJ.of (by rw [<-eL];exact ao),by omega,by omega,s19 _ _ eGv,s19 _ _ eTk,nGT,ono,ini,hF.whole.outs.trans hF.whole.ins.symm,hF.whole.hang,λH20 s20=>?_⟩;have s:=s19.trans s20;refine k _ (λb u hb e=>s _ _ (T18.but b u hb e)) ⟨dx,_,R,F,Pd,Gv,Tk,FL,PL,⟨s _ _ e18,⟨?_,?_⟩,s _ _ eR,s _ _ eF,s _ _ ePd,s _ _ eGv,s _ _ eTk,eFL,ePL,λq hq=>s.seqT (hS q hq),λq hq=>(hP q hq).same s,hF,nRF⟩,λa ha=>?_⟩
 ·intro q hq;simp only [mem_cons,not_mem_nil,or_false] at hq;rcases hq with rfl | rfl | rfl | rfl | rfl <;> (dsimp only;(repeat first | (rw [aC,if_pos rfl];done) | rw [aC,if_neg (by decide +kernel)]))
 ·intro m hm;have hne:∀m∈(["lane_names", "part_names", "names_of_kind", "gives", "takes", "need_lane_name", "room_of", "first_of", "giver_of", "taker_of", "part_of", "__init__"]:List Str),∀g∈(["takers", "givers", "parts", "firsts", "rooms"]:List Str),¬m=g:=by decide +kernel
  have h:=hne m hm;rw [aC,if_neg (h _ (by simp)),aC,if_neg (h _ (by simp)),aC,if_neg (h _ (by simp)),aC,if_neg (h _ (by simp)),aC,if_neg (h _ (by simp))];rfl
 ·have f:∀{a:Addr} {k:List (Key×V)},H18 a=some (.dK k)->(a=n∨H a=none)->H a=none:=λe h=>h.resolve_left λz=>by rw [z,e18] at e;cases e
  simp only [mem_cons,not_mem_nil,or_false] at ha;rcases ha with rfl | rfl | rfl | rfl | rfl
  ·exact f eR (T18.fre (_,.dK (fM ls)) (by simp))
  ·exact f eF (T18.fre (_,.dK (bO FL)) (by simp))
  ·exact f ePd (T18.fre (_,.dK (fH PL)) (by simp))
  ·exact f eGv (T18.fre (_,.dK (cX (·.outs) ps)) (by simp))
  ·exact f eTk (T18.fre (_,.dK (cX (·.ins) ps)) (by simp))
inductive yc (K:Fr) (t:jq) (vs:List V) (H:Hp) (Q:VK) (E_:XK):Prop where
 | mk:∀(f n E G Kp D Rw l:Addr) (ed gd:List (Key×V)) (x:Str) (vs':List V) (g:Nat),vs=[.ref f,.str x]->qb K t H f n E G Kp D Rw->H E=some (.dK ed)->H G=some (.dK gd)->cj ed (Sum.inr x)=some (.ref l)->cj gd (Sum.inr x)=some (.int g)->bJ K H l vs'->Q (.int (vs'.length - g)) H->yc K t vs H Q E_
theorem yq (T:Txt w K mg t):FO P w K mg base 1 t.uq ["self", "lane"] (yc K t):=by have sc:=T.pL.sc ["self", "lane"];refine T.pL.F.ok sc ln (λ_ _ _ _ H vs Q E hr h=>?_);obtain⟨f,n,E,G,Kp,D,Rw,l,ed,gd,x,vs',g,rfl,N,hE,hG,h3,h4,h5,k⟩:=h;refine⟨_,(aA (aM (bu Om (bB bV (by rfl) T.fY dC (aa (cJ hr.u1 (aU (pv 0) rfl) (pv 1) (λ_ _=>rfl)) ak aG)) (cJ hr.u1 (aU (pv 0) rfl) (pv 1) (λ_ _=>rfl))))),?_⟩;obtain⟨dx,fs,h1,h2⟩:=id N.ex;refine⟨_,Y,f,_,dx,fs,_,Y,h1,T.aR.c,T.aR.na.2.1,h2.has ("ever",.ref E) (by simp),_,Y,E,_,Y,(by rw [<-h3];exact eE.k (k:=Sum.inr x) hE),?_⟩;refine⟨.ref l,vs'.length,Y,.inl ⟨vs',h5,Y⟩,_,Y,f,_,dx,fs,_,Y,h1,T.aR.c,T.aR.na.2.2.1,h2.has ("gone",.ref G) (by simp),_,Y,G,_,Y,(by rw [<-h4];exact eE.k (k:=Sum.inr x) hG),?_⟩;refine⟨_,_,Y,Y,?_⟩;exact k
inductive tW (K:Fr) (t:jq) (vs:List V) (H:Hp) (Q:VK) (E_:XK):Prop where
 | mk:∀(f n E G Kp D Rw l:Addr) (ed gd:List (Key×V)) (x:Str) (vs':List V) (g:Nat),vs=[.ref f,.str x]->qb K t H f n E G Kp D Rw->H E=some (.dK ed)->H G=some (.dK gd)->cj ed (Sum.inr x)=some (.ref l)->cj gd (Sum.inr x)=some (.int g)->bJ K H l vs'->(∀p,H p=none->Q (.ref p) (upd H p (.lst (vs'.drop g))))->tW K t vs H Q E_
theorem Bj (T:Txt w K mg t):FO P w K mg base 1 t.oO ["self", "lane"] (tW K t):=by have sc:=T.oK.sc ["self", "lane"];refine T.oK.F.ok sc ln (λ_ _ _ _ H vs Q E hr h=>?_);obtain⟨f,n,E,G,Kp,D,Rw,l,ed,gd,x,vs',g,rfl,N,hE,hG,h3,h4,h5,k⟩:=h;refine⟨_,(aA (aM (jy mH (cJ hr.u1 (aU (pv 0) Y) (pv 1) (λ_ _=>Y)) (jD (cJ hr.u1 (aU (pv 0) Y) (pv 1) (λ_ _=>Y))) mF))),?_⟩;obtain⟨dx,fs,h1,h2⟩:=id N.ex;refine⟨_,Y,f,_,dx,fs,_,Y,h1,T.aR.c,T.aR.na.2.1,h2.has ("ever",.ref E) (by simp),_,Y,E,_,Y,(by rw [<-h3];exact eE.k (k:=Sum.inr x) hE),?_⟩;refine⟨_,Y,f,_,dx,fs,_,Y,h1,T.aR.c,T.aR.na.2.2.1,h2.has ("gone",.ref G) (by simp),_,Y,G,_,Y,(by rw [<-h4];exact eE.k (k:=Sum.inr x) hG),?_⟩;refine⟨_,Y,l,vs',Y,h5,λp hp=>?_⟩;rw [Mf];exact k p hp
inductive zK (K:Fr) (t:jq) (vs:List V) (H:Hp) (Q:VK) (E_:XK):Prop where
 | mk:∀(f n E G Kp D Rw l:Addr) (ed gd:List (Key×V)) (x:Str) (vs':List V) (g:Nat),vs=[.ref f,.str x]->qb K t H f n E G Kp D Rw->H E=some (.dK ed)->H G=some (.dK gd)->cj ed (Sum.inr x)=some (.ref l)->cj gd (Sum.inr x)=some (.int g)->bJ K H l vs'->Q ((vs'[g]?).getD .non) H->zK K t vs H Q E_
theorem Kq (T:Txt w K mg t):FO P w K mg base 2 t.vh ["self", "lane"] (zK K t):=by
 have sc:=T.wB.sc ["self", "lane"];refine T.wB.F.ok sc ln (λ_ _ _ _ H vs Q E hr h=>?_);obtain⟨f,n,E,G,Kp,D,Rw,l,ed,gd,x,vs',g,rfl,N,hE,hG,h3,h4,h5,k⟩:=h;refine⟨_,(aA (aM (qj (bz Iw (uo (pv 0) T.aR T.aR.me.2.1 (yq T) T.pL hr (aa (pv 1) ak aj)) au (bN _)) (bc bw (cJ hr.u1 (aU (pv 0) Y) (pv 1) (λ_ _=>Y)) (cJ hr.u1 (aU (pv 0) Y) (pv 1) (λ_ _=>Y)) (λ_ _=>Y)) vC))),?_⟩;obtain⟨dx,fs,h1,h2⟩:=id N.ex;refine⟨_,Y,f,dx,fs,Y,h1,h2.no _ (by decide +kernel),_,Y,f,n,E,G,Kp,D,Rw,l,ed,gd,x,vs',g,Y,N,hE,hG,h3,h4,h5,?_⟩;refine⟨_,_,Y,Y,_,Y,jQ (λe=>?_) (λe=>?_)⟩
 ·have e':g <vs'.length:=by have:=of_decide_eq_true e;omega
  refine⟨_,Y,f,_,dx,fs,_,Y,h1,T.aR.c,T.aR.na.2.1,h2.has ("ever",.ref E) (by simp),_,Y,E,_,Y,(by rw [<-h3];exact eE.k (k:=Sum.inr x) hE),?_⟩;refine⟨_,Y,f,_,dx,fs,_,Y,h1,T.aR.c,T.aR.na.2.2.1,h2.has ("gone",.ref G) (by simp),_,Y,G,_,Y,(by rw [<-h4];exact eE.k (k:=Sum.inr x) hG),?_⟩;rw [getElem?_eq_getElem e'] at k;exact⟨l,vs',g,_,Y,Y,h5,aO (getElem?_eq_getElem e'),k⟩
 ·have e':¬g <vs'.length:=λz=>e (decide_eq_true (by omega));rw [getElem?_eq_none (by omega)] at k;exact k
inductive qC (K:Fr) (t:jq) (vs:List V) (H:Hp) (Q:VK):Prop where
 | mk:∀(f n E G Kp D Rw:Addr) (rd dd:List (Key×V)) (x:Str),vs=[.ref f,.str x]->qb K t H f n E G Kp D Rw->H Rw=some (.dK rd)->H D=some (.dK dd)->(((cj rd (Sum.inr x)=none/\Q (.bl false) H)∨∃(l:Addr) (vs':List V) (g:Nat),cj rd (Sum.inr x)=some (.ref l)/\cj dd (Sum.inr x)=some (.int g)/\bJ K H l vs'/\Q (.bl (decide (g=vs'.length))) H))->qC K t vs H Q
@[irreducible] noncomputable def dZ (K:Fr) (t:jq):Sp:=λvs H Q _=>qC K t vs H Q
theorem rC (T:Txt w K mg t):FO P w K mg base 1 t.lX ["self", "name"] (dZ K t):=by
 have sc:=T.jP.sc ["self", "name"];refine T.jP.F.ok sc (λvs H Q E h=>?_) (λcdv A outer s H vs Q E hr h=>?_)
 ·unfold dZ at h;obtain⟨f,n,E,G,Kp,D,Rw,rd,dd,x,rfl,_⟩:=h;rfl
 ·unfold dZ at h;obtain⟨f,n,E,G,Kp,D,Rw,rd,dd,x,rfl,N,hR,hD,k⟩:=h;refine⟨_,(aA (aM (yP (KC (Bv hr.u1 (pv 1) (aU (pv 0) rfl))) (yR (pJ gA (cJ hr.u1 (aU (pv 0) rfl) (pv 1) (λ_ _=>rfl)) (bB bV (by rfl) T.fY dC (aa (cJ hr.u1 (aU (pv 0) rfl) (pv 1) (λ_ _=>rfl)) ak aG)) (bN _)))))),?_⟩;obtain⟨dx,fs,h1,h2⟩:=id N.ex;refine⟨_,Y,_,Y,f,_,dx,fs,_,Y,h1,T.aR.c,T.aR.na.2.2.2.2.2.1,h2.has ("rows",.ref Rw) (by simp),Rw,_,Y,eE.k (k:=Sum.inr x) hR,?_⟩;rcases k with ⟨k1,k⟩ | ⟨l,vs',g,k1,k2,k3,k⟩
  ·rw [k1];exact⟨_,Y,dz k⟩
  ·rw [k1];refine⟨_,Y,iy ?_⟩;refine⟨_,Y,f,_,dx,fs,_,Y,h1,T.aR.c,T.aR.na.2.2.2.2.1,h2.has ("done",.ref D) (by simp),_,Y,D,_,Y,(by rw [<-k2];exact eE.k (k:=Sum.inr x) hD),?_⟩;refine⟨_,Y,f,_,dx,fs,_,Y,h1,T.aR.c,T.aR.na.2.2.2.2.2.1,h2.has ("rows",.ref Rw) (by simp),_,Y,Rw,_,Y,(by rw [<-k1];exact eE.k (k:=Sum.inr x) hR),?_⟩;refine⟨.ref l,vs'.length,Y,.inl ⟨vs',k3,Y⟩,Y,?_⟩;rw [show decide (V.int (g:Int)=V.int (vs'.length:Int))=decide (g=vs'.length) by rw [decide_eq_decide,V.int.injEq];omega];exact k
inductive yC (K:Fr) (t:jq) (vs:List V) (H:Hp) (Q:VK) (E_:XK):Prop where
 | mk:∀(f n E G Kp D Rw p:Addr) (ed gd:List (Key×V)) (i:Nat) (nm:V) (ns os:List V) (xs:List Str) (hv:Str->V),vs=[.ref f,.ref p]->qb K t H f n E G Kp D Rw->H E=some (.dK ed)->H G=some (.dK gd)->fQ K t H p i nm ns (xs.map V.str) os->xs.length<=3->((∀x∈xs,∃(l:Addr) (vs':List V) (g:Nat),cj ed (Sum.inr x)=some (.ref l)/\cj gd (Sum.inr x)=some (.int g)/\bJ K H l vs'/\hv x=(vs'[g]?).getD .non))->(∀d,H d=none->Q (.ref d) (upd H d (.lst (xs.map hv))))->yC K t vs H Q E_
theorem xV (T:Txt w K mg t):FO P w K mg base 3 t.uI ["self", "part"] (yC K t):=by
 have sc:=T.pI.sc ["self", "part"];refine T.pI.F.ok sc ln (λ_ _ _ _ H vs Q E hr h=>?_);obtain⟨f,n,E,G,Kp,D,Rw,p,ed,gd,i,nm,ns,os,xs,hv,rfl,N,hE,hG,hP,hx,hh,k⟩:=h;refine⟨_,(aA (aM (eY [0] ["self", "part"] (aZ (inClass (top 64) 6)) Y (JF (aU (pv 1) Y)) (λ_ _ _ _ _=>gj) (λ_ _ _ _ _=>(uo (pv 1) T.aR T.aR.me.2.2.2.1 (Kq T) T.wB hr (aa (pv 0) ak aj)))))),?_⟩;obtain⟨dx,fs,h1,h2⟩:=id N.ex;obtain⟨dxp,tn,ti,to,p1,p2,p3,p4⟩:=id hP.ex;have hz:sizeLine=16777216:=sizeLine_eq;refine⟨_,Y,p,_,dxp,_,_,Y,p1,eN T i,uB T i,oE _ _ _ _,ti,Y,⟨_,p3⟩,?_⟩;refine Lj (K:=K) (a:=ti) (xs:=xs.map V.str) (λj ys H'=>H'=H/\ys=(xs.take j).map hv) (by simp;omega) ⟨Y,Y⟩ (λj ys H' ⟨_,e⟩=>by rw [e];simp;omega) (λj ys H' _ ⟨e,_⟩=>by rw [e];exact p3) ?_ ?_
 ·rintro j y ys H' hy ⟨rfl,rfl⟩;rw [getElem?_map] at hy;obtain⟨x,hq,rfl⟩:=map_eq_some_iff.mp hy;obtain⟨l,vs',g,g1,g2,g3,g4⟩:=hh x (mem_of_getElem? hq);refine yes ⟨_,Y,f,dx,fs,Y,h1,h2.no _ (by decide +kernel),_,Y,f,n,E,G,Kp,D,Rw,l,ed,gd,x,vs',g,Y,N,hE,hG,g1,g2,g3,Y,?_⟩;rw [take_succ,hq,toList_some,map_append,<-g4];rfl
 ·rintro ys H' ⟨rfl,rfl⟩ d hd;rw [lM,take_length];exact k d hd
theorem VG (T:Txt w K mg t) (i:Nat):MethAt P w K mg base BX 2 (cls t i) "lacks" (zf K t i):=match i with
 | 0=>⟨_,_,_,T.jg.c,(T.bH.me T.jg.me.2.2.2.1),T.bH.b,(dG T).imp λ_ _ _ _ h=>⟨_,h⟩⟩
 | 1=>⟨_,_,_,T.iW.c,(T.bH.me T.iW.me.2.2.2.1),T.bH.b,(dG T).imp λ_ _ _ _ h=>⟨_,h⟩⟩
 | 2=>⟨_,_,_,T.jh.c,(T.bH.me T.jh.me.2.2.2.1),T.bH.b,(dG T).imp λ_ _ _ _ h=>⟨_,h⟩⟩
 | 3=>⟨_,_,_,T.je.c,(T.bH.me T.je.me.2.2.2.1),T.bH.b,(dG T).imp λ_ _ _ _ h=>⟨_,h⟩⟩
 | 4=>⟨_,_,_,T.jj.c,(T.bH.me T.jj.me.2.2.2.1),T.bH.b,(dG T).imp λ_ _ _ _ h=>⟨_,h⟩⟩
 | 5=>⟨_,_,_,T.gU.c,(T.bH.me T.gU.me.2.2.2.1),T.bH.b,(dG T).imp λ_ _ _ _ h=>⟨_,h⟩⟩
 | 6=>⟨_,_,_,T.lB.c,(T.bH.me T.lB.me.2.2.2.1),T.bH.b,(dG T).imp λ_ _ _ _ h=>⟨_,h⟩⟩
 | 7=>⟨_,_,_,T.iY.c,(T.bH.me T.iY.me.2.2.2.1),T.bH.b,(dG T).imp λ_ _ _ _ h=>⟨_,h⟩⟩
 | 8=>⟨_,_,_,T.fO.c,(T.bH.me T.fO.me.2.2.2.1),T.bH.b,(dG T).imp λ_ _ _ _ h=>⟨_,h⟩⟩
 | 9=>⟨_,_,_,T.d7.c,(T.bH.me T.d7.me.2.2.2.1),T.bH.b,(dG T).imp λ_ _ _ _ h=>⟨_,h⟩⟩
 | n+10=>⟨_,_,_,T.fP.c,(T.bH.me T.fP.me.2.2.2.1),T.bH.b,(dG T).imp λ_ _ _ _ h=>⟨_,h⟩⟩
inductive uQ (K:Fr) (t:jq) (vs:List V) (H:Hp) (Q:VK) (E:XK):Prop where
 | mk:∀(A:jC) (ls:List aD) (ps:List PD) (S:FS) (p:PD),vs=[.ref A.f,.str p.name]->eG K t H A.n ls ps->dU K t H A ls ps S->p∈ps->(∀H',aJ H H'->Q (cz p.kind p.ins (aN S p)) H')->uQ K t vs H Q E
theorem uR (T:Txt w K mg t):FO P w K mg base 4 t.qi ["self", "name"] (uQ K t):=by
 have sc:=T.lG.sc ["self", "name", "part", "place"];refine T.lG.F.ok sc ln (λ_ _ _ _ H vs Q E hr h=>?_);obtain⟨A,ls,ps,S,p,rfl,N,W,hp,k⟩:=h;refine⟨_,(aq (sN sc 2 (uo (aU (pv 0) Y) T.aW T.aW.me.2.2.2.2.2.2.2.2.2.2.2.1 (jO T) T.gZ hr (aa (pv 1) ak aj)))
  (aq (sN sc 3 (vD (CX:=BX) (k:=2) (E:=E0) (pv 2) (hr.mono (by decide)) gh (aa (uo (pv 0) T.aR T.aR.me.2.2.2.2.2.1 (xV T) T.pI hr (aa (pv 2) ak aj)) ak aX)))
  (aA (aM (qj (jo (Ca (pv 3))) vC (bc cT (aU (pv 2) rfl) (pv 3) (λ_ _=>rfl))))))),?_⟩
 obtain⟨dxn,fsn,R,F,Pd,Gn,Tk,FL,PL,Wn⟩:=id N;have F:=Wn.fit;obtain⟨dx,fs,h1,h2⟩:=id W.at'.ex;have hh1:∀{H':Hp},aJ H H'->(∀x∈p.ins,∃(l:Addr) (vs':List V) (g:Nat),cj (V8 A.ea ls) (Sum.inr x)=some (.ref l)/\cj (dJ S.g ls) (Sum.inr x)=some (.int g)/\bJ K H' l vs'/\fJ S x=(vs'[g]?).getD .non):=λs x hx=>by obtain⟨l,hl,rfl⟩:=F.inL hp (mem_append.mpr (.inl hx));exact⟨A.ea l.name,_,S.g l.name,zM F.whole.nod hl,tQ F.whole.nod hl,bJ.of (s _ _ (W.lists l hl)),by unfold fJ;rw [getElem?_map]⟩
 refine⟨_,Y,A.f,_,dx,fs,_,Y,h1,T.aR.c,T.aR.na.1,h2.has ("net",.ref A.n) (by simp),A.n,dxn,fsn,Y,Wn.obj,Wn.fl.no _ (by decide +kernel),_,Y,A.n,ls,ps,p.name,Y,N,.inl ⟨p,hp,Y,λH1 q s1 P1=>?_⟩⟩;obtain⟨dxp,tn,ti,to,p1,p2,p3,p4⟩:=id P1.ex;have W1:=W.same s1;have hI:=(F.pok p hp).2.2.1;have hO:=wj S p (F.pok p hp);refine⟨_,Y,q,cls t p.kind,dxp,_,zf K t p.kind,Y,p1,mJ _ _ _ _ (by decide +kernel) (by decide +kernel) (by decide +kernel) (by decide +kernel),VG T p.kind,?_⟩;refine⟨_,Y,A.f,dx,fs,Y,s1 _ _ h1,h2.no _ (by decide +kernel),_,Y,A.f,A.n,A.E,A.G,A.Kp,A.D,A.Rw,q,_,_,p.kind,_,_,_,p.ins,fJ S,Y,W1.at',W1.ever,W1.gone,P1,(by have:=Ih p.kind;omega),hh1 s1,λd hd=>?_⟩;have s2:aJ H1 (upd H1 d (.lst (p.ins.map (fJ S)))):=aB hd;refine⟨q,d,_,_,_,_,aN S p,Y,P1.same s2,by rw [lM];exact hI,bJ.of ao,hO,λH3 s3=>?_⟩;have s23:=s2.trans s3;have k':=k H3 (s1.trans s23);have hlt:=lY hO;unfold cz at k';unfold QC;cases hf:(places p.kind (aN S p)).find? (lA (aN S p)) with
 | none=>
  rw [hf] at k';exact⟨_,Y,_,Y,iy k'⟩
 | some j=>
  rw [hf] at k';have hq:j <p.ins.length:=by have:=hlt j (mem_of_find?_eq_some hf);unfold aN at this;rwa [lM] at this
  have k':Q (V.str p.ins[j]) H3:=by simpa only [getElem?_eq_getElem hq,map_some,getD_some] using k'
  exact⟨_,rfl,_,rfl,dz ⟨_,rfl,q,_,dxp,_,_,rfl,s23 _ _ p1,eN T p.kind,uB T p.kind,oE _ _ _ _,_,rfl,ti,p.ins.map V.str,j,_,rfl,rfl,s23.seqT p3,aO (j:=j) (by rw [getElem?_map,getElem?_eq_getElem hq];rfl),k'⟩⟩
theorem RK (T:Txt w K mg t) {i:Nat} (hi:i <11):MethAt P w K mg base BX 2 (cls t i) "worked" (fK K t i):=match i,hi with
 | 0,_=>⟨_,_,_,T.jg.c,(T.mV.me T.jg.me.2.2.2.2.1),T.mV.b,jG.mono (k:=2) (FQ T) (by decide)⟩
 | 1,_=>⟨_,_,_,T.iW.c,(T.mX.me T.iW.me.2.2.2.2.1),T.mX.b,jG.mono (k:=2) (El T) (by decide)⟩
 | 2,_=>⟨_,_,_,T.jh.c,(T.m8.me T.jh.me.2.2.2.2.1),T.m8.b,jG.mono (k:=2) (Eh T) (by decide)⟩
 | 3,_=>⟨_,_,_,T.je.c,(T.mQ.me T.je.me.2.2.2.2.1),T.mQ.b,jG.mono (k:=2) (Ek T) (by decide)⟩
 | 4,_=>⟨_,_,_,T.jj.c,(T.mL.me T.jj.me.2.2.2.2.1),T.mL.b,jG.mono (k:=2) (Em T) (by decide)⟩
 | 5,_=>⟨_,_,_,T.gU.c,(T.mU.me T.gU.me.2.2.2.2.1),T.mU.b,jG.mono (k:=2) (FP T) (by decide)⟩
 | 6,_=>⟨_,_,_,T.lB.c,(T.pK.me T.lB.me.2.2.2.2.1),T.pK.b,jG.mono (k:=2) (Hi T) (by decide)⟩
 | 7,_=>⟨_,_,_,T.iY.c,(T.mW.me T.iY.me.2.2.2.2.1),T.mW.b,jG.mono (k:=2) (Fz T) (by decide)⟩
 | 8,_=>⟨_,_,_,T.fO.c,(T.lE.me T.fO.me.2.2.2.2.1),T.lE.b,jG.mono (k:=2) (Du T) (by decide)⟩
 | 9,_=>⟨_,_,_,T.d7.c,(T.kj.me T.d7.me.2.2.2.2.1),T.kj.b,jG.mono (k:=2) (BV T) (by decide)⟩
 | 10,_=>⟨_,_,_,T.fP.c,(T.lH.me T.fP.me.2.2.2.2.1),T.lH.b,jG.mono (k:=2) (DK T) (by decide)⟩
theorem aaz (ns ws:List Int) (kp:Int):∀pv∈cQ 0 ns ws kp,∃q:Nat,pv.1=(q:Int)/\q <cO 0:=by intro pv h;simp [cQ] at h;subst h;exact⟨0,Y,by decide⟩
theorem aaq (ns ws:List Int) (kp:Int):∀pv∈cQ 1 ns ws kp,∃q:Nat,pv.1=(q:Int)/\q <cO 1:=by intro pv h;simp [cQ] at h
theorem Z8 (ns ws:List Int) (kp:Int):∀pv∈cQ 2 ns ws kp,∃q:Nat,pv.1=(q:Int)/\q <cO 2:=by intro pv h;simp [cQ] at h;subst h;exact⟨0,Y,by decide⟩
theorem aaj (ns ws:List Int) (kp:Int):∀pv∈cQ 3 ns ws kp,∃q:Nat,pv.1=(q:Int)/\q <cO 3:=by
 intro pv h;simp [cQ] at h;rcases h with rfl | rfl
 ·exact⟨0,Y,by decide⟩
 ·exact⟨1,Y,by decide⟩
theorem Z0 (ns ws:List Int) (kp:Int):∀pv∈cQ 4 ns ws kp,∃q:Nat,pv.1=(q:Int)/\q <cO 4:=by intro pv h;simp [cQ] at h;subst h;exact⟨0,Y,by decide⟩
theorem aay (ns ws:List Int) (kp:Int):∀pv∈cQ 5 ns ws kp,∃q:Nat,pv.1=(q:Int)/\q <cO 5:=by intro pv h;simp [cQ] at h;subst h;exact⟨0,Y,by decide⟩
theorem aaC (ns ws:List Int) (kp:Int):∀pv∈cQ 6 ns ws kp,∃q:Nat,pv.1=(q:Int)/\q <cO 6:=by intro pv h;simp [cQ] at h;subst h;exact⟨0,Y,by decide⟩
theorem aaH (ns ws:List Int) (kp:Int):∀pv∈cQ 7 ns ws kp,∃q:Nat,pv.1=(q:Int)/\q <cO 7:=by intro pv h;simp [cQ] at h;subst h;exact⟨0,Y,by decide⟩
theorem ZV (ns ws:List Int) (kp:Int):∀pv∈cQ 8 ns ws kp,∃q:Nat,pv.1=(q:Int)/\q <cO 8:=by
 intro pv h;simp [cQ] at h;rcases h with rfl | rfl
 ·exact⟨0,Y,by decide⟩
 ·exact⟨1,Y,by decide⟩
theorem ZK (ns ws:List Int) (kp:Int):∀pv∈cQ 9 ns ws kp,∃q:Nat,pv.1=(q:Int)/\q <cO 9:=by intro pv h;simp [cQ] at h;subst h;exact⟨0,Y,by decide⟩
theorem YF (ns ws:List Int) (kp:Int):∀pv∈cQ 10 ns ws kp,∃q:Nat,pv.1=(q:Int)/\q <cO 10:=by intro pv h;simp [cQ] at h;subst h;have h0:=emod_nonneg (g0 ws) (show(2:Int)≠0 by decide);have h1:=emod_lt_of_pos (g0 ws) (show(0:Int) <2 by decide);exact⟨(g0 ws % 2).toNat,by show g0 ws % 2=_;omega,by show(g0 ws % 2).toNat <2;omega⟩
theorem Eb {i:Nat} (hi:i<=10) (ns ws:List Int) (kp:Int):∀pv∈cQ i ns ws kp,∃q:Nat,pv.1=(q:Int)/\q <cO i:=by
 match i,hi with
 | 0,_=>exact aaz ns ws kp
 | 1,_=>exact aaq ns ws kp
 | 2,_=>exact Z8 ns ws kp
 | 3,_=>exact aaj ns ws kp
 | 4,_=>exact Z0 ns ws kp
 | 5,_=>exact aay ns ws kp
 | 6,_=>exact aaC ns ws kp
 | 7,_=>exact aaH ns ws kp
 | 8,_=>exact ZV ns ws kp
 | 9,_=>exact ZK ns ws kp
 | 10,_=>exact YF ns ws kp
 | (n+11),z=>exact absurd z (by omega)
theorem Ms (i:Nat) (ns ws:List Int) (kp:Int):(cQ i ns ws kp).length<=2:=match i with
 | 0=>by simp [cQ]
 | 1=>by simp [cQ]
 | 2=>by simp [cQ]
 | 3=>by simp [cQ]
 | 4=>by simp [cQ]
 | 5=>by simp [cQ]
 | 6=>by simp [cQ]
 | 7=>by simp [cQ]
 | 8=>by simp [cQ]
 | 9=>by simp [cQ]
 | n+10=>by simp [cQ]
noncomputable def nameAt (xs:List Str) (q:Nat):V:=V.str ((xs[q]?).getD Str.empty)
theorem QS {H:Hp} {Q:VK} {Ex:XK} {f n E G Kp D Rw:Addr} {rd dd:List (Key×V)} {y:Str} (N:qb K t H f n E G Kp D Rw) (hR:H Rw=some (.dK rd)) (hD:H D=some (.dK dd))
  (k:(cj rd (Sum.inr y)=none/\Q (.bl false) H)∨∃(l:Addr) (vs':List V) (g:Nat),cj rd (Sum.inr y)=some (.ref l)/\cj dd (Sum.inr y)=some (.int g)/\bJ K H l vs'/\Q (.bl (decide (g=vs'.length))) H):dZ K t [.ref f,.str y] H Q Ex:=by
 unfold dZ;exact⟨f,n,E,G,Kp,D,Rw,rd,dd,y,Y,N,hR,hD,k⟩
theorem aau {i:Nat} (h0:i≠0) (hi:i <11) (h9:i≠9):cV i=cI i:=by
 match i,h0,hi with
 | 1,_,_=>rfl
 | 2,_,_=>rfl
 | 3,_,_=>rfl
 | 4,_,_=>rfl
 | 5,_,_=>rfl
 | 6,_,_=>rfl
 | 7,_,_=>rfl
 | 8,_,_=>rfl
 | 9,_,_=>exact absurd rfl h9
 | 10,_,_=>rfl
theorem JH {S:FS} {p:PD} (ok:qy p) (hl:cz p.kind p.ins (aN S p)=.non):∀q∈places p.kind (aN S p),∃x n,p.ins[q]?=some x/\(aN S p)[q]?=some (.int n)/\(S.ev x)[S.g x]?=some n:=by
 have hO:=wj S p ok;have hf:(places p.kind (aN S p)).find? (lA (aN S p))=none:=by
  cases hf:(places p.kind (aN S p)).find? (lA (aN S p)) with
  | none=>rfl
  | some j=>
   unfold cz at hl;rw [hf] at hl;have hq:j <p.ins.length:=by have:=lY hO j (mem_of_find?_eq_some hf);unfold aN at this;rwa [lM] at this
   simp only [getElem?_eq_getElem hq,map_some,getD_some] at hl;cases hl
 intro q hq;have h1:=find?_eq_none.mp hf q hq;have hlt:=lY hO q hq;have hlt':q <p.ins.length:=by unfold aN at hlt;rwa [lM] at hlt
 have e:(aN S p)[q]?=some (fJ S p.ins[q]):=by unfold aN;rw [getElem?_map,getElem?_eq_getElem hlt'];rfl
 refine⟨p.ins[q],?_⟩;unfold lA at h1;rw [e] at h1 ⊢;unfold fJ at h1 ⊢;cases h0:(S.ev p.ins[q])[S.g p.ins[q]]? with
 | none=>rw [h0] at h1;exact absurd (by simp) h1
 | some n=>exact⟨n,getElem?_eq_getElem hlt',by simp,rfl⟩
theorem Ym {b:Nat} {ls:List aD} {ps:List PD} {S:FS} (F:lN ls ps) (O:yF b ls ps S) {p:PD} (hp:p∈ps) (hl:cz p.kind p.ins (aN S p)=.non) (he:qK S p=false):(vB S p).length=cV p.kind/\Zy (vB S p)/\
  (p.kind≠0->(places p.kind (aN S p)).map (λq=>((aN S p)[q]?).getD .non)=(vB S p).map V.int)/\(p.kind=0->∃w,(S.r p.name)[S.d p.name]?=some w/\vB S p=[w]):=by
 have ok:=F.pok p hp;have hn:=JH ok hl;by_cases h0:p.kind=0
 ·have hd:=O.dl p hp h0;have hlt:S.d p.name <(S.r p.name).length:=by unfold qK at he;simp [h0] at he;omega
  have e:=getElem?_eq_getElem hlt;have ew:vB S p=[(S.r p.name)[S.d p.name]]:=by unfold vB;rw [if_pos h0,e];rfl
  refine⟨by rw [ew,h0];rfl,λw hw=>?_,λz=>absurd h0 z,λ_=>⟨_,e,ew⟩⟩;rw [ew,mem_singleton] at hw;subst hw;exact O.rb p hp h0 _ (getElem_mem hlt)
 ·have ew:vB S p=(places p.kind (aN S p)).map λq=>Zk (((aN S p)[q]?).getD .non):=by unfold vB;rw [if_neg h0]
  refine⟨?_,λw hw=>?_,λ_=>?_,λz=>absurd z h0⟩
  ·rw [ew,lM];by_cases h9:p.kind=9
   ·have h3:=hn;unfold places at h3 ⊢;rw [if_pos h9] at h3 ⊢;split
    ·rw [h9];rfl
    ·rename_i hno;obtain⟨x,n,_,h3,_⟩:=h3 0 (by split <;> simp);cases hs:aN S p with
     | nil=>rw [hs] at h3;cases h3
     | cons a r=>
      rw [hs] at h3;have:a=.int n:=by simpa using h3
      exact absurd (by rw [hs,this]) (hno n r)
   ·unfold places;rw [if_neg h9,length_range,(wj S p ok).1,aau h0 ok.1 h9]
  ·rw [ew] at hw;obtain⟨q,hq,rfl⟩:=mem_map.mp hw;obtain⟨x,n,hx,h3,h4⟩:=hn q hq;rw [h3];show 0<=n/\n <1000000000;obtain⟨l,hll,rfl⟩:=F.inL hp (mem_append.mpr (.inl (mem_of_getElem? hx)));exact O.vb l hll n (mem_of_getElem? h4)
  ·rw [ew,map_map];refine map_congr_left λq hq=>?_;obtain⟨x,n,_,h3,_⟩:=hn q hq;show _=V.int (Zk _);rw [h3];rfl
theorem Gy {S:FS} {p:PD} (h:cz p.kind p.ins (aN S p)≠.non):fC S p=none:=by unfold fC;rw [if_pos h]
theorem HR {S:FS} {p:PD} (h:qK S p=true):fC S p=none:=by unfold fC;split <;> simp [h]
inductive yt (K:Fr) (t:jq) (vs:List V) (H:Hp) (Q:VK):Prop where
 | mk:∀(b:Nat) (A:jC) (ls:List aD) (ps:List PD) (S:FS) (p:PD),vs=[.ref A.f,.str p.name]->eG K t H A.n ls ps->dU K t H A ls ps S->p∈ps->yF b ls ps S->((fC S p=none->∀H',aJ H H'->Q .non H'))->(∀dd,fC S p=some dd->∀H' U,aJ H H'->H U=none->ph (A.cells ls ps) H' U dd->Q (.ref U) H')->yt K t vs H Q
@[irreducible] noncomputable def lz (K:Fr) (t:jq):Sp:=λvs H Q _=>yt K t vs H Q
noncomputable abbrev rF:List Str:=["self", "name", "part", "heads", "places", "values", "answer", "given"]
theorem zJ (T:Txt w K mg t):FO P w K mg base 5 t.wK ["self", "name"] (lz K t):=by
 have sc:=T.qT.sc rF;refine T.qT.F.ok sc (λvs H Q E h=>?_) (λcdv A outer s H vs Q E hr h=>?_)
 ·unfold lz at h;obtain⟨b,A,ls,ps,S,p,rfl,_⟩:=h;rfl
 ·unfold lz at h;obtain⟨b,A,ls,ps,S,p,rfl,N,W,hp,O,kn,k⟩:=h;refine⟨_,(aq (bU (PW.pt (Ar (jo (z8 (uo (pv 0) T.aR T.aR.me.2.2.2.2.2.2.1 (uR T) T.lG hr (aa (pv 1) ak aj)))) (uv (jZ (uo (pv 0) T.aR T.aR.me.2.2.2.2.1 (rC T) T.jP hr (aa (pv 1) ak aj))))))
    (aA (aM vC))
    bA)
   (aq (sN sc 2 (uo (aU (pv 0) rfl) T.aW T.aW.me.2.2.2.2.2.2.2.2.2.2.2.1 (jO T) T.gZ hr (aa (pv 1) ak aj)))
   (aq (sN sc 3 (uo (pv 0) T.aR T.aR.me.2.2.2.2.2.1 (xV T) T.pI hr (aa (pv 2) ak aj)))
   (aq (sN sc 4 (vD (CX:=BX) (k:=1) (E:=E0) (pv 2) (hr.mono (by decide)) gh (aa (pv 3) ak aj)))
   (aq (jJ (i:=5) [3] rF (aZ (inClass (top 64) 9)) rfl sc.nd rfl (bR (pv 4)) (λ_ _ _ _ _=>gj) (λ_ _ _ _ _=>(bc (Ge (K:=K) rfl) (pv 1) (pv 0) (λ_ _=>rfl))))
   (aq (il (bU (jo (Bv hr.u1 (pv 1) (aU (pv 0) rfl)))
    (aA (sN sc 5 (bC (aa (bc bw (cJ hr.u1 (aU (pv 0) rfl) (pv 1) (λ_ _=>rfl)) (cJ hr.u1 (aU (pv 0) rfl) (pv 1) (λ_ _=>rfl)) (λ_ _=>rfl)) ak aG))))
    bA))
   (aq (sN sc 6 (vD (CX:=BX) (k:=2) (E:=E0) (pv 2) (hr.mono (by decide)) gh (aa (pv 5) (aa (cJ hr.u1 (aU (pv 0) rfl) (pv 1) (λ_ _=>rfl)) ak aG) aj)))
   (aq (Tf (i:=7) ["place", "value"] [2] rF (aZ (inClass (top 64) 9)) rfl sc.nd rfl (bR (bc cT (pv 6) au (λ_ _=>rfl))) (λ_ _ _ _ _=>Qk (K:=K) (n:=2) rfl rfl (jx (xP (i:=0) (show(["place", "value", "part"]:List Str).Nodup by decide +kernel) rfl (Or.inl rfl) (.inr rfl)) (jx (xP (i:=1) (show(["place", "value", "part"]:List Str).Nodup by decide +kernel) rfl (Or.inl rfl) (.inr rfl)) xF))) (λ_ _ _ _ _=>gj) (λ_ _ _ _ _=>(cL (aa (bc (ur (K:=K) rfl) (Ec (K:=K) rfl (pv 2) rfl) (pv 0) (λ_ _=>rfl)) (aa (pv 1) ak aj) aG))))
   (aA (aM (cL (aa (eY [2] rF (aZ (inClass (top 64) 9)) rfl (bR (pv 4)) (λ_ _ _ _ _=>gj) (λ_ _ _ _ _=>(bc (ur (K:=K) rfl) (Ec (K:=K) rfl (pv 1) rfl) (pv 0) (λ_ _=>rfl)))) (aa (pv 7) (aa (bc cT (pv 6) au (λ_ _=>rfl)) ak aG) aj) ie)))))))))))),?_⟩
  obtain⟨dxn,fsn,R,F,Pd,Gn,Tk,FL,PL,Wn⟩:=id N;have F:=Wn.fit;obtain⟨dx,fs,h1,h2⟩:=id W.at'.ex;have ok:=F.pok p hp;have hO:=wj S p ok;have hI:=ok.2.2.1;have hh1:∀{H':Hp},aJ H H'->(∀x∈p.ins,∃(l:Addr) (vs':List V) (g:Nat),cj (V8 A.ea ls) (Sum.inr x)=some (.ref l)/\cj (dJ S.g ls) (Sum.inr x)=some (.int g)/\bJ K H' l vs'/\fJ S x=(vs'[g]?).getD .non):=λs x hx=>by obtain⟨l,hl,rfl⟩:=F.inL hp (mem_append.mpr (.inl hx));exact⟨A.ea l.name,_,S.g l.name,zM F.whole.nod hl,tQ F.whole.nod hl,bJ.of (s _ _ (W.lists l hl)),by unfold fJ;rw [getElem?_map]⟩
  have hz:sizeLine=16777216:=sizeLine_eq;have hpl:(places p.kind (aN S p)).length<=3:=places_len hO;refine⟨_,Y,A.f,dx,fs,Y,h1,h2.no _ (by decide +kernel),_,Y,A,ls,ps,S,p,Y,N,W,hp,λH1 s1=>?_⟩;by_cases hlk:cz p.kind p.ins (aN S p)≠.non
  ·have e:(!decide (cz p.kind p.ins (aN S p)=V.non))=true:=by simp [hlk]
   refine⟨_,Y,?_⟩;rw [e];exact iy (iy (kn (Gy hlk) H1 s1))
  have hlk:=Classical.not_not.mp hlk;rw [hlk];have W1:=W.same s1;refine⟨_,Y,dz ⟨_,Y,A.f,dx,fs,Y,s1 _ _ h1,h2.no _ (by decide +kernel),_,Y,?_⟩⟩;have vd:=lV (k:=λx=>(S.d x:Int)) F.pnd hp;cases he:qK S p with
  | true=>
   have h0:p.kind=0/\S.d p.name=(S.r p.name).length:=by unfold qK at he;simpa using he
   refine QS W1.at' W1.rows W1.done (.inr ⟨_,_,S.d p.name,sZ F.pnd hp h0.1,vd,bJ.of (W1.rlst p hp h0.1),?_⟩);rw [decide_eq_true (by rw [lM];exact h0.2)];exact⟨_,Y,iy (kn (HR he) H1 s1)⟩
  | false=>
  obtain⟨lw,hB,hv,hw0⟩:=Ym F O hp hlk he;have k':=k _ (show fC S p=some _ by unfold fC;rw [if_neg (by simp [hlk]),if_neg (by simp [he])]);have hwl:=Eb (show p.kind<=10 by have:=ok.1;omega) p.nums (vB S p) (S.k p.name);have hw2:=Ms p.kind p.nums (vB S p) (S.k p.name);have pick:∀(Q':VK) (E':XK),Q' (.bl false) H1->dZ K t [.ref A.f,.str p.name] H1 Q' E':=by
   intro Q' E' z;refine QS W1.at' W1.rows W1.done ?_;by_cases h0:p.kind=0
   ·refine .inr ⟨_,_,S.d p.name,sZ F.pnd hp h0,vd,bJ.of (W1.rlst p hp h0),?_⟩;obtain⟨w,ew,_⟩:=hw0 h0;have:=(List.getElem?_eq_some_iff.mp ew).1;rw [decide_eq_false (by rw [lM];omega)];exact z
   ·exact .inl ⟨Jw F.pnd hp h0,z⟩
  refine pick _ _ ?_;clear pick;refine⟨_,Y,dz ?_⟩;have Wn1:=Wn.same s1;refine⟨_,Y,A.f,_,dx,fs,_,Y,s1 _ _ h1,T.aR.c,T.aR.na.1,h2.has ("net",.ref A.n) (by simp),A.n,dxn,fsn,Y,Wn1.obj,Wn1.fl.no _ (by decide +kernel),_,Y,A.n,ls,ps,p.name,Y,Wn1.s,.inl ⟨p,hp,Y,λH2 q s2' hP=>?_⟩⟩;have s2:=s1.trans s2';have W2:=W.same s2;obtain⟨dxp,tn,ti,to,p1,p2,p3,p4⟩:=id hP.ex;clear s2' W1 Wn1;refine⟨_,Y,A.f,dx,fs,Y,s2 _ _ h1,h2.no _ (by decide +kernel),_,Y,A.f,A.n,A.E,A.G,A.Kp,A.D,A.Rw,q,_,_,p.kind,_,_,_,p.ins,fJ S,Y,W2.at',W2.ever,W2.gone,hP,(by have:=Ih p.kind;omega),hh1 s2,λd hd=>?_⟩;have s3':=aB (o:=.lst (aN S p)) hd;have ed3:(upd H2 d (.lst (p.ins.map (fJ S)))) d=some (.lst (aN S p)):=ao;change aJ H2 (upd H2 d (.lst (p.ins.map (fJ S)))) at s3';generalize upd H2 d (.lst (p.ins.map (fJ S)))=H3 at s3' ed3 ⊢;have s3:=s2.trans s3';refine⟨_,Y,q,cls t p.kind,dxp,_,pU K t p.kind,Y,s3' _ _ p1,mJ _ _ _ _ (by decide +kernel) (by decide +kernel) (by decide +kernel) (by decide +kernel),HY T p.kind,_,Y,q,d,_,_,_,_,aN S p,Y,hP.same s3',by rw [lM];exact hI,bJ.of ed3,hO,λH4 L s4' nL eL=>?_⟩;have s24:=s3'.trans s4';have s4:=s3.trans s4';have ed4:=s4' _ _ ed3;refine⟨_,rfl,L,rfl,⟨_,bJ.of eL⟩,fB (K:=K) (a:=L) (xs:=(places p.kind (aN S p)).map nV) (λj ys H'=>H'=H4/\ys=((places p.kind (aN S p)).take j).map (λq=>((aN S p)[q]?).getD .non)) (by rw [lM];omega) ⟨rfl,rfl⟩ (λj ys H' ⟨_,e⟩=>by rw [e,lM,length_take];omega) (λj ys H' _ ⟨e,_⟩=>by rw [e];exact bJ.of eL) ?_ ?_⟩
  ·rintro j v ys H' hv' ⟨e',rfl⟩;subst e';rw [getElem?_map] at hv';obtain⟨r,hr',rfl⟩:=map_eq_some_iff.mp hv';have hql:r <(aN S p).length:=lY hO r (mem_of_getElem? hr');refine yes ⟨_,Y,_,Y,d,aN S p,r,_,Y,Y,bJ.of ed4,aO (j:=r) (getElem?_eq_getElem hql),Y,?_⟩;rw [take_succ,hr',toList_some,map_append,map_cons,map_nil,getElem?_eq_getElem hql];rfl
  rintro ys H' ⟨e',rfl⟩ V1 hV1;subst e';rw [lM,take_length];have s5':=aB (o:=.lst ((places p.kind (aN S p)).map λq=>((aN S p)[q]?).getD .non)) hV1;have eV:(upd H' V1 (.lst ((places p.kind (aN S p)).map λq=>((aN S p)[q]?).getD .non))) V1=some (.lst ((places p.kind (aN S p)).map λq=>((aN S p)[q]?).getD .non)):=ao;generalize upd H' V1 (.lst ((places p.kind (aN S p)).map λq=>((aN S p)[q]?).getD .non))=H5 at s5' eV ⊢;have s25:=s24.trans s5';have s5:=s4.trans s5';have W5:=W.same s5;refine⟨λσ' H6=>∃V2,aJ H H6/\aJ H2 H6/\aJ H' H6/\σ'=[some (.ref A.f),some (.str p.name),some (.ref q),some (.ref d),some (.ref L),some (.ref V2),none,none]/\H6 V2=some (.lst ((vB S p).map V.int)),?_,?_⟩
  ·refine⟨_,Y,_,Y,A.f,_,dx,fs,_,Y,s5 _ _ h1,T.aR.c,T.aR.na.2.2.2.2.2.1,h2.has ("rows",.ref A.Rw) (by simp),A.Rw,_,Y,eE.k (k:=Sum.inr p.name) W5.rows,?_⟩;by_cases h0:p.kind=0
   ·obtain⟨w,ew,eW⟩:=hw0 h0;have v1:=sZ (ra:=A.ra) F.pnd hp h0;rw [v1,eW];refine⟨_,Y,iy ?_⟩;refine⟨_,Y,A.f,_,dx,fs,_,Y,s5 _ _ h1,T.aR.c,T.aR.na.2.2.2.2.2.1,h2.has ("rows",.ref A.Rw) (by simp),_,Y,A.Rw,_,Y,(by rw [<-v1];exact eE.k (k:=Sum.inr p.name) W5.rows),?_⟩;refine⟨_,Y,A.f,_,dx,fs,_,Y,s5 _ _ h1,T.aR.c,T.aR.na.2.2.2.2.1,h2.has ("done",.ref A.D) (by simp),_,Y,A.D,_,Y,(by rw [<-vd];exact eE.k (k:=Sum.inr p.name) W5.done),?_⟩;refine⟨A.ra p.name,_,S.d p.name,_,rfl,rfl,bJ.of (W5.rlst p hp h0),aO (j:=S.d p.name) (by rw [getElem?_map,ew];rfl),jB,λV2 hV2=>?_⟩;exact⟨V2,s5.trans (aB hV2),s25.trans (aB hV2),s5'.trans (aB hV2),Y,ao⟩
   ·rw [Jw F.pnd hp h0];exact⟨_,Y,dz ⟨V1,s5,s25,s5',Y,by rw [<-hv h0];exact eV⟩⟩
  rintro σ' H6 ⟨V2,s6,s26,s46,rfl,eV2⟩;clear W5 W2 s25 s24 s5 s5' s4 s3 s3' eV ed4 ed3;have W6:=W.same s6;have hkp:=lV (k:=S.k) F.pnd hp;refine⟨_,Y,q,cls t p.kind,dxp,_,fK K t p.kind,Y,s26 _ _ p1,mJ _ _ _ _ (by decide +kernel) (by decide +kernel) (by decide +kernel) (by decide +kernel),RK T ok.1,_,Y,_,Y,A.f,_,dx,fs,_,Y,s6 _ _ h1,T.aR.c,T.aR.na.2.2.2.1,h2.has ("kept",.ref A.Kp) (by simp),_,Y,A.Kp,_,Y,(by rw [<-hkp];exact eE.k (k:=Sum.inr p.name) W6.kept),?_⟩;refine⟨q,V2,_,p.nums,_,_,vB S p,S.k p.name,Y,hP.same s26,ok.2.1,bJ.of eV2,lw,hB,λH7 U0 L0 rs s7 nL0 eU0 eL0 tU=>?_⟩;have s57:=s6.trans s7;have s27:=s26.trans s7;have eL7:=s7 _ _ (s46 _ _ eL);have hlr:rs.length=(cQ p.kind p.nums (vB S p) (S.k p.name)).length:=by have:=Paired.length tU;unfold K6 at this;rw [lM] at this;exact this
  clear W6;refine⟨_,Y,U0,_,0,_,Y,Y,fZ.of eU0,aO (j:=0) Y,L0,Y,⟨_,bJ.of eL0⟩,?_⟩;refine FT (K:=K) (a:=L0) (xs:=rs.map V.ref) (λj ys H8=>aJ H7 H8/\∃qs:List Addr,ys=qs.map V.ref/\dw H8 qs (((cQ p.kind p.nums (vB S p) (S.k p.name)).take j).map λpv=>[.str (strAt p.outs pv.1.toNat),.int pv.2])) (by rw [lM];omega) ⟨aJ.refl _,[],rfl,.nil⟩ ?_ (λj ys H8 _ ⟨e,_⟩=>e.seq (bJ.of eL0)) ?_ ?_
  ·rintro j ys H8 ⟨_,qs,rfl,tq⟩;have:=Paired.length tq;rw [lM,length_take] at this;rw [lM];omega
  ·rintro j v ys H8 hj ⟨s8,qs,rfl,tq⟩;rw [getElem?_map] at hj;obtain⟨r,hr',rfl⟩:=map_eq_some_iff.mp hj;have hjl:j <(cQ p.kind p.nums (vB S p) (S.k p.name)).length:=by have:=(List.getElem?_eq_some_iff.mp hr').1;omega
   obtain⟨pv,hpv⟩:∃pv,(cQ p.kind p.nums (vB S p) (S.k p.name))[j]?=some pv:=⟨_,getElem?_eq_getElem hjl⟩;have hr2:H7 r=some (.tup [.int pv.1,.int pv.2]):=by obtain⟨vs2,z1,z2⟩:=j5 tU hr';unfold K6 at z1;rw [getElem?_map,hpv] at z1;cases z1;exact z2
   obtain⟨o,ho1,ho2⟩:=hwl _ (mem_of_getElem? hpv);have ho3:o <p.outs.length:=by rw [ok.2.2.2.1];exact ho2
   have hn:strAt p.outs o=p.outs[o]:=by unfold strAt;rw [getElem?_eq_getElem ho3];rfl
   refine⟨r,_,Y,fZ.of (s8 _ _ hr2),Y,_,_,Y,_,_,Y,Y,Y,?_⟩;refine yes ⟨_,Y,q,_,dxp,_,_,Y,s8 _ _ (s27 _ _ p1),eN T p.kind,xn T p.kind,tX _ _ _ _,_,Y,to,p.outs.map V.str,_,.str (strAt p.outs o),Y,Y,s8.seqT (s27.seqT p4),?_,_,Y,jB,λu hu=>⟨s8.trans (aB hu),qs ++ [u],by simp,?_⟩⟩
   ·rw [ho1,hn];exact aO (j:=o) (by rw [getElem?_map,getElem?_eq_getElem ho3];rfl)
   ·rw [take_succ,hpv,toList_some,map_append];refine(dw.same (aB hu) tq).append (.cons ?_ .nil);show upd H8 u _ u=some (HO.tup [V.str (strAt p.outs pv.1.toNat),V.int pv.2]);rw [ho1,toNat_natCast];exact ao
  rintro ys H8 ⟨s8,qs,rfl,tq⟩ Lg hLg;rw [lM,hlr,take_length] at tq;have t9:=aB (o:=.lst (qs.map V.ref)) hLg;have s9':=s8.trans t9;have tq9:=dw.same t9 tq;have eLg:(upd H8 Lg (.lst (qs.map V.ref))) Lg=some (.lst (qs.map V.ref)):=ao;generalize upd H8 Lg (.lst (qs.map V.ref))=H9 at t9 s9' tq9 eLg ⊢;have s9:=s57.trans s9';have s29:=s27.trans s9';have eL9:=s9' _ _ eL7;have eU9:=s9' _ _ eU0;refine⟨_,rfl,L,rfl,⟨_,bJ.of eL9⟩,fB (K:=K) (a:=L) (xs:=(places p.kind (aN S p)).map nV) (λj ys H'=>H'=H9/\ys=((places p.kind (aN S p)).take j).map (λq=>V.str (strAt p.ins q))) (by rw [lM];omega) ⟨rfl,rfl⟩ (λj ys H' ⟨_,e⟩=>by rw [e,lM,length_take];omega) (λj ys H' _ ⟨e,_⟩=>by rw [e];exact bJ.of eL9) ?_ ?_⟩
  ·rintro j v ys HX hv' ⟨e',rfl⟩;subst e';rw [getElem?_map] at hv';obtain⟨r,hr',rfl⟩:=map_eq_some_iff.mp hv';have hql:r <p.ins.length:=by have:=lY hO r (mem_of_getElem? hr');unfold aN at this;rwa [lM] at this
   have hn:strAt p.ins r=p.ins[r]:=by unfold strAt;rw [getElem?_eq_getElem hql];rfl
   refine yes ⟨_,rfl,q,_,dxp,_,_,rfl,s29 _ _ p1,eN T p.kind,uB T p.kind,oE _ _ _ _,_,rfl,ti,p.ins.map V.str,r,.str (strAt p.ins r),rfl,rfl,s29.seqT p3,by rw [hn];exact aO (j:=r) (by rw [getElem?_map,getElem?_eq_getElem hql];rfl),rfl,?_⟩;rw [take_succ,hr',toList_some,map_append];rfl
  rintro ys H10 ⟨e',rfl⟩ La hLa;subst e';rw [lM,take_length];have s10':=aB (o:=.lst ((places p.kind (aN S p)).map λq=>V.str (strAt p.ins q))) hLa;refine⟨_,Y,_,Y,U0,_,1,_,Y,Y,fZ.of (s10' _ _ eU9),aO (j:=1) Y,jB,λU hU=>?_⟩;refine k' _ U ((s9.trans s10').trans (aB hU)) ((s9.trans s10').free hU) ⟨La,Lg,qs,ao,?_,aB hU _ _ (s10' _ _ eLg),?_,W.cell (s9.free hLa),W.cell ((s57.trans s8).free hLg)⟩
  ·rw [map_map];exact aB hU _ _ ao
  ·rw [map_map];exact dw.same (s10'.trans (aB hU)) tq9
theorem Rp (g:Str->Nat) {ls:List aD} {x:Str} (hx:x∈ls.map (·.name)) (v:Nat):putK (dJ g ls) (Sum.inr x) (.int (v:Nat))=dJ (λy=>if y=x then v else g y) ls:=by
 unfold putK;rw [if_pos (by obtain⟨l,hl,rfl⟩:=mem_map.mp hx;exact any_eq_true.mpr ⟨_,mem_map.mpr ⟨l,hl,Y⟩,by simp⟩)]
 unfold dJ;rw [map_map];refine map_congr_left λl _=>?_;by_cases h:l.name=x
 ·simp [h]
 ·simp [h]
theorem Jb (g:Str->Int) {ps:List PD} {x:Str} (hx:x∈ps.map (·.name)) (v:Int):putK (cD g ps) (Sum.inr x) (.int v)=cD (λy=>if y=x then v else g y) ps:=by
 unfold putK;rw [if_pos (by obtain⟨l,hl,rfl⟩:=mem_map.mp hx;exact any_eq_true.mpr ⟨_,mem_map.mpr ⟨l,hl,Y⟩,by simp⟩)]
 unfold cD;rw [map_map];refine map_congr_left λl _=>?_;by_cases h:l.name=x
 ·simp [h]
 ·simp [h]
noncomputable def qM (S:FS) (x:Str) (dd:ji):FS:=⟨λy=>S.ev y ++ (dd.gv.filter λq=>decide (q.1=y)).map (·.2),λy=>if y∈dd.tk then S.g y+1 else S.g y,λy=>if y=x then dd.kv else S.k y,λy=>if y=x then S.d y+1 else S.d y,S.r⟩
noncomputable def Hd (M:List Addr) (H H':Hp):Prop:=∀b,b∉M->H' b=H b
structure Ke (ls:List aD) (dd:ji):Prop where
 ntk:dd.tk.Nodup
 tin:∀x∈dd.tk,x∈ls.map (·.name)
 gin:∀q∈dd.gv,q.1∈ls.map (·.name)
 g2:dd.gv.length<=2
inductive Di (K:Fr) (t:jq) (vs:List V) (H:Hp) (Q:VK):Prop where
 | mk:∀(b:Nat) (A:jC) (ls:List aD) (ps:List PD) (S:FS) (p:PD) (U:Addr) (dd:ji),vs=[.ref A.f,.str p.name,.ref U]->lN ls ps->dU K t H A ls ps S->p∈ps->((∀l∈ls,(S.ev l.name).length<=b))->b<=100000->ph (A.cells ls ps) H U dd->Ke ls dd->(∀H',Hd (A.cells ls ps) H H'->dU K t H' A ls ps (qM S p.name dd)->Q .non H')->Di K t vs H Q
@[irreducible] noncomputable def qx (K:Fr) (t:jq):Sp:=λvs H Q _=>Di K t vs H Q
theorem NQ (T:Txt w K mg t):FO P w K mg base 1 t.Bq ["self", "name", "deed"] (qx K t):=by
 have sc:=T.Bt.sc ["self", "name", "deed", "lane", "value"];refine T.Bt.F.ok sc (λvs H Q E h=>?_) (λcdv A outer s H vs Q E hr h=>?_)
 ·unfold qx at h;obtain⟨b,A,ls,ps,S,p,U,dd,rfl,_⟩:=h;rfl
 ·unfold qx at h;obtain⟨b,A,ls,ps,S,p,U,dd,rfl,F,W,hp,O,hb,⟨La,Lg,rs,hU,hLa,hLg,hT,na,ng⟩,⟨ntk,hin,hout,hg2⟩,k⟩:=h;refine⟨_,(aq (dO PassesOwn.never Y (bR (bc cT (pv 2) au (λ_ _=>Y))) (gN sc 3)
    (aA (Qo hr.u1 (aU (pv 0) rfl) (pv 3) au Jt (λ_ _ _=>rfl))))
   (aq (dO PassesOwn.never rfl (bR (bc cT (pv 2) au (λ_ _=>rfl))) (G9 rfl (jx (gN sc 3) (jx (gN sc 4) xF)))
    (aA (bI (Ho (cJ hr.u1 (aU (pv 0) rfl) (pv 3) (λ_ _=>rfl)) (aa (pv 4) ak aj)))))
   (aq (gQ hr.u1 (aU (pv 0) rfl) (pv 1) (bc cT (pv 2) au (λ_ _=>rfl)) rfl)
   (aA (Qo hr.u1 (aU (pv 0) rfl) (pv 1) au Jt (λ_ _ _=>rfl)))))),?_⟩
  have hl:sizeLine=16777216:=sizeLine_eq;have l24:=F.l24;have p16:=F.p16;obtain⟨dx,fs,h1,h2⟩:=id W.at'.ex;have hG:=W.gone;have hn:=W.nod;unfold jC.cells at hn na ng;simp only [nodup_cons,mem_cons,mem_append,not_or] at hn na ng;obtain⟨⟨nEG,nEK,nED,nER,nEE,nE2⟩,⟨nGK,nGD,nGR,nGE,nG2⟩,⟨nKD,nKR,nKE,nK2⟩,⟨nDR,nDE,nD2⟩,⟨nRE,nR2⟩,nA⟩:=hn;obtain⟨nE1,nR1,nER1⟩:=nodup_append.mp nA;refine⟨_,Y,U,_,0,_,Y,Y,fZ.of hU,aO (j:=0) Y,La,Y,⟨_,bJ.of hLa⟩,du (K:=K) (a:=La) (xs:=dd.tk.map V.str) (λj σ H'=>H'=upd H A.G (.dK (dJ (λx=>if x∈dd.tk.take j then S.g x+1 else S.g x) ls))/\∃v3,σ=[some (.ref A.f),some (.str p.name),some (.ref U),v3,none]) ⟨?_,none,Y⟩ ?_ ?_ ?_⟩
  ·have:dJ (λx=>if x∈dd.tk.take 0 then S.g x+1 else S.g x) ls=dJ S.g ls:=by simp
   rw [this,K1 hG]
  ·rintro j σ H' _ ⟨rfl,_⟩;exact bJ.of (kJ hG hLa (by intro _ z;cases z))
  ·rintro j x σ H' hx ⟨rfl,v3,rfl⟩;rw [getElem?_map] at hx;obtain⟨y,hy,rfl⟩:=map_eq_some_iff.mp hx;have hym:=hin y (mem_of_getElem? hy);have nin:y∉dd.tk.take j:=by have:=oG (f:=id) (xs:=dd.tk) (by rw [map_id];exact ntk) hy;rwa [map_id] at this
   have vg:cj (dJ (λx=>if x∈dd.tk.take j then S.g x+1 else S.g x) ls) (Sum.inr y)=some (.int ((S.g y:Nat):Int)):=by obtain⟨l,hl',rfl⟩:=mem_map.mp hym;rw [tQ F.whole.nod hl',if_neg nin]
   refine⟨_,rfl,A.f,_,dx,fs,_,rfl,kJ hG h1 (by intro _ z;cases z),T.aR.c,T.aR.na.2.2.1,h2.has ("gone",.ref A.G) (by simp),_,rfl,A.G,.int ((S.g y:Nat):Int),rfl,(by rw [<-vg];exact eE.k (k:=Sum.inr y) ao),_,_,rfl,rfl,_,pC.k (k:=Sum.inr y) ao (by unfold dJ;rw [lM];omega),?_,_,rfl⟩;rw [rE];show upd H A.G (.dK (putK _ (Sum.inr y) (.int ((S.g y+1:Nat):Int))))=_;rw [Rp _ hym (S.g y+1)];have:(λz=>if z=y then S.g y+1 else if z∈dd.tk.take j then S.g z+1 else S.g z)=λz=>if z∈dd.tk.take (j+1) then S.g z+1 else S.g z:=by
    funext z
    simp only [take_succ,hy,toList_some,mem_append,mem_singleton];by_cases h3:z=y <;> by_cases h4:z∈dd.tk.take j <;> simp [h3,h4]
   rw [this]
  rintro σ H' ⟨rfl,v3,rfl⟩;rw [lM,take_length];have m1:Hd [A.G] H (upd H A.G (.dK (dJ (qM S p.name dd).g ls))):=λb hb=>aK (by simpa using hb);have gG:upd H A.G (.dK (dJ (qM S p.name dd).g ls)) A.G=some (.dK (dJ (qM S p.name dd).g ls)):=ao;change Ag _ _ _ _ (upd H A.G (.dK (dJ (qM S p.name dd).g ls)));generalize upd H A.G (.dK (dJ (qM S p.name dd).g ls))=H1 at m1 gG ⊢;have g1:∀{b:Addr} {u:HO},H b=some u->(∀ks,u≠.dK ks)->H1 b=some u:=λ{b u} h hu=>by rw [m1 b (by rw [mem_singleton];rintro rfl;rw [hG] at h;exact hu _ (Option.some.inj h).symm)];exact h
  have hlr:rs.length=dd.gv.length:=by have:=Paired.length hT;rw [lM] at this;exact this
  have eE1:H1 A.E=some (.dK (V8 A.ea ls)):=by rw [m1 A.E (by simpa using nEG)];exact W.ever
  have lists1:∀l∈ls,H1 (A.ea l.name)=some (.lst ((S.ev l.name).map V.int)):=λl hl=>g1 (W.lists l hl) (by intro _ z;cases z);have nM:∀{b:Addr} {u:HO},H1 b=some u->(∀ks,u≠.lst ks)->b∉ls.map (λl=>A.ea l.name):=λ{b u} h hu hm=>by obtain⟨l,hl,rfl⟩:=mem_map.mp hm;rw [lists1 l hl] at h;exact hu _ (Option.some.inj h).symm
  refine⟨_,rfl,U,_,1,_,rfl,rfl,fZ.of (g1 hU (by intro _ z;cases z)),aO (j:=1) rfl,Lg,rfl,⟨_,bJ.of (g1 hLg (by intro _ z;cases z))⟩,du (K:=K) (a:=Lg) (xs:=rs.map V.ref) (λj σ H'=>(Hd (ls.map (λl=>A.ea l.name)) H1 H'/\∀l∈ls,H' (A.ea l.name)=some (.lst ((S.ev l.name ++ ((dd.gv.take j).filter λq=>decide (q.1=l.name)).map (·.2)).map V.int)))/\∃v3 v4,σ=[some (.ref A.f),some (.str p.name),some (.ref U),v3,v4]) ⟨⟨λ_ _=>rfl,λl hl=>?_⟩,v3,none,rfl⟩ ?_ ?_ ?_⟩
  ·rw [lists1 l hl];simp
  ·rintro j σ H' _ ⟨⟨m2,_⟩,_⟩;exact bJ.of (by rw [m2 Lg ng.2.2.2.2.2.1];exact g1 hLg (by intro _ z;cases z))
  ·rintro j x σ H' hx ⟨⟨m2,l2⟩,v3,v4,rfl⟩;rw [getElem?_map] at hx;obtain⟨r,hr',rfl⟩:=map_eq_some_iff.mp hx;obtain⟨vs2,z1,z2⟩:=j5 hT hr';rw [getElem?_map] at z1;obtain⟨w,ew,rfl⟩:=map_eq_some_iff.mp z1;have hj:=(List.getElem?_eq_some_iff.mp ew).1;have er:=g1 z2 (by intro _ z;cases z);have er':H' r=some (.tup [.str w.1,.int w.2]):=by rw [m2 r (nM er (by intro _ z;cases z))];exact er
   have fe:H' A.f=some (.ins t.cC dx fs):=by have e1:=g1 h1 (by intro _ z;cases z);rw [m2 A.f (nM e1 (by intro _ z;cases z))];exact e1
   have ee:H' A.E=some (.dK (V8 A.ea ls)):=by rw [m2 A.E nEE];exact eE1
   obtain⟨l,hl',hln⟩:=mem_map.mp (hout w (mem_of_getElem? ew));have va:=zM (ea:=A.ea) F.whole.nod hl';have ea:=l2 _ hl';rw [hln] at va;refine⟨r,_,Y,fZ.of er',Y,_,_,Y,_,_,Y,Y,?_⟩;refine⟨_,rfl,A.f,_,dx,fs,_,rfl,fe,T.aR.c,T.aR.na.2.1,h2.has ("ever",.ref A.E) (by simp),_,rfl,A.E,.ref (A.ea w.1),rfl,(by rw [<-va];exact eE.k (k:=Sum.inr w.1) ee),.inl ⟨rfl,_,bJ.of (by rw [<-hln];exact ea)⟩,?_⟩;refine⟨_,rfl,A.ea w.1,_,.int w.2,rfl,rfl,by rw [<-hln];exact ea,?_,⟨λb hb=>?_,λl1 hl1=>?_⟩,some (.str w.1),some (.int w.2),rfl⟩
   ·have h3:=O l hl';have h4:=length_filter_le (λq:Str×Int=>decide (q.1=l.name)) (dd.gv.take j);rw [length_take] at h4;rw [lM,lP,lM];omega
   ·rw [aK (λz=>hb (by rw [z,<-hln];exact mem_map.mpr ⟨l,hl',rfl⟩))];exact m2 b hb
   ·rw [take_succ,ew,toList_some,filter_append,map_append];by_cases h:w.1=l1.name
    ·have e:l1=l:=by have a1:=find_name F.whole.nod hl1;have a2:=find_name F.whole.nod hl';rw [<-h,<-hln,a2] at a1;exact(Option.some.inj a1).symm
     subst e;rw [<-hln,ao];simp [h]
    ·have hne:A.ea l1.name≠A.ea w.1:=λz=>by rw [<-hln] at z;have:=yH nE1 hl1 hl' z;exact h (by rw [this,hln])
     rw [aK hne,l2 l1 hl1];simp [h]
  rintro σ H2 ⟨⟨m2,l2⟩,v5,v6,rfl⟩;rw [lM,hlr,take_length] at l2;have fe:H2 A.f=some (.ins t.cC dx fs):=by have e1:=g1 h1 (by intro _ z;cases z);rw [m2 A.f (nM e1 (by intro _ z;cases z))];exact e1
  have uE:H2 U=some (.tup [.ref La,.ref Lg,.int dd.kv]):=by have e1:=g1 hU (by intro _ z;cases z);rw [m2 U (nM e1 (by intro _ z;cases z))];exact e1
  have kE:H2 A.Kp=some (.dK (cD S.k ps)):=by rw [m2 A.Kp nKE,m1 A.Kp (by simpa using Ne.symm nGK)];exact W.kept
  have dE:H2 A.D=some (.dK (cD (λx=>(S.d x:Int)) ps)):=by rw [m2 A.D nDE,m1 A.D (by simpa using Ne.symm nGD)];exact W.done
  have lk:∀k1:Str->Int,(cD k1 ps).length <sizeLine:=λk1=>by unfold cD;rw [lM];omega
  have hpn:p.name∈ps.map (·.name):=mem_map.mpr ⟨p,hp,rfl⟩;refine⟨_,Y,U,_,2,_,Y,Y,fZ.of uE,aO (j:=2) Y,_,Y,A.f,_,dx,fs,_,Y,fe,T.aR.c,T.aR.na.2.2.2.1,h2.has ("kept",.ref A.Kp) (by simp),_,Y,A.Kp,_,Y,pC.k (k:=Sum.inr p.name) kE (lk _),?_⟩;rw [Jb S.k hpn];have m3:Hd [A.Kp] H2 (upd H2 A.Kp (.dK (cD (λy=>if y=p.name then dd.kv else S.k y) ps))):=λb hb=>aK (by simpa using hb);have kE3:upd H2 A.Kp (.dK (cD (λy=>if y=p.name then dd.kv else S.k y) ps)) A.Kp=some (.dK (cD (λy=>if y=p.name then dd.kv else S.k y) ps)):=ao;generalize upd H2 A.Kp (.dK (cD (λy=>if y=p.name then dd.kv else S.k y) ps))=H3 at m3 kE3 ⊢;have fe3:H3 A.f=some (.ins t.cC dx fs):=by rw [m3 A.f (by simpa using ym fe kE (by intro z;cases z))];exact fe
  have dE3:H3 A.D=some (.dK (cD (λx=>(S.d x:Int)) ps)):=by rw [m3 A.D (by simpa using Ne.symm nKD)];exact dE
  have vd:=lV (k:=λx=>(S.d x:Int)) F.pnd hp;refine⟨_,rfl,A.f,_,dx,fs,_,rfl,fe3,T.aR.c,T.aR.na.2.2.2.2.1,h2.has ("done",.ref A.D) (by simp),_,rfl,A.D,.int (S.d p.name:Int),rfl,(by rw [<-vd];exact eE.k (k:=Sum.inr p.name) dE3),_,_,rfl,rfl,_,pC.k (k:=Sum.inr p.name) dE3 (lk _),?_⟩;rw [Jb (λx=>(S.d x:Int)) hpn];have eD:(λy=>if y=p.name then(S.d p.name:Int)+1 else(S.d y:Int))=λx=>(((qM S p.name dd).d x:Nat):Int):=by
   funext y
   unfold qM;by_cases h:y=p.name
   ·subst h;simp
   ·simp [h]
  change Q .non (upd H3 A.D (.dK (cD (λy=>if y=p.name then(S.d p.name:Int)+1 else(S.d y:Int)) ps)));rw [eD];have m4:Hd [A.D] H3 (upd H3 A.D (.dK (cD (λx=>(((qM S p.name dd).d x:Nat):Int)) ps))):=λb hb=>aK (by simpa using hb);have dE4:upd H3 A.D (.dK (cD (λx=>(((qM S p.name dd).d x:Nat):Int)) ps)) A.D=some (.dK (cD (λx=>(((qM S p.name dd).d x:Nat):Int)) ps)):=ao;generalize upd H3 A.D (.dK (cD (λx=>(((qM S p.name dd).d x:Nat):Int)) ps))=H4 at m4 dE4 ⊢;have mv:∀b,b≠A.D->b≠A.Kp->H4 b=H2 b:=λb a1 a2=>by rw [m4 b (by simpa using a1),m3 b (by simpa using a2)]
  have fe4:H4 A.f=some (.ins t.cC dx fs):=by rw [m4 A.f (by simpa using ym fe3 dE3 (by intro z;cases z))];exact fe3
  refine k H4 (λb hb=>?_) ⟨⟨dx,fs,fe4,h2⟩,?_,?_,?_,?_,dE4,?_,?_,W.nod⟩
  ·unfold jC.cells at hb;simp only [mem_cons,mem_append,not_or] at hb;rw [mv b hb.2.2.2.1 hb.2.2.1,m2 b hb.2.2.2.2.2.1,m1 b (by simpa using hb.2.1)]
  ·rw [mv A.E nED nEK,m2 A.E nEE,eE1]
  ·intro l hl;have a2:=l2 l hl;rw [mv _ (ym a2 dE (by intro z;cases z)) (ym a2 kE (by intro z;cases z))];exact a2
  ·rw [mv A.G nGD nGK,m2 A.G nGE,gG]
  ·rw [m4 A.Kp (by simpa using nKD)];exact kE3
  ·rw [mv A.Rw (Ne.symm nDR) (Ne.symm nKR),m2 A.Rw nRE,m1 A.Rw (by simpa using Ne.symm nGR)];exact W.rows
  ·intro p' hp' h0;have hm:A.ra p'.name∈(gB ps).map (λp=>A.ra p.name):=mem_map.mpr ⟨p',mem_filter.mpr ⟨hp',by simp [h0]⟩,rfl⟩;rw [mv _ (λz=>nD2 (by rw [<-z];exact hm)) (λz=>nK2 (by rw [<-z];exact hm)),m2 _ (λz=>nER1 _ z _ hm rfl),m1 _ (by simpa using λz=>nG2 (by rw [<-z];exact hm))];exact W.rlst p' hp' h0
theorem Uz (T:Txt w K mg t) (i:Nat):MethAt P w K mg base BX 1 (cls t i) "start" (wN K t i):=match i with
 | 0=>⟨_,_,_,T.jg.c,(T.bK.me T.jg.me.2.2.2.2.2.1),T.bK.b,(dY T).imp λ_ _ _ _ h=>⟨_,by omega,h⟩⟩
 | 1=>⟨_,_,_,T.iW.c,(T.bK.me T.iW.me.2.2.2.2.2.1),T.bK.b,(dY T).imp λ_ _ _ _ h=>⟨_,by omega,h⟩⟩
 | 2=>⟨_,_,_,T.jh.c,(T.bK.me T.jh.me.2.2.2.2.2.1),T.bK.b,(dY T).imp λ_ _ _ _ h=>⟨_,by omega,h⟩⟩
 | 3=>⟨_,_,_,T.je.c,(T.bK.me T.je.me.2.2.2.2.2.1),T.bK.b,(dY T).imp λ_ _ _ _ h=>⟨_,by omega,h⟩⟩
 | 4=>⟨_,_,_,T.jj.c,(T.bK.me T.jj.me.2.2.2.2.2.1),T.bK.b,(dY T).imp λ_ _ _ _ h=>⟨_,by omega,h⟩⟩
 | 5=>⟨_,_,_,T.gU.c,(T.pF.me T.gU.me.2.2.2.2.2.1),T.pF.b,Hb T⟩
 | 6=>⟨_,_,_,T.lB.c,(T.bK.me T.lB.me.2.2.2.2.2.1),T.bK.b,(dY T).imp λ_ _ _ _ h=>⟨_,by omega,h⟩⟩
 | 7=>⟨_,_,_,T.iY.c,(T.bK.me T.iY.me.2.2.2.2.2.1),T.bK.b,(dY T).imp λ_ _ _ _ h=>⟨_,by omega,h⟩⟩
 | 8=>⟨_,_,_,T.fO.c,(T.bK.me T.fO.me.2.2.2.2.2.1),T.bK.b,(dY T).imp λ_ _ _ _ h=>⟨_,by omega,h⟩⟩
 | 9=>⟨_,_,_,T.d7.c,(T.bK.me T.d7.me.2.2.2.2.2.1),T.bK.b,(dY T).imp λ_ _ _ _ h=>⟨_,by omega,h⟩⟩
 | n+10=>⟨_,_,_,T.fP.c,(T.bK.me T.fP.me.2.2.2.2.2.1),T.bK.b,(dY T).imp λ_ _ _ _ h=>⟨_,by omega,h⟩⟩
theorem Xd:∀i,i <11->fD i= "give" ->i=0:=by decide +kernel
theorem Rj (p:PD) (h:qy p):J9 p.kind (p.nums.map V.int)=.int (Bb p):=by
 unfold J9 Bb;by_cases h5:p.kind=5
 ·rw [if_pos h5,if_pos h5];have hl:p.nums.length=1:=by rw [h.2.1,h5];rfl
  match p.nums,hl with
  | [m],_=>rfl
 ·rw [if_neg h5,if_neg h5]
noncomputable def MP (ls:List aD) (x:Str):List Int:=((ls.find? λl=>decide (l.name=x)).map (·.first)).getD []
theorem xg {ls:List aD} (nd:(ls.map (·.name)).Nodup) {l:aD} (hl:l∈ls):MP ls l.name=l.first:=by unfold MP;rw [find_name nd hl];rfl
noncomputable def f9 (RW:List (Str×Addr×List Int)):List (Key×V):=RW.map λq=>((Sum.inr q.1:Key),V.ref q.2.1)
noncomputable def iR (RW:List (Str×Addr×List Int)) (x:Str):List Int:=((RW.find? λq=>decide (q.1=x)).map (·.2.2)).getD []
structure jY (H:Hp) (rw:Addr) (RW:List (Str×Addr×List Int)):Prop where
 dict:H rw=some (.dK (f9 RW))
 lists:∀q∈RW,H q.2.1=some (.lst (q.2.2.map V.int))
 nd:(RW.map (·.1)).Nodup
 len:∀q∈RW,q.2.2.length<=300
theorem jY.same {H H':Hp} {rw:Addr} {RW:List (Str×Addr×List Int)} (h:jY H rw RW) (s:aJ H H'):jY H' rw RW:=⟨s _ _ h.dict,λq hq=>s _ _ (h.lists q hq),h.nd,h.len⟩
theorem um (RW:List (Str×Addr×List Int)):(f9 RW).map (·.1)=(RW.map (·.1)).map (λx=>(Sum.inr x:Key)):=by unfold f9;rw [map_map,map_map];rfl
theorem jY.get {H:Hp} {rw:Addr} {RW:List (Str×Addr×List Int)} (h:jY H rw RW) (x:Str):(cj (f9 RW) (Sum.inr x)=none/\iR RW x=[])∨∃a,cj (f9 RW) (Sum.inr x)=some (.ref a)/\H a=some (.lst ((iR RW x).map V.int))/\(iR RW x).length<=300:=by
 by_cases hx:x∈RW.map (·.1)
 ·obtain⟨q,hq,rfl⟩:=mem_map.mp hx;have e:iR RW q.1=q.2.2:=by unfold iR;rw [find_name (f:=λq:Str×Addr×List Int=>q.1) h.nd hq];rfl
  refine .inr ⟨q.2.1,jt (by rw [um];exact gH h.nd) (mem_map.mpr ⟨q,hq,rfl⟩),?_,?_⟩
  ·rw [e];exact h.lists q hq
  ·rw [e];exact h.len q hq
 ·refine .inl ⟨jw (by rw [um];intro z;obtain⟨b,hb,e⟩:=mem_map.mp z;cases e;exact hx hb),?_⟩;unfold iR;rw [find?_eq_none.mpr λq hq=>by simpa using λe=>hx (mem_map.mpr ⟨q,hq,e⟩)];rfl
noncomputable def fG (ls:List aD) (ps:List PD) (RW:List (Str×Addr×List Int)):FS:=⟨MP ls,λ_=>0,fL ps,λ_=>0,iR RW⟩
noncomputable def Mp (RW:List (Str×Addr×List Int)) (RL:List (PD×Addr)):List (Addr×HO):=RL.map λq=>(q.2,HO.lst ((iR RW q.1.name).map V.int))
theorem Ov {ps:List PD} (h:∀p∈ps,qy p):(ps.filter λp=>decide (fD p.kind= "give"))=gB ps:=by
 unfold gB;refine List.filter_congr λp hp=>?_;by_cases h0:p.kind=0
 ·rw [h0];rfl
 ·have:¬fD p.kind= "give" :=λz=>h0 (Xd _ (h p hp).1 z);simp [h0,this]
noncomputable def vH {α:Type} (f:α->Str) (L:List (α×Addr)) (x:Str):Addr:=((L.find? λq=>decide (f q.1=x)).map (·.2)).getD 0
theorem nH {α:Type} {f:α->Str} {L:List (α×Addr)} (nd:(L.map λq=>f q.1).Nodup) {q:α×Addr} (hq:q∈L):vH f L (f q.1)=q.2:=by unfold vH;rw [find_name (f:=λq:α×Addr=>f q.1) nd hq];rfl
theorem Jp {α:Type} {f:α->Str} {L:List (α×Addr)} (nd:(L.map λq=>f q.1).Nodup):(L.map (·.1)).map (λa=>vH f L (f a))=L.map (·.2):=by rw [map_map];exact map_congr_left λq hq=>nH nd hq
inductive rn (K:Fr) (t:jq) (vs:List V) (H:Hp) (Q:VK):Prop where
 | mk:∀(H0:Hp) (f dx n rw:Addr) (ls:List aD) (ps:List PD) (RW:List (Str×Addr×List Int)),vs=[.ref f,.ref n,.ref rw]->H f=some (.ins t.cC dx [])->aJ H0 H->H0 f=none->eG K t H0 n ls ps->jY H0 rw RW->(∀H' A,A.f=f->A.n=n->nW f H H'->dU K t H' A ls ps (fG ls ps RW)->(∀a∈A.cells ls ps,H a=none)->Q .non H')->rn K t vs H Q
@[irreducible] noncomputable def iM (K:Fr) (t:jq):Sp:=λvs H Q _=>rn K t vs H Q
theorem Bm (T:Txt w K mg t):FO P w K mg base 4 t.oM ["self", "net", "rows"] (iM K t):=by
 have sc:=T.km.sc ["self", "net", "rows", "lane", "name", "door"];refine T.km.F.ok sc (λvs H Q E h=>?_) (λcdv A outer s H vs Q E hr h=>?_)
 ·unfold iM at h;obtain⟨H0,f,dx,n,rw,ls,ps,RW,rfl,_⟩:=h;rfl
 ·unfold iM at h;obtain⟨H0,f,dx,n,rw,ls,ps,RW,rfl,hf,s0,nf0,N,hrw,k⟩:=h;refine⟨_,(aq (jA (pv 0) (pv 1) Y)
   (aq (jA (pv 0) gO rfl)
   (aq (jA (pv 0) gO rfl)
   (aq (dO PassesOwn.never rfl (bR (Ma (pv 1) T.aW T.aW.me.2.1 (lu T) T.iH hr)) (gN sc 3)
    (aq (gQ hr.u1 (aU (pv 0) rfl) (pv 3) (uo (pv 1) T.aW T.aW.me.2.2.2.2.2.2.2.2.1 (DP T) T.p7 hr (aa (pv 3) ak aj)) rfl)
    (aA (gQ hr.u1 (aU (pv 0) rfl) (pv 3) au rfl))))
   (aq (jA (pv 0) gO rfl)
   (aq (jA (pv 0) gO rfl)
   (aq (dO PassesOwn.never rfl (bR (Ma (pv 1) T.aW T.aW.me.2.2.1 (d9 T) T.dg hr)) (gN sc 4)
    (aq (gQ hr.u1 (aU (pv 0) rfl) (pv 4) (xN (CX:=BX) (k:=1) (E:=E0) (uo (pv 1) T.aW T.aW.me.2.2.2.2.2.2.2.2.2.2.2.1 (jO T) T.gZ hr (aa (pv 4) ak aj)) (hr.mono (by decide)) gh) rfl)
    (aA (gQ hr.u1 (aU (pv 0) rfl) (pv 4) au rfl))))
   (aq (jA (pv 0) gO rfl)
   (aA (dO PassesOwn.never rfl (bR (Ma (pv 1) T.aW T.aW.me.2.2.2.2.1 (pO T) T.kY hr)) (gN sc 5)
    (aA (gQ hr.u1 (aU (pv 0) rfl) (pv 5) (gf Aq (by rfl) T.vI rB (aa (Tz hr.u1 (pv 2) (pv 5) (bC ak) ⟨rfl,rfl,rfl,rfl⟩) ak aX)) rfl)))))))))))),?_⟩
  obtain⟨dxn,fsn,R,F,Pd,Gn,Tk,FL,PL,W⟩:=id N;have hl:sizeLine=16777216:=sizeLine_eq;have l24:=W.fit.l24;have p16:=W.fit.p16;have sk:∀{Hk:Hp},nW f H Hk->aJ H0 Hk:=λb x o e=>b x o (aF e nf0) (s0 x o e);have T0:=Tr.start hf;refine⟨_,Y,_,Y,f,_,dx,[],Y,hf,T.aR.c,T.aR.na.1,by show 0 <1000;decide,?_⟩;have T1:=T0.put (L1:=[]) (L2:=[]) (o':=.ins t.cC dx (aH "net" (.ref n) []));generalize upd H f (.ins t.cC dx (aH "net" (.ref n) []))=H1 at T1 ⊢;refine λE nE=>?_;have T2:=T1.new (o:=.dK []) nE;generalize upd H1 E (.dK [])=H2 at T2 ⊢;refine⟨_,Y,f,_,dx,_,Y,T2.all (f,_) (.head _),T.aR.c,T.aR.na.2.1,lt_of_le_of_lt (ju (zero_le 0)) (by decide),?_⟩;have T3:=T2.put (L1:=[]) (o':=.ins t.cC dx (aH "ever" (.ref E) (aH "net" (.ref n) [])));generalize upd H2 f (.ins t.cC dx (aH "ever" (.ref E) (aH "net" (.ref n) [])))=H3 at T3 ⊢;refine λG nG=>?_;have T4:=T3.new (o:=.dK []) nG;generalize upd H3 G (.dK [])=H4 at T4 ⊢;refine⟨_,Y,f,_,dx,_,Y,T4.all (f,_) (.head _),T.aR.c,T.aR.na.2.2.1,lt_of_le_of_lt (ju (ju (zero_le 0))) (by decide),?_⟩;have T5:=T4.put (L1:=[]) (o':=.ins t.cC dx (aH "gone" (.ref G) (aH "ever" (.ref E) (aH "net" (.ref n) []))));generalize upd H4 f (.ins t.cC dx (aH "gone" (.ref G) (aH "ever" (.ref E) (aH "net" (.ref n) []))))=H5 at T5 ⊢;have W5:=W.same (sk T5.but);refine⟨_,Y,n,dxn,fsn,Y,W5.obj,W5.fl.no _ (by decide +kernel),n,ls,ps,Y,W5.s,λl nl=>?_⟩;have T6:Tr H f ((f,.ins t.cC dx (aH "gone" (.ref G) (aH "ever" (.ref E) (aH "net" (.ref n) [])))):: (E,.dK (bO [])):: (G,.dK (dJ (λ_=>0) [])):: (l,.lst (ls.map λx:aD=>V.str x.name)):: lQ []) (upd H5 l (.lst (ls.map λx:aD=>V.str x.name))):=T5.new nl;generalize upd H5 l (.lst (ls.map λx:aD=>V.str x.name))=H6 at T6 ⊢;clear T0 T1 T2 T3 T4 T5 W5;refine⟨l,rfl,⟨_,bJ.of (T6.all (l,.lst (ls.map λx:aD=>V.str x.name)) (by simp))⟩,du (K:=K) (a:=l) (xs:=ls.map λx:aD=>V.str x.name) (λj σ H'=>(∃v3,σ=[some (.ref f),some (.ref n),some (.ref rw),v3,none,none])/\∃EL:List (aD×Addr),EL.map (·.1)=ls.take j/\Tr H f ((f,.ins t.cC dx (aH "gone" (.ref G) (aH "ever" (.ref E) (aH "net" (.ref n) [])))):: (E,.dK (bO EL)):: (G,.dK (dJ (λ_=>0) (ls.take j))):: (l,.lst (ls.map λx:aD=>V.str x.name)):: lQ EL) H') ⟨⟨none,rfl⟩,[],rfl,T6⟩ (λj σ H' _ ⟨_,_,_,T'⟩=>bJ.of (T'.all (l,.lst (ls.map λx:aD=>V.str x.name)) (by simp))) ?_ ?_⟩
  ·rintro j x σ H' hx ⟨⟨v3,rfl⟩,EL,eEL,T7⟩;rw [getElem?_map] at hx;obtain⟨ln,hlj,rfl⟩:=map_eq_some_iff.mp hx;have hm:=mem_of_getElem? hlj;have hj:=(List.getElem?_eq_some_iff.mp hlj).1;have nin:=oG W.fit.whole.nod hlj;have vE:cj (bO EL) (Sum.inr ln.name)=none:=jw (by rw [uA,eEL];intro z;obtain⟨b,hb,e⟩:=mem_map.mp z;cases e;exact nin hb);have vG:cj (dJ (λ_=>0) (ls.take j)) (Sum.inr ln.name)=none:=jw (by rw [Gi];intro z;obtain⟨b,hb,e⟩:=mem_map.mp z;cases e;exact nin hb);have tk:ls.take (j+1)=ls.take j ++ [ln]:=by rw [take_succ,hlj];rfl
   have lEL:EL.length<=24:=by have:=congrArg List.length eEL;rw [lM,length_take] at this;omega
   have W7:=W.same (sk T7.but);refine⟨_,Y,n,dxn,fsn,Y,W7.obj,W7.fl.no _ (by decide +kernel),_,Y,n,ls,ps,ln.name,Y,W7.s,.inl ⟨ln,hm,Y,λH8 le s8 nle ele=>?_⟩⟩;have T8:Tr H f ((f,.ins t.cC dx (aH "gone" (.ref G) (aH "ever" (.ref E) (aH "net" (.ref n) [])))):: (E,.dK (bO EL)):: (G,.dK (dJ (λ_=>0) (ls.take j))):: (l,.lst (ls.map λx:aD=>V.str x.name)):: lQ (EL ++ [(ln,le)])) H8:=by unfold lQ;rw [map_append];exact T7.got s8 nle ele
   refine⟨_,rfl,f,_,dx,_,_,rfl,T8.all (f,_) (.head _),T.aR.c,T.aR.na.2.1,(by (repeat first | (rw [aC,if_pos rfl];done) | rw [aC,if_neg (by decide +kernel)])),_,rfl,E,_,rfl,pC.k (k:=Sum.inr ln.name) (T8.all (E,.dK (bO EL)) (by simp)) (by unfold bO;rw [lM];omega),?_⟩;have e8:putK (bO EL) (Sum.inr ln.name) (.ref le)=bO (EL ++ [(ln,le)]):=by rw [j7 _ vE];unfold bO;rw [map_append];rfl
   rw [e8];have T9:=T8.put (L1:=[_]) (o':=.dK (bO (EL ++ [(ln,le)])));generalize upd H8 E (.dK (bO (EL ++ [(ln,le)])))=H9 at T9 ⊢;refine⟨_,rfl,f,_,dx,_,_,rfl,T9.all (f,_) (.head _),T.aR.c,T.aR.na.2.2.1,(by (repeat first | (rw [aC,if_pos rfl];done) | rw [aC,if_neg (by decide +kernel)])),_,rfl,G,_,rfl,pC.k (k:=Sum.inr ln.name) (T9.all (G,.dK (dJ (λ_=>0) (ls.take j))) (by simp)) (by unfold dJ;rw [lM,length_take];omega),?_⟩;have e9:putK (dJ (λ_=>0) (ls.take j)) (Sum.inr ln.name) (.int 0)=dJ (λ_=>0) (ls.take (j+1)):=by rw [j7 _ vG,tk];unfold dJ;rw [map_append];rfl
   rw [e9];have TA:=T9.put (L1:=[_,_]) (o':=.dK (dJ (λ_=>0) (ls.take (j+1))));exact⟨⟨_,rfl⟩,EL ++ [(ln,le)],by rw [map_append,eEL,tk];rfl,TA⟩
  rintro σ H7 ⟨⟨v3,rfl⟩,EL,eEL,T7⟩;rw [lM,take_length] at eEL T7;have T7:Tr H f ((f,.ins t.cC dx (aH "gone" (.ref G) (aH "ever" (.ref E) (aH "net" (.ref n) [])))):: (E,.dK (bO EL)):: (G,.dK (dJ (λ_=>0) ls)):: lQ EL) H7:=T7.sub (.cons₂ _ (.cons₂ _ (.cons₂ _ (.cons _ (List.Sublist.refl _))))) ⟨_,.head _⟩;clear T6;refine λKp nKp=>?_;have T8:Tr H f ((f,.ins t.cC dx (aH "gone" (.ref G) (aH "ever" (.ref E) (aH "net" (.ref n) [])))):: (E,.dK (bO EL)):: (G,.dK (dJ (λ_=>0) ls)):: (Kp,.dK []):: lQ EL) (upd H7 Kp (.dK [])):=(T7.new nKp).perm (.cons _ (.cons _ (.cons _ (List.perm_append_singleton _ _))));generalize upd H7 Kp (.dK [])=H8 at T8 ⊢;refine⟨_,Y,f,_,dx,_,Y,T8.all (f,_) (.head _),T.aR.c,T.aR.na.2.2.2.1,lt_of_le_of_lt (ju (ju (ju (zero_le 0)))) (by decide),?_⟩;have T9:=T8.put (L1:=[]) (o':=.ins t.cC dx (aH "kept" (.ref Kp) (aH "gone" (.ref G) (aH "ever" (.ref E) (aH "net" (.ref n) [])))));generalize upd H8 f (.ins t.cC dx (aH "kept" (.ref Kp) (aH "gone" (.ref G) (aH "ever" (.ref E) (aH "net" (.ref n) [])))))=H9 at T9 ⊢;refine λD nD=>?_;have TA:Tr H f ((f,.ins t.cC dx (aH "kept" (.ref Kp) (aH "gone" (.ref G) (aH "ever" (.ref E) (aH "net" (.ref n) []))))):: (E,.dK (bO EL)):: (G,.dK (dJ (λ_=>0) ls)):: (Kp,.dK []):: (D,.dK []):: lQ EL) (upd H9 D (.dK [])):=(T9.new nD).perm (.cons _ (.cons _ (.cons _ (.cons _ (List.perm_append_singleton _ _)))));generalize upd H9 D (.dK [])=HA at TA ⊢;refine⟨_,Y,f,_,dx,_,Y,TA.all (f,_) (.head _),T.aR.c,T.aR.na.2.2.2.2.1,lt_of_le_of_lt (ju (ju (ju (ju (zero_le 0))))) (by decide),?_⟩;have TB:=TA.put (L1:=[]) (o':=.ins t.cC dx (aH "done" (.ref D) (aH "kept" (.ref Kp) (aH "gone" (.ref G) (aH "ever" (.ref E) (aH "net" (.ref n) []))))));generalize upd HA f (.ins t.cC dx (aH "done" (.ref D) (aH "kept" (.ref Kp) (aH "gone" (.ref G) (aH "ever" (.ref E) (aH "net" (.ref n) []))))))=HB at TB ⊢;have WB:=W.same (sk TB.but);refine⟨_,Y,n,dxn,fsn,Y,WB.obj,WB.fl.no _ (by decide +kernel),n,ls,ps,Y,WB.s,λm nm=>?_⟩;have TC:Tr H f ((f,.ins t.cC dx (aH "done" (.ref D) (aH "kept" (.ref Kp) (aH "gone" (.ref G) (aH "ever" (.ref E) (aH "net" (.ref n) [])))))):: (E,.dK (bO EL)):: (G,.dK (dJ (λ_=>0) ls)):: (Kp,.dK (cD (fL ps) [])):: (D,.dK (cD (λ_=>0) [])):: (m,.lst (ps.map λx:PD=>V.str x.name)):: lQ EL) (upd HB m (.lst (ps.map λx:PD=>V.str x.name))):=(TB.new nm).perm (.cons _ (.cons _ (.cons _ (.cons _ (.cons _ (List.perm_append_singleton _ _))))));generalize upd HB m (.lst (ps.map λx:PD=>V.str x.name))=HC at TC ⊢;clear T7 T8 T9 TA TB WB;refine⟨m,rfl,⟨_,bJ.of (TC.all (m,.lst (ps.map λx:PD=>V.str x.name)) (by simp))⟩,du (K:=K) (a:=m) (xs:=ps.map λx:PD=>V.str x.name) (λj σ H'=>(∃v4,σ=[some (.ref f),some (.ref n),some (.ref rw),v3,v4,none])/\Tr H f ((f,.ins t.cC dx (aH "done" (.ref D) (aH "kept" (.ref Kp) (aH "gone" (.ref G) (aH "ever" (.ref E) (aH "net" (.ref n) [])))))):: (E,.dK (bO EL)):: (G,.dK (dJ (λ_=>0) ls)):: (Kp,.dK (cD (fL ps) (ps.take j))):: (D,.dK (cD (λ_=>0) (ps.take j))):: (m,.lst (ps.map λx:PD=>V.str x.name)):: lQ EL) H') ⟨⟨none,rfl⟩,TC⟩ (λj σ H' _ ⟨_,T'⟩=>bJ.of (T'.all (m,.lst (ps.map λx:PD=>V.str x.name)) (by simp))) ?_ ?_⟩
  ·rintro j x σ H' hx ⟨⟨v4,rfl⟩,T7⟩;rw [getElem?_map] at hx;obtain⟨p,hpj,rfl⟩:=map_eq_some_iff.mp hx;have hm:=mem_of_getElem? hpj;have hj:=(List.getElem?_eq_some_iff.mp hpj).1;have nin:=oG W.fit.pnd hpj;have vK:∀k0:Str->Int,cj (cD k0 (ps.take j)) (Sum.inr p.name)=none:=λk0=>jw (by rw [GX];intro z;obtain⟨b,hb,e⟩:=mem_map.mp z;cases e;exact nin hb);have tk:ps.take (j+1)=ps.take j ++ [p]:=by rw [take_succ,hpj];rfl
   have so:fL ps p.name=Bb p:=by unfold fL Bb;rw [find_name W.fit.pnd hm];rfl
   have W7:=W.same (sk T7.but);refine⟨_,Y,n,dxn,fsn,Y,W7.obj,W7.fl.no _ (by decide +kernel),_,Y,n,ls,ps,p.name,Y,W7.s,.inl ⟨p,hm,Y,λH8 q s8 P8=>?_⟩⟩;have T8:=T7.same s8;obtain⟨dxp,tn,ti,to,p1,p2,p3,p4⟩:=id P8.ex;refine⟨q,cls t p.kind,dxp,_,wN K t p.kind,Y,p1,mJ _ _ _ _ (by decide +kernel) (by decide +kernel) (by decide +kernel) (by decide +kernel),Uz T p.kind,q,_,_,_,_,Y,P8,by rw [lM];exact(W.fit.pok p hm).2.1,?_⟩;rw [Rj p (W.fit.pok p hm),<-so];refine⟨_,rfl,f,_,dx,_,_,rfl,T8.all (f,_) (.head _),T.aR.c,T.aR.na.2.2.2.1,(by (repeat first | (rw [aC,if_pos rfl];done) | rw [aC,if_neg (by decide +kernel)])),_,rfl,Kp,_,rfl,pC.k (k:=Sum.inr p.name) (T8.all (Kp,.dK (cD (fL ps) (ps.take j))) (by simp)) (by unfold cD;rw [lM,length_take];omega),?_⟩;have e8:∀k0:Str->Int,putK (cD k0 (ps.take j)) (Sum.inr p.name) (.int (k0 p.name))=cD k0 (ps.take (j+1)):=λk0=>by rw [j7 _ (vK k0),tk];unfold cD;rw [map_append];rfl
   rw [e8];have T9:=T8.put (L1:=[_,_,_]) (o':=.dK (cD (fL ps) (ps.take (j+1))));generalize upd H8 Kp (.dK (cD (fL ps) (ps.take (j+1))))=H9 at T9 ⊢;refine⟨_,rfl,f,_,dx,_,_,rfl,T9.all (f,_) (.head _),T.aR.c,T.aR.na.2.2.2.2.1,(by (repeat first | (rw [aC,if_pos rfl];done) | rw [aC,if_neg (by decide +kernel)])),_,rfl,D,_,rfl,pC.k (k:=Sum.inr p.name) (T9.all (D,.dK (cD (λ_=>0) (ps.take j))) (by simp)) (by unfold cD;rw [lM,length_take];omega),?_⟩;rw [e8 λ_=>0];exact⟨⟨_,Y⟩,T9.put (L1:=[_,_,_,_])⟩
  rintro σ HD ⟨⟨v4,rfl⟩,TD⟩;rw [lM,take_length] at TD;have TD:Tr H f ((f,.ins t.cC dx (aH "done" (.ref D) (aH "kept" (.ref Kp) (aH "gone" (.ref G) (aH "ever" (.ref E) (aH "net" (.ref n) [])))))):: (E,.dK (bO EL)):: (G,.dK (dJ (λ_=>0) ls)):: (Kp,.dK (cD (fL ps) ps)):: (D,.dK (cD (λ_=>0) ps)):: lQ EL) HD:=TD.sub (.cons₂ _ (.cons₂ _ (.cons₂ _ (.cons₂ _ (.cons₂ _ (.cons _ (List.Sublist.refl _))))))) ⟨_,.head _⟩;clear TC;refine λRw nRw=>?_;have TE:Tr H f ((f,.ins t.cC dx (aH "done" (.ref D) (aH "kept" (.ref Kp) (aH "gone" (.ref G) (aH "ever" (.ref E) (aH "net" (.ref n) [])))))):: (E,.dK (bO EL)):: (G,.dK (dJ (λ_=>0) ls)):: (Kp,.dK (cD (fL ps) ps)):: (D,.dK (cD (λ_=>0) ps)):: (Rw,.dK []):: lQ EL) (upd HD Rw (.dK [])):=(TD.new nRw).perm (.cons _ (.cons _ (.cons _ (.cons _ (.cons _ (List.perm_append_singleton _ _))))));generalize upd HD Rw (.dK [])=HE at TE ⊢;refine⟨_,Y,f,_,dx,_,Y,TE.all (f,_) (.head _),T.aR.c,T.aR.na.2.2.2.2.2.1,lt_of_le_of_lt (ju (ju (ju (ju (ju (zero_le 0)))))) (by decide),?_⟩;have TF:=TE.put (L1:=[]) (o':=.ins t.cC dx (aH "rows" (.ref Rw) (aH "done" (.ref D) (aH "kept" (.ref Kp) (aH "gone" (.ref G) (aH "ever" (.ref E) (aH "net" (.ref n) [])))))));generalize upd HE f (.ins t.cC dx (aH "rows" (.ref Rw) (aH "done" (.ref D) (aH "kept" (.ref Kp) (aH "gone" (.ref G) (aH "ever" (.ref E) (aH "net" (.ref n) [])))))))=HF at TF ⊢;have WF:=W.same (sk TF.but);refine⟨_,Y,n,dxn,fsn,Y,WF.obj,WF.fl.no _ (by decide +kernel),n,ls,ps,Y,WF.s,λd nd=>?_⟩;have TG:Tr H f ((f,.ins t.cC dx (aH "rows" (.ref Rw) (aH "done" (.ref D) (aH "kept" (.ref Kp) (aH "gone" (.ref G) (aH "ever" (.ref E) (aH "net" (.ref n) []))))))):: (E,.dK (bO EL)):: (G,.dK (dJ (λ_=>0) ls)):: (Kp,.dK (cD (fL ps) ps)):: (D,.dK (cD (λ_=>0) ps)):: (Rw,.dK []):: (d,.lst (cZ ps "give")):: lQ EL) (upd HF d (.lst (cZ ps "give"))):=(TF.new nd).perm (.cons _ (.cons _ (.cons _ (.cons _ (.cons _ (.cons _ (List.perm_append_singleton _ _)))))));generalize upd HF d (.lst (cZ ps "give"))=HG at TG ⊢;clear TD TE TF WF;have lgv:=zZ ps "give";have ndg:((ps.filter λp=>decide (fD p.kind= "give")).map (·.name)).Nodup:=W.fit.pnd.sublist ((filter_sublist).map _);rw [Ov W.fit.pok] at ndg;have ePg:cZ ps "give" =(gB ps).map λp=>V.str p.name:=by unfold cZ;rw [Ov W.fit.pok]
  rw [ePg] at TG;have lgP:(gB ps).length<=16:=by have:=length_filter_le (λp:PD=>decide (p.kind=0)) ps;unfold gB;omega
  have TG:Tr H f ((f,.ins t.cC dx (aH "rows" (.ref Rw) (aH "done" (.ref D) (aH "kept" (.ref Kp) (aH "gone" (.ref G) (aH "ever" (.ref E) (aH "net" (.ref n) []))))))):: (E,.dK (bO EL)):: (G,.dK (dJ (λ_=>0) ls)):: (Kp,.dK (cD (fL ps) ps)):: (D,.dK (cD (λ_=>0) ps)):: (Rw,.dK []):: (d,.lst ((gB ps).map λp=>V.str p.name)):: (lQ EL ++ Mp RW [])) HG:=by unfold Mp;rw [map_nil,append_nil];exact TG
  refine⟨d,rfl,⟨_,bJ.of (TG.all (d,.lst ((gB ps).map λp=>V.str p.name)) (by simp))⟩,du (K:=K) (a:=d) (xs:=(gB ps).map λp=>V.str p.name) (λj σ H'=>(∃v5,σ=[some (.ref f),some (.ref n),some (.ref rw),v3,v4,v5])/\∃RL:List (PD×Addr),RL.map (·.1)=(gB ps).take j/\Tr H f ((f,.ins t.cC dx (aH "rows" (.ref Rw) (aH "done" (.ref D) (aH "kept" (.ref Kp) (aH "gone" (.ref G) (aH "ever" (.ref E) (aH "net" (.ref n) []))))))):: (E,.dK (bO EL)):: (G,.dK (dJ (λ_=>0) ls)):: (Kp,.dK (cD (fL ps) ps)):: (D,.dK (cD (λ_=>0) ps)):: (Rw,.dK (RL.map λq=>((Sum.inr q.1.name:Key),V.ref q.2))):: (d,.lst ((gB ps).map λp=>V.str p.name)):: (lQ EL ++ Mp RW RL)) H') ⟨⟨none,rfl⟩,[],rfl,TG⟩ (λj σ H' _ ⟨_,_,_,T7⟩=>bJ.of (T7.all (d,.lst ((gB ps).map λp=>V.str p.name)) (by simp))) ?_ ?_⟩
  ·rintro j x σ H' hx ⟨⟨v5,rfl⟩,RL,eRL,T7⟩;rw [getElem?_map] at hx;obtain⟨p,hpj,rfl⟩:=map_eq_some_iff.mp hx;have nin:=oG ndg hpj;have tk:(gB ps).take (j+1)=(gB ps).take j ++ [p]:=by rw [take_succ,hpj];rfl
   have vR:cj (RL.map λq=>((Sum.inr q.1.name:Key),V.ref q.2)) (Sum.inr p.name)=none:=jw (by rw [map_map];intro z;obtain⟨q,hq,e⟩:=mem_map.mp z;have hm:q.1∈RL.map (·.1):=mem_map.mpr ⟨q,hq,rfl⟩;rw [eRL] at hm;exact nin (mem_map.mpr ⟨q.1,hm,by injection e⟩))
   have lRL:RL.length<=16:=by have:=congrArg List.length eRL;rw [lM,length_take] at this;omega
   have rw7:=hrw.same (sk T7.but);refine⟨_,rfl,rw,rfl,.inl ⟨_,.inl rw7.dict⟩,_,rfl,jB,λu nu=>?_⟩;have tu:=aB (o:=.lst []) nu;have xu:upd H' u (.lst []) u=some (.lst []):=ao;generalize upd H' u (.lst [])=H8 at tu xu ⊢;have rw8:=rw7.same tu;refine⟨_,eE.k (k:=Sum.inr p.name) rw8.dict,?_⟩;obtain⟨y,ey,hy⟩:∃y:Addr,(cj (f9 RW) (Sum.inr p.name)).getD (V.ref u)=.ref y/\H8 y=some (.lst ((iR RW p.name).map V.int)):=by
    rcases rw8.get p.name with ⟨e1,e2⟩ | ⟨a,e1,e2,_⟩
    ·rw [e1,e2];exact⟨u,Y,xu⟩
    ·rw [e1];exact⟨a,Y,e2⟩
   refine⟨y,(iR RW p.name).map V.int,by rw [ey],.inl (bJ.of hy),λr nr=>?_⟩;have T9:Tr H f ((f,.ins t.cC dx (aH "rows" (.ref Rw) (aH "done" (.ref D) (aH "kept" (.ref Kp) (aH "gone" (.ref G) (aH "ever" (.ref E) (aH "net" (.ref n) []))))))):: (E,.dK (bO EL)):: (G,.dK (dJ (λ_=>0) ls)):: (Kp,.dK (cD (fL ps) ps)):: (D,.dK (cD (λ_=>0) ps)):: (Rw,.dK (RL.map λq=>((Sum.inr q.1.name:Key),V.ref q.2))):: (d,.lst ((gB ps).map λp=>V.str p.name)):: (lQ EL ++ Mp RW (RL ++ [(p,r)]))) (upd H8 r (.lst ((iR RW p.name).map V.int))):=by unfold Mp;rw [map_append,<-append_assoc];exact(T7.same tu).new nr
   generalize upd H8 r (.lst ((iR RW p.name).map V.int))=H9 at T9 ⊢;refine⟨_,rfl,f,_,dx,_,_,rfl,T9.all (f,_) (.head _),T.aR.c,T.aR.na.2.2.2.2.2.1,(by (repeat first | (rw [aC,if_pos rfl];done) | rw [aC,if_neg (by decide +kernel)])),_,rfl,Rw,_,rfl,pC.k (k:=Sum.inr p.name) (T9.all (Rw,.dK (RL.map λq=>((Sum.inr q.1.name:Key),V.ref q.2))) (by simp)) (by rw [lM];omega),?_⟩;rw [j7 _ vR];refine⟨⟨_,rfl⟩,RL ++ [(p,r)],by rw [map_append,eRL,tk];rfl,?_⟩;rw [map_append];exact T9.put (L1:=[_,_,_,_,_])
  rintro σ HH ⟨⟨v5,rfl⟩,RL,eRL,TH⟩;rw [lM,take_length] at eRL;have eo:=TH.all (f,.ins t.cC dx (aH "rows" (.ref Rw) (aH "done" (.ref D) (aH "kept" (.ref Kp) (aH "gone" (.ref G) (aH "ever" (.ref E) (aH "net" (.ref n) []))))))) (.head _);have nod:=TH.nod;have fre:=TH.fre;have nE:(EL.map λq=>q.1.name).Nodup:=by
   have:(EL.map (·.1)).map (·.name)=EL.map λq=>q.1.name:=by rw [map_map];rfl
   rw [<-this,eEL];exact W.fit.whole.nod
  have nR:(RL.map λq=>q.1.name).Nodup:=by
   have:(RL.map (·.1)).map (·.name)=RL.map λq=>q.1.name:=by rw [map_map];rfl
   rw [<-this,eRL];exact ndg
  let A:jC:=⟨f,n,E,G,Kp,D,Rw,vH (·.name) EL,vH (·.name) RL⟩
  have mE:ls.map (λl=>A.ea l.name)=EL.map (·.2):=by rw [<-eEL];exact Jp nE
  have mR:(gB ps).map (λp=>A.ra p.name)=RL.map (·.2):=by rw [<-eRL];exact Jp nR
  have eC:A.cells ls ps=E:: G:: Kp:: D:: Rw:: (EL.map (·.2) ++ RL.map (·.2)):=by unfold jC.cells;rw [mE,mR]
  have e2:(lQ EL ++ Mp RW RL).map Prod.fst=EL.map (·.2) ++ RL.map (·.2):=by unfold lQ Mp;rw [map_append,map_map,map_map];rfl
  refine k HH A Y Y TH.but ⟨⟨dx,_,eo,⟨?_,?_⟩⟩,?_,λl hl=>?_,TH.all (G,.dK (dJ (λ_=>0) ls)) (by simp),TH.all (Kp,.dK (cD (fL ps) ps)) (by simp),TH.all (D,.dK (cD (λ_=>0) ps)) (by simp),?_,λp hp h0=>?_,?_⟩ ?_
  ·intro q hq;simp only [mem_cons,not_mem_nil,or_false] at hq;rcases hq with rfl | rfl | rfl | rfl | rfl | rfl <;> (dsimp only;(repeat first | (rw [aC,if_pos rfl];done) | rw [aC,if_neg (by decide +kernel)]))
  ·intro m hm;have hne:∀m∈(["holds", "held_now", "gone_by", "row_left", "head", "heads", "lacking", "row_ended", "deed", "do"]:List Str),∀g∈(["rows", "done", "kept", "gone", "ever", "net"]:List Str),¬m=g:=by decide +kernel
   have h:=hne m hm;rw [aC,if_neg (h _ (by simp)),aC,if_neg (h _ (by simp)),aC,if_neg (h _ (by simp)),aC,if_neg (h _ (by simp)),aC,if_neg (h _ (by simp)),aC,if_neg (h _ (by simp))];rfl
  ·have:V8 A.ea ls=bO EL:=by unfold V8 bO;rw [<-eEL,map_map];refine map_congr_left λq hq=>?_;show((Sum.inr q.1.name:Key),V.ref (A.ea q.1.name))=_;rw [show A.ea q.1.name=q.2 from nH nE hq]
   rw [this];exact TH.all (E,.dK (bO EL)) (by simp)
  ·rw [<-eEL] at hl;obtain⟨q,hq,rfl⟩:=mem_map.mp hl;rw [show A.ea q.1.name=q.2 from nH nE hq];have hm:q.1∈ls:=by rw [<-eEL];exact mem_map.mpr ⟨q,hq,rfl⟩
   show HH q.2=some (.lst ((MP ls q.1.name).map V.int));rw [xg W.fit.whole.nod hm];exact TH.all (q.2,.lst (q.1.first.map V.int)) (Iv (mem_append.mpr (.inl (mem_map.mpr ⟨q,hq,Y⟩))))
  ·have:Br A.ra ps=RL.map λq=>((Sum.inr q.1.name:Key),V.ref q.2):=by unfold Br;rw [<-eRL,map_map];refine map_congr_left λq hq=>?_;show((Sum.inr q.1.name:Key),V.ref (A.ra q.1.name))=_;rw [show A.ra q.1.name=q.2 from nH nR hq]
   rw [this];exact TH.all (Rw,.dK (RL.map λq=>((Sum.inr q.1.name:Key),V.ref q.2))) (by simp)
  ·have hm:p∈RL.map (·.1):=by rw [eRL];exact mem_filter.mpr ⟨hp,by simp [h0]⟩
   obtain⟨q,hq,rfl⟩:=mem_map.mp hm;rw [show A.ra q.1.name=q.2 from nH nR hq];exact TH.all (q.2,.lst ((iR RW q.1.name).map V.int)) (Iv (mem_append.mpr (.inr (mem_map.mpr ⟨q,hq,Y⟩))))
  ·rw [eC,<-e2];exact nod.sublist (List.Sublist.cons _ (.cons₂ _ (.cons₂ _ (.cons₂ _ (.cons₂ _ (.cons₂ _ (.cons _ (List.Sublist.refl _))))))))
  ·intro a ha;rw [eC,<-e2] at ha;have h2:a∈(((E,.dK (bO EL)):: (G,.dK (dJ (λ_=>0) ls)):: (Kp,.dK (cD (fL ps) ps)):: (D,.dK (cD (λ_=>0) ps)):: (Rw,.dK (RL.map λq=>((Sum.inr q.1.name:Key),V.ref q.2))):: (d,.lst ((gB ps).map λp=>V.str p.name)):: (lQ EL ++ Mp RW RL):List (Addr×HO))).map Prod.fst:=
    (List.Sublist.cons₂ E (.cons₂ G (.cons₂ Kp (.cons₂ D (.cons₂ Rw (.cons d (List.Sublist.refl _))))))).subset ha
   have hne:a≠f:=λz=>by rw [map_cons,nodup_cons] at nod;exact nod.1 (by rw [<-z];exact h2)
   obtain⟨q,hq,hqa⟩:=mem_map.mp h2;have:=fre q (mem_cons_of_mem _ hq);rw [hqa] at this;exact this.resolve_left hne
theorem RJ {α:Type} {p:α->Bool} {xs:List α} {j:Nat} {x:α} (h:(xs.take j).find? p=none) (hx:xs[j]?=some x):if p x=true then xs.find? p=some x else(xs.take (j+1)).find? p=none:=by
 split
 ·rename_i e;have hj:=(List.getElem?_eq_some_iff.mp hx);have e2:xs=xs.take j ++ x:: xs.drop (j+1):=by rw [<-hj.2,<-drop_eq_getElem_cons hj.1,take_append_drop]
  rw [e2,find?_append,h,find?_cons_of_pos e];rfl
 ·rename_i e;rw [take_succ,hx,toList_some,find?_append,h,find?_cons_of_neg e];rfl
noncomputable def roomF (ls:List aD) (x:Str):Int:=((ls.find? λl=>decide (l.name=x)).map (·.room)).getD 0
theorem Nt {ls:List aD} (nd:(ls.map (·.name)).Nodup) {l:aD} (hl:l∈ls):roomF ls l.name=l.room:=by unfold roomF;rw [find_name nd hl];rfl
noncomputable def j6 (ls:List aD) (S:FS) (q:Str×Int):Bool:=decide (roomF ls q.1<=((S.ev q.1).length:Int) - (S.g q.1:Int))
noncomputable def yo (ls:List aD) (S:FS) (dd:ji):V:=match dd.gv.find? (j6 ls S) with
 | some q=>.str q.1
 | none=>.non
inductive sY (K:Fr) (t:jq) (vs:List V) (H:Hp) (Q:VK) (E:XK):Prop where
 | mk:∀(r:Addr) (n:Nat) (A:jC) (ls:List aD) (ps:List PD) (S:FS) (M:List Addr) (U:Addr) (dd:ji),vs=[.ref r,.ref U]->nY t H r A.n A.f n->eG K t H A.n ls ps->dU K t H A ls ps S->ph M H U dd->((∀q∈dd.gv,q.1∈ls.map (·.name)))->(∀H',aJ H H'->Q (yo ls S dd) H')->sY K t vs H Q E
theorem tE (T:Txt w K mg t):FO P w K mg base 4 t.oR ["self", "deed"] (sY K t):=by
 have sc:=T.kh.sc ["self", "deed", "lane", "value"];refine T.kh.F.ok sc ln (λ_ _ _ _ H vs Q E hr h=>?_);obtain⟨r,n,A,ls,ps,S,M,U,dd,rfl,hR,N,W,⟨La,Lg,rs,hU,_,hLg,hT,_,_⟩,hout,k⟩:=h;refine⟨_,(aq (dO PassesOwn.never Y (bR (bc cT (pv 1) au (λ_ _=>Y))) (G9 Y (jx (gN sc 2) (jx (gN sc 3) xF)))
   (aA (bU (bz Z1 (uo (aU (pv 0) rfl) T.aR T.aR.me.2.1 (yq T) T.pL hr (aa (pv 2) ak aj)) (uo (aU (pv 0) rfl) T.aW T.aW.me.2.2.2.2.2.2.2.1 (wX T) T.mY hr (aa (pv 2) ak aj)) (bN _))
    (aA (aM (pv 2)))
    bA)))
  (aA (aM vC))),?_⟩
 have hl:sizeLine=16777216:=sizeLine_eq;have hlr:rs.length=dd.gv.length:=by have:=Paired.length hT;rw [lM] at this;exact this
 refine⟨_,Y,U,_,1,_,Y,Y,fZ.of hU,aO (j:=1) Y,Lg,Y,⟨_,bJ.of hLg⟩,du (K:=K) (a:=Lg) (xs:=rs.map V.ref) (λj σ H'=>aJ H H'/\(∃v2 v3,σ=[some (.ref r),some (.ref U),v2,v3])/\(dd.gv.take j).find? (j6 ls S)=none) ⟨aJ.refl _,⟨_,_,Y⟩,Y⟩ (λj σ H' _ h=>bJ.of (h.1 _ _ hLg)) ?_ ?_⟩
 ·rintro j x σ H1 hx ⟨s1,⟨v2,v3,rfl⟩,hf⟩;rw [getElem?_map] at hx;obtain⟨u,hu,rfl⟩:=map_eq_some_iff.mp hx;obtain⟨vs2,z1,z2⟩:=j5 hT hu;rw [getElem?_map] at z1;obtain⟨w,ew,rfl⟩:=map_eq_some_iff.mp z1;have ft:=RJ hf ew;obtain⟨dxn,fsn,R,F0,Pd,Gn,Tk,FL,PL,Wn⟩:=N.same s1;have F:=Wn.fit;obtain⟨dxr,fsr,R1⟩:=hR.same s1;have W1:=W.same s1;obtain⟨dx,fs,h1,h2⟩:=id W1.at'.ex;obtain⟨l,hl',hln⟩:=mem_map.mp (hout w (mem_of_getElem? ew));have va:=zM (ea:=A.ea) F.whole.nod hl';have vg:=tQ (g:=S.g) F.whole.nod hl';have fb:j6 ls S w=decide (l.room<=((S.ev l.name).length:Int) - (S.g l.name:Int)):=by unfold j6;rw [<-hln,Nt F.whole.nod hl']
  rw [hln] at va vg;refine⟨u,_,Y,fZ.of (s1 _ _ z2),Y,_,_,Y,_,_,Y,Y,?_⟩;refine⟨_,Y,r,_,dxr,fsr,_,Y,R1.1.1,T.bD.c,T.bD.na.2.1,R1.2.has ("flow",.ref A.f) (by simp),A.f,dx,fs,Y,h1,h2.no _ (by decide +kernel),_,Y,A.f,A.n,A.E,A.G,A.Kp,A.D,A.Rw,A.ea w.1,_,_,w.1,_,S.g w.1,Y,W1.at',W1.ever,W1.gone,va,vg,bJ.of (by rw [<-hln];exact W1.lists l hl'),?_⟩;refine⟨_,Y,r,_,dxr,fsr,_,Y,R1.1.1,T.bD.c,T.bD.na.1,R1.2.has ("net",.ref A.n) (by simp),A.n,dxn,fsn,Y,Wn.obj,Wn.fl.no _ (by decide +kernel),_,Y,A.n,ls,ps,w.1,Y,Wn.s,.inl ⟨l,hl',hln,λH2 s2=>?_⟩⟩;refine⟨_,_,Y,Y,_,Y,?_⟩;have e2:decide (l.room<=((((S.ev l.name).map V.int).length:Nat):Int) - ((S.g w.1:Nat):Int))=j6 ls S w:=by rw [fb,lM,hln]
  rw [e2];cases hb:j6 ls S w with
  | true=>
   rw [if_pos hb] at ft;refine iy ⟨_,Y,?_⟩;have k':=k H2 (s1.trans s2);unfold yo at k';rw [ft] at k';exact k'
  | false=>
   rw [if_neg (by simp [hb])] at ft;exact dz ⟨s1.trans s2,⟨_,_,Y⟩,ft⟩
 rintro σ H1 ⟨s1,⟨v2,v3,rfl⟩,hf⟩;rw [lM,hlr,take_length] at hf;have k':=k H1 s1;unfold yo at k';rw [hf] at k';exact k'
theorem Qq {H:Hp} {Q:VK} {Ex:XK} {b:Nat} {A:jC} {ls:List aD} {ps:List PD} {S:FS} {p:PD} (N:eG K t H A.n ls ps) (W:dU K t H A ls ps S) (hp:p∈ps) (O:yF b ls ps S) (kn:fC S p=none->∀H',aJ H H'->Q .non H')
  (k:∀dd,fC S p=some dd->∀H' U,aJ H H'->H U=none->ph (A.cells ls ps) H' U dd->Q (.ref U) H'):lz K t [.ref A.f,.str p.name] H Q Ex:=by
 unfold lz;exact⟨b,A,ls,ps,S,p,Y,N,W,hp,O,kn,k⟩
noncomputable def iJ (ls:List aD) (S:FS) (p:PD):Option ji:=match fC S p with
 | none=>none
 | some dd=>if yo ls S dd=.non then some dd else none
theorem jn {S:FS} {p:PD} {dd:ji} (h:fC S p=some dd):cz p.kind p.ins (aN S p)=.non/\qK S p=false/\dd=⟨(places p.kind (aN S p)).map (strAt p.ins),(cQ p.kind p.nums (vB S p) (S.k p.name)).map λpv=>(strAt p.outs pv.1.toNat,pv.2),fW p.kind (vB S p) (S.k p.name)⟩:=by
 unfold fC at h;split at h
 ·cases h
 ·rename_i h1;split at h
  ·cases h
  ·rename_i h2;exact⟨Classical.not_not.mp h1,by simpa using h2,(Option.some.inj h).symm⟩
theorem xq {xs:List Str} {q:Nat} (h:q <xs.length):strAt xs q∈xs:=by unfold strAt;rw [getElem?_eq_getElem h];exact getElem_mem h
theorem Gz {xs:List Str} {q:Nat} (h:q <xs.length):strAt xs q=xs[q]:=by unfold strAt;rw [getElem?_eq_getElem h];rfl
theorem Rf {i:Nat} {hs:List V}:(places i hs).Nodup:=by
 unfold places;split
 ·split
  ·rename_i n _;have h0:=emod_nonneg n (show(2:Int)≠0 by decide);simp;omega
  ·simp
 ·exact List.nodup_range
theorem Wx {xs:List Str} (nd:xs.Nodup) {l:List Nat} (hl:l.Nodup) (h:∀q∈l,q <xs.length):(l.map (strAt xs)).Nodup:=by unfold List.Nodup at hl ⊢;rw [List.pairwise_map];refine hl.imp_of_mem λ{a b} ha hb hne e=>hne ?_;rw [Gz (h a ha),Gz (h b hb)] at e;exact(getElem_inj nd).mp e
theorem JV {f:PD->List Str}:∀{ps:List PD},(ps.flatMap f).Nodup->∀{p:PD},p∈ps->(f p).Nodup
 | q:: r,nd,p,hp=>by
  rw [flatMap_cons,nodup_append] at nd;rcases mem_cons.mp hp with h | h
  ·rw [h];exact nd.1
  ·exact JV nd.2.1 h
theorem xr {ls:List aD} {ps:List PD} {S:FS} (F:lN ls ps) {p:PD} (hp:p∈ps) {dd:ji} (h:fC S p=some dd):Ke ls dd:=by
 obtain⟨hl,he,rfl⟩:=jn h;have ok:=F.pok p hp;have hO:=wj S p ok;have hlt:∀q∈places p.kind (aN S p),q <p.ins.length:=λq hq=>by have:=lY hO q hq;unfold aN at this;rwa [lM] at this
 have inL:∀x∈p.ins ++ p.outs,x∈ls.map (·.name):=λx hx=>by obtain⟨l,hl,rfl⟩:=F.inL hp hx;exact mem_map.mpr ⟨l,hl,Y⟩
 refine⟨?_,λx hx=>?_,λq hq=>?_,?_⟩
 ·exact Wx (JV (F.whole.ins.nodup_iff.mpr F.whole.nod) hp) Rf hlt
 ·obtain⟨q,hq,rfl⟩:=mem_map.mp hx;exact inL _ (mem_append.mpr (.inl (xq (hlt q hq))))
 ·obtain⟨pv,hpv,rfl⟩:=mem_map.mp hq;obtain⟨o,ho1,ho2⟩:=Eb (show p.kind<=10 by have:=ok.1;omega) _ _ _ _ hpv;refine inL _ (mem_append.mpr (.inr (xq ?_)));rw [ho1,toNat_natCast,ok.2.2.2.1];exact ho2
 ·show(List.map _ _).length<=2;rw [lM];exact Ms ..
inductive rD (K:Fr) (t:jq) (vs:List V) (H:Hp) (Q:VK):Prop where
 | mk:∀(b:Nat) (r:Addr) (n:Nat) (A:jC) (ls:List aD) (ps:List PD) (S:FS) (p:PD),vs=[.ref r,.str p.name]->nY t H r A.n A.f n->eG K t H A.n ls ps->dU K t H A ls ps S->yF b ls ps S->p∈ps->((iJ ls S p=none->∀H',aJ H H'->Q .non H'))->(∀dd,iJ ls S p=some dd->∀H' U,aJ H H'->H U=none->ph (A.cells ls ps) H' U dd->Q (.ref U) H')->rD K t vs H Q
@[irreducible] noncomputable def iB (K:Fr) (t:jq):Sp:=λvs H Q _=>rD K t vs H Q
theorem Bp (T:Txt w K mg t):FO P w K mg base 6 t.oU ["self", "name"] (iB K t):=by
 have sc:=T.oY.sc ["self", "name", "deed"];refine T.oY.F.ok sc (λvs H Q E h=>?_) (λcdv A outer s H vs Q E hr h=>?_)
 ·unfold iB at h;obtain⟨b,r,n,A,ls,ps,S,p,rfl,_⟩:=h;rfl
 ·unfold iB at h;obtain⟨b,r,n,A,ls,ps,S,p,rfl,hR,N,W,O,hp,kn,k⟩:=h;refine⟨_,(aq (sN sc 2 (uo (aU (pv 0) Y) T.aR T.aR.me.2.2.2.2.2.2.2.1 (zJ T) T.qT hr (aa (pv 1) ak aj)))
   (aA (aM (qj (PW.pt (Ar (jo (Ca (pv 2))) (uv (jo (z8 (uo (pv 0) T.bD T.bD.me.2.1 (tE T) T.kh hr (aa (pv 2) ak aj))))))) vC (pv 2))))),?_⟩
  obtain⟨dxr,fsr,R0⟩:=id hR;obtain⟨dx,fs,h1,h2⟩:=id W.at'.ex;have F:lN ls ps:=by obtain⟨_,_,_,_,_,_,_,_,_,Wn⟩:=N;exact Wn.fit
  refine⟨_,Y,r,_,dxr,fsr,_,Y,R0.1.1,T.bD.c,T.bD.na.2.1,R0.2.has ("flow",.ref A.f) (by simp),A.f,dx,fs,Y,h1,h2.no _ (by decide +kernel),_,Y,?_⟩;refine Qq N W hp O (λhd H1 s1=>?_) (λdd hd H1 U s1 nU DA=>?_)
  ·exact⟨_,Y,_,Y,iy (iy (kn (by unfold iJ;rw [hd]) _ s1))⟩
  ·obtain⟨dxr,fsr,R1⟩:=hR.same s1;have nx:iJ ls S p=if yo ls S dd=.non then some dd else none:=by unfold iJ;rw [hd]
   refine⟨_,Y,_,Y,dz ?_⟩;refine⟨_,Y,r,dxr,fsr,Y,R1.1.1,R1.2.no _ (by decide +kernel),_,Y,r,n,A,ls,ps,S,_,U,dd,Y,⟨dxr,fsr,R1⟩,N.same s1,W.same s1,DA,(xr F hp hd).gin,λH2 s2=>?_⟩;by_cases hf:yo ls S dd=.non
   ·rw [hf];exact⟨_,Y,dz ⟨_,Y,k dd (by rw [nx,if_pos hf]) H2 U (s1.trans s2) nU (DA.same s2)⟩⟩
   ·rw [decide_eq_false hf];exact⟨_,Y,iy (kn (by rw [nx,if_neg hf]) H2 (s1.trans s2))⟩
theorem Xl {H:Hp} {Q:VK} {Ex:XK} {b:Nat} {r:Addr} {n:Nat} {A:jC} {ls:List aD} {ps:List PD} {S:FS} {p:PD} (hR:nY t H r A.n A.f n) (N:eG K t H A.n ls ps) (W:dU K t H A ls ps S) (O:yF b ls ps S) (hp:p∈ps) (kn:iJ ls S p=none->∀H',aJ H H'->Q .non H')
  (k:∀dd,iJ ls S p=some dd->∀H' U,aJ H H'->H U=none->ph (A.cells ls ps) H' U dd->Q (.ref U) H'):iB K t [.ref r,.str p.name] H Q Ex:=by
 unfold iB;exact⟨b,r,n,A,ls,ps,S,p,Y,hR,N,W,O,hp,kn,k⟩
inductive ue (K:Fr) (t:jq) (vs:List V) (H:Hp) (Q:VK) (E:XK):Prop where
 | mk:∀(r:Addr) (n:Nat) (A:jC) (ls:List aD) (ps:List PD) (S:FS) (p:PD),vs=[.ref r,.str p.name]->nY t H r A.n A.f n->eG K t H A.n ls ps->dU K t H A ls ps S->p∈ps->(∀H',aJ H H'->Q (.int (S.d p.name:Int)) H')->ue K t vs H Q E
theorem zy (T:Txt w K mg t):FO P w K mg base 3 t.vo ["self", "name"] (ue K t):=by
 have sc:=T.rP.sc ["self", "name"];refine T.rP.F.ok sc ln (λ_ _ _ _ H vs Q E hr h=>?_);obtain⟨r,n,A,ls,ps,S,p,rfl,hR,N,W,hp,k⟩:=h;refine⟨_,(aq (bI (uo (aU (pv 0) Y) T.aW T.aW.me.2.2.2.2.2.2.2.2.2.2.2.1 (jO T) T.gZ hr (aa (pv 1) ak aj)))
  (aA (aM (cJ hr.u1 (aU (aU (pv 0) rfl) rfl) (pv 1) (λ_ _=>rfl))))),?_⟩
 obtain⟨dxn,fsn,R,F0,Pd,Gn,Tk,FL,PL,Wn⟩:=id N;obtain⟨dxr,fsr,R0⟩:=id hR;refine⟨_,Y,r,_,dxr,fsr,_,Y,R0.1.1,T.bD.c,T.bD.na.1,R0.2.has ("net",.ref A.n) (by simp),A.n,dxn,fsn,Y,Wn.obj,Wn.fl.no _ (by decide +kernel),_,Y,A.n,ls,ps,p.name,Y,N,.inl ⟨p,hp,Y,λH1 q s1 _=>?_⟩⟩;obtain⟨dxr,fsr,R1⟩:=hR.same s1;have W1:=W.same s1;obtain⟨dx,fs,h1,h2⟩:=id W1.at'.ex;have vd:=lV (k:=λx=>(S.d x:Int)) Wn.fit.pnd hp;exact⟨_,Y,r,_,dxr,fsr,_,Y,R1.1.1,T.bD.c,T.bD.na.2.1,R1.2.has ("flow",.ref A.f) (by simp),A.f,_,dx,fs,_,Y,h1,T.aR.c,T.aR.na.2.2.2.2.1,h2.has ("done",.ref A.D) (by simp),_,Y,A.D,_,Y,(by rw [<-vd];exact eE.k (k:=Sum.inr p.name) W1.done),k _ s1⟩
inductive uL (K:Fr) (t:jq) (vs:List V) (H:Hp) (Q:VK) (E:XK):Prop where
 | mk:∀(r:Addr) (n:Nat) (A:jC) (ls:List aD) (ps:List PD) (S:FS) (l:aD),vs=[.ref r,.str l.name]->nY t H r A.n A.f n->eG K t H A.n ls ps->dU K t H A ls ps S->l∈ls->(∀H' p,aJ H H'->H p=none->H' p=some (.lst (((S.ev l.name).drop (S.g l.name)).map V.int))->Q (.ref p) H')->uL K t vs H Q E
theorem Dy (T:Txt w K mg t):FO P w K mg base 3 t.qg ["self", "name"] (uL K t):=by
 have sc:=T.qJ.sc ["self", "name"];refine T.qJ.F.ok sc ln (λ_ _ _ _ H vs Q E hr h=>?_);obtain⟨r,n,A,ls,ps,S,l,rfl,hR,N,W,hl,k⟩:=h;refine⟨_,(aq (bI (uo (aU (pv 0) Y) T.aW T.aW.me.2.2.2.2.2.2.1 (eU T) T.cM hr (aa (pv 1) ak aj)))
  (aA (aM (uo (aU (pv 0) rfl) T.aR T.aR.me.2.2.1 (Bj T) T.oK hr (aa (pv 1) ak aj))))),?_⟩
 obtain⟨dxn,fsn,R,F0,Pd,Gn,Tk,FL,PL,Wn⟩:=id N;obtain⟨dxr,fsr,R0⟩:=id hR;refine⟨_,Y,r,_,dxr,fsr,_,Y,R0.1.1,T.bD.c,T.bD.na.1,R0.2.has ("net",.ref A.n) (by simp),A.n,dxn,fsn,Y,Wn.obj,Wn.fl.no _ (by decide +kernel),_,Y,A.n,ls,ps,l.name,Y,N,.inl ⟨mem_map.mpr ⟨l,hl,Y⟩,λH1 s1=>?_⟩⟩;obtain⟨dxr,fsr,R1⟩:=hR.same s1;have W1:=W.same s1;obtain⟨dx,fs,h1,h2⟩:=id W1.at'.ex;refine⟨_,Y,r,_,dxr,fsr,_,Y,R1.1.1,T.bD.c,T.bD.na.2.1,R1.2.has ("flow",.ref A.f) (by simp),A.f,dx,fs,Y,h1,h2.no _ (by decide +kernel),_,Y,A.f,A.n,A.E,A.G,A.Kp,A.D,A.Rw,A.ea l.name,_,_,l.name,_,_,Y,W1.at',W1.ever,W1.gone,zM Wn.fit.whole.nod hl,tQ Wn.fit.whole.nod hl,bJ.of (W1.lists l hl),λp hp=>?_⟩;rw [<-map_drop];exact k _ p (s1.trans (aB hp)) (s1.free hp) ao
theorem U8 {x:V} {xs:List V} (h:x∈xs) (f:Nz x x=true):inV x xs=true:=any_eq_true.mpr ⟨x,h,f⟩
inductive qN (K:Fr) (t:jq) (vs:List V) (H:Hp) (Q:VK) (E:XK):Prop where
 | mk:∀(r:Addr) (n:Nat) (A:jC) (ls:List aD) (ps:List PD) (S:FS) (L:Addr) (xs:List Str),vs=[.ref r,.ref L]->nY t H r A.n A.f n->eG K t H A.n ls ps->dU K t H A ls ps S->bJ K H L (xs.map V.str)->((∀x∈xs,V.str x∈cZ ps "give" ++ cZ ps "take"))->(∀H',aJ H H'->Q .non H')->qN K t vs H Q E
theorem Ao (T:Txt w K mg t):FO P w K mg base 4 t.mD ["self", "names"] (qN K t):=by
 have sc:=T.mq.sc ["self", "names", "doors", "name"];refine T.mq.F.ok sc ln (λ_ _ _ _ H vs Q E hr h=>?_);obtain⟨r,n,A,ls,ps,S,L,xs,rfl,hR,N,W,hL,hx,k⟩:=h;refine⟨_,(aq (sN sc 2 (bu Gb (Ma (aU (pv 0) Y) T.aW T.aW.me.2.2.2.2.1 (pO T) T.kY hr) (Ma (aU (pv 0) Y) T.aW T.aW.me.2.2.2.2.2.1 (J6 T) T.u5 hr)))
  (aA (dO PassesOwn.never rfl (bR (pv 1)) (gN sc 3)
   (aA (bU (bz jU (pv 3) (pv 2) (by with_unfolding_all rfl))
    (aA eQ)
    bA))))),?_⟩
 have hz:sizeLine=16777216:=sizeLine_eq;obtain⟨dxn,fsn,R,F0,Pd,Gn,Tk,FL,PL,Wn⟩:=id N;have p16:=Wn.fit.p16;obtain⟨dxr,fsr,R0⟩:=id hR;have g1:=zZ ps "give";have g2:=zZ ps "take";refine⟨_,Y,r,_,dxr,fsr,_,Y,R0.1.1,T.bD.c,T.bD.na.1,R0.2.has ("net",.ref A.n) (by simp),A.n,dxn,fsn,Y,Wn.obj,Wn.fl.no _ (by decide +kernel),A.n,ls,ps,Y,N,λl nl=>?_⟩;have s1:=aB (o:=.lst (cZ ps "give")) nl;obtain⟨dxr,fsr,R1⟩:=hR.same s1;have Wn1:=Wn.same s1;refine⟨_,Y,r,_,dxr,fsr,_,Y,R1.1.1,T.bD.c,T.bD.na.1,R1.2.has ("net",.ref A.n) (by simp),A.n,dxn,fsn,Y,Wn1.obj,Wn1.fl.no _ (by decide +kernel),A.n,ls,ps,Y,Wn1.s,λl2 nl2=>?_⟩;have s2:=aB (o:=.lst (cZ ps "take")) nl2;have e1:=s2 _ _ (ao (H:=H) (a:=l) (o:=.lst (cZ ps "give")));refine⟨l,l2,_,_,Y,Y,e1,ao,by omega,λl3 nl3=>?_⟩;have s13:=s1.trans (s2.trans (aB (o:=.lst (cZ ps "give" ++ cZ ps "take")) nl3));have e3:upd (upd (upd H l (.lst (cZ ps "give"))) l2 (.lst (cZ ps "take"))) l3 (.lst (cZ ps "give" ++ cZ ps "take")) l3=some (.lst (cZ ps "give" ++ cZ ps "take")):=ao;generalize upd (upd (upd H l (.lst (cZ ps "give"))) l2 (.lst (cZ ps "take"))) l3 (.lst (cZ ps "give" ++ cZ ps "take"))=H3 at s13 e3 ⊢;have fl:(cZ ps "give" ++ cZ ps "take").all o9=true:=by rw [all_eq_true];intro v hv;rcases mem_append.mp hv with h | h <;> (obtain⟨p,_,rfl⟩:=mem_map.mp h;rfl)
 refine⟨_,Y,L,Y,⟨_,s13.seq hL⟩,du (K:=K) (a:=L) (xs:=xs.map V.str) (λj σ H'=>H'=H3/\∃v3,σ=[some (.ref r),some (.ref L),some (.ref l3),v3]) ⟨Y,none,Y⟩ (λj σ H' _ ⟨e,_⟩=>by rw [e];exact s13.seq hL) ?_ ?_⟩
 ·rintro j x σ H' hx' ⟨rfl,v3,rfl⟩;rw [getElem?_map] at hx';obtain⟨y,hy,rfl⟩:=map_eq_some_iff.mp hx';refine⟨_,Y,_,Y,l3,_,Y,.inl (bJ.of e3),Y,fl,_,Y,?_⟩;rw [U8 (hx y (mem_of_getElem? hy)) (by simp [Nz])];exact dz ⟨Y,_,Y⟩
 ·rintro σ H' ⟨rfl,v3,rfl⟩;exact k _ s13
theorem Wm (y:Str) (xs:List Str):inV (.str y) (xs.map V.str)=decide (y∈xs):=by
 rw [Bool.eq_iff_iff,decide_eq_true_iff];unfold inV;rw [any_eq_true];constructor
 ·rintro⟨v,hv,e⟩;obtain⟨z,hz,rfl⟩:=mem_map.mp hv;have:z=y:=by simpa [Nz] using e
  rw [<-this];exact hz
 ·intro h;exact⟨.str y,mem_map.mpr ⟨y,h,Y⟩,by simp [Nz]⟩
noncomputable def rO (xs:List Str) (p:PD):Bool:=!decide (p.name∈xs)
noncomputable def lL (ls:List aD) (ps:List PD) (S:FS) (xs:List Str):List (PD×ji):=(ps.filter (rO xs)).filterMap λp=>(iJ ls S p).map λdd=>(p,dd)
noncomputable def iK (S:FS) (ws:List (PD×ji)):FS:=ws.foldl (λS w=>qM S w.1.name w.2) S
noncomputable def fX (ls:List aD) (ps:List PD) (S:FS) (xs:List Str):FS:=iK S (lL ls ps S xs)
theorem GR (S:FS) (ws:List (PD×ji)) (w:PD×ji):iK S (ws ++ [w])=qM (iK S ws) w.1.name w.2:=by unfold iK;rw [List.foldl_append];rfl
theorem BZ {S:FS} {b:Nat} {x:Str}:∀{ws:List (PD×ji)},(S.ev x).length<=b->(∀w∈ws,w.2.gv.length<=2)->((iK S ws).ev x).length<=b+2 * ws.length
 | [],h,_=>by simpa [iK] using h
 | w:: r,h,g=>by
  have h1:=g w mem_cons_self;have h2:((qM S w.1.name w.2).ev x).length<=b+2:=by unfold qM;rw [lP,lM];have:=length_filter_le (λq:Str×Int=>decide (q.1=x)) w.2.gv;omega
  have h3:=BZ (S:=qM S w.1.name w.2) (ws:=r) h2 (λw' hw=>g w' (mem_cons_of_mem _ hw));show((iK (qM S w.1.name w.2) r).ev x).length<=_;rw [length_cons];omega
theorem FW {α β:Type} {F:α->β->Prop}:∀{xs:List α} {ys:List β} {j:Nat} {x:α},Paired F xs ys->xs[j]?=some x->∃y,ys[j]?=some y/\F x y
 | _,_,_,_,.nil,e=>by simp at e
 | _,_,0,_,.cons h _,e=>by simp at e;subst e;exact⟨_,rfl,h⟩
 | _,_,j+1,_,.cons _ r,e=>by obtain⟨y,h1,h2⟩:=FW (j:=j) r (by simpa using e);exact⟨y,by simpa using h1,h2⟩
theorem HW {α β:Type} {F:α->β->Prop}:∀{xs:List α} {ys:List β} {y:β},Paired F xs ys->y∈ys->∃x,F x y
 | _,_,_,.nil,e=>by simp at e
 | _,_,_,.cons h r,e=>by
  rcases mem_cons.mp e with rfl | e
  ·exact⟨_,h⟩
  ·exact HW r e
theorem dU.ncell {H:Hp} {A:jC} {ls:List aD} {ps:List PD} {S:FS} (W:dU K t H A ls ps S) {a:Addr} {u:HO} (h:H a=some u) (h1:∀ks,u≠.dK ks) (h2:∀ks,u≠.lst ks):a∉A.cells ls ps:=by
 intro z;have no:∀{b:Addr} {v:HO},H b=some v->a=b->u=v:=λe q=>by rw [<-q,h] at e;exact Option.some.inj e
 unfold jC.cells at z;simp only [mem_cons,mem_append,mem_map] at z;rcases z with z | z | z | z | z | ⟨l,hl,z⟩ | ⟨p,hp,z⟩
 ·exact h1 _ (no W.ever z)
 ·exact h1 _ (no W.gone z)
 ·exact h1 _ (no W.kept z)
 ·exact h1 _ (no W.done z)
 ·exact h1 _ (no W.rows z)
 ·exact h2 _ (no (W.lists l hl) z.symm)
 ·have hf:=mem_filter.mp hp;exact h2 _ (no (W.rlst p hf.1 (by simpa using hf.2)) z.symm)
theorem dU.tupMov {H H':Hp} {A:jC} {ls:List aD} {ps:List PD} {S:FS} (W:dU K t H A ls ps S) (m:Hd (A.cells ls ps) H H') {a:Addr} {xs:List V} (h:H a=some (.tup xs)):H' a=some (.tup xs):=by rw [m a (W.ncell h (by intro _ z;cases z) (by intro _ z;cases z))];exact h
theorem ph.mov {H H':Hp} {A:jC} {ls:List aD} {ps:List PD} {S:FS} {U:Addr} {dd:ji} (h:ph (A.cells ls ps) H U dd) (W:dU K t H A ls ps S) (m:Hd (A.cells ls ps) H H'):ph (A.cells ls ps) H' U dd:=by obtain⟨La,Lg,rs,a,b,c,d,e,f⟩:=h;exact⟨La,Lg,rs,W.tupMov m a,by rw [m La e];exact b,by rw [m Lg f];exact c,Paired.mapP d λ_ _ z=>W.tupMov m z,e,f⟩
theorem nY.mov {H H':Hp} {r a f:Addr} {n:Nat} {M:List Addr} (h:nY t H r a f n) (nr:r∉M) (m:Hd M H H'):nY t H' r a f n:=by obtain⟨dx,fs,h1,h2⟩:=h;exact⟨dx,fs,⟨by rw [m r nr];exact h1.1,h1.2⟩,h2⟩
theorem aax {H:Hp} {Q:VK} {Ex:XK} {b:Nat} {A:jC} {ls:List aD} {ps:List PD} {S:FS} {p:PD} {U:Addr} {dd:ji} (F:lN ls ps) (W:dU K t H A ls ps S) (hp:p∈ps) (hl:∀l∈ls,(S.ev l.name).length<=b) (hb:b<=100000) (d:ph (A.cells ls ps) H U dd) (o:Ke ls dd)
  (k:∀H',Hd (A.cells ls ps) H H'->dU K t H' A ls ps (qM S p.name dd)->Q .non H'):qx K t [.ref A.f,.str p.name,.ref U] H Q Ex:=by
 unfold qx;exact⟨b,A,ls,ps,S,p,U,dd,Y,F,W,hp,hl,hb,d,o,k⟩
theorem nY.turned {H:Hp} {r a f:Addr} {n:Nat} {dx:Addr} {fs:List (Str×V)} (h:(H r=some (.ins t.nQ dx fs)/\fs.length<=n+3)/\Wy ["step", "need_doors", "next_deed", "full_lane", "can_work", "works", "lane_now", "turn", "rows_left", "part_now", "net_now"] [("net",.ref a),("flow",.ref f),("turns",.int (n:Nat))] fs):
  nY t (upd H r (.ins t.nQ dx (aH "turns" (.int ((n:Int)+1)) fs))) r a f (n+1):=by
 refine⟨dx,_,⟨ao,?_⟩,⟨?_,?_⟩⟩
 ·exact le_trans (ju h.1.2) (by omega)
 ·intro q hq;simp only [mem_cons,not_mem_nil,or_false] at hq;rcases hq with rfl | rfl | rfl
  ·dsimp only;rw [aC,if_neg (by decide +kernel)];exact h.2.has ("net",.ref a) (by simp)
  ·dsimp only;rw [aC,if_neg (by decide +kernel)];exact h.2.has ("flow",.ref f) (by simp)
  ·dsimp only;rw [aC,if_pos rfl];rfl
 ·intro m hm;have hne:∀m∈(["step", "need_doors", "next_deed", "full_lane", "can_work", "works", "lane_now", "turn", "rows_left", "part_now", "net_now"]:List Str),¬m= "turns" :=by decide +kernel
  rw [aC,if_neg (hne m hm)];exact h.2.no m hm
theorem dU.ins {H:Hp} {A:jC} {ls:List aD} {ps:List PD} {S:FS} (W:dU K t H A ls ps S) {x:Addr} (nx:x∉A.cells ls ps) {o:HO} (nf:x≠A.f):dU K t (upd H x o) A ls ps S:=by
 have st:∀a,a∈A.cells ls ps->upd H x o a=H a:=λa ha=>aK λz=>nx (by rw [<-z];exact ha);obtain⟨dx,fs,h1,h2⟩:=W.at'.ex;refine⟨⟨dx,fs,by rw [aK (Ne.symm nf)];exact h1,h2⟩,?_,λl hl=>?_,?_,?_,?_,?_,λp hp h0=>?_,W.nod⟩
 ·rw [st _ (by simp [jC.cells])];exact W.ever
 ·rw [st _ (by unfold jC.cells;simp only [mem_cons,mem_append,mem_map];exact .inr (.inr (.inr (.inr (.inr (.inl ⟨l,hl,rfl⟩))))))];exact W.lists l hl
 ·rw [st _ (by simp [jC.cells])];exact W.gone
 ·rw [st _ (by simp [jC.cells])];exact W.kept
 ·rw [st _ (by simp [jC.cells])];exact W.done
 ·rw [st _ (by simp [jC.cells])];exact W.rows
 ·rw [st _ (by unfold jC.cells;simp only [mem_cons,mem_append,mem_map];exact .inr (.inr (.inr (.inr (.inr (.inr ⟨p,mem_filter.mpr ⟨hp,by simp [h0]⟩,rfl⟩))))))];exact W.rlst p hp h0
inductive Ii (M:List Addr) (ls:List aD) (S:FS) (H:Hp) (q:PD×Addr):Prop where
 | mk:∀u,H q.2=some (.tup [.str q.1.name,u])->(((iJ ls S q.1=none/\u=.non)∨∃dd U,iJ ls S q.1=some dd/\u=.ref U/\ph M H U dd))->Ii M ls S H q
theorem Ii.same {M:List Addr} {ls:List aD} {S:FS} {H H':Hp} {q:PD×Addr} (h:Ii M ls S H q) (s:aJ H H'):Ii M ls S H' q:=by
 obtain⟨u,h1,h2⟩:=h;refine⟨u,s _ _ h1,?_⟩;rcases h2 with h2 | ⟨dd,U,a,b,c⟩
 ·exact .inl h2
 ·exact .inr ⟨dd,U,a,b,c.same s⟩
theorem Vy {ls:List aD} {S:FS}:∀{qs:List (PD×Addr)},(qs.map (·.1)).filterMap (λp=>(iJ ls S p).map λdd=>(p,dd))=(qs.filter λq=>(iJ ls S q.1).isSome).filterMap (λq=>(iJ ls S q.1).map λdd=>(q.1,dd))
 | []=>rfl
 | q:: r=>by
  rw [map_cons,filterMap_cons,filter_cons,Vy (qs:=r)];cases h:iJ ls S q.1 with
  | none=>simp
  | some dd=>simp [filterMap_cons,h]
theorem iG {ls:List aD} {S:FS} {p:PD} {dd:ji} (h:iJ ls S p=some dd):fC S p=some dd/\yo ls S dd=.non:=by
 unfold iJ at h;split at h
 ·cases h
 ·rename_i d hd;split at h
  ·rename_i hf;cases h;exact⟨hd,hf⟩
  ·cases h
structure jd (K:Fr) (t:jq) (H:Hp) (r:Addr) (n:Nat) (A:jC) (ls:List aD) (ps:List PD) (S:FS):Prop where
 run:nY t H r A.n A.f n
 net:eG K t (aQ (r:: A.cells ls ps) H) A.n ls ps
 flow:dU K t H A ls ps S
 ne:r≠A.f
theorem jd.netH {H:Hp} {r:Addr} {n:Nat} {A:jC} {ls:List aD} {ps:List PD} {S:FS} (h:jd K t H r n A ls ps S):eG K t H A.n ls ps:=h.net.same bF
theorem nY.cell {H:Hp} {r:Addr} {n:Nat} {A:jC} {ls:List aD} {ps:List PD} {S:FS} {a f:Addr} (hR:nY t H r a f n) (W:dU K t H A ls ps S):r∉A.cells ls ps:=by
 obtain⟨dx,fs,⟨h1,_⟩,_⟩:=hR;intro z;have no:∀{b:Addr} {u:HO},H b=some u->(∀C dx fs,u≠.ins C dx fs)->r=b->False:=λe h q=>by rw [<-q,h1] at e;exact h _ _ _ (Option.some.inj e).symm
 unfold jC.cells at z;simp only [mem_cons,mem_append,mem_map] at z;rcases z with z | z | z | z | z | ⟨l,hl,z⟩ | ⟨p,hp,z⟩
 ·exact no W.ever (by intro _ _ _ z;cases z) z
 ·exact no W.gone (by intro _ _ _ z;cases z) z
 ·exact no W.kept (by intro _ _ _ z;cases z) z
 ·exact no W.done (by intro _ _ _ z;cases z) z
 ·exact no W.rows (by intro _ _ _ z;cases z) z
 ·exact no (W.lists l hl) (by intro _ _ _ z;cases z) z.symm
 ·have hf:=mem_filter.mp hp;exact no (W.rlst p hf.1 (by simpa using hf.2)) (by intro _ _ _ z;cases z) z.symm
theorem Y0 {ws:List Int} (h:Zy ws):0<=g0 ws/\g0 ws <1000000000:=by
 unfold g0;match ws,h with
 | [],_=>exact⟨by decide,by decide⟩
 | w:: r,h=>exact h w mem_cons_self
theorem Y7 {ws:List Int} (h:Zy ws):0<=g1 ws/\g1 ws <1000000000:=by
 unfold g1;match ws,h with
 | [],_=>exact⟨by decide,by decide⟩
 | [w],_=>exact⟨Int.le_refl 0,by show(0:Int) <1000000000;decide⟩
 | w:: v:: r,h=>exact h v (by simp)
theorem JP (n:Int):0<=n % 1000000000/\n % 1000000000 <1000000000:=⟨emod_nonneg _ (by decide),emod_lt_of_pos _ (by decide)⟩
theorem Uq {i:Nat} (hi:i <11) (ns:List Int) {ws:List Int} (kp:Int) (h:Zy ws):∀pv∈cQ i ns ws kp,0<=pv.2/\pv.2 <1000000000:=by
 have a0:=Y0 h;have a1:=Y7 h;match i,hi with
 | 0,_=>simp [cQ];exact a0
 | 1,_=>simp [cQ]
 | 2,_=>simp [cQ];exact a0
 | 3,_=>simp [cQ];exact a0
 | 4,_=>simp [cQ];exact JP _
 | 5,_=>simp [cQ];exact JP _
 | 6,_=>simp [cQ];exact JP _
 | 7,_=>simp [cQ];split <;> decide
 | 8,_=>simp [cQ];constructor <;> split <;> omega
 | 9,_=>simp [cQ];exact a1
 | 10,_=>simp [cQ];exact a1
theorem z9 (x:Str):∀(ws:List (PD×ji)) (S:FS),(iK S ws).ev x=S.ev x ++ ws.flatMap λw=>(w.2.gv.filter λq=>decide (q.1=x)).map (·.2)
 | [],S=>by simp [iK]
 | w:: r,S=>by show(iK (qM S w.1.name w.2) r).ev x=_;rw [z9 x r,flatMap_cons,<-append_assoc];rfl
theorem DX:∀(ws:List (PD×ji)) (S:FS),(iK S ws).r=S.r
 | [],_=>rfl
 | w:: r,S=>by show(iK (qM S w.1.name w.2) r).r=_;rw [DX r];rfl
theorem QB (x:Str):∀(ws:List (PD×ji)) (S:FS),(iK S ws).d x=S.d x+(ws.filter λw=>decide (w.1.name=x)).length
 | [],S=>by simp [iK]
 | w:: r,S=>by
  show(iK (qM S w.1.name w.2) r).d x=_;rw [QB x r,filter_cons];show(if x=w.1.name then S.d x+1 else S.d x)+_=_;by_cases h:x=w.1.name
  ·rw [if_pos h,if_pos (by simp [h])];simp;omega
  ·rw [if_neg h,if_neg (by simpa using λe=>h e.symm)]
theorem Js (x:Str):∀(ws:List (PD×ji)) (S:FS),(iK S ws).g x=S.g x+(ws.filter λw=>decide (x∈w.2.tk)).length
 | [],S=>by simp [iK]
 | w:: r,S=>by
  show(iK (qM S w.1.name w.2) r).g x=_;rw [Js x r,filter_cons];show(if x∈w.2.tk then S.g x+1 else S.g x)+_=_;by_cases h:x∈w.2.tk
  ·rw [if_pos h,if_pos (by simp [h])];simp;omega
  ·rw [if_neg h,if_neg (by simp [h])]
theorem m5 {ls:List aD} {ps:List PD} {S:FS} {xs:List Str} {w:PD×ji} (h:w∈lL ls ps S xs):w.1∈ps/\rO xs w.1=true/\iJ ls S w.1=some w.2:=by obtain⟨p,hp,e⟩:=mem_filterMap.mp h;obtain⟨dd,hd,rfl⟩:=map_eq_some_iff.mp e;obtain⟨h1,h2⟩:=mem_filter.mp hp;exact⟨h1,h2,hd⟩
theorem pW {ls:List aD} {S:FS}:∀{qs:List PD},((qs.filterMap λp=>(iJ ls S p).map λdd=>(p,dd)).map (·.1)).Sublist qs
 | []=>by simp
 | q:: r=>by
  rw [filterMap_cons];cases iJ ls S q with
  | none=>exact pW.cons _
  | some dd=>exact pW.cons₂ _
theorem Yx {ls:List aD} {ps:List PD} {S:FS} {xs:List Str} (nd:(ps.map (·.name)).Nodup):((lL ls ps S xs).map λw=>w.1.name).Nodup:=by
 have h:((lL ls ps S xs).map (·.1)).Sublist ps:=(pW (qs:=ps.filter (rO xs))).trans filter_sublist;have e:(lL ls ps S xs).map (λw=>w.1.name)=((lL ls ps S xs).map (·.1)).map (·.name):=by rw [map_map];rfl
 rw [e];exact nd.sublist (h.map _)
theorem Wh {ls:List aD} {ps:List PD} {S:FS} {xs:List Str}:(lL ls ps S xs).length<=ps.length:=by have h:((lL ls ps S xs).map (·.1)).Sublist ps:=(pW (qs:=ps.filter (rO xs))).trans filter_sublist;have:=h.length_le;rwa [lM] at this
theorem Pu {α:Type} {f:α->Str} {x:Str}:∀{l:List α},(l.map f).Nodup->(l.filter λa=>decide (f a=x)).length<=1
 | [],_=>by simp
 | a:: r,nd=>by
  rw [map_cons,nodup_cons] at nd;rw [filter_cons];by_cases h:f a=x
  ·rw [if_pos (by simp [h]),List.filter_eq_nil_iff.mpr λb hb=>by simpa using λe=>nd.1 (mem_map.mpr ⟨b,hb,by rw [e,h]⟩)];simp
  ·rw [if_neg (by simp [h])];exact Pu nd.2
theorem Qa {b:Nat} {ls:List aD} {ps:List PD} {S:FS} (F:lN ls ps) (O:yF b ls ps S) (xs:List Str):yF (b+32) ls ps (fX ls ps S xs):=by
 have dk:∀w∈lL ls ps S xs,Ke ls w.2:=λw hw=>xr F (m5 hw).1 (iG (m5 hw).2.2).1;refine⟨λl hl v hv=>?_,λp hp h0=>?_,λp hp h0=>?_,λl hl=>?_,λp hp h0=>?_⟩
 ·unfold fX at hv;rw [z9] at hv;rcases mem_append.mp hv with h | h
  ·exact O.vb l hl v h
  ·obtain⟨w,hw,hv⟩:=mem_flatMap.mp h;obtain⟨q,hq,rfl⟩:=mem_map.mp hv;obtain⟨h1,_,h3⟩:=m5 hw;obtain⟨e1,e2,e3⟩:=jn (iG h3).1;have hq':=(mem_filter.mp hq).1;rw [e3] at hq';obtain⟨pv,hpv,rfl⟩:=mem_map.mp hq';exact Uq (F.pok _ h1).1 _ _ (Ym F O h1 e1 e2).2.1 pv hpv
 ·unfold fX;rw [DX];exact O.rb p hp h0
 ·unfold fX;rw [DX,QB];have h1:=Pu (x:=p.name) (Yx (ls:=ls) (S:=S) (xs:=xs) F.pnd);have h2:=O.dl p hp h0;by_cases hm:∃w∈lL ls ps S xs,w.1.name=p.name
  ·obtain⟨w,hw,e⟩:=hm;obtain⟨a1,_,a3⟩:=m5 hw;have ew:w.1=p:=yH F.pnd a1 hp e;obtain⟨_,e2,_⟩:=jn (iG a3).1;rw [ew] at e2;unfold qK at e2;simp [h0] at e2;omega
  ·rw [List.filter_eq_nil_iff.mpr λw hw=>by simpa using λe=>hm ⟨w,hw,e⟩];simpa using h2
 ·have h1:=BZ (O.len l hl) λw hw=>(dk w hw).g2;have h2:=Wh (ls:=ls) (ps:=ps) (S:=S) (xs:=xs);have:=F.p16;unfold fX;omega
 ·unfold fX;rw [DX];exact O.rl p hp h0
inductive zB (K:Fr) (t:jq) (vs:List V) (H:Hp) (Q:VK):Prop where
 | mk:∀(b:Nat) (r:Addr) (n:Nat) (A:jC) (ls:List aD) (ps:List PD) (S:FS) (L:Addr) (xs:List Str),vs=[.ref r,.ref L]->jd K t H r n A ls ps S->yF b ls ps S->b<=90000->n<=900->bJ K H L (xs.map V.str)->L∉A.cells ls ps->((∀x∈xs,V.str x∈cZ ps "give" ++ cZ ps "take"))->(∀H' p,aJ (aQ (r:: A.cells ls ps) H) (aQ (r:: A.cells ls ps) H')->jd K t H' r (n+1) A ls ps (fX ls ps S xs)->H p=none->H' p=some (.lst ((lL ls ps S xs).map λw=>V.str w.1.name))->Q (.ref p) H')->zB K t vs H Q
@[irreducible] noncomputable def n6 (K:Fr) (t:jq):Sp:=λvs H Q _=>zB K t vs H Q
noncomputable abbrev ut:List Str:=["self", "held", "back", "deeds", "due", "name", "deed"]
theorem Do (T:Txt w K mg t):FO P w K mg base 7 t.yL ["self", "held"] (n6 K t):=by
 have sc:ir ut ["self", "held"] (aZ (inClass (top 70) 1)):=P0;refine T.qI.F.ok sc (λvs H Q E h=>?_) (λcdv A outer s H vs Q E hr h=>?_)
 ·unfold n6 at h;obtain⟨b,r,n,A,ls,ps,S,L,xs,rfl,_⟩:=h;rfl
 ·unfold n6 at h;obtain⟨b,r,n,A,ls,ps,S,L,xs,rfl,⟨hR,Nc,W,nrf⟩,O,hb,hn,hL,nL,hx,k⟩:=h;refine⟨_,(aq (sN sc 2 (qj (jo (Ca (pv 1))) (bC ak) (pv 1)))
   (aq (bI (uo (pv 0) T.bD T.bD.me.2.2.2.1 (Ao T) T.mq hr (aa (pv 2) ak aj)))
   (aq (jJ (i:=3) [0,2] ut (aZ (inClass (top 70) 1)) rfl sc.nd rfl (bR (Ma (aU (pv 0) rfl) T.aW T.aW.me.2.2.1 (d9 T) T.dg hr)) (λ_ _ _ _ _=>(vm (bz (Hm (K:=K) rfl) (pv 0) (pv 2) (by with_unfolding_all rfl)))) (λ_ _ _ _ _=>(cL (aa (pv 0) (aa (uo (pv 1) T.bD T.bD.me.2.2.1 (Bp T) T.oY hr (aa (pv 0) ak aj)) ak aX) aj))))
   (aq (jJ (i:=4) [] ut (aZ (inClass (top 70) 1)) rfl sc.nd rfl (bR (pv 3)) (λ_ _ _ _ _=>(vm (jo (z8 (bc (ur (K:=K) rfl) (pv 0) au (λ_ _=>rfl)))))) (λ_ _ _ _ _=>(pv 0)))
   (aq (dO PassesOwn.never rfl (bR (pv 4)) (G9 rfl (jx (gN sc 5) (jx (gN sc 6) xF)))
    (aA (bI (uo (aU (pv 0) rfl) T.aR T.aR.me.2.2.2.2.2.2.2.2.1 (NQ T) T.Bt hr (aa (pv 5) (aa (pv 6) ak aj) aj)))))
   (aq (Sg (pv 0) au Jt)
   (aA (aM (UW ["name", "deed"] [] ut (aZ (inClass (top 70) 1)) rfl (bR (pv 4)) (λ_ _ _ _ _=>Qk (K:=K) (n:=2) rfl rfl (jx (xP (i:=0) (show(["name", "deed"]:List Str).Nodup by decide +kernel) rfl (Or.inl rfl) (.inr rfl)) (jx (xP (i:=1) (show(["name", "deed"]:List Str).Nodup by decide +kernel) rfl (Or.inl rfl) (.inr rfl)) xF))) (λ_ _ _ _ _=>gj) (λ_ _ _ _ _=>(pv 0))))))))))),?_⟩
  have hz:sizeLine=16777216:=sizeLine_eq;have N:eG K t H A.n ls ps:=Nc.same bF;obtain⟨dxn,fsn,R,F0,Pd,Gn,Tk,FL,PL,Wn⟩:=id N;have F:=Wn.fit;have p16:=F.p16;obtain⟨dxr,fsr,R0⟩:=id hR;refine⟨_,Y,_,Y,dz ⟨_,Y,?_⟩⟩;refine⟨_,Y,r,dxr,fsr,Y,R0.1.1,R0.2.no _ (by decide +kernel),_,Y,r,n,A,ls,ps,S,L,xs,Y,hR,N,W,hL,hx,λH1 s1=>?_⟩;obtain⟨dxr,fsr,R1⟩:=hR.same s1;have Wn1:=Wn.same s1;refine⟨_,Y,r,_,dxr,fsr,_,Y,R1.1.1,T.bD.c,T.bD.na.1,R1.2.has ("net",.ref A.n) (by simp),A.n,dxn,fsn,Y,Wn1.obj,Wn1.fl.no _ (by decide +kernel),A.n,ls,ps,Y,Wn1.s,λl nl=>?_⟩;have s2:=s1.trans (aB (o:=.lst (ps.map λx=>V.str x.name)) nl);have el:(upd H1 l (.lst (ps.map λx=>V.str x.name))) l=some (.lst (ps.map λx=>V.str x.name)):=ao;generalize upd H1 l (.lst (ps.map λx=>V.str x.name))=H2 at s2 el ⊢;have hflat:(xs.map V.str).all o9=true:=by simp [o9]
  refine⟨l,rfl,⟨_,bJ.of el⟩,fB (K:=K) (a:=l) (xs:=ps.map λx=>V.str x.name) (λj ys H'=>aJ H2 H'/\∃qs:List (PD×Addr),ys=qs.map (λq=>V.ref q.2)/\qs.map (·.1)=(ps.take j).filter (rO xs)/\∀q∈qs,Ii (A.cells ls ps) ls S H' q) (by rw [lM];omega) ⟨aJ.refl _,[],rfl,rfl,by simp⟩ ?_ (λj ys H' _ h=>h.1.seq (bJ.of el)) ?_ ?_⟩
  ·rintro j ys H' ⟨_,qs,rfl,e,_⟩;have h1:=congrArg List.length e;have h2:=length_filter_le (rO xs) (ps.take j);rw [lM] at h1;rw [length_take] at h2;rw [lM];omega
  ·rintro j x ys H' hj ⟨s3',qs,rfl,eq,hq⟩;rw [getElem?_map] at hj;obtain⟨p,hp,rfl⟩:=map_eq_some_iff.mp hj;have hpm:=mem_of_getElem? hp;have s3:=s2.trans s3';obtain⟨dxr,fsr,R2⟩:=hR.same s3;refine⟨_,Y,_,Y,L,_,Y,.inl (s3.seq hL),Y,hflat,_,Y,?_⟩;rw [Wm];have tk:(ps.take (j+1)).filter (rO xs)=(ps.take j).filter (rO xs) ++ if rO xs p=true then [p] else []:=by rw [take_succ,hp,toList_some,filter_append,filter_cons];rfl
   refine jQ (λe=>?_) (λe=>?_)
   ·have e':rO xs p=true:=e;rw [e',if_pos rfl] at tk;refine⟨_,Y,_,Y,r,dxr,fsr,Y,R2.1.1,R2.2.no _ (by decide +kernel),_,Y,?_⟩;refine Xl (hR.same s3) (N.same s3) (W.same s3) O hpm (λhd H4 s4=>?_) (λdd hd H4 U s4 nU DA=>?_)
    ·refine⟨jB,λq nq=>⟨s3'.trans (s4.trans (aB nq)),qs ++ [(p,q)],by simp,by rw [map_append,eq,tk];rfl,λq' hq'=>?_⟩⟩;rcases mem_append.mp hq' with h | h
     ·exact(hq q' h).same (s4.trans (aB nq))
     ·rw [mem_singleton] at h;subst h;exact⟨.non,ao,.inl ⟨hd,Y⟩⟩
    ·refine⟨jB,λq nq=>⟨s3'.trans (s4.trans (aB nq)),qs ++ [(p,q)],by simp,by rw [map_append,eq,tk];rfl,λq' hq'=>?_⟩⟩;rcases mem_append.mp hq' with h | h
     ·exact(hq q' h).same (s4.trans (aB nq))
     ·rw [mem_singleton] at h;subst h;exact⟨.ref U,ao,.inr ⟨dd,U,hd,Y,DA.same (aB nq)⟩⟩
   ·have e':¬rO xs p=true:=e;rw [if_neg e',append_nil] at tk;exact⟨s3',qs,Y,by rw [eq,tk],hq⟩
  rintro ys H3 ⟨s3',qs,rfl,eq,hq⟩ D1 nD1;rw [lM,take_length] at eq;have s4':=aB (o:=.lst (qs.map λq=>V.ref q.2)) nD1;have s4:=(s2.trans s3').trans s4';have eD1:(upd H3 D1 (.lst (qs.map λq=>V.ref q.2))) D1=some (.lst (qs.map λq=>V.ref q.2)):=ao
  replace hq:=λq h=>(hq q h).same s4'
  generalize upd H3 D1 (.lst (qs.map λq=>V.ref q.2))=H4 at s4 s4' eD1 hq ⊢;clear s4' nD1 s3' nl el;have lq:qs.length<=16:=by have h1:=congrArg List.length eq;have h2:=length_filter_le (rO xs) ps;rw [lM] at h1;omega
  let fS:PD×Addr->Bool:=λq=>(iJ ls S q.1).isSome
  refine⟨_,rfl,D1,rfl,⟨_,bJ.of eD1⟩,fB (K:=K) (a:=D1) (xs:=qs.map λq=>V.ref q.2) (λj ys H'=>H'=H4/\ys=((qs.take j).filter fS).map λq=>V.ref q.2) (by rw [lM];omega) ⟨rfl,rfl⟩ (λj ys H' ⟨_,e⟩=>by rw [e,lM];exact le_trans (length_filter_le _ _) (by rw [length_take];omega)) (λj ys H' _ ⟨e,_⟩=>by rw [e];exact bJ.of eD1) ?_ ?_⟩
  ·rintro j x ys H' hj ⟨rfl,rfl⟩;rw [getElem?_map] at hj;obtain⟨q,hqj,rfl⟩:=map_eq_some_iff.mp hj;obtain⟨u,h1,h2⟩:=hq q (mem_of_getElem? hqj);refine⟨_,Y,q.2,_,1,_,Y,Y,fZ.of h1,aO (j:=1) Y,?_⟩;rw [take_succ,hqj,toList_some,filter_append,filter_cons,map_append];rcases h2 with ⟨h2,rfl⟩ | ⟨dd,U,h2,rfl,_⟩
   ·exact⟨_,Y,dz ⟨Y,by simp [fS,h2]⟩⟩
   ·exact⟨_,Y,iy ⟨_,Y,Y,by simp [fS,h2]⟩⟩
  rintro ys H' ⟨rfl,rfl⟩ D2 nD2;rw [lM,take_length];obtain⟨ws,hws⟩:∃ws:List (PD×ji),ws=lL ls ps S xs:=⟨_,rfl⟩;have ewq:ws=(qs.filter fS).filterMap (λq=>(iJ ls S q.1).map λdd=>(q.1,dd)):=by rw [hws];unfold lL;rw [<-eq,Vy]
  have hW:Paired (fun(q:PD×Addr) (w:PD×ji)=>q.1=w.1/\iJ ls S w.1=some w.2/\w.1∈ps/\∃U,H' q.2=some (.tup [.str w.1.name,.ref U])/\ph (A.cells ls ps) H' U w.2) (qs.filter fS) ws:=by
   rw [ewq];have hall:∀q∈qs.filter fS,Ii (A.cells ls ps) ls S H' q/\q.1∈ps/\fS q=true:=λq h=>by have h':=mem_filter.mp h;refine⟨hq q h'.1,?_,h'.2⟩;have:q.1∈qs.map (·.1):=mem_map.mpr ⟨q,h'.1,rfl⟩;rw [eq] at this;exact(mem_filter.mp this).1
   generalize qs.filter fS=rs at hall;clear ewq;induction rs with
   | nil=>exact .nil
   | cons q r ih=>
    obtain⟨⟨u,h1,h2⟩,hp,hf⟩:=hall q mem_cons_self;rcases h2 with ⟨h2,_⟩ | ⟨dd,U,h2,rfl,h3⟩
    ·simp only [fS,h2] at hf;cases hf
    ·rw [filterMap_cons,h2];exact .cons ⟨Y,h2,hp,U,h1,h3⟩ (ih λq' hq'=>hall q' (mem_cons_of_mem _ hq'))
  have lw:(qs.filter fS).length=ws.length:=Paired.length hW;have lw16:ws.length<=16:=by have:=length_filter_le fS qs;omega
  have s5':=aB (o:=.lst ((qs.filter fS).map λq=>V.ref q.2)) nD2;have s5:=s4.trans s5';have nD2':=(W.same s4).cell nD2;have eD2:(upd H' D2 (.lst ((qs.filter fS).map λq=>V.ref q.2))) D2=some (.lst ((qs.filter fS).map λq=>V.ref q.2)):=ao;generalize upd H' D2 (.lst ((qs.filter fS).map λq=>V.ref q.2))=H5 at s5 s5' eD2 ⊢;generalize qs.filter fS=rs at hW lw eD2 ⊢;have g2:∀w∈ws,w.2.gv.length<=2:=λw hw=>by obtain⟨q,_,h2,h3,_⟩:=HW hW hw;exact(xr F h3 (iG h2).1).g2
  have W5:=W.same s5;have R5:=hR.same s5;have nr:=R5.cell W5;refine⟨_,Y,D2,Y,⟨_,bJ.of eD2⟩,du (K:=K) (a:=D2) (xs:=rs.map λq=>V.ref q.2) (λj σ H6=>Hd (A.cells ls ps) H5 H6/\dU K t H6 A ls ps (iK S (ws.take j))/\∃v5 v6,σ=[some (.ref r),some (.ref L),some (.ref L),some (.ref D1),some (.ref D2),v5,v6]) ⟨λ_ _=>Y,by simpa [iK] using W5,none,none,Y⟩ (λj σ H6 _ h=>bJ.of (by rw [h.1 D2 nD2'];exact eD2)) ?_ ?_⟩
  ·rintro j x σ H6 hj ⟨m6,W6,v5,v6,rfl⟩;rw [getElem?_map] at hj;obtain⟨q,hqj,rfl⟩:=map_eq_some_iff.mp hj;obtain⟨w,hwj,_,h2,hp,U,t1,d1⟩:=FW hW hqj;have t6:=W5.tupMov m6 (s5' _ _ t1);have d6:=(d1.same s5').mov W5 m6;obtain⟨dxr,fsr,R3⟩:=R5.mov nr m6;obtain⟨dxg,fsg,y1,y2⟩:=id W6.at'.ex;refine⟨q.2,_,Y,fZ.of t6,Y,_,_,Y,_,_,Y,Y,?_⟩;refine⟨_,Y,r,_,dxr,fsr,_,Y,R3.1.1,T.bD.c,T.bD.na.2.1,R3.2.has ("flow",.ref A.f) (by simp),A.f,dxg,fsg,Y,y1,y2.no _ (by decide +kernel),_,Y,_,Y,?_⟩;refine aax F W6 hp (b:=b+2 * (ws.take j).length) (λl hl=>BZ (O.len l hl) λw' hw'=>g2 w' (mem_of_mem_take hw')) (by rw [length_take];omega) d6 (xr F hp (iG h2).1) λH7 m7 W7=>⟨λa ha=>by rw [m7 a ha,m6 a ha],?_,_,_,rfl⟩;rw [take_succ,hwj,toList_some,GR];exact W7
  rintro σ H6 ⟨m6,W6,v5,v6,rfl⟩;rw [lM,lw,take_length] at W6;obtain⟨dxr,fsr,R3⟩:=R5.mov nr m6;refine⟨_,Y,r,_,dxr,fsr,.int (n:Nat),Y,R3.1.1,T.bD.c,T.bD.na.2.2.1,R3.2.has ("turns",.int (n:Nat)) (by simp),_,_,Y,Y,dxr,fsr,R3.1.1,by have:=R3.1.2;omega,?_⟩;have R7:=nY.turned R3;have W7:=W6.ins (x:=r) nr (o:=.ins t.nQ dxr (aH "turns" (.int ((n:Int)+1)) fsr)) nrf;have m7:∀a,a≠r->a∉A.cells ls ps->upd H6 r (.ins t.nQ dxr (aH "turns" (.int ((n:Int)+1)) fsr)) a=H5 a:=λa h1 h2=>by rw [aK h1,m6 a h2]
  generalize upd H6 r (.ins t.nQ dxr (aH "turns" (.int ((n:Int)+1)) fsr))=H7 at R7 W7 m7 ⊢;have nD2r:D2≠r:=λz=>by obtain⟨_,_,y1,_⟩:=R5;rw [<-z,eD2] at y1;cases y1.1
  have eD7:H7 D2=some (.lst (rs.map λq=>V.ref q.2)):=by rw [m7 D2 nD2r nD2'];exact eD2
  have t7:∀{a:Addr} {vs:List V},H5 a=some (.tup vs)->H7 a=some (.tup vs):=λ{a vs} h=>by rw [m7 a (λz=>by obtain⟨_,_,y1,_⟩:=R5;rw [<-z,h] at y1;cases y1.1) (W5.ncell h (by intro _ z;cases z) (by intro _ z;cases z))];exact h
  have c7:aJ (aQ (r:: A.cells ls ps) H) (aQ (r:: A.cells ls ps) H7):=λa o e=>by
   have hn:a∉r:: A.cells ls ps:=λz=>by unfold aQ at e;rw [if_pos z] at e;cases e
   have e':=s5 _ _ (bF a o e);unfold aQ;rw [if_neg hn,m7 a (λz=>hn (by rw [z];exact mem_cons_self)) (λz=>hn (mem_cons_of_mem _ z))];exact e'
  refine⟨_,Y,D2,Y,⟨_,bJ.of eD7⟩,?_⟩;refine FT (K:=K) (a:=D2) (xs:=rs.map λq=>V.ref q.2) (λj ys H8=>H8=H7/\ys=(ws.take j).map λw=>V.str w.1.name) (by rw [lM];omega) ⟨rfl,rfl⟩ ?_ (λj ys H8 _ ⟨e,_⟩=>by rw [e];exact bJ.of eD7) ?_ ?_
  ·rintro j ys H8 ⟨_,rfl⟩;rw [lM,length_take];omega
  ·rintro j v ys H8 hj ⟨rfl,rfl⟩;rw [getElem?_map] at hj;obtain⟨q,hqj,rfl⟩:=map_eq_some_iff.mp hj;obtain⟨w,hwj,_,_,_,U,t1,_⟩:=FW hW hqj;refine⟨q.2,_,Y,fZ.of (t7 (s5' _ _ t1)),Y,_,_,Y,_,_,Y,Y,Y,?_⟩;refine yes ⟨_,Y,Y,?_⟩;rw [take_succ,hwj,toList_some,map_append];rfl
  rintro ys H8 ⟨rfl,rfl⟩ p np;rw [lM,lw,take_length];have s8:=aB (o:=.lst (ws.map λw=>V.str w.1.name)) np;have np5:H5 p=none:=by
   cases e:H5 p with
   | none=>rfl
   | some o=>
    have h1:p≠r:=λz=>by obtain⟨_,_,y1,_⟩:=R7;rw [<-z,np] at y1;cases y1.1
    rw [<-m7 p h1 (W7.cell np),np] at e;cases e
  have c8:aJ (aQ (r:: A.cells ls ps) H) (aQ (r:: A.cells ls ps) (upd H8 p (.lst (ws.map λw=>V.str w.1.name)))):=c7.trans (Ed np);refine k _ p c8 ⟨R7.same s8,Nc.same c8,?_,nrf⟩ (s5.free np5) (by rw [ao,hws]);unfold fX;rw [<-hws];exact W7.same s8
inductive Jc (K:Fr) (vs:List V) (H:Hp) (Q:VK) (E:XK):Prop where
 | mk:∀(a:Addr) (ws:List Int),vs=[.ref a]->bJ K H a (ws.map V.int)->ws.length<=300->((∀v∈ws,0<=v/\v <1000000000))->(∀H',aJ H H'->Q (.bl true) H')->Jc K vs H Q E
theorem Sy (T:Txt w K mg t):FO P w K mg base 3 t.Nx ["thing"] (Jc K):=by
 have sc:=T.Fo.sc ["thing"];refine T.Fo.F.ok sc ln (λ_ _ _ _ H vs Q E hr h=>?_);obtain⟨a,ws,rfl,hS,hl,hB,k⟩:=h;refine⟨_,(aA (aM (yP (bB An (by rfl) T.pH mK (aa (pv 0) (aa (DY (by rfl) T.vI rB) ak aj) aj)) (yP (pJ yz (bB bV (by rfl) T.fY dC (aa (pv 0) ak aj)) (j0 (by rfl) T.Hf) (bN _)) (yR (bB (Aj rfl) (by rfl) T.Qu Jv (aa (eY [] ["thing"] (aZ (top 67)) rfl (bR (pv 0)) (λ_ _ _ _ _=>gj) (λ_ _ _ _ _=>(dX (vW T) T.qL hr (aa (pv 0) ak aj)))) ak ie))))))),?_⟩;have hz:sizeLine=16777216:=sizeLine_eq;refine⟨_,Y,_,_,_,_,Y,.inl ⟨Y,_,hS⟩,by decide,Y,_,Y,iy ?_⟩;refine⟨_,Y,_,(ws.map V.int).length,Y,.inl ⟨_,hS,by simp⟩,_,_,Y,Y,_,Y,?_⟩;rw [lM,decide_eq_true (show(ws.length:Int)<=300 by omega)];refine iy ?_;refine⟨_,rfl,a,rfl,⟨_,hS⟩,fB (K:=K) (a:=a) (xs:=ws.map V.int) (λj ys H'=>H'=H/\ys=(List.replicate j true).map V.bl) (by rw [lM];omega) ⟨rfl,rfl⟩ (λj ys H' ⟨_,e⟩=>by rw [e];simp) (λj ys H' _ ⟨e,_⟩=>by rw [e];exact hS) ?_ ?_⟩
 ·rintro j x ys H' hx ⟨rfl,rfl⟩;rw [getElem?_map] at hx;obtain⟨n,hn,rfl⟩:=map_eq_some_iff.mp hx;obtain⟨n0,n1⟩:=hB n (mem_of_getElem? hn);refine yes ⟨_,Y,.int n,Y,.inl ⟨n,Y,Y,?_⟩⟩;rw [decide_eq_true n0,decide_eq_true n1,List.replicate_succ'];simp
 rintro ys H' ⟨rfl,rfl⟩ D hD;refine⟨D,List.replicate (ws.map V.int).length true,Y,bJ.of ao,?_⟩;rw [show(List.replicate (ws.map V.int).length true).all id=true by simp];exact k _ (aB hD)
structure OD (ps:List PD) (RW:List (Str×Addr×List Int)):Prop where
 door:∀q∈RW,V.str q.1∈cZ ps "give"
 bnd:∀q∈RW,∀v∈q.2.2,0<=v/\v <1000000000
theorem Hz {ls:List aD} {ps:List PD} {RW:List (Str×Addr×List Int)} (F:lN ls ps) (hl:∀q∈RW,q.2.2.length<=300) (hb:∀q∈RW,∀v∈q.2.2,0<=v/\v <1000000000):yF 199 ls ps (fG ls ps RW):=by
 have rq:∀x,iR RW x=[]∨∃q∈RW,iR RW x=q.2.2:=λx=>by
  unfold iR;cases e:RW.find? λq=>decide (q.1=x) with
  | none=>exact .inl rfl
  | some q=>exact .inr ⟨q,mem_of_find?_eq_some e,rfl⟩
 refine⟨λl h v hv=>?_,λp hp h0 v hv=>?_,λp hp h0=>zero_le _,λl h=>?_,λp hp h0=>?_⟩
 ·have e:(fG ls ps RW).ev l.name=l.first:=xg F.whole.nod h;rw [e] at hv;exact(F.lok l h).2.2.2 v hv
 ·rcases rq p.name with e | ⟨q,hq,e⟩
  ·rw [show(fG ls ps RW).r p.name=[] from e] at hv;cases hv
  ·rw [show(fG ls ps RW).r p.name=q.2.2 from e] at hv;exact hb q hq v hv
 ·have e:(fG ls ps RW).ev l.name=l.first:=xg F.whole.nod h;rw [e];have:=F.lok l h;omega
 ·rcases rq p.name with e | ⟨q,hq,e⟩
  ·rw [show(fG ls ps RW).r p.name=[] from e];exact zero_le _
  ·rw [show(fG ls ps RW).r p.name=q.2.2 from e];exact hl q hq
inductive zU (K:Fr) (t:jq) (vs:List V) (H:Hp) (Q:VK) (E:XK):Prop where
 | mk:∀(n rw:Addr) (ls:List aD) (ps:List PD) (RW:List (Str×Addr×List Int)),vs=[.ref n,.ref rw]->eG K t H n ls ps->jY H rw RW->OD ps RW->(∀H',aJ H H'->Q .non H')->zU K t vs H Q E
theorem J5 (T:Txt w K mg t):FO P w K mg base 4 t.Dq ["net", "rows"] (zU K t):=by
 have sc:=T.wC.sc ["net", "rows", "doors", "door"];refine T.wC.F.ok sc ln (λ_ _ _ _ H vs Q E hr h=>?_);obtain⟨n,rw,ls,ps,RW,rfl,N,hrw,hO,k⟩:=h;refine⟨_,(aq (sN sc 2 (Ma (pv 0) T.aW T.aW.me.2.2.2.2.1 (pO T) T.kY hr))
  (aq (yV (H0:=H) rfl (dO PassesOwn.never rfl (zb (pv 1)) (gN sc 3)
   (aA (bU (bz jU (pv 3) (pv 2) (by with_unfolding_all rfl))
    (aA eQ)
    bA))))
  (aA (yV (H0:=H) rfl (dO PassesOwn.never rfl (zb (pv 1)) (gN sc 3)
   (aA (bU (lW (jZ (dX (Sy T) T.Fo hr (aa (cJ hr.u1 (pv 1) (pv 3) (λ_ _=>rfl)) ak aG))))
    (aA eQ)
    bA))))))),?_⟩
 have hz:sizeLine=16777216:=sizeLine_eq;obtain⟨dxn,fsn,R,F,Pd,Gn,Tk,FL,PL,Wn⟩:=id N;refine⟨_,Y,n,dxn,fsn,Y,Wn.obj,Wn.fl.no _ (by decide +kernel),n,ls,ps,Y,N,λl nl=>?_⟩;have s1:=aB (o:=.lst (cZ ps "give")) nl;have el:upd H l (.lst (cZ ps "give")) l=some (.lst (cZ ps "give")):=ao;generalize upd H l (.lst (cZ ps "give"))=H1 at s1 el ⊢;have fl:(cZ ps "give").all o9=true:=by rw [all_eq_true];intro v hv;obtain⟨p,_,rfl⟩:=mem_map.mp hv;rfl
 have w1:=hrw.same s1;have nf:∀(o':Obj) (u':HO),H rw≠some (.frz o' u'):=λo' u' z=>by rw [hrw.dict] at z;cases z
 refine⟨_,rfl,rw,_,rfl,w1.dict,λo=>zA (λj σ H'=>H'=upd H1 rw (.frz o (.dK (f9 RW)))/\∃v3,σ=[some (.ref n),some (.ref rw),some (.ref l),v3]) ⟨rfl,none,rfl⟩ (λj σ H' _ ⟨e,_⟩=>by rw [e];exact ao) ?_ ?_⟩
 ·rintro j kk v σ H' hj ⟨rfl,v3,rfl⟩;unfold f9 at hj;rw [getElem?_map] at hj;obtain⟨q,hq,e⟩:=map_eq_some_iff.mp hj;cases e;refine⟨_,rfl,_,rfl,l,_,rfl,.inl (bJ.of (kJ w1.dict el (by intro _ z;cases z))),rfl,fl,_,rfl,?_⟩;have hin:inV (kV (Sum.inr q.1)) (cZ ps "give")=true:=U8 (hO.door q (mem_of_getElem? hq)) (by simp [Nz,kV]);rw [hin];exact dz ⟨Y,_,Y⟩
 rintro σ H' ⟨rfl,v3,rfl⟩;refine⟨_,⟨rw,o,_,ao,nf,rfl⟩,?_⟩;rw [rE,K1 w1.dict];refine⟨_,rfl,rw,_,rfl,w1.dict,λo=>zA (λj σ H'=>aJ (upd H1 rw (.frz o (.dK (f9 RW)))) H'/\∃v3,σ=[some (.ref n),some (.ref rw),some (.ref l),v3]) ⟨aJ.refl _,v3,rfl⟩ (λj σ H' _ ⟨e,_⟩=>e _ _ ao) ?_ ?_⟩
 ·rintro j kk v σ H' hj ⟨s2,v3,rfl⟩;unfold f9 at hj;rw [getElem?_map] at hj;obtain⟨q,hq,e⟩:=map_eq_some_iff.mp hj;cases e;have hm:=mem_of_getElem? hq;have vq:cj (f9 RW) (Sum.inr q.1)=some (.ref q.2.1):=jt (by rw [um];exact gH hrw.nd) (mem_map.mpr ⟨q,hm,rfl⟩);have eq2:=s2 _ _ (kJ w1.dict (w1.lists q hm) (by intro _ z;cases z));refine⟨_,rfl,_,rfl,rw,_,rfl,(by rw [<-vq];exact .inl ⟨_,Sum.inr q.1,.inr ⟨o,s2 _ _ ao⟩,rfl,rfl⟩),q.2.1,q.2.2,rfl,bJ.of eq2,hrw.len q hm,hO.bnd q hm,λH3 s3=>⟨_,rfl,dz ⟨s2.trans s3,_,rfl⟩⟩⟩
 rintro σ H' ⟨s2,v3,rfl⟩;refine⟨_,⟨rw,o,_,s2 _ _ ao,nf,rfl⟩,?_⟩;refine k _ λb u e=>?_;by_cases hb:b=rw
 ·subst hb;rw [ao];rw [hrw.dict] at e;exact e
 ·rw [aK hb];exact s2 _ _ (by rw [aK hb];exact s1 _ _ e)
theorem Ud {H:Hp} {Q:VK} {Ex:XK} {H0:Hp} {f dx n rw:Addr} {ls:List aD} {ps:List PD} {RW:List (Str×Addr×List Int)} (hf:H f=some (.ins t.cC dx [])) (s0:aJ H0 H) (nf:H0 f=none) (N:eG K t H0 n ls ps) (hrw:jY H0 rw RW)
  (k:∀(H':Hp) (A:jC),A.f=f->A.n=n->nW f H H'->dU K t H' A ls ps (fG ls ps RW)->(∀a∈A.cells ls ps,H a=none)->Q .non H'):iM K t [.ref f,.ref n,.ref rw] H Q Ex:=by
 unfold iM;exact⟨H0,f,dx,n,rw,ls,ps,RW,rfl,hf,s0,nf,N,hrw,k⟩
inductive tH (K:Fr) (t:jq) (vs:List V) (H:Hp) (Q:VK):Prop where
 | mk:∀(H0:Hp) (r dx n rw:Addr) (ls:List aD) (ps:List PD) (RW:List (Str×Addr×List Int)),vs=[.ref r,.ref n,.ref rw]->H r=some (.ins t.nQ dx [])->aJ H0 H->H0 r=none->eG K t H0 n ls ps->jY H0 rw RW->OD ps RW->(∀H' A,A.n=n->aJ H0 H'->jd K t H' r 0 A ls ps (fG ls ps RW)->(∀a∈A.f:: A.cells ls ps,H0 a=none)->Q .non H')->tH K t vs H Q
@[irreducible] noncomputable def jr (K:Fr) (t:jq):Sp:=λvs H Q _=>tH K t vs H Q
theorem uW (T:Txt w K mg t):FO P w K mg base 6 t.qu ["self", "net", "rows"] (jr K t):=by
 have sc:=T.iD.sc ["self", "net", "rows"];refine T.iD.F.ok sc (λvs H Q E h=>?_) (λcdv A outer s H vs Q E hr h=>?_)
 ·unfold jr at h;obtain⟨H0,r,dx,n,rw,ls,ps,RW,rfl,_⟩:=h;rfl
 ·unfold jr at h;obtain⟨H0,r,dx,n,rw,ls,ps,RW,rfl,hr1,s0,nr0,N,hrw,hO,k⟩:=h;refine⟨_,(aq (bI (dX (J5 T) T.wC hr (aa (pv 1) (aa (pv 2) ak aj) aj)))
   (aq (jA (pv 0) (pv 1) rfl)
   (aq (jA (pv 0) (gP (T.aR.M T.km) (Bm T) (hr.mono (by decide)) (by rfl) T.aR.m T.km.b .nil gh (aa (pv 1) (aa (pv 2) ak aj) aj)) rfl)
   (aA (jA (pv 0) au rfl))))),?_⟩
  refine⟨_,rfl,_,rfl,n,rw,ls,ps,RW,rfl,N.same s0,hrw.same s0,hO,λH1 s1=>?_⟩;have T0:=(Tr.start hr1).same s1;refine⟨_,Y,_,Y,r,_,dx,[],Y,s1 _ _ hr1,T.bD.c,T.bD.na.1,by show 0 <1000;decide,?_⟩;have T1:=T0.put (L1:=[]) (L2:=[]) (o':=.ins t.nQ dx (aH "net" (.ref n) []));generalize upd H1 r (.ins t.nQ dx (aH "net" (.ref n) []))=H2 at T1 ⊢;have s02:aJ H0 H2:=λx o e=>T1.but x o (aF e nr0) (s0 x o e);have er2:=T1.all (r,.ins t.nQ dx (aH "net" (.ref n) [])) (.head _);refine⟨_,Y,_,Y,λf dxf nf ndf nef=>?_⟩;have s3:aJ H2 (upd (upd H2 dxf (.own f)) f (.ins t.cC dxf [])):=λb o e=>by rw [aK (aF e nf),aK (aF e ndf)];exact e
  have ef:(upd (upd H2 dxf (.own f)) f (.ins t.cC dxf [])) f=some (.ins t.cC dxf []):=ao;generalize upd (upd H2 dxf (.own f)) f (.ins t.cC dxf [])=H3 at s3 ef ⊢;have s03:=s02.trans s3;have nfr:r≠f:=aF er2 nf;refine Ud ef s03 (s02.free nf) N hrw λH4 A eAf eAn b4 W4 fr4=>⟨Y,?_⟩;subst eAf;subst eAn;have er4:=b4 r _ nfr (s3 _ _ er2);have nrc:r∉A.cells ls ps:=W4.ncell er4 (by intro _ z;cases z) (by intro _ z;cases z);refine⟨_,Y,r,_,dx,_,Y,er4,T.bD.c,T.bD.na.2.1,lt_of_le_of_lt (ju (zero_le 0)) (by decide),?_⟩;have er5:upd H4 r (.ins t.nQ dx (aH "flow" (.ref A.f) (aH "net" (.ref A.n) []))) r=some (.ins t.nQ dx (aH "flow" (.ref A.f) (aH "net" (.ref A.n) []))):=ao;refine⟨_,Y,r,_,dx,_,Y,er5,T.bD.c,T.bD.na.2.2.1,lt_of_le_of_lt (ju (ju (zero_le 0))) (by decide),?_⟩;rw [rE];have s05:∀o:HO,aJ H0 (upd H4 r o):=λo b u e=>by rw [aK (aF e nr0)];exact b4 b u (aF e (s02.free nf)) (s03 b u e)
  have fr0:∀a∈A.f:: A.cells ls ps,H0 a=none:=λa ha=>by
   rcases mem_cons.mp ha with rfl | ha
   ·exact s02.free nf
   ·exact s03.free (fr4 a ha)
  refine k _ A Y (s05 _) ⟨⟨dx,_,⟨ao,ju (ju (ju (zero_le 0)))⟩,⟨?_,?_⟩⟩,N.same λb u e=>?_,W4.ins nrc nfr,nfr⟩ fr0
  ·intro q hq;simp only [mem_cons,not_mem_nil,or_false] at hq;rcases hq with rfl | rfl | rfl
   ·dsimp only;(repeat first | (rw [aC,if_pos rfl];done) | rw [aC,if_neg (by decide +kernel)])
   ·dsimp only;(repeat first | (rw [aC,if_pos rfl];done) | rw [aC,if_neg (by decide +kernel)])
   ·dsimp only;rw [aC,if_pos rfl];rfl
  ·intro m hm;have hne:∀m∈(["step", "need_doors", "next_deed", "full_lane", "can_work", "works", "lane_now", "turn", "rows_left", "part_now", "net_now"]:List Str),∀g∈(["turns", "flow", "net"]:List Str),¬m=g:=by decide +kernel
   have h:=hne m hm;rw [aC,if_neg (h _ (by simp)),aC,if_neg (h _ (by simp)),aC,if_neg (h _ (by simp))];rfl
  ·have hn:b∉r:: A.cells ls ps:=λz=>by
    rcases mem_cons.mp z with z | z
    ·rw [z,nr0] at e;cases e
    ·rw [fr0 b (.tail _ z)] at e;cases e
   unfold aQ;rw [if_neg hn];exact s05 _ b u e
inductive tD (K:Fr) (t:jq) (vs:List V) (H:Hp) (Q:VK) (E_:XK):Prop where
 | mk:∀(f n E G Kp D Rw l:Addr) (ed gd:List (Key×V)) (x:Str) (vs':List V) (g:Nat),vs=[.ref f,.str x]->qb K t H f n E G Kp D Rw->H Rw=some (.dK ed)->H D=some (.dK gd)->cj ed (Sum.inr x)=some (.ref l)->cj gd (Sum.inr x)=some (.int g)->bJ K H l vs'->(∀p,H p=none->Q (.ref p) (upd H p (.lst (vs'.drop g))))->tD K t vs H Q E_
theorem Bg (T:Txt w K mg t):FO P w K mg base 1 t.oJ ["self", "door"] (tD K t):=by have sc:=T.oW.sc ["self", "door"];refine T.oW.F.ok sc ln (λ_ _ _ _ H vs Q E hr h=>?_);obtain⟨f,n,E,G,Kp,D,Rw,l,ed,gd,x,vs',g,rfl,N,hE,hG,h3,h4,h5,k⟩:=h;refine⟨_,(aA (aM (jy mH (cJ hr.u1 (aU (pv 0) Y) (pv 1) (λ_ _=>Y)) (jD (cJ hr.u1 (aU (pv 0) Y) (pv 1) (λ_ _=>Y))) mF))),?_⟩;obtain⟨dx,fs,h1,h2⟩:=id N.ex;refine⟨_,Y,f,_,dx,fs,_,Y,h1,T.aR.c,T.aR.na.2.2.2.2.2.1,h2.has ("rows",.ref Rw) (by simp),_,Y,Rw,_,Y,(by rw [<-h3];exact eE.k (k:=Sum.inr x) hE),?_⟩;refine⟨_,Y,f,_,dx,fs,_,Y,h1,T.aR.c,T.aR.na.2.2.2.2.1,h2.has ("done",.ref D) (by simp),_,Y,D,_,Y,(by rw [<-h4];exact eE.k (k:=Sum.inr x) hG),?_⟩;refine⟨_,Y,l,vs',Y,h5,λp hp=>?_⟩;rw [Mf];exact k p hp
structure Kg (H:Hp) (D:Addr) (ra:Str->Addr) (ps:List PD) (S:FS):Prop where
 dict:H D=some (.dK (Br ra ps))
 lists:∀p∈ps,p.kind=0->H (ra p.name)=some (.lst (((S.r p.name).drop (S.d p.name)).map V.int))
theorem Kg.same {H H':Hp} {D:Addr} {ra:Str->Addr} {ps:List PD} {S:FS} (h:Kg H D ra ps S) (s:aJ H H'):Kg H' D ra ps S:=⟨s _ _ h.dict,λp hp h0=>s _ _ (h.lists p hp h0)⟩
inductive tR (K:Fr) (t:jq) (vs:List V) (H:Hp) (Q:VK) (E:XK):Prop where
 | mk:∀(r:Addr) (n:Nat) (A:jC) (ls:List aD) (ps:List PD) (S:FS),vs=[.ref r]->nY t H r A.n A.f n->eG K t H A.n ls ps->dU K t H A ls ps S->(∀(H':Hp) (D:Addr) (ra:Str->Addr),aJ H H'->Kg H' D ra ps S->H D=none->(∀p∈ps,p.kind=0->H (ra p.name)=none)->Q (.ref D) H')->tR K t vs H Q E
theorem By (T:Txt w K mg t):FO P w K mg base 4 t.oN ["self"] (tR K t):=by
 have sc:=T.oV.sc ["self", "left", "door"];refine T.oV.F.ok sc ln (λ_ _ _ _ H vs Q E hr h=>?_);obtain⟨r,n,A,ls,ps,S,rfl,hR,N,W,k⟩:=h;refine⟨_,(aq (sN sc 1 gO)
  (aq (dO PassesOwn.never rfl (bR (Ma (aU (pv 0) rfl) T.aW T.aW.me.2.2.2.2.1 (pO T) T.kY hr)) (gN sc 2)
   (aA (gQ hr.u1 (pv 1) (pv 2) (uo (aU (pv 0) rfl) T.aR T.aR.me.2.2.2.2.2.2.2.2.2.1 (Bg T) T.oW hr (aa (pv 2) ak aj)) rfl)))
  (aA (aM (pv 1))))),?_⟩
 have hz:sizeLine=16777216:=sizeLine_eq;have F:lN ls ps:=by obtain⟨_,_,_,_,_,_,_,_,_,Wn⟩:=N;exact Wn.fit
 have p16:=F.p16;refine λD nD=>?_;have s1:=aB (o:=.dK []) nD;have eD:upd H D (.dK []) D=some (.dK []):=ao;have sC:aJ H (aQ [D] (upd H D (.dK []))):=λb o e=>bL (s1 _ _ e) (by simpa using aF e nD);generalize upd H D (.dK [])=H1 at s1 eD sC ⊢;obtain⟨dxn,fsn,R,F0,Pd,Gn,Tk,FL,PL,Wn⟩:=N.same s1;obtain⟨dxr,fsr,R1⟩:=hR.same s1;refine⟨_,Y,r,_,dxr,fsr,_,Y,R1.1.1,T.bD.c,T.bD.na.1,R1.2.has ("net",.ref A.n) (by simp),A.n,dxn,fsn,Y,Wn.obj,Wn.fl.no _ (by decide +kernel),A.n,ls,ps,Y,Wn.s,λl nl=>?_⟩;have ePg:cZ ps "give" =(gB ps).map λp=>V.str p.name:=by unfold cZ;rw [Ov F.pok]
 rw [ePg];have lgP:(gB ps).length<=16:=by have:=length_filter_le (λp:PD=>decide (p.kind=0)) ps;unfold gB;omega
 have nlD:l∉[D]:=by simp;intro z;rw [z,eD] at nl;cases nl
 have eD2:upd H1 l (.lst ((gB ps).map λp=>V.str p.name)) D=some (.dK []):=aB nl _ _ eD;have el:aQ [D] (upd H1 l (.lst ((gB ps).map λp=>V.str p.name))) l=some (.lst ((gB ps).map λp=>V.str p.name)):=bL ao nlD;have sC2:=sC.trans (Ed (E:=[D]) (o:=.lst ((gB ps).map λp=>V.str p.name)) nl);generalize upd H1 l (.lst ((gB ps).map λp=>V.str p.name))=H2 at eD2 el sC2 ⊢;refine⟨l,Y,⟨_,bJ.of (bF _ _ el)⟩,du (K:=K) (a:=l) (xs:=(gB ps).map λp=>V.str p.name) (λj σ H'=>(∃v2,σ=[some (.ref r),some (.ref D),v2])/\aJ (aQ [D] H2) (aQ [D] H')/\∃RL:List (PD×Addr),RL.map (·.1)=(gB ps).take j/\H' D=some (.dK (RL.map λq=>((Sum.inr q.1.name:Key),V.ref q.2)))/\∀q∈RL,aQ [D] H' q.2=some (.lst (((S.r q.1.name).drop (S.d q.1.name)).map V.int))/\H q.2=none) ⟨⟨none,Y⟩,aJ.refl _,[],Y,eD2,by simp⟩ (λj σ H' _ h=>bJ.of (bF _ _ (h.2.1 _ _ el))) ?_ ?_⟩
 ·rintro j x σ H3 hx ⟨⟨w2,rfl⟩,c3,RL,eRL,eD3,hRL⟩;rw [getElem?_map] at hx;obtain⟨p,hpj,rfl⟩:=map_eq_some_iff.mp hx;have hf:=mem_filter.mp (mem_of_getElem? hpj);have h0:p.kind=0:=by simpa using hf.2
  have s3:=(sC2.trans c3).trans bF;have W3:=W.same s3;obtain⟨dxr,fsr,R2⟩:=hR.same s3;obtain⟨dx,fs,h1,h2⟩:=id W3.at'.ex;have nin:=oG (Ea F.pnd) hpj;have lRL:RL.length<=16:=by have:=congrArg List.length eRL;rw [lM,length_take] at this;omega
  have vR:cj (RL.map λq=>((Sum.inr q.1.name:Key),V.ref q.2)) (Sum.inr p.name)=none:=jw (by rw [map_map];intro z;obtain⟨q,hq,e⟩:=mem_map.mp z;have hm:q.1∈RL.map (·.1):=mem_map.mpr ⟨q,hq,rfl⟩;rw [eRL] at hm;exact nin (mem_map.mpr ⟨q.1,hm,by injection e⟩))
  refine⟨_,Y,r,_,dxr,fsr,_,Y,R2.1.1,T.bD.c,T.bD.na.2.1,R2.2.has ("flow",.ref A.f) (by simp),A.f,dx,fs,Y,h1,h2.no _ (by decide +kernel),_,Y,A.f,A.n,A.E,A.G,A.Kp,A.D,A.Rw,A.ra p.name,_,_,p.name,_,S.d p.name,Y,W3.at',W3.rows,W3.done,sZ F.pnd hf.1 h0,lV (k:=λx=>(S.d x:Int)) F.pnd hf.1,bJ.of (W3.rlst p hf.1 h0),λu nu=>?_⟩;rw [<-map_drop];have nuD:u≠D:=λz=>by rw [z,eD3] at nu;cases nu
  refine⟨_,Y,_,Y,D,_,Y,pC.k (k:=Sum.inr p.name) (by rw [aK (Ne.symm nuD)];exact eD3) (by rw [lM];omega),?_⟩;rw [j7 _ vR];refine⟨⟨_,rfl⟩,by rw [dH (by simp)];exact c3.trans (Ed nu),RL ++ [(p,u)],by rw [map_append,eRL,take_succ,hpj];rfl,by rw [ao,map_append];rfl,λq hq=>?_⟩;rw [dH (by simp)];rcases mem_append.mp hq with h | h
  ·exact⟨Ed nu _ _ (hRL q h).1,(hRL q h).2⟩
  ·rw [mem_singleton] at h;subst h;exact⟨bL ao (by simpa using nuD),s3.free nu⟩
 rintro σ H3 ⟨⟨w2,rfl⟩,c3,RL,eRL,eD3,hRL⟩;rw [lM,take_length] at eRL;have nR:(RL.map λq=>q.1.name).Nodup:=by
  have:(RL.map (·.1)).map (·.name)=RL.map λq=>q.1.name:=by rw [map_map];rfl
  rw [<-this,eRL];exact Ea F.pnd
 refine⟨_,Y,k H3 D (vH (·.name) RL) ((sC2.trans c3).trans bF) ⟨?_,λp hp h0=>?_⟩ nD λp hp h0=>?_⟩
 ·have:Br (vH (·.name) RL) ps=RL.map λq=>((Sum.inr q.1.name:Key),V.ref q.2):=by unfold Br;rw [<-eRL,map_map];refine map_congr_left λq hq=>?_;show((Sum.inr q.1.name:Key),V.ref (vH (·.name) RL q.1.name))=_;rw [show vH (·.name) RL q.1.name=q.2 from nH nR hq]
  rw [this];exact eD3
 ·have hm:p∈RL.map (·.1):=by rw [eRL];exact mem_filter.mpr ⟨hp,by simp [h0]⟩
  obtain⟨q,hq,rfl⟩:=mem_map.mp hm;rw [show vH (·.name) RL q.1.name=q.2 from nH nR hq];exact bF _ _ (hRL q hq).1
 ·have hm:p∈RL.map (·.1):=by rw [eRL];exact mem_filter.mpr ⟨hp,by simp [h0]⟩
  obtain⟨q,hq,rfl⟩:=mem_map.mp hm;rw [show vH (·.name) RL q.1.name=q.2 from nH nR hq];exact(hRL q hq).2
theorem zV (i:Nat) (xs:List Str) (hs:List V):cz i xs hs=.non∨∃x,cz i xs hs=.str x:=by
 unfold cz;split
 ·rename_i q _;cases xs[q]? with
  | none=>exact .inl rfl
  | some x=>exact .inr ⟨x,rfl⟩
 ·exact .inl Y
noncomputable def Hg (S:FS) (p:PD):List (Str×Int):=(cQ p.kind p.nums (vB S p) (S.k p.name)).map λpv=>(strAt p.outs pv.1.toNat,pv.2)
noncomputable def iw (ls:List aD) (S:FS) (p:PD):Option (Str×Str):=match cz p.kind p.ins (aN S p) with
 | .str x=>some (x,("value" :Str))
 | _=>if qK S p=true then some (("" :Str),("end" :Str)) else match (Hg S p).find? (j6 ls S) with
  | some q=>some (q.1,("room" :Str))
  | none=>none
theorem ux {ls:List aD} {S:FS} {p:PD} {x:Str} (h:cz p.kind p.ins (aN S p)=.str x):iw ls S p=some (x,("value" :Str)):=by unfold iw;rw [h]
theorem zc {ls:List aD} {S:FS} {p:PD} (h:cz p.kind p.ins (aN S p)=.non) (he:qK S p=true):iw ls S p=some (("" :Str),("end" :Str)):=by unfold iw;rw [h];exact if_pos he
theorem ug {ls:List aD} {S:FS} {p:PD} (h:cz p.kind p.ins (aN S p)=.non) (he:qK S p=false):iw ls S p=match (Hg S p).find? (j6 ls S) with
  | some q=>some (q.1,("room" :Str))
  | none=>none:=by unfold iw;rw [h];exact if_neg (by simp [he])
inductive Dk (K:Fr) (t:jq) (vs:List V) (H:Hp) (Q:VK):Prop where
 | mk:∀(b:Nat) (r:Addr) (n:Nat) (A:jC) (ls:List aD) (ps:List PD) (S:FS) (p:PD),vs=[.ref r,.str p.name]->nY t H r A.n A.f n->eG K t H A.n ls ps->dU K t H A ls ps S->yF b ls ps S->p∈ps->((iw ls S p=none->∀H',aJ H H'->Q .non H'))->(∀x y,iw ls S p=some (x,y)->∀H' u,aJ H H'->H u=none->H' u=some (.tup [.str p.name,.str x,.str y])->Q (.ref u) H')->Dk K t vs H Q
@[irreducible] noncomputable def qz (K:Fr) (t:jq):Sp:=λvs H Q _=>Dk K t vs H Q
theorem Oj (T:Txt w K mg t):FO P w K mg base 6 t.IK ["run", "name"] (qz K t):=by
 have sc:=T.BJ.sc ["run", "name", "lane"];refine T.BJ.F.ok sc (λvs H Q E h=>?_) (λcdv A outer s H vs Q E hr h=>?_)
 ·unfold qz at h;obtain⟨b,r,n,A,ls,ps,S,p,rfl,_⟩:=h;rfl
 ·unfold qz at h;obtain⟨b,r,n,A,ls,ps,S,p,rfl,hR,N,W,O,hp,kN,kS⟩:=h;refine⟨_,(aq (sN sc 2 (uo (aU (pv 0) Y) T.aR T.aR.me.2.2.2.2.2.2.1 (uR T) T.lG hr (aa (pv 1) ak aj)))
   (aq (bU (jo (z8 (pv 2)))
    (aA (aM (cL (aa (pv 1) (aa (pv 2) (aa bQ ak az) aj) aj))))
    bA)
   (aq (bU (jZ (uo (aU (pv 0) rfl) T.aR T.aR.me.2.2.2.2.1 (rC T) T.jP hr (aa (pv 1) ak aj)))
    (aA (aM (cL (aa (pv 1) (aa bQ (aa bQ ak az) az) aj))))
    bA)
   (aq (sN sc 2 (uo (pv 0) T.bD T.bD.me.2.1 (tE T) T.kh hr (aa (uo (aU (pv 0) rfl) T.aR T.aR.me.2.2.2.2.2.2.2.1 (zJ T) T.qT hr (aa (pv 1) ak aj)) ak aX)))
   (aA (aM (qj (jo (Ca (pv 2))) vC (cL (aa (pv 1) (aa (pv 2) (aa bQ ak az) aj) aj))))))))),?_⟩
  have hz:sizeLine=16777216:=sizeLine_eq;have F:lN ls ps:=by obtain⟨_,_,_,_,_,_,_,_,_,Wn⟩:=N;exact Wn.fit
  obtain⟨dxr,fsr,R0⟩:=id hR;obtain⟨dx,fs,h1,h2⟩:=id W.at'.ex;have vd:=lV (k:=λx=>(S.d x:Int)) F.pnd hp;refine⟨_,Y,r,_,dxr,fsr,_,Y,R0.1.1,T.bD.c,T.bD.na.2.1,R0.2.has ("flow",.ref A.f) (by simp),A.f,dx,fs,Y,h1,h2.no _ (by decide +kernel),_,Y,A,ls,ps,S,p,Y,N,W,hp,λH1 s1=>?_⟩;rcases zV p.kind p.ins (aN S p) with hlk | ⟨x,hlk⟩;rotate_left
  ·rw [hlk];exact⟨_,Y,_,Y,iy ⟨_,Y,_,Y,jB,λu nu=>kS _ _ (ux hlk) _ u (s1.trans (aB nu)) (s1.free nu) ao⟩⟩
  rw [hlk];refine⟨_,Y,_,Y,dz ?_⟩;obtain⟨dxr,fsr,R1⟩:=hR.same s1;have W1:=W.same s1;refine⟨_,Y,r,_,dxr,fsr,_,Y,R1.1.1,T.bD.c,T.bD.na.2.1,R1.2.has ("flow",.ref A.f) (by simp),A.f,dx,fs,Y,s1 _ _ h1,h2.no _ (by decide +kernel),_,Y,?_⟩;cases he:qK S p with
  | true=>
   have h0:p.kind=0/\S.d p.name=(S.r p.name).length:=by unfold qK at he;simpa using he
   refine QS W1.at' W1.rows W1.done (.inr ⟨_,_,S.d p.name,sZ F.pnd hp h0.1,vd,bJ.of (W1.rlst p hp h0.1),?_⟩);rw [decide_eq_true (by rw [lM];exact h0.2)];exact⟨_,Y,iy ⟨_,Y,jB,λu nu=>kS _ _ (zc hlk he) _ u (s1.trans (aB nu)) (s1.free nu) ao⟩⟩
  | false=>
  have pick:∀(Q':VK) (E':XK),Q' (.bl false) H1->dZ K t [.ref A.f,.str p.name] H1 Q' E':=by
   intro Q' E' z;refine QS W1.at' W1.rows W1.done ?_;by_cases h0:p.kind=0
   ·refine .inr ⟨_,_,S.d p.name,sZ F.pnd hp h0,vd,bJ.of (W1.rlst p hp h0),?_⟩;unfold qK at he;simp [h0] at he;rw [decide_eq_false (by rw [lM];exact he)];exact z
   ·exact .inl ⟨Jw F.pnd hp h0,z⟩
  refine pick _ _ ⟨_,Y,dz ?_⟩;clear pick;refine⟨_,Y,r,dxr,fsr,Y,R1.1.1,R1.2.no _ (by decide +kernel),_,Y,r,_,dxr,fsr,_,Y,R1.1.1,T.bD.c,T.bD.na.2.1,R1.2.has ("flow",.ref A.f) (by simp),A.f,dx,fs,Y,s1 _ _ h1,h2.no _ (by decide +kernel),_,Y,?_⟩;have hdd:fC S p=some ⟨(places p.kind (aN S p)).map (strAt p.ins),Hg S p,fW p.kind (vB S p) (S.k p.name)⟩:=by unfold fC;rw [if_neg (by simp [hlk]),if_neg (by simp [he])];rfl
  refine Qq (N.same s1) W1 hp O (λhn=>by rw [hdd] at hn;cases hn) (λdd hd H2 U s2 nU DA=>?_);rw [hdd] at hd;cases hd;have s12:=s1.trans s2;refine⟨r,n,A,ls,ps,S,_,U,_,Y,hR.same s12,N.same s12,W.same s12,DA,(xr F hp hdd).gin,λH3 s3=>?_⟩;have s13:=s12.trans s3;have ew:=ug (ls:=ls) hlk he;unfold yo;dsimp only;cases hf:(Hg S p).find? (j6 ls S) with
  | none=>
   rw [hf] at ew;exact⟨_,Y,_,Y,iy (kN ew _ s13)⟩
  | some q=>
   rw [hf] at ew;exact⟨_,Y,_,Y,dz ⟨_,Y,_,Y,jB,λu nu=>kS _ _ ew _ u (s13.trans (aB nu)) (s13.free nu) ao⟩⟩
theorem Vj {H:Hp} {Q:VK} {Ex:XK} {b:Nat} {r:Addr} {n:Nat} {A:jC} {ls:List aD} {ps:List PD} {S:FS} {p:PD} (hR:nY t H r A.n A.f n) (N:eG K t H A.n ls ps) (W:dU K t H A ls ps S) (O:yF b ls ps S) (hp:p∈ps) (kN:iw ls S p=none->∀H',aJ H H'->Q .non H')
  (kS:∀x y,iw ls S p=some (x,y)->∀H' u,aJ H H'->H u=none->H' u=some (.tup [.str p.name,.str x,.str y])->Q (.ref u) H'):qz K t [.ref r,.str p.name] H Q Ex:=by
 unfold qz;exact⟨b,r,n,A,ls,ps,S,p,Y,hR,N,W,O,hp,kN,kS⟩
noncomputable def ik (ls:List aD) (S:FS) (ps:List PD):List (Str×Str×Str):=ps.filterMap λp=>(iw ls S p).map λw=>(p.name,w.1,w.2)
noncomputable def Ha (w:Str×Str×Str):List V:=[.str w.1,.str w.2.1,.str w.2.2]
theorem TY (ls:List aD) (S:FS) (ps:List PD) (p:PD):ik ls S (ps ++ [p])=ik ls S ps ++ ((iw ls S p).map λw=>(p.name,w.1,w.2)).toList:=by unfold ik;rw [List.filterMap_append,filterMap_cons,List.filterMap_nil];cases iw ls S p <;> rfl
theorem Xo (ls:List aD) (S:FS) (ps:List PD):(ik ls S ps).length<=ps.length:=List.length_filterMap_le _ _
inductive Cd (K:Fr) (t:jq) (vs:List V) (H:Hp) (Q:VK) (E:XK):Prop where
 | mk:∀(b:Nat) (r:Addr) (n:Nat) (A:jC) (ls:List aD) (ps:List PD) (S:FS),vs=[.ref r]->nY t H r A.n A.f n->eG K t H A.n ls ps->dU K t H A ls ps S->yF b ls ps S->(∀(H':Hp) (L:Addr) (us:List Addr),aJ H H'->H L=none->H' L=some (.lst (us.map V.ref))->dw H' us ((ik ls S ps).map Ha)->(∀u∈us,H u=none)->Q (.ref L) H')->Cd K t vs H Q E
theorem Cg (T:Txt w K mg t):FO P w K mg base 7 t.Gj ["run"] (Cd K t):=by
 have sc:=T.uf.sc ["run", "waits"];refine T.uf.F.ok sc ln (λ_ _ _ _ H vs Q E hr h=>?_);obtain⟨b,r,n,A,ls,ps,S,rfl,hR,N,W,O,k⟩:=h;refine⟨_,(aq (jJ (i:=1) [0] ["run", "waits"] (aZ (top 5)) Y sc.nd Y (bR (Ma (aU (pv 0) Y) T.aW T.aW.me.2.2.1 (d9 T) T.dg hr)) (λ_ _ _ _ _=>gj) (λ_ _ _ _ _=>(dX (Oj T) T.BJ hr (aa (pv 1) (aa (pv 0) ak aj) aj))))
  (aA (aM (eY [] ["run", "waits"] (aZ (top 5)) rfl (bR (pv 1)) (λ_ _ _ _ _=>(vm (jo (z8 (pv 0))))) (λ_ _ _ _ _=>(pv 0)))))),?_⟩
 have hz:sizeLine=16777216:=sizeLine_eq;obtain⟨dxn,fsn,R,F0,Pd,Gn,Tk,FL,PL,Wn⟩:=id N;have p16:=Wn.fit.p16;obtain⟨dxr,fsr,R0⟩:=id hR;refine⟨_,Y,r,_,dxr,fsr,_,Y,R0.1.1,T.bD.c,T.bD.na.1,R0.2.has ("net",.ref A.n) (by simp),A.n,dxn,fsn,Y,Wn.obj,Wn.fl.no _ (by decide +kernel),A.n,ls,ps,Y,N,λl nl=>?_⟩;have s1:=aB (o:=.lst (ps.map λx=>V.str x.name)) nl;have el:upd H l (.lst (ps.map λx=>V.str x.name)) l=some (.lst (ps.map λx=>V.str x.name)):=ao;generalize upd H l (.lst (ps.map λx=>V.str x.name))=H1 at s1 el ⊢;refine⟨l,rfl,⟨_,bJ.of el⟩,fB (K:=K) (a:=l) (xs:=ps.map λx=>V.str x.name) (λj ys H'=>aJ H1 H'/\ys.length=j/\∃us:List Addr,ys.filter (λv=>!decide (v=.non))=us.map V.ref/\dw H' us ((ik ls S (ps.take j)).map Ha)/\(∀u∈us,H u=none)/\∀v∈ys,v=.non∨∃u,v=.ref u) (by rw [lM];omega) ⟨aJ.refl _,rfl,[],rfl,.nil,by simp,by simp⟩ (λj ys H' h=>by omega) (λj ys H' _ h=>h.1.seq (bJ.of el)) ?_ ?_⟩
 ·rintro j x ys H2 hx ⟨s2,ly,us,eu,tu,fu,hv⟩;rw [getElem?_map] at hx;obtain⟨p,hpj,rfl⟩:=map_eq_some_iff.mp hx;have s12:=s1.trans s2;rw [take_succ,hpj,toList_some,TY,map_append];refine yes ⟨_,Y,_,Y,Vj (hR.same s12) (N.same s12) (W.same s12) O (mem_of_getElem? hpj) (λhn H3 s3=>?_) (λx y hw H3 u s3 nu eu3=>?_)⟩
  ·rw [hn];refine⟨s2.trans s3,by rw [lP,ly];rfl,us,by rw [filter_append,eu];simp,by simpa using dw.same s3 tu,fu,λv h=>?_⟩;rcases mem_append.mp h with h | h
   ·exact hv v h
   ·exact .inl (mem_singleton.mp h)
  ·rw [hw];refine⟨s2.trans s3,by rw [lP,ly];rfl,us ++ [u],by rw [filter_append,eu];simp,(dw.same s3 tu).append (.cons eu3 .nil),λz hz=>?_,λv h=>?_⟩
   ·rcases mem_append.mp hz with h | h
    ·exact fu z h
    ·rw [mem_singleton.mp h];exact s12.free nu
   ·rcases mem_append.mp h with h | h
    ·exact hv v h
    ·exact .inr ⟨u,mem_singleton.mp h⟩
 rintro ys H2 ⟨s2,ly,us,eu,tu,fu,hv⟩ L1 nL1;rw [lM] at ly;rw [lM,take_length] at tu;have t3:=aB (o:=.lst ys) nL1;have eL1:upd H2 L1 (.lst ys) L1=some (.lst ys):=ao;have tu3:=dw.same t3 tu;have s13:=(s1.trans s2).trans t3;generalize upd H2 L1 (.lst ys)=H3 at t3 eL1 tu3 s13 ⊢;refine⟨_,Y,L1,Y,⟨_,bJ.of eL1⟩,fB (K:=K) (a:=L1) (xs:=ys) (λj zs H'=>H'=H3/\zs=(ys.take j).filter (λv=>!decide (v=.non))) (by omega) ⟨Y,Y⟩ (λj zs H' ⟨_,e⟩=>by rw [e];exact le_trans (length_filter_le _ _) (by rw [length_take];omega)) (λj zs H' _ ⟨e,_⟩=>by rw [e];exact bJ.of eL1) ?_ ?_⟩
 ·rintro j v zs H' hj ⟨rfl,rfl⟩;refine⟨_,Y,_,Y,?_⟩;rw [take_succ,hj,toList_some,filter_append];rcases hv v (mem_of_getElem? hj) with rfl | ⟨u,rfl⟩
  ·exact dz ⟨Y,by simp⟩
  ·exact iy ⟨_,Y,Y,by simp⟩
 rintro zs H' ⟨rfl,rfl⟩ L2 nL2;rw [take_length,eu];have t4:=aB (o:=.lst (us.map V.ref)) nL2;exact k _ L2 us (s13.trans t4) (s13.free nL2) ao (dw.same t4 tu3) fu
theorem G8 (T:Txt w K mg t) (i:Nat):MethAt P w K mg base BX 4 (cls t i) "with_memory" (jH K t i):=match i with
 | 0=>⟨_,_,_,T.jg.c,(T.aY.me T.jg.me.2.2.2.2.2.2.1),T.aY.b,(bW T).imp λ_ _ _ _ h=>⟨_,by omega,h⟩⟩
 | 1=>⟨_,_,_,T.iW.c,(T.aY.me T.iW.me.2.2.2.2.2.2.1),T.aY.b,(bW T).imp λ_ _ _ _ h=>⟨_,by omega,h⟩⟩
 | 2=>⟨_,_,_,T.jh.c,(T.aY.me T.jh.me.2.2.2.2.2.2.1),T.aY.b,(bW T).imp λ_ _ _ _ h=>⟨_,by omega,h⟩⟩
 | 3=>⟨_,_,_,T.je.c,(T.aY.me T.je.me.2.2.2.2.2.2.1),T.aY.b,(bW T).imp λ_ _ _ _ h=>⟨_,by omega,h⟩⟩
 | 4=>⟨_,_,_,T.jj.c,(T.aY.me T.jj.me.2.2.2.2.2.2.1),T.aY.b,(bW T).imp λ_ _ _ _ h=>⟨_,by omega,h⟩⟩
 | 5=>⟨_,_,_,T.gU.c,(T.iZ.me T.gU.me.2.2.2.2.2.2.1),T.iZ.b,(xQ T).mono (by decide)⟩
 | 6=>⟨_,_,_,T.lB.c,(T.aY.me T.lB.me.2.2.2.2.2.2.1),T.aY.b,(bW T).imp λ_ _ _ _ h=>⟨_,by omega,h⟩⟩
 | 7=>⟨_,_,_,T.iY.c,(T.aY.me T.iY.me.2.2.2.2.2.2.1),T.aY.b,(bW T).imp λ_ _ _ _ h=>⟨_,by omega,h⟩⟩
 | 8=>⟨_,_,_,T.fO.c,(T.aY.me T.fO.me.2.2.2.2.2.2.1),T.aY.b,(bW T).imp λ_ _ _ _ h=>⟨_,by omega,h⟩⟩
 | 9=>⟨_,_,_,T.d7.c,(T.aY.me T.d7.me.2.2.2.2.2.2.1),T.aY.b,(bW T).imp λ_ _ _ _ h=>⟨_,by omega,h⟩⟩
 | n+10=>⟨_,_,_,T.fP.c,(T.aY.me T.fP.me.2.2.2.2.2.2.1),T.aY.b,(bW T).imp λ_ _ _ _ h=>⟨_,by omega,h⟩⟩
noncomputable def cG (k:Str->Int) (p:PD):PD:=if p.kind=5 then { p with nums:=[k p.name] } else p
theorem jl (k:Str->Int) (p:PD):(cG k p).kind=p.kind/\(cG k p).name=p.name/\(cG k p).ins=p.ins/\(cG k p).outs=p.outs:=by unfold cG;split <;> exact⟨rfl,rfl,rfl,rfl⟩
inductive uN (K:Fr) (t:jq) (vs:List V) (H:Hp) (Q:VK) (E:XK):Prop where
 | mk:∀(r:Addr) (n:Nat) (A:jC) (ls:List aD) (ps:List PD) (S:FS) (p:PD),vs=[.ref r,.str p.name]->nY t H r A.n A.f n->eG K t H A.n ls ps->dU K t H A ls ps S->p∈ps->(∀H' u,aJ H H'->Mz K H' (.ref u) (cG S.k p)->Q (.ref u) H')->uN K t vs H Q E
theorem DG (T:Txt w K mg t):FO P w K mg base 5 t.qF ["self", "name"] (uN K t):=by
 have sc:=T.qm.sc ["self", "name"];refine T.qm.F.ok sc ln (λ_ _ _ _ H vs Q E hr h=>?_);obtain⟨r,n,A,ls,ps,S,p,rfl,hR,N,W,hp,k⟩:=h;refine⟨_,(aA (aM (dX (Rm T) T.Fx hr (aa (vD (CX:=BX) (k:=4) (E:=E0) (uo (aU (pv 0) Y) T.aW T.aW.me.2.2.2.2.2.2.2.2.2.2.2.1 (jO T) T.gZ hr (aa (pv 1) ak aj)) (hr.mono (by decide)) gh (aa (cJ hr.u1 (aU (aU (pv 0) Y) Y) (pv 1) (λ_ _=>Y)) ak aG)) ak aX)))),?_⟩;obtain⟨dxn,fsn,R,F0,Pd,Gn,Tk,FL,PL,Wn⟩:=id N;have F:=Wn.fit;have ok:=F.pok p hp;obtain⟨dxr,fsr,R0⟩:=id hR;refine⟨_,Y,r,_,dxr,fsr,_,Y,R0.1.1,T.bD.c,T.bD.na.1,R0.2.has ("net",.ref A.n) (by simp),A.n,dxn,fsn,Y,Wn.obj,Wn.fl.no _ (by decide +kernel),_,Y,A.n,ls,ps,p.name,Y,N,.inl ⟨p,hp,Y,λH1 q s1 P1=>?_⟩⟩;obtain⟨dxr,fsr,R1⟩:=hR.same s1;have W1:=W.same s1;obtain⟨dx,fs,h1,h2⟩:=id W1.at'.ex;obtain⟨dxp,tn,ti,to,p1,p2,p3,p4⟩:=id P1.ex;refine⟨q,cls t p.kind,dxp,_,jH K t p.kind,Y,p1,mJ _ _ _ _ (by decide +kernel) (by decide +kernel) (by decide +kernel) (by decide +kernel),G8 T p.kind,_,Y,r,_,dxr,fsr,_,Y,R1.1.1,T.bD.c,T.bD.na.2.1,R1.2.has ("flow",.ref A.f) (by simp),A.f,_,dx,fs,_,Y,h1,T.aR.c,T.aR.na.2.2.2.1,h2.has ("kept",.ref A.Kp) (by simp),_,Y,A.Kp,_,Y,(by rw [<-lV (k:=S.k) F.pnd hp];exact eE.k (k:=Sum.inr p.name) W1.kept),?_⟩;refine⟨q,_,_,_,_,_,Y,by have:=ok.1;omega,P1,λH2 u s2 nu P2=>?_⟩;have e:J2 p.kind (.int (S.k p.name)) (p.nums.map V.int)=(cG S.k p).nums.map V.int:=by unfold J2 cG;split <;> rfl
 have ek:=jl S.k p;rw [e] at P2;have P2:fQ K t H2 u (cG S.k p).kind (.str (cG S.k p).name) ((cG S.k p).nums.map V.int) ((cG S.k p).ins.map V.str) ((cG S.k p).outs.map V.str):=by rw [ek.1,ek.2.1,ek.2.2.1,ek.2.2.2];exact P2
 refine⟨u,cG S.k p,Y,P2,λx a1 a2 a3 nx t1 t2 t3=>?_⟩;have sx:=aB (o:=.tup [.str (fD (cG S.k p).kind),.str (cG S.k p).name,.ref a1,.ref a2,.ref a3]) nx;exact k _ x (s1.trans (s2.trans sx)) ⟨x,a1,a2,a3,Y,ao,sx.seqT t1,sx.seqT t2,sx.seqT t3⟩
noncomputable def iQ (S:FS) (l:aD):aD:=⟨l.name,l.room,(S.ev l.name).drop (S.g l.name)⟩
theorem zL.same {H H':Hp} {v:V} {l:aD} (h:zL K H v l) (s:aJ H H'):zL K H' v l:=by obtain⟨q,f,e,h1,h2⟩:=h;exact⟨q,f,e,s _ _ h1,s.seqA h2⟩
inductive wM (K:Fr) (t:jq) (vs:List V) (H:Hp) (Q:VK) (E:XK):Prop where
 | mk:∀(r:Addr) (n:Nat) (A:jC) (ls:List aD) (ps:List PD) (S:FS),vs=[.ref r]->nY t H r A.n A.f n->eG K t H A.n ls ps->dU K t H A ls ps S->lN (ls.map (iQ S)) (ps.map (cG S.k))->(∀H' n',aJ H H'->H n'=none->Pb K t H H' n' (ls.map (iQ S)) (ps.map (cG S.k))->Q (.ref n') H')->wM K t vs H Q E
theorem GJ (T:Txt w K mg t):FO P w K mg base 8 t.rZ ["self"] (wM K t):=by
 have sc:=T.rQ.sc ["self", "names", "lanes"];refine T.rQ.F.ok sc ln (λ_ _ _ _ H vs Q E hr h=>?_);obtain⟨r,n,A,ls,ps,S,rfl,hR,N,W,hF,k⟩:=h;refine⟨_,(aq (sN sc 1 (Ma (aU (pv 0) Y) T.aW T.aW.me.2.1 (lu T) T.iH hr))
  (aq (jJ (i:=2) [0] ["self", "names", "lanes"] (aZ (inClass (top 70) 11)) rfl sc.nd rfl (bR (pv 1)) (λ_ _ _ _ _=>gj) (λ_ _ _ _ _=>(cL (aa (pv 0) (aa (uo (Ec (K:=K) rfl (pv 1) rfl) T.aW T.aW.me.2.2.2.2.2.2.2.1 (wX T) T.mY hr (aa (pv 0) ak aj)) (aa (uo (pv 1) T.bD T.bD.me.2.2.2.2.2.2.1 (Dy T) T.qJ hr (aa (pv 0) ak aj)) ak aX) aX) aj))))
  (aA (aM (gP (T.aW.M T.iI) (uV T) (hr.mono (by decide)) (by rfl) T.aW.m T.iI.b .nil gh (aa (pv 2) (aa (eY [0] ["self", "names", "lanes"] (aZ (inClass (top 70) 11)) rfl (bR (Ma (aU (pv 0) rfl) T.aW T.aW.me.2.2.1 (d9 T) T.dg hr)) (λ_ _ _ _ _=>gj) (λ_ _ _ _ _=>(uo (pv 1) T.bD T.bD.me.2.2.2.2.2.2.2.2.1 (DG T) T.qm hr (aa (pv 0) ak aj)))) ak ie) aj)))))),?_⟩
 have hz:sizeLine=16777216:=sizeLine_eq;obtain⟨dxn,fsn,R,F0,Pd,Gn,Tk,FL,PL,Wn⟩:=id N;have F:=Wn.fit;have l24:=F.l24;have p16:=F.p16;obtain⟨dxr,fsr,R0⟩:=id hR;refine⟨_,Y,r,_,dxr,fsr,_,Y,R0.1.1,T.bD.c,T.bD.na.1,R0.2.has ("net",.ref A.n) (by simp),A.n,dxn,fsn,Y,Wn.obj,Wn.fl.no _ (by decide +kernel),A.n,ls,ps,Y,N,λLn nLn=>?_⟩;have t1:=aB (o:=.lst (ls.map λx:aD=>V.str x.name)) nLn;have eLn:upd H Ln (.lst (ls.map λx:aD=>V.str x.name)) Ln=some (.lst (ls.map λx:aD=>V.str x.name)):=ao;generalize upd H Ln (.lst (ls.map λx:aD=>V.str x.name))=H1 at t1 eLn ⊢;refine⟨_,Y,Ln,Y,⟨_,bJ.of eLn⟩,?_⟩;refine fB (K:=K) (a:=Ln) (xs:=ls.map λx:aD=>V.str x.name) (λj zs H'=>aJ H1 H'/\zs.length<=j/\j4 (zL K H') zs ((ls.take j).map (iQ S))) (by rw [lM];omega) ⟨aJ.refl _,le_refl _,.nil⟩ (λj zs H' h=>h.2.1) (λj zs H' _ h=>h.1.seq (bJ.of eLn)) ?_ ?_
 ·rintro j x zs H' hx ⟨s,hl',hA⟩;rw [getElem?_map] at hx;obtain⟨l,hlj,rfl⟩:=map_eq_some_iff.mp hx;have hm:=mem_of_getElem? hlj;have s2:=t1.trans s;obtain⟨dxn,fsn,R,F0,Pd,Gn,Tk,FL,PL,Wn2⟩:=N.same s2;obtain⟨dxr,fsr,R2⟩:=hR.same s2;refine yes ⟨_,Y,_,Y,r,_,dxr,fsr,_,Y,R2.1.1,T.bD.c,T.bD.na.1,R2.2.has ("net",.ref A.n) (by simp),A.n,dxn,fsn,Y,Wn2.obj,Wn2.fl.no _ (by decide +kernel),_,Y,A.n,ls,ps,l.name,Y,Wn2.s,.inl ⟨l,hm,Y,λH3 s3=>?_⟩⟩;have s03:=s2.trans s3;obtain⟨dxr3,fsr3,R3⟩:=hR.same s03;refine⟨_,Y,r,dxr3,fsr3,Y,R3.1.1,R3.2.no _ (by decide +kernel),_,Y,r,n,A,ls,ps,S,l,Y,hR.same s03,N.same s03,W.same s03,hm,λH4 p s4 np ep=>⟨jB,λu nu=>?_⟩⟩;have su:=aB (o:=.tup [.str l.name,.int l.room,.ref p]) nu;have sz:=s3.trans (s4.trans su);refine⟨s.trans sz,by rw [lP,length_singleton];omega,?_⟩;rw [take_succ,hlj,toList_some,map_append,map_singleton];exact(hA.imp λ_ _ h=>zL.same h sz).app (.cons ⟨u,p,Y,ao,.inl (bJ.of (su _ _ ep))⟩ .nil)
 rintro zs H2 ⟨s2,hl',hA⟩ L nL;rw [lM,take_length] at hA;have t3:=aB (o:=.lst zs) nL;have eL:upd H2 L (.lst zs) L=some (.lst zs):=ao;have hA3:=hA.imp λ_ _ h=>zL.same h t3;have s3:=t1.trans (s2.trans t3);generalize upd H2 L (.lst zs)=H3 at t3 eL hA3 s3 ⊢;obtain⟨dxn3,fsn3,R3,F3,Pd3,Gn3,Tk3,FL3,PL3,Wn3⟩:=N.same s3;obtain⟨dxr,fsr,R3⟩:=hR.same s3;refine⟨_,Y,_,Y,r,_,dxr,fsr,_,Y,R3.1.1,T.bD.c,T.bD.na.1,R3.2.has ("net",.ref A.n) (by simp),A.n,dxn3,fsn3,Y,Wn3.obj,Wn3.fl.no _ (by decide +kernel),A.n,ls,ps,Y,Wn3.s,λPn nPn=>?_⟩;have t4:=aB (o:=.lst (ps.map λx:PD=>V.str x.name)) nPn;have ePn:upd H3 Pn (.lst (ps.map λx:PD=>V.str x.name)) Pn=some (.lst (ps.map λx:PD=>V.str x.name)):=ao;generalize upd H3 Pn (.lst (ps.map λx:PD=>V.str x.name))=H4 at t4 ePn ⊢;refine⟨Pn,Y,⟨_,bJ.of ePn⟩,?_⟩;refine fB (K:=K) (a:=Pn) (xs:=ps.map λx:PD=>V.str x.name) (λj ws H'=>aJ H4 H'/\ws.length<=j/\j4 (Mz K H') ws ((ps.take j).map (cG S.k))) (by rw [lM];omega) ⟨aJ.refl _,le_refl _,.nil⟩ (λj zs H' h=>h.2.1) (λj zs H' _ h=>h.1.seq (bJ.of ePn)) ?_ ?_
 ·rintro j x ws H' hx ⟨s,hw,hB⟩;rw [getElem?_map] at hx;obtain⟨p,hpj,rfl⟩:=map_eq_some_iff.mp hx;have s5:=s3.trans (t4.trans s);obtain⟨dxr5,fsr5,R5⟩:=hR.same s5;refine yes ⟨_,Y,r,dxr5,fsr5,Y,R5.1.1,R5.2.no _ (by decide +kernel),_,Y,r,n,A,ls,ps,S,p,Y,hR.same s5,N.same s5,W.same s5,mem_of_getElem? hpj,λH6 u s6 hu=>?_⟩;refine⟨s.trans s6,by rw [lP,length_singleton];omega,?_⟩;rw [take_succ,hpj,toList_some,map_append,map_singleton];exact(hB.imp λ_ _ h=>h.same s6).app (.cons hu .nil)
 rintro ws H5 ⟨s5,hw,hB⟩ P' nP;rw [lM,take_length] at hB;have t6:=aB (o:=.lst ws) nP;have eP:upd H5 P' (.lst ws) P'=some (.lst ws):=ao;have hB6:=hB.imp λ_ _ h=>Mz.same h t6;have s46:=t4.trans (s5.trans t6);generalize upd H5 P' (.lst ws)=H6 at t6 eP hB6 s46 ⊢;have s06:=s3.trans s46;refine λn' dxn' nn ndn nen=>?_;have g4:aJ H6 (upd (upd H6 dxn' (.own n')) n' (.ins t.dW dxn' [])):=λb o e=>by rw [aK (aF e nn),aK (aF e ndn)];exact e
 have hH:Hand K (upd (upd H6 dxn' (.own n')) n' (.ins t.dW dxn' [])) L P' (ls.map (iQ S)) (ps.map (cG S.k)):=by refine⟨⟨_,bJ.of (g4 _ _ (s46 _ _ eL)),hA3.imp λ_ _ h=>zL.same h (s46.trans g4)⟩,⟨_,bJ.of (g4 _ _ eP),hB6.imp λ_ _ h=>?_⟩⟩;obtain⟨q,a1,a2,a3,e,h1,h2,h3,h4⟩:=h;exact⟨q,a1,a2,a3,e,g4 _ _ h1,.inr (g4.seqT h2),.inr (g4.seqT h3),.inr (g4.seqT h4)⟩
 refine⟨n',dxn',L,P',_,_,Y,ao,hH,hF,λH7 b7 N7=>⟨Y,k H7 n' (s06.trans λb o e=>b7 b o (aF e nn) (g4 b o e)) (s06.free nn) ?_⟩⟩;obtain⟨dx,fs,R,F,Pd,G,Tk,FL,PL,W7,nw⟩:=N7;exact⟨dx,fs,R,F,Pd,G,Tk,FL,PL,W7,λa ha=>(s06.trans g4).free (nw a ha)⟩
noncomputable def Kr {β:Type} (g:β->V) (m:List (Str×β)):List (Key×V):=m.map λq=>((Sum.inr q.1:Key),g q.2)
noncomputable def Gw {β:Type} (m:List (Str×β)) (x:Str):Option β:=(m.find? λq=>decide (q.1=x)).map (·.2)
noncomputable def putG {β:Type} (m:List (Str×β)) (x:Str) (b:β):List (Str×β):=if (m.any λq=>decide (q.1=x))=true then m.map (λq=>if q.1=x then(q.1,b) else q) else m ++ [(x,b)]
section
variable {β:Type} {g:β->V}
theorem Q0 (g:β->V) (m:List (Str×β)):(Kr g m).length=m.length:=by unfold Kr;rw [lM]
theorem Kh (g:β->V) (x:Str):∀m:List (Str×β),cj (Kr g m) (Sum.inr x)=(Gw m x).map g
 | []=>rfl
 | q:: r=>by
  unfold Kr Gw;rw [map_cons];by_cases h:q.1=x
  ·rw [iC (by rw [h]),find?_cons_of_pos (by simp [h])];rfl
  ·rw [gM (λz=>h (Sum.inr.inj z)),find?_cons_of_neg (by simp [h])];exact Kh g x r
theorem JG {H:Hp} {d:Addr} {m:List (Str×β)} (h:H d=some (.dK (Kr g m))) (x:Str):eE H d (.str x) ((Gw m x).map g):=by rw [<-Kh];exact eE.k (k:=Sum.inr x) h
theorem Wi (m:List (Str×β)) (x:Str):(m.any λq=>decide (q.1=x))=(Gw m x).isSome:=by
 unfold Gw;induction m with
 | nil=>rfl
 | cons q r ih=>
  rw [any_cons,ih];by_cases h:q.1=x
  ·rw [find?_cons_of_pos (by simp [h])];simp [h]
  ·rw [find?_cons_of_neg (by simp [h])];simp [h]
theorem VJ (q:Str×β) (r:List (Str×β)) (y:Str):Gw (q:: r) y=if q.1=y then some q.2 else Gw r y:=by
 unfold Gw;by_cases h:q.1=y
 ·rw [find?_cons_of_pos (by simp [h]),if_pos h];rfl
 ·rw [find?_cons_of_neg (by simp [h]),if_neg h]
theorem QD {m:List (Str×β)} {x:Str} {b:β} (h:Gw m x=some b):(x,b)∈m:=by unfold Gw at h;obtain⟨q,hq,rfl⟩:=map_eq_some_iff.mp h;have h1:=mem_of_find?_eq_some hq;have h2:=find?_some hq;simp only [decide_eq_true_eq] at h2;rw [<-h2];exact h1
theorem V0 {m:List (Str×β)} {x:Str} (h:x∉m.map (·.1)):Gw m x=none:=by
 cases e:Gw m x with
 | none=>rfl
 | some b=>exact absurd (mem_map.mpr ⟨_,QD e,rfl⟩) h
theorem Xj {m:List (Str×β)} {x:Str}:(Gw m x).isSome=true↔x∈m.map (·.1):=by
 constructor
 ·intro h;obtain⟨b,e⟩:=isSome_iff_exists.mp h;exact mem_map.mpr ⟨_,QD e,Y⟩
 ·intro h;rw [<-Wi];obtain⟨q,hq,rfl⟩:=mem_map.mp h;exact any_eq_true.mpr ⟨q,hq,by simp⟩
end
theorem zq (x:Str) (xs:List Str):inV (.str x) (xs.map V.str)=decide (x∈xs):=by have:=Ff (f:=λy:Str=>y) (xs:=xs) (x:=x);simpa using this
theorem pX (xs:List Str):(xs.map V.str).all o9=true:=by simp [o9]
theorem Tw {a b c:Nat} {σ:St} {H':Hp} {Q' Q'':Bool->Hp->Prop} (hm:∀b H,Q' b H->Q'' b H) (hq:YX (tB (U3 (xR a) (xR b))) (Jk (Xr (XM K true) (xR a) (xR c))) σ H' Q'):YX (tB (U3 (xR a) (xR b))) (Jk (Xr (XM K true) (xR a) (xR c))) σ H' Q'':=by
 obtain⟨v,e,u,e2,hq⟩:=hq;refine⟨v,e,u,e2,?_⟩;have go:∀{z:Bool},(if z=true then(Jk (Xr (XM K true) (xR a) (xR c))) σ H' Q' else Q' false H')->(if z=true then(Jk (Xr (XM K true) (xR a) (xR c))) σ H' Q'' else Q'' false H'):=λ{z} hq=>by
  split at hq
  ·rename_i hb;rw [if_pos hb];obtain⟨v,e,u,e2,p',xs,e3,h1,h2,h3,b',e5,hq⟩:=hq;exact⟨v,e,u,e2,p',xs,e3,h1,h2,h3,b',e5,hm _ _ hq⟩
  ·rename_i hb;rw [if_neg hb];exact hm _ _ hq
 rcases hq with ⟨a,o,e3,g,b,e4,hq⟩ | ⟨a,kvs,e3,e4,rd,b,e5,hq⟩
 ·exact .key a o e3 g ⟨b,e4,go hq⟩
 ·exact .non a kvs e3 e4 rd ⟨b,e5,go hq⟩
theorem WN (xs:List Str):inV .non (xs.map V.str)=false:=by unfold inV;rw [List.any_map];refine List.any_eq_false.mpr λx _=>?_;simp [Nz]
theorem xK:∀{s:List Str} {a:Str},a∈s->s[s.idxOf a]?=some a/\∀m y,m <s.idxOf a->s[m]?=some y->y≠a
 | [],_,h=>by cases h
 | z:: s,a,h=>by
  rw [List.idxOf_cons];by_cases e:z=a
  ·rw [e];simp
  ·have hb:(z == a)=false:=by simpa using e
   rw [hb];rcases mem_cons.mp h with h | h
   ·exact absurd h.symm e
   obtain⟨i1,i2⟩:=xK h;refine⟨by simpa using i1,λm y hm hy=>?_⟩;cases m with
   | zero=>rw [getElem?_cons_zero] at hy;rw [<-Option.some.inj hy];exact e
   | succ m=>rw [List.getElem?_cons_succ] at hy;exact i2 m y (by simp at hm;omega) hy
theorem DR:∀{l m:List Str},l.Nodup->(∀x∈l,x∈m)->l.length<=m.length
 | [],_,_,_=>zero_le _
 | a:: r,m,nd,h=>by rw [nodup_cons] at nd;have ha:=h a mem_cons_self;have:=DR (l:=r) (m:=m.erase a) nd.2 λx hx=>(List.mem_erase_of_ne (λz=>nd.1 (by rw [<-z];exact hx))).mpr (h x (mem_cons_of_mem _ hx));rw [List.length_erase_of_mem ha] at this;have h1:=List.length_pos_of_mem ha;rw [length_cons];omega
inductive yp (K:Fr) (vs:List V) (H:Hp) (Q:VK) (E:XK):Prop where
 | mk:∀(x:Str) (d:Addr) (m:List (Str×Option Str)),vs=[.str x,.ref d]->H d=some (.dK (Kr BP m))->m.length<=1000->(∀H' L r,aJ H H'->H L=none->H' L=some (.lst (r.map V.str))->rA (Gw m) x r->Q (.ref L) H')->yp K vs H Q E
theorem Hc (T:Txt w K mg t):FO P w K mg base 1 t.zu ["start", "leads"] (yp K):=by
 have sc:=T.uh.sc ["start", "leads", "seen", "at"];refine T.uh.F.ok sc ln (λ_ _ _ _ H vs Q E hr h=>?_);obtain⟨x,d,m,rfl,hd,hlen,k⟩:=h;refine⟨_,(aq (sN sc 2 (bC ak))
  (aq (sN sc 3 (pv 0))
  (aq (Gk PassesOwn.never (PW.pt (yG (jo (Xa hr.u1 (pv 3) (pv 1))) (xH (bz jU (pv 3) (pv 2) (by with_unfolding_all rfl)))))
   (aq (bI (Ho (pv 2) (aa (pv 3) ak aj)))
   (aA (sN sc 3 (cJ hr.u1 (pv 1) (pv 3) (λ_ _=>rfl))))))
  (aA (aM (qj (bz Bc (pv 3) (pv 2) (by with_unfolding_all rfl)) (jy mH (pv 2) (jD (Aw PySem.F.plainAttrs_list PySem.F.slot_list_index PySem.F.type_list_index Jf (pv 2) (aa (pv 3) ak aj))) mF) (bC ak))))))),?_⟩
 have hz:sizeLine=16777216:=sizeLine_eq;refine⟨jB,λS nS=>⟨_,Y,?_⟩⟩;refine Eo (λσ H'=>∃seen at0,σ=[some (.str x),some (.ref d),some (.ref S),some (BP at0)]/\H'=upd H S (.lst (seen.map V.str))/\Wk (Gw m) x seen at0) (λσ H'=>m.length+1 - Ip H' S) ⟨[],some x,Y,Y,.start⟩ ?_ ?_
 ·rintro σ H' ⟨seen,at0,rfl,rfl,g⟩;have ed:upd H S (.lst (seen.map V.str)) d=some (.dK (Kr BP m)):=by rw [aK (aF hd nS)];exact hd
  have eS:upd H S (.lst (seen.map V.str)) S=some (.lst (seen.map V.str)):=ao;have sS:aJ H (upd H S (.lst (seen.map V.str))):=aB nS;obtain⟨gnd,gin⟩:=g.nd;have sl:seen.length<=m.length:=by have:=DR gnd (m:=m.map (·.1)) λy hy=>Xj.mp (gin y hy);rwa [lM] at this
  cases at0 with
  | none=>
   refine⟨_,Y,_,Y,.non d _ Y Y (.inl ed) ⟨_,Y,dz (dz ?_)⟩⟩;refine⟨_,Y,_,Y,S,_,Y,.inl (bJ.of eS),Y,pX _,_,Y,?_⟩;rw [show inV (BP none) (seen.map V.str)=false from WN seen];refine dz ⟨jB,λL nL=>?_⟩;exact k _ L [] (sS.trans (aB nL)) (sS.free nL) ao ⟨seen,none,g,λy z=>(by cases z),rfl⟩
  | some a=>
   refine⟨_,Y,_,Y,.key d _ Y (JG ed a) ?_⟩;cases e:Gw m a with
   | none=>
    have hm:a∉seen:=λz=>by have:=gin a z;rw [e] at this;cases this
    refine⟨_,Y,dz (dz ?_)⟩;refine⟨_,Y,_,Y,S,_,Y,.inl (bJ.of eS),Y,pX _,_,Y,?_⟩;rw [show inV (BP (some a)) (seen.map V.str)=decide (a∈seen) from zq a seen,decide_eq_false hm];refine dz ⟨jB,λL nL=>?_⟩;refine k _ L [] (sS.trans (aB nL)) (sS.free nL) ao ⟨seen,some a,g,λy z=>(by cases z;exact .inl e),?_⟩;show []=if a∈seen then _ else [];rw [if_neg hm]
   | some b=>
    refine⟨_,Y,iy ?_⟩;refine⟨_,Y,_,Y,S,_,Y,.inl (bJ.of eS),Y,pX _,_,Y,?_⟩;rw [show inV (BP (some a)) (seen.map V.str)=decide (a∈seen) from zq a seen];by_cases hm:a∈seen
    ·rw [decide_eq_true hm];refine dz ?_;refine⟨_,Y,_,Y,S,_,Y,.inl (bJ.of eS),Y,pX _,_,Y,?_⟩;rw [show inV (BP (some a)) (seen.map V.str)=decide (a∈seen) from zq a seen,decide_eq_true hm];refine iy ?_;obtain⟨i1,i2⟩:=xK hm;refine⟨_,Y,_,Y,.inl ⟨Y,_,bJ.of eS⟩,_,Y,S,seen,a,seen.idxOf a,Y,Y,eS,i1,i2,_,Y,S,_,Y,bJ.of eS,λL nL=>?_⟩;rw [Bl,<-map_drop];refine k _ L _ (sS.trans (aB nL)) (sS.free nL) ao ⟨seen,some a,g,λy z=>(by cases z;exact .inr hm),?_⟩;show _=if a∈seen then _ else [];rw [if_pos hm]
    ·rw [decide_eq_false hm];refine iy ?_;refine⟨_,Y,.inl ⟨Y,_,bJ.of eS⟩,_,Y,S,_,_,Y,Y,eS,by rw [lM];omega,?_⟩;rw [rE];have ed2:upd H S (.lst (seen.map V.str ++ [.str a])) d=some (.dK (Kr BP m)):=by rw [aK (aF hd nS)];exact hd
     have g2:=JG ed2 a;rw [e] at g2;refine⟨_,Y,_,Y,d,_,Y,g2,?_⟩;have G:=g.step e hm;have es:seen.map V.str ++ [V.str a]=(seen ++ [a]).map V.str:=by rw [map_append];rfl
     show(∃seen at0,_)/\_;rw [show(BP (some a))=V.str a from rfl,es];refine⟨⟨seen ++ [a],b,Y,Y,G⟩,?_⟩;show m.length+1 - Ip _ S <m.length+1 - Ip _ S;rw [zN (ao (H:=H) (a:=S) (o:=.lst ((seen ++ [a]).map V.str))),zN eS,lM,lM,lP,length_singleton];omega
 ·exact λσ H' Q' Q'' hm hq=>Tw hm hq
theorem Mv {ls:List aD} {ps:List PD} (F:lN ls ps) {p:PD} (hp:p∈ps) {x:Str} (hx:x∈p.outs):(ps.find? λp=>decide (x∈p.outs))=some p:=by
 have nd:=F.whole.outs.nodup_iff.mpr F.whole.nod;cases e:ps.find? λp=>decide (x∈p.outs) with
 | none=>exact absurd (decide_eq_true hx) (find?_eq_none.mp e p hp)
 | some q=>rw [tO nd (mem_of_find?_eq_some e) hp (by simpa using find?_some e) hx]
theorem Qf {ls:List aD} {ps:List PD} (F:lN ls ps) {p:PD} (hp:p∈ps) {x:Str} (hx:x∈p.ins):(ps.find? λp=>decide (x∈p.ins))=some p:=by
 have nd:=F.whole.ins.nodup_iff.mpr F.whole.nod;cases e:ps.find? λp=>decide (x∈p.ins) with
 | none=>exact absurd (decide_eq_true hx) (find?_eq_none.mp e p hp)
 | some q=>rw [tO nd (mem_of_find?_eq_some e) hp (by simpa using find?_some e) hx]
noncomputable def WOk (ls:List aD) (w:Str×Str×Str):Prop:=w.2.2= "value" ∨w.2.2= "room" ->w.2.1∈ls.map (·.name)
inductive Dp (K:Fr) (t:jq) (vs:List V) (H:Hp) (Q:VK) (E:XK):Prop where
 | mk:∀(n u:Addr) (ls:List aD) (ps:List PD) (w:Str×Str×Str),vs=[.ref n,.ref u]->eG K t H n ls ps->H u=some (.tup (Ha w))->WOk ls w->(∀H',aJ H H'->Q (BP (qH ps w)) H')->Dp K t vs H Q E
theorem MJ (T:Txt w K mg t):FO P w K mg base 4 t.Gp ["net", "wait"] (Dp K t):=by
 have sc:=T.yO.sc ["net", "wait"];refine T.yO.F.ok sc ln (λ_ _ _ _ H vs Q E hr h=>?_);obtain⟨n,u,ls,ps,w,rfl,N,hu,hw,k⟩:=h;refine⟨_,(aq (bU (bz gA (bc cT (pv 1) au (λ_ _=>Y)) bQ (bN _))
   (aA (aM (uo (pv 0) T.aW T.aW.me.2.2.2.2.2.2.2.2.2.1 (Dz T) T.qw hr (aa (bc cT (pv 1) au (λ_ _=>rfl)) ak aG))))
   bA)
  (aq (bU (bz gA (bc cT (pv 1) au (λ_ _=>rfl)) bQ (bN _))
   (aA (aM (uo (pv 0) T.aW T.aW.me.2.2.2.2.2.2.2.2.2.2.1 (DN T) T.p8 hr (aa (bc cT (pv 1) au (λ_ _=>rfl)) ak aG))))
   bA)
  (aA (aM vC)))),?_⟩
 have hz:sizeLine=16777216:=sizeLine_eq;obtain⟨dxn,fsn,R,F0,Pd,Gn,Tk,FL,PL,Wn⟩:=id N;have F:=Wn.fit;have q2:Hw (Ha w) 2=some (.str w.2.2):=aO (j:=2) rfl;have q1:Hw (Ha w) 1=some (.str w.2.1):=aO (j:=1) rfl;unfold qH at k;refine⟨_,Y,u,_,2,_,Y,Y,fZ.of hu,q2,Y,_,Y,jQ (λh=>?_) (λh=>?_)⟩
 ·have h:w.2.2= "value" :=by simpa using of_decide_eq_true h
  obtain⟨l,hl,el⟩:=mem_map.mp (hw (.inl h));refine⟨_,Y,n,dxn,fsn,Y,Wn.obj,Wn.fl.no _ (by decide +kernel),_,Y,u,_,1,_,Y,Y,fZ.of hu,q1,n,ls,ps,w.2.1,Y,N,.inl ⟨l,hl,el,λp hp ho H' s=>?_⟩⟩;have k':=k H' s;rw [if_pos h,Mv F hp (by rw [<-el];exact ho)] at k';exact k'
 have h1:¬w.2.2= "value" :=λz=>h (decide_eq_true (by rw [z]));refine⟨_,Y,u,_,2,_,Y,Y,fZ.of hu,q2,Y,_,Y,jQ (λh=>?_) (λh=>?_)⟩
 ·have h:w.2.2= "room" :=by simpa using of_decide_eq_true h
  obtain⟨l,hl,el⟩:=mem_map.mp (hw (.inr h));refine⟨_,Y,n,dxn,fsn,Y,Wn.obj,Wn.fl.no _ (by decide +kernel),_,Y,u,_,1,_,Y,Y,fZ.of hu,q1,n,ls,ps,w.2.1,Y,N,.inl ⟨l,hl,el,λp hp ho H' s=>?_⟩⟩;have k':=k H' s;rw [if_neg h1,if_pos h,Qf F hp (by rw [<-el];exact ho)] at k';exact k'
 have h2:¬w.2.2= "room" :=λz=>h (decide_eq_true (by rw [z]));have k':=k H (aJ.refl _);rw [if_neg h1,if_neg h2] at k';exact k'
theorem Mi (xs:List V) (g:Nat):wk xs none (some (g:Int))=xs.take g:=by
 unfold wk;rw [HT.yW,HT.xO,List.drop_zero,Nat.sub_zero];rcases le_total g xs.length with h | h
 ·rw [Nat.min_eq_left h]
 ·rw [Nat.min_eq_right h,take_of_length_le h,take_of_length_le (le_refl _)]
inductive yx (K:Fr) (vs:List V) (H:Hp) (Q:VK) (E:XK):Prop where
 | mk:∀(R N:Addr) (r names:List Str),vs=[.ref R,.ref N]->H R=some (.lst (r.map V.str))->H N=some (.lst (names.map V.str))->((∃y∈names,y∈r))->r.Nodup->names.length<=16->r.length<=1000->(∀H' L,aJ H H'->H' L=some (.lst ((yI r names).map V.str))->Q (.ref L) H')->yx K vs H Q E
theorem Hr (T:Txt w K mg t):FO P w K mg base 1 t.zG ["ring", "names"] (yx K):=by
 have sc:=T.uH.sc ["ring", "names", "place"];refine T.uH.F.ok sc ln (λ_ _ _ _ H vs Q E hr h=>?_);obtain⟨R,N,r,names,rfl,hR,hN,hy,nd,l16,lr,k⟩:=h;refine⟨_,(aq (sN sc 2 (Aw PySem.F.plainAttrs_list PySem.F.slot_list_index PySem.F.type_list_index Jf (pv 0) (aa (bc bw (eY [0] ["ring", "names", "place"] (aZ (top 8)) rfl (bR (pv 1)) (λ_ _ _ _ _=>(vm (bz (Pj (K:=K) rfl) (pv 0) (pv 1) (by with_unfolding_all rfl)))) (λ_ _ _ _ _=>(pv 0))) au (λ_ _=>rfl)) ak aG)))
  (aA (aM (bu Gb (jy mH (pv 0) (jD (pv 2)) mF) (jy mH (pv 0) mF (jD (pv 2))))))),?_⟩
 have hz:sizeLine=16777216:=sizeLine_eq;obtain⟨y0,hy1,hy2⟩:=hy;obtain⟨y,ey⟩:∃y,names.find? (λy=>decide (y∈r))=some y:=by
  cases e:names.find? (λy=>decide (y∈r)) with
  | none=>exact absurd (decide_eq_true hy2) (find?_eq_none.mp e y0 hy1)
  | some y=>exact⟨y,rfl⟩
 have hyr:y∈r:=by simpa using find?_some ey
 unfold yI at k;rw [ey] at k;refine⟨_,rfl,.inl ⟨rfl,_,bJ.of hR⟩,_,rfl,N,rfl,⟨_,bJ.of hN⟩,fB (K:=K) (a:=N) (xs:=names.map V.str) (λj ys H'=>H'=H/\ys=((names.take j).filter λy=>decide (y∈r)).map V.str) (by rw [lM];omega) ⟨rfl,rfl⟩ (λj ys H' h=>by rw [h.2,lM];exact le_trans (length_filter_le _ _) (by rw [length_take];omega)) (λj ys H' _ h=>by rw [h.1];exact bJ.of hN) ?_ ?_⟩
 ·rintro j x ys H' hx ⟨rfl,rfl⟩;rw [getElem?_map] at hx;obtain⟨z,hzj,rfl⟩:=map_eq_some_iff.mp hx;refine⟨_,Y,_,Y,R,_,Y,.inl (bJ.of hR),Y,pX _,_,Y,?_⟩;rw [zq,take_succ,hzj,toList_some,filter_append,filter_cons,List.filter_nil];by_cases hm:z∈r
  ·rw [decide_eq_true hm];exact iy ⟨_,Y,Y,by simp⟩
  ·rw [decide_eq_false hm];exact dz ⟨Y,by simp⟩
 rintro ys H' ⟨rfl,rfl⟩ Lf nLf;rw [lM,take_length];have t1:=aB (o:=.lst ((names.filter λy=>decide (y∈r)).map V.str)) nLf;have e0:(names.filter λy=>decide (y∈r))[0]?=some y:=by rw [<-List.head?_eq_getElem?,List.head?_filter,ey]
 obtain⟨i1,i2⟩:=xK hyr;refine⟨Lf,_,0,_,rfl,rfl,bJ.of ao,aO (j:=0) (by rw [getElem?_map,e0];rfl),R,r,y,r.idxOf y,rfl,rfl,t1 _ _ hR,i1,i2,?_⟩;have hR1:=t1 _ _ hR;generalize upd H' Lf (.lst ((names.filter λy=>decide (y∈r)).map V.str))=H1 at t1 hR1 ⊢;refine⟨_,Y,_,Y,_,Y,R,_,Y,bJ.of hR1,λa na=>?_⟩;rw [Bl,<-map_drop];have t2:=aB (o:=.lst ((r.drop (r.idxOf y)).map V.str)) na;refine⟨_,Y,_,Y,_,Y,R,_,Y,bJ.of (t2 _ _ hR1),λb nb=>?_⟩;rw [Mi,<-map_take];have t3:=aB (o:=.lst ((r.take (r.idxOf y)).map V.str)) nb;refine⟨a,b,_,_,Y,Y,t3 _ _ ao,ao,by rw [lM,lM,length_drop,length_take];omega,λL nL=>?_⟩;refine k _ L (t1.trans (t2.trans (t3.trans (aB nL)))) ?_;rw [ao,map_append]
theorem Ib {ls:List aD} {ps:List PD} {S:FS} (F:lN ls ps) {p:PD} (hp:p∈ps) {x y:Str} (h:iw ls S p=some (x,y)):(y= "value" /\x∈ls.map (·.name))∨(x= "" /\y= "end")∨(y= "room" /\x∈ls.map (·.name)):=by
 rcases zV p.kind p.ins (aN S p) with hlk | ⟨z,hlk⟩
 ·cases he:qK S p with
  | true=>rw [zc hlk he] at h;cases h;exact .inr (.inl ⟨rfl,rfl⟩)
  | false=>
   have hdd:fC S p=some ⟨(places p.kind (aN S p)).map (strAt p.ins),Hg S p,fW p.kind (vB S p) (S.k p.name)⟩:=by unfold fC;rw [if_neg (by simp [hlk]),if_neg (by simp [he])];rfl
   rw [ug hlk he] at h;cases e:(Hg S p).find? (j6 ls S) with
   | none=>rw [e] at h;cases h
   | some q=>
    rw [e] at h;cases h;exact .inr (.inr ⟨Y,(xr F hp hdd).gin q (mem_of_find?_eq_some e)⟩)
 ·rw [ux hlk] at h;cases h;refine .inl ⟨Y,?_⟩;unfold cz at hlk;cases e:(places p.kind (aN S p)).find? (lA (aN S p)) with
  | none=>rw [e] at hlk;cases hlk
  | some q=>
   rw [e] at hlk;dsimp only at hlk;cases e2:p.ins[q]? with
   | none=>rw [e2] at hlk;cases hlk
   | some z=>
    rw [e2] at hlk;cases hlk;obtain⟨l,hl,e3⟩:=F.inL hp (mem_append.mpr (.inl (mem_of_getElem? e2)));exact mem_map.mpr ⟨l,hl,by rw [e3]⟩
theorem Kd {ls:List aD} {ps:List PD} {S:FS} {w:Str×Str×Str} (h:w∈ik ls S ps):∃p∈ps,iw ls S p=some w.2/\w.1=p.name:=by obtain⟨p,hp,e⟩:=mem_filterMap.mp h;obtain⟨w',hw,rfl⟩:=map_eq_some_iff.mp e;exact⟨p,hp,hw,Y⟩
theorem WM {ls:List aD} {ps:List PD} {S:FS} (F:lN ls ps) {w:Str×Str×Str} (h:w∈ik ls S ps):WOk ls w:=by
 obtain⟨p,hp,h1,h2⟩:=Kd h;intro hv;rcases Ib F hp (x:=w.2.1) (y:=w.2.2) h1 with h | h | h
 ·exact h.2
 ·rw [h.2] at hv;rcases hv with z | z <;> exact absurd z (by decide)
 ·exact h.2
theorem xj (ls:List aD) (S:FS):∀ps:List PD,((ik ls S ps).map (·.1)).Sublist (ps.map (·.name))
 | []=>.slnil
 | p:: r=>by
  have ih:=xj ls S r;unfold ik at ih ⊢;rw [filterMap_cons];cases iw ls S p with
  | none=>exact .cons _ ih
  | some w=>exact .cons₂ _ ih
noncomputable def uY (wts:List (Str×Str×Str)) (us:List Addr):List (Str×Addr):=(wts.zip us).map λq=>(q.1.1,q.2)
noncomputable def VD (ps:List PD) (wts:List (Str×Str×Str)):List (Str×Option Str):=wts.map λw=>(w.1,qH ps w)
theorem aan (ps:List PD) (wts:List (Str×Str×Str)):Gw (VD ps wts)=Ko ps wts:=by
 funext x
 unfold Gw VD Ko;rw [find?_map,Option.map_map];rfl
theorem tM {ps:List PD} {wts:List (Str×Str×Str)} {x:Str} (h:(Ko ps wts x).isSome=true):∃w∈wts,w.1=x:=by
 unfold Ko at h;cases e:wts.find? λw=>decide (w.1=x) with
 | none=>rw [e] at h;cases h
 | some w=>exact⟨w,mem_of_find?_eq_some e,by simpa using find?_some e⟩
theorem Ua {H:Hp} {ps:List PD} {x:Str}:∀{wts:List (Str×Str×Str)} {us:List Addr},dw H us (wts.map Ha)->(Ko ps wts x=none/\Gw (uY wts us) x=none)∨∃u,Gw (uY wts us) x=some u/\H u=some (.tup (Ha (K7 wts x)))/\Ko ps wts x=some (qH ps (K7 wts x))/\K7 wts x∈wts
 | [],us,_=>.inl ⟨rfl,by unfold uY Gw;simp⟩
 | w:: r,[],t=>nomatch t
 | w:: r,u:: us,t=>by
  have t:Paired (λr vs=>H r=some (.tup vs)) (u:: us) (Ha w:: r.map Ha):=t;cases t with
  | cons h t=>
  have e1:Gw (uY (w:: r) (u:: us)) x=if w.1=x then some u else Gw (uY r us) x:=VJ (w.1,u) (uY r us) x;by_cases hx:w.1=x
  ·have e2:K7 (w:: r) x=w:=by unfold K7;rw [find?_cons_of_pos (by simp [hx])];rfl
   refine .inr ⟨u,by rw [e1,if_pos hx],by rw [e2];exact h,?_,by rw [e2];exact mem_cons_self⟩;rw [e2];unfold Ko;rw [find?_cons_of_pos (by simp [hx])];rfl
  ·have e2:K7 (w:: r) x=K7 r x:=by unfold K7;rw [find?_cons_of_neg (by simp [hx])]
   have e3:Ko ps (w:: r) x=Ko ps r x:=by unfold Ko;rw [find?_cons_of_neg (by simp [hx])]
   rw [e1,if_neg hx,e2,e3];rcases Ua (ps:=ps) (x:=x) t with h | ⟨u',h1,h2,h3,h4⟩
   ·exact .inl h
   ·exact .inr ⟨u',h1,h2,h3,mem_cons_of_mem _ h4⟩
theorem vf {E:List Addr} {H:Hp}:∀{us:List Addr} {vss:List (List V)},(∀u∈us,u∉E)->dw H us vss->dw (aQ E H) us vss
 | _,_,_,.nil=>.nil
 | _,_,hn,.cons h t=>.cons (bL h (hn _ mem_cons_self)) (vf (λu hu=>hn u (mem_cons_of_mem _ hu)) t)
theorem U6 {H:Hp} {wts:List (Str×Str×Str)} {us:List Addr} (t:dw H us (wts.map Ha)):(uY wts us).length=wts.length/\us.length=wts.length/\(uY wts us).map (·.1)=wts.map (·.1):=by have e:us.length=(wts.map Ha).length:=Paired.length t;rw [lM] at e;unfold uY;refine⟨by rw [lM,List.length_zip];omega,e,?_⟩;rw [map_map];have:((λq:Str×Addr=>q.1)∘λq:(Str×Str×Str)×Addr=>(q.1.1,q.2))=(λw:Str×Str×Str=>w.1)∘(λq:(Str×Str×Str)×Addr=>q.1):=rfl;rw [this,<-map_map,List.map_fst_zip (by omega)]
theorem Vc {wts:List (Str×Str×Str)} {us:List Addr} {j:Nat} {w:Str×Str×Str} {u:Addr} (h1:wts[j]?=some w) (h2:us[j]?=some u):(uY wts us)[j]?=some (w.1,u):=by unfold uY;rw [getElem?_map,(List.getElem?_zip_eq_some (z:=(w,u))).mpr ⟨h1,h2⟩];rfl
theorem PX {β:Type} {g:β->V} {m:List (Str×β)} {j:Nat} {x:Str} {b:β} (nd:(m.map (·.1)).Nodup) (hj:m[j]?=some (x,b)):putK (Kr g (m.take j)) (Sum.inr x) (g b)=Kr g (m.take (j+1)):=by
 have hn:x∉(m.take j).map (·.1):=by have:=oG (f:=λq:Str×β=>q.1) nd hj;exact this
 rw [j7 _ (by rw [Kh,V0 hn];rfl),take_succ,hj];unfold Kr;rw [map_append];rfl
theorem Ah {r names:List Str} {y:Str} (h:y∈yI r names):y∈r:=by
 unfold yI at h;split at h
 ·rcases mem_append.mp h with h | h
  ·exact mem_of_mem_drop h
  ·exact mem_of_mem_take h
 ·cases h
theorem Q5 (r names:List Str):(yI r names).length<=r.length:=by
 unfold yI;split
 ·rw [lP,length_drop,length_take];omega
 ·exact zero_le _
inductive tK (K:Fr) (t:jq) (vs:List V) (H:Hp) (Q:VK) (E:XK):Prop where
 | mk:∀(b:Nat) (r:Addr) (n:Nat) (A:jC) (ls:List aD) (ps:List PD) (S:FS),vs=[.ref r]->nY t H r A.n A.f n->eG K t H A.n ls ps->dU K t H A ls ps S->yF b ls ps S->(∀(H':Hp) (L:Addr) (us:List Addr) (ws:List (Str×Str×Str)),aJ H H'->H L=none->H' L=some (.lst (us.map V.ref))->dw H' us (ws.map Ha)->zX (Ko ps (ik ls S ps)) (ps.map (·.name)) (ik ls S ps) ws->Q (.ref L) H')->tK K t vs H Q E
noncomputable abbrev uU:List Str:=["run", "waits", "leads", "wait", "name", "ring"]
theorem mC (T:Txt w K mg t):FO P w K mg base 8 t.uX ["run"] (tK K t):=by
 have sc:=T.jz.sc uU;refine T.jz.F.ok sc ln (λ_ _ _ _ H vs Q E hr h=>?_);obtain⟨b,r,n,A,ls,ps,S,rfl,hR,N,W,O,k⟩:=h;refine⟨_,(aq (sN sc 1 gO)
  (aq (sN sc 2 gO)
  (aq (dO PassesOwn.never rfl (bR (dX (Cg T) T.uf hr (aa (pv 0) ak aj))) (gN sc 3)
   (aq (gQ hr.u1 (pv 1) (bc cT (pv 3) au (λ_ _=>rfl)) (pv 3) rfl)
   (aA (gQ hr.u1 (pv 2) (bc cT (pv 3) au (λ_ _=>rfl)) (dX (MJ T) T.yO hr (aa (aU (pv 0) rfl) (aa (pv 3) ak aj) aV)) rfl))))
  (aq (dO PassesOwn.never rfl (bR (Ma (aU (pv 0) rfl) T.aW T.aW.me.2.2.1 (d9 T) T.dg hr)) (gN sc 4)
   (aq (sN sc 5 (dX (Hc T) T.uh hr (aa (pv 4) (aa (pv 2) ak aj) aj)))
   (aA (bU (bz Iw (bB bV (by rfl) T.fY dC (aa (pv 5) ak aj)) au (bN _))
    (aA (aM (eY [1] uU (aZ (top 7)) rfl (bR (dX (Hr T) T.uH hr (aa (pv 5) (aa (Ma (aU (pv 0) rfl) T.aW T.aW.me.2.2.1 (d9 T) T.dg hr) ak aX) aj))) (λ_ _ _ _ _=>gj) (λ_ _ _ _ _=>(cJ hr.u1 (pv 1) (pv 0) (λ_ _=>rfl))))))
    bA))))
  (aA (aM (bC ak))))))),?_⟩
 have hz:sizeLine=16777216:=sizeLine_eq;have F:lN ls ps:=by obtain⟨_,_,_,_,_,_,_,_,_,Wn⟩:=N;exact Wn.fit
 have p16:=F.p16;refine λD1 n1=>?_;have q1:=aB (o:=.dK []) n1;have d1:upd H D1 (.dK []) D1=some (.dK []):=ao;generalize upd H D1 (.dK [])=H1 at q1 d1 ⊢;refine λD2 n2=>?_;have q2:=aB (o:=.dK []) n2;have d2:upd H1 D2 (.dK []) D2=some (.dK []):=ao;have d1':=q2 _ _ d1;have hne:D1≠D2:=λz=>by rw [z,n2] at d1;cases d1
 have sC:aJ H (aQ [D1,D2] (upd H1 D2 (.dK []))):=λb o e=>bL (q2 _ _ (q1 _ _ e)) (by simp;exact⟨aF e n1,aF e (q1.free n2)⟩);generalize upd H1 D2 (.dK [])=H2 at q2 d2 d1' sC ⊢;have s2:=sC.trans bF;refine⟨_,Y,b,r,n,A,ls,ps,S,Y,hR.same s2,N.same s2,W.same s2,O,λH3 Lw us s3 nLw eLw tU fU=>?_⟩;have wok:=λw (h:w∈ik ls S ps)=>WM F h;have wsub:=xj ls S ps;have wlen:=Xo ls S ps;generalize ik ls S ps=wts at k tU wok wsub wlen;have wnd:=F.pnd.sublist wsub;obtain⟨zl,ul,zn⟩:=U6 tU;have znd:((uY wts us).map (·.1)).Nodup:=by rw [zn];exact wnd
 have mnd:((VD ps wts).map (·.1)).Nodup:=by
  have:(VD ps wts).map (·.1)=wts.map (·.1):=by unfold VD;rw [map_map];rfl
  rw [this];exact wnd
 have ml:(VD ps wts).length=wts.length:=by unfold VD;rw [lM]
 have cE:∀a∈[D1,D2],∃o,H2 a=some o:=λa ha=>by
  simp at ha;rcases ha with rfl | rfl
  ·exact⟨_,d1'⟩
  ·exact⟨_,d2⟩
 have sC3:=sC.trans (Af s3 cE);have nw:Lw∉[D1,D2]:=λz=>by obtain⟨o,e⟩:=cE _ z;rw [nLw] at e;cases e
 have eLw3:aQ [D1,D2] H3 Lw=some (.lst (us.map V.ref)):=bL eLw nw;have tU3:dw (aQ [D1,D2] H3) us (wts.map Ha):=vf (λu hu z=>by obtain⟨o,e⟩:=cE _ z;rw [fU u hu] at e;cases e) tU;obtain⟨C,hC⟩:∃C,C=aQ [D1,D2] H3:=⟨_,rfl⟩;rw [<-hC] at sC3 eLw3 tU3;refine⟨Lw,Y,⟨_,bJ.of eLw⟩,du (K:=K) (a:=Lw) (xs:=us.map V.ref) (λj σ H'=>(∃v3,σ=[some (.ref r),some (.ref D1),some (.ref D2),v3,none,none])/\aJ C (aQ [D1,D2] H')/\H' D1=some (.dK (Kr V.ref ((uY wts us).take j)))/\H' D2=some (.dK (Kr BP ((VD ps wts).take j)))) ⟨⟨none,Y⟩,by rw [hC];exact aJ.refl _,s3 _ _ d1',s3 _ _ d2⟩ (λj σ H' _ h=>bJ.of (bF _ _ (h.2.1 _ _ eLw3))) ?_ ?_⟩
 ·rintro j x σ H4 hx ⟨⟨v3,rfl⟩,c4,e1,e2⟩;rw [getElem?_map] at hx;obtain⟨u,hu,rfl⟩:=map_eq_some_iff.mp hx;obtain⟨vs2,z1,z2⟩:=j5 tU3 hu;rw [getElem?_map] at z1;obtain⟨w,ew,rfl⟩:=map_eq_some_iff.mp z1;have hj:=(List.getElem?_eq_some_iff.mp ew).1;have zj:=Vc ew hu;have mj:(VD ps wts)[j]?=some (w.1,qH ps w):=by unfold VD;rw [getElem?_map,ew];rfl
  refine⟨_,Y,_,Y,_,Y,u,_,0,_,Y,Y,fZ.of (bF _ _ (c4 _ _ z2)),aO (j:=0) Y,D1,_,Y,pC.k (k:=Sum.inr w.1) e1 (by rw [Q0,length_take];omega),?_⟩;rw [PX (g:=V.ref) znd zj];have c5:aJ C (aQ [D1,D2] (upd H4 D1 (.dK (Kr V.ref ((uY wts us).take (j+1)))))):=by rw [dH (by simp)];exact c4
  have e15:upd H4 D1 (.dK (Kr V.ref ((uY wts us).take (j+1)))) D1=some (.dK (Kr V.ref ((uY wts us).take (j+1)))):=ao;have e25:upd H4 D1 (.dK (Kr V.ref ((uY wts us).take (j+1)))) D2=some (.dK (Kr BP ((VD ps wts).take j))):=by rw [aK (Ne.symm hne)];exact e2
  generalize upd H4 D1 (.dK (Kr V.ref ((uY wts us).take (j+1))))=H5 at c5 e15 e25 ⊢;have s5:=(sC3.trans c5).trans bF;obtain⟨dxr,fsr,R1⟩:=hR.same s5;refine⟨_,Y,r,_,dxr,fsr,_,Y,R1.1.1,T.bD.c,T.bD.na.1,R1.2.has ("net",.ref A.n) (by simp),_,Y,A.n,u,ls,ps,w,Y,N.same s5,bF _ _ (c5 _ _ z2),wok w (mem_of_getElem? ew),λH6 s6=>?_⟩;have c6:=c5.trans (Af s6 (E:=[D1,D2]) λa ha=>by
   simp at ha;rcases ha with rfl | rfl
   ·exact⟨_,e15⟩
   ·exact⟨_,e25⟩)
  refine⟨_,Y,_,Y,u,_,0,_,Y,Y,fZ.of (bF _ _ (c6 _ _ z2)),aO (j:=0) Y,D2,_,Y,pC.k (k:=Sum.inr w.1) (s6 _ _ e25) (by rw [Q0,length_take];omega),?_⟩;rw [PX (g:=BP) mnd mj];exact⟨⟨_,Y⟩,by rw [dH (by simp)];exact c6,by rw [aK hne];exact s6 _ _ e15,ao⟩
 rintro σ H4 ⟨⟨v3,rfl⟩,c4,e1,e2⟩;rw [lM,ul,<-zl,take_length] at e1;rw [lM,ul,<-ml,take_length] at e2;have tU4:=dw.same (c4.trans bF) tU3;have s4:=(sC3.trans c4).trans bF;clear c4 tU3 eLw3 sC3 sC hC cE nw;obtain⟨dxr,fsr,R1⟩:=hR.same s4;obtain⟨dxn,fsn,R,F0,Pd,Gn,Tk,FL,PL,Wn⟩:=N.same s4;refine⟨_,Y,r,_,dxr,fsr,_,Y,R1.1.1,T.bD.c,T.bD.na.1,R1.2.has ("net",.ref A.n) (by simp),A.n,dxn,fsn,Y,Wn.obj,Wn.fl.no _ (by decide +kernel),A.n,ls,ps,Y,Wn.s,λl nl=>?_⟩;have t5:=aB (o:=.lst (ps.map λx=>V.str x.name)) nl;have el:upd H4 l (.lst (ps.map λx=>V.str x.name)) l=some (.lst (ps.map λx=>V.str x.name)):=ao;have s5:=s4.trans t5;have e15:=t5 _ _ e1;have e25:=t5 _ _ e2;have tU5:=dw.same t5 tU4;generalize upd H4 l (.lst (ps.map λx=>V.str x.name))=H5 at el s5 e15 e25 tU5 ⊢;refine⟨l,Y,⟨_,bJ.of el⟩,du (K:=K) (a:=l) (xs:=ps.map λx=>V.str x.name) (λj σ H'=>(∃v4 v5,σ=[some (.ref r),some (.ref D1),some (.ref D2),v3,v4,v5])/\aJ H5 H'/\∀p∈ps.take j,rA (Ko ps wts) p.name []) ⟨⟨none,none,Y⟩,aJ.refl _,by simp⟩ (λj σ H' _ h=>h.2.1.seq (bJ.of el)) ?_ ?_⟩
 ·rintro j x σ H6 hx ⟨⟨v4,v5,rfl⟩,s6,hno⟩;rw [getElem?_map] at hx;obtain⟨p,hpj,rfl⟩:=map_eq_some_iff.mp hx;refine⟨_,Y,_,Y,p.name,D2,_,Y,s6 _ _ e25,by omega,λH7 Lr rg s7 nLr eLr hr=>?_⟩;rw [aan] at hr;refine⟨_,Y,_,(rg.map V.str).length,Y,.inl ⟨_,bJ.of eLr,Y⟩,_,_,Y,Y,_,Y,?_⟩;rw [lM];cases rg with
  | nil=>
   refine dz ⟨⟨_,_,Y⟩,s6.trans s7,λq hq=>?_⟩;rw [take_succ,hpj,toList_some] at hq;rcases mem_append.mp hq with h | h
   ·exact hno q h
   ·rw [mem_singleton.mp h];exact hr
  | cons y0 rg'=>
   rw [decide_eq_true (by rw [length_cons];omega)];refine iy ?_;have hrr:=hr.nd;have s57:=s6.trans s7;have s07:=s5.trans s57;have hin:∀y∈y0:: rg',y∈ps.map (·.name):=λy hy=>by obtain⟨w,hw,e⟩:=tM (hrr.2 y hy);exact wsub.subset (mem_map.mpr ⟨w,hw,e⟩)
   have rl:(y0:: rg').length<=16:=le_trans (DR hrr.1 hin) (by rw [lM];exact p16);obtain⟨dxr,fsr,R2⟩:=hR.same s07;obtain⟨dxn,fsn,R,F0,Pd,Gn,Tk,FL,PL,Wn⟩:=N.same s07;refine⟨_,Y,_,Y,r,_,dxr,fsr,_,Y,R2.1.1,T.bD.c,T.bD.na.1,R2.2.has ("net",.ref A.n) (by simp),A.n,dxn,fsn,Y,Wn.obj,Wn.fl.no _ (by decide +kernel),A.n,ls,ps,Y,Wn.s,λl2 nl2=>?_⟩;have t8:=aB (o:=.lst (ps.map λx=>V.str x.name)) nl2;have el2:upd H7 l2 (.lst (ps.map λx=>V.str x.name)) l2=some (.lst ((ps.map (·.name)).map V.str)):=by rw [ao,map_map];rfl
   generalize upd H7 l2 (.lst (ps.map λx=>V.str x.name))=H8 at t8 el2 ⊢;refine⟨Lr,l2,y0:: rg',ps.map (·.name),Y,t8 _ _ eLr,el2,⟨y0,hin y0 mem_cons_self,mem_cons_self⟩,hrr.1,by rw [lM];exact p16,by omega,λH9 La s9 eLa=>?_⟩;have s59:=s57.trans (t8.trans s9);have rtl:=le_trans (Q5 (y0:: rg') (ps.map (·.name))) rl;have rtm:∀y∈yI (y0:: rg') (ps.map (·.name)),y∈y0:: rg':=λy hy=>Ah hy;have fin:∀ws,ws=(yI (y0:: rg') (ps.map (·.name))).map (K7 wts)->zX (Ko ps wts) (ps.map (·.name)) wts ws:=λws e=>by
    refine .inr ⟨(ps.take j).map (·.name),p.name,(ps.drop (j+1)).map (·.name),_,?_,λy hy=>?_,hr,by simp,e⟩
    ·rw [<-map_cons,<-map_append];congr 1
     obtain⟨hjl,e⟩:=List.getElem?_eq_some_iff.mp hpj;rw [<-e,<-drop_eq_getElem_cons hjl,take_append_drop]
    ·obtain⟨q,hq,rfl⟩:=mem_map.mp hy;exact hno q hq
   generalize yI (y0:: rg') (ps.map (·.name))=ro at eLa rtl rtm fin;refine⟨La,rfl,⟨_,bJ.of eLa⟩,fB (K:=K) (a:=La) (xs:=ro.map V.str) (λi ys H'=>H'=H9/\∃vs:List Addr,ys=vs.map V.ref/\dw H9 vs (((ro.take i).map (K7 wts)).map Ha)) (by rw [lM];omega) ⟨rfl,[],rfl,.nil⟩ (λi ys H' h=>by obtain⟨_,vs,rfl,tv⟩:=h;have:vs.length=_:=Paired.length tv;rw [lM,lM,length_take] at this;rw [lM];omega) (λi ys H' _ h=>by rw [h.1];exact bJ.of eLa) ?_ ?_⟩
   ·rintro i x ys H' hx ⟨rfl,vs,rfl,tv⟩;rw [getElem?_map] at hx;obtain⟨y,hyi,rfl⟩:=map_eq_some_iff.mp hx;have hg:=hrr.2 y (rtm y (mem_of_getElem? hyi));rcases Ua (ps:=ps) (x:=y) (dw.same s59 tU5) with ⟨h,_⟩ | ⟨u,h1,h2,_,_⟩
    ·rw [h] at hg;cases hg
    have g2:=JG (s59 _ _ e15) y;rw [h1] at g2;refine yes ⟨_,rfl,_,rfl,D1,_,rfl,g2,rfl,vs ++ [u],by rw [map_append];rfl,?_⟩;rw [take_succ,hyi,toList_some,map_append,map_append];exact tv.append (.cons h2 .nil)
   rintro ys H' ⟨rfl,vs,rfl,tv⟩ Lz nLz;rw [lM,take_length] at tv;exact k _ Lz vs _ ((s5.trans s59).trans (aB nLz)) ((s5.trans s59).free nLz) ao (dw.same (aB nLz) tv) (fin _ Y)
 rintro σ H6 ⟨⟨v4,v5,rfl⟩,s6,hno⟩;rw [lM,take_length] at hno;refine⟨jB,λLz nLz=>?_⟩;exact k _ Lz [] [] ((s5.trans s6).trans (aB nLz)) ((s5.trans s6).free nLz) ao .nil (.inl ⟨rfl,λx hx=>by obtain⟨q,hq,rfl⟩:=mem_map.mp hx;exact hno q hq⟩)
noncomputable def wU (RW:List (Str×Addr×List Int)) (x:Str) (a:Addr) (ws:List Int):List (Str×Addr×List Int):=if x∈RW.map (·.1) then RW.map (λq=>if q.1=x then(x,a,ws) else q) else RW ++ [(x,a,ws)]
theorem Vn (RW:List (Str×Addr×List Int)) (x:Str) (a:Addr) (ws:List Int):f9 (wU RW x a ws)=putK (f9 RW) (Sum.inr x) (.ref a):=by
 unfold wU putK;by_cases h:x∈RW.map (·.1)
 ·rw [if_pos h,if_pos (by obtain⟨q,hq,rfl⟩:=mem_map.mp h;exact any_eq_true.mpr ⟨_,mem_map.mpr ⟨q,hq,Y⟩,by simp⟩)]
  unfold f9;rw [map_map,map_map];refine map_congr_left λq _=>?_;by_cases e:q.1=x
  ·simp [e]
  ·simp [e]
 ·rw [if_neg h,if_neg (by intro z;obtain⟨kv,hk,e⟩:=any_eq_true.mp z;obtain⟨q,hq,rfl⟩:=mem_map.mp hk;exact h (mem_map.mpr ⟨q,hq,by simpa using e⟩))]
  unfold f9;rw [map_append];rfl
theorem zP {RW:List (Str×Addr×List Int)} {x:Str} {a:Addr} {ws:List Int} {q:Str×Addr×List Int} (h:q∈wU RW x a ws):q∈RW∨q=(x,a,ws):=by
 unfold wU at h;split at h
 ·obtain⟨q',hq,e⟩:=mem_map.mp h;split at e
  ·exact .inr e.symm
  ·exact .inl (by rw [<-e];exact hq)
 ·rcases mem_append.mp h with h | h
  ·exact .inl h
  ·exact .inr (mem_singleton.mp h)
theorem QZ {RW:List (Str×Addr×List Int)} {x:Str} {a:Addr} {ws:List Int} (nd:(RW.map (·.1)).Nodup):((wU RW x a ws).map (·.1)).Nodup:=by
 unfold wU;split
 ·have e:(RW.map (λq=>if q.1=x then(x,a,ws) else q)).map (·.1)=RW.map (·.1):=by
   rw [map_map];refine map_congr_left λq _=>?_;by_cases h:q.1=x
   ·simp [h]
   ·simp [h]
  rw [e];exact nd
 ·rename_i h;rw [map_append,nodup_append];exact⟨nd,by simp,λb hb c hc z=>h (by simp at hc;rw [<-hc,<-z];exact hb)⟩
theorem Ux (RW:List (Str×Addr×List Int)) (x:Str) (a:Addr) (ws:List Int):(wU RW x a ws).length<=RW.length+1:=by
 unfold wU;split
 ·rw [lM];omega
 ·simp
structure zQ (B H:Hp) (d:Addr) (m:Nat) (G:List V) (RW:List (Str×Addr×List Int)):Prop where
 at':jY H d RW
 bnd:∀q∈RW,∀v∈q.2.2,0<=v/\v <1000000000
 door:∀q∈RW,V.str q.1∈G
 new:∀q∈RW,B q.2.1=none/\q.2.1≠d
 len:∀q∈RW,q.2.2.length<=m
theorem zQ.same {B H H':Hp} {d:Addr} {m:Nat} {G:List V} {RW:List (Str×Addr×List Int)} (h:zQ B H d m G RW) (s:aJ H H'):zQ B H' d m G RW:=⟨h.at'.same s,h.bnd,h.door,h.new,h.len⟩
theorem zQ.put {B H:Hp} {d:Addr} {m:Nat} {G:List V} {RW:List (Str×Addr×List Int)} (h:zQ B H d m G RW) {x:Str} {a:Addr} {ws:List Int} (ea:H a=some (.lst (ws.map V.int))) (na:B a=none) (nd:a≠d) (hx:V.str x∈G) (hb:∀v∈ws,0<=v/\v <1000000000) (hl:ws.length<=m) (hm:m<=299):
  zQ B (upd H d (.dK (putK (f9 RW) (Sum.inr x) (.ref a)))) d m G (wU RW x a ws):=by
 refine⟨⟨by rw [Vn];exact ao,λq hq=>?_,QZ h.at'.nd,λq hq=>?_⟩,λq hq=>?_,λq hq=>?_,λq hq=>?_,λq hq=>?_⟩ <;> rcases zP hq with hq | rfl
 ·rw [aK (h.new q hq).2];exact h.at'.lists q hq
 ·rw [aK nd];exact ea
 ·exact h.at'.len q hq
 ·show ws.length<=300;omega
 ·exact h.bnd q hq
 ·exact hb
 ·exact h.door q hq
 ·exact hx
 ·exact h.new q hq
 ·exact⟨na,nd⟩
 ·exact h.len q hq
 ·exact hl
theorem We (RW:List (Str×Addr×List Int)) (x:Str) (a:Addr) (ws:List Int):wU RW x a ws≠[]:=by
 unfold wU;split
 ·rename_i h;intro z;rw [List.map_eq_nil_iff.mp z] at h;cases h
 ·simp
inductive Ak (K:Fr) (vs:List V) (H:Hp) (Q:VK) (E:XK):Prop where
 | mk:∀(a P:Addr) (ns:List Int) (xs:List V) (ps:List PD) (st:Nat),vs=[.ref a,.ref P,.int (st:Nat)]->bJ K H a (ns.map V.int)->H P=some (.lst xs)->j4 (Ab H) xs ps->ps.length<=16->(∀H' d RW,aJ H H'->H d=none->zQ H H' d 39 (cZ ps "give") RW->RW.length<=16->(Ny ps->RW≠[])->Q (.ref d) H')->Ak K vs H Q E
noncomputable abbrev Dh:List Str:=["_law_script", "_law_parts", "_law_start", "_law_rows_here", "_law_part_here", "_law_j", "_law_one", "_law_row", "_law_cell_here", "_law_there"]
theorem KD (T:Txt w K mg t):FO P w K mg base 3 t.CZ ["_law_script", "_law_parts", "_law_start"] (Ak K):=by
 have sc:=T.wG.sc Dh;refine T.wG.F.ok sc ln (λ_ _ _ _ H vs Q E hr h=>?_);obtain⟨a,P,ns,xs,ps,st,rfl,hS,eP,aP,p16,k⟩:=h;refine⟨_,(aq (sN sc 3 gO)
  (aq (dO PassesOwn.never rfl (bR (pv 1)) (gN sc 4)
   (aA (il (bU (bz gA (bc cT (pv 4) au (λ_ _=>rfl)) bQ (bN _))
    (aq (sN sc 5 (bB Rc (by rfl) T.fY dC (aa (pv 3) ak aj)))
    (aq (sN sc 6 (dX (lC T) T.jE hr (aa (pv 0) (aa (pv 2) ak aj) aj)))
    (aq (jJ (i:=7) [5,6] Dh (aZ (top 84)) rfl sc.nd rfl (gJ rfl T.jT (aa (bu cH (dX (bh T) T.bx hr (aa (pv 6) (aa (bu dF au (pv 5)) ak bM) aj)) au) ak bM)) (λ_ _ _ _ _=>gj) (λ_ _ _ _ _=>(dX (gY T) T.fV hr (aa (pv 2) (aa (bu dF (bu dF au (pv 0)) (bu j9 au (pv 1))) ak bM) aj))))
    (aq (dO PassesOwn.never rfl (bR (jy mH (pv 0) (jD (pv 2)) (jD (bu dF (pv 2) au)))) (gN sc 8)
     (aq (sN sc 6 (dX (gY T) T.fV hr (aa (pv 8) (aa (pv 5) ak aj) aj)))
     (aq (sN sc 9 (pJ Iw (bu cH (dX (bh T) T.bx hr (aa (pv 8) (aa (bu dF au (pv 5)) ak bM) aj)) au) au (bN _)))
     (aq (il (bU (bz gA (bu JR (bu Bo (pv 8) au) au) au (bN _))
      (aq (sN sc 6 (bu cH (bu Bo (pv 8) (bu dF au (bu j9 au (pv 5)))) (bu Oa au au)))
      (aA (sN sc 9 (pJ M5 (bu JR (bu Bo (pv 8) (bu j9 au (pv 5))) au) au (bN _)))))
      bA))
     (aA (il (bU (jZ (pv 9))
      (aA (bI (Ho (pv 7) (aa (pv 6) ak aj))))
      bA)))))))
    (aA (gQ hr.u1 (pv 3) (bc cT (pv 4) au (λ_ _=>rfl)) (pv 7) rfl))))))
    bA))))
  (aA (aM (pv 3))))),?_⟩
 have hz:sizeLine=16777216:=sizeLine_eq;have xl:=aP.length;refine λd nd=>?_;have s1:=aB (o:=.dK []) nd;have ed:upd H d (.dK []) d=some (.dK []):=ao;have sB:aJ H (aQ [d] (upd H d (.dK []))):=λb o e=>bL (s1 _ _ e) (by simpa using aF e nd);generalize upd H d (.dK [])=H1 at s1 ed sB ⊢;have upB:∀{H':Hp} {o:HO},aJ H H'->aJ H (upd H' d o):=λs b o e=>by rw [aK (aF e nd)];exact s b o e
 refine⟨_,Y,P,Y,⟨_,bJ.of (s1 _ _ eP)⟩,du (K:=K) (a:=P) (xs:=xs) (λj σ H'=>(∃v4 v5 v6 v7 v8 v9,σ=[some (.ref a),some (.ref P),some (.int st),some (.ref d),v4,v5,v6,v7,v8,v9])/\aJ H H'/\∃RW,zQ H H' d 39 (cZ ps "give") RW/\RW.length<=j/\((ps.take j).any (λp=>p.kind == 0)=true->RW≠[])) ⟨⟨none,none,none,none,none,none,Y⟩,s1,[],⟨⟨ed,by simp,by simp,by simp⟩,by simp,by simp,by simp,by simp⟩,le_refl _,λh=>by simp at h⟩ (λj σ H' _ h=>bJ.of (h.2.1 _ _ eP)) ?_ ?_⟩
 ·rintro j x σ H2 hx ⟨⟨w4,w5,w6,w7,w8,w9,rfl⟩,s2,RW,hR,lR,hne⟩;obtain⟨p,hpj,q,a1,a2,a3,rfl,hq,_⟩:=aP.get hx;have hj:=(List.getElem?_eq_some_iff.mp hx).1;have hq2:=s2 _ _ hq;refine⟨λσ' H'=>(∃v4 v5 v6 v7 v8 v9,σ'=[some (.ref a),some (.ref P),some (.int st),some (.ref d),v4,v5,v6,v7,v8,v9])/\aJ H H'/\∃RW,zQ H H' d 39 (cZ ps "give") RW/\RW.length<=j+1/\((ps.take (j+1)).any (λp=>p.kind == 0)=true->RW≠[]),?_,λ_ _ h=>h⟩;refine⟨_,Y,q,_,0,_,Y,Y,fZ.of hq2,aO (j:=0) Y,Y,_,Y,jQ (λhg=>?_) (λhng=>⟨⟨_,_,_,_,_,_,Y⟩,s2,RW,hR,by omega,λh=>hne ?_⟩)⟩;rotate_left
  ·rw [take_succ,hpj,toList_some,List.any_append] at h;have h0:¬p.kind=0:=λz=>hng (decide_eq_true (by rw [z];rfl));simpa [h0] using h
  have hG:V.str p.name∈cZ ps "give" :=mem_map.mpr ⟨p,mem_filter.mpr ⟨mem_of_getElem? hpj,by simpa using of_decide_eq_true hg⟩,rfl⟩;refine⟨_,Y,d,_,Y,.inl hR.at'.dict,?_⟩;have lK:((f9 RW).length:Int)=(RW.length:Int):=by unfold f9;rw [lM]
  refine⟨_,Y,_,Y,a,ns,st,Y,s2.seq hS,?_⟩;generalize jW ns st=c;have h0:=emod_nonneg (cg c (7+((f9 RW).length:Int))) (show(6:Int)≠0 by decide);have h1:=emod_lt_of_pos (cg c (7+((f9 RW).length:Int))) (show(0:Int) <6 by decide);refine⟨_,Y,_,Y,_,_,Y,Y,_,_,Y,_,_,Y,Y,by show(0:Int) <6;decide,_,Y,by omega,by omega,?_⟩;refine jc (λi ys H'=>H'=H2/\∃ws:List Int,ys=ws.map V.int/\ws.length=i/\∀v∈ws,0<=v/\v <1000000000) (by omega) ⟨Y,[],Y,Y,by simp⟩ (λi ys H' ⟨_,ws,e,e2,_⟩=>by rw [e,lM];omega) ?_ ?_
  ·rintro i ys H' hi ⟨rfl,ws,rfl,hw,hB⟩;refine yes ⟨_,Y,_,Y,_,_,Y,Y,_,Y,_,_,Y,Y,iT,_,_,Y,Y,_,_,Y,Y,ws ++ [qd c (30+(0+(i:Int))+9 * ((f9 RW).length:Int))],by simp,by simp [hw],λv hv=>?_⟩;rcases mem_append.mp hv with hv | hv
   ·exact hB v hv
   ·rw [mem_singleton] at hv;subst hv;exact my _ _
  rintro ys H' ⟨rfl,ws,rfl,hw,hB⟩ u nu;have t3:=aB (o:=.lst (ws.map V.int)) nu;have eu:upd H' u (.lst (ws.map V.int)) u=some (.lst (ws.map V.int)):=ao;have nud:u≠d:=λz=>by rw [z,hR.at'.dict] at nu;cases nu
  have nuH:=s2.free nu;have s3:=s2.trans t3;generalize upd H' u (.lst (ws.map V.int))=H3 at t3 eu s3 ⊢;refine⟨_,Y,_,Y,_,Y,_,Y,_,_,Y,Y,_,Y,a,_,Y,s3.seq hS,λLc nLc=>⟨Lc,Y,⟨_,bJ.of ao⟩,?_⟩⟩;obtain⟨cs,ecs,lcs⟩:∃cs:List Int,wk (ns.map V.int) (some (st:Int)) (some ((st:Int)+34))=cs.map V.int/\cs.length<=34:=by
   refine⟨(ns.drop (min st ns.length)).take (min (st+34) ns.length - min st ns.length),(Mx (ns.map V.int) st (st+34)).trans ?_,?_⟩
   ·rw [map_take,map_drop,lM]
   ·rw [length_take];omega
  rw [ecs];have t4:=aB (o:=.lst (cs.map V.int)) nLc;have eLc:upd H3 Lc (.lst (cs.map V.int)) Lc=some (.lst (cs.map V.int)):=ao;have nLu:Lc≠u:=λz=>by rw [z,eu] at nLc;cases nLc
  generalize upd H3 Lc (.lst (cs.map V.int))=H4 at t4 eLc ⊢;have sC:aJ H' (aQ [u] H4):=λb o e=>bL (t4 _ _ (t3 _ _ e)) (by simpa using aF e nu);have eLcC:aQ [u] H4 Lc=some (.lst (cs.map V.int)):=bL eLc (by simpa using nLu);have C4:aJ (aQ [u] H4) H4:=bF;have cu:aQ [u] H4 u=none:=by simp [aQ]
  generalize aQ [u] H4=C at sC eLcC C4 cu;have hRC:=hR.same sC;have hqC:=sC _ _ hq2;refine du (K:=K) (a:=Lc) (xs:=cs.map V.int) (λi σ H5=>(∃v6 v8 v9,σ=[some (.ref a),some (.ref P),some (.int st),some (.ref d),some (.ref q),some (.int ((f9 RW).length:Nat)),v6,some (.ref u),v8,v9])/\aJ C H5/\∃ws:List Int,H5 u=some (.lst (ws.map V.int))/\ws.length<=5+i/\∀v∈ws,0<=v/\v <1000000000) ⟨⟨_,_,_,Y⟩,C4,ws,t4 _ _ eu,by omega,hB⟩ (λi σ H5 _ h=>bJ.of (h.2.1 _ _ eLcC)) ?_ ?_
  ·rintro i x σ H5 hx ⟨⟨x6,x8,x9,rfl⟩,s5,ws,eu5,lw,hB⟩;rw [getElem?_map] at hx;obtain⟨cc,hcc,rfl⟩:=map_eq_some_iff.mp hx;have hi:=(List.getElem?_eq_some_iff.mp hcc).1;refine⟨_,Y,_,Y,_,_,Y,?_⟩;refine⟨_,Y,_,Y,_,_,Y,Y,_,_,Y,_,_,Y,Y,by show(0:Int) <4;decide,_,_,Y,Y,?_⟩;refine⟨λσ H'=>∃(v:Int) (bb:Bool),(0<=v/\v <1000000000)/\σ=[some (.ref a),some (.ref P),some (.int st),some (.ref d),some (.ref q),some (.int ((f9 RW).length:Nat)),some (.int v),some (.ref u),some (.int cc),some (.bl bb)]/\H'=H5,?_,?_⟩
   ·refine⟨_,Y,_,_,Y,Y,by show(0:Int)<=7;decide,_,_,Y,Y,Y,_,Y,jQ (λ_=>?_) (λ_=>⟨_,_,my _ _,Y,Y⟩)⟩;have e9:(10:Int) ^ (9:Int).toNat=1000000000:=by decide
    refine⟨_,Y,_,Y,_,_,Y,Y,iT,_,_,Y,Y,_,_,Y,Y,by show(0:Int)<=8+30 * ((f9 RW).length:Int);omega,_,_,Y,Y,⟨by decide,by decide,by decide⟩,_,_,Y,Y,by show(0:Int) <10 ^ (9:Int).toNat;rw [e9];decide,?_⟩;refine⟨_,Y,_,Y,_,_,Y,Y,iT,_,_,Y,Y,by show(0:Int)<=2 * ((f9 RW).length:Int);omega,_,_,Y,Y,Y,?_⟩;exact⟨_,_,⟨emod_nonneg _ (by rw [e9];decide),by have:=emod_lt_of_pos (cc / 2 ^ (8+30 * ((f9 RW).length:Int)).toNat) (show(0:Int) <10 ^ (9:Int).toNat by rw [e9];decide);rwa [e9] at this ⊢⟩,rfl,rfl⟩
   rintro σ H6 ⟨v,bb,hvb,rfl,rfl⟩;refine⟨λσ H5=>(∃v6 v8 v9,σ=[some (.ref a),some (.ref P),some (.int st),some (.ref d),some (.ref q),some (.int ((f9 RW).length:Nat)),v6,some (.ref u),v8,v9])/\aJ C H5/\∃ws:List Int,H5 u=some (.lst (ws.map V.int))/\ws.length<=5+(i+1)/\∀v∈ws,0<=v/\v <1000000000,?_,λ_ _ h=>h⟩;refine⟨_,Y,_,Y,jQ (λ_=>?_) (λ_=>⟨⟨_,_,_,Y⟩,s5,ws,eu5,by omega,hB⟩)⟩;refine⟨_,rfl,.inl ⟨rfl,_,bJ.of eu5⟩,_,rfl,u,_,.int _,rfl,rfl,eu5,by rw [lM];omega,⟨_,_,_,rfl⟩,λb o e=>?_,ws ++ [v],by rw [ao,map_append];rfl,by rw [lP,length_singleton];omega,λv hv=>?_⟩
   ·rw [aK (λz=>by rw [z,cu] at e;cases e)];exact s5 b o e
   ·rcases mem_append.mp hv with hv | hv
    ·exact hB v hv
    ·rw [mem_singleton] at hv;subst hv;exact hvb
  rintro σ H5 ⟨⟨x6,x8,x9,rfl⟩,s5,ws,eu5,lw,hB⟩;rw [lM] at lw;have hR5:=hRC.same s5;refine⟨_,rfl,_,rfl,_,rfl,q,_,1,_,rfl,rfl,fZ.of (s5 _ _ hqC),aO (j:=1) rfl,d,_,rfl,pC.k (k:=Sum.inr p.name) hR5.at'.dict (by unfold f9;rw [lM];omega),⟨_,_,_,_,_,_,rfl⟩,upB ((s2.trans sC).trans s5),wU RW p.name u ws,hR5.put eu5 nuH nud hG hB (by omega) (by decide),?_,λ_=>We _ _ _ _⟩;have:=Ux RW p.name u ws;omega
 rintro σ H2 ⟨⟨w4,w5,w6,w7,w8,w9,rfl⟩,s2,RW,hR,lR,hne⟩;rw [xl,take_length] at hne;exact⟨_,Y,k H2 d RW s2 nd hR (by omega) hne⟩
theorem Wg:∀i,i <11->decide (V.str (fD i)=V.str "take")=decide (i=1):=by decide +kernel
inductive zW (K:Fr) (vs:List V) (H:Hp) (Q:VK) (E:XK):Prop where
 | mk:∀(P:Addr) (xs:List V) (ps:List PD) (c:Int),vs=[.ref P,.int c]->H P=some (.lst xs)->j4 (Ab H) xs ps->((∀p∈ps,p.kind <11))->ps.length<=16->(∀(H':Hp) (p:Addr) (zs:List Str),aJ H H'->H p=none->H' p=some (.lst (zs.map V.str))->(∀x∈zs,V.str x∈cZ ps "give" ++ cZ ps "take")->Q (.ref p) H')->zW K vs H Q E
noncomputable abbrev qZ:List Str:=["_law_parts", "_law_cell_here", "_law_doors", "_law_bits"]
theorem zF (T:Txt w K mg t):FO P w K mg base 2 t.CV ["_law_parts", "_law_cell_here"] (zW K):=by
 have sc:=T.qX.sc qZ;refine T.qX.F.ok sc ln (λ_ _ _ _ H vs Q E hr h=>?_);obtain⟨P,xs,ps,c,rfl,eP,aP,hk,p16,k⟩:=h;refine⟨_,(aq (sN sc 2 (eY [] qZ (aZ (top 85)) Y (bR (pv 0)) (λ_ _ _ _ _=>(vm (PW.pt (Ar (bz gA (bc (ur (K:=K) Y) (pv 0) au (λ_ _=>Y)) bQ (bN _)) (uv (bz gA (bc (ur (K:=K) Y) (pv 0) au (λ_ _=>Y)) bQ (bN _))))))) (λ_ _ _ _ _=>(bc (ur (K:=K) Y) (pv 0) au (λ_ _=>Y)))))
  (aq (bU (bz gA (bu JR (bu Bo (pv 1) au) au) au (bN _))
   (aq (sN sc 3 (bu Bo (pv 1) au))
   (aA (aM (eY [2,3] qZ (aZ (top 85)) rfl (gJ rfl T.jT (aa (bB bV (by rfl) T.fY dC (aa (pv 2) ak aj)) ak aX)) (λ_ _ _ _ _=>(vm (bz gA (bu JR (bu Bo (pv 2) (bu j9 au (pv 0))) au) au (bN _)))) (λ_ _ _ _ _=>(bc (Ge (K:=K) rfl) (pv 1) (pv 0) (λ_ _=>rfl)))))))
   bA)
  (aq (bU (bz gA (bu cH (dX (bh T) T.bx hr (aa (pv 1) (aa au ak az) aj)) au) au (bN _))
   (aA (aM (bC ak)))
   bA)
  (aA (aM (eY [1,2] qZ (aZ (top 85)) rfl (gJ rfl T.jT (aa (bB bV (by rfl) T.fY dC (aa (pv 2) ak aj)) ak aX)) (λ_ _ _ _ _=>(vm (bz gA (bu cH (dX (bh T) T.bx hr (aa (pv 1) (aa (bu dF au (pv 0)) ak bM) aj)) au) au (bN _)))) (λ_ _ _ _ _=>(bc (Ge (K:=K) rfl) (pv 2) (pv 0) (λ_ _=>rfl))))))))),?_⟩
 have hz:sizeLine=16777216:=sizeLine_eq;have xl:=aP.length;refine⟨_,Y,P,Y,⟨_,bJ.of eP⟩,fB (K:=K) (a:=P) (xs:=xs) (λj ys H'=>H'=H/\ys=((ps.take j).filter λp=>decide (p.kind <2)).map λp=>V.str p.name) (by omega) ⟨Y,Y⟩ (λj ys H' h=>by rw [h.2,lM];exact le_trans (length_filter_le _ _) (by rw [length_take];omega)) (λj ys H' _ h=>by rw [h.1];exact bJ.of eP) ?_ ?_⟩
 ·rintro j x ys H1 hx ⟨rfl,rfl⟩;obtain⟨p,hpj,q,a1,a2,a3,rfl,hq,_⟩:=aP.get hx;have hk':=hk p (mem_of_getElem? hpj);refine⟨_,Y,q,_,0,_,Y,Y,fZ.of hq,aO (j:=0) Y,Y,_,Y,?_⟩;rw [Wv _ hk',take_succ,hpj,toList_some,filter_append,map_append,filter_cons];by_cases h0:p.kind=0
  ·rw [decide_eq_true h0];exact iy (iy ⟨_,rfl,q,_,1,_,rfl,rfl,fZ.of hq,aO (j:=1) rfl,rfl,by rw [if_pos (by simp [h0])];rfl⟩)
  ·rw [decide_eq_false h0];refine dz ⟨_,Y,q,_,0,_,Y,Y,fZ.of hq,aO (j:=0) Y,Y,_,Y,?_⟩;rw [Wg _ hk'];by_cases h1:p.kind=1
   ·rw [decide_eq_true h1];exact iy ⟨_,rfl,q,_,1,_,rfl,rfl,fZ.of hq,aO (j:=1) rfl,rfl,by rw [if_pos (by simp [h1])];rfl⟩
   ·rw [decide_eq_false h1];exact dz ⟨Y,by rw [if_neg (by simp;omega)];simp⟩
 rintro zs H1 ⟨rfl,rfl⟩ Ld nLd;rw [xl,take_length];obtain⟨ds,hds⟩:∃ds:List Str,ds=(ps.filter λp=>decide (p.kind <2)).map λp=>p.name:=⟨_,rfl⟩;have lds:ds.length<=16:=by rw [hds,lM];exact le_trans (length_filter_le _ _) p16
 have dds:∀x∈ds,V.str x∈cZ ps "give" ++ cZ ps "take" :=λx hx=>by
  rw [hds] at hx;obtain⟨p,hp,rfl⟩:=mem_map.mp hx;obtain⟨hp,h2⟩:=mem_filter.mp hp;have h2:=of_decide_eq_true h2;refine mem_append.mpr ?_;have:p.kind=0∨p.kind=1:=by omega
  rcases this with h | h
  ·exact .inl (mem_map.mpr ⟨p,mem_filter.mpr ⟨hp,by rw [h];rfl⟩,rfl⟩)
  ·exact .inr (mem_map.mpr ⟨p,mem_filter.mpr ⟨hp,by rw [h];rfl⟩,rfl⟩)
 have mds:((ps.filter λp=>decide (p.kind <2)).map λp=>V.str p.name)=ds.map V.str:=by rw [hds,map_map];rfl
 rw [mds];have t1:=aB (o:=.lst (ds.map V.str)) nLd;have eLd:upd H1 Ld (.lst (ds.map V.str)) Ld=some (.lst (ds.map V.str)):=ao;generalize upd H1 Ld (.lst (ds.map V.str))=H2 at t1 eLd ⊢;refine⟨_,Y,_,_,Y,Y,by show(0:Int)<=79;decide,_,_,Y,Y,Y,_,Y,jQ (λ_=>?_) (λ_=>?_)⟩
 ·refine⟨_,Y,_,_,Y,Y,by show(0:Int)<=80;decide,_,Y,_,(ds.map V.str).length,Y,.inl ⟨_,bJ.of eLd,Y⟩,_,Y,by omega,by rw [lM];omega,?_⟩;refine jc (λi ys H'=>H'=H2/\ys.length<=i/\∃zs:List Str,ys=zs.map V.str/\∀x∈zs,x∈ds) (by rw [toNat_natCast,lM];omega) ⟨rfl,le_refl _,[],rfl,by simp⟩ (λi ys H' h=>h.2.1) ?_ ?_
  ·rintro i ys H' hi ⟨rfl,ly,zs,rfl,hzs⟩;rw [toNat_natCast,lM] at hi;refine⟨_,Y,_,Y,_,_,Y,Y,iT,_,_,Y,Y,by show(0:Int)<=2 * (0+(i:Int));omega,_,_,Y,Y,Y,_,Y,jQ (λ_=>?_) (λ_=>⟨Y,Nat.le_succ_of_le ly,zs,Y,hzs⟩)⟩;refine⟨_,Y,_,Y,Ld,_,_,.str ds[i],Y,Y,bJ.of eLd,?_,Y,by rw [lP];simp;simpa using ly,zs ++ [ds[i]],by simp,λx hx=>?_⟩
   ·rw [show(0:Int)+(i:Int)=(i:Int) by omega];exact aO (by rw [getElem?_map,getElem?_eq_getElem hi];rfl)
   ·rcases mem_append.mp hx with h | h
    ·exact hzs x h
    ·rw [mem_singleton] at h;rw [h];exact getElem_mem hi
  rintro ys H' ⟨rfl,_,zs,rfl,hzs⟩ p np;exact k _ p zs (t1.trans (aB np)) (t1.free np) ao λx hx=>dds x (hzs x hx)
 refine⟨_,Y,_,_,Y,_,_,Y,Y,by show(0:Int) <3;decide,Y,_,Y,jQ (λ_=>?_) (λ_=>?_)⟩
 ·exact⟨jB,λp np=>k _ p [] (t1.trans (aB np)) (t1.free np) ao (by simp)⟩
 refine⟨_,Y,_,(ds.map V.str).length,Y,.inl ⟨_,bJ.of eLd,Y⟩,_,Y,by omega,by rw [lM];omega,?_⟩;refine jc (λi ys H'=>H'=H2/\ys.length<=i/\∃zs:List Str,ys=zs.map V.str/\∀x∈zs,x∈ds) (by rw [toNat_natCast,lM];omega) ⟨rfl,le_refl _,[],rfl,by simp⟩ (λi ys H' h=>h.2.1) ?_ ?_
 ·rintro i ys H' hi ⟨rfl,ly,zs,rfl,hzs⟩;rw [toNat_natCast,lM] at hi;refine⟨_,Y,_,Y,_,_,Y,Y,_,_,Y,_,_,Y,Y,by show(0:Int) <3;decide,Y,_,Y,jQ (λ_=>?_) (λ_=>⟨Y,Nat.le_succ_of_le ly,zs,Y,hzs⟩)⟩;refine⟨_,Y,_,Y,Ld,_,_,.str ds[i],Y,Y,bJ.of eLd,?_,Y,by rw [lP];simp;simpa using ly,zs ++ [ds[i]],by simp,λx hx=>?_⟩
  ·rw [show(0:Int)+(i:Int)=(i:Int) by omega];exact aO (by rw [getElem?_map,getElem?_eq_getElem hi];rfl)
  ·rcases mem_append.mp hx with h | h
   ·exact hzs x h
   ·rw [mem_singleton] at h;rw [h];exact getElem_mem hi
 rintro ys H' ⟨rfl,_,zs,rfl,hzs⟩ p np;exact k _ p zs (t1.trans (aB np)) (t1.free np) ao λx hx=>dds x (hzs x hx)
theorem My {ls:List aD} {ps:List PD} {S:FS} (F:lN ls ps) {p:PD} (hp:p∈ps) {dd:ji} (h:fC S p=some dd) {x:Str} (hx:x∈dd.tk):x∈p.ins/\S.g x <(S.ev x).length:=by
 obtain⟨hl,_,rfl⟩:=jn h;obtain⟨q,hq,rfl⟩:=mem_map.mp hx;obtain⟨y,n,e1,_,e3⟩:=JH (F.pok p hp) hl q hq;have e:strAt p.ins q=y:=by unfold strAt;rw [e1];rfl
 rw [e];exact⟨mem_of_getElem? e1,(List.getElem?_eq_some_iff.mp e3).1⟩
theorem Fe {ls:List aD} {ps:List PD} {S:FS} (F:lN ls ps) {p q:PD} (hp:p∈ps) (hq:q∈ps) (hne:p≠q) {dd:ji} (h:fC S p=some dd) {x:Str} (hx:x∈q.ins) {n:Int} (hn:fJ S x=.int n):fJ (qM S p.name dd) x=.int n:=by
 have hg:x∉dd.tk:=λz=>by have h1:=(My F hp h z).1;have nd:=F.whole.ins.nodup_iff.mpr F.whole.nod;exact hne (tO nd hp hq h1 hx)
 unfold fJ at hn ⊢;show((((S.ev x) ++ _)[if x∈dd.tk then S.g x+1 else S.g x]?).map V.int).getD .non=.int n;rw [if_neg hg];cases e:(S.ev x)[S.g x]? with
 | none=>rw [e] at hn;cases hn
 | some m=>
  rw [e] at hn;rw [getElem?_append_left (List.getElem?_eq_some_iff.mp e).1,e];exact hn
theorem HS {ls:List aD} {ps:List PD} {S:FS} (F:lN ls ps) {p q:PD} (hp:p∈ps) (hq:q∈ps) (hne:p≠q) {dd dq:ji} (h:fC S p=some dd) (hd:fC S q=some dq):fC (qM S p.name dd) q=some dq:=by
 obtain⟨hl,he,rfl⟩:=jn hd;have ok:=F.pok q hq;have hno:=JH ok hl;have nn:q.name≠p.name:=λz=>hne (yH F.pnd hp hq z.symm);have at':∀i∈places q.kind (aN S q),∃n,(aN S q)[i]?=some (.int n)/\(aN (qM S p.name dd) q)[i]?=some (.int n):=λi hi=>by obtain⟨x,n,e1,e2,_⟩:=hno i hi;refine⟨n,e2,?_⟩;unfold aN at e2 ⊢;rw [getElem?_map,e1] at e2 ⊢;rw [map_some] at e2 ⊢;rw [Fe F hp hq hne h (mem_of_getElem? e1) (Option.some.inj e2)]
 have pl:places q.kind (aN (qM S p.name dd) q)=places q.kind (aN S q):=by
  by_cases h9:q.kind=9
  ·obtain⟨n,e1,e2⟩:=at' 0 (by unfold places;rw [if_pos h9];split <;> simp);unfold places;rw [if_pos h9,if_pos h9];cases a:aN S q with
   | nil=>rw [a] at e1;cases e1
   | cons u r=>
    rw [a] at e1;cases b:aN (qM S p.name dd) q with
    | nil=>rw [b] at e2;cases e2
    | cons v s=>
     rw [b] at e2;have e1:u=.int n:=by simpa using e1
     have e2:v=.int n:=by simpa using e2
     rw [e1,e2]
  ·unfold places aN;rw [if_neg h9,if_neg h9,lM,lM]
 have ws:vB (qM S p.name dd) q=vB S q:=by
  unfold vB;rw [pl];by_cases h0:q.kind=0
  ·rw [if_pos h0,if_pos h0];show((S.r q.name)[if q.name=p.name then _ else S.d q.name]?).toList=_;rw [if_neg nn]
  ·rw [if_neg h0,if_neg h0];refine map_congr_left λi hi=>?_;obtain⟨n,e1,e2⟩:=at' i hi;rw [e1,e2]
 have kk:(qM S p.name dd).k q.name=S.k q.name:=if_neg nn;have hl':cz q.kind q.ins (aN (qM S p.name dd) q)=.non:=by unfold cz;rw [pl,find?_eq_none.mpr λi hi=>?_];obtain⟨n,_,e2⟩:=at' i hi;unfold lA;rw [e2];simp
 have he':qK (qM S p.name dd) q=false:=by unfold qK at he ⊢;show(decide (q.kind=0) && decide ((if q.name=p.name then _ else S.d q.name)=(S.r q.name).length))=false;rw [if_neg nn];exact he
 unfold fC;rw [if_neg (by simp [hl']),if_neg (by simp [he']),pl,ws,kk]
theorem Ru {b:Nat} {ls:List aD} {ps:List PD} {S:FS} (F:lN ls ps) (O:yF b ls ps S) {p:PD} (hp:p∈ps):(iJ ls S p).isSome=(iw ls S p).isNone:=by
 unfold iJ;rcases zV p.kind p.ins (aN S p) with hlk | ⟨x,hlk⟩;rotate_left
 ·rw [Gy (by rw [hlk];intro z;cases z),ux hlk];rfl
 cases he:qK S p with
 | true=>rw [HR he,zc hlk he];rfl
 | false=>
  have hdd:fC S p=some ⟨(places p.kind (aN S p)).map (strAt p.ins),Hg S p,fW p.kind (vB S p) (S.k p.name)⟩:=by unfold fC;rw [if_neg (by simp [hlk]),if_neg (by simp [he])];rfl
  rw [hdd,ug hlk he];unfold yo;dsimp only;cases (Hg S p).find? (j6 ls S) <;> simp
theorem Py {ls:List aD} {ps:List PD} {S:FS} (F:lN ls ps) {p:PD} (hp:p∈ps) {dd:ji} (h:fC S p=some dd) {q:Str×Int} (hq:q∈dd.gv):q.1∈p.outs:=by obtain⟨_,_,rfl⟩:=jn h;have ok:=F.pok p hp;obtain⟨pv,hpv,rfl⟩:=mem_map.mp hq;obtain⟨o,ho1,ho2⟩:=Eb (show p.kind<=10 by have:=ok.1;omega) _ _ _ _ hpv;refine xq ?_;rw [ho1,toNat_natCast,ok.2.2.2.1];exact ho2
theorem Yi {S:FS} {x z:Str} {dd:ji} (h:∀q∈dd.gv,q.1≠z):(qM S x dd).ev z=S.ev z:=by show S.ev z ++ _=S.ev z;rw [List.filter_eq_nil_iff.mpr λq hq=>by simpa using h q hq];simp
theorem aal {S:FS} {x z:Str} {dd:ji} (h:z∉dd.tk):(qM S x dd).g z=S.g z:=if_neg h
theorem Rq {S T:FS} {p:PD} {x:Str} (h:cz p.kind p.ins (aN S p)=.str x) (h1:∀z∈p.ins,∀n,fJ S z=.int n->fJ T z=.int n) (h2:fJ S x=.non->fJ T x=.non) (hv:∀z∈p.ins,fJ S z=.non∨∃n,fJ S z=.int n):cz p.kind p.ins (aN T p)=.str x:=by
 have at':∀i z,p.ins[i]?=some z->(aN S p)[i]?=some (fJ S z)/\(aN T p)[i]?=some (fJ T z):=λi z e=>by unfold aN;rw [getElem?_map,getElem?_map,e];exact⟨Y,Y⟩
 unfold cz at h ⊢;cases e:(places p.kind (aN S p)).find? (lA (aN S p)) with
 | none=>rw [e] at h;cases h
 | some q=>
  rw [e] at h;dsimp only at h;cases e2:p.ins[q]? with
  | none=>rw [e2] at h;cases h
  | some z=>
   rw [e2] at h;cases h;have lq:lA (aN S p) q=true:=find?_some e;have hx:fJ S x=.non:=by unfold lA at lq;rw [(at' q x e2).1] at lq;simpa using lq
   have hT:=h2 hx;have key:∃pre post,places p.kind (aN S p)=pre ++ q:: post/\(∀i∈pre,lA (aN S p) i=false):=by obtain⟨_,pre,post,e3,e4⟩:=List.find?_eq_some_iff_append.mp e;exact⟨pre,post,e3,λi hi=>by simpa using e4 i hi⟩
   obtain⟨pre,post,e3,e4⟩:=key;have pl:places p.kind (aN T p)=places p.kind (aN S p):=by
    by_cases h9:p.kind=9
    ·cases ei:p.ins with
     | nil=>rw [ei] at e2;cases e2
     | cons z0 r=>
      have hz0:z0∈p.ins:=by rw [ei];exact mem_cons_self
      unfold places aN;rw [if_pos h9,if_pos h9,ei,map_cons,map_cons];rcases hv z0 hz0 with hn | ⟨n,hn⟩
      ·have:fJ T z0=.non:=by
        have pe:places p.kind (aN S p)=[0]:=by unfold places aN;rw [if_pos h9,ei,map_cons,hn]
        rw [pe] at e3;have q0:q=0:=by
         cases pre with
         | nil=>simp at e3;exact e3.1.symm
         | cons _ _=>simp at e3
        rw [q0,ei] at e2;have:z0=x:=by simpa using e2
        rw [this];exact hT
       rw [hn,this]
      ·rw [hn,h1 z0 hz0 n hn]
    ·unfold places aN;rw [if_neg h9,if_neg h9,lM,lM]
   have:(places p.kind (aN T p)).find? (lA (aN T p))=some q:=by
    rw [pl,e3,find?_append,find?_eq_none.mpr λi hi=>?_,find?_cons_of_pos]
    ·rfl
    ·unfold lA;rw [(at' q x e2).2,hT];rfl
    ·have:=e4 i hi;unfold lA at this ⊢;cases ez:p.ins[i]? with
     | none=>
      have:(aN T p)[i]?=none:=by unfold aN;rw [getElem?_map,ez];rfl
      rw [this];simp
     | some z=>
      rw [(at' i z ez).1] at this;rw [(at' i z ez).2];rcases hv z (mem_of_getElem? ez) with hn | ⟨n,hn⟩
      ·rw [hn] at this;simp at this
      ·rw [h1 z (mem_of_getElem? ez) n hn];simp
   rw [this];dsimp only;rw [e2];rfl
theorem S8 (S:FS) (x:Str):fJ S x=.non∨∃n,fJ S x=.int n:=by
 unfold fJ;cases (S.ev x)[S.g x]? with
 | none=>exact .inl rfl
 | some n=>exact .inr ⟨n,rfl⟩
noncomputable def wz (ls:List aD) (ps:List PD) (S:FS) (R:List Str) (wf:Str->Str×Str):Prop:=∀p∈ps,p.name∈R->iw ls S p=some (wf p.name)/\∃z∈R,qH ps (p.name,wf p.name)=some z
theorem Q8 {α:Type} {c c':α->Bool} {l:List α} {a:α} (h:l.find? c=some a) (h1:c' a=true) (h2:∀b∈l,c b=false->c' b=false):l.find? c'=some a:=by
 obtain⟨_,pre,post,e,e4⟩:=List.find?_eq_some_iff_append.mp h;rw [e,find?_append,find?_eq_none.mpr λb hb=>?_,find?_cons_of_pos h1]
 ·rfl
 ·rw [h2 b (by rw [e];exact mem_append.mpr (.inl hb)) (by simpa using e4 b hb)];simp
theorem RQ {ls:List aD} {ps:List PD} {S:FS} {R:List Str} {wf:Str->Str×Str} (F:lN ls ps) (D:wz ls ps S R wf) {q:PD} (hq:q∈ps) (hn:q.name∉R) {dd:ji} (h:fC S q=some dd):wz ls ps (qM S q.name dd) R wf:=by
 have ndI:=F.whole.ins.nodup_iff.mpr F.whole.nod;have ndO:=F.whole.outs.nodup_iff.mpr F.whole.nod;intro p hp hR;obtain⟨hw,z,hz,hl⟩:=D p hp hR;refine⟨?_,z,hz,hl⟩;have hne:q≠p:=λe=>hn (by rw [e];exact hR);have toR:∀r∈ps,r.name=z->q≠r:=λr _ e1 e2=>hn (by rw [e2,e1];exact hz);rcases zV p.kind p.ins (aN S p) with hlk | ⟨x,hlk⟩
 ·cases he:qK S p with
  | true=>
   rw [zc hlk he] at hw;have hw:=Option.some.inj hw;unfold qH at hl;rw [<-hw] at hl;rw [if_neg (show ¬("end" :Str)= "value" by decide),if_neg (show ¬("end" :Str)= "room" by decide)] at hl;cases hl
  | false=>
   have hdd:fC S p=some ⟨(places p.kind (aN S p)).map (strAt p.ins),Hg S p,fW p.kind (vB S p) (S.k p.name)⟩:=by unfold fC;rw [if_neg (by simp [hlk]),if_neg (by simp [he])];rfl
   have hdT:=HS F hq hp hne h hdd;obtain⟨hlT,heT,hgT⟩:=jn hdT;have hgT:Hg (qM S q.name dd) p=Hg S p:=by have:=congrArg ji.gv hgT;exact this.symm
   rw [ug hlk he] at hw;rw [ug hlT heT,hgT];cases e:(Hg S p).find? (j6 ls S) with
   | none=>rw [e] at hw;cases hw
   | some g=>
    rw [e] at hw;have hw:=Option.some.inj hw;have gq:=mem_of_find?_eq_some e;have outS:∀b∈Hg S p,b.1∈p.outs:=λb hb=>Py F hp hdd hb;have evS:∀b∈Hg S p,(qM S q.name dd).ev b.1=S.ev b.1:=λb hb=>Yi λc hc e=>hne (tO ndO hq hp (Py F hq h hc) (by rw [e];exact outS b hb));have gS:(qM S q.name dd).g g.1=S.g g.1:=by refine aal λhz'=>?_;have hi:=(My F hq h hz').1;unfold qH at hl;rw [<-hw] at hl;rw [if_neg (show ¬("room" :Str)= "value" by decide),if_pos rfl] at hl;rw [Qf F hq hi] at hl;have e1:q.name=z:=Option.some.inj hl;exact hn (by rw [e1];exact hz)
    have gG:∀b,S.g b<=(qM S q.name dd).g b:=λb=>by show S.g b<=if b∈dd.tk then S.g b+1 else S.g b;split <;> omega
    rw [Q8 e (c':=j6 ls (qM S q.name dd)) (by
     have:=find?_some e;unfold j6 at this ⊢;rw [evS g gq,gS];exact this) (λb hb hf=>by
     unfold j6 at hf ⊢;rw [evS b hb];have hf:=of_decide_eq_false hf;refine decide_eq_false λz=>hf ?_;have:=gG b.1;omega)]
    exact congrArg some hw
 ·rw [ux hlk] at hw;have hx:x∈p.ins:=by
   have:=hlk;unfold cz at this;cases e:(places p.kind (aN S p)).find? (lA (aN S p)) with
   | none=>rw [e] at this;cases this
   | some i=>
    rw [e] at this;dsimp only at this;cases e2:p.ins[i]? with
    | none=>rw [e2] at this;cases this
    | some z=>rw [e2] at this;cases this;exact mem_of_getElem? e2
  have keep:=Rq (T:=qM S q.name dd) hlk (λz hz n e=>Fe F hq hp hne h hz e) (λe=>by
   have gS:(qM S q.name dd).g x=S.g x:=aal λhz'=>hne (tO ndI hq hp (My F hq h hz').1 hx);have eS:(qM S q.name dd).ev x=S.ev x:=Yi λc hc e=>by have ho:=Py F hq h hc;rw [e] at ho;unfold qH at hl;rw [<-Option.some.inj hw] at hl;rw [if_pos rfl,Mv F hq ho] at hl;have e1:q.name=z:=Option.some.inj hl;exact hn (by rw [e1];exact hz)
   unfold fJ at e ⊢;rw [gS,eS];exact e) (λz _=>S8 S z)
  rw [ux keep];exact hw
theorem Nr {ls:List aD} {ps:List PD} {R:List Str} {wf:Str->Str×Str} (F:lN ls ps):∀{ws:List (PD×ji)} {S:FS},wz ls ps S R wf->(ws.map λw=>w.1.name).Nodup->(∀w∈ws,w.1∈ps/\w.1.name∉R/\fC S w.1=some w.2)->wz ls ps (iK S ws) R wf
 | [],_,D,_,_=>D
 | w:: r,S,D,nd,h=>by obtain⟨h1,h2,h3⟩:=h w mem_cons_self;rw [map_cons,nodup_cons] at nd;refine Nr F (ws:=r) (S:=qM S w.1.name w.2) (RQ F D h1 h2 h3) nd.2 λv hv=>?_;obtain⟨g1,g2,g3⟩:=h v (mem_cons_of_mem _ hv);exact⟨g1,g2,HS F h1 g1 (λe=>nd.1 (mem_map.mpr ⟨v,hv,by rw [e]⟩)) h3 g3⟩
theorem Es {b:Nat} {ls:List aD} {ps:List PD} {S:FS} {R:List Str} {wf:Str->Str×Str} {xs:List Str} (F:lN ls ps) (O:yF b ls ps S) (D:wz ls ps S R wf):∀w∈lL ls ps S xs,w.1∈ps/\w.1.name∉R/\fC S w.1=some w.2:=λw hw=>by
 obtain⟨p,hp,e⟩:=mem_filterMap.mp hw;obtain⟨dd,hd,rfl⟩:=map_eq_some_iff.mp e;have hp:=(mem_filter.mp hp).1;have nw:=Ru F O hp;refine⟨hp,λhR=>?_,?_⟩
 ·rw [(D p hp hR).1,hd] at nw;cases nw
 ·unfold iJ at hd;cases e:fC S p with
  | none=>rw [e] at hd;cases hd
  | some d'=>
   rw [e] at hd;dsimp only at hd;split at hd
   ·exact hd
   ·cases hd
theorem WR {ls:List aD} {ps:List PD} {S:FS} {xs:List Str} (F:lN ls ps):((lL ls ps S xs).map λw=>w.1.name).Nodup:=by
 have:∀qs:List PD,((qs.filterMap λp=>(iJ ls S p).map λdd=>(p,dd)).map λw=>w.1.name).Sublist (qs.map (·.name)):=λqs=>by
  induction qs with
  | nil=>exact .slnil
  | cons q r ih=>
   rw [filterMap_cons];cases iJ ls S q with
   | none=>exact .cons _ ih
   | some d=>exact .cons₂ _ ih
 exact(F.pnd.sublist (filter_sublist.map _)).sublist (this _)
theorem Jd {b:Nat} {ls:List aD} {ps:List PD} {S:FS} {R:List Str} {wf:Str->Str×Str} {xs:List Str} (F:lN ls ps) (O:yF b ls ps S) (D:wz ls ps S R wf):wz ls ps (fX ls ps S xs) R wf:=Nr F D (WR F) (Es F O D)
theorem Lq {x:Str}:∀{ws:List (PD×ji)} {S:FS},(∀w∈ws,w.1.name≠x)->(iK S ws).d x=S.d x
 | [],_,_=>rfl
 | w:: r,S,h=>by show(iK (qM S w.1.name w.2) r).d x=S.d x;rw [Lq λv hv=>h v (mem_cons_of_mem _ hv)];exact if_neg λe=>h w mem_cons_self e.symm
theorem Yw {b:Nat} {ls:List aD} {ps:List PD} {S:FS} {R:List Str} {wf:Str->Str×Str} {xs:List Str} (F:lN ls ps) (O:yF b ls ps S) (D:wz ls ps S R wf) {x:Str} (hx:x∈R):(fX ls ps S xs).d x=S.d x:=Lq λw hw e=>(Es F O D w hw).2.1 (by rw [e];exact hx)
theorem Wk.next {f:Str->Option (Option Str)} {x:Str} {s:List Str} {a:Option Str} (h:Wk f x s a):∀i y,s[i]?=some y->f y=some (if i+1 <s.length then s[i+1]? else a):=by
 induction h with
 | start=>intro i y e;simp at e
 | @step seen a b w e hn ih=>
  intro i y hy;by_cases hi:i <seen.length
  ·rw [getElem?_append_left hi] at hy;rw [ih i y hy,if_pos (show i+1 <(seen ++ [a]).length by rw [lP,length_singleton];omega)];by_cases h2:i+1 <seen.length
   ·rw [if_pos h2,getElem?_append_left h2]
   ·rw [if_neg h2,getElem?_append_right (by omega),show i+1 - seen.length=0 by omega];rfl
  ·have hl:=(List.getElem?_eq_some_iff.mp hy).1;rw [lP,length_singleton] at hl;have:i=seen.length:=by omega
   subst this;rw [getElem?_append_right (le_refl _),sub_self] at hy;have:a=y:=by simpa using hy
   rw [<-this,e,if_neg (by rw [lP,length_singleton];omega)]
theorem rA.closed {f:Str->Option (Option Str)} {x:Str} {r:List Str} (h:rA f x r) {y:Str} (hy:y∈r):∃z∈r,f y=some (some z):=by
 obtain⟨s,a,w,st,rfl⟩:=h;cases a with
 | none=>cases hy
 | some a=>
  rw [show Io s (some a)=if a∈s then s.drop (s.idxOf a) else [] from rfl] at hy ⊢;by_cases ha:a∈s
  ·rw [if_pos ha] at hy ⊢;obtain⟨i,hi,e⟩:=mem_iff_getElem.mp hy;rw [List.getElem_drop] at e;rw [length_drop] at hi;have n:=w.next (s.idxOf a+i) y (by rw [getElem?_eq_getElem (by omega),e]);by_cases h2:s.idxOf a+i+1 <s.length
   ·rw [if_pos h2,getElem?_eq_getElem h2] at n;refine⟨_,?_,n⟩;refine mem_of_getElem? (i:=i+1) ?_;rw [List.getElem?_drop,getElem?_eq_getElem (by omega)];rfl
   ·rw [if_neg h2] at n;refine⟨a,mem_of_getElem? (i:=0) ?_,n⟩;rw [List.getElem?_drop,Nat.add_zero];exact(xK ha).1
  ·rw [if_neg ha] at hy;cases hy
theorem Ug {f:Str->Option (Option Str)} {R:List Str} (hR:∀y∈R,∃z∈R,f y=some (some z)) {x:Str} (hx:x∈R) {r:List Str} (h:rA f x r):r≠[]:=by
 obtain⟨s,a,w,st,rfl⟩:=h;have key:∀{s:List Str} {a:Option Str},Wk f x s a->∃y∈R,a=some y:=λw=>by
  induction w with
  | start=>exact⟨x,hx,rfl⟩
  | step w e _ ih=>
   obtain⟨y,hy,e2⟩:=ih;rw [<-Option.some.inj e2] at hy;obtain⟨z,hz,e3⟩:=hR _ hy;rw [e] at e3;exact⟨z,hz,Option.some.inj e3⟩
 obtain⟨y,hy,rfl⟩:=key w;obtain⟨z,_,e⟩:=hR y hy;have hm:y∈s:=(st y rfl).resolve_left (by rw [e];intro q;cases q);rw [show Io s (some y)=if y∈s then s.drop (s.idxOf y) else [] from rfl,if_pos hm];intro q;have:=List.drop_eq_nil_iff.mp q;have:=List.idxOf_lt_length_iff.mpr hm;omega
theorem K9 {ls:List aD} {ps:List PD} {S:FS} (F:lN ls ps) {p:PD} (hp:p∈ps):Ko ps (ik ls S ps) p.name=(iw ls S p).map λw=>qH ps (p.name,w):=by
 have key:∀qs:List PD,(qs.map (·.name)).Nodup->(p∈qs->(ik ls S qs).find? (λw=>decide (w.1=p.name))=(iw ls S p).map λw=>(p.name,w.1,w.2))/\(p.name∉qs.map (·.name)->(ik ls S qs).find? (λw=>decide (w.1=p.name))=none):=λqs=>by
  induction qs with
  | nil=>exact λ_=>⟨λh=>(by cases h),λ_=>rfl⟩
  | cons q r ih=>
   intro nd;rw [map_cons,nodup_cons] at nd;obtain⟨i1,i2⟩:=ih nd.2;have e:ik ls S (q:: r)=((iw ls S q).map λw=>(q.name,w.1,w.2)).toList ++ ik ls S r:=by unfold ik;rw [filterMap_cons];cases iw ls S q <;> rfl
   rw [e,find?_append];constructor
   ·intro h;rcases mem_cons.mp h with rfl | h
    ·rw [i2 nd.1];cases iw ls S p with
     | none=>rfl
     | some w=>simp
    ·rw [i1 h];have hne:¬q.name=p.name:=λz=>nd.1 (by rw [z];exact mem_map.mpr ⟨p,h,rfl⟩);cases iw ls S q with
     | none=>rfl
     | some w=>simp [hne]
   ·intro h;rw [map_cons,mem_cons,not_or] at h;rw [i2 h.2];have hne:¬q.name=p.name:=λz=>h.1 z.symm;cases iw ls S q with
    | none=>rfl
    | some w=>simp [hne]
 unfold Ko;rw [(key ps F.pnd).1 hp];cases iw ls S p <;> rfl
theorem RC {ls:List aD} {ps:List PD} {S:FS} {R:List Str} {wf:Str->Str×Str} (F:lN ls ps) (D:wz ls ps S R wf) (hR:∀y∈R,y∈ps.map (·.name)) {x:Str} (hx:x∈R) {ws:List (Str×Str×Str)} (h:zX (Ko ps (ik ls S ps)) (ps.map (·.name)) (ik ls S ps) ws):ws≠[]:=by
 have cl:∀y∈R,∃z∈R,Ko ps (ik ls S ps) y=some (some z):=λy hy=>by obtain⟨p,hp,rfl⟩:=mem_map.mp (hR y hy);obtain⟨h1,z,hz,h2⟩:=D p hp hy;exact⟨z,hz,by rw [K9 F hp,h1,map_some,h2]⟩
 rcases h with ⟨rfl,h⟩ | ⟨pre,y,post,r,e,h1,h2,h3,rfl⟩
 ·exact absurd Y (Ug cl hx (h x (hR x hx)))
 ·intro q;have q:=List.map_eq_nil_iff.mp q;obtain⟨y0,hy0⟩:=List.exists_mem_of_ne_nil r h3;obtain⟨w,hw,e2⟩:=tM (h2.nd.2 y0 hy0);have hin:y0∈ps.map (·.name):=(xj ls S ps).subset (mem_map.mpr ⟨w,hw,e2⟩);unfold yI at q;cases ef:(ps.map (·.name)).find? (λy=>decide (y∈r)) with
  | none=>exact absurd (decide_eq_true hy0) (find?_eq_none.mp ef y0 hin)
  | some y1=>
   rw [ef] at q;have:=congrArg List.length q;dsimp only at this;rw [lP,length_drop,length_take,length_nil] at this;have:=List.length_pos_of_mem hy0;omega
theorem RT {ls:List aD} {ps:List PD} {S:FS} (F:lN ls ps) {ws:List (Str×Str×Str)} (h:zX (Ko ps (ik ls S ps)) (ps.map (·.name)) (ik ls S ps) ws) (hne:ws≠[]):wz ls ps S (ws.map (·.1)) (λx=>(K7 (ik ls S ps) x).2)/\(∀w∈ws,w∈ik ls S ps/\w=K7 (ik ls S ps) w.1)/\∀y∈ws.map (·.1),y∈ps.map (·.name):=by
 rcases h with ⟨rfl,_⟩ | ⟨pre,x,post,r,e,h1,h2,h3,rfl⟩
 ·exact absurd Y hne
 have wAt:∀y∈r,K7 (ik ls S ps) y∈ik ls S ps/\(K7 (ik ls S ps) y).1=y:=λy hy=>by
  obtain⟨w,hw,e⟩:=tM (h2.nd.2 y hy);unfold K7;cases ef:(ik ls S ps).find? λw=>decide (w.1=y) with
  | none=>exact absurd (decide_eq_true e) (find?_eq_none.mp ef w hw)
  | some w'=>exact⟨mem_of_find?_eq_some ef,by simpa using find?_some ef⟩
 have nm:((yI r (ps.map (·.name))).map (K7 (ik ls S ps))).map (·.1)=yI r (ps.map (·.name)):=by rw [map_map];refine(map_congr_left λy hy=>?_).trans (map_id _);exact(wAt y (Ah hy)).2
 have inR:∀y∈r,y∈yI r (ps.map (·.name)):=λy hy=>by
  obtain⟨w,hw,e2⟩:=tM (h2.nd.2 y hy);have hin:y∈ps.map (·.name):=(xj ls S ps).subset (mem_map.mpr ⟨w,hw,e2⟩);unfold yI;cases ef:(ps.map (·.name)).find? (λy=>decide (y∈r)) with
  | none=>exact absurd (decide_eq_true hy) (find?_eq_none.mp ef y hin)
  | some y1=>
   rw [<-take_append_drop (r.idxOf y1) r] at hy;exact mem_append.mpr ((mem_append.mp hy).symm)
 rw [nm];refine⟨λp hp hR=>?_,λw hw=>?_,λy hy=>?_⟩
 ·have hr:=Ah hR;obtain⟨hw1,hw2⟩:=wAt _ hr;obtain⟨p',hp',g1,g2⟩:=Kd hw1;have:p'=p:=yH F.pnd hp' hp (by rw [<-g2,hw2]);rw [this] at g1;refine⟨g1,?_⟩;obtain⟨z,hz,hf⟩:=h2.closed hr;refine⟨z,inR z hz,?_⟩;rw [K9 F hp,g1,map_some] at hf;exact Option.some.inj hf
 ·obtain⟨y,hy,rfl⟩:=mem_map.mp hw;obtain⟨hw1,hw2⟩:=wAt _ (Ah hy);exact⟨hw1,by rw [hw2]⟩
 ·obtain⟨w,hw,e2⟩:=tM (h2.nd.2 y (Ah hy));exact(xj ls S ps).subset (mem_map.mpr ⟨w,hw,e2⟩)
noncomputable def Sw (w:Str×Str×Str):PyData:=.tuple [.str w.1,.str w.2.1,.str w.2.2]
theorem QW {H:Hp}:∀{us:List Addr} {ws:List (Str×Str×Str)},dw H us (ws.map Ha)->Ry K H (us.map V.ref) (ws.map Sw)
 | [],[],_=>.nil
 | [],_:: _,h=>nomatch h
 | _:: _,[],h=>nomatch h
 | u:: us,w:: ws,h=>by
  have h:Paired (λr vs=>H r=some (.tup vs)) (u:: us) (Ha w:: ws.map Ha):=h;cases h with
  | cons a b=>exact .cons (.tuple (fZ.of a) (.cons (.str _) (.cons (.str _) (.cons (.str _) .nil)))) (QW b)
theorem KN {H:Hp} {L:Addr} {us:List Addr} {ws:List (Str×Str×Str)} (h:bJ K H L (us.map V.ref)) (t:dw H us (ws.map Ha)):Dt K H (.ref L) (.list (ws.map Sw)):=.list h (QW t)
theorem Qt {ls:List aD} {ps:List PD} {S:FS} (F:lN ls ps) {w:Str×Str×Str} (h:w∈ik ls S ps∨w=(("" :Str),("" :Str),("" :Str))):Gd 1 (Sw w):=by
 have t1:PyData.strOk ("value" :Str)=true:=by decide +kernel
 have t2:PyData.strOk ("end" :Str)=true:=by decide +kernel
 have t3:PyData.strOk ("room" :Str)=true:=by decide +kernel
 have t4:PyData.strOk ("" :Str)=true:=by decide +kernel
 have key:PyData.strOk w.1=true/\PyData.strOk w.2.1=true/\PyData.strOk w.2.2=true:=by
  rcases h with h | rfl
  ·obtain⟨p,hp,h1,h2⟩:=Kd h;have ln:∀x∈ls.map (·.name),PyData.strOk x=true:=λx hx=>by obtain⟨l,hl,rfl⟩:=mem_map.mp hx;exact Qy (F.lnm l hl)
   refine⟨by rw [h2];exact Qy (F.pnm p hp),?_⟩;rcases Ib F hp (x:=w.2.1) (y:=w.2.2) h1 with h | h | h
   ·exact⟨ln _ h.2,by rw [h.1];exact t1⟩
   ·exact⟨by rw [h.1];exact t4,by rw [h.2];exact t2⟩
   ·exact⟨ln _ h.2,by rw [h.1];exact t3⟩
  ·exact⟨t4,t4,t4⟩
 unfold Sw;refine .tuple λd hd=>?_;simp only [mem_cons,not_mem_nil,or_false] at hd;rcases hd with rfl | rfl | rfl
 ·exact .str 0 key.1
 ·exact .str 0 key.2.1
 ·exact .str 0 key.2.2
theorem Wb {ls:List aD} {ps:List PD} {S:FS} (F:lN ls ps) {f:Str->Option (Option Str)} {names:List Str} {ws:List (Str×Str×Str)} (h:zX f names (ik ls S ps) ws):Gd 2 (.list (ws.map Sw)):=.list λd hd=>by
 obtain⟨w,hw,rfl⟩:=mem_map.mp hd;refine Qt (S:=S) F ?_;rcases h with ⟨rfl,_⟩ | ⟨_,_,_,r,_,_,_,_,rfl⟩
 ·cases hw
 ·obtain⟨x,_,rfl⟩:=mem_map.mp hw;unfold K7;cases e:(ik ls S ps).find? λw=>decide (w.1=x) with
  | none=>exact .inr rfl
  | some w=>exact .inl (mem_of_find?_eq_some e)
theorem dB {E:List Addr} {H H':Hp} (s:aJ H H'):aJ (aQ E H) (aQ E H'):=λb o e=>by
 have hb:b∉E:=λz=>by unfold aQ at e;rw [if_pos z] at e;cases e
 exact bL (s _ _ (bF _ _ e)) hb
theorem jd.same {H H':Hp} {r:Addr} {n:Nat} {A:jC} {ls:List aD} {ps:List PD} {S:FS} (h:jd K t H r n A ls ps S) (s:aJ H H'):jd K t H' r n A ls ps S:=⟨h.run.same s,h.net.same (dB s),h.flow.same s,h.ne⟩
theorem jd.out {H:Hp} {r:Addr} {n:Nat} {A:jC} {ls:List aD} {ps:List PD} {S:FS} (h:jd K t H r n A ls ps S) {a:Addr} (ha:H a=none):a∉r:: A.cells ls ps:=λz=>by
 rcases mem_cons.mp z with rfl | z
 ·obtain⟨_,_,h1,_⟩:=h.run;rw [ha] at h1;cases h1.1
 ·exact h.flow.cell ha z
theorem Mm {H:Hp} {Q:VK} {Ex:XK} {H0:Hp} {r dx n rw:Addr} {ls:List aD} {ps:List PD} {RW:List (Str×Addr×List Int)} (hr:H r=some (.ins t.nQ dx [])) (s0:aJ H0 H) (nr:H0 r=none) (N:eG K t H0 n ls ps) (hrw:jY H0 rw RW) (hO:OD ps RW)
  (k:∀(H':Hp) (A:jC),A.n=n->aJ H0 H'->jd K t H' r 0 A ls ps (fG ls ps RW)->(∀a∈A.f:: A.cells ls ps,H0 a=none)->Q .non H'):jr K t [.ref r,.ref n,.ref rw] H Q Ex:=by
 unfold jr;exact⟨H0,r,dx,n,rw,ls,ps,RW,rfl,hr,s0,nr,N,hrw,hO,k⟩
theorem Q3 {H:Hp} {Q:VK} {Ex:XK} {b n:Nat} {r L:Addr} {A:jC} {ls:List aD} {ps:List PD} {S:FS} {xs:List Str} (R:jd K t H r n A ls ps S) (O:yF b ls ps S) (hb:b<=90000) (hn:n<=900) (hL:bJ K H L (xs.map V.str)) (nL:L∉A.cells ls ps) (hx:∀x∈xs,V.str x∈cZ ps "give" ++ cZ ps "take")
  (k:∀H' p,aJ (aQ (r:: A.cells ls ps) H) (aQ (r:: A.cells ls ps) H')->jd K t H' r (n+1) A ls ps (fX ls ps S xs)->H p=none->H' p=some (.lst ((lL ls ps S xs).map λw=>V.str w.1.name))->Q (.ref p) H'):n6 K t [.ref r,.ref L] H Q Ex:=by
 unfold n6;exact⟨b,r,n,A,ls,ps,S,L,xs,Y,R,O,hb,hn,hL,nL,hx,k⟩
theorem jd.cut {H:Hp} {r:Addr} {n:Nat} {A:jC} {ls:List aD} {ps:List PD} {S:FS} {E:List Addr} (h:jd K t H r n A ls ps S) (hr:r∉E) (hf:A.f∉E) (hc:∀a∈A.cells ls ps,a∉E) (hn:eG K t (aQ (r:: A.cells ls ps) (aQ E H)) A.n ls ps):jd K t (aQ E H) r n A ls ps S:=by
 obtain⟨⟨dx,fs,⟨h1,h2⟩,h3⟩,_,W,ne⟩:=h;have me:=W.nod;have c:=λa ha=>hc a ha;refine⟨⟨dx,fs,⟨bL h1 hr,h2⟩,h3⟩,hn,⟨?_,bL W.ever (hc _ ?_),λl hl=>bL (W.lists l hl) (hc _ ?_),bL W.gone (hc _ ?_),bL W.kept (hc _ ?_),bL W.done (hc _ ?_),bL W.rows (hc _ ?_),λp hp h0=>bL (W.rlst p hp h0) (hc _ ?_),W.nod⟩,ne⟩
 ·obtain⟨dx,fs,e1,e2⟩:=W.at';exact⟨dx,fs,bL e1 hf,e2⟩
 all_goals unfold jC.cells;simp only [mem_cons,mem_append,mem_map,true_or,or_true]
 ·exact .inr (.inr (.inr (.inr (.inr (.inl ⟨l,hl,Y⟩)))))
 ·exact .inr (.inr (.inr (.inr (.inr (.inr ⟨p,mem_filter.mpr ⟨hp,by simp [h0]⟩,Y⟩)))))
theorem jN {E E':List Addr} {H:Hp}:aQ E (aQ E' H)=aQ E' (aQ E H):=by
 funext b
 unfold aQ;by_cases h1:b∈E <;> by_cases h2:b∈E' <;> simp [h1,h2]
theorem eG.off {H:Hp} {n r C dx:Addr} {fs:List (Str×V)} {v:V} {ls:List aD} {ps:List PD} (N:eG K t H n ls ps) (hr:H r=some (.ins C dx fs)) (hl:fs.lookup ("net" :Str)=some v) (hn:n≠r):eG K t (aQ [r] H) n ls ps:=by
 obtain⟨dxn,fsn,R,F,Pd,G,Tk,FL,PL,W⟩:=N;have g1:∀{b:Addr} {u:HO},H b=some u->(∀C dx fs,u≠.ins C dx fs)->aQ [r] H b=some u:=λ{b u} e h=>bL e (by simp;intro z;rw [z,hr] at e;exact h _ _ _ (Option.some.inj e).symm);have g3:∀{b:Addr} {xs:List V},fZ K H b xs->fZ K (aQ [r] H) b xs:=λh=>by
  rcases h with (h | ⟨o,h⟩) | h
  ·exact .inl (.inl (g1 h (by intro _ _ _ z;cases z)))
  ·exact .inl (.inr ⟨o,g1 h (by intro _ _ _ z;cases z)⟩)
  ·exact .inr h
 have nd:∀{k:List (Key×V)} (C dx fs),HO.dK k≠.ins C dx fs:=by intro _ _ _ _ z;cases z
 refine⟨dxn,fsn,R,F,Pd,G,Tk,FL,PL,bL W.obj (by simpa using hn),W.fl,g1 W.rooms nd,g1 W.firsts nd,g1 W.parts nd,g1 W.givers nd,g1 W.takers nd,W.fls,W.pls,λq hq=>g3 (W.tups q hq),λq hq=>?_,W.fit,W.neRF⟩;obtain⟨dx',tn,ti,to,h1,h2,h3,h4⟩:=W.pats q hq;refine⟨dx',tn,ti,to,bL h1 ?_,g3 h2,g3 h3,g3 h4⟩;simp;intro z;rw [z,hr] at h1;injection h1 with h1;injection h1 with _ _ h1;rw [h1,show(DQ (V.str q.1.name) tn ti to).lookup ("net" :Str)=none from mJ _ _ _ _ (by decide +kernel) (by decide +kernel) (by decide +kernel) (by decide +kernel)] at hl;cases hl
theorem dU.kinds {H:Hp} {A:jC} {ls:List aD} {ps:List PD} {S:FS} (h:dU K t H A ls ps S) {a:Addr} (ha:a∈A.cells ls ps):(∃k,H a=some (.dK k))∨∃x,H a=some (.lst x):=by
 unfold jC.cells at ha;simp only [mem_cons,mem_append,mem_map] at ha;rcases ha with rfl | rfl | rfl | rfl | rfl | ⟨l,hl,rfl⟩ | ⟨p,hp,rfl⟩
 ·exact .inl ⟨_,h.ever⟩
 ·exact .inl ⟨_,h.gone⟩
 ·exact .inl ⟨_,h.kept⟩
 ·exact .inl ⟨_,h.done⟩
 ·exact .inl ⟨_,h.rows⟩
 ·exact .inr ⟨_,h.lists l hl⟩
 ·have hf:=mem_filter.mp hp;exact .inr ⟨_,h.rlst p hf.1 (by simpa using hf.2)⟩
theorem jY.put {H:Hp} {d a:Addr} {RW:List (Str×Addr×List Int)} {x:Str} {ws:List Int} (h:jY H d RW) (nd:∀q∈RW,q.2.1≠d) (ea:H a=some (.lst (ws.map V.int))) (na:a≠d) (hl:ws.length<=300):jY (upd H d (.dK (putK (f9 RW) (Sum.inr x) (.ref a)))) d (wU RW x a ws):=by
 refine⟨by rw [Vn];exact ao,λq hq=>?_,QZ h.nd,λq hq=>?_⟩ <;> rcases zP hq with hq | rfl
 ·rw [aK (nd q hq)];exact h.lists q hq
 ·rw [aK na];exact ea
 ·exact h.len q hq
 ·exact hl
theorem Vq (RW:List (Str×Addr×List Int)) (x:Str) (a:Addr) (ws:List Int) (y:Str) (hx:x∈RW.map (·.1)):iR (wU RW x a ws) y=if y=x then ws else iR RW y:=by
 unfold wU iR;rw [if_pos hx];induction RW with
 | nil=>cases hx
 | cons q r ih=>
  rw [map_cons,find?_cons,find?_cons];by_cases hq:q.1=x
  ·rw [if_pos hq];dsimp only;by_cases hy:y=x
   ·rw [decide_eq_true hy.symm,if_pos hy];rfl
   ·rw [decide_eq_false λz=>hy z.symm,if_neg hy,decide_eq_false (by rw [hq];exact λz=>hy z.symm)];by_cases hr:x∈r.map (·.1)
    ·have:=ih hr;rw [if_neg hy] at this;exact this
    ·have e:r.map (λq=>if q.1=x then(x,a,ws) else q)=r:=by refine(map_congr_left λz hz=>?_).trans (map_id _);exact if_neg λe=>hr (mem_map.mpr ⟨z,hz,e⟩)
     rw [e]
  ·rw [if_neg hq];have hr:x∈r.map (·.1):=by
    rcases mem_cons.mp hx with e | e
    ·exact absurd e.symm hq
    ·exact e
   by_cases hz:q.1=y
   ·rw [decide_eq_true hz,if_neg λe=>hq (hz.trans e)]
   ·rw [decide_eq_false hz];exact ih hr
inductive vL (K:Fr) (t:jq) (vs:List V) (H:Hp) (Q:VK) (E:XK):Prop where
 | mk:∀(b:Nat) (r:Addr) (n:Nat) (A:jC) (ls:List aD) (ps:List PD) (S:FS) (c:Int),vs=[.ref r,.int c]->jd K t H r n A ls ps S->yF b ls ps S->lN (ls.map (iQ S)) (ps.map (cG S.k))->(∀H' r2 Z2 RW,aJ H H'->jd K t H' r2 0 Z2 (ls.map (iQ S)) (ps.map (cG S.k)) (fG (ls.map (iQ S)) (ps.map (cG S.k)) RW)->(∀a∈r2:: Z2.f:: Z2.cells (ls.map (iQ S)) (ps.map (cG S.k)),H a=none)->eG K t (aQ (r:: A.cells ls ps) (aQ (r2:: Z2.cells (ls.map (iQ S)) (ps.map (cG S.k))) H')) Z2.n (ls.map (iQ S)) (ps.map (cG S.k))->yF 199 (ls.map (iQ S)) (ps.map (cG S.k)) (fG (ls.map (iQ S)) (ps.map (cG S.k)) RW)->(∀p∈ps,p.kind=0->S.d p.name <(S.r p.name).length->iR RW p.name≠[])->Q (.ref r2) H')->vL K t vs H Q E
noncomputable abbrev xU:List Str:=["_law_run", "_law_cell_here", "_law_rows_here", "_law_name", "_law_many"]
theorem FN (T:Txt w K mg t):FO P w K mg base 9 t.yh ["_law_run", "_law_cell_here"] (vL K t):=by
 have sc:=T.sX.sc xU;refine T.sX.F.ok sc ln (λ_ _ _ _ H vs Q E hr h=>?_);obtain⟨b,r,n,A,ls,ps,S,c,rfl,R0,O,hF,k⟩:=h;refine⟨_,(aq (sN sc 2 (Ma (pv 0) T.bD T.bD.me.2.2.2.2.2.2.2.1 (By T) T.oV hr))
  (aq (dO PassesOwn.never rfl (bR (gf (lJ rfl) (by rfl) T.vI rB (aa (pv 2) ak aj))) (gN sc 3)
   (aq (sN sc 4 (bu cH (dX (bh T) T.bx hr (aa (pv 1) (aa (bu dF au (bB bV (by rfl) T.fY dC (aa (pv 3) ak aj))) ak bM) aj)) au))
   (aA (gQ hr.u1 (pv 2) (pv 3) (jy mH (bu Gb (cJ hr.u1 (pv 2) (pv 3) (λ_ _=>rfl)) (eY [1] xU (aZ (top 86)) rfl (gJ rfl T.jT (aa (pv 4) ak aj)) (λ_ _ _ _ _=>gj) (λ_ _ _ _ _=>(dX (gY T) T.fV hr (aa (pv 1) (aa (bu dF au (pv 0)) ak bM) aj))))) mF (jD au)) rfl))))
  (aA (aM (gP (T.bD.M T.iD) (uW T) (hr.mono (by decide)) (by rfl) T.bD.m T.iD.b .nil gh (aa (Ma (pv 0) T.bD T.bD.me.2.2.2.2.2.2.2.2.2.1 (GJ T) T.rQ hr) (aa (pv 2) ak aj) aX)))))),?_⟩
 have hz:sizeLine=16777216:=sizeLine_eq;have F:lN ls ps:=by obtain⟨_,_,_,_,_,_,_,_,_,Wn⟩:=R0.net;exact Wn.fit
 have p16:=F.p16;obtain⟨dx,fs,Rr⟩:=id R0.run;refine⟨_,Y,r,dx,fs,Y,Rr.1.1,Rr.2.no _ (by decide +kernel),r,n,A,ls,ps,S,Y,R0.run,R0.netH,R0.flow,λH1 D ra s1 LA nD nra=>?_⟩;have gK:(Br ra ps).map (λp=>kV p.1)=(gB ps).map λp=>V.str p.name:=by unfold Br;rw [map_map];rfl
 have lg:(gB ps).length<=16:=by have:=length_filter_le (λp:PD=>decide (p.kind=0)) ps;unfold gB;omega
 refine⟨_,Y,D,_,Y,.inl LA.dict,λl nl=>?_⟩;rw [gK];have t2:=aB (o:=.lst ((gB ps).map λp=>V.str p.name)) nl;have el:upd H1 l (.lst ((gB ps).map λp=>V.str p.name)) l=some (.lst ((gB ps).map λp=>V.str p.name)):=ao;have LA2:=LA.same t2;have s2:=s1.trans t2;have nlD:l∉[D]:=by simp;intro z;rw [z,LA.dict] at nl;cases nl
 generalize upd H1 l (.lst ((gB ps).map λp=>V.str p.name))=H2 at t2 el LA2 s2 ⊢;have elC:=bL el nlD;obtain⟨RW0,hRW0⟩:∃RW0:List (Str×Addr×List Int),RW0=(gB ps).map λp=>(p.name,ra p.name,(S.r p.name).drop (S.d p.name)):=⟨_,rfl⟩;have gm:∀p∈gB ps,p∈ps/\p.kind=0:=λp hp=>⟨(mem_filter.mp hp).1,by simpa using (mem_filter.mp hp).2⟩;have nm0:RW0.map (·.1)=(gB ps).map (·.name):=by rw [hRW0,map_map];rfl
 have A0:jY H2 D RW0:=by
  refine⟨by rw [LA2.dict,hRW0];unfold f9 Br;rw [map_map];rfl,λq hq=>?_,by rw [nm0];exact Ea F.pnd,λq hq=>?_⟩ <;> rw [hRW0] at hq <;> obtain⟨p,hp,rfl⟩:=mem_map.mp hq
  ·exact LA2.lists p (gm p hp).1 (gm p hp).2
  ·have:=O.rl p (gm p hp).1 (gm p hp).2;show((S.r p.name).drop (S.d p.name)).length<=300;rw [length_drop];omega
 have inv0:(∀q∈RW0,q.2.1≠D)/\(∀q∈RW0,∀v∈q.2.2,0<=v/\v <1000000000)/\∀p∈ps,p.kind=0->S.d p.name <(S.r p.name).length->iR RW0 p.name≠[]:=by
  refine⟨λq hq=>?_,λq hq v hv=>?_,λp hp h0 hlt=>?_⟩
  ·rw [hRW0] at hq;obtain⟨p,hp,rfl⟩:=mem_map.mp hq;intro z;have:=LA2.lists p (gm p hp).1 (gm p hp).2;rw [show ra p.name=D from z,LA2.dict] at this;cases this
  ·rw [hRW0] at hq;obtain⟨p,hp,rfl⟩:=mem_map.mp hq;exact O.rb p (gm p hp).1 (gm p hp).2 v (mem_of_mem_drop hv)
  ·have hg:p∈gB ps:=mem_filter.mpr ⟨hp,by simp [h0]⟩;have e:iR RW0 p.name=(S.r p.name).drop (S.d p.name):=by
    unfold iR;cases e:RW0.find? λq=>decide (q.1=p.name) with
    | none=>exact absurd (decide_eq_true rfl) (find?_eq_none.mp e (p.name,ra p.name,(S.r p.name).drop (S.d p.name)) (by rw [hRW0];exact mem_map.mpr ⟨p,hg,rfl⟩))
    | some q=>
     have h1:=mem_of_find?_eq_some e;have h2:q.1=p.name:=by simpa using find?_some e
     rw [hRW0] at h1;obtain⟨p',hp',rfl⟩:=mem_map.mp h1;rw [yH F.pnd (gm p' hp').1 hp h2];rfl
   rw [e];intro z;have:=List.drop_eq_nil_iff.mp z;omega
 refine⟨l,Y,⟨_,bJ.of el⟩,du (K:=K) (a:=l) (xs:=(gB ps).map λp=>V.str p.name) (λj σ H'=>(∃v3 v4,σ=[some (.ref r),some (.int c),some (.ref D),v3,v4])/\aJ H H'/\aJ (aQ [D] H2) (aQ [D] H')/\∃RW,jY H' D RW/\RW.map (·.1)=(gB ps).map (·.name)/\(∀q∈RW,q.2.1≠D)/\(∀q∈RW,∀v∈q.2.2,0<=v/\v <1000000000)/\∀p∈ps,p.kind=0->S.d p.name <(S.r p.name).length->iR RW p.name≠[]) ⟨⟨none,none,Y⟩,s2,aJ.refl _,RW0,A0,nm0,inv0⟩ (λj σ H' _ h=>bJ.of (bF _ _ (h.2.2.1 _ _ elC))) ?_ ?_⟩
 ·rintro j x σ H3 hx ⟨⟨v3,v4,rfl⟩,s3,c3,RW,AR,nm,nD3,bd,ne3⟩;rw [getElem?_map] at hx;obtain⟨p,hpj,rfl⟩:=map_eq_some_iff.mp hx;have hpg:=mem_of_getElem? hpj;obtain⟨hp,h0⟩:=gm p hpg;have nl3:=Bd (F.pnm p hp);refine⟨_,Y,_,Y,.str p.name,p.name.length,Y,⟨by omega,Y⟩,_,_,Y,Y,_,_,Y,_,_,Y,Y,by show(0:Int) <10;decide,?_⟩;obtain⟨mk,hmk,m9⟩:∃mk:Nat,cg c (40+(p.name.length:Int)) % 10=(mk:Int)/\mk<=9:=by have h0:=emod_nonneg (cg c (40+(p.name.length:Int))) (show(10:Int)≠0 by decide);have h1:=emod_lt_of_pos (cg c (40+(p.name.length:Int))) (show(0:Int) <10 by decide);exact⟨(cg c (40+(p.name.length:Int)) % 10).toNat,by omega,by omega⟩
  dsimp only;rw [hmk];have hin:p.name∈RW.map (·.1):=by rw [nm];exact mem_map.mpr ⟨p,hpg,rfl⟩
  rcases AR.get p.name with ⟨hno,_⟩ | ⟨ax,hax,eax,lax⟩
  ·exfalso;obtain⟨q,hq,e⟩:=mem_map.mp hin;have:cj (f9 RW) (Sum.inr q.1)=some (.ref q.2.1):=jt (by rw [um];exact gH AR.nd) (mem_map.mpr ⟨q,hq,rfl⟩);rw [e,hno] at this;cases this
  have gD:eE H3 D (.str p.name) (some (.ref ax)):=by rw [<-hax];exact eE.k (k:=Sum.inr p.name) AR.dict
  refine⟨_,Y,_,Y,D,_,Y,gD,_,Y,_,Y,by omega,by omega,?_⟩;rw [toNat_natCast];refine jc (n:=mk) (λi zs H'=>H'=H3/\∃ws:List Int,zs=ws.map V.int/\ws.length=i/\∀v∈ws,0<=v/\v <1000000000) (by omega) ⟨rfl,[],rfl,rfl,by simp⟩ (λi zs H' h=>by obtain⟨_,ws,e,e2,_⟩:=h;rw [e,lM];omega) ?_ ?_
  ·rintro i zs H' hi ⟨rfl,ws,rfl,hw,hB⟩;refine yes ⟨_,Y,_,Y,_,_,Y,Y,_,_,Y,Y,ws ++ [qd c (70+(0+(i:Int)))],by simp,by simp [hw],λv hv=>?_⟩;rcases mem_append.mp hv with hv | hv
   ·exact hB v hv
   ·rw [mem_singleton] at hv;subst hv;exact my _ _
  rintro zs H' ⟨rfl,ws,rfl,hw,hB⟩ f nf;have tf:=aB (o:=.lst (ws.map V.int)) nf;refine⟨ax,f,_,_,Y,Y,tf _ _ eax,ao,by rw [lM,lM];omega,λq nq=>?_⟩;rw [<-map_append];have tq:=aB (o:=.lst ((iR RW p.name ++ ws).map V.int)) nq;refine⟨_,Y,q,_,Y,bJ.of ao,λv nv=>?_⟩;rw [show wk ((iR RW p.name ++ ws).map V.int) none (some 300)=((iR RW p.name ++ ws).map V.int).take 300 from Mi _ 300,<-map_take];obtain⟨vw,hvw⟩:∃vw,vw=(iR RW p.name ++ ws).take 300:=⟨_,rfl⟩;rw [<-hvw];have tv:=aB (o:=.lst (vw.map V.int)) nv;have s34:=tf.trans (tq.trans tv);have ev:upd (upd (upd H' f (.lst (ws.map V.int))) q (.lst ((iR RW p.name ++ ws).map V.int))) v (.lst (vw.map V.int)) v=some (.lst (vw.map V.int)):=ao;have nvD:v≠D:=λz=>by have:=(tf.trans tq) _ _ AR.dict;rw [z,this] at nv;cases nv
  have c34:aJ (aQ [D] H') (aQ [D] (upd (upd (upd H' f (.lst (ws.map V.int))) q (.lst ((iR RW p.name ++ ws).map V.int))) v (.lst (vw.map V.int)))):=dB s34;generalize upd (upd (upd H' f (.lst (ws.map V.int))) q (.lst ((iR RW p.name ++ ws).map V.int))) v (.lst (vw.map V.int))=H4 at s34 ev c34 ⊢;have AR4:=AR.same s34;have lv:vw.length<=300:=by rw [hvw,length_take];omega
  refine⟨_,rfl,_,rfl,D,_,rfl,pC.k (k:=Sum.inr p.name) AR4.dict (by unfold f9;rw [lM];have:=congrArg List.length nm;rw [lM,lM] at this;omega),⟨_,_,rfl⟩,λb o e=>by rw [aK (aF e nD)];exact(s3.trans s34) b o e,by rw [dH (by simp)];exact c3.trans c34,wU RW p.name v vw,AR4.put nD3 ev nvD lv,?_,λq' hq'=>?_,λq' hq' w hw'=>?_,λp' hp' h0' hlt=>?_⟩
  ·rw [<-nm];unfold wU;rw [if_pos hin,map_map];refine map_congr_left λz _=>?_;show(if z.1=p.name then(p.name,v,vw) else z).1=z.1;split
   ·rename_i e;exact e.symm
   ·rfl
  ·rcases zP hq' with h | rfl
   ·exact nD3 q' h
   ·exact nvD
  ·rcases zP hq' with h | rfl
   ·exact bd q' h w hw'
   ·have hw':w∈(iR RW p.name ++ ws).take 300:=by rw [<-hvw];exact hw'
    rcases mem_append.mp (mem_of_mem_take hw') with h | h
    ·have:∀x,iR RW x=[]∨∃q∈RW,iR RW x=q.2.2:=λx=>by
      unfold iR;cases e:RW.find? λq=>decide (q.1=x) with
      | none=>exact .inl rfl
      | some q=>exact .inr ⟨q,mem_of_find?_eq_some e,rfl⟩
     rcases this p.name with e | ⟨q2,hq2,e⟩
     ·rw [e] at h;cases h
     ·rw [e] at h;exact bd q2 hq2 w h
    ·exact hB w h
  ·rw [Vq _ _ _ _ _ hin];split
   ·rename_i e;have hne:=ne3 p' hp' h0' hlt;rw [e] at hne;rw [hvw];cases hr:iR RW p.name with
    | nil=>exact absurd hr hne
    | cons a t=>simp
   ·exact ne3 p' hp' h0' hlt
 rintro σ H3 ⟨⟨v3,v4,rfl⟩,s3,_,RW,AR,nm,_,bd,ne3⟩;have R3:=R0.same s3;obtain⟨dx3,fs3,Rr3⟩:=id R3.run;refine⟨_,Y,r,dx3,fs3,Y,Rr3.1.1,Rr3.2.no _ (by decide +kernel),r,n,A,ls,ps,S,Y,R3.run,R3.netH,R3.flow,hF,λH5 n' s5 nn' N5=>?_⟩;have AR5:=AR.same s5;have R5:=R3.same s5;have s05:=s3.trans s5;refine⟨_,Y,λr2 dxr nr ndr ner=>?_⟩;have gr:aJ H5 (upd (upd H5 dxr (.own r2)) r2 (.ins t.nQ dxr [])):=λb o e=>by rw [aK (aF e nr),aK (aF e ndr)];exact e
 have door:∀q∈RW,V.str q.1∈cZ (ps.map (cG S.k)) "give" :=λq hq=>by
  have:q.1∈(gB ps).map (·.name):=by rw [<-nm];exact mem_map.mpr ⟨q,hq,rfl⟩
  obtain⟨p,hp,e⟩:=mem_map.mp this;obtain⟨h1,h2⟩:=gm p hp;obtain⟨k1,k2,_,_⟩:=jl S.k p;exact mem_map.mpr ⟨cG S.k p,mem_filter.mpr ⟨mem_map.mpr ⟨p,h1,rfl⟩,by rw [k1,h2];rfl⟩,by rw [k2,e]⟩
 refine Mm ao gr nr N5.s AR5 ⟨door,bd⟩ λH6 Z2 eZ2 s6 R6 fr6=>⟨Y,?_⟩;have hrc:r∉A.cells ls ps:=nY.cell R5.run R5.flow;have n1:eG K t (aQ (A.cells ls ps) H5) n' (ls.map (iQ S)) (ps.map (cG S.k)):=N5.cut λb hb=>by have kk:=R3.flow.kinds hb;have k5:=R5.flow.kinds hb;exact⟨kk.elim (λ⟨x,e⟩=>⟨_,e⟩) (λ⟨x,e⟩=>⟨_,e⟩),k5⟩
 have n2:eG K t (aQ (r:: A.cells ls ps) H5) n' (ls.map (iQ S)) (ps.map (cG S.k)):=by
  obtain⟨dx5,fs5,R5a⟩:=R5.run;have:=n1.off (r:=r) (bL R5a.1.1 hrc) (R5a.2.has ("net",.ref A.n) (by simp)) (λz=>by rw [z,Rr3.1.1] at nn';cases nn');have e:aQ [r] (aQ (A.cells ls ps) H5)=aQ (r:: A.cells ls ps) H5:=by
   funext b
   unfold aQ;by_cases h1:b=r <;> by_cases h2:b∈A.cells ls ps <;> simp [h1,h2]
  rw [e] at this;exact this
 refine k H6 r2 Z2 RW (s05.trans s6) R6 (λa ha=>?_) ?_ (Hz hF AR5.len bd) ne3
 ·rcases mem_cons.mp ha with rfl | ha
  ·exact s05.free nr
  ·exact s05.free (fr6 a ha)
 ·rw [eZ2];refine n2.same λb o e=>?_;have nb:b∉r:: A.cells ls ps:=λz=>by unfold aQ at e;rw [if_pos z] at e;cases e
  have e5:=bF _ _ e;refine bL (bL (s6 _ _ e5) λz=>?_) nb;rcases mem_cons.mp z with rfl | z
  ·rw [nr] at e5;cases e5
  ·rw [fr6 b (mem_cons_of_mem _ z)] at e5;cases e5
inductive Nm (ls:List aD) (ps:List PD) (S:FS) (ws:List (Str×Str×Str)):Prop where
 | mk:∀wf,wz ls ps S (ws.map (·.1)) wf->((∀w∈ws,w.2=wf w.1/\∃p∈ps,p.name=w.1))->ws≠[]->ws.length<=16->Nm ls ps S ws
theorem Nm.turn {b:Nat} {ls:List aD} {ps:List PD} {S:FS} {ws:List (Str×Str×Str)} (F:lN ls ps) (O:yF b ls ps S) (h:Nm ls ps S ws) (xs:List Str):Nm ls ps (fX ls ps S xs) ws:=by obtain⟨wf,D,h1,h2,h3⟩:=h;exact⟨wf,Jd F O D,h1,h2,h3⟩
theorem Vu {ls:List aD} {ps:List PD} {S:FS} {p:PD} {w:Str×Str} (hp:p∈ps) (h:iw ls S p=some w):(p.name,w)∈ik ls S ps:=mem_filterMap.mpr ⟨p,hp,by rw [h];rfl⟩
theorem G3 (l:List PyData) (h:l≠[]):PyData.eqv (.list l) (.list (([]:List Str).map PyData.str))=false:=by
 cases l with
 | nil=>exact absurd rfl h
 | cons a r=>simp [PyData.eqv,PyData.eqvAll]
inductive zm (K:Fr) (t:jq) (vs:List V) (H:Hp) (Q:VK) (E:XK):Prop where
 | mk:∀(b:Nat) (r:Addr) (n:Nat) (A:jC) (ls:List aD) (ps:List PD) (S:FS) (Lr Lh:Addr) (us:List Addr) (ws:List (Str×Str×Str)) (xs:List Str),vs=[.ref r,.ref Lr,.ref Lh]->jd K t H r n A ls ps S->yF b ls ps S->b<=80000->n<=900->H Lr=some (.lst (us.map V.ref))->dw H us (ws.map Ha)->((∀a∈Lr:: us,a∉r:: A.cells ls ps))->bJ K H Lh (xs.map V.str)->Lh∉A.cells ls ps->((∀x∈xs,V.str x∈cZ ps "give" ++ cZ ps "take"))->Nm ls ps S ws->(∀H',aJ (aQ (r:: A.cells ls ps) H) (aQ (r:: A.cells ls ps) H')->jd K t H' r (n+1) A ls ps (fX ls ps S xs)->Q (.bl true) H')->zm K t vs H Q E
noncomputable abbrev qU:List Str:=["_law_run", "_law_ring", "_law_held_here", "_law_names", "_law_counts", "_law_name", "_law_some", "_law_wait"]
theorem Jx (T:Txt w K mg t):FO P w K mg base 9 t.Dd ["_law_run", "_law_ring", "_law_held_here"] (zm K t):=by
 have sc:=T.vN.sc qU;refine T.vN.F.ok sc ln (λ_ _ _ _ H vs Q E hr h=>?_);obtain⟨b,r,n,A,ls,ps,S,Lr,Lh,us,ws,xs,rfl,R0,O,hb,hn,eLr,tU,nL,hLh,nLh,hx,hD,k⟩:=h;refine⟨_,(aq (jJ (i:=3) [] qU (aZ (top 87)) Y sc.nd Y (bR (pv 1)) (λ_ _ _ _ _=>gj) (λ_ _ _ _ _=>(bc (ur (K:=K) Y) (pv 0) au (λ_ _=>Y))))
  (aq (jJ (i:=4) [0] qU (aZ (top 87)) rfl sc.nd rfl (bR (pv 3)) (λ_ _ _ _ _=>gj) (λ_ _ _ _ _=>(uo (pv 1) T.bD T.bD.me.2.2.2.2.2.1 (zy T) T.rP hr (aa (pv 0) ak aj))))
  (aq (dO PassesOwn.never rfl (bR (Ku (pv 0) T.bD.c (T.qI.me T.bD.me.2.2.2.2.1) (Do T) (hr.mono (by decide)) T.qI.b .nil gh (aa (pv 2) ak aj))) (gN sc 5)
   (aA (bU (bz Bc (pv 5) (pv 3) (by with_unfolding_all rfl))
    (aA (aM nj))
    bA)))
  (aq (sN sc 6 (dX (Cg T) T.uf hr (aa (pv 0) ak aj)))
  (aq (dO PassesOwn.never rfl (bR (pv 1)) (gN sc 7)
   (aA (bU (bz (Rv hr.u100) (pv 7) (pv 6) (by with_unfolding_all rfl))
    (aA (aM nj))
    bA)))
  (aA (aM (yP (pJ (Vo hr.units) (pv 4) (eY [0] qU (aZ (top 87)) rfl (bR (pv 3)) (λ_ _ _ _ _=>gj) (λ_ _ _ _ _=>(uo (pv 1) T.bD T.bD.me.2.2.2.2.2.1 (zy T) T.rP hr (aa (pv 0) ak aj)))) (bN _)) (yR (pJ (Tp hr.units) (dX (mC T) T.jz hr (aa (pv 0) ak aj)) (bC ak) (bN _))))))))))),?_⟩
 have hz:sizeLine=16777216:=sizeLine_eq;obtain⟨wf,D,hw,hne,l16⟩:=id hD;have F:lN ls ps:=by obtain⟨_,_,_,_,_,_,_,_,_,Wn⟩:=R0.net;exact Wn.fit
 have ul:us.length=ws.length:=by have:us.length=_:=Paired.length tU;rwa [lM] at this
 refine⟨_,rfl,Lr,rfl,⟨_,bJ.of eLr⟩,fB (K:=K) (a:=Lr) (xs:=us.map V.ref) (λj zs H'=>H'=H/\zs=((ws.map (·.1)).take j).map V.str) (by rw [lM];omega) ⟨rfl,rfl⟩ (λj zs H' h=>by rw [h.2,lM,length_take];omega) (λj zs H' _ h=>by rw [h.1];exact bJ.of eLr) ?_ ?_⟩
 ·rintro j x zs H' hx ⟨rfl,rfl⟩;rw [getElem?_map] at hx;obtain⟨u,hu,rfl⟩:=map_eq_some_iff.mp hx;obtain⟨vs2,z1,z2⟩:=j5 tU hu;rw [getElem?_map] at z1;obtain⟨w,ew,rfl⟩:=map_eq_some_iff.mp z1;refine yes ⟨_,Y,u,_,0,_,Y,Y,fZ.of z2,aO (j:=0) Y,Y,?_⟩;rw [take_add_one,getElem?_map,ew,map_append];rfl
 rintro zs H' ⟨rfl,rfl⟩ Ln nLn;rw [lM,ul,<-lM (f:=λw:Str×Str×Str=>w.1),take_length];have t1:=aB (o:=.lst ((ws.map (·.1)).map V.str)) nLn;have eLn:upd H' Ln (.lst ((ws.map (·.1)).map V.str)) Ln=some (.lst ((ws.map (·.1)).map V.str)):=ao;have nLnE:=R0.out nLn;generalize upd H' Ln (.lst ((ws.map (·.1)).map V.str))=H1 at t1 eLn ⊢;have cnt:∀{Hx:Hp} {m:Nat} {T:FS} {σ':St},jd K t Hx r m A ls ps T->Hx Ln=some (.lst ((ws.map (·.1)).map V.str))->∀{Qd:List V->Hp->Prop},(∀H2,aJ Hx H2->Qd ((ws.map λw=>(T.d w.1:Int)).map V.int) H2)->CompEnd [0] Za (M3 t.nQ "works" (ue K t) [] E0 (xR 1) (X3 (xR 0) RB)) (some (.ref r):: σ') Qd (XH K Ln) Hx:=λ{Hx m T σ'} R e {Qd} kq=>by
  refine fB (K:=K) (a:=Ln) (xs:=(ws.map (·.1)).map V.str) (λj zs H2=>aJ Hx H2/\zs=((ws.map λw=>(T.d w.1:Int)).take j).map V.int) (by rw [lM,lM];omega) ⟨aJ.refl _,rfl⟩ (λj zs H2 h=>by rw [h.2,lM,length_take];omega) (λj zs H2 _ h=>h.1.seq (bJ.of e)) ?_ ?_
  ·rintro j x zs H2 hx ⟨s2,rfl⟩;rw [getElem?_map,getElem?_map,Option.map_map] at hx;obtain⟨w,hwj,rfl⟩:=map_eq_some_iff.mp hx;obtain⟨_,p,hp,ep⟩:=hw w (mem_of_getElem? hwj);have R2:=R.same s2;obtain⟨dx,fs,Rr⟩:=id R2.run;refine yes ⟨_,rfl,r,dx,fs,rfl,Rr.1.1,Rr.2.no _ (by decide +kernel),_,rfl,r,_,A,ls,ps,T,p,by rw [ep];rfl,R2.run,R2.netH,R2.flow,hp,λH3 s3=>⟨s2.trans s3,?_⟩⟩;rw [take_add_one,getElem?_map,hwj,map_append,ep];rfl
  ·rintro zs H2 ⟨s2,rfl⟩;rw [lM,lM,<-lM (f:=λw:Str×Str×Str=>(T.d w.1:Int)),take_length];exact kq H2 s2
 refine⟨_,Y,Ln,Y,⟨_,bJ.of eLn⟩,cnt (R0.same t1) eLn λH2 s2 Lc nLc=>?_⟩;have t3:=aB (o:=.lst ((ws.map λw=>(S.d w.1:Int)).map V.int)) nLc;have eLc:upd H2 Lc (.lst ((ws.map λw=>(S.d w.1:Int)).map V.int)) Lc=some (.lst ((ws.map λw=>(S.d w.1:Int)).map V.int)):=ao;have s3:=(t1.trans s2).trans t3;have eLn3:=t3 _ _ (s2 _ _ eLn);have nLcE:=(R0.same (t1.trans s2)).out nLc;generalize upd H2 Lc (.lst ((ws.map λw=>(S.d w.1:Int)).map V.int))=H3 at t3 eLc s3 eLn3 ⊢;have R3:=R0.same s3;obtain⟨dx,fs,Rr⟩:=id R3.run;refine⟨_,Y,r,dx,fs,Y,Rr.1.1,Rr.2.no _ (by decide +kernel),_,Y,Q3 R3 O (by omega) hn (s3.seq hLh) nLh hx λH4 p4 c4 R4 np4 ep4=>?_⟩;have keep:∀{a:Addr} {o:HO},H3 a=some o->a∉r:: A.cells ls ps->H4 a=some o:=λe h=>bF _ _ (c4 _ _ (bL e h));have eLn4:=keep eLn3 nLnE;have eLc4:=keep eLc nLcE;have eLr4:=keep (s3 _ _ eLr) (nL _ mem_cons_self);have tU4:dw H4 us (ws.map Ha):=dw.same bF (dw.same c4 (vf (λu hu=>nL u (mem_cons_of_mem _ hu)) (dw.same s3 tU)));have O4:=Qa F O xs;have due:=Es (xs:=xs) F O D;refine⟨p4,Y,⟨_,bJ.of ep4⟩,du (K:=K) (a:=p4) (xs:=(lL ls ps S xs).map λw=>V.str w.1.name) (λj σ H5=>H5=H4/\∃v5,σ=[some (.ref r),some (.ref Lr),some (.ref Lh),some (.ref Ln),some (.ref Lc),v5,none,none]) ⟨Y,none,Y⟩ (λj σ H5 _ h=>by rw [h.1];exact bJ.of ep4) ?_ ?_⟩
 ·rintro j x σ H5 hxj ⟨rfl,v5,rfl⟩;rw [getElem?_map] at hxj;obtain⟨w,hwj,rfl⟩:=map_eq_some_iff.mp hxj;refine⟨_,Y,_,Y,Ln,_,Y,.inl (bJ.of eLn4),Y,pX _,_,Y,?_⟩;rw [zq,decide_eq_false (due w (mem_of_getElem? hwj)).2.1];exact dz ⟨Y,_,Y⟩
 rintro σ H5 ⟨rfl,v5,rfl⟩;refine⟨_,Y,_,r,_,A,ls,ps,_,Y,R4.run,R4.netH,R4.flow,O4,λH6 Lw uw s6 nLw eLw tUw fUw=>?_⟩;have D4:=Jd (xs:=xs) F O D;have inw:∀w∈ws,w∈ik ls (fX ls ps S xs) ps:=λw hwm=>by obtain⟨e,p,hp,ep⟩:=hw w hwm;have:=Vu hp (D4 p hp (by rw [ep];exact mem_map.mpr ⟨w,hwm,rfl⟩)).1;rw [ep,<-e] at this;exact this
 have gws:Gd 2 (.list ((ik ls (fX ls ps S xs) ps).map Sw)):=.list λd hd=>by obtain⟨w,hwm,rfl⟩:=mem_map.mp hd;exact Qt F (.inl hwm)
 have eLr6:=s6 _ _ eLr4;refine⟨_,Y,Lr,Y,⟨_,bJ.of eLr6⟩,du (K:=K) (a:=Lr) (xs:=us.map V.ref) (λj σ H7=>H7=H6/\∃v7,σ=[some (.ref r),some (.ref Lr),some (.ref Lh),some (.ref Ln),some (.ref Lc),v5,some (.ref Lw),v7]) ⟨Y,none,Y⟩ (λj σ H7 _ h=>by rw [h.1];exact bJ.of eLr6) ?_ ?_⟩
 ·rintro j x σ H7 hxj ⟨rfl,v7,rfl⟩;rw [getElem?_map] at hxj;obtain⟨u,hu,rfl⟩:=map_eq_some_iff.mp hxj;obtain⟨vs2,z1,z2⟩:=j5 (dw.same s6 tU4) hu;rw [getElem?_map] at z1;obtain⟨w,ew,rfl⟩:=map_eq_some_iff.mp z1;have gw:=Qt F (.inl (inw w (mem_of_getElem? ew)));refine⟨_,Y,_,Y,Sw w,_,.tuple (fZ.of z2) (.cons (.str _) (.cons (.str _) (.cons (.str _) .nil))),KN (bJ.of eLw) tUw,gw.shaped (by decide),gws.shaped (by decide),_,Y,?_⟩;have ha:(((ik ls (fX ls ps S xs) ps).map Sw).any λz=>PyData.eqv z (Sw w))=true:=any_eq_true.mpr ⟨Sw w,mem_map.mpr ⟨w,inw w (mem_of_getElem? ew),rfl⟩,gw.eq⟩;rw [ha];exact dz ⟨Y,_,Y⟩
 rintro σ H7 ⟨rfl,v7,rfl⟩;have R7:=R4.same s6;have same:(ws.map λw=>((fX ls ps S xs).d w.1:Int))=ws.map λw=>(S.d w.1:Int):=map_congr_left λw hwm=>by rw [Yw F O D (mem_map.mpr ⟨w,hwm,rfl⟩)]
 refine⟨_,Y,_,Y,Ln,Y,⟨_,bJ.of (s6 _ _ eLn4)⟩,cnt R7 (s6 _ _ eLn4) λH8 s8 Lc8 nLc8=>?_⟩;rw [same];have t8:=aB (o:=.lst ((ws.map λw=>(S.d w.1:Int)).map V.int)) nLc8;have gi:Gd 1 (.list ((ws.map λw=>(S.d w.1:Int)).map PyData.int)):=.list (.ints 0 _);refine⟨_,_,Qw (bJ.of (t8 _ _ (s8 _ _ (s6 _ _ eLc4)))),Qw (bJ.of ao),gi.shaped (by decide),gi.shaped (by decide),?_⟩;rw [gi.eq];have R8:=(R7.same s8).same t8;generalize upd H8 Lc8 (.lst ((ws.map λw=>(S.d w.1:Int)).map V.int))=H9 at t8 R8 ⊢;refine⟨true,Y,iy ⟨_,Y,_,r,_,A,ls,ps,_,Y,R8.run,R8.netH,R8.flow,O4,λH10 L10 us10 ws10 s10 nL10 eL10 tU10 hO=>⟨jB,λe ne=>?_⟩⟩⟩;obtain⟨w0,hw0⟩:=List.exists_mem_of_ne_nil ws hne;have hne10:=RC F D4 (λy hy=>by obtain⟨w,hwm,rfl⟩:=mem_map.mp hy;obtain⟨_,p,hp,ep⟩:=hw w hwm;exact mem_map.mpr ⟨p,hp,ep⟩) (mem_map.mpr ⟨w0,hw0,Y⟩) hO
 have te:=aB (o:=.lst []) ne;have g10:=Wb F hO;have g0:Gd 1 (.list (([]:List Str).map PyData.str)):=.list (.strs 0 (by simp));refine⟨_,_,KN (bJ.of (te _ _ eL10)) (dw.same te tU10),JD (xs:=[]) (bJ.of ao),g10.shaped (by decide),g0.shaped (by decide),?_⟩;rw [G3 _ (by simpa using hne10)];have sE:=(dB s3).trans (c4.trans (dB (((s6.trans s8).trans t8).trans (s10.trans te))));exact k _ sE ((R8.same s10).same te)
theorem FJ {α:Type} {p q:α->Bool}:∀{l:List α},(∀a∈l,p a=q a)->l.find? p=l.find? q
 | [],_=>rfl
 | a:: r,h=>by rw [find?_cons,find?_cons,h a mem_cons_self,FJ λb hb=>h b (mem_cons_of_mem _ hb)]
theorem zO {α:Type} {f:α->List Str}:∀{l m:List α},l.Sublist m->(l.flatMap f).Sublist (m.flatMap f)
 | _,_,.slnil=>List.Sublist.refl _
 | _,_,.cons a h=>by rw [flatMap_cons];exact(zO h).trans (List.sublist_append_right _ _)
 | _,_,.cons₂ a h=>by rw [flatMap_cons,flatMap_cons];exact(List.Sublist.refl _).append (zO h)
theorem Xv {ls:List aD} {ps:List PD} {S:FS} {xs:List Str} (F:lN ls ps):((lL ls ps S xs).flatMap (·.1.ins)).Nodup:=by have h:((lL ls ps S xs).map (·.1)).Sublist ps:=(pW (qs:=ps.filter (rO xs))).trans filter_sublist;have h2:=(F.whole.ins.nodup_iff.mpr F.whole.nod).sublist (zO (f:=(·.ins)) h);rwa [List.flatMap_map] at h2
theorem Uh {α:Type} {l:List α} {j:Nat} {a:α} (h:l[j]?=some a):l=l.take j ++ a:: l.drop (j+1):=by obtain⟨hj,e⟩:=List.getElem?_eq_some_iff.mp h;rw [<-e,<-drop_eq_getElem_cons hj,take_append_drop]
theorem Zc {ls:List aD} {ps:List PD} {S:FS} {xs:List Str} (F:lN ls ps) {j:Nat} {w:PD×ji} (h:(lL ls ps S xs)[j]?=some w) {x:Str} (hx:x∈w.2.tk):(iK S ((lL ls ps S xs).take j)).g x=S.g x/\S.g x <(S.ev x).length:=by
 have hw:=m5 (mem_of_getElem? h);have t1:=My F hw.1 (iG hw.2.2).1 hx;refine⟨?_,t1.2⟩;have nd:=Xv (ls:=ls) (S:=S) (xs:=xs) F;rw [Uh h,List.flatMap_append,flatMap_cons,nodup_append] at nd;rw [Js,List.filter_eq_nil_iff.mpr λw' hw'=>?_]
 ·rfl
 ·intro z;have hx':=of_decide_eq_true z;have hd:=m5 (mem_of_mem_take hw');have t2:=My F hd.1 (iG hd.2.2).1 hx';exact nd.2.2 x (mem_flatMap.mpr ⟨w',hw',t2.1⟩) x (mem_append.mpr (.inl t1.1)) Y
theorem Zd {ls:List aD} {ps:List PD} {S:FS} {xs:List Str} (F:lN ls ps) (G:∀l∈ls,S.g l.name<=(S.ev l.name).length) (l:aD) (hl:l∈ls):(fX ls ps S xs).g l.name<=(S.ev l.name).length:=by
 have key:∀n,(iK S ((lL ls ps S xs).take n)).g l.name<=(S.ev l.name).length:=by
  intro n;induction n with
  | zero=>exact G l hl
  | succ n ih=>
   cases h:(lL ls ps S xs)[n]? with
   | none=>rw [take_succ,h,Option.toList_none,append_nil];exact ih
   | some w=>
    rw [take_succ,h,toList_some,GR];show(if l.name∈w.2.tk then _+1 else _)<=_;split
    ·rename_i hx;have:=Zc F h hx;omega
    ·exact ih
 have:=key (lL ls ps S xs).length;rwa [take_length] at this
theorem WY {ls:List aD} {ps:List PD} {S:FS} {xs:List Str} (F:lN ls ps) (G:∀l∈ls,S.g l.name<=(S.ev l.name).length):∀l∈ls,(fX ls ps S xs).g l.name<=((fX ls ps S xs).ev l.name).length:=λl hl=>by have h:=Zd (xs:=xs) F G l hl;have e:((fX ls ps S xs).ev l.name)=_:=z9 l.name _ _;rw [e,lP];omega
noncomputable def TJ (ls:List aD) (S:FS) (x:Str):Bool:=decide (roomF ls x<=((S.ev x).length:Int) - (S.g x:Int))
noncomputable def Ep (S:FS) (p:PD):List Str:=(Hg S p).map (·.1)
theorem Uv (ls:List aD) (S:FS) (p:PD):(Ep S p).find? (TJ ls S)=((Hg S p).find? (j6 ls S)).map (·.1):=by unfold Ep;rw [find?_map];rfl
theorem Jz {S:FS} {p:PD} (ok:qy p) (hA:p.kind≠10):Ep S p=p.outs:=by
 have h:=ok.1;have hO:=ok.2.2.2.1;unfold Ep Hg;rw [map_map];have key:∀i,i <11->i≠10->∀(ns ws:List Int) (k:Int),(cQ i ns ws k).map (λpv=>pv.1.toNat)=List.range (cO i):=by
  intro i hi hn ns ws k;match i,hi,hn with
  | 0,_,_=>rfl
  | 1,_,_=>rfl
  | 2,_,_=>rfl
  | 3,_,_=>rfl
  | 4,_,_=>rfl
  | 5,_,_=>rfl
  | 6,_,_=>rfl
  | 7,_,_=>rfl
  | 8,_,_=>rfl
  | 9,_,_=>rfl
  | 10,_,hn=>exact absurd rfl hn
 have e:(cQ p.kind p.nums (vB S p) (S.k p.name)).map ((λq:Str×Int=>q.1)∘λpv=>(strAt p.outs pv.1.toNat,pv.2))=((cQ p.kind p.nums (vB S p) (S.k p.name)).map (λpv=>pv.1.toNat)).map (strAt p.outs):=by rw [map_map];rfl
 rw [e,key _ h hA,<-hO];refine List.ext_getElem? λi=>?_;rw [getElem?_map];by_cases h:i <p.outs.length
 ·rw [List.getElem?_range h,getElem?_eq_getElem h,map_some,Gz h]
 ·rw [getElem?_eq_none (by rw [length_range];omega),getElem?_eq_none (by omega)];rfl
theorem Uj {S:FS} {p:PD} (ok:qy p) {x:Str} (hx:x∈Ep S p):x∈p.outs:=by obtain⟨q,hq,rfl⟩:=mem_map.mp hx;obtain⟨pv,hpv,rfl⟩:=mem_map.mp hq;obtain⟨o,ho1,ho2⟩:=Eb (show p.kind<=10 by have:=ok.1;omega) _ _ _ _ hpv;refine xq ?_;rw [ho1,toNat_natCast,ok.2.2.2.1];exact ho2
theorem Xw {ls:List aD} {ps:List PD} {S:FS} (F:lN ls ps) {p:PD} (hp:p∈ps) {dd:ji} (h:fC S p=some dd):(dd.gv.map (·.1)).Nodup/\∀q∈dd.gv,q.1∈p.outs:=by
 obtain⟨_,_,rfl⟩:=jn h;have ok:=F.pok p hp;have eg:((cQ p.kind p.nums (vB S p) (S.k p.name)).map λpv=>(strAt p.outs pv.1.toNat,pv.2)).map (·.1)=Ep S p:=rfl;refine⟨?_,λq hq=>Uj (S:=S) ok (mem_map.mpr ⟨q,hq,Y⟩)⟩;show(((cQ p.kind p.nums (vB S p) (S.k p.name)).map λpv=>(strAt p.outs pv.1.toNat,pv.2)).map (·.1)).Nodup;rw [eg];by_cases hA:p.kind=10
 ·unfold Ep Hg;rw [hA];show [_].Nodup;simp
 ·rw [Jz ok hA];exact JV (F.whole.outs.nodup_iff.mpr F.whole.nod) hp
theorem Qj {α:Type} {f:α->List Str} {g:α->List Int} {x:Str}:∀{l:List α},(l.flatMap f).Nodup->(∀a∈l,(g a).length<=1)->(∀a∈l,g a≠[]->x∈f a)->(l.flatMap g).length<=1
 | [],_,_,_=>by simp
 | a:: r,nd,h1,h2=>by
  rw [flatMap_cons,nodup_append] at nd;rw [flatMap_cons,lP];by_cases h:g a=[]
  ·rw [h];have:=Qj nd.2.1 (λb hb=>h1 b (mem_cons_of_mem _ hb)) λb hb=>h2 b (mem_cons_of_mem _ hb);simpa using this
  ·have hx:=h2 a mem_cons_self h;have e:r.flatMap g=[]:=List.flatMap_eq_nil_iff.mpr λb hb=>by
    by_cases hb':g b=[]
    ·exact hb'
    ·exact absurd Y (nd.2.2 x hx x (mem_flatMap.mpr ⟨b,hb,h2 b (mem_cons_of_mem _ hb) hb'⟩))
   rw [e];have:=h1 a mem_cons_self;simpa using this
theorem Tv {ls:List aD} {ps:List PD} {S:FS} {xs:List Str} (F:lN ls ps):((lL ls ps S xs).flatMap (·.1.outs)).Nodup:=by have h:((lL ls ps S xs).map (·.1)).Sublist ps:=(pW (qs:=ps.filter (rO xs))).trans filter_sublist;have h2:=(F.whole.outs.nodup_iff.mpr F.whole.nod).sublist (zO (f:=(·.outs)) h);rwa [List.flatMap_map] at h2
theorem Su {ls:List aD} {ps:List PD} {S:FS} {xs:List Str} (F:lN ls ps) (R:∀l∈ls,((S.ev l.name).length:Int) - (S.g l.name:Int)<=l.room):∀l∈ls,(((fX ls ps S xs).ev l.name).length:Int) - ((fX ls ps S xs).g l.name:Int)<=l.room:=λl hl=>by
 have e1:((fX ls ps S xs).ev l.name)=_:=z9 l.name _ _;have e2:((fX ls ps S xs).g l.name)=_:=Js l.name _ _;have hr:=R l hl;have c1:((lL ls ps S xs).flatMap λw=>(w.2.gv.filter λq=>decide (q.1=l.name)).map (·.2)).length<=1:=Qj (f:=(·.1.outs)) (x:=l.name) (Tv F) (λw hw=>by
   have h:=m5 hw;rw [lM];exact Pu (f:=λq:Str×Int=>q.1) (Xw F h.1 (iG h.2.2).1).1) λw hw hne=>by
   have h:=m5 hw;obtain⟨v,hv⟩:=List.exists_mem_of_ne_nil _ hne;obtain⟨q,hq,_⟩:=mem_map.mp hv;obtain⟨hq1,hq2⟩:=mem_filter.mp hq;have:=(Xw F h.1 (iG h.2.2).1).2 q hq1;rwa [of_decide_eq_true hq2] at this
 rw [e1,e2,lP];by_cases hne:((lL ls ps S xs).flatMap λw=>(w.2.gv.filter λq=>decide (q.1=l.name)).map (·.2))=[]
 ·rw [hne,length_nil];omega
 ·obtain⟨v,hv⟩:=List.exists_mem_of_ne_nil _ hne;obtain⟨w,hw,hv⟩:=mem_flatMap.mp hv;obtain⟨q,hq,_⟩:=mem_map.mp hv;obtain⟨hq1,hq2⟩:=mem_filter.mp hq;have hq2:=of_decide_eq_true hq2;have hf:=(iG (m5 hw).2.2).2;unfold yo at hf;have nf:w.2.gv.find? (j6 ls S)=none:=by
   cases h:w.2.gv.find? (j6 ls S) with
   | none=>rfl
   | some z=>rw [h] at hf;cases hf
  have:=find?_eq_none.mp nf q hq1;unfold j6 at this;rw [hq2,Nt F.whole.nod hl] at this;have:¬l.room<=((S.ev l.name).length:Int) - (S.g l.name:Int):=λz=>this (decide_eq_true z);omega
structure BI (ls:List aD) (ps:List PD) (S:FS):Prop where
 kb:∀p∈ps,p.kind=5->0<=S.k p.name/\S.k p.name <1000000000
 gl:∀l∈ls,S.g l.name<=(S.ev l.name).length
 rm:∀l∈ls,((S.ev l.name).length:Int) - (S.g l.name:Int)<=l.room
theorem VH {ps:List PD} (nd:(ps.map (·.name)).Nodup):∀{ws:List (PD×ji)} {S:FS},(∀w∈ws,w.1∈ps/\(w.1.kind=5->0<=w.2.kv/\w.2.kv <1000000000))->(∀p∈ps,p.kind=5->0<=S.k p.name/\S.k p.name <1000000000)->∀p∈ps,p.kind=5->0<=(iK S ws).k p.name/\(iK S ws).k p.name <1000000000
 | [],_,_,h=>h
 | w:: r,S,hw,h=>by
  refine VH nd (ws:=r) (S:=qM S w.1.name w.2) (λv hv=>hw v (mem_cons_of_mem _ hv)) λp hp h5=>?_;show 0<=(if p.name=w.1.name then w.2.kv else S.k p.name)/\(if p.name=w.1.name then w.2.kv else S.k p.name) <_;obtain⟨h1,h2⟩:=hw w mem_cons_self;by_cases e:p.name=w.1.name
  ·rw [if_pos e];exact h2 (by rw [<-yH nd hp h1 e];exact h5)
  ·rw [if_neg e];exact h p hp h5
theorem BI.turn {ls:List aD} {ps:List PD} {S:FS} (F:lN ls ps) (h:BI ls ps S) (xs:List Str):BI ls ps (fX ls ps S xs):=by refine⟨VH F.pnd (λw hw=>?_) h.kb,WY F h.gl,Su F h.rm⟩;have hm:=m5 hw;refine⟨hm.1,λh5=>?_⟩;obtain⟨_,_,e⟩:=jn (iG hm.2.2).1;rw [e];show 0<=fW w.1.kind _ _/\fW w.1.kind _ _ <_;unfold fW;rw [if_pos h5];exact⟨emod_nonneg _ (by decide),emod_lt_of_pos _ (by decide)⟩
theorem BI.start {ls:List aD} {ps:List PD} (F:lN ls ps) (RW:List (Str×Addr×List Int)):BI ls ps (fG ls ps RW):=by
 refine⟨λp hp h5=>?_,λ_ _=>zero_le _,λl hl=>?_⟩
 ·show 0<=fL ps p.name/\fL ps p.name <_;have e:fL ps p.name=Bb p:=by unfold fL;rw [find_name F.pnd hp];rfl
  rw [e];unfold Bb;rw [if_pos h5];have ok:=F.pok p hp;obtain⟨m,em⟩:∃m,p.nums=[m]:=List.length_eq_one_iff.mp (by rw [ok.2.1,h5];rfl);rw [em];exact ok.2.2.2.2 m (by rw [em];simp)
 ·show((MP ls l.name).length:Int) - ((0:Nat):Int)<=l.room;rw [xg F.whole.nod hl];have:=(F.lok l hl).2.2.1;omega
theorem GQ {k:Str->Int} {f:PD->List Str} (h:∀p,f (cG k p)=f p):∀{ps:List PD},(ps.map (cG k)).flatMap f=ps.flatMap f
 | []=>rfl
 | p:: r=>by rw [map_cons,flatMap_cons,flatMap_cons,h,GQ h]
theorem Tu {ps:List PD} {k:Str->Int} {x y:Str} (c:Drawn.jR ps x y):Drawn.jR (ps.map (cG k)) x y:=by
 induction c with
 | refl x=>exact .refl x
 | @step x y z p hp hx hy _ ih=>
  obtain⟨_,_,k3,k4⟩:=jl k p;exact .step (p:=cG k p) (mem_map.mpr ⟨p,hp,Y⟩) (by rw [k3,k4];exact hx) (by rw [k3,k4];exact hy) ih
theorem lN.now {b:Nat} {ls:List aD} {ps:List PD} {S:FS} (F:lN ls ps) (h:BI ls ps S) (O:yF b ls ps S):lN (ls.map (iQ S)) (ps.map (cG S.k)):=by
 have nm:(ls.map (iQ S)).map (·.name)=ls.map (·.name):=by rw [map_map];rfl
 have pm:(ps.map (cG S.k)).map (·.name)=ps.map (·.name):=by rw [map_map];exact map_congr_left λp _=>(jl S.k p).2.1
 refine⟨λl hl=>?_,λp hp=>?_,λl hl=>?_,λp hp=>?_,by rw [pm];exact F.pnd,?_,by rw [lM];exact F.l1,by rw [lM];exact F.l24,by rw [lM];exact F.p1,by rw [lM];exact F.p16⟩
 ·obtain⟨l,hm,rfl⟩:=mem_map.mp hl;obtain⟨h1,h2,_,_⟩:=F.lok l hm;have:=h.rm l hm;have gl:=h.gl l hm;refine⟨h1,h2,?_,λv hv=>O.vb l hm v (mem_of_mem_drop hv)⟩;show(((S.ev l.name).drop (S.g l.name)).length:Int)<=l.room;rw [length_drop];omega
 ·obtain⟨p,hm,rfl⟩:=mem_map.mp hp;obtain⟨o1,o2,o3,o4,o5⟩:=F.pok p hm;obtain⟨k1,k2,k3,k4⟩:=jl S.k p;unfold qy;rw [k1,k3,k4];refine⟨o1,?_,o3,o4,λv hv=>?_⟩
  ·unfold cG;split
   ·rename_i h5;rw [h5];rfl
   ·exact o2
  ·unfold cG at hv;split at hv
   ·rename_i h5;have:v=S.k p.name:=by simpa using hv
    rw [this];exact h.kb p hm h5
   ·exact o5 v hv
 ·obtain⟨l,hm,rfl⟩:=mem_map.mp hl;exact F.lnm l hm
 ·obtain⟨p,hm,rfl⟩:=mem_map.mp hp;rw [(jl S.k p).2.1];exact F.pnm p hm
 ·rw [nm];have ei:(ps.map (cG S.k)).flatMap (·.ins)=ps.flatMap (·.ins):=GQ λp=>(jl S.k p).2.2.1;have eo:(ps.map (cG S.k)).flatMap (·.outs)=ps.flatMap (·.outs):=GQ λp=>(jl S.k p).2.2.2;obtain⟨y,hy⟩:=F.whole.hang;refine⟨F.whole.nod,by rw [eo];exact F.whole.outs,by rw [ei];exact F.whole.ins,y,λq hq=>?_⟩;obtain⟨p,hm,rfl⟩:=mem_map.mp hq;obtain⟨x,hx,c⟩:=hy p hm;refine⟨x,?_,?_⟩
  ·obtain⟨_,_,k3,k4⟩:=jl S.k p;rw [k3,k4];exact hx
  ·exact Tu c
theorem Uk (ls:List aD) (S:FS) (x:Str):roomF (ls.map (iQ S)) x=roomF ls x:=by
 unfold roomF;rw [find?_map];cases e:ls.find? ((λl=>decide (l.name=x))∘iQ S) with
 | none=>rw [show ls.find? (λl=>decide (l.name=x))=none from e];rfl
 | some l=>rw [show ls.find? (λl=>decide (l.name=x))=some l from e];rfl
theorem Ur {ps:List PD} {k:Str->Int} {w:Str×Str×Str}:qH (ps.map (cG k)) w=qH ps w:=by
 have key:∀c:PD->Bool,(∀p,c (cG k p)=c p)->((ps.map (cG k)).find? c).map (·.name)=(ps.find? c).map (·.name):=λc hc=>by
  rw [find?_map,show c∘cG k=c from funext hc,Option.map_map];cases ps.find? c with
  | none=>rfl
  | some p=>exact congrArg some (jl k p).2.1
 unfold qH;rw [key _ λp=>by rw [(jl k p).2.2.2],key _ λp=>by rw [(jl k p).2.2.1]]
theorem Nm.now {b:Nat} {ls:List aD} {ps:List PD} {S:FS} {ws:List (Str×Str×Str)} {RW:List (Str×Addr×List Int)} (F:lN ls ps) (B:BI ls ps S) (O:yF b ls ps S) (h:Nm ls ps S ws) (hr:∀p∈ps,p.kind=0->S.d p.name <(S.r p.name).length->iR RW p.name≠[]):Nm (ls.map (iQ S)) (ps.map (cG S.k)) (fG (ls.map (iQ S)) (ps.map (cG S.k)) RW) ws:=by
 have F':=F.now B O;obtain⟨wf,D,h1,h2,h3⟩:=h;have ev:∀l∈ls,(fG (ls.map (iQ S)) (ps.map (cG S.k)) RW).ev l.name=(S.ev l.name).drop (S.g l.name):=λl hl=>xg F'.whole.nod (l:=iQ S l) (mem_map.mpr ⟨l,hl,rfl⟩);have hd:∀l∈ls,fJ (fG (ls.map (iQ S)) (ps.map (cG S.k)) RW) l.name=fJ S l.name:=λl hl=>by unfold fJ;rw [ev l hl,List.getElem?_drop];rfl
 have T0:∀x,(fG (ls.map (iQ S)) (ps.map (cG S.k)) RW).g x=0/\(fG (ls.map (iQ S)) (ps.map (cG S.k)) RW).d x=0/\(fG (ls.map (iQ S)) (ps.map (cG S.k)) RW).r x=iR RW x:=λ_=>⟨rfl,rfl,rfl⟩;generalize fG (ls.map (iQ S)) (ps.map (cG S.k)) RW=T at ev hd T0 ⊢;refine⟨wf,λp' hp' hR=>?_,λw hw=>?_,h2,h3⟩
 ·obtain⟨p,hp,rfl⟩:=mem_map.mp hp';obtain⟨k1,k2,k3,k4⟩:=jl S.k p;rw [k2] at hR ⊢;obtain⟨hw,z,hz,hl⟩:=D p hp hR;refine⟨?_,z,hz,by rw [Ur];exact hl⟩;have eh:aN T (cG S.k p)=aN S p:=by unfold aN;rw [k3];refine map_congr_left λx hx=>?_;obtain⟨l,hl,rfl⟩:=F.inL hp (mem_append.mpr (.inl hx));exact hd l hl
  have elk:cz (cG S.k p).kind (cG S.k p).ins (aN T (cG S.k p))=cz p.kind p.ins (aN S p):=by rw [eh,k1,k3]
  rcases zV p.kind p.ins (aN S p) with hlk | ⟨x,hlk⟩;rotate_left
  ·rw [ux hlk] at hw;rw [ux (elk.trans hlk)];exact hw
  cases he:qK S p with
  | true=>
   rw [zc hlk he] at hw;unfold qH at hl;rw [<-Option.some.inj hw,if_neg (show ¬("end" :Str)= "value" by decide),if_neg (show ¬("end" :Str)= "room" by decide)] at hl;cases hl
  | false=>
   have heT:qK T (cG S.k p)=false:=by
    unfold qK;rw [k1,k2,(T0 _).2.1,(T0 _).2.2];by_cases h0:p.kind=0
    ·have hlt:S.d p.name <(S.r p.name).length:=by have a1:=O.dl p hp h0;unfold qK at he;rw [decide_eq_true h0,Bool.true_and] at he;have:=of_decide_eq_false he;omega
     have:=hr p hp h0 hlt;rw [decide_eq_false (p:=0=(iR RW p.name).length) λe=>this (List.length_eq_zero_iff.mp e.symm),Bool.and_false]
    ·rw [decide_eq_false h0,Bool.false_and]
   have mt:∀(ls:List aD) (S:FS) (p:PD),(match (Hg S p).find? (j6 ls S) with
     | some q=>some (q.1,("room" :Str))
     | none=>none)=((Ep S p).find? (TJ ls S)).map λx=>(x,("room" :Str)):=λls S p=>by
    rw [Uv];cases (Hg S p).find? (j6 ls S) <;> rfl
   have ok:=F.pok p hp;have ok':=F'.pok _ hp';have eg:Ep T (cG S.k p)=Ep S p:=by
    by_cases hA:p.kind=10
    ·have em:cG S.k p=p:=by unfold cG;rw [if_neg (by rw [hA];decide)]
     rw [em] at eh ⊢;have ew:vB T p=vB S p:=by unfold vB;rw [if_neg (by rw [hA];decide),if_neg (by rw [hA];decide),eh]
     unfold Ep Hg;rw [ew,hA];rfl
    ·rw [Jz ok hA,Jz ok' (by rw [k1];exact hA),k4]
   rw [ug hlk he,mt] at hw;rw [ug (elk.trans hlk) heT,mt,eg,<-hw];congr 1
   refine FJ λx hx=>?_;obtain⟨l,hl,rfl⟩:=F.inL hp (mem_append.mpr (.inr (Uj ok hx)));unfold TJ;rw [Uk,ev l hl,(T0 _).1,length_drop];have:=B.gl l hl;refine decide_eq_decide.mpr ?_;omega
 ·obtain⟨e,p,hp,ep⟩:=h1 w hw;exact⟨e,cG S.k p,mem_map.mpr ⟨p,hp,Y⟩,by rw [(jl S.k p).2.1];exact ep⟩
theorem Mu {ls:List aD} {ps:List PD} {S:FS} (F:lN ls ps) {ws:List (Str×Str×Str)} (h:zX (Ko ps (ik ls S ps)) (ps.map (·.name)) (ik ls S ps) ws) (hne:ws≠[]):Nm ls ps S ws:=by
 obtain⟨h1,h2,h3⟩:=RT F h hne;refine⟨_,h1,λw hw=>⟨congrArg Prod.snd (h2 w hw).2,?_⟩,hne,?_⟩
 ·obtain⟨p,hp,e⟩:=mem_map.mp (h3 w.1 (mem_map.mpr ⟨w,hw,rfl⟩));exact⟨p,hp,e⟩
 ·rcases h with ⟨rfl,_⟩ | ⟨pre,x,post,r,e,_,g2,_,rfl⟩
  ·exact absurd Y hne
  ·rw [lM];refine le_trans (Q5 _ _) (le_trans (DR g2.nd.1 (m:=ps.map (·.name)) λy hy=>?_) (by rw [lM];exact F.p16));obtain⟨w,hw,e2⟩:=tM (g2.nd.2 y hy);exact(xj ls S ps).subset (mem_map.mpr ⟨w,hw,e2⟩)
theorem jd.tup {H:Hp} {r:Addr} {n:Nat} {A:jC} {ls:List aD} {ps:List PD} {S:FS} (h:jd K t H r n A ls ps S) {a:Addr} {vs:List V} (ha:H a=some (.tup vs)):a∉r:: A.cells ls ps:=λz=>by
 rcases mem_cons.mp z with rfl | z
 ·obtain⟨_,_,h1,_⟩:=h.run;rw [ha] at h1;cases h1.1
 ·rcases h.flow.kinds z with ⟨_,e⟩ | ⟨_,e⟩ <;> rw [ha] at e <;> cases e
theorem ww {a:Addr} {E:List Addr} {H:Hp}:aQ (a:: E) H=aQ [a] (aQ E H):=by
 funext b
 unfold aQ;by_cases h1:b=a <;> by_cases h2:b∈E <;> simp [h1,h2]
theorem jd.put {H:Hp} {r L:Addr} {n:Nat} {A:jC} {ls:List aD} {ps:List PD} {S:FS} {o:HO} (h:jd K t H r n A ls ps S) (hL:L∉r:: A.cells ls ps) (hf:A.f≠L) (hn:eG K t (aQ (L:: r:: A.cells ls ps) H) A.n ls ps):jd K t (upd H L o) r n A ls ps S:=by
 have hc:∀a∈r:: A.cells ls ps,a∉[L]:=λa ha z=>hL (by rw [<-mem_singleton.mp z];exact ha);have s:aJ (aQ [L] H) (upd H L o):=by have:=bF (E:=[L]) (H:=upd H L o);rwa [dH (by simp)] at this
 refine jd.same (H:=aQ [L] H) (h.cut (hc r mem_cons_self) (by simpa using hf) (λa ha=>hc a (mem_cons_of_mem _ ha)) ?_) s;rw [jN,<-ww];exact hn
theorem eG.offL {H:Hp} {n r:Addr} {w:List V} {ls:List aD} {ps:List PD} (N:eG K t H n ls ps) (hr:H r=some (.lst w)):eG K t (aQ [r] H) n ls ps:=by
 obtain⟨dxn,fsn,R,F,Pd,G,Tk,FL,PL,W⟩:=N;have g1:∀{b:Addr} {u:HO},H b=some u->(∀w,u≠.lst w)->aQ [r] H b=some u:=λ{b u} e h=>bL e (by simp;intro z;rw [z,hr] at e;exact h _ (Option.some.inj e).symm);have g3:∀{b:Addr} {xs:List V},fZ K H b xs->fZ K (aQ [r] H) b xs:=λh=>by
  rcases h with (h | ⟨o,h⟩) | h
  ·exact .inl (.inl (g1 h (by intro _ z;cases z)))
  ·exact .inl (.inr ⟨o,g1 h (by intro _ z;cases z)⟩)
  ·exact .inr h
 have nd:∀{k:List (Key×V)} (w),HO.dK k≠.lst w:=by intro _ _ z;cases z
 refine⟨dxn,fsn,R,F,Pd,G,Tk,FL,PL,g1 W.obj (by intro _ z;cases z),W.fl,g1 W.rooms nd,g1 W.firsts nd,g1 W.parts nd,g1 W.givers nd,g1 W.takers nd,W.fls,W.pls,λq hq=>g3 (W.tups q hq),λq hq=>?_,W.fit,W.neRF⟩;obtain⟨dx',tn,ti,to,h1,h2,h3,h4⟩:=W.pats q hq;exact⟨dx',tn,ti,to,g1 h1 (by intro _ z;cases z),g3 h2,g3 h3,g3 h4⟩
structure QG (K:Fr) (t:jq) (H:Hp) (r:Addr) (n:Nat) (A:jC) (ls:List aD) (ps:List PD) (S:FS) (r2:Addr) (n2:Nat) (A2:jC) (ls2:List aD) (ps2:List PD) (S2:FS):Prop where
 R1:jd K t H r n A ls ps S
 R2:jd K t H r2 n2 A2 ls2 ps2 S2
 N1:eG K t (aQ (r:: A.cells ls ps) (aQ (r2:: A2.cells ls2 ps2) H)) A.n ls ps
 N2:eG K t (aQ (r:: A.cells ls ps) (aQ (r2:: A2.cells ls2 ps2) H)) A2.n ls2 ps2
 d:∀a∈r:: A.cells ls ps,a∉r2:: A2.cells ls2 ps2
 f1:A.f∉r2:: A2.cells ls2 ps2
 f2:A2.f∉r:: A.cells ls ps
theorem QG.swap {H:Hp} {r r2:Addr} {n n2:Nat} {A A2:jC} {ls ls2:List aD} {ps ps2:List PD} {S S2:FS} (h:QG K t H r n A ls ps S r2 n2 A2 ls2 ps2 S2):QG K t H r2 n2 A2 ls2 ps2 S2 r n A ls ps S:=⟨h.R2,h.R1,by rw [jN];exact h.N2,by rw [jN];exact h.N1,λa h1 h2=>h.d a h2 h1,h.f2,h.f1⟩
theorem QG.step {H H':Hp} {r r2:Addr} {n n' n2:Nat} {A A2:jC} {ls ls2:List aD} {ps ps2:List PD} {S S' S2:FS} (h:QG K t H r n A ls ps S r2 n2 A2 ls2 ps2 S2) (s:aJ (aQ (r:: A.cells ls ps) H) (aQ (r:: A.cells ls ps) H')) (R:jd K t H' r n' A ls ps S'):QG K t H' r n' A ls ps S' r2 n2 A2 ls2 ps2 S2:=by
 have sw:aJ (aQ (r:: A.cells ls ps) (aQ (r2:: A2.cells ls2 ps2) H)) (aQ (r:: A.cells ls ps) (aQ (r2:: A2.cells ls2 ps2) H')):=by rw [jN,jN (H:=H')];exact dB s
 have q:jd K t (aQ (r:: A.cells ls ps) H) r2 n2 A2 ls2 ps2 S2:=h.R2.cut (λz=>h.d _ z mem_cons_self) h.f2 (λa ha z=>h.d a z (mem_cons_of_mem _ ha)) (by rw [jN];exact h.N2);exact⟨R,(q.same s).same bF,h.N1.same sw,h.N2.same sw,h.d,h.f1,h.f2⟩
theorem QG.same {H H':Hp} {r r2:Addr} {n n2:Nat} {A A2:jC} {ls ls2:List aD} {ps ps2:List PD} {S S2:FS} (h:QG K t H r n A ls ps S r2 n2 A2 ls2 ps2 S2) (s:aJ H H'):QG K t H' r n A ls ps S r2 n2 A2 ls2 ps2 S2:=⟨h.R1.same s,h.R2.same s,h.N1.same (dB (dB s)),h.N2.same (dB (dB s)),h.d,h.f1,h.f2⟩
theorem QG.put {H:Hp} {r r2 L:Addr} {n n2:Nat} {A A2:jC} {ls ls2:List aD} {ps ps2:List PD} {S S2:FS} {w:List V} {o:HO} (h:QG K t H r n A ls ps S r2 n2 A2 ls2 ps2 S2) (eL:H L=some (.lst w)) (h1:L∉r:: A.cells ls ps) (h2:L∉r2:: A2.cells ls2 ps2) (g1:A.f≠L) (g2:A2.f≠L):QG K t (upd H L o) r n A ls ps S r2 n2 A2 ls2 ps2 S2:=by
 have eC:=bL (E:=r:: A.cells ls ps) (bL eL h2) h1;have m1:=h.N1.offL eC;have m2:=h.N2.offL eC;have s1:aJ (aQ [L] (aQ (r:: A.cells ls ps) (aQ (r2:: A2.cells ls2 ps2) H))) (aQ (L:: r:: A.cells ls ps) H):=by rw [<-ww,jN];exact bF
 have s2:aJ (aQ [L] (aQ (r:: A.cells ls ps) (aQ (r2:: A2.cells ls2 ps2) H))) (aQ (L:: r2:: A2.cells ls2 ps2) H):=by rw [jN (E:=r:: A.cells ls ps),<-ww,jN];exact bF
 have s3:aJ (aQ [L] (aQ (r:: A.cells ls ps) (aQ (r2:: A2.cells ls2 ps2) H))) (aQ (r:: A.cells ls ps) (aQ (r2:: A2.cells ls2 ps2) (upd H L o))):=by rw [jN,jN (E:=[L])];refine dB (dB ?_);rw [<-dH (o:=o) (H:=H) (mem_singleton.mpr rfl)];exact bF
 exact⟨h.R1.put h1 g1 (m1.same s1),h.R2.put h2 g2 (m2.same s2),m1.same s3,m2.same s3,h.d,h.f1,h.f2⟩
structure Nf (K:Fr) (t:jq) (C H:Hp) (Lk:Addr) (ws:List (Str×Str×Str)) (r:Addr) (j:Nat) (A:jC) (ls:List aD) (ps:List PD) (S:FS):Prop where
 R:jd K t H r j A ls ps S
 O:yF (199+32 * j) ls ps S
 B:BI ls ps S
 lk:H Lk=some (.lst [.ref r])
 sC:aJ C (aQ (Lk:: r:: A.cells ls ps) H)
 dd:ws=[]∨Nm ls ps S ws
structure BW (K:Fr) (t:jq) (C H:Hp) (Lk:Addr) (ws:List (Str×Str×Str)) (r:Addr) (j:Nat) (A:jC) (ls:List aD) (ps:List PD) (S:FS) (r2:Addr) (m:Nat) (A2:jC) (ls2:List aD) (ps2:List PD) (S2:FS):Prop where
 D:QG K t H r j A ls ps S r2 m A2 ls2 ps2 S2
 O1:yF (199+32 * j) ls ps S
 O2:yF (199+32 * m) ls2 ps2 S2
 d1:Nm ls ps S ws
 d2:Nm ls2 ps2 S2 ws
 lk:H Lk=some (.lst [.ref r,.ref r2])
 nk1:Lk∉r:: A.cells ls ps
 nk2:Lk∉r2:: A2.cells ls2 ps2
 c2:∀a∈r2:: A2.cells ls2 ps2,C a=none
 sC:aJ C (aQ (Lk:: r:: A.cells ls ps) H)
 kd:∀v∈cZ ps "give" ++ cZ ps "take",v∈cZ ps2 "give" ++ cZ ps2 "take"
theorem Nf.same {C H H':Hp} {Lk r:Addr} {ws:List (Str×Str×Str)} {j:Nat} {A:jC} {ls:List aD} {ps:List PD} {S:FS} (h:Nf K t C H Lk ws r j A ls ps S) (s:aJ H H'):Nf K t C H' Lk ws r j A ls ps S:=⟨h.R.same s,h.O,h.B,s _ _ h.lk,h.sC.trans (dB s),h.dd⟩
section
variable {C H H':Hp} {Lk r r2:Addr} {ws:List (Str×Str×Str)} {j m:Nat} {A A2:jC} {ls ls2:List aD} {ps ps2:List PD} {S S2:FS}
theorem BW.same (h:BW K t C H Lk ws r j A ls ps S r2 m A2 ls2 ps2 S2) (s:aJ H H'):BW K t C H' Lk ws r j A ls ps S r2 m A2 ls2 ps2 S2:=⟨h.D.same s,h.O1,h.O2,h.d1,h.d2,s _ _ h.lk,h.nk1,h.nk2,h.c2,h.sC.trans (dB s),h.kd⟩
theorem jd.fit (h:jd K t H r j A ls ps S):lN ls ps:=by obtain⟨_,_,_,_,_,_,_,_,_,Wn⟩:=h.net;exact Wn.fit
theorem Qp {E:List Addr} (s:aJ (aQ E H) (aQ E H')):aJ (aQ (Lk:: E) H) (aQ (Lk:: E) H'):=by rw [ww (a:=Lk) (E:=E) (H:=H),ww (a:=Lk) (E:=E) (H:=H')];exact dB s
theorem Kw (F:lN ls ps) (O:yF (199+32 * j) ls ps S) (xs:List Str):yF (199+32 * (j+1)) ls ps (fX ls ps S xs):=by rw [show 199+32 * (j+1)=199+32 * j+32 by omega];exact Qa F O xs
theorem BW.one {xs:List Str} (h:BW K t C H Lk ws r j A ls ps S r2 m A2 ls2 ps2 S2) (s:aJ (aQ (r:: A.cells ls ps) H) (aQ (r:: A.cells ls ps) H')) (R:jd K t H' r (j+1) A ls ps (fX ls ps S xs)):BW K t C H' Lk ws r (j+1) A ls ps (fX ls ps S xs) r2 m A2 ls2 ps2 S2:=
 ⟨h.D.step s R,Kw R.fit h.O1 xs,h.O2,h.d1.turn R.fit h.O1 xs,h.d2,bF _ _ (s _ _ (bL h.lk h.nk1)),h.nk1,h.nk2,h.c2,h.sC.trans (Qp s),h.kd⟩
theorem BW.two {xs:List Str} (h:BW K t C H Lk ws r j A ls ps S r2 m A2 ls2 ps2 S2) (s:aJ (aQ (r2:: A2.cells ls2 ps2) H) (aQ (r2:: A2.cells ls2 ps2) H')) (R:jd K t H' r2 (m+1) A2 ls2 ps2 (fX ls2 ps2 S2 xs)):BW K t C H' Lk ws r j A ls ps S r2 (m+1) A2 ls2 ps2 (fX ls2 ps2 S2 xs):=
 ⟨(h.D.swap.step s R).swap,h.O1,Kw R.fit h.O2 xs,h.d1,h.d2.turn R.fit h.O2 xs,bF _ _ (s _ _ (bL h.lk h.nk2)),h.nk1,h.nk2,h.c2,λb o e=>by
  have nb:b∉Lk:: r:: A.cells ls ps:=λz=>by have:=h.sC _ _ e;unfold aQ at this;rw [if_pos z] at this;cases this
  exact bL (bF _ _ (s _ _ (bL (bF _ _ (h.sC _ _ e)) λz=>by rw [h.c2 b z] at e;cases e))) nb,h.kd⟩
inductive ZQ (K:Fr) (t:jq) (C:Hp) (Lk:Addr) (ws:List (Str×Str×Str)) (r:Addr) (j:Nat) (A:jC) (ls:List aD) (ps:List PD) (r2:Addr) (m:Nat) (A2:jC) (ls2:List aD) (ps2:List PD) (i:Nat) (H:Hp):Prop where
 | mk:∀S S2,BW K t C H Lk ws r (j+min i 1) A ls ps S r2 (m+(i - 1)) A2 ls2 ps2 S2->ZQ K t C Lk ws r j A ls ps r2 m A2 ls2 ps2 i H
theorem ZQ.go {i:Nat} (hi:i <2) (hj:j<=60) (hm:m<=60) (h:ZQ K t C Lk ws r j A ls ps r2 m A2 ls2 ps2 i H):H Lk=some (.lst [.ref r,.ref r2])/\∃(rr:Addr) (nn:Nat) (AA:jC) (ll:List aD) (pp:List PD) (SS:FS),Hw [V.ref r,V.ref r2] (i:Int)=some (V.ref rr)/\jd K t H rr nn AA ll pp SS/\yF (199+32 * nn) ll pp SS/\nn<=60/\Nm ll pp SS ws/\(∀v∈cZ ps "give" ++ cZ ps "take",v∈cZ pp "give" ++ cZ pp "take")/\(∀a o,C a=some o->a∉rr:: AA.cells ll pp)/\∀H' xs,aJ (aQ (rr:: AA.cells ll pp) H) (aQ (rr:: AA.cells ll pp) H')->jd K t H' rr (nn+1) AA ll pp (fX ll pp SS xs)->ZQ K t C Lk ws r j A ls ps r2 m A2 ls2 ps2 (i+1) H':=by
 obtain⟨S,S2,h⟩:=h;refine⟨h.lk,?_⟩;obtain rfl | rfl:i=0∨i=1:=by omega
 ·exact⟨r,j,A,ls,ps,S,Y,h.D.R1,h.O1,hj,h.d1,λ_ hv=>hv,(λa o e z=>by have:=h.sC _ _ e;unfold aQ at this;rw [if_pos (mem_cons_of_mem _ z)] at this;cases this),λH' xs s R=>⟨_,S2,h.one s R⟩⟩
 ·exact⟨r2,m,A2,ls2,ps2,S2,rfl,h.D.R2,h.O2,hm,h.d2,h.kd,(λa o e z=>by rw [h.c2 a z] at e;cases e),λH' xs s R=>⟨S,_,h.two s R⟩⟩
inductive Cyc (K:Fr) (t:jq) (a L P r Lk:Addr) (c0:Int) (Z:jC) (ls:List aD) (ps:List PD) (C:Hp) (j:Nat) (σ:St) (H:Hp):Prop where
 | mk:∀(C1:Hp) (Lr:Addr) (us:List Addr) (ws:List (Str×Str×Str)) (S:FS),((∃v7 v8,σ=[some (.ref a),some (.ref L),some (.ref P),some (.ref r),some (.int c0),some (.ref Lk),some (.ref Lr),v7,v8]))->aJ C C1->C1 Lr=some (.lst (us.map V.ref))->dw C1 us (ws.map Ha)->((Nf K t C1 H Lk ws r j Z ls ps S∨∃r2 m Z2 ls2 ps2 S2,m<=j/\BW K t C1 H Lk ws r j Z ls ps S r2 m Z2 ls2 ps2 S2))->Cyc K t a L P r Lk c0 Z ls ps C j σ H
noncomputable def Jn (K:Fr) (t:jq) (a L P r Lk Lr:Addr) (c0 c:Int) (Z:jC) (ls:List aD) (ps:List PD) (C1:Hp) (ws:List (Str×Str×Str)) (S:FS) (j:Nat) (σ:St) (H:Hp):Prop:=(∃v8,σ=[some (.ref a),some (.ref L),some (.ref P),some (.ref r),some (.int c0),some (.ref Lk),some (.ref Lr),some (.int c),v8])/\((ws=[]/\Nf K t C1 H Lk ws r j Z ls ps S)∨∃r2 m Z2 ls2 ps2 S2,m<=j/\BW K t C1 H Lk ws r j Z ls ps S r2 m Z2 ls2 ps2 S2)
theorem aab (x y:Int) {i:Nat} (hi:i <2):∃c,Hw [V.int x,V.int y] (0+(i:Int))=some (V.int c):=by
 obtain rfl | rfl:i=0∨i=1:=by omega
 ·exact⟨_,Y⟩
 ·exact⟨_,Y⟩
theorem Nf.beside {RW:List (Str×Addr×List Int)} (h:Nf K t C H Lk ws r j A ls ps S) (hd:Nm ls ps S ws) (nk:Lk∉r:: A.cells ls ps) (nf:A.f≠Lk) (s:aJ H H') (R2:jd K t H' r2 0 A2 (ls.map (iQ S)) (ps.map (cG S.k)) (fG (ls.map (iQ S)) (ps.map (cG S.k)) RW)) (fr:∀a∈r2:: A2.f:: A2.cells (ls.map (iQ S)) (ps.map (cG S.k)),H a=none) (N2:eG K t (aQ (r:: A.cells ls ps) (aQ (r2:: A2.cells (ls.map (iQ S)) (ps.map (cG S.k))) H')) A2.n (ls.map (iQ S)) (ps.map (cG S.k))) (O2:yF 199 (ls.map (iQ S)) (ps.map (cG S.k)) (fG (ls.map (iQ S)) (ps.map (cG S.k)) RW)) (hr:∀p∈ps,p.kind=0->S.d p.name <(S.r p.name).length->iR RW p.name≠[]):BW K t C (upd H' Lk (.lst [.ref r,.ref r2])) Lk ws r j A ls ps S r2 0 A2 (ls.map (iQ S)) (ps.map (cG S.k)) (fG (ls.map (iQ S)) (ps.map (cG S.k)) RW):=by
 have F:=h.R.fit;have fr2:∀a∈r2:: A2.cells (ls.map (iQ S)) (ps.map (cG S.k)),H a=none:=λa ha=>fr a (by rcases mem_cons.mp ha with rfl | ha <;> simp [*]);have some1:∀a∈r:: A.cells ls ps,∃o,H a=some o:=λa ha=>by
  rcases mem_cons.mp ha with rfl | ha
  ·obtain⟨_,_,h1,_⟩:=h.R.run;exact⟨_,h1.1⟩
  ·rcases h.R.flow.kinds ha with ⟨_,e⟩ | ⟨_,e⟩ <;> exact⟨_,e⟩
 have out2:∀{a:Addr} {o:HO},H a=some o->a∉r2:: A2.cells (ls.map (iQ S)) (ps.map (cG S.k)):=λ{a o} e z=>by rw [fr2 a z] at e;cases e
 have nF2:=fr A2.f (by simp);have D:QG K t H' r j A ls ps S r2 0 A2 (ls.map (iQ S)) (ps.map (cG S.k)) (fG (ls.map (iQ S)) (ps.map (cG S.k)) RW):=by
  refine⟨h.R.same s,R2,h.R.net.same λb o e=>?_,N2,λa ha=>(some1 a ha).elim λ_ e=>out2 e,?_,λz=>?_⟩
  ·have nb:b∉r:: A.cells ls ps:=λz=>by unfold aQ at e;rw [if_pos z] at e;cases e
   have e0:=bF _ _ e;exact bL (bL (s _ _ e0) (out2 e0)) nb
  ·obtain⟨dx,fs,e,_⟩:=h.R.flow.at';exact out2 e
  ·obtain⟨o,e⟩:=some1 _ z;rw [nF2] at e;cases e
 have nk2:=out2 h.lk;have D':=D.put (o:=.lst [.ref r,.ref r2]) (s _ _ h.lk) nk nk2 nf (λz=>by rw [z,h.lk] at nF2;cases nF2);refine⟨D',h.O,O2,hd,Nm.now F h.B h.O hd hr,ao,nk,nk2,λa ha=>?_,?_,λv hv=>?_⟩
 ·cases e:C a with
  | none=>rfl
  | some o=>exact absurd ha (out2 (bF _ _ (h.sC _ _ e)))
 ·rw [dH mem_cons_self];exact h.sC.trans (dB s)
 ·have go:∀k,v∈cZ ps k->v∈cZ (ps.map (cG S.k)) k:=λk h=>by obtain⟨p,hp,e⟩:=mem_map.mp h;obtain⟨hp,hk⟩:=mem_filter.mp hp;obtain⟨k1,k2,_,_⟩:=jl S.k p;exact mem_map.mpr ⟨cG S.k p,mem_filter.mpr ⟨mem_map.mpr ⟨p,hp,Y⟩,by rw [k1];exact hk⟩,by rw [k2];exact e⟩
  rcases mem_append.mp hv with h | h
  ·exact mem_append.mpr (.inl (go _ h))
  ·exact mem_append.mpr (.inr (go _ h))
end
inductive Gh (K:Fr) (vs:List V) (H:Hp) (Q:VK) (E:XK):Prop where
 | mk:∀(a:Addr) (ns:List Int),vs=[.ref a]->bJ K H a (ns.map V.int)->ns.length<=63->(∀H',Q (.bl true) H')->Gh K vs H Q E
noncomputable abbrev X5:List Str:=["_law_script", "_law_lanes", "_law_parts", "_law_run", "_law_one", "_law_runs", "_law_ring", "_law_cell_here", "_law_k"]
theorem Y5 (T:Txt w K mg t):FO P w K mg base 10 t.Yl ["_law_script"] (Gh K):=by
 have sc:=T.QR.sc X5;refine T.QR.F.ok sc ln (λ_ _ _ _ H vs Q E hr h=>?_);obtain⟨a,ns,rfl,hS,hl,k⟩:=h;refine⟨_,(aq (YS (dX (M4 T) T.yE hr (aa (pv 0) (aa au (aa au (aa nj ak az) az) az) aj)) (G9 Y (jx (gN sc 1) (jx (gN sc 2) xF))))
  (aq (sN sc 3 (gP (T.bD.M T.iD) (uW T) (hr.mono (by decide)) (by rfl) T.bD.m T.iD.b .nil gh (aa (gP (T.aW.M T.iI) (uV T) (hr.mono (by decide)) (by rfl) T.aW.m T.iI.b .nil gh (aa (pv 1) (aa (pv 2) ak aj) aj)) (aa (dX (KD T) T.wG hr (aa (pv 0) (aa (pv 2) (aa au ak az) aj) aj)) ak aX) aX)))
  (aq (sN sc 4 (dX (lC T) T.jE hr (aa (pv 0) (aa au ak az) aj)))
  (aq (sN sc 5 (bC (aa (pv 3) ak aj)))
  (aq (sN sc 6 (dX (mC T) T.jz hr (aa (pv 3) ak aj)))
  (aq (dO PassesOwn.never rfl (bR (bu Gb (jy mH (pv 0) (jD au) (jD au)) (eY [4] X5 (aZ (top 88)) rfl (gJ rfl T.jT (aa (bu cH (dX (bh T) T.bx hr (aa (pv 4) (aa au ak az) aj)) au) ak bM)) (λ_ _ _ _ _=>gj) (λ_ _ _ _ _=>(dX (bh T) T.bx hr (aa (pv 1) (aa (bu dF au (pv 0)) ak bM) aj)))))) (gN sc 7)
   (aq (il (bU (PW.pt (yG (bz (Tp hr.units) (pv 6) (bC ak) (bN _)) (xH (bz gA (bB bV (by rfl) T.fY dC (aa (pv 5) ak aj)) au (bN _)))))
    (aA (bI (Ho (pv 5) (aa (dX (FN T) T.sX hr (aa (pv 3) (aa (pv 7) ak aj) aj)) ak aX))))
    bA))
   (aq (bU (bz (Vo hr.units) (pv 6) (bC ak) (bN _))
    (aq (bI (Ku (pv 3) T.bD.c (T.qI.me T.bD.me.2.2.2.2.1) (Do T) (hr.mono (by decide)) T.qI.b .nil gh (aa (dX (zF T) T.qX hr (aa (pv 2) (aa (pv 7) ak aj) aj)) ak aX)))
    (aq (sN sc 6 (dX (mC T) T.jz hr (aa (pv 3) ak aj)))
    (aA Nq)))
    bA)
   (aA (dO PassesOwn.never rfl (gJ rfl T.jT (aa (bB bV (by rfl) T.fY dC (aa (pv 5) ak aj)) ak aX)) (gN sc 8)
    (aA (bU (lW (jZ (dX (Jx T) T.vN hr (aa (bc bw (pv 5) (pv 8) (λ_ _=>rfl)) (aa (pv 6) (aa (dX (zF T) T.qX hr (aa (pv 2) (aa (bc bw (bC (aa (pv 7) (aa (dX (bh T) T.bx hr (aa (pv 7) (aa au ak az) aj)) ak aX) aj)) (pv 8) (λ_ _=>rfl)) ak aG) aj)) ak aX) aj) aG))))
     (aA (aM nj))
     bA)))))))
  (aA (aM nj)))))))),?_⟩
 have hz:sizeLine=16777216:=sizeLine_eq;refine hide λu hu=>?_;refine⟨_,Y,a,ns,1,4,true,Y,hS,by decide,λT' L P ls ps H2 s2 nL nP nLP eT A D=>?_⟩;refine⟨T',_,Y,fZ.of eT,Y,_,_,Y,_,_,Y,Y,?_⟩;have F:=D.fit;clear eT nL nP nLP D;have p16:=F.p16;refine cB (v:=u) hu λu hu=>?_;refine⟨_,Y,_,Y,λn dxn nn ndn nen=>?_⟩;have gn:aJ H2 (upd (upd H2 dxn (.own n)) n (.ins t.dW dxn [])):=λb o e=>by rw [aK (aF e nn),aK (aF e ndn)];exact e
 have en:upd (upd H2 dxn (.own n)) n (.ins t.dW dxn []) n=some (.ins t.dW dxn []):=ao;generalize upd (upd H2 dxn (.own n)) n (.ins t.dW dxn [])=Hn at gn en ⊢;have hH:Hand K Hn L P ls ps:=by
  obtain⟨⟨x1,x2,x3⟩,⟨y1,y2,y3⟩⟩:=A.same gn;refine⟨⟨x1,bJ.of x2,x3.imp λ_ _ h=>?_⟩,⟨y1,bJ.of y2,y3.imp λ_ _ h=>?_⟩⟩
  ·obtain⟨q,f,e,h1,h2⟩:=h;exact⟨q,f,e,h1,.inl (bJ.of h2)⟩
  ·obtain⟨q,a1,a2,a3,e,h1,h2,h3,h4⟩:=h;exact⟨q,a1,a2,a3,e,h1,.inl (bJ.of h2),.inl (bJ.of h3),.inl (bJ.of h4)⟩
 refine⟨n,dxn,L,P,ls,ps,Y,en,hH,F,λH4 b4 N4=>⟨Y,?_⟩⟩;have s24:aJ H2 H4:=λb o e=>b4 b o (aF e nn) (gn b o e);have A4:=A.same s24;have hS4:=(s2.trans s24).seq hS;clear hH gn en b4 s24 s2 hS A nn ndn nen;have hk:∀p∈ps,p.kind <11:=λp hp=>(F.pok p hp).1;obtain⟨_,⟨ys,eP,aP⟩⟩:=id A4;refine⟨_,Y,_,Y,a,P,ns,ys,ps,7,Y,hS4,eP,aP,p16,λH5 d RW s5 nd hR lR hne=>?_⟩;refine λr dxr nr ndr ner=>?_;have gr:aJ H5 (upd (upd H5 dxr (.own r)) r (.ins t.nQ dxr [])):=λb o e=>by rw [aK (aF e nr),aK (aF e ndr)];exact e
 refine Mm ao gr nr (N4.s.same s5) hR.at' ⟨hR.door,hR.bnd⟩ λH6 Z eZ s6 R6 fr6=>⟨Y,?_⟩;subst eZ;have eA:∀a∈r:: Z.cells ls ps,H5 a=none:=λa ha=>by
  rcases mem_cons.mp ha with rfl | h
  ·exact nr
  ·exact fr6 a (mem_cons_of_mem _ h)
 have s46:aJ H4 (aQ (r:: Z.cells ls ps) H6):=λb o e=>bL (s6 _ _ (s5 _ _ e)) λz=>by have e':=s5 _ _ e;rw [eA b z] at e';cases e'
 have O6:=Hz F hR.at'.len hR.bnd;have B6:=BI.start F RW;generalize fG ls ps RW=S0 at R6 O6 B6;clear hR lR hne gr nd s6 s5 eA fr6 N4;have hS6:=s46.seq hS4;have A6:=A4.same s46;clear hS4 eP aP A4 s46;refine cB (v:=u) hu λu hu=>?_;refine⟨_,Y,a,ns,0,Y,bF.seq hS6,?_⟩;refine cB (v:=u) hu λu hu=>?_;refine⟨_,Y,jB,λLk nLk=>?_⟩;have t7:=aB (o:=.lst [.ref r]) nLk;have eLk:upd H6 Lk (.lst [.ref r]) Lk=some (.lst [.ref r]):=ao;have nk:=R6.out nLk;have nf:Z.f≠Lk:=λz=>by obtain⟨dx,fs,e,_⟩:=R6.flow.at';rw [z,nLk] at e;cases e
 have R7:=R6.same t7;generalize upd H6 Lk (.lst [.ref r])=H7 at t7 eLk R7 ⊢;refine cB (v:=u) hu λu hu=>?_;refine⟨_,Y,_,r,_,Z,ls,ps,_,Y,R7.run,R7.netH,R7.flow,O6,λH8 Lr us ws s8 nLr eLr tU hO=>?_⟩;subst hu;refine⟨_,Y,_,Y,_,Y,a,_,Y,(t7.trans s8).seq (bF.seq hS6),λLc nLc=>?_⟩;obtain⟨cs,ecs,lcs⟩:∃cs:List Int,wk (ns.map V.int) (some 7) (some 41)=cs.map V.int/\cs.length<=34:=by
  refine⟨(ns.drop (min 7 ns.length)).take (min 41 ns.length - min 7 ns.length),(Mx (ns.map V.int) 7 41).trans ?_,?_⟩
  ·rw [map_take,map_drop,lM]
  ·rw [length_take];omega
 rw [ecs];have t9:=aB (o:=.lst (cs.map V.int)) nLc;have eLc:upd H8 Lc (.lst (cs.map V.int)) Lc=some (.lst (cs.map V.int)):=ao;generalize upd H8 Lc (.lst (cs.map V.int))=H9 at t9 eLc ⊢;have m0:=emod_nonneg (cg (jW ns 0) 3) (show(20:Int)≠0 by decide);have m1:=emod_lt_of_pos (cg (jW ns 0) 3) (show(0:Int) <20 by decide);refine⟨_,Y,_,_,Y,_,_,Y,Y,by show(0:Int) <20;decide,_,Y,by omega,by omega,?_⟩;refine jc (λi ys H'=>H'=H9/\∃ms:List Int,ys=ms.map V.int/\ms.length=i) (by omega) ⟨rfl,[],rfl,rfl⟩ (λi ys H' h=>by obtain⟨_,ms,rfl,l⟩:=h;rw [lM];omega) ?_ ?_
 ·rintro i ys H' hi ⟨rfl,ms,rfl,lm⟩;refine yes ⟨_,rfl,_,rfl,_,_,rfl,rfl,_,_,rfl,rfl,ms ++ [_],by rw [map_append];rfl,by rw [lP,lm];rfl⟩
 rintro ys H' ⟨rfl,ms,rfl,lm⟩ Lm nLm;have lm9:ms.length<=19:=by omega
 have t10:=aB (o:=.lst (ms.map V.int)) nLm;refine⟨Lc,Lm,_,_,rfl,rfl,t10 _ _ eLc,ao,by rw [lM,lM];omega,λLs nLs=>⟨Ls,rfl,⟨_,bJ.of ao⟩,?_⟩⟩;rw [<-map_append];have ll:(cs ++ ms).length<=53:=by rw [lP];omega
 generalize cs ++ ms=cm at ll ⊢;generalize upd H' Lm (.lst (ms.map V.int))=H10 at t10 nLs ⊢;have t11:=aB (o:=.lst (cm.map V.int)) nLs;have s910:=t9.trans t10;have R8:=R7.same s8;have R10:=R8.same s910;have eLs:upd H10 Ls (.lst (cm.map V.int)) Ls=some (.lst (cm.map V.int)):=ao;have nLsE:=R10.out nLs;have eLk10:=s910 _ _ (s8 _ _ eLk);generalize upd H10 Ls (.lst (cm.map V.int))=H11 at t11 eLs ⊢;have s811:=s910.trans t11;obtain⟨C,hC⟩:∃C,C=aQ (Lk:: r:: Z.cells ls ps) H11:=⟨_,rfl⟩;have sC:aJ (aQ (r:: Z.cells ls ps) H6) C:=λb o e=>by
  have nb:b∉r:: Z.cells ls ps:=λz=>by unfold aQ at e;rw [if_pos z] at e;cases e
  have e0:=bF _ _ e;rw [hC];refine bL (s811 _ _ (s8 _ _ (t7 _ _ e0))) λz=>?_;rcases mem_cons.mp z with rfl | z
  ·rw [nLk] at e0;cases e0
  ·exact nb z
 have inC:∀{b:Addr} {o:HO},H11 b=some o->b≠Lk->b∉r:: Z.cells ls ps->C b=some o:=λe h1 h2=>by rw [hC];exact bL e λz=>(mem_cons.mp z).elim h1 h2
 have eLsC:=inC eLs (λz=>by rw [z,eLk10] at nLs;cases nLs) nLsE;have eLrC:=inC (s811 _ _ eLr) (λz=>by rw [z,eLk] at nLr;cases nLr) (R7.out nLr);have tUC:dw C us (ws.map Ha):=by
  rw [hC];refine vf (λu hu z=>?_) (dw.same s811 tU);obtain⟨i,hi⟩:=List.mem_iff_getElem?.mp hu;obtain⟨_,_,e⟩:=j5 tU hi;rcases mem_cons.mp z with rfl | z
  ·rw [s8 _ _ eLk] at e;cases e
  ·exact R8.tup e z
 have AC:=A6.same sC;have I0:Nf K t C H11 Lk ws r 0 Z ls ps S0:=⟨R8.same s811,O6,B6,t11 _ _ eLk10,by rw [hC];exact aJ.refl _,by
  by_cases h:ws=[]
  ·exact .inl h
  ·exact .inr (Mu F hO h)⟩
 clear hS6 A6 hC inC sC eLs nLsE t11 s811 s910 t9 t10 nLs nLm lm m0 m1 ecs lcs nLc eLc R8 R10 eLk10 tU eLr nLr hO s8 t7 R6 R7 nLk eLk O6 B6 lm9;refine du (K:=K) (a:=Ls) (xs:=cm.map V.int) (Cyc K t a L P r Lk (jW ns 0) Z ls ps C) ⟨C,Lr,us,ws,S0,⟨_,_,Y⟩,aJ.refl _,eLrC,tUC,.inl I0⟩ ?_ ?_ ?_
 ·rintro j σ H' _ ⟨C1,_,_,_,S,_,sc,_,_,h⟩;have e:=sc _ _ eLsC;rcases h with h | ⟨_,_,_,_,_,_,_,h⟩ <;> exact bJ.of (bF _ _ (h.sC _ _ e))
 rotate_left
 ·rintro σ H' ⟨_,_,_,_,_,⟨_,_,rfl⟩,_⟩;exact k _
 rintro j x σ H1 hx ⟨C1,Lr,us,ws,S,⟨v7,v8,rfl⟩,sc,eLr,tU,h⟩;rw [getElem?_map] at hx;obtain⟨c,hc,rfl⟩:=map_eq_some_iff.mp hx;have hj:=(List.getElem?_eq_some_iff.mp hc).1;have s1:aJ C1 H1:=by rcases h with h | ⟨_,_,_,_,_,_,_,h⟩ <;> exact h.sC.trans bF
 have dR:ws=[]∨Nm ls ps S ws:=by
  rcases h with h | ⟨_,_,_,_,_,_,_,h⟩
  ·exact h.dd
  ·exact .inr h.d1
 have gR:Gd 2 (.list (ws.map Sw)):=.list λd hd=>by
  obtain⟨w,hwm,rfl⟩:=mem_map.mp hd;rcases dR with rfl | ⟨wf,D,h1,_,_⟩
  ·cases hwm
  ·obtain⟨e,p,hp,ep⟩:=h1 w hwm;have:=Vu hp (D p hp (by rw [ep];exact mem_map.mpr ⟨w,hwm,rfl⟩)).1;rw [ep,<-e] at this;exact Qt F (.inl this)
 have g0:Gd 1 (.list (([]:List Str).map PyData.str)):=.list (.strs 0 (by simp));have eRg:=s1 _ _ eLr;have tUR:=dw.same s1 tU;refine Q4 λDe hD u hu=>?_;refine⟨Jn K t a L P r Lk Lr (jW ns 0) c Z ls ps C1 ws S j,?_,?_⟩
 ·refine⟨_,Y,jB,λe ne=>?_⟩;have te:=aB (o:=.lst []) ne;refine⟨_,_,KN (bJ.of (te _ _ eRg)) (dw.same te tUR),JD (xs:=[]) (bJ.of ao),gR.shaped (by decide),g0.shaped (by decide),?_⟩;generalize upd H1 e (.lst [])=H2 at te ⊢;by_cases hw:ws=[]
  ·subst hw;refine⟨_,Y,?_⟩;rw [show PyData.eqv (.list (([]:List (Str×Str×Str)).map Sw)) (.list (([]:List Str).map PyData.str))=true from g0.eq];refine dz (dz ⟨⟨_,Y⟩,.inl ⟨Y,?_⟩⟩);rcases h with h | ⟨_,_,_,_,_,_,_,h⟩
   ·exact h.same te
   ·obtain⟨_,_,_,hne,_⟩:=h.d1;exact absurd Y hne
  ·rw [G3 _ (by simpa using hw)];refine⟨_,Y,iy ?_⟩;rcases h with h | ⟨r2,m,Z2,ls2,ps2,S2,hm,h⟩
   ·have h:=h.same te;have hd:Nm ls ps S ws:=h.dd.resolve_left hw;refine⟨_,Y,_,1,Y,.inl ⟨_,bJ.of h.lk,Y⟩,Y,_,Y,?_⟩;rw [decide_eq_true (show V.int ((1:Nat):Int)=V.int 1 from rfl)];refine iy ⟨_,Y,.inl ⟨Y,_,bJ.of h.lk⟩,_,Y,_,Y,_,r,j,Z,ls,ps,S,c,Y,h.R,h.O,F.now h.B h.O,λH3 r2 Z2 RW s3 R3 fr N3 O3 hr=>?_⟩;exact⟨Lk,_,_,Y,Y,s3 _ _ h.lk,by show 1 <sizeLine;omega,⟨_,Y⟩,.inr ⟨r2,0,Z2,_,_,_,zero_le _,h.beside hd nk nf s3 R3 fr N3 O3 hr⟩⟩
   ·have h:=h.same te;refine⟨_,Y,_,2,Y,.inl ⟨_,bJ.of h.lk,Y⟩,Y,_,Y,?_⟩;rw [decide_eq_false (show ¬V.int ((2:Nat):Int)=V.int 1 by decide)];exact dz ⟨⟨_,Y⟩,.inr ⟨r2,m,Z2,ls2,ps2,S2,hm,h⟩⟩
 rintro σ H2 ⟨⟨v8',rfl⟩,h2⟩;clear h dR eRg tUR s1;have s2:aJ C1 H2:=by rcases h2 with ⟨_,h⟩ | ⟨_,_,_,_,_,_,_,h⟩ <;> exact h.sC.trans bF
 refine cB (v:=u) hu λu hu=>?_;refine⟨_,Y,jB,λe ne=>?_⟩;have te:=aB (o:=.lst []) ne;refine⟨_,_,KN (bJ.of (te _ _ (s2 _ _ eLr))) (dw.same te (dw.same s2 tU)),JD (xs:=[]) (bJ.of ao),gR.shaped (by decide),g0.shaped (by decide),_,Y,?_⟩;generalize upd H2 e (.lst [])=H3 at te ⊢;have s3:=s2.trans te;clear s2;rcases h2 with ⟨rfl,h⟩ | ⟨r2,m,Z2,ls2,ps2,S2,hm,h⟩
 ·rw [show PyData.eqv (.list (([]:List (Str×Str×Str)).map Sw)) (.list (([]:List Str).map PyData.str))=true from g0.eq];have h:=h.same te;obtain⟨_,⟨ys,eP,aP⟩⟩:=id (AC.same (sc.trans s3));obtain⟨dxr,fsr,R1⟩:=id h.R.run;refine iy ⟨_,Y,r,dxr,fsr,Y,R1.1.1,R1.2.no _ (by decide +kernel),_,Y,_,Y,P,ys,ps,c,Y,eP,aP,hk,p16,λH4 Lh zs s4 nLh eLh hzs=>?_⟩;refine Q3 (h.R.same s4) h.O (by omega) (by omega) (bJ.of eLh) (λz=>h.R.out nLh (.tail _ z)) hzs λH5 p5 c5 R5 np5 ep5=>?_;have O5:=Kw F h.O zs;refine⟨_,Y,_,r,_,Z,ls,ps,_,Y,R5.run,R5.netH,R5.flow,O5,λH6 Lr6 us6 ws6 s6 nLr6 eLr6 tU6 hO6=>?_⟩;have lk5:H5 Lk=some (.lst [.ref r]):=bF _ _ (c5 _ _ (bL (s4 _ _ h.lk) nk));subst hD;refine⟨aQ (Lk:: r:: Z.cells ls ps) H6,Lr6,us6,ws6,_,⟨_,_,Y⟩,(sc.trans h.sC).trans ((dB s4).trans ((Qp c5).trans (dB s6))),bL eLr6 λz=>?_,vf (λu hu z=>?_) tU6,.inl ⟨R5.same s6,O5,h.B.turn F zs,s6 _ _ lk5,aJ.refl _,?_⟩⟩
  ·rcases mem_cons.mp z with rfl | z
   ·rw [lk5] at nLr6;cases nLr6
   ·exact R5.out nLr6 z
  ·obtain⟨i,hi⟩:=List.mem_iff_getElem?.mp hu;obtain⟨_,_,e⟩:=j5 tU6 hi;rcases mem_cons.mp z with rfl | z
   ·rw [s6 _ _ lk5] at e;cases e
   ·exact(R5.same s6).tup e z
  ·by_cases h:ws6=[]
   ·exact .inl h
   ·exact .inr (Mu F hO6 h)
 have hne:ws≠[]:=by obtain⟨_,_,_,hne,_⟩:=h.d1;exact hne
 rw [G3 _ (by simpa using hne)];have h:=h.same te;subst hu;refine dz ⟨_,Y,_,2,Y,.inl ⟨_,bJ.of h.lk,Y⟩,_,Y,by decide,by decide,?_⟩;refine Bk (n:=2) (λi σ H'=>(∃v8,σ=[some (.ref a),some (.ref L),some (.ref P),some (.ref r),some (.int (jW ns 0)),some (.ref Lk),some (.ref Lr),some (.int c),v8])/\ZQ K t C1 Lk ws r j Z ls ps r2 m Z2 ls2 ps2 i H') ⟨⟨_,Y⟩,S,S2,h⟩ ?_ ?_
 ·rintro i σ H4 hi ⟨⟨v9,rfl⟩,hW⟩;have s4:aJ C1 H4:=by obtain⟨_,_,q⟩:=hW;exact q.sC.trans bF
  obtain⟨elk,rr,nn,AA,ll',pp,SS,eat,RR,OO,hn,hDd,hkd,nC,go⟩:=hW.go hi (by omega) (by omega);clear hD;refine Vz λDe hD=>?_;refine⟨_,rfl,_,rfl,Lk,_,_,_,rfl,rfl,bJ.of elk,by rw [Int.zero_add];exact eat,_,rfl,_,rfl,?_⟩;obtain⟨cc,hcc⟩:=aab c (cg c 200) hi;refine⟨_,Y,_,Y,_,_,Y,jB,λLx nLx=>⟨_,Y,Lx,_,_,_,Y,Y,bJ.of ao,hcc,?_⟩⟩;have tx:=aB (o:=.lst [V.int c,V.int (cg c 200)]) nLx;generalize upd H4 Lx (.lst [V.int c,V.int (cg c 200)])=H5 at tx ⊢;obtain⟨_,⟨ys,eP,aP⟩⟩:=id (AC.same ((sc.trans s4).trans tx));refine⟨P,ys,ps,cc,Y,eP,aP,hk,p16,λH6 Lh zs s6 nLh eLh hzs=>?_⟩;have s46:=tx.trans s6;have R6:=RR.same s46;refine⟨_,rr,nn,AA,ll',pp,SS,Lr,Lh,us,ws,zs,Y,R6,OO,by omega,by omega,s46 _ _ (s4 _ _ eLr),dw.same s46 (dw.same s4 tU),λu hu=>?_,bJ.of eLh,λz=>(RR.same tx).out nLh (.tail _ z),λx hx=>hkd _ (hzs x hx),hDd,λH7 s7 R7=>⟨_,Y,dz (by subst hD;exact⟨⟨_,Y⟩,go H7 zs ((dB s46).trans s7) R7⟩)⟩⟩;rcases mem_cons.mp hu with rfl | hu
  ·exact nC _ _ eLr
  ·obtain⟨q,hq⟩:=List.mem_iff_getElem?.mp hu;obtain⟨_,_,e⟩:=j5 tU hq;exact nC _ _ e
 rintro σ H4 ⟨⟨v9,rfl⟩,S',S2',q⟩;subst hD;exact⟨C1,Lr,us,ws,S',⟨_,_,Y⟩,sc,eLr,tU,.inr ⟨r2,m+1,Z2,ls2,ps2,S2',by omega,q⟩⟩
end
theorem fin {l:PySem.W.OpenLaw} {w:World} {K:Fr} {mg:Str->Option Value} {fa r0 r1 r2 r3 r4 r5 r6 r7 r8 r9 r10 r11 r12 r13 r14 r15 r16 r17 r18 r19 r20 r21 r22 r23 r24 r25 r26 r27 r28 r29 r30 r31 r32 r33 r34 r35 r36 r37 r38 r39 r40 r41 r42 r43 r44 r45 r46 r47 r48 r49 r50 r51 r52 r53 r54 r55 r56 r57 r58 r59 r60 r61 r62 r63 r64 r65 r66 r67 r68 r69 r70 r71 r72 r73 r74 r75 r76 r77 r78 r79 r80 r81 r82 r83 r84 r85 r86 r87 r88 r89 r90 r91 r92 r93 r94 r95 r96 r97 r98 r99 r100 r101 r102 r103 r104 r105 r106 r107 r108 r109 r110 r111 r112 r113 r114 r115 r116 r117 r118:Addr} (hfa:mg "law" =some (.ref fa)) (T:Txt w K mg ⟨r0,r1,r2,r3,r4,r5,r6,r7,r8,r9,r10,r11,r12,r13,r14,r15,r16,r17,r18,r19,r20,r21,r22,r23,r24,r25,r26,r27,r28,r29,r30,r31,r32,r33,r34,r35,r36,r37,r38,r39,r40,r41,r42,r43,r44,r45,r46,r47,r48,r49,r50,r51,r52,r53,r54,r55,r56,r57,r58,r59,r60,r61,r62,r63,r64,r65,r66,r67,r68,r69,r70,r71,r72,r73,r74,r75,r76,r77,r78,r79,r80,r81,r82,r83,r84,r85,r86,r87,r88,r89,r90,r91,r92,r93,r94,r95,r96,r97,r98,r99,r100,r101,r102,r103,r104,r105,r106,r107,r108,r109,r110,r111,r112,r113,r114,r115,r116,r117,r118⟩):∃fd:FuncData,(∀(s:Shared) (v:Value),BindsTo s fd ⟨[v],[]⟩ [("_law_script",v)])/\∀base:Heap,K.In base->base.Ns mainGlobals mg->jG l.prog w K mg base BX 10 fa fd ["_law_script"] (Gh K):=by have e:=hfa.symm.trans T.QR.m;cases e;exact⟨_,Zo T.QR.F λ_ _ _ _ _ _ _=>Y,λbase _ _=>Y5 T⟩
theorem walk {l:PySem.W.OpenLaw} {q:Program} {loose:List Str} {XP:(Str->Option Value)->Heap->Prop} {YP:World->Heap->Prop} {d:DefRec} {K:Params->Fr} (hn:l.most=some 63) (hdf:d.params.defaults=[])
  (hY:∀(w:World) (h:Heap),YP w h->(K w.params).In h)
  (F:∀(w:World) (mg:Str->Option Value) (fa:Addr) (h:Heap),(K w.params).In h->h.Ns mainGlobals mg->mg d.name=some (.ref fa)->
   ∃fd:FuncData,(∀(s:Shared) (u:Value),BindsTo s fd ⟨[u],[]⟩ [("_law_script",u)])/\∀base:Heap,(K w.params).In base->base.Ns mainGlobals mg->jG l.prog w (K w.params) mg base BX 10 fa fd ["_law_script"] (Gh (K w.params))):
  PySem.W.WalkO q loose XP YP l.row.toRowW d [] (λf vs=>PySem.call f vs):=
 L2.Wf (n:=63) (k:=10) (x:= "_law_script") (CX:=λ_=>BX) (sp:=λw=>Gh (K w.params)) hn (by decide) hdf ⟨rfl,by decide,by decide⟩ hY F (λ_ _ a ns hl _ hS=>⟨a,ns,rfl,hS,hl,λ_=>rfl⟩) λ_ _ _ _ _ z=>z
end K53
open PySem PySem.W PyProof.Rows L2
set_option maxRecDepth 100000 in
set_option maxHeartbeats 0 in
theorem PySem.Challenge.cw_holdlane_k53_whole_rings_never_work_agai_holds : PySem.Challenge.rw_holdlane_k53_whole_rings_never_work_agai.Holds := by
 w_on;o_law
 refine HD.head (by rfl) (by rfl) (by rfl) (by rfl) (by first | assumption | decide +kernel) (by decide +kernel) ⟨rfl,rfl,rfl,rfl,rfl,by decide +kernel⟩ rfl (λ_=>rfl) ?_ ?_
 ·w_witness2
 k_fill
 refine K53.walk (l:=PySem.Challenge.rw_holdlane_k53_whole_rings_never_work_agai) Y Y (λw h Y1=>PySem.W.kIn_of Y1) ?F
 case F=>
  intro w mg fa h KX G hmg;refine' K53.fin hmg ⟨?q0,?q1,?q2,?q3,?q4,?q5,?q6,?q7,?q8,?q9,?q10,?q11,?q12,?q13,?q14,?q15,?q16,?q17,?q18,?q19,?q20,?q21,?q22,?q23,?q24,?q25,?q26,?q27,?q28,?q29,?q30,?q31,?q32,?q33,?q34,?q35,?q36,?q37,?q38,?q39,?q40,?q41,?q42,?q43,?q44,?q45,?q46,?q47,?q48,?q49,?q50,?q51,?q52,?q53,?q54,?q55,?q56,?q57,?q58,?q59,?q60,?q61,?q62,?q63,?q64,?q65,?q66,?q67,?q68,?q69,?q70,?q71,?q72,?q73,?q74,?q75,?q76,?q77,?q78,?q79,?q80,?q81,?q82,?q83,?q84,?q85,?q86,?q87,?q88,?q89,?q90,?q91,?q92,?q93,?q94,?q95,?q96,?q97,?q98,?q99,?q100,?q101,?q102,?q103,?q104,?q105,?q106,?q107,?q108,?q109,?q110,?q111,?q112,?q113,?q114,?q115,?q116,?q117,?q118,?q119,?q120,?q121,?q122,?q123,?q124,?q125,?q126,?q127,?q128,?q129,?q130,?q131,?q132,?q133,?q134,?q135,?q136,?q137,?q138⟩
  all_goals try dsimp only
  (case q0 | q1 | q2 | q3 | q4 | q5 | q6 | q7 | q8 | q9 | q10=>refine' ⟨mg_of KX G ?_,⟨?_,?_,?_,?_⟩,?_,?_,⟨?_,?_,?_,?_,?_,?_,?_,trivial⟩,⟨?_,?_,?_,?_,trivial⟩⟩ <;> (try dsimp only) <;> k_is)
  (case q11=>refine' ⟨mg_of KX G ?_,⟨?_,?_,?_,?_⟩,?_,?_,⟨?_,?_,?_,?_,?_,?_,?_,?_,?_,?_,?_,?_,trivial⟩,⟨?_,?_,?_,?_,?_,trivial⟩⟩ <;> (try dsimp only) <;> k_is)
  (case q12=>refine' ⟨mg_of KX G ?_,⟨?_,?_,?_,?_⟩,?_,?_,⟨?_,?_,?_,?_,?_,?_,?_,?_,?_,?_,trivial⟩,⟨?_,?_,?_,?_,?_,?_,trivial⟩⟩ <;> (try dsimp only) <;> k_is)
  (case q13=>refine' ⟨mg_of KX G ?_,⟨?_,?_,?_,?_⟩,?_,?_,⟨?_,?_,?_,?_,?_,?_,?_,?_,?_,?_,trivial⟩,⟨?_,?_,?_,trivial⟩⟩ <;> (try dsimp only) <;> k_is)
  (case q14 | q15=>refine' .of (mg_of KX G ?_) (d8.of ?_ ?_ ?_ ?_ (λ_ _ _ _ _ _=>yJ λ_=>rfl)) <;> (try k_is);all_goals try k_is)
  (case q16=>refine' d8.of ?_ ?_ ?_ ?_ (λ_ _ _ _ _ _=>aaI λ_ _ _ _ _=>rfl) <;> try k_is)
  (case q17 | q18 | q19 | q20 | q21 | q22 | q23 | q24 | q25 | q26 | q27=>refine' d8.of ?_ ?_ ?_ ?_ (λ_ _ _ _ _ _=>yJ λ_=>rfl) <;> try k_is)
  (case q28=>refine' .of (mg_of KX G ?_) (d8.of ?_ ?_ ?_ ?_ (λ_ _ _ _ _ _=>yJ λ_=>rfl)) <;> (try k_is);all_goals try k_is)
  (case q29 | q30 | q31=>refine' .of (mg_of KX G ?_) (d8.of ?_ ?_ ?_ ?_ (λ_ _ _ _ _ _=>aaI λ_ _ _ _ _=>rfl)) <;> (try k_is);all_goals try k_is)
  (case q32=>refine' .of (mg_of KX G ?_) (d8.of ?_ ?_ ?_ ?_ (λ_ _ _ _ _ _=>yJ λ_=>rfl)) <;> (try k_is);all_goals try k_is)
  (case q33 | q34 | q35=>refine' d8.of ?_ ?_ ?_ ?_ (λ_ _ _ _ _ _=>vZ λ_ _=>rfl) <;> try k_is)
  (case q36 | q37=>refine' d8.of ?_ ?_ ?_ ?_ (λ_ _ _ _ _ _=>yJ λ_=>rfl) <;> try k_is)
  (case q38 | q39=>refine' d8.of ?_ ?_ ?_ ?_ (λ_ _ _ _ _ _=>vZ λ_ _=>rfl) <;> try k_is)
  (case q40 | q41 | q42 | q43 | q44 | q45 | q46 | q47 | q48 | q49 | q50=>refine' d8.of ?_ ?_ ?_ ?_ (λ_ _ _ _ _ _=>Hq λ_ _ _=>rfl) <;> try k_is)
  (case q51 | q52 | q53 | q54=>refine' .of (mg_of KX G ?_) (d8.of ?_ ?_ ?_ ?_ (λ_ _ _ _ _ _=>vZ λ_ _=>rfl)) <;> (try k_is);all_goals try k_is)
  (case q55=>refine' .of (mg_of KX G ?_) (d8.of ?_ ?_ ?_ ?_ (λ_ _ _ _ _ _=>Hq λ_ _ _=>rfl)) <;> (try k_is);all_goals try k_is)
  (case q56=>refine' .of (mg_of KX G ?_) (d8.of ?_ ?_ ?_ ?_ (λ_ _ _ _ _ _=>vZ λ_ _=>rfl)) <;> (try k_is);all_goals try k_is)
  (case q57=>refine' .of (mg_of KX G ?_) (d8.of ?_ ?_ ?_ ?_ (λ_ _ _ _ _ _=>abd λ_ _ _ _ _ _=>rfl)) <;> (try k_is);all_goals try k_is)
  (case q58=>refine' .of (mg_of KX G ?_) (d8.of ?_ ?_ ?_ ?_ (λ_ _ _ _ _ _=>Zj λ_ _ _ _=>rfl)) <;> (try k_is);all_goals try k_is)
  (case q59 | q60 | q61=>refine' .of (mg_of KX G ?_) (d8.of ?_ ?_ ?_ ?_ (λ_ _ _ _ _ _=>Hq λ_ _ _=>rfl)) <;> (try k_is);all_goals try k_is)
  (case q62=>refine' .of (mg_of KX G ?_) (d8.of ?_ ?_ ?_ ?_ (λ_ _ _ _ _ _=>Zj λ_ _ _ _=>rfl)) <;> (try k_is);all_goals try k_is)
  (case q63=>refine' .of (mg_of KX G ?_) (d8.of ?_ ?_ ?_ ?_ (λ_ _ _ _ _ _=>yJ λ_=>rfl)) <;> (try k_is);all_goals try k_is)
  (case q64 | q65=>refine' .of (mg_of KX G ?_) (d8.of ?_ ?_ ?_ ?_ (λ_ _ _ _ _ _=>vZ λ_ _=>rfl)) <;> (try k_is);all_goals try k_is)
  (case q66=>refine' .of (mg_of KX G ?_) (d8.of ?_ ?_ ?_ ?_ (λ_ _ _ _ _ _=>Hq λ_ _ _=>rfl)) <;> (try k_is);all_goals try k_is)
  (case q67=>refine' .of (mg_of KX G ?_) (d8.of ?_ ?_ ?_ ?_ (λ_ _ _ _ _ _=>vZ λ_ _=>rfl)) <;> (try k_is);all_goals try k_is)
  (case q68=>refine' .of (mg_of KX G ?_) (d8.of ?_ ?_ ?_ ?_ (λ_ _ _ _ _ _=>Zj λ_ _ _ _=>rfl)) <;> (try k_is);all_goals try k_is)
  (case q69 | q70 | q71=>refine' .of (mg_of KX G ?_) (d8.of ?_ ?_ ?_ ?_ (λ_ _ _ _ _ _=>Hq λ_ _ _=>rfl)) <;> (try k_is);all_goals try k_is)
  (case q72 | q73=>refine' d8.of ?_ ?_ ?_ ?_ (λ_ _ _ _ _ _=>yJ λ_=>rfl) <;> try k_is)
  (case q74=>refine' d8.of ?_ ?_ ?_ ?_ (λ_ _ _ _ _ _=>vZ λ_ _=>rfl) <;> try k_is)
  (case q75 | q76=>refine' d8.of ?_ ?_ ?_ ?_ (λ_ _ _ _ _ _=>yJ λ_=>rfl) <;> try k_is)
  (case q77 | q78 | q79 | q80 | q81 | q82=>refine' d8.of ?_ ?_ ?_ ?_ (λ_ _ _ _ _ _=>vZ λ_ _=>rfl) <;> try k_is)
  (case q83=>refine' .of (mg_of KX G ?_) (d8.of ?_ ?_ ?_ ?_ (λ_ _ _ _ _ _=>yJ λ_=>rfl)) <;> (try k_is);all_goals try k_is)
  (case q84=>refine' d8.of ?_ ?_ ?_ ?_ (λ_ _ _ _ _ _=>Hq λ_ _ _=>rfl) <;> try k_is)
  (case q85 | q86 | q87 | q88 | q89 | q90 | q91=>refine' d8.of ?_ ?_ ?_ ?_ (λ_ _ _ _ _ _=>vZ λ_ _=>rfl) <;> try k_is)
  (case q92 | q93=>refine' d8.of ?_ ?_ ?_ ?_ (λ_ _ _ _ _ _=>Hq λ_ _ _=>rfl) <;> try k_is)
  (case q94 | q95 | q96 | q97 | q98=>refine' d8.of ?_ ?_ ?_ ?_ (λ_ _ _ _ _ _=>vZ λ_ _=>rfl) <;> try k_is)
  (case q99=>refine' ZC.of ?_ ?_ ?_ ?_ ?_ (λ_ F=>F.binds λ_ _ _ _ _ _ _=>vZ λ_ _=>⟨_,rfl,rfl⟩) <;> (try k_is);all_goals try k_is)
  (case q100=>refine' .of (mg_of KX G ?_) (d8.of ?_ ?_ ?_ ?_ (λ_ _ _ _ _ _=>yJ λ_=>rfl)) <;> (try k_is);all_goals try k_is)
  (case q101=>refine' .of (mg_of KX G ?_) (d8.of ?_ ?_ ?_ ?_ (λ_ _ _ _ _ _=>vZ λ_ _=>rfl)) <;> (try k_is);all_goals try k_is)
  (case q102=>refine' d8.of ?_ ?_ ?_ ?_ (λ_ _ _ _ _ _=>Hq λ_ _ _=>rfl) <;> try k_is)
  (case q103=>refine' d8.of ?_ ?_ ?_ ?_ (λ_ _ _ _ _ _=>vZ λ_ _=>rfl) <;> try k_is)
  (case q104=>refine' d8.of ?_ ?_ ?_ ?_ (λ_ _ _ _ _ _=>yJ λ_=>rfl) <;> try k_is)
  (case q105=>refine' .of (mg_of KX G ?_) (d8.of ?_ ?_ ?_ ?_ (λ_ _ _ _ _ _=>vZ λ_ _=>rfl)) <;> (try k_is);all_goals try k_is)
  (case q106=>refine' .of (mg_of KX G ?_) (d8.of ?_ ?_ ?_ ?_ (λ_ _ _ _ _ _=>yJ λ_=>rfl)) <;> (try k_is);all_goals try k_is)
  (case q107=>refine' d8.of ?_ ?_ ?_ ?_ (λ_ _ _ _ _ _=>vZ λ_ _=>rfl) <;> try k_is)
  (case q108=>refine' d8.of ?_ ?_ ?_ ?_ (λ_ _ _ _ _ _=>yJ λ_=>rfl) <;> try k_is)
  (case q109 | q110 | q111=>refine' .of (mg_of KX G ?_) (d8.of ?_ ?_ ?_ ?_ (λ_ _ _ _ _ _=>vZ λ_ _=>rfl)) <;> (try k_is);all_goals try k_is)
  (case q112=>refine' .of (mg_of KX G ?_) (d8.of ?_ ?_ ?_ ?_ (λ_ _ _ _ _ _=>yJ λ_=>rfl)) <;> (try k_is);all_goals try k_is)
  (case q113=>refine' .of (mg_of KX G ?_) (d8.of ?_ ?_ ?_ ?_ (λ_ _ _ _ _ _=>Hq λ_ _ _=>rfl)) <;> (try k_is);all_goals try k_is)
  (case q114 | q115=>refine' .of (mg_of KX G ?_) (d8.of ?_ ?_ ?_ ?_ (λ_ _ _ _ _ _=>vZ λ_ _=>rfl)) <;> (try k_is);all_goals try k_is)
  (case q116=>refine' .of (mg_of KX G ?_) (d8.of ?_ ?_ ?_ ?_ (λ_ _ _ _ _ _=>Hq λ_ _ _=>rfl)) <;> (try k_is);all_goals try k_is)
  (case q117=>refine' .of (mg_of KX G ?_) (d8.of ?_ ?_ ?_ ?_ (λ_ _ _ _ _ _=>yJ λ_=>rfl)) <;> (try k_is);all_goals try k_is)
  (case q118=>refine' mg_of KX G ?_;k_is)
  (case q119=>
   refine' L2.KTab.mk' ?lk ?c1 ?c2 ?c3 ?c4 ?sm ?rows ?nd
   (case lk=>k_is)
   (case c1=>exact rfl)
   (case c2=>exact rfl)
   (case c3=>exact rfl)
   (case c4=>exact rfl)
   (case sm=>exact rfl)
   (case nd=>decide +kernel)
   (case rows=>
    refine' L2.kO.cons ?hh0 ?lk0 ?cc0 ?dd0 ?vv0 ?zz0 ?rest0
    (case hh0=>exact rfl)
    (case lk0=>k_is)
    (case cc0=>exact rfl)
    (case dd0=>exact rfl)
    (case vv0=>exact .cons ⟨_,rfl⟩ (.cons ⟨_,rfl⟩ (.cons ⟨_,rfl⟩ .nil)))
    (case zz0=>decide)
    refine' L2.kO.cons ?hh1 ?lk1 ?cc1 ?dd1 ?vv1 ?zz1 ?rest1
    (case hh1=>exact rfl)
    (case lk1=>k_is)
    (case cc1=>exact rfl)
    (case dd1=>exact rfl)
    (case vv1=>exact .cons ⟨_,rfl⟩ (.cons ⟨_,rfl⟩ (.cons ⟨_,rfl⟩ .nil)))
    (case zz1=>decide)
    refine' L2.kO.cons ?hh2 ?lk2 ?cc2 ?dd2 ?vv2 ?zz2 ?rest2
    (case hh2=>exact rfl)
    (case lk2=>k_is)
    (case cc2=>exact rfl)
    (case dd2=>exact rfl)
    (case vv2=>exact .cons ⟨_,rfl⟩ (.cons ⟨_,rfl⟩ (.cons ⟨_,rfl⟩ .nil)))
    (case zz2=>decide)
    refine' L2.kO.cons ?hh3 ?lk3 ?cc3 ?dd3 ?vv3 ?zz3 ?rest3
    (case hh3=>exact rfl)
    (case lk3=>k_is)
    (case cc3=>exact rfl)
    (case dd3=>exact rfl)
    (case vv3=>exact .cons ⟨_,rfl⟩ (.cons ⟨_,rfl⟩ (.cons ⟨_,rfl⟩ .nil)))
    (case zz3=>decide)
    refine' L2.kO.cons ?hh4 ?lk4 ?cc4 ?dd4 ?vv4 ?zz4 ?rest4
    (case hh4=>exact rfl)
    (case lk4=>k_is)
    (case cc4=>exact rfl)
    (case dd4=>exact rfl)
    (case vv4=>exact .cons ⟨_,rfl⟩ (.cons ⟨_,rfl⟩ (.cons ⟨_,rfl⟩ .nil)))
    (case zz4=>decide)
    refine' L2.kO.cons ?hh5 ?lk5 ?cc5 ?dd5 ?vv5 ?zz5 ?rest5
    (case hh5=>exact rfl)
    (case lk5=>k_is)
    (case cc5=>exact rfl)
    (case dd5=>exact rfl)
    (case vv5=>exact .cons ⟨_,rfl⟩ (.cons ⟨_,rfl⟩ (.cons ⟨_,rfl⟩ .nil)))
    (case zz5=>decide)
    refine' L2.kO.cons ?hh6 ?lk6 ?cc6 ?dd6 ?vv6 ?zz6 ?rest6
    (case hh6=>exact rfl)
    (case lk6=>k_is)
    (case cc6=>exact rfl)
    (case dd6=>exact rfl)
    (case vv6=>exact .cons ⟨_,rfl⟩ (.cons ⟨_,rfl⟩ (.cons ⟨_,rfl⟩ .nil)))
    (case zz6=>decide)
    refine' L2.kO.cons ?hh7 ?lk7 ?cc7 ?dd7 ?vv7 ?zz7 ?rest7
    (case hh7=>exact rfl)
    (case lk7=>k_is)
    (case cc7=>exact rfl)
    (case dd7=>exact rfl)
    (case vv7=>exact .cons ⟨_,rfl⟩ (.cons ⟨_,rfl⟩ (.cons ⟨_,rfl⟩ .nil)))
    (case zz7=>decide)
    refine' L2.kO.cons ?hh8 ?lk8 ?cc8 ?dd8 ?vv8 ?zz8 ?rest8
    (case hh8=>exact rfl)
    (case lk8=>k_is)
    (case cc8=>exact rfl)
    (case dd8=>exact rfl)
    (case vv8=>exact .cons ⟨_,rfl⟩ (.cons ⟨_,rfl⟩ (.cons ⟨_,rfl⟩ .nil)))
    (case zz8=>decide)
    refine' L2.kO.cons ?hh9 ?lk9 ?cc9 ?dd9 ?vv9 ?zz9 ?rest9
    (case hh9=>exact rfl)
    (case lk9=>k_is)
    (case cc9=>exact rfl)
    (case dd9=>exact rfl)
    (case vv9=>exact .cons ⟨_,rfl⟩ (.cons ⟨_,rfl⟩ (.cons ⟨_,rfl⟩ .nil)))
    (case zz9=>decide)
    refine' L2.kO.cons ?hh10 ?lk10 ?cc10 ?dd10 ?vv10 ?zz10 ?rest10
    (case hh10=>exact rfl)
    (case lk10=>k_is)
    (case cc10=>exact rfl)
    (case dd10=>exact rfl)
    (case vv10=>exact .cons ⟨_,rfl⟩ (.cons ⟨_,rfl⟩ (.cons ⟨_,rfl⟩ .nil)))
    (case zz10=>decide)
    exact .nil))
  (case q120 | q121 | q122 | q123 | q124 | q125 | q126 | q127 | q128 | q129 | q130=>refine' mg_none_of KX G ?_;k_is)
  (case q131 | q132 | q133 | q134 | q135 | q136 | q137 | q138=>refine' gC (mg_of KX G ?_) ?_ <;> (try k_is);all_goals exact⟨_,rfl⟩)
